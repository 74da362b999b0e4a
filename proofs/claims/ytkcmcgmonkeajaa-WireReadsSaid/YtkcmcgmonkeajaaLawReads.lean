/- The law: whatever is asked of a Reader is answered as the document says: the walk. -/
import Derived.Test.YtkcmcgmonkeajaaRefRd4
import Derived.Test.YtkcmcgmonkeajaaTakes
namespace Go.Proofs.Ytkcmcgmonkeajaa
open Go.RowKit

theorem w_seven (p : Nat) (w : World) (h : RdAt w p ⟨#[7]⟩ 0 0) :
    Calls Try.prog 21 #[.pointer (some ⟨p, 0, none⟩)] w fun e w' => e = .returned (.int .u64 7) ∧ But p w w' := by
  refine (Number_any p ⟨#[7]⟩ 0 0 w (by decide) h).mono ?_
  rintro e w' ⟨rfl, h1, h2⟩
  have e1 : ((if (0 : Int) = 0 then dV ((⟨#[7]⟩ : ByteArray).data.toList.drop 0) else 0 : Nat)) = 7 := by kernel_rfl
  exact ⟨by rw [e1]; rfl, h2⟩
theorem end_q {f : FuncId} {args : Array Value} {w : World} {E EN : Int} (h : E = EN) (hc : Calls Try.prog f args w fun e w' => e = .returned (.int .i64 E) ∧ ∃ q, w' = w.drewN q) : Calls Try.prog f args w fun e w' => e = .returned (.int .i64 EN) ∧ ∃ m, w' = w.drewN m := by rw [← h]; exact hc
theorem stA_le (E : Int) (b : ByteArray) (A K : Nat) (hA : A ≤ b.size) (hK : K ≤ (b.data.toList.drop A).length) : stA E A K ≤ b.size := by
  rw [List.length_drop, ← Lib.size_eq] at hK
  unfold stA; split <;> omega

set_option maxRecDepth 100000 in
set_option maxHeartbeats 16000000 in
theorem law_reads (b : ByteArray) (v : Value) (l : List (Nat × Int)) (w : World) (hb : b.size ≤ 9223372036854775807) (hl : TakesAt w v l) (hlm : l.length ≤ 9223372036854775807) (hlw : ∀ c ∈ l, c.1 < 256 ∧ -9223372036854775808 ≤ c.2 ∧ c.2 ≤ 9223372036854775807) :
    Calls Try.prog 4 #[.string b, v] w fun e w' => e = .returned (.bool true) ∧ Below w.heap.size w w' := by
  have HL := Lib.hid hl
  obtain ⟨aa, cap, rfl, _, _⟩ := hl
  by_cases h1 : 8192 < b.size
  · have hi1 : (8192 : Int) < (b.size : Int) := by omega
    go_enter Try.func4, Try.ntmps4
    go_wp2_with fail
    refine (works_any _).mono ?_
    rintro e w1 ⟨rfl, b1⟩
    go_wp2
    go_ret
    exact ⟨rfl, b1⟩
  have hi1 : ¬ (8192 : Int) < (b.size : Int) := by omega
  by_cases h2 : 200 < l.length
  · have hi2 : (200 : Int) < (l.length : Int) := by omega
    go_enter Try.func4, Try.ntmps4
    go_wp2_with fail
    refine (works_any _).mono ?_
    rintro e w1 ⟨rfl, b1⟩
    go_wp2
    go_ret
    exact ⟨rfl, b1⟩
  have hi2 : ¬ (200 : Int) < (l.length : Int) := by omega
  have hsz : b.size ≤ 1099511627776 := by omega
  go_enter Try.func4, Try.ntmps4
  go_wp2_with fail
  refine (works_any _).mono ?_
  rintro e w1 ⟨rfl, b1⟩
  have HL1 := Lib.hid (HL.out.below b1)
  go_wp2_with fail
  refine (Read_any b _).mono ?_
  rintro e w2 ⟨rfl, r2, k2⟩
  have hp := r2.lt
  have hb3 : Below w2.heap.size w2 (w2.alloc (.cells #[.string b, .int .i64 0, .int .i64 0] 43)) := (Below.refl _ _).alloc (Nat.le_refl _) _
  have R3 := Lib.hid (r2.below hb3)
  have X3 : Hid (RfAt (w2.alloc (.cells #[.string b, .int .i64 0, .int .i64 0] 43)) w2.heap.size b 0 0) := ⟨heap_alloc_new w2 _, Nat.zero_le _⟩
  have B3 := Lib.hid (bw k2 hb3)
  have hq := X3.out.lt
  clear r2 k2 hb3
  go_wp2_with fail
  generalize w2.alloc (.cells #[.string b, .int .i64 0, .int .i64 0] 43) = w3 at *
  refine (Read_any ⟨#[7]⟩ _).mono ?_
  rintro e w4 ⟨rfl, o4, k4⟩
  have R4 := Lib.hid (R3.out.below k4)
  have X4 := Lib.hid (X3.out.below k4)
  have O4 := Lib.hid o4
  have B4 := Lib.hid (bw B3.out k4)
  clear o4 k4 R3 X3 B3
  obtain ⟨p, hp1⟩ : ∃ p, p = w1.heap.size := ⟨_, rfl⟩
  generalize hpp : w1.heap.size = p at *
  generalize hqq : w2.heap.size = q at *
  generalize hoo : w3.heap.size = o at *
  have HPP := Lib.hid hpp
  clear hpp hqq hoo hp1
  go_wp2
  go_loopw [9] (fun i wr => ∃ (k A : Nat) (E : Int), k ≤ l.length ∧ i = .int .i64 k ∧ RdAt wr p b A E ∧ RfAt wr q b A E ∧ RdAt wr o ⟨#[7]⟩ 0 0 ∧ Below p w1 wr) (fun i _ => l.length - (intOf i).toNat)
  case atStart => exact ⟨0, 0, 0, Nat.zero_le _, rfl, R4.out, X4.out, O4.out, B4.out⟩
  case round =>
    obtain ⟨k, A, E, hk, rfl, hr, hx, ho, hc⟩ := hrel
    have R := Lib.hid hr
    have X := Lib.hid hx
    have O := Lib.hid ho
    have hA := hr.2
    clear hr hx ho
    by_cases hlt : k < l.length
    · obtain ⟨x, hx⟩ : ∃ x, l[k]? = some x := ⟨l[k], List.getElem?_eq_getElem hlt⟩
      obtain ⟨_, _, he, _, hcell⟩ := HL1.out
      simp only [Value.slice.injEq] at he
      obtain ⟨rfl, _, rfl⟩ := he
      obtain ⟨ba, offa, rfl, hba, hca⟩ := hcell.resolve_left (by omega)
      have hwx := hlw x (List.mem_of_getElem? hx)
      have hx1 := (hca k x hx).1
      have hx2 := (hca k x hx).2
      have cl0 : wr.cell? ⟨ba, offa + k * 2, none⟩ = some (.int .u8 x.1) := (hc.cell (p := ⟨ba, _, none⟩) (by have := HPP.out; simp; omega)).trans hx1
      have cl1 : wr.cell? ⟨ba, offa + k * 2 + 1, none⟩ = some (.int .i64 x.2) := (hc.cell (p := ⟨ba, _, none⟩) (by have := HPP.out; simp; omega)).trans hx2
      have HX2 := Lib.hid hx2
      obtain ⟨hw0, hw1, hw2⟩ := hwx
      have hps : p ≤ wr.heap.size := by have := hc.size; have := HPP.out; omega
      have hbap : ba < p := by have := HPP.out; omega
      have hqlt : q < wr.drew.heap.size := X.out.lt
      clear hca hx hcell hx1 hx2
      generalize x.2 = z at *
      generalize x.1 = K at *
      obtain ⟨m, hm, hm5⟩ : ∃ m : Nat, (K : Int) % 5 = (m : Int) ∧ m < 5 := ⟨K % 5, by omega, by omega⟩
      rcases (by omega : m = 0 ∨ m = 1 ∨ m = 2 ∨ m = 3 ∨ m = 4) with rfl | rfl | rfl | rfl | rfl
      · have hN1 := Number_any p b A E wr hsz R.out
        generalize hAA : stA E A (dK (b.data.toList.drop A)) = A2 at *
        generalize hEE : stE E (dE (b.data.toList.drop A)) = E2 at *
        generalize hVV : (if E = 0 then dV (b.data.toList.drop A) else 0 : Nat) = V at *
        have HAA := Lib.hid hAA
        have HEE := Lib.hid hEE
        have HVV := Lib.hid hVV
        clear hAA hEE hVV
        go_wp2_with fail
        refine hN1.mono ?_
        rintro e w5 ⟨rfl, r5, k5⟩
        have R5 := Lib.hid r5
        have X5 := Lib.hid (X.out.kept k5 (by omega))
        have O5 := Lib.hid (O.out.kept k5 (by omega))
        have C5 := Lib.hid (hc.trans (k5.below (B := p) (by omega) hps))
        have hs5 := k5.size
        clear r5 k5 hN1
        have hN2 := refNumber_any q b A E w5 hsz X5.out
        rw [HAA.out, HEE.out, HVV.out] at hN2
        go_wp2_with fail
        refine hN2.mono ?_
        rintro e w6 ⟨rfl, r6, k6⟩
        have X2 := Lib.hid r6
        have R2 := Lib.hid (R5.out.kept k6 (by omega))
        have O2 := Lib.hid (O5.out.kept k6 (by omega))
        have C2 := Lib.hid (C5.out.trans (k6.below (B := p) (by omega) (by omega)))
        clear r6 k6 hN2 R5 X5 O5 C5
        have hne1 : ((A2 : Int) != (A2 : Int)) = false := by simp
        have hne2 : (E2 != E2) = false := by simp
        have x1 := X2.out.c1
        have x2 := X2.out.c2
        generalize hEN : endE b A2 E2 = EN
        have hne3 : (EN != EN) = false := by simp
        have HEN := Lib.hid hEN
        clear hEN
        go_wp2
        go_quiet (first
          | (go_at_call 32; exact Calls.quiet_of_same ((At_any _ _ _ _ _ (R2.out.drewN _)).mono (fun _ _ hh => ⟨hh.1, hh.2.symm⟩)))
          | (go_at_call 33; exact Calls.quiet_of_same ((Err_any _ _ _ _ _ (R2.out.drewN _)).mono (fun _ _ hh => ⟨hh.1, hh.2.symm⟩)))
          | (go_at_call 34; exact Calls.quiet_of (end_q HEN.out (End_any _ _ _ _ _ (R2.out.drewN _))))
          | (go_at_call 35; exact Calls.quiet_of (end_q HEN.out (refEnd_any _ _ _ _ _ (X2.out.drewN _)))))
        go_wp2
        go_roundw
        case rel => exact ⟨k + 1, A2, E2, by omega, by go_num, R2.out.drewN _, X2.out.drewN _, O2.out.drewN _, below_drewN C2.out _⟩
        case measure => simp [intOf]; omega
      · have hN1 := Int_any p b A E wr hsz R.out
        generalize hAA : stA E A (dK (b.data.toList.drop A)) = A2 at *
        generalize hEE : stE E (dE (b.data.toList.drop A)) = E2 at *
        generalize hVV : (if E = 0 then Lib.unzigzag (dV (b.data.toList.drop A)) else 0) = V at *
        have HAA := Lib.hid hAA
        have HEE := Lib.hid hEE
        have HVV := Lib.hid hVV
        clear hAA hEE hVV
        go_wp2_with fail
        refine hN1.mono ?_
        rintro e w5 ⟨rfl, r5, k5⟩
        have R5 := Lib.hid r5
        have X5 := Lib.hid (X.out.kept k5 (by omega))
        have O5 := Lib.hid (O.out.kept k5 (by omega))
        have C5 := Lib.hid (hc.trans (k5.below (B := p) (by omega) hps))
        have hs5 := k5.size
        clear r5 k5 hN1
        have hN2 := refInt_any q b A E w5 hsz X5.out
        rw [HAA.out, HEE.out, HVV.out] at hN2
        go_wp2_with fail
        refine hN2.mono ?_
        rintro e w6 ⟨rfl, r6, k6⟩
        have X2 := Lib.hid r6
        have R2 := Lib.hid (R5.out.kept k6 (by omega))
        have O2 := Lib.hid (O5.out.kept k6 (by omega))
        have C2 := Lib.hid (C5.out.trans (k6.below (B := p) (by omega) (by omega)))
        clear r6 k6 hN2 R5 X5 O5 C5
        have hne1 : ((A2 : Int) != (A2 : Int)) = false := by simp
        have hne2 : (E2 != E2) = false := by simp
        have x1 := X2.out.c1
        have x2 := X2.out.c2
        generalize hEN : endE b A2 E2 = EN
        have hne3 : (EN != EN) = false := by simp
        have HEN := Lib.hid hEN
        clear hEN
        go_wp2
        go_quiet (first
          | (go_at_call 32; exact Calls.quiet_of_same ((At_any _ _ _ _ _ (R2.out.drewN _)).mono (fun _ _ hh => ⟨hh.1, hh.2.symm⟩)))
          | (go_at_call 33; exact Calls.quiet_of_same ((Err_any _ _ _ _ _ (R2.out.drewN _)).mono (fun _ _ hh => ⟨hh.1, hh.2.symm⟩)))
          | (go_at_call 34; exact Calls.quiet_of (end_q HEN.out (End_any _ _ _ _ _ (R2.out.drewN _))))
          | (go_at_call 35; exact Calls.quiet_of (end_q HEN.out (refEnd_any _ _ _ _ _ (X2.out.drewN _)))))
        go_wp2
        go_roundw
        case rel => exact ⟨k + 1, A2, E2, by omega, by go_num, R2.out.drewN _, X2.out.drewN _, O2.out.drewN _, below_drewN C2.out _⟩
        case measure => simp [intOf]; omega
      · have hN1 := fun w' (h : RdAt w' p b A E) => Below_any p b A E z w' hsz hw1 hw2 h
        have hN2 := fun w' (h : RfAt w' q b A E) => refBelow_any q b A E z w' hsz hw1 hw2 h
        generalize hAA : stA E A (uK (b.data.toList.drop A) (max z 0 - 1)) = A2 at *
        generalize hEE : stE E (uE (b.data.toList.drop A) (max z 0 - 1)) = E2 at *
        generalize hVV : (if E = 0 then uV (b.data.toList.drop A) (max z 0 - 1) else 0 : Nat) = V at *
        clear hAA hEE hVV
        go_wp2
        go_region_held3 (fun w' => w'.cell? ⟨ba, offa + k * 2 + 1, none⟩ = some (.int .i64 z))
          (first
            | exact cl1
            | (simpa using cl1)
            | exact cl5
            | exact cl6)
          (first
            | (go_at_call 25; refine (hN1 _ (show RdAt wr.drew p b A E from R.out.drewN 1)).mono ?_; rintro e w5 ⟨rfl, r5, k5⟩; have R5 := Lib.hid r5; have K5 : Hid (But p wr w5) := But.trans (show But p wr wr.drew from (But.refl p wr).drewN 1) k5; have X5 := Lib.hid (X.out.kept K5.out (by omega)); have O5 := Lib.hid (O.out.kept K5.out (by omega)); have C5 := Lib.hid (hc.trans (K5.out.below (B := p) (by omega) hps)); have hs5 := K5.out.size; have cl5 : w5.cell? ⟨ba, offa + k * 2 + 1, none⟩ = some (.int .i64 z) := (C5.out.cell (p := ⟨ba, _, none⟩) hbap).trans HX2.out; clear r5 k5)
            | (go_at_call 26; refine (hN2 _ X5.out).mono ?_; rintro e w6 ⟨rfl, r6, k6⟩; have X2 := Lib.hid r6; have R2 := Lib.hid (R5.out.kept k6 (by omega)); have O2 := Lib.hid (O5.out.kept k6 (by omega)); have C2 := Lib.hid (C5.out.trans (k6.below (B := p) (by omega) (by omega))); have cl6 : w6.cell? ⟨ba, offa + k * 2 + 1, none⟩ = some (.int .i64 z) := (C2.out.cell (p := ⟨ba, _, none⟩) hbap).trans HX2.out; clear r6 k6))
        have hne1 : ((A2 : Int) != (A2 : Int)) = false := by simp
        have hne2 : (E2 != E2) = false := by simp
        have x1 := X2.out.c1
        have x2 := X2.out.c2
        generalize hEN : endE b A2 E2 = EN
        have hne3 : (EN != EN) = false := by simp
        have HEN := Lib.hid hEN
        clear hEN
        go_wp2
        go_quiet (first
          | (go_at_call 32; exact Calls.quiet_of_same ((At_any _ _ _ _ _ (R2.out.drewN _)).mono (fun _ _ hh => ⟨hh.1, hh.2.symm⟩)))
          | (go_at_call 33; exact Calls.quiet_of_same ((Err_any _ _ _ _ _ (R2.out.drewN _)).mono (fun _ _ hh => ⟨hh.1, hh.2.symm⟩)))
          | (go_at_call 34; exact Calls.quiet_of (end_q HEN.out (End_any _ _ _ _ _ (R2.out.drewN _))))
          | (go_at_call 35; exact Calls.quiet_of (end_q HEN.out (refEnd_any _ _ _ _ _ (X2.out.drewN _)))))
        go_wp2
        go_roundw
        case rel => exact ⟨k + 1, A2, E2, by omega, by go_num, R2.out.drewN _, X2.out.drewN _, O2.out.drewN _, below_drewN C2.out _⟩
        case measure => simp [intOf]; omega
      · have hN1 := fun w' (h : RdAt w' p b A E) => Text_any p b A E z w' hsz hw1 hw2 h
        have hN2 := fun w' (h : RfAt w' q b A E) => refText_any q b A E z w' hsz hw1 hw2 h
        generalize hAA : stA E A (tK (b.data.toList.drop A) z) = A2 at *
        generalize hEE : stE E (tE (b.data.toList.drop A) z) = E2 at *
        generalize hVV : (if E = 0 then tV (b.data.toList.drop A) z else ⟨#[]⟩) = V at *
        clear hAA hEE hVV
        go_wp2
        go_region_held3 (fun w' => w'.cell? ⟨ba, offa + k * 2 + 1, none⟩ = some (.int .i64 z))
          (first
            | exact cl1
            | (simpa using cl1)
            | exact cl5
            | exact cl6)
          (first
            | (go_at_call 27; refine (hN1 _ (show RdAt wr.drew p b A E from R.out.drewN 1)).mono ?_; rintro e w5 ⟨rfl, r5, k5⟩; have R5 := Lib.hid r5; have K5 : Hid (But p wr w5) := But.trans (show But p wr wr.drew from (But.refl p wr).drewN 1) k5; have X5 := Lib.hid (X.out.kept K5.out (by omega)); have O5 := Lib.hid (O.out.kept K5.out (by omega)); have C5 := Lib.hid (hc.trans (K5.out.below (B := p) (by omega) hps)); have hs5 := K5.out.size; have cl5 : w5.cell? ⟨ba, offa + k * 2 + 1, none⟩ = some (.int .i64 z) := (C5.out.cell (p := ⟨ba, _, none⟩) hbap).trans HX2.out; clear r5 k5)
            | (go_at_call 28; refine (hN2 _ X5.out).mono ?_; rintro e w6 ⟨rfl, r6, k6⟩; have X2 := Lib.hid r6; have R2 := Lib.hid (R5.out.kept k6 (by omega)); have O2 := Lib.hid (O5.out.kept k6 (by omega)); have C2 := Lib.hid (C5.out.trans (k6.below (B := p) (by omega) (by omega))); have cl6 : w6.cell? ⟨ba, offa + k * 2 + 1, none⟩ = some (.int .i64 z) := (C2.out.cell (p := ⟨ba, _, none⟩) hbap).trans HX2.out; clear r6 k6))
        have hne1 : ((A2 : Int) != (A2 : Int)) = false := by simp
        have hne2 : (E2 != E2) = false := by simp
        have x1 := X2.out.c1
        have x2 := X2.out.c2
        generalize hEN : endE b A2 E2 = EN
        have hne3 : (EN != EN) = false := by simp
        have HEN := Lib.hid hEN
        clear hEN
        go_wp2
        go_quiet (first
          | (go_at_call 32; exact Calls.quiet_of_same ((At_any _ _ _ _ _ (R2.out.drewN _)).mono (fun _ _ hh => ⟨hh.1, hh.2.symm⟩)))
          | (go_at_call 33; exact Calls.quiet_of_same ((Err_any _ _ _ _ _ (R2.out.drewN _)).mono (fun _ _ hh => ⟨hh.1, hh.2.symm⟩)))
          | (go_at_call 34; exact Calls.quiet_of (end_q HEN.out (End_any _ _ _ _ _ (R2.out.drewN _))))
          | (go_at_call 35; exact Calls.quiet_of (end_q HEN.out (refEnd_any _ _ _ _ _ (X2.out.drewN _)))))
        go_wp2
        go_roundw
        case rel => exact ⟨k + 1, A2, E2, by omega, by go_num, R2.out.drewN _, X2.out.drewN _, O2.out.drewN _, below_drewN C2.out _⟩
        case measure => simp [intOf]; omega
      · have hN1 := fun w' (h : RdAt w' p b A E) => Ints_any p b A E z w' hsz hw1 hw2 h
        have hN2 := fun w' (h : RfAt w' q b A E) => refInts_any q b A E z w' hsz hw1 hw2 h
        have hVl : (if E = 0 then lV (b.data.toList.drop A) z else []).length ≤ 1099511627776 := by
          have h1 := lV_len (b.data.toList.drop A) z
          rw [List.length_drop, ← Lib.size_eq] at h1
          split
          · omega
          · simp
        generalize hAA : stA E A (lK (b.data.toList.drop A) z) = A2 at *
        generalize hEE : stE E (lE (b.data.toList.drop A) z) = E2 at *
        generalize hVV : (if E = 0 then lV (b.data.toList.drop A) z else []) = V at *
        clear hAA hEE hVV
        go_wp2
        go_region_held3 (fun w' => w'.cell? ⟨ba, offa + k * 2 + 1, none⟩ = some (.int .i64 z))
          (first
            | exact cl1
            | (simpa using cl1)
            | exact cl5
            | exact cl6
            | exact cl7)
          (first
            | (go_at_call 30; refine (hN1 _ (show RdAt wr.drew p b A E from R.out.drewN 1)).mono ?_; rintro e w5 ⟨⟨v5, rfl, hv5⟩, r5, k5⟩; have HV5 := Lib.hid hv5; obtain ⟨_, a5, c5, rfl, _⟩ := hv5; have R5 := Lib.hid r5; have K5 : Hid (But p wr w5) := But.trans (show But p wr wr.drew from (But.refl p wr).drewN 1) k5; have X5 := Lib.hid (X.out.kept K5.out (by omega)); have O5 := Lib.hid (O.out.kept K5.out (by omega)); have C5 := Lib.hid (hc.trans (K5.out.below (B := p) (by omega) hps)); have hs5 := K5.out.size; have cl5 : w5.cell? ⟨ba, offa + k * 2 + 1, none⟩ = some (.int .i64 z) := (C5.out.cell (p := ⟨ba, _, none⟩) hbap).trans HX2.out; clear r5 k5)
            | (go_at_call 31; refine (hN2 _ X5.out).mono ?_; rintro e w6 ⟨⟨v6, rfl, hv6⟩, r6, k6⟩; have HV6 := Lib.hid hv6.at_; obtain ⟨_, a6, c6, rfl, _⟩ := hv6; have HW5 := Lib.hid (ListNew.at_ (HV5.out.but k6 hqlt)); have X6 := Lib.hid r6; have R6 := Lib.hid (R5.out.kept k6 (by omega)); have O6 := Lib.hid (O5.out.kept k6 (by omega)); have C6 := Lib.hid (C5.out.trans (k6.below (B := p) (by omega) (by omega))); have cl6 : w6.cell? ⟨ba, offa + k * 2 + 1, none⟩ = some (.int .i64 z) := (C6.out.cell (p := ⟨ba, _, none⟩) hbap).trans HX2.out; clear r6 k6)
            | (go_at_call 29; refine (same_true _ _ V _ HW5.out HV6.out hVl).mono ?_; rintro e w7 ⟨rfl, h7⟩; have X2 := Lib.hid (X6.out.below h7); have R2 := Lib.hid (R6.out.below h7); have O2 := Lib.hid (O6.out.below h7); have C2 := Lib.hid (C6.out.trans (h7.mono (by have := C6.out.size; have := HPP.out; omega))); have cl7 : w7.cell? ⟨ba, offa + k * 2 + 1, none⟩ = some (.int .i64 z) := (C2.out.cell (p := ⟨ba, _, none⟩) hbap).trans HX2.out; clear h7))
        have hne1 : ((A2 : Int) != (A2 : Int)) = false := by simp
        have hne2 : (E2 != E2) = false := by simp
        have x1 := X2.out.c1
        have x2 := X2.out.c2
        generalize hEN : endE b A2 E2 = EN
        have hne3 : (EN != EN) = false := by simp
        have HEN := Lib.hid hEN
        clear hEN
        go_wp2
        go_quiet (first
          | (go_at_call 32; exact Calls.quiet_of_same ((At_any _ _ _ _ _ (R2.out.drewN _)).mono (fun _ _ hh => ⟨hh.1, hh.2.symm⟩)))
          | (go_at_call 33; exact Calls.quiet_of_same ((Err_any _ _ _ _ _ (R2.out.drewN _)).mono (fun _ _ hh => ⟨hh.1, hh.2.symm⟩)))
          | (go_at_call 34; exact Calls.quiet_of (end_q HEN.out (End_any _ _ _ _ _ (R2.out.drewN _))))
          | (go_at_call 35; exact Calls.quiet_of (end_q HEN.out (refEnd_any _ _ _ _ _ (X2.out.drewN _)))))
        go_wp2
        go_roundw
        case rel => exact ⟨k + 1, A2, E2, by omega, by go_num, R2.out.drewN _, X2.out.drewN _, O2.out.drewN _, below_drewN C2.out _⟩
        case measure => simp [intOf]; omega
    · go_wp2_with fail
      refine (w_seven _ _ O.out).mono ?_
      rintro e w5 ⟨rfl, k5⟩
      have b5 := Below.trans hc (k5.below (B := p) (by omega) (by have := hc.size; have := HPP.out; omega))
      have b6 := b1.trans (b5.mono (by have := b1.size; have := HPP.out; omega))
      go_wp2
      go_ret
      exact ⟨ret_bool (by first | rfl | simp), b6⟩
end Go.Proofs.Ytkcmcgmonkeajaa
