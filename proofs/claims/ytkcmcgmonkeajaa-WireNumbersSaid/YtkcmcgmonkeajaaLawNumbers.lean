/- The law: numbers, integers, texts, lists are written as the document says: the walk. -/
import Derived.Test.YtkcmcgmonkeajaaRefPut
import Derived.Test.YtkcmcgmonkeajaaLawSizes
import Derived.Deep.RegionHeld3
namespace Go.Proofs.Ytkcmcgmonkeajaa
open Go.RowKit

theorem withB_snoc {α : Type} (f : α → List UInt8) (b R : ByteArray) (l : List α) (k : Nat) (x : α) (hR : R = withB b ((l.take k).flatMap f)) (hx : l[k]? = some x) : withB R (f x) = withB b ((l.take (k + 1)).flatMap f) := by
  rw [hR, withB_with, take_snocA l k x hx]; simp
theorem withB_zero {α : Type} (f : α → List UInt8) (b : ByteArray) (l : List α) : b = withB b ((l.take 0).flatMap f) := by simp [withB_nil]

set_option maxRecDepth 100000 in
set_option maxHeartbeats 16000000 in
theorem law_numbers (b : ByteArray) (v1 : Value) (l : List Nat) (v2 : Value) (k : List Int) (v3 : Value) (t : List ByteArray) (v4 : Value) (i : List Int) (w : World) (hb : b.size ≤ 9223372036854775807)
    (hl : ListAt w v1 l.length (cellsOf u64C l)) (hlm : l.length ≤ 9223372036854775807) (hlw : ∀ c ∈ l, c < 18446744073709551616)
    (hk : ListAt w v2 k.length (cellsOf intC k)) (hkm : k.length ≤ 9223372036854775807) (hkw : ∀ c ∈ k, -9223372036854775808 ≤ c ∧ c ≤ 9223372036854775807)
    (ht : ListAt w v3 t.length (cellsOf strC t)) (htm : t.length ≤ 9223372036854775807) (htw : ∀ c ∈ t, c.size ≤ 9223372036854775807)
    (hi : ListAt w v4 i.length (cellsOf intC i)) (him : i.length ≤ 9223372036854775807) (hiw : ∀ c ∈ i, -9223372036854775808 ≤ c ∧ c ≤ 9223372036854775807) :
    Calls Try.prog 3 #[.string b, v1, v2, v3, v4] w fun e w' => e = .returned (.bool true) ∧ Below w.heap.size w w' := by
  have HL := Lib.hid hl
  have HK := Lib.hid hk
  have HT := Lib.hid ht
  have HI := Lib.hid hi
  obtain ⟨_, a1, c1, rfl, _, _⟩ := hl
  obtain ⟨_, a2, c2, rfl, _, _⟩ := hk
  obtain ⟨_, a3, c3, rfl, _, _⟩ := ht
  obtain ⟨_, a4, c4, rfl, _, _⟩ := hi
  by_cases hc : 8192 < b.size ∨ 100 < l.length ∨ 100 < k.length ∨ 20 < t.length ∨ 100 < i.length
  · by_cases h1 : 8192 < b.size
    · have hi1 : (8192 : Int) < (b.size : Int) := by omega
      go_enter Try.func3, Try.ntmps3
      go_wp2_with fail
      refine (works_any _).mono ?_
      rintro e w1 ⟨rfl, b1⟩
      go_wp2
      go_ret
      exact ⟨rfl, b1⟩
    have hi1 : ¬ (8192 : Int) < (b.size : Int) := by omega
    by_cases h2 : 100 < l.length
    · have hi2 : (100 : Int) < (l.length : Int) := by omega
      go_enter Try.func3, Try.ntmps3
      go_wp2_with fail
      refine (works_any _).mono ?_
      rintro e w1 ⟨rfl, b1⟩
      go_wp2
      go_ret
      exact ⟨rfl, b1⟩
    have hi2 : ¬ (100 : Int) < (l.length : Int) := by omega
    by_cases h3 : 100 < k.length
    · have hi3 : (100 : Int) < (k.length : Int) := by omega
      go_enter Try.func3, Try.ntmps3
      go_wp2_with fail
      refine (works_any _).mono ?_
      rintro e w1 ⟨rfl, b1⟩
      go_wp2
      go_ret
      exact ⟨rfl, b1⟩
    have hi3 : ¬ (100 : Int) < (k.length : Int) := by omega
    by_cases h4 : 20 < t.length
    · have hi4 : (20 : Int) < (t.length : Int) := by omega
      go_enter Try.func3, Try.ntmps3
      go_wp2_with fail
      refine (works_any _).mono ?_
      rintro e w1 ⟨rfl, b1⟩
      go_wp2
      go_ret
      exact ⟨rfl, b1⟩
    have hi4 : ¬ (20 : Int) < (t.length : Int) := by omega
    have hi5 : (100 : Int) < (i.length : Int) := by omega
    go_enter Try.func3, Try.ntmps3
    go_wp2_with fail
    refine (works_any _).mono ?_
    rintro e w1 ⟨rfl, b1⟩
    go_wp2
    go_ret
    exact ⟨rfl, b1⟩
  have hi1 : ¬ (8192 : Int) < (b.size : Int) := by omega
  have hi2 : ¬ (100 : Int) < (l.length : Int) := by omega
  have hi3 : ¬ (100 : Int) < (k.length : Int) := by omega
  have hi4 : ¬ (20 : Int) < (t.length : Int) := by omega
  have hi5 : ¬ (100 : Int) < (i.length : Int) := by omega
  have F1 := flat_le Lib.uvarint 10 l (fun x hx => Lib.uvarint_length64 (hlw x hx))
  have F2 := flat_le numI 10 k (fun x hx => numI_len x (hkw x hx).1 (hkw x hx).2)
  clear hc
  go_enter Try.func3, Try.ntmps3
  go_wp2_with fail
  refine (works_any _).mono ?_
  rintro e w1 ⟨rfl, b1⟩
  have HL1 := Lib.hid (HL.out.below b1)
  have HK1 := Lib.hid (HK.out.below b1)
  have HT1 := Lib.hid (HT.out.below b1)
  have HI1 := Lib.hid (HI.out.below b1)
  clear HL HK HT HI
  go_wp2
  go_loopw [12, 13] (fun vb ix wr => ∃ (j : Nat) (R : ByteArray), j ≤ l.length ∧ ix = .int .i64 j ∧ vb = .string R ∧ R = withB b ((l.take j).flatMap Lib.uvarint) ∧ Below w1.heap.size w1 wr) (fun _ ix _ => l.length - (intOf ix).toNat)
  case atStart => exact ⟨0, b, Nat.zero_le _, rfl, rfl, withB_zero _ _ _, Below.refl _ _⟩
  case round =>
    obtain ⟨j, R, hj, rfl, rfl, hR, hbel⟩ := hrel
    have hft := flat_take Lib.uvarint l j
    have hRs : R.size ≤ 1099511627776 := by rw [hR, withB_size]; omega
    have HR := Lib.hid hR
    clear hR
    by_cases hlt : j < l.length
    · obtain ⟨_, _, _, he, _, hcell⟩ := HL1.out
      simp only [Value.slice.injEq] at he
      obtain ⟨rfl, _, rfl⟩ := he
      obtain ⟨ba, offa, rfl, hba, hca⟩ := hcell.resolve_left (by omega)
      obtain ⟨x, hx⟩ : ∃ x, l[j]? = some x := ⟨l[j], List.getElem?_eq_getElem hlt⟩
      have cc0 := ListAt.get hca hx
      have cl := (hbel.cell (p := ⟨ba, offa + j, none⟩) hba).trans cc0
      have HC0 := Lib.hid cc0
      have hwx := hlw x (List.mem_of_getElem? hx)
      have HTT := Lib.hid (withB_snoc Lib.uvarint b R l j x HR.out hx)
      have hP := refPut_any R x wr hwx hRs
      obtain ⟨R2, hR2⟩ : ∃ R2, R2 = withB R (Lib.uvarint x) := ⟨_, rfl⟩
      rw [← hR2] at hP HTT
      have hZ := fun w' => size_any x w' hwx
      have hQ := fun w' => refPut_any ⟨#[]⟩ x w' hwx (by decide)
      obtain ⟨U, hU⟩ : ∃ U, U = withB ⟨#[]⟩ (Lib.uvarint x) := ⟨_, rfl⟩
      have hUs : U.size = (Lib.uvarint x).length := by rw [hU, withB_len0]
      rw [← hU] at hQ
      rw [← hUs] at hZ
      clear hca hx hR2 cc0 hcell hU hUs
      go_wp2_with fail
      refine hP.mono ?_
      rintro e w2 ⟨rfl, h2⟩
      have h3 := bw hbel h2
      have cl2 : w2.cell? ⟨ba, offa + j, none⟩ = some (.int .u64 x) := (h3.cell (p := ⟨ba, _, none⟩) hba).trans HC0.out
      clear h2 hbel cl hP
      have B3 := Lib.hid h3
      clear h3
      go_wp2_with fail
      go_region_held3 (fun w' => w'.cell? ⟨ba, offa + j, none⟩ = some (.int .u64 x))
        (first
          | exact cl2
          | (simpa using cl2)
          | exact cl3)
        (first
          | (go_at_call 12; refine (hZ _).mono ?_; rintro e w3 ⟨rfl, rfl⟩)
          | (go_at_call 11; refine (hQ _).mono ?_; rintro e w3 ⟨rfl, h3⟩; have B4 : Hid (Below w1.heap.size w1 w3) := bw (show Below w1.heap.size w1 w2.drew from below_drewN B3.out 1) h3; have cl3 : w3.cell? ⟨ba, offa + j, none⟩ = some (.int .u64 x) := (B4.out.cell (p := ⟨ba, _, none⟩) hba).trans HC0.out; clear h3))
      go_wp2
      go_roundw
      case rel => exact ⟨j + 1, R2, by omega, by go_num, rfl, HTT.out, B4.out⟩
      case measure => simp [intOf]; omega
    · have E1 : Hid (R = withB b (l.flatMap Lib.uvarint)) := by
        show _ = _
        rw [HR.out, List.take_of_length_le (by omega)]
      have Z1 := hRs
      have B0 := Lib.hid b1
      have K1 := Lib.hid hbel
      clear HR hft b1 hbel
      go_wp2
      go_loopw [14, 15] (fun vb ix wr2 => ∃ (j : Nat) (R : ByteArray), j ≤ k.length ∧ ix = .int .i64 j ∧ vb = .string R ∧ R = withB b ((k.take j).flatMap numI) ∧ Below w1.heap.size w1 wr2) (fun _ ix _ => k.length - (intOf ix).toNat)
      case atStart => exact ⟨0, b, Nat.zero_le _, rfl, rfl, withB_zero _ _ _, K1.out⟩
      case round =>
        obtain ⟨j, S, hj, rfl, rfl, hS, hbel⟩ := hrel
        have hft := flat_take numI k j
        have hRs : S.size ≤ 1099511627776 := by rw [hS, withB_size]; omega
        have HR := Lib.hid hS
        clear hS
        by_cases hlt : j < k.length
        · obtain ⟨_, _, _, he, _, hcell⟩ := HK1.out
          simp only [Value.slice.injEq] at he
          obtain ⟨rfl, _, rfl⟩ := he
          obtain ⟨ba, offa, rfl, hba, hca⟩ := hcell.resolve_left (by omega)
          obtain ⟨x, hx⟩ : ∃ x, k[j]? = some x := ⟨k[j], List.getElem?_eq_getElem hlt⟩
          have cl := (hbel.cell (p := ⟨ba, offa + j, none⟩) hba).trans (ListAt.get hca hx)
          have hwx := hkw x (List.mem_of_getElem? hx)
          have HTT := Lib.hid (withB_snoc numI b S k j x HR.out hx)
          have hP := refPutInt_any S x wr hwx hRs
          obtain ⟨R2, hR2⟩ : ∃ R2, R2 = withB S (numI x) := ⟨_, rfl⟩
          rw [← hR2] at hP HTT
          clear hca hx hR2 hcell
          go_wp2_with fail
          refine hP.mono ?_
          rintro e w2 ⟨rfl, h2⟩
          have h3 := Lib.hid (bw hbel h2)
          clear h2 hbel
          go_wp2
          go_roundw
          case rel => exact ⟨j + 1, R2, by omega, by go_num, rfl, HTT.out, h3.out⟩
          case measure => simp [intOf]; omega
        · have E2 : Hid (S = withB b (k.flatMap numI)) := by
            show _ = _
            rw [HR.out, List.take_of_length_le (by omega)]
          have Z2 := hRs
          have K2 := Lib.hid hbel
          clear HR hft hbel K1
          go_wp2
          go_loopw [16, 17] (fun vb ix wr3 => ∃ (j : Nat) (R : ByteArray), j ≤ t.length ∧ ix = .int .i64 j ∧ vb = .string R ∧ R = withB b ((t.take j).flatMap numT) ∧ (∀ c ∈ t.take j, c.size ≤ 8192) ∧ Below w1.heap.size w1 wr3) (fun _ ix _ => t.length - (intOf ix).toNat)
          case atStart => exact ⟨0, b, Nat.zero_le _, rfl, rfl, withB_zero _ _ _, by simp, K2.out⟩
          case round =>
            obtain ⟨j, T, hj, rfl, rfl, hT, hsm, hbel⟩ := hrel
            have F3 := flat_le numT 8202 (t.take j) (fun x hx => by
              have h1 := hsm x hx
              have h2 := Lib.uvarint_length64 (x := x.size) (by omega)
              have h3 := Lib.size_eq x
              unfold numT; rw [List.length_append]; omega)
            have hRs : T.size ≤ 1073741824 := by rw [hT, withB_size]; have := List.length_take_le j t; omega
            have HR := Lib.hid hT
            have HSM := Lib.hid hsm
            clear hT hsm F3
            by_cases hlt : j < t.length
            · obtain ⟨_, _, _, he, _, hcell⟩ := HT1.out
              simp only [Value.slice.injEq] at he
              obtain ⟨rfl, _, rfl⟩ := he
              obtain ⟨ba, offa, rfl, hba, hca⟩ := hcell.resolve_left (by omega)
              obtain ⟨x, hx⟩ : ∃ x, t[j]? = some x := ⟨t[j], List.getElem?_eq_getElem hlt⟩
              have cl := (hbel.cell (p := ⟨ba, offa + j, none⟩) hba).trans (ListAt.get hca hx)
              have hwx := htw x (List.mem_of_getElem? hx)
              have HTT := Lib.hid (withB_snoc numT b T t j x HR.out hx)
              have HTK := Lib.hid (take_snocA t j x hx)
              obtain ⟨R2, hR2⟩ : ∃ R2, R2 = withB T (numT x) := ⟨_, rfl⟩
              rw [← hR2] at HTT
              have HR2 := Lib.hid hR2
              clear hca hx hR2 hcell
              by_cases hxs : 8192 < x.size
              · have hxi : (8192 : Int) < (x.size : Int) := by omega
                go_wp2
                go_ret
                exact ⟨rfl, bw B0.out hbel⟩
              · have hxi : ¬ (8192 : Int) < (x.size : Int) := by omega
                have hP := refPutText_any T x wr (by omega) hRs
                rw [← HR2.out] at hP
                go_wp2_with fail
                refine hP.mono ?_
                rintro e w2 ⟨rfl, h2⟩
                have h3 := Lib.hid (bw hbel h2)
                clear h2 hbel
                go_wp2
                go_roundw
                case rel => exact ⟨j + 1, R2, by omega, by go_num, rfl, HTT.out, by
                  rw [HTK.out]
                  intro c hc
                  rcases List.mem_append.1 hc with hc | hc
                  · exact HSM.out c hc
                  · rw [List.mem_singleton.1 hc]; omega, h3.out⟩
                case measure => simp [intOf]; omega
            · have E3 : Hid (T = withB b (t.flatMap numT)) := by
                show _ = _
                rw [HR.out, List.take_of_length_le (by omega)]
              have hts : ∀ c ∈ t, c.size ≤ 1048576 := fun c hc => by
                have := HSM.out c (by rw [List.take_of_length_le (by omega)]; exact hc)
                omega
              have HTS := Lib.hid hts
              have hB9 := Lib.hid hbel
              have hbz : b.size ≤ 1073741824 := by omega
              have hbz2 : b.size ≤ 1099511627776 := by omega
              have P1 := fun w' (h : Below w1.heap.size w1 w') => Put_any b _ l w' (HL1.out.below h) hbz2 (by omega) hlw
              have P2 := fun w' (h : Below w1.heap.size w1 w') => PutInt_any b _ k w' (HK1.out.below h) hbz2 (by omega) hkw
              have P3 := fun w' (h : Below w1.heap.size w1 w') => PutText_any b _ t w' (HT1.out.below h) hbz2 (by omega) HTS.out
              have P4 := fun w' (h : Below w1.heap.size w1 w') => PutInts_any b _ i w' (HI1.out.below h) hbz (by omega) hiw
              have P5 := fun w' (h : Below w1.heap.size w1 w') => refPutInts_any b _ i w' (HI1.out.below h) hbz (by omega) hiw
              rw [← E1.out] at P1
              rw [← E2.out] at P2
              rw [← E3.out] at P3
              obtain ⟨V, hV⟩ : ∃ V, V = withB b (numL i) := ⟨_, rfl⟩
              rw [← hV] at P4 P5
              clear hts hbel hV HR HSM hRs
              go_wp2_with fail
              refine (P1 _ hB9.out).mono ?_
              rintro e w5 ⟨rfl, h5⟩
              have B5 := Lib.hid (bw hB9.out h5)
              clear h5 P1
              go_wp2_with fail
              refine (P2 _ B5.out).mono ?_
              rintro e w6 ⟨rfl, h6⟩
              have B6 := Lib.hid (bw B5.out h6)
              clear h6 P2
              go_wp2_with fail
              refine (P3 _ B6.out).mono ?_
              rintro e w7 ⟨rfl, h7⟩
              have B7 := Lib.hid (bw B6.out h7)
              clear h7 P3
              go_wp2_with fail
              refine (P4 _ B7.out).mono ?_
              rintro e w8 ⟨rfl, h8⟩
              have B8 := Lib.hid (bw B7.out h8)
              clear h8 P4
              go_wp2_with fail
              refine (P5 _ B8.out).mono ?_
              rintro e w9 ⟨rfl, h9⟩
              have B9 := Lib.hid (bw B8.out h9)
              clear h9 P5
              go_wp2
              go_ret
              exact ⟨ret_bool (by first | rfl | simp), bw B0.out B9.out⟩
end Go.Proofs.Ytkcmcgmonkeajaa
