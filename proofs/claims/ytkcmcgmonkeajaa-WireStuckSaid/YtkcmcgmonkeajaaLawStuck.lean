/- The law: behind an error nothing more is read: the walk. -/
import Derived.Test.YtkcmcgmonkeajaaTakes
namespace Go.Proofs.Ytkcmcgmonkeajaa
open Go.RowKit

set_option maxRecDepth 100000 in
set_option maxHeartbeats 8000000 in
theorem law_stuck (b : ByteArray) (v : Value) (l : List (Nat × Int)) (w : World) (hb : b.size ≤ 9223372036854775807) (hl : TakesAt w v l) (hlm : l.length ≤ 9223372036854775807) (hlw : ∀ c ∈ l, c.1 < 256 ∧ -9223372036854775808 ≤ c.2 ∧ c.2 ≤ 9223372036854775807) :
    Calls Try.prog 7 #[.string b, v] w fun e w' => e = .returned (.bool true) ∧ Below w.heap.size w w' := by
  have HL := Lib.hid hl
  obtain ⟨aa, cap, rfl, _, _⟩ := hl
  by_cases h1 : 8192 < b.size
  · have hi1 : (8192 : Int) < (b.size : Int) := by omega
    go_enter Try.func7, Try.ntmps7
    go_wp2_with fail
    refine (works_any _).mono ?_
    rintro e w1 ⟨rfl, b1⟩
    go_wp2
    go_ret
    exact ⟨rfl, b1⟩
  have hi1 : ¬ (8192 : Int) < (b.size : Int) := by omega
  by_cases h2 : 200 < l.length
  · have hi2 : (200 : Int) < (l.length : Int) := by omega
    go_enter Try.func7, Try.ntmps7
    go_wp2_with fail
    refine (works_any _).mono ?_
    rintro e w1 ⟨rfl, b1⟩
    go_wp2
    go_ret
    exact ⟨rfl, b1⟩
  have hi2 : ¬ (200 : Int) < (l.length : Int) := by omega
  have hsz : b.size ≤ 1099511627776 := by omega
  go_enter Try.func7, Try.ntmps7
  go_wp2_with fail
  refine (works_any _).mono ?_
  rintro e w1 ⟨rfl, b1⟩
  have HL1 := Lib.hid (HL.out.below b1)
  go_wp2_with fail
  refine (Read_any b _).mono ?_
  rintro e w2 ⟨rfl, r2, k2⟩
  have R2 := Lib.hid r2
  clear r2
  go_wp2_with fail
  refine (Below_zero _ b _ hsz R2.out).mono ?_
  rintro e w3 ⟨E, hE, rfl, r3, k3⟩
  have R3 := Lib.hid r3
  have c3 := k2.trans (k3.below (Nat.le_refl _) k2.size)
  have HE := Lib.hid hE
  have hEb : (E == 0) = false := by simpa using hE
  clear r3 k3 k2 R2 hE
  go_wp2_with fail
  refine (At_any _ _ _ _ _ R3.out).mono ?_
  rintro e w4 ⟨rfl, rfl⟩
  go_wp2_with fail
  refine (Err_any _ _ _ _ _ R3.out).mono ?_
  rintro e w4 ⟨rfl, rfl⟩
  go_wp2
  go_loopw [10] (fun i wr => ∃ k : Nat, k ≤ l.length ∧ i = .int .i64 k ∧ RdAt wr w1.heap.size b 0 E ∧ Below w1.heap.size w1 wr) (fun i _ => l.length - (intOf i).toNat)
  case atStart => exact ⟨0, Nat.zero_le _, rfl, R3.out, c3⟩
  case round =>
    obtain ⟨k, hk, rfl, hr, hc⟩ := hrel
    have R := Lib.hid hr
    clear hr
    by_cases hlt : k < l.length
    · obtain ⟨x, hx⟩ : ∃ x, l[k]? = some x := ⟨l[k], List.getElem?_eq_getElem hlt⟩
      obtain ⟨_, _, he, _, hcell⟩ := HL1.out
      simp only [Value.slice.injEq] at he
      obtain ⟨rfl, _, rfl⟩ := he
      obtain ⟨ba, offa, rfl, hba, hca⟩ := hcell.resolve_left (by omega)
      have hwx := hlw x (List.mem_of_getElem? hx)
      have hx2 := (hca k x hx).2
      have hcl : wr.cell? ⟨ba, offa + k * 2 + 1, none⟩ = some (.int .i64 x.2) := (hc.cell (p := ⟨ba, _, none⟩) hba).trans hx2
      have HX2 := Lib.hid hx2
      obtain ⟨_, hw1, hw2⟩ := hwx
      clear hca hx hcell hx2
      generalize x.2 = z at *
      go_wp2_with fail
      refine (Ints_err _ b 0 E z _ hsz hw1 hw2 HE.out R.out).mono ?_
      rintro e v1 ⟨⟨a1, c1, rfl⟩, r1, k1⟩
      have R1 := Lib.hid r1
      have d1 := hc.trans (k1.below (Nat.le_refl _) hc.size)
      clear r1 k1 R hc hcl
      go_wp2_with fail
      refine (Number_err _ b 0 E _ hsz HE.out R1.out).mono ?_
      rintro e v2 ⟨rfl, r2, k2⟩
      have R2 := Lib.hid r2
      have d2 := d1.trans (k2.below (Nat.le_refl _) d1.size)
      clear r2 k2 R1 d1
      go_wp2_with fail
      refine (Int_err _ b 0 E _ hsz HE.out R2.out).mono ?_
      rintro e v3 ⟨rfl, r3, k3⟩
      have R3 := Lib.hid r3
      have d3 := d2.trans (k3.below (Nat.le_refl _) d2.size)
      have cl3 : v3.cell? ⟨ba, offa + k * 2 + 1, none⟩ = some (.int .i64 z) := (d3.cell (p := ⟨ba, _, none⟩) hba).trans HX2.out
      clear r3 k3 R2 d2
      go_wp2_with fail
      refine (Below_err _ b 0 E z _ hsz hw1 hw2 HE.out R3.out).mono ?_
      rintro e v4 ⟨rfl, r4, k4⟩
      have R4 := Lib.hid r4
      have d4 := d3.trans (k4.below (Nat.le_refl _) d3.size)
      have cl4 : v4.cell? ⟨ba, offa + k * 2 + 1, none⟩ = some (.int .i64 z) := (d4.cell (p := ⟨ba, _, none⟩) hba).trans HX2.out
      clear r4 k4 R3 d3 cl3
      go_wp2_with fail
      refine (Text_err _ b 0 E z _ hsz hw1 hw2 HE.out R4.out).mono ?_
      rintro e v5 ⟨rfl, r5, k5⟩
      have R5 := Lib.hid r5
      have d5 := d4.trans (k5.below (Nat.le_refl _) d4.size)
      clear r5 k5 R4 d4
      clear cl4
      go_wp2
      go_roundw
      case rel => exact ⟨k + 1, by omega, by go_num, R5.out, d5⟩
      case measure => simp [intOf]; omega
    · go_wp2_with fail
      refine (At_any _ _ _ _ _ R.out).mono ?_
      rintro e w5 ⟨rfl, rfl⟩
      go_wp2_with fail
      refine (Err_any _ _ _ _ _ R.out).mono ?_
      rintro e w5 ⟨rfl, rfl⟩
      have HEE : Hid (endE b 0 E = E) := by show _ = _; unfold endE; rw [if_neg HE.out]
      go_wp2_with fail
      refine (End_any _ _ _ _ _ R.out).mono ?_
      rw [HEE.out]
      rintro e w5 ⟨rfl, q, rfl⟩
      have b5 := below_drewN (bw b1 hc) q
      go_wp2
      go_ret
      exact ⟨ret_bool (by first | rfl | simp), b5⟩
end Go.Proofs.Ytkcmcgmonkeajaa
