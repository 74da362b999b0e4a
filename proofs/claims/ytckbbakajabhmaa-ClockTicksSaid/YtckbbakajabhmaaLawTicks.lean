/- THE LAW ClockTicks: clocks tick, each by itself, just as the document says. -/
import Derived.Test.YtckbbakajabhmaaLawKit7
namespace Go.Proofs.Ytckbbakajabhmaa
open Go.RowKit Go.Maps

/-- the clocks and the document's -/
abbrev Duo (cb rb n N : Nat) (f : F) : (Nat → Prop) → World → Prop := Pair (ClkQ cb n N f) (RClkQ rb n N f)
section
variable {S : Nat → Prop} {w : World} {cb rb n N : Nat} {f : F}
theorem duo_tick1 (h : Duo cb rb n N f S w) (hS : ∀ k, w.heap.size ≤ k → S k) {i : Int} (hi : I64 i) (hn : n ≤ 1048576) :
    Calls Try.prog 12 #[ptrV cb, .int .i64 i] w fun e w' => e = .returned (.int .i64 (tickV N f i : Nat)) ∧ Pair (ClkQ cb (n + 1) N (tickF N f i)) (RClkQ rb n N f) S w' ∧ Kept S w w' :=
  Pair.step1 (clkThing _ _ _ _) (clkThing _ _ _ _) (rclkThing _ _ _ _) h hS (fun _ _ _ h1 => Tick_any h1 hi hn)
theorem duo_tick2 {n' : Nat} {f' : F} (h : Pair (ClkQ cb n' N f') (RClkQ rb n N f) S w) (hS : ∀ k, w.heap.size ≤ k → S k) (i : Int) (hn : n ≤ 1048576) :
    Calls Try.prog 13 #[ptrV rb, .int .i64 i] w fun e w' => e = .returned (.int .i64 (tickV N f i : Nat)) ∧ Pair (ClkQ cb n' N f') (RClkQ rb (n + 1) N (tickF N f i)) S w' ∧ Kept S w w' :=
  Pair.step2 (clkThing _ _ _ _) (rclkThing _ _ _ _) (rclkThing _ _ _ _) h hS (fun _ _ _ h1 => rTick_any h1 hn i)
end
set_option maxRecDepth 100000 in
set_option maxHeartbeats 8000000 in
theorem ClockTicks_law {w : World} {lv : Value} {l : List Int} {N0 : Int} (h : Run (fun k => k < w.heap.size) w lv l.length (intsC l)) (hi64 : ∀ x ∈ l, I64 x) (hl : l.length ≤ 9223372036854775807) (hN : I64 N0) :
    Calls Try.prog 3 #[.int .i64 N0, lv] w fun e w' => e = .returned (.bool true) ∧ Below w.heap.size w w' := by
  have HW := Lib.hid (works_any w)
  have H := Lib.hid h
  have H64 := Lib.hid hi64
  have hN1 := hN.1
  have hN2 := hN.2
  obtain ⟨a, c, rfl, hac⟩ := h.slice
  clear h hi64 hN
  go_enter Try.func3, Try.ntmps3
  go_wp2_with fail
  refine HW.out.mono ?_
  rintro e w1 ⟨rfl, b1⟩
  have HB1 := Lib.hid b1
  clear b1
  by_cases g1 : 1000 < N0
  · go_wp2
    go_ret
    exact ⟨rfl, HB1.out⟩
  by_cases g2 : (1000 : Int) < (l.length : Int)
  · have g1' : N0 ≤ 1000 := by omega
    go_wp2
    go_ret
    exact ⟨rfl, HB1.out⟩
  have g1' : N0 ≤ 1000 := by omega
  have g2' : (l.length : Int) ≤ 1000 := by omega
  clear g1 g2
  go_wp2_with fail
  have hs1 := HB1.out.size
  refine (CNew_any (S := fun k => w.heap.size ≤ k) w1 (fun k hk => Nat.le_trans hs1 hk) N0 hN2).mono ?_
  rintro e w2 ⟨rfl, hc2, b2⟩
  have HC2 := Lib.hid hc2
  have HB2 := Lib.hid (bw HB1.out b2)
  clear hc2 b2
  go_wp2_with fail
  refine (rCNew_any (S := fun k => w2.heap.size ≤ k) w2 (fun k hk => hk) N0 (by omega)).mono ?_
  rintro e w3 ⟨rfl, hc3, b3⟩
  have HD3 : Hid (Duo (w1.heap.size + 1) (w2.heap.size + 1) 0 N0.toNat (fun _ => 0) (fun k => w.heap.size ≤ k) w3) := Pair.of (clkThing _ _ _ _) (rclkThing _ _ _ _) HC2.out b3 hc3 (fun k hk => Nat.le_trans HB2.out.size hk)
  have HB3 := Lib.hid (bw HB2.out b3)
  clear hc3 b3
  go_wp2
  go_loopw [8] (fun i wr => ∃ (k : Nat) (f : F), k ≤ l.length ∧ i = .int .i64 (k : Int) ∧ Hid (Duo (w1.heap.size + 1) (w2.heap.size + 1) k N0.toNat f (fun k => w.heap.size ≤ k) wr) ∧ Hid (Below w.heap.size w wr)) (fun i _ => l.length - (intOf i).toNat)
  case atStart => exact ⟨0, _, Nat.zero_le _, rfl, HD3.out, HB3.out⟩
  case round =>
    obtain ⟨k, f, hk, rfl, HD, HB⟩ := hrel
    by_cases hlt : k < l.length
    · have hlti : (k : Int) < (l.length : Int) := by omega
      obtain ⟨x, hx⟩ : ∃ x, l[k]? = some x := ⟨_, List.getElem?_eq_getElem hlt⟩
      have hx64 := H64.out x (List.mem_of_getElem? hx)
      obtain ⟨b, off, rfl, hb1, hb2, hb3⟩ := Run.get (j := k) H.out (by omega) (by rw [intsC, List.getElem?_map, hx]; rfl)
      have hcx : wr.cell? ⟨b, off + k, none⟩ = some (.int .i64 x) := (HB.out.cell (p := ⟨b, off + k, none⟩) hb2).trans hb3
      clear hx hb3
      have hS0 : ∀ j, wr.heap.size ≤ j → w.heap.size ≤ j := fun j hj => Nat.le_trans HB.out.size hj
      have hd0 : Duo (w1.heap.size + 1) (w2.heap.size + 1) k N0.toNat f (fun k => w.heap.size ≤ k) wr.drew := (pairThing (clkThing _ _ _ _) (rclkThing _ _ _ _)).below HD.out (below_drewN (Below.refl _ _) 1)
      have HT1 := Lib.hid (duo_tick1 hd0 hS0 hx64 (by omega))
      have HBd : Hid (Below w.heap.size w wr.drew) := below_drewN HB.out 1
      clear hd0
      go_wp2
      go_region_held3 (fun w' => w'.cell? ⟨b, off + k, none⟩ = some (.int .i64 x))
        (first
          | exact hcx
          | (simpa using hcx)
          | exact cl4
          | exact cl5)
        (first
          | (go_at_call 12; refine HT1.out.mono ?_; rintro e w4 ⟨rfl, hd4, k4⟩; have K4 : Hid (Below w.heap.size w w4) := HBd.out.trans (k4.below HBd.out.size (fun _ h => h)); have HD4 := Lib.hid hd4; have cl4 : w4.cell? ⟨b, off + k, none⟩ = some (.int .i64 x) := (K4.out.cell (p := ⟨b, off + k, none⟩) hb2).trans ((HB.out.cell (p := ⟨b, off + k, none⟩) hb2).symm.trans hcx); clear hd4 k4)
          | (go_at_call 13; refine (duo_tick2 HD4.out (fun j hj => Nat.le_trans K4.out.size hj) x (by omega)).mono ?_; rintro e w5 ⟨rfl, hd5, k5⟩; have K5 : Hid (Below w.heap.size w w5) := K4.out.trans (k5.below K4.out.size (fun _ h => h)); have HD5 := Lib.hid hd5; have cl5 : w5.cell? ⟨b, off + k, none⟩ = some (.int .i64 x) := (K5.out.cell (p := ⟨b, off + k, none⟩) hb2).trans ((HB.out.cell (p := ⟨b, off + k, none⟩) hb2).symm.trans hcx); clear hd5 k5))
      go_wp2
      go_roundw
      case rel => exact ⟨k + 1, _, by omega, by go_num, HD5.out, K5.out⟩
      case measure => simp [intOf]; omega
    · have hlti : ¬ (k : Int) < (l.length : Int) := by omega
      have HC : Hid (ClkAt (fun k => w.heap.size ≤ k) wr (w1.heap.size + 1) k N0.toNat f) := Pair.fst (clkThing _ _ _ _) HD.out
      have HR : Hid (RClkAt (fun k => w.heap.size ≤ k) wr (w2.heap.size + 1) k N0.toNat f) := Pair.snd (rclkThing _ _ _ _) HD.out
      obtain ⟨wo, hwo⟩ : ∃ wo, wo = wr := ⟨_, rfl⟩
      subst hwo
      go_wp2
      go_loopw [9] (fun i wr => ∃ z : Int, i = .int .i64 z ∧ -1 ≤ z ∧ z ≤ 1001 ∧ wr = wo) (fun i _ => (1001 - intOf i).toNat)
      case atStart => exact ⟨-1, rfl, by omega, by omega, rfl⟩
      case round =>
        obtain ⟨z, rfl, hz1, hz2, rfl⟩ := hrel
        by_cases h1 : z ≤ N0
        · have hz64 : I64 z := ⟨by omega, by omega⟩
          have HN1 := Lib.hid (Now_any HC.out hz64)
          have HN2 := Lib.hid (rNow_any HR.out z)
          go_wp2_with fail
          refine HN1.out.mono ?_
          rintro e wx ⟨rfl, rfl⟩
          go_wp2_with fail
          refine HN2.out.mono ?_
          rintro e wx ⟨rfl, rfl⟩
          go_wp2
          go_roundw
          case rel => exact ⟨z + 1, by go_num, by omega, by omega, by first | rfl | trivial⟩
          case measure => simp [intOf]; omega
        · have h1' : N0 < z := by omega
          go_wp2
          go_ret
          exact ⟨rfl, HB.out⟩
end Go.Proofs.Ytckbbakajabhmaa
