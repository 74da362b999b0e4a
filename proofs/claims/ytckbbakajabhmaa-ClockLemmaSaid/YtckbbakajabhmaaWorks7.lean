/- works: two of the document's examples. -/
import Derived.Test.YtckbbakajabhmaaClock
namespace Go.Proofs.Ytckbbakajabhmaa
open Go.RowKit Go.Maps

theorem steady_ex : Steady [0, 1, 0, 0] 1 1 3 1 := by
  intro p e m hpe hp he h0 h1 hc s hs
  obtain rfl : s = 0 := by omega
  obtain rfl : m = 0 := by omega
  have hp4 : p < 4 := (List.getElem?_eq_some_iff.1 hp).1
  have he4 : e < 4 := (List.getElem?_eq_some_iff.1 he).1
  clear hp he h0 h1 hs hpe
  revert hc
  rcases p with _ | _ | _ | _ | p <;> rcases e with _ | _ | _ | _ | e <;> first | decide | omega
theorem not_steady_ex : ¬ Steady [0, 0, 0, 1] 1 1 3 1 := fun h => by
  have := h 0 2 0 (by omega) rfl rfl (by omega) (by omega) (by decide) 0 (by omega)
  revert this
  decide
/-- a literal of numbers -/
theorem lit_run (w : World) (l : List Int) : Run (fun k => k < (w.alloc (.cells (intsC l).toArray 3)).heap.size) (w.alloc (.cells (intsC l).toArray 3)) (.slice (some ⟨w.heap.size, 0, none⟩) l.length l.length) l.length (intsC l) :=
  ⟨_, _, rfl, Nat.le_refl _, (fun e => by cases e), .inr ⟨w.heap.size, 0, rfl, by simp, by simp, fun j u hu => by
    rw [Nat.zero_add, Lib.cell_of_heap (heap_alloc_new w _)]; simpa using hu⟩⟩
theorem drift_yes {w : World} {lv : Value} (h : Run (fun k => k < w.heap.size) w lv 4 (intsC [0, 1, 0, 0])) :
    Calls Try.prog 16 #[lv, .int .i64 1, .int .i64 1, .int .i64 3, .int .i64 1] w fun e w' => e = .returned (.bool true) ∧ Below w.heap.size w w' := by
  refine (Drift_any (l := [0, 1, 0, 0]) (ms := 1) (sv := 1) (wt := 3) (le := 1) h (fun x hx => by simp at hx; exact ⟨by omega, by omega⟩) (by simp) ⟨by omega, by omega⟩ ⟨by omega, by omega⟩ ⟨by omega, by omega⟩).mono ?_
  rintro e w1 ⟨⟨b, rfl, hb⟩, hB⟩
  exact ⟨by rw [hb.2 steady_ex], hB⟩
theorem drift_no {w : World} {lv : Value} (h : Run (fun k => k < w.heap.size) w lv 4 (intsC [0, 0, 0, 1])) :
    Calls Try.prog 16 #[lv, .int .i64 1, .int .i64 1, .int .i64 3, .int .i64 1] w fun e w' => e = .returned (.bool false) ∧ Below w.heap.size w w' := by
  refine (Drift_any (l := [0, 0, 0, 1]) (ms := 1) (sv := 1) (wt := 3) (le := 1) h (fun x hx => by simp at hx; exact ⟨by omega, by omega⟩) (by simp) ⟨by omega, by omega⟩ ⟨by omega, by omega⟩ ⟨by omega, by omega⟩).mono ?_
  rintro e w1 ⟨⟨b, rfl, hb⟩, hB⟩
  refine ⟨?_, hB⟩
  cases b with
  | false => rfl
  | true => exact absurd (hb.1 rfl) not_steady_ex
/-- clocks, leases and waits beside one another -/
abbrev Trio (cb n N : Nat) (f : F) (lb ln : Nat) (g : G) (wb wn : Nat) (v : G) : (Nat → Prop) → World → Prop := Pair (Pair (ClkQ cb n N f) (TabQ 35 lb ln g)) (TabQ 48 wb wn v)
section
variable {S : Nat → Prop} {w : World} {cb n N : Nat} {f : F} {lb ln : Nat} {g : G} {wb wn : Nat} {v : G}
theorem trioThing : Thing (Trio cb n N f lb ln g wb wn v) := pairThing (pairThing (clkThing _ _ _ _) (tabThing _ _ _ _)) (tabThing _ _ _ _)
theorem Trio.clk (h : Trio cb n N f lb ln g wb wn v S w) : ClkAt S w cb n N f := Pair.fst (clkThing _ _ _ _) (Pair.fst (pairThing (clkThing _ _ _ _) (tabThing _ _ _ _)) h)
theorem Trio.leases (h : Trio cb n N f lb ln g wb wn v S w) : TabAt 35 S w lb ln g := Pair.snd (tabThing _ _ _ _) (Pair.fst (pairThing (clkThing _ _ _ _) (tabThing _ _ _ _)) h)
theorem Trio.waits (h : Trio cb n N f lb ln g wb wn v S w) : TabAt 48 S w wb wn v := Pair.snd (tabThing _ _ _ _) h
theorem Trio.tick (h : Trio cb n N f lb ln g wb wn v S w) (hS : ∀ k, w.heap.size ≤ k → S k) {i : Int} (hi : I64 i) (hn : n ≤ 1048576) :
    Calls Try.prog 12 #[ptrV cb, .int .i64 i] w fun e w' => e = .returned (.int .i64 (tickV N f i : Nat)) ∧ Trio cb (n + 1) N (tickF N f i) lb ln g wb wn v S w' ∧ Kept S w w' :=
  Pair.step1 (pairThing (clkThing _ _ _ _) (tabThing _ _ _ _)) (pairThing (clkThing _ _ _ _) (tabThing _ _ _ _)) (tabThing _ _ _ _) h hS (fun _ hT _ h1 =>
    Pair.step1 (clkThing _ _ _ _) (clkThing _ _ _ _) (tabThing _ _ _ _) h1 hT (fun _ _ _ h2 => Tick_any h2 hi hn))
theorem Trio.grant (h : Trio cb n N f lb ln g wb wn v S w) (hS : ∀ k, w.heap.size ≤ k → S k) {k u : Int} (hk : I64 k) (hn : ln < maxLen) :
    Calls Try.prog 18 #[ptrV lb, .int .i64 k, .int .i64 u] w fun e w' => e = .returned (.tuple #[]) ∧ Trio cb n N f lb (ln + 1) (grantG g k u) wb wn v S w' ∧ Kept S w w' :=
  Pair.step1 (pairThing (clkThing _ _ _ _) (tabThing _ _ _ _)) (pairThing (clkThing _ _ _ _) (tabThing _ _ _ _)) (tabThing _ _ _ _) h hS (fun _ hT _ h1 =>
    Pair.step2 (clkThing _ _ _ _) (tabThing _ _ _ _) (tabThing _ _ _ _) h1 hT (fun _ hT2 _ h2 => Grant_any h2 hT2 hk hn))
theorem Trio.note (h : Trio cb n N f lb ln g wb wn v S w) (hS : ∀ k, w.heap.size ≤ k → S k) {k u : Int} (hk : I64 k) (hn : wn < maxLen) :
    Calls Try.prog 26 #[ptrV wb, .int .i64 k, .int .i64 u] w fun e w' => e = .returned (.tuple #[]) ∧ Trio cb n N f lb ln g wb (wn + 1) (noteG v k u) S w' ∧ Kept S w w' :=
  Pair.step2 (pairThing (clkThing _ _ _ _) (tabThing _ _ _ _)) (tabThing _ _ _ _) (tabThing _ _ _ _) h hS (fun _ hT _ h1 => Note_any h1 hT hk hn)
theorem trio_new {w0 w1 : World} {N cb : Nat} (h : ClkAt S w1 cb 0 N (fun _ => 0)) (hS : ∀ k, w1.heap.size ≤ k → S k) {o o2 : Obj} (ho : o = .cells #[.map none] 35) (ho2 : o2 = .cells #[.map none] 48) (hw0 : w0 = (w1.alloc o).alloc o2) :
    Trio cb 0 N (fun _ => 0) w1.heap.size 0 noG (w1.heap.size + 1) 0 noG S w0 := by
  subst hw0 ho ho2
  have h1 : Pair (ClkQ cb 0 N (fun _ => 0)) (TabQ 35 w1.heap.size 0 noG) S (w1.alloc (.cells #[.map none] 35)) :=
    Pair.of (clkThing _ _ _ _) (tabThing _ _ _ _) h ((Below.refl _ _).alloc (Nat.le_refl _) _) (tab_new _ w1 (Nat.le_refl _)) hS
  have hsz : (w1.alloc (.cells #[.map none] 35)).heap.size = w1.heap.size + 1 := by simp
  have h2 := Pair.of (pairThing (clkThing _ _ _ _) (tabThing _ _ _ _)) (tabThing _ _ _ _) h1 ((Below.refl _ (w1.alloc (.cells #[.map none] 35))).alloc (Nat.le_refl _) (.cells #[.map none] 48)) (tab_new 48 (w1.alloc (.cells #[.map none] 35)) (Nat.le_refl _)) (fun k hk => hS k (by omega))
  rwa [hsz] at h2
end
set_option maxRecDepth 100000 in
set_option maxHeartbeats 4000000 in
theorem works_any (w : World) : Calls Try.prog 9 #[] w fun e w' => e = .returned (.bool true) ∧ Below w.heap.size w w' := by
  have HN := Lib.hid (CNew_any (S := fun k => w.heap.size ≤ k) w (fun _ h => h) 2 (by omega))
  go_enter Try.func9, Try.ntmps9
  go_wp2_with fail
  refine HN.out.mono ?_
  rintro e w1 ⟨rfl, hclk, hb1⟩
  have HC := Lib.hid hclk
  have HB1 := Lib.hid hb1
  clear hclk hb1
  go_wp2_with fail
  obtain ⟨w2, hw2⟩ : ∃ w2, w2 = (w1.alloc (.cells #[.map none] 35)).alloc (.cells #[.map none] 48) := ⟨_, rfl⟩
  rw [← hw2]
  have hs1 := HB1.out.size
  have ht := trio_new HC.out (fun k hk => Nat.le_trans hs1 hk) rfl rfl hw2
  have hK2 : Kept (fun k => w.heap.size ≤ k) w w2 := by rw [hw2]; exact ((Kept.of_below HB1.out).alloc _).alloc _
  clear hw2 HC HB1
  refine (ht.tick (fun k hk => Nat.le_trans hK2.size hk) (i := 1) ⟨by omega, by omega⟩ (by omega)).mono ?_
  rintro e w3 ⟨rfl, ht3, k3⟩
  have K3 := Lib.hid (hK2.trans k3)
  have HT3 := Lib.hid ht3
  clear ht hK2 k3 ht3
  go_wp2_with fail
  refine (HT3.out.grant (fun k hk => Nat.le_trans K3.out.size hk) (k := 5) (u := 10) ⟨by omega, by omega⟩ (by unfold maxLen; omega)).mono ?_
  rintro e w4 ⟨rfl, ht4, k4⟩
  have K4 := Lib.hid (K3.out.trans k4)
  have HT4 := Lib.hid ht4
  clear k4 ht4
  go_wp2_with fail
  refine (HT4.out.note (fun k hk => Nat.le_trans K4.out.size hk) (k := 1) (u := 7) ⟨by omega, by omega⟩ (by unfold maxLen; omega)).mono ?_
  rintro e w5 ⟨rfl, ht5, k5⟩
  have K5 := Lib.hid (K4.out.trans k5)
  have HT5 := Lib.hid ht5
  clear k5 ht5
  go_wp2_with fail
  refine (HT5.out.note (fun k hk => Nat.le_trans K5.out.size hk) (k := 1) (u := 9) ⟨by omega, by omega⟩ (by unfold maxLen; omega)).mono ?_
  rintro e w6 ⟨rfl, ht6, k6⟩
  have K6 := Lib.hid (K5.out.trans k6)
  have HT6 := Lib.hid ht6
  clear k6 ht6
  have hv6 : tickV (Int.toNat 2) (tickF (Int.toNat 2) (fun _ => 0) 1) 1 = 2 := by decide
  have ht6 := HT6.out.tick (fun k hk => Nat.le_trans K6.out.size hk) (i := 1) ⟨by omega, by omega⟩ (by omega)
  rw [hv6] at ht6
  have HX6 := Lib.hid ht6
  clear hv6 ht6
  go_wp2_with fail
  refine HX6.out.mono ?_
  rintro e w7 ⟨rfl, ht7, k7⟩
  have K7 := Lib.hid (K6.out.trans k7)
  have HT7 := Lib.hid ht7
  clear k7 ht7
  have hn0 := Now_any HT7.out.clk (i := 0) ⟨by omega, by omega⟩
  have hn9 := Now_any HT7.out.clk (i := 9) ⟨by omega, by omega⟩
  rw [show nowF (Int.toNat 2) (tickF (Int.toNat 2) (tickF (Int.toNat 2) (fun _ => 0) 1) 1) 0 = 0 from by decide] at hn0
  rw [show nowF (Int.toNat 2) (tickF (Int.toNat 2) (tickF (Int.toNat 2) (fun _ => 0) 1) 1) 9 = 0 from by decide] at hn9
  have HN0 := Lib.hid hn0
  have HN9 := Lib.hid hn9
  clear hn0 hn9
  go_wp2_with fail
  refine HN0.out.mono ?_
  rintro e w8 ⟨rfl, rfl⟩
  go_wp2_with fail
  refine HN9.out.mono ?_
  rintro e w8 ⟨rfl, rfl⟩
  go_wp2_with fail
  refine (drift_yes (lit_run w7 [0, 1, 0, 0])).mono ?_
  rintro e w8 ⟨rfl, hb8⟩
  have hb8' : Below w7.heap.size w7 w8 := ((Below.refl _ w7).alloc (Nat.le_refl _) _).trans (hb8.mono (by simp))
  have K8 := Lib.hid (K7.out.trans (Kept.of_below hb8'))
  have HT8 := Lib.hid (trioThing.below HT7.out hb8')
  clear hb8 hb8'
  go_wp2_with fail
  refine (drift_no (lit_run w8 [0, 0, 0, 1])).mono ?_
  rintro e w9 ⟨rfl, hb9⟩
  have hb9' : Below w8.heap.size w8 w9 := ((Below.refl _ w8).alloc (Nat.le_refl _) _).trans (hb9.mono (by simp))
  have K9 := Lib.hid (K8.out.trans (Kept.of_below hb9'))
  have HT9 := Lib.hid (trioThing.below HT8.out hb9')
  clear hb9 hb9'
  have hva := Valid_any HT9.out.leases (k := 5) ⟨by omega, by omega⟩ 9
  have hvb := Valid_any HT9.out.leases (k := 5) ⟨by omega, by omega⟩ 10
  have he : Ends (noteG (noteG noG 1 7) 1 9) := ends_note (ends_note ends_no 1 ⟨by omega, by omega⟩) 1 ⟨by omega, by omega⟩
  have hwa := Over_any HT9.out.waits he (k := 1) (now := 9) (wait := 3) ⟨by omega, by omega⟩ ⟨by omega, by omega⟩ ⟨by omega, by omega⟩
  have hwb := Over_any HT9.out.waits he (k := 1) (now := 10) (wait := 3) ⟨by omega, by omega⟩ ⟨by omega, by omega⟩ ⟨by omega, by omega⟩
  rw [show validG (grantG noG 5 10) 5 9 = true from by decide] at hva
  rw [show validG (grantG noG 5 10) 5 10 = false from by decide] at hvb
  rw [show overG (noteG (noteG noG 1 7) 1 9) 1 9 3 = false from by decide] at hwa
  rw [show overG (noteG (noteG noG 1 7) 1 9) 1 10 3 = true from by decide] at hwb
  have HVA := Lib.hid hva
  have HVB := Lib.hid hvb
  have HWA := Lib.hid hwa
  have HWB := Lib.hid hwb
  clear hva hvb hwa hwb he
  go_wp2_with fail
  refine HVA.out.mono ?_
  rintro e wx ⟨rfl, rfl⟩
  go_wp2_with fail
  refine HVB.out.mono ?_
  rintro e wx ⟨rfl, rfl⟩
  go_wp2_with fail
  refine HWA.out.mono ?_
  rintro e wx ⟨rfl, rfl⟩
  go_wp2_with fail
  refine HWB.out.mono ?_
  rintro e wx ⟨rfl, rfl⟩
  go_wp2
  go_ret
  exact ⟨rfl, K9.out.below (Nat.le_refl _) (fun _ h => h)⟩
end Go.Proofs.Ytckbbakajabhmaa
