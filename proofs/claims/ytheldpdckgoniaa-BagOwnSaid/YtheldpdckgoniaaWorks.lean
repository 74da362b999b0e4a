/- The document's example. -/
import Derived.Test.YtheldpdckgoniaaSameM
namespace Go.Proofs.Ytheldpdckgoniaa
open Go.RowKit

def exM (a : Int) : Msg := { noMsg with a := a }
theorem exM_sm (a : Int) : Sm (exM a) := ⟨by simp [exM, noMsg], by simp [exM, noMsg], (by show (0 : Nat) ≤ _; omega), fun e he => by simp [exM, noMsg] at he⟩
/-- a literal of messages without lists -/
theorem lit_msgs {w : World} {S : Nat → Prop} (is : List Int) (cs : Array Value) (hc : cs = (rowC (is.map fun a => (exM a, (Value.slice none 0 0 : Value), (Value.slice none 0 0 : Value)))).toArray) (hS : ¬ S w.heap.size) (n : Nat) (hn : n = is.length) :
    MsgsIn (fun k => ¬ S k) (w.alloc (.cells cs 38)) (.slice (some ⟨w.heap.size, 0, none⟩) n n) (is.map fun a => (exM a, (Value.slice none 0 0 : Value), (Value.slice none 0 0 : Value))) := by
  subst hc hn
  refine ⟨⟨_, _, by rw [List.length_map], by rw [List.length_map]; exact Nat.le_refl _, (fun e => by cases e), .inr ⟨_, _, rfl, hS, by simp, fun j u hu => ?_⟩⟩, fun x hx => ?_⟩
  · rw [Nat.zero_add, World.cell?_alloc_new, List.getElem?_toArray]; exact hu
  · obtain ⟨a, _, rfl⟩ := List.mem_map.1 hx
    exact ⟨Run.nil _ _ _, Run.nil _ _ _⟩
theorem lit_sm (is : List Int) : ∀ y ∈ (is.map fun a => (exM a, (Value.slice none 0 0 : Value), (Value.slice none 0 0 : Value)) : List X), Sm y.1 := by
  intro y hy
  obtain ⟨a, _, rfl⟩ := List.mem_map.1 hy
  exact exM_sm a
/-- a bag in new blocks alone, none of which is one of E -/
structure WAt (w : World) (b : Nat) (ms : List Msg) (E : Nat → Prop) (w' : World) : Prop where
  below : Below w.heap.size w w'
  bag : ∃ S : Nat → Prop, BagAt BagT S w' b 3 ms ∧ ∀ k, S k → w.heap.size ≤ k ∧ ¬ E k
theorem WAt.step {w w1 w2 : World} {b : Nat} {ms : List Msg} {E : Nat → Prop} (h : WAt w b ms E w1) (hb : Below w1.heap.size w1 w2) : ∃ S : Nat → Prop, BagAt BagT S w2 b 3 ms ∧ (∀ k, w2.heap.size ≤ k → S k) ∧ (∀ k, w1.heap.size ≤ k → k < w2.heap.size → ¬ S k) ∧ (∀ k, S k → w.heap.size ≤ k) ∧ ∀ k, E k → k < w2.heap.size → ¬ S k := by
  obtain ⟨S, h1, h2⟩ := h.bag
  exact ⟨fun k => (S k ∧ k < w1.heap.size) ∨ w2.heap.size ≤ k, h1.narrow hb, fun k hk => .inr hk, fun k h3 h4 h5 => by omega, fun k hk => hk.elim (fun h => (h2 k h.1).1) (fun h5 => by have := h.below.size; have := hb.size; omega), fun k he hl hs => hs.elim (fun h => (h2 k h.1).2 he) (fun h => by omega)⟩
theorem WAt.next {w w1 w2 w3 : World} {b : Nat} {ms ms' : List Msg} {E E' S : Nat → Prop} (h : WAt w b ms E w1) (hb : Below w1.heap.size w1 w2) (hS : ∀ k, S k → w.heap.size ≤ k) (hE : ∀ k, E' k → ¬ S k) (hbag : BagAt BagT S w3 b 3 ms') (hk : Kept S w2 w3) : WAt w b ms' E' w3 :=
  ⟨(h.below.trans (hb.mono h.below.size)).trans (hk.below (Nat.le_trans h.below.size hb.size) hS), S, hbag, fun k hk => ⟨hS k hk, fun he => hE k he hk⟩⟩
def NoE : Nat → Prop := fun _ => False
set_option maxHeartbeats 8000000 in
set_option maxRecDepth 100000 in
theorem works_any (w : World) : Calls Try.prog 6 #[] w fun e w' => e = .returned (.bool true) ∧ Below w.heap.size w w' := by
  go_enter Try.func6, Try.ntmps6
  go_wp2_with fail
  refine (New_any (S := fun k => w.heap.size ≤ k) w (fun k hk => hk) 3 (by decide)).mono ?_
  rintro e w1 ⟨rfl, d1, b1⟩
  have W1 : Hid (WAt w w.heap.size [] NoE w1) := ⟨b1, _, d1, fun k hk => ⟨hk, fun h => h⟩⟩
  clear d1 b1
  obtain ⟨b, hb⟩ : ∃ b, w.heap.size = b := ⟨_, rfl⟩
  rw [hb] at W1 ⊢
  have HBS := Lib.hid hb
  clear hb
  go_wp2_with fail
  -- Send of two
  obtain ⟨w2, hw2⟩ : ∃ w2, w2 = w1.alloc (.cells #[.int .u8 0, .int .i64 0, .int .i64 0, .int .i64 0, .int .i64 1, .int .i64 0, .int .i64 0, .bool false, .slice none 0 0, .slice none 0 0, .string ⟨#[]⟩, .int .u8 0, .int .i64 0, .int .i64 0, .int .i64 0, .int .i64 2, .int .i64 0, .int .i64 0, .bool false, .slice none 0 0, .slice none 0 0, .string ⟨#[]⟩] 38) := ⟨_, rfl⟩
  have hb2 : Below w1.heap.size w1 w2 := by rw [hw2]; exact (Below.refl _ _).alloc (Nat.le_refl _) _
  have hs2 : w2.heap.size = w1.heap.size + 1 := by rw [hw2]; simp
  obtain ⟨S2, g1, g2, g3, g4, g5⟩ := W1.out.step hb2
  rw [← hw2]
  have hl2 := lit_msgs (w := w1) (S := S2) [1, 2] #[.int .u8 0, .int .i64 0, .int .i64 0, .int .i64 0, .int .i64 1, .int .i64 0, .int .i64 0, .bool false, .slice none 0 0, .slice none 0 0, .string ⟨#[]⟩, .int .u8 0, .int .i64 0, .int .i64 0, .int .i64 0, .int .i64 2, .int .i64 0, .int .i64 0, .bool false, .slice none 0 0, .slice none 0 0, .string ⟨#[]⟩] (by rfl) (g3 _ (Nat.le_refl _) (by omega)) 2 rfl
  rw [← hw2] at hl2
  refine (Send_any g1 g2 hl2 (lit_sm _) (by decide)).mono ?_
  rintro e w3 ⟨rfl, d3, k3⟩
  have W3 : Hid (WAt w b [exM 1, exM 2] NoE w3) := W1.out.next hb2 g4 (fun k he => he.elim) d3 k3
  clear hw2 hb2 hs2 g1 g2 g3 g4 g5 hl2 d3 k3 S2 W1
  go_wp2_with fail
  -- Double
  obtain ⟨S2, g1, g2, g3, g4, g5⟩ := W3.out.step (Below.refl _ _)
  refine (Double_any g1 g2 (by decide) 0).mono ?_
  rintro e w4 ⟨rfl, d4, k4⟩
  have W4 : Hid (WAt w b [exM 1, exM 2, exM 1] NoE w4) := W3.out.next (Below.refl _ _) g4 (fun k he => he.elim) d4 k4
  have hd4 : (doubleS 3 [exM 1, exM 2] 0).1 = true := by rfl
  rw [hd4]
  clear g1 g2 g3 g4 g5 d4 k4 S2 W3 hd4
  go_wp2_with fail
  -- Send of one: no room
  obtain ⟨w5, hw5⟩ : ∃ w5, w5 = w4.alloc (.cells #[.int .u8 0, .int .i64 0, .int .i64 0, .int .i64 0, .int .i64 3, .int .i64 0, .int .i64 0, .bool false, .slice none 0 0, .slice none 0 0, .string ⟨#[]⟩] 38) := ⟨_, rfl⟩
  have hb5 : Below w4.heap.size w4 w5 := by rw [hw5]; exact (Below.refl _ _).alloc (Nat.le_refl _) _
  have hs5 : w5.heap.size = w4.heap.size + 1 := by rw [hw5]; simp
  obtain ⟨S2, g1, g2, g3, g4, g5⟩ := W4.out.step hb5
  rw [← hw5]
  have hl5 := lit_msgs (w := w4) (S := S2) [3] #[.int .u8 0, .int .i64 0, .int .i64 0, .int .i64 0, .int .i64 3, .int .i64 0, .int .i64 0, .bool false, .slice none 0 0, .slice none 0 0, .string ⟨#[]⟩] (by rfl) (g3 _ (Nat.le_refl _) (by omega)) 1 rfl
  rw [← hw5] at hl5
  refine (Send_any g1 g2 hl5 (lit_sm _) (by decide)).mono ?_
  rintro e w6 ⟨rfl, d6, k6⟩
  have W6 : Hid (WAt w b [exM 1, exM 2, exM 1] NoE w6) := W4.out.next hb5 g4 (fun k he => he.elim) d6 k6
  clear hw5 hb5 hs5 g1 g2 g3 g4 g5 hl5 d6 k6 S2 W4
  go_wp2_with fail
  -- Take
  obtain ⟨S2, g1, g2, g3, g4, g5⟩ := W6.out.step (Below.refl _ _)
  refine (Take_any g1 1 (by decide) (by decide)).mono ?_
  rintro e w7 ⟨-, ⟨la, lc, ea, ec, e7, -⟩, d7, k7, -⟩
  have W7 : Hid (WAt w b [exM 1, exM 1] NoE w7) := W6.out.next (Below.refl _ _) (fun k hk => g4 k hk.1) (fun k he => he.elim) d7 k7
  have hg7 : getI [exM 1, exM 2, exM 1] 1 = some (exM 2) := by rfl
  rw [hg7] at e7
  subst e7
  clear g1 g2 g3 g4 g5 d7 k7 S2 W6 hg7
  simp only [Option.getD_some, Option.isSome_some]
  go_wp2_with fail
  -- Send of two: one has room
  obtain ⟨w8, hw8⟩ : ∃ w8, w8 = w7.alloc (.cells ((exM 2).arr (.slice la (exM 2).l.length lc) (.slice ea (exM 2).es.length ec)) 38) := ⟨_, rfl⟩
  obtain ⟨w9, hw9⟩ : ∃ w9, w9 = w8.alloc (.cells #[.int .u8 0, .int .i64 0, .int .i64 0, .int .i64 0, .int .i64 4, .int .i64 0, .int .i64 0, .bool false, .slice none 0 0, .slice none 0 0, .string ⟨#[]⟩, .int .u8 0, .int .i64 0, .int .i64 0, .int .i64 0, .int .i64 5, .int .i64 0, .int .i64 0, .bool false, .slice none 0 0, .slice none 0 0, .string ⟨#[]⟩] 38) := ⟨_, rfl⟩
  have hb78 : Below w7.heap.size w7 w8 := by rw [hw8]; exact (Below.refl _ _).alloc (Nat.le_refl _) _
  have hb89 : Below w8.heap.size w8 w9 := by rw [hw9]; exact (Below.refl _ _).alloc (Nat.le_refl _) _
  have hs8 : w8.heap.size = w7.heap.size + 1 := by rw [hw8]; simp
  have hs9 : w9.heap.size = w8.heap.size + 1 := by rw [hw9]; simp
  have hx8 : w8.heap[w7.heap.size]? = some (msgO (exM 2) (.slice la (exM 2).l.length lc) (.slice ea (exM 2).es.length ec)) := by rw [hw8]; exact heap_alloc_new w7 _
  have hb9 := bw hb78 hb89
  obtain ⟨S2, g1, g2, g3, g4, g5⟩ := W7.out.step hb9
  rw [← hs8, ← hw8, ← hw9]
  have hl9 := lit_msgs (w := w8) (S := S2) [4, 5] #[.int .u8 0, .int .i64 0, .int .i64 0, .int .i64 0, .int .i64 4, .int .i64 0, .int .i64 0, .bool false, .slice none 0 0, .slice none 0 0, .string ⟨#[]⟩, .int .u8 0, .int .i64 0, .int .i64 0, .int .i64 0, .int .i64 5, .int .i64 0, .int .i64 0, .bool false, .slice none 0 0, .slice none 0 0, .string ⟨#[]⟩] (by rfl) (g3 _ (by omega) (by omega)) 2 rfl
  rw [← hw9] at hl9
  refine (Send_any g1 g2 hl9 (lit_sm _) (by decide)).mono ?_
  rintro e w10 ⟨rfl, d10, k10⟩
  have W10 : Hid (WAt w b [exM 1, exM 1, exM 4] (fun k => k = w7.heap.size) w10) := W7.out.next hb9 g4 (fun k he => by subst he; exact g3 _ (Nat.le_refl _) (by omega)) d10 k10
  have hx10 : w10.heap[w7.heap.size]? = some (msgO (exM 2) (.slice la (exM 2).l.length lc) (.slice ea (exM 2).es.length ec)) := (k10.block _ (by omega) (g3 _ (Nat.le_refl _) (by omega))).trans (box_below hx8 hb89)
  have HX10 := Lib.hid hx10
  clear hw8 hw9 hb78 hb89 hs8 hs9 hx8 hb9 g1 g2 g3 g4 g5 hl9 d10 k10 S2 W7 hx10
  obtain ⟨xb, hxb⟩ : ∃ xb, w7.heap.size = xb := ⟨_, rfl⟩
  rw [hxb] at W10 HX10 ⊢
  clear hxb
  go_wp2_with fail
  -- At
  obtain ⟨S10, bag10, hS10⟩ := W10.out.bag
  refine (At_any bag10 2).mono ?_
  rintro e w11 ⟨⟨la1, lc1, ea1, ec1, e11, -⟩, b11⟩
  have hg11 : getI [exM 1, exM 1, exM 4] 2 = some (exM 4) := by rfl
  rw [hg11] at e11
  subst e11
  have B11 := Lib.hid b11
  have HX11 := Lib.hid (box_below HX10.out b11)
  clear hg11 b11 bag10 hS10 S10
  simp only [Option.getD_some, Option.isSome_some]
  go_wp2_with fail
  -- Take of none
  obtain ⟨w12, hw12⟩ : ∃ w12, w12 = w11.alloc (.cells ((exM 4).arr (.slice la1 (exM 4).l.length lc1) (.slice ea1 (exM 4).es.length ec1)) 38) := ⟨_, rfl⟩
  have hb1112 : Below w11.heap.size w11 w12 := by rw [hw12]; exact (Below.refl _ _).alloc (Nat.le_refl _) _
  have hs12 : w12.heap.size = w11.heap.size + 1 := by rw [hw12]; simp
  have hx12 : w12.heap[w11.heap.size]? = some (msgO (exM 4) (.slice la1 (exM 4).l.length lc1) (.slice ea1 (exM 4).es.length ec1)) := by rw [hw12]; exact heap_alloc_new w11 _
  have hx12' := box_below HX11.out hb1112
  have hb12 := bw B11.out hb1112
  obtain ⟨S2, g1, g2, g3, g4, g5⟩ := W10.out.step hb12
  rw [← hw12]
  have hl11 := B11.out.size
  refine (Take_any g1 5 (by decide) (by decide)).mono ?_
  rintro e w13 ⟨-, ⟨la2, lc2, ea2, ec2, e13, -⟩, d13, k13, -⟩
  have hg13 : getI [exM 1, exM 1, exM 4] 5 = none := by rfl
  rw [hg13] at e13
  subst e13
  have W13 : Hid (WAt w b [exM 1, exM 1, exM 4] NoE w13) := W10.out.next hb12 (fun k hk => g4 k hk.1) (fun k he => he.elim) d13 k13
  have HX13 : Hid (w13.heap[xb]? = some (msgO (exM 2) (.slice la (exM 2).l.length lc) (.slice ea (exM 2).es.length ec))) := (k13.block _ (Array.getElem?_eq_some_iff.1 hx12').1 (fun h => g5 _ rfl (Array.getElem?_eq_some_iff.1 hx12').1 h.1)).trans hx12'
  have HY13 : Hid (w13.heap[w11.heap.size]? = some (msgO (exM 4) (.slice la1 (exM 4).l.length lc1) (.slice ea1 (exM 4).es.length ec1))) := (k13.block _ (Array.getElem?_eq_some_iff.1 hx12).1 (fun h => g3 _ hl11 (by omega) h.1)).trans hx12
  clear hw12 hb1112 hs12 hx12 hx12' hb12 g1 g2 g3 g4 g5 hl11 hg13 d13 k13 S2 W10 HX10 HX11
  simp only [Option.getD_none, Option.isSome_none]
  obtain ⟨yb, hyb⟩ : ∃ yb, w11.heap.size = yb := ⟨_, rfl⟩
  rw [hyb] at HY13 ⊢
  clear hyb B11
  have hal : Below w13.heap.size w13 (w13.alloc (.cells (noMsg.arr (.slice la2 noMsg.l.length lc2) (.slice ea2 noMsg.es.length ec2)) 38)) := (Below.refl _ _).alloc (Nat.le_refl _) _
  obtain ⟨S13, bag13, hS13⟩ := W13.out.bag
  have HLEN := Lib.hid (Len_any (bag13.below hal))
  have cx := Lib.cell_of_heap HX13.out 4
  have cy := Lib.cell_of_heap HY13.out 4
  have hxl : xb < w13.heap.size := (Array.getElem?_eq_some_iff.1 HX13.out).1
  have hyl : yb < w13.heap.size := (Array.getElem?_eq_some_iff.1 HY13.out).1
  have hx4 : (exM 2).a = 2 := rfl
  have hy4 : (exM 4).a = 4 := rfl
  have HAL := Lib.hid hal
  clear bag13 hS13 S13 hal
  go_wp2_with fail
  refine HLEN.out.mono ?_
  rintro e w15 ⟨rfl, e15⟩
  rw [e15]
  clear e15
  go_wp2
  go_ret
  exact ⟨rfl, W13.out.below.trans (HAL.out.mono W13.out.below.size)⟩
end Go.Proofs.Ytheldpdckgoniaa
