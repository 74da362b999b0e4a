/- Double. -/
import Derived.Test.YtheldpdckgoniaaAt
namespace Go.Proofs.Ytheldpdckgoniaa
open Go.RowKit

/-- a copy of the message at a place, if there is room -/
def doubleS (most : Nat) (ms : List Msg) (i : Int) : Bool × List Msg :=
  match getI ms i with
  | none => (false, ms)
  | some m => if ms.length < most then (true, ms ++ [m]) else (false, ms)
/-- a message put into a box: the world behind -/
theorem box_put {w : World} {m : Msg} {lv ev : Value} : ∀ w1, w1 = (w.alloc (.cells #[.int .u8 0, .int .i64 0, .int .i64 0, .int .i64 0, .int .i64 0, .int .i64 0, .int .i64 0, .bool false, .slice none 0 0, .slice none 0 0, .string ⟨#[]⟩] 38)).setRow w.heap.size (m.arr lv ev) → w1.heap[w.heap.size]? = some (msgO m lv ev) ∧ Below w.heap.size w w1 ∧ w1.heap.size = w.heap.size + 1 := by
  rintro w1 rfl
  exact ⟨setRow_heap _ _ _ _ _ _ (heap_alloc_new w _), below_setRow ((Below.refl _ _).alloc (Nat.le_refl _) _) (Nat.le_refl _) _, by simp [World.setRow]⟩
set_option maxHeartbeats 4000000 in
set_option maxRecDepth 100000 in
theorem Double_any {S : Nat → Prop} {w : World} {b most : Nat} {ms : List Msg} (h : BagAt BagT S w b most ms) (hS : ∀ k, w.heap.size ≤ k → S k) (hc : ms.length + 1 ≤ 1048576) (i : Int) :
    Calls Try.prog 15 #[ptrV b, .int .i64 i] w fun e w' => e = .returned (.bool (doubleS most ms i).1) ∧ BagAt BagT S w' b most (doubleS most ms i).2 ∧ Kept S w w' := by
  have HI : Hid ((Try.prog.info? 38).map (·.size) = some 11) := infoMsg
  have hat := At_any h i
  have H := Lib.hid h
  have HS := Lib.hid hS
  have HC := Lib.hid hc
  clear h hS hc
  go_enter Try.func15, Try.ntmps15
  go_wp2_with fail
  refine hat.mono ?_
  rintro e w1 ⟨⟨la, lc, ea, ec, rfl, hli⟩, hb1⟩
  have HL := Lib.hid hli
  have HB1 := Lib.hid hb1
  clear hli hb1 hat
  have HX := Lib.hid (heap_alloc_new w1 (.cells #[.int .u8 0, .int .i64 0, .int .i64 0, .int .i64 0, .int .i64 0, .int .i64 0, .int .i64 0, .bool false, .slice none 0 0, .slice none 0 0, .string ⟨#[]⟩] 38))
  cases hg : getI ms i with
  | none =>
    have HG : Hid (doubleS most ms i = (false, ms)) := by show _ = _; unfold doubleS; rw [hg]
    simp only [Option.getD_none, Option.isSome_none]
    go_wp2
    go_ret
    rw [HG.out]
    have hb := HB1.out.alloc HB1.out.size (.cells (noMsg.arr (.slice la noMsg.l.length lc) (.slice ea noMsg.es.length ec)) 38)
    exact ⟨rfl, H.out.below hb, Kept.of_below hb⟩
  | some m =>
    simp only [hg, Option.getD_some] at HL
    simp only [Option.getD_some, Option.isSome_some]
    obtain ⟨d0, d1, d2, d3, d4, d5, d6, d7, d8, d9, d10, _⟩ := box_cells (m := m) (lv := .slice la m.l.length lc) (ev := .slice ea m.es.length ec) (setRow_heap (w1.alloc (.cells #[.int .u8 0, .int .i64 0, .int .i64 0, .int .i64 0, .int .i64 0, .int .i64 0, .int .i64 0, .bool false, .slice none 0 0, .slice none 0 0, .string ⟨#[]⟩] 38)) w1.heap.size _ (m.arr (.slice la m.l.length lc) (.slice ea m.es.length ec)) _ _ HX.out)
    go_wp2_with (go_loud (refine wpList_store_row rfl 38 _ _ rfl w1.heap.size (m.arr (.slice la m.l.length lc) (.slice ea m.es.length ec)) rfl rfl 38 _ HX.out HI.out rfl (msg_one m _ _ _ _ _ _) ?_))
    obtain ⟨w2, hw2⟩ : ∃ w2, w2 = (w1.alloc (.cells #[.int .u8 0, .int .i64 0, .int .i64 0, .int .i64 0, .int .i64 0, .int .i64 0, .int .i64 0, .bool false, .slice none 0 0, .slice none 0 0, .string ⟨#[]⟩] 38)).setRow w1.heap.size (m.arr (.slice la m.l.length lc) (.slice ea m.es.length ec)) := ⟨_, rfl⟩
    obtain ⟨hx2, hb2, hs2⟩ := box_put w2 hw2
    rw [← hw2]
    obtain ⟨w3, hw3⟩ : ∃ w3, w3 = w2.alloc (.cells (m.arr (.slice la m.l.length lc) (.slice ea m.es.length ec)) 38) := ⟨_, rfl⟩
    have hb3 : Below w2.heap.size w2 w3 := by rw [hw3]; exact (Below.refl _ _).alloc (Nat.le_refl _) _
    have hs3 : w3.heap.size = w1.heap.size + 2 := by rw [hw3]; simp [hs2]
    have hb13 : Below w1.heap.size w1 w3 := bw hb2 hb3
    have hb03 : Below w.heap.size w w3 := bw HB1.out hb13
    have hx3 : w3.heap[w1.heap.size + 1]? = some (msgO m (.slice la m.l.length lc) (.slice ea m.es.length ec)) := by rw [hw3, ← hs2]; exact heap_alloc_new w2 _
    have hsz := HB1.out.size
    have hms : MsgsIn (fun k => ¬ ((S k ∧ k < w.heap.size) ∨ w3.heap.size ≤ k)) w3 (.slice (some ⟨w1.heap.size + 1, 0, none⟩) 1 1) [(m, .slice la m.l.length lc, .slice ea m.es.length ec)] := by
      refine ⟨⟨_, _, rfl, Nat.le_refl _, (fun e => by cases e), .inr ⟨_, _, rfl, by omega, by omega, fun j u hu => ?_⟩⟩, fun x hx => ?_⟩
      · rw [Nat.zero_add, Lib.cell_of_heap hx3]
        have e : rowC [(m, Value.slice la m.l.length lc, Value.slice ea m.es.length ec)] = m.list (.slice la m.l.length lc) (.slice ea m.es.length ec) := by simp [rowC]
        rw [e] at hu
        rw [← List.getElem?_toArray] at hu
        exact hu
      · simp only [List.mem_singleton] at hx
        subst hx
        have h1 : LI (fun k => w.heap.size ≤ k ∧ k < w1.heap.size) w1 m (.slice la m.l.length lc) (.slice ea m.es.length ec) := HL.out
        exact (h1.below hb13).mono (fun k _ hk => by omega)
    have hsend := Send_any (H.out.narrow hb03) (fun k hk => .inr hk) hms (fun y hy => by simp only [List.mem_singleton] at hy; subst hy; obtain ⟨k, _, _, e⟩ := getI_some hg; exact H.out.sm m (List.mem_of_getElem? e)) HC.out
    have HSM : Hid (∀ k, k < w3.heap.size → ((S k ∧ k < w.heap.size) ∨ w3.heap.size ≤ k) → S k) := fun k hk hh => hh.elim (fun h => h.1) (fun h => by omega)
    have HSM2 : Hid (∀ k, ((S k ∧ k < w.heap.size) ∨ w3.heap.size ≤ k) → S k) := fun k hh => hh.elim (fun h => h.1) (fun h => HS.out k (by omega))
    have HK3 : Hid (Kept S w w3) := Kept.of_below hb03
    have HGS : Hid (doubleS most ms i = if ms.length < most then (true, ms ++ [m]) else (false, ms)) := by show _ = _; unfold doubleS; rw [hg]
    have hnum : min [(m, Value.slice la m.l.length lc, Value.slice ea m.es.length ec)].length (most - ms.length) = if ms.length < most then 1 else 0 := by
      simp only [List.length_singleton]; split <;> omega
    rw [hnum] at hsend
    clear hms hx3 hx2 hb2 hb3 hb13 hb03 d0 d1 d2 d3 d4 d5 d6 d7 d8 d9 d10 hnum hw2 hs2 hsz
    rw [← hw3]
    clear hw3 hs3
    refine hsend.mono ?_
    rintro e w4 ⟨rfl, hb4, hk4⟩
    have HB4 := Lib.hid hb4
    have HK4 := Lib.hid hk4
    clear hsend hb4 hk4
    by_cases hlt : ms.length < most
    · simp only [hlt, if_true] at HB4 ⊢
      go_wp2
      go_ret
      rw [HGS.out, if_pos hlt]
      exact ⟨rfl, by simpa using HB4.out.mono (fun k _ hh => HSM2.out k hh), HK3.out.trans (HK4.out.mono (fun k _ hh => HSM2.out k hh))⟩
    · simp only [hlt, if_false] at HB4 ⊢
      go_wp2
      go_ret
      rw [HGS.out, if_neg hlt]
      exact ⟨rfl, by simpa using HB4.out.mono (fun k _ hh => HSM2.out k hh), HK3.out.trans (HK4.out.mono (fun k _ hh => HSM2.out k hh))⟩
end Go.Proofs.Ytheldpdckgoniaa
