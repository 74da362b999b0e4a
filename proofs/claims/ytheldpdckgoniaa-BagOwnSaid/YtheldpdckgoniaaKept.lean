/- A message as the bag keeps it. -/
import Derived.Test.YtheldpdckgoniaaTold
import Derived.Test.YtheldpdckgoniaaShelf
namespace Go.Proofs.Ytheldpdckgoniaa
open Go.RowKit

set_option maxHeartbeats 1000000 in
theorem clone_any (s : ByteArray) (w : World) (hlim : s.size ≤ 281474976710656) :
    Calls Try.prog 36 #[.string s] w fun e w' => e = .returned (.string s) ∧ Below w.heap.size w w' := by
  go_enter Try.func36, Try.ntmps36
  go_wp2_with fail
  refine (Try.stringslite_Clone s _ hlim).mono ?_
  rintro e w1 ⟨rfl, h⟩
  go_wp2
  go_ret
  exact ⟨rfl, h⟩
theorem set_same {cur : Array Value} {j : Nat} {u : Value} (h : cur[j]? = some u) : cur.setIfInBounds j u = cur := by
  apply Array.ext_getElem?
  intro i
  by_cases hi : i = j
  · subst hi
    obtain ⟨hlt, e⟩ := Array.getElem?_eq_some_iff.1 h
    simp [Array.getElem?_setIfInBounds, hlt, h, e]
  · simp [Array.getElem?_setIfInBounds, Ne.symm hi]
/-- what stands there is written there again: nothing changes -/
theorem heap_set_same {w : World} {g j : Nat} {cur : Array Value} {t : TypeId} {k : Nat × Nat} {u : Value} (h : w.heap[g]? = some (.cells cur t k)) (hu : cur[j]? = some u) (i : Nat) : (w.setCell ⟨g, j, none⟩ u).heap[i]? = w.heap[i]? := by
  by_cases hi : i = g
  · subst hi
    rw [heap_set h, set_same hu, h]
  · exact Below.heap_setCell _ _ _ _ hi
/-- what kept holds between two rounds -/
structure KIn (w wr : World) (m : Msg) (lv ev : Value) : Prop where
  below : Below w.heap.size w wr
  box : wr.heap[w.heap.size]? = some (msgO m lv ev)
  res : wr.heap[w.heap.size + 1]? = some (.cells #[.int .u8 0, .int .i64 0, .int .i64 0, .int .i64 0, .int .i64 0, .int .i64 0, .int .i64 0, .bool false, .slice none 0 0, .slice none 0 0, .string ⟨#[]⟩] 38 (0, 0))
  row : EntN (w.heap.size + 2) wr ev m.es
  run : Run (fun k => w.heap.size + 2 ≤ k) wr lv m.l.length (intsC m.l)
  size : w.heap.size + 2 ≤ wr.heap.size
theorem KIn.same {w wr : World} {m : Msg} {lv ev : Value} (h : KIn w wr m lv ev) {g j : Nat} {cur : Array Value} {t : TypeId} {k : Nat × Nat} {u : Value} (hg : w.heap.size ≤ g) (hb : wr.heap[g]? = some (.cells cur t k)) (hu : cur[j]? = some u) : KIn w (wr.setCell ⟨g, j, none⟩ u) m lv ev := by
  have e := fun i => heap_set_same (w := wr) hb hu i
  have hs : (wr.setCell ⟨g, j, none⟩ u).heap.size = wr.heap.size := by simp [World.setCell]
  exact ⟨h.below.setCell (p := ⟨g, j, none⟩) hg _, (e _).trans h.box, (e _).trans h.res, own_keep h.row (fun g _ _ _ => e g), h.run.keep (Nat.le_of_eq hs.symm) (fun g _ _ => e g), by rw [hs]; exact h.size⟩
theorem KIn.next {w wr w' : World} {m : Msg} {lv ev : Value} (h : KIn w wr m lv ev) (hb : Below wr.heap.size wr w') : KIn w w' m lv ev :=
  ⟨h.below.trans (hb.mono h.below.size), box_below h.box hb, box_below h.res hb, own_keep h.row (fun g _ _ hl => hb.block g hl), h.run.below hb, Nat.le_trans h.size hb.size⟩
theorem entC_get (l : List (Int × ByteArray)) (k : Nat) (e : Int × ByteArray) (h : l[k]? = some e) : (entC l)[k * 2]? = some (.int .i64 e.1) ∧ (entC l)[k * 2 + 1]? = some (.string e.2) := by
  induction l generalizing k with
  | nil => simp at h
  | cons p r ih =>
    have e0 : entC (p :: r) = [.int .i64 p.1, .string p.2] ++ entC r := by simp [entC]
    rw [e0]
    cases k with
    | zero => simp at h; subst h; exact ⟨rfl, rfl⟩
    | succ k =>
      obtain ⟨h1, h2⟩ := ih k (by simpa using h)
      rw [List.getElem?_append_right (by simp; omega), List.getElem?_append_right (by simp; omega)]
      exact ⟨by rw [show (k + 1) * 2 - [Value.int .i64 p.1, .string p.2].length = k * 2 by simp; omega]; exact h1, by rw [show (k + 1) * 2 + 1 - [Value.int .i64 p.1, .string p.2].length = k * 2 + 1 by simp; omega]; exact h2⟩
/-- an entry of a row of one's own -/
theorem EntN.get {base : Nat} {w : World} {a : Option Addr} {n c k : Nat} {l : List (Int × ByteArray)} {e : Int × ByteArray} (h : EntN base w (.slice a n c) l) (he : l[k]? = some e) :
    ∃ g cur, a = some ⟨g, 0, none⟩ ∧ n = l.length ∧ n ≤ c ∧ base ≤ g ∧ g < w.heap.size ∧ w.heap[g]? = some (.cells cur 52 (0, 0)) ∧ cur[k * 2]? = some (.int .i64 e.1) ∧ cur[k * 2 + 1]? = some (.string e.2) := by
  have hlt := (List.getElem?_eq_some_iff.1 he).1
  have hl := h.lt
  rcases h.2 with ⟨h1, h2⟩ | ⟨g, cap, cur, h1, h2, h3, h4, h5, h6, h7⟩
  · omega
  · cases h1
    obtain ⟨e0, e1⟩ := entC_get l k e he
    rw [← h7] at e0 e1
    rw [List.getElem?_take] at e0 e1
    refine ⟨g, cur, rfl, rfl, h4, h2, (hl g rfl).2, h3, ?_, ?_⟩
    · split at e0
      · simpa using e0
      · cases e0
    · split at e1
      · simpa using e1
      · cases e1
set_option maxHeartbeats 4000000 in
set_option maxRecDepth 100000 in
theorem kept_any {B : Nat → Prop} {w : World} {m : Msg} {lv ev : Value} (h : LI B w m lv ev) (hm : Sm m) :
    Calls Try.prog 25 #[m.agg lv ev] w fun e w' => ∃ lv' ev', e = .returned (m.agg lv' ev') ∧ LI (fun k => w.heap.size ≤ k) w' m lv' ev' ∧ Below w.heap.size w w' := by
  have HM := Lib.hid hm
  have H := Lib.hid h
  obtain ⟨la, lc, rfl, _⟩ := h.1.slice
  obtain ⟨ea, ec, rfl, _⟩ := h.2.slice
  clear h hm
  have HI : Hid ((Try.prog.info? 38).map (·.size) = some 11) := infoMsg
  go_enter Try.func25, Try.ntmps25
  go_wp2_with fail
  have B1 : Hid (Below w.heap.size w ((w.alloc (.cells (m.arr (.slice la m.l.length lc) (.slice ea m.es.length ec)) 38)).alloc (.cells #[.int .u8 0, .int .i64 0, .int .i64 0, .int .i64 0, .int .i64 0, .int .i64 0, .int .i64 0, .bool false, .slice none 0 0, .slice none 0 0, .string ⟨#[]⟩] 38))) := ((Below.refl _ _).alloc (Nat.le_refl _) _).alloc (by simp) _
  have X1 : ((w.alloc (.cells (m.arr (.slice la m.l.length lc) (.slice ea m.es.length ec)) 38)).alloc (.cells #[.int .u8 0, .int .i64 0, .int .i64 0, .int .i64 0, .int .i64 0, .int .i64 0, .int .i64 0, .bool false, .slice none 0 0, .slice none 0 0, .string ⟨#[]⟩] 38)).heap[w.heap.size]? = some (msgO m (.slice la m.l.length lc) (.slice ea m.es.length ec)) := (Below.heap_alloc _ _ _ (by simp)).trans (heap_alloc_new w _)
  have Y1 : ((w.alloc (.cells (m.arr (.slice la m.l.length lc) (.slice ea m.es.length ec)) 38)).alloc (.cells #[.int .u8 0, .int .i64 0, .int .i64 0, .int .i64 0, .int .i64 0, .int .i64 0, .int .i64 0, .bool false, .slice none 0 0, .slice none 0 0, .string ⟨#[]⟩] 38)).heap[w.heap.size + 1]? = some (.cells #[.int .u8 0, .int .i64 0, .int .i64 0, .int .i64 0, .int .i64 0, .int .i64 0, .int .i64 0, .bool false, .slice none 0 0, .slice none 0 0, .string ⟨#[]⟩] 38 (0, 0)) := by have := heap_alloc_new (w.alloc (.cells (m.arr (.slice la m.l.length lc) (.slice ea m.es.length ec)) 38)) (.cells #[.int .u8 0, .int .i64 0, .int .i64 0, .int .i64 0, .int .i64 0, .int .i64 0, .int .i64 0, .bool false, .slice none 0 0, .slice none 0 0, .string ⟨#[]⟩] 38); rwa [World.size_alloc] at this
  have S1 : ((w.alloc (.cells (m.arr (.slice la m.l.length lc) (.slice ea m.es.length ec)) 38)).alloc (.cells #[.int .u8 0, .int .i64 0, .int .i64 0, .int .i64 0, .int .i64 0, .int .i64 0, .int .i64 0, .bool false, .slice none 0 0, .slice none 0 0, .string ⟨#[]⟩] 38)).heap.size = w.heap.size + 2 := by simp
  generalize (w.alloc (.cells (m.arr (.slice la m.l.length lc) (.slice ea m.es.length ec)) 38)).alloc (.cells #[.int .u8 0, .int .i64 0, .int .i64 0, .int .i64 0, .int .i64 0, .int .i64 0, .int .i64 0, .bool false, .slice none 0 0, .slice none 0 0, .string ⟨#[]⟩] 38) = w1 at *
  refine (told_own (H.out.below B1.out) HM.out).mono ?_
  rintro e w2 ⟨lv', ev', rfl, l2, e2, b2⟩
  have X2 := Lib.hid (box_below X1 b2)
  have Y2 := Lib.hid (box_below Y1 b2)
  have B2 : Hid (Below w.heap.size w w2) := B1.out.trans (b2.mono B1.out.size)
  have S2 : w.heap.size + 2 ≤ w2.heap.size := by have := b2.size; omega
  obtain ⟨la', lc', rfl, _⟩ := l2.1.slice
  obtain ⟨ea', ec', rfl, _⟩ := l2.2.slice
  have R2 : Hid (Run (fun k => w.heap.size + 2 ≤ k) w2 (.slice la' m.l.length lc') m.l.length (intsC m.l)) := l2.1.mono (fun k _ hk => by omega)
  have E2 : Hid (EntN (w.heap.size + 2) w2 (.slice ea' m.es.length ec') m.es) := own_base e2 (by omega)
  clear l2 e2 b2 X1 Y1
  have K3 : Hid (KIn w (w2.setRow w.heap.size (m.arr (.slice la' m.l.length lc') (.slice ea' m.es.length ec'))) m (.slice la' m.l.length lc') (.slice ea' m.es.length ec')) := by
    have hk : ∀ g, g ≠ w.heap.size → (w2.setRow w.heap.size (m.arr (.slice la' m.l.length lc') (.slice ea' m.es.length ec'))).heap[g]? = w2.heap[g]? := fun g hg => setRow_other _ _ g _ hg
    have hs : w2.heap.size ≤ (w2.setRow w.heap.size (m.arr (.slice la' m.l.length lc') (.slice ea' m.es.length ec'))).heap.size := by simp [World.setRow]
    exact ⟨below_setRow B2.out (Nat.le_refl _) _, setRow_heap _ _ _ _ _ _ X2.out, (hk _ (by omega)).trans Y2.out, own_keep E2.out (fun g _ hg _ => hk g (by omega)), R2.out.keep hs (fun g hg _ => hk g (by omega)), by omega⟩
  have hd : ∀ w', KIn w w' m (.slice la' m.l.length lc') (.slice ea' m.es.length ec') → w'.cell? ⟨w.heap.size, 10, none⟩ = some (.string m.d) ∧ w'.cell? ⟨w.heap.size, 9, none⟩ = some (.slice ea' m.es.length ec') ∧ ∀ j, w'.frozen? ⟨w.heap.size, j, none⟩ = false := fun w' k => ⟨Lib.cell_of_heap k.box 10, Lib.cell_of_heap k.box 9, fun j => Lib.frozen_of_heap k.box j⟩
  have HD := Lib.hid hd
  clear hd
  obtain ⟨c10, c9, cf⟩ := HD.out _ K3.out
  go_wp2_with (go_loud (refine wpList_store_row rfl 38 _ _ rfl w.heap.size (m.arr (.slice la' m.l.length lc') (.slice ea' m.es.length ec')) rfl rfl 38 _ X2.out HI.out rfl (msg_one m _ _ _ _ _ _) ?_))
  generalize w2.setRow w.heap.size (m.arr (.slice la' m.l.length lc') (.slice ea' m.es.length ec')) = w3 at *
  refine (clone_any m.d w3 HM.out.d).mono ?_
  rintro e w4 ⟨rfl, b4⟩
  have K4 := K3.out.next b4
  obtain ⟨d10, d9, df⟩ := HD.out _ K4
  have K5 : Hid (KIn w (w4.setCell ⟨w.heap.size, 10, none⟩ (.string m.d)) m (.slice la' m.l.length lc') (.slice ea' m.es.length ec')) := K4.same (g := w.heap.size) (j := 10) (Nat.le_refl _) K4.box rfl
  clear K3 B2 X2 Y2 R2 E2 S2 b4 c10 c9 cf K4
  go_wp2
  generalize w4.setCell ⟨w.heap.size, 10, none⟩ (.string m.d) = w5 at *
  have HL := HM.out.e
  clear d10 d9 df
  go_loopw [14] (fun i wr => ∃ k : Nat, k ≤ m.es.length ∧ i = .int .i64 k ∧ Hid (KIn w wr m (.slice la' m.l.length lc') (.slice ea' m.es.length ec'))) (fun i _ => m.es.length - (intOf i).toNat)
  case atStart => exact ⟨0, by omega, rfl, K5⟩
  case round =>
    obtain ⟨k, hk, rfl, KR⟩ := hrel
    by_cases hlt : k < m.es.length
    · have hlti : (k : Int) < (m.es.length : Int) := by omega
      obtain ⟨p, hp⟩ : ∃ p, m.es[k]? = some p := ⟨m.es[k], List.getElem?_eq_getElem hlt⟩
      have hpd := HM.out.ed p (List.mem_of_getElem? hp)
      obtain ⟨g, cur, e1, _, _, hg, hgl, hgb, u0, u1⟩ := KR.out.row.get hp
      cases e1
      have x0 : wr.cell? ⟨g, k * 2, none⟩ = some (.int .i64 p.1) := by rw [Lib.cell_of_heap hgb]; exact u0
      have x1 : wr.cell? ⟨g, k * 2 + 1, none⟩ = some (.string p.2) := by rw [Lib.cell_of_heap hgb]; exact u1
      obtain ⟨_, c9, _⟩ := HD.out _ KR.out
      have KA : Hid (KIn w (wr.alloc (.cells #[.int .i64 p.1, .string p.2] 52)) m (.slice la' m.l.length lc') (.slice (some ⟨g, 0, none⟩) m.es.length ec')) := KR.out.next ((Below.refl _ _).alloc (Nat.le_refl _) _)
      have y1 : (wr.alloc (.cells #[.int .i64 p.1, .string p.2] 52)).cell? ⟨wr.heap.size, 1, none⟩ = some (.string p.2) := by rw [World.cell?_alloc_new]; rfl
      have Y1 := Lib.hid y1
      have G1 : Hid ((wr.alloc (.cells #[.int .i64 p.1, .string p.2] 52)).heap[g]? = some (.cells cur 52 (0, 0))) := (Below.heap_alloc _ _ _ hgl).trans hgb
      have hgl' : g < (wr.alloc (.cells #[.int .i64 p.1, .string p.2] 52)).heap.size := by simp; omega
      have hel' : wr.heap.size < (wr.alloc (.cells #[.int .i64 p.1, .string p.2] 52)).heap.size := by simp
      have HGL := Lib.hid (And.intro hgl' hel')
      have U1 := Lib.hid u1
      have HPD := Lib.hid hpd
      clear hgb u0 u1 hp y1 hgl' hel' hpd
      go_wp2_with fail
      obtain ⟨_, c9a, _⟩ := HD.out _ KA.out
      have y1a := Y1.out
      generalize (wr.alloc (.cells #[.int .i64 p.1, .string p.2] 52)) = wa at *
      go_region_held3 (fun w' => w'.cell? ⟨w.heap.size, 9, none⟩ = some (.slice (some ⟨g, 0, none⟩) m.es.length ec') ∧ w'.cell? ⟨wr.heap.size, 1, none⟩ = some (.string p.2))
        (first
          | exact ⟨c9a, y1a⟩
          | exact HM6.out
          | exact HM7.out)
        (first
          | (go_at_call 36; refine (clone_any p.2 _ HPD.out).mono ?_; rintro e w6 ⟨rfl, hb6⟩; have HB6 : Hid (Below wa.heap.size wa w6) := ⟨hb6.os, hb6.tape, hb6.output, hb6.size, hb6.block⟩; have HM6 := Lib.hid (And.intro ((HB6.out.cell (p := ⟨w.heap.size, 9, none⟩) (Array.getElem?_eq_some_iff.1 KA.out.box).1).trans c9a) ((HB6.out.cell (p := ⟨wr.heap.size, 1, none⟩) HGL.out.2).trans y1a)); have G6 := Lib.hid (box_below G1.out HB6.out); have s6 : w6.cell? ⟨g, k * 2 + 1, none⟩ = some (.string p.2) := (Lib.cell_of_heap G6.out (k * 2 + 1)).trans U1.out; have f6 := Lib.frozen_of_heap G6.out (k * 2 + 1); have HM7 : Hid ((w6.setCell ⟨g, k * 2 + 1, none⟩ (.string p.2)).cell? ⟨w.heap.size, 9, none⟩ = some (.slice (some ⟨g, 0, none⟩) m.es.length ec') ∧ (w6.setCell ⟨g, k * 2 + 1, none⟩ (.string p.2)).cell? ⟨wr.heap.size, 1, none⟩ = some (.string p.2)) := ⟨(World.cell?_of_block (a := ⟨w.heap.size, 9, none⟩) (Below.heap_setCell _ _ _ _ (by show w.heap.size ≠ g; omega))).trans HM6.out.1, (World.cell?_of_block (a := ⟨wr.heap.size, 1, none⟩) (Below.heap_setCell _ _ _ _ (by show wr.heap.size ≠ g; omega))).trans HM6.out.2⟩; clear hb6))
      all_goals
        go_wp2
        go_roundw
        case rel => exact ⟨k + 1, by omega, by go_num, (KA.out.next HB6.out).same (by omega) G6.out U1.out⟩
        case measure => simp [intOf]; omega
    · have hlti : ¬ (k : Int) < (m.es.length : Int) := by omega
      have X5 := Lib.hid KR.out.box
      have Y5 := Lib.hid KR.out.res
      go_wp2_with (first
        | (refine wpList_load_row rfl 38 _ rfl w.heap.size rfl 38 (m.arr (.slice la' m.l.length lc') (.slice ea' m.es.length ec')) (0, 0) _ X5.out Try.underlying38 rfl HI.out ?_)
        | (refine wpList_store_row rfl 38 _ _ rfl (w.heap.size + 1) (m.arr (.slice la' m.l.length lc') (.slice ea' m.es.length ec')) rfl rfl 38 _ Y5.out HI.out rfl (msg_one m _ _ _ _ _ _) ?_))
      have k6 : ∀ g, w.heap.size + 2 ≤ g → (wr.setRow (w.heap.size + 1) (m.arr (.slice la' m.l.length lc') (.slice ea' m.es.length ec'))).heap[g]? = wr.heap[g]? := fun g hg => setRow_other _ _ g _ (by omega)
      have s6 : wr.heap.size ≤ (wr.setRow (w.heap.size + 1) (m.arr (.slice la' m.l.length lc') (.slice ea' m.es.length ec'))).heap.size := by simp [World.setRow]
      have E6 := own_keep KR.out.row (fun g _ hg _ => k6 g hg)
      refine bodyPost_ret (v := m.agg (.slice la' m.l.length lc') (.slice ea' m.es.length ec')) (results_cell_row rfl _ _ (w.heap.size + 1) 38 (m.arr (.slice la' m.l.length lc') (.slice ea' m.es.length ec')) (0, 0) _ rfl (setRow_heap _ _ _ _ _ _ Y5.out) Try.underlying38 rfl HI.out) rfl ?_
      exact ⟨_, _, rfl, ⟨(KR.out.run.keep s6 (fun g hg _ => k6 g hg)).mono (fun k _ hk => by omega), (entN_run E6).mono (fun k _ hk => by omega)⟩, below_setRow KR.out.below (by omega) _⟩
end Go.Proofs.Ytheldpdckgoniaa
