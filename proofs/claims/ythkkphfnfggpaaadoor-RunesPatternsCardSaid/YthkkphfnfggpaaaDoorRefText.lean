/- Text of the reference. -/
import Derived.Test.YthkkphfnfggpaaaDoorText
import Derived.Lib.SlBytesRow
import Derived.Lib.BufferRead
namespace Go.Proofs.YthkkphfnfggpaaaDoor
open Go.RowKit

/-- a row of bytes as a text -/
theorem conv_own {w : World} {B : Nat} {v : Value} {l : List UInt8} (h : w.ownsRow B 5 1 v l.length (Lib.byteCells l)) :
    (convert 42 9 v).run Tryd.prog w = .ok (.string ⟨l.toArray⟩) w := by
  have hc := fun g hg => h.cells (g := g) hg
  rcases h.2 with ⟨rfl, h0⟩ | ⟨g, cap, cur, rfl, _, hg, hcap, _⟩
  · rw [Lib.run_convert_nil_bytes w _ _ 5 0 Tryd.underlying42 Tryd.underlying5 Tryd.underlying9, List.eq_nil_of_length_eq_zero h0]
  · have hsz : (⟨l.toArray⟩ : ByteArray).size = l.length := by simp [ByteArray.size]
    have hb : Lib.Bytes w g 0 ⟨l.toArray⟩ := by
      intro i hi
      have hi2 : i < l.length := by rw [← hsz]; exact hi
      have := hc g rfl i (.int .u8 (l[i].toNat)) (by simp [Lib.byteCells, hi2])
      have e : (⟨g, 0, none⟩ : Addr).add i = ⟨g, 0 + i, none⟩ := by unfold Addr.add; split <;> simp_all
      rw [e] at this
      rw [this]; rfl
    have := Lib.run_convert_whole (P := Tryd.prog) w 42 5 9 Tryd.underlying42 Tryd.underlying5 Tryd.underlying9 g 0 _ hb cap
    rw [hsz] at this
    exact this

set_option maxRecDepth 100000 in
set_option maxHeartbeats 4000000 in
theorem refText_any (v : Value) (l : List Int) (w : World) (hl : ListAt w v l.length (i32s l)) (hn : l.length ≤ 1099511627776) (hwf : ∀ c ∈ l, -2147483648 ≤ c ∧ c ≤ 2147483647) :
    Calls Tryd.prog 21 #[v] w fun e w' => e = .returned (.string (textS l)) ∧ Below w.heap.size w w' := by
  obtain ⟨_, aa, cap, rfl, _, hc⟩ := hl
  obtain ⟨i0, hi, hz0, hz1, hz2⟩ := info_parts info_u8
  have HC := Lib.hid hc
  clear hc
  go_enter Tryd.func21, Tryd.ntmps21
  go_wp2
  go_loopw [3, 4] (fun v i wr => ∃ k : Nat, k ≤ l.length ∧ i = .int .i64 k ∧ wr.ownsRow w.heap.size 5 1 v (textL (l.take k)).length (Lib.byteCells (textL (l.take k))) ∧ Below w.heap.size w wr) (fun _ i _ => l.length - (intOf i).toNat)
  case atStart => exact ⟨0, by omega, rfl, World.ownsRow_nil _ _ _ _, Below.refl _ _⟩
  case round =>
    obtain ⟨k, hk, rfl, hown, hbw⟩ := hrel
    by_cases hlt : k < l.length
    · obtain ⟨ba, offa, rfl, hba, hca⟩ := HC.out.resolve_left (by omega)
      have c1 : wr.cell? ⟨ba, offa + k, none⟩ = some (.int .i32 (l.getD k 0)) := (hbw.cell (p := ⟨ba, offa + k, none⟩) hba).trans (ListAt.i32 hca k hlt)
      have hb := hwf (l.getD k 0) (by rw [List.getD, List.getElem?_eq_getElem hlt]; exact List.getElem_mem hlt)
      have hbl : (textL (l.take k)).length + 4 ≤ 140737488355328 := by
        have := textL_len (l.take k); simp at this; omega
      have HT : Hid (Lib.byteCells (textL (l.take (k + 1))) = Lib.byteCells (textL (l.take k)) ++ Lib.runeCells (l.getD k 0)) := by
        show _ = _
        rw [take_snoc l k hlt, textL_snoc, byteCells_app, Lib.byteCells_encodeRune]
      have HT2 : Hid ((textL (l.take (k + 1))).length = (textL (l.take k)).length + (Lib.runeCells (l.getD k 0)).length) := by
        show _ = _
        rw [take_snoc l k hlt, textL_snoc, List.length_append, Lib.runeCells_length]
      clear hca
      generalize l.getD k 0 = c at *
      by_cases hbad : c < 0 ∨ (55296 ≤ c ∧ c ≤ 57343) ∨ 1114111 < c
      · rcases hbad with h | h | h
        · skip
          have HR : Hid (Lib.runeCells c = [.int .u8 (239), .int .u8 (191), .int .u8 (189)]) := by show _ = _; unfold Lib.runeCells; rw [Lib.encodeRuneZ_bad (Or.inl h)]; rfl
          rw [HR.out] at HT HT2
          go_wp2_with (at_builtin; refine wpList_append_own _ rfl _ _ 42 rfl w.heap.size 5 i0 (.int .u8 0) 1 1 Tryd.underlying42 hi hz0 hz1 hz2 rfl (by decide) _ _ _ rfl (hown.alloc _) ⟨wr.heap.size, 0, none⟩ 3 3 [.int .u8 (239), .int .u8 (191), .int .u8 (189)] rfl rfl (newsL wr _ [.int .u8 (239), .int .u8 (191), .int .u8 (189)]) (ones .u8 [_, _, _]) (by unfold maxLen; omega) (by omega) (by have := hbw.size; simp; omega) ?_)
          intro v' w1 hown' hgrow _
          have hb1 : Below w.heap.size w w1 := (hbw.alloc hbw.size _).grown hgrow (by have := hbw.size; simp; omega) (fun k hk => (hown.lt k hk).1)
          have HO := Lib.hid hown'
          clear hown hown' hgrow hbw
          go_wp2
          go_roundw
          case rel => exact ⟨k + 1, by omega, by go_num, by rw [HT.out, HT2.out]; exact HO.out, hb1⟩
          case measure => simp [intOf]; omega
        · skip
          obtain ⟨h1, h2⟩ := h
          have HR : Hid (Lib.runeCells c = [.int .u8 (239), .int .u8 (191), .int .u8 (189)]) := by show _ = _; unfold Lib.runeCells; rw [Lib.encodeRuneZ_bad (Or.inr (Or.inl ⟨h1, h2⟩))]; rfl
          rw [HR.out] at HT HT2
          go_wp2_with (at_builtin; refine wpList_append_own _ rfl _ _ 42 rfl w.heap.size 5 i0 (.int .u8 0) 1 1 Tryd.underlying42 hi hz0 hz1 hz2 rfl (by decide) _ _ _ rfl (hown.alloc _) ⟨wr.heap.size, 0, none⟩ 3 3 [.int .u8 (239), .int .u8 (191), .int .u8 (189)] rfl rfl (newsL wr _ [.int .u8 (239), .int .u8 (191), .int .u8 (189)]) (ones .u8 [_, _, _]) (by unfold maxLen; omega) (by omega) (by have := hbw.size; simp; omega) ?_)
          intro v' w1 hown' hgrow _
          have hb1 : Below w.heap.size w w1 := (hbw.alloc hbw.size _).grown hgrow (by have := hbw.size; simp; omega) (fun k hk => (hown.lt k hk).1)
          have HO := Lib.hid hown'
          clear hown hown' hgrow hbw
          go_wp2
          go_roundw
          case rel => exact ⟨k + 1, by omega, by go_num, by rw [HT.out, HT2.out]; exact HO.out, hb1⟩
          case measure => simp [intOf]; omega
        · skip
          have HR : Hid (Lib.runeCells c = [.int .u8 (239), .int .u8 (191), .int .u8 (189)]) := by show _ = _; unfold Lib.runeCells; rw [Lib.encodeRuneZ_bad (Or.inr (Or.inr h))]; rfl
          rw [HR.out] at HT HT2
          go_wp2_with (at_builtin; refine wpList_append_own _ rfl _ _ 42 rfl w.heap.size 5 i0 (.int .u8 0) 1 1 Tryd.underlying42 hi hz0 hz1 hz2 rfl (by decide) _ _ _ rfl (hown.alloc _) ⟨wr.heap.size, 0, none⟩ 3 3 [.int .u8 (239), .int .u8 (191), .int .u8 (189)] rfl rfl (newsL wr _ [.int .u8 (239), .int .u8 (191), .int .u8 (189)]) (ones .u8 [_, _, _]) (by unfold maxLen; omega) (by omega) (by have := hbw.size; simp; omega) ?_)
          intro v' w1 hown' hgrow _
          have hb1 : Below w.heap.size w w1 := (hbw.alloc hbw.size _).grown hgrow (by have := hbw.size; simp; omega) (fun k hk => (hown.lt k hk).1)
          have HO := Lib.hid hown'
          clear hown hown' hgrow hbw
          go_wp2
          go_roundw
          case rel => exact ⟨k + 1, by omega, by go_num, by rw [HT.out, HT2.out]; exact HO.out, hb1⟩
          case measure => simp [intOf]; omega
      by_cases h1 : c < 128
      · have h0 : 0 ≤ c := by omega
        clear hbad
        have HR : Hid (Lib.runeCells c = [.int .u8 (c)]) := by show _ = _; unfold Lib.runeCells; rw [Lib.encodeRuneZ_one (by omega) (by omega)]; rfl
        rw [HR.out] at HT HT2
        go_wp2_with (at_builtin; refine wpList_append_own _ rfl _ _ 42 rfl w.heap.size 5 i0 (.int .u8 0) 1 1 Tryd.underlying42 hi hz0 hz1 hz2 rfl (by decide) _ _ _ rfl (hown.alloc _) ⟨wr.heap.size, 0, none⟩ 1 1 [.int .u8 (c)] rfl rfl (newsL wr _ [.int .u8 (c)]) (ones .u8 [_]) (by unfold maxLen; omega) (by omega) (by have := hbw.size; simp; omega) ?_)
        intro v' w1 hown' hgrow _
        have hb1 : Below w.heap.size w w1 := (hbw.alloc hbw.size _).grown hgrow (by have := hbw.size; simp; omega) (fun k hk => (hown.lt k hk).1)
        have HO := Lib.hid hown'
        clear hown hown' hgrow hbw
        go_wp2
        go_roundw
        case rel => exact ⟨k + 1, by omega, by go_num, by rw [HT.out, HT2.out]; exact HO.out, hb1⟩
        case measure => simp [intOf]; omega
      by_cases h2 : c < 2048
      · clear hbad
        have HR : Hid (Lib.runeCells c = [.int .u8 (192 + c / 64), .int .u8 (128 + c % 64)]) := by show _ = _; unfold Lib.runeCells; rw [Lib.encodeRuneZ_two (by omega) (by omega)]; rfl
        rw [HR.out] at HT HT2
        go_wp2_with (at_builtin; refine wpList_append_own _ rfl _ _ 42 rfl w.heap.size 5 i0 (.int .u8 0) 1 1 Tryd.underlying42 hi hz0 hz1 hz2 rfl (by decide) _ _ _ rfl (hown.alloc _) ⟨wr.heap.size, 0, none⟩ 2 2 [.int .u8 (192 + c / 64), .int .u8 (128 + c % 64)] rfl rfl (newsL wr _ [.int .u8 (192 + c / 64), .int .u8 (128 + c % 64)]) (ones .u8 [_, _]) (by unfold maxLen; omega) (by omega) (by have := hbw.size; simp; omega) ?_)
        intro v' w1 hown' hgrow _
        have hb1 : Below w.heap.size w w1 := (hbw.alloc hbw.size _).grown hgrow (by have := hbw.size; simp; omega) (fun k hk => (hown.lt k hk).1)
        have HO := Lib.hid hown'
        clear hown hown' hgrow hbw
        go_wp2
        go_roundw
        case rel => exact ⟨k + 1, by omega, by go_num, by rw [HT.out, HT2.out]; exact HO.out, hb1⟩
        case measure => simp [intOf]; omega
      by_cases h3 : c < 65536
      · by_cases h4 : c < 55296
        · clear hbad
          have HR : Hid (Lib.runeCells c = [.int .u8 (224 + c / 4096), .int .u8 (128 + c / 64 % 64), .int .u8 (128 + c % 64)]) := by show _ = _; unfold Lib.runeCells; rw [Lib.encodeRuneZ_three (Or.inl ⟨by omega, h4⟩)]; rfl
          rw [HR.out] at HT HT2
          go_wp2_with (at_builtin; refine wpList_append_own _ rfl _ _ 42 rfl w.heap.size 5 i0 (.int .u8 0) 1 1 Tryd.underlying42 hi hz0 hz1 hz2 rfl (by decide) _ _ _ rfl (hown.alloc _) ⟨wr.heap.size, 0, none⟩ 3 3 [.int .u8 (224 + c / 4096), .int .u8 (128 + c / 64 % 64), .int .u8 (128 + c % 64)] rfl rfl (newsL wr _ [.int .u8 (224 + c / 4096), .int .u8 (128 + c / 64 % 64), .int .u8 (128 + c % 64)]) (ones .u8 [_, _, _]) (by unfold maxLen; omega) (by omega) (by have := hbw.size; simp; omega) ?_)
          intro v' w1 hown' hgrow _
          have hb1 : Below w.heap.size w w1 := (hbw.alloc hbw.size _).grown hgrow (by have := hbw.size; simp; omega) (fun k hk => (hown.lt k hk).1)
          have HO := Lib.hid hown'
          clear hown hown' hgrow hbw
          go_wp2
          go_roundw
          case rel => exact ⟨k + 1, by omega, by go_num, by rw [HT.out, HT2.out]; exact HO.out, hb1⟩
          case measure => simp [intOf]; omega
        · have h5 : 57343 < c := by omega
          clear hbad
          have HR : Hid (Lib.runeCells c = [.int .u8 (224 + c / 4096), .int .u8 (128 + c / 64 % 64), .int .u8 (128 + c % 64)]) := by show _ = _; unfold Lib.runeCells; rw [Lib.encodeRuneZ_three (Or.inr ⟨h5, by omega⟩)]; rfl
          rw [HR.out] at HT HT2
          go_wp2_with (at_builtin; refine wpList_append_own _ rfl _ _ 42 rfl w.heap.size 5 i0 (.int .u8 0) 1 1 Tryd.underlying42 hi hz0 hz1 hz2 rfl (by decide) _ _ _ rfl (hown.alloc _) ⟨wr.heap.size, 0, none⟩ 3 3 [.int .u8 (224 + c / 4096), .int .u8 (128 + c / 64 % 64), .int .u8 (128 + c % 64)] rfl rfl (newsL wr _ [.int .u8 (224 + c / 4096), .int .u8 (128 + c / 64 % 64), .int .u8 (128 + c % 64)]) (ones .u8 [_, _, _]) (by unfold maxLen; omega) (by omega) (by have := hbw.size; simp; omega) ?_)
          intro v' w1 hown' hgrow _
          have hb1 : Below w.heap.size w w1 := (hbw.alloc hbw.size _).grown hgrow (by have := hbw.size; simp; omega) (fun k hk => (hown.lt k hk).1)
          have HO := Lib.hid hown'
          clear hown hown' hgrow hbw
          go_wp2
          go_roundw
          case rel => exact ⟨k + 1, by omega, by go_num, by rw [HT.out, HT2.out]; exact HO.out, hb1⟩
          case measure => simp [intOf]; omega
      have h6 : c ≤ 1114111 := by omega
      have h7 : 57343 < c := by omega
      clear hbad
      have HR : Hid (Lib.runeCells c = [.int .u8 (240 + c / 262144), .int .u8 (128 + c / 4096 % 64), .int .u8 (128 + c / 64 % 64), .int .u8 (128 + c % 64)]) := by show _ = _; unfold Lib.runeCells; rw [Lib.encodeRuneZ_four (by omega) (by omega)]; rfl
      rw [HR.out] at HT HT2
      go_wp2_with (at_builtin; refine wpList_append_own _ rfl _ _ 42 rfl w.heap.size 5 i0 (.int .u8 0) 1 1 Tryd.underlying42 hi hz0 hz1 hz2 rfl (by decide) _ _ _ rfl (hown.alloc _) ⟨wr.heap.size, 0, none⟩ 4 4 [.int .u8 (240 + c / 262144), .int .u8 (128 + c / 4096 % 64), .int .u8 (128 + c / 64 % 64), .int .u8 (128 + c % 64)] rfl rfl (newsL wr _ [.int .u8 (240 + c / 262144), .int .u8 (128 + c / 4096 % 64), .int .u8 (128 + c / 64 % 64), .int .u8 (128 + c % 64)]) (ones .u8 [_, _, _, _]) (by unfold maxLen; omega) (by omega) (by have := hbw.size; simp; omega) ?_)
      intro v' w1 hown' hgrow _
      have hb1 : Below w.heap.size w w1 := (hbw.alloc hbw.size _).grown hgrow (by have := hbw.size; simp; omega) (fun k hk => (hown.lt k hk).1)
      have HO := Lib.hid hown'
      clear hown hown' hgrow hbw
      go_wp2
      go_roundw
      case rel => exact ⟨k + 1, by omega, by go_num, by rw [HT.out, HT2.out]; exact HO.out, hb1⟩
      case measure => simp [intOf]; omega
    · have HT : Hid (l.take k = l) := by show _ = _; exact List.take_of_length_le (by omega)
      rw [HT.out] at hown
      have hconv := conv_own hown
      go_wp2
      go_ret
      exact ⟨rfl, hbw⟩
end Go.Proofs.YthkkphfnfggpaaaDoor
