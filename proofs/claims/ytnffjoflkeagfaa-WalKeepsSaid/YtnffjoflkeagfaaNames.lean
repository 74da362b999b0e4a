/- New, Read, Break, Names. -/
import Derived.Test.YtnffjoflkeagfaaMeth2
import Derived.Test.YtnffjoflkeagfaaIter
import Derived.Shelf.SortM.Plain
namespace Go.Proofs.Ytnffjoflkeagfaa
open Go.RowKit Go.Maps

set_option maxHeartbeats 1000000 in
theorem New_any {S : Nat → Prop} (w : World) (hS : ∀ k, w.heap.size ≤ k → S k) (room : Int) (hr : room ≤ 9223372036854775807) :
    Calls Try.prog 10 #[.int .i64 room] w fun e w' => e = .returned (ptrV w.heap.size) ∧ DiskAt S w' w.heap.size (newS room) ∧ Below w.heap.size w w' := by
  have hd : DiskAt S (w.alloc (diskC (.map none) (newS room) false 0)) w.heap.size (newS room) := by
    refine ⟨own1 (fun _ => .no) w.heap.size .disk, .map none, false, 0, fun k hk => ?_, own1_same _ _ _, heap_alloc_new w _, fun _ => ⟨rfl, fun h => by cases h⟩, .inl ⟨rfl, rfl⟩, ⟨by simp [newS, Sorted], by simp [newS, usedF], by simp only [newS]; omega, by simp [newS], by simp [newS], by simp [newS]⟩⟩
    by_cases e : k = w.heap.size
    · subst e; exact ⟨hS _ (Nat.le_refl _), by simp⟩
    · rw [own1_other _ _ _ e] at hk; exact absurd rfl hk
  have hm : max room 0 = ((newS room).room : Int) := by simp only [newS]; omega
  have HD := Lib.hid hd
  have HM := Lib.hid hm
  clear hd hm
  go_enter Try.func10, Try.ntmps10
  go_wp2
  go_ret
  rw [HM.out]
  exact ⟨rfl, HD.out, (Below.refl _ _).alloc (Nat.le_refl _) _⟩
set_option maxHeartbeats 1000000 in
theorem Break_any {S : Nat → Prop} {w : World} {db : Nat} {s : St} (h : DiskAt S w db s) (n : Int) (hn : n ≤ 9223372036854775807) :
    Calls Try.prog 29 #[ptrV db, .int .i64 n] w fun e w' => e = .returned (.tuple #[]) ∧ DiskAt S w' db (breakS s n) ∧ Kept S w w' := by
  obtain ⟨own, mv, wv, mo, h⟩ := h
  have c4 := h.c4
  have c5 := h.c5
  have f4 := h.f 4
  have f5 := h.f 5
  have H := Lib.hid h
  clear h
  go_enter Try.func29, Try.ntmps29
  go_wp2
  go_end0
  have hS := (H.out.mine db (by rw [H.out.disk]; simp)).1
  refine ⟨rfl, ?_, ((Kept.refl S w).set (.inl hS) _).set (.inl hS) _⟩
  have hb := H.out.block
  have hsz : ((w.setCell ⟨db, 4, none⟩ (.bool true)).setCell ⟨db, 5, none⟩ (.int .i64 (max n 0))).heap.size = w.heap.size := by simp [World.setCell]
  refine ⟨own, mv, true, max n 0, H.out.reblock hsz (fun k hk => by rw [Below.heap_setCell _ _ _ _ hk, Below.heap_setCell _ _ _ _ hk]) ?_ (by unfold breakS; split <;> rfl) (fun hd => ?_) ?_⟩
  · have e : diskC mv (breakS s n) true (max n 0) = diskC mv s true (max n 0) := by unfold breakS; split <;> rfl
    rw [e]
    simp [World.setCell, Array.getElem?_modify, hb, diskC]
  · have hd' : s.down = false := by
      cases e : s.down
      · rfl
      · unfold breakS at hd; rw [if_pos e, e] at hd; cases hd
    unfold breakS
    rw [if_neg (by rw [hd']; simp)]
    exact ⟨rfl, fun _ => by simp only; omega⟩
  · unfold breakS
    split
    · exact H.out.fit
    · exact fit_same H.out.fit _ _ _ (by omega)
theorem ret2s {a a' : ByteArray} {b b' : Int} (h1 : a = a') (h2 : b = b') : Ending.returned (.tuple #[.string a, .int .i64 b]) = .returned (.tuple #[.string a', .int .i64 b']) := by rw [h1, h2]
set_option maxRecDepth 100000 in
set_option maxHeartbeats 2000000 in
theorem Read_any {S : Nat → Prop} {w : World} {db : Nat} {s : St} (h : DiskAt S w db s) (name : ByteArray) (hn : name.size ≤ 9223372036854775807) :
    Calls Try.prog 33 #[ptrV db, .string name] w fun e w' => e = .returned (.tuple #[.string (mk (readS s (bs name)).1), .int .i64 (readS s (bs name)).2]) ∧ Below w.heap.size w w' := by
  have hd := Down_any h
  obtain ⟨own, mv, wv, mo, h⟩ := h
  by_cases hdn : s.down = true
  · have HR : Hid (readS s (bs name) = ([], 41)) := by show _ = _; unfold readS; rw [if_pos hdn]
    generalize readS s (bs name) = R at *
    rw [hdn] at hd
    clear h hdn
    go_enter Try.func33, Try.ntmps33
    go_wp2_with fail
    refine hd.mono ?_
    rintro e w1 ⟨rfl, rfl⟩
    go_wp2
    go_ret2
    rw [HR.out]
    exact ⟨rfl, Below.refl _ _⟩
  · have hlt := h.lt
    obtain ⟨v, hbf, hl⟩ := h.map.look name hn
    obtain ⟨va, vc, rfl⟩ := hbf.slice
    have c0 := h.c0
    have c0a := fun o => (cell_alloc w o 0 hlt).trans c0
    have hl0 := (hl w (fun g _ => rfl)).2
    have hl1 := (hl w.drew (fun g _ => rfl)).2
    have hB : Below w.heap.size w (w.alloc (.cells #[.slice va (getF s.fs (bs name)).b.length vc, .int .i64 ((getF s.fs (bs name)).s : Int), .bool (getF s.fs (bs name)).u] 71)) := (Below.refl _ _).alloc (Nat.le_refl _) _
    have hcv := (hbf.kept (own' := own) hB.size (fun g hg hlg => ⟨hB.block g hlg, hg⟩)).text (P := Try.prog) 69 9 5 Try.underlying69 Try.underlying5 Try.underlying9
    have HB := Lib.hid hB
    have hdn' : s.down = false := by simpa using hdn
    by_cases ht : (look s.fs (bs name)).isSome = true
    · have HR : Hid (readS s (bs name) = ((getF s.fs (bs name)).b, 0)) := by show _ = _; unfold readS; rw [if_neg hdn, if_pos ht]
      rw [ht] at hl0 hl1
      rw [hdn'] at hd
      clear h hl hbf hB hdn hdn' ht
      generalize readS s (bs name) = R at *
      go_enter Try.func33, Try.ntmps33
      go_wp2_with fail
      refine hd.mono ?_
      rintro e w1 ⟨rfl, rfl⟩
      go_wp2
      go_ret2
      rw [HR.out]
      exact ⟨rfl, HB.out⟩
    · have HR : Hid (readS s (bs name) = ([], 42)) := by show _ = _; unfold readS; rw [if_neg hdn, if_neg ht]
      have ht' : (look s.fs (bs name)).isSome = false := by simpa using ht
      rw [ht'] at hl0 hl1
      rw [hdn'] at hd
      clear h hl hbf hB hdn hdn' ht ht'
      generalize readS s (bs name) = R at *
      go_enter Try.func33, Try.ntmps33
      go_wp2_with fail
      refine hd.mono ?_
      rintro e w1 ⟨rfl, rfl⟩
      go_wp2
      go_ret2
      rw [HR.out]
      exact ⟨rfl, HB.out⟩
theorem sorted_names {fs : Fs} (hs : Sorted fs) {D : DataW Value} {ss : List (List UInt8)} (hp : ss.Perm (strKeys D)) (hk : (fs.map (·.1)).Perm (strKeys D)) : ss.mergeSort (fun x y => decide (x ≤ y)) = fs.map (·.1) := by
  have h1 := mergeSort_of_perm (hp.trans hk.symm)
  have h2 : (fs.map (·.1)).mergeSort leB = fs.map (·.1) := List.mergeSort_of_pairwise (sorted_keys hs).2
  exact h1.trans h2
set_option maxHeartbeats 2000000 in
theorem Names_any {S : Nat → Prop} {w : World} {db : Nat} {s : St} (h : DiskAt S w db s) (hc : s.fs.length ≤ 1099511627776) :
    Calls Try.prog 20 #[ptrV db] w fun e w' => ∃ v, e = .returned v ∧ w'.ownsRow w.heap.size 9 1 v s.fs.length (s.fs.map (fun p => Value.string (mk p.1))) ∧ Below w.heap.size w w' := by
  obtain ⟨own, mv, wv, mo, h⟩ := h
  have c0 := h.c0
  have hso := h.fit.sorted
  rcases h.map with ⟨rfl, hf⟩ | ⟨mb, D, rfl, h1, h2, h3, h4⟩
  · have k1 := callsIn_wide.1 (Try.maps_Keys_47 none w)
    have k2 := callsIn_wide.1 (Try.slices_Sorted_keys_nil_46_47 w)
    have HF := Lib.hid hf
    clear h hf hso hc
    go_enter Try.func20, Try.ntmps20
    go_wp2_with fail
    refine k1.mono ?_
    rintro e w1 ⟨rfl, rfl⟩
    go_wp2_with fail
    refine k2.mono ?_
    rintro e w2 ⟨v, ss, rfl, hS, hrow, hnil, hb⟩
    have HR := Lib.hid (ownsRow_base_a (base' := w.heap.size) hrow (by simp))
    have HB := Lib.hid (((Below.refl _ w).alloc (Nat.le_refl _) _).trans (hb.mono (by simp)))
    have HS := Lib.hid hS
    have HN := Lib.hid (hnil.2 hS)
    clear hrow hb hS hnil
    go_wp2
    go_ret
    refine ⟨_, rfl, ?_, HB.out⟩
    have hr := HR.out
    rw [HS.out] at hr
    rw [HF.out]
    simpa using hr
  · have hsz := map_size h2 hso h3
    have hkp := keys_perm h2 hso h3
    have k1 := callsIn_wide.1 (Try.maps_Keys_47 (some mb) w)
    have k2 := callsIn_wide.1 (Try.slices_Sorted_keys_46_47 mb _ D Rv w h2 (by rw [hsz]; unfold maxLen; omega) (by rw [hsz]; omega))
    have HP := Lib.hid hkp
    have HSO := Lib.hid hso
    clear h hso hc h1 h2 h3 h4 hkp hsz
    go_enter Try.func20, Try.ntmps20
    go_wp2_with fail
    refine k1.mono ?_
    rintro e w1 ⟨rfl, rfl⟩
    go_wp2_with fail
    refine k2.mono ?_
    rintro e w2 ⟨v, ss, rfl, hS, hrow, hnil, hb⟩
    have HR := Lib.hid (ownsRow_base_a (base' := w.heap.size) hrow (by simp))
    have HB := Lib.hid (((Below.refl _ w).alloc (Nat.le_refl _) _).trans (hb.mono (by simp)))
    have HS := Lib.hid hS
    clear hrow hb hS hnil k1 k2
    go_wp2
    go_ret
    refine ⟨_, rfl, ?_, HB.out⟩
    have hr := HR.out
    have hss := sorted_names HSO.out HS.out HP.out
    have hlen : ss.length = s.fs.length := by rw [HS.out.length_eq, ← HP.out.length_eq, List.length_map]
    rw [hss, hlen, List.map_map] at hr
    exact hr
end Go.Proofs.Ytnffjoflkeagfaa
