/- New, Read, Break, Names. The files, one by one; a crash. What a crash leaves of a file. A crash. -/
import Derived.Test.YtnffjoflkeagfaaGreatD4
import Derived.Test.YtnffjoflkeagfaaGreatIter
import Derived.Shelf.SortM.Plain
namespace Go.Proofs.YtnffjoflkeagfaaGreat
open Go.RowKit Go.Maps

set_option maxHeartbeats 1000000 in
theorem New_any {S : Nat → Prop} (w : World) (hS : ∀ k, w.heap.size ≤ k → S k) (room : Int) (hr : room ≤ 9223372036854775807) :
    Calls Tryz.prog 6 #[.int .i64 room] w fun e w' => e = .returned (ptrV w.heap.size) ∧ DiskAt S w' w.heap.size (newS room) ∧ Below w.heap.size w w' := by
  have hd : DiskAt S (w.alloc (diskC (.map none) (newS room) false 0)) w.heap.size (newS room) := by
    refine ⟨own1 (fun _ => .no) w.heap.size .disk, .map none, false, 0, fun k hk => ?_, own1_same _ _ _, heap_alloc_new w _, fun _ => ⟨rfl, fun h => by cases h⟩, .inl ⟨rfl, rfl⟩, ⟨by simp [newS, Sorted], by simp [newS, usedF], by simp only [newS]; omega, by simp [newS], by simp [newS], by simp [newS]⟩⟩
    by_cases e : k = w.heap.size
    · subst e; exact ⟨hS _ (Nat.le_refl _), by simp⟩
    · rw [own1_other _ _ _ e] at hk; exact absurd rfl hk
  have hm : max room 0 = ((newS room).room : Int) := by simp only [newS]; omega
  have HD := Lib.hid hd
  have HM := Lib.hid hm
  clear hd hm
  go_enter Tryz.func6, Tryz.ntmps6
  go_wp2
  go_ret
  rw [HM.out]
  exact ⟨rfl, HD.out, (Below.refl _ _).alloc (Nat.le_refl _) _⟩
set_option maxHeartbeats 1000000 in
theorem Break_any {S : Nat → Prop} {w : World} {db : Nat} {s : St} (h : DiskAt S w db s) (n : Int) (hn : n ≤ 9223372036854775807) :
    Calls Tryz.prog 15 #[ptrV db, .int .i64 n] w fun e w' => e = .returned (.tuple #[]) ∧ DiskAt S w' db (breakS s n) ∧ Kept S w w' := by
  obtain ⟨own, mv, wv, mo, h⟩ := h
  have c4 := h.c4
  have c5 := h.c5
  have f4 := h.f 4
  have f5 := h.f 5
  have H := Lib.hid h
  clear h
  go_enter Tryz.func15, Tryz.ntmps15
  go_wp2
  go_end0
  have hS := (H.out.mine db (by rw [H.out.disk]; simp)).1
  refine ⟨rfl, ?_, ((Kept.refl S w).set (.inl hS) _).set (.inl hS) _⟩
  have hb := H.out.block
  have hsz : ((w.setCell ⟨db, 4, none⟩ (.bool true)).setCell ⟨db, 5, none⟩ (.int .i64 (max n 0))).heap.size = w.heap.size := by simp [World.setCell]
  refine ⟨own, mv, true, max n 0, H.out.reblock hsz (fun k hk => by rw [Below.heap_setCell _ _ _ _ hk, Below.heap_setCell _ _ _ _ hk]) ?_ (by unfold breakS; split <;> rfl) (fun hd => ?_) ?_⟩
  · have e : diskC mv (breakS s n) true (max n 0) = diskC mv s true (max n 0) := by unfold breakS; split <;> rfl
    rw [e]
    simp [World.setCell, Array.getElem?_modify, hb, diskC]
  · have hd' : s.down = false := by
      cases e : s.down
      · rfl
      · unfold breakS at hd; rw [if_pos e, e] at hd; cases hd
    unfold breakS
    rw [if_neg (by rw [hd']; simp)]
    exact ⟨rfl, fun _ => by simp only; omega⟩
  · unfold breakS
    split
    · exact H.out.fit
    · exact fit_same H.out.fit _ _ _ (by omega)
theorem ret2s {a a' : ByteArray} {b b' : Int} (h1 : a = a') (h2 : b = b') : Ending.returned (.tuple #[.string a, .int .i64 b]) = .returned (.tuple #[.string a', .int .i64 b']) := by rw [h1, h2]
set_option maxRecDepth 100000 in
set_option maxHeartbeats 2000000 in
theorem Read_any {S : Nat → Prop} {w : World} {db : Nat} {s : St} (h : DiskAt S w db s) (name : ByteArray) (hn : name.size ≤ 9223372036854775807) :
    Calls Tryz.prog 29 #[ptrV db, .string name] w fun e w' => e = .returned (.tuple #[.string (mk (readS s (bs name)).1), .int .i64 (readS s (bs name)).2]) ∧ Below w.heap.size w w' := by
  have hd := Down_any h
  obtain ⟨own, mv, wv, mo, h⟩ := h
  by_cases hdn : s.down = true
  · have HR : Hid (readS s (bs name) = ([], 41)) := by show _ = _; unfold readS; rw [if_pos hdn]
    generalize readS s (bs name) = R at *
    rw [hdn] at hd
    clear h hdn
    go_enter Tryz.func29, Tryz.ntmps29
    go_wp2_with fail
    refine hd.mono ?_
    rintro e w1 ⟨rfl, rfl⟩
    go_wp2
    go_ret2
    rw [HR.out]
    exact ⟨rfl, Below.refl _ _⟩
  · have hlt := h.lt
    obtain ⟨v, hbf, hl⟩ := h.map.look name hn
    obtain ⟨va, vc, rfl⟩ := hbf.slice
    have c0 := h.c0
    have c0a := fun o => (cell_alloc w o 0 hlt).trans c0
    have hl0 := (hl w (fun g _ => rfl)).2
    have hl1 := (hl w.drew (fun g _ => rfl)).2
    have hB : Below w.heap.size w (w.alloc (.cells #[.slice va (getF s.fs (bs name)).b.length vc, .int .i64 ((getF s.fs (bs name)).s : Int), .bool (getF s.fs (bs name)).u] 68)) := (Below.refl _ _).alloc (Nat.le_refl _) _
    have hcv := (hbf.kept (own' := own) hB.size (fun g hg hlg => ⟨hB.block g hlg, hg⟩)).text (P := Tryz.prog) 66 9 5 Tryz.underlying66 Tryz.underlying5 Tryz.underlying9
    have HB := Lib.hid hB
    have hdn' : s.down = false := by simpa using hdn
    by_cases ht : (look s.fs (bs name)).isSome = true
    · have HR : Hid (readS s (bs name) = ((getF s.fs (bs name)).b, 0)) := by show _ = _; unfold readS; rw [if_neg hdn, if_pos ht]
      rw [ht] at hl0 hl1
      rw [hdn'] at hd
      clear h hl hbf hB hdn hdn' ht
      generalize readS s (bs name) = R at *
      go_enter Tryz.func29, Tryz.ntmps29
      go_wp2_with fail
      refine hd.mono ?_
      rintro e w1 ⟨rfl, rfl⟩
      go_wp2
      go_ret2
      rw [HR.out]
      exact ⟨rfl, HB.out⟩
    · have HR : Hid (readS s (bs name) = ([], 42)) := by show _ = _; unfold readS; rw [if_neg hdn, if_neg ht]
      have ht' : (look s.fs (bs name)).isSome = false := by simpa using ht
      rw [ht'] at hl0 hl1
      rw [hdn'] at hd
      clear h hl hbf hB hdn hdn' ht ht'
      generalize readS s (bs name) = R at *
      go_enter Tryz.func29, Tryz.ntmps29
      go_wp2_with fail
      refine hd.mono ?_
      rintro e w1 ⟨rfl, rfl⟩
      go_wp2
      go_ret2
      rw [HR.out]
      exact ⟨rfl, HB.out⟩
theorem sorted_names {fs : Fs} (hs : Sorted fs) {D : DataW Value} {ss : List (List UInt8)} (hp : ss.Perm (strKeys D)) (hk : (fs.map (·.1)).Perm (strKeys D)) : ss.mergeSort (fun x y => decide (x ≤ y)) = fs.map (·.1) := by
  have h1 := mergeSort_of_perm (hp.trans hk.symm)
  have h2 : (fs.map (·.1)).mergeSort leB = fs.map (·.1) := List.mergeSort_of_pairwise (sorted_keys hs).2
  exact h1.trans h2
set_option maxHeartbeats 2000000 in
theorem Names_any {S : Nat → Prop} {w : World} {db : Nat} {s : St} (h : DiskAt S w db s) (hc : s.fs.length ≤ 1099511627776) :
    Calls Tryz.prog 28 #[ptrV db] w fun e w' => ∃ v, e = .returned v ∧ w'.ownsRow w.heap.size 9 1 v s.fs.length (s.fs.map (fun p => Value.string (mk p.1))) ∧ Below w.heap.size w w' := by
  obtain ⟨own, mv, wv, mo, h⟩ := h
  have c0 := h.c0
  have hso := h.fit.sorted
  rcases h.map with ⟨rfl, hf⟩ | ⟨mb, D, rfl, h1, h2, h3, h4⟩
  · have k1 := callsIn_wide.1 (Tryz.maps_Keys_55 none w)
    have k2 := callsIn_wide.1 (Tryz.slices_Sorted_keys_nil_54_55 w)
    have HF := Lib.hid hf
    clear h hf hso hc
    go_enter Tryz.func28, Tryz.ntmps28
    go_wp2_with fail
    refine k1.mono ?_
    rintro e w1 ⟨rfl, rfl⟩
    go_wp2_with fail
    refine k2.mono ?_
    rintro e w2 ⟨v, ss, rfl, hS, hrow, hnil, hb⟩
    have HR := Lib.hid (ownsRow_base_a (base' := w.heap.size) hrow (by simp))
    have HB := Lib.hid (((Below.refl _ w).alloc (Nat.le_refl _) _).trans (hb.mono (by simp)))
    have HS := Lib.hid hS
    have HN := Lib.hid (hnil.2 hS)
    clear hrow hb hS hnil
    go_wp2
    go_ret
    refine ⟨_, rfl, ?_, HB.out⟩
    have hr := HR.out
    rw [HS.out] at hr
    rw [HF.out]
    simpa using hr
  · have hsz := map_size h2 hso h3
    have hkp := keys_perm h2 hso h3
    have k1 := callsIn_wide.1 (Tryz.maps_Keys_55 (some mb) w)
    have k2 := callsIn_wide.1 (Tryz.slices_Sorted_keys_54_55 mb _ D Rv w h2 (by rw [hsz]; unfold maxLen; omega) (by rw [hsz]; omega))
    have HP := Lib.hid hkp
    have HSO := Lib.hid hso
    clear h hso hc h1 h2 h3 h4 hkp hsz
    go_enter Tryz.func28, Tryz.ntmps28
    go_wp2_with fail
    refine k1.mono ?_
    rintro e w1 ⟨rfl, rfl⟩
    go_wp2_with fail
    refine k2.mono ?_
    rintro e w2 ⟨v, ss, rfl, hS, hrow, hnil, hb⟩
    have HR := Lib.hid (ownsRow_base_a (base' := w.heap.size) hrow (by simp))
    have HB := Lib.hid (((Below.refl _ w).alloc (Nat.le_refl _) _).trans (hb.mono (by simp)))
    have HS := Lib.hid hS
    clear hrow hb hS hnil k1 k2
    go_wp2
    go_ret
    refine ⟨_, rfl, ?_, HB.out⟩
    have hr := HR.out
    have hss := sorted_names HSO.out HS.out HP.out
    have hlen : ss.length = s.fs.length := by rw [HS.out.length_eq, ← HP.out.length_eq, List.length_map]
    rw [hss, hlen, List.map_map] at hr
    exact hr
end Go.Proofs.YtnffjoflkeagfaaGreat
namespace Go.Proofs.YtnffjoflkeagfaaGreat
open Go.RowKit Go.Maps

theorem newsL (w : World) (T : TypeId) (xs : List Value) : ∀ j u, xs[j]? = some u → (w.alloc (.cells xs.toArray T)).cell? ((⟨w.heap.size, 0, none⟩ : Addr).add j) = some u := by
  intro j u hu
  rw [add_zero_off, World.cell?_alloc_new, List.getElem?_toArray]; exact hu
theorem newsAt (w : World) (T : TypeId) (xs : List Value) (n : Nat) (hn : n = w.heap.size) : ∀ j u, xs[j]? = some u → (w.alloc (.cells xs.toArray T)).cell? ((⟨n, 0, none⟩ : Addr).add j) = some u := by
  subst hn; exact newsL w T xs
theorem take_snocA {α : Type} (l : List α) (k : Nat) (x : α) (h : l[k]? = some x) : l.take (k + 1) = l.take k ++ [x] := by
  obtain ⟨hk, rfl⟩ := List.getElem?_eq_some_iff.1 h
  rw [List.take_succ_eq_append_getElem hk]
theorem ones3 (a b : ByteArray) (z : Int) : ∀ u ∈ [Value.string a, .string b, .int .i64 z], u.oneCell' = true := by
  intro u hu; simp at hu; rcases hu with rfl | rfl | rfl <;> rfl
/-- a file, told: three cells -/
def keptC (p : List UInt8 × F) : List Value := [.string (mk p.1), .string (mk p.2.b), .int .i64 (p.2.s : Int)]
def keptL (fs : Fs) : List Value := fs.flatMap keptC
theorem row_cell {w : World} {B : Nat} {e : TypeId} {size : Nat} {v : Value} {n : Nat} {xs : List Value} (h : w.ownsRow B e size v n xs) {j : Nat} {u : Value} (hu : xs[j]? = some u) :
    ∃ g cap, v = .slice (some ⟨g, 0, none⟩) n cap ∧ n ≤ cap ∧ g < w.heap.size ∧ B ≤ g ∧ w.cell? ⟨g, j, none⟩ = some u := by
  have hc := fun g hg => h.cells (g := g) hg
  have hlt := h.lt
  rcases h.2 with ⟨rfl, rfl⟩ | ⟨g, cap, cur, rfl, hB, hg, hcap, _⟩
  · have h1 := h.1
    simp at h1; subst h1; simp at hu
  · refine ⟨g, cap, rfl, hcap, (hlt g rfl).2, hB, ?_⟩
    have := hc g rfl j u hu
    rw [add_zero_off] at this; exact this
theorem row_slice {w : World} {B : Nat} {e : TypeId} {size : Nat} {v : Value} {n : Nat} {xs : List Value} (h : w.ownsRow B e size v n xs) : ∃ a cap, v = .slice a n cap := by
  rcases h.2 with ⟨rfl, rfl⟩ | ⟨g, cap, cur, rfl, _⟩
  · exact ⟨_, _, rfl⟩
  · exact ⟨_, _, rfl⟩
set_option maxRecDepth 100000 in
set_option maxHeartbeats 4000000 in
theorem Kept_any {S : Nat → Prop} {w : World} {db : Nat} {s : St} (h : DiskAt S w db s) (hc : s.fs.length ≤ 1099511627776) :
    Calls Tryz.prog 11 #[ptrV db] w fun e w' => ∃ v, e = .returned v ∧ w'.ownsRow w.heap.size 65 3 v s.fs.length (keptL s.fs) ∧ Below w.heap.size w w' := by
  have hn := Names_any h hc
  have H := Lib.hid h
  clear h
  obtain ⟨i0, hi, hz0, hz1, hz2⟩ := info_parts (show (Tryz.prog.info? 65).map (fun i => (i.zero, i.size, i.bytes)) = some (some (.agg #[.string ⟨#[]⟩, .string ⟨#[]⟩, .int .i64 0]), 3, 40) by kernel_rfl)
  go_enter Tryz.func11, Tryz.ntmps11
  go_wp2_with fail
  refine hn.mono ?_
  rintro e w1 ⟨v1, rfl, hrow, hb1⟩
  obtain ⟨va, vc, rfl⟩ := row_slice hrow
  have HR := Lib.hid hrow
  have HB1 := Lib.hid hb1
  clear hrow hb1 hn
  go_wp2
  go_loopw [3, 10] (fun l i wr => ∃ k : Nat, k ≤ s.fs.length ∧ i = .int .i64 k ∧ wr.ownsRow w1.heap.size 65 3 l k (keptL (s.fs.take k)) ∧ Below w1.heap.size w1 wr) (fun l i _ => s.fs.length - (intOf i).toNat)
  case atStart => exact ⟨0, by omega, rfl, World.ownsRow_nil _ _ _ _, Below.refl _ _⟩
  case round =>
    obtain ⟨k, hk, rfl, hx, hbw⟩ := hrel
    obtain ⟨la, lc, rfl⟩ := row_slice hx
    have HX := Lib.hid hx
    have HW := Lib.hid hbw
    clear hx hbw
    by_cases hlt : k < s.fs.length
    · have hlti : (k : Int) < (s.fs.length : Int) := by omega
      obtain ⟨p, hp⟩ : ∃ p, s.fs[k]? = some p := ⟨s.fs[k], List.getElem?_eq_getElem hlt⟩
      obtain ⟨g, cap, e1, hcap, hg, hgB, hcell⟩ := row_cell HR.out (j := k) (u := .string (mk p.1)) (by rw [List.getElem?_map, hp]; rfl)
      cases e1
      have n1 : wr.cell? ⟨g, k, none⟩ = some (.string (mk p.1)) := (HW.out.cell (p := ⟨g, k, none⟩) hg).trans hcell
      have hbw : Below w.heap.size w wr := HB1.out.trans (HW.out.mono HB1.out.size)
      have hdr := H.out.below hbw
      obtain ⟨own, mv, wv, mo, hd⟩ := hdr
      have hmem : p ∈ s.fs := List.mem_of_getElem? hp
      have hkey : p.1.length ≤ 9223372036854775807 := hd.fit.keys p hmem
      have hlook : look s.fs p.1 = some p.2 := mem_look hd.fit.sorted hmem
      obtain ⟨fv, hbf, hl⟩ := hd.map.look (mk p.1) (by rw [mk_size]; exact hkey)
      rw [bs_mk, getF_look hlook] at hbf hl
      obtain ⟨fa, fc, rfl⟩ := hbf.slice
      have c0 := hd.c0
      have hl0 := (hl wr (fun g _ => rfl)).1
      have hB : Below wr.heap.size wr (wr.alloc (.cells #[.slice fa p.2.b.length fc, .int .i64 (p.2.s : Int), .bool p.2.u] 68)) := (Below.refl _ _).alloc (Nat.le_refl _) _
      have hcv := (hbf.kept (own' := own) hB.size (fun g hg hlg => ⟨hB.block g hlg, hg⟩)).text (P := Tryz.prog) 66 9 5 Tryz.underlying66 Tryz.underlying5 Tryz.underlying9
      have HP := Lib.hid hp
      clear hd hmem hlook hl hbf hB hbw hp
      have hsz1 := HW.out.size
      go_wp2_with (at_builtin; go_loud (refine wpList_append_own _ rfl _ _ 40 rfl w1.heap.size 65 i0 (.agg #[.string ⟨#[]⟩, .string ⟨#[]⟩, .int .i64 0]) 3 40 Tryz.underlying40 hi hz0 hz1 hz2 rfl (by decide) _ _ _ rfl ((HX.out.alloc _).alloc _) ⟨_, 0, none⟩ 1 1 [.string (mk p.1), .string (mk p.2.b), .int .i64 (p.2.s : Int)] rfl rfl (newsAt _ _ [.string (mk p.1), .string (mk p.2.b), .int .i64 (p.2.s : Int)] _ (by simp)) (ones3 _ _ _) (by unfold maxLen; omega) (by omega) (by simp; omega) ?_))
      intro v' w9 hown' hgrow hne
      have HO9 := Lib.hid hown'
      have HB9 : Hid (Below w1.heap.size w1 w9) := ((HW.out.alloc HW.out.size _).alloc (by simp; omega) _).grown hgrow (by simp; omega) (fun j hj => (HX.out.lt j hj).1)
      clear hown' hgrow hne
      go_wp2
      go_roundw
      case rel =>
        refine ⟨k + 1, by omega, by go_num, ?_, HB9.out⟩
        have e : keptL (s.fs.take (k + 1)) = keptL (s.fs.take k) ++ [.string (mk p.1), .string (mk p.2.b), .int .i64 (p.2.s : Int)] := by
          rw [take_snocA _ _ _ HP.out]; simp [keptL, keptC]
        rw [e]; exact HO9.out
      case measure => simp [intOf]; omega
    · have hke : k = s.fs.length := by omega
      have HX2 : Hid (wr.ownsRow w.heap.size 65 3 (.slice la k lc) s.fs.length (keptL s.fs)) := by
        have := ownsRow_base_a (base' := w.heap.size) HX.out HB1.out.size
        rw [hke, List.take_of_length_le (Nat.le_refl _)] at this
        rw [hke]; exact this
      clear hke
      go_wp2
      go_ret
      exact ⟨_, rfl, HX2.out, HB1.out.trans (HW.out.mono HB1.out.size)⟩
end Go.Proofs.YtnffjoflkeagfaaGreat
namespace Go.Proofs.YtnffjoflkeagfaaGreat
open Go.RowKit Go.Maps

theorem left_le {f : F} (h : f.s ≤ f.b.length) (more : Int) : leftF f more ≤ f.b.length := by unfold leftF; omega
set_option maxRecDepth 100000 in
set_option maxHeartbeats 2000000 in
theorem lose_any {S : Nat → Prop} {w : World} {db : Nat} {s : St} (h : DiskAt S w db s) (hS : ∀ k, w.heap.size ≤ k → S k) (hm : Small s) (name : ByteArray) (hn : name.size ≤ 281474976710656) (more : Int) :
    Calls Tryz.prog 37 #[ptrV db, .string name, .int .i64 more] w fun e w' => e = .returned (.tuple #[]) ∧ DiskAt S w' db { s with fs := loseF s.fs (bs name) more } ∧ Kept S w w' := by
  obtain ⟨own, mv, wv, mo, h⟩ := h
  have hlt := h.lt
  obtain ⟨v, hbf, hl⟩ := h.map.look name (by omega)
  obtain ⟨va, vc, rfl⟩ := hbf.slice
  have hvc : (getF s.fs (bs name)).b.length ≤ vc := by
    rcases hbf with ⟨e, e2⟩ | ⟨g, cap, e, _, _, hcap, _⟩
    · rw [e2]; simp
    · cases e; exact hcap
  have c0 := h.c0
  have hl1 : (Instr.lookup 51 mv (.string name) false).run Tryz.prog w = .ok (.agg #[.slice va (getF s.fs (bs name)).b.length vc, .int .i64 ((getF s.fs (bs name)).s : Int), .bool (getF s.fs (bs name)).u]) w := (hl w (fun g _ => rfl)).1
  have hB : Below w.heap.size w (w.alloc (.cells #[.slice va (getF s.fs (bs name)).b.length vc, .int .i64 ((getF s.fs (bs name)).s : Int), .bool (getF s.fs (bs name)).u] 68)) := (Below.refl _ _).alloc (Nat.le_refl _) _
  have hsl := h.fit.get (bs name)
  have hle := left_le hsl more
  have hbl := get_le s.fs (bs name)
  have hri := h.fit.roomI
  have hrr := h.fit.room
  have hrm := Lib.hid (remove_any (h.below hB) name hn)
  have hbx := (hbf.kept (own' := own) hB.size (fun g hg hlg => ⟨hB.block g hlg, hg⟩)).take rfl (leftF (getF s.fs (bs name)) more) hle
  have hfit : Fit { s with fs := putF s.fs (bs name) ⟨(getF s.fs (bs name)).b.take (leftF (getF s.fs (bs name)) more), leftF (getF s.fs (bs name)) more, true⟩ } := by
    refine fit_fs h.fit rfl (by rw [bs_len]; omega) ?_ ?_ _ _ _ h.fit.moreI
    · simp only [List.length_take]; omega
    · simp only [List.length_take]; omega
  have hpt := Lib.hid (put_any (f := ⟨(getF s.fs (bs name)).b.take (leftF (getF s.fs (bs name)) more), leftF (getF s.fs (bs name)) more, true⟩) (h.below hB) (fun k hk => hS k (by have := hB.size; omega)) name hn hbx hm.count hfit)
  have HB := Lib.hid hB
  have hle2 : ((leftF (getF s.fs (bs name)) more : Nat) : Int) ≤ (vc : Int) := by omega
  have hexp : ((getF s.fs (bs name)).s : Int) + min (max more 0) (((getF s.fs (bs name)).b.length : Int) - ((getF s.fs (bs name)).s : Int)) = (leftF (getF s.fs (bs name)) more : Nat) := by unfold leftF; omega
  have hle3 : leftF (getF s.fs (bs name)) more ≤ vc := by omega
  by_cases h0 : leftF (getF s.fs (bs name)) more = 0
  · have h0i : ((leftF (getF s.fs (bs name)) more : Nat) : Int) = 0 := by omega
    cases hu : (getF s.fs (bs name)).u with
    | false =>
      have HE : Hid (loseF s.fs (bs name) more = delF s.fs (bs name)) := by show _ = _; unfold loseF; rw [if_pos ⟨h0, hu⟩]
      rw [hu] at hl1 hrm HB
      rw [h0i] at hexp
      clear h hl hbf hB hbx hfit hpt hle2 hle3 hu h0 h0i
      generalize loseF s.fs (bs name) more = R at *
      go_enter Tryz.func37, Tryz.ntmps37
      go_wp2_with fail
      refine hrm.out.mono ?_
      rintro e w4 ⟨rfl, hd4, hk4⟩
      have HD4 := Lib.hid hd4
      have HK4 := Lib.hid ((Kept.of_below HB.out).trans hk4)
      clear hd4 hk4 hrm
      go_wp2
      first
        | go_end0
        | (refine bodyPost_ret (results_none rfl _ _ _) rfl ?_)
      rw [HE.out]
      exact ⟨rfl, HD4.out, HK4.out⟩
    | true =>
      have HE : Hid (loseF s.fs (bs name) more = putF s.fs (bs name) ⟨(getF s.fs (bs name)).b.take (leftF (getF s.fs (bs name)) more), leftF (getF s.fs (bs name)) more, true⟩) := by show _ = _; unfold loseF; rw [if_neg (fun hh => by rw [hu] at hh; cases hh.2)]
      rw [hu] at hl1 hpt HB
      rw [h0i] at hexp
      clear h hl hbf hB hbx hfit hrm hle2 hle3 hu h0i
      generalize loseF s.fs (bs name) more = R at *
      rw [h0] at hpt HE
      clear h0
      go_enter Tryz.func37, Tryz.ntmps37
      go_wp2_with fail
      refine hpt.out.mono ?_
      rintro e w4 ⟨rfl, hd4, hk4⟩
      have HD4 := Lib.hid hd4
      have HK4 := Lib.hid ((Kept.of_below HB.out).trans hk4)
      clear hd4 hk4 hpt
      go_wp2
      go_end0
      rw [HE.out]
      exact ⟨rfl, HD4.out, HK4.out⟩
  · have h0i : (((leftF (getF s.fs (bs name)) more : Nat) : Int) == 0) = false := by rw [beq_eq_false_iff_ne]; omega
    have HE : Hid (loseF s.fs (bs name) more = putF s.fs (bs name) ⟨(getF s.fs (bs name)).b.take (leftF (getF s.fs (bs name)) more), leftF (getF s.fs (bs name)) more, true⟩) := by show _ = _; unfold loseF; rw [if_neg (fun hh => h0 hh.1)]
    clear h hl hbf hB hbx hfit hrm
    generalize loseF s.fs (bs name) more = R at *
    generalize leftF (getF s.fs (bs name)) more = L at *
    have h0j : ¬ ((L : Int) = 0) := by omega
    have h0k : (0 : Int) ≤ (L : Int) := by omega
    go_enter Tryz.func37, Tryz.ntmps37
    go_wp2_with fail
    refine hpt.out.mono ?_
    rintro e w4 ⟨rfl, hd4, hk4⟩
    have HD4 := Lib.hid hd4
    have HK4 := Lib.hid ((Kept.of_below HB.out).trans hk4)
    clear hd4 hk4 hpt
    go_wp2
    go_end0
    rw [HE.out]
    exact ⟨rfl, HD4.out, HK4.out⟩
end Go.Proofs.YtnffjoflkeagfaaGreat
namespace Go.Proofs.YtnffjoflkeagfaaGreat
open Go.RowKit Go.Maps

/-- a slice value reads as these cells; its block is none of S -/
def ListOff (S : Nat → Prop) (w : World) (v : Value) (n : Nat) (xs : List Value) : Prop :=
  xs.length = n ∧ ∃ a cap, v = .slice a n cap ∧ n ≤ cap ∧ (n = 0 ∨ ∃ b off, a = some ⟨b, off, none⟩ ∧ b < w.heap.size ∧ ¬ S b ∧ ∀ j u, xs[j]? = some u → w.cell? ⟨b, off + j, none⟩ = some u)
theorem ListOff.kept {S : Nat → Prop} {w w' : World} {v : Value} {n : Nat} {xs : List Value} (h : ListOff S w v n xs) (hk : Kept S w w') : ListOff S w' v n xs := by
  obtain ⟨h1, a, cap, rfl, hcap, h2⟩ := h
  refine ⟨h1, a, cap, rfl, hcap, ?_⟩
  rcases h2 with h2 | ⟨b, off, rfl, hlt, hn, hc⟩
  · exact .inl h2
  · exact .inr ⟨b, off, rfl, Nat.lt_of_lt_of_le hlt hk.size, hn, fun j u hu => (World.cell?_of_block (a := ⟨b, off + j, none⟩) (hk.block b hlt hn)).trans (hc j u hu)⟩
theorem ListOff.mono {S S' : Nat → Prop} {w : World} {v : Value} {n : Nat} {xs : List Value} (h : ListOff S w v n xs) (hS : ∀ k, k < w.heap.size → S' k → S k) : ListOff S' w v n xs := by
  obtain ⟨h1, a, cap, rfl, hcap, h2⟩ := h
  refine ⟨h1, a, cap, rfl, hcap, ?_⟩
  rcases h2 with h2 | ⟨b, off, rfl, hlt, hn, hc⟩
  · exact .inl h2
  · exact .inr ⟨b, off, rfl, hlt, fun h => hn (hS b hlt h), hc⟩

theorem crashF_append : ∀ (A B : Fs) (keep : List Int), crashF (A ++ B) keep = crashF A keep ++ crashF B (keep.drop A.length)
  | [], B, keep => by simp [crashF]
  | p :: r, B, keep => by
    simp only [List.cons_append, crashF, crashF_append r B keep.tail, List.length_cons]
    rw [show keep.drop (r.length + 1) = keep.tail.drop r.length by rw [List.drop_tail]]
    split <;> simp
theorem head_drop (keep : List Int) (i : Nat) : (keep.drop i).headD 0 = keep.getD i 0 := by
  rw [List.headD_eq_head?_getD, List.head?_drop, List.getD_eq_getElem?_getD]
/-- the files behind the first k of them were seen -/
def crashK (fs : Fs) (keep : List Int) (k : Nat) : Fs := crashF (fs.take k) keep ++ fs.drop k
theorem crashK_zero (fs : Fs) (keep : List Int) : crashK fs keep 0 = fs := by simp [crashK, crashF]
theorem crashK_all (fs : Fs) (keep : List Int) : crashK fs keep fs.length = crashF fs keep := by simp [crashK]
theorem crashK_step {fs : Fs} {keep : List Int} {k : Nat} {p : List UInt8 × F} (hp : fs[k]? = some p) (hs : Sorted (crashK fs keep k)) : loseF (crashK fs keep k) p.1 (keep.getD k 0) = crashK fs keep (k + 1) := by
  obtain ⟨hk, e⟩ := List.getElem?_eq_some_iff.1 hp
  have hd : fs.drop k = (p.1, p.2) :: fs.drop (k + 1) := by rw [List.drop_eq_getElem_cons hk, e]
  have ht : fs.take (k + 1) = fs.take k ++ [p] := take_snocA _ _ _ hp
  have hlen : (fs.take k).length = k := by rw [List.length_take]; omega
  unfold crashK at hs ⊢
  rw [hd] at hs ⊢
  rw [ht, crashF_append, hlen]
  unfold loseF
  rw [getF_look (look_mid hs), put_mid hs, del_mid hs]
  have e2 : crashF [p] (keep.drop k) = if leftF p.2 (keep.getD k 0) = 0 ∧ p.2.u = false then [] else [(p.1, ⟨p.2.b.take (leftF p.2 (keep.getD k 0)), leftF p.2 (keep.getD k 0), true⟩)] := by
    simp only [crashF, head_drop]
  rw [e2]
  split <;> simp
theorem crashF_len : ∀ (fs : Fs) (keep : List Int), (crashF fs keep).length ≤ fs.length
  | [], _ => by simp [crashF]
  | p :: r, keep => by
    have := crashF_len r keep.tail
    unfold crashF
    split <;> simp only [List.length_cons] <;> omega
theorem crashF_used : ∀ (fs : Fs) (keep : List Int), usedF (crashF fs keep) ≤ usedF fs
  | [], _ => by simp [crashF]
  | p :: r, keep => by
    have := crashF_used r keep.tail
    unfold crashF
    split
    · simp only [usedF]; omega
    · simp only [usedF, List.length_take]; omega
theorem crashK_small {s : St} (h : Small s) (keep : List Int) (k : Nat) : Small { s with fs := crashK s.fs keep k } := by
  have h1 := h.count
  have h2 := h.bytes
  have e : s.fs.length = (s.fs.take k).length + (s.fs.drop k).length := by rw [← List.length_append, List.take_append_drop]
  have e2 : usedF s.fs = usedF (s.fs.take k) + usedF (s.fs.drop k) := by rw [← used_append, List.take_append_drop]
  have := crashF_len (s.fs.take k) keep
  have := crashF_used (s.fs.take k) keep
  refine ⟨?_, ?_⟩
  · show (crashK s.fs keep k).length ≤ _
    unfold crashK; rw [List.length_append]; omega
  · show usedF (crashK s.fs keep k) ≤ _
    unfold crashK; rw [used_append]; omega
/-- the number that is kept -/
theorem keep_none {keep : List Int} {k : Nat} (h : keep.length ≤ k) : keep.getD k 0 = 0 := by rw [List.getD_eq_getElem?_getD, List.getElem?_eq_none h]; rfl
theorem keep_some {keep : List Int} {k : Nat} {z : Int} (h : keep[k]? = some z) : keep.getD k 0 = z := by rw [List.getD_eq_getElem?_getD, h]; rfl
set_option maxRecDepth 100000 in
set_option maxHeartbeats 4000000 in
theorem Crash_any {S : Nat → Prop} {w : World} {db : Nat} {s : St} (h : DiskAt S w db s) (hS : ∀ k, w.heap.size ≤ k → S k) (hm : Small s) (hkl : ∀ p ∈ s.fs, p.1.length ≤ 281474976710656) (v : Value) (keep : List Int) (hkeep : ListOff S w v keep.length (keep.map (fun z => Value.int .i64 z))) (_hkn : keep.length ≤ 9223372036854775807) :
    Calls Tryz.prog 16 #[ptrV db, v] w fun e w' => e = .returned (.tuple #[]) ∧ DiskAt S w' db (crashS s keep) ∧ Kept S w w' := by
  have hn := Names_any h hm.count
  obtain ⟨own, mv, wv, mo, h⟩ := h
  have hso := Lib.hid h
  have HM := Lib.hid hm
  have hcc : s.fs.length ≤ 1099511627776 := hm.count
  obtain ⟨_, ka, kc, rfl, hkc, hkb⟩ := hkeep
  have HKB := Lib.hid hkb
  have HKL := Lib.hid hkl
  have HS := Lib.hid hS
  clear h hkb hm hkl hS
  go_enter Tryz.func16, Tryz.ntmps16
  go_wp2_with fail
  refine hn.mono ?_
  rintro e w1 ⟨v1, rfl, hrow, hb1⟩
  obtain ⟨va, vc, rfl⟩ := row_slice hrow
  have hd1 := hso.out.below hb1
  have HD1 : Hid (DiskO own (fun k => own k ≠ .no ∨ w1.heap.size ≤ k) w1 db s mv wv mo) := ⟨fun k hk => ⟨.inl hk, (hd1.mine k hk).2⟩, hd1.disk, hd1.block, hd1.brk, hd1.map, hd1.fit⟩
  have HR := Lib.hid hrow
  have HB1 := Lib.hid hb1
  clear hrow hb1 hn hd1
  go_wp2
  go_loopw [12] (fun i wr => ∃ k : Nat, k ≤ s.fs.length ∧ i = .int .i64 k ∧ DiskAt (fun k => own k ≠ .no ∨ w1.heap.size ≤ k) wr db { s with fs := crashK s.fs keep k } ∧ Kept (fun k => own k ≠ .no ∨ w1.heap.size ≤ k) w1 wr) (fun i _ => s.fs.length - (intOf i).toNat)
  case atStart => exact ⟨0, by omega, rfl, by rw [crashK_zero]; exact ⟨own, mv, wv, mo, HD1.out⟩, Kept.refl _ _⟩
  case round =>
    obtain ⟨k, hk, rfl, hd, hkw⟩ := hrel
    have HDk := Lib.hid hd
    have HK := Lib.hid hkw
    clear hd hkw
    by_cases hlt : k < s.fs.length
    · have hlti : (k : Int) < (s.fs.length : Int) := by omega
      have HLT := Lib.hid hlt
      obtain ⟨p, hp⟩ : ∃ p, s.fs[k]? = some p := ⟨s.fs[k], List.getElem?_eq_getElem hlt⟩
      obtain ⟨g, cap, e1, hcap, hg, hgB, hcell⟩ := row_cell HR.out (j := k) (u := .string (mk p.1)) (by rw [List.getElem?_map, hp]; rfl)
      cases e1
      have hgo : own g = .no := hso.out.free hgB
      have n1 : wr.cell? ⟨g, k, none⟩ = some (.string (mk p.1)) := (cell_of k (HK.out.block g hg (fun hh => hh.elim (fun h => h hgo) (fun h => by omega)))).trans hcell
      have hlose := fun more => lose_any HDk.out (fun j hj => .inr (Nat.le_trans HK.out.size hj)) (crashK_small HM.out keep k) (mk p.1) (by rw [mk_size]; exact HKL.out p (List.mem_of_getElem? hp)) more
      have HL := Lib.hid hlose
      have HP := Lib.hid hp
      clear hlose hp
      by_cases hkk : k < keep.length
      · have hkki : (k : Int) < (keep.length : Int) := by omega
        obtain ⟨z, hz⟩ : ∃ z, keep[k]? = some z := ⟨keep[k], List.getElem?_eq_getElem hkk⟩
        rcases HKB.out with h0 | ⟨b, off, rfl, hbl, hbn, hbc⟩
        · omega
        have hbo : own b = .no := by
          cases e : own b <;> first | rfl | exact absurd (hso.out.mine b (by rw [e]; simp)).1 hbn
        have n2 : wr.cell? ⟨b, off + k, none⟩ = some (.int .i64 z) :=
          (World.cell?_of_block (a := ⟨b, off + k, none⟩) ((HK.out.block b (Nat.lt_of_lt_of_le hbl HB1.out.size) (fun hh => hh.elim (fun h => h hbo) (fun h => by have := HB1.out.size; omega))).trans (HB1.out.block b hbl))).trans (hbc k _ (by rw [List.getElem?_map, hz]; rfl))
        have HZ := Lib.hid hz
        clear hz hbc
        go_wp2_with fail
        refine (HL.out _).mono ?_
        rintro e w9 ⟨rfl, hd9, hk9⟩
        have HD9 := Lib.hid hd9
        have HK9 := Lib.hid hk9
        clear hd9 hk9
        go_wp2
        go_roundw
        case rel =>
          refine ⟨k + 1, by have := HLT.out; omega, by go_num, ?_, HK.out.trans HK9.out⟩
          have := HD9.out
          rw [bs_mk, ← keep_some HZ.out, crashK_step HP.out HDk.out.fit.sorted] at this
          exact this
        case measure => have := HLT.out; simp [intOf]; omega
      · have hkki : ¬ (k : Int) < (keep.length : Int) := by omega
        have HNK := Lib.hid hkk
        go_wp2_with fail
        refine (HL.out _).mono ?_
        rintro e w9 ⟨rfl, hd9, hk9⟩
        have HD9 := Lib.hid hd9
        have HK9 := Lib.hid hk9
        clear hd9 hk9
        go_wp2
        go_roundw
        case rel =>
          refine ⟨k + 1, by have := HLT.out; omega, by go_num, ?_, HK.out.trans HK9.out⟩
          have := HD9.out
          rw [bs_mk, ← keep_none (keep := keep) (k := k) (by have := HNK.out; omega), crashK_step HP.out HDk.out.fit.sorted] at this
          exact this
        case measure => have := HLT.out; simp [intOf]; omega
    · have hke : k = s.fs.length := by omega
      obtain ⟨own', mv', wv', mo', hd⟩ := HDk.out
      have c3 := hd.c3
      have c4 := hd.c4
      have f3 := hd.f 3
      have f4 := hd.f 4
      have HE := Lib.hid hd
      have HKE := Lib.hid hke
      clear hd hke
      go_wp2
      go_end0
      have hS2 : ∀ j, j < wr.heap.size → (own j ≠ .no ∨ w1.heap.size ≤ j) → S j := fun j _ hj => hj.elim (fun h => (hso.out.mine j h).1) (fun h => HS.out j (Nat.le_trans HB1.out.size h))
      have hdb : S db := (hso.out.mine db (by rw [hso.out.disk]; simp)).1
      have hK : Kept S w wr := (Kept.of_below HB1.out).trans (HK.out.mono (fun j hj h => hS2 j (Nat.lt_of_lt_of_le hj HK.out.size) h))
      refine ⟨rfl, ?_, (hK.set (.inl hdb) _).set (.inl hdb) _⟩
      have hb := HE.out.block
      have hfs : (crashS s keep).fs = crashK s.fs keep k := by rw [HKE.out, crashK_all]; rfl
      have hsz : ((wr.setCell ⟨db, 3, none⟩ (.bool false)).setCell ⟨db, 4, none⟩ (.bool false)).heap.size = wr.heap.size := by simp [World.setCell]
      have hfit : Fit (crashS s keep) := by
        have := HE.out.fit
        unfold crashS
        rw [← crashK_all, ← HKE.out]
        exact ⟨this.sorted, this.room, this.roomI, this.moreI, this.keys, this.syn⟩
      refine ⟨own', mv', false, mo', ?_⟩
      have hd' : DiskO own' S wr db { s with fs := crashK s.fs keep k } mv' wv' mo' := ⟨fun j hj => ⟨hS2 j (HE.out.mine j hj).2 (HE.out.mine j hj).1, (HE.out.mine j hj).2⟩, HE.out.disk, HE.out.block, HE.out.brk, HE.out.map, HE.out.fit⟩
      refine hd'.reblock hsz (fun j hj => by rw [Below.heap_setCell _ _ _ _ hj, Below.heap_setCell _ _ _ _ hj]) ?_ hfs (fun _ => ⟨rfl, fun h => by cases h⟩) hfit
      have e : diskC mv' (crashS s keep) false mo' = .cells #[mv', .int .i64 (s.room : Int), .int .i64 (usedF (crashK s.fs keep k) : Int), .bool false, .bool false, .int .i64 mo'] 53 (0, 0) := by unfold diskC; rw [hfs]; rfl
      rw [e]
      simp [World.setCell, Array.getElem?_modify, hb, diskC]
abbrev strC : ByteArray → Value := Value.string
abbrev cellsOf {α : Type} (c : α → Value) (l : List α) : List Value := l.map c
theorem list_get {S : Nat → Prop} {w : World} {a : Option Addr} {n c k : Nat} {l : List ByteArray} {x : ByteArray} (h : ListOff S w (.slice a n c) n (cellsOf strC l)) (hk : l[k]? = some x) :
    ∃ b off, a = some ⟨b, off, none⟩ ∧ n ≤ c ∧ k < n ∧ w.cell? ⟨b, off + k, none⟩ = some (.string x) := by
  obtain ⟨h1, a', c', e, hc, h2⟩ := h
  cases e
  have hlt : k < n := by rw [← h1]; simp [cellsOf]; exact (List.getElem?_eq_some_iff.1 hk).1
  rcases h2 with h2 | ⟨b, off, rfl, _, _, hcell⟩
  · omega
  · exact ⟨b, off, rfl, hc, hlt, hcell k _ (by simp [cellsOf, List.getElem?_map, hk])⟩
end Go.Proofs.YtnffjoflkeagfaaGreat
