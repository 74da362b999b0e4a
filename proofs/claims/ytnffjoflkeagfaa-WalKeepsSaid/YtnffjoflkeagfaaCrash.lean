/- A crash. -/
import Derived.Test.YtnffjoflkeagfaaLose
namespace Go.Proofs.Ytnffjoflkeagfaa
open Go.RowKit Go.Maps

/-- a slice value reads as these cells; its block is none of S -/
def ListOff (S : Nat → Prop) (w : World) (v : Value) (n : Nat) (xs : List Value) : Prop :=
  xs.length = n ∧ ∃ a cap, v = .slice a n cap ∧ n ≤ cap ∧ (n = 0 ∨ ∃ b off, a = some ⟨b, off, none⟩ ∧ b < w.heap.size ∧ ¬ S b ∧ ∀ j u, xs[j]? = some u → w.cell? ⟨b, off + j, none⟩ = some u)
theorem ListOff.kept {S : Nat → Prop} {w w' : World} {v : Value} {n : Nat} {xs : List Value} (h : ListOff S w v n xs) (hk : Kept S w w') : ListOff S w' v n xs := by
  obtain ⟨h1, a, cap, rfl, hcap, h2⟩ := h
  refine ⟨h1, a, cap, rfl, hcap, ?_⟩
  rcases h2 with h2 | ⟨b, off, rfl, hlt, hn, hc⟩
  · exact .inl h2
  · exact .inr ⟨b, off, rfl, Nat.lt_of_lt_of_le hlt hk.size, hn, fun j u hu => (World.cell?_of_block (a := ⟨b, off + j, none⟩) (hk.block b hlt hn)).trans (hc j u hu)⟩
theorem ListOff.mono {S S' : Nat → Prop} {w : World} {v : Value} {n : Nat} {xs : List Value} (h : ListOff S w v n xs) (hS : ∀ k, k < w.heap.size → S' k → S k) : ListOff S' w v n xs := by
  obtain ⟨h1, a, cap, rfl, hcap, h2⟩ := h
  refine ⟨h1, a, cap, rfl, hcap, ?_⟩
  rcases h2 with h2 | ⟨b, off, rfl, hlt, hn, hc⟩
  · exact .inl h2
  · exact .inr ⟨b, off, rfl, hlt, fun h => hn (hS b hlt h), hc⟩

theorem crashF_append : ∀ (A B : Fs) (keep : List Int), crashF (A ++ B) keep = crashF A keep ++ crashF B (keep.drop A.length)
  | [], B, keep => by simp [crashF]
  | p :: r, B, keep => by
    simp only [List.cons_append, crashF, crashF_append r B keep.tail, List.length_cons]
    rw [show keep.drop (r.length + 1) = keep.tail.drop r.length by rw [List.drop_tail]]
    split <;> simp
theorem head_drop (keep : List Int) (i : Nat) : (keep.drop i).headD 0 = keep.getD i 0 := by
  rw [List.headD_eq_head?_getD, List.head?_drop, List.getD_eq_getElem?_getD]
/-- the files behind the first k of them were seen -/
def crashK (fs : Fs) (keep : List Int) (k : Nat) : Fs := crashF (fs.take k) keep ++ fs.drop k
theorem crashK_zero (fs : Fs) (keep : List Int) : crashK fs keep 0 = fs := by simp [crashK, crashF]
theorem crashK_all (fs : Fs) (keep : List Int) : crashK fs keep fs.length = crashF fs keep := by simp [crashK]
theorem crashK_step {fs : Fs} {keep : List Int} {k : Nat} {p : List UInt8 × F} (hp : fs[k]? = some p) (hs : Sorted (crashK fs keep k)) : loseF (crashK fs keep k) p.1 (keep.getD k 0) = crashK fs keep (k + 1) := by
  obtain ⟨hk, e⟩ := List.getElem?_eq_some_iff.1 hp
  have hd : fs.drop k = (p.1, p.2) :: fs.drop (k + 1) := by rw [List.drop_eq_getElem_cons hk, e]
  have ht : fs.take (k + 1) = fs.take k ++ [p] := take_snocA _ _ _ hp
  have hlen : (fs.take k).length = k := by rw [List.length_take]; omega
  unfold crashK at hs ⊢
  rw [hd] at hs ⊢
  rw [ht, crashF_append, hlen]
  unfold loseF
  rw [getF_look (look_mid hs), put_mid hs, del_mid hs]
  have e2 : crashF [p] (keep.drop k) = if leftF p.2 (keep.getD k 0) = 0 ∧ p.2.u = false then [] else [(p.1, ⟨p.2.b.take (leftF p.2 (keep.getD k 0)), leftF p.2 (keep.getD k 0), true⟩)] := by
    simp only [crashF, head_drop]
  rw [e2]
  split <;> simp
theorem crashF_len : ∀ (fs : Fs) (keep : List Int), (crashF fs keep).length ≤ fs.length
  | [], _ => by simp [crashF]
  | p :: r, keep => by
    have := crashF_len r keep.tail
    unfold crashF
    split <;> simp only [List.length_cons] <;> omega
theorem crashF_used : ∀ (fs : Fs) (keep : List Int), usedF (crashF fs keep) ≤ usedF fs
  | [], _ => by simp [crashF]
  | p :: r, keep => by
    have := crashF_used r keep.tail
    unfold crashF
    split
    · simp only [usedF]; omega
    · simp only [usedF, List.length_take]; omega
theorem crashK_small {s : St} (h : Small s) (keep : List Int) (k : Nat) : Small { s with fs := crashK s.fs keep k } := by
  have h1 := h.count
  have h2 := h.bytes
  have e : s.fs.length = (s.fs.take k).length + (s.fs.drop k).length := by rw [← List.length_append, List.take_append_drop]
  have e2 : usedF s.fs = usedF (s.fs.take k) + usedF (s.fs.drop k) := by rw [← used_append, List.take_append_drop]
  have := crashF_len (s.fs.take k) keep
  have := crashF_used (s.fs.take k) keep
  refine ⟨?_, ?_⟩
  · show (crashK s.fs keep k).length ≤ _
    unfold crashK; rw [List.length_append]; omega
  · show usedF (crashK s.fs keep k) ≤ _
    unfold crashK; rw [used_append]; omega
/-- the number that is kept -/
theorem keep_none {keep : List Int} {k : Nat} (h : keep.length ≤ k) : keep.getD k 0 = 0 := by rw [List.getD_eq_getElem?_getD, List.getElem?_eq_none h]; rfl
theorem keep_some {keep : List Int} {k : Nat} {z : Int} (h : keep[k]? = some z) : keep.getD k 0 = z := by rw [List.getD_eq_getElem?_getD, h]; rfl
set_option maxRecDepth 100000 in
set_option maxHeartbeats 4000000 in
theorem Crash_any {S : Nat → Prop} {w : World} {db : Nat} {s : St} (h : DiskAt S w db s) (hS : ∀ k, w.heap.size ≤ k → S k) (hm : Small s) (hkl : ∀ p ∈ s.fs, p.1.length ≤ 281474976710656) (v : Value) (keep : List Int) (hkeep : ListOff S w v keep.length (keep.map (fun z => Value.int .i64 z))) (_hkn : keep.length ≤ 9223372036854775807) :
    Calls Try.prog 22 #[ptrV db, v] w fun e w' => e = .returned (.tuple #[]) ∧ DiskAt S w' db (crashS s keep) ∧ Kept S w w' := by
  have hn := Names_any h hm.count
  obtain ⟨own, mv, wv, mo, h⟩ := h
  have hso := Lib.hid h
  have HM := Lib.hid hm
  have hcc : s.fs.length ≤ 1099511627776 := hm.count
  obtain ⟨_, ka, kc, rfl, hkc, hkb⟩ := hkeep
  have HKB := Lib.hid hkb
  have HKL := Lib.hid hkl
  have HS := Lib.hid hS
  clear h hkb hm hkl hS
  go_enter Try.func22, Try.ntmps22
  go_wp2_with fail
  refine hn.mono ?_
  rintro e w1 ⟨v1, rfl, hrow, hb1⟩
  obtain ⟨va, vc, rfl⟩ := row_slice hrow
  have hd1 := hso.out.below hb1
  have HD1 : Hid (DiskO own (fun k => own k ≠ .no ∨ w1.heap.size ≤ k) w1 db s mv wv mo) := ⟨fun k hk => ⟨.inl hk, (hd1.mine k hk).2⟩, hd1.disk, hd1.block, hd1.brk, hd1.map, hd1.fit⟩
  have HR := Lib.hid hrow
  have HB1 := Lib.hid hb1
  clear hrow hb1 hn hd1
  go_wp2
  go_loopw [12] (fun i wr => ∃ k : Nat, k ≤ s.fs.length ∧ i = .int .i64 k ∧ DiskAt (fun k => own k ≠ .no ∨ w1.heap.size ≤ k) wr db { s with fs := crashK s.fs keep k } ∧ Kept (fun k => own k ≠ .no ∨ w1.heap.size ≤ k) w1 wr) (fun i _ => s.fs.length - (intOf i).toNat)
  case atStart => exact ⟨0, by omega, rfl, by rw [crashK_zero]; exact ⟨own, mv, wv, mo, HD1.out⟩, Kept.refl _ _⟩
  case round =>
    obtain ⟨k, hk, rfl, hd, hkw⟩ := hrel
    have HDk := Lib.hid hd
    have HK := Lib.hid hkw
    clear hd hkw
    by_cases hlt : k < s.fs.length
    · have hlti : (k : Int) < (s.fs.length : Int) := by omega
      have HLT := Lib.hid hlt
      obtain ⟨p, hp⟩ : ∃ p, s.fs[k]? = some p := ⟨s.fs[k], List.getElem?_eq_getElem hlt⟩
      obtain ⟨g, cap, e1, hcap, hg, hgB, hcell⟩ := row_cell HR.out (j := k) (u := .string (mk p.1)) (by rw [List.getElem?_map, hp]; rfl)
      cases e1
      have hgo : own g = .no := hso.out.free hgB
      have n1 : wr.cell? ⟨g, k, none⟩ = some (.string (mk p.1)) := (cell_of k (HK.out.block g hg (fun hh => hh.elim (fun h => h hgo) (fun h => by omega)))).trans hcell
      have hlose := fun more => lose_any HDk.out (fun j hj => .inr (Nat.le_trans HK.out.size hj)) (crashK_small HM.out keep k) (mk p.1) (by rw [mk_size]; exact HKL.out p (List.mem_of_getElem? hp)) more
      have HL := Lib.hid hlose
      have HP := Lib.hid hp
      clear hlose hp
      by_cases hkk : k < keep.length
      · have hkki : (k : Int) < (keep.length : Int) := by omega
        obtain ⟨z, hz⟩ : ∃ z, keep[k]? = some z := ⟨keep[k], List.getElem?_eq_getElem hkk⟩
        rcases HKB.out with h0 | ⟨b, off, rfl, hbl, hbn, hbc⟩
        · omega
        have hbo : own b = .no := by
          cases e : own b <;> first | rfl | exact absurd (hso.out.mine b (by rw [e]; simp)).1 hbn
        have n2 : wr.cell? ⟨b, off + k, none⟩ = some (.int .i64 z) :=
          (World.cell?_of_block (a := ⟨b, off + k, none⟩) ((HK.out.block b (Nat.lt_of_lt_of_le hbl HB1.out.size) (fun hh => hh.elim (fun h => h hbo) (fun h => by have := HB1.out.size; omega))).trans (HB1.out.block b hbl))).trans (hbc k _ (by rw [List.getElem?_map, hz]; rfl))
        have HZ := Lib.hid hz
        clear hz hbc
        go_wp2_with fail
        refine (HL.out _).mono ?_
        rintro e w9 ⟨rfl, hd9, hk9⟩
        have HD9 := Lib.hid hd9
        have HK9 := Lib.hid hk9
        clear hd9 hk9
        go_wp2
        go_roundw
        case rel =>
          refine ⟨k + 1, by have := HLT.out; omega, by go_num, ?_, HK.out.trans HK9.out⟩
          have := HD9.out
          rw [bs_mk, ← keep_some HZ.out, crashK_step HP.out HDk.out.fit.sorted] at this
          exact this
        case measure => have := HLT.out; simp [intOf]; omega
      · have hkki : ¬ (k : Int) < (keep.length : Int) := by omega
        have HNK := Lib.hid hkk
        go_wp2_with fail
        refine (HL.out _).mono ?_
        rintro e w9 ⟨rfl, hd9, hk9⟩
        have HD9 := Lib.hid hd9
        have HK9 := Lib.hid hk9
        clear hd9 hk9
        go_wp2
        go_roundw
        case rel =>
          refine ⟨k + 1, by have := HLT.out; omega, by go_num, ?_, HK.out.trans HK9.out⟩
          have := HD9.out
          rw [bs_mk, ← keep_none (keep := keep) (k := k) (by have := HNK.out; omega), crashK_step HP.out HDk.out.fit.sorted] at this
          exact this
        case measure => have := HLT.out; simp [intOf]; omega
    · have hke : k = s.fs.length := by omega
      obtain ⟨own', mv', wv', mo', hd⟩ := HDk.out
      have c3 := hd.c3
      have c4 := hd.c4
      have f3 := hd.f 3
      have f4 := hd.f 4
      have HE := Lib.hid hd
      have HKE := Lib.hid hke
      clear hd hke
      go_wp2
      go_end0
      have hS2 : ∀ j, j < wr.heap.size → (own j ≠ .no ∨ w1.heap.size ≤ j) → S j := fun j _ hj => hj.elim (fun h => (hso.out.mine j h).1) (fun h => HS.out j (Nat.le_trans HB1.out.size h))
      have hdb : S db := (hso.out.mine db (by rw [hso.out.disk]; simp)).1
      have hK : Kept S w wr := (Kept.of_below HB1.out).trans (HK.out.mono (fun j hj h => hS2 j (Nat.lt_of_lt_of_le hj HK.out.size) h))
      refine ⟨rfl, ?_, (hK.set (.inl hdb) _).set (.inl hdb) _⟩
      have hb := HE.out.block
      have hfs : (crashS s keep).fs = crashK s.fs keep k := by rw [HKE.out, crashK_all]; rfl
      have hsz : ((wr.setCell ⟨db, 3, none⟩ (.bool false)).setCell ⟨db, 4, none⟩ (.bool false)).heap.size = wr.heap.size := by simp [World.setCell]
      have hfit : Fit (crashS s keep) := by
        have := HE.out.fit
        unfold crashS
        rw [← crashK_all, ← HKE.out]
        exact ⟨this.sorted, this.room, this.roomI, this.moreI, this.keys, this.syn⟩
      refine ⟨own', mv', false, mo', ?_⟩
      have hd' : DiskO own' S wr db { s with fs := crashK s.fs keep k } mv' wv' mo' := ⟨fun j hj => ⟨hS2 j (HE.out.mine j hj).2 (HE.out.mine j hj).1, (HE.out.mine j hj).2⟩, HE.out.disk, HE.out.block, HE.out.brk, HE.out.map, HE.out.fit⟩
      refine hd'.reblock hsz (fun j hj => by rw [Below.heap_setCell _ _ _ _ hj, Below.heap_setCell _ _ _ _ hj]) ?_ hfs (fun _ => ⟨rfl, fun h => by cases h⟩) hfit
      have e : diskC mv' (crashS s keep) false mo' = .cells #[mv', .int .i64 (s.room : Int), .int .i64 (usedF (crashK s.fs keep k) : Int), .bool false, .bool false, .int .i64 mo'] 68 (0, 0) := by unfold diskC; rw [hfs]; rfl
      rw [e]
      simp [World.setCell, Array.getElem?_modify, hb, diskC]
abbrev strC : ByteArray → Value := Value.string
abbrev cellsOf {α : Type} (c : α → Value) (l : List α) : List Value := l.map c
theorem list_get {S : Nat → Prop} {w : World} {a : Option Addr} {n c k : Nat} {l : List ByteArray} {x : ByteArray} (h : ListOff S w (.slice a n c) n (cellsOf strC l)) (hk : l[k]? = some x) :
    ∃ b off, a = some ⟨b, off, none⟩ ∧ n ≤ c ∧ k < n ∧ w.cell? ⟨b, off + k, none⟩ = some (.string x) := by
  obtain ⟨h1, a', c', e, hc, h2⟩ := h
  cases e
  have hlt : k < n := by rw [← h1]; simp [cellsOf]; exact (List.getElem?_eq_some_iff.1 hk).1
  rcases h2 with h2 | ⟨b, off, rfl, _, _, hcell⟩
  · omega
  · exact ⟨b, off, rfl, hc, hlt, hcell k _ (by simp [cellsOf, List.getElem?_map, hk])⟩
end Go.Proofs.Ytnffjoflkeagfaa
