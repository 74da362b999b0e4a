/- A journal as mathematics: what its calls answer, over the disk's own mathematics. Plain. A journal in memory; its file, its records, copies of texts. -/
import Derived.Test.YtnffjoflkeagfaaGreatD6
import Derived.Test.YtnffjoflkeagfaaGreatF3
import Derived.Laws.OwnMore
import Derived.Laws.AppendOwnNone
import Derived.Maps.AppendAt
import Derived.Deep.AppendLies
import Derived.Deep.RegionHeld3
namespace Go.Proofs.YtnffjoflkeagfaaGreat
open Go.RowKit Go.Maps

abbrev Recs := List ByteArray
/-- what is made of a file that was read -/
def cutsS (s : St) (k b : List UInt8) : Option Recs × Int × St :=
  if Fr.scanN b < b.length then
    if (cutS s k (Fr.scanN b : Int)).1 = 0 then (some (Fr.scanT b), 0, (cutS s k (Fr.scanN b : Int)).2) else (none, (cutS s k (Fr.scanN b : Int)).1, (cutS s k (Fr.scanN b : Int)).2)
  else (some (Fr.scanT b), 0, s)
/-- Open -/
def openS (s : St) (k : List UInt8) : Option Recs × Int × St := if s.down = true then (none, 41, s) else cutsS s k (getF s.fs k).b
/-- Append: what is answered, the records, the disk -/
def writeS (s : St) (k : List UInt8) (L l : Recs) : Int × Recs × St :=
  if (appendS s k (Fr.joinB l)).1 = 0 then
    if (syncS (appendS s k (Fr.joinB l)).2 k).1 = 0 then (0, L ++ l, (syncS (appendS s k (Fr.joinB l)).2 k).2) else ((syncS (appendS s k (Fr.joinB l)).2 k).1, L, (syncS (appendS s k (Fr.joinB l)).2 k).2)
  else ((appendS s k (Fr.joinB l)).1, L, (appendS s k (Fr.joinB l)).2)
/-- Rewrite -/
def otherS (s : St) (k : List UInt8) (L l : Recs) : Int × Recs × St :=
  if (replaceS s k (Fr.joinB l)).1 = 0 then (0, l, (replaceS s k (Fr.joinB l)).2) else ((replaceS s k (Fr.joinB l)).1, L, (replaceS s k (Fr.joinB l)).2)

theorem getF_none {fs : Fs} {k : List UInt8} (h : ¬ (look fs k).isSome = true) : getF fs k = F.zero := by
  unfold getF
  cases e : look fs k with
  | none => rfl
  | some f => rw [e] at h; simp at h
theorem read_up {s : St} (h : s.down = false) (k : List UInt8) : (readS s k).1 = (getF s.fs k).b ∧ ((readS s k).2 = 0 ∨ (readS s k).2 = 42) := by
  unfold readS
  rw [if_neg (by rw [h]; simp)]
  split
  · exact ⟨rfl, .inl rfl⟩
  · rename_i hn
    rw [getF_none hn]; exact ⟨rfl, .inr rfl⟩
theorem read_down {s : St} (h : s.down = true) (k : List UInt8) : readS s k = ([], 41) := by unfold readS; rw [if_pos h]
/-- a change answers 0, 41, or what it errs by -/
theorem changeS_ans (s : St) (e : Int) (f1 f2 : Fs) : (changeS s e f1 f2).1 = 0 ∨ (changeS s e f1 f2).1 = 41 ∨ ((changeS s e f1 f2).1 = e ∧ s.down = false ∧ (changeS s e f1 f2).2 = s) := by
  unfold changeS
  split
  · exact .inr (.inl rfl)
  · rename_i hd
    split
    · exact .inr (.inr ⟨rfl, by simpa using hd, rfl⟩)
    · split
      · split
        · exact .inr (.inl rfl)
        · exact .inl rfl
      · exact .inl rfl
theorem scan_pos {b : List UInt8} (h : Fr.scanN b < b.length) (fs : Fs) (k : List UInt8) (hb : b = (getF fs k).b) : (look fs k).isSome = true := by
  by_cases hh : (look fs k).isSome = true
  · exact hh
  · rw [hb, getF_none hh] at h
    simp [F.zero] at h
/-- what Open errs by is that the disk is down -/
theorem open_err (s : St) (k : List UInt8) (h : (openS s k).1 = none) : (openS s k).2.1 = 41 := by
  unfold openS at h ⊢
  by_cases hd : s.down = true
  · rw [if_pos hd]
  · rw [if_neg hd] at h ⊢
    unfold cutsS at h ⊢
    by_cases hl : Fr.scanN (getF s.fs k).b < (getF s.fs k).b.length
    · rw [if_pos hl] at h ⊢
      by_cases hc : (cutS s k (Fr.scanN (getF s.fs k).b : Int)).1 = 0
      · rw [if_pos hc] at h; cases h
      · rw [if_neg hc] at h ⊢
        have he : cutE s k (Fr.scanN (getF s.fs k).b : Int) = 0 := by
          unfold cutE
          rw [if_pos (scan_pos hl s.fs k rfl), if_neg (by omega)]
        rcases changeS_ans s (cutE s k (Fr.scanN (getF s.fs k).b : Int)) (putF s.fs k (cutF (getF s.fs k) (Fr.scanN (getF s.fs k).b : Int).toNat)) s.fs with h1 | h1 | h1
        · exact absurd h1 hc
        · exact h1
        · exact absurd (h1.1.trans he) hc
    · rw [if_neg hl] at h; cases h
theorem open_ok (s : St) (k : List UInt8) (L : Recs) (h : (openS s k).1 = some L) : (openS s k).2.1 = 0 ∧ s.down = false := by
  unfold openS at h ⊢
  by_cases hd : s.down = true
  · rw [if_pos hd] at h; cases h
  · rw [if_neg hd] at h ⊢
    refine ⟨?_, by simpa using hd⟩
    unfold cutsS at h ⊢
    split
    · split
      · rfl
      · rename_i h1 h2
        rw [if_pos h1, if_neg h2] at h; cases h
    · rfl
end Go.Proofs.YtnffjoflkeagfaaGreat
namespace Go.Proofs.YtnffjoflkeagfaaGreat
open Go.RowKit Go.Maps

theorem off_at {S : Nat → Prop} {w : World} {v : Value} {n : Nat} {xs : List Value} (h : ListOff S w v n xs) : Fr.ListAt w v n xs := by
  obtain ⟨h1, a, cap, rfl, hcap, h2⟩ := h
  refine ⟨h1, a, cap, rfl, hcap, ?_⟩
  rcases h2 with h2 | ⟨b, off, rfl, hlt, _, hc⟩
  · exact .inl h2
  · exact .inr ⟨b, off, rfl, hlt, hc⟩
theorem at_off {w : World} {v : Value} {n : Nat} {xs : List Value} (h : Fr.ListAt w v n xs) : ListOff (fun _ => False) w v n xs := by
  obtain ⟨h1, a, cap, rfl, hcap, h2⟩ := h
  refine ⟨h1, a, cap, rfl, hcap, ?_⟩
  rcases h2 with h2 | ⟨b, off, rfl, hlt, hc⟩
  · exact .inl h2
  · exact .inr ⟨b, off, rfl, hlt, fun h => h, hc⟩
/-- a slice reads as these texts; nothing of it lies in S -/
def TxtOff (S : Nat → Prop) (w : World) (v : Value) (l : Recs) : Prop := ListOff S w v l.length (cellsOf strC l) ∧ ∀ n c, v = .slice none n c → n = 0 ∧ c = 0
theorem TxtOff.kept {S : Nat → Prop} {w w' : World} {v : Value} {l : Recs} (h : TxtOff S w v l) (hk : Kept S w w') : TxtOff S w' v l := ⟨h.1.kept hk, h.2⟩
theorem TxtOff.below {S : Nat → Prop} {w w' : World} {v : Value} {l : Recs} (h : TxtOff S w v l) (hb : Below w.heap.size w w') : TxtOff S w' v l := h.kept (Kept.of_below hb)
theorem TxtOff.mono {S S' : Nat → Prop} {w : World} {v : Value} {l : Recs} (h : TxtOff S w v l) (hS : ∀ k, S' k → S k) : TxtOff S' w v l := ⟨h.1.mono (fun k _ => hS k), h.2⟩
theorem TxtOff.slice {S : Nat → Prop} {w : World} {v : Value} {l : Recs} (h : TxtOff S w v l) : ∃ a c, v = .slice a l.length c := by
  obtain ⟨⟨_, a, c, rfl, _⟩, _⟩ := h; exact ⟨a, c, rfl⟩
def Src (w : World) (V : Value) (m : Nat) (cells : List Value) : Prop :=
  (V = .slice none 0 0 ∧ m = 0 ∧ cells = []) ∨ ∃ ad c, V = .slice (some ad) m c ∧ ∀ j u, cells[j]? = some u → w.cell? (ad.add j) = some u
theorem add_off (b off j : Nat) : (⟨b, off, none⟩ : Addr).add j = ⟨b, off + j, none⟩ := by unfold Addr.add; split <;> simp_all
theorem TxtOff.src {S : Nat → Prop} {w : World} {v : Value} {l : Recs} (h : TxtOff S w v l) : Src w v l.length (cellsOf strC l) := by
  obtain ⟨⟨h1, a, c, rfl, hc, h2⟩, h3⟩ := h
  cases a with
  | none =>
    obtain ⟨e1, e2⟩ := h3 _ _ rfl
    refine .inl ⟨by rw [e1, e2], e1, ?_⟩
    rw [List.length_eq_zero_iff.1 e1]; rfl
  | some ad =>
    refine .inr ⟨ad, c, rfl, fun j u hu => ?_⟩
    rcases h2 with h2 | ⟨b, off, e, _, _, h4⟩
    · rw [List.length_eq_zero_iff.1 h2] at hu; simp [cellsOf] at hu
    · cases e
      rw [add_off]; exact h4 j u hu
theorem Src.of_at {w : World} {a : Option Addr} {n c : Nat} {l : Recs} (h : Fr.ListAt w (.slice a n c) n (cellsOf strC l)) (h3 : a = none → n = 0 ∧ c = 0) : Src w (.slice a n c) n (cellsOf strC l) := by
  obtain ⟨h1, a', c', e, hc, h2⟩ := h
  cases e
  cases a with
  | none =>
    obtain ⟨e1, e2⟩ := h3 rfl
    subst e1 e2
    exact .inl ⟨rfl, rfl, List.length_eq_zero_iff.1 h1⟩
  | some ad =>
    refine .inr ⟨ad, c, rfl, fun j u hu => ?_⟩
    rcases h2 with h2 | ⟨b, off, e, _, h4⟩
    · rw [h2] at h1; rw [List.length_eq_zero_iff.1 h1] at hu; simp at hu
    · cases e
      rw [add_off]; exact h4 j u hu
/-- a row of texts of its own, in a block of S -/
def RowS (S : Nat → Prop) (w : World) (v : Value) (L : Recs) : Prop := w.ownsRow 0 9 1 v L.length (cellsOf strC L) ∧ ∀ g, v.ownBlock = some g → S g
theorem own_lt {w : World} {B : Nat} {e : TypeId} {sz : Nat} {v : Value} {n : Nat} {xs : List Value} (h : w.ownsRow B e sz v n xs) {g : Nat} (hg : v.ownBlock = some g) : g < w.heap.size := (h.lt g hg).2
theorem own_keep {w w' : World} {B : Nat} {e : TypeId} {sz : Nat} {v : Value} {n : Nat} {xs : List Value} (h : w.ownsRow B e sz v n xs) (hk : ∀ g, v.ownBlock = some g → w'.heap[g]? = w.heap[g]?) : w'.ownsRow B e sz v n xs := by
  obtain ⟨h1, h2⟩ := h
  refine ⟨h1, ?_⟩
  rcases h2 with h2 | ⟨g, cap, cur, rfl, hB, hg, r⟩
  · exact .inl h2
  · exact .inr ⟨g, cap, cur, rfl, hB, (hk g rfl).trans hg, r⟩
theorem RowS.slice {S : Nat → Prop} {w : World} {v : Value} {L : Recs} (h : RowS S w v L) : ∃ a c, v = .slice a L.length c := row_slice h.1
theorem RowS.txt {S : Nat → Prop} {w : World} {v : Value} {L : Recs} (h : RowS S w v L) (S' : Nat → Prop) (hS : ∀ g, v.ownBlock = some g → ¬ S' g) : TxtOff S' w v L := by
  obtain ⟨h1, h2⟩ := h
  have hl := Fr.ListAt.of_own h1
  refine ⟨?_, ?_⟩
  · obtain ⟨e1, a, c, rfl, hc, h3⟩ := hl
    refine ⟨e1, a, c, rfl, hc, ?_⟩
    rcases h3 with h3 | ⟨b, off, rfl, hb, h4⟩
    · exact .inl h3
    · exact .inr ⟨b, off, rfl, hb, hS b rfl, h4⟩
  · intro n c e
    obtain ⟨_, h3⟩ := h1
    rcases h3 with ⟨h3, _⟩ | ⟨g, cap, cur, h3, _⟩
    · rw [h3] at e; cases e; exact ⟨rfl, rfl⟩
    · rw [h3] at e; cases e
theorem RowS.keep {S S' : Nat → Prop} {w w' : World} {v : Value} {L : Recs} (h : RowS S w v L) (hk : ∀ g, S g → g < w.heap.size → w'.heap[g]? = w.heap[g]?) (hS : ∀ g, g < w.heap.size → S g → S' g) : RowS S' w' v L :=
  ⟨own_keep h.1 (fun g hg => hk g (h.2 g hg) (own_lt h.1 hg)), fun g hg => hS g (own_lt h.1 hg) (h.2 g hg)⟩
/-- a journal: its disk, its name, its records -/
abbrev walO (db : Nat) (name : ByteArray) (rv : Value) : Obj := .cells #[ptrV db, .string name, rv] 78 (0, 0)
structure WalO (S : Nat → Prop) (w : World) (wb db : Nat) (name : ByteArray) (L : Recs) (rv : Value) : Prop where
  mine : S wb
  block : w.heap[wb]? = some (walO db name rv)
  row : RowS S w rv L
def WalQ (wb db : Nat) (name : ByteArray) (L : Recs) : (Nat → Prop) → World → Prop := fun S w => ∃ rv, WalO S w wb db name L rv
section
variable {S S' : Nat → Prop} {w w' : World} {wb db : Nat} {name : ByteArray} {L : Recs} {rv : Value}
theorem WalO.lt (h : WalO S w wb db name L rv) : wb < w.heap.size := (Array.getElem?_eq_some_iff.1 h.block).1
theorem WalO.c0 (h : WalO S w wb db name L rv) : w.cell? ⟨wb, 0, none⟩ = some (ptrV db) := by rw [Lib.cell_of_heap h.block]; rfl
theorem WalO.c1 (h : WalO S w wb db name L rv) : w.cell? ⟨wb, 1, none⟩ = some (.string name) := by rw [Lib.cell_of_heap h.block]; rfl
theorem WalO.c2 (h : WalO S w wb db name L rv) : w.cell? ⟨wb, 2, none⟩ = some rv := by rw [Lib.cell_of_heap h.block]; rfl
theorem WalO.f (h : WalO S w wb db name L rv) (j : Nat) : w.frozen? ⟨wb, j, none⟩ = false := Lib.frozen_of_heap h.block j
theorem WalO.apart (h : WalO S w wb db name L rv) {g : Nat} (hg : rv.ownBlock = some g) : g ≠ wb := by
  rcases h.row.1.2 with ⟨e, _⟩ | ⟨g', cap, cur, e, _, hb, _⟩
  · rw [e] at hg; simp [Value.ownBlock] at hg
  · rw [e] at hg
    have : g' = g := by simpa [Value.ownBlock] using hg
    subst this
    rintro rfl
    have := h.block.symm.trans hb
    injection this with e1
    injection e1 with _ e2 _
    exact absurd e2 (by decide)
theorem WalO.other (h : WalO S w wb db name L rv) (hk : Kept S' w w') (hS : ∀ k, k < w.heap.size → S k → ¬ S' k) : WalO S w' wb db name L rv :=
  ⟨h.mine, (hk.block wb h.lt (hS wb h.lt h.mine)).trans h.block, h.row.keep (fun g hg hl => hk.block g hl (hS g hl hg)) (fun _ _ hg => hg)⟩
theorem WalO.mono (h : WalO S w wb db name L rv) (hS : ∀ k, k < w.heap.size → S k → S' k) : WalO S' w wb db name L rv :=
  ⟨hS wb h.lt h.mine, h.block, h.row.keep (fun _ _ _ => rfl) hS⟩
end
theorem walThing (wb db : Nat) (name : ByteArray) (L : Recs) : Thing (WalQ wb db name L) :=
  ⟨fun h hS => by obtain ⟨rv, h⟩ := h; exact ⟨rv, h.mono hS⟩, fun h => by obtain ⟨rv, h⟩ := h; exact ⟨rv, h.mono (fun _ hl hk => ⟨hk, hl⟩)⟩, fun h hk hS => by obtain ⟨rv, h⟩ := h; exact ⟨rv, h.other hk hS⟩⟩
/-- the records grow: what the append and the store leave -/
theorem WalO.push {S : Nat → Prop} {w w2 w3 : World} {wb db : Nat} {name : ByteArray} {L L' : Recs} {rv v' : Value} (h : WalO S w wb db name L rv) (hS : ∀ k, w.heap.size ≤ k → S k) (hb : Below w.heap.size w w2) (hg : w2.grownBy w3 rv.ownBlock)
    (ho : w3.ownsRow 0 9 1 v' L'.length (cellsOf strC L')) (hat : ∀ g, v'.ownBlock = some g → rv.ownBlock = some g ∨ w.heap.size ≤ g) :
    WalO S (w3.setCell ⟨wb, 2, none⟩ v') wb db name L' v' ∧ Kept S w (w3.setCell ⟨wb, 2, none⟩ v') := by
  have k2 : Kept S w w2 := Kept.of_below hb
  have k3 : Kept S w2 w3 := by
    cases e : rv.ownBlock with
    | none => rw [e] at hg; exact ⟨hg.os, hg.tape, hg.output, hg.size, fun i hi _ => hg.block i hi (by simp)⟩
    | some g => rw [e] at hg; exact Kept.of_but hg (h.row.2 g e)
  have hblk : w3.heap[wb]? = some (walO db name rv) := by
    have h1 := (hb.block wb h.lt).trans h.block
    refine (hg.block wb (Nat.lt_of_lt_of_le h.lt hb.size) ?_).trans h1
    intro e
    exact h.apart e.symm rfl
  have hSg : ∀ g, v'.ownBlock = some g → S g := fun g hg => (hat g hg).elim (fun h' => h.row.2 g h') (fun h' => hS g h')
  have hne : ∀ g, v'.ownBlock = some g → g ≠ wb := fun g hg => (hat g hg).elim (fun h' => h.apart h') (fun h' => by have := h.lt; omega)
  refine ⟨⟨h.mine, ?_, ?_, hSg⟩, (k2.trans k3).set (.inl h.mine) _⟩
  · simp [World.setCell, Array.getElem?_modify, hblk, walO]
  · exact own_keep ho (fun g hg => heap_setCell_other _ _ _ _ (by show g ≠ wb; exact hne g hg))
set_option maxHeartbeats 1000000 in
theorem file_any {S : Nat → Prop} {w : World} {wb db : Nat} {name : ByteArray} {L : Recs} (h : WalQ wb db name L S w) :
    Calls Tryz.prog 34 #[ptrV wb] w fun e w' => e = .returned (.tuple #[ptrV db, .string name]) ∧ ∃ q, w' = w.drewN q := by
  obtain ⟨rv, h⟩ := h
  have c0 := h.c0
  have c1 := h.c1
  clear h
  go_enter Tryz.func34, Tryz.ntmps34
  go_wp2
  go_region
  go_wp2
  go_ret2
  exact ⟨rfl, 1, rfl⟩
/-- append onto an owned row -/
theorem wpList_append_row {P : Program} {w : World} {ops : Array Oper} {rest : List Oper} {o : Oper} {a : Act} {Q : Exit → Act → World → Prop} (hgd : o.guard = none) (s x : Operand) (t : TypeId)
    (ho : o.op = .call { callee := .builtin .append, args := #[s, x], argTypes := #[t, t] })
    (base : Nat) (e : TypeId) (i : TypeInfo) (z : Value) (size bytes : Nat) (ht : P.underlying t = some (.slice e)) (hi : P.info? e = some i) (hz : i.zero = some z)
    (hsize : i.size = size) (hby : i.bytes = bytes) (hzs : z.cells.size = size) (hsz : 0 < size)
    (v : Value) (n : Nat) (xs : List Value) (hs : a.eval s = v) (hown : w.ownsRow base e size v n xs)
    (V : Value) (m : Nat) (news : List Value) (hx : a.eval x = V) (hsrc : Src w V m news) (hl : news.length = m * size) (h1 : ∀ u ∈ news, u.oneCell' = true)
    (h63 : n + m ≤ maxLen) (hbytes : (n + m) * bytes ≤ 140737488355328) (hbase : base ≤ w.heap.size)
    (h : ∀ v' w', w'.ownsRow base e size v' (n + m) (xs ++ news) → w.grownBy w' v.ownBlock → (v'.ownBlock = v.ownBlock ∨ v'.ownBlock = some w.heap.size) → wpList P ops Q rest (a.put o.dst v') w') :
    wpList P ops Q (o :: rest) a w := by
  rcases hsrc with ⟨rfl, rfl, rfl⟩ | ⟨ad, c, rfl, hc⟩
  · refine wpList_append_own_none hgd s x t ho base e i size ht hi v n xs hs hown hx (h v w (by simpa using hown) ⟨rfl, rfl, rfl, Nat.le_refl _, fun _ _ _ => rfl⟩ (.inl rfl))
  · exact wpList_append_own_at _ hgd s x t ho base e i z size bytes ht hi hz hsize hby hzs hsz v n xs hs hown ad m c news hx hl hc h1 h63 hbytes hbase (fun v' w' p1 p2 _ p4 => h v' w' p1 p2 p4)
theorem ones_str (l : Recs) : ∀ u ∈ cellsOf strC l, u.oneCell' = true := by
  intro u hu
  simp only [cellsOf, List.mem_map] at hu
  obtain ⟨x, _, rfl⟩ := hu
  rfl
theorem info_str5 : (Tryz.prog.info? 9).map (fun i => (i.zero, i.size, i.bytes)) = some (some (.string ⟨#[]⟩), 1, 16) := by kernel_rfl
/-- copies of texts: a row just made -/
theorem txt_cell {S : Nat → Prop} {w : World} {a : Option Addr} {n c k : Nat} {l : Recs} {x : ByteArray} (h : ListOff S w (.slice a n c) n (cellsOf strC l)) (hk : l[k]? = some x) :
    ∃ b off, a = some ⟨b, off, none⟩ ∧ n ≤ c ∧ k < n ∧ b < w.heap.size ∧ w.cell? ⟨b, off + k, none⟩ = some (.string x) := by
  obtain ⟨h1, a', c', e, hc, h2⟩ := h
  cases e
  have hlt : k < n := by rw [← h1]; simp [cellsOf]; exact (List.getElem?_eq_some_iff.1 hk).1
  rcases h2 with h2 | ⟨b, off, rfl, hb, _, hcell⟩
  · omega
  · exact ⟨b, off, rfl, hc, hlt, hb, hcell k _ (by simp [cellsOf, List.getElem?_map, hk])⟩
theorem set_mid (l : Recs) (k : Nat) (x : ByteArray) (hx : l[k]? = some x) (z : Value) :
    (cellsOf strC (l.take k) ++ List.replicate (l.length - k) z).set k (.string x) = cellsOf strC (l.take (k + 1)) ++ List.replicate (l.length - (k + 1)) z := by
  have hk := (List.getElem?_eq_some_iff.1 hx).1
  have e1 : (cellsOf strC (l.take k)).length = k := by simp [cellsOf]; omega
  rw [take_snocA l k x hx, List.set_append_right _ _ (by omega), e1, Nat.sub_self, show l.length - k = (l.length - (k + 1)) + 1 by omega, List.replicate_succ, List.set_cons_zero]
  simp [cellsOf]
set_option maxHeartbeats 4000000 in
set_option maxRecDepth 100000 in
theorem copies_any {S : Nat → Prop} {w : World} {v : Value} {l : Recs} (h : TxtOff S w v l) (hl : l.length ≤ 1048576) (hs : ∀ c ∈ l, c.size ≤ 281474976710656) :
    Calls Tryz.prog 36 #[v] w fun e w' => e = .returned (.slice (some ⟨w.heap.size, 0, none⟩) l.length l.length) ∧ w'.ownsRow w.heap.size 9 1 (.slice (some ⟨w.heap.size, 0, none⟩) l.length l.length) l.length (cellsOf strC l) ∧ Below w.heap.size w w' := by
  obtain ⟨i0, hi, hz0, hz1, hz2⟩ := info_parts info_str5
  obtain ⟨va, vc, rfl⟩ := h.slice
  have H := Lib.hid h.1
  clear h
  obtain ⟨w1, hr, ho, hg⟩ := run_make_full (P := Tryz.prog) w w.heap.size 35 9 i0 (.string ⟨#[]⟩) 1 Tryz.underlying35 hi hz0 hz1 .i64 .i64 l.length (by rw [hz2]; omega) (by unfold maxLen; omega) (Nat.le_refl _)
  have e0 : (madeCells (Value.string ⟨#[]⟩).cells (l.length * 1)).toList = cellsOf strC (l.take 0) ++ List.replicate (l.length - 0) (Value.string ⟨#[]⟩) := by
    rw [Nat.mul_one]
    exact (toList_madeCells_one (Value.string ⟨#[]⟩) l.length).trans (by simp [cellsOf])
  rw [e0] at ho
  have B1 : Hid (Below w.heap.size w w1) := (Below.refl _ _).grown hg (Nat.le_refl _) (fun _ hk => by cases hk)
  have HO := Lib.hid ho
  have HSZ := Lib.hid hs
  clear ho hg e0 hs
  go_enter Tryz.func36, Tryz.ntmps36
  go_wp2
  go_loopw [11] (fun i wr => ∃ k : Nat, k ≤ l.length ∧ i = .int .i64 k ∧ wr.ownsRow w.heap.size 9 1 (.slice (some ⟨w.heap.size, 0, none⟩) l.length l.length) l.length (cellsOf strC (l.take k) ++ List.replicate (l.length - k) (Value.string ⟨#[]⟩)) ∧ Below w.heap.size w wr) (fun i _ => l.length - (intOf i).toNat)
  case atStart => exact ⟨0, by omega, rfl, HO.out, B1.out⟩
  case round =>
    obtain ⟨k, hk, rfl, hx, hbw⟩ := hrel
    have HX := Lib.hid hx
    have HW := Lib.hid hbw
    have hszw := hbw.size
    clear hx hbw
    by_cases hlt : k < l.length
    · have hlti : (k : Int) < (l.length : Int) := by omega
      obtain ⟨x, hx⟩ : ∃ x, l[k]? = some x := ⟨l[k], List.getElem?_eq_getElem hlt⟩
      obtain ⟨b, off, rfl, hnc, _, hbl, c0⟩ := txt_cell H.out hx
      have c1 : wr.cell? ⟨b, off + k, none⟩ = _ := (HW.out.cell (p := ⟨b, off + k, none⟩) hbl).trans c0
      have hcl := fun w' => Fr.clone_any x w' (HSZ.out x (List.mem_of_getElem? hx))
      have HXX := Lib.hid hx
      clear hx c0
      go_wp2_with fail
      refine (hcl _).mono ?_
      rintro e w2 ⟨rfl, b2⟩
      have HX2 := Lib.hid (own_keep HX.out (w' := w2) (fun g hg => b2.block g (own_lt HX.out hg)))
      have HW2 : Hid (Below w.heap.size w w2) := HW.out.trans (b2.mono hszw)
      have cc : w2.cell? ⟨w.heap.size, k, none⟩ = some (.string ⟨#[]⟩) := by
        have e1 : (cellsOf strC (l.take k)).length = k := by simp [cellsOf]; omega
        rw [HX2.out.cellAt k (by omega), List.getElem?_append_right (by omega), e1, Nat.sub_self, List.getElem?_replicate, if_pos (by omega)]
      have ff : w2.frozen? ⟨w.heap.size, k, none⟩ = false := HX2.out.frozenAt k
      clear b2 hcl
      go_wp2
      go_roundw
      case rel =>
        refine ⟨k + 1, by omega, by go_num, ?_, HW2.out.setCell (p := ⟨w.heap.size, k, none⟩) (Nat.le_refl _) _⟩
        have := (HX2.out.stored k (.string x)).1
        rw [set_mid l k x HXX.out] at this
        exact this
      case measure => simp [intOf]; omega
    · have hlti : ¬ (k : Int) < (l.length : Int) := by omega
      have hke : k = l.length := by omega
      have HX2 := Lib.hid (show wr.ownsRow w.heap.size 9 1 (.slice (some ⟨w.heap.size, 0, none⟩) l.length l.length) l.length (cellsOf strC l) from by
        have := HX.out
        rw [hke] at this
        simpa using this)
      clear hke
      go_wp2
      go_ret
      exact ⟨rfl, HX2.out, HW.out⟩
set_option maxHeartbeats 2000000 in
set_option maxRecDepth 100000 in
theorem cloneL_any {S : Nat → Prop} {w : World} {v : Value} {L : Recs} (h : TxtOff S w v L) (hl : L.length ≤ 1099511627776) :
    Calls Tryz.prog 38 #[v] w fun e w' => ∃ v', e = .returned v' ∧ w'.ownsRow w.heap.size 9 1 v' L.length (cellsOf strC L) ∧ Below w.heap.size w w' := by
  obtain ⟨i0, hi, hz0, hz1, hz2⟩ := info_parts info_str5
  have hsrc := h.src
  obtain ⟨va, vc, rfl⟩ := h.slice
  cases va with
  | none =>
    obtain ⟨e1, e2⟩ := h.2 _ _ rfl
    have e3 := List.length_eq_zero_iff.1 e1
    subst e3 e2
    have hnil := fun w' => Lib.run_eql_slice_nil (P := Tryz.prog) w' 35 9 none 0 0 0 0 Tryz.underlying35
    go_enter Tryz.func38, Tryz.ntmps38
    go_wp2
    go_ret
    exact ⟨_, rfl, World.ownsRow_nil _ _ _ _, Below.refl _ _⟩
  | some ad =>
    have HS : Hid (Src w (.slice (some ad) L.length vc) L.length (cellsOf strC L)) := hsrc
    have HL := Lib.hid (h.below ((Below.refl _ w).alloc (Nat.le_refl _) (.cells #[] 9))).src
    clear hsrc h
    have hnil := fun w' => Lib.run_eql_slice_nil (P := Tryz.prog) w' 35 9 (some ad) L.length vc 0 0 Tryz.underlying35
    go_enter Tryz.func38, Tryz.ntmps38
    go_wp2_with (at_builtin; go_loud (refine wpList_append_row rfl _ _ 35 rfl w.heap.size 9 i0 (.string ⟨#[]⟩) 1 16 Tryz.underlying35 hi hz0 hz1 hz2 rfl (by decide) _ 0 [] rfl (World.ownsRow_lit w #[] 0 (Nat.le_refl _) (by decide) rfl) _ L.length (cellsOf strC L) rfl HL.out (by simp [cellsOf]) (ones_str L) (by unfold maxLen; omega) (by omega) (by simp) ?_))
    intro v' w2 ho hg _
    have HO := Lib.hid ho
    have HB : Hid (Below w.heap.size w w2) := ((Below.refl _ w).alloc (Nat.le_refl _) _).grown hg (by simp) (fun k hk => by simp [Value.ownBlock] at hk; omega)
    obtain ⟨a', c', rfl⟩ := row_slice ho
    clear ho hg
    go_wp2
    go_ret
    exact ⟨_, rfl, by simpa using HO.out, HB.out⟩
set_option maxHeartbeats 1000000 in
theorem Records_any {S : Nat → Prop} {w : World} {wb db : Nat} {name : ByteArray} {L : Recs} (h : WalQ wb db name L S w) (hl : L.length ≤ 1099511627776) :
    Calls Tryz.prog 17 #[ptrV wb] w fun e w' => ∃ v', e = .returned v' ∧ w'.ownsRow w.heap.size 9 1 v' L.length (cellsOf strC L) ∧ Below w.heap.size w w' := by
  obtain ⟨rv, h⟩ := h
  have c2 := h.c2
  have hc := cloneL_any (h.row.txt (fun _ => False) (fun _ _ h => h)) hl
  obtain ⟨a, c, rfl⟩ := h.row.slice
  clear h
  go_enter Tryz.func17, Tryz.ntmps17
  go_wp2_with fail
  refine hc.mono ?_
  rintro e w2 ⟨v', rfl, ho, hb⟩
  obtain ⟨a', c', rfl⟩ := row_slice ho
  have HO := Lib.hid ho
  have HB := Lib.hid hb
  clear ho hb
  go_wp2
  go_ret
  exact ⟨_, rfl, HO.out, HB.out⟩
end Go.Proofs.YtnffjoflkeagfaaGreat
