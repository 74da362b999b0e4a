/- A disk as the document tells it: files in the order of their names. Plain, without a program. A disk in memory: its block, its map, its files' bytes; whose block is whose. A disk in memory. Down, Used, breaks, fits, what a change needs. -/
import Derived.WalkKit
import Derived.Below
import Derived.Test.YtnffjoflkeagfaaGreatChecked
import Derived.WalkSpells
import Derived.WalkLawsBesides
import Derived.IntWalk
import Derived.Laws.IdiomStrings
import Derived.OwnWalk
import Derived.Outline
import Derived.Lib.OthersKept
import Derived.Lib.ConvBytes
import Derived.Lib.VarintMem
import Derived.Lib.LazyBuf
import Derived.Deep.AppendSrc
import Derived.Deep.MidRow
import Derived.Deep.QuietTactic
import Derived.BigQuiet
import Derived.Lib.Strings
import Derived.RegionTactic
import Derived.Maps.OwnSet
import Derived.Maps.Ext
import Derived.Sort.KeysCollected
import Derived.KernelRfl
import Derived.Lib.Hide
namespace Go.Proofs.YtnffjoflkeagfaaGreat

/-- a file: its bytes, how many are synced, was it ever sure -/
structure F where
  b : List UInt8
  s : Nat
  u : Bool
abbrev Fs := List (List UInt8 × F)
def F.zero : F := ⟨[], 0, false⟩
def look : Fs → List UInt8 → Option F
  | [], _ => none
  | p :: r, k => if p.1 = k then some p.2 else look r k
def getF (fs : Fs) (k : List UInt8) : F := (look fs k).getD F.zero
def putF : Fs → List UInt8 → F → Fs
  | [], k, f => [(k, f)]
  | p :: r, k, f => if p.1 < k then p :: putF r k f else if p.1 = k then (k, f) :: r else (k, f) :: p :: r
def delF : Fs → List UInt8 → Fs
  | [], _ => []
  | p :: r, k => if p.1 = k then r else p :: delF r k
def usedF : Fs → Nat
  | [] => 0
  | p :: r => p.2.b.length + usedF r
def Sorted (fs : Fs) : Prop := fs.Pairwise (fun p q => p.1 < q.1)
theorem ltI (a : List UInt8) : ¬ a < a := List.lt_irrefl a
theorem ltT {a b c : List UInt8} (h : a < b) (k : b < c) : a < c := List.lt_trans h k
theorem ltN {a b : List UInt8} (h : ¬ a < b) (hne : a ≠ b) : b < a := by
  have h1 : b ≤ a := List.not_lt.1 h
  rcases Decidable.em (b < a) with h2 | h2
  · exact h2
  · exact absurd (List.le_antisymm (List.not_lt.1 h2) h1) hne
theorem ltne {a b : List UInt8} (h : a < b) : a ≠ b := fun e => by subst e; exact ltI _ h

theorem look_none {fs : Fs} {k : List UInt8} (h : ∀ p ∈ fs, p.1 ≠ k) : look fs k = none := by
  induction fs with
  | nil => rfl
  | cons p r ih => simp only [look, if_neg (h p (by simp))]; exact ih (fun q hq => h q (by simp [hq]))
theorem look_mem {fs : Fs} {k : List UInt8} {f : F} (h : look fs k = some f) : (k, f) ∈ fs := by
  induction fs with
  | nil => cases h
  | cons p r ih =>
    unfold look at h
    split at h
    · rename_i e; cases h; subst e; simp
    · simp [ih h]
theorem mem_look {fs : Fs} (hs : Sorted fs) {k : List UInt8} {f : F} (h : (k, f) ∈ fs) : look fs k = some f := by
  induction fs with
  | nil => cases h
  | cons p r ih =>
    obtain ⟨h1, h2⟩ := List.pairwise_cons.1 hs
    rcases List.mem_cons.1 h with e | h
    · subst e; simp [look]
    · have := h1 _ h
      rw [look, if_neg (ltne this)]
      exact ih h2 h
theorem look_tail {p : List UInt8 × F} {r : Fs} (hs : Sorted (p :: r)) {k : List UInt8} (h : ¬ p.1 < k) : look r k = none := by
  refine look_none fun q hq e => h ?_
  subst e
  exact (List.pairwise_cons.1 hs).1 q hq
theorem look_put_same (fs : Fs) (k : List UInt8) (f : F) : look (putF fs k f) k = some f := by
  induction fs with
  | nil => simp [putF, look]
  | cons p r ih =>
    unfold putF
    split
    · rename_i h; simp [look, if_neg (ltne h), ih]
    · split <;> simp [look]
theorem look_put_other (fs : Fs) (k k' : List UInt8) (f : F) (hne : k' ≠ k) : look (putF fs k f) k' = look fs k' := by
  induction fs with
  | nil => simp [putF, look, hne.symm]
  | cons p r ih =>
    unfold putF
    split
    · simp only [look, ih]
    · split
      · rename_i e; simp [look, e, hne.symm]
      · simp [look, hne.symm]
theorem look_del_same {fs : Fs} (hs : Sorted fs) (k : List UInt8) : look (delF fs k) k = none := by
  induction fs with
  | nil => rfl
  | cons p r ih =>
    unfold delF
    split
    · rename_i e; exact look_tail hs (by rw [e]; exact ltI _)
    · rename_i e; simp only [look, if_neg e]; exact ih (List.pairwise_cons.1 hs).2
theorem look_del_other (fs : Fs) (k k' : List UInt8) (hne : k' ≠ k) : look (delF fs k) k' = look fs k' := by
  induction fs with
  | nil => rfl
  | cons p r ih =>
    unfold delF
    split
    · rename_i e; simp only [look]; rw [if_neg (by rw [e]; exact hne.symm)]
    · simp only [look, ih]
theorem mem_put {fs : Fs} {k : List UInt8} {f : F} {q : List UInt8 × F} (h : q ∈ putF fs k f) : q = (k, f) ∨ q ∈ fs := by
  induction fs with
  | nil => simpa [putF] using h
  | cons p r ih =>
    unfold putF at h
    split at h
    · rcases List.mem_cons.1 h with e | h
      · exact .inr (by simp [e])
      · rcases ih h with e | h
        · exact .inl e
        · exact .inr (by simp [h])
    · split at h
      · rcases List.mem_cons.1 h with e | h
        · exact .inl e
        · exact .inr (by simp [h])
      · rcases List.mem_cons.1 h with e | h
        · exact .inl e
        · exact .inr h
theorem sorted_put {fs : Fs} (hs : Sorted fs) (k : List UInt8) (f : F) : Sorted (putF fs k f) := by
  induction fs with
  | nil => simp [putF, Sorted]
  | cons p r ih =>
    obtain ⟨h1, h2⟩ := List.pairwise_cons.1 hs
    unfold putF
    split
    · rename_i hlt
      refine List.pairwise_cons.2 ⟨fun q hq => ?_, ih h2⟩
      rcases mem_put hq with rfl | hq
      · exact hlt
      · exact h1 q hq
    · split
      · rename_i e
        exact List.pairwise_cons.2 ⟨fun q hq => by rw [← e]; exact h1 q hq, h2⟩
      · rename_i hn e
        have hk := ltN hn e
        refine List.pairwise_cons.2 ⟨fun q hq => ?_, hs⟩
        rcases List.mem_cons.1 hq with rfl | hq
        · exact hk
        · exact ltT hk (h1 q hq)
theorem mem_del {fs : Fs} {k : List UInt8} {q : List UInt8 × F} (h : q ∈ delF fs k) : q ∈ fs := by
  induction fs with
  | nil => cases h
  | cons p r ih =>
    unfold delF at h
    split at h
    · simp [h]
    · rcases List.mem_cons.1 h with e | h
      · simp [e]
      · simp [ih h]
theorem sorted_del {fs : Fs} (hs : Sorted fs) (k : List UInt8) : Sorted (delF fs k) := by
  induction fs with
  | nil => exact hs
  | cons p r ih =>
    obtain ⟨h1, h2⟩ := List.pairwise_cons.1 hs
    unfold delF
    split
    · exact h2
    · exact List.pairwise_cons.2 ⟨fun q hq => h1 q (mem_del hq), ih h2⟩
theorem used_put {fs : Fs} (hs : Sorted fs) (k : List UInt8) (f : F) : usedF (putF fs k f) + (getF fs k).b.length = usedF fs + f.b.length := by
  induction fs with
  | nil => simp [putF, usedF, getF, look, F.zero]
  | cons p r ih =>
    obtain ⟨h1, h2⟩ := List.pairwise_cons.1 hs
    have ih := ih h2
    unfold putF
    split
    · rename_i h
      have e : getF (p :: r) k = getF r k := by unfold getF; simp [look, if_neg (ltne h)]
      rw [e]; simp only [usedF]; omega
    · split
      · rename_i e
        have e2 : getF (p :: r) k = p.2 := by unfold getF; simp [look, e]
        rw [e2]; simp only [usedF]; omega
      · rename_i hn e
        have e2 : getF (p :: r) k = F.zero := by unfold getF; rw [look, if_neg e, look_tail hs hn]; rfl
        rw [e2]; simp only [usedF, F.zero, List.length_nil]; omega
theorem used_del {fs : Fs} (hs : Sorted fs) (k : List UInt8) : usedF (delF fs k) + (getF fs k).b.length = usedF fs := by
  induction fs with
  | nil => simp [delF, usedF, getF, look, F.zero]
  | cons p r ih =>
    obtain ⟨h1, h2⟩ := List.pairwise_cons.1 hs
    have ih := ih h2
    unfold delF
    split
    · rename_i e
      have e2 : getF (p :: r) k = p.2 := by unfold getF; simp [look, e]
      rw [e2]; simp only [usedF]; omega
    · rename_i e
      have e2 : getF (p :: r) k = getF r k := by unfold getF; simp [look, if_neg e]
      rw [e2]; simp only [usedF]; omega
theorem used_ge {fs : Fs} {k : List UInt8} {f : F} (h : (k, f) ∈ fs) : f.b.length ≤ usedF fs := by
  induction fs with
  | nil => cases h
  | cons p r ih =>
    simp only [usedF]
    rcases List.mem_cons.1 h with e | h
    · subst e; simp
    · have := ih h; omega
theorem get_le (fs : Fs) (k : List UInt8) : (getF fs k).b.length ≤ usedF fs := by
  unfold getF
  cases h : look fs k with
  | none => simp [F.zero]
  | some f => exact used_ge (look_mem h)
theorem length_put (fs : Fs) (k : List UInt8) (f : F) : (putF fs k f).length ≤ fs.length + 1 := by
  induction fs with
  | nil => simp [putF]
  | cons p r ih =>
    unfold putF
    split
    · simp only [List.length_cons]; omega
    · split <;> simp
theorem length_put_there {fs : Fs} (hs : Sorted fs) {k : List UInt8} (f : F) (h : (look fs k).isSome = true) : (putF fs k f).length = fs.length := by
  induction fs with
  | nil => simp [look] at h
  | cons p r ih =>
    unfold putF
    split
    · rename_i hlt
      rw [look, if_neg (ltne hlt)] at h
      simp only [List.length_cons, ih (List.pairwise_cons.1 hs).2 h]
    · split
      · simp
      · rename_i hn e
        rw [look, if_neg e, look_tail hs hn] at h; cases h
theorem length_del (fs : Fs) (k : List UInt8) : (delF fs k).length ≤ fs.length := by
  induction fs with
  | nil => simp [delF]
  | cons p r ih =>
    unfold delF
    split
    · simp
    · simp only [List.length_cons]; omega
theorem length_mem_look {fs : Fs} {k : List UInt8} : (look fs k).isSome = true ↔ k ∈ fs.map (·.1) := by
  induction fs with
  | nil => simp [look]
  | cons p r ih =>
    unfold look
    by_cases h : p.1 = k
    · simp [h]
    · rw [if_neg h]; simp [ih, Ne.symm h]
/-- in the midst -/
theorem sorted_mid {A B : Fs} {k : List UInt8} {f : F} (hs : Sorted (A ++ (k, f) :: B)) : (∀ p ∈ A, p.1 < k) ∧ (∀ p ∈ B, k < p.1) ∧ Sorted A ∧ Sorted B ∧ Sorted (A ++ B) := by
  obtain ⟨h1, h2, h3⟩ := List.pairwise_append.1 hs
  obtain ⟨h4, h5⟩ := List.pairwise_cons.1 h2
  exact ⟨fun p hp => h3 p hp (k, f) (by simp), fun p hp => h4 p hp, h1, h5, List.pairwise_append.2 ⟨h1, h5, fun a ha b hb => h3 a ha b (by simp [hb])⟩⟩
theorem look_mid {A B : Fs} {k : List UInt8} {f : F} (hs : Sorted (A ++ (k, f) :: B)) : look (A ++ (k, f) :: B) k = some f := mem_look hs (by simp)
theorem put_mid {A B : Fs} {k : List UInt8} {f : F} (hs : Sorted (A ++ (k, f) :: B)) (f' : F) : putF (A ++ (k, f) :: B) k f' = A ++ (k, f') :: B := by
  have hA := (sorted_mid hs).1
  clear hs
  induction A with
  | nil => simp [putF, ltI]
  | cons p r ih => simp only [List.cons_append, putF, if_pos (hA p (by simp)), ih (fun q hq => hA q (by simp [hq]))]
theorem del_mid {A B : Fs} {k : List UInt8} {f : F} (hs : Sorted (A ++ (k, f) :: B)) : delF (A ++ (k, f) :: B) k = A ++ B := by
  have hA := (sorted_mid hs).1
  clear hs
  induction A with
  | nil => simp [delF]
  | cons p r ih => simp only [List.cons_append, delF, if_neg (ltne (hA p (by simp))), ih (fun q hq => hA q (by simp [hq]))]
theorem used_append (A B : Fs) : usedF (A ++ B) = usedF A + usedF B := by
  induction A with
  | nil => simp [usedF]
  | cons p r ih => simp only [List.cons_append, usedF, ih]; omega
theorem sorted_keys {fs : Fs} (hs : Sorted fs) : (fs.map (·.1)).Nodup ∧ (fs.map (·.1)).Pairwise (fun a b => decide (a ≤ b) = true) := by
  refine ⟨List.pairwise_map.2 (hs.imp fun h => ltne h), List.pairwise_map.2 (hs.imp fun {a b} h => ?_)⟩
  rw [decide_eq_true_iff]
  exact List.not_lt.1 (fun h2 => ltI _ (ltT h h2))

/-- the whole -/
structure St where
  room : Nat
  fs : Fs
  down : Bool
  waits : Bool
  more : Nat
def newS (room : Int) : St := ⟨room.toNat, [], false, false, 0⟩
/-- a change that needs e, and does whole or torn -/
def changeS (s : St) (e : Int) (whole torn : Fs) : Int × St :=
  if s.down = true then (41, s) else if e ≠ 0 then (e, s) else
  if s.waits = true then (if s.more = 0 then (41, { s with fs := torn, down := true, waits := false }) else (0, { s with fs := whole, more := s.more - 1 })) else (0, { s with fs := whole })
def grown (f : F) (b : List UInt8) : F := ⟨f.b ++ b, f.s, f.u⟩
def appendS (s : St) (k b : List UInt8) : Int × St :=
  changeS s (if usedF s.fs + b.length > s.room then 40 else 0) (putF s.fs k (grown (getF s.fs k) b)) (putF s.fs k (grown (getF s.fs k) b))
def needE (s : St) (k : List UInt8) : Int := if (look s.fs k).isSome = true then 0 else 42
def syncedF (f : F) : F := ⟨f.b, f.b.length, true⟩
def syncS (s : St) (k : List UInt8) : Int × St := changeS s (needE s k) (putF s.fs k (syncedF (getF s.fs k))) s.fs
def cutE (s : St) (k : List UInt8) (n : Int) : Int := if (look s.fs k).isSome = true then (if n < 0 ∨ n > (getF s.fs k).b.length then 1 else 0) else 42
def cutF (f : F) (n : Nat) : F := ⟨f.b.take n, min f.s n, true⟩
def cutS (s : St) (k : List UInt8) (n : Int) : Int × St := changeS s (cutE s k n) (putF s.fs k (cutF (getF s.fs k) n.toNat)) s.fs
def replaceS (s : St) (k b : List UInt8) : Int × St :=
  changeS s (if usedF s.fs + b.length > s.room + (getF s.fs k).b.length then 40 else 0) (putF s.fs k ⟨b, b.length, true⟩) s.fs
def removeS (s : St) (k : List UInt8) : Int × St := changeS s (needE s k) (delF s.fs k) s.fs
def readS (s : St) (k : List UInt8) : List UInt8 × Int :=
  if s.down = true then ([], 41) else if (look s.fs k).isSome = true then ((getF s.fs k).b, 0) else ([], 42)
def breakS (s : St) (n : Int) : St := if s.down = true then s else { s with waits := true, more := n.toNat }
/-- what a crash leaves of a file -/
def leftF (f : F) (more : Int) : Nat := f.s + min more.toNat (f.b.length - f.s)
def loseF (fs : Fs) (k : List UInt8) (more : Int) : Fs :=
  if leftF (getF fs k) more = 0 ∧ (getF fs k).u = false then delF fs k
  else putF fs k ⟨(getF fs k).b.take (leftF (getF fs k) more), leftF (getF fs k) more, true⟩
def crashF : Fs → List Int → Fs
  | [], _ => []
  | p :: r, keep =>
    if leftF p.2 (keep.headD 0) = 0 ∧ p.2.u = false then crashF r keep.tail
    else (p.1, ⟨p.2.b.take (leftF p.2 (keep.headD 0)), leftF p.2 (keep.headD 0), true⟩) :: crashF r keep.tail
def crashS (s : St) (keep : List Int) : St := { s with fs := crashF s.fs keep, down := false, waits := false }
def wipeS (s : St) : St := { s with fs := [] }

/-- what always holds of a disk -/
structure Fit (s : St) : Prop where
  sorted : Sorted s.fs
  room : usedF s.fs ≤ s.room
  roomI : s.room ≤ 9223372036854775807
  moreI : s.more ≤ 9223372036854775807
  keys : ∀ p ∈ s.fs, p.1.length ≤ 9223372036854775807
  syn : ∀ p ∈ s.fs, p.2.s ≤ p.2.b.length
theorem Fit.get {s : St} (h : Fit s) (k : List UInt8) : (getF s.fs k).s ≤ (getF s.fs k).b.length := by
  unfold getF
  cases e : look s.fs k with
  | none => simp [F.zero]
  | some f => exact h.syn _ (look_mem e)
theorem getF_look {fs : Fs} {k : List UInt8} {f : F} (h : look fs k = some f) : getF fs k = f := by unfold getF; rw [h]; rfl
theorem fit_fs {s : St} (h : Fit s) {fs : Fs} {k : List UInt8} {f : F} (e : fs = putF s.fs k f) (hk : k.length ≤ 9223372036854775807) (hf : f.s ≤ f.b.length) (hu : usedF s.fs + f.b.length ≤ s.room + (getF s.fs k).b.length) (d w : Bool) (m : Nat) (hm : m ≤ 9223372036854775807) :
    Fit ⟨s.room, fs, d, w, m⟩ := by
  subst e
  refine ⟨sorted_put h.sorted _ _, ?_, h.roomI, hm, fun p hp => ?_, fun p hp => ?_⟩
  · have := used_put h.sorted k f; show usedF (putF s.fs k f) ≤ s.room; omega
  · rcases mem_put hp with rfl | hp
    · exact hk
    · exact h.keys p hp
  · rcases mem_put hp with rfl | hp
    · exact hf
    · exact h.syn p hp
theorem fit_del {s : St} (h : Fit s) {fs : Fs} {k : List UInt8} (e : fs = delF s.fs k) (d w : Bool) (m : Nat) (hm : m ≤ 9223372036854775807) : Fit ⟨s.room, fs, d, w, m⟩ := by
  subst e
  refine ⟨sorted_del h.sorted _, ?_, h.roomI, hm, fun p hp => h.keys p (mem_del hp), fun p hp => h.syn p (mem_del hp)⟩
  have := used_del h.sorted k; show usedF (delF s.fs k) ≤ s.room; have := h.room; omega
theorem fit_same {s : St} (h : Fit s) (d w : Bool) (m : Nat) (hm : m ≤ 9223372036854775807) : Fit ⟨s.room, s.fs, d, w, m⟩ := ⟨h.sorted, h.room, h.roomI, hm, h.keys, h.syn⟩
end Go.Proofs.YtnffjoflkeagfaaGreat
namespace Go.Proofs.YtnffjoflkeagfaaGreat
open Go.RowKit Go.Maps

theorem ret_int {k : IntKind} {a b : Int} (h : a = b) : Ending.returned (.int k a) = .returned (.int k b) := by rw [h]
theorem ret_bool {a b : Bool} (h : a = b) : Ending.returned (.bool a) = .returned (.bool b) := by rw [h]
theorem add_zero_off (g j : Nat) : (⟨g, 0, none⟩ : Addr).add j = ⟨g, j, none⟩ := by unfold Addr.add; split <;> simp_all
/-- the bytes of a text -/
abbrev bs (s : ByteArray) : List UInt8 := s.data.toList
theorem bs_len (s : ByteArray) : (bs s).length = s.size := (Lib.size_eq s).symm
abbrev mk (l : List UInt8) : ByteArray := ⟨l.toArray⟩
theorem bs_mk (l : List UInt8) : bs (mk l) = l := by simp
theorem mk_bs (s : ByteArray) : mk (bs s) = s := by cases s; rfl
theorem mk_size (l : List UInt8) : (mk l).size = l.length := by rw [Lib.size_eq]
theorem ba_ext {a b : ByteArray} (h : bs a = bs b) : a = b := by rw [← mk_bs a, ← mk_bs b, h]

/-- nothing but blocks of S, and new ones, has changed -/
structure Kept (S : Nat → Prop) (w w' : World) : Prop where
  os : w'.os = w.os
  tape : w'.tape = w.tape
  output : w'.output = w.output
  size : w.heap.size ≤ w'.heap.size
  block : ∀ k, k < w.heap.size → ¬ S k → w'.heap[k]? = w.heap[k]?
theorem Kept.refl (S : Nat → Prop) (w : World) : Kept S w w := ⟨rfl, rfl, rfl, Nat.le_refl _, fun _ _ _ => rfl⟩
theorem Kept.trans {S : Nat → Prop} {a b c : World} (h : Kept S a b) (k : Kept S b c) : Kept S a c :=
  ⟨k.os.trans h.os, k.tape.trans h.tape, k.output.trans h.output, Nat.le_trans h.size k.size, fun i hi hs => (k.block i (Nat.lt_of_lt_of_le hi h.size) hs).trans (h.block i hi hs)⟩
theorem Kept.of_below {S : Nat → Prop} {a b : World} (h : Below a.heap.size a b) : Kept S a b := ⟨h.os, h.tape, h.output, h.size, fun i hi _ => h.block i hi⟩
theorem Kept.of_but {S : Nat → Prop} {a b : World} {p : Nat} (h : a.grownBy b (some p)) (hp : S p) : Kept S a b :=
  ⟨h.os, h.tape, h.output, h.size, fun i hi hs => h.block i hi (fun e => hs (by cases e; exact hp))⟩
theorem Kept.below {S : Nat → Prop} {a b : World} (h : Kept S a b) {B : Nat} (hB : B ≤ a.heap.size) (hS : ∀ k, S k → B ≤ k) : Below B a b :=
  ⟨h.os, h.tape, h.output, h.size, fun k hk => h.block k (by omega) (fun hs => by have := hS k hs; omega)⟩
theorem Kept.mono {S S' : Nat → Prop} {a b : World} (h : Kept S a b) (hS : ∀ k, k < a.heap.size → S k → S' k) : Kept S' a b :=
  ⟨h.os, h.tape, h.output, h.size, fun k hk hs => h.block k hk (fun h' => hs (hS k hk h'))⟩
theorem Kept.drewN {S : Nat → Prop} {a w : World} (h : Kept S a w) : ∀ q, Kept S a (w.drewN q)
  | 0 => h
  | q + 1 => by
    have := h.drewN q
    exact ⟨this.os, this.tape, this.output, this.size, this.block⟩
theorem Kept.set {S : Nat → Prop} {a w : World} (h : Kept S a w) {p : Addr} (hp : S p.block ∨ a.heap.size ≤ p.block) (u : Value) : Kept S a (w.setCell p u) :=
  ⟨h.os, h.tape, h.output, by simp [World.setCell]; exact h.size, fun k hk hs => (Below.heap_setCell _ _ _ _ (fun e => by subst e; rcases hp with hp | hp; exact hs hp; omega)).trans (h.block k hk hs)⟩
theorem Kept.alloc {S : Nat → Prop} {a w : World} (h : Kept S a w) (o : Obj) : Kept S a (w.alloc o) :=
  h.trans (Kept.of_below ((Below.refl _ _).alloc (Nat.le_refl _) o))
theorem bw {a b c : World} (h : Below a.heap.size a b) (k : Below b.heap.size b c) : Below a.heap.size a c := h.trans (k.mono h.size)
theorem below_drewN {B : Nat} {a w : World} (h : Below B a w) : ∀ q, Below B a (w.drewN q)
  | 0 => h
  | q + 1 => by
    have := below_drewN h q
    exact ⟨this.os, this.tape, this.output, this.size, this.block⟩
theorem heap_drewN (w : World) : ∀ q, (w.drewN q).heap = w.heap
  | 0 => rfl
  | q + 1 => by
    have := heap_drewN w q
    exact this

/-- whose block it is -/
inductive Own where
  | no
  | disk
  | map
  | file (k : List UInt8)

/-- v is a slice of the bytes l, in a block of k's, if there are any -/
def Bf (own : Nat → Own) (k : List UInt8) (w : World) (v : Value) (l : List UInt8) : Prop :=
  (v = .slice none 0 0 ∧ l = []) ∨ ∃ g cap, v = .slice (some ⟨g, 0, none⟩) l.length cap ∧ own g = .file k ∧ g < w.heap.size ∧ l.length ≤ cap ∧
    (∀ j, j < l.length → w.cell? ⟨g, j, none⟩ = (Lib.byteCells l)[j]?) ∧
    (∀ j, j < cap → (w.cell? ⟨g, j, none⟩).isSome = true ∧ w.frozen? ⟨g, j, none⟩ = false)
theorem Bf.nil (own : Nat → Own) (k : List UInt8) (w : World) : Bf own k w (.slice none 0 0) [] := .inl ⟨rfl, rfl⟩
theorem Bf.kept {own own' : Nat → Own} {k : List UInt8} {w w' : World} {v : Value} {l : List UInt8} (h : Bf own k w v l) (hs : w.heap.size ≤ w'.heap.size)
    (hb : ∀ g, own g = .file k → g < w.heap.size → w'.heap[g]? = w.heap[g]? ∧ own' g = .file k) : Bf own' k w' v l := by
  rcases h with h | ⟨g, cap, rfl, h1, h2, h3, h4, h5⟩
  · exact .inl h
  · obtain ⟨e1, e2⟩ := hb g h1 h2
    refine .inr ⟨g, cap, rfl, e2, by omega, h3, fun j hj => ?_, fun j hj => ?_⟩
    · rw [World.cell?_of_block (a := ⟨g, j, none⟩) e1]; exact h4 j hj
    · rw [World.cell?_of_block (a := ⟨g, j, none⟩) e1, World.frozen?_of_block (a := ⟨g, j, none⟩) e1]; exact h5 j hj
theorem Bf.slice {own : Nat → Own} {k : List UInt8} {w : World} {v : Value} {l : List UInt8} (h : Bf own k w v l) : ∃ a cap, v = .slice a l.length cap := by
  rcases h with ⟨rfl, rfl⟩ | ⟨g, cap, rfl, _⟩
  · exact ⟨_, _, rfl⟩
  · exact ⟨_, _, rfl⟩
/-- its first bytes -/
theorem Bf.take {own : Nat → Own} {k : List UInt8} {w : World} {v : Value} {l : List UInt8} (h : Bf own k w v l) {a : Option Addr} {n c : Nat} (e : v = .slice a n c) (m : Nat) (hm : m ≤ l.length) : Bf own k w (.slice a m c) (l.take m) := by
  subst e
  rcases h with ⟨e, rfl⟩ | ⟨g, cap, e, h1, h2, h3, h4, h5⟩
  · cases e
    have : m = 0 := by simpa using hm
    subst this
    exact .inl ⟨rfl, rfl⟩
  · cases e
    refine .inr ⟨g, c, by rw [List.length_take, Nat.min_eq_left hm], h1, h2, by rw [List.length_take]; omega, fun j hj => ?_, h5⟩
    rw [List.length_take] at hj
    rw [h4 j (by omega)]
    simp [Lib.byteCells, show j < m by omega]
/-- .. as a text -/
theorem Bf.text {P : Program} {own : Nat → Own} {k : List UInt8} {w : World} {v : Value} {l : List UInt8} (h : Bf own k w v l) (src dst e : TypeId) (hs : P.underlying src = some (.slice e)) (he : P.underlying e = some (.int .u8)) (hd : P.underlying dst = some .string) :
    (convert src dst v).run P w = .ok (.string (mk l)) w := by
  rcases h with ⟨rfl, rfl⟩ | ⟨g, cap, rfl, h1, h2, h3, h4, h5⟩
  · simp [convert, run_underlying hs, run_underlying he, run_underlying hd]
    simp [Conv.bytesToString]
    try rfl
  · refine run_convert_bytes_back w src dst e _ cap l hs he hd (fun j hj => ?_)
    rw [add_zero_off, h4 j hj]
    simp [Lib.byteCells, List.getElem?_eq_getElem hj]

/-- the own blocks, and one more -/
def own1 (own : Nat → Own) (g : Nat) (o : Own) : Nat → Own := fun k => if k = g then o else own k
theorem own1_same (own : Nat → Own) (g : Nat) (o : Own) : own1 own g o g = o := by simp [own1]
theorem own1_other (own : Nat → Own) (g : Nat) (o : Own) {k : Nat} (h : k ≠ g) : own1 own g o k = own k := by simp [own1, h]

/-- nothing but this block, and only behind its first n cells -/
def Behind (g n : Nat) (w w' : World) : Prop :=
  w'.os = w.os ∧ w'.tape = w.tape ∧ w'.output = w.output ∧ w.heap.size ≤ w'.heap.size ∧ (∀ k, k < w.heap.size → k ≠ g → w'.heap[k]? = w.heap[k]?) ∧
    (∀ j, j < n → w'.cell? ⟨g, j, none⟩ = w.cell? ⟨g, j, none⟩) ∧ (∀ j, (w.cell? ⟨g, j, none⟩).isSome = true → (w'.cell? ⟨g, j, none⟩).isSome = true ∧ w'.frozen? ⟨g, j, none⟩ = w.frozen? ⟨g, j, none⟩)
theorem heap_setCells (g : Nat) : ∀ (vs : List Value) (o : Nat) (w : World) (k : Nat), k ≠ g → (w.setCells g o vs).heap[k]? = w.heap[k]?
  | [], _, _, _, _ => rfl
  | v :: r, o, w, k, h => by
    rw [World.setCells, heap_setCells g r (o + 1) _ k h, Below.heap_setCell _ _ _ _ h]
theorem size_setCells (g : Nat) : ∀ (vs : List Value) (o : Nat) (w : World), (w.setCells g o vs).heap.size = w.heap.size
  | [], _, _ => rfl
  | v :: r, o, w => by
    rw [World.setCells, size_setCells g r (o + 1) _]; simp [World.setCell]
/-- more bytes behind them: in place, or anew -/
theorem run_append_bf {P : Program} (t tx ty e : TypeId) (i : TypeInfo) (ht : P.underlying t = some (.slice e)) (htx : P.underlying tx = some .string) (hi : P.info? e = some i) (hz : i.zero = some (.int .u8 0)) (hs1 : i.size = 1) (hby : i.bytes = 1)
    {own : Nat → Own} {k : List UInt8} {w : World} {v : Value} {l : List UInt8} (h : Bf own k w v l) (x : ByteArray) (hlim : l.length + x.size ≤ 140737488355328) :
    ∃ v' w', (Builtin.append_ #[t, tx] ty #[v, .string x]).run P w = .ok v' w' ∧
      ((Below w.heap.size w w' ∧ w.heap.size < w'.heap.size ∧ Bf (own1 own w.heap.size (.file k)) k w' v' (l ++ bs x)) ∨
       (w' = w ∧ Bf own k w' v' (l ++ bs x)) ∨
       (∃ g, own g = .file k ∧ Behind g l.length w w' ∧ w'.heap.size = w.heap.size ∧ Bf own k w' v' (l ++ bs x) ∧ ∃ cap, v = .slice (some ⟨g, 0, none⟩) l.length cap)) := by
  have hl : (Lib.byteCells (bs x)).length = x.size := by rw [Lib.byteCells_length, bs_len]
  have hlb : (Lib.byteCells l).length = l.length := Lib.byteCells_length _
  have hsrc : Src P i.size tx (.string x) x.size (Lib.byteCells (bs x)) w := by rw [hs1]; have := Src.ofString (P := P) w htx x; exact this
  have grow : ∀ (a : Option Addr) (cap : Nat), v = .slice a l.length cap → cap < l.length + x.size →
      (∀ j u, (Lib.byteCells l)[j]? = some u → ∃ b, a = some b ∧ w.cell? (b.add j) = some u) → (Builtin.firstCells i.size l.length (.slice a l.length cap)).run P w.drew = .ok (Lib.byteCells l).toArray w.drew →
      ∃ v' w', (Builtin.append_ #[t, tx] ty #[v, .string x]).run P w = .ok v' w' ∧ (Below w.heap.size w w' ∧ w.heap.size < w'.heap.size ∧ Bf (own1 own w.heap.size (.file k)) k w' v' (l ++ bs x)) := by
    intro a cap e hlt _ hold
    subst e
    have hrun := run_append_grow_src (P := P) w t tx ty e i _ ht hi hz a l.length cap (Lib.byteCells l) hold (.string x) x.size (Lib.byteCells (bs x)) hsrc hlt (by omega)
      (growslice_fits (by omega) (by rw [hby]; omega))
    have hge := grownCap_ge w (l.length + x.size) cap e
    have hL : (Lib.byteCells l ++ Lib.byteCells (bs x)).length = l.length + x.size := by rw [List.length_append, hl, hlb]
    refine ⟨_, _, hrun, ⟨rfl, rfl, rfl, by simp, fun k hk => Below.heap_alloc w.drew _ k (by simp; omega)⟩, by simp, .inr ⟨w.heap.size, _, by rw [List.length_append, bs_len], own1_same _ _ _, by simp, by rw [List.length_append, bs_len]; exact hge, fun j hj => ?_, fun j hj => ?_⟩⟩
    · have e1 := World.cell?_alloc_new w.drew ((Lib.byteCells l ++ Lib.byteCells (bs x)).toArray ++ Builtin.zeroCells (Value.int .u8 0).cells (grownCap w (l.length + x.size) cap e - (l.length + x.size))) e j
      rw [List.length_append, bs_len] at hj
      rw [Lib.byteCells_append]
      refine Eq.trans e1 ?_
      rw [Array.getElem?_append_left (by simp only [List.size_toArray]; omega), List.getElem?_toArray]
    · have e1 := World.cell?_alloc_new w.drew ((Lib.byteCells l ++ Lib.byteCells (bs x)).toArray ++ Builtin.zeroCells (Value.int .u8 0).cells (grownCap w (l.length + x.size) cap e - (l.length + x.size))) e j
      refine ⟨?_, World.frozen?_alloc_at _ _ _ _ rfl⟩
      refine Eq.trans (congrArg Option.isSome e1) ?_
      have hzs : (Builtin.zeroCells (Value.int .u8 0).cells (grownCap w (l.length + x.size) cap e - (l.length + x.size))).size = grownCap w (l.length + x.size) cap e - (l.length + x.size) := by
        rw [size_zeroCells]; show _ * 1 = _; omega
      rw [Array.getElem?_eq_getElem (by simp only [Array.size_append, List.size_toArray, hzs, hL]; omega)]
      rfl
  rcases h with ⟨rfl, rfl⟩ | ⟨g, cap, rfl, h1, h2, h3, h4, h5⟩
  · by_cases h0 : x.size = 0
    · have hx : bs x = [] := List.eq_nil_of_length_eq_zero (by rw [bs_len]; exact h0)
      refine ⟨.slice none 0 0, w, ?_, .inr (.inl ⟨rfl, by rw [hx]; exact Bf.nil _ _ _⟩)⟩
      have hc := hsrc.cells
      rw [h0] at hc
      simp [Builtin.append_, run_underlying ht, run_underlying htx, sizeOf, typeInfo, hi, hsrc.len, h0, hc, Result.andThen]
    · obtain ⟨v', w', r, a⟩ := grow none 0 rfl (by simp; omega) (fun j u hu => by simp [Lib.byteCells] at hu) (by rw [run_firstCells_none]; simp [Lib.byteCells])
      exact ⟨v', w', r, .inl a⟩
  · by_cases hr : l.length + x.size ≤ cap
    · have hrun := run_append_room_src (P := P) w t tx ty e i ht hi g 0 l.length cap (.string x) x.size (Lib.byteCells (bs x)) hsrc hr
        (fun j hj => by rw [hs1, Nat.zero_add, Nat.mul_one]; exact (h5 _ (by omega)).1) (fun j hj => by rw [hs1, Nat.zero_add, Nat.mul_one]; exact (h5 _ (by omega)).2)
      rw [hs1, Nat.zero_add, Nat.mul_one] at hrun
      have hkb := World.keptBut_setCells g (may := fun _ => True) (Lib.byteCells (bs x)) l.length w (fun _ _ => trivial)
      have hbl := below_setCells (Nat.le_refl g) (Lib.byteCells (bs x)) l.length w (Below.refl _ _)
      refine ⟨_, _, hrun, .inr (.inr ⟨g, h1, ⟨hbl.os, hbl.tape, hbl.output, hbl.size, ?_, fun j hj => World.cell?_setCells_out g _ _ _ _ (fun _ _ => .inl hj), fun j hj => ⟨World.isSome_setCells g _ _ _ _ hj, World.frozen?_setCells _ _ _ _ _⟩⟩, ?_, .inr ⟨g, cap, by rw [List.length_append, bs_len], h1, ?_, by rw [List.length_append, bs_len]; omega, fun j hj => ?_, fun j hj => ?_⟩, ⟨cap, rfl⟩⟩)⟩
      · exact fun k _ hk => heap_setCells g _ _ _ k hk
      · exact size_setCells g _ _ _
      · have := hbl.size; omega
      · rw [Lib.byteCells_append]
        by_cases hj2 : j < l.length
        · rw [World.cell?_setCells_out g _ _ _ _ (fun _ _ => .inl hj2), List.getElem?_append_left (by omega)]
          exact h4 j hj2
        · rw [List.length_append, bs_len] at hj
          have hin := World.cell?_setCells_in g (Lib.byteCells (bs x)) l.length w (fun k hk => (h5 _ (by omega)).1) (j - l.length) (by omega)
          rw [show l.length + (j - l.length) = j by omega] at hin
          rw [hin, List.getElem?_append_right (by omega), hlb, List.getElem?_eq_getElem]
      · exact ⟨World.isSome_setCells g _ _ _ _ (h5 j hj).1, by rw [World.frozen?_setCells]; exact (h5 j hj).2⟩
    · have hold : (Builtin.firstCells i.size l.length (.slice (some ⟨g, 0, none⟩) l.length cap)).run P w.drew = .ok (Lib.byteCells l).toArray w.drew := by
        refine run_firstCells_some w.drew i.size l.length _ l.length cap _ (by rw [hlb, hs1, Nat.mul_one]) (fun j u hu => ?_)
        rw [add_zero_off]
        have hj : j < l.length := by have := (List.getElem?_eq_some_iff.1 hu).1; omega
        have := h4 j hj
        rw [hu] at this
        simpa using this
      obtain ⟨v', w', r, a⟩ := grow (some ⟨g, 0, none⟩) cap rfl (by omega) (fun j u hu => ⟨_, rfl, by
        rw [add_zero_off, h4 j (by have := (List.getElem?_eq_some_iff.1 hu).1; omega)]; exact hu⟩) hold
      exact ⟨v', w', r, .inl a⟩
end Go.Proofs.YtnffjoflkeagfaaGreat
namespace Go.Proofs.YtnffjoflkeagfaaGreat
open Go.RowKit Go.Maps

/-- an element of the map, read as itself -/
def Rv (v : Value) : Option (DataW Value × List MemPlace) := some (.held v, [])
abbrev fileV (v : Value) (f : F) : Value := .agg #[v, .int .i64 (f.s : Int), .bool f.u]
theorem law : Keyed Tryz.prog 9 := string_keyed Tryz.underlying9
theorem hkey (s : ByteArray) (h : s.size ≤ 9223372036854775807) : keyOf Tryz.prog 9 (.string s) = some (.string (bs s)) := WideMaps.keyOf_string_mk Tryz.underlying9 (by unfold maxLen; omega)
theorem zeroFile (w : World) : (zeroValue 68).run Tryz.prog w = .ok (fileV (.slice none 0 0) F.zero) w := by kernel_rfl
theorem isKey (k : List UInt8) : WideAt.IsKeyLit (.string k) := by first | trivial | exact .string _ | simp [WideAt.IsKeyLit]

/-- the map tells these files -/
def MapAt (own : Nat → Own) (w : World) (mv : Value) (fs : Fs) : Prop :=
  (mv = .map none ∧ fs = []) ∨ ∃ mb D, mv = .map (some mb) ∧ own mb = .map ∧ w.ownsMap Tryz.prog 9 Rv mb (Maps.size D) D ∧
    (∀ k, Maps.has D (.string k) = (look fs k).isSome) ∧ ∀ k f, look fs k = some f → ∃ v, (∀ z, D.atKey (.string k) z = .held (fileV v f)) ∧ Bf own k w v f.b
theorem tight {w : World} {b n : Nat} {D : DataW Value} (h : w.ownsMap Tryz.prog 9 Rv b n D) : w.ownsMap Tryz.prog 9 Rv b (Maps.size D) D := by
  obtain ⟨es, clock, hb, F, hs, rfl⟩ := h
  exact ⟨es, clock, hb, F, by simp [Maps.size, length_sorted], rfl⟩
theorem keys_perm {w : World} {b n : Nat} {D : DataW Value} {fs : Fs} (h : w.ownsMap Tryz.prog 9 Rv b n D) (hs : Sorted fs) (hh : ∀ k, Maps.has D (.string k) = (look fs k).isSome) : (fs.map (·.1)).Perm (strKeys D) := by
  obtain ⟨es, rfl, hk⟩ := h.keysOf
  obtain ⟨es', e, hp⟩ := h.tidy law
  cases e
  refine perm_strKeys hp (fun p hp => ?_) (sorted_keys hs).1 (fun x => ?_)
  · obtain ⟨v, hv⟩ := hk p hp
    obtain ⟨x, _, e, _⟩ := Maps.keyOf_str Tryz.underlying9 hv
    exact ⟨x, e⟩
  · rw [hh x]; exact length_mem_look.symm
theorem size_keys (D : DataW Value) : (strKeys D).length = Maps.size D := by cases D <;> simp [strKeys, Maps.size]
theorem map_size {w : World} {b n : Nat} {D : DataW Value} {fs : Fs} (h : w.ownsMap Tryz.prog 9 Rv b n D) (hs : Sorted fs) (hh : ∀ k, Maps.has D (.string k) = (look fs k).isSome) : Maps.size D = fs.length := by
  rw [← size_keys, ← (keys_perm h hs hh).length_eq, List.length_map]

theorem MapAt.kept {own own' : Nat → Own} {w w' : World} {mv : Value} {fs : Fs} (h : MapAt own w mv fs) (hs : w.heap.size ≤ w'.heap.size)
    (hb : ∀ g, own g ≠ .no → g < w.heap.size → own g ≠ .disk → w'.heap[g]? = w.heap[g]? ∧ own' g = own g) : MapAt own' w' mv fs := by
  rcases h with h | ⟨mb, D, rfl, h1, h2, h3, h4⟩
  · exact .inl h
  · have e := hb mb (by rw [h1]; simp) h2.lt (by rw [h1]; simp)
    refine .inr ⟨mb, D, rfl, by rw [e.2]; exact h1, ?_, h3, fun k f hf => ?_⟩
    · obtain ⟨es, clock, hb, F, hs, rfl⟩ := h2
      exact ⟨es, clock, e.1.trans hb, F, hs, rfl⟩
    · obtain ⟨v, hv, hbf⟩ := h4 k f hf
      exact ⟨v, hv, hbf.kept hs (fun g hg hlt => by have := hb g (by rw [hg]; simp) hlt (by rw [hg]; simp); exact ⟨this.1, by rw [this.2]; exact hg⟩)⟩

/-- what the map holds at a name -/
theorem MapAt.look {own : Nat → Own} {w : World} {mv : Value} {fs : Fs} (h : MapAt own w mv fs) (s : ByteArray) (hs : s.size ≤ 9223372036854775807) :
    ∃ v, Bf own (bs s) w v (getF fs (bs s)).b ∧ ∀ w' : World, (∀ g, own g = .map → w'.heap[g]? = w.heap[g]?) →
      (Instr.lookup 51 mv (.string s) false).run Tryz.prog w' = .ok (fileV v (getF fs (bs s))) w' ∧
      (Instr.lookup 51 mv (.string s) true).run Tryz.prog w' = .ok (.tuple #[fileV v (getF fs (bs s)), .bool (Go.Proofs.YtnffjoflkeagfaaGreat.look fs (bs s)).isSome]) w' := by
  rcases h with ⟨rfl, rfl⟩ | ⟨mb, D, rfl, h1, h2, h3, h4⟩
  · refine ⟨.slice none 0 0, Bf.nil _ _ _, fun w' _ => ⟨?_, ?_⟩⟩
    · have := Maps.look_nil (P := Tryz.prog) (w := w') (t := 51) false law Tryz.underlying51 (zeroFile w') (hkey s hs)
      exact this
    · have := Maps.look_nil (P := Tryz.prog) (w := w') (t := 51) true law Tryz.underlying51 (zeroFile w') (hkey s hs)
      exact this
  · have key : ∃ v, Bf own (bs s) w v (getF fs (bs s)).b ∧ D.atKey (.string (bs s)) (.held (fileV (.slice none 0 0) F.zero)) = .held (fileV v (getF fs (bs s))) := by
      cases e : Go.Proofs.YtnffjoflkeagfaaGreat.look fs (bs s) with
      | none =>
        have hn : Maps.has D (.string (bs s)) = false := by rw [h3, e]; rfl
        have e2 : getF fs (bs s) = F.zero := by unfold getF; rw [e]; rfl
        rw [e2]
        exact ⟨_, Bf.nil _ _ _, Maps.atKey_of_not_has hn _⟩
      | some f =>
        obtain ⟨v, hv, hbf⟩ := h4 _ _ e
        rw [getF_look e]
        exact ⟨v, hbf, hv _⟩
    obtain ⟨v, hbf, hat⟩ := key
    refine ⟨v, hbf, fun w' hw => ?_⟩
    have h2' : w'.ownsMap Tryz.prog 9 Rv mb (Maps.size D) D := by
      obtain ⟨es, clock, hb, F, hs, rfl⟩ := h2
      exact ⟨es, clock, (hw mb h1).trans hb, F, hs, rfl⟩
    obtain ⟨v1, _, r1, e1⟩ := h2'.lookup (t := 51) law Tryz.underlying51 (zeroFile w') (zd := .held (fileV (.slice none 0 0) F.zero)) (zp := []) rfl (hkey s hs)
    obtain ⟨v2, _, r2, e2⟩ := h2'.look_ok (t := 51) law Tryz.underlying51 (zeroFile w') (zd := .held (fileV (.slice none 0 0) F.zero)) (zp := []) rfl (hkey s hs)
    rw [hat] at e1 e2
    simp only [Rv, Option.some.injEq, Prod.mk.injEq, DataW.held.injEq] at e1 e2
    rw [e1.1] at r1
    rw [e2.1, h3] at r2
    exact ⟨r1, r2⟩

/-- a name's file laid into the map -/
theorem MapAt.put {own : Nat → Own} {w : World} {mb : Nat} {fs : Fs} (h : MapAt own w (.map (some mb)) fs) (hso : Sorted fs) (s : ByteArray) (hs : s.size ≤ 9223372036854775807) (hn : fs.length < 9223372036854775807)
    (v : Value) (f : F) (hbf : Bf own (bs s) w v f.b) :
    ∃ w', (Instr.mapUpdate 51 (.map (some mb)) (.string s) (fileV v f)).run Tryz.prog w = .ok () w' ∧ MapAt own w' (.map (some mb)) (putF fs (bs s) f) ∧ w.grownBy w' (some mb) ∧ own mb = .map ∧ w'.heap.size = w.heap.size := by
  rcases h with ⟨h, _⟩ | ⟨mb', D, e, h1, h2, h3, h4⟩
  · cases h
  cases e
  have hsz := map_size h2 hso h3
  obtain ⟨w', r, h2', ht⟩ := h2.store (t := 51) law Tryz.underlying51 (by rw [hsz]; unfold maxLen; omega) (hkey s hs) (val := fileV v f) (d := .held (fileV v f)) (ps := []) rfl
  have hg := ht.grown
  have hsize : w'.heap.size = w.heap.size := by
    obtain ⟨es, clock, es', clock', hb, rfl⟩ := ht
    simp [ChangeMaps.setBlock]
  have hk : ∀ (k : List UInt8) (u : Value) (l : List UInt8), Bf own k w u l → Bf own k w' u l := fun k u l hb => hb.kept (by omega) (fun g hg' hlt => ⟨hg.block g hlt (fun e => by cases e; rw [h1] at hg'; cases hg'), hg'⟩)
  refine ⟨w', r, .inr ⟨mb, _, rfl, h1, tight h2', fun k => ?_, fun k f' hf => ?_⟩, hg, h1, hsize⟩
  · by_cases e : k = bs s
    · subst e
      rw [Maps.has_put_same h2.isMap (isKey _), look_put_same]; rfl
    · rw [Maps.has_put_other (by simpa using e), look_put_other _ _ _ _ e, h3]
  · by_cases e : k = bs s
    · subst e
      rw [look_put_same] at hf
      cases hf
      exact ⟨v, fun z => Maps.atKey_put_same h2.isMap (isKey _) _ _, hk _ _ _ hbf⟩
    · rw [look_put_other _ _ _ _ e] at hf
      obtain ⟨u, hu, hb⟩ := h4 k f' hf
      exact ⟨u, fun z => by rw [Maps.atKey_put_other (by simpa using e)]; exact hu z, hk _ _ _ hb⟩

/-- .. taken away -/
theorem MapAt.del {own : Nat → Own} {w : World} {mv : Value} {fs : Fs} (h : MapAt own w mv fs) (hso : Sorted fs) (s : ByteArray) (hs : s.size ≤ 9223372036854775807) (ty : TypeId) :
    ∃ w', (Builtin.delete_ #[51, 9] ty #[mv, .string s]).run Tryz.prog w = .ok (.tuple #[]) w' ∧ MapAt own w' mv (delF fs (bs s)) ∧ w'.heap.size = w.heap.size ∧
      w'.os = w.os ∧ w'.tape = w.tape ∧ w'.output = w.output ∧ ∀ k, own k ≠ .map → w'.heap[k]? = w.heap[k]? := by
  rcases h with ⟨rfl, rfl⟩ | ⟨mb, D, rfl, h1, h2, h3, h4⟩
  · exact ⟨w, Maps.drop_nil law Tryz.underlying51 (hkey s hs) ty, .inl ⟨rfl, rfl⟩, rfl, rfl, rfl, rfl, fun _ _ => rfl⟩
  obtain ⟨w', r, h2', ht⟩ := h2.drop (t := 51) law Tryz.underlying51 (hkey s hs) ty
  have hg := ht.grown
  have hsize : w'.heap.size = w.heap.size := by
    obtain ⟨es, clock, es', clock', hb, rfl⟩ := ht
    simp [ChangeMaps.setBlock]
  have hblk : ∀ k, own k ≠ .map → w'.heap[k]? = w.heap[k]? := fun k hk => by
    by_cases hlt : k < w.heap.size
    · exact hg.block k hlt (fun e => by cases e; exact hk h1)
    · rw [Array.getElem?_eq_none (by omega), Array.getElem?_eq_none (by omega)]
  refine ⟨w', r, .inr ⟨mb, _, rfl, h1, tight h2', fun k => ?_, fun k f' hf => ?_⟩, hsize, hg.os, hg.tape, hg.output, hblk⟩
  · by_cases e : k = bs s
    · subst e
      rw [Maps.has_del_same, look_del_same hso]; rfl
    · rw [Maps.has_del_other (by simpa using e), look_del_other _ _ _ e, h3]
  · by_cases e : k = bs s
    · subst e
      rw [look_del_same hso] at hf; cases hf
    · rw [look_del_other _ _ _ e] at hf
      obtain ⟨u, hu, hb⟩ := h4 k f' hf
      exact ⟨u, fun z => by rw [Maps.atKey_del_other (by simpa using e)]; exact hu z, hb.kept (by omega) (fun g hg' hlt => ⟨hblk g (by rw [hg']; simp), hg'⟩)⟩

/-- the disk's block: its cells -/
abbrev diskC (mv : Value) (s : St) (wv : Bool) (mo : Int) : Obj :=
  .cells #[mv, .int .i64 (s.room : Int), .int .i64 (usedF s.fs : Int), .bool s.down, .bool wv, .int .i64 mo] 53 (0, 0)
/-- the block db is a disk that stands as s; its blocks lie in S -/
structure DiskO (own : Nat → Own) (S : Nat → Prop) (w : World) (db : Nat) (s : St) (mv : Value) (wv : Bool) (mo : Int) : Prop where
  mine : ∀ k, own k ≠ .no → S k ∧ k < w.heap.size
  disk : own db = .disk
  block : w.heap[db]? = some (diskC mv s wv mo)
  brk : s.down = false → wv = s.waits ∧ (s.waits = true → mo = (s.more : Int))
  map : MapAt own w mv s.fs
  fit : Fit s
def DiskAt (S : Nat → Prop) (w : World) (db : Nat) (s : St) : Prop := ∃ own mv wv mo, DiskO own S w db s mv wv mo
section
variable {own : Nat → Own} {S : Nat → Prop} {w w' : World} {db : Nat} {s : St} {mv : Value} {wv : Bool} {mo : Int}
theorem DiskO.lt (h : DiskO own S w db s mv wv mo) : db < w.heap.size := (Array.getElem?_eq_some_iff.1 h.block).1
theorem DiskO.c0 (h : DiskO own S w db s mv wv mo) : w.cell? ⟨db, 0, none⟩ = some mv := by rw [Lib.cell_of_heap h.block]; rfl
theorem DiskO.c1 (h : DiskO own S w db s mv wv mo) : w.cell? ⟨db, 1, none⟩ = some (.int .i64 (s.room : Int)) := by rw [Lib.cell_of_heap h.block]; rfl
theorem DiskO.c2 (h : DiskO own S w db s mv wv mo) : w.cell? ⟨db, 2, none⟩ = some (.int .i64 (usedF s.fs : Int)) := by rw [Lib.cell_of_heap h.block]; rfl
theorem DiskO.c3 (h : DiskO own S w db s mv wv mo) : w.cell? ⟨db, 3, none⟩ = some (.bool s.down) := by rw [Lib.cell_of_heap h.block]; rfl
theorem DiskO.c4 (h : DiskO own S w db s mv wv mo) : w.cell? ⟨db, 4, none⟩ = some (.bool wv) := by rw [Lib.cell_of_heap h.block]; rfl
theorem DiskO.c5 (h : DiskO own S w db s mv wv mo) : w.cell? ⟨db, 5, none⟩ = some (.int .i64 mo) := by rw [Lib.cell_of_heap h.block]; rfl
theorem DiskO.f (h : DiskO own S w db s mv wv mo) (j : Nat) : w.frozen? ⟨db, j, none⟩ = false := Lib.frozen_of_heap h.block j
/-- what leaves the disk's blocks as they are -/
theorem DiskO.kept (h : DiskO own S w db s mv wv mo) (hs : w.heap.size ≤ w'.heap.size) (hb : ∀ g, own g ≠ .no → g < w.heap.size → w'.heap[g]? = w.heap[g]?) : DiskO own S w' db s mv wv mo :=
  ⟨fun k hk => ⟨(h.mine k hk).1, Nat.lt_of_lt_of_le (h.mine k hk).2 hs⟩, h.disk, (hb db (by rw [h.disk]; simp) h.lt).trans h.block, h.brk, h.map.kept hs (fun g h1 h2 _ => ⟨hb g h1 h2, rfl⟩), h.fit⟩
theorem DiskO.below (h : DiskO own S w db s mv wv mo) (hb : Below w.heap.size w w') : DiskO own S w' db s mv wv mo := h.kept hb.size (fun g _ hg => hb.block g hg)
theorem DiskAt.below (h : DiskAt S w db s) (hb : Below w.heap.size w w') : DiskAt S w' db s := by
  obtain ⟨own, mv, wv, mo, h⟩ := h
  exact ⟨own, mv, wv, mo, h.below hb⟩
theorem DiskAt.mono {S' : Nat → Prop} (h : DiskAt S w db s) (hS : ∀ k, k < w.heap.size → S k → S' k) : DiskAt S' w db s := by
  obtain ⟨own, mv, wv, mo, h⟩ := h
  exact ⟨own, mv, wv, mo, fun k hk => ⟨hS k (h.mine k hk).2 (h.mine k hk).1, (h.mine k hk).2⟩, h.disk, h.block, h.brk, h.map, h.fit⟩
theorem DiskAt.other {S' : Nat → Prop} (h : DiskAt S w db s) (hk : Kept S' w w') (hS : ∀ k, k < w.heap.size → S k → ¬ S' k) : DiskAt S w' db s := by
  obtain ⟨own, mv, wv, mo, h⟩ := h
  exact ⟨own, mv, wv, mo, h.kept hk.size (fun g h1 h2 => hk.block g h2 (hS g h2 (h.mine g h1).1))⟩
theorem DiskAt.fit (h : DiskAt S w db s) : Fit s := by obtain ⟨own, mv, wv, mo, h⟩ := h; exact h.fit
theorem DiskAt.lt (h : DiskAt S w db s) : db < w.heap.size ∧ S db := by obtain ⟨own, mv, wv, mo, h⟩ := h; exact ⟨h.lt, (h.mine db (by rw [h.disk]; simp)).1⟩
theorem DiskAt.drewN (h : DiskAt S w db s) (q : Nat) : DiskAt S (w.drewN q) db s := h.below (below_drewN (Below.refl _ _) q)
theorem MapAt.reblock {fs : Fs} (h : MapAt own w mv fs) (hs : w'.heap.size = w.heap.size) (hd : own db = .disk) (hb : ∀ k, k ≠ db → w'.heap[k]? = w.heap[k]?) : MapAt own w' mv fs :=
  h.kept (by omega) (fun g _ _ hg => ⟨hb g (fun e => hg (by rw [e]; exact hd)), rfl⟩)
/-- the disk's own block anew -/
theorem DiskO.reblock {s' : St} {wv' : Bool} {mo' : Int} (h : DiskO own S w db s mv wv mo) (hs : w'.heap.size = w.heap.size) (hb : ∀ k, k ≠ db → w'.heap[k]? = w.heap[k]?) (hblk : w'.heap[db]? = some (diskC mv s' wv' mo')) (hfs : s'.fs = s.fs)
    (hbrk : s'.down = false → wv' = s'.waits ∧ (s'.waits = true → mo' = (s'.more : Int))) (hfit : Fit s') : DiskO own S w' db s' mv wv' mo' :=
  ⟨fun k hk => ⟨(h.mine k hk).1, by rw [hs]; exact (h.mine k hk).2⟩, h.disk, hblk, hbrk, by rw [hfs]; exact h.map.reblock hs h.disk hb, hfit⟩
end
theorem cell_alloc (w : World) (o : Obj) {b : Nat} (j : Nat) (h : b < w.heap.size) : (w.alloc o).cell? ⟨b, j, none⟩ = w.cell? ⟨b, j, none⟩ := World.cell?_of_block (a := ⟨b, j, none⟩) (Below.heap_alloc w o b h)
theorem froz_alloc (w : World) (o : Obj) {b : Nat} (j : Nat) (h : b < w.heap.size) : (w.alloc o).frozen? ⟨b, j, none⟩ = w.frozen? ⟨b, j, none⟩ := World.frozen?_of_block (a := ⟨b, j, none⟩) (Below.heap_alloc w o b h)
theorem but_refl (p : Nat) (w : World) : w.grownBy w (some p) := ⟨rfl, rfl, rfl, Nat.le_refl _, fun _ _ _ => rfl⟩
theorem but_set {p : Nat} {w w' : World} (h : w.grownBy w' (some p)) (j : Nat) (v : Value) : w.grownBy (w'.setCell ⟨p, j, none⟩ v) (some p) :=
  ⟨h.os, h.tape, h.output, by simp [World.setCell]; exact h.size, fun k hk hne => (Below.heap_setCell _ _ _ _ (fun e => hne (by rw [e]))).trans (h.block k hk hne)⟩
theorem but_drewN {p : Nat} {w w' : World} (h : w.grownBy w' (some p)) : ∀ q, w.grownBy (w'.drewN q) (some p)
  | 0 => h
  | q + 1 => by
    have := but_drewN h q
    exact ⟨this.os, this.tape, this.output, this.size, this.block⟩
end Go.Proofs.YtnffjoflkeagfaaGreat
namespace Go.Proofs.YtnffjoflkeagfaaGreat
open Go.RowKit Go.Maps

abbrev ptrV (b : Nat) : Value := .pointer (some ⟨b, 0, none⟩)
set_option maxHeartbeats 1000000 in
theorem Down_any {S : Nat → Prop} {w : World} {db : Nat} {s : St} (h : DiskAt S w db s) :
    Calls Tryz.prog 56 #[ptrV db] w fun e w' => e = .returned (.bool s.down) ∧ w = w' := by
  obtain ⟨own, mv, wv, mo, h⟩ := h
  have c3 := h.c3
  clear h
  generalize s.down = x at *
  go_enter Tryz.func56, Tryz.ntmps56
  go_wp2
  go_ret
  exact ⟨rfl, rfl⟩
set_option maxHeartbeats 1000000 in
theorem Used_any {S : Nat → Prop} {w : World} {db : Nat} {s : St} (h : DiskAt S w db s) :
    Calls Tryz.prog 18 #[ptrV db] w fun e w' => e = .returned (.int .i64 (usedF s.fs : Int)) ∧ w = w' := by
  obtain ⟨own, mv, wv, mo, h⟩ := h
  have c2 := h.c2
  clear h
  generalize usedF s.fs = x at *
  go_enter Tryz.func18, Tryz.ntmps18
  go_wp2
  go_ret
  exact ⟨rfl, rfl⟩
/-- the errno of room for so many more -/
def fitE (s : St) (n : Int) : Int := if n > (s.room : Int) - (usedF s.fs : Int) then 40 else 0
set_option maxHeartbeats 1000000 in
theorem fits_any {S : Nat → Prop} {w : World} {db : Nat} {s : St} (h : DiskAt S w db s) (n : Int) :
    Calls Tryz.prog 50 #[ptrV db, .int .i64 n] w fun e w' => e = .returned (.int .i64 (fitE s n)) ∧ ∃ q, w' = w.drewN q := by
  obtain ⟨own, mv, wv, mo, h⟩ := h
  have c1 := h.c1
  have c2 := h.c2
  have hr := h.fit.room
  have hi := h.fit.roomI
  clear h
  by_cases hlt : (s.room : Int) - (usedF s.fs : Int) < n
  · have HE : Hid (fitE s n = 40) := by show _ = _; unfold fitE; rw [if_pos (by omega)]
    generalize fitE s n = E at *
    generalize usedF s.fs = x at *
    generalize s.room = r at *
    go_enter Tryz.func50, Tryz.ntmps50
    go_wp2
    go_quiet (fail)
    go_wp2
    go_ret
    exact ⟨ret_int HE.out.symm, _, rfl⟩
  · have HE : Hid (fitE s n = 0) := by show _ = _; unfold fitE; rw [if_neg (by omega)]
    generalize fitE s n = E at *
    generalize usedF s.fs = x at *
    generalize s.room = r at *
    go_enter Tryz.func50, Tryz.ntmps50
    go_wp2
    go_quiet (fail)
    go_wp2
    go_ret
    exact ⟨ret_int HE.out.symm, _, rfl⟩
/-- does the power go within this change; the disk then -/
def brkB (s : St) : Bool := s.waits && s.more == 0
def brkS (s : St) : St := if s.waits = true then (if s.more = 0 then { s with down := true, waits := false } else { s with more := s.more - 1 }) else s
set_option maxHeartbeats 1000000 in
theorem breaks_own {own : Nat → Own} {S : Nat → Prop} {w : World} {db : Nat} {s : St} {mv : Value} {wv : Bool} {mo : Int} (h : DiskO own S w db s mv wv mo) (hd : s.down = false) :
    Calls Tryz.prog 77 #[ptrV db] w fun e w' => e = .returned (.bool (brkB s)) ∧ (∃ wv' mo', DiskO own S w' db (brkS s) mv wv' mo') ∧ w.grownBy w' (some db) := by
  have c3 := h.c3
  rw [hd] at c3
  have c4 := h.c4
  have c5 := h.c5
  have f3 := h.f 3
  have f4 := h.f 4
  have f5 := h.f 5
  obtain ⟨e1, e2⟩ := h.brk hd
  have hlt := h.lt
  have H := Lib.hid h
  clear h
  by_cases hw : s.waits = true
  · rw [hw] at e1
    subst e1
    have e3 := e2 hw
    subst e3
    clear e2
    by_cases hm : s.more = 0
    · have HB : Hid (brkB s = true) := by show _ = _; unfold brkB; rw [hw, hm]; rfl
      have HS : Hid (brkS s = { s with down := true, waits := false }) := by show _ = _; unfold brkS; rw [if_pos hw, if_pos hm]
      have hm0 : ((s.more : Int) == 0) = true := by rw [hm]; rfl
      have hmi := H.out.fit.moreI
      clear hd
      generalize brkB s = B at *
      generalize brkS s = T at *
      go_enter Tryz.func77, Tryz.ntmps77
      go_wp2
      go_ret
      refine ⟨ret_bool HB.out.symm, ?_, but_set (but_set (but_refl _ _) _ _) _ _⟩
      rw [HS.out]
      refine ⟨false, (s.more : Int), H.out.reblock (by simp [World.setCell]) (fun k hk => ?_) ?_ rfl (fun h => by cases h) (fit_same H.out.fit _ _ _ H.out.fit.moreI)⟩
      · rw [Below.heap_setCell _ _ _ _ hk, Below.heap_setCell _ _ _ _ hk]
      · have hb := H.out.block
        simp [World.setCell, Array.getElem?_modify, hb, diskC]
    · have HB : Hid (brkB s = false) := by show _ = _; unfold brkB; rw [hw]; simpa using hm
      have HS : Hid (brkS s = { s with more := s.more - 1 }) := by show _ = _; unfold brkS; rw [if_pos hw, if_neg hm]
      have hm0 : ((s.more : Int) == 0) = false := by rw [beq_eq_false_iff_ne]; omega
      have hmi := H.out.fit.moreI
      have hm1 : Hid (((s.more - 1 : Nat) : Int) = (s.more : Int) - 1) := by show _ = _; omega
      clear hd
      generalize brkB s = B at *
      generalize brkS s = T at *
      go_enter Tryz.func77, Tryz.ntmps77
      go_wp2
      go_ret
      refine ⟨ret_bool HB.out.symm, ?_, but_set (but_refl _ _) _ _⟩
      rw [HS.out]
      refine ⟨true, _, H.out.reblock (by simp [World.setCell]) (fun k hk => ?_) ?_ rfl (fun _ => ⟨hw.symm, fun _ => hm1.out.symm⟩) (fit_same H.out.fit _ _ _ (by omega))⟩
      · rw [Below.heap_setCell _ _ _ _ hk]
      · have hb := H.out.block
        simp [World.setCell, Array.getElem?_modify, hb, diskC]
  · have hw' : s.waits = false := by simpa using hw
    rw [hw'] at e1
    subst e1
    clear e2
    have HB : Hid (brkB s = false) := by show _ = _; unfold brkB; rw [hw']; rfl
    have HS : Hid (brkS s = s) := by show _ = _; unfold brkS; rw [if_neg hw]
    clear hd hw hw'
    generalize brkB s = B at *
    generalize brkS s = T at *
    go_enter Tryz.func77, Tryz.ntmps77
    go_wp2
    go_ret
    refine ⟨ret_bool HB.out.symm, ?_, but_refl _ _⟩
    rw [HS.out]
    exact ⟨false, _, H.out⟩
set_option maxHeartbeats 1000000 in
theorem needs1_any {S : Nat → Prop} {w : World} {db : Nat} {s : St} (h : DiskAt S w db s) (b1 b2 : Nat) (name : ByteArray) (hn : name.size ≤ 9223372036854775807)
    (k1 : w.cell? ⟨b1, 0, none⟩ = some (ptrV db)) (k2 : w.cell? ⟨b2, 0, none⟩ = some (.string name)) :
    Calls Tryz.prog 85 #[ptrV b1, ptrV b2] w fun e w' => e = .returned (.int .i64 (needE s (bs name))) ∧ Below w.heap.size w w' := by
  obtain ⟨own, mv, wv, mo, h⟩ := h
  have c0 := h.c0
  obtain ⟨v, hbf, hl⟩ := h.map.look name hn
  obtain ⟨va, vc, rfl⟩ := hbf.slice
  have h1 := World.block_lt_of_cell? w _ k1
  have h2 := World.block_lt_of_cell? w _ k2
  simp only at h1 h2
  have hlt := h.lt
  have c0a := fun o => (cell_alloc w o 0 hlt).trans c0
  have k1a := fun o => (cell_alloc w o 0 h1).trans k1
  have k2a := fun o => (cell_alloc w o 0 h2).trans k2
  have hl1 := (hl w.drew (fun g _ => rfl)).2
  have hl2 := fun o => (hl (w.alloc o).drew (fun g hg => Below.heap_alloc w o g (h.mine g (by rw [hg]; simp)).2)).2
  clear h hl hbf
  by_cases ht : (look s.fs (bs name)).isSome = true
  · have HE : Hid (needE s (bs name) = 0) := by show _ = _; unfold needE; rw [if_pos ht]
    rw [ht] at hl1 hl2
    clear ht
    generalize needE s (bs name) = E at *
    generalize (getF s.fs (bs name)).b.length = fl at *
    go_enter Tryz.func85, Tryz.ntmps85
    go_wp2
    go_region
    go_wp2
    go_ret
    exact ⟨ret_int HE.out.symm, ((Below.refl _ _).alloc (Nat.le_refl _) _).drew⟩
  · have HE : Hid (needE s (bs name) = 42) := by show _ = _; unfold needE; rw [if_neg ht]
    have ht : (look s.fs (bs name)).isSome = false := by simpa using ht
    rw [ht] at hl1 hl2
    clear ht
    generalize needE s (bs name) = E at *
    generalize (getF s.fs (bs name)).b.length = fl at *
    go_enter Tryz.func85, Tryz.ntmps85
    go_wp2
    go_region
    go_wp2
    go_ret
    exact ⟨ret_int HE.out.symm, ((Below.refl _ _).alloc (Nat.le_refl _) _).drew⟩
end Go.Proofs.YtnffjoflkeagfaaGreat
