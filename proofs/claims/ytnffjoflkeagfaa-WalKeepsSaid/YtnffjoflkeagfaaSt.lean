/- A disk as the document tells it: files in the order of their names. Plain, without a program. -/
import Derived.WalkKit
import Derived.Below
namespace Go.Proofs.Ytnffjoflkeagfaa

/-- a file: its bytes, how many are synced, was it ever sure -/
structure F where
  b : List UInt8
  s : Nat
  u : Bool
abbrev Fs := List (List UInt8 × F)
def F.zero : F := ⟨[], 0, false⟩
def look : Fs → List UInt8 → Option F
  | [], _ => none
  | p :: r, k => if p.1 = k then some p.2 else look r k
def getF (fs : Fs) (k : List UInt8) : F := (look fs k).getD F.zero
def putF : Fs → List UInt8 → F → Fs
  | [], k, f => [(k, f)]
  | p :: r, k, f => if p.1 < k then p :: putF r k f else if p.1 = k then (k, f) :: r else (k, f) :: p :: r
def delF : Fs → List UInt8 → Fs
  | [], _ => []
  | p :: r, k => if p.1 = k then r else p :: delF r k
def usedF : Fs → Nat
  | [] => 0
  | p :: r => p.2.b.length + usedF r
def Sorted (fs : Fs) : Prop := fs.Pairwise (fun p q => p.1 < q.1)
theorem ltI (a : List UInt8) : ¬ a < a := List.lt_irrefl a
theorem ltT {a b c : List UInt8} (h : a < b) (k : b < c) : a < c := List.lt_trans h k
theorem ltN {a b : List UInt8} (h : ¬ a < b) (hne : a ≠ b) : b < a := by
  have h1 : b ≤ a := List.not_lt.1 h
  rcases Decidable.em (b < a) with h2 | h2
  · exact h2
  · exact absurd (List.le_antisymm (List.not_lt.1 h2) h1) hne
theorem ltne {a b : List UInt8} (h : a < b) : a ≠ b := fun e => by subst e; exact ltI _ h

theorem look_none {fs : Fs} {k : List UInt8} (h : ∀ p ∈ fs, p.1 ≠ k) : look fs k = none := by
  induction fs with
  | nil => rfl
  | cons p r ih => simp only [look, if_neg (h p (by simp))]; exact ih (fun q hq => h q (by simp [hq]))
theorem look_mem {fs : Fs} {k : List UInt8} {f : F} (h : look fs k = some f) : (k, f) ∈ fs := by
  induction fs with
  | nil => cases h
  | cons p r ih =>
    unfold look at h
    split at h
    · rename_i e; cases h; subst e; simp
    · simp [ih h]
theorem mem_look {fs : Fs} (hs : Sorted fs) {k : List UInt8} {f : F} (h : (k, f) ∈ fs) : look fs k = some f := by
  induction fs with
  | nil => cases h
  | cons p r ih =>
    obtain ⟨h1, h2⟩ := List.pairwise_cons.1 hs
    rcases List.mem_cons.1 h with e | h
    · subst e; simp [look]
    · have := h1 _ h
      rw [look, if_neg (ltne this)]
      exact ih h2 h
theorem look_tail {p : List UInt8 × F} {r : Fs} (hs : Sorted (p :: r)) {k : List UInt8} (h : ¬ p.1 < k) : look r k = none := by
  refine look_none fun q hq e => h ?_
  subst e
  exact (List.pairwise_cons.1 hs).1 q hq
theorem look_put_same (fs : Fs) (k : List UInt8) (f : F) : look (putF fs k f) k = some f := by
  induction fs with
  | nil => simp [putF, look]
  | cons p r ih =>
    unfold putF
    split
    · rename_i h; simp [look, if_neg (ltne h), ih]
    · split <;> simp [look]
theorem look_put_other (fs : Fs) (k k' : List UInt8) (f : F) (hne : k' ≠ k) : look (putF fs k f) k' = look fs k' := by
  induction fs with
  | nil => simp [putF, look, hne.symm]
  | cons p r ih =>
    unfold putF
    split
    · simp only [look, ih]
    · split
      · rename_i e; simp [look, e, hne.symm]
      · simp [look, hne.symm]
theorem look_del_same {fs : Fs} (hs : Sorted fs) (k : List UInt8) : look (delF fs k) k = none := by
  induction fs with
  | nil => rfl
  | cons p r ih =>
    unfold delF
    split
    · rename_i e; exact look_tail hs (by rw [e]; exact ltI _)
    · rename_i e; simp only [look, if_neg e]; exact ih (List.pairwise_cons.1 hs).2
theorem look_del_other (fs : Fs) (k k' : List UInt8) (hne : k' ≠ k) : look (delF fs k) k' = look fs k' := by
  induction fs with
  | nil => rfl
  | cons p r ih =>
    unfold delF
    split
    · rename_i e; simp only [look]; rw [if_neg (by rw [e]; exact hne.symm)]
    · simp only [look, ih]
theorem mem_put {fs : Fs} {k : List UInt8} {f : F} {q : List UInt8 × F} (h : q ∈ putF fs k f) : q = (k, f) ∨ q ∈ fs := by
  induction fs with
  | nil => simpa [putF] using h
  | cons p r ih =>
    unfold putF at h
    split at h
    · rcases List.mem_cons.1 h with e | h
      · exact .inr (by simp [e])
      · rcases ih h with e | h
        · exact .inl e
        · exact .inr (by simp [h])
    · split at h
      · rcases List.mem_cons.1 h with e | h
        · exact .inl e
        · exact .inr (by simp [h])
      · rcases List.mem_cons.1 h with e | h
        · exact .inl e
        · exact .inr h
theorem sorted_put {fs : Fs} (hs : Sorted fs) (k : List UInt8) (f : F) : Sorted (putF fs k f) := by
  induction fs with
  | nil => simp [putF, Sorted]
  | cons p r ih =>
    obtain ⟨h1, h2⟩ := List.pairwise_cons.1 hs
    unfold putF
    split
    · rename_i hlt
      refine List.pairwise_cons.2 ⟨fun q hq => ?_, ih h2⟩
      rcases mem_put hq with rfl | hq
      · exact hlt
      · exact h1 q hq
    · split
      · rename_i e
        exact List.pairwise_cons.2 ⟨fun q hq => by rw [← e]; exact h1 q hq, h2⟩
      · rename_i hn e
        have hk := ltN hn e
        refine List.pairwise_cons.2 ⟨fun q hq => ?_, hs⟩
        rcases List.mem_cons.1 hq with rfl | hq
        · exact hk
        · exact ltT hk (h1 q hq)
theorem mem_del {fs : Fs} {k : List UInt8} {q : List UInt8 × F} (h : q ∈ delF fs k) : q ∈ fs := by
  induction fs with
  | nil => cases h
  | cons p r ih =>
    unfold delF at h
    split at h
    · simp [h]
    · rcases List.mem_cons.1 h with e | h
      · simp [e]
      · simp [ih h]
theorem sorted_del {fs : Fs} (hs : Sorted fs) (k : List UInt8) : Sorted (delF fs k) := by
  induction fs with
  | nil => exact hs
  | cons p r ih =>
    obtain ⟨h1, h2⟩ := List.pairwise_cons.1 hs
    unfold delF
    split
    · exact h2
    · exact List.pairwise_cons.2 ⟨fun q hq => h1 q (mem_del hq), ih h2⟩
theorem used_put {fs : Fs} (hs : Sorted fs) (k : List UInt8) (f : F) : usedF (putF fs k f) + (getF fs k).b.length = usedF fs + f.b.length := by
  induction fs with
  | nil => simp [putF, usedF, getF, look, F.zero]
  | cons p r ih =>
    obtain ⟨h1, h2⟩ := List.pairwise_cons.1 hs
    have ih := ih h2
    unfold putF
    split
    · rename_i h
      have e : getF (p :: r) k = getF r k := by unfold getF; simp [look, if_neg (ltne h)]
      rw [e]; simp only [usedF]; omega
    · split
      · rename_i e
        have e2 : getF (p :: r) k = p.2 := by unfold getF; simp [look, e]
        rw [e2]; simp only [usedF]; omega
      · rename_i hn e
        have e2 : getF (p :: r) k = F.zero := by unfold getF; rw [look, if_neg e, look_tail hs hn]; rfl
        rw [e2]; simp only [usedF, F.zero, List.length_nil]; omega
theorem used_del {fs : Fs} (hs : Sorted fs) (k : List UInt8) : usedF (delF fs k) + (getF fs k).b.length = usedF fs := by
  induction fs with
  | nil => simp [delF, usedF, getF, look, F.zero]
  | cons p r ih =>
    obtain ⟨h1, h2⟩ := List.pairwise_cons.1 hs
    have ih := ih h2
    unfold delF
    split
    · rename_i e
      have e2 : getF (p :: r) k = p.2 := by unfold getF; simp [look, e]
      rw [e2]; simp only [usedF]; omega
    · rename_i e
      have e2 : getF (p :: r) k = getF r k := by unfold getF; simp [look, if_neg e]
      rw [e2]; simp only [usedF]; omega
theorem used_ge {fs : Fs} {k : List UInt8} {f : F} (h : (k, f) ∈ fs) : f.b.length ≤ usedF fs := by
  induction fs with
  | nil => cases h
  | cons p r ih =>
    simp only [usedF]
    rcases List.mem_cons.1 h with e | h
    · subst e; simp
    · have := ih h; omega
theorem get_le (fs : Fs) (k : List UInt8) : (getF fs k).b.length ≤ usedF fs := by
  unfold getF
  cases h : look fs k with
  | none => simp [F.zero]
  | some f => exact used_ge (look_mem h)
theorem length_put (fs : Fs) (k : List UInt8) (f : F) : (putF fs k f).length ≤ fs.length + 1 := by
  induction fs with
  | nil => simp [putF]
  | cons p r ih =>
    unfold putF
    split
    · simp only [List.length_cons]; omega
    · split <;> simp
theorem length_put_there {fs : Fs} (hs : Sorted fs) {k : List UInt8} (f : F) (h : (look fs k).isSome = true) : (putF fs k f).length = fs.length := by
  induction fs with
  | nil => simp [look] at h
  | cons p r ih =>
    unfold putF
    split
    · rename_i hlt
      rw [look, if_neg (ltne hlt)] at h
      simp only [List.length_cons, ih (List.pairwise_cons.1 hs).2 h]
    · split
      · simp
      · rename_i hn e
        rw [look, if_neg e, look_tail hs hn] at h; cases h
theorem length_del (fs : Fs) (k : List UInt8) : (delF fs k).length ≤ fs.length := by
  induction fs with
  | nil => simp [delF]
  | cons p r ih =>
    unfold delF
    split
    · simp
    · simp only [List.length_cons]; omega
theorem length_mem_look {fs : Fs} {k : List UInt8} : (look fs k).isSome = true ↔ k ∈ fs.map (·.1) := by
  induction fs with
  | nil => simp [look]
  | cons p r ih =>
    unfold look
    by_cases h : p.1 = k
    · simp [h]
    · rw [if_neg h]; simp [ih, Ne.symm h]
/-- in the midst -/
theorem sorted_mid {A B : Fs} {k : List UInt8} {f : F} (hs : Sorted (A ++ (k, f) :: B)) : (∀ p ∈ A, p.1 < k) ∧ (∀ p ∈ B, k < p.1) ∧ Sorted A ∧ Sorted B ∧ Sorted (A ++ B) := by
  obtain ⟨h1, h2, h3⟩ := List.pairwise_append.1 hs
  obtain ⟨h4, h5⟩ := List.pairwise_cons.1 h2
  exact ⟨fun p hp => h3 p hp (k, f) (by simp), fun p hp => h4 p hp, h1, h5, List.pairwise_append.2 ⟨h1, h5, fun a ha b hb => h3 a ha b (by simp [hb])⟩⟩
theorem look_mid {A B : Fs} {k : List UInt8} {f : F} (hs : Sorted (A ++ (k, f) :: B)) : look (A ++ (k, f) :: B) k = some f := mem_look hs (by simp)
theorem put_mid {A B : Fs} {k : List UInt8} {f : F} (hs : Sorted (A ++ (k, f) :: B)) (f' : F) : putF (A ++ (k, f) :: B) k f' = A ++ (k, f') :: B := by
  have hA := (sorted_mid hs).1
  clear hs
  induction A with
  | nil => simp [putF, ltI]
  | cons p r ih => simp only [List.cons_append, putF, if_pos (hA p (by simp)), ih (fun q hq => hA q (by simp [hq]))]
theorem del_mid {A B : Fs} {k : List UInt8} {f : F} (hs : Sorted (A ++ (k, f) :: B)) : delF (A ++ (k, f) :: B) k = A ++ B := by
  have hA := (sorted_mid hs).1
  clear hs
  induction A with
  | nil => simp [delF]
  | cons p r ih => simp only [List.cons_append, delF, if_neg (ltne (hA p (by simp))), ih (fun q hq => hA q (by simp [hq]))]
theorem used_append (A B : Fs) : usedF (A ++ B) = usedF A + usedF B := by
  induction A with
  | nil => simp [usedF]
  | cons p r ih => simp only [List.cons_append, usedF, ih]; omega
theorem sorted_keys {fs : Fs} (hs : Sorted fs) : (fs.map (·.1)).Nodup ∧ (fs.map (·.1)).Pairwise (fun a b => decide (a ≤ b) = true) := by
  refine ⟨List.pairwise_map.2 (hs.imp fun h => ltne h), List.pairwise_map.2 (hs.imp fun {a b} h => ?_)⟩
  rw [decide_eq_true_iff]
  exact List.not_lt.1 (fun h2 => ltI _ (ltT h h2))

/-- the whole -/
structure St where
  room : Nat
  fs : Fs
  down : Bool
  waits : Bool
  more : Nat
def newS (room : Int) : St := ⟨room.toNat, [], false, false, 0⟩
/-- a change that needs e, and does whole or torn -/
def changeS (s : St) (e : Int) (whole torn : Fs) : Int × St :=
  if s.down = true then (41, s) else if e ≠ 0 then (e, s) else
  if s.waits = true then (if s.more = 0 then (41, { s with fs := torn, down := true, waits := false }) else (0, { s with fs := whole, more := s.more - 1 })) else (0, { s with fs := whole })
def grown (f : F) (b : List UInt8) : F := ⟨f.b ++ b, f.s, f.u⟩
def appendS (s : St) (k b : List UInt8) : Int × St :=
  changeS s (if usedF s.fs + b.length > s.room then 40 else 0) (putF s.fs k (grown (getF s.fs k) b)) (putF s.fs k (grown (getF s.fs k) b))
def needE (s : St) (k : List UInt8) : Int := if (look s.fs k).isSome = true then 0 else 42
def syncedF (f : F) : F := ⟨f.b, f.b.length, true⟩
def syncS (s : St) (k : List UInt8) : Int × St := changeS s (needE s k) (putF s.fs k (syncedF (getF s.fs k))) s.fs
def cutE (s : St) (k : List UInt8) (n : Int) : Int := if (look s.fs k).isSome = true then (if n < 0 ∨ n > (getF s.fs k).b.length then 1 else 0) else 42
def cutF (f : F) (n : Nat) : F := ⟨f.b.take n, min f.s n, true⟩
def cutS (s : St) (k : List UInt8) (n : Int) : Int × St := changeS s (cutE s k n) (putF s.fs k (cutF (getF s.fs k) n.toNat)) s.fs
def replaceS (s : St) (k b : List UInt8) : Int × St :=
  changeS s (if usedF s.fs + b.length > s.room + (getF s.fs k).b.length then 40 else 0) (putF s.fs k ⟨b, b.length, true⟩) s.fs
def removeS (s : St) (k : List UInt8) : Int × St := changeS s (needE s k) (delF s.fs k) s.fs
def readS (s : St) (k : List UInt8) : List UInt8 × Int :=
  if s.down = true then ([], 41) else if (look s.fs k).isSome = true then ((getF s.fs k).b, 0) else ([], 42)
def breakS (s : St) (n : Int) : St := if s.down = true then s else { s with waits := true, more := n.toNat }
/-- what a crash leaves of a file -/
def leftF (f : F) (more : Int) : Nat := f.s + min more.toNat (f.b.length - f.s)
def loseF (fs : Fs) (k : List UInt8) (more : Int) : Fs :=
  if leftF (getF fs k) more = 0 ∧ (getF fs k).u = false then delF fs k
  else putF fs k ⟨(getF fs k).b.take (leftF (getF fs k) more), leftF (getF fs k) more, true⟩
def crashF : Fs → List Int → Fs
  | [], _ => []
  | p :: r, keep =>
    if leftF p.2 (keep.headD 0) = 0 ∧ p.2.u = false then crashF r keep.tail
    else (p.1, ⟨p.2.b.take (leftF p.2 (keep.headD 0)), leftF p.2 (keep.headD 0), true⟩) :: crashF r keep.tail
def crashS (s : St) (keep : List Int) : St := { s with fs := crashF s.fs keep, down := false, waits := false }
def wipeS (s : St) : St := { s with fs := [] }

/-- what always holds of a disk -/
structure Fit (s : St) : Prop where
  sorted : Sorted s.fs
  room : usedF s.fs ≤ s.room
  roomI : s.room ≤ 9223372036854775807
  moreI : s.more ≤ 9223372036854775807
  keys : ∀ p ∈ s.fs, p.1.length ≤ 9223372036854775807
  syn : ∀ p ∈ s.fs, p.2.s ≤ p.2.b.length
theorem Fit.get {s : St} (h : Fit s) (k : List UInt8) : (getF s.fs k).s ≤ (getF s.fs k).b.length := by
  unfold getF
  cases e : look s.fs k with
  | none => simp [F.zero]
  | some f => exact h.syn _ (look_mem e)
theorem getF_look {fs : Fs} {k : List UInt8} {f : F} (h : look fs k = some f) : getF fs k = f := by unfold getF; rw [h]; rfl
theorem fit_fs {s : St} (h : Fit s) {fs : Fs} {k : List UInt8} {f : F} (e : fs = putF s.fs k f) (hk : k.length ≤ 9223372036854775807) (hf : f.s ≤ f.b.length) (hu : usedF s.fs + f.b.length ≤ s.room + (getF s.fs k).b.length) (d w : Bool) (m : Nat) (hm : m ≤ 9223372036854775807) :
    Fit ⟨s.room, fs, d, w, m⟩ := by
  subst e
  refine ⟨sorted_put h.sorted _ _, ?_, h.roomI, hm, fun p hp => ?_, fun p hp => ?_⟩
  · have := used_put h.sorted k f; show usedF (putF s.fs k f) ≤ s.room; omega
  · rcases mem_put hp with rfl | hp
    · exact hk
    · exact h.keys p hp
  · rcases mem_put hp with rfl | hp
    · exact hf
    · exact h.syn p hp
theorem fit_del {s : St} (h : Fit s) {fs : Fs} {k : List UInt8} (e : fs = delF s.fs k) (d w : Bool) (m : Nat) (hm : m ≤ 9223372036854775807) : Fit ⟨s.room, fs, d, w, m⟩ := by
  subst e
  refine ⟨sorted_del h.sorted _, ?_, h.roomI, hm, fun p hp => h.keys p (mem_del hp), fun p hp => h.syn p (mem_del hp)⟩
  have := used_del h.sorted k; show usedF (delF s.fs k) ≤ s.room; have := h.room; omega
theorem fit_same {s : St} (h : Fit s) (d w : Bool) (m : Nat) (hm : m ≤ 9223372036854775807) : Fit ⟨s.room, s.fs, d, w, m⟩ := ⟨h.sorted, h.room, h.roomI, hm, h.keys, h.syn⟩
end Go.Proofs.Ytnffjoflkeagfaa
