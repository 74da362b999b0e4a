/- The document's example: works. Acts on a disk: what they are, what heavy tells of them, what they make of a disk. Several things in one memory, none of which touches another's blocks. SameKept, SameTexts at equals; an act's calls. -/
import Derived.Test.YtnffjoflkeagfaaGreatD5
namespace Go.Proofs.YtnffjoflkeagfaaGreat
open Go.RowKit Go.Maps

/-- from block B on -/
abbrev From (B : Nat) : Nat → Prop := fun k => B ≤ k
/-- a crash whose numbers lie in a block of the call's own -/
theorem Crash_new {S : Nat → Prop} {w : World} {db : Nat} {s : St} (h : DiskAt S w db s) (hS : ∀ k, w.heap.size ≤ k → S k) (hm : Small s) (hkl : ∀ p ∈ s.fs, p.1.length ≤ 281474976710656) (T : TypeId) (keep : List Int) (hkn : keep.length ≤ 9223372036854775807) :
    Calls Tryz.prog 16 #[ptrV db, .slice (some ⟨w.heap.size, 0, none⟩) keep.length keep.length] (w.alloc (.cells (keep.map (fun z => Value.int .i64 z)).toArray T)) fun e w' => e = .returned (.tuple #[]) ∧ DiskAt S w' db (crashS s keep) ∧ Kept S w w' := by
  obtain ⟨own, mv, wv, mo, h⟩ := h
  have hb : Below w.heap.size w (w.alloc (.cells (keep.map (fun z => Value.int .i64 z)).toArray T)) := (Below.refl _ _).alloc (Nat.le_refl _) _
  have h1 : DiskAt (fun k => own k ≠ .no ∨ w.heap.size < k) (w.alloc (.cells (keep.map (fun z => Value.int .i64 z)).toArray T)) db s :=
    ⟨own, mv, wv, mo, (DiskO.mk (fun k hk => ⟨.inl hk, (h.mine k hk).2⟩) h.disk h.block h.brk h.map h.fit : DiskO own (fun k => own k ≠ .no ∨ w.heap.size < k) w db s mv wv mo).below hb⟩
  have hsz : (w.alloc (.cells (keep.map (fun z => Value.int .i64 z)).toArray T)).heap.size = w.heap.size + 1 := by simp
  have hoff : ListOff (fun k => own k ≠ .no ∨ w.heap.size < k) (w.alloc (.cells (keep.map (fun z => Value.int .i64 z)).toArray T)) (.slice (some ⟨w.heap.size, 0, none⟩) keep.length keep.length) keep.length (keep.map (fun z => Value.int .i64 z)) := by
    refine ⟨by simp, _, _, rfl, Nat.le_refl _, .inr ⟨w.heap.size, 0, rfl, by omega, fun hh => hh.elim (fun h' => h' (h.free (Nat.le_refl _))) (fun h' => by omega), fun j u hu => ?_⟩⟩
    rw [Nat.zero_add, World.cell?_alloc_new, List.getElem?_toArray]; exact hu
  refine (Crash_any h1 (fun k hk => .inr (by omega)) hm hkl _ keep hoff hkn).mono ?_
  rintro e w' ⟨rfl, hd, hk⟩
  have hSS : ∀ k, (own k ≠ .no ∨ w.heap.size < k) → S k := fun k hh => hh.elim (fun h' => (h.mine k h').1) (fun h' => hS k (by omega))
  exact ⟨rfl, hd.mono (fun k _ hh => hSS k hh), (Kept.of_below hb).trans (hk.mono (fun k _ hh => hSS k hh))⟩

def ws1 : St := ⟨10, [([98], ⟨[97, 98, 99], 0, false⟩)], false, false, 0⟩
def ws2 : St := ⟨10, [([98], ⟨[97, 98, 99], 3, true⟩)], false, false, 0⟩
def ws3 : St := ⟨10, [([98], ⟨[97, 98, 99, 100, 101, 102], 3, true⟩)], false, false, 0⟩
def ws4 : St := ⟨10, [([97], ⟨[120, 121], 0, false⟩), ([98], ⟨[97, 98, 99, 100, 101, 102], 3, true⟩)], false, false, 0⟩
def ws5 : St := ⟨10, [([97], ⟨[120], 1, true⟩), ([98], ⟨[97, 98, 99, 100, 101], 5, true⟩)], false, false, 0⟩
def ws6 : St := ⟨10, [([97], ⟨[120], 1, true⟩), ([98], ⟨[97, 98, 99, 100, 101], 5, true⟩)], false, true, 0⟩
def ws7 : St := ⟨10, [([97], ⟨[120, 49], 1, true⟩), ([98], ⟨[97, 98, 99, 100, 101], 5, true⟩)], true, false, 0⟩
theorem we1 : appendS (newS 10) [98] [97, 98, 99] = (0, ws1) := by kernel_rfl
theorem we2 : syncS ws1 [98] = (0, ws2) := by kernel_rfl
theorem we3 : appendS ws2 [98] [100, 101, 102] = (0, ws3) := by kernel_rfl
theorem we4 : appendS ws3 [97] [120, 121] = (0, ws4) := by kernel_rfl
theorem we5 : appendS ws4 [97] [122, 122, 122] = (40, ws4) := by kernel_rfl
theorem we6 : crashS ws4 [1, 2] = ws5 := by kernel_rfl
theorem we7 : readS ws5 [97] = ([120], 0) := by kernel_rfl
theorem we8 : readS ws5 [98] = ([97, 98, 99, 100, 101], 0) := by kernel_rfl
theorem we9 : breakS ws5 0 = ws6 := by kernel_rfl
theorem we10 : appendS ws6 [97] [49] = (41, ws7) := by kernel_rfl
theorem we11 : usedF ws7.fs = 7 := by kernel_rfl
end Go.Proofs.YtnffjoflkeagfaaGreat
namespace Go.Proofs.YtnffjoflkeagfaaGreat
open Go.RowKit Go.Maps

structure ActV where
  k : Nat
  name : ByteArray
  b : ByteArray
  n : Int
  kv : Value
  keep : List Int
/-- a slice value reads as these acts; nothing of it lies in S -/
def ActsOff (S : Nat → Prop) (w : World) (v : Value) (l : List ActV) : Prop :=
  ∃ a cap, v = .slice a l.length cap ∧ l.length ≤ cap ∧ (l = [] ∨ ∃ b off, a = some ⟨b, off, none⟩ ∧ b < w.heap.size ∧ ¬ S b ∧ ∀ i x, l[i]? = some x →
    w.cell? ⟨b, off + i * 5, none⟩ = some (.int .u8 (x.k : Int)) ∧ w.cell? ⟨b, off + i * 5 + 1, none⟩ = some (.string x.name) ∧ w.cell? ⟨b, off + i * 5 + 2, none⟩ = some (.string x.b) ∧
    w.cell? ⟨b, off + i * 5 + 3, none⟩ = some (.int .i64 x.n) ∧ w.cell? ⟨b, off + i * 5 + 4, none⟩ = some x.kv ∧ ListOff S w x.kv x.keep.length (x.keep.map (fun z => Value.int .i64 z)))
theorem ActsOff.kept {S : Nat → Prop} {w w' : World} {v : Value} {l : List ActV} (h : ActsOff S w v l) (hk : Kept S w w') : ActsOff S w' v l := by
  obtain ⟨a, cap, rfl, hcap, h2⟩ := h
  refine ⟨a, cap, rfl, hcap, ?_⟩
  rcases h2 with h2 | ⟨b, off, rfl, hlt, hn, hc⟩
  · exact .inl h2
  · have e := fun j => World.cell?_of_block (a := ⟨b, j, none⟩) (hk.block b hlt hn)
    refine .inr ⟨b, off, rfl, Nat.lt_of_lt_of_le hlt hk.size, hn, fun i x hx => ?_⟩
    obtain ⟨c0, c1, c2, c3, c4, c5⟩ := hc i x hx
    exact ⟨(e _).trans c0, (e _).trans c1, (e _).trans c2, (e _).trans c3, (e _).trans c4, c5.kept hk⟩
theorem ActsOff.slice {S : Nat → Prop} {w : World} {v : Value} {l : List ActV} (h : ActsOff S w v l) : ∃ a cap, v = .slice a l.length cap := by
  obtain ⟨a, cap, e, _⟩ := h; exact ⟨a, cap, e⟩
theorem act_get {S : Nat → Prop} {w : World} {a : Option Addr} {n c i : Nat} {l : List ActV} {x : ActV} (h : ActsOff S w (.slice a n c) l) (hx : l[i]? = some x) :
    ∃ b off ka kc, a = some ⟨b, off, none⟩ ∧ n = l.length ∧ n ≤ c ∧ i < n ∧ x.kv = .slice ka x.keep.length kc ∧
    w.cell? ⟨b, off + i * 5, none⟩ = some (.int .u8 (x.k : Int)) ∧ w.cell? ⟨b, off + i * 5 + 1, none⟩ = some (.string x.name) ∧ w.cell? ⟨b, off + i * 5 + 2, none⟩ = some (.string x.b) ∧
    w.cell? ⟨b, off + i * 5 + 3, none⟩ = some (.int .i64 x.n) ∧ w.cell? ⟨b, off + i * 5 + 4, none⟩ = some (.slice ka x.keep.length kc) ∧ ListOff S w (.slice ka x.keep.length kc) x.keep.length (x.keep.map (fun z => Value.int .i64 z)) := by
  obtain ⟨a', c', e, hc, h2⟩ := h
  cases e
  have hlt := (List.getElem?_eq_some_iff.1 hx).1
  rcases h2 with h2 | ⟨b, off, rfl, _, _, hcell⟩
  · subst h2; simp at hlt
  · obtain ⟨c0, c1, c2, c3, c4, c5⟩ := hcell i x hx
    obtain ⟨h5, ka, kc, e, h6⟩ := c5
    have e2 : x.keep.length = (x.keep.map (fun z => Value.int .i64 z)).length := by simp
    refine ⟨b, off, ka, kc, rfl, rfl, hc, hlt, e, c0, c1, c2, c3, by rw [c4, e], h5, ka, kc, rfl, h6⟩

/-- what heavy counts -/
def wA (x : ActV) : Nat := min x.b.size 8192 + min x.name.size 8192 + min x.keep.length 8192
def wsum (l : List ActV) : Nat := (l.map wA).sum
theorem wsum_snoc (l : List ActV) (x : ActV) : wsum (l ++ [x]) = wsum l + wA x := by simp [wsum]
theorem lt_sum {α : Type} (f : α → Nat) : ∀ l : List α, (l.map fun x => min (f x) 8192).sum < 8192 → (l.map f).sum = (l.map fun x => min (f x) 8192).sum
  | [], _ => rfl
  | x :: r, h => by
    simp only [List.map_cons, List.sum_cons] at h ⊢
    rw [lt_sum f r (by omega)]; omega
theorem le_sum {α : Type} (f : α → Nat) (M : Nat) (hM : 8192 ≤ M) : ∀ l : List α, (∀ x ∈ l, f x ≤ M) → (l.map fun x => min (f x) 8192).sum ≤ 8192 → (l.map f).sum ≤ M
  | [], _, _ => by simp
  | x :: r, hm, h => by
    simp only [List.map_cons, List.sum_cons] at h ⊢
    by_cases h0 : f x = 0
    · have := le_sum f M hM r (fun y hy => hm y (by simp [hy])) (by omega)
      omega
    · have := lt_sum f r (by omega)
      have := hm x (by simp)
      omega
def bytesT (l : List ActV) : Nat := (l.map fun x => x.b.size).sum
theorem bytesT_snoc (l : List ActV) (x : ActV) : bytesT (l ++ [x]) = bytesT l + x.b.size := by simp [bytesT]
theorem bytesT_le {l : List ActV} {M : Nat} (hM : 8192 ≤ M) (h : ∀ x ∈ l, x.b.size ≤ M) (hw : wsum l ≤ 8192) : bytesT l ≤ M := by
  refine le_sum (fun x : ActV => x.b.size) M hM l h (Nat.le_trans ?_ hw)
  unfold wsum
  clear h hw
  induction l with
  | nil => simp
  | cons x r ih => simp only [List.map_cons, List.sum_cons, wA]; omega
theorem bytesT_take (l : List ActV) (k : Nat) : bytesT (l.take k) ≤ bytesT l := by
  have h : bytesT (l.take k ++ l.drop k) = bytesT (l.take k) + bytesT (l.drop k) := by unfold bytesT; rw [List.map_append, List.sum_append_nat]
  rw [List.take_append_drop] at h
  omega
/-- what an act makes of a disk -/
def stepS (s : St) (x : ActV) : St :=
  if x.k % 9 = 0 then (appendS s (bs x.name) (bs x.b)).2 else if x.k % 9 = 1 then (syncS s (bs x.name)).2 else if x.k % 9 = 2 then (cutS s (bs x.name) x.n).2 else
  if x.k % 9 = 3 then (replaceS s (bs x.name) (bs x.b)).2 else if x.k % 9 = 4 then (removeS s (bs x.name)).2 else if x.k % 9 = 5 then s else
  if x.k % 9 = 6 then breakS s x.n else if x.k % 9 = 7 then crashS s x.keep else wipeS s
/-- no more files, bytes, longer names than these -/
structure Most (s : St) (N U K : Nat) : Prop where
  count : s.fs.length ≤ N
  bytes : usedF s.fs ≤ U
  keys : ∀ p ∈ s.fs, p.1.length ≤ K
theorem changeS_fs (s : St) (e : Int) (f1 f2 : Fs) : (changeS s e f1 f2).2.fs = s.fs ∨ (changeS s e f1 f2).2.fs = f1 ∨ (changeS s e f1 f2).2.fs = f2 := by
  unfold changeS
  split
  · exact .inl rfl
  · split
    · exact .inl rfl
    · split
      · split
        · exact .inr (.inr rfl)
        · exact .inr (.inl rfl)
      · exact .inr (.inl rfl)
theorem changeS_room (s : St) (e : Int) (f1 f2 : Fs) : (changeS s e f1 f2).2.room = s.room := by
  unfold changeS
  split
  · rfl
  · split
    · rfl
    · split
      · split <;> rfl
      · rfl
theorem most_put {fs : Fs} (hs : Sorted fs) {N U K : Nat} (hN : fs.length ≤ N) (hU : usedF fs ≤ U) (hK : ∀ p ∈ fs, p.1.length ≤ K) {k : List UInt8} {f : F} {d : Nat} (hk : k.length ≤ K) (hf : f.b.length ≤ (getF fs k).b.length + d) :
    (putF fs k f).length ≤ N + 1 ∧ usedF (putF fs k f) ≤ U + d ∧ ∀ p ∈ putF fs k f, p.1.length ≤ K := by
  refine ⟨by have := length_put fs k f; omega, by have := used_put hs k f; omega, fun p hp => ?_⟩
  rcases mem_put hp with rfl | hp
  · exact hk
  · exact hK p hp
theorem most_change {s : St} {N U K d : Nat} (h : Most s N U K) {e : Int} {f1 f2 : Fs} (h1 : f1.length ≤ N + 1 ∧ usedF f1 ≤ U + d ∧ ∀ p ∈ f1, p.1.length ≤ K) (h2 : f2.length ≤ N + 1 ∧ usedF f2 ≤ U + d ∧ ∀ p ∈ f2, p.1.length ≤ K) : Most (changeS s e f1 f2).2 (N + 1) (U + d) K := by
  rcases changeS_fs s e f1 f2 with hh | hh | hh
  · exact ⟨by rw [hh]; have := h.count; omega, by rw [hh]; have := h.bytes; omega, by rw [hh]; exact h.keys⟩
  · exact ⟨by rw [hh]; exact h1.1, by rw [hh]; exact h1.2.1, by rw [hh]; exact h1.2.2⟩
  · exact ⟨by rw [hh]; exact h2.1, by rw [hh]; exact h2.2.1, by rw [hh]; exact h2.2.2⟩
theorem most_append {s : St} {N U K : Nat} (h : Most s N U K) (hs : Sorted s.fs) {k b : List UInt8} (hk : k.length ≤ K) : Most (appendS s k b).2 (N + 1) (U + b.length) K := by
  have := most_put hs h.count h.bytes h.keys (f := grown (getF s.fs k) b) (d := b.length) hk (by simp only [grown, List.length_append]; omega)
  exact most_change h this this
theorem most_self {s : St} {N U K d : Nat} (h : Most s N U K) : s.fs.length ≤ N + 1 ∧ usedF s.fs ≤ U + d ∧ ∀ p ∈ s.fs, p.1.length ≤ K := ⟨by have := h.count; omega, by have := h.bytes; omega, h.keys⟩
theorem most_sync {s : St} {N U K : Nat} (h : Most s N U K) (hs : Sorted s.fs) {k : List UInt8} (hk : k.length ≤ K) : Most (syncS s k).2 (N + 1) U K :=
  most_change (d := 0) h (most_put hs h.count h.bytes h.keys (f := syncedF (getF s.fs k)) hk (by simp [syncedF])) (most_self h)
theorem most_cut {s : St} {N U K : Nat} (h : Most s N U K) (hs : Sorted s.fs) {k : List UInt8} {n : Int} (hk : k.length ≤ K) : Most (cutS s k n).2 (N + 1) U K :=
  most_change (d := 0) h (most_put hs h.count h.bytes h.keys (f := cutF (getF s.fs k) n.toNat) hk (by simp only [cutF, List.length_take]; omega)) (most_self h)
theorem most_replace {s : St} {N U K : Nat} (h : Most s N U K) (hs : Sorted s.fs) {k b : List UInt8} (hk : k.length ≤ K) : Most (replaceS s k b).2 (N + 1) (U + b.length) K :=
  most_change h (most_put hs h.count h.bytes h.keys (f := ⟨b, b.length, true⟩) hk (by simp only; omega)) (most_self h)
theorem most_remove {s : St} {N U K : Nat} (h : Most s N U K) (hs : Sorted s.fs) {k : List UInt8} : Most (removeS s k).2 (N + 1) U K :=
  most_change (d := 0) h ⟨by have := length_del s.fs k; have := h.count; omega, by have := used_del hs k; have := h.bytes; omega, fun p hp => h.keys p (mem_del hp)⟩ (most_self h)
theorem most_mono {s : St} {N U K N' U' : Nat} (h : Most s N U K) (hN : N ≤ N') (hU : U ≤ U') : Most s N' U' K := ⟨Nat.le_trans h.count hN, Nat.le_trans h.bytes hU, h.keys⟩
theorem mem_crash : ∀ {fs : Fs} {keep : List Int} {p : List UInt8 × F}, p ∈ crashF fs keep → ∃ q ∈ fs, q.1 = p.1
  | [], _, _, h => by simp [crashF] at h
  | q :: r, keep, p, h => by
    unfold crashF at h
    split at h
    · obtain ⟨y, hy, e⟩ := mem_crash h; exact ⟨y, by simp [hy], e⟩
    · rcases List.mem_cons.1 h with e | h
      · exact ⟨q, by simp, by rw [e]⟩
      · obtain ⟨y, hy, e⟩ := mem_crash h; exact ⟨y, by simp [hy], e⟩
theorem most_crash {s : St} {N U K : Nat} (h : Most s N U K) (keep : List Int) : Most (crashS s keep) N U K :=
  ⟨Nat.le_trans (crashF_len _ _) h.count, Nat.le_trans (crashF_used _ _) h.bytes, fun p hp => by obtain ⟨q, hq, e⟩ := mem_crash hp; rw [← e]; exact h.keys q hq⟩
theorem most_step {s : St} {N U K : Nat} (h : Most s N U K) (hs : Sorted s.fs) (x : ActV) (hk : x.name.size ≤ K) : Most (stepS s x) (N + 1) (U + x.b.size) K := by
  have hk' : (bs x.name).length ≤ K := by rw [bs_len]; exact hk
  have hb : (bs x.b).length = x.b.size := bs_len _
  unfold stepS
  split
  · rw [← hb]; exact most_append h hs hk'
  split
  · exact most_mono (most_sync h hs hk') (Nat.le_refl _) (by omega)
  split
  · exact most_mono (most_cut h hs hk') (Nat.le_refl _) (by omega)
  split
  · rw [← hb]; exact most_replace h hs hk'
  split
  · exact most_mono (most_remove h hs) (Nat.le_refl _) (by omega)
  split
  · exact most_mono h (by omega) (by omega)
  split
  · refine most_mono (s := breakS s x.n) ?_ (Nat.le_succ N) (Nat.le_add_right U _)
    unfold breakS; split
    · exact h
    · exact ⟨h.count, h.bytes, h.keys⟩
  split
  · exact most_mono (most_crash h _) (by omega) (by omega)
  · exact ⟨by simp [wipeS], by simp [wipeS, usedF], by simp [wipeS]⟩
end Go.Proofs.YtnffjoflkeagfaaGreat
namespace Go.Proofs.YtnffjoflkeagfaaGreat
open Go.RowKit Go.Maps

theorem bs_cat (a b : ByteArray) : bs (a ++ b) = bs a ++ bs b := by
  unfold bs
  simp [ByteArray.data_append]
theorem bs_cut (b : ByteArray) (n : Nat) : bs (b.extract 0 n) = (bs b).take n := by
  have h : (b.extract 0 n).data = b.data.extract 0 n := by simp [ByteArray.data_extract]
  unfold bs
  rw [h]
  simp
/-- a thing told by its blocks -/
structure Thing (Q : (Nat → Prop) → World → Prop) : Prop where
  mono : ∀ {S S' : Nat → Prop} {w : World}, Q S w → (∀ k, k < w.heap.size → S k → S' k) → Q S' w
  tight : ∀ {S : Nat → Prop} {w : World}, Q S w → Q (fun k => S k ∧ k < w.heap.size) w
  other : ∀ {S S' : Nat → Prop} {w w' : World}, Q S w → Kept S' w w' → (∀ k, k < w.heap.size → S k → ¬ S' k) → Q S w'
def DiskQ (db : Nat) (s : St) : (Nat → Prop) → World → Prop := fun S w => DiskAt S w db s
theorem DiskAt.tight {S : Nat → Prop} {w : World} {db : Nat} {s : St} (h : DiskAt S w db s) : DiskAt (fun k => S k ∧ k < w.heap.size) w db s := by
  obtain ⟨own, mv, wv, mo, h⟩ := h
  exact ⟨own, mv, wv, mo, fun k hk => ⟨h.mine k hk, (h.mine k hk).2⟩, h.disk, h.block, h.brk, h.map, h.fit⟩
theorem diskThing (db : Nat) (s : St) : Thing (DiskQ db s) := ⟨fun h hS => DiskAt.mono h hS, fun h => DiskAt.tight h, fun h hk hS => DiskAt.other h hk hS⟩
def Pair (Q1 Q2 : (Nat → Prop) → World → Prop) (S : Nat → Prop) (w : World) : Prop :=
  ∃ Sa Sb : Nat → Prop, Q1 Sa w ∧ Q2 Sb w ∧ (∀ k, Sa k → Sb k → False) ∧ (∀ k, Sa k → S k ∧ k < w.heap.size) ∧ (∀ k, Sb k → S k ∧ k < w.heap.size)
section
variable {Q1 Q2 Q1' Q2' : (Nat → Prop) → World → Prop} {S : Nat → Prop} {w w' : World}
theorem pairThing (t1 : Thing Q1) (t2 : Thing Q2) : Thing (Pair Q1 Q2) := by
  refine ⟨fun {S S' w} h hS => ?_, fun {S w} h => ?_, fun {S S' w w'} h hk hS => ?_⟩
  · obtain ⟨Sa, Sb, h1, h2, h3, h4, h5⟩ := h
    exact ⟨Sa, Sb, h1, h2, h3, fun k hk => ⟨hS k (h4 k hk).2 (h4 k hk).1, (h4 k hk).2⟩, fun k hk => ⟨hS k (h5 k hk).2 (h5 k hk).1, (h5 k hk).2⟩⟩
  · obtain ⟨Sa, Sb, h1, h2, h3, h4, h5⟩ := h
    exact ⟨Sa, Sb, h1, h2, h3, fun k hk => ⟨h4 k hk, (h4 k hk).2⟩, fun k hk => ⟨h5 k hk, (h5 k hk).2⟩⟩
  · obtain ⟨Sa, Sb, h1, h2, h3, h4, h5⟩ := h
    refine ⟨Sa, Sb, t1.other h1 hk (fun k hlt ha => hS k hlt (h4 k ha).1), t2.other h2 hk (fun k hlt hb => hS k hlt (h5 k hb).1), h3, fun k hk' => ⟨(h4 k hk').1, Nat.lt_of_lt_of_le (h4 k hk').2 hk.size⟩, fun k hk' => ⟨(h5 k hk').1, Nat.lt_of_lt_of_le (h5 k hk').2 hk.size⟩⟩
theorem Thing.below (t : Thing Q1) (h : Q1 S w) (hb : Below w.heap.size w w') : Q1 S w' :=
  t.other h (Kept.of_below (S := fun _ => False) hb) (fun _ _ _ h => h)
theorem Pair.fst (t1 : Thing Q1) (h : Pair Q1 Q2 S w) : Q1 S w := by
  obtain ⟨Sa, Sb, h1, h2, h3, h4, h5⟩ := h
  exact t1.mono h1 (fun k _ hk => (h4 k hk).1)
theorem Pair.snd (t2 : Thing Q2) (h : Pair Q1 Q2 S w) : Q2 S w := by
  obtain ⟨Sa, Sb, h1, h2, h3, h4, h5⟩ := h
  exact t2.mono h2 (fun k _ hk => (h5 k hk).1)
/-- a call that goes to the first -/
theorem Pair.step1 (t1 : Thing Q1) (t1' : Thing Q1') (t2 : Thing Q2) (h : Pair Q1 Q2 S w) (hS : ∀ k, w.heap.size ≤ k → S k) {P : Program} {f : FuncId} {args : Array Value} {X : Ending → World → Prop}
    (hc : ∀ T : Nat → Prop, (∀ k, w.heap.size ≤ k → T k) → (∀ k, T k → S k) → Q1 T w → Calls P f args w fun e w' => X e w' ∧ Q1' T w' ∧ Kept T w w') :
    Calls P f args w fun e w' => X e w' ∧ Pair Q1' Q2 S w' ∧ Kept S w w' := by
  obtain ⟨Sa, Sb, h1, h2, h3, h4, h5⟩ := h
  have hT : ∀ k, (Sa k ∨ w.heap.size ≤ k) → S k := fun k hk => hk.elim (fun h => (h4 k h).1) (hS k)
  refine (hc (fun k => Sa k ∨ w.heap.size ≤ k) (fun k hk => .inr hk) hT (t1.mono h1 (fun k _ hk => .inl hk))).mono ?_
  rintro e w' ⟨hx, hq, hk⟩
  refine ⟨hx, ⟨_, Sb, t1'.tight hq, t2.other h2 hk (fun k hlt hb ha => ha.elim (fun h => h3 k h hb) (fun h => by omega)), fun k ha hb => ha.1.elim (fun h => h3 k h hb) (fun h => by have := (h5 k hb).2; omega),
    fun k ha => ⟨hT k ha.1, ha.2⟩, fun k hb => ⟨(h5 k hb).1, Nat.lt_of_lt_of_le (h5 k hb).2 hk.size⟩⟩, hk.mono (fun k _ => hT k)⟩
theorem Pair.swap (h : Pair Q1 Q2 S w) : Pair Q2 Q1 S w := by
  obtain ⟨Sa, Sb, h1, h2, h3, h4, h5⟩ := h
  exact ⟨Sb, Sa, h2, h1, fun k a b => h3 k b a, h5, h4⟩
/-- .. to the second -/
theorem Pair.step2 (t1 : Thing Q1) (t2 : Thing Q2) (t2' : Thing Q2') (h : Pair Q1 Q2 S w) (hS : ∀ k, w.heap.size ≤ k → S k) {P : Program} {f : FuncId} {args : Array Value} {X : Ending → World → Prop}
    (hc : ∀ T : Nat → Prop, (∀ k, w.heap.size ≤ k → T k) → (∀ k, T k → S k) → Q2 T w → Calls P f args w fun e w' => X e w' ∧ Q2' T w' ∧ Kept T w w') :
    Calls P f args w fun e w' => X e w' ∧ Pair Q1 Q2' S w' ∧ Kept S w w' :=
  (Pair.step1 t2 t2' t1 h.swap hS hc).mono (fun _ _ hh => ⟨hh.1, hh.2.1.swap, hh.2.2⟩)
/-- a second thing beside a first -/
theorem Pair.of (t1 : Thing Q1) (t2 : Thing Q2) (h1 : Q1 S w) (hb : Below w.heap.size w w') (h2 : Q2 (fun k => w.heap.size ≤ k) w') (hS : ∀ k, w.heap.size ≤ k → S k) : Pair Q1 Q2 S w' := by
  refine ⟨fun k => S k ∧ k < w.heap.size, fun k => w.heap.size ≤ k ∧ k < w'.heap.size, t1.below (t1.tight h1) hb, t2.tight h2, fun k ha hb => by omega, fun k ha => ⟨ha.1, Nat.lt_of_lt_of_le ha.2 hb.size⟩, fun k hb => ⟨hS k hb.1, hb.2⟩⟩
end
end Go.Proofs.YtnffjoflkeagfaaGreat
namespace Go.Proofs.YtnffjoflkeagfaaGreat
open Go.RowKit Go.Maps

theorem kept_row {w : World} {B : Nat} {a : Option Addr} {n c : Nat} {fs : Fs} {j : Nat} {p : List UInt8 × F} (h : w.ownsRow B 65 3 (.slice a n c) n (keptL fs)) (hp : fs[j]? = some p) :
    (∃ g, a = some ⟨g, 0, none⟩ ∧ n ≤ c ∧ w.cell? ⟨g, j * 3, none⟩ = some (.string (mk p.1)) ∧ w.cell? ⟨g, j * 3 + 1, none⟩ = some (.string (mk p.2.b)) ∧ w.cell? ⟨g, j * 3 + 2, none⟩ = some (.int .i64 (p.2.s : Int))) := by
  have hcell : ∀ (i : Nat) (u : Value), i < 3 → (keptC p)[i]? = some u → (keptL fs)[j * 3 + i]? = some u := by
    intro i u hi hu
    have : ∀ (l : Fs) (m : Nat), l[m]? = some p → (keptL l)[m * 3 + i]? = some u := by
      intro l
      induction l with
      | nil => intro m hm; simp at hm
      | cons q r ih =>
        intro m hm
        have e : keptL (q :: r) = keptC q ++ keptL r := by simp [keptL]
        rw [e]
        cases m with
        | zero =>
          simp only [List.getElem?_cons_zero, Option.some.injEq] at hm
          subst hm
          rw [Nat.zero_mul, Nat.zero_add, List.getElem?_append_left (by simp [keptC]; omega)]
          exact hu
        | succ m =>
          rw [List.getElem?_append_right (by simp [keptC]; omega), show (m + 1) * 3 + i - (keptC q).length = m * 3 + i by simp [keptC]; omega]
          exact ih m (by simpa using hm)
    exact this fs j hp
  obtain ⟨g, cap, e, hcap, _, _, k0⟩ := row_cell h (hcell 0 (.string (mk p.1)) (by omega) rfl)
  obtain ⟨g1, cap1, e1, _, _, _, k1⟩ := row_cell h (hcell 1 (.string (mk p.2.b)) (by omega) rfl)
  obtain ⟨g2, cap2, e2, _, _, _, k2⟩ := row_cell h (hcell 2 (.int .i64 (p.2.s : Int)) (by omega) rfl)
  cases e
  cases e1
  cases e2
  exact ⟨_, rfl, hcap, k0, k1, k2⟩
set_option maxRecDepth 100000 in
set_option maxHeartbeats 4000000 in
theorem same_kept {w : World} {B1 B2 : Nat} {v1 v2 : Value} {fs : Fs} (h1 : w.ownsRow B1 65 3 v1 fs.length (keptL fs)) (h2 : w.ownsRow B2 65 3 v2 fs.length (keptL fs)) (hn : fs.length ≤ 1099511627776) :
    Calls Tryz.prog 10 #[v1, v2] w fun e w' => e = .returned (.bool true) ∧ Below w.heap.size w w' := by
  obtain ⟨a1, c1, rfl⟩ := row_slice h1
  obtain ⟨a2, c2, rfl⟩ := row_slice h2
  have H1 := Lib.hid h1
  have H2 := Lib.hid h2
  clear h1 h2
  go_enter Tryz.func10, Tryz.ntmps10
  go_wp2
  go_loopw [5] (fun i wr => ∃ k : Nat, k ≤ fs.length ∧ i = .int .i64 k ∧ Below w.heap.size w wr) (fun i _ => fs.length - (intOf i).toNat)
  case atStart => exact ⟨0, by omega, rfl, Below.refl _ _⟩
  case round =>
    obtain ⟨k, hk, rfl, hb⟩ := hrel
    have HB := Lib.hid hb
    clear hb
    by_cases hlt : k < fs.length
    · have hlti : (k : Int) < (fs.length : Int) := by omega
      obtain ⟨p, hp⟩ : ∃ p, fs[k]? = some p := ⟨fs[k], List.getElem?_eq_getElem hlt⟩
      obtain ⟨g, rfl, hcap1, x0, x1, x2⟩ := kept_row H1.out hp
      obtain ⟨g', rfl, hcap2, y0, y1, y2⟩ := kept_row H2.out hp
      have lg := World.block_lt_of_cell? w _ x0
      have lg' := World.block_lt_of_cell? w _ y0
      simp only at lg lg'
      have x0 := (HB.out.cell (p := ⟨g, k * 3, none⟩) lg).trans x0
      have x1 := (HB.out.cell (p := ⟨g, k * 3 + 1, none⟩) lg).trans x1
      have x2 := (HB.out.cell (p := ⟨g, k * 3 + 2, none⟩) lg).trans x2
      have y0 := (HB.out.cell (p := ⟨g', k * 3, none⟩) lg').trans y0
      have y1 := (HB.out.cell (p := ⟨g', k * 3 + 1, none⟩) lg').trans y1
      have y2 := (HB.out.cell (p := ⟨g', k * 3 + 2, none⟩) lg').trans y2
      clear hp
      generalize mk p.1 = n1 at *
      generalize mk p.2.b = n2 at *
      generalize p.2.s = n3 at *
      go_wp2
      go_quiet (fail)
      go_wp2
      go_roundw
      case rel => exact ⟨k + 1, by omega, by go_num, below_drewN HB.out _⟩
      case measure => simp [intOf]; omega
    · have hlti : ¬ (k : Int) < (fs.length : Int) := by omega
      go_wp2
      go_ret
      exact ⟨rfl, HB.out⟩
end Go.Proofs.YtnffjoflkeagfaaGreat
