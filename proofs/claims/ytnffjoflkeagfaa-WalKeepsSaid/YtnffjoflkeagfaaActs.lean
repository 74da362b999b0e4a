/- Acts on a disk: what they are, what heavy tells of them, what they make of a disk. -/
import Derived.Test.YtnffjoflkeagfaaWorks
namespace Go.Proofs.Ytnffjoflkeagfaa
open Go.RowKit Go.Maps

structure ActV where
  k : Nat
  name : ByteArray
  b : ByteArray
  n : Int
  kv : Value
  keep : List Int
/-- a slice value reads as these acts; nothing of it lies in S -/
def ActsOff (S : Nat → Prop) (w : World) (v : Value) (l : List ActV) : Prop :=
  ∃ a cap, v = .slice a l.length cap ∧ l.length ≤ cap ∧ (l = [] ∨ ∃ b off, a = some ⟨b, off, none⟩ ∧ b < w.heap.size ∧ ¬ S b ∧ ∀ i x, l[i]? = some x →
    w.cell? ⟨b, off + i * 5, none⟩ = some (.int .u8 (x.k : Int)) ∧ w.cell? ⟨b, off + i * 5 + 1, none⟩ = some (.string x.name) ∧ w.cell? ⟨b, off + i * 5 + 2, none⟩ = some (.string x.b) ∧
    w.cell? ⟨b, off + i * 5 + 3, none⟩ = some (.int .i64 x.n) ∧ w.cell? ⟨b, off + i * 5 + 4, none⟩ = some x.kv ∧ ListOff S w x.kv x.keep.length (x.keep.map (fun z => Value.int .i64 z)))
theorem ActsOff.kept {S : Nat → Prop} {w w' : World} {v : Value} {l : List ActV} (h : ActsOff S w v l) (hk : Kept S w w') : ActsOff S w' v l := by
  obtain ⟨a, cap, rfl, hcap, h2⟩ := h
  refine ⟨a, cap, rfl, hcap, ?_⟩
  rcases h2 with h2 | ⟨b, off, rfl, hlt, hn, hc⟩
  · exact .inl h2
  · have e := fun j => World.cell?_of_block (a := ⟨b, j, none⟩) (hk.block b hlt hn)
    refine .inr ⟨b, off, rfl, Nat.lt_of_lt_of_le hlt hk.size, hn, fun i x hx => ?_⟩
    obtain ⟨c0, c1, c2, c3, c4, c5⟩ := hc i x hx
    exact ⟨(e _).trans c0, (e _).trans c1, (e _).trans c2, (e _).trans c3, (e _).trans c4, c5.kept hk⟩
theorem ActsOff.slice {S : Nat → Prop} {w : World} {v : Value} {l : List ActV} (h : ActsOff S w v l) : ∃ a cap, v = .slice a l.length cap := by
  obtain ⟨a, cap, e, _⟩ := h; exact ⟨a, cap, e⟩
theorem act_get {S : Nat → Prop} {w : World} {a : Option Addr} {n c i : Nat} {l : List ActV} {x : ActV} (h : ActsOff S w (.slice a n c) l) (hx : l[i]? = some x) :
    ∃ b off ka kc, a = some ⟨b, off, none⟩ ∧ n = l.length ∧ n ≤ c ∧ i < n ∧ x.kv = .slice ka x.keep.length kc ∧
    w.cell? ⟨b, off + i * 5, none⟩ = some (.int .u8 (x.k : Int)) ∧ w.cell? ⟨b, off + i * 5 + 1, none⟩ = some (.string x.name) ∧ w.cell? ⟨b, off + i * 5 + 2, none⟩ = some (.string x.b) ∧
    w.cell? ⟨b, off + i * 5 + 3, none⟩ = some (.int .i64 x.n) ∧ w.cell? ⟨b, off + i * 5 + 4, none⟩ = some (.slice ka x.keep.length kc) ∧ ListOff S w (.slice ka x.keep.length kc) x.keep.length (x.keep.map (fun z => Value.int .i64 z)) := by
  obtain ⟨a', c', e, hc, h2⟩ := h
  cases e
  have hlt := (List.getElem?_eq_some_iff.1 hx).1
  rcases h2 with h2 | ⟨b, off, rfl, _, _, hcell⟩
  · subst h2; simp at hlt
  · obtain ⟨c0, c1, c2, c3, c4, c5⟩ := hcell i x hx
    obtain ⟨h5, ka, kc, e, h6⟩ := c5
    have e2 : x.keep.length = (x.keep.map (fun z => Value.int .i64 z)).length := by simp
    refine ⟨b, off, ka, kc, rfl, rfl, hc, hlt, e, c0, c1, c2, c3, by rw [c4, e], h5, ka, kc, rfl, h6⟩

/-- what heavy counts -/
def wA (x : ActV) : Nat := min x.b.size 8192 + min x.name.size 8192 + min x.keep.length 8192
def wsum (l : List ActV) : Nat := (l.map wA).sum
theorem wsum_snoc (l : List ActV) (x : ActV) : wsum (l ++ [x]) = wsum l + wA x := by simp [wsum]
theorem lt_sum {α : Type} (f : α → Nat) : ∀ l : List α, (l.map fun x => min (f x) 8192).sum < 8192 → (l.map f).sum = (l.map fun x => min (f x) 8192).sum
  | [], _ => rfl
  | x :: r, h => by
    simp only [List.map_cons, List.sum_cons] at h ⊢
    rw [lt_sum f r (by omega)]; omega
theorem le_sum {α : Type} (f : α → Nat) (M : Nat) (hM : 8192 ≤ M) : ∀ l : List α, (∀ x ∈ l, f x ≤ M) → (l.map fun x => min (f x) 8192).sum ≤ 8192 → (l.map f).sum ≤ M
  | [], _, _ => by simp
  | x :: r, hm, h => by
    simp only [List.map_cons, List.sum_cons] at h ⊢
    by_cases h0 : f x = 0
    · have := le_sum f M hM r (fun y hy => hm y (by simp [hy])) (by omega)
      omega
    · have := lt_sum f r (by omega)
      have := hm x (by simp)
      omega
def bytesT (l : List ActV) : Nat := (l.map fun x => x.b.size).sum
theorem bytesT_snoc (l : List ActV) (x : ActV) : bytesT (l ++ [x]) = bytesT l + x.b.size := by simp [bytesT]
theorem bytesT_le {l : List ActV} {M : Nat} (hM : 8192 ≤ M) (h : ∀ x ∈ l, x.b.size ≤ M) (hw : wsum l ≤ 8192) : bytesT l ≤ M := by
  refine le_sum (fun x : ActV => x.b.size) M hM l h (Nat.le_trans ?_ hw)
  unfold wsum
  clear h hw
  induction l with
  | nil => simp
  | cons x r ih => simp only [List.map_cons, List.sum_cons, wA]; omega
theorem bytesT_take (l : List ActV) (k : Nat) : bytesT (l.take k) ≤ bytesT l := by
  have h : bytesT (l.take k ++ l.drop k) = bytesT (l.take k) + bytesT (l.drop k) := by unfold bytesT; rw [List.map_append, List.sum_append_nat]
  rw [List.take_append_drop] at h
  omega
set_option maxRecDepth 100000 in
set_option maxHeartbeats 4000000 in
theorem heavy_any {S : Nat → Prop} {w : World} {v : Value} {l : List ActV} (h : ActsOff S w v l) (hl : l.length ≤ 9223372036854775807) (hk : ∀ x ∈ l, x.keep.length ≤ 9223372036854775807 ∧ x.name.size ≤ 9223372036854775807 ∧ x.b.size ≤ 9223372036854775807) :
    Calls Try.prog 9 #[v] w fun e w' => ∃ hv : Bool, e = .returned (.bool hv) ∧ (hv = false → l.length ≤ 401 ∧ wsum l ≤ 8192) ∧ Below w.heap.size w w' := by
  obtain ⟨a, c, rfl⟩ := h.slice
  have H := Lib.hid h
  have HKK := Lib.hid hk
  clear h hk
  go_enter Try.func9, Try.ntmps9
  go_wp2
  go_loopw [3, 4] (fun n i wr => ∃ k : Nat, k ≤ l.length ∧ k ≤ 401 ∧ i = .int .i64 k ∧ n = .int .i64 (wsum (l.take k) : Nat) ∧ wsum (l.take k) ≤ 8192 ∧ Below w.heap.size w wr) (fun n i _ => l.length - (intOf i).toNat)
  case atStart => exact ⟨0, by omega, by omega, rfl, rfl, by simp [wsum], Below.refl _ _⟩
  case round =>
    obtain ⟨k, hk1, hk2, rfl, rfl, hs, hb⟩ := hrel
    have HB := Lib.hid hb
    clear hb
    by_cases h1 : k < l.length
    · have h1i : (k : Int) < (l.length : Int) := by omega
      obtain ⟨x, hx⟩ : ∃ x, l[k]? = some x := ⟨l[k], List.getElem?_eq_getElem h1⟩
      obtain ⟨ba, off, ka, kc, rfl, _, hcap, _, _, c0, c1, c2, c3, c4, _⟩ := act_get (H.out.kept (Kept.of_below HB.out)) hx
      have HX : Hid (wsum (l.take (k + 1)) = wsum (l.take k) + wA x) := by show _ = _; rw [take_snocA _ _ _ hx, wsum_snoc]
      obtain ⟨hz1, hz2, hz3⟩ := HKK.out x (List.mem_of_getElem? hx)
      have m0 : min ((wsum (l.take k) : Nat) : Int) 8192 = ((wsum (l.take k) : Nat) : Int) := by omega
      obtain ⟨p1, hp1⟩ : ∃ p, p = min x.b.size 8192 := ⟨_, rfl⟩
      obtain ⟨p2, hp2⟩ : ∃ p, p = min x.name.size 8192 := ⟨_, rfl⟩
      obtain ⟨p3, hp3⟩ : ∃ p, p = min x.keep.length 8192 := ⟨_, rfl⟩
      have m1 : min ((x.b.size : Nat) : Int) 8192 = (p1 : Int) := by omega
      have m2 : min ((x.name.size : Nat) : Int) 8192 = (p2 : Int) := by omega
      have m3 : min ((x.keep.length : Nat) : Int) 8192 = (p3 : Int) := by omega
      have q1 : p1 ≤ 8192 := by omega
      have q2 : p2 ≤ 8192 := by omega
      have q3 : p3 ≤ 8192 := by omega
      have HW : Hid (wA x = p1 + p2 + p3) := by show _ = _; unfold wA; omega
      clear hx c0 c3 hp1 hp2 hp3
      generalize wsum (l.take k) = m at *
      have HBN := fun q => below_drewN HB.out q
      have HBN' := Lib.hid HBN
      clear HBN
      by_cases h2 : m + p1 + p2 + p3 ≤ 8192
      · have h2i : ¬ (8192 : Int) < (m : Int) + (p1 : Int) + (p2 : Int) + (p3 : Int) := by omega
        by_cases h3 : k ≤ 400
        · have h3i : ¬ (400 : Int) < (k : Int) := by omega
          go_wp2
          go_quiet (fail)
          go_wp2
          go_roundw
          case rel =>
            have e := HX.out
            have e2 := HW.out
            exact ⟨k + 1, by omega, by omega, by go_num, by rw [e, e2]; congr 1; omega, by rw [e, e2]; omega, HBN'.out _⟩
          case measure => simp [intOf]; omega
        · have h3i : (400 : Int) < (k : Int) := by omega
          go_wp2
          go_quiet (fail)
          go_wp2
          go_ret
          exact ⟨true, rfl, (fun h => by cases h), HBN'.out _⟩
      · have h2i : (8192 : Int) < (m : Int) + (p1 : Int) + (p2 : Int) + (p3 : Int) := by omega
        go_wp2
        go_quiet (fail)
        go_wp2
        go_ret
        exact ⟨true, rfl, (fun h => by cases h), HBN'.out _⟩
    · have h1i : ¬ (k : Int) < (l.length : Int) := by omega
      have he : k = l.length := by omega
      have HE : Hid (l.length ≤ 401 ∧ wsum l ≤ 8192) := ⟨by omega, by rw [he, List.take_of_length_le (Nat.le_refl _)] at hs; exact hs⟩
      clear he
      go_wp2
      go_ret
      first
        | exact ⟨false, rfl, (fun _ => HE.out), HB.out⟩
        | exact .inl ⟨rfl, HE.out, HB.out⟩

/-- what an act makes of a disk -/
def stepS (s : St) (x : ActV) : St :=
  if x.k % 9 = 0 then (appendS s (bs x.name) (bs x.b)).2 else if x.k % 9 = 1 then (syncS s (bs x.name)).2 else if x.k % 9 = 2 then (cutS s (bs x.name) x.n).2 else
  if x.k % 9 = 3 then (replaceS s (bs x.name) (bs x.b)).2 else if x.k % 9 = 4 then (removeS s (bs x.name)).2 else if x.k % 9 = 5 then s else
  if x.k % 9 = 6 then breakS s x.n else if x.k % 9 = 7 then crashS s x.keep else wipeS s
/-- no more files, bytes, longer names than these -/
structure Most (s : St) (N U K : Nat) : Prop where
  count : s.fs.length ≤ N
  bytes : usedF s.fs ≤ U
  keys : ∀ p ∈ s.fs, p.1.length ≤ K
theorem changeS_fs (s : St) (e : Int) (f1 f2 : Fs) : (changeS s e f1 f2).2.fs = s.fs ∨ (changeS s e f1 f2).2.fs = f1 ∨ (changeS s e f1 f2).2.fs = f2 := by
  unfold changeS
  split
  · exact .inl rfl
  · split
    · exact .inl rfl
    · split
      · split
        · exact .inr (.inr rfl)
        · exact .inr (.inl rfl)
      · exact .inr (.inl rfl)
theorem changeS_room (s : St) (e : Int) (f1 f2 : Fs) : (changeS s e f1 f2).2.room = s.room := by
  unfold changeS
  split
  · rfl
  · split
    · rfl
    · split
      · split <;> rfl
      · rfl
theorem most_put {fs : Fs} (hs : Sorted fs) {N U K : Nat} (hN : fs.length ≤ N) (hU : usedF fs ≤ U) (hK : ∀ p ∈ fs, p.1.length ≤ K) {k : List UInt8} {f : F} {d : Nat} (hk : k.length ≤ K) (hf : f.b.length ≤ (getF fs k).b.length + d) :
    (putF fs k f).length ≤ N + 1 ∧ usedF (putF fs k f) ≤ U + d ∧ ∀ p ∈ putF fs k f, p.1.length ≤ K := by
  refine ⟨by have := length_put fs k f; omega, by have := used_put hs k f; omega, fun p hp => ?_⟩
  rcases mem_put hp with rfl | hp
  · exact hk
  · exact hK p hp
theorem most_change {s : St} {N U K d : Nat} (h : Most s N U K) {e : Int} {f1 f2 : Fs} (h1 : f1.length ≤ N + 1 ∧ usedF f1 ≤ U + d ∧ ∀ p ∈ f1, p.1.length ≤ K) (h2 : f2.length ≤ N + 1 ∧ usedF f2 ≤ U + d ∧ ∀ p ∈ f2, p.1.length ≤ K) : Most (changeS s e f1 f2).2 (N + 1) (U + d) K := by
  rcases changeS_fs s e f1 f2 with hh | hh | hh
  · exact ⟨by rw [hh]; have := h.count; omega, by rw [hh]; have := h.bytes; omega, by rw [hh]; exact h.keys⟩
  · exact ⟨by rw [hh]; exact h1.1, by rw [hh]; exact h1.2.1, by rw [hh]; exact h1.2.2⟩
  · exact ⟨by rw [hh]; exact h2.1, by rw [hh]; exact h2.2.1, by rw [hh]; exact h2.2.2⟩
theorem most_append {s : St} {N U K : Nat} (h : Most s N U K) (hs : Sorted s.fs) {k b : List UInt8} (hk : k.length ≤ K) : Most (appendS s k b).2 (N + 1) (U + b.length) K := by
  have := most_put hs h.count h.bytes h.keys (f := grown (getF s.fs k) b) (d := b.length) hk (by simp only [grown, List.length_append]; omega)
  exact most_change h this this
theorem most_self {s : St} {N U K d : Nat} (h : Most s N U K) : s.fs.length ≤ N + 1 ∧ usedF s.fs ≤ U + d ∧ ∀ p ∈ s.fs, p.1.length ≤ K := ⟨by have := h.count; omega, by have := h.bytes; omega, h.keys⟩
theorem most_sync {s : St} {N U K : Nat} (h : Most s N U K) (hs : Sorted s.fs) {k : List UInt8} (hk : k.length ≤ K) : Most (syncS s k).2 (N + 1) U K :=
  most_change (d := 0) h (most_put hs h.count h.bytes h.keys (f := syncedF (getF s.fs k)) hk (by simp [syncedF])) (most_self h)
theorem most_cut {s : St} {N U K : Nat} (h : Most s N U K) (hs : Sorted s.fs) {k : List UInt8} {n : Int} (hk : k.length ≤ K) : Most (cutS s k n).2 (N + 1) U K :=
  most_change (d := 0) h (most_put hs h.count h.bytes h.keys (f := cutF (getF s.fs k) n.toNat) hk (by simp only [cutF, List.length_take]; omega)) (most_self h)
theorem most_replace {s : St} {N U K : Nat} (h : Most s N U K) (hs : Sorted s.fs) {k b : List UInt8} (hk : k.length ≤ K) : Most (replaceS s k b).2 (N + 1) (U + b.length) K :=
  most_change h (most_put hs h.count h.bytes h.keys (f := ⟨b, b.length, true⟩) hk (by simp only; omega)) (most_self h)
theorem most_remove {s : St} {N U K : Nat} (h : Most s N U K) (hs : Sorted s.fs) {k : List UInt8} : Most (removeS s k).2 (N + 1) U K :=
  most_change (d := 0) h ⟨by have := length_del s.fs k; have := h.count; omega, by have := used_del hs k; have := h.bytes; omega, fun p hp => h.keys p (mem_del hp)⟩ (most_self h)
theorem most_mono {s : St} {N U K N' U' : Nat} (h : Most s N U K) (hN : N ≤ N') (hU : U ≤ U') : Most s N' U' K := ⟨Nat.le_trans h.count hN, Nat.le_trans h.bytes hU, h.keys⟩
theorem mem_crash : ∀ {fs : Fs} {keep : List Int} {p : List UInt8 × F}, p ∈ crashF fs keep → ∃ q ∈ fs, q.1 = p.1
  | [], _, _, h => by simp [crashF] at h
  | q :: r, keep, p, h => by
    unfold crashF at h
    split at h
    · obtain ⟨y, hy, e⟩ := mem_crash h; exact ⟨y, by simp [hy], e⟩
    · rcases List.mem_cons.1 h with e | h
      · exact ⟨q, by simp, by rw [e]⟩
      · obtain ⟨y, hy, e⟩ := mem_crash h; exact ⟨y, by simp [hy], e⟩
theorem most_crash {s : St} {N U K : Nat} (h : Most s N U K) (keep : List Int) : Most (crashS s keep) N U K :=
  ⟨Nat.le_trans (crashF_len _ _) h.count, Nat.le_trans (crashF_used _ _) h.bytes, fun p hp => by obtain ⟨q, hq, e⟩ := mem_crash hp; rw [← e]; exact h.keys q hq⟩
theorem most_step {s : St} {N U K : Nat} (h : Most s N U K) (hs : Sorted s.fs) (x : ActV) (hk : x.name.size ≤ K) : Most (stepS s x) (N + 1) (U + x.b.size) K := by
  have hk' : (bs x.name).length ≤ K := by rw [bs_len]; exact hk
  have hb : (bs x.b).length = x.b.size := bs_len _
  unfold stepS
  split
  · rw [← hb]; exact most_append h hs hk'
  split
  · exact most_mono (most_sync h hs hk') (Nat.le_refl _) (by omega)
  split
  · exact most_mono (most_cut h hs hk') (Nat.le_refl _) (by omega)
  split
  · rw [← hb]; exact most_replace h hs hk'
  split
  · exact most_mono (most_remove h hs) (Nat.le_refl _) (by omega)
  split
  · exact most_mono h (by omega) (by omega)
  split
  · refine most_mono (s := breakS s x.n) ?_ (Nat.le_succ N) (Nat.le_add_right U _)
    unfold breakS; split
    · exact h
    · exact ⟨h.count, h.bytes, h.keys⟩
  split
  · exact most_mono (most_crash h _) (by omega) (by omega)
  · exact ⟨by simp [wipeS], by simp [wipeS, usedF], by simp [wipeS]⟩
end Go.Proofs.Ytnffjoflkeagfaa
