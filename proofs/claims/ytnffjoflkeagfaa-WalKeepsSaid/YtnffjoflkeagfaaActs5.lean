/- Acts on a journal: what they are, what heavy tells of them. -/
import Derived.Test.YtnffjoflkeagfaaWalA
namespace Go.Proofs.Ytnffjoflkeagfaa
open Go.RowKit Go.Maps

structure Act5 where
  k : Nat
  lv : Value
  l : Recs
  n : Int
  kv : Value
  keep : List Int
  b : ByteArray
def Acts5Off (S : Nat → Prop) (w : World) (v : Value) (l : List Act5) : Prop :=
  ∃ a cap, v = .slice a l.length cap ∧ l.length ≤ cap ∧ (l = [] ∨ ∃ b off, a = some ⟨b, off, none⟩ ∧ b < w.heap.size ∧ ¬ S b ∧ ∀ i x, l[i]? = some x →
    w.cell? ⟨b, off + i * 5, none⟩ = some (.int .u8 (x.k : Int)) ∧ w.cell? ⟨b, off + i * 5 + 1, none⟩ = some x.lv ∧ w.cell? ⟨b, off + i * 5 + 2, none⟩ = some (.int .i64 x.n) ∧
    w.cell? ⟨b, off + i * 5 + 3, none⟩ = some x.kv ∧ w.cell? ⟨b, off + i * 5 + 4, none⟩ = some (.string x.b) ∧ TxtOff S w x.lv x.l ∧ ListOff S w x.kv x.keep.length (x.keep.map (fun z => Value.int .i64 z)))
theorem Acts5Off.kept {S : Nat → Prop} {w w' : World} {v : Value} {l : List Act5} (h : Acts5Off S w v l) (hk : Kept S w w') : Acts5Off S w' v l := by
  obtain ⟨a, cap, rfl, hcap, h2⟩ := h
  refine ⟨a, cap, rfl, hcap, ?_⟩
  rcases h2 with h2 | ⟨b, off, rfl, hlt, hn, hc⟩
  · exact .inl h2
  · have e := fun j => World.cell?_of_block (a := ⟨b, j, none⟩) (hk.block b hlt hn)
    refine .inr ⟨b, off, rfl, Nat.lt_of_lt_of_le hlt hk.size, hn, fun i x hx => ?_⟩
    obtain ⟨c0, c1, c2, c3, c4, c5, c6⟩ := hc i x hx
    exact ⟨(e _).trans c0, (e _).trans c1, (e _).trans c2, (e _).trans c3, (e _).trans c4, c5.kept hk, c6.kept hk⟩
theorem Acts5Off.slice {S : Nat → Prop} {w : World} {v : Value} {l : List Act5} (h : Acts5Off S w v l) : ∃ a cap, v = .slice a l.length cap := by
  obtain ⟨a, cap, e, _⟩ := h; exact ⟨a, cap, e⟩
theorem act5_get {S : Nat → Prop} {w : World} {a : Option Addr} {n c i : Nat} {l : List Act5} {x : Act5} (h : Acts5Off S w (.slice a n c) l) (hx : l[i]? = some x) :
    ∃ b off la lc ka kc, a = some ⟨b, off, none⟩ ∧ n = l.length ∧ n ≤ c ∧ i < n ∧ x.lv = .slice la x.l.length lc ∧ x.kv = .slice ka x.keep.length kc ∧
    w.cell? ⟨b, off + i * 5, none⟩ = some (.int .u8 (x.k : Int)) ∧ w.cell? ⟨b, off + i * 5 + 1, none⟩ = some (.slice la x.l.length lc) ∧ w.cell? ⟨b, off + i * 5 + 2, none⟩ = some (.int .i64 x.n) ∧
    w.cell? ⟨b, off + i * 5 + 3, none⟩ = some (.slice ka x.keep.length kc) ∧ w.cell? ⟨b, off + i * 5 + 4, none⟩ = some (.string x.b) ∧ TxtOff S w (.slice la x.l.length lc) x.l ∧ ListOff S w (.slice ka x.keep.length kc) x.keep.length (x.keep.map (fun z => Value.int .i64 z)) ∧ x.l.length ≤ lc := by
  obtain ⟨a', c', e, hc, h2⟩ := h
  cases e
  have hlt := (List.getElem?_eq_some_iff.1 hx).1
  rcases h2 with h2 | ⟨b, off, rfl, _, _, hcell⟩
  · subst h2; simp at hlt
  · obtain ⟨c0, c1, c2, c3, c4, c5, c6⟩ := hcell i x hx
    obtain ⟨la, lc, hlv⟩ := c5.slice
    obtain ⟨_, ka, kc, hkv, _⟩ := id c6
    have hlc : x.l.length ≤ lc := by
      obtain ⟨⟨_, a', c', e, h5, _⟩, _⟩ := c5
      rw [hlv] at e; cases e; exact h5
    exact ⟨b, off, la, lc, ka, kc, rfl, rfl, hc, hlt, hlv, hkv, c0, by rw [c1, hlv], c2, by rw [c3, hkv], c4, by rw [← hlv]; exact c5, by rw [← hkv]; exact c6, hlc⟩
/-- what heavy counts -/
def w5 (x : Act5) : Nat := min x.b.size 4096 + (Fr.joinB x.l).length
def wsum5 (l : List Act5) : Nat := (l.map w5).sum
theorem wsum5_snoc (l : List Act5) (x : Act5) : wsum5 (l ++ [x]) = wsum5 l + w5 x := by simp [wsum5]
theorem wsum5_take (l : List Act5) (k : Nat) : wsum5 (l.take k) ≤ wsum5 l := by
  have h : wsum5 (l.take k ++ l.drop k) = wsum5 (l.take k) + wsum5 (l.drop k) := by unfold wsum5; rw [List.map_append, List.sum_append_nat]
  rw [List.take_append_drop] at h
  omega
theorem w5_le {l : List Act5} {x : Act5} (hx : x ∈ l) : w5 x ≤ wsum5 l := by
  unfold wsum5
  induction l with
  | nil => cases hx
  | cons y r ih =>
    rcases List.mem_cons.1 hx with rfl | hx
    · simp
    · have := ih hx; simp only [List.map_cons, List.sum_cons]; omega
set_option maxRecDepth 100000 in
set_option maxHeartbeats 8000000 in
theorem heavy5_any {S : Nat → Prop} {w : World} {v : Value} {l : List Act5} (h : Acts5Off S w v l) (hl : l.length ≤ 9223372036854775807) (hk : ∀ x ∈ l, x.keep.length ≤ 140737488355328 ∧ x.l.length ≤ 9223372036854775807 ∧ x.b.size ≤ 9223372036854775807 ∧ ∀ c ∈ x.l, c.size ≤ 9223372036854775807) :
    Calls Try.prog 24 #[v] w fun e w' => ∃ hv : Bool, e = .returned (.bool hv) ∧ (hv = false → l.length ≤ 201 ∧ wsum5 l ≤ 4096 ∧ ∀ x ∈ l, x.l.length ≤ 100 ∧ x.keep.length ≤ 100) ∧ Below w.heap.size w w' := by
  obtain ⟨a, c, rfl⟩ := h.slice
  have H := Lib.hid h
  have HKK := Lib.hid hk
  clear h hk
  go_enter Try.func24, Try.ntmps24
  go_wp2
  go_loopw [3, 4] (fun n i wr => ∃ k N : Nat, k ≤ l.length ∧ k ≤ 201 ∧ i = .int .i64 k ∧ n = .int .i64 N ∧ wsum5 (l.take k) ≤ N ∧ N ≤ 4096 ∧ Hid (∀ x ∈ l.take k, x.l.length ≤ 100 ∧ x.keep.length ≤ 100) ∧ wr = w) (fun n i _ => l.length - (intOf i).toNat)
  case atStart => exact ⟨0, 0, by omega, by omega, rfl, rfl, by simp [wsum5], by omega, fun x hx => by simp at hx, rfl⟩
  case round =>
    obtain ⟨k, N, hk1, hk2, rfl, rfl, hs, hN, hall, hww⟩ := hrel
    subst hww
    by_cases h1 : k < l.length
    · have h1i : (k : Int) < (l.length : Int) := by omega
      obtain ⟨x, hx⟩ : ∃ x, l[k]? = some x := ⟨l[k], List.getElem?_eq_getElem h1⟩
      obtain ⟨ba, off, la, lc, ka, kc, rfl, _, hcap, _, _, _, c0, c1, c2, c3, c4, htx, _, hlc⟩ := act5_get H.out hx
      have HX : Hid (wsum5 (l.take (k + 1)) = wsum5 (l.take k) + w5 x) := by show _ = _; rw [take_snocA _ _ _ hx, wsum5_snoc]
      obtain ⟨hz1, hz2, hz3, hz4⟩ := HKK.out x (List.mem_of_getElem? hx)
      have HZ4 := Lib.hid hz4
      have HTX := Lib.hid htx
      have HXX := Lib.hid hx
      clear hx c0 c2 htx hz4
      by_cases hA : x.l.length ≤ 100
      · have hAi : ¬ (100 : Int) < (x.l.length : Int) := by omega
        by_cases hB : x.keep.length ≤ 100
        · have hBi : ¬ (100 : Int) < (x.keep.length : Int) := by omega
          by_cases hC : k ≤ 200
          · have hCi : ¬ (200 : Int) < (k : Int) := by omega
            obtain ⟨p1, hp1⟩ : ∃ p, p = min x.b.size 4096 := ⟨_, rfl⟩
            have m1 : min ((x.b.size : Nat) : Int) 4096 = (p1 : Int) := by omega
            have m0 : min ((N : Nat) : Int) 4096 = ((N : Nat) : Int) := by omega
            have q1 : p1 ≤ 4096 := by omega
            have HW5 : Hid (w5 x = p1 + (Fr.joinB x.l).length) := by show _ = _; unfold w5; omega
            have HALL : Hid (∀ y ∈ l.take (k + 1), y.l.length ≤ 100 ∧ y.keep.length ≤ 100) := fun y hy => by
              rw [take_snocA _ _ _ HXX.out] at hy
              rcases List.mem_append.1 hy with hy | hy
              · exact hall y hy
              · rw [List.mem_singleton.1 hy]; exact ⟨hA, hB⟩
            have HP1 := Lib.hid hp1
            clear hp1 hall
            obtain ⟨wo, hwo⟩ : ∃ wo : World, wo = wr := ⟨_, rfl⟩
            subst hwo
            go_wp2
            go_loopw [3, 5] (fun n i wz => ∃ j M : Nat, j ≤ x.l.length ∧ i = .int .i64 j ∧ n = .int .i64 M ∧ M ≤ 8208 ∧ Hid (wsum5 (l.take k) + p1 + (Fr.joinB (x.l.take j)).length ≤ M ∨ 4096 < M) ∧ wz = wo) (fun n i _ => x.l.length - (intOf i).toNat)
            case atStart => exact ⟨0, N + p1, by omega, rfl, by first | rfl | (congr 1), by omega, .inl (by simp [Fr.joinB, Fr.joinL]; omega), rfl⟩
            case round =>
              obtain ⟨j, M, hj, rfl, rfl, hM, hT, hwz⟩ := hrel
              subst hwz
              by_cases hj1 : j < x.l.length
              · have hj1i : (j : Int) < (x.l.length : Int) := by omega
                obtain ⟨y, hy⟩ : ∃ y, x.l[j]? = some y := ⟨x.l[j], List.getElem?_eq_getElem hj1⟩
                obtain ⟨yb, yoff, rfl, _, _, _, d0⟩ := txt_cell HTX.out.1 hy
                have hys := HZ4.out y (List.mem_of_getElem? hy)
                have HST := Lib.hid (Fr.joinB_step x.l j y hy)
                obtain ⟨p2, hp2⟩ : ∃ p, p = min y.size 4096 := ⟨_, rfl⟩
                obtain ⟨p3, hp3⟩ : ∃ p, p = min M 4096 := ⟨_, rfl⟩
                have m2 : min ((y.size : Nat) : Int) 4096 = (p2 : Int) := by omega
                have m3 : min ((M : Nat) : Int) 4096 = (p3 : Int) := by omega
                have q2 : p2 ≤ 4096 := by omega
                have q3 : p3 ≤ 4096 := by omega
                have HP2 := Lib.hid (And.intro hp2 hp3)
                clear hy hp2 hp3
                go_wp2_with fail
                try (go_quiet (fail))
                go_wp2
                go_roundw
                case rel =>
                  refine ⟨j + 1, p3 + p2 + 8, by omega, by go_num, by first | rfl | (push_cast; rfl), by omega, ?_, by first | rfl | trivial⟩
                  show _ ∨ _
                  obtain ⟨h2, h3⟩ := HP2.out
                  rw [HST.out]
                  rcases (show _ ∨ _ from hT) with hT | hT
                  · omega
                  · omega
                case measure => simp [intOf]; omega
              · have hj1i : ¬ (j : Int) < (x.l.length : Int) := by omega
                have hje : x.l.take j = x.l := List.take_of_length_le (by omega)
                rw [hje] at hT
                clear hje
                by_cases hM2 : 4096 < M
                · have hM2i : (4096 : Int) < (M : Int) := by omega
                  clear hT
                  go_wp2
                  go_ret
                  exact .inr ⟨rfl, Below.refl _ _⟩
                · have hM2i : ¬ (4096 : Int) < (M : Int) := by omega
                  have HT2 : Hid (wsum5 (l.take (k + 1)) ≤ M) := by
                    show _ ≤ _
                    rw [HX.out, HW5.out]
                    rcases (show _ ∨ _ from hT) with hT | hT <;> omega
                  clear hT
                  go_wp2
                  go_roundw
                  case rel => exact ⟨k + 1, M, by omega, by omega, by go_num, rfl, HT2.out, by omega, HALL.out, by first | rfl | trivial⟩
                  case measure => simp [intOf]; omega
          · have hCi : (200 : Int) < (k : Int) := by omega
            go_wp2
            go_ret
            exact .inr ⟨rfl, Below.refl _ _⟩
        · have hBi : (100 : Int) < (x.keep.length : Int) := by omega
          go_wp2
          go_ret
          exact .inr ⟨rfl, Below.refl _ _⟩
      · have hAi : (100 : Int) < (x.l.length : Int) := by omega
        go_wp2
        go_ret
        exact .inr ⟨rfl, Below.refl _ _⟩
    · have h1i : ¬ (k : Int) < (l.length : Int) := by omega
      have he : l.take k = l := List.take_of_length_le (by omega)
      have HE : Hid (l.length ≤ 201 ∧ wsum5 l ≤ 4096 ∧ ∀ x ∈ l, x.l.length ≤ 100 ∧ x.keep.length ≤ 100) := ⟨by omega, by rw [he] at hs; omega, by rw [he] at hall; exact hall⟩
      clear he hall
      go_wp2
      go_ret
      exact .inl ⟨rfl, HE.out, Below.refl _ _⟩
end Go.Proofs.Ytnffjoflkeagfaa
