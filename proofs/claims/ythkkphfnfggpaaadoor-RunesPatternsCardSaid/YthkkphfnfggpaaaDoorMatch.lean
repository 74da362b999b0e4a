/- Pattern and Match of the code. -/
import Derived.Test.YthkkphfnfggpaaaDoorMatches
namespace Go.Proofs.YthkkphfnfggpaaaDoor
open Go.RowKit

theorem classGo_len {L : List Int} : ∀ {f k : Nat} {acc s : List (Int × Int)} {k' : Nat}, acc.length ≤ k → classGo L f k acc = some (s, k') → s.length ≤ L.length
  | 0, _, _, _, _, _, h => by cases h
  | f + 1, k, acc, s, k', ha, h => by
    simp only [classGo] at h
    split at h
    · split at h
      · split at h
        · cases h
        · simp at h; obtain ⟨rfl, _⟩ := h; omega
      · split at h
        · cases h
        · rename_i p k1 h1
          have := item_lt h1
          exact classGo_len (by simp; omega) h
    · cases h
theorem classF_len {L : List Int} {k : Nat} {p : Prt} {k' : Nat} (h : classF L k = some (p, k')) : p.spans.length ≤ L.length := by
  unfold classF at h
  split at h
  · cases h
  · rename_i s k1 h1
    simp at h
    obtain ⟨rfl, _⟩ := h
    exact classGo_len (Nat.zero_le _) h1
theorem parse_bd {L : List Int} : ∀ {f k : Nat} {acc ps : List Prt}, acc.length ≤ k → k ≤ L.length → (∀ p ∈ acc, p.spans.length ≤ L.length + 1) → parseGo L f k acc = .inl ps → ps.length ≤ L.length ∧ ∀ p ∈ ps, p.spans.length ≤ L.length + 1
  | 0, k, acc, ps, h1, h2, h3, h => by simp [parseGo] at h; subst h; exact ⟨by omega, h3⟩
  | f + 1, k, acc, ps, h1, h2, h3, h => by
    have snoc : ∀ (p : Prt), p.spans.length ≤ L.length + 1 → ∀ q ∈ acc ++ [p], q.spans.length ≤ L.length + 1 := by
      intro p hp q hq
      rcases List.mem_append.1 hq with hq | hq
      · exact h3 q hq
      · simp at hq; subst hq; exact hp
    simp only [parseGo] at h
    split at h
    · rename_i hk
      split at h
      · exact parse_bd (by simp; omega) (by omega) (snoc _ (by simp [starP])) h
      · split at h
        · exact parse_bd (by simp; omega) (by omega) (snoc _ (by simp [anyP])) h
        · split at h
          · split at h
            · cases h
            · rename_i p k1 h4
              have := classF_lt h4
              have := classF_len h4
              exact parse_bd (by simp; omega) (by omega) (snoc _ (by omega)) h
          · split at h
            · split at h
              · exact parse_bd (by simp; omega) (by omega) (snoc _ (by simp [oneP])) h
              · cases h
            · exact parse_bd (by simp; omega) (by omega) (snoc _ (by simp [oneP])) h
    · simp at h; subst h; exact ⟨by omega, h3⟩
/-- what is wrong with a pattern, and where -/
def patE (s : ByteArray) : Int := match parseF s with | .inl _ => 0 | .inr _ => 12
def patK (s : ByteArray) : Int := match parseF s with | .inl _ => 0 | .inr k => (((plc s).getD k 0 : Nat) : Int)
def matchB (p s : ByteArray) : Bool := match parseF p with | .inl ps => mtB ps (pts s) | .inr _ => false

set_option maxHeartbeats 2000000 in
theorem pattern_any (s : ByteArray) (w : World) (hs : s.size ≤ 1099511627000) :
    Calls Tryd.prog 26 #[.string s] w fun e w' => e = .returned (.tuple #[.int .i64 (patE s), .int .i64 (patK s)]) ∧ Below w.heap.size w w' := by
  cases hp : parseF s with
  | inl ps =>
    have HE : Hid (patE s = 0) := by show _ = _; unfold patE; rw [hp]
    have HK : Hid (patK s = 0) := by show _ = _; unfold patK; rw [hp]
    have HP := Lib.hid hp
    clear hp
    go_enter Tryd.func26, Tryd.ntmps26
    go_wp2_with fail
    refine (parse_any s _ (by omega)).mono ?_
    rw [HP.out]
    rintro e w1 ⟨v, svs, rfl, _, hb⟩
    go_wp2
    go_ret2
    exact ⟨by rw [HE.out, HK.out]; rfl, hb⟩
  | inr k =>
    have HE : Hid (patE s = 12) := by show _ = _; unfold patE; rw [hp]
    have HK : Hid (patK s = (((plc s).getD k 0 : Nat) : Int)) := by show _ = _; unfold patK; rw [hp]
    have HP := Lib.hid hp
    clear hp
    go_enter Tryd.func26, Tryd.ntmps26
    go_wp2_with fail
    refine (parse_any s _ (by omega)).mono ?_
    rw [HP.out]
    rintro e w1 ⟨rfl, hb⟩
    generalize (((plc s).getD k 0 : Nat) : Int) = pk at *
    go_wp2
    go_ret2
    exact ⟨by rw [HE.out, HK.out]; rfl, hb⟩

set_option maxHeartbeats 4000000 in
theorem match_any (p s : ByteArray) (w : World) (hp : p.size ≤ 1099511627000) (hs : s.size ≤ 1099511627000) :
    Calls Tryd.prog 28 #[.string p, .string s] w fun e w' => e = .returned (.bool (matchB p s)) ∧ Below w.heap.size w w' := by
  have hlp := pts_len p
  have hls := pts_len s
  cases hq : parseF p with
  | inl ps =>
    have hbd := parse_bd (acc := []) (Nat.le_refl _) (Nat.zero_le _) (by intro p h; simp at h) (show parseGo (pts p) ((pts p).length + 1) 0 [] = .inl ps from hq)
    have HE : Hid (matchB p s = mtB ps (pts s)) := by show _ = _; unfold matchB; rw [hq]
    have HP := Lib.hid hq
    have HBD := Lib.hid hbd
    clear hq hbd
    go_enter Tryd.func28, Tryd.ntmps28
    go_wp2_with fail
    refine (parse_any p _ (by omega)).mono ?_
    rw [HP.out]
    rintro e w1 ⟨v, svs, rfl, hpa, hb⟩
    have HPA := Lib.hid hpa
    clear hpa
    go_wp2_with fail
    refine (points_any s _ (by omega)).mono ?_
    rintro e w2 ⟨u, rfl, hu, hb2⟩
    have HU := Lib.hid (ListAt.of_own hu)
    have HPB := Lib.hid (HPA.out.below hb2)
    have hb3 := bt hb hb2
    clear hu hb hb2
    go_wp2_with fail
    refine (matches_any _ v u ps svs (pts s) _ HPB.out HU.out (by have := HBD.out.1; omega) (by omega) (fun q hq => by have := HBD.out.2 q hq; omega)).mono ?_
    rintro e w4 ⟨rfl, hb4⟩
    have hb5 := bt hb3 hb4
    clear hb3 hb4
    go_wp2
    go_ret
    exact ⟨ret_bool (by rw [HE.out]), hb5⟩
  | inr k =>
    have HE : Hid (matchB p s = false) := by show _ = _; unfold matchB; rw [hq]
    have HP := Lib.hid hq
    clear hq
    go_enter Tryd.func28, Tryd.ntmps28
    go_wp2_with fail
    refine (parse_any p _ (by omega)).mono ?_
    rw [HP.out]
    rintro e w1 ⟨rfl, hb⟩
    generalize (((plc p).getD k 0 : Nat) : Int) = pk at *
    go_wp2
    go_ret
    exact ⟨ret_bool HE.out.symm, hb⟩
end Go.Proofs.YthkkphfnfggpaaaDoor
