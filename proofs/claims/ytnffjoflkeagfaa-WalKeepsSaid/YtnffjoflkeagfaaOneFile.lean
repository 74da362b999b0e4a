/- A disk with the journal's file alone: what is written, opened, lost. Plain. -/
import Derived.Test.YtnffjoflkeagfaaWorks5
namespace Go.Proofs.Ytnffjoflkeagfaa
open Go.RowKit Go.Maps

/-- the disk has one file at most, the journal's: its bytes, how many are synced -/
def Con (s : St) (b : List UInt8) (sy : Nat) : Prop := (s.fs = [] ∧ b = [] ∧ sy = 0) ∨ ∃ u, s.fs = [(kJ, ⟨b, sy, u⟩)]
theorem Con.used {s : St} {b : List UInt8} {sy : Nat} (h : Con s b sy) : usedF s.fs = b.length := by
  rcases h with ⟨h, rfl, _⟩ | ⟨u, h⟩ <;> rw [h] <;> simp [usedF]
theorem Con.count {s : St} {b : List UInt8} {sy : Nat} (h : Con s b sy) : s.fs.length ≤ 1 := by
  rcases h with ⟨h, _⟩ | ⟨u, h⟩ <;> rw [h] <;> simp
theorem Con.get {s : St} {b : List UInt8} {sy : Nat} (h : Con s b sy) : ∃ u, getF s.fs kJ = ⟨b, sy, u⟩ := by
  rcases h with ⟨h, rfl, rfl⟩ | ⟨u, h⟩
  · exact ⟨false, by rw [h]; rfl⟩
  · exact ⟨u, by rw [h]; simp [getF, look]⟩
theorem Con.put {s : St} {b : List UInt8} {sy : Nat} (h : Con s b sy) (f : F) : putF s.fs kJ f = [(kJ, f)] := by
  rcases h with ⟨h, _⟩ | ⟨u, h⟩
  · rw [h]; rfl
  · rw [h]; simp [putF]
theorem Con.there {s : St} {b : List UInt8} {sy : Nat} (h : Con s b sy) (hb : b ≠ []) : (look s.fs kJ).isSome = true := by
  rcases h with ⟨_, h, _⟩ | ⟨u, h⟩
  · exact absurd h hb
  · rw [h]; simp [look]
theorem brk_fs (s : St) : (brkS s).fs = s.fs := by unfold brkS; split; split <;> rfl; rfl
theorem brk_rm (s : St) : (brkS s).room = s.room := by unfold brkS; split; split <;> rfl; rfl
theorem brk_true {s : St} (h : brkB s = true) : (brkS s).down = true ∧ s.waits = true := by
  unfold brkB at h
  simp only [Bool.and_eq_true, beq_iff_eq] at h
  unfold brkS
  rw [if_pos h.1, if_pos h.2]
  exact ⟨rfl, h.1⟩
theorem brk_false {s : St} (h : brkB s = false) (hd : s.down = false) : (brkS s).down = false ∧ (s.waits = false → (brkS s).waits = false) := by
  unfold brkB at h
  unfold brkS
  by_cases hw : s.waits = true
  · rw [if_pos hw]
    rw [hw] at h
    have : ¬ s.more = 0 := by simpa using h
    rw [if_neg this]
    exact ⟨hd, fun e => by rw [hw] at e; cases e⟩
  · rw [if_neg hw]; exact ⟨hd, fun e => e⟩
theorem write_down {s : St} (hd : s.down = true) (k : List UInt8) (L l : Recs) : writeS s k L l = (41, L, s) := by
  unfold writeS appendS
  rw [changeS_down hd]
  rfl
theorem other_down {s : St} (hd : s.down = true) (k : List UInt8) (L l : Recs) : otherS s k L l = (41, L, s) := by
  unfold otherS replaceS
  rw [changeS_down hd]
  rfl
theorem write_cases {s : St} {b : List UInt8} {sy : Nat} (h : Con s b sy) (hd : s.down = false) (L l : Recs) :
    (s.room < b.length + (Fr.joinB l).length ∧ writeS s kJ L l = (40, L, s)) ∨
    (b.length + (Fr.joinB l).length ≤ s.room ∧ ∃ s', writeS s kJ L l = (41, L, s') ∧ s.waits = true ∧ s'.down = true ∧ ∃ u, s'.fs = [(kJ, ⟨b ++ Fr.joinB l, sy, u⟩)]) ∨
    (b.length + (Fr.joinB l).length ≤ s.room ∧ ∃ s', writeS s kJ L l = (0, L ++ l, s') ∧ s'.down = false ∧ (s.waits = false → s'.waits = false) ∧ s'.room = s.room ∧ s'.fs = [(kJ, ⟨b ++ Fr.joinB l, (b ++ Fr.joinB l).length, true⟩)]) := by
  by_cases hf : s.room < b.length + (Fr.joinB l).length
  · left
    refine ⟨hf, ?_⟩
    have ha : appendS s kJ (Fr.joinB l) = (40, s) := by
      unfold appendS
      rw [h.used, if_pos (show b.length + (Fr.joinB l).length > s.room by omega)]
      exact changeS_err hd (by decide) _ _
    unfold writeS
    rw [ha]; rfl
  · right
    obtain ⟨u, hg⟩ := h.get
    have ha : appendS s kJ (Fr.joinB l) = changeS s 0 [(kJ, ⟨b ++ Fr.joinB l, sy, u⟩)] [(kJ, ⟨b ++ Fr.joinB l, sy, u⟩)] := by
      unfold appendS
      rw [h.used, if_neg (show ¬ b.length + (Fr.joinB l).length > s.room by omega), h.put, hg]; rfl
    obtain ⟨s1, hs1⟩ : ∃ s1 : St, s1 = { brkS s with fs := [(kJ, ⟨b ++ Fr.joinB l, sy, u⟩)] } := ⟨_, rfl⟩
    have f1 : s1.fs = [(kJ, ⟨b ++ Fr.joinB l, sy, u⟩)] := by rw [hs1]
    have r1 : s1.room = s.room := by rw [hs1]; exact brk_rm s
    cases hb : brkB s with
    | true =>
      left
      obtain ⟨h1, h2⟩ := brk_true hb
      rw [changeS_torn hd rfl hb, ← hs1] at ha
      refine ⟨by omega, s1, ?_, h2, by rw [hs1]; exact h1, u, f1⟩
      unfold writeS
      rw [ha]; rfl
    | false =>
      obtain ⟨h1, h2⟩ := brk_false hb hd
      rw [changeS_whole hd rfl hb, ← hs1] at ha
      have d1 : s1.down = false := by rw [hs1]; exact h1
      have w1 : s.waits = false → s1.waits = false := fun e => by rw [hs1]; exact h2 e
      have hs2 : syncS s1 kJ = changeS s1 0 [(kJ, ⟨b ++ Fr.joinB l, (b ++ Fr.joinB l).length, true⟩)] s1.fs := by
        unfold syncS needE
        rw [f1, if_pos (by simp [look])]
        simp [getF, look, syncedF, putF]
      obtain ⟨s2, hs2e⟩ : ∃ s2 : St, s2 = { brkS s1 with fs := s1.fs } := ⟨_, rfl⟩
      obtain ⟨s3, hs3e⟩ : ∃ s3 : St, s3 = { brkS s1 with fs := [(kJ, ⟨b ++ Fr.joinB l, (b ++ Fr.joinB l).length, true⟩)] } := ⟨_, rfl⟩
      cases hb2 : brkB s1 with
      | true =>
        left
        obtain ⟨h3, h4⟩ := brk_true hb2
        rw [changeS_torn d1 rfl hb2, ← hs2e] at hs2
        refine ⟨by omega, s2, ?_, ?_, by rw [hs2e]; exact h3, u, by rw [hs2e]; exact f1⟩
        · unfold writeS
          rw [ha, if_pos rfl]
          simp only [hs2]
          rw [if_neg (by decide)]
        · cases hw : s.waits with
          | true => rfl
          | false => have e := w1 hw; exact absurd (h4.symm.trans e) (by decide)
      | false =>
        right
        obtain ⟨h3, h4⟩ := brk_false hb2 d1
        rw [changeS_whole d1 rfl hb2, ← hs3e] at hs2
        refine ⟨by omega, s3, ?_, by rw [hs3e]; exact h3, fun hw => by rw [hs3e]; exact h4 (w1 hw), by rw [hs3e]; show (brkS _).room = _; rw [brk_rm]; exact r1, by rw [hs3e]⟩
        unfold writeS
        rw [ha, if_pos rfl]
        simp only [hs2]
        rfl
theorem other_cases {s : St} {b : List UInt8} {sy : Nat} (h : Con s b sy) (hd : s.down = false) (L l : Recs) :
    (otherS s kJ L l = (40, L, s)) ∨ (∃ s', otherS s kJ L l = (41, L, s') ∧ s'.down = true ∧ s'.fs = s.fs) ∨
    (∃ s', otherS s kJ L l = (0, l, s') ∧ s'.down = false ∧ s'.fs = [(kJ, ⟨Fr.joinB l, (Fr.joinB l).length, true⟩)]) := by
  by_cases hf : usedF s.fs + (Fr.joinB l).length > s.room + (getF s.fs kJ).b.length
  · left
    have ha : replaceS s kJ (Fr.joinB l) = (40, s) := by
      unfold replaceS
      rw [if_pos hf]
      exact changeS_err hd (by decide) _ _
    unfold otherS
    rw [ha]; rfl
  · right
    have ha : replaceS s kJ (Fr.joinB l) = changeS s 0 [(kJ, ⟨Fr.joinB l, (Fr.joinB l).length, true⟩)] s.fs := by
      unfold replaceS
      rw [if_neg hf, h.put]
    cases hb : brkB s with
    | true =>
      left
      rw [changeS_torn hd rfl hb] at ha
      refine ⟨{ brkS s with fs := s.fs }, ?_, (brk_true hb).1, rfl⟩
      unfold otherS
      rw [ha]; rfl
    | false =>
      right
      rw [changeS_whole hd rfl hb] at ha
      refine ⟨{ brkS s with fs := [(kJ, ⟨Fr.joinB l, (Fr.joinB l).length, true⟩)] }, ?_, (brk_false hb hd).1, rfl⟩
      unfold otherS
      rw [ha, if_pos rfl]
theorem open_con {s : St} {b : List UInt8} {sy : Nat} (h : Con s b sy) (hd : s.down = false) (hw : s.waits = false) :
    ∃ s' sy', openS s kJ = (some (Fr.scanT b), 0, s') ∧ s'.down = false ∧ s'.waits = false ∧ s'.room = s.room ∧ Con s' (b.take (Fr.scanN b)) sy' ∧ (sy = b.length → sy' = (b.take (Fr.scanN b)).length) := by
  obtain ⟨u, hg⟩ := h.get
  have ho : openS s kJ = cutsS s kJ b := by unfold openS; rw [if_neg (by rw [hd]; simp), hg]
  have hle := Fr.scanN_le b
  by_cases hl : Fr.scanN b < b.length
  · have hb : b ≠ [] := by intro e; rw [e] at hl; simp at hl
    have hc : cutS s kJ (Fr.scanN b : Int) = changeS s 0 [(kJ, ⟨b.take (Fr.scanN b), min sy (Fr.scanN b), true⟩)] s.fs := by
      unfold cutS cutE
      rw [if_pos (h.there hb), hg, if_neg (by simp only; omega), h.put]
      simp [cutF]
    have hbk : brkB s = false := by unfold brkB; rw [hw]; rfl
    rw [changeS_whole hd rfl hbk] at hc
    have hbs : brkS s = s := by unfold brkS; rw [if_neg (by rw [hw]; simp)]
    rw [hbs] at hc
    refine ⟨{ s with fs := [(kJ, ⟨b.take (Fr.scanN b), min sy (Fr.scanN b), true⟩)] }, min sy (Fr.scanN b), ?_, hd, hw, rfl, .inr ⟨true, rfl⟩, fun e => ?_⟩
    · rw [ho]
      unfold cutsS
      rw [if_pos hl, hc, if_pos rfl]
    · rw [List.length_take, e]; omega
  · refine ⟨s, sy, ?_, hd, hw, rfl, by rw [List.take_of_length_le (by omega)]; exact h, fun e => by rw [List.take_of_length_le (by omega)]; exact e⟩
    rw [ho]
    unfold cutsS
    rw [if_neg hl]
/-- what a crash leaves of it -/
theorem crash_con {s : St} {b : List UInt8} {sy : Nat} (h : Con s b sy) (hs : sy ≤ b.length) (keep : List Int) : ∃ n, sy ≤ n ∧ n ≤ b.length ∧ Con (crashS s keep) (b.take n) (b.take n).length := by
  rcases h with ⟨h, rfl, rfl⟩ | ⟨u, h⟩
  · refine ⟨0, by omega, by simp, .inl ⟨?_, rfl, rfl⟩⟩
    show crashF s.fs keep = []
    rw [h]; rfl
  · obtain ⟨n, hn⟩ : ∃ n, n = leftF ⟨b, sy, u⟩ (keep.headD 0) := ⟨_, rfl⟩
    have h1 : sy ≤ n := by rw [hn]; exact Nat.le_add_right _ _
    have h2 : n ≤ b.length := by rw [hn]; show sy + min (keep.headD 0).toNat (b.length - sy) ≤ b.length; omega
    have h3 : (b.take n).length = n := by rw [List.length_take]; omega
    refine ⟨n, h1, h2, ?_⟩
    rw [h3]
    unfold Con
    show (crashF s.fs keep = [] ∧ _) ∨ ∃ u, crashF s.fs keep = _
    rw [h]
    unfold crashF
    simp only
    rw [← hn]
    by_cases hz : n = 0 ∧ u = false
    · left
      rw [if_pos hz]
      obtain ⟨rfl, _⟩ := hz
      exact ⟨rfl, rfl, rfl⟩
    · right
      rw [if_neg hz]
      exact ⟨true, rfl⟩
theorem joinB_app (a b : Recs) : Fr.joinB (a ++ b) = Fr.joinB a ++ Fr.joinB b := by
  unfold Fr.joinB Fr.joinL
  rw [List.map_append, List.flatMap_append]
theorem joinB_nil {l : Recs} (h : (Fr.joinB l).length = 0) : l = [] := by
  have := (Fr.joinB_each l).1
  exact List.length_eq_zero_iff.1 (by omega)
/-- whole records, and of a torn one a beginning -/
theorem scan_torn (a l : Recs) (k : Nat) (ha : ∀ c ∈ a, c.size ≤ 65536) (hl : ∀ c ∈ l, c.size ≤ 65536) :
    ∃ m, m ≤ l.length ∧ Fr.scanT (Fr.joinB a ++ (Fr.joinB l).take k) = a ++ l.take m ∧ (Fr.joinB a ++ (Fr.joinB l).take k).take (Fr.scanN (Fr.joinB a ++ (Fr.joinB l).take k)) = Fr.joinB (a ++ l.take m) := by
  obtain ⟨m, h1, h2, h3, h4, h5, _⟩ := Fr.scan_some l k hl
  obtain ⟨h6, h7⟩ := Fr.scan_chain a ((Fr.joinB l).take k) ha
  refine ⟨m, h1, by rw [h6, h2], ?_⟩
  rw [h7, List.take_append, List.take_of_length_le (by omega), Nat.add_sub_cancel_left, h3, joinB_app, List.take_take, Nat.min_eq_left h4, h5]
end Go.Proofs.Ytnffjoflkeagfaa
