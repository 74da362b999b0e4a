/- A journal cut anywhere, or with anything behind its last whole record. -/
import Derived.Test.YtnffjoflkeagfaaLawRoom5
namespace Go.Proofs.Ytnffjoflkeagfaa
open Go.RowKit Go.Maps

/-- a few bytes hold at most one frame: where fewer than sixteen are, and .. -/
theorem scan_short {b : List UInt8} (h : b.length < 8) : Fr.scanT b = [] := by
  have := Fr.scan_len b
  exact List.length_eq_zero_iff.1 (by omega)
/-- a beginning of a frame, and seven bytes at most: one record at most -/
theorem scan_part (x : ByteArray) (hx : x.size ≤ 65536) (p : Nat) (hp : p < 8 + x.size) (junk : List UInt8) (hj : junk.length ≤ 7) :
    (Fr.scanT ((Fr.frameL (Fr.bs x)).take p ++ junk)).length ≤ 1 := by
  have hfl := Fr.frameL_length (Fr.bs x)
  rw [Fr.bs_size] at hfl
  obtain ⟨b, hb⟩ : ∃ b, b = (Fr.frameL (Fr.bs x)).take p ++ junk := ⟨_, rfl⟩
  have hbl : b.length = p + junk.length := by rw [hb, List.length_append, List.length_take]; omega
  rw [← hb]
  by_cases hE : Fr.fE b = 0
  · have hs := Fr.scan_ok hE
    have e1 : (Fr.scanT b).length = 1 + (Fr.scanT (b.drop (8 + Fr.num4 b))).length := by
      unfold Fr.scanT
      rw [hs]; simp; omega
    have hr : (b.drop (8 + Fr.num4 b)).length < 8 := by
      rw [List.length_drop]
      by_cases h4 : 4 ≤ p
      · have hn : Fr.num4 b = x.size := by
          have h1 : Fr.num4 (b.take 4) = Fr.num4 b := Fr.num4_take b 4 (by omega)
          have h2 : b.take 4 = (Fr.frameL (Fr.bs x)).take 4 := by
            rw [hb, List.take_append_of_le_length (by rw [List.length_take]; omega), List.take_take, Nat.min_eq_left h4]
          have h3 : Fr.num4 ((Fr.frameL (Fr.bs x)).take 4) = Fr.num4 (Fr.frameL (Fr.bs x)) := Fr.num4_take _ 4 (by omega)
          have h5 := (Fr.frame_read (Fr.bs x) [] (by rw [Fr.bs_size]; omega)).2.2
          rw [List.append_nil, Fr.bs_size] at h5
          rw [← h1, h2, h3, h5]
        omega
      · omega
    rw [e1, scan_short hr]; simp
  · have hs := Fr.scan_end hE
    unfold Fr.scanT
    rw [hs]; simp
/-- what is scanned of a journal that was cut, with a few bytes behind -/
theorem scan_junk (l : Recs) (hl : ∀ c ∈ l, c.size ≤ 65536) (k : Nat) (junk : List UInt8) (hj : junk.length ≤ 7) :
    (Fr.scanT ((Fr.joinB l).take k ++ junk)).length ≤ l.length ∧ (junk = [] → Fr.scanT ((Fr.joinB l).take k ++ junk) = l.take (Fr.scanT ((Fr.joinB l).take k ++ junk)).length) := by
  obtain ⟨m, h1, h2, h3, h4, h5, h6⟩ := Fr.scan_some l k hl
  refine ⟨?_, fun e => ?_⟩
  · have hall : ∀ c ∈ l.take m, c.size ≤ 65536 := fun c hc => hl c (List.mem_of_mem_take hc)
    have hsp : (Fr.joinB l).take k = Fr.joinB (l.take m) ++ ((Fr.joinB l).take k).drop (Fr.joinB (l.take m)).length := by
      have e1 : ((Fr.joinB l).take k).take (Fr.joinB (l.take m)).length = Fr.joinB (l.take m) := by rw [List.take_take, Nat.min_eq_left h4, h5]
      conv => lhs; rw [← List.take_append_drop (Fr.joinB (l.take m)).length ((Fr.joinB l).take k), e1]
    rw [hsp, List.append_assoc, (Fr.scan_chain (l.take m) _ hall).1, List.length_append, List.length_take, Nat.min_eq_left h1]
    rcases h6 with h6 | ⟨x, hx, hk⟩
    · have hd : ((Fr.joinB l).take k).drop (Fr.joinB (l.take m)).length = [] := by
        rw [List.drop_eq_nil_iff, List.length_take, h6, List.take_length]; omega
      rw [hd, List.nil_append, scan_short (by omega)]; simp; omega
    · have hml := (List.getElem?_eq_some_iff.1 hx).1
      have hd : ((Fr.joinB l).take k).drop (Fr.joinB (l.take m)).length = (Fr.frameL (Fr.bs x)).take (k - (Fr.joinB (l.take m)).length) := by
        rw [List.drop_take]
        have e : Fr.joinB l = Fr.joinB (l.take m) ++ (Fr.frameL (Fr.bs x) ++ Fr.joinB (l.drop (m + 1))) := by
          have e2 : l = l.take m ++ x :: l.drop (m + 1) := by
            obtain ⟨hm', e3⟩ := List.getElem?_eq_some_iff.1 hx
            rw [← e3, List.getElem_cons_drop, List.take_append_drop]
          conv => lhs; rw [e2, joinB_app, Fr.joinB_cons]
        rw [e, List.drop_left, List.take_append_of_le_length (by rw [Fr.frameL_length, Fr.bs_size]; omega)]
      rw [hd]
      have := scan_part x (hl x (List.mem_of_getElem? hx)) (k - (Fr.joinB (l.take m)).length) (by omega) junk hj
      omega
  · subst e
    rw [List.append_nil, h2, List.length_take, Nat.min_eq_left h1]
/-- what is scanned, framed again, is just the bytes that were taken -/
theorem frame_canon {b : List UInt8} (h : Fr.fE b = 0) : Fr.frameL (Fr.fB b) = b.take (8 + Fr.num4 b) := by
  obtain ⟨h1, h2, h3, h4⟩ := Fr.fE_parts h
  have hl := Fr.fB_length h
  have e1 : Fr.four (Fr.num4 b) = b.take 4 := Fr.four_take b (by omega)
  have e2 : Fr.four (Fr.num4 (b.drop 4)) = (b.drop 4).take 4 := Fr.four_take _ (by rw [List.length_drop]; omega)
  unfold Fr.frameL
  rw [hl, e1, h4, e2]
  unfold Fr.fB
  have e3 : b.take (8 + Fr.num4 b) = b.take 4 ++ ((b.drop 4).take 4 ++ (b.drop 8).take (Fr.num4 b)) := by
    rw [show 8 + Fr.num4 b = 4 + (4 + Fr.num4 b) by omega, List.take_add, List.take_add, List.drop_drop]
  exact e3.symm
theorem scan_canon : ∀ (n : Nat) (b : List UInt8), b.length ≤ n → Fr.joinL (Fr.scan b).1 = b.take (Fr.scan b).2 ∧ ∀ x ∈ (Fr.scan b).1, x.length ≤ 65536
  | n, b, hn => by
    by_cases hE : Fr.fE b = 0
    · obtain ⟨h1, h2, h3, h4⟩ := Fr.fE_parts hE
      have hs := Fr.scan_ok hE
      cases n with
      | zero => omega
      | succ n =>
        obtain ⟨i1, i2⟩ := scan_canon n (b.drop (8 + Fr.num4 b)) (by rw [List.length_drop]; omega)
        rw [hs]
        refine ⟨?_, fun x hx => ?_⟩
        · rw [Fr.joinL_cons, frame_canon hE, i1]
          exact (List.take_add (i := 8 + Fr.num4 b)).symm
        · rcases List.mem_cons.1 hx with rfl | hx
          · rw [Fr.fB_length hE]; exact h2
          · exact i2 x hx
    · rw [Fr.scan_end hE]
      exact ⟨rfl, fun x hx => by cases hx⟩
theorem scanT_canon (b : List UInt8) : Fr.joinB (Fr.scanT b) = b.take (Fr.scanN b) ∧ ∀ c ∈ Fr.scanT b, c.size ≤ 65536 := by
  obtain ⟨h1, h2⟩ := scan_canon b.length b (Nat.le_refl _)
  refine ⟨?_, fun c hc => ?_⟩
  · unfold Fr.joinB Fr.scanT Fr.scanN
    rw [List.map_map, show Fr.bs ∘ Fr.mk = id from funext fun x => Fr.bs_mk x, List.map_id]
    exact h1
  · unfold Fr.scanT at hc
    obtain ⟨x, hx, rfl⟩ := List.mem_map.1 hc
    rw [Fr.mk_size]; exact h2 x hx
theorem con_cut {s : St} {b : List UInt8} {sy : Nat} (h : Con s b sy) (hd : s.down = false) (hw : s.waits = false) (hb : b ≠ []) (q : Nat) (hq : q ≤ b.length) :
    ∃ s' sy', cutS s kJ (q : Int) = (0, s') ∧ s'.down = false ∧ s'.waits = false ∧ s'.room = s.room ∧ Con s' (b.take q) sy' := by
  obtain ⟨u, hg⟩ := h.get
  have hc : cutS s kJ (q : Int) = changeS s 0 [(kJ, ⟨b.take q, min sy q, true⟩)] s.fs := by
    unfold cutS cutE
    rw [if_pos (h.there hb), hg, if_neg (by simp only; omega), h.put]
    simp [cutF]
  have hbk : brkB s = false := by unfold brkB; rw [hw]; rfl
  rw [changeS_whole hd rfl hbk] at hc
  have hbs : brkS s = s := by unfold brkS; rw [if_neg (by rw [hw]; simp)]
  rw [hbs] at hc
  exact ⟨{ s with fs := [(kJ, ⟨b.take q, min sy q, true⟩)] }, min sy q, hc, hd, hw, rfl, .inr ⟨true, rfl⟩⟩
theorem con_append {s : St} {b : List UInt8} {sy : Nat} (h : Con s b sy) (hd : s.down = false) (hw : s.waits = false) (x : List UInt8) (hr : b.length + x.length ≤ s.room) :
    ∃ s', appendS s kJ x = (0, s') ∧ s'.down = false ∧ s'.waits = false ∧ s'.room = s.room ∧ Con s' (b ++ x) sy := by
  obtain ⟨u, hg⟩ := h.get
  have ha : appendS s kJ x = changeS s 0 [(kJ, ⟨b ++ x, sy, u⟩)] [(kJ, ⟨b ++ x, sy, u⟩)] := by
    unfold appendS
    rw [h.used, if_neg (show ¬ b.length + x.length > s.room by omega), h.put, hg]; rfl
  have hbk : brkB s = false := by unfold brkB; rw [hw]; rfl
  rw [changeS_whole hd rfl hbk] at ha
  have hbs : brkS s = s := by unfold brkS; rw [if_neg (by rw [hw]; simp)]
  rw [hbs] at ha
  exact ⟨{ s with fs := [(kJ, ⟨b ++ x, sy, u⟩)] }, ha, hd, hw, rfl, .inr ⟨u, rfl⟩⟩
/-- an append that fits, of any list -/
theorem wAppend_fits {Q : (Nat → Prop) → World → Prop} {S : Nat → Prop} {w : World} {db wb : Nat} {s : St} {L : Recs} {b : List UInt8} {sy : Nat} (tQ : Thing Q) (h : Con s b sy) (hd : s.down = false) (hwt : s.waits = false)
    {v : Value} {l : Recs} (hv : TxtOff S w v l) (hall : ∀ c ∈ l, c.size ≤ 65536) (hl : l.length ≤ 1048576) (hL : L.length ≤ 1048576) (hr : b.length + (Fr.joinB l).length ≤ s.room) (hrs : s.room ≤ 274877906944) :
    ∃ s' sy', s'.down = false ∧ s'.waits = false ∧ s'.room = s.room ∧ Con s' (b ++ Fr.joinB l) sy' ∧
      (Pair (DJ db wb s L) Q S w → (∀ k, w.heap.size ≤ k → S k) → Calls Try.prog 26 #[ptrV wb, v] w fun e w' => e = .returned (.int .i64 0) ∧ Pair (DJ db wb s' (L ++ l)) Q S w' ∧ Kept S w w') := by
  by_cases hne : l = []
  · subst hne
    refine ⟨s, sy, hd, hwt, rfl, by rw [show Fr.joinB [] = [] from rfl, List.append_nil]; exact h, fun hp _ => ?_⟩
    refine (wAppend_none v (ptrV wb) w hv.slice).mono ?_
    rintro e w' ⟨rfl, rfl⟩
    exact ⟨rfl, by rw [List.append_nil]; exact hp, Kept.refl _ _⟩
  · rcases write_cases h hd L l with ⟨hf, _⟩ | ⟨_, s', _, hw', _⟩ | ⟨_, s', he, hd', hw', hr', hfs⟩
    · omega
    · rw [hwt] at hw'; cases hw'
    · refine ⟨s', _, hd', hw' hwt, hr', .inr ⟨true, hfs⟩, fun hp hS => ?_⟩
      have hus := h.used
      have hct := h.count
      have := wAppend_beside tQ hp hS (by omega) (by omega) hv hall hl hL hne
      rw [he] at this
      exact this
theorem toList_empty5 {s : ByteArray} (h : s.size = 0) : s.toList.isEmpty = true := by
  rw [Lib.toList_data, List.isEmpty_iff]; apply List.eq_nil_of_length_eq_zero; rw [← Lib.size_eq]; exact h
theorem toList_more5 {s : ByteArray} (h : 0 < s.size) : s.toList.isEmpty = false := by
  rw [Lib.toList_data, List.isEmpty_eq_false_iff]; intro e
  rw [Lib.size_eq, e] at h; simp at h

end Go.Proofs.Ytnffjoflkeagfaa
