/- Places and code points of a pattern: the reference reads by places, the parts are told by code points. -/
import Derived.Test.YthkkphfnfggpaaaDoorSole
import Derived.Test.YthkkphfnfggpaaaDoorLawPlain
namespace Go.Proofs.YthkkphfnfggpaaaDoor
open Go.RowKit

/-- the piece with number k lies at the place q -/
def Cur (s : ByteArray) (k q : Nat) : Prop := q ≤ s.size ∧ ptsAt s q = (pts s).drop k ∧ plAt s q = (plc s).drop k
theorem Cur.start (s : ByteArray) : Cur s 0 0 := ⟨Nat.zero_le _, rfl, rfl⟩
theorem Cur.more {s : ByteArray} {k q : Nat} (h : Cur s k q) (hq : q < s.size) : k < (pts s).length ∧ (pts s).getD k 0 = ((Utf8.decode s q).1 : Int) ∧ (plc s).getD k 0 = q ∧ Cur s (k + 1) (q + (Utf8.decode s q).2) := by
  obtain ⟨_, h1, h2⟩ := h
  rw [ptsAt_step s q hq] at h1
  rw [plAt_step s q hq] at h2
  have hk : k < (pts s).length := by
    have := congrArg List.length h1
    simp at this; omega
  have hk2 : k < (plc s).length := by
    have := congrArg List.length h2
    simp at this; omega
  rw [List.drop_eq_getElem_cons hk, List.cons.injEq] at h1
  rw [List.drop_eq_getElem_cons hk2, List.cons.injEq] at h2
  refine ⟨hk, ?_, ?_, size_le_dec s q hq, h1.2, h2.2⟩
  · rw [List.getD, List.getElem?_eq_getElem hk]; exact h1.1.symm
  · rw [List.getD, List.getElem?_eq_getElem hk2]; exact h2.1.symm
theorem Cur.over {s : ByteArray} {k q : Nat} (h : Cur s k q) (hq : ¬ q < s.size) : ¬ k < (pts s).length := by
  obtain ⟨_, h1, _⟩ := h
  rw [ptsAt_end s q hq] at h1
  have := congrArg List.length h1
  simp at this; omega
theorem Cur.lt_iff {s : ByteArray} {k q : Nat} (h : Cur s k q) : q < s.size ↔ k < (pts s).length :=
  ⟨fun hq => (h.more hq).1, fun hk => Decidable.byContradiction fun hq => h.over hq hk⟩
/-- a byte below 128 is its piece's code point -/
theorem Cur.byte {s : ByteArray} {k q : Nat} (h : Cur s k q) (hq : q < s.size) (c : Int) (h0 : 0 ≤ c) (hc : c < 128) : byt s q = c ↔ (pts s).getD k 0 = c := by
  rw [(h.more hq).2.1]
  constructor
  · intro e
    have hb := byt_bd s q
    rw [dec_low s q (by omega)]
    simp only; omega
  · intro e
    rw [dec_ascii s q (by omega), e]
theorem Cur.low {s : ByteArray} {k q : Nat} (h : Cur s k q) (hq : q < s.size) {c : Int} (hc : c < 128) (e : (pts s).getD k 0 = c) : Cur s (k + 1) (q + 1) := by
  have hm := h.more hq
  rw [hm.2.1] at e
  have hb := dec_ascii s q (by omega)
  have := hm.2.2.2
  rw [dec_low s q (by omega)] at this
  exact this
theorem Cur.sole {s : ByteArray} {k q : Nat} (h : Cur s k q) (h93 : k < (pts s).length → (pts s).getD k 0 ≠ 93) :
    match pointF (pts s) k with
    | none => soleF s q = (0, q, false)
    | some (c, k') => ∃ q', soleF s q = (c, q', true) ∧ Cur s k' q' := by
  unfold pointF soleF
  by_cases hq : q < s.size
  · have hm := h.more hq
    rw [if_pos hq, if_pos hm.1, ← hm.2.1]
    by_cases h9 : (pts s).getD k 0 = 92
    · rw [if_pos h9, if_pos h9]
      have hl := h.low hq (by omega) h9
      by_cases hq2 : q + 1 < s.size
      · have hm2 := hl.more hq2
        rw [if_pos hq2, if_pos hm2.1]
        exact ⟨_, by rw [hm2.2.1], hm2.2.2.2⟩
      · rw [if_neg hq2, if_neg (hl.over hq2)]
    · rw [if_neg h9, if_neg h9]
      refine ⟨_, ?_, hm.2.2.2⟩
      rw [decide_eq_true (h93 hm.1)]
  · rw [if_neg hq, if_neg (h.over hq)]
theorem Cur.ranges {s : ByteArray} {k q : Nat} (h : Cur s k q) : (q + 1 < s.size ∧ byt s q = 45 ∧ byt s (q + 1) ≠ 93) ↔ rangesB (pts s) k = true := by
  unfold rangesB
  rw [decide_eq_true_iff]
  constructor
  · rintro ⟨h1, h2, h3⟩
    have e := (h.byte (by omega) 45 (by omega) (by omega)).1 h2
    have hl := h.low (by omega) (by omega) e
    exact ⟨hl.lt_iff.1 h1, e, fun h => h3 ((hl.byte h1 93 (by omega) (by omega)).2 h)⟩
  · rintro ⟨h1, h2, h3⟩
    have hq : q < s.size := h.lt_iff.2 (by omega)
    have hl := h.low hq (by omega) h2
    have hq1 := hl.lt_iff.2 h1
    exact ⟨hq1, (h.byte hq 45 (by omega) (by omega)).2 h2, fun h => h3 ((hl.byte hq1 93 (by omega) (by omega)).1 h)⟩
end Go.Proofs.YthkkphfnfggpaaaDoor
