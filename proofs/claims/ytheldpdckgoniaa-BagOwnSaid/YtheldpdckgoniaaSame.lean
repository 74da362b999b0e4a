/- SameInts, SameEntries, SameMsg: what is the same is told so. -/
import Derived.Test.YtheldpdckgoniaaRefT
import Derived.Laws.StructEq
namespace Go.Proofs.Ytheldpdckgoniaa
open Go.RowKit

theorem Run.ints {B : Nat → Prop} {w : World} {a : Option Addr} {c k : Nat} {l : List Int} (h : Run B w (.slice a l.length c) l.length (intsC l)) (hk : k < l.length) : ∃ b off, a = some ⟨b, off, none⟩ ∧ b < w.heap.size ∧ w.cell? ⟨b, off + k, none⟩ = some (.int .i64 (l.getD k 0)) := by
  obtain ⟨b, off, e, _, hl, hc⟩ := h.get (j := k) (u := .int .i64 (l.getD k 0)) (by omega) (by simp [intsC, List.getElem?_eq_getElem hk, List.getD])
  exact ⟨b, off, e, hl, hc⟩
theorem Run.ents {B : Nat → Prop} {w : World} {a : Option Addr} {c k : Nat} {l : List (Int × ByteArray)} {e : Int × ByteArray} (h : Run B w (.slice a l.length c) l.length (entC l)) (he : l[k]? = some e) : ∃ b off, a = some ⟨b, off, none⟩ ∧ b < w.heap.size ∧ w.cell? ⟨b, off + k * 2, none⟩ = some (.int .i64 e.1) ∧ w.cell? ⟨b, off + k * 2 + 1, none⟩ = some (.string e.2) := by
  have hlt := (List.getElem?_eq_some_iff.1 he).1
  obtain ⟨e0, e1⟩ := entC_get l k e he
  obtain ⟨b, off, rfl, _, hl, hc⟩ := h.get (by omega) e0
  obtain ⟨b', off', e', _, _, hc'⟩ := h.get (by omega) e1
  cases e'
  exact ⟨b, off, rfl, hl, hc, hc'⟩
/-- what is the same is told so -/
def SameQ (A : Prop) (e : Ending) : Prop := ∃ v, e = .returned (.bool v) ∧ (A → v = true)
theorem sameQ {A : Prop} {e : Ending} (v : Bool) (h : e = .returned (.bool v)) (h2 : A → v = true) : SameQ A e := ⟨v, h, h2⟩
theorem entry_struct : Try.prog.underlying 52 = some (.struct (Try.prog.fieldsOf 52)) := by kernel_rfl
theorem entry_held : Try.prog.stoodInHeld 52 = false := by kernel_rfl
theorem entry_guard : Try.prog.eqGuardType Try.prog.depth 52 = false := by kernel_rfl
set_option maxHeartbeats 2000000 in
theorem sameI_any {B B' : Nat → Prop} (va vb : Value) (la lb : List Int) (w : World) (ha : Run B w va la.length (intsC la)) (hb : Run B' w vb lb.length (intsC lb)) (hla : la.length ≤ 1048576) (hlb : lb.length ≤ 1048576) :
    Calls Try.prog 28 #[va, vb] w fun e w' => SameQ (la = lb) e ∧ Below w.heap.size w w' := by
  obtain ⟨aa, ca, rfl, _⟩ := ha.slice
  obtain ⟨ab, cb, rfl, _⟩ := hb.slice
  have HA := Lib.hid ha
  have HB := Lib.hid hb
  clear ha hb
  by_cases hn : la.length = lb.length
  · obtain ⟨n, hnn⟩ : ∃ n, n = la.length := ⟨_, rfl⟩
    have hnb : lb.length = n := by omega
    rw [hnb, ← hnn]
    have HNA : Hid (la.length = n) := hnn.symm
    have HNB : Hid (lb.length = n) := hnb
    have hnl : n ≤ 1048576 := by omega
    clear hn hnn hnb hla hlb
    go_enter Try.func28, Try.ntmps28
    go_wp2
    go_loopw [5] (fun i wr => ∃ k : Nat, k ≤ n ∧ i = .int .i64 k ∧ Below w.heap.size w wr) (fun i _ => n - (intOf i).toNat)
    case atStart => exact ⟨0, by omega, rfl, Below.refl _ _⟩
    case round =>
      obtain ⟨k, hk, rfl, hbw⟩ := hrel
      by_cases hlt : k < n
      · have hlti : (k : Int) < (n : Int) := by omega
        obtain ⟨ba, offa, rfl, hl1, x1⟩ := HA.out.ints (k := k) (by have := HNA.out; omega)
        obtain ⟨bb, offb, rfl, hl2, x2⟩ := HB.out.ints (k := k) (by have := HNB.out; omega)
        have c1 := (hbw.cell (p := ⟨ba, offa + k, none⟩) hl1).trans x1
        have c2 := (hbw.cell (p := ⟨bb, offb + k, none⟩) hl2).trans x2
        clear x1 x2
        have HEQ : Hid (la = lb → la.getD k 0 = lb.getD k 0) := fun e => by rw [e]
        generalize la.getD k 0 = xa at *
        generalize lb.getD k 0 = xb at *
        by_cases hxy : xa = xb
        · have hxyi : (xa != xb) = false := by rw [hxy]; simp
          clear hxy HEQ
          go_wp2
          go_quiet (fail)
          go_wp2
          go_roundw
          case rel => exact ⟨k + 1, by omega, by go_num, below_drewN hbw _⟩
          case measure => simp [intOf]; omega
        · have hxyi : (xa != xb) = true := by rw [bne_iff_ne]; exact hxy
          have HXY := Lib.hid hxy
          clear hxy
          go_wp2
          go_quiet (fail)
          go_wp2
          go_ret
          exact ⟨sameQ false rfl (fun e => (HXY.out (HEQ.out e)).elim), below_drewN hbw _⟩
      · have hlti : ¬ (k : Int) < (n : Int) := by omega
        go_wp2
        go_ret
        exact ⟨sameQ true rfl (fun _ => rfl), hbw⟩
  · have hni : ((la.length : Int) != (lb.length : Int)) = true := by simp; omega
    have HN := Lib.hid hn
    clear hn
    go_enter Try.func28, Try.ntmps28
    go_wp2
    go_ret
    exact ⟨sameQ false rfl (fun e => (HN.out (by rw [e])).elim), Below.refl _ _⟩
theorem entry_neq (w : World) (pt qt : Int) (pd qd : ByteArray) : (binOp .neq 52 (.agg #[.int .i64 pt, .string pd]) (.agg #[.int .i64 qt, .string qd])).run Try.prog w = .ok (.bool (!(pt == qt && pd.toList == qd.toList))) w := by
  have u3 := Try.underlying3
  have a3 := Try.isAgg3
  have z3 := Try.sizeOf3
  have u9 := Try.underlying9
  have a9 := Try.isAgg9
  have z9 := Try.sizeOf9
  rw [run_neq_struct, show (10000 : Nat) = 9999 + 1 from rfl, run_equalIn_agg w 9999 52 _ _ entry_struct entry_held]
  simp only [Program.fieldsOf, Try.underlying52]
  go_simp
  by_cases h1 : pt = qt <;> by_cases h2 : pd.toList = qd.toList <;> simp [h1, h2]
set_option maxHeartbeats 2000000 in
theorem sameE_any {B B' : Nat → Prop} (va vb : Value) (la lb : List (Int × ByteArray)) (w : World) (ha : Run B w va la.length (entC la)) (hb : Run B' w vb lb.length (entC lb)) (hla : la.length ≤ 1048576) (hlb : lb.length ≤ 1048576) :
    Calls Try.prog 29 #[va, vb] w fun e w' => SameQ (la = lb) e ∧ Below w.heap.size w w' := by
  obtain ⟨aa, ca, rfl, _⟩ := ha.slice
  obtain ⟨ab, cb, rfl, _⟩ := hb.slice
  have HA := Lib.hid ha
  have HB := Lib.hid hb
  clear ha hb
  by_cases hn : la.length = lb.length
  · obtain ⟨n, hnn⟩ : ∃ n, n = la.length := ⟨_, rfl⟩
    have hnb : lb.length = n := by omega
    rw [hnb, ← hnn]
    have HNA : Hid (la.length = n) := hnn.symm
    have HNB : Hid (lb.length = n) := hnb
    have hnl : n ≤ 1048576 := by omega
    clear hn hnn hnb hla hlb
    go_enter Try.func29, Try.ntmps29
    go_wp2
    go_loopw [5] (fun i wr => ∃ k : Nat, k ≤ n ∧ i = .int .i64 k ∧ Below w.heap.size w wr) (fun i _ => n - (intOf i).toNat)
    case atStart => exact ⟨0, by omega, rfl, Below.refl _ _⟩
    case round =>
      obtain ⟨k, hk, rfl, hbw⟩ := hrel
      by_cases hlt : k < n
      · have hlti : (k : Int) < (n : Int) := by omega
        obtain ⟨p, hp⟩ : ∃ p, la[k]? = some p := ⟨la[k]'(by have := HNA.out; omega), List.getElem?_eq_getElem _⟩
        obtain ⟨q, hq⟩ : ∃ q, lb[k]? = some q := ⟨lb[k]'(by have := HNB.out; omega), List.getElem?_eq_getElem _⟩
        obtain ⟨ba, offa, rfl, hl1, x1, x1'⟩ := HA.out.ents hp
        obtain ⟨bb, offb, rfl, hl2, x2, x2'⟩ := HB.out.ents hq
        have c1 := (hbw.cell (p := ⟨ba, offa + k * 2, none⟩) hl1).trans x1
        have c1' := (hbw.cell (p := ⟨ba, offa + k * 2 + 1, none⟩) hl1).trans x1'
        have c2 := (hbw.cell (p := ⟨bb, offb + k * 2, none⟩) hl2).trans x2
        have c2' := (hbw.cell (p := ⟨bb, offb + k * 2 + 1, none⟩) hl2).trans x2'
        have HEQ : Hid (la = lb → p = q) := fun e => by rw [e] at hp; rw [hp] at hq; exact Option.some.inj hq
        clear x1 x2 x1' x2' hp hq
        obtain ⟨pt, pd⟩ := p
        obtain ⟨qt, qd⟩ := q
        simp only at c1 c1' c2 c2'
        have hnq := fun w' => entry_neq w' pt qt pd qd
        have hgd := entry_guard
        by_cases hxy : pt = qt ∧ pd.toList = qd.toList
        · have hb : (!(pt == qt && pd.toList == qd.toList)) = false := by simp [hxy.1, hxy.2]
          rw [hb] at hnq
          clear hxy hb HEQ
          go_wp2_with fail
          go_quiet (fail)
          go_wp2
          go_roundw
          case rel => exact ⟨k + 1, by omega, by go_num, below_drewN hbw _⟩
          case measure => simp [intOf]; omega
        · have hb : (!(pt == qt && pd.toList == qd.toList)) = true := by
            rw [Bool.not_eq_true', Bool.and_eq_false_iff]
            by_cases h1 : pt = qt
            · right; simp; exact fun h2 => hxy ⟨h1, h2⟩
            · left; simp [h1]
          rw [hb] at hnq
          have HXY := Lib.hid hxy
          clear hxy hb
          go_wp2_with fail
          go_quiet (fail)
          go_wp2
          go_ret
          exact ⟨sameQ false rfl (fun e => (HXY.out (by have := HEQ.out e; cases this; exact ⟨rfl, rfl⟩)).elim), below_drewN hbw _⟩
      · have hlti : ¬ (k : Int) < (n : Int) := by omega
        go_wp2
        go_ret
        exact ⟨sameQ true rfl (fun _ => rfl), hbw⟩
  · have hni : ((la.length : Int) != (lb.length : Int)) = true := by simp; omega
    have HN := Lib.hid hn
    clear hn
    go_enter Try.func29, Try.ntmps29
    go_wp2
    go_ret
    exact ⟨sameQ false rfl (fun e => (HN.out (by rw [e])).elim), Below.refl _ _⟩
end Go.Proofs.Ytheldpdckgoniaa
