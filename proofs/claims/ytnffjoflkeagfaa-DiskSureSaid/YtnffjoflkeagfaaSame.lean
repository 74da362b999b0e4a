/- SameKept, SameTexts at equals; an act's calls. -/
import Derived.Test.YtnffjoflkeagfaaPair
namespace Go.Proofs.Ytnffjoflkeagfaa
open Go.RowKit Go.Maps

theorem kept_row {w : World} {B : Nat} {a : Option Addr} {n c : Nat} {fs : Fs} {j : Nat} {p : List UInt8 × F} (h : w.ownsRow B 46 3 (.slice a n c) n (keptL fs)) (hp : fs[j]? = some p) :
    (∃ g, a = some ⟨g, 0, none⟩ ∧ n ≤ c ∧ w.cell? ⟨g, j * 3, none⟩ = some (.string (mk p.1)) ∧ w.cell? ⟨g, j * 3 + 1, none⟩ = some (.string (mk p.2.b)) ∧ w.cell? ⟨g, j * 3 + 2, none⟩ = some (.int .i64 (p.2.s : Int))) := by
  have hcell : ∀ (i : Nat) (u : Value), i < 3 → (keptC p)[i]? = some u → (keptL fs)[j * 3 + i]? = some u := by
    intro i u hi hu
    have : ∀ (l : Fs) (m : Nat), l[m]? = some p → (keptL l)[m * 3 + i]? = some u := by
      intro l
      induction l with
      | nil => intro m hm; simp at hm
      | cons q r ih =>
        intro m hm
        have e : keptL (q :: r) = keptC q ++ keptL r := by simp [keptL]
        rw [e]
        cases m with
        | zero =>
          simp only [List.getElem?_cons_zero, Option.some.injEq] at hm
          subst hm
          rw [Nat.zero_mul, Nat.zero_add, List.getElem?_append_left (by simp [keptC]; omega)]
          exact hu
        | succ m =>
          rw [List.getElem?_append_right (by simp [keptC]; omega), show (m + 1) * 3 + i - (keptC q).length = m * 3 + i by simp [keptC]; omega]
          exact ih m (by simpa using hm)
    exact this fs j hp
  obtain ⟨g, cap, e, hcap, _, _, k0⟩ := row_cell h (hcell 0 (.string (mk p.1)) (by omega) rfl)
  obtain ⟨g1, cap1, e1, _, _, _, k1⟩ := row_cell h (hcell 1 (.string (mk p.2.b)) (by omega) rfl)
  obtain ⟨g2, cap2, e2, _, _, _, k2⟩ := row_cell h (hcell 2 (.int .i64 (p.2.s : Int)) (by omega) rfl)
  cases e
  cases e1
  cases e2
  exact ⟨_, rfl, hcap, k0, k1, k2⟩
/-- what an act can ask of a disk, and is told -/
theorem act_calls {S : Nat → Prop} {w : World} {db : Nat} {s : St} (h : DiskAt S w db s) (hS : ∀ k, w.heap.size ≤ k → S k) (hm : Small s) (hkl : ∀ p ∈ s.fs, p.1.length ≤ 281474976710656) (name b : ByteArray) (n : Int)
    (hn : name.size ≤ 281474976710656) (hb : usedF s.fs + b.size ≤ 140737488355328) (hn1 : n ≤ 9223372036854775807) (kv : Value) (keep : List Int) (hkeep : ListOff S w kv keep.length (keep.map (fun z => Value.int .i64 z))) (hkn : keep.length ≤ 9223372036854775807) :
    (Calls Try.prog 31 #[ptrV db, .string name, .string b] w fun e w' => e = .returned (.int .i64 (appendS s (bs name) (bs b)).1) ∧ DiskAt S w' db (appendS s (bs name) (bs b)).2 ∧ Kept S w w') ∧
    (Calls Try.prog 32 #[ptrV db, .string name] w fun e w' => e = .returned (.int .i64 (syncS s (bs name)).1) ∧ DiskAt S w' db (syncS s (bs name)).2 ∧ Kept S w w') ∧
    (Calls Try.prog 30 #[ptrV db, .string name, .int .i64 n] w fun e w' => e = .returned (.int .i64 (cutS s (bs name) n).1) ∧ DiskAt S w' db (cutS s (bs name) n).2 ∧ Kept S w w') ∧
    (Calls Try.prog 37 #[ptrV db, .string name, .string b] w fun e w' => e = .returned (.int .i64 (replaceS s (bs name) (bs b)).1) ∧ DiskAt S w' db (replaceS s (bs name) (bs b)).2 ∧ Kept S w w') ∧
    (Calls Try.prog 39 #[ptrV db, .string name] w fun e w' => e = .returned (.int .i64 (removeS s (bs name)).1) ∧ DiskAt S w' db (removeS s (bs name)).2 ∧ Kept S w w') ∧
    (Calls Try.prog 29 #[ptrV db, .int .i64 n] w fun e w' => e = .returned (.tuple #[]) ∧ DiskAt S w' db (breakS s n) ∧ Kept S w w') ∧
    (Calls Try.prog 22 #[ptrV db, kv] w fun e w' => e = .returned (.tuple #[]) ∧ DiskAt S w' db (crashS s keep) ∧ Kept S w w') ∧
    (Calls Try.prog 44 #[ptrV db] w fun e w' => e = .returned (.tuple #[]) ∧ DiskAt S w' db (wipeS s) ∧ Kept S w w') :=
  ⟨Append_gen h hS hm name b hn (by omega) (fun _ => hb), Sync_any h hS hm name hn, Cut_any h hS hm name n hn, Replace_any h hS hm name b hn (by omega), Remove_any h hS hm name hn, Break_any h n hn1, Crash_any h hS hm hkl kv keep hkeep hkn, Wipe_any h⟩
set_option maxRecDepth 100000 in
set_option maxHeartbeats 4000000 in
theorem same_kept {w : World} {B1 B2 : Nat} {v1 v2 : Value} {fs : Fs} (h1 : w.ownsRow B1 46 3 v1 fs.length (keptL fs)) (h2 : w.ownsRow B2 46 3 v2 fs.length (keptL fs)) (hn : fs.length ≤ 1099511627776) :
    Calls Try.prog 13 #[v1, v2] w fun e w' => e = .returned (.bool true) ∧ Below w.heap.size w w' := by
  obtain ⟨a1, c1, rfl⟩ := row_slice h1
  obtain ⟨a2, c2, rfl⟩ := row_slice h2
  have H1 := Lib.hid h1
  have H2 := Lib.hid h2
  clear h1 h2
  go_enter Try.func13, Try.ntmps13
  go_wp2
  go_loopw [5] (fun i wr => ∃ k : Nat, k ≤ fs.length ∧ i = .int .i64 k ∧ Below w.heap.size w wr) (fun i _ => fs.length - (intOf i).toNat)
  case atStart => exact ⟨0, by omega, rfl, Below.refl _ _⟩
  case round =>
    obtain ⟨k, hk, rfl, hb⟩ := hrel
    have HB := Lib.hid hb
    clear hb
    by_cases hlt : k < fs.length
    · have hlti : (k : Int) < (fs.length : Int) := by omega
      obtain ⟨p, hp⟩ : ∃ p, fs[k]? = some p := ⟨fs[k], List.getElem?_eq_getElem hlt⟩
      obtain ⟨g, rfl, hcap1, x0, x1, x2⟩ := kept_row H1.out hp
      obtain ⟨g', rfl, hcap2, y0, y1, y2⟩ := kept_row H2.out hp
      have lg := World.block_lt_of_cell? w _ x0
      have lg' := World.block_lt_of_cell? w _ y0
      simp only at lg lg'
      have x0 := (HB.out.cell (p := ⟨g, k * 3, none⟩) lg).trans x0
      have x1 := (HB.out.cell (p := ⟨g, k * 3 + 1, none⟩) lg).trans x1
      have x2 := (HB.out.cell (p := ⟨g, k * 3 + 2, none⟩) lg).trans x2
      have y0 := (HB.out.cell (p := ⟨g', k * 3, none⟩) lg').trans y0
      have y1 := (HB.out.cell (p := ⟨g', k * 3 + 1, none⟩) lg').trans y1
      have y2 := (HB.out.cell (p := ⟨g', k * 3 + 2, none⟩) lg').trans y2
      clear hp
      generalize mk p.1 = n1 at *
      generalize mk p.2.b = n2 at *
      generalize p.2.s = n3 at *
      go_wp2
      go_quiet (fail)
      go_wp2
      go_roundw
      case rel => exact ⟨k + 1, by omega, by go_num, below_drewN HB.out _⟩
      case measure => simp [intOf]; omega
    · have hlti : ¬ (k : Int) < (fs.length : Int) := by omega
      go_wp2
      go_ret
      exact ⟨rfl, HB.out⟩
end Go.Proofs.Ytnffjoflkeagfaa
