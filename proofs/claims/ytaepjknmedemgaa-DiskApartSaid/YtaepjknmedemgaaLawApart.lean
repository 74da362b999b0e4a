/- What is done to other files changes nothing of a file. -/
import Derived.Test.YtaepjknmedemgaaPair
namespace Go.Proofs.Ytaepjknmedemgaa
open Go.RowKit Go.Maps

theorem neB {a b : ByteArray} (h : a ≠ b) : (a.toList == b.toList) = false := by
  rw [beq_eq_false_iff_ne]
  intro e
  rw [Lib.toList_data, Lib.toList_data] at e
  exact h (ba_ext e)
theorem eqB {a b : ByteArray} (h : a = b) : (a.toList == b.toList) = true := by rw [h]; simp
/-- the file k stands as f; no power goes -/
structure Calm (s : St) (k : List UInt8) (f : F) : Prop where
  up : s.down = false
  wait : s.waits = false
  file : look s.fs k = some f
  room : s.room = 1073741824
theorem calm_change {s : St} {k : List UInt8} {f : F} (h : Calm s k f) {e : Int} {f1 f2 : Fs} (h1 : look f1 k = some f) (h2 : look f2 k = some f) : Calm (changeS s e f1 f2).2 k f := by
  refine ⟨?_, ?_, ?_, by rw [changeS_room]; exact h.room⟩
  · unfold changeS
    rw [if_neg (by rw [h.up]; simp)]
    split
    · exact h.up
    · rw [if_neg (by rw [h.wait]; simp)]; exact h.up
  · unfold changeS
    rw [if_neg (by rw [h.up]; simp)]
    split
    · exact h.wait
    · rw [if_neg (by rw [h.wait]; simp)]; exact h.wait
  · rcases changeS_fs s e f1 f2 with hh | hh | hh
    · rw [hh]; exact h.file
    · rw [hh]; exact h1
    · rw [hh]; exact h2
theorem calm_step {s : St} {k : List UInt8} {f : F} (h : Calm s k f) (x : ActV) (hx : bs x.name ≠ k) (hk : x.k % 9 < 6) : Calm (stepS s x) k f := by
  have hp := fun g => (look_put_other s.fs (bs x.name) k g (Ne.symm hx)).trans h.file
  have hd := (look_del_other s.fs (bs x.name) k (Ne.symm hx)).trans h.file
  unfold stepS
  split
  · exact calm_change h (hp _) (hp _)
  split
  · exact calm_change h (hp _) h.file
  split
  · exact calm_change h (hp _) h.file
  split
  · exact calm_change h (hp _) h.file
  split
  · exact calm_change h hd h.file
  split
  · exact h
  · omega
def ap1 (K a : List UInt8) : St := ⟨1073741824, [(K, ⟨a, 0, false⟩)], false, false, 0⟩
def ap2 (K a : List UInt8) : St := ⟨1073741824, [(K, ⟨a, a.length, true⟩)], false, false, 0⟩
def ap3 (K a b : List UInt8) : St := ⟨1073741824, [(K, ⟨a ++ b, a.length, true⟩)], false, false, 0⟩
theorem ae1 (K a : List UInt8) (h : a.length ≤ 8192) : appendS (newS 1073741824) K a = (0, ap1 K a) := by
  unfold appendS
  rw [if_neg (by show ¬ usedF [] + a.length > _; simp only [usedF, newS]; show ¬ 0 + a.length > 1073741824; omega), changeS_whole rfl rfl rfl]
  simp [brkS, newS, ap1, getF, look, F.zero, grown, putF]
theorem ae2 (K a : List UInt8) : syncS (ap1 K a) K = (0, ap2 K a) := by
  unfold syncS needE
  rw [if_pos (by simp [ap1, look]), changeS_whole rfl rfl rfl]
  simp [brkS, ap1, ap2, getF, look, syncedF, putF]
theorem ae3 (K a b : List UInt8) (ha : a.length ≤ 8192) (hb : b.length ≤ 8192) : appendS (ap2 K a) K b = (0, ap3 K a b) := by
  unfold appendS
  rw [if_neg (by simp only [usedF, ap2]; omega), changeS_whole rfl rfl rfl]
  simp [brkS, ap2, ap3, getF, look, grown, putF]
/-- the cells of a row of files told -/
theorem kept_row {w : World} {B : Nat} {a : Option Addr} {n c : Nat} {fs : Fs} {j : Nat} {p : List UInt8 × F} (h : w.ownsRow B 46 3 (.slice a n c) n (keptL fs)) (hp : fs[j]? = some p) :
    (∃ g, a = some ⟨g, 0, none⟩ ∧ n ≤ c ∧ w.cell? ⟨g, j * 3, none⟩ = some (.string (mk p.1)) ∧ w.cell? ⟨g, j * 3 + 1, none⟩ = some (.string (mk p.2.b)) ∧ w.cell? ⟨g, j * 3 + 2, none⟩ = some (.int .i64 (p.2.s : Int))) := by
  have hcell : ∀ (i : Nat) (u : Value), i < 3 → (keptC p)[i]? = some u → (keptL fs)[j * 3 + i]? = some u := by
    intro i u hi hu
    have : ∀ (l : Fs) (m : Nat), l[m]? = some p → (keptL l)[m * 3 + i]? = some u := by
      intro l
      induction l with
      | nil => intro m hm; simp at hm
      | cons q r ih =>
        intro m hm
        have e : keptL (q :: r) = keptC q ++ keptL r := by simp [keptL]
        rw [e]
        cases m with
        | zero =>
          simp only [List.getElem?_cons_zero, Option.some.injEq] at hm
          subst hm
          rw [Nat.zero_mul, Nat.zero_add, List.getElem?_append_left (by simp [keptC]; omega)]
          exact hu
        | succ m =>
          rw [List.getElem?_append_right (by simp [keptC]; omega), show (m + 1) * 3 + i - (keptC q).length = m * 3 + i by simp [keptC]; omega]
          exact ih m (by simpa using hm)
    exact this fs j hp
  obtain ⟨g, cap, e, hcap, _, _, k0⟩ := row_cell h (hcell 0 (.string (mk p.1)) (by omega) rfl)
  obtain ⟨g1, cap1, e1, _, _, _, k1⟩ := row_cell h (hcell 1 (.string (mk p.2.b)) (by omega) rfl)
  obtain ⟨g2, cap2, e2, _, _, _, k2⟩ := row_cell h (hcell 2 (.int .i64 (p.2.s : Int)) (by omega) rfl)
  cases e
  cases e1
  cases e2
  exact ⟨_, rfl, hcap, k0, k1, k2⟩
/-- an act that changes files, or reads one, in the law's own switch -/
theorem small_of {s : St} (hf : Fit s) (hr : s.room = 1073741824) (hc : s.fs.length ≤ 1099511627776) : Small s := ⟨hc, by have := hf.room; omega⟩
theorem disk_calls {S : Nat → Prop} {w : World} {db : Nat} {s : St} (h : DiskAt S w db s) (hS : ∀ k, w.heap.size ≤ k → S k) (hr : s.room = 1073741824) (hc : s.fs.length ≤ 1099511627776) (name b : ByteArray) (n : Int) (hn : name.size ≤ 281474976710656) (hb : b.size ≤ 9223372036854775807) :
    (Calls Try.prog 24 #[ptrV db, .string name, .string b] w fun e w' => e = .returned (.int .i64 (appendS s (bs name) (bs b)).1) ∧ DiskAt S w' db (appendS s (bs name) (bs b)).2 ∧ Kept S w w') ∧
    (Calls Try.prog 25 #[ptrV db, .string name] w fun e w' => e = .returned (.int .i64 (syncS s (bs name)).1) ∧ DiskAt S w' db (syncS s (bs name)).2 ∧ Kept S w w') ∧
    (Calls Try.prog 26 #[ptrV db, .string name, .int .i64 n] w fun e w' => e = .returned (.int .i64 (cutS s (bs name) n).1) ∧ DiskAt S w' db (cutS s (bs name) n).2 ∧ Kept S w w') ∧
    (Calls Try.prog 27 #[ptrV db, .string name, .string b] w fun e w' => e = .returned (.int .i64 (replaceS s (bs name) (bs b)).1) ∧ DiskAt S w' db (replaceS s (bs name) (bs b)).2 ∧ Kept S w w') ∧
    (Calls Try.prog 28 #[ptrV db, .string name] w fun e w' => e = .returned (.int .i64 (removeS s (bs name)).1) ∧ DiskAt S w' db (removeS s (bs name)).2 ∧ Kept S w w') := by
  have hm := small_of h.fit hr hc
  exact ⟨Append_gen h hS hm name b hn hb (fun hh => by omega), Sync_any h hS hm name hn, Cut_any h hS hm name n hn, Replace_any h hS hm name b hn hb, Remove_any h hS hm name hn⟩
set_option maxHeartbeats 8000000 in
set_option maxRecDepth 100000 in
theorem law_apart (v : Value) (l : List ActV) (name b : ByteArray) (w : World) (hl : ActsOff (From w.heap.size) w v l) (hln : l.length ≤ 9223372036854775807)
    (hkx : ∀ x ∈ l, x.keep.length ≤ 140737488355328 ∧ x.name.size ≤ 140737488355328 ∧ x.b.size ≤ 140737488355328 ∧ x.k < 256 ∧ -9223372036854775808 ≤ x.n ∧ x.n ≤ 9223372036854775807)
    (hn : name.size ≤ 9223372036854775807) (hb : b.size ≤ 9223372036854775807) :
    Calls Try.prog 7 #[v, .string name, .string b] w fun e w' => e = .returned (.bool true) ∧ Below w.heap.size w w' := by
  have hw := works_any w
  obtain ⟨va, vc, rfl⟩ := hl.slice
  have HL := Lib.hid hl
  have HX := Lib.hid hkx
  clear hl hkx
  go_enter Try.func7, Try.ntmps7
  go_wp2_with fail
  refine hw.mono ?_
  rintro e w00 ⟨rfl, b00⟩
  have hh := heavy_any (HL.out.kept (Kept.of_below b00)) hln (fun x hx => by obtain ⟨h1, h2, h3, _⟩ := HX.out x hx; exact ⟨by omega, by omega, by omega⟩)
  have B00 := Lib.hid b00
  clear b00 hw
  go_wp2_with fail
  refine hh.mono ?_
  rintro e w0 ⟨hv, rfl, hhv, b0⟩
  have K0 : Hid (Kept (From w.heap.size) w w0) := (Kept.of_below B00.out).trans (Kept.of_below b0)
  clear b0 hh B00
  have HHV := Lib.hid hhv
  clear hhv
  by_cases hguard : hv = false ∧ name.size ≤ 8192 ∧ b.size ≤ 8192
  · obtain ⟨rfl, hg2, hg3⟩ := hguard
    have hg2i : ¬ (8192 : Int) < (name.size : Int) := by omega
    have hg3i : ¬ (8192 : Int) < (b.size : Int) := by omega
    have hlen : l.length ≤ 401 := (HHV.out rfl).1
    go_wp2_with fail
    refine (New_any (S := From w.heap.size) w0 (fun k hk => Nat.le_trans K0.out.size hk) 1073741824 (by decide)).mono ?_
    rintro e w1 ⟨rfl, d1, b1⟩
    have D1 := Lib.hid d1
    have K1 : Hid (Kept (From w.heap.size) w w1) := K0.out.trans (Kept.of_below b1)
    clear d1 b1
    generalize hdb : w0.heap.size = db at *
    clear hdb
    go_wp2_with fail
    refine (New_any (S := fun k => w1.heap.size ≤ k) w1 (fun k hk => hk) 1073741824 (by decide)).mono ?_
    rintro e w2 ⟨rfl, d2, b2⟩
    have P2 : Hid (Pair (DiskQ db (newS 1073741824)) (DiskQ w1.heap.size (newS 1073741824)) (From w.heap.size) w2) := Pair.of (diskThing _ _) (diskThing _ _) D1.out b2 d2 (fun k hk => Nat.le_trans K1.out.size hk)
    have K2 : Hid (Kept (From w.heap.size) w w2) := K1.out.trans (Kept.of_below b2)
    clear d2 b2
    generalize hdb2 : w1.heap.size = d2 at *
    clear hdb2
    have hal : (bs b).length ≤ 8192 := by rw [bs_len]; exact hg3
    have HAL := Lib.hid hal
    clear hal
    go_wp2_with fail
    refine (Pair.step1 (diskThing _ _) (diskThing db (ap1 (bs name) (bs b))) (diskThing _ _) P2.out (fun k hk => Nat.le_trans K2.out.size hk) (X := fun e _ => e = .returned (.int .i64 0)) (fun T hT _ hq => by
      have h := Append_any hq hT ⟨by decide, by decide⟩ name b (by omega) (by omega)
      rw [ae1 _ _ HAL.out] at h
      exact h)).mono ?_
    rintro e w3 ⟨rfl, p3, k3⟩
    have P3 := Lib.hid p3
    have K3 := Lib.hid (K2.out.trans k3)
    clear p3 k3
    go_wp2_with fail
    refine (Pair.step1 (diskThing _ _) (diskThing db (ap2 (bs name) (bs b))) (diskThing _ _) P3.out (fun k hk => Nat.le_trans K3.out.size hk) (X := fun e _ => e = .returned (.int .i64 0)) (fun T hT _ hq => by
      have h := Sync_any hq hT ⟨by simp [ap1], by simp only [ap1, usedF]; have := HAL.out; omega⟩ name (by omega)
      rw [ae2] at h
      exact h)).mono ?_
    rintro e w4 ⟨rfl, p4, k4⟩
    have P4 := Lib.hid p4
    have K4 := Lib.hid (K3.out.trans k4)
    clear p4 k4
    go_wp2_with fail
    refine (Pair.step1 (diskThing _ _) (diskThing db (ap3 (bs name) (bs b) [63])) (diskThing _ _) P4.out (fun k hk => Nat.le_trans K4.out.size hk) (X := fun e _ => e = .returned (.int .i64 0)) (fun T hT _ hq => by
      have h := Append_any hq hT ⟨by simp [ap2], by simp only [ap2, usedF]; have := HAL.out; omega⟩ name ⟨#[63]⟩ (by omega) (by decide) (by simp only [ap2, usedF]; have := HAL.out; omega)
      rw [show bs ⟨#[63]⟩ = [63] from rfl, ae3 _ _ _ HAL.out (by decide)] at h
      exact h)).mono ?_
    rintro e w5 ⟨rfl, p5, k5⟩
    have P5 := Lib.hid p5
    have K5 := Lib.hid (K4.out.trans k5)
    clear p5 k5
    have hcalm : Calm (ap3 (bs name) (bs b) [63]) (bs name) ⟨bs b ++ [63], (bs b).length, true⟩ := ⟨rfl, rfl, by simp [ap3, look], rfl⟩
    have HCM := Lib.hid hcalm
    clear hcalm
    go_wp2
    go_loopw [11] (fun i wr => ∃ (k : Nat) (s s2 : St), k ≤ l.length ∧ i = .int .i64 k ∧ Pair (DiskQ db s) (DiskQ d2 s2) (From w.heap.size) wr ∧ Kept (From w.heap.size) w wr ∧ Calm s (bs name) ⟨bs b ++ [63], (bs b).length, true⟩ ∧ s.fs.length ≤ k + 1 ∧ s2.room = 1073741824 ∧ s2.fs.length ≤ k) (fun i _ => l.length - (intOf i).toNat)
    case atStart => exact ⟨0, _, _, by omega, rfl, P5.out, K5.out, HCM.out, by simp [ap3], rfl, by simp [newS]⟩
    case round =>
      obtain ⟨k, s, s2, hk1, rfl, hp, hkp, hcm, hfl, hr2, hfl2⟩ := hrel
      have HP := Lib.hid hp
      have HK := Lib.hid hkp
      have HC := Lib.hid hcm
      have HR2 := Lib.hid hr2
      have hBw : w.heap.size ≤ wr.heap.size := hkp.size
      clear hp hkp hcm hr2
      by_cases h1 : k < l.length
      · have h1i : (k : Int) < (l.length : Int) := by omega
        obtain ⟨x, hx⟩ : ∃ x, l[k]? = some x := ⟨l[k], List.getElem?_eq_getElem h1⟩
        obtain ⟨hx1, hx2, hx3, hx4, hx5, hx6⟩ := HX.out x (List.mem_of_getElem? hx)
        obtain ⟨ba, off, ka, kc, rfl, _, hcap, _, _, c0, c1, c2, c3, c4, _⟩ := act_get (HL.out.kept HK.out) hx
        clear hx
        have hba : Below wr.heap.size wr (wr.alloc (.cells #[.int .u8 (x.k : Int), .string x.name, .string x.b, .int .i64 x.n, .slice ka x.keep.length kc] 32)) := (Below.refl _ _).alloc (Nat.le_refl _) _
        have hPa : Pair (DiskQ db s) (DiskQ d2 s2) (fun k => w.heap.size ≤ k ∧ k ≠ wr.heap.size) (wr.alloc (.cells #[.int .u8 (x.k : Int), .string x.name, .string x.b, .int .i64 x.n, .slice ka x.keep.length kc] 32)) :=
          (pairThing (diskThing _ _) (diskThing _ _)).below ((pairThing (diskThing _ _) (diskThing _ _)).mono ((pairThing (diskThing _ _) (diskThing _ _)).tight HP.out) (fun j _ hj => ⟨hj.1, by have := hj.2; omega⟩)) hba
        have hsz : (wr.alloc (.cells #[.int .u8 (x.k : Int), .string x.name, .string x.b, .int .i64 x.n, .slice ka x.keep.length kc] 32)).heap.size = wr.heap.size + 1 := by simp
        have hrep := Pair.step2 (diskThing _ _) (diskThing _ _) (diskThing d2 (replaceS s2 (bs name) (bs x.b)).2) hPa (fun j hj => by rw [hsz] at hj; exact ⟨by omega, by omega⟩) (X := fun e _ => e = .returned (.int .i64 (replaceS s2 (bs name) (bs x.b)).1)) (fun T hT _ hq => (disk_calls hq hT HR2.out (by omega) name x.b 0 (by omega) (by omega)).2.2.2.1)
        have HREP := Lib.hid hrep
        have HBA := Lib.hid hba
        have HSZ := Lib.hid hsz
        clear hrep hba hPa hsz
        have hr3 : (replaceS s2 (bs name) (bs x.b)).2.room = 1073741824 := by unfold replaceS; rw [changeS_room]; exact HR2.out
        have hfl3 : (replaceS s2 (bs name) (bs x.b)).2.fs.length ≤ k + 1 := by
          rcases changeS_fs s2 (if usedF s2.fs + (bs x.b).length > s2.room + (getF s2.fs (bs name)).b.length then 40 else 0) (putF s2.fs (bs name) ⟨bs x.b, (bs x.b).length, true⟩) s2.fs with h | h | h
          · unfold replaceS; rw [h]; omega
          · unfold replaceS; rw [h]; have := length_put s2.fs (bs name) ⟨bs x.b, (bs x.b).length, true⟩; omega
          · unfold replaceS; rw [h]; omega
        generalize replaceS s2 (bs name) (bs x.b) = R2 at *
        go_wp2_with fail
        refine HREP.out.mono ?_
        rintro e w6 ⟨rfl, p6, k6⟩
        have a0 : w6.cell? ⟨wr.heap.size, 0, none⟩ = some (.int .u8 (x.k : Int)) := (cell_of 0 (k6.block wr.heap.size (by rw [HSZ.out]; omega) (fun h => h.2 rfl))).trans (by simp)
        have a1 : w6.cell? ⟨wr.heap.size, 1, none⟩ = some (.string x.name) := (cell_of 1 (k6.block wr.heap.size (by rw [HSZ.out]; omega) (fun h => h.2 rfl))).trans (by simp)
        have a2 : w6.cell? ⟨wr.heap.size, 2, none⟩ = some (.string x.b) := (cell_of 2 (k6.block wr.heap.size (by rw [HSZ.out]; omega) (fun h => h.2 rfl))).trans (by simp)
        have a3 : w6.cell? ⟨wr.heap.size, 3, none⟩ = some (.int .i64 x.n) := (cell_of 3 (k6.block wr.heap.size (by rw [HSZ.out]; omega) (fun h => h.2 rfl))).trans (by simp)
        have hBw6 : wr.heap.size + 1 ≤ w6.heap.size := by have := k6.size; rw [HSZ.out] at this; exact this
        have P6 := Lib.hid p6
        have K6 : Hid (Kept (From w.heap.size) w w6) := (HK.out.trans (Kept.of_below HBA.out)).trans (k6.mono (fun j _ hj => hj.1))
        clear p6 k6 HREP
        have back : ∀ (Q : (Nat → Prop) → World → Prop) (wz : World), Thing Q → Q (fun k => w.heap.size ≤ k ∧ k ≠ wr.heap.size) wz → Q (From w.heap.size) wz := fun Q wz t h => t.mono h (fun j _ hj => hj.1)
        have BACK := Lib.hid back
        clear back
        by_cases hne : x.name = name
        · have hnt := eqB hne
          go_wp2
          go_roundw
          case rel => exact ⟨k + 1, s, R2.2, by omega, by go_num, BACK.out _ _ (pairThing (diskThing _ _) (diskThing _ _)) P6.out, K6.out, HC.out, by omega, hr3, by omega⟩
          case measure => simp [intOf]; omega
        · have hnt := neB hne
          have hnb : bs x.name ≠ bs name := fun e => hne (ba_ext e)
          obtain ⟨r, hr⟩ : ∃ r, r = x.k % 9 := ⟨_, rfl⟩
          have hr9 : r < 9 := by omega
          have hst : Hid (x.k % 9 = r) := hr.symm
          have hit : ((x.k : Int)).tmod 9 = (r : Int) := by rw [Int.tmod_eq_emod_of_nonneg (by omega)]; omega
          clear hr
          have hfit : Hid (Fit s) := DiskAt.fit (Pair.fst (diskThing _ _) P6.out : DiskAt _ w6 db s)
          have hr10 : r = 0 ∨ r = 1 ∨ r = 2 ∨ r = 3 ∨ r = 4 ∨ r = 5 ∨ r = 6 ∨ r = 7 ∨ r = 8 := by omega
          clear hr9
          rcases hr10 with rfl | rfl | rfl | rfl | rfl | rfl | rfl | rfl | rfl
          · have hit0 : ((x.k : Int)).tmod 9 = 0 := hit
            clear hit
            have hse : stepS s x = (appendS s (bs x.name) (bs x.b)).2 := by unfold stepS; rw [if_pos hst.out]
            have hcl := Pair.step1 (diskThing _ _) (diskThing db (stepS s x)) (diskThing _ _) P6.out (fun j hj => ⟨by omega, by omega⟩) (X := fun e _ => e = .returned (.int .i64 (appendS s (bs x.name) (bs x.b)).1)) (fun T hT _ hq => by
              rw [hse]
              exact (disk_calls hq hT HC.out.room (by omega) x.name x.b x.n (by omega) (by omega)).1)
            have hcm' := calm_step HC.out x hnb (by rw [hst.out]; decide)
            have hcnt := (most_step ⟨hfl, Nat.le_refl _, hfit.out.keys⟩ hfit.out.sorted x (by omega)).count
            have HCL := Lib.hid hcl
            have HCM' := Lib.hid hcm'
            clear hcl hcm' hse
            generalize stepS s x = s' at *
            go_wp2_with fail
            refine HCL.out.mono ?_
            rintro e w7 ⟨rfl, p7, k7⟩
            have P7 := Lib.hid (BACK.out _ _ (pairThing (diskThing _ _) (diskThing _ _)) p7)
            have K7 : Hid (Kept (From w.heap.size) w w7) := K6.out.trans (k7.mono (fun j _ hj => hj.1))
            clear p7 k7
            go_wp2
            go_roundw
            case rel => exact ⟨k + 1, s', R2.2, by omega, by go_num, P7.out, K7.out, HCM'.out, by omega, hr3, by omega⟩
            case measure => simp [intOf]; omega
          · have hit0 : ((x.k : Int)).tmod 9 = 1 := hit
            clear hit
            have hse : stepS s x = (syncS s (bs x.name)).2 := by unfold stepS; rw [if_neg (by rw [hst.out]; decide)]; rw [if_pos hst.out]
            have hcl := Pair.step1 (diskThing _ _) (diskThing db (stepS s x)) (diskThing _ _) P6.out (fun j hj => ⟨by omega, by omega⟩) (X := fun e _ => e = .returned (.int .i64 (syncS s (bs x.name)).1)) (fun T hT _ hq => by
              rw [hse]
              exact (disk_calls hq hT HC.out.room (by omega) x.name x.b x.n (by omega) (by omega)).2.1)
            have hcm' := calm_step HC.out x hnb (by rw [hst.out]; decide)
            have hcnt := (most_step ⟨hfl, Nat.le_refl _, hfit.out.keys⟩ hfit.out.sorted x (by omega)).count
            have HCL := Lib.hid hcl
            have HCM' := Lib.hid hcm'
            clear hcl hcm' hse
            generalize stepS s x = s' at *
            go_wp2_with fail
            refine HCL.out.mono ?_
            rintro e w7 ⟨rfl, p7, k7⟩
            have P7 := Lib.hid (BACK.out _ _ (pairThing (diskThing _ _) (diskThing _ _)) p7)
            have K7 : Hid (Kept (From w.heap.size) w w7) := K6.out.trans (k7.mono (fun j _ hj => hj.1))
            clear p7 k7
            go_wp2
            go_roundw
            case rel => exact ⟨k + 1, s', R2.2, by omega, by go_num, P7.out, K7.out, HCM'.out, by omega, hr3, by omega⟩
            case measure => simp [intOf]; omega
          · have hit0 : ((x.k : Int)).tmod 9 = 2 := hit
            clear hit
            have hse : stepS s x = (cutS s (bs x.name) x.n).2 := by unfold stepS; rw [if_neg (by rw [hst.out]; decide)]; rw [if_neg (by rw [hst.out]; decide)]; rw [if_pos hst.out]
            have hcl := Pair.step1 (diskThing _ _) (diskThing db (stepS s x)) (diskThing _ _) P6.out (fun j hj => ⟨by omega, by omega⟩) (X := fun e _ => e = .returned (.int .i64 (cutS s (bs x.name) x.n).1)) (fun T hT _ hq => by
              rw [hse]
              exact (disk_calls hq hT HC.out.room (by omega) x.name x.b x.n (by omega) (by omega)).2.2.1)
            have hcm' := calm_step HC.out x hnb (by rw [hst.out]; decide)
            have hcnt := (most_step ⟨hfl, Nat.le_refl _, hfit.out.keys⟩ hfit.out.sorted x (by omega)).count
            have HCL := Lib.hid hcl
            have HCM' := Lib.hid hcm'
            clear hcl hcm' hse
            generalize stepS s x = s' at *
            go_wp2_with fail
            refine HCL.out.mono ?_
            rintro e w7 ⟨rfl, p7, k7⟩
            have P7 := Lib.hid (BACK.out _ _ (pairThing (diskThing _ _) (diskThing _ _)) p7)
            have K7 : Hid (Kept (From w.heap.size) w w7) := K6.out.trans (k7.mono (fun j _ hj => hj.1))
            clear p7 k7
            go_wp2
            go_roundw
            case rel => exact ⟨k + 1, s', R2.2, by omega, by go_num, P7.out, K7.out, HCM'.out, by omega, hr3, by omega⟩
            case measure => simp [intOf]; omega
          · have hit0 : ((x.k : Int)).tmod 9 = 3 := hit
            clear hit
            have hse : stepS s x = (replaceS s (bs x.name) (bs x.b)).2 := by unfold stepS; rw [if_neg (by rw [hst.out]; decide)]; rw [if_neg (by rw [hst.out]; decide)]; rw [if_neg (by rw [hst.out]; decide)]; rw [if_pos hst.out]
            have hcl := Pair.step1 (diskThing _ _) (diskThing db (stepS s x)) (diskThing _ _) P6.out (fun j hj => ⟨by omega, by omega⟩) (X := fun e _ => e = .returned (.int .i64 (replaceS s (bs x.name) (bs x.b)).1)) (fun T hT _ hq => by
              rw [hse]
              exact (disk_calls hq hT HC.out.room (by omega) x.name x.b x.n (by omega) (by omega)).2.2.2.1)
            have hcm' := calm_step HC.out x hnb (by rw [hst.out]; decide)
            have hcnt := (most_step ⟨hfl, Nat.le_refl _, hfit.out.keys⟩ hfit.out.sorted x (by omega)).count
            have HCL := Lib.hid hcl
            have HCM' := Lib.hid hcm'
            clear hcl hcm' hse
            generalize stepS s x = s' at *
            go_wp2_with fail
            refine HCL.out.mono ?_
            rintro e w7 ⟨rfl, p7, k7⟩
            have P7 := Lib.hid (BACK.out _ _ (pairThing (diskThing _ _) (diskThing _ _)) p7)
            have K7 : Hid (Kept (From w.heap.size) w w7) := K6.out.trans (k7.mono (fun j _ hj => hj.1))
            clear p7 k7
            go_wp2
            go_roundw
            case rel => exact ⟨k + 1, s', R2.2, by omega, by go_num, P7.out, K7.out, HCM'.out, by omega, hr3, by omega⟩
            case measure => simp [intOf]; omega
          · have hit0 : ((x.k : Int)).tmod 9 = 4 := hit
            clear hit
            have hse : stepS s x = (removeS s (bs x.name)).2 := by unfold stepS; rw [if_neg (by rw [hst.out]; decide)]; rw [if_neg (by rw [hst.out]; decide)]; rw [if_neg (by rw [hst.out]; decide)]; rw [if_neg (by rw [hst.out]; decide)]; rw [if_pos hst.out]
            have hcl := Pair.step1 (diskThing _ _) (diskThing db (stepS s x)) (diskThing _ _) P6.out (fun j hj => ⟨by omega, by omega⟩) (X := fun e _ => e = .returned (.int .i64 (removeS s (bs x.name)).1)) (fun T hT _ hq => by
              rw [hse]
              exact (disk_calls hq hT HC.out.room (by omega) x.name x.b x.n (by omega) (by omega)).2.2.2.2)
            have hcm' := calm_step HC.out x hnb (by rw [hst.out]; decide)
            have hcnt := (most_step ⟨hfl, Nat.le_refl _, hfit.out.keys⟩ hfit.out.sorted x (by omega)).count
            have HCL := Lib.hid hcl
            have HCM' := Lib.hid hcm'
            clear hcl hcm' hse
            generalize stepS s x = s' at *
            go_wp2_with fail
            refine HCL.out.mono ?_
            rintro e w7 ⟨rfl, p7, k7⟩
            have P7 := Lib.hid (BACK.out _ _ (pairThing (diskThing _ _) (diskThing _ _)) p7)
            have K7 : Hid (Kept (From w.heap.size) w w7) := K6.out.trans (k7.mono (fun j _ hj => hj.1))
            clear p7 k7
            go_wp2
            go_roundw
            case rel => exact ⟨k + 1, s', R2.2, by omega, by go_num, P7.out, K7.out, HCM'.out, by omega, hr3, by omega⟩
            case measure => simp [intOf]; omega
          · have hit0 : ((x.k : Int)).tmod 9 = 5 := hit
            clear hit
            have hrd := Read_any (Pair.fst (diskThing _ _) P6.out : DiskAt _ w6 db s) x.name (by omega)
            generalize readS s (bs x.name) = rd at *
            go_wp2_with fail
            refine hrd.mono ?_
            rintro e w7 ⟨rfl, b7⟩
            have P7 := Lib.hid ((pairThing (diskThing _ _) (diskThing _ _)).below (BACK.out _ _ (pairThing (diskThing _ _) (diskThing _ _)) P6.out) b7)
            have K7 : Hid (Kept (From w.heap.size) w w7) := K6.out.trans (Kept.of_below b7)
            clear b7 hrd
            go_wp2
            go_roundw
            case rel => exact ⟨k + 1, s, R2.2, by omega, by go_num, P7.out, K7.out, HC.out, by omega, hr3, by omega⟩
            case measure => simp [intOf]; omega
          · have hit0 : ((x.k : Int)).tmod 9 = 6 := hit
            clear hit
            go_wp2
            go_roundw
            case rel => exact ⟨k + 1, s, R2.2, by omega, by go_num, BACK.out _ _ (pairThing (diskThing _ _) (diskThing _ _)) P6.out, K6.out, HC.out, by omega, hr3, by omega⟩
            case measure => simp [intOf]; omega
          · have hit0 : ((x.k : Int)).tmod 9 = 7 := hit
            clear hit
            go_wp2
            go_roundw
            case rel => exact ⟨k + 1, s, R2.2, by omega, by go_num, BACK.out _ _ (pairThing (diskThing _ _) (diskThing _ _)) P6.out, K6.out, HC.out, by omega, hr3, by omega⟩
            case measure => simp [intOf]; omega
          · have hit0 : ((x.k : Int)).tmod 9 = 8 := hit
            clear hit
            go_wp2
            go_roundw
            case rel => exact ⟨k + 1, s, R2.2, by omega, by go_num, BACK.out _ _ (pairThing (diskThing _ _) (diskThing _ _)) P6.out, K6.out, HC.out, by omega, hr3, by omega⟩
            case measure => simp [intOf]; omega
      · have h1i : ¬ (k : Int) < (l.length : Int) := by omega
        have hda : DiskAt (From w.heap.size) wr db s := Pair.fst (diskThing _ _) HP.out
        have hrs : readS s (bs name) = (bs b ++ [63], 0) := by
          unfold readS
          rw [if_neg (by rw [HC.out.up]; simp), if_pos (by rw [HC.out.file]; rfl), getF_look HC.out.file]
        have hstr : mk (bs b ++ [63]) = b ++ ⟨#[63]⟩ := ba_ext (by rw [bs_mk, bs_cat])
        have hrd := Read_any hda name (by omega)
        rw [hrs, hstr] at hrd
        have HDA := Lib.hid hda
        have hszs : b.size + 1 ≤ 9223372036854775807 := by omega
        clear hrs hstr hda
        go_wp2_with fail
        refine hrd.mono ?_
        rintro e w6 ⟨rfl, b6⟩
        have HK6 := Lib.hid (Kept_any (HDA.out.below b6) (by omega))
        have K6 : Hid (Kept (From w.heap.size) w w6) := HK.out.trans (Kept.of_below b6)
        clear b6 hrd
        go_wp2_with fail
        refine HK6.out.mono ?_
        rintro e w7 ⟨kv, rfl, hrow, b7⟩
        obtain ⟨ra, rc, rfl⟩ := row_slice hrow
        have HR := Lib.hid hrow
        have B7 : Hid (Below w.heap.size w w7) := (K6.out.trans (Kept.of_below b7)).below (Nat.le_refl _) (fun _ h => h)
        have HFS := Lib.hid HDA.out.fit.sorted
        clear hrow b7 HK6
        go_wp2
        go_loopw [16, 17] (fun fo i wz => ∃ (j : Nat) (f : Bool), j ≤ s.fs.length ∧ i = .int .i64 j ∧ fo = .bool f ∧ wz = w7 ∧ ((∃ q, q < j ∧ (s.fs[q]?.map (·.1)) = some (bs name)) → f = true)) (fun fo i _ => s.fs.length - (intOf i).toNat)
        case atStart => exact ⟨0, false, by omega, rfl, rfl, rfl, fun ⟨q, hq, _⟩ => by omega⟩
        case round =>
          obtain ⟨j, f, hj, rfl, rfl, rfl, hf⟩ := hrel
          have HF := Lib.hid hf
          clear hf
          by_cases hj1 : j < s.fs.length
          · have hj1i : (j : Int) < (s.fs.length : Int) := by omega
            obtain ⟨p, hp⟩ : ∃ p, s.fs[j]? = some p := ⟨s.fs[j], List.getElem?_eq_getElem hj1⟩
            obtain ⟨g, rfl, hrc, k0, _, k2⟩ := kept_row HR.out hp
            have HPp := Lib.hid hp
            clear hp
            cases f with
            | true =>
              go_wp2
              go_roundw
              case rel => exact ⟨j + 1, true, by omega, by go_num, by first | rfl | simp, by first | rfl | trivial, fun _ => rfl⟩
              case measure => simp [intOf]; omega
            | false =>
              have hnp : ∀ q, q < j → ¬ (s.fs[q]?.map (·.1)) = some (bs name) := fun q hq h => by have := HF.out ⟨q, hq, h⟩; cases this
              have HNP := Lib.hid hnp
              clear hnp
              by_cases hpn : mk p.1 = name
              · have hpk : p.1 = bs name := by rw [← hpn, bs_mk]
                have hp2 : p.2 = ⟨bs b ++ [63], (bs b).length, true⟩ := by
                  have h1 := mem_look HFS.out (k := p.1) (f := p.2) (List.mem_of_getElem? HPp.out)
                  rw [hpk, HC.out.file] at h1
                  exact (Option.some.inj h1).symm
                have hps : ((p.2.s : Nat) : Int) = (b.size : Int) := by rw [hp2]; show (((bs b).length : Nat) : Int) = _; rw [bs_len]
                rw [hps] at k2
                have hnt := eqB hpn
                have hq : p.1 = name.toList := by rw [hpk, Lib.toList_data]
                clear hpk hp2 hps hpn
                go_wp2
                go_roundw
                case rel => exact ⟨j + 1, true, by omega, by go_num, by first | rfl | simp, by first | rfl | trivial, fun _ => rfl⟩
                case measure => simp [intOf]; omega
              · have hnt := neB hpn
                have hq : ¬ p.1 = name.toList := fun e => hpn (by rw [e, Lib.toList_data, mk_bs])
                have hq2 : (p.1 == name.toList) = false := by rw [beq_eq_false_iff_ne]; exact hq
                have HPN := Lib.hid hpn
                clear hpn
                go_wp2
                go_roundw
                case rel =>
                  refine ⟨j + 1, false, by omega, by go_num, by first | rfl | simp, by first | rfl | trivial, fun ⟨q, hq, he⟩ => ?_⟩
                  by_cases e : q = j
                  · subst e
                    rw [HPp.out] at he
                    exact absurd (by have := Option.some.inj he; rw [← mk_bs name, ← this]) HPN.out
                  · exact absurd he (HNP.out q (by omega))
                case measure => simp [intOf]; omega
          · have hfe : f = true := by
              refine HF.out ?_
              obtain ⟨q, hq⟩ := List.getElem?_of_mem (look_mem HC.out.file)
              exact ⟨q, by have := (List.getElem?_eq_some_iff.1 hq).1; omega, by rw [hq]; rfl⟩
            subst hfe
            have hj1i : ¬ (j : Int) < (s.fs.length : Int) := by omega
            go_wp2
            go_ret
            exact ⟨ret_bool (by first | rfl | simp), B7.out⟩
  · have HG := Lib.hid hguard
    have K0B := Lib.hid (K0.out.below (Nat.le_refl _) (fun _ h => h))
    clear hguard
    cases hv with
    | true =>
      go_wp2
      go_ret
      exact ⟨rfl, K0B.out⟩
    | false =>
      by_cases hg2 : name.size ≤ 8192
      · have hg3 : ¬ b.size ≤ 8192 := fun h => HG.out ⟨rfl, hg2, h⟩
        have hg2i : ¬ (8192 : Int) < (name.size : Int) := by omega
        have hg3i : (8192 : Int) < (b.size : Int) := by omega
        go_wp2
        go_ret
        exact ⟨rfl, K0B.out⟩
      · have hg2i : (8192 : Int) < (name.size : Int) := by omega
        go_wp2
        go_ret
        exact ⟨rfl, K0B.out⟩
end Go.Proofs.Ytaepjknmedemgaa
