/- One act at a disk and at the document's: the same answers, the same files. Printed by gendoes.py. -/
import Derived.Test.YtnffjoflkeagfaaSame
import Derived.Test.YtnffjoflkeagfaaRef13
import Derived.Deep.RegionHeld3
namespace Go.Proofs.Ytnffjoflkeagfaa
open Go.RowKit Go.Maps

abbrev BothQ (db rb : Nat) (s : St) : (Nat → Prop) → World → Prop := Pair (DiskQ db s) (RefQ rb s)
theorem bothThing (db rb : Nat) (s : St) : Thing (BothQ db rb s) := pairThing (diskThing _ _) (refThing _ _)
theorem Kept.cell {S : Nat → Prop} {w w' : World} (h : Kept S w w') {b j : Nat} (hl : b < w.heap.size) (hn : ¬ S b) : w'.cell? ⟨b, j, none⟩ = w.cell? ⟨b, j, none⟩ := World.cell?_of_block (a := ⟨b, j, none⟩) (h.block b hl hn)
theorem both_step {S : Nat → Prop} {w : World} {db rb : Nat} {s s' : St} {a : Int} (h : BothQ db rb s S w) (hS : ∀ k, w.heap.size ≤ k → S k) {f g : FuncId} {x y : Array Value}
    (h1 : ∀ (T : Nat → Prop) w', DiskAt T w' db s → (∀ k, w'.heap.size ≤ k → T k) → Calls Try.prog f x w' fun e w'' => e = .returned (.int .i64 a) ∧ DiskAt T w'' db s' ∧ Kept T w' w'')
    (h2 : ∀ (T : Nat → Prop) w', RefAt T w' rb s → (∀ k, w'.heap.size ≤ k → T k) → Calls Try.prog g y w' fun e w'' => e = .returned (.int .i64 a) ∧ RefAt T w'' rb s' ∧ Kept T w' w'') :
    Calls Try.prog f x w fun e w' => e = .returned (.int .i64 a) ∧ Kept S w w' ∧ Calls Try.prog g y w' fun e w'' => e = .returned (.int .i64 a) ∧ BothQ db rb s' S w'' ∧ Kept S w w'' := by
  refine (Pair.step1 (diskThing _ _) (diskThing db s') (refThing _ _) h hS (X := fun e _ => e = .returned (.int .i64 a)) (fun T hT _ hq => h1 T _ hq hT)).mono ?_
  rintro e w' ⟨he, p1, k1⟩
  refine ⟨he, k1, (Pair.step2 (diskThing _ _) (refThing _ _) (refThing rb s') p1 (fun k hk => hS k (Nat.le_trans k1.size hk)) (X := fun e _ => e = .returned (.int .i64 a)) (fun T hT _ hq => h2 T _ hq hT)).mono ?_⟩
  rintro e w'' ⟨he, p2, k2⟩
  exact ⟨he, p2, k1.trans k2⟩
theorem both_step0 {S : Nat → Prop} {w : World} {db rb : Nat} {s s' : St} (h : BothQ db rb s S w) (hS : ∀ k, w.heap.size ≤ k → S k) {f g : FuncId} {x y : Array Value}
    (h1 : ∀ (T : Nat → Prop) w', (∀ k, T k → S k) → w.heap.size ≤ w'.heap.size → Kept S w w' → DiskAt T w' db s → (∀ k, w'.heap.size ≤ k → T k) → Calls Try.prog f x w' fun e w'' => e = .returned (.tuple #[]) ∧ DiskAt T w'' db s' ∧ Kept T w' w'')
    (h2 : ∀ (T : Nat → Prop) w', (∀ k, T k → S k) → w.heap.size ≤ w'.heap.size → Kept S w w' → RefAt T w' rb s → (∀ k, w'.heap.size ≤ k → T k) → Calls Try.prog g y w' fun e w'' => e = .returned (.tuple #[]) ∧ RefAt T w'' rb s' ∧ Kept T w' w'') :
    Calls Try.prog f x w fun e w' => e = .returned (.tuple #[]) ∧ Kept S w w' ∧ Calls Try.prog g y w' fun e w'' => e = .returned (.tuple #[]) ∧ BothQ db rb s' S w'' ∧ Kept S w w'' := by
  refine (Pair.step1 (diskThing _ _) (diskThing db s') (refThing _ _) h hS (X := fun e _ => e = .returned (.tuple #[])) (fun T hT hTS hq => h1 T _ hTS (Nat.le_refl _) (Kept.refl _ _) hq hT)).mono ?_
  rintro e w' ⟨he, p1, k1⟩
  refine ⟨he, k1, (Pair.step2 (diskThing _ _) (refThing _ _) (refThing rb s') p1 (fun k hk => hS k (Nat.le_trans k1.size hk)) (X := fun e _ => e = .returned (.tuple #[])) (fun T hT hTS hq => h2 T _ hTS k1.size k1 hq hT)).mono ?_⟩
  rintro e w'' ⟨he, p2, k2⟩
  exact ⟨he, p2, k1.trans k2⟩
set_option maxHeartbeats 8000000 in
set_option maxRecDepth 100000 in
theorem does_any {S : Nat → Prop} {w : World} {db rb : Nat} {s : St} (h : BothQ db rb s S w) (hS : ∀ k, w.heap.size ≤ k → S k) (x : ActV) (hk : x.k < 256) (hn : x.name.size ≤ 140737488355328) (hb : x.b.size ≤ 140737488355328) (hx5 : -9223372036854775808 ≤ x.n) (hx6 : x.n ≤ 9223372036854775807) (hkn : x.keep.length ≤ 140737488355328)
    (hcnt : s.fs.length ≤ 1099511627776) (hbig : usedF s.fs + x.b.size ≤ 140737488355328) (hkeys : ∀ p ∈ s.fs, p.1.length ≤ 281474976710656) (hko : ListOff S w x.kv x.keep.length (x.keep.map (fun z => Value.int .i64 z))) :
    Calls Try.prog 12 #[ptrV db, ptrV rb, .agg #[.int .u8 (x.k : Int), .string x.name, .string x.b, .int .i64 x.n, x.kv]] w fun e w' => e = .returned (.bool true) ∧ BothQ db rb (stepS s x) S w' ∧ Kept S w w' := by
  have hm : Hid (Small s) := ⟨hcnt, by omega⟩
  have HBG : Hid (usedF s.fs + x.b.size ≤ 140737488355328) := hbig
  have HKY := Lib.hid hkeys
  have HKO := Lib.hid hko
  obtain ⟨_, ka, kc, hkv, _⟩ := hko
  rw [hkv] at HKO
  rw [hkv]
  clear hbig hkeys
  obtain ⟨XO, hXO⟩ : ∃ o : Obj, o = .cells #[.int .u8 (x.k : Int), .string x.name, .string x.b, .int .i64 x.n, .slice ka x.keep.length kc] 32 := ⟨_, rfl⟩
  have P1 : Hid (BothQ db rb s (fun k => S k ∧ k ≠ w.heap.size) (w.alloc XO)) := by
    show BothQ _ _ _ _ _
    refine (bothThing db rb s).below ((bothThing db rb s).mono h (fun k hl hk => ⟨hk, by omega⟩)) ((Below.refl _ _).alloc (Nat.le_refl _) _)
  have HS1 : Hid (∀ w', Below (w.heap.size + 1) (w.alloc XO) w' → ∀ k, w'.heap.size ≤ k → S k ∧ k ≠ w.heap.size) := fun w' hb k hk => by
    have := hb.size; simp at this; exact ⟨hS k (by omega), by omega⟩
  have KB : Hid (∀ w', Kept (fun k => S k ∧ k ≠ w.heap.size) (w.alloc XO) w' → Kept S w w') := fun w' hk => ((Kept.refl S w).alloc XO).trans (hk.mono (fun _ _ h => h.1))
  have HC : Hid (∀ w', Kept (fun k => S k ∧ k ≠ w.heap.size) (w.alloc XO) w' → w'.cell? ⟨w.heap.size, 1, none⟩ = some (.string x.name) ∧ w'.cell? ⟨w.heap.size, 2, none⟩ = some (.string x.b) ∧ w'.cell? ⟨w.heap.size, 3, none⟩ = some (.int .i64 x.n) ∧ w'.cell? ⟨w.heap.size, 4, none⟩ = some (.slice ka x.keep.length kc)) := fun w' hk => by
    have e : ∀ j, w'.cell? ⟨w.heap.size, j, none⟩ = (w.alloc XO).cell? ⟨w.heap.size, j, none⟩ := fun j => hk.cell (by simp) (fun h => h.2 rfl)
    rw [e, e, e, e, hXO]
    simp
  have BK : Hid (∀ s', (s' = stepS s x) → ∀ w', BothQ db rb s' (fun k => S k ∧ k ≠ w.heap.size) w' → BothQ db rb (stepS s x) S w') := fun s' e w' hh => by rw [← e]; exact (bothThing db rb s').mono hh (fun _ _ h => h.1)
  have HKO1 : Hid (ListOff S (w.alloc XO) (.slice ka x.keep.length kc) x.keep.length (x.keep.map (fun z => Value.int .i64 z))) := HKO.out.kept ((Kept.refl S w).alloc XO)
  clear h hS HKO hkv
  obtain ⟨r, hr⟩ : ∃ r, r = x.k % 9 := ⟨_, rfl⟩
  have hr9 : r < 9 := by omega
  have hst : Hid (x.k % 9 = r) := hr.symm
  have hit : ((x.k : Int)).tmod 9 = (r : Int) := by rw [Int.tmod_eq_emod_of_nonneg (by omega)]; omega
  clear hr
  have hr10 : r = 0 ∨ r = 1 ∨ r = 2 ∨ r = 3 ∨ r = 4 ∨ r = 5 ∨ r = 6 ∨ r = 7 ∨ r = 8 := by omega
  clear hr9
  rcases hr10 with rfl | rfl | rfl | rfl | rfl | rfl | rfl | rfl | rfl
  · have hit0 : ((x.k : Int)).tmod 9 = 0 := hit
    clear hit
    have hse : Hid ((appendS s (bs x.name) (bs x.b)).2 = stepS s x) := by show _ = _; unfold stepS; rw [if_pos hst.out]
    have hcall : ∀ w', w' = (w.alloc XO).drew → Calls Try.prog 31 #[ptrV db, .string x.name, .string x.b] w' fun e w'' => e = .returned (.int .i64 (appendS s (bs x.name) (bs x.b)).1) ∧ Kept (fun k => S k ∧ k ≠ w.heap.size) (w.alloc XO) w'' ∧ Calls Try.prog 34 #[ptrV rb, .string x.name, .string x.b] w'' fun e w3 => e = .returned (.int .i64 (appendS s (bs x.name) (bs x.b)).1) ∧ BothQ db rb (appendS s (bs x.name) (bs x.b)).2 (fun k => S k ∧ k ≠ w.heap.size) w3 ∧ Kept (fun k => S k ∧ k ≠ w.heap.size) (w.alloc XO) w3 := by
      rintro w' rfl
      have KD : Kept (fun k => S k ∧ k ≠ w.heap.size) (w.alloc XO) (w.alloc XO).drew := (Kept.refl _ _).drewN 1
      refine (both_step (w := (w.alloc XO).drew) ((bothThing db rb s).below P1.out ((Below.refl _ _).drew)) (HS1.out _ ((Below.refl _ _).drew)) (fun T w' hq hT => Append_gen hq hT hm.out x.name x.b (by omega) (by omega) (fun _ => HBG.out)) (fun T w' hq hT => refAppend_any hq hT hm.out.count x.name x.b (by omega) (by have := HBG.out; omega))).mono ?_
      rintro e w'' ⟨he, k1, c1⟩
      exact ⟨he, KD.trans k1, c1.mono (fun e w3 hh => ⟨hh.1, hh.2.1, KD.trans hh.2.2⟩)⟩
    have HCALL := Lib.hid hcall
    have h00 := HC.out _ (Kept.refl _ _)
    obtain ⟨i1, i2, i3, i4⟩ := h00
    subst hXO
    clear hcall i4
    generalize appendS s (bs x.name) (bs x.b) = R at *
    go_enter Try.func12, Try.ntmps12
    go_wp2_with fail
    go_region_held3 (fun w' => w'.cell? ⟨w.heap.size, 1, none⟩ = some (.string x.name) ∧ w'.cell? ⟨w.heap.size, 2, none⟩ = some (.string x.b))
      (first
        | exact ⟨i1, i2⟩
        | exact HM2.out
        | exact HM1.out)
      (first
        | (go_at_call 31; refine (HCALL.out _ rfl).mono ?_; rintro e w1 ⟨rfl, k1, c1⟩; obtain ⟨m1, m2, m3, m4⟩ := HC.out _ k1; have HM1 := Lib.hid (show w1.cell? ⟨w.heap.size, 1, none⟩ = some (.string x.name) ∧ w1.cell? ⟨w.heap.size, 2, none⟩ = some (.string x.b) from ⟨m1, m2⟩); have HC1 := Lib.hid c1; clear k1 c1 m1 m2 m3 m4 HCALL)
        | (go_at_call 34; refine HC1.out.mono ?_; rintro e w2 ⟨rfl, p2, k2⟩; obtain ⟨m1, m2, m3, m4⟩ := HC.out _ k2; have HM2 := Lib.hid (show w2.cell? ⟨w.heap.size, 1, none⟩ = some (.string x.name) ∧ w2.cell? ⟨w.heap.size, 2, none⟩ = some (.string x.b) from ⟨m1, m2⟩); have P2 := Lib.hid p2; have K2 := Lib.hid k2; clear p2 k2 m1 m2 m3 m4 HC1))
    all_goals
      go_wp2
      go_ret
      exact ⟨ret_bool (by simp), BK.out _ hse.out _ P2.out, KB.out _ K2.out⟩
  · have hit0 : ((x.k : Int)).tmod 9 = 1 := hit
    clear hit
    have hse : Hid ((syncS s (bs x.name)).2 = stepS s x) := by show _ = _; unfold stepS; rw [if_neg (by rw [hst.out]; decide)]; rw [if_pos hst.out]
    have hcall : ∀ w', w' = (w.alloc XO).drew → Calls Try.prog 32 #[ptrV db, .string x.name] w' fun e w'' => e = .returned (.int .i64 (syncS s (bs x.name)).1) ∧ Kept (fun k => S k ∧ k ≠ w.heap.size) (w.alloc XO) w'' ∧ Calls Try.prog 35 #[ptrV rb, .string x.name] w'' fun e w3 => e = .returned (.int .i64 (syncS s (bs x.name)).1) ∧ BothQ db rb (syncS s (bs x.name)).2 (fun k => S k ∧ k ≠ w.heap.size) w3 ∧ Kept (fun k => S k ∧ k ≠ w.heap.size) (w.alloc XO) w3 := by
      rintro w' rfl
      have KD : Kept (fun k => S k ∧ k ≠ w.heap.size) (w.alloc XO) (w.alloc XO).drew := (Kept.refl _ _).drewN 1
      refine (both_step (w := (w.alloc XO).drew) ((bothThing db rb s).below P1.out ((Below.refl _ _).drew)) (HS1.out _ ((Below.refl _ _).drew)) (fun T w' hq hT => Sync_any hq hT hm.out x.name (by omega)) (fun T w' hq hT => refSync_any hq hm.out.count x.name (by omega))).mono ?_
      rintro e w'' ⟨he, k1, c1⟩
      exact ⟨he, KD.trans k1, c1.mono (fun e w3 hh => ⟨hh.1, hh.2.1, KD.trans hh.2.2⟩)⟩
    have HCALL := Lib.hid hcall
    have h00 := HC.out _ (Kept.refl _ _)
    obtain ⟨i1, i2, i3, i4⟩ := h00
    subst hXO
    clear hcall i4
    generalize syncS s (bs x.name) = R at *
    go_enter Try.func12, Try.ntmps12
    go_wp2_with fail
    go_region_held3 (fun w' => w'.cell? ⟨w.heap.size, 1, none⟩ = some (.string x.name))
      (first
        | exact i1
        | exact HM2.out
        | exact HM1.out)
      (first
        | (go_at_call 32; refine (HCALL.out _ rfl).mono ?_; rintro e w1 ⟨rfl, k1, c1⟩; obtain ⟨m1, m2, m3, m4⟩ := HC.out _ k1; have HM1 := Lib.hid (show w1.cell? ⟨w.heap.size, 1, none⟩ = some (.string x.name) from m1); have HC1 := Lib.hid c1; clear k1 c1 m1 m2 m3 m4 HCALL)
        | (go_at_call 35; refine HC1.out.mono ?_; rintro e w2 ⟨rfl, p2, k2⟩; obtain ⟨m1, m2, m3, m4⟩ := HC.out _ k2; have HM2 := Lib.hid (show w2.cell? ⟨w.heap.size, 1, none⟩ = some (.string x.name) from m1); have P2 := Lib.hid p2; have K2 := Lib.hid k2; clear p2 k2 m1 m2 m3 m4 HC1))
    all_goals
      go_wp2
      go_ret
      exact ⟨ret_bool (by simp), BK.out _ hse.out _ P2.out, KB.out _ K2.out⟩
  · have hit0 : ((x.k : Int)).tmod 9 = 2 := hit
    clear hit
    have hse : Hid ((cutS s (bs x.name) x.n).2 = stepS s x) := by show _ = _; unfold stepS; rw [if_neg (by rw [hst.out]; decide)]; rw [if_neg (by rw [hst.out]; decide)]; rw [if_pos hst.out]
    have hcall : ∀ w', w' = (w.alloc XO).drew → Calls Try.prog 30 #[ptrV db, .string x.name, .int .i64 x.n] w' fun e w'' => e = .returned (.int .i64 (cutS s (bs x.name) x.n).1) ∧ Kept (fun k => S k ∧ k ≠ w.heap.size) (w.alloc XO) w'' ∧ Calls Try.prog 36 #[ptrV rb, .string x.name, .int .i64 x.n] w'' fun e w3 => e = .returned (.int .i64 (cutS s (bs x.name) x.n).1) ∧ BothQ db rb (cutS s (bs x.name) x.n).2 (fun k => S k ∧ k ≠ w.heap.size) w3 ∧ Kept (fun k => S k ∧ k ≠ w.heap.size) (w.alloc XO) w3 := by
      rintro w' rfl
      have KD : Kept (fun k => S k ∧ k ≠ w.heap.size) (w.alloc XO) (w.alloc XO).drew := (Kept.refl _ _).drewN 1
      refine (both_step (w := (w.alloc XO).drew) ((bothThing db rb s).below P1.out ((Below.refl _ _).drew)) (HS1.out _ ((Below.refl _ _).drew)) (fun T w' hq hT => Cut_any hq hT hm.out x.name x.n (by omega)) (fun T w' hq hT => refCut_any hq hm.out.count x.name (by omega) x.n)).mono ?_
      rintro e w'' ⟨he, k1, c1⟩
      exact ⟨he, KD.trans k1, c1.mono (fun e w3 hh => ⟨hh.1, hh.2.1, KD.trans hh.2.2⟩)⟩
    have HCALL := Lib.hid hcall
    have h00 := HC.out _ (Kept.refl _ _)
    obtain ⟨i1, i2, i3, i4⟩ := h00
    subst hXO
    clear hcall i4
    generalize cutS s (bs x.name) x.n = R at *
    go_enter Try.func12, Try.ntmps12
    go_wp2_with fail
    go_region_held3 (fun w' => w'.cell? ⟨w.heap.size, 1, none⟩ = some (.string x.name) ∧ w'.cell? ⟨w.heap.size, 3, none⟩ = some (.int .i64 x.n))
      (first
        | exact ⟨i1, i3⟩
        | exact HM2.out
        | exact HM1.out)
      (first
        | (go_at_call 30; refine (HCALL.out _ rfl).mono ?_; rintro e w1 ⟨rfl, k1, c1⟩; obtain ⟨m1, m2, m3, m4⟩ := HC.out _ k1; have HM1 := Lib.hid (show w1.cell? ⟨w.heap.size, 1, none⟩ = some (.string x.name) ∧ w1.cell? ⟨w.heap.size, 3, none⟩ = some (.int .i64 x.n) from ⟨m1, m3⟩); have HC1 := Lib.hid c1; clear k1 c1 m1 m2 m3 m4 HCALL)
        | (go_at_call 36; refine HC1.out.mono ?_; rintro e w2 ⟨rfl, p2, k2⟩; obtain ⟨m1, m2, m3, m4⟩ := HC.out _ k2; have HM2 := Lib.hid (show w2.cell? ⟨w.heap.size, 1, none⟩ = some (.string x.name) ∧ w2.cell? ⟨w.heap.size, 3, none⟩ = some (.int .i64 x.n) from ⟨m1, m3⟩); have P2 := Lib.hid p2; have K2 := Lib.hid k2; clear p2 k2 m1 m2 m3 m4 HC1))
    all_goals
      go_wp2
      go_ret
      exact ⟨ret_bool (by simp), BK.out _ hse.out _ P2.out, KB.out _ K2.out⟩
  · have hit0 : ((x.k : Int)).tmod 9 = 3 := hit
    clear hit
    have hse : Hid ((replaceS s (bs x.name) (bs x.b)).2 = stepS s x) := by show _ = _; unfold stepS; rw [if_neg (by rw [hst.out]; decide)]; rw [if_neg (by rw [hst.out]; decide)]; rw [if_neg (by rw [hst.out]; decide)]; rw [if_pos hst.out]
    have hcall : ∀ w', w' = (w.alloc XO).drew → Calls Try.prog 37 #[ptrV db, .string x.name, .string x.b] w' fun e w'' => e = .returned (.int .i64 (replaceS s (bs x.name) (bs x.b)).1) ∧ Kept (fun k => S k ∧ k ≠ w.heap.size) (w.alloc XO) w'' ∧ Calls Try.prog 38 #[ptrV rb, .string x.name, .string x.b] w'' fun e w3 => e = .returned (.int .i64 (replaceS s (bs x.name) (bs x.b)).1) ∧ BothQ db rb (replaceS s (bs x.name) (bs x.b)).2 (fun k => S k ∧ k ≠ w.heap.size) w3 ∧ Kept (fun k => S k ∧ k ≠ w.heap.size) (w.alloc XO) w3 := by
      rintro w' rfl
      have KD : Kept (fun k => S k ∧ k ≠ w.heap.size) (w.alloc XO) (w.alloc XO).drew := (Kept.refl _ _).drewN 1
      refine (both_step (w := (w.alloc XO).drew) ((bothThing db rb s).below P1.out ((Below.refl _ _).drew)) (HS1.out _ ((Below.refl _ _).drew)) (fun T w' hq hT => Replace_any hq hT hm.out x.name x.b (by omega) (by omega)) (fun T w' hq hT => refReplace_any hq hT hm.out.count x.name x.b (by omega) (by have := HBG.out; omega))).mono ?_
      rintro e w'' ⟨he, k1, c1⟩
      exact ⟨he, KD.trans k1, c1.mono (fun e w3 hh => ⟨hh.1, hh.2.1, KD.trans hh.2.2⟩)⟩
    have HCALL := Lib.hid hcall
    have h00 := HC.out _ (Kept.refl _ _)
    obtain ⟨i1, i2, i3, i4⟩ := h00
    subst hXO
    clear hcall i4
    generalize replaceS s (bs x.name) (bs x.b) = R at *
    go_enter Try.func12, Try.ntmps12
    go_wp2_with fail
    go_region_held3 (fun w' => w'.cell? ⟨w.heap.size, 1, none⟩ = some (.string x.name) ∧ w'.cell? ⟨w.heap.size, 2, none⟩ = some (.string x.b))
      (first
        | exact ⟨i1, i2⟩
        | exact HM2.out
        | exact HM1.out)
      (first
        | (go_at_call 37; refine (HCALL.out _ rfl).mono ?_; rintro e w1 ⟨rfl, k1, c1⟩; obtain ⟨m1, m2, m3, m4⟩ := HC.out _ k1; have HM1 := Lib.hid (show w1.cell? ⟨w.heap.size, 1, none⟩ = some (.string x.name) ∧ w1.cell? ⟨w.heap.size, 2, none⟩ = some (.string x.b) from ⟨m1, m2⟩); have HC1 := Lib.hid c1; clear k1 c1 m1 m2 m3 m4 HCALL)
        | (go_at_call 38; refine HC1.out.mono ?_; rintro e w2 ⟨rfl, p2, k2⟩; obtain ⟨m1, m2, m3, m4⟩ := HC.out _ k2; have HM2 := Lib.hid (show w2.cell? ⟨w.heap.size, 1, none⟩ = some (.string x.name) ∧ w2.cell? ⟨w.heap.size, 2, none⟩ = some (.string x.b) from ⟨m1, m2⟩); have P2 := Lib.hid p2; have K2 := Lib.hid k2; clear p2 k2 m1 m2 m3 m4 HC1))
    all_goals
      go_wp2
      go_ret
      exact ⟨ret_bool (by simp), BK.out _ hse.out _ P2.out, KB.out _ K2.out⟩
  · have hit0 : ((x.k : Int)).tmod 9 = 4 := hit
    clear hit
    have hse : Hid ((removeS s (bs x.name)).2 = stepS s x) := by show _ = _; unfold stepS; rw [if_neg (by rw [hst.out]; decide)]; rw [if_neg (by rw [hst.out]; decide)]; rw [if_neg (by rw [hst.out]; decide)]; rw [if_neg (by rw [hst.out]; decide)]; rw [if_pos hst.out]
    have hcall : ∀ w', w' = (w.alloc XO).drew → Calls Try.prog 39 #[ptrV db, .string x.name] w' fun e w'' => e = .returned (.int .i64 (removeS s (bs x.name)).1) ∧ Kept (fun k => S k ∧ k ≠ w.heap.size) (w.alloc XO) w'' ∧ Calls Try.prog 40 #[ptrV rb, .string x.name] w'' fun e w3 => e = .returned (.int .i64 (removeS s (bs x.name)).1) ∧ BothQ db rb (removeS s (bs x.name)).2 (fun k => S k ∧ k ≠ w.heap.size) w3 ∧ Kept (fun k => S k ∧ k ≠ w.heap.size) (w.alloc XO) w3 := by
      rintro w' rfl
      have KD : Kept (fun k => S k ∧ k ≠ w.heap.size) (w.alloc XO) (w.alloc XO).drew := (Kept.refl _ _).drewN 1
      refine (both_step (w := (w.alloc XO).drew) ((bothThing db rb s).below P1.out ((Below.refl _ _).drew)) (HS1.out _ ((Below.refl _ _).drew)) (fun T w' hq hT => Remove_any hq hT hm.out x.name (by omega)) (fun T w' hq hT => refRemove_any hq hT hm.out.count x.name)).mono ?_
      rintro e w'' ⟨he, k1, c1⟩
      exact ⟨he, KD.trans k1, c1.mono (fun e w3 hh => ⟨hh.1, hh.2.1, KD.trans hh.2.2⟩)⟩
    have HCALL := Lib.hid hcall
    have h00 := HC.out _ (Kept.refl _ _)
    obtain ⟨i1, i2, i3, i4⟩ := h00
    subst hXO
    clear hcall i4
    generalize removeS s (bs x.name) = R at *
    go_enter Try.func12, Try.ntmps12
    go_wp2_with fail
    go_region_held3 (fun w' => w'.cell? ⟨w.heap.size, 1, none⟩ = some (.string x.name))
      (first
        | exact i1
        | exact HM2.out
        | exact HM1.out)
      (first
        | (go_at_call 39; refine (HCALL.out _ rfl).mono ?_; rintro e w1 ⟨rfl, k1, c1⟩; obtain ⟨m1, m2, m3, m4⟩ := HC.out _ k1; have HM1 := Lib.hid (show w1.cell? ⟨w.heap.size, 1, none⟩ = some (.string x.name) from m1); have HC1 := Lib.hid c1; clear k1 c1 m1 m2 m3 m4 HCALL)
        | (go_at_call 40; refine HC1.out.mono ?_; rintro e w2 ⟨rfl, p2, k2⟩; obtain ⟨m1, m2, m3, m4⟩ := HC.out _ k2; have HM2 := Lib.hid (show w2.cell? ⟨w.heap.size, 1, none⟩ = some (.string x.name) from m1); have P2 := Lib.hid p2; have K2 := Lib.hid k2; clear p2 k2 m1 m2 m3 m4 HC1))
    all_goals
      go_wp2
      go_ret
      exact ⟨ret_bool (by simp), BK.out _ hse.out _ P2.out, KB.out _ K2.out⟩
  · have hit0 : ((x.k : Int)).tmod 9 = 5 := hit
    clear hit
    have hse : Hid (s = stepS s x) := by show _ = _; unfold stepS; rw [if_neg (by rw [hst.out]; decide)]; rw [if_neg (by rw [hst.out]; decide)]; rw [if_neg (by rw [hst.out]; decide)]; rw [if_neg (by rw [hst.out]; decide)]; rw [if_neg (by rw [hst.out]; decide)]; rw [if_pos hst.out]
    obtain ⟨i1, i2, i3, i4⟩ := HC.out _ (Kept.refl _ _)
    have hrd := Read_any (Pair.fst (diskThing _ _) P1.out : DiskAt _ (w.alloc XO) db s) x.name (by omega)
    have hrr := fun w' hb => refRead_any (((bothThing db rb s).below P1.out hb |> Pair.snd (refThing _ _)) : RefAt _ w' rb s) hm.out.count x.name
    have HRR := Lib.hid hrr
    subst hXO
    clear hrr
    generalize readS s (bs x.name) = R at *
    go_enter Try.func12, Try.ntmps12
    go_wp2_with fail
    refine hrd.mono ?_
    rintro e w1 ⟨rfl, b1⟩
    have j1 := (HC.out _ (Kept.of_below b1)).1
    have hr1 := HRR.out _ b1
    have B1 := Lib.hid b1
    clear b1 hrd HRR
    go_wp2_with fail
    refine hr1.mono ?_
    rintro e w2 ⟨rfl, rfl⟩
    go_wp2
    go_ret
    exact ⟨ret_bool (by simp), BK.out _ hse.out _ ((bothThing db rb s).below P1.out B1.out), KB.out _ (Kept.of_below B1.out)⟩
  · have hit0 : ((x.k : Int)).tmod 9 = 6 := hit
    clear hit
    have hse : Hid (breakS s x.n = stepS s x) := by show _ = _; unfold stepS; rw [if_neg (by rw [hst.out]; decide)]; rw [if_neg (by rw [hst.out]; decide)]; rw [if_neg (by rw [hst.out]; decide)]; rw [if_neg (by rw [hst.out]; decide)]; rw [if_neg (by rw [hst.out]; decide)]; rw [if_neg (by rw [hst.out]; decide)]; rw [if_pos hst.out]
    obtain ⟨i1, i2, i3, i4⟩ := HC.out _ (Kept.refl _ _)
    have hcall : Calls Try.prog 29 #[ptrV db, .int .i64 x.n] (w.alloc XO) fun e w'' => e = .returned (.tuple #[]) ∧ Kept (fun k => S k ∧ k ≠ w.heap.size) (w.alloc XO) w'' ∧ Calls Try.prog 42 #[ptrV rb, .int .i64 x.n] w'' fun e w3 => e = .returned (.tuple #[]) ∧ BothQ db rb (breakS s x.n) (fun k => S k ∧ k ≠ w.heap.size) w3 ∧ Kept (fun k => S k ∧ k ≠ w.heap.size) (w.alloc XO) w3 :=
      both_step0 P1.out (HS1.out _ (Below.refl _ _)) (fun T w' hTS hsz hk hq hT => Break_any hq x.n hx6) (fun T w' hTS hsz hk hq hT => refBreak_any hq x.n hx6)
    have HCALL := Lib.hid hcall
    subst hXO
    clear hcall i1 i2
    generalize breakS s x.n = R at *
    go_enter Try.func12, Try.ntmps12
    go_wp2_with fail
    refine HCALL.out.mono ?_
    rintro e w1 ⟨rfl, k1, c1⟩
    obtain ⟨_, _, j3, j4⟩ := HC.out _ k1
    have HC1 := Lib.hid c1
    clear c1 k1 HCALL
    go_wp2_with fail
    refine HC1.out.mono ?_
    rintro e w2 ⟨rfl, p2, k2⟩
    have P2 := Lib.hid p2
    have K2 := Lib.hid k2
    clear p2 k2
    go_wp2
    go_ret
    exact ⟨rfl, BK.out _ hse.out _ P2.out, KB.out _ K2.out⟩
  · have hit0 : ((x.k : Int)).tmod 9 = 7 := hit
    clear hit
    have hse : Hid (crashS s x.keep = stepS s x) := by show _ = _; unfold stepS; rw [if_neg (by rw [hst.out]; decide)]; rw [if_neg (by rw [hst.out]; decide)]; rw [if_neg (by rw [hst.out]; decide)]; rw [if_neg (by rw [hst.out]; decide)]; rw [if_neg (by rw [hst.out]; decide)]; rw [if_neg (by rw [hst.out]; decide)]; rw [if_neg (by rw [hst.out]; decide)]; rw [if_pos hst.out]
    obtain ⟨i1, i2, i3, i4⟩ := HC.out _ (Kept.refl _ _)
    have hcall : Calls Try.prog 22 #[ptrV db, .slice ka x.keep.length kc] (w.alloc XO) fun e w'' => e = .returned (.tuple #[]) ∧ Kept (fun k => S k ∧ k ≠ w.heap.size) (w.alloc XO) w'' ∧ Calls Try.prog 43 #[ptrV rb, .slice ka x.keep.length kc] w'' fun e w3 => e = .returned (.tuple #[]) ∧ BothQ db rb (crashS s x.keep) (fun k => S k ∧ k ≠ w.heap.size) w3 ∧ Kept (fun k => S k ∧ k ≠ w.heap.size) (w.alloc XO) w3 :=
      both_step0 P1.out (HS1.out _ (Below.refl _ _)) (fun T w' hTS hsz hk hq hT => Crash_any hq hT hm.out HKY.out _ x.keep ((HKO1.out.kept (hk.mono (fun _ _ h => h.1))).mono (fun j _ hj => (hTS j hj).1)) (by omega)) (fun T w' hTS hsz hk hq hT => refCrash_any hq hT hm.out.count _ x.keep ((HKO1.out.kept (hk.mono (fun _ _ h => h.1))).mono (fun j _ hj => (hTS j hj).1)) (by omega))
    have HCALL := Lib.hid hcall
    subst hXO
    clear hcall i1 i2
    generalize crashS s x.keep = R at *
    go_enter Try.func12, Try.ntmps12
    go_wp2_with fail
    refine HCALL.out.mono ?_
    rintro e w1 ⟨rfl, k1, c1⟩
    obtain ⟨_, _, j3, j4⟩ := HC.out _ k1
    have HC1 := Lib.hid c1
    clear c1 k1 HCALL
    go_wp2_with fail
    refine HC1.out.mono ?_
    rintro e w2 ⟨rfl, p2, k2⟩
    have P2 := Lib.hid p2
    have K2 := Lib.hid k2
    clear p2 k2
    go_wp2
    go_ret
    exact ⟨rfl, BK.out _ hse.out _ P2.out, KB.out _ K2.out⟩
  · have hit0 : ((x.k : Int)).tmod 9 = 8 := hit
    clear hit
    have hse : Hid (wipeS s = stepS s x) := by show _ = _; unfold stepS; rw [if_neg (by rw [hst.out]; decide)]; rw [if_neg (by rw [hst.out]; decide)]; rw [if_neg (by rw [hst.out]; decide)]; rw [if_neg (by rw [hst.out]; decide)]; rw [if_neg (by rw [hst.out]; decide)]; rw [if_neg (by rw [hst.out]; decide)]; rw [if_neg (by rw [hst.out]; decide)]; rw [if_neg (by rw [hst.out]; decide)]; 
    obtain ⟨i1, i2, i3, i4⟩ := HC.out _ (Kept.refl _ _)
    have hcall : Calls Try.prog 44 #[ptrV db] (w.alloc XO) fun e w'' => e = .returned (.tuple #[]) ∧ Kept (fun k => S k ∧ k ≠ w.heap.size) (w.alloc XO) w'' ∧ Calls Try.prog 45 #[ptrV rb] w'' fun e w3 => e = .returned (.tuple #[]) ∧ BothQ db rb (wipeS s) (fun k => S k ∧ k ≠ w.heap.size) w3 ∧ Kept (fun k => S k ∧ k ≠ w.heap.size) (w.alloc XO) w3 :=
      both_step0 P1.out (HS1.out _ (Below.refl _ _)) (fun T w' hTS hsz hk hq hT => Wipe_any hq) (fun T w' hTS hsz hk hq hT => refWipe_any hq)
    have HCALL := Lib.hid hcall
    subst hXO
    clear hcall i1 i2
    generalize wipeS s = R at *
    go_enter Try.func12, Try.ntmps12
    go_wp2_with fail
    refine HCALL.out.mono ?_
    rintro e w1 ⟨rfl, k1, c1⟩
    obtain ⟨_, _, j3, j4⟩ := HC.out _ k1
    have HC1 := Lib.hid c1
    clear c1 k1 HCALL
    go_wp2_with fail
    refine HC1.out.mono ?_
    rintro e w2 ⟨rfl, p2, k2⟩
    have P2 := Lib.hid p2
    have K2 := Lib.hid k2
    clear p2 k2
    go_wp2
    go_ret
    exact ⟨rfl, BK.out _ hse.out _ P2.out, KB.out _ K2.out⟩
end Go.Proofs.Ytnffjoflkeagfaa
