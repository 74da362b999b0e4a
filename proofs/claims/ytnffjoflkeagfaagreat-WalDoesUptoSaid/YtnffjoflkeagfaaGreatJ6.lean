/- One act at both journals. Printed by gentdoes.py. Whatever is written, whenever the power goes, whatever stands in the file: both journals say the same. -/
import Derived.Test.YtnffjoflkeagfaaGreatJ5
import Derived.StillTailTactics
namespace Go.Proofs.YtnffjoflkeagfaaGreat
open Go.RowKit Go.Maps

abbrev nI : ByteArray := ⟨#[105]⟩
set_option maxHeartbeats 16000000 in
set_option maxRecDepth 100000 in
theorem tdoes_any {S : Nat → Prop} {w : World} {tb db rb : Nat} {s : St} {o : Option Recs} {wp xp : Value} {N : Nat} (h : AllP tb db rb s s o o wp xp wp xp S w) (hS : ∀ k, w.heap.size ≤ k → S k) (x : Act5) (hk : x.k < 256) (hn : x.n ≤ 9223372036854775807)
    (hb : x.b.size ≤ 1048576) (hl1 : x.l.length ≤ 100) (hk1 : x.keep.length ≤ 100) (hJ : (Fr.joinB x.l).length ≤ 4096) (hbd : Bd s o N) (hN : N ≤ 300) (htx : TxtOff S w x.lv x.l) (hko : ListOff S w x.kv x.keep.length (x.keep.map (fun z => Value.int .i64 z))) :
    Calls Tryz.prog 9 #[ptrV tb, .agg #[.int .u8 (x.k : Int), x.lv, .int .i64 x.n, x.kv, .string x.b]] w fun e w' => e = .returned (.bool true) ∧ (∃ s' o' wp' xp', AllP tb db rb s' s' o' o' wp' xp' wp' xp' S w' ∧ Bd s' o' (N + 1)) ∧ Kept S w w' := by
  have HBD := Lib.hid hbd
  have hcnt := hbd.mo.most.count
  have hbig := hbd.mo.most.bytes
  have hsm : Hid (Small s) := ⟨by omega, by omega⟩
  have HKY := Lib.hid hbd.mo.most.keys
  have hall : ∀ c ∈ x.l, c.size ≤ 65536 := fun c hc => by have := (Fr.joinB_each x.l).2 c hc; omega
  have HALL := Lib.hid hall
  obtain ⟨la, lc, hlv⟩ := htx.slice
  have HKO := Lib.hid hko
  have HTX := Lib.hid htx
  obtain ⟨_, ka, kc, hkv, _⟩ := hko
  rw [hkv] at HKO ⊢
  rw [hlv] at HTX ⊢
  clear htx hall hbd
  obtain ⟨XO, hXO⟩ : ∃ o : Obj, o = .cells #[.int .u8 (x.k : Int), .slice la x.l.length lc, .int .i64 x.n, .slice ka x.keep.length kc, .string x.b] 38 := ⟨_, rfl⟩
  have P1 : Hid (AllP tb db rb s s o o wp xp wp xp (fun k => S k ∧ k ≠ w.heap.size) (w.alloc XO)) := by
    show AllP _ _ _ _ _ _ _ _ _ _ _ _ _
    exact (allThing _ _ _ _ _ _ _ _ _ _ _).below ((allThing _ _ _ _ _ _ _ _ _ _ _).mono h (fun k hl hk => ⟨hk, by omega⟩)) ((Below.refl _ _).alloc (Nat.le_refl _) _)
  have HS1 : Hid (∀ w' : World, (w.alloc XO).heap.size ≤ w'.heap.size → ∀ k, w'.heap.size ≤ k → S k ∧ k ≠ w.heap.size) := fun w' hb k hk => by
    have e : (w.alloc XO).heap.size = w.heap.size + 1 := by simp
    exact ⟨hS k (by omega), by omega⟩
  have KB : Hid (∀ w', Kept (fun k => S k ∧ k ≠ w.heap.size) (w.alloc XO) w' → Kept S w w') := fun w' hk => ((Kept.refl S w).alloc XO).trans (hk.mono (fun _ _ h => h.1))
  have HC : Hid (∀ w', Kept (fun k => S k ∧ k ≠ w.heap.size) (w.alloc XO) w' → w'.cell? ⟨w.heap.size, 1, none⟩ = some (.slice la x.l.length lc) ∧ w'.cell? ⟨w.heap.size, 2, none⟩ = some (.int .i64 x.n) ∧ w'.cell? ⟨w.heap.size, 3, none⟩ = some (.slice ka x.keep.length kc) ∧ w'.cell? ⟨w.heap.size, 4, none⟩ = some (.string x.b)) := fun w' hk => by
    have e : ∀ j, w'.cell? ⟨w.heap.size, j, none⟩ = (w.alloc XO).cell? ⟨w.heap.size, j, none⟩ := fun j => World.cell?_of_block (a := ⟨w.heap.size, j, none⟩) (hk.block w.heap.size (by simp) (fun h => h.2 rfl))
    rw [e, e, e, e, hXO]
    simp
  have DN : Hid (∀ s' o' wp' xp', ∀ w', AllP tb db rb s' s' o' o' wp' xp' wp' xp' (fun k => S k ∧ k ≠ w.heap.size) w' → Bd s' o' (N + 1) → ∃ s' o' wp' xp', AllP tb db rb s' s' o' o' wp' xp' wp' xp' S w' ∧ Bd s' o' (N + 1)) := fun s' o' wp' xp' w' hp hbd => ⟨s', o', wp', xp', (allThing _ _ _ _ _ _ _ _ _ _ _).mono hp (fun _ _ h => h.1), hbd⟩
  have HTX1 : Hid (TxtOff (fun k => S k ∧ k ≠ w.heap.size) (w.alloc XO) (.slice la x.l.length lc) x.l) := (HTX.out.kept ((Kept.refl S w).alloc XO)).mono (fun _ h => h.1)
  have HKO1 : Hid (ListOff (fun k => S k ∧ k ≠ w.heap.size) (w.alloc XO) (.slice ka x.keep.length kc) x.keep.length (x.keep.map (fun z => Value.int .i64 z))) := (HKO.out.kept ((Kept.refl S w).alloc XO)).mono (fun _ _ h => h.1)
  have KD : Hid (Kept (fun k => S k ∧ k ≠ w.heap.size) (w.alloc XO) (w.alloc XO).drew) := (Kept.refl _ _).drewN 1
  have PD : Hid (AllP tb db rb s s o o wp xp wp xp (fun k => S k ∧ k ≠ w.heap.size) (w.alloc XO).drew) := (allThing _ _ _ _ _ _ _ _ _ _ _).below P1.out ((Below.refl _ _).drew)
  obtain ⟨t0, t1, t2, t3, _⟩ := two_cells (all_two P1.out)
  obtain ⟨i1, i2, i3, i4⟩ := HC.out _ (Kept.refl _ _)
  have i0 : (w.alloc XO).cell? ⟨w.heap.size, 0, none⟩ = some (.int .u8 (x.k : Int)) := by rw [hXO]; simp
  generalize hwA : w.alloc XO = wA at *
  rw [hXO] at hwA
  have HWA := Lib.hid hwA
  clear hS HTX HKO hkv hlv hXO
  obtain ⟨r, hr⟩ : ∃ r, r = x.k % 6 := ⟨_, rfl⟩
  have hr9 : r < 6 := by omega
  have hit : ((x.k : Int)).tmod 6 = (r : Int) := by rw [Int.tmod_eq_emod_of_nonneg (by omega)]; omega
  clear hr
  have hr10 : r = 0 ∨ r = 1 ∨ r = 2 ∨ r = 3 ∨ r = 4 ∨ r = 5 := by omega
  clear hr9
  rcases hr10 with rfl | rfl | rfl | rfl | rfl | rfl
  · have hit0 : ((x.k : Int)).tmod 6 = 0 := hit
    clear hit
    cases o with
    | none =>
      obtain ⟨rfl, _⟩ := all_d h
      clear h
      go_enter Tryz.func9, Tryz.ntmps9
      go_wp2
      go_ret
      exact ⟨rfl, DN.out s none _ _ _ P1.out ⟨HBD.out.mo.mono (by omega) (by omega), fun L e => by cases e⟩, KB.out _ (Kept.refl _ _)⟩
    | some L =>
      obtain ⟨wb, rfl, _⟩ := all_d h
      obtain ⟨xb, rfl, _⟩ := all_r h
      have hLl := HBD.out.recs L rfl
      have HB := Lib.hid (both_sides (s' := (apS s L x.l).2.2) (o' := some (apS s L x.l).2.1) PD.out (HS1.out _ (Nat.le_refl _)) (f := 14) (g := 21) (x := #[ptrV wb, .slice la x.l.length lc]) (y := #[ptrV xb, .slice la x.l.length lc]) (X := fun e => e = .returned (.int .i64 (apS s L x.l).1))
        (fun T w' hk' hT hTS hq => wAppend_side hq hT (by omega) (by omega) ((HTX1.out.kept (KD.out.trans hk')).mono hTS) HALL.out (by omega) (by omega))
        (fun T w' hk' hT hTS hq => rAppend_side hq hT (by omega) (by omega) ((HTX1.out.kept (KD.out.trans hk')).mono hTS) HALL.out (by omega) (by omega)))
      have hln := apS_len s L x.l
      have HBN : Hid (Bd (apS s L x.l).2.2 (some (apS s L x.l).2.1) (N + 1)) := ⟨(mo_ap HBD.out.mo L x.l).mono (by omega) (by omega), fun L' e => by cases e; omega⟩
      clear h
      generalize apS s L x.l = A at *
      obtain ⟨a, L2, s2⟩ := A
      simp only at HB hln HBN
      go_enter Tryz.func9, Tryz.ntmps9
      go_wp2_with fail
      go_still_tail 6, (by kernel_rfl)
      change wpList _ _ _ _ _ wA.drew
      go_wp2_with fail
      refine HB.out.mono ?_
      rintro e w7 ⟨rfl, p7, k7, c7⟩
      obtain ⟨y0, y1, y2, y3, _⟩ := two_cells (all_two p7)
      obtain ⟨j1, j2, j3, j4⟩ := HC.out _ (KD.out.trans k7)
      have HC7 := Lib.hid (c7 w7.drew ((Below.refl _ _).drew))
      clear p7 k7 c7 HB
      go_wp2_with fail
      go_still_tail 6, (by kernel_rfl)
      change wpList _ _ _ _ _ w7.drew
      go_wp2_with fail
      refine HC7.out.mono ?_
      rintro e w8 ⟨rfl, p8, k8⟩
      have P8 := Lib.hid p8
      have K8 : Hid (Kept (fun k => S k ∧ k ≠ w.heap.size) wA w8) := KD.out.trans k8
      clear p8 k8 HC7
      obtain ⟨la2, lc2, ⟨z2, z3, z4⟩, hrec⟩ := recs_same P8.out (by omega)
      have HREC := Lib.hid hrec
      have HM0 := Lib.hid (show w8.cell? ⟨tb, 2, none⟩ = some (ptrV wb) ∧ w8.cell? ⟨tb, 3, none⟩ = some (ptrV xb) ∧ w8.cell? ⟨xb, 2, none⟩ = some (.slice la2 L2.length lc2) from ⟨z2, z3, z4⟩)
      clear hrec
      go_wp2_with fail
      go_region_held3 (fun w' => w'.cell? ⟨tb, 2, none⟩ = some (ptrV wb) ∧ w'.cell? ⟨tb, 3, none⟩ = some (ptrV xb) ∧ w'.cell? ⟨xb, 2, none⟩ = some (.slice la2 L2.length lc2))
        (first
          | exact HM0.out
          | exact HM1.out
          | exact HM2.out)
        (first
          | (go_at_call 17; refine (HREC.out _ rfl).mono ?_; rintro e w9 ⟨v', rfl, m1, hs⟩; have HM1 := Lib.hid m1; have HSC := Lib.hid hs; clear m1 hs HREC)
          | (go_at_call 20; refine HSC.out.mono ?_; rintro e w10 ⟨rfl, m2, hb6⟩; have HM2 := Lib.hid m2; have HB6 := Lib.hid hb6; clear m2 hb6 HSC))
      all_goals
        go_wp2
        go_ret
        exact ⟨ret_bool (by simp), DN.out s2 (some L2) _ _ _ ((allThing _ _ _ _ _ _ _ _ _ _ _).below P8.out HB6.out) HBN.out, KB.out _ (K8.out.trans (Kept.of_below HB6.out))⟩
  · have hit0 : ((x.k : Int)).tmod 6 = 1 := hit
    clear hit
    cases o with
    | none =>
      obtain ⟨rfl, _⟩ := all_d h
      clear h
      go_enter Tryz.func9, Tryz.ntmps9
      go_wp2
      go_ret
      exact ⟨rfl, DN.out s none _ _ _ P1.out ⟨HBD.out.mo.mono (by omega) (by omega), fun L e => by cases e⟩, KB.out _ (Kept.refl _ _)⟩
    | some L =>
      obtain ⟨wb, rfl, _⟩ := all_d h
      obtain ⟨xb, rfl, _⟩ := all_r h
      have hLl := HBD.out.recs L rfl
      have HB := Lib.hid (both_sides (s' := (otherS s kJ L x.l).2.2) (o' := some (otherS s kJ L x.l).2.1) PD.out (HS1.out _ (Nat.le_refl _)) (f := 22) (g := 23) (x := #[ptrV wb, .slice la x.l.length lc]) (y := #[ptrV xb, .slice la x.l.length lc]) (X := fun e => e = .returned (.int .i64 (otherS s kJ L x.l).1))
        (fun T w' hk' hT hTS hq => wRewrite_side hq hT (by omega) (by omega) ((HTX1.out.kept (KD.out.trans hk')).mono hTS) HALL.out (by omega))
        (fun T w' hk' hT hTS hq => rRewrite_side hq hT (by omega) (by omega) ((HTX1.out.kept (KD.out.trans hk')).mono hTS) HALL.out (by omega)))
      have hln := otherS_len s L x.l
      have HBN : Hid (Bd (otherS s kJ L x.l).2.2 (some (otherS s kJ L x.l).2.1) (N + 1)) := ⟨(mo_other HBD.out.mo L x.l).mono (by omega) (by omega), fun L' e => by cases e; omega⟩
      clear h
      generalize otherS s kJ L x.l = A at *
      obtain ⟨a, L2, s2⟩ := A
      simp only at HB hln HBN
      go_enter Tryz.func9, Tryz.ntmps9
      go_wp2_with fail
      go_still_tail 6, (by kernel_rfl)
      change wpList _ _ _ _ _ wA.drew
      go_wp2_with fail
      refine HB.out.mono ?_
      rintro e w7 ⟨rfl, p7, k7, c7⟩
      obtain ⟨y0, y1, y2, y3, _⟩ := two_cells (all_two p7)
      obtain ⟨j1, j2, j3, j4⟩ := HC.out _ (KD.out.trans k7)
      have HC7 := Lib.hid (c7 w7.drew ((Below.refl _ _).drew))
      clear p7 k7 c7 HB
      go_wp2_with fail
      go_still_tail 6, (by kernel_rfl)
      change wpList _ _ _ _ _ w7.drew
      go_wp2_with fail
      refine HC7.out.mono ?_
      rintro e w8 ⟨rfl, p8, k8⟩
      have P8 := Lib.hid p8
      have K8 : Hid (Kept (fun k => S k ∧ k ≠ w.heap.size) wA w8) := KD.out.trans k8
      clear p8 k8 HC7
      obtain ⟨la2, lc2, ⟨z2, z3, z4⟩, hrec⟩ := recs_same P8.out (by omega)
      have HREC := Lib.hid hrec
      have HM0 := Lib.hid (show w8.cell? ⟨tb, 2, none⟩ = some (ptrV wb) ∧ w8.cell? ⟨tb, 3, none⟩ = some (ptrV xb) ∧ w8.cell? ⟨xb, 2, none⟩ = some (.slice la2 L2.length lc2) from ⟨z2, z3, z4⟩)
      clear hrec
      go_wp2_with fail
      go_region_held3 (fun w' => w'.cell? ⟨tb, 2, none⟩ = some (ptrV wb) ∧ w'.cell? ⟨tb, 3, none⟩ = some (ptrV xb) ∧ w'.cell? ⟨xb, 2, none⟩ = some (.slice la2 L2.length lc2))
        (first
          | exact HM0.out
          | exact HM1.out
          | exact HM2.out)
        (first
          | (go_at_call 17; refine (HREC.out _ rfl).mono ?_; rintro e w9 ⟨v', rfl, m1, hs⟩; have HM1 := Lib.hid m1; have HSC := Lib.hid hs; clear m1 hs HREC)
          | (go_at_call 20; refine HSC.out.mono ?_; rintro e w10 ⟨rfl, m2, hb6⟩; have HM2 := Lib.hid m2; have HB6 := Lib.hid hb6; clear m2 hb6 HSC))
      all_goals
        go_wp2
        go_ret
        exact ⟨ret_bool (by simp), DN.out s2 (some L2) _ _ _ ((allThing _ _ _ _ _ _ _ _ _ _ _).below P8.out HB6.out) HBN.out, KB.out _ (K8.out.trans (Kept.of_below HB6.out))⟩
  · have hit0 : ((x.k : Int)).tmod 6 = 2 := hit
    clear hit h
    have HB := Lib.hid (both_sides (s' := crashS s x.keep) (o' := o) PD.out (HS1.out _ (Nat.le_refl _)) (f := 16) (g := 24) (x := #[ptrV db, .slice ka x.keep.length kc]) (y := #[ptrV rb, .slice ka x.keep.length kc]) (X := fun e => e = .returned (.tuple #[]))
      (fun T w' hk' hT hTS hq => sideD_step hq hT (X := fun e => e = .returned (.tuple #[])) (fun T' hT' hTS' hq' => Crash_any hq' hT' hsm.out HKY.out _ x.keep ((HKO1.out.kept (KD.out.trans hk')).mono (fun j _ hj => hTS j (hTS' j hj))) (by omega)))
      (fun T w' hk' hT hTS hq => sideR_step hq hT (X := fun e => e = .returned (.tuple #[])) (fun T' hT' hTS' hq' => refCrash_any hq' hT' hsm.out.count _ x.keep ((HKO1.out.kept (KD.out.trans hk')).mono (fun j _ hj => hTS j (hTS' j hj))) (by omega))))
    have HM2 := Lib.hid (mo_crash HBD.out.mo x.keep)
    have hbl : (bs x.b).length = x.b.size := bs_len _
    have hc2 := HM2.out.most.count
    have hu2 := HM2.out.most.bytes
    generalize crashS s x.keep = s2 at *
    go_enter Tryz.func9, Tryz.ntmps9
    go_wp2_with fail
    go_still_tail 6, (by kernel_rfl)
    change wpList _ _ _ _ _ wA.drew
    go_wp2_with fail
    refine HB.out.mono ?_
    rintro e w7 ⟨rfl, p7, k7, c7⟩
    obtain ⟨y0, y1, y2, y3, _⟩ := two_cells (all_two p7)
    obtain ⟨j1, j2, j3, j4⟩ := HC.out _ (KD.out.trans k7)
    have HC7 := Lib.hid (c7 w7.drew ((Below.refl _ _).drew))
    clear p7 k7 c7 HB
    go_wp2_with fail
    go_still_tail 6, (by kernel_rfl)
    change wpList _ _ _ _ _ w7.drew
    go_wp2_with fail
    refine HC7.out.mono ?_
    rintro e w8 ⟨rfl, p8, k8⟩
    have P8 := Lib.hid p8
    have K8 : Hid (Kept (fun k => S k ∧ k ≠ w.heap.size) wA w8) := KD.out.trans k8
    clear p8 k8 HC7
    have hop := topen_any P8.out (fun k hk' => HS1.out _ K8.out.size k hk') (by omega) (by omega) (fun L e => by have := open_len _ L e; omega)
    have HBN : Hid (Bd (openS s2 kJ).2.2 (openS s2 kJ).1 (N + 1)) := ⟨(mo_open HM2.out).mono (by omega) (by omega), fun L e => by have := open_len _ L e; omega⟩
    have HOP := Lib.hid hop
    clear hop
    go_wp2_with fail
    refine HOP.out.mono ?_
    rintro e w9 ⟨rfl, ⟨wp2, xp2, p9⟩, k9⟩
    have P9 := Lib.hid p9
    have K9 := Lib.hid (K8.out.trans k9)
    clear p9 k9 HOP
    go_wp2
    go_ret
    exact ⟨ret_bool (by simp), DN.out _ _ _ _ _ P9.out HBN.out, KB.out _ K9.out⟩
  · have hit0 : ((x.k : Int)).tmod 6 = 3 := hit
    clear hit h
    have HB := Lib.hid (both_sides (s' := breakS s x.n) (o' := o) PD.out (HS1.out _ (Nat.le_refl _)) (f := 15) (g := 25) (x := #[ptrV db, .int .i64 x.n]) (y := #[ptrV rb, .int .i64 x.n]) (X := fun e => e = .returned (.tuple #[]))
      (fun T w' hk' hT hTS hq => sideD_step hq hT (X := fun e => e = .returned (.tuple #[])) (fun T' hT' hTS' hq' => Break_any hq' x.n hn))
      (fun T w' hk' hT hTS hq => sideR_step hq hT (X := fun e => e = .returned (.tuple #[])) (fun T' hT' hTS' hq' => refBreak_any hq' x.n hn)))
    have HM2 := Lib.hid (mo_break HBD.out.mo x.n)
    have hbl : (bs x.b).length = x.b.size := bs_len _
    have hc2 := HM2.out.most.count
    have hu2 := HM2.out.most.bytes
    generalize breakS s x.n = s2 at *
    go_enter Tryz.func9, Tryz.ntmps9
    go_wp2_with fail
    go_still_tail 6, (by kernel_rfl)
    change wpList _ _ _ _ _ wA.drew
    go_wp2_with fail
    refine HB.out.mono ?_
    rintro e w7 ⟨rfl, p7, k7, c7⟩
    obtain ⟨y0, y1, y2, y3, _⟩ := two_cells (all_two p7)
    obtain ⟨j1, j2, j3, j4⟩ := HC.out _ (KD.out.trans k7)
    have HC7 := Lib.hid (c7 w7.drew ((Below.refl _ _).drew))
    clear p7 k7 c7 HB
    go_wp2_with fail
    go_still_tail 6, (by kernel_rfl)
    change wpList _ _ _ _ _ w7.drew
    go_wp2_with fail
    refine HC7.out.mono ?_
    rintro e w8 ⟨rfl, p8, k8⟩
    have P8 := Lib.hid p8
    have K8 : Hid (Kept (fun k => S k ∧ k ≠ w.heap.size) wA w8) := KD.out.trans k8
    clear p8 k8 HC7
    go_wp2
    go_ret
    exact ⟨rfl, DN.out s2 o _ _ _ P8.out ⟨HM2.out.mono (by omega) (by omega), fun L e => by have := HBD.out.recs L e; omega⟩, KB.out _ K8.out⟩
  · have hit0 : ((x.k : Int)).tmod 6 = 4 := hit
    clear hit h
    have HB := Lib.hid (both_sides (s' := (appendS s kJ (bs x.b)).2) (o' := o) PD.out (HS1.out _ (Nat.le_refl _)) (f := 26) (g := 27) (x := #[ptrV db, .string nJ, .string x.b]) (y := #[ptrV rb, .string nJ, .string x.b]) (X := fun e => e = .returned (.int .i64 (appendS s kJ (bs x.b)).1))
      (fun T w' hk' hT hTS hq => sideD_step hq hT (X := fun e => e = .returned (.int .i64 (appendS s kJ (bs x.b)).1)) (fun T' hT' hTS' hq' => Append_gen hq' hT' hsm.out nJ x.b (by decide) (by omega) (fun _ => by omega)))
      (fun T w' hk' hT hTS hq => sideR_step hq hT (X := fun e => e = .returned (.int .i64 (appendS s kJ (bs x.b)).1)) (fun T' hT' hTS' hq' => refAppend_any hq' hT' hsm.out.count nJ x.b (by decide) (by omega))))
    have HM2 := Lib.hid (mo_append HBD.out.mo kJ (bs x.b) (by decide))
    have hbl : (bs x.b).length = x.b.size := bs_len _
    have hc2 := HM2.out.most.count
    have hu2 := HM2.out.most.bytes
    generalize appendS s kJ (bs x.b) = A at *
    obtain ⟨a, s2⟩ := A
    simp only at HB HM2 hc2 hu2
    go_enter Tryz.func9, Tryz.ntmps9
    go_wp2_with fail
    go_still_tail 6, (by kernel_rfl)
    change wpList _ _ _ _ _ wA.drew
    go_wp2_with fail
    refine HB.out.mono ?_
    rintro e w7 ⟨rfl, p7, k7, c7⟩
    obtain ⟨y0, y1, y2, y3, _⟩ := two_cells (all_two p7)
    obtain ⟨j1, j2, j3, j4⟩ := HC.out _ (KD.out.trans k7)
    have HC7 := Lib.hid (c7 w7.drew ((Below.refl _ _).drew))
    clear p7 k7 c7 HB
    go_wp2_with fail
    go_still_tail 6, (by kernel_rfl)
    change wpList _ _ _ _ _ w7.drew
    go_wp2_with fail
    refine HC7.out.mono ?_
    rintro e w8 ⟨rfl, p8, k8⟩
    have P8 := Lib.hid p8
    have K8 : Hid (Kept (fun k => S k ∧ k ≠ w.heap.size) wA w8) := KD.out.trans k8
    clear p8 k8 HC7
    have hop := topen_any P8.out (fun k hk' => HS1.out _ K8.out.size k hk') (by omega) (by omega) (fun L e => by have := open_len _ L e; omega)
    have HBN : Hid (Bd (openS s2 kJ).2.2 (openS s2 kJ).1 (N + 1)) := ⟨(mo_open HM2.out).mono (by omega) (by omega), fun L e => by have := open_len _ L e; omega⟩
    have HOP := Lib.hid hop
    clear hop
    go_wp2_with fail
    refine HOP.out.mono ?_
    rintro e w9 ⟨rfl, ⟨wp2, xp2, p9⟩, k9⟩
    have P9 := Lib.hid p9
    have K9 := Lib.hid (K8.out.trans k9)
    clear p9 k9 HOP
    go_wp2
    go_ret
    exact ⟨ret_bool (by simp), DN.out _ _ _ _ _ P9.out HBN.out, KB.out _ K9.out⟩
  · have hit0 : ((x.k : Int)).tmod 6 = 5 := hit
    clear hit h
    have HB := Lib.hid (both_sides (s' := (appendS s [105] (bs x.b)).2) (o' := o) PD.out (HS1.out _ (Nat.le_refl _)) (f := 26) (g := 27) (x := #[ptrV db, .string nI, .string x.b]) (y := #[ptrV rb, .string nI, .string x.b]) (X := fun e => e = .returned (.int .i64 (appendS s [105] (bs x.b)).1))
      (fun T w' hk' hT hTS hq => sideD_step hq hT (X := fun e => e = .returned (.int .i64 (appendS s [105] (bs x.b)).1)) (fun T' hT' hTS' hq' => Append_gen hq' hT' hsm.out nI x.b (by decide) (by omega) (fun _ => by omega)))
      (fun T w' hk' hT hTS hq => sideR_step hq hT (X := fun e => e = .returned (.int .i64 (appendS s [105] (bs x.b)).1)) (fun T' hT' hTS' hq' => refAppend_any hq' hT' hsm.out.count nI x.b (by decide) (by omega))))
    have HM2 := Lib.hid (mo_append HBD.out.mo [105] (bs x.b) (by decide))
    have hbl : (bs x.b).length = x.b.size := bs_len _
    have hc2 := HM2.out.most.count
    have hu2 := HM2.out.most.bytes
    generalize appendS s [105] (bs x.b) = A at *
    obtain ⟨a, s2⟩ := A
    simp only at HB HM2 hc2 hu2
    go_enter Tryz.func9, Tryz.ntmps9
    go_wp2_with fail
    go_still_tail 6, (by kernel_rfl)
    change wpList _ _ _ _ _ wA.drew
    go_wp2_with fail
    refine HB.out.mono ?_
    rintro e w7 ⟨rfl, p7, k7, c7⟩
    obtain ⟨y0, y1, y2, y3, _⟩ := two_cells (all_two p7)
    obtain ⟨j1, j2, j3, j4⟩ := HC.out _ (KD.out.trans k7)
    have HC7 := Lib.hid (c7 w7.drew ((Below.refl _ _).drew))
    clear p7 k7 c7 HB
    go_wp2_with fail
    go_still_tail 6, (by kernel_rfl)
    change wpList _ _ _ _ _ w7.drew
    go_wp2_with fail
    refine HC7.out.mono ?_
    rintro e w8 ⟨rfl, p8, k8⟩
    have P8 := Lib.hid p8
    have K8 : Hid (Kept (fun k => S k ∧ k ≠ w.heap.size) wA w8) := KD.out.trans k8
    clear p8 k8 HC7
    go_wp2
    go_ret
    exact ⟨ret_bool (by simp), DN.out s2 o _ _ _ P8.out ⟨HM2.out.mono (by omega) (by omega), fun L e => by have := HBD.out.recs L e; omega⟩, KB.out _ K8.out⟩
end Go.Proofs.YtnffjoflkeagfaaGreat
namespace Go.Proofs.YtnffjoflkeagfaaGreat
open Go.RowKit Go.Maps

theorem own_kept5 {w w' : World} {B : Nat} {e : TypeId} {sz : Nat} {v : Value} {n : Nat} {xs : List Value} (h : w.ownsRow B e sz v n xs) (hb : Below w.heap.size w w') : w'.ownsRow B e sz v n xs :=
  own_keep h (fun g hg => hb.block g (own_lt h hg))
theorem kept_same {S : Nat → Prop} {w4 : World} {tb db rb : Nat} {s : St} {o : Option Recs} {wp xp wq xq : Value} (h : AllP tb db rb s s o o wp xp wq xq S w4) (hc : s.fs.length ≤ 1099511627776) :
    (w4.cell? ⟨tb, 0, none⟩ = some (ptrV db) ∧ w4.cell? ⟨tb, 1, none⟩ = some (ptrV rb)) ∧
      ∀ w', w' = w4.drew → Calls Tryz.prog 11 #[ptrV db] w' fun e w'' => ∃ v', e = .returned v' ∧ (w''.cell? ⟨tb, 0, none⟩ = some (ptrV db) ∧ w''.cell? ⟨tb, 1, none⟩ = some (ptrV rb)) ∧
        Calls Tryz.prog 12 #[ptrV rb] w'' fun e w3 => ∃ v2, e = .returned v2 ∧ (w3.cell? ⟨tb, 0, none⟩ = some (ptrV db) ∧ w3.cell? ⟨tb, 1, none⟩ = some (ptrV rb)) ∧
          Calls Tryz.prog 10 #[v', v2] w3 fun e w5 => e = .returned (.bool true) ∧ (w5.cell? ⟨tb, 0, none⟩ = some (ptrV db) ∧ w5.cell? ⟨tb, 1, none⟩ = some (ptrV rb)) ∧ Below w4.heap.size w4 w5 := by
  obtain ⟨g0, g1, _, _, _⟩ := two_cells (all_two h)
  have htl := two_lt (all_two h)
  have hd : DiskAt S w4 db s := sideD_disk (all_d h)
  have hr : RefAt S w4 rb s := sideR_ref (all_r h)
  have hcell : ∀ w'', Below w4.heap.size w4 w'' → (w''.cell? ⟨tb, 0, none⟩ = some (ptrV db) ∧ w''.cell? ⟨tb, 1, none⟩ = some (ptrV rb)) := fun w'' hb =>
    ⟨(hb.cell (p := ⟨tb, 0, none⟩) htl).trans g0, (hb.cell (p := ⟨tb, 1, none⟩) htl).trans g1⟩
  refine ⟨⟨g0, g1⟩, ?_⟩
  rintro w' rfl
  have hb0 : Below w4.heap.size w4 w4.drew := (Below.refl _ _).drew
  refine (Kept_any (hd.below hb0) hc).mono ?_
  rintro e w'' ⟨v', rfl, ho, hb⟩
  have hb1 : Below w4.heap.size w4 w'' := hb0.trans hb
  refine ⟨v', rfl, hcell _ hb1, (refKept_any (hr.below hb1) hc).mono ?_⟩
  rintro e w3 ⟨v2, rfl, ho2, hb2⟩
  have hb3 := bw hb1 hb2
  refine ⟨v2, rfl, hcell _ hb3, (same_kept (own_kept5 ho hb2) ho2 hc).mono ?_⟩
  rintro e w5 ⟨rfl, hb4⟩
  exact ⟨rfl, hcell _ (bw hb3 hb4), bw hb3 hb4⟩
set_option maxHeartbeats 4000000 in
set_option maxRecDepth 100000 in
theorem law_does5 (room : Int) (v : Value) (l : List Act5) (w : World) (hl : Acts5Off (From w.heap.size) w v l) (hln : l.length ≤ 9223372036854775807)
    (hkx : ∀ x ∈ l, x.k < 256 ∧ -9223372036854775808 ≤ x.n ∧ x.n ≤ 9223372036854775807 ∧ x.keep.length ≤ 140737488355328 ∧ x.l.length ≤ 9223372036854775807 ∧ x.b.size ≤ 140737488355328 ∧ ∀ c ∈ x.l, c.size ≤ 9223372036854775807)
    (hbk : ∀ x ∈ l, x.b.size ≤ 1048576) (_hr0 : -9223372036854775808 ≤ room) (hr1 : room ≤ 9223372036854775807) :
    Calls Tryz.prog 3 #[.int .i64 room, v] w fun e w' => e = .returned (.bool true) ∧ Below w.heap.size w w' := by
  have hw := works5_any w
  obtain ⟨va, vc, rfl⟩ := hl.slice
  have HL := Lib.hid hl
  have HX := Lib.hid hkx
  have HBK := Lib.hid hbk
  clear hl hkx hbk
  go_enter Tryz.func3, Tryz.ntmps3
  go_wp2_with fail
  refine hw.mono ?_
  rintro e w00 ⟨rfl, b00⟩
  have hh := heavy5_any (HL.out.kept (Kept.of_below b00)) hln (fun x hx => by obtain ⟨h1, h2, h3, h4, h5, h6, h7⟩ := HX.out x hx; exact ⟨h4, h5, by omega, h7⟩)
  have B00 := Lib.hid b00
  clear b00 hw
  go_wp2_with fail
  refine hh.mono ?_
  rintro e w0 ⟨hv, rfl, hhv, b0⟩
  have K0 : Hid (Kept (From w.heap.size) w w0) := (Kept.of_below B00.out).trans (Kept.of_below b0)
  clear b0 hh B00
  cases hv with
  | true =>
    go_wp2
    go_ret
    exact ⟨rfl, K0.out.below (Nat.le_refl _) (fun _ h => h)⟩
  | false =>
    obtain ⟨hlen, hws, hsm⟩ := hhv rfl
    have HWS := Lib.hid hws
    have HSMALL := Lib.hid hsm
    clear hhv hws hsm
    go_wp2_with fail
    refine (New_any (S := From w.heap.size) w0 (fun k hk => Nat.le_trans K0.out.size hk) room hr1).mono ?_
    rintro e w1 ⟨rfl, d1, b1⟩
    have D1 := Lib.hid d1
    have K1 : Hid (Kept (From w.heap.size) w w1) := K0.out.trans (Kept.of_below b1)
    clear d1 b1
    generalize hdb : w0.heap.size = db at *
    clear hdb
    go_wp2_with fail
    refine (refNew_any (S := fun k => w1.heap.size ≤ k) w1 (fun k hk => hk) room hr1).mono ?_
    rintro e w2 ⟨rfl, d2, b2⟩
    have P2 : Hid (Pair (DiskQ db (newS room)) (RefQ w1.heap.size (newS room)) (From w.heap.size) w2) := Pair.of (diskThing _ _) (refThing _ _) D1.out b2 d2 (fun k hk => Nat.le_trans K1.out.size hk)
    have K2 : Hid (Kept (From w.heap.size) w w2) := K1.out.trans (Kept.of_below b2)
    clear d2 b2
    generalize hrb : w1.heap.size = rb at *
    clear hrb
    have hb3 : Below w2.heap.size w2 (w2.alloc (twoO db rb (.pointer none) (.pointer none))) := (Below.refl _ _).alloc (Nat.le_refl _) _
    have P3 : Hid (AllP w2.heap.size db rb (newS room) (newS room) none none (.pointer none) (.pointer none) (.pointer none) (.pointer none) (From w.heap.size) (w2.alloc (twoO db rb (.pointer none) (.pointer none)))) := by
      have q : Pair (SideD db (newS room) none (.pointer none)) (SideR rb (newS room) none (.pointer none)) (From w.heap.size) w2 := by
        obtain ⟨Sa, Sb, a, b, r⟩ := P2.out
        exact ⟨Sa, Sb, ⟨rfl, a⟩, ⟨rfl, b⟩, r⟩
      exact Pair.of (pairThing (sideD _ _ _ _) (sideR _ _ _ _)) (twoThing _ _ _ _ _) q hb3 ⟨Nat.le_refl _, heap_alloc_new w2 _⟩ (fun k hk => Nat.le_trans K2.out.size hk)
    have K3 : Hid (Kept (From w.heap.size) w (w2.alloc (twoO db rb (.pointer none) (.pointer none)))) := K2.out.trans (Kept.of_below hb3)
    have hop := topen_any P3.out (fun k hk => Nat.le_trans K3.out.size hk) (by simp [newS]) (by simp [newS, usedF]) (fun L e => by rw [open_new] at e; cases e; simp)
    rw [open_new] at hop
    have HOP := Lib.hid hop
    generalize htb : w2.heap.size = tb at *
    clear hop hb3
    go_wp2_with fail
    refine HOP.out.mono ?_
    rintro e w4 ⟨rfl, ⟨wp0, xp0, p4⟩, k4⟩
    have P4 := Lib.hid p4
    have K4 : Hid (Kept (From w.heap.size) w w4) := K3.out.trans k4
    have BD0 : Hid (Bd (newS room) (some []) 1) := ⟨⟨⟨by simp [newS], by simp [newS, usedF], by simp [newS]⟩, by simp [newS, Sorted]⟩, fun L e => by cases e; simp⟩
    clear p4 k4 HOP P3 K3
    go_wp2
    go_loopw [9] (fun i wr => ∃ (k : Nat) (s : St) (o : Option Recs) (wp xp : Value), k ≤ l.length ∧ i = .int .i64 k ∧ AllP tb db rb s s o o wp xp wp xp (From w.heap.size) wr ∧ Kept (From w.heap.size) w wr ∧ Bd s o (k + 1)) (fun i _ => l.length - (intOf i).toNat)
    case atStart => exact ⟨0, _, _, _, _, by omega, rfl, P4.out, K4.out, BD0.out⟩
    case round =>
      obtain ⟨k, s, o, wp, xp, hk1, rfl, hp, hkp, hbd⟩ := hrel
      have HP := Lib.hid hp
      have HK := Lib.hid hkp
      have HBD := Lib.hid hbd
      have hBw : w.heap.size ≤ wr.heap.size := hkp.size
      clear hp hkp hbd
      by_cases h1 : k < l.length
      · have h1i : (k : Int) < (l.length : Int) := by omega
        obtain ⟨x, hx⟩ : ∃ x, l[k]? = some x := ⟨l[k], List.getElem?_eq_getElem h1⟩
        obtain ⟨hx1, hx2, hx3, hx4, hx5, hx6, hx7⟩ := HX.out x (List.mem_of_getElem? hx)
        obtain ⟨hq1, hq2⟩ := HSMALL.out x (List.mem_of_getElem? hx)
        have hbx := HBK.out x (List.mem_of_getElem? hx)
        have hjx : (Fr.joinB x.l).length ≤ 4096 := by
          have h1 := w5_le (List.mem_of_getElem? hx)
          have h2 := HWS.out
          unfold w5 at h1
          omega
        obtain ⟨ba, off, la, lc, ka, kc, rfl, _, hcap, _, hlv, hkv, c0, c1, c2, c3, c4, htx, hko, _⟩ := act5_get (HL.out.kept HK.out) hx
        have HCL := Lib.hid (tdoes_any HP.out (fun j hj => Nat.le_trans hBw hj) x hx1 hx3 hbx hq1 hq2 hjx HBD.out (by omega) (by rw [hlv]; exact htx) (by rw [hkv]; exact hko))
        rw [hkv, hlv] at HCL
        clear hx hko htx hx7
        go_wp2_with fail
        refine HCL.out.mono ?_
        rintro e w7 ⟨rfl, ⟨s', o', wp', xp', p7, hbd'⟩, k7⟩
        have P7 := Lib.hid p7
        have K7 : Hid (Kept (From w.heap.size) w w7) := HK.out.trans k7
        have HBD' := Lib.hid hbd'
        obtain ⟨⟨y0, y1⟩, hkept⟩ := kept_same p7 (by have := hbd'.mo.most.count; omega)
        have HM0 := Lib.hid (show w7.cell? ⟨tb, 0, none⟩ = some (ptrV db) ∧ w7.cell? ⟨tb, 1, none⟩ = some (ptrV rb) from ⟨y0, y1⟩)
        have HKS := Lib.hid hkept
        clear p7 k7 HCL hbd' hkept c0 c1 c2 c3 c4 hlv hkv
        go_wp2_with fail
        go_region_held3 (fun w' => w'.cell? ⟨tb, 0, none⟩ = some (ptrV db) ∧ w'.cell? ⟨tb, 1, none⟩ = some (ptrV rb))
          (first
            | exact HM0.out
            | exact HM1.out
            | exact HM2.out
            | exact HM3.out)
          (first
            | (go_at_call 11; refine (HKS.out _ rfl).mono ?_; rintro e w8 ⟨v1, rfl, m1, hs1⟩; have HM1 := Lib.hid m1; have HC1 := Lib.hid hs1; clear m1 hs1 HKS)
            | (go_at_call 12; refine HC1.out.mono ?_; rintro e w9 ⟨v2, rfl, m2, hs2⟩; have HM2 := Lib.hid m2; have HC2 := Lib.hid hs2; clear m2 hs2 HC1)
            | (go_at_call 10; refine HC2.out.mono ?_; rintro e w10 ⟨rfl, m3, hb6⟩; have HM3 := Lib.hid m3; have HB6 := Lib.hid hb6; clear m3 hb6 HC2))
        all_goals
          go_wp2
          go_roundw
          case rel => exact ⟨k + 1, s', o', wp', xp', by omega, by go_num, (allThing _ _ _ _ _ _ _ _ _ _ _).below P7.out HB6.out, K7.out.trans (Kept.of_below HB6.out), HBD'.out⟩
          case measure => simp [intOf]; omega
      · have h1i : ¬ (k : Int) < (l.length : Int) := by omega
        go_wp2
        go_ret
        exact ⟨rfl, HK.out.below (Nat.le_refl _) (fun _ h => h)⟩
end Go.Proofs.YtnffjoflkeagfaaGreat
