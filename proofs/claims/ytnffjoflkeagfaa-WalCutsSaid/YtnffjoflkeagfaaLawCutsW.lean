/- A journal cut anywhere: the law's walk. Printed by gencuts.py. -/
import Derived.Test.YtnffjoflkeagfaaLawCuts5
namespace Go.Proofs.Ytnffjoflkeagfaa
open Go.RowKit Go.Maps

set_option maxHeartbeats 8000000 in
set_option maxRecDepth 100000 in
theorem law_cuts5 (v : Value) (l : Recs) (cut : Int) (junk : ByteArray) (vm : Value) (more : Recs) (w : World) (hv : TxtOff (From w.heap.size) w v l) (hln : l.length ≤ 9223372036854775807) (hls : ∀ c ∈ l, c.size ≤ 9223372036854775807)
    (hvm : TxtOff (From w.heap.size) w vm more) (hmn : more.length ≤ 9223372036854775807) (hms : ∀ c ∈ more, c.size ≤ 9223372036854775807) (hjs : junk.size ≤ 9223372036854775807) (hc0 : -9223372036854775808 ≤ cut) (hc1 : cut ≤ 9223372036854775807) :
    Calls Try.prog 6 #[v, .int .i64 cut, .string junk, vm] w fun e w' => e = .returned (.bool true) ∧ Below w.heap.size w w' := by
  have hw := works5_any w
  obtain ⟨va, vc, rfl⟩ := hv.slice
  obtain ⟨ma, mc, rfl⟩ := hvm.slice
  have HV := Lib.hid hv
  have HLS := Lib.hid hls
  have HM := Lib.hid hvm
  have HMS := Lib.hid hms
  clear hv hls hvm hms
  go_enter Try.func6, Try.ntmps6
  go_wp2_with fail
  refine hw.mono ?_
  rintro e w0 ⟨rfl, b0⟩
  have K0 : Hid (Kept (From w.heap.size) w w0) := Kept.of_below b0
  clear b0 hw
  go_wp2
  go_loopw [10, 11] (fun n i wr => ∃ k N : Nat, k ≤ l.length ∧ k ≤ 100 ∧ i = .int .i64 k ∧ n = .int .i64 N ∧ N ≤ 9223372036854775807 ∧ Hid ((Fr.joinB (l.take k)).length ≤ N ∨ 4096 < N) ∧ wr = w0) (fun n i _ => l.length - (intOf i).toNat)
  case atStart => exact ⟨0, junk.size, by omega, by omega, rfl, rfl, hjs, .inl (by simp [Fr.joinB, Fr.joinL]), rfl⟩
  case round =>
    obtain ⟨k, N, hk, hk100, rfl, rfl, hN, hT, hww⟩ := hrel
    subst hww
    by_cases hlt : k < l.length ∧ k < 100
    · obtain ⟨hlt, hk1⟩ := hlt
      have hlti : (k : Int) < (l.length : Int) := by omega
      have hk1i : (k : Int) < 100 := by omega
      obtain ⟨x, hx⟩ : ∃ x, l[k]? = some x := ⟨l[k], List.getElem?_eq_getElem hlt⟩
      obtain ⟨ab, aoff, rfl, hac, _, _, d0⟩ := txt_cell (HV.out.kept K0.out).1 hx
      have hxs := HLS.out x (List.mem_of_getElem? hx)
      have HST := Lib.hid (Fr.joinB_step l k x hx)
      obtain ⟨p2, hp2⟩ : ∃ p, p = min x.size 4096 := ⟨_, rfl⟩
      obtain ⟨p3, hp3⟩ : ∃ p, p = min N 4096 := ⟨_, rfl⟩
      have m2 : min ((x.size : Nat) : Int) 4096 = (p2 : Int) := by omega
      have m3 : min ((N : Nat) : Int) 4096 = (p3 : Int) := by omega
      have q2 : p2 ≤ 4096 := by omega
      have q3 : p3 ≤ 4096 := by omega
      have HP2 := Lib.hid (And.intro hp2 hp3)
      clear hx hp2 hp3
      go_wp2_with fail
      try (go_quiet (fail))
      go_wp2
      go_roundw
      case rel =>
        refine ⟨k + 1, p3 + p2 + 8, by omega, by omega, by go_num, by first | rfl | (push_cast; rfl), by omega, ?_, by first | rfl | trivial⟩
        show _ ∨ _
        obtain ⟨h2, h3⟩ := HP2.out
        rw [HST.out]
        rcases (show _ ∨ _ from hT) with hT | hT <;> omega
      case measure => simp [intOf]; omega
    · have HE1 : Hid (l.length ≤ 100 → (Fr.joinB l).length ≤ N ∨ 4096 < N) := fun h => by
        have hke : k = l.length := by omega
        have := (show _ ∨ _ from hT)
        rw [hke, List.take_length] at this
        exact this
      have hstop : ((k : Int) < (l.length : Int)) → ¬ ((k : Int) < 100) := fun h h' => hlt ⟨by omega, by omega⟩
      clear hT hlt
      obtain ⟨wo, hwo⟩ : ∃ wo : World, wo = wr := ⟨_, rfl⟩
      subst hwo
      by_cases hcs : (k : Int) < (l.length : Int)
      · have hcs2 := hstop hcs
        clear hstop
        have hbig : 100 < l.length ∨ k = 100 := by omega
        go_wp2
        go_loopw [10, 12] (fun n i wz => ∃ k2 M : Nat, k2 ≤ more.length ∧ k2 ≤ 100 ∧ i = .int .i64 k2 ∧ n = .int .i64 M ∧ M ≤ 9223372036854775807 ∧ Hid (l.length ≤ 100 → (Fr.joinB l).length + (Fr.joinB (more.take k2)).length ≤ M ∨ 4096 < M) ∧ wz = wo) (fun n i _ => more.length - (intOf i).toNat)
        case atStart => exact ⟨0, N, by omega, by omega, rfl, rfl, hN, fun h => by have := HE1.out h; simpa [Fr.joinB, Fr.joinL] using this, rfl⟩
        case round =>
          obtain ⟨k2, M, hk2, hk2h, rfl, rfl, hM, hT2, hwz⟩ := hrel
          subst hwz
          by_cases hlt2 : k2 < more.length ∧ k2 < 100
          · obtain ⟨hlt2, hk3⟩ := hlt2
            have hlti2 : (k2 : Int) < (more.length : Int) := by omega
            have hk3i : (k2 : Int) < 100 := by omega
            obtain ⟨x, hx⟩ : ∃ x, more[k2]? = some x := ⟨more[k2], List.getElem?_eq_getElem hlt2⟩
            obtain ⟨ab, aoff, rfl, hac, _, _, d0⟩ := txt_cell (HM.out.kept K0.out).1 hx
            have hxs := HMS.out x (List.mem_of_getElem? hx)
            have HST := Lib.hid (Fr.joinB_step more k2 x hx)
            obtain ⟨p2, hp2⟩ : ∃ p, p = min x.size 4096 := ⟨_, rfl⟩
            obtain ⟨p3, hp3⟩ : ∃ p, p = min M 4096 := ⟨_, rfl⟩
            have m2 : min ((x.size : Nat) : Int) 4096 = (p2 : Int) := by omega
            have m3 : min ((M : Nat) : Int) 4096 = (p3 : Int) := by omega
            have q2 : p2 ≤ 4096 := by omega
            have q3 : p3 ≤ 4096 := by omega
            have HP2 := Lib.hid (And.intro hp2 hp3)
            clear hx hp2 hp3
            go_wp2_with fail
            try (go_quiet (fail))
            go_wp2
            go_roundw
            case rel =>
              refine ⟨k2 + 1, p3 + p2 + 8, by omega, by omega, by go_num, by first | rfl | (push_cast; rfl), by omega, ?_, by first | rfl | trivial⟩
              show _ → _ ∨ _
              intro hh
              obtain ⟨h2, h3⟩ := HP2.out
              rw [HST.out]
              rcases (show _ ∨ _ from hT2 hh) with hT | hT <;> omega
            case measure => simp [intOf]; omega
          · skip
            by_cases hM2 : 4096 < M
            · have hM2i : (4096 : Int) < (M : Int) := by omega
              by_cases hcs3 : (k2 : Int) < (more.length : Int)
              · have hk3n : ¬ (k2 : Int) < 100 := fun h' => hlt2 ⟨by omega, by omega⟩
                go_wp2
                go_ret
                exact ⟨rfl, K0.out.below (Nat.le_refl _) (fun _ h => h)⟩
              · skip
                go_wp2
                go_ret
                exact ⟨rfl, K0.out.below (Nat.le_refl _) (fun _ h => h)⟩
            · have hM2i : ¬ (4096 : Int) < (M : Int) := by omega
              have hbi : (100 : Int) < (l.length : Int) := by omega
              by_cases hcs3 : (k2 : Int) < (more.length : Int)
              · have hk3n : ¬ (k2 : Int) < 100 := fun h' => hlt2 ⟨by omega, by omega⟩
                go_wp2
                go_ret
                exact ⟨rfl, K0.out.below (Nat.le_refl _) (fun _ h => h)⟩
              · skip
                go_wp2
                go_ret
                exact ⟨rfl, K0.out.below (Nat.le_refl _) (fun _ h => h)⟩
      · clear hstop
        go_wp2
        go_loopw [10, 12] (fun n i wz => ∃ k2 M : Nat, k2 ≤ more.length ∧ k2 ≤ 100 ∧ i = .int .i64 k2 ∧ n = .int .i64 M ∧ M ≤ 9223372036854775807 ∧ Hid (l.length ≤ 100 → (Fr.joinB l).length + (Fr.joinB (more.take k2)).length ≤ M ∨ 4096 < M) ∧ wz = wo) (fun n i _ => more.length - (intOf i).toNat)
        case atStart => exact ⟨0, N, by omega, by omega, rfl, rfl, hN, fun h => by have := HE1.out h; simpa [Fr.joinB, Fr.joinL] using this, rfl⟩
        case round =>
          obtain ⟨k2, M, hk2, hk2h, rfl, rfl, hM, hT2, hwz⟩ := hrel
          subst hwz
          by_cases hlt2 : k2 < more.length ∧ k2 < 100
          · obtain ⟨hlt2, hk3⟩ := hlt2
            have hlti2 : (k2 : Int) < (more.length : Int) := by omega
            have hk3i : (k2 : Int) < 100 := by omega
            obtain ⟨x, hx⟩ : ∃ x, more[k2]? = some x := ⟨more[k2], List.getElem?_eq_getElem hlt2⟩
            obtain ⟨ab, aoff, rfl, hac, _, _, d0⟩ := txt_cell (HM.out.kept K0.out).1 hx
            have hxs := HMS.out x (List.mem_of_getElem? hx)
            have HST := Lib.hid (Fr.joinB_step more k2 x hx)
            obtain ⟨p2, hp2⟩ : ∃ p, p = min x.size 4096 := ⟨_, rfl⟩
            obtain ⟨p3, hp3⟩ : ∃ p, p = min M 4096 := ⟨_, rfl⟩
            have m2 : min ((x.size : Nat) : Int) 4096 = (p2 : Int) := by omega
            have m3 : min ((M : Nat) : Int) 4096 = (p3 : Int) := by omega
            have q2 : p2 ≤ 4096 := by omega
            have q3 : p3 ≤ 4096 := by omega
            have HP2 := Lib.hid (And.intro hp2 hp3)
            clear hx hp2 hp3
            go_wp2_with fail
            try (go_quiet (fail))
            go_wp2
            go_roundw
            case rel =>
              refine ⟨k2 + 1, p3 + p2 + 8, by omega, by omega, by go_num, by first | rfl | (push_cast; rfl), by omega, ?_, by first | rfl | trivial⟩
              show _ → _ ∨ _
              intro hh
              obtain ⟨h2, h3⟩ := HP2.out
              rw [HST.out]
              rcases (show _ ∨ _ from hT2 hh) with hT | hT <;> omega
            case measure => simp [intOf]; omega
          · skip
            by_cases hM2 : 4096 < M
            · have hM2i : (4096 : Int) < (M : Int) := by omega
              by_cases hcs3 : (k2 : Int) < (more.length : Int)
              · have hk3n : ¬ (k2 : Int) < 100 := fun h' => hlt2 ⟨by omega, by omega⟩
                go_wp2
                go_ret
                exact ⟨rfl, K0.out.below (Nat.le_refl _) (fun _ h => h)⟩
              · skip
                go_wp2
                go_ret
                exact ⟨rfl, K0.out.below (Nat.le_refl _) (fun _ h => h)⟩
            · have hM2i : ¬ (4096 : Int) < (M : Int) := by omega
              have hbi : ¬ (100 : Int) < (l.length : Int) := by omega
              by_cases hcs3 : (k2 : Int) < (more.length : Int)
              · have hk3n : ¬ (k2 : Int) < 100 := fun h' => hlt2 ⟨by omega, by omega⟩
                have hmi : (100 : Int) < (more.length : Int) := by omega
                go_wp2
                go_ret
                exact ⟨rfl, K0.out.below (Nat.le_refl _) (fun _ h => h)⟩
              · skip
                have hmi : ¬ (100 : Int) < (more.length : Int) := by omega
                by_cases hg4 : junk.size ≤ 7
                · have hg4i : ¬ (7 : Int) < (junk.size : Int) := by omega
                  have hJm : (Fr.joinB l).length + (Fr.joinB more).length ≤ 4096 := by
                    have hke2 : k2 = more.length := by omega
                    have := hT2 (by omega)
                    rw [hke2, List.take_length] at this
                    rcases this with h | h <;> omega
                  have hsmall : ∀ c ∈ l, c.size ≤ 65536 := fun c hc => by have := mem_joinB hc; omega
                  have hmsmall : ∀ c ∈ more, c.size ≤ 65536 := fun c hc => by have := mem_joinB hc; omega
                  have hl100 : l.length ≤ 100 := by omega
                  have hm100 : more.length ≤ 100 := by omega
                  clear hT2 hlt2
                  obtain ⟨w0, hw0⟩ : ∃ w0 : World, w0 = wr := ⟨_, rfl⟩
                  subst hw0
                  go_wp2_with fail
                  refine (New_any (S := From w.heap.size) w0 (fun k hk => Nat.le_trans K0.out.size hk) 100000 (by decide)).mono ?_
                  rintro e w1 ⟨rfl, d1, b1⟩
                  have D1 := Lib.hid d1
                  have K1 : Hid (Kept (From w.heap.size) w w1) := K0.out.trans (Kept.of_below b1)
                  clear d1 b1
                  generalize hdb : w0.heap.size = db at *
                  clear hdb
                  go_wp2_with fail
                  refine (Open_some D1.out (fun k hk => Nat.le_trans K1.out.size hk) (by decide) (by decide) (open_new 100000)).mono ?_
                  rintro e w2 ⟨wb, rfl, q2, k2'⟩
                  have P2 : Hid (Pair (DJ db wb (newS 100000) []) (RowQ (.slice none 0 0) []) (From w.heap.size) w2) := Pair.of (djThing _ _ _ _) (rowThing _ _) q2 (Below.refl _ _) ⟨World.ownsRow_nil _ _ _ _, fun g hg => by simp [Value.ownBlock] at hg⟩ (fun k hk => Nat.le_trans (K1.out.trans k2').size hk)
                  have K2 : Hid (Kept (From w.heap.size) w w2) := K1.out.trans k2'
                  clear q2 k2'
                  obtain ⟨s1, sy1, hd1, hw1, hr1, hc1', HAP1⟩ := wAppend_fits (Q := RowQ (.slice none 0 0) []) (db := db) (wb := wb) (rowThing _ _) (con_new 100000) rfl rfl (HV.out.kept K2.out) hsmall (by omega) (L := []) (by simp) (by show [].length + _ ≤ 100000; simp; omega) (by decide)
                  have HAPP1 := Lib.hid (HAP1 P2.out (fun j hj => Nat.le_trans K2.out.size hj))
                  rw [List.nil_append] at hc1' HAPP1
                  have hr1' : s1.room = 100000 := hr1
                  clear HAP1 hr1
                  go_wp2_with fail
                  refine HAPP1.out.mono ?_
                  rintro e w3 ⟨rfl, p3, k3⟩
                  have P3 : Hid (DJ db wb s1 l (From w.heap.size) w3) := Pair.fst (djThing _ _ _ _) p3
                  have K3 : Hid (Kept (From w.heap.size) w w3) := K2.out.trans k3
                  clear p3 k3 HAPP1
                  have hus := Used_any (Pair.fst (diskThing _ _) P3.out : DiskAt _ w3 db s1)
                  rw [hc1'.used] at hus
                  obtain ⟨J, hJe⟩ : ∃ J, J = Fr.joinB l := ⟨_, rfl⟩
                  rw [← hJe] at hus hc1' hJm
                  have HJE0 := Lib.hid hJe
                  obtain ⟨q, hq⟩ : ∃ q : Nat, min (max cut 0) ((J.length : Nat) : Int) = (q : Int) := ⟨(min (max cut 0) ((J.length : Nat) : Int)).toNat, by omega⟩
                  have hqJ : q ≤ J.length := by omega
                  go_wp2_with fail
                  refine hus.mono ?_
                  rintro e w4 ⟨rfl, rfl⟩
                  clear hus
                  by_cases hl0 : l = []
                  · have hJ0 : J = [] := by rw [hJe, hl0]; rfl
                    have hJt : J.take q = J := by rw [hJ0]; simp
                    have hl0i : ¬ (0 : Int) < (l.length : Int) := by rw [hl0]; simp
                    obtain ⟨s3, ha3, hd3, hw3, hr3, hc3⟩ := con_append (s := s1) (by rw [hJt]; exact hc1' : Con s1 (J.take q) sy1) hd1 hw1 (bs junk) (by rw [List.length_take, bs_len, hr1']; omega)
                    have C3 : Hid (Con s3 (J.take q ++ bs junk) sy1) := hc3
                    have hr3' : s3.room = 100000 := hr3.trans hr1'
                    have hu1 := hc1'.used
                    have hn1 := hc1'.count
                    have HAD := Lib.hid (Pair.step1 (diskThing _ _) (diskThing db s3) (walThing _ _ _ _) P3.out (fun j hj => Nat.le_trans K3.out.size hj) (X := fun e _ => e = .returned (.int .i64 0)) (fun T hT _ hq' => by
                      have h := Append_gen hq' hT ⟨by omega, by omega⟩ nJ junk (by decide) (by omega) (fun _ => by omega)
                      rw [show bs nJ = kJ from rfl, ha3] at h
                      exact h))
                    clear ha3 hc3 hr3 hJt hJ0 hl0 hJe hu1 hn1
                    go_wp2_with fail
                    refine HAD.out.mono ?_
                    rintro e w5 ⟨rfl, p5, k5⟩
                    have P5 := Lib.hid p5
                    have K5 : Hid (Kept (From w.heap.size) w w5) := K3.out.trans k5
                    clear p5 k5 HAD
                    have hcj : (J.take q ++ bs junk).length ≤ 4103 := by rw [List.length_append, List.length_take, bs_len]; omega
                    obtain ⟨s4, sy4, ho4, hd4, hw4, hr4, hc4, _⟩ := open_con C3.out hd3 hw3
                    obtain ⟨hjA, hszA⟩ := scanT_canon (J.take q ++ bs junk)
                    have hjk := scan_junk l hsmall q (bs junk) (by rw [bs_len]; exact hg4)
                    rw [← HJE0.out] at hjk
                    rw [← hjA] at hc4
                    have hAl : (Fr.joinB (Fr.scanT (J.take q ++ bs junk))).length ≤ 4103 := by rw [hjA, List.length_take]; omega
                    generalize hA : Fr.scanT (J.take q ++ bs junk) = A at *
                    clear hjA
                    have hAn : A.length ≤ 100 := by have := hjk.1; omega
                    have HJK := Lib.hid hjk.2
                    have hAI : ¬ (l.length : Int) < (A.length : Int) := by have := hjk.1; omega
                    have hAN : A.length ≤ l.length := hjk.1
                    have hus3 := C3.out.used
                    have hct3 := C3.out.count
                    have HOP := Lib.hid (Open_beside (walThing _ _ _ _) P5.out (fun j hj => Nat.le_trans K5.out.size hj) (by omega) (by omega) ho4)
                    clear hjk ho4 hA
                    go_wp2_with fail
                    refine HOP.out.mono ?_
                    rintro e w6 ⟨⟨vb, rfl, p6⟩, k6⟩
                    have P6 := Lib.hid p6
                    have K6 : Hid (Kept (From w.heap.size) w w6) := K5.out.trans k6
                    have HRC := Lib.hid (Records_any (Pair.snd (walThing _ _ _ _) (Pair.fst (djThing _ _ _ _) p6)) (by omega))
                    clear p6 k6 HOP
                    go_wp2_with fail
                    refine HRC.out.mono ?_
                    rintro e w7 ⟨rva, rfl, hoa, b7⟩
                    obtain ⟨ra, rac, rfl⟩ := row_slice hoa
                    have hszb7 : w6.heap.size ≤ w7.heap.size := b7.size
                    have tt : Thing (Pair (DJ db vb s4 A) (WalQ wb db nJ l)) := pairThing (djThing _ _ _ _) (walThing _ _ _ _)
                    have TT := Lib.hid tt
                    have P7 : Hid (Pair (DJ db vb s4 A) (WalQ wb db nJ l) (fun j => w.heap.size ≤ j ∧ (j < w6.heap.size ∨ w7.heap.size ≤ j)) w7) := tt.below (tt.mono (tt.tight P6.out) (fun j _ hj => ⟨hj.1, .inl hj.2⟩)) b7
                    have K7 : Hid (Kept (From w.heap.size) w w7) := K6.out.trans (Kept.of_below b7)
                    have HRA := Lib.hid hoa
                    clear hoa b7 HRC tt
                    obtain ⟨s5, sy5, hd5, hw5, hr5, hc5, HAP2⟩ := wAppend_fits (Q := WalQ wb db nJ l) (db := db) (wb := vb) (walThing wb db nJ l) hc4 hd4 hw4 ((HM.out.kept K7.out).mono (fun j (hj : w.heap.size ≤ j ∧ (j < w6.heap.size ∨ w7.heap.size ≤ j)) => hj.1)) hmsmall (by omega) (by omega) (L := A) (by omega) (by omega)
                    have HAPP2 := Lib.hid (HAP2 P7.out (fun j hj => ⟨by have := K7.out.size; show w.heap.size ≤ j; omega, .inr hj⟩))
                    clear HAP2
                    go_wp2_with fail
                    refine HAPP2.out.mono ?_
                    rintro e w8 ⟨rfl, p8, k8⟩
                    have P8 := Lib.hid p8
                    have K8 : Hid (Kept (From w.heap.size) w w8) := K7.out.trans (k8.mono (fun j _ hj => hj.1))
                    have HRA8 := Lib.hid (own_keep HRA.out (w' := w8) (fun g hg => k8.block g (own_lt HRA.out hg) (fun hh => hh.2.elim (fun h' => by have := (HRA.out.lt g hg).1; omega) (fun h' => by have := own_lt HRA.out hg; omega))))
                    have hszb8 : w7.heap.size ≤ w8.heap.size := k8.size
                    clear p8 k8 HAPP2
                    obtain ⟨s6, sy6, ho6, _, _, _, _, _⟩ := open_con hc5 hd5 hw5
                    have hsA : Fr.scanT (Fr.joinB A ++ Fr.joinB more) = A ++ more := by
                      rw [← joinB_app]
                      exact (Fr.scan_all (A ++ more) (fun c hc => (List.mem_append.1 hc).elim (hszA c) (hmsmall c))).1
                    rw [hsA] at ho6
                    have hus5 := hc5.used
                    have hct5 := hc5.count
                    have hl5 : (Fr.joinB A ++ Fr.joinB more).length ≤ 8199 := by rw [List.length_append]; omega
                    have HOP2 := Lib.hid (Open_beside (pairThing (walThing vb db nJ (A ++ more)) (walThing wb db nJ l)) (Pair.assoc P8.out) (fun j hj => ⟨by have := K8.out.size; show w.heap.size ≤ j; omega, .inr (by omega)⟩) (by omega) (by omega) ho6)
                    clear ho6 hsA
                    go_wp2_with fail
                    refine HOP2.out.mono ?_
                    rintro e w9 ⟨⟨ub, rfl, p9⟩, k9⟩
                    have P9 := Lib.hid p9
                    have K9 : Hid (Kept (From w.heap.size) w w9) := K8.out.trans (k9.mono (fun j _ hj => hj.1))
                    have HRA9 := Lib.hid (own_keep HRA8.out (w' := w9) (fun g hg => k9.block g (own_lt HRA8.out hg) (fun hh => hh.2.elim (fun h' => by have := (HRA.out.lt g hg).1; omega) (fun h' => by have := own_lt HRA.out hg; omega))))
                    have HRC2 := Lib.hid (Records_any (Pair.snd (walThing _ _ _ _) (Pair.fst (djThing _ _ _ _) p9)) (by simp; omega))
                    clear p9 k9 HOP2
                    go_wp2_with fail
                    refine HRC2.out.mono ?_
                    rintro e w10 ⟨rvb, rfl, hob, b10⟩
                    obtain ⟨rb2, rbc, rfl⟩ := row_slice hob
                    have K10 : Hid (Kept (From w.heap.size) w w10) := K9.out.trans (Kept.of_below b10)
                    have hla : Fr.ListAt w10 (.slice ra A.length rac) A.length (cellsOf strC A) := Fr.ListAt.of_own (own_keep HRA9.out (fun g hg => b10.block g (own_lt HRA9.out hg)))
                    have hlb : Fr.ListAt w10 (.slice rb2 (A ++ more).length rbc) (A ++ more).length (cellsOf strC (A ++ more)) := Fr.ListAt.of_own hob
                    have hlen : (A ++ more).length = A.length + more.length := List.length_append
                    rw [hlen] at hlb
                    obtain ⟨V1, v1a, v1b, l1⟩ := Fr.slice_to hlb rfl
                    obtain ⟨V2, v2a, v2b, l2⟩ := Fr.slice_from hlb rfl rfl
                    obtain ⟨V3, v3a, v3b, l3⟩ := Fr.slice_first (N := l.length) A.length (off_at (HV.out.kept K10.out).1) hAN
                    have HS1 := Lib.hid (Fr.same_n _ _ A A.length w10 l1 hla rfl (by omega))
                    have HS2 := fun w' (hb : Below w10.heap.size w10 w') => Fr.same_n _ _ more more.length w' (l2.below hb) ((off_at (HM.out.kept K10.out).1).below hb) rfl (by omega)
                    have HS3 := fun w' (hb : Below w10.heap.size w10 w') (e : bs junk = []) => Fr.same_n _ _ A A.length w' (hla.below hb) (by have := l3.below hb; rw [← HJK.out e] at this; exact this) rfl (by omega)
                    have HS2 := Lib.hid HS2
                    have HS3 := Lib.hid HS3
                    rw [hlen]
                    clear hob b10 HRC2 l1 l2 l3 hla hlb hlen
                    by_cases hj0 : junk.size = 0
                    · have hje : bs junk = [] := List.eq_nil_of_length_eq_zero (by rw [bs_len]; exact hj0)
                      have hjb := toList_empty5 hj0
                      have HJE := Lib.hid hje
                      clear hje
                      go_wp2_with fail
                      refine HS1.out.mono ?_
                      rintro e w11 ⟨rfl, b11⟩
                      have HB11 := Lib.hid b11
                      clear b11
                      go_wp2_with fail
                      refine (HS2.out w11 HB11.out).mono ?_
                      rintro e w12 ⟨rfl, b12⟩
                      have HB12 := Lib.hid (bw HB11.out b12)
                      clear b12
                      go_wp2_with fail
                      refine (HS3.out w12 HB12.out HJE.out).mono ?_
                      rintro e w13 ⟨rfl, b13⟩
                      have HB13 := Lib.hid (bw HB12.out b13)
                      clear b13
                      go_wp2
                      go_ret
                      exact ⟨rfl, (K10.out.trans (Kept.of_below HB13.out)).below (Nat.le_refl _) (fun _ h => h)⟩
                    · have hjb := toList_more5 (s := junk) (by omega)
                      go_wp2_with fail
                      refine HS1.out.mono ?_
                      rintro e w11 ⟨rfl, b11⟩
                      have HB11 := Lib.hid b11
                      clear b11
                      go_wp2_with fail
                      refine (HS2.out w11 HB11.out).mono ?_
                      rintro e w12 ⟨rfl, b12⟩
                      have HB12 := Lib.hid (bw HB11.out b12)
                      clear b12
                      go_wp2
                      go_ret
                      exact ⟨rfl, (K10.out.trans (Kept.of_below HB12.out)).below (Nat.le_refl _) (fun _ h => h)⟩
                  · have hJ0 : J ≠ [] := fun e => hl0 (joinB_nil (by rw [← hJe, e]; rfl))
                    have hl0p : 0 < l.length := List.length_pos_iff.2 hl0
                    have hl0i : (0 : Int) < (l.length : Int) := by omega
                    obtain ⟨s2, sy2, hc2e, hd2, hw2, hr2, hc2⟩ := con_cut hc1' hd1 hw1 hJ0 q hqJ
                    obtain ⟨s3, ha3, hd3, hw3, hr3, hc3⟩ := con_append hc2 hd2 hw2 (bs junk) (by rw [List.length_take, bs_len, hr2, hr1']; omega)
                    have C3 : Hid (Con s3 (J.take q ++ bs junk) sy2) := hc3
                    have hr3' : s3.room = 100000 := hr3.trans (hr2.trans hr1')
                    have hu1 := hc1'.used
                    have hn1 := hc1'.count
                    have hu2 := hc2.used
                    have hn2 := hc2.count
                    rw [List.length_take] at hu2
                    have HCT := Lib.hid (Pair.step1 (diskThing _ _) (diskThing db s2) (walThing _ _ _ _) P3.out (fun j hj => Nat.le_trans K3.out.size hj) (X := fun e _ => e = .returned (.int .i64 0)) (fun T hT _ hq' => by
                      have h := Cut_any hq' hT ⟨by omega, by omega⟩ nJ (q : Int) (by decide)
                      rw [show bs nJ = kJ from rfl, hc2e] at h
                      exact h))
                    have had : ∀ w', Pair (DiskQ db s2) (WalQ wb db nJ l) (From w.heap.size) w' → Kept (From w.heap.size) w w' → _ := fun w' p k => Pair.step1 (diskThing _ _) (diskThing db s3) (walThing _ _ _ _) p (fun j hj => Nat.le_trans k.size hj) (X := fun e _ => e = .returned (.int .i64 0)) (fun T hT _ hq' => by
                      have h := Append_gen hq' hT ⟨by omega, by omega⟩ nJ junk (by decide) (by omega) (fun _ => by omega)
                      rw [show bs nJ = kJ from rfl, ha3] at h
                      exact h)
                    have HAD := Lib.hid had
                    clear ha3 hc3 hr3 hc2e had hc2 hl0 hJ0 hJe hl0p hu1 hu2 hn1 hn2 hr2 hd2 hw2
                    go_wp2_with fail
                    refine HCT.out.mono ?_
                    rintro e w4 ⟨rfl, p4, k4⟩
                    have K4 : Hid (Kept (From w.heap.size) w w4) := K3.out.trans k4
                    have HAE := Lib.hid (HAD.out w4 p4 K4.out)
                    clear p4 k4 HCT HAD
                    go_wp2_with fail
                    refine HAE.out.mono ?_
                    rintro e w5 ⟨rfl, p5, k5⟩
                    have P5 := Lib.hid p5
                    have K5 : Hid (Kept (From w.heap.size) w w5) := K4.out.trans k5
                    clear p5 k5 HAE
                    have hcj : (J.take q ++ bs junk).length ≤ 4103 := by rw [List.length_append, List.length_take, bs_len]; omega
                    obtain ⟨s4, sy4, ho4, hd4, hw4, hr4, hc4, _⟩ := open_con C3.out hd3 hw3
                    obtain ⟨hjA, hszA⟩ := scanT_canon (J.take q ++ bs junk)
                    have hjk := scan_junk l hsmall q (bs junk) (by rw [bs_len]; exact hg4)
                    rw [← HJE0.out] at hjk
                    rw [← hjA] at hc4
                    have hAl : (Fr.joinB (Fr.scanT (J.take q ++ bs junk))).length ≤ 4103 := by rw [hjA, List.length_take]; omega
                    generalize hA : Fr.scanT (J.take q ++ bs junk) = A at *
                    clear hjA
                    have hAn : A.length ≤ 100 := by have := hjk.1; omega
                    have HJK := Lib.hid hjk.2
                    have hAI : ¬ (l.length : Int) < (A.length : Int) := by have := hjk.1; omega
                    have hAN : A.length ≤ l.length := hjk.1
                    have hus3 := C3.out.used
                    have hct3 := C3.out.count
                    have HOP := Lib.hid (Open_beside (walThing _ _ _ _) P5.out (fun j hj => Nat.le_trans K5.out.size hj) (by omega) (by omega) ho4)
                    clear hjk ho4 hA
                    go_wp2_with fail
                    refine HOP.out.mono ?_
                    rintro e w6 ⟨⟨vb, rfl, p6⟩, k6⟩
                    have P6 := Lib.hid p6
                    have K6 : Hid (Kept (From w.heap.size) w w6) := K5.out.trans k6
                    have HRC := Lib.hid (Records_any (Pair.snd (walThing _ _ _ _) (Pair.fst (djThing _ _ _ _) p6)) (by omega))
                    clear p6 k6 HOP
                    go_wp2_with fail
                    refine HRC.out.mono ?_
                    rintro e w7 ⟨rva, rfl, hoa, b7⟩
                    obtain ⟨ra, rac, rfl⟩ := row_slice hoa
                    have hszb7 : w6.heap.size ≤ w7.heap.size := b7.size
                    have tt : Thing (Pair (DJ db vb s4 A) (WalQ wb db nJ l)) := pairThing (djThing _ _ _ _) (walThing _ _ _ _)
                    have TT := Lib.hid tt
                    have P7 : Hid (Pair (DJ db vb s4 A) (WalQ wb db nJ l) (fun j => w.heap.size ≤ j ∧ (j < w6.heap.size ∨ w7.heap.size ≤ j)) w7) := tt.below (tt.mono (tt.tight P6.out) (fun j _ hj => ⟨hj.1, .inl hj.2⟩)) b7
                    have K7 : Hid (Kept (From w.heap.size) w w7) := K6.out.trans (Kept.of_below b7)
                    have HRA := Lib.hid hoa
                    clear hoa b7 HRC tt
                    obtain ⟨s5, sy5, hd5, hw5, hr5, hc5, HAP2⟩ := wAppend_fits (Q := WalQ wb db nJ l) (db := db) (wb := vb) (walThing wb db nJ l) hc4 hd4 hw4 ((HM.out.kept K7.out).mono (fun j (hj : w.heap.size ≤ j ∧ (j < w6.heap.size ∨ w7.heap.size ≤ j)) => hj.1)) hmsmall (by omega) (by omega) (L := A) (by omega) (by omega)
                    have HAPP2 := Lib.hid (HAP2 P7.out (fun j hj => ⟨by have := K7.out.size; show w.heap.size ≤ j; omega, .inr hj⟩))
                    clear HAP2
                    go_wp2_with fail
                    refine HAPP2.out.mono ?_
                    rintro e w8 ⟨rfl, p8, k8⟩
                    have P8 := Lib.hid p8
                    have K8 : Hid (Kept (From w.heap.size) w w8) := K7.out.trans (k8.mono (fun j _ hj => hj.1))
                    have HRA8 := Lib.hid (own_keep HRA.out (w' := w8) (fun g hg => k8.block g (own_lt HRA.out hg) (fun hh => hh.2.elim (fun h' => by have := (HRA.out.lt g hg).1; omega) (fun h' => by have := own_lt HRA.out hg; omega))))
                    have hszb8 : w7.heap.size ≤ w8.heap.size := k8.size
                    clear p8 k8 HAPP2
                    obtain ⟨s6, sy6, ho6, _, _, _, _, _⟩ := open_con hc5 hd5 hw5
                    have hsA : Fr.scanT (Fr.joinB A ++ Fr.joinB more) = A ++ more := by
                      rw [← joinB_app]
                      exact (Fr.scan_all (A ++ more) (fun c hc => (List.mem_append.1 hc).elim (hszA c) (hmsmall c))).1
                    rw [hsA] at ho6
                    have hus5 := hc5.used
                    have hct5 := hc5.count
                    have hl5 : (Fr.joinB A ++ Fr.joinB more).length ≤ 8199 := by rw [List.length_append]; omega
                    have HOP2 := Lib.hid (Open_beside (pairThing (walThing vb db nJ (A ++ more)) (walThing wb db nJ l)) (Pair.assoc P8.out) (fun j hj => ⟨by have := K8.out.size; show w.heap.size ≤ j; omega, .inr (by omega)⟩) (by omega) (by omega) ho6)
                    clear ho6 hsA
                    go_wp2_with fail
                    refine HOP2.out.mono ?_
                    rintro e w9 ⟨⟨ub, rfl, p9⟩, k9⟩
                    have P9 := Lib.hid p9
                    have K9 : Hid (Kept (From w.heap.size) w w9) := K8.out.trans (k9.mono (fun j _ hj => hj.1))
                    have HRA9 := Lib.hid (own_keep HRA8.out (w' := w9) (fun g hg => k9.block g (own_lt HRA8.out hg) (fun hh => hh.2.elim (fun h' => by have := (HRA.out.lt g hg).1; omega) (fun h' => by have := own_lt HRA.out hg; omega))))
                    have HRC2 := Lib.hid (Records_any (Pair.snd (walThing _ _ _ _) (Pair.fst (djThing _ _ _ _) p9)) (by simp; omega))
                    clear p9 k9 HOP2
                    go_wp2_with fail
                    refine HRC2.out.mono ?_
                    rintro e w10 ⟨rvb, rfl, hob, b10⟩
                    obtain ⟨rb2, rbc, rfl⟩ := row_slice hob
                    have K10 : Hid (Kept (From w.heap.size) w w10) := K9.out.trans (Kept.of_below b10)
                    have hla : Fr.ListAt w10 (.slice ra A.length rac) A.length (cellsOf strC A) := Fr.ListAt.of_own (own_keep HRA9.out (fun g hg => b10.block g (own_lt HRA9.out hg)))
                    have hlb : Fr.ListAt w10 (.slice rb2 (A ++ more).length rbc) (A ++ more).length (cellsOf strC (A ++ more)) := Fr.ListAt.of_own hob
                    have hlen : (A ++ more).length = A.length + more.length := List.length_append
                    rw [hlen] at hlb
                    obtain ⟨V1, v1a, v1b, l1⟩ := Fr.slice_to hlb rfl
                    obtain ⟨V2, v2a, v2b, l2⟩ := Fr.slice_from hlb rfl rfl
                    obtain ⟨V3, v3a, v3b, l3⟩ := Fr.slice_first (N := l.length) A.length (off_at (HV.out.kept K10.out).1) hAN
                    have HS1 := Lib.hid (Fr.same_n _ _ A A.length w10 l1 hla rfl (by omega))
                    have HS2 := fun w' (hb : Below w10.heap.size w10 w') => Fr.same_n _ _ more more.length w' (l2.below hb) ((off_at (HM.out.kept K10.out).1).below hb) rfl (by omega)
                    have HS3 := fun w' (hb : Below w10.heap.size w10 w') (e : bs junk = []) => Fr.same_n _ _ A A.length w' (hla.below hb) (by have := l3.below hb; rw [← HJK.out e] at this; exact this) rfl (by omega)
                    have HS2 := Lib.hid HS2
                    have HS3 := Lib.hid HS3
                    rw [hlen]
                    clear hob b10 HRC2 l1 l2 l3 hla hlb hlen
                    by_cases hj0 : junk.size = 0
                    · have hje : bs junk = [] := List.eq_nil_of_length_eq_zero (by rw [bs_len]; exact hj0)
                      have hjb := toList_empty5 hj0
                      have HJE := Lib.hid hje
                      clear hje
                      go_wp2_with fail
                      refine HS1.out.mono ?_
                      rintro e w11 ⟨rfl, b11⟩
                      have HB11 := Lib.hid b11
                      clear b11
                      go_wp2_with fail
                      refine (HS2.out w11 HB11.out).mono ?_
                      rintro e w12 ⟨rfl, b12⟩
                      have HB12 := Lib.hid (bw HB11.out b12)
                      clear b12
                      go_wp2_with fail
                      refine (HS3.out w12 HB12.out HJE.out).mono ?_
                      rintro e w13 ⟨rfl, b13⟩
                      have HB13 := Lib.hid (bw HB12.out b13)
                      clear b13
                      go_wp2
                      go_ret
                      exact ⟨rfl, (K10.out.trans (Kept.of_below HB13.out)).below (Nat.le_refl _) (fun _ h => h)⟩
                    · have hjb := toList_more5 (s := junk) (by omega)
                      go_wp2_with fail
                      refine HS1.out.mono ?_
                      rintro e w11 ⟨rfl, b11⟩
                      have HB11 := Lib.hid b11
                      clear b11
                      go_wp2_with fail
                      refine (HS2.out w11 HB11.out).mono ?_
                      rintro e w12 ⟨rfl, b12⟩
                      have HB12 := Lib.hid (bw HB11.out b12)
                      clear b12
                      go_wp2
                      go_ret
                      exact ⟨rfl, (K10.out.trans (Kept.of_below HB12.out)).below (Nat.le_refl _) (fun _ h => h)⟩
                · have hg4i : (7 : Int) < (junk.size : Int) := by omega
                  go_wp2
                  go_ret
                  exact ⟨rfl, K0.out.below (Nat.le_refl _) (fun _ h => h)⟩
end Go.Proofs.Ytnffjoflkeagfaa
