/- Behind so many changes the power goes, within the next one. -/
import Derived.Test.YtaepjknmedemgaaLawKeeps
namespace Go.Proofs.Ytaepjknmedemgaa
open Go.RowKit Go.Maps

def bkS (c : Bool) (W : List UInt8) (m : Nat) : St := ⟨10000, if c = true then [([97], ⟨W, 0, false⟩)] else [], false, true, m⟩
def bkD (V : List UInt8) : St := ⟨10000, [([97], ⟨V, 0, false⟩)], true, false, 0⟩
def bkE (W : List UInt8) : St := ⟨10000, if W = [] then [] else [([97], ⟨W, W.length, true⟩)], false, false, 0⟩
theorem bk_new (n : Nat) : breakS (newS 10000) (n : Int) = bkS false [] n := by simp [breakS, newS, bkS]
theorem bk_used (c : Bool) (W : List UInt8) (m : Nat) : usedF (bkS c W m).fs ≤ W.length := by cases c <;> simp [bkS, usedF]
theorem bk_small (c : Bool) (W : List UInt8) (m : Nat) (h : W.length ≤ 10000) : Small (bkS c W m) := ⟨by cases c <;> simp [bkS], by have := bk_used c W m; omega⟩
theorem bk_fs (c : Bool) (W x : List UInt8) (m : Nat) (hc : c = false → W = []) : putF (bkS c W m).fs [97] (grown (getF (bkS c W m).fs [97]) x) = [([97], ⟨W ++ x, 0, false⟩)] := by
  cases c with
  | false => rw [hc rfl]; simp [bkS, putF, getF, look, F.zero, grown]
  | true => simp [bkS, putF, getF, look, grown]
theorem bk_append (c : Bool) (W x : List UInt8) (m : Nat) (hc : c = false → W = []) (h : W.length + x.length ≤ 10000) : appendS (bkS c W (m + 1)) [97] x = (0, bkS true (W ++ x) m) := by
  unfold appendS
  rw [bk_fs c W x (m + 1) hc, if_neg (by have := bk_used c W (m + 1); show ¬ _ > 10000; omega), changeS_whole rfl rfl rfl]
  simp [brkS, bkS]
theorem bk_break (c : Bool) (W x : List UInt8) (hc : c = false → W = []) (h : W.length + x.length ≤ 10000) : appendS (bkS c W 0) [97] x = (41, bkD (W ++ x)) := by
  unfold appendS
  rw [bk_fs c W x 0 hc, if_neg (by have := bk_used c W 0; show ¬ _ > 10000; omega), changeS_torn rfl rfl rfl]
  simp [brkS, bkS, bkD]
theorem bk_down (V : List UInt8) : syncS (bkD V) [97] = (41, bkD V) ∧ readS (bkD V) [97] = ([], 41) ∧ appendS (bkD V) [99] [] = (41, bkD V) ∧ removeS (bkD V) [97] = (41, bkD V) :=
  ⟨changeS_down rfl _ _ _, rfl, changeS_down rfl _ _ _, changeS_down rfl _ _ _⟩
theorem bk_kept (V : List UInt8) : keptL (bkD V).fs = [.string ⟨#[97]⟩, .string (mk V), .int .i64 0] := by simp [keptL, keptC, bkD]
theorem bk_crash (W x : List UInt8) : crashS (bkD (W ++ x)) [(W.length : Int)] = bkE W := by
  have h : leftF ⟨W ++ x, 0, false⟩ (W.length : Int) = W.length := by simp [leftF]
  have e : crashF [([97], ⟨W ++ x, 0, false⟩)] [(W.length : Int)] = if W = [] then [] else [([97], ⟨W, W.length, true⟩)] := by
    by_cases hw : W = []
    · subst hw; simp [crashF, leftF]
    · have hl : ¬ W.length = 0 := fun h => hw (List.eq_nil_of_length_eq_zero h)
      simp [crashF, leftF, hw]
  unfold crashS bkE
  rw [show (bkD (W ++ x)).fs = [([97], ⟨W ++ x, 0, false⟩)] from rfl, e]
  rfl
theorem bk_read (W : List UInt8) : readS (bkE W) [97] = if W = [] then ([], 42) else (W, 0) := by
  by_cases hw : W = []
  · subst hw; rfl
  · simp [readS, bkE, hw, look, getF]
set_option maxHeartbeats 8000000 in
set_option maxRecDepth 100000 in
theorem law_breaks (n : Int) (v : Value) (l : List ByteArray) (b : ByteArray) (w : World) (hl : ListOff (From w.heap.size) w v l.length (cellsOf strC l)) (hln : l.length ≤ 9223372036854775807) (hb : b.size ≤ 9223372036854775807) (hn0 : -9223372036854775808 ≤ n) (hn1 : n ≤ 9223372036854775807) :
    Calls Try.prog 6 #[.int .i64 n, v, .string b] w fun e w' => e = .returned (.bool true) ∧ Below w.heap.size w w' := by
  have hw := works_any w
  obtain ⟨va, vc, rfl⟩ : ∃ a c, v = .slice a l.length c := by obtain ⟨_, a, c, e, _⟩ := hl; exact ⟨a, c, e⟩
  by_cases hg : n < 0 ∨ 50 < n ∨ 60 < l.length ∨ 100 < b.size
  · have t1 : (decide (n < 0) || decide (50 < n) || decide ((60 : Int) < (l.length : Int)) || decide ((100 : Int) < (b.size : Int))) = true := by
      rcases hg with h | h | h | h
      · simp [h]
      · simp [h]
      · simp [show (60 : Int) < (l.length : Int) by omega]
      · simp [show (100 : Int) < (b.size : Int) by omega]
    clear hl hg
    go_enter Try.func6, Try.ntmps6
    go_wp2_with fail
    refine hw.mono ?_
    rintro e w0 ⟨rfl, b0⟩
    have B0 := Lib.hid b0
    clear b0
    go_wp2
    all_goals
      go_ret
      exact ⟨rfl, B0.out⟩
  · have t1 : ¬ n < 0 := fun h => hg (.inl h)
    have t2 : ¬ (50 : Int) < n := fun h => hg (.inr (.inl h))
    have t3 : ¬ (60 : Int) < (l.length : Int) := fun h => hg (.inr (.inr (.inl (by omega))))
    have t4 : ¬ (100 : Int) < (b.size : Int) := fun h => hg (.inr (.inr (.inr (by omega))))
    clear hg
    obtain ⟨m, rfl⟩ : ∃ m : Nat, n = m := ⟨n.toNat, by omega⟩
    have HL := Lib.hid hl
    clear hl hn0 hn1 hln hb
    go_enter Try.func6, Try.ntmps6
    go_wp2_with fail
    refine hw.mono ?_
    rintro e w0 ⟨rfl, b0⟩
    have K0 : Hid (Kept (From w.heap.size) w w0) := Kept.of_below b0
    clear b0 hw
    go_wp2_with fail
    refine (New_any (S := From w.heap.size) w0 (fun k hk => Nat.le_trans K0.out.size hk) 10000 (by decide)).mono ?_
    rintro e w1 ⟨rfl, d1, b1⟩
    have D1 := Lib.hid d1
    have K1 : Hid (Kept (From w.heap.size) w w1) := K0.out.trans (Kept.of_below b1)
    clear d1 b1
    generalize hdb : w0.heap.size = db at *
    clear hdb
    go_wp2_with fail
    refine (Break_any D1.out (m : Int) (by omega)).mono ?_
    rw [bk_new]
    rintro e w2 ⟨rfl, d2, k2⟩
    have D2 := Lib.hid d2
    have K2 := Lib.hid (K1.out.trans k2)
    clear d2 k2
    go_wp2
    go_loopw [9, 10] (fun s i wr => ∃ (k : Nat) (W : ByteArray) (c : Bool), k ≤ l.length ∧ k ≤ m ∧ i = .int .i64 k ∧ s = .string W ∧ W.size ≤ 100 * k ∧ (c = false → bs W = []) ∧ DiskAt (From w.heap.size) wr db (bkS c (bs W) (m - k)) ∧ Kept (From w.heap.size) w wr) (fun s i _ => l.length - (intOf i).toNat)
    case atStart => exact ⟨0, ⟨#[]⟩, false, by omega, by omega, rfl, rfl, by decide, fun _ => rfl, D2.out, K2.out⟩
    case round =>
      obtain ⟨k, W, c, hk1, hk2, rfl, rfl, hW, hcW, hd, hkp⟩ := hrel
      have HD := Lib.hid hd
      have HK := Lib.hid hkp
      have HC := Lib.hid hcW
      clear hd hkp hcW
      by_cases h1 : k < l.length
      · have h1i : (k : Int) < (l.length : Int) := by omega
        obtain ⟨x, hx⟩ : ∃ x, l[k]? = some x := ⟨l[k], List.getElem?_eq_getElem h1⟩
        obtain ⟨ba, off, rfl, hcap, _, hcell⟩ := list_get (HL.out.kept HK.out) hx
        by_cases h2 : k < m
        · have h2i : (k : Int) < (m : Int) := by omega
          by_cases h3 : x.size ≤ 100
          · have h3i : ¬ (100 : Int) < (x.size : Int) := by omega
            have hkm : m - k = (m - (k + 1)) + 1 := by omega
            have hap := fun wx (dx : DiskAt (From w.heap.size) wx db (bkS c (bs W) (m - k))) hS => Append_any dx hS (bk_small _ _ _ (by rw [bs_len]; omega)) ⟨#[97]⟩ x (by decide) (by omega)
            rw [hkm] at hap
            rw [show appendS (bkS c (bs W) (m - (k + 1) + 1)) (bs ⟨#[97]⟩) (bs x) = (0, bkS true (bs W ++ bs x) (m - (k + 1))) from bk_append _ _ _ _ HC.out (by rw [bs_len, bs_len]; omega)] at hap
            have hD2 := HD.out
            rw [hkm] at hD2
            have HAP := Lib.hid (hap wr hD2 (fun j hj => Nat.le_trans HK.out.size hj))
            have hsz : W.size + x.size ≤ 9223372036854775807 := by omega
            have hsx : (W ++ x).size = W.size + x.size := ByteArray.size_append
            have HSX := Lib.hid hsx
            clear hap hD2 hkm hsx
            go_wp2_with fail
            refine HAP.out.mono ?_
            rintro e w5 ⟨rfl, d5, k5⟩
            have c5 : w5.cell? ⟨ba, off + k, none⟩ = some (.string x) := by
              obtain ⟨ba', off', e', _, _, hc5⟩ := list_get (HL.out.kept (HK.out.trans k5)) hx
              cases e'; exact hc5
            have N5 := Lib.hid (Down_any d5)
            have D5 := Lib.hid d5
            have K5 := Lib.hid (HK.out.trans k5)
            clear d5 k5
            go_wp2_with fail
            refine N5.out.mono ?_
            rintro e w6 ⟨rfl, rfl⟩
            go_wp2
            go_roundw
            case rel =>
              refine ⟨k + 1, W ++ x, true, by omega, by omega, by go_num, rfl, by rw [HSX.out]; omega, (fun h => by cases h), ?_, K5.out⟩
              have := D5.out
              rw [← bs_app] at this
              exact this
            case measure => simp [intOf]; omega
          · have h3i : (100 : Int) < (x.size : Int) := by omega
            go_wp2
            go_ret
            exact ⟨rfl, HK.out.below (Nat.le_refl _) (fun _ h => h)⟩
        · have h2i : ¬ (k : Int) < (m : Int) := by omega
          have h5 : ¬ (l.length : Int) < (m : Int) := by omega
          have hkm : k = m := by omega
          subst hkm
          have hD := HD.out
          rw [Nat.sub_self] at hD
          have hap := Append_any hD (fun j hj => Nat.le_trans HK.out.size hj) (bk_small _ _ _ (by rw [bs_len]; omega)) ⟨#[97]⟩ b (by decide) (by omega)
          rw [show appendS (bkS c (bs W) 0) (bs ⟨#[97]⟩) (bs b) = (41, bkD (bs W ++ bs b)) from bk_break _ _ _ HC.out (by rw [bs_len, bs_len]; omega)] at hap
          have HAP := Lib.hid hap
          have hvl : (bs W ++ bs b).length = W.size + b.size := by rw [List.length_append, bs_len, bs_len]
          have hstr : mk (bs W ++ bs b) = W ++ b := ba_ext (by rw [bs_mk, bs_app])
          have hsm : Small (bkD (bs W ++ bs b)) := ⟨by simp [bkD], by simp only [bkD, usedF]; rw [hvl]; omega⟩
          have hWl : ((W.size : Nat) : Int) = ((bs W).length : Nat) := by rw [bs_len]
          obtain ⟨V, hV⟩ : ∃ V, V = bs W ++ bs b := ⟨_, rfl⟩
          rw [← hV] at HAP hstr hsm
          have HV := Lib.hid hV
          have HST := Lib.hid hstr
          have HSM := Lib.hid hsm
          have HWL := Lib.hid hWl
          have hsz : W.size + b.size ≤ 9223372036854775807 := by omega
          have HDN := Lib.hid (bk_down V)
          clear hap hD hvl hstr hV hsm hWl
          go_wp2_with fail
          refine HAP.out.mono ?_
          rintro e w5 ⟨rfl, d5, k5⟩
          have D5 := Lib.hid d5
          have K5 := Lib.hid (HK.out.trans k5)
          clear d5 k5 HAP
          go_wp2_with fail
          refine (Sync_any D5.out (fun j hj => Nat.le_trans K5.out.size hj) HSM.out ⟨#[97]⟩ (by decide)).mono ?_
          rw [show syncS (bkD V) (bs ⟨#[97]⟩) = (41, bkD V) from HDN.out.1]
          rintro e w6 ⟨rfl, d6, k6⟩
          have D6 := Lib.hid d6
          have K6 := Lib.hid (K5.out.trans k6)
          clear d6 k6
          go_wp2_with fail
          refine (Read_any D6.out ⟨#[97]⟩ (by decide)).mono ?_
          rw [show readS (bkD V) (bs ⟨#[97]⟩) = ([], 41) from HDN.out.2.1]
          rintro e w7 ⟨rfl, b7⟩
          have D7 := Lib.hid (D6.out.below b7)
          have K7 := Lib.hid (K6.out.trans (Kept.of_below b7))
          clear b7
          go_wp2_with fail
          refine (Append_any D7.out (fun j hj => Nat.le_trans K7.out.size hj) HSM.out ⟨#[99]⟩ ⟨#[]⟩ (by decide) (by decide)).mono ?_
          rw [show appendS (bkD V) (bs ⟨#[99]⟩) (bs ⟨#[]⟩) = (41, bkD V) from HDN.out.2.2.1]
          rintro e w8 ⟨rfl, d8, k8⟩
          have D8 := Lib.hid d8
          have K8 := Lib.hid (K7.out.trans k8)
          clear d8 k8
          go_wp2_with fail
          refine (Remove_any D8.out (fun j hj => Nat.le_trans K8.out.size hj) HSM.out ⟨#[97]⟩ (by decide)).mono ?_
          rw [show removeS (bkD V) (bs ⟨#[97]⟩) = (41, bkD V) from HDN.out.2.2.2]
          rintro e w9 ⟨rfl, d9, k9⟩
          have D9 := Lib.hid d9
          have K9 := Lib.hid (K8.out.trans k9)
          clear d9 k9
          go_wp2_with fail
          refine (Kept_any D9.out HSM.out.count).mono ?_
          rintro e w10 ⟨kv, rfl, hrow, b10⟩
          have hrow' : w10.ownsRow w9.heap.size 46 3 kv 1 [.string ⟨#[97]⟩, .string (W ++ b), .int .i64 0] := by
            have := hrow
            rw [bk_kept, HST.out] at this
            exact this
          obtain ⟨g, cap, rfl, hcap2, hg, hgB, hc2⟩ := row_cell hrow' (j := 2) (u := .int .i64 0) rfl
          obtain ⟨g', cap', e', _, _, _, hc1⟩ := row_cell hrow' (j := 1) (u := .string (W ++ b)) rfl
          cases e'
          have D10 := Lib.hid (D9.out.below b10)
          have N10 := Lib.hid (Down_any (D9.out.below b10))
          have K10 := Lib.hid (K9.out.trans (Kept.of_below b10))
          clear b10 hrow hrow'
          go_wp2_with fail
          refine N10.out.mono ?_
          rintro e w11 ⟨rfl, rfl⟩
          rw [show (bkD V).down = true from rfl]
          go_wp2_with fail
          have hcr := Crash_new D10.out (fun j hj => Nat.le_trans K10.out.size hj) HSM.out (by simp [bkD]) 3 [((W.size : Nat) : Int)] (by simp)
          rw [HV.out, HWL.out, bk_crash, ← HWL.out] at hcr
          refine hcr.mono ?_
          rintro e w12 ⟨rfl, d12, k12⟩
          have D12 := Lib.hid d12
          have K12 := Lib.hid (K10.out.trans k12)
          clear d12 k12 hcr
          by_cases hW0 : bs W = []
          · have hemp : W = ⟨#[]⟩ := ba_ext (by rw [hW0])
            subst hemp
            go_wp2_with fail
            refine (Read_any D12.out ⟨#[97]⟩ (by decide)).mono ?_
            rw [show readS (bkE (bs ⟨#[]⟩)) (bs ⟨#[97]⟩) = ([], 42) from rfl]
            rintro e w13 ⟨rfl, b13⟩
            have K13 := Lib.hid (K12.out.trans (Kept.of_below b13))
            clear b13
            go_wp2
            go_ret
            exact ⟨ret_bool (by first | rfl | simp | decide), K13.out.below (Nat.le_refl _) (fun _ h => h)⟩
          · have hne : W.toList.isEmpty = false := by
              rw [Lib.toList_data]
              cases e : W.data.toList with
              | nil => exact absurd e hW0
              | cons a r => rfl
            go_wp2_with fail
            refine (Read_any D12.out ⟨#[97]⟩ (by decide)).mono ?_
            rw [show readS (bkE (bs W)) (bs ⟨#[97]⟩) = (bs W, 0) by rw [show bs ⟨#[97]⟩ = [97] from rfl, bk_read, if_neg hW0], mk_bs]
            rintro e w13 ⟨rfl, b13⟩
            have K13 := Lib.hid (K12.out.trans (Kept.of_below b13))
            clear b13
            go_wp2
            go_ret
            exact ⟨ret_bool (by first | rfl | simp | decide), K13.out.below (Nat.le_refl _) (fun _ h => h)⟩
      · have h1i : ¬ (k : Int) < (l.length : Int) := by omega
        by_cases h4 : l.length < m
        · have h5 : (l.length : Int) < (m : Int) := by omega
          have N5 := Lib.hid (Down_any HD.out)
          go_wp2_with fail
          refine N5.out.mono ?_
          rintro e w6 ⟨rfl, rfl⟩
          rw [show (bkS c (bs W) (m - k)).down = false from rfl]
          go_wp2
          go_ret
          exact ⟨rfl, HK.out.below (Nat.le_refl _) (fun _ h => h)⟩
        · have h5 : ¬ (l.length : Int) < (m : Int) := by omega
          have hkm : k = m := by omega
          subst hkm
          have hD := HD.out
          rw [Nat.sub_self] at hD
          have hap := Append_any hD (fun j hj => Nat.le_trans HK.out.size hj) (bk_small _ _ _ (by rw [bs_len]; omega)) ⟨#[97]⟩ b (by decide) (by omega)
          rw [show appendS (bkS c (bs W) 0) (bs ⟨#[97]⟩) (bs b) = (41, bkD (bs W ++ bs b)) from bk_break _ _ _ HC.out (by rw [bs_len, bs_len]; omega)] at hap
          have HAP := Lib.hid hap
          have hvl : (bs W ++ bs b).length = W.size + b.size := by rw [List.length_append, bs_len, bs_len]
          have hstr : mk (bs W ++ bs b) = W ++ b := ba_ext (by rw [bs_mk, bs_app])
          have hsm : Small (bkD (bs W ++ bs b)) := ⟨by simp [bkD], by simp only [bkD, usedF]; rw [hvl]; omega⟩
          have hWl : ((W.size : Nat) : Int) = ((bs W).length : Nat) := by rw [bs_len]
          obtain ⟨V, hV⟩ : ∃ V, V = bs W ++ bs b := ⟨_, rfl⟩
          rw [← hV] at HAP hstr hsm
          have HV := Lib.hid hV
          have HST := Lib.hid hstr
          have HSM := Lib.hid hsm
          have HWL := Lib.hid hWl
          have hsz : W.size + b.size ≤ 9223372036854775807 := by omega
          have HDN := Lib.hid (bk_down V)
          clear hap hD hvl hstr hV hsm hWl
          go_wp2_with fail
          refine HAP.out.mono ?_
          rintro e w5 ⟨rfl, d5, k5⟩
          have D5 := Lib.hid d5
          have K5 := Lib.hid (HK.out.trans k5)
          clear d5 k5 HAP
          go_wp2_with fail
          refine (Sync_any D5.out (fun j hj => Nat.le_trans K5.out.size hj) HSM.out ⟨#[97]⟩ (by decide)).mono ?_
          rw [show syncS (bkD V) (bs ⟨#[97]⟩) = (41, bkD V) from HDN.out.1]
          rintro e w6 ⟨rfl, d6, k6⟩
          have D6 := Lib.hid d6
          have K6 := Lib.hid (K5.out.trans k6)
          clear d6 k6
          go_wp2_with fail
          refine (Read_any D6.out ⟨#[97]⟩ (by decide)).mono ?_
          rw [show readS (bkD V) (bs ⟨#[97]⟩) = ([], 41) from HDN.out.2.1]
          rintro e w7 ⟨rfl, b7⟩
          have D7 := Lib.hid (D6.out.below b7)
          have K7 := Lib.hid (K6.out.trans (Kept.of_below b7))
          clear b7
          go_wp2_with fail
          refine (Append_any D7.out (fun j hj => Nat.le_trans K7.out.size hj) HSM.out ⟨#[99]⟩ ⟨#[]⟩ (by decide) (by decide)).mono ?_
          rw [show appendS (bkD V) (bs ⟨#[99]⟩) (bs ⟨#[]⟩) = (41, bkD V) from HDN.out.2.2.1]
          rintro e w8 ⟨rfl, d8, k8⟩
          have D8 := Lib.hid d8
          have K8 := Lib.hid (K7.out.trans k8)
          clear d8 k8
          go_wp2_with fail
          refine (Remove_any D8.out (fun j hj => Nat.le_trans K8.out.size hj) HSM.out ⟨#[97]⟩ (by decide)).mono ?_
          rw [show removeS (bkD V) (bs ⟨#[97]⟩) = (41, bkD V) from HDN.out.2.2.2]
          rintro e w9 ⟨rfl, d9, k9⟩
          have D9 := Lib.hid d9
          have K9 := Lib.hid (K8.out.trans k9)
          clear d9 k9
          go_wp2_with fail
          refine (Kept_any D9.out HSM.out.count).mono ?_
          rintro e w10 ⟨kv, rfl, hrow, b10⟩
          have hrow' : w10.ownsRow w9.heap.size 46 3 kv 1 [.string ⟨#[97]⟩, .string (W ++ b), .int .i64 0] := by
            have := hrow
            rw [bk_kept, HST.out] at this
            exact this
          obtain ⟨g, cap, rfl, hcap2, hg, hgB, hc2⟩ := row_cell hrow' (j := 2) (u := .int .i64 0) rfl
          obtain ⟨g', cap', e', _, _, _, hc1⟩ := row_cell hrow' (j := 1) (u := .string (W ++ b)) rfl
          cases e'
          have D10 := Lib.hid (D9.out.below b10)
          have N10 := Lib.hid (Down_any (D9.out.below b10))
          have K10 := Lib.hid (K9.out.trans (Kept.of_below b10))
          clear b10 hrow hrow'
          go_wp2_with fail
          refine N10.out.mono ?_
          rintro e w11 ⟨rfl, rfl⟩
          rw [show (bkD V).down = true from rfl]
          go_wp2_with fail
          have hcr := Crash_new D10.out (fun j hj => Nat.le_trans K10.out.size hj) HSM.out (by simp [bkD]) 3 [((W.size : Nat) : Int)] (by simp)
          rw [HV.out, HWL.out, bk_crash, ← HWL.out] at hcr
          refine hcr.mono ?_
          rintro e w12 ⟨rfl, d12, k12⟩
          have D12 := Lib.hid d12
          have K12 := Lib.hid (K10.out.trans k12)
          clear d12 k12 hcr
          by_cases hW0 : bs W = []
          · have hemp : W = ⟨#[]⟩ := ba_ext (by rw [hW0])
            subst hemp
            go_wp2_with fail
            refine (Read_any D12.out ⟨#[97]⟩ (by decide)).mono ?_
            rw [show readS (bkE (bs ⟨#[]⟩)) (bs ⟨#[97]⟩) = ([], 42) from rfl]
            rintro e w13 ⟨rfl, b13⟩
            have K13 := Lib.hid (K12.out.trans (Kept.of_below b13))
            clear b13
            go_wp2
            go_ret
            exact ⟨ret_bool (by first | rfl | simp | decide), K13.out.below (Nat.le_refl _) (fun _ h => h)⟩
          · have hne : W.toList.isEmpty = false := by
              rw [Lib.toList_data]
              cases e : W.data.toList with
              | nil => exact absurd e hW0
              | cons a r => rfl
            go_wp2_with fail
            refine (Read_any D12.out ⟨#[97]⟩ (by decide)).mono ?_
            rw [show readS (bkE (bs W)) (bs ⟨#[97]⟩) = (bs W, 0) by rw [show bs ⟨#[97]⟩ = [97] from rfl, bk_read, if_neg hW0], mk_bs]
            rintro e w13 ⟨rfl, b13⟩
            have K13 := Lib.hid (K12.out.trans (Kept.of_below b13))
            clear b13
            go_wp2
            go_ret
            exact ⟨ret_bool (by first | rfl | simp | decide), K13.out.below (Nat.le_refl _) (fun _ h => h)⟩
end Go.Proofs.Ytaepjknmedemgaa
