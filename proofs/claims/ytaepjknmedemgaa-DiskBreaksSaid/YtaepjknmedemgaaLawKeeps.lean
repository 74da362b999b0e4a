/- A crash keeps a file's sure bytes, and behind them as many as it is told to. -/
import Derived.Test.YtaepjknmedemgaaWorks
namespace Go.Proofs.Ytaepjknmedemgaa
open Go.RowKit Go.Maps

theorem getD_one (z : Int) : [z].headD 0 = z := rfl
theorem extract_bs (b : ByteArray) (n : Nat) : bs (b.extract 0 n) = (bs b).take n := by
  have h : (b.extract 0 n).data = b.data.extract 0 n := by simp [ByteArray.data_extract]
  unfold bs
  rw [h]
  simp
theorem bs_app (a b : ByteArray) : bs (a ++ b) = bs a ++ bs b := by
  unfold bs
  simp [ByteArray.data_append]
def kp1 (a : List UInt8) : St := ⟨1073741824, [([102], ⟨a, 0, false⟩)], false, false, 0⟩
def kp2 (a : List UInt8) : St := ⟨1073741824, [([102], ⟨a, a.length, true⟩)], false, false, 0⟩
def kp3 (a b : List UInt8) : St := ⟨1073741824, [([102], ⟨a ++ b, a.length, true⟩)], false, false, 0⟩
def kp4 (a b : List UInt8) : St := ⟨1073741824, [([102], ⟨a ++ b, (a ++ b).length, true⟩)], false, false, 0⟩
theorem ke1 (a : List UInt8) (h : a.length ≤ 8192) : appendS (newS 1073741824) [102] a = (0, kp1 a) := by
  unfold appendS
  rw [if_neg (by show ¬ usedF [] + a.length > _; simp only [usedF, newS]; show ¬ 0 + a.length > 1073741824; omega), changeS_whole rfl rfl rfl]
  simp [brkS, newS, kp1, getF, look, F.zero, grown, putF]
theorem ke2 (a : List UInt8) : syncS (kp1 a) [102] = (0, kp2 a) := by
  unfold syncS needE
  rw [if_pos (by simp [kp1, look]), changeS_whole rfl rfl rfl]
  simp [brkS, kp1, kp2, getF, look, syncedF, putF]
theorem ke3 (a b : List UInt8) (ha : a.length ≤ 8192) (hb : b.length ≤ 8192) : appendS (kp2 a) [102] b = (0, kp3 a b) := by
  unfold appendS
  rw [if_neg (by simp only [usedF, kp2]; omega), changeS_whole rfl rfl rfl]
  simp [brkS, kp2, kp3, getF, look, grown, putF]
theorem crash_one (k : List UInt8) (f : F) (z : Int) (hu : f.u = true) : crashF [(k, f)] [z] = [(k, ⟨f.b.take (leftF f z), leftF f z, true⟩)] := by
  simp [crashF, hu]
theorem ke4 (a b : List UInt8) (z : Int) : crashS (kp3 a b) [z] = kp4 a (b.take (min z.toNat b.length)) := by
  have e : (a ++ b).take (a.length + min z.toNat b.length) = a ++ b.take (min z.toNat b.length) := by rw [List.take_length_add_append]
  have h2 : leftF ⟨a ++ b, a.length, true⟩ z = a.length + min z.toNat b.length := by simp only [leftF, List.length_append]; omega
  have h3 : (a ++ b.take (min z.toNat b.length)).length = a.length + min z.toNat b.length := by rw [List.length_append, List.length_take]; omega
  unfold crashS kp4
  rw [show (kp3 a b).fs = [([102], ⟨a ++ b, a.length, true⟩)] from rfl, crash_one _ _ _ rfl, h2, h3]
  simp only [e]
  rfl
theorem ke5 (a b : List UInt8) : readS (kp4 a b) [102] = (a ++ b, 0) := by
  simp [readS, kp4, look, getF]
theorem ke6 (a b : List UInt8) : keptL (kp4 a b).fs = [.string ⟨#[102]⟩, .string (mk (a ++ b)), .int .i64 ((a ++ b).length : Nat)] := by
  simp [keptL, keptC, kp4]
set_option maxHeartbeats 4000000 in
set_option maxRecDepth 100000 in
theorem law_keeps (a b : ByteArray) (keep : Int) (w : World) (ha : a.size ≤ 9223372036854775807) (hb : b.size ≤ 9223372036854775807) (_hk0 : -9223372036854775808 ≤ keep) (_hk1 : keep ≤ 9223372036854775807) :
    Calls Try.prog 8 #[.string a, .string b, .int .i64 keep] w fun e w' => e = .returned (.bool true) ∧ Below w.heap.size w w' := by
  have hw := works_any w
  by_cases hla : a.size ≤ 8192
  · by_cases hlb : b.size ≤ 8192
    · have hta : ¬ (8192 : Int) < (a.size : Int) := by omega
      have htb : ¬ (8192 : Int) < (b.size : Int) := by omega
      go_enter Try.func8, Try.ntmps8
      go_wp2_with fail
      refine hw.mono ?_
      rintro e w0 ⟨rfl, b0⟩
      have K0 : Hid (Kept (From w.heap.size) w w0) := Kept.of_below b0
      clear b0 hw
      go_wp2_with fail
      refine (New_any (S := From w.heap.size) w0 (fun k hk => Nat.le_trans K0.out.size hk) 1073741824 (by decide)).mono ?_
      rintro e w1 ⟨rfl, d1, b1⟩
      have D1 := Lib.hid d1
      have K1 : Hid (Kept (From w.heap.size) w w1) := K0.out.trans (Kept.of_below b1)
      clear d1 b1
      generalize hdb : w0.heap.size = db at *
      clear hdb
      have hal : (bs a).length ≤ 8192 := by rw [bs_len]; exact hla
      have hbl : (bs b).length ≤ 8192 := by rw [bs_len]; exact hlb
      have HAL := Lib.hid hal
      have HBL := Lib.hid hbl
      clear hal hbl
      go_wp2_with fail
      refine (Append_any D1.out (fun k hk => Nat.le_trans K1.out.size hk) ⟨by decide, by decide⟩ ⟨#[102]⟩ a (by decide) (by omega)).mono ?_
      rw [show appendS (newS 1073741824) (bs ⟨#[102]⟩) (bs a) = (0, kp1 (bs a)) from ke1 _ HAL.out]
      rintro e w2 ⟨rfl, d2, k2⟩
      have D2 := Lib.hid d2
      have K2 := Lib.hid (K1.out.trans k2)
      clear d2 k2
      go_wp2_with fail
      refine (Sync_any D2.out (fun k hk => Nat.le_trans K2.out.size hk) ⟨by simp [kp1], by simp only [kp1, usedF]; have := HAL.out; omega⟩ ⟨#[102]⟩ (by decide)).mono ?_
      rw [show syncS (kp1 (bs a)) (bs ⟨#[102]⟩) = (0, kp2 (bs a)) from ke2 _]
      rintro e w3 ⟨rfl, d3, k3⟩
      have D3 := Lib.hid d3
      have K3 := Lib.hid (K2.out.trans k3)
      clear d3 k3
      go_wp2_with fail
      refine (Append_any D3.out (fun k hk => Nat.le_trans K3.out.size hk) ⟨by simp [kp2], by simp only [kp2, usedF]; have := HAL.out; omega⟩ ⟨#[102]⟩ b (by decide) (by omega)).mono ?_
      rw [show appendS (kp2 (bs a)) (bs ⟨#[102]⟩) (bs b) = (0, kp3 (bs a) (bs b)) from ke3 _ _ HAL.out HBL.out]
      rintro e w4 ⟨rfl, d4, k4⟩
      have D4 := Lib.hid d4
      have K4 := Lib.hid (K3.out.trans k4)
      clear d4 k4
      go_wp2_with fail
      refine (Crash_new D4.out (fun k hk => Nat.le_trans K4.out.size hk) ⟨by simp [kp3], by simp only [kp3, usedF, List.length_append]; have := HAL.out; have := HBL.out; omega⟩ (by simp [kp3]) _ [keep] (by simp)).mono ?_
      rw [ke4]
      rintro e w5 ⟨rfl, d5, k5⟩
      have D5 := Lib.hid d5
      have K5 := Lib.hid (K4.out.trans k5)
      clear d5 k5
      obtain ⟨n, hn⟩ : ∃ n, n = min keep.toNat (bs b).length := ⟨_, rfl⟩
      rw [← hn] at D5
      have hnb : n ≤ b.size := by rw [hn, bs_len]; omega
      have hni : min (max keep 0) (b.size : Int) = (n : Int) := by rw [hn, bs_len]; omega
      clear hn
      have hstr : mk (bs a ++ (bs b).take n) = a ++ b.extract 0 n := ba_ext (by rw [bs_mk, bs_app, extract_bs])
      have hlen : (bs a ++ (bs b).take n).length = (a ++ b.extract 0 n).size := by rw [← bs_len, bs_app, extract_bs]
      have hss : (a ++ b.extract 0 n).size = a.size + n := by rw [← hlen, List.length_append, List.length_take, bs_len, bs_len]; omega
      have hread : Calls Try.prog 31 #[ptrV db, .string ⟨#[102]⟩] w5 fun e w' => e = .returned (.tuple #[.string (a ++ b.extract 0 n), .int .i64 0]) ∧ Below w5.heap.size w5 w' := by
        have h := Read_any D5.out ⟨#[102]⟩ (by decide)
        rw [show readS (kp4 (bs a) ((bs b).take n)) (bs ⟨#[102]⟩) = (bs a ++ (bs b).take n, 0) from ke5 _ _, hstr] at h
        exact h
      have hkept : ∀ w', Below w5.heap.size w5 w' → Calls Try.prog 15 #[ptrV db] w' fun e w'' => ∃ v, e = .returned v ∧ w''.ownsRow w'.heap.size 46 3 v 1 [.string ⟨#[102]⟩, .string (a ++ b.extract 0 n), .int .i64 ((a.size : Int) + (n : Int))] ∧ Below w'.heap.size w' w'' := by
        intro w' hb'
        have h := Kept_any (D5.out.below hb') (by simp [kp4])
        rw [ke6, hstr, hlen, hss] at h
        exact h
      have HKEPT := Lib.hid hkept
      have HSS := Lib.hid hss
      have hsz1 : a.size + b.size ≤ 9223372036854775807 := by omega
      have hsx : (b.extract 0 n).size = n := by have := hss; simp only [ByteArray.size_append] at this; omega
      clear hstr hlen hkept
      go_wp2_with fail
      refine hread.mono ?_
      rintro e w6 ⟨rfl, b6⟩
      have B6 := Lib.hid b6
      clear b6 hread
      go_wp2_with fail
      refine (HKEPT.out w6 B6.out).mono ?_
      rintro e w7 ⟨v, rfl, hrow, b7⟩
      obtain ⟨g, cap, rfl, hcap, hg, hgB, hcell⟩ := row_cell hrow (j := 2) (u := .int .i64 ((a.size : Int) + (n : Int))) rfl
      have B7 : Hid (Below w.heap.size w w7) := ((K5.out.trans (Kept.of_below B6.out)).trans (Kept.of_below b7)).below (Nat.le_refl _) (fun _ h => h)
      clear hrow b7
      go_wp2
      go_ret
      exact ⟨ret_bool (by first | rfl | simp), B7.out⟩
    · have hta : ¬ (8192 : Int) < (a.size : Int) := by omega
      have htb : (8192 : Int) < (b.size : Int) := by omega
      go_enter Try.func8, Try.ntmps8
      go_wp2_with fail
      refine hw.mono ?_
      rintro e w0 ⟨rfl, b0⟩
      go_wp2
      go_ret
      exact ⟨rfl, b0⟩
  · have hta : (8192 : Int) < (a.size : Int) := by omega
    go_enter Try.func8, Try.ntmps8
    go_wp2_with fail
    refine hw.mono ?_
    rintro e w0 ⟨rfl, b0⟩
    go_wp2
    go_ret
    exact ⟨rfl, b0⟩
end Go.Proofs.Ytaepjknmedemgaa
