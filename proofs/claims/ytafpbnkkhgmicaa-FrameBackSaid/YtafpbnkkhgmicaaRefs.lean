/- The reference's Frame and Unframe. -/
import Derived.Test.YtafpbnkkhgmicaaFrame
namespace Go.Proofs.Ytafpbnkkhgmicaa
open Go.RowKit

theorem bs_append (a b : ByteArray) : bs (a ++ b) = bs a ++ bs b := by
  show (a ++ b).data.toList = _
  rw [ByteArray.data_append]; simp
theorem app_size (a b : ByteArray) : (a ++ b).size = a.size + b.size := by
  rw [← bs_size, bs_append, List.length_append, bs_size, bs_size]
set_option maxHeartbeats 4000000 in
set_option maxRecDepth 100000 in
theorem refFrame_any (s : ByteArray) (w : World) (hs : s.size ≤ 65536) :
    Calls Try.prog 20 #[.string s] w fun e w' => e = .returned (.tuple #[.string (mk (frameL (bs s))), .int .i64 0]) ∧ Below w.heap.size w w' := by
  have hbi : ¬ (65536 : Int) < (s.size : Int) := by omega
  have hn32 : s.size < 4294967296 := by omega
  have hz4 : (mk (four s.size)).size = 4 := by rw [mk_size, four_length]
  have hS := refSum_any (mk (four s.size) ++ s)
  have HA := Lib.hid (show bs (mk (four s.size) ++ s) = four s.size ++ bs s by rw [bs_append, bs_mk])
  have hza : (mk (four s.size) ++ s).size = 4 + s.size := by rw [app_size, hz4]
  rw [HA.out] at hS
  have hS2 := fun w' => hS w' (by omega)
  have hsl := sumL_lt (four s.size ++ bs s)
  have hz4b : (mk (four (sumL (four s.size ++ bs s)))).size = 4 := by rw [mk_size, four_length]
  have HF : Hid (mk (frameL (bs s)) = (mk (four s.size) ++ mk (four (sumL (four s.size ++ bs s)))) ++ s) := by
    show _ = _
    apply ba_ext
    rw [bs_append, bs_append, bs_mk, bs_mk, bs_mk]; unfold frameL; rw [bs_size]; simp
  have hF := fun w' => refFour_any s.size w' hn32
  have hF2 := fun w' => refFour_any (sumL (four s.size ++ bs s)) w' hsl
  clear hS hza
  generalize sumL (four s.size ++ bs s) = S at *
  have hzp : (mk (four s.size) ++ mk (four S)).size = 8 := by rw [app_size, hz4, hz4b]
  have HZ4 := Lib.hid hz4
  have HZ4b := Lib.hid hz4b
  have HZP := Lib.hid hzp
  have hl1 : (mk (four s.size)).size + s.size ≤ 9223372036854775807 := by omega
  have hl2 : (mk (four s.size)).size + (mk (four S)).size ≤ 9223372036854775807 := by omega
  have hl3 : (mk (four s.size) ++ mk (four S)).size + s.size ≤ 9223372036854775807 := by omega
  clear hz4 hz4b hzp
  go_enter Try.func20, Try.ntmps20
  go_wp2_with fail
  refine (hF _).mono ?_
  rintro e w1 ⟨rfl, b1⟩
  go_wp2_with fail
  refine (hS2 _).mono ?_
  rintro e w2 ⟨rfl, rfl⟩
  go_wp2_with fail
  refine (hF2 _).mono ?_
  rintro e w3 ⟨rfl, b3⟩
  go_wp2
  go_ret2
  exact ⟨ret2s (by first | exact congrArg Value.string HF.out.symm | (rw [HF.out, ByteArray.append_assoc]; rfl)) rfl, bw b1 b3⟩
set_option maxHeartbeats 1000000 in
theorem refFrame_long (s : ByteArray) (w : World) (hs : 65536 < s.size) (hs2 : s.size ≤ 9223372036854775807) :
    Calls Try.prog 20 #[.string s] w fun e w' => e = .returned (.tuple #[.string ⟨#[]⟩, .int .i64 31]) ∧ w = w' := by
  have hbi : (65536 : Int) < (s.size : Int) := by omega
  go_enter Try.func20, Try.ntmps20
  go_wp2
  go_ret2
  exact ⟨rfl, rfl⟩
end Go.Proofs.Ytafpbnkkhgmicaa
