/- Two of the document's examples: works. -/
import Derived.Test.YtafpbnkkhgmicaaSame
import Derived.KernelRfl
namespace Go.Proofs.Ytafpbnkkhgmicaa
open Go.RowKit

theorem sum_nine : sumL [49, 50, 51, 52, 53, 54, 55, 56, 57] = 3808858755 := by kernel_rfl
theorem frame_nil : frameL [] = [0, 0, 0, 0, 199, 75, 103, 72] := by kernel_rfl
theorem scan_works : scanT (([0, 0, 0, 0, 199, 75, 103, 72] ++ [0, 0, 0, 0, 199, 75, 103, 72]) ++ [120]) = [⟨#[]⟩, ⟨#[]⟩] ∧ scanN (([0, 0, 0, 0, 199, 75, 103, 72] ++ [0, 0, 0, 0, 199, 75, 103, 72]) ++ [120]) = 16 := by
  have h := scan_join [[], []] [120] (by simp)
  have e : joinL [[], []] = [0, 0, 0, 0, 199, 75, 103, 72] ++ [0, 0, 0, 0, 199, 75, 103, 72] := by rw [joinL_cons, joinL_cons, frame_nil]; rfl
  have e2 : scan [120] = ([], 0) := scan_end (by rw [fE_short (by decide)]; decide)
  rw [e, e2] at h
  unfold scanT scanN
  rw [h]
  exact ⟨rfl, rfl⟩
set_option maxHeartbeats 4000000 in
set_option maxRecDepth 100000 in
theorem works_any (w : World) :
    Calls Try.prog 9 #[] w fun e w' => e = .returned (.bool true) ∧ Below w.heap.size w w' := by
  have h1 := Frame_any ⟨#[]⟩ w (by decide)
  have hG : mk (frameL (bs ⟨#[]⟩)) = ⟨#[0, 0, 0, 0, 199, 75, 103, 72]⟩ := by
    show mk (frameL []) = _
    rw [frame_nil]; rfl
  rw [hG] at h1
  have h2 := fun w' => Scan_any (⟨#[0, 0, 0, 0, 199, 75, 103, 72]⟩ ++ ⟨#[0, 0, 0, 0, 199, 75, 103, 72]⟩ ++ ⟨#[120]⟩) w' (by decide)
  have hb : bs (⟨#[0, 0, 0, 0, 199, 75, 103, 72]⟩ ++ ⟨#[0, 0, 0, 0, 199, 75, 103, 72]⟩ ++ ⟨#[120]⟩) = ([0, 0, 0, 0, 199, 75, 103, 72] ++ [0, 0, 0, 0, 199, 75, 103, 72]) ++ [120] := by rw [bs_append, bs_append]
  rw [hb, scan_works.1, scan_works.2] at h2
  have hr := frame_read [] [] (by decide)
  rw [List.append_nil, frame_nil] at hr
  have h3 := fun w' => Unframe_at ⟨#[0, 0, 0, 0, 199, 75, 103, 72]⟩ 0 w' (by decide) (by decide)
  have hS : fS ((bs ⟨#[0, 0, 0, 0, 199, 75, 103, 72]⟩).drop 0) = ⟨#[]⟩ := by
    show fS [0, 0, 0, 0, 199, 75, 103, 72] = _
    unfold fS; rw [if_pos hr.1, hr.2.1]; rfl
  have hK : fK ((bs ⟨#[0, 0, 0, 0, 199, 75, 103, 72]⟩).drop 0) = 8 := by
    show fK [0, 0, 0, 0, 199, 75, 103, 72] = _
    unfold fK; rw [if_pos hr.1, hr.2.2]; rfl
  have hE : fE ((bs ⟨#[0, 0, 0, 0, 199, 75, 103, 72]⟩).drop 0) = 0 := hr.1
  rw [hS, hK, hE] at h3
  have h4 := fun w' => Unframe_bad ⟨#[0, 0, 0, 0, 199, 75, 103, 72]⟩ 9 w' (by decide) (by decide) (by decide) (.inr (by decide))
  have h5 := fun w' => Sum_any ⟨#[49, 50, 51, 52, 53, 54, 55, 56, 57]⟩ w' (by decide)
  have hs : sumL (bs ⟨#[49, 50, 51, 52, 53, 54, 55, 56, 57]⟩) = 3808858755 := sum_nine
  rw [hs] at h5
  clear hG hb hr hS hK hE hs
  go_enter Try.func9, Try.ntmps9
  go_wp2_with fail
  refine h1.mono ?_
  rintro e w1 ⟨rfl, b1⟩
  go_wp2_with fail
  refine (h2 _).mono ?_
  rintro e w2 ⟨v, rfl, ⟨_, a, cap, rfl, _, _⟩, b2⟩
  have b12 := bw b1 b2
  clear b1 b2
  go_wp2_with fail
  refine (h3 _).mono ?_
  rintro e w3 ⟨rfl, b3⟩
  have b13 := bw b12 b3
  clear b12 b3
  go_wp2_with fail
  refine (h4 _).mono ?_
  rintro e w4 ⟨rfl, rfl⟩
  go_wp2_with fail
  refine (h5 _).mono ?_
  rintro e w5 ⟨rfl, b5⟩
  go_wp2
  go_ret
  exact ⟨ret_bool (by first | rfl | simp | decide), bw b13 b5⟩
end Go.Proofs.Ytafpbnkkhgmicaa
