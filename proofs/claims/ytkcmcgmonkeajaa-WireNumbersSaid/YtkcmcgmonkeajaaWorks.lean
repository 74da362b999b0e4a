/- The document's examples. -/
import Derived.Test.YtkcmcgmonkeajaaMeth
import Derived.Test.YtkcmcgmonkeajaaPut
import Derived.KernelRfl
namespace Go.Proofs.Ytkcmcgmonkeajaa
open Go.RowKit

theorem ret_bool {a b : Bool} (h : a = b) : Ending.returned (.bool a) = .returned (.bool b) := by rw [h]
theorem listAt_news {α : Type} (c : α → Value) (l : List α) (w : World) (T : TypeId) (n : Nat) (hn : l.length = n) : ListAt (w.alloc (.cells (cellsOf c l).toArray T)) (.slice (some ⟨w.heap.size, 0, none⟩) n n) l.length (cellsOf c l) := by
  subst hn
  refine ⟨by simp [cellsOf], _, _, rfl, Nat.le_refl _, .inr ⟨_, _, rfl, by simp, fun j u hu => ?_⟩⟩
  rw [World.cell?_alloc_new, Nat.zero_add]
  simpa using hu
abbrev u64C : Nat → Value := fun c => .int .u64 c
abbrev strC : ByteArray → Value := fun c => .string c
abbrev exB : ByteArray := ⟨#[172, 2, 2, 97, 98]⟩
theorem uv300 : Lib.uvarint 300 = [172, 2] := by
  rw [Lib.uvarint_big (by decide), Lib.uvarint_small (by decide)]; rfl
theorem uv0 : Lib.uvarint 0 = [0] := by rw [Lib.uvarint_small (by decide)]; rfl
theorem uv1 : Lib.uvarint 1 = [1] := by rw [Lib.uvarint_small (by decide)]; rfl
theorem uv2 : Lib.uvarint 2 = [2] := by rw [Lib.uvarint_small (by decide)]; rfl
theorem w_number (p : Nat) (w : World) (h : RdAt w p exB 0 0) :
    Calls Try.prog 21 #[.pointer (some ⟨p, 0, none⟩)] w fun e w' => e = .returned (.int .u64 300) ∧ RdAt w' p exB 2 0 ∧ But p w w' := by
  refine (Number_any p exB 0 0 w (by decide) h).mono ?_
  rintro e w' ⟨rfl, h1, h2⟩
  have e1 : ((if (0 : Int) = 0 then dV (exB.data.toList.drop 0) else 0 : Nat)) = 300 := by kernel_rfl
  have e2 : stA 0 0 (dK (exB.data.toList.drop 0)) = 2 := by kernel_rfl
  have e3 : stE 0 (dE (exB.data.toList.drop 0)) = 0 := by kernel_rfl
  rw [e2, e3] at h1
  exact ⟨by rw [e1]; rfl, h1, h2⟩
theorem w_text (p : Nat) (w : World) (h : RdAt w p exB 2 0) :
    Calls Try.prog 27 #[.pointer (some ⟨p, 0, none⟩), .int .i64 2] w fun e w' => e = .returned (.string ⟨#[97, 98]⟩) ∧ RdAt w' p exB 5 0 ∧ But p w w' := by
  refine (Text_any p exB 2 0 2 w (by decide) (by decide) (by decide) h).mono ?_
  rintro e w' ⟨rfl, h1, h2⟩
  have e1 : (if (0 : Int) = 0 then tV (exB.data.toList.drop 2) 2 else ⟨#[]⟩) = ⟨#[97, 98]⟩ := by kernel_rfl
  have e2 : stA 0 2 (tK (exB.data.toList.drop 2) 2) = 5 := by kernel_rfl
  have e3 : stE 0 (tE (exB.data.toList.drop 2) 2) = 0 := by kernel_rfl
  rw [e2, e3] at h1
  exact ⟨by rw [e1], h1, h2⟩
theorem w_put (w : World) : Calls Try.prog 15 #[.string ⟨#[]⟩, .slice (some ⟨w.heap.size, 0, none⟩) 2 2] (w.alloc (.cells #[.int .u64 300, .int .u64 0] 28)) fun e w' => e = .returned (.string ⟨#[172, 2, 0]⟩) ∧ Below (w.alloc (.cells #[.int .u64 300, .int .u64 0] 28)).heap.size (w.alloc (.cells #[.int .u64 300, .int .u64 0] 28)) w' := by
  have h := Put_any ⟨#[]⟩ _ [300, 0] _ (listAt_news u64C [300, 0] w 28 2 rfl) (by decide) (by decide) (by intro c hc; simp at hc; omega)
  rw [show withB ⟨#[]⟩ ([300, 0].flatMap Lib.uvarint) = ⟨#[172, 2, 0]⟩ by simp [uv300, uv0, withB]] at h
  exact h
theorem w_putInt (w : World) : Calls Try.prog 16 #[.string ⟨#[]⟩, .slice (some ⟨w.heap.size, 0, none⟩) 2 2] (w.alloc (.cells #[.int .i64 (-1), .int .i64 1] 2)) fun e w' => e = .returned (.string ⟨#[1, 2]⟩) ∧ Below (w.alloc (.cells #[.int .i64 (-1), .int .i64 1] 2)).heap.size (w.alloc (.cells #[.int .i64 (-1), .int .i64 1] 2)) w' := by
  have h := PutInt_any ⟨#[]⟩ _ [-1, 1] _ (listAt_news intC [-1, 1] w 2 2 rfl) (by decide) (by decide) (by intro c hc; simp at hc; omega)
  rw [show withB ⟨#[]⟩ ([-1, 1].flatMap numI) = ⟨#[1, 2]⟩ by
    have z1 : Lib.zigzag (-1) = 1 := by decide
    have z2 : Lib.zigzag 1 = 2 := by decide
    simp [numI, z1, z2, uv1, uv2, withB]] at h
  exact h
theorem w_putText (w : World) : Calls Try.prog 17 #[.string ⟨#[]⟩, .slice (some ⟨w.heap.size, 0, none⟩) 1 1] (w.alloc (.cells #[.string ⟨#[97, 98]⟩] 9)) fun e w' => e = .returned (.string ⟨#[2, 97, 98]⟩) ∧ Below (w.alloc (.cells #[.string ⟨#[97, 98]⟩] 9)).heap.size (w.alloc (.cells #[.string ⟨#[97, 98]⟩] 9)) w' := by
  have h := PutText_any ⟨#[]⟩ _ [⟨#[97, 98]⟩] _ (listAt_news strC [⟨#[97, 98]⟩] w 9 1 rfl) (by decide) (by decide) (by intro c hc; simp at hc; subst hc; decide)
  rw [show withB ⟨#[]⟩ ([(⟨#[97, 98]⟩ : ByteArray)].flatMap numT) = ⟨#[2, 97, 98]⟩ by
    have z1 : (⟨#[97, 98]⟩ : ByteArray).size = 2 := rfl
    simp [numT, z1, uv2, withB]] at h
  exact h
theorem w_size (w : World) : Calls Try.prog 12 #[.int .u64 300] w fun e w' => e = .returned (.int .i64 2) ∧ w = w' := by
  have h := size_any 300 w (by decide)
  rw [uv300] at h
  exact h
theorem w_end (p : Nat) (w : World) (h : RdAt w p exB 5 0) :
    Calls Try.prog 34 #[.pointer (some ⟨p, 0, none⟩)] w fun e w' => e = .returned (.int .i64 0) ∧ ∃ q, w' = w.drewN q := by
  have h := End_any p exB 5 0 w h
  rw [show endE exB 5 0 = 0 by decide] at h
  exact h
set_option maxRecDepth 100000 in
set_option maxHeartbeats 4000000 in
theorem works_any (w : World) : Calls Try.prog 10 #[] w fun e w' => e = .returned (.bool true) ∧ Below w.heap.size w w' := by
  go_enter Try.func10, Try.ntmps10
  go_wp2_with fail
  refine (Read_any exB _).mono ?_
  rintro e w1 ⟨rfl, r1, b1⟩
  have R1 := Lib.hid r1
  clear r1
  go_wp2_with fail
  refine (w_number _ _ R1.out).mono ?_
  rintro e w2 ⟨rfl, r2, k2⟩
  have R2 := Lib.hid r2
  have b2 := b1.trans (k2.below (Nat.le_refl _) b1.size)
  clear r2 k2 R1 b1
  go_wp2_with fail
  refine (w_text _ _ R2.out).mono ?_
  rintro e w3 ⟨rfl, r3, k3⟩
  have R3 := Lib.hid r3
  have b3 := b2.trans (k3.below (Nat.le_refl _) b2.size)
  clear r3 k3 R2 b2
  go_wp2_with fail
  refine (w_put w3).mono ?_
  rintro e w4 ⟨rfl, k4⟩
  have k4' := ((Below.refl w3.heap.size w3).alloc (Nat.le_refl _) _).trans (k4.mono (by simp))
  have R4 := Lib.hid (R3.out.below k4')
  have b4 := bw b3 k4'
  clear k4 k4' R3 b3
  go_wp2_with fail
  refine (w_putInt w4).mono ?_
  rintro e w5 ⟨rfl, k5⟩
  have k5' := ((Below.refl w4.heap.size w4).alloc (Nat.le_refl _) _).trans (k5.mono (by simp))
  have R5 := Lib.hid (R4.out.below k5')
  have b5 := bw b4 k5'
  clear k5 k5' R4 b4
  go_wp2_with fail
  refine (w_putText w5).mono ?_
  rintro e w6 ⟨rfl, k6⟩
  have k6' := ((Below.refl w5.heap.size w5).alloc (Nat.le_refl _) _).trans (k6.mono (by simp))
  have R6 := Lib.hid (R5.out.below k6')
  have b6 := bw b5 k6'
  clear k6 k6' R5 b5
  go_wp2_with fail
  refine (w_end _ _ R6.out).mono ?_
  rintro e w7 ⟨rfl, q, rfl⟩
  have R7 := Lib.hid (R6.out.drewN q)
  have b7 := below_drewN b6 q
  clear R6 b6
  generalize w6.drewN q = w7 at *
  go_wp2_with fail
  refine (At_any _ _ _ _ _ R7.out).mono ?_
  rintro e w8 ⟨rfl, rfl⟩
  go_wp2_with fail
  refine (w_size _).mono ?_
  rintro e w9 ⟨rfl, rfl⟩
  go_wp2
  go_ret
  exact ⟨rfl, b7⟩
end Go.Proofs.Ytkcmcgmonkeajaa
