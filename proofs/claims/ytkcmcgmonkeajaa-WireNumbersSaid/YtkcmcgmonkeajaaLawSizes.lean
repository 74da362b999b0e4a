/- The law on sizes: the walk. -/
import Derived.Test.YtkcmcgmonkeajaaWorks
namespace Go.Proofs.Ytkcmcgmonkeajaa
open Go.RowKit

theorem uv_mono : ∀ n a b : Nat, b ≤ n → a ≤ b → (Lib.uvarint a).length ≤ (Lib.uvarint b).length := by
  intro n
  induction n with
  | zero => intro a b hb hab; obtain rfl : a = b := by omega
            exact Nat.le_refl _
  | succ n ih =>
    intro a b hb hab
    by_cases h : a < 128
    · rw [Lib.uvarint_small h]; exact Lib.uvarint_pos b
    · rw [Lib.uvarint_big (x := a) (by omega), Lib.uvarint_big (x := b) (by omega), List.length_cons, List.length_cons]
      have := ih (a / 128) (b / 128) (by omega) (by omega)
      omega
theorem sizes_step (l : List Nat) (k x : Nat) (h : l[k]? = some x) : ((l.take (k + 1)).flatMap Lib.uvarint).length = ((l.take k).flatMap Lib.uvarint).length + (Lib.uvarint x).length := by
  rw [take_snocA l k x h]; simp only [List.flatMap_append, List.length_append, List.flatMap_cons, List.flatMap_nil, List.append_nil]
theorem withB_len0 (l : List UInt8) : (withB ⟨#[]⟩ l).size = l.length := by rw [withB_size]; show 0 + _ = _; omega

set_option maxRecDepth 100000 in
set_option maxHeartbeats 8000000 in
theorem law_sizes (v : Value) (l : List Nat) (a b : Nat) (w : World) (hl : ListAt w v l.length (cellsOf u64C l)) (hn : l.length ≤ 9223372036854775807) (hwf : ∀ c ∈ l, c < 18446744073709551616) (ha : a < 18446744073709551616) (hb : b < 18446744073709551616) :
    Calls Try.prog 8 #[v, .int .u64 a, .int .u64 b] w fun e w' => e = .returned (.bool true) ∧ Below w.heap.size w w' := by
  have HL := Lib.hid hl
  obtain ⟨_, aa, cap, rfl, _, _⟩ := hl
  by_cases hlen : 500 < l.length
  · have hli : (500 : Int) < (l.length : Int) := by omega
    go_enter Try.func8, Try.ntmps8
    go_wp2_with fail
    refine (works_any _).mono ?_
    rintro e w1 ⟨rfl, b1⟩
    go_wp2
    go_ret
    exact ⟨rfl, b1⟩
  have hli : ¬ (500 : Int) < (l.length : Int) := by omega
  have hfl := flat_le Lib.uvarint 10 l (fun x hx => Lib.uvarint_length64 (hwf x hx))
  go_enter Try.func8, Try.ntmps8
  go_wp2_with fail
  refine (works_any _).mono ?_
  rintro e w1 ⟨rfl, b1⟩
  have HL1 := Lib.hid (HL.out.below b1)
  go_wp2
  go_loop [8, 9] (fun n i => ∃ k : Nat, k ≤ l.length ∧ i = .int .i64 k ∧ n = .int .i64 (((l.take k).flatMap Lib.uvarint).length : Nat)) (fun _ i => l.length - (intOf i).toNat)
  case atStart => exact ⟨0, Nat.zero_le _, rfl, rfl⟩
  case round =>
    obtain ⟨k, hk, rfl, rfl⟩ := hrel
    have hft := flat_take Lib.uvarint l k
    by_cases hlt : k < l.length
    · obtain ⟨x, hx⟩ : ∃ x, l[k]? = some x := ⟨l[k], List.getElem?_eq_getElem hlt⟩
      obtain ⟨_, _, _, he, _, hc⟩ := HL1.out
      simp only [Value.slice.injEq] at he
      obtain ⟨rfl, _, rfl⟩ := he
      obtain ⟨ba, offa, rfl, hba, hca⟩ := hc.resolve_left (by omega)
      have c1 := ListAt.get hca hx
      have hwx := hwf x (List.mem_of_getElem? hx)
      have hst := sizes_step l k x hx
      have HST := Lib.hid hst
      have hu1 := Lib.uvarint_length64 hwx
      have hu0 := Lib.uvarint_pos x
      have hft2 := flat_take Lib.uvarint l (k + 1)
      have hsum : ((l.take k).flatMap Lib.uvarint).length + (Lib.uvarint x).length ≤ (l.flatMap Lib.uvarint).length := by omega
      have hsz := size_any x w1 hwx
      clear hca hst hx hc hft2
      generalize ((l.take k).flatMap Lib.uvarint).length = A at *
      generalize (Lib.uvarint x).length = D at *
      go_wp2_with fail
      refine hsz.mono ?_
      rintro e w2 ⟨rfl, rfl⟩
      have hd1 : ¬ ((D : Int) < 1) := by omega
      have hd2 : ¬ ((10 : Int) < (D : Int)) := by omega
      go_wp2
      go_round
      case rel => exact ⟨k + 1, by omega, by go_num, by rw [HST.out]; go_num⟩
      case measure => simp [intOf]; omega
    · have HT : Hid (l.take k = l) := by show _ = _; exact List.take_of_length_le (by omega)
      have hwl : Hid ((withB ⟨#[]⟩ (l.flatMap Lib.uvarint)).size = (l.flatMap Lib.uvarint).length) := withB_len0 _
      rw [HT.out] at *
      have hP := Put_any ⟨#[]⟩ _ l _ HL1.out (by decide) (by omega) hwf
      have hma := uv_mono b a b (Nat.le_refl _)
      have hmb := uv_mono a b a (Nat.le_refl _)
      have ha1 := Lib.uvarint_length64 ha
      have hb1 := Lib.uvarint_length64 hb
      generalize withB ⟨#[]⟩ (l.flatMap Lib.uvarint) = R at *
      generalize (l.flatMap Lib.uvarint).length = S at *
      go_wp2_with fail
      refine hP.mono ?_
      rintro e w2 ⟨rfl, b2⟩
      have b3 := bw b1 b2
      clear b1 b2
      have hRS : R.size = S := hwl.out
      subst hRS
      have hsa := fun w' => size_any a w' ha
      have hsb := fun w' => size_any b w' hb
      generalize (Lib.uvarint a).length = LA at *
      generalize (Lib.uvarint b).length = LB at *
      rcases Nat.lt_trichotomy a b with hab | hab | hab
      · have hi1 : ¬ ((b : Int) < (a : Int)) := by omega
        have hi2 : ((a : Int) < (b : Int)) := by omega
        have hle : (LA : Int) ≤ (LB : Int) := by have := hma (by omega); omega
        go_wp2_with fail
        refine (hsa _).mono ?_
        rintro e w3 ⟨rfl, rfl⟩
        go_wp2_with fail
        refine (hsb _).mono ?_
        rintro e w3 ⟨rfl, rfl⟩
        go_wp2
        go_ret
        exact ⟨ret_bool (by first | rfl | (simp; done) | (simp; omega)), b3⟩
      · have hi1 : ¬ ((b : Int) < (a : Int)) := by omega
        have hi2 : ¬ ((a : Int) < (b : Int)) := by omega
        have hle : (LA : Int) ≤ (LB : Int) := by have := hma (by omega); omega
        have hle2 : (LB : Int) ≤ (LA : Int) := by have := hmb (by omega); omega
        clear hab
        go_wp2_with fail
        refine (hsa _).mono ?_
        rintro e w3 ⟨rfl, rfl⟩
        go_wp2_with fail
        refine (hsb _).mono ?_
        rintro e w3 ⟨rfl, rfl⟩
        go_wp2_with fail
        refine (hsb _).mono ?_
        rintro e w3 ⟨rfl, rfl⟩
        go_wp2_with fail
        refine (hsa _).mono ?_
        rintro e w3 ⟨rfl, rfl⟩
        go_wp2
        go_ret
        exact ⟨ret_bool (by first | rfl | (simp; done) | (simp; omega)), b3⟩
      · have hi1 : ((b : Int) < (a : Int)) := by omega
        have hi2 : ¬ ((a : Int) < (b : Int)) := by omega
        have hle : (LB : Int) ≤ (LA : Int) := by have := hmb (by omega); omega
        go_wp2_with fail
        refine (hsb _).mono ?_
        rintro e w3 ⟨rfl, rfl⟩
        go_wp2_with fail
        refine (hsa _).mono ?_
        rintro e w3 ⟨rfl, rfl⟩
        go_wp2
        go_ret
        exact ⟨ret_bool (by first | rfl | (simp; done) | (simp; omega)), b3⟩
end Go.Proofs.Ytkcmcgmonkeajaa
