/- A list of takes, read; what comes behind an error. -/
import Derived.Test.YtkcmcgmonkeajaaMeth
import Derived.Test.YtkcmcgmonkeajaaWorks
namespace Go.Proofs.Ytkcmcgmonkeajaa
open Go.RowKit

/-- a slice value reads as these takes -/
def TakesAt (w : World) (v : Value) (l : List (Nat × Int)) : Prop :=
  ∃ a cap, v = .slice a l.length cap ∧ l.length ≤ cap ∧ (l.length = 0 ∨ ∃ b off, a = some ⟨b, off, none⟩ ∧ b < w.heap.size ∧
    ∀ j x, l[j]? = some x → w.cell? ⟨b, off + j * 2, none⟩ = some (.int .u8 x.1) ∧ w.cell? ⟨b, off + j * 2 + 1, none⟩ = some (.int .i64 x.2))
theorem TakesAt.below {w w' : World} {v : Value} {l : List (Nat × Int)} (h : TakesAt w v l) (hb : Below w.heap.size w w') : TakesAt w' v l := by
  obtain ⟨a, cap, rfl, hcap, h2⟩ := h
  refine ⟨a, cap, rfl, hcap, ?_⟩
  rcases h2 with h2 | ⟨b, off, rfl, hlt, hc⟩
  · exact .inl h2
  · exact .inr ⟨b, off, rfl, Nat.lt_of_lt_of_le hlt hb.size, fun j x hx => ⟨(hb.cell (p := ⟨b, _, none⟩) hlt).trans (hc j x hx).1, (hb.cell (p := ⟨b, _, none⟩) hlt).trans (hc j x hx).2⟩⟩

theorem Number_err (p : Nat) (s : ByteArray) (a : Nat) (er : Int) (w : World) (hs : s.size ≤ 1099511627776) (he : er ≠ 0) (h : RdAt w p s a er) :
    Calls Try.prog 21 #[.pointer (some ⟨p, 0, none⟩)] w fun e w' => e = .returned (.int .u64 0) ∧ RdAt w' p s a er ∧ But p w w' := by
  have := Number_any p s a er w hs h
  simp only [stA1 he, stE1 he, if_neg he] at this
  exact this
theorem Int_err (p : Nat) (s : ByteArray) (a : Nat) (er : Int) (w : World) (hs : s.size ≤ 1099511627776) (he : er ≠ 0) (h : RdAt w p s a er) :
    Calls Try.prog 23 #[.pointer (some ⟨p, 0, none⟩)] w fun e w' => e = .returned (.int .i64 0) ∧ RdAt w' p s a er ∧ But p w w' := by
  have := Int_any p s a er w hs h
  simp only [stA1 he, stE1 he, if_neg he] at this
  exact this
theorem Below_err (p : Nat) (s : ByteArray) (a : Nat) (er : Int) (n : Int) (w : World) (hs : s.size ≤ 1099511627776) (h0 : -9223372036854775808 ≤ n) (h1 : n ≤ 9223372036854775807) (he : er ≠ 0) (h : RdAt w p s a er) :
    Calls Try.prog 25 #[.pointer (some ⟨p, 0, none⟩), .int .i64 n] w fun e w' => e = .returned (.int .i64 0) ∧ RdAt w' p s a er ∧ But p w w' := by
  have := Below_any p s a er n w hs h0 h1 h
  simp only [stA1 he, stE1 he, if_neg he] at this
  exact this
theorem Text_err (p : Nat) (s : ByteArray) (a : Nat) (er : Int) (n : Int) (w : World) (hs : s.size ≤ 1099511627776) (h0 : -9223372036854775808 ≤ n) (h1 : n ≤ 9223372036854775807) (he : er ≠ 0) (h : RdAt w p s a er) :
    Calls Try.prog 27 #[.pointer (some ⟨p, 0, none⟩), .int .i64 n] w fun e w' => e = .returned (.string ⟨#[]⟩) ∧ RdAt w' p s a er ∧ But p w w' := by
  have := Text_any p s a er n w hs h0 h1 h
  simp only [stA1 he, stE1 he, if_neg he] at this
  exact this
theorem Ints_err (p : Nat) (s : ByteArray) (a : Nat) (er : Int) (n : Int) (w : World) (hs : s.size ≤ 1099511627776) (h0 : -9223372036854775808 ≤ n) (h1 : n ≤ 9223372036854775807) (he : er ≠ 0) (h : RdAt w p s a er) :
    Calls Try.prog 30 #[.pointer (some ⟨p, 0, none⟩), .int .i64 n] w fun e w' => (∃ a c, e = .returned (.slice a 0 c)) ∧ RdAt w' p s a er ∧ But p w w' := by
  have := Ints_any p s a er n w hs h0 h1 h
  simp only [stA1 he, stE1 he, if_neg he] at this
  refine this.mono ?_
  rintro e w' ⟨⟨v, rfl, hv⟩, h1, h2⟩
  obtain ⟨_, a, cc, rfl, _⟩ := hv
  exact ⟨⟨a, cc, rfl⟩, h1, h2⟩
theorem Below_zero (p : Nat) (s : ByteArray) (w : World) (hs : s.size ≤ 1099511627776) (h : RdAt w p s 0 0) :
    Calls Try.prog 25 #[.pointer (some ⟨p, 0, none⟩), .int .i64 0] w fun e w' => ∃ E : Int, E ≠ 0 ∧ e = .returned (.int .i64 0) ∧ RdAt w' p s 0 E ∧ But p w w' := by
  have hc := Below_any p s 0 0 0 w hs (by decide) (by decide) h
  have hm : max (0 : Int) 0 - 1 = -1 := by decide
  rw [hm] at hc
  have hE : uE (s.data.toList.drop 0) (-1) ≠ 0 := fun h0 => by have := uE_zero h0; omega
  have hn := uE_none _ _ hE
  simp only [stA0, stE0, if_true, hn.1, hn.2, Nat.add_zero] at hc
  refine hc.mono ?_
  rintro e w' ⟨rfl, h1, h2⟩
  exact ⟨_, hE, rfl, h1, h2⟩
end Go.Proofs.Ytkcmcgmonkeajaa
