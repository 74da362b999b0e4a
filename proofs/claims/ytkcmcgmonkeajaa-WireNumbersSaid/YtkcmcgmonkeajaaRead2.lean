/- What reads integers, numbers up to another one, texts, lists. -/
import Derived.Test.YtkcmcgmonkeajaaRead
namespace Go.Proofs.Ytkcmcgmonkeajaa
open Go.RowKit

/-- a number up to m: what is wrong, it, and its bytes -/
def uE (l : List UInt8) (m : Int) : Int := if dE l ≠ 0 then dE l else if m < 0 ∨ m < (dV l : Int) then 22 else 0
def uV (l : List UInt8) (m : Int) : Nat := if uE l m = 0 then dV l else 0
def uK (l : List UInt8) (m : Int) : Nat := if uE l m = 0 then dK l else 0
theorem uE_bad {l : List UInt8} {m : Int} (h : dE l ≠ 0) : uE l m = dE l ∧ uV l m = 0 ∧ uK l m = 0 := by
  have e : uE l m = dE l := by unfold uE; rw [if_pos h]
  exact ⟨e, by unfold uV; rw [e, if_neg h], by unfold uK; rw [e, if_neg h]⟩
theorem uE_much {l : List UInt8} {m : Int} (h : dE l = 0) (hm : m < 0 ∨ m < (dV l : Int)) : uE l m = 22 ∧ uV l m = 0 ∧ uK l m = 0 := by
  have e : uE l m = 22 := by unfold uE; rw [if_neg (fun hh => hh h), if_pos hm]
  exact ⟨e, by unfold uV; rw [e]; rfl, by unfold uK; rw [e]; rfl⟩
theorem uE_ok {l : List UInt8} {m : Int} (h : dE l = 0) (hm : ¬ (m < 0 ∨ m < (dV l : Int))) : uE l m = 0 ∧ uV l m = dV l ∧ uK l m = dK l := by
  have e : uE l m = 0 := by unfold uE; rw [if_neg (fun hh => hh h), if_neg hm]
  exact ⟨e, by unfold uV; rw [e]; rfl, by unfold uK; rw [e]; rfl⟩
theorem uE_zero {l : List UInt8} {m : Int} (h : uE l m = 0) : dE l = 0 ∧ uV l m = dV l ∧ uK l m = dK l ∧ 0 ≤ m ∧ (dV l : Int) ≤ m := by
  by_cases h1 : dE l = 0
  · by_cases h2 : m < 0 ∨ m < (dV l : Int)
    · have := (uE_much h1 h2).1; omega
    · have := uE_ok h1 h2; exact ⟨h1, this.2.1, this.2.2, by omega, by omega⟩
  · have := (uE_bad (m := m) h1).1; omega
theorem dK_le (l : List UInt8) : dK l ≤ l.length := by
  by_cases h : dE l = 0
  · exact (uv_again l h).2.1
  · rw [(d_none l h).2]; omega
theorem uK_le (l : List UInt8) (m : Int) : uK l m ≤ l.length := by
  have := dK_le l
  unfold uK; split <;> omega
theorem uV_le (l : List UInt8) (m : Int) (hm : m ≤ 9223372036854775807) : uV l m ≤ 9223372036854775807 := by
  by_cases h : uE l m = 0
  · have := uE_zero h; omega
  · unfold uV; rw [if_neg h]; omega
theorem unz0 : Lib.unzigzag 0 = 0 := by decide
theorem unz_bd (n : Nat) (h : n < 18446744073709551616) : -9223372036854775808 ≤ Lib.unzigzag n ∧ Lib.unzigzag n ≤ 9223372036854775807 := by
  unfold Lib.unzigzag; split <;> omega

set_option maxHeartbeats 1000000 in
theorem readInteger_any (s : ByteArray) (w : World) (hs : s.size ≤ 9223372036854775807) :
    Calls Try.prog 51 #[.string s] w fun e w' => e = .returned (.tuple #[.int .i64 (Lib.unzigzag (dV s.data.toList)), .int .i64 (dK s.data.toList : Nat), .int .i64 (dE s.data.toList)]) ∧ w = w' := by
  have hV := dV_lt s.data.toList
  have hr := readNumber_any s w hs
  generalize dV s.data.toList = V at *
  generalize dK s.data.toList = K at *
  generalize dE s.data.toList = E at *
  go_enter Try.func51, Try.ntmps51
  go_wp2_with fail
  refine hr.mono ?_
  rintro e w1 ⟨rfl, rfl⟩
  go_wp2_with fail
  refine (unfold_any V _ hV).mono ?_
  rintro e w1 ⟨rfl, rfl⟩
  go_wp2
  go_ret3
  exact ⟨ret3 rfl rfl rfl, rfl⟩

set_option maxHeartbeats 1000000 in
theorem readUpTo_any (s : ByteArray) (m : Int) (w : World) (hs : s.size ≤ 9223372036854775807) (hm0 : -9223372036854775808 ≤ m) (hm1 : m ≤ 9223372036854775807) :
    Calls Try.prog 55 #[.string s, .int .i64 m] w fun e w' => e = .returned (.tuple #[.int .i64 (uV s.data.toList m : Nat), .int .i64 (uK s.data.toList m : Nat), .int .i64 (uE s.data.toList m)]) ∧ w = w' := by
  have hV := dV_lt s.data.toList
  have hr := readNumber_any s w hs
  by_cases hE : dE s.data.toList = 0
  · rw [hE] at hr
    by_cases hneg : m < 0
    · have HD := Lib.hid (uE_much hE (m := m) (.inl hneg))
      clear hE
      go_enter Try.func55, Try.ntmps55
      go_wp2_with fail
      refine hr.mono ?_
      rintro e w1 ⟨rfl, rfl⟩
      go_wp2
      go_ret3
      exact ⟨ret3 (by rw [HD.out.2.1]; rfl) (by rw [HD.out.2.2]; rfl) (by rw [HD.out.1]), rfl⟩
    · by_cases hgt : m < (dV s.data.toList : Int)
      · have HD := Lib.hid (uE_much hE (m := m) (.inr hgt))
        clear hE
        generalize hVV : dV s.data.toList = V at *
        generalize dK s.data.toList = K at *
        clear hVV
        go_enter Try.func55, Try.ntmps55
        go_wp2_with fail
        refine hr.mono ?_
        rintro e w1 ⟨rfl, rfl⟩
        go_wp2
        go_ret3
        exact ⟨ret3 (by rw [HD.out.2.1]; rfl) (by rw [HD.out.2.2]; rfl) (by rw [HD.out.1]), rfl⟩
      · have HD := Lib.hid (uE_ok hE (m := m) (by omega))
        clear hE
        generalize hVV : dV s.data.toList = V at *
        generalize hKK : dK s.data.toList = K at *
        clear hVV hKK
        go_enter Try.func55, Try.ntmps55
        go_wp2_with fail
        refine hr.mono ?_
        rintro e w1 ⟨rfl, rfl⟩
        go_wp2
        go_ret3
        exact ⟨ret3 (by rw [HD.out.2.1]) (by rw [HD.out.2.2]) (by rw [HD.out.1]), rfl⟩
  · have HD := Lib.hid (uE_bad (m := m) hE)
    have hEb : (dE s.data.toList != 0) = true := by simpa using hE
    clear hE
    generalize hVV : dV s.data.toList = V at *
    generalize hKK : dK s.data.toList = K at *
    generalize hEE : dE s.data.toList = E at *
    clear hVV hKK hEE
    go_enter Try.func55, Try.ntmps55
    go_wp2_with fail
    refine hr.mono ?_
    rintro e w1 ⟨rfl, rfl⟩
    go_wp2
    go_ret3
    exact ⟨ret3 (by rw [HD.out.2.1]; rfl) (by rw [HD.out.2.2]; rfl) (by rw [HD.out.1]), rfl⟩

/-- a text of m bytes at most: what is wrong, it, and how many bytes it takes -/
def tE (l : List UInt8) (m : Int) : Int := if uE l m ≠ 0 then uE l m else if l.length < uK l m + uV l m then 20 else 0
def tV (l : List UInt8) (m : Int) : ByteArray := if tE l m = 0 then ⟨((l.drop (uK l m)).take (uV l m)).toArray⟩ else ⟨#[]⟩
def tK (l : List UInt8) (m : Int) : Nat := if tE l m = 0 then uK l m + uV l m else 0
theorem tE_bad {l : List UInt8} {m : Int} (h : uE l m ≠ 0) : tE l m = uE l m ∧ tV l m = ⟨#[]⟩ ∧ tK l m = 0 := by
  have e : tE l m = uE l m := by unfold tE; rw [if_pos h]
  exact ⟨e, by unfold tV; rw [e, if_neg h], by unfold tK; rw [e, if_neg h]⟩
theorem tE_short {l : List UInt8} {m : Int} (h : uE l m = 0) (h2 : l.length < uK l m + uV l m) : tE l m = 20 ∧ tV l m = ⟨#[]⟩ ∧ tK l m = 0 := by
  have e : tE l m = 20 := by unfold tE; rw [if_neg (fun hh => hh h), if_pos h2]
  exact ⟨e, by unfold tV; rw [e]; rfl, by unfold tK; rw [e]; rfl⟩
theorem tE_ok {l : List UInt8} {m : Int} (h : uE l m = 0) (h2 : ¬ l.length < uK l m + uV l m) : tE l m = 0 ∧ tV l m = ⟨((l.drop (uK l m)).take (uV l m)).toArray⟩ ∧ tK l m = uK l m + uV l m := by
  have e : tE l m = 0 := by unfold tE; rw [if_neg (fun hh => hh h), if_neg h2]
  exact ⟨e, by unfold tV; rw [e]; rfl, by unfold tK; rw [e]; rfl⟩
theorem ret3s {b c b' c' : Int} {y z : IntKind} {v v' : Value} (h1 : v = v') (h2 : b = b') (h3 : c = c') : Ending.returned (.tuple #[v, .int y b, .int z c]) = .returned (.tuple #[v', .int y b', .int z c']) := by rw [h1, h2, h3]

theorem extract_eq (s : ByteArray) (K V : Nat) : s.extract K (K + V) = ⟨((s.data.toList.drop K).take V).toArray⟩ := by
  apply ByteArray.ext
  apply Array.toList_inj.1
  rw [Lib.extract_data, List.toList_toArray]
  congr 1; omega
set_option maxHeartbeats 4000000 in
theorem readText_any (s : ByteArray) (m : Int) (w : World) (hs : s.size ≤ 1099511627776) (hm0 : -9223372036854775808 ≤ m) (hm1 : m ≤ 9223372036854775807) :
    Calls Try.prog 58 #[.string s, .int .i64 m] w fun e w' => e = .returned (.tuple #[.string (tV s.data.toList m), .int .i64 (tK s.data.toList m : Nat), .int .i64 (tE s.data.toList m)]) ∧ Below w.heap.size w w' := by
  have hr := readUpTo_any s m w (by omega) hm0 hm1
  have hk := uK_le s.data.toList m
  have hv := uV_le s.data.toList m hm1
  rw [← Lib.size_eq] at hk
  by_cases hE : uE s.data.toList m = 0
  · rw [hE] at hr
    by_cases hlt : s.size < uK s.data.toList m + uV s.data.toList m
    · have HD := Lib.hid (tE_short hE (by rw [← Lib.size_eq]; exact hlt))
      have hgt : (s.size : Int) - (uK s.data.toList m : Int) < (uV s.data.toList m : Int) := by omega
      clear hE
      generalize hVV : uV s.data.toList m = V at *
      generalize hKK : uK s.data.toList m = K at *
      clear hVV hKK
      go_enter Try.func58, Try.ntmps58
      go_wp2_with fail
      refine hr.mono ?_
      rintro e w1 ⟨rfl, rfl⟩
      go_wp2
      go_ret3
      exact ⟨ret3s (by rw [HD.out.2.1]; rfl) (by rw [HD.out.2.2]; rfl) (by rw [HD.out.1]), Below.refl _ _⟩
    · have HD := Lib.hid (tE_ok hE (by rw [← Lib.size_eq]; exact hlt))
      have hgt : ¬ (s.size : Int) - (uK s.data.toList m : Int) < (uV s.data.toList m : Int) := by omega
      clear hE
      generalize hVV : uV s.data.toList m = V at *
      generalize hKK : uK s.data.toList m = K at *
      clear hVV hKK
      have hle : K ≤ K + V := by omega
      have hle2 : K + V ≤ s.size := by omega
      have hleI : (K : Int) ≤ (K : Int) + (V : Int) := by omega
      have hle2I : (K : Int) + (V : Int) ≤ (s.size : Int) := by omega
      go_enter Try.func58, Try.ntmps58
      go_wp2_with fail
      refine hr.mono ?_
      rintro e w1 ⟨rfl, rfl⟩
      go_wp2_with fail
      refine (clone_any _ _ ?_).mono ?_
      · rw [Lib.size_eq, Lib.extract_data, List.length_take]; omega
      rw [extract_eq s K V]
      rintro e w2 ⟨rfl, hb⟩
      have HB := Lib.hid hb
      clear hb
      generalize hT : (⟨((s.data.toList.drop K).take V).toArray⟩ : ByteArray) = T at *
      have HT := Lib.hid hT
      clear hT
      go_wp2
      go_ret3
      exact ⟨ret3s (by rw [HD.out.2.1]; rfl) (by rw [HD.out.2.2]; go_num) (by rw [HD.out.1]), HB.out⟩
  · have HD := Lib.hid (tE_bad (m := m) hE)
    have hEb : (uE s.data.toList m != 0) = true := by simpa using hE
    clear hE
    generalize hVV : uV s.data.toList m = V at *
    generalize hKK : uK s.data.toList m = K at *
    generalize hEE : uE s.data.toList m = E at *
    clear hVV hKK hEE
    go_enter Try.func58, Try.ntmps58
    go_wp2_with fail
    refine hr.mono ?_
    rintro e w1 ⟨rfl, rfl⟩
    go_wp2
    go_ret3
    exact ⟨ret3s (by rw [HD.out.2.1]; rfl) (by rw [HD.out.2.2]; rfl) (by rw [HD.out.1]), Below.refl _ _⟩
end Go.Proofs.Ytkcmcgmonkeajaa
