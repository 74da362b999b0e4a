/- What reads lists of integers; the closures that hand on how much is allowed. -/
import Derived.Test.YtkcmcgmonkeajaaRead2
namespace Go.Proofs.Ytkcmcgmonkeajaa
open Go.RowKit

/-- n integers, one behind the other: what is wrong, they, and their bytes -/
def isR : Nat → List UInt8 → Int × List Int × Nat
  | 0, _ => (0, [], 0)
  | n + 1, l => if dE l ≠ 0 then (dE l, [], 0) else if (isR n (l.drop (dK l))).1 ≠ 0 then ((isR n (l.drop (dK l))).1, [], 0) else (0, Lib.unzigzag (dV l) :: (isR n (l.drop (dK l))).2.1, dK l + (isR n (l.drop (dK l))).2.2)
theorem isR_bad {n : Nat} {l : List UInt8} (h : dE l ≠ 0) : isR (n + 1) l = (dE l, [], 0) := by simp only [isR]; rw [if_pos h]
theorem isR_ok {n : Nat} {l : List UInt8} (h : dE l = 0) (h2 : (isR n (l.drop (dK l))).1 = 0) : isR (n + 1) l = (0, Lib.unzigzag (dV l) :: (isR n (l.drop (dK l))).2.1, dK l + (isR n (l.drop (dK l))).2.2) := by
  simp only [isR]; rw [if_neg (fun hh => hh h), if_neg (fun hh => hh h2)]
theorem isR_err {n : Nat} {l : List UInt8} (h : dE l = 0) : (isR (n + 1) l).1 = (isR n (l.drop (dK l))).1 := by
  by_cases h2 : (isR n (l.drop (dK l))).1 = 0
  · rw [isR_ok h h2, h2]
  · simp only [isR]; rw [if_neg (fun hh => hh h), if_pos h2]
def lE (l : List UInt8) (m : Int) : Int := if uE l m ≠ 0 then uE l m else (isR (uV l m) (l.drop (uK l m))).1
def lV (l : List UInt8) (m : Int) : List Int := if lE l m = 0 then (isR (uV l m) (l.drop (uK l m))).2.1 else []
def lK (l : List UInt8) (m : Int) : Nat := if lE l m = 0 then uK l m + (isR (uV l m) (l.drop (uK l m))).2.2 else 0
theorem lE_bad {l : List UInt8} {m : Int} (h : uE l m ≠ 0) : lE l m = uE l m ∧ lV l m = [] ∧ lK l m = 0 := by
  have e : lE l m = uE l m := by unfold lE; rw [if_pos h]
  exact ⟨e, by unfold lV; rw [e, if_neg h], by unfold lK; rw [e, if_neg h]⟩
theorem lE_wrong {l : List UInt8} {m : Int} (h : uE l m = 0) (h2 : (isR (uV l m) (l.drop (uK l m))).1 ≠ 0) : lE l m = (isR (uV l m) (l.drop (uK l m))).1 ∧ lV l m = [] ∧ lK l m = 0 := by
  have e : lE l m = (isR (uV l m) (l.drop (uK l m))).1 := by unfold lE; rw [if_neg (fun hh => hh h)]
  exact ⟨e, by unfold lV; rw [e, if_neg h2], by unfold lK; rw [e, if_neg h2]⟩
theorem lE_ok {l : List UInt8} {m : Int} (h : uE l m = 0) (h2 : (isR (uV l m) (l.drop (uK l m))).1 = 0) : lE l m = 0 ∧ lV l m = (isR (uV l m) (l.drop (uK l m))).2.1 ∧ lK l m = uK l m + (isR (uV l m) (l.drop (uK l m))).2.2 := by
  have e : lE l m = 0 := by unfold lE; rw [if_neg (fun hh => hh h), h2]
  exact ⟨e, by unfold lV; rw [e]; rfl, by unfold lK; rw [e]; rfl⟩

/-- what a round of the list's reading keeps -/
def IsRel (V : Nat) (L : List UInt8) (K : Nat) (l : List UInt8) (j A : Nat) (xs : List Int) : Prop :=
  j ≤ V ∧ (isR V L).1 = (isR (V - j) (l.drop A)).1 ∧ ((isR V L).1 = 0 → (isR V L).2.1 = xs ++ (isR (V - j) (l.drop A)).2.1 ∧ K + (isR V L).2.2 = A + (isR (V - j) (l.drop A)).2.2)
theorem IsRel.start (V K : Nat) (l : List UInt8) : IsRel V (l.drop K) K l 0 K [] := ⟨Nat.zero_le _, rfl, fun _ => ⟨rfl, rfl⟩⟩
theorem IsRel.step {V K j A : Nat} {L l : List UInt8} {xs : List Int} (h : IsRel V L K l j A xs) (hj : j < V) (hE : dE (l.drop A) = 0) : IsRel V L K l (j + 1) (A + dK (l.drop A)) (xs ++ [Lib.unzigzag (dV (l.drop A))]) := by
  obtain ⟨_, h1, h2⟩ := h
  obtain ⟨q, hq⟩ : ∃ q, V - j = q + 1 := ⟨V - j - 1, by omega⟩
  have hq2 : V - (j + 1) = q := by omega
  rw [hq] at h1 h2
  refine ⟨by omega, ?_, fun h0 => ?_⟩
  · rw [hq2, h1, isR_err hE, List.drop_drop]
  · obtain ⟨h3, h4⟩ := h2 h0
    have h5 : (isR q ((l.drop A).drop (dK (l.drop A)))).1 = 0 := by rw [← isR_err hE, ← h1, h0]
    rw [isR_ok hE h5] at h3 h4
    rw [hq2, ← List.drop_drop]
    refine ⟨by rw [h3]; simp, by rw [h4]; simp only; omega⟩
theorem IsRel.stop {V K j A : Nat} {L l : List UInt8} {xs : List Int} (h : IsRel V L K l j A xs) (hj : j < V) (hE : dE (l.drop A) ≠ 0) : (isR V L).1 = dE (l.drop A) := by
  obtain ⟨_, h1, h2⟩ := h
  obtain ⟨q, hq⟩ : ∃ q, V - j = q + 1 := ⟨V - j - 1, by omega⟩
  rw [hq, isR_bad hE] at h1
  exact h1
theorem IsRel.fin {V K A : Nat} {L l : List UInt8} {xs : List Int} (h : IsRel V L K l V A xs) : (isR V L).1 = 0 ∧ (isR V L).2.1 = xs ∧ K + (isR V L).2.2 = A := by
  obtain ⟨_, h1, h2⟩ := h
  rw [Nat.sub_self] at h1 h2
  have h0 : (isR V L).1 = 0 := h1
  obtain ⟨h3, h4⟩ := h2 h0
  exact ⟨h0, by rw [h3]; simp [isR], by rw [h4]; simp [isR]⟩

theorem extract_end (s : ByteArray) (a : Nat) : (s.extract a s.size).data.toList = s.data.toList.drop a := by
  rw [Lib.extract_data, List.take_of_length_le]
  rw [List.length_drop, ← Lib.size_eq]; omega
theorem extract_size (s : ByteArray) (a : Nat) : (s.extract a s.size).size = s.size - a := by
  rw [Lib.size_eq, extract_end, List.length_drop, ← Lib.size_eq]
theorem info_int : (Try.prog.info? 3).map (fun i => (i.zero, i.size, i.bytes)) = some (some (.int .i64 0), 1, 8) := by kernel_rfl
theorem listAt_nil (B : Nat) (w : World) (c : Int → Value) : ListNew B w (.slice none 0 0) ([] : List Int).length (cellsOf c []) := ⟨rfl, none, 0, rfl, Nat.le_refl _, .inl rfl⟩
theorem listAt_nil' (B : Nat) (w : World) (c : Int → Value) (l : List Int) (h : l = []) : ListNew B w (.slice none 0 0) l.length (cellsOf c l) := by subst h; exact listAt_nil B w c
abbrev intC : Int → Value := fun c => .int .i64 c

set_option maxHeartbeats 4000000 in
set_option maxRecDepth 100000 in
theorem readIntegers_any (s : ByteArray) (m : Int) (w : World) (hs : s.size ≤ 1099511627776) (hm0 : -9223372036854775808 ≤ m) (hm1 : m ≤ 9223372036854775807) :
    Calls Try.prog 61 #[.string s, .int .i64 m] w fun e w' => ∃ v, e = .returned (.tuple #[v, .int .i64 (lK s.data.toList m : Nat), .int .i64 (lE s.data.toList m)]) ∧ ListNew w.heap.size w' v (lV s.data.toList m).length (cellsOf intC (lV s.data.toList m)) ∧ Below w.heap.size w w' := by
  obtain ⟨i0, hi, hz0, hz1, hz2⟩ := info_parts info_int
  have hr := readUpTo_any s m w (by omega) hm0 hm1
  have hk := uK_le s.data.toList m
  have hv := uV_le s.data.toList m hm1
  rw [← Lib.size_eq] at hk
  by_cases hE : uE s.data.toList m = 0
  · rw [hE] at hr
    have HW := Lib.hid (fun h => lE_wrong hE h)
    have HO := Lib.hid (fun h => lE_ok hE h)
    clear hE
    generalize hVV : uV s.data.toList m = V at *
    generalize hKK : uK s.data.toList m = K at *
    clear hVV hKK
    go_enter Try.func61, Try.ntmps61
    go_wp2_with fail
    refine hr.mono ?_
    rintro e w1 ⟨rfl, rfl⟩
    go_wp2
    go_loopw [8, 10, 25] (fun at_ v i wr => ∃ (j A : Nat) (xs : List Int), i = .int .i64 j ∧ at_ = .int .i64 A ∧ A ≤ s.size ∧ j ≤ A ∧ xs.length = j ∧ wr.ownsRow w.heap.size 3 1 v j (cellsOf intC xs) ∧ Below w.heap.size w wr ∧ IsRel V (s.data.toList.drop K) K s.data.toList j A xs)
      (fun _ _ i _ => V - (intOf i).toNat)
    case atStart => exact ⟨0, K, [], rfl, rfl, hk, Nat.zero_le _, rfl, World.ownsRow_nil _ _ _ _, Below.refl _ _, IsRel.start V K _⟩
    case round =>
      obtain ⟨j, A, xs, rfl, rfl, hA, hjA, hxl, hown, hbel, hrel⟩ := hrel
      have HR := Lib.hid hrel
      have hjV := hrel.1
      have HX := Lib.hid hxl
      clear hrel hxl
      by_cases hlt : j < V
      · have hri := readInteger_any (s.extract A s.size) wr (by rw [extract_size]; omega)
        rw [extract_end] at hri
        have hkd := dK_le (s.data.toList.drop A)
        rw [List.length_drop, ← Lib.size_eq] at hkd
        by_cases hE2 : dE (s.data.toList.drop A) = 0
        · have HS := Lib.hid (HR.out.step hlt hE2)
          have hkp := (uv_again _ hE2).2.2
          rw [hE2] at hri
          clear hE2
          generalize hVV : Lib.unzigzag (dV (s.data.toList.drop A)) = x at *
          generalize hKK : dK (s.data.toList.drop A) = D at *
          clear hVV hKK
          have hAI : (A : Int) ≤ (s.size : Int) := by omega
          go_wp2_with fail
          refine hri.mono ?_
          rintro e w1 ⟨rfl, rfl⟩
          go_wp2_with (at_builtin; refine wpList_append_own _ rfl _ _ 25 rfl w.heap.size 3 i0 (.int .i64 0) 1 8 Try.underlying25 hi hz0 hz1 hz2 rfl (by decide) _ _ _ rfl (hown.alloc _) ⟨wr.heap.size, 0, none⟩ 1 1 [.int .i64 x] rfl rfl ?c1 ?c2 ?c3 ?c4 ?c5 ?_)
          case c1 =>
            intro i u hu
            match i, hu with
            | 0, hu => simp at hu; subst hu; simp [Addr.add]
          case c2 => intro u hu; simp at hu; subst hu; rfl
          case c3 => unfold maxLen; omega
          case c4 => omega
          case c5 => have := hbel.size; simp; omega
          intro v' w1 hown' hgrow _
          have hb1 : Below w.heap.size w w1 := (hbel.alloc hbel.size _).grown hgrow (by have := hbel.size; simp; omega) (fun k hk => (hown.lt k hk).1)
          have HOW := Lib.hid hown'
          clear hown hgrow hbel hown'
          go_wp2
          go_roundw
          case rel => exact ⟨j + 1, A + D, xs ++ [x], by go_num, by go_num, by omega, by omega, by rw [List.length_append, HX.out]; rfl, by simpa [cellsOf] using HOW.out, hb1, HS.out⟩
          case measure => simp [intOf]; omega
        · have hst := HR.out.stop hlt hE2
          have HD := Lib.hid (HW.out (by rw [hst]; exact hE2))
          have HST := Lib.hid hst
          have hEb : (dE (s.data.toList.drop A) != 0) = true := by simpa using hE2
          clear hE2 hst
          generalize hVV : Lib.unzigzag (dV (s.data.toList.drop A)) = x at *
          generalize hKK : dK (s.data.toList.drop A) = D at *
          generalize hEE : dE (s.data.toList.drop A) = E at *
          clear hVV hKK hEE
          have hAI : (A : Int) ≤ (s.size : Int) := by omega
          go_wp2_with fail
          refine hri.mono ?_
          rintro e w1 ⟨rfl, rfl⟩
          go_wp2
          go_ret3
          exact ⟨_, ret3s rfl (by rw [HD.out.2.2]; rfl) (by rw [HD.out.1, HST.out]), listAt_nil' _ _ _ _ HD.out.2.1, hbel⟩
      · have hjv : j = V := by omega
        have hf : Hid ((isR V (s.data.toList.drop K)).1 = 0 ∧ (isR V (s.data.toList.drop K)).2.1 = xs ∧ K + (isR V (s.data.toList.drop K)).2.2 = A) := by
          have h := HR.out
          rw [hjv] at h
          exact h.fin
        have HD := Lib.hid (HO.out hf.out.1)
        have HL := Lib.hid (ListNew.of_own hown)
        clear hjv
        go_wp2
        go_ret3
        refine ⟨_, ret3s rfl (by rw [HD.out.2.2, hf.out.2.2]) (by rw [HD.out.1]), ?_, hbel⟩
        rw [HD.out.2.1, hf.out.2.1, HX.out]
        exact HL.out
  · have HD := Lib.hid (lE_bad (m := m) hE)
    have hEb : (uE s.data.toList m != 0) = true := by simpa using hE
    clear hE
    generalize hVV : uV s.data.toList m = V at *
    generalize hKK : uK s.data.toList m = K at *
    generalize hEE : uE s.data.toList m = E at *
    clear hVV hKK hEE
    go_enter Try.func61, Try.ntmps61
    go_wp2_with fail
    refine hr.mono ?_
    rintro e w1 ⟨rfl, rfl⟩
    go_wp2
    go_ret3
    exact ⟨_, ret3s rfl (by rw [HD.out.2.2]; rfl) (by rw [HD.out.1]), listAt_nil' _ _ _ _ HD.out.2.1, Below.refl _ _⟩
end Go.Proofs.Ytkcmcgmonkeajaa
