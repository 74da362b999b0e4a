/- take at its instances; the closures. -/
import Derived.Test.YtkcmcgmonkeajaaRd
import Derived.Deep.RegionHeld3
namespace Go.Proofs.Ytkcmcgmonkeajaa
open Go.RowKit

set_option maxHeartbeats 1000000 in
theorem below_fn (s : ByteArray) (m : Int) (q : Nat) (w : World) (hs : s.size ≤ 9223372036854775807) (hm0 : -9223372036854775808 ≤ m) (hm1 : m ≤ 9223372036854775807) (hc : w.cell? ⟨q, 0, none⟩ = some (.int .i64 m)) :
    Calls Try.prog 54 #[.string s, .pointer (some ⟨q, 0, none⟩)] w fun e w' => e = .returned (.tuple #[.int .i64 (uV s.data.toList m : Nat), .int .i64 (uK s.data.toList m : Nat), .int .i64 (uE s.data.toList m)]) ∧ w = w' := by
  have hr := readUpTo_any s m w hs hm0 hm1
  generalize uV s.data.toList m = V at *
  generalize uK s.data.toList m = K at *
  generalize uE s.data.toList m = E at *
  go_enter Try.func54, Try.ntmps54
  go_wp2_with fail
  refine hr.mono ?_
  rintro e w1 ⟨rfl, rfl⟩
  go_wp2
  go_ret3
  exact ⟨ret3 rfl rfl rfl, rfl⟩
set_option maxHeartbeats 1000000 in
theorem text_fn (s : ByteArray) (m : Int) (q : Nat) (w : World) (hs : s.size ≤ 1099511627776) (hm0 : -9223372036854775808 ≤ m) (hm1 : m ≤ 9223372036854775807) (hc : w.cell? ⟨q, 0, none⟩ = some (.int .i64 m)) :
    Calls Try.prog 57 #[.string s, .pointer (some ⟨q, 0, none⟩)] w fun e w' => e = .returned (.tuple #[.string (tV s.data.toList m), .int .i64 (tK s.data.toList m : Nat), .int .i64 (tE s.data.toList m)]) ∧ Below w.heap.size w w' := by
  have hr := readText_any s m w hs hm0 hm1
  generalize tV s.data.toList m = V at *
  generalize tK s.data.toList m = K at *
  generalize tE s.data.toList m = E at *
  go_enter Try.func57, Try.ntmps57
  go_wp2_with fail
  refine hr.mono ?_
  rintro e w1 ⟨rfl, hb⟩
  go_wp2
  go_ret3
  exact ⟨ret3s rfl rfl rfl, hb⟩
set_option maxHeartbeats 1000000 in
theorem ints_fn (s : ByteArray) (m : Int) (q : Nat) (w : World) (hs : s.size ≤ 1099511627776) (hm0 : -9223372036854775808 ≤ m) (hm1 : m ≤ 9223372036854775807) (hc : w.cell? ⟨q, 0, none⟩ = some (.int .i64 m)) :
    Calls Try.prog 60 #[.string s, .pointer (some ⟨q, 0, none⟩)] w fun e w' => ∃ v, e = .returned (.tuple #[v, .int .i64 (lK s.data.toList m : Nat), .int .i64 (lE s.data.toList m)]) ∧ ListNew w.heap.size w' v (lV s.data.toList m).length (cellsOf intC (lV s.data.toList m)) ∧ Below w.heap.size w w' := by
  have hr := readIntegers_any s m w hs hm0 hm1
  generalize lV s.data.toList m = V at *
  generalize lK s.data.toList m = K at *
  generalize lE s.data.toList m = E at *
  go_enter Try.func60, Try.ntmps60
  go_wp2_with fail
  refine hr.mono ?_
  rintro e w1 ⟨v, rfl, hl, hb⟩
  obtain ⟨h1, a, c, rfl, h3⟩ := hl
  have HL := Lib.hid h3
  clear h3
  go_wp2
  go_ret3
  exact ⟨_, ret3s rfl rfl rfl, ⟨h1, a, c, rfl, HL.out⟩, hb⟩
theorem uE_none (l : List UInt8) (m : Int) (h : uE l m ≠ 0) : uV l m = 0 ∧ uK l m = 0 := ⟨by unfold uV; rw [if_neg h], by unfold uK; rw [if_neg h]⟩
theorem tE_none (l : List UInt8) (m : Int) (h : tE l m ≠ 0) : tV l m = ⟨#[]⟩ ∧ tK l m = 0 := ⟨by unfold tV; rw [if_neg h], by unfold tK; rw [if_neg h]⟩
theorem lE_none (l : List UInt8) (m : Int) (h : lE l m ≠ 0) : lV l m = [] ∧ lK l m = 0 := ⟨by unfold lV; rw [if_neg h], by unfold lK; rw [if_neg h]⟩
theorem tK_le (l : List UInt8) (m : Int) : tK l m ≤ l.length := by
  by_cases h : tE l m = 0
  · by_cases h1 : uE l m = 0
    · by_cases h2 : l.length < uK l m + uV l m
      · have := (tE_short h1 h2).1; omega
      · have := (tE_ok h1 h2).2.2; omega
    · have := (tE_bad (m := m) h1).2.2; omega
  · rw [(tE_none l m h).2]; omega
theorem isR_len : ∀ (n : Nat) (l : List UInt8), (isR n l).2.2 ≤ l.length
  | 0, l => by simp [isR]
  | n + 1, l => by
    by_cases h : dE l = 0
    · by_cases h2 : (isR n (l.drop (dK l))).1 = 0
      · rw [isR_ok h h2]
        have := isR_len n (l.drop (dK l))
        have := dK_le l
        rw [List.length_drop] at *
        simp only
        omega
      · simp only [isR]; rw [if_neg (fun hh => hh h), if_pos h2]; simp
    · rw [isR_bad h]; simp
theorem lK_le (l : List UInt8) (m : Int) : lK l m ≤ l.length := by
  by_cases h : lE l m = 0
  · by_cases h1 : uE l m = 0
    · by_cases h2 : (isR (uV l m) (l.drop (uK l m))).1 = 0
      · have h3 := (lE_ok h1 h2).2.2
        have := isR_len (uV l m) (l.drop (uK l m))
        have := uK_le l m
        rw [List.length_drop] at *
        omega
      · have := (lE_wrong h1 h2).2.2; omega
    · have := (lE_bad (m := m) h1).2.2; omega
  · rw [(lE_none l m h).2]; omega


set_option maxHeartbeats 1000000 in
theorem take_u64_err (p : Nat) (s : ByteArray) (a : Nat) (er : Int) (fv : Value) (w : World) (h : RdAt w p s a er) (he : er ≠ 0) :
    Calls Try.prog 46 #[.pointer (some ⟨p, 0, none⟩), fv] w fun e w' => e = .returned (.int .u64 0) ∧ w = w' := by
  have h2 := h.c2
  have hd : (er != 0) = true := by simpa using he
  clear h he
  go_enter Try.func46, Try.ntmps46
  go_wp2
  go_ret
  exact ⟨rfl, rfl⟩

set_option maxHeartbeats 1000000 in
theorem take_i64_err (p : Nat) (s : ByteArray) (a : Nat) (er : Int) (fv : Value) (w : World) (h : RdAt w p s a er) (he : er ≠ 0) :
    Calls Try.prog 50 #[.pointer (some ⟨p, 0, none⟩), fv] w fun e w' => e = .returned (.int .i64 0) ∧ w = w' := by
  have h2 := h.c2
  have hd : (er != 0) = true := by simpa using he
  clear h he
  go_enter Try.func50, Try.ntmps50
  go_wp2
  go_ret
  exact ⟨rfl, rfl⟩

set_option maxHeartbeats 1000000 in
theorem take_int_err (p : Nat) (s : ByteArray) (a : Nat) (er : Int) (fv : Value) (w : World) (h : RdAt w p s a er) (he : er ≠ 0) :
    Calls Try.prog 53 #[.pointer (some ⟨p, 0, none⟩), fv] w fun e w' => e = .returned (.int .i64 0) ∧ w = w' := by
  have h2 := h.c2
  have hd : (er != 0) = true := by simpa using he
  clear h he
  go_enter Try.func53, Try.ntmps53
  go_wp2
  go_ret
  exact ⟨rfl, rfl⟩

set_option maxHeartbeats 1000000 in
theorem take_str_err (p : Nat) (s : ByteArray) (a : Nat) (er : Int) (fv : Value) (w : World) (h : RdAt w p s a er) (he : er ≠ 0) :
    Calls Try.prog 56 #[.pointer (some ⟨p, 0, none⟩), fv] w fun e w' => e = .returned (.string ⟨#[]⟩) ∧ w = w' := by
  have h2 := h.c2
  have hd : (er != 0) = true := by simpa using he
  clear h he
  go_enter Try.func56, Try.ntmps56
  go_wp2
  go_ret
  exact ⟨rfl, rfl⟩

set_option maxHeartbeats 1000000 in
theorem take_ints_err (p : Nat) (s : ByteArray) (a : Nat) (er : Int) (fv : Value) (w : World) (h : RdAt w p s a er) (he : er ≠ 0) :
    Calls Try.prog 59 #[.pointer (some ⟨p, 0, none⟩), fv] w fun e w' => e = .returned (.slice none 0 0) ∧ w = w' := by
  have h2 := h.c2
  have hd : (er != 0) = true := by simpa using he
  clear h he
  go_enter Try.func59, Try.ntmps59
  go_wp2
  go_ret
  exact ⟨rfl, rfl⟩

set_option maxHeartbeats 4000000 in
set_option maxRecDepth 100000 in
theorem take_u64 (p : Nat) (s : ByteArray) (a : Nat) (w : World) (hs : s.size ≤ 1099511627776) (h : RdAt w p s a 0) :
    Calls Try.prog 46 #[.pointer (some ⟨p, 0, none⟩), .func (.func 47) #[] #[]] w fun e w' => (e = .returned (.int .u64 (dV (s.data.toList.drop a) : Nat))) ∧ RdAt w' p s (a + dK (s.data.toList.drop a)) (dE (s.data.toList.drop a)) ∧ But p w w' := by
  have h0 := h.c0
  have h1 := h.c1
  have h2 := h.c2
  have ha := h.2
  have haI : (a : Int) ≤ (s.size : Int) := by omega
  have f1 := h.f 1
  have f2 := h.f 2
  have hkd := dK_le (s.data.toList.drop a)
  rw [List.length_drop, ← Lib.size_eq] at hkd
  have H := Lib.hid h
  have hri := fun w' => readNumber_any (s.extract a s.size) w' (by rw [extract_size]; omega)
  rw [extract_end] at hri
  have hnone := d_none (s.data.toList.drop a)
  clear h
  generalize hVV : dV (s.data.toList.drop a) = V at *
  generalize hKK : dK (s.data.toList.drop a) = D at *
  generalize hEE : dE (s.data.toList.drop a) = E at *
  clear hVV hKK hEE
  
  by_cases hE : E = 0
  · subst hE
    clear hnone
    go_enter Try.func46, Try.ntmps46
    go_wp2
    go_quiet ((go_at_call 47; exact Calls.quiet_of_same (((hri _).mono (fun _ _ hh => ⟨hh.1, hh.2.symm⟩)))))
    go_wp2
    go_ret
    refine ⟨rfl, (H.out.drewN _).set1 _ (by omega) _ (by omega), (But.drewN (But.refl _ _) _).set _ _⟩
  · have HN := Lib.hid (hnone hE)
    have hd : (E != 0) = true := by simpa using hE
    clear hnone hE
    go_enter Try.func46, Try.ntmps46
    go_wp2
    go_quiet ((go_at_call 47; exact Calls.quiet_of_same (((hri _).mono (fun _ _ hh => ⟨hh.1, hh.2.symm⟩)))))
    go_wp2
    go_ret
    refine ⟨?_, ?_, (But.drewN (But.refl _ _) _).set _ _⟩
    · rw [(HN.out).1]; rfl
    · rw [(HN.out).2]; exact (H.out.drewN _).set2 _

set_option maxHeartbeats 4000000 in
set_option maxRecDepth 100000 in
theorem take_i64 (p : Nat) (s : ByteArray) (a : Nat) (w : World) (hs : s.size ≤ 1099511627776) (h : RdAt w p s a 0) :
    Calls Try.prog 50 #[.pointer (some ⟨p, 0, none⟩), .func (.func 51) #[] #[]] w fun e w' => (e = .returned (.int .i64 (Lib.unzigzag (dV (s.data.toList.drop a))))) ∧ RdAt w' p s (a + dK (s.data.toList.drop a)) (dE (s.data.toList.drop a)) ∧ But p w w' := by
  have h0 := h.c0
  have h1 := h.c1
  have h2 := h.c2
  have ha := h.2
  have haI : (a : Int) ≤ (s.size : Int) := by omega
  have f1 := h.f 1
  have f2 := h.f 2
  have hkd := dK_le (s.data.toList.drop a)
  rw [List.length_drop, ← Lib.size_eq] at hkd
  have H := Lib.hid h
  have hri := fun w' => readInteger_any (s.extract a s.size) w' (by rw [extract_size]; omega)
  rw [extract_end] at hri
  have hnone := d_none (s.data.toList.drop a)
  clear h
  generalize hVV : dV (s.data.toList.drop a) = V at *
  generalize hKK : dK (s.data.toList.drop a) = D at *
  generalize hEE : dE (s.data.toList.drop a) = E at *
  clear hVV hKK hEE
  
  by_cases hE : E = 0
  · subst hE
    clear hnone
    go_enter Try.func50, Try.ntmps50
    go_wp2
    go_quiet ((go_at_call 51; exact Calls.quiet_of_same (((hri _).mono (fun _ _ hh => ⟨hh.1, hh.2.symm⟩)))))
    go_wp2
    go_ret
    refine ⟨rfl, (H.out.drewN _).set1 _ (by omega) _ (by omega), (But.drewN (But.refl _ _) _).set _ _⟩
  · have HN := Lib.hid (hnone hE)
    have hd : (E != 0) = true := by simpa using hE
    clear hnone hE
    go_enter Try.func50, Try.ntmps50
    go_wp2
    go_quiet ((go_at_call 51; exact Calls.quiet_of_same (((hri _).mono (fun _ _ hh => ⟨hh.1, hh.2.symm⟩)))))
    go_wp2
    go_ret
    refine ⟨?_, ?_, (But.drewN (But.refl _ _) _).set _ _⟩
    · rw [(HN.out).1]; rfl
    · rw [(HN.out).2]; exact (H.out.drewN _).set2 _

set_option maxHeartbeats 4000000 in
set_option maxRecDepth 100000 in
theorem take_int (p : Nat) (s : ByteArray) (a : Nat) (w : World) (m : Int) (q : Nat) (hm0 : -9223372036854775808 ≤ m) (hm1 : m ≤ 9223372036854775807) (hq : w.cell? ⟨q, 0, none⟩ = some (.int .i64 m)) (hs : s.size ≤ 1099511627776) (h : RdAt w p s a 0) :
    Calls Try.prog 53 #[.pointer (some ⟨p, 0, none⟩), .func (.func 54) #[] #[.pointer (some ⟨q, 0, none⟩)]] w fun e w' => (e = .returned (.int .i64 (uV (s.data.toList.drop a) m : Nat))) ∧ RdAt w' p s (a + uK (s.data.toList.drop a) m) (uE (s.data.toList.drop a) m) ∧ But p w w' := by
  have h0 := h.c0
  have h1 := h.c1
  have h2 := h.c2
  have ha := h.2
  have haI : (a : Int) ≤ (s.size : Int) := by omega
  have f1 := h.f 1
  have f2 := h.f 2
  have hkd := uK_le (s.data.toList.drop a) m
  rw [List.length_drop, ← Lib.size_eq] at hkd
  have H := Lib.hid h
  have hri := fun w' => below_fn (s.extract a s.size) m q w' (by rw [extract_size]; omega) hm0 hm1
  rw [extract_end] at hri
  have hnone := uE_none (s.data.toList.drop a) m
  clear h
  generalize hVV : uV (s.data.toList.drop a) m = V at *
  generalize hKK : uK (s.data.toList.drop a) m = D at *
  generalize hEE : uE (s.data.toList.drop a) m = E at *
  clear hVV hKK hEE
  
  by_cases hE : E = 0
  · subst hE
    clear hnone
    go_enter Try.func53, Try.ntmps53
    go_wp2
    go_quiet ((go_at_call 54; exact Calls.quiet_of_same (((hri _ (by simpa using hq)).mono (fun _ _ hh => ⟨hh.1, hh.2.symm⟩)))))
    go_wp2
    go_ret
    refine ⟨rfl, (H.out.drewN _).set1 _ (by omega) _ (by omega), (But.drewN (But.refl _ _) _).set _ _⟩
  · have HN := Lib.hid (hnone hE)
    have hd : (E != 0) = true := by simpa using hE
    clear hnone hE
    go_enter Try.func53, Try.ntmps53
    go_wp2
    go_quiet ((go_at_call 54; exact Calls.quiet_of_same (((hri _ (by simpa using hq)).mono (fun _ _ hh => ⟨hh.1, hh.2.symm⟩)))))
    go_wp2
    go_ret
    refine ⟨?_, ?_, (But.drewN (But.refl _ _) _).set _ _⟩
    · rw [(HN.out).1]; rfl
    · rw [(HN.out).2]; exact (H.out.drewN _).set2 _

set_option maxHeartbeats 4000000 in
set_option maxRecDepth 100000 in
theorem take_str (p : Nat) (s : ByteArray) (a : Nat) (w : World) (m : Int) (q : Nat) (hm0 : -9223372036854775808 ≤ m) (hm1 : m ≤ 9223372036854775807) (hq : w.cell? ⟨q, 0, none⟩ = some (.int .i64 m)) (hs : s.size ≤ 1099511627776) (h : RdAt w p s a 0) :
    Calls Try.prog 56 #[.pointer (some ⟨p, 0, none⟩), .func (.func 57) #[] #[.pointer (some ⟨q, 0, none⟩)]] w fun e w' => (e = .returned (.string (tV (s.data.toList.drop a) m))) ∧ RdAt w' p s (a + tK (s.data.toList.drop a) m) (tE (s.data.toList.drop a) m) ∧ But p w w' := by
  have h0 := h.c0
  have h1 := h.c1
  have h2 := h.c2
  have ha := h.2
  have haI : (a : Int) ≤ (s.size : Int) := by omega
  have f1 := h.f 1
  have f2 := h.f 2
  have hkd := tK_le (s.data.toList.drop a) m
  rw [List.length_drop, ← Lib.size_eq] at hkd
  have H := Lib.hid h
  have hri := fun w' => text_fn (s.extract a s.size) m q w' (by rw [extract_size]; omega) hm0 hm1
  rw [extract_end] at hri
  have hnone := tE_none (s.data.toList.drop a) m
  clear h
  generalize hVV : tV (s.data.toList.drop a) m = V at *
  generalize hKK : tK (s.data.toList.drop a) m = D at *
  generalize hEE : tE (s.data.toList.drop a) m = E at *
  clear hVV hKK hEE
  have hqlt : q < w.drew.heap.size := World.block_lt_of_cell? w _ hq
  have hplt := H.out.lt
  by_cases hE : E = 0
  · subst hE
    clear hnone
    go_enter Try.func56, Try.ntmps56
    go_wp2
    go_region_held3 (fun w' => w'.cell? ⟨p, 0, none⟩ = some (.string s) ∧ w'.cell? ⟨p, 1, none⟩ = some (.int .i64 a) ∧ w'.cell? ⟨q, 0, none⟩ = some (.int .i64 m))
      (first
        | exact ⟨h0, h1, hq⟩
        | exact ⟨by simpa using h0, by simpa using h1, by simpa using hq⟩
        | exact ⟨k0, k1, hq3⟩)
      (first | (go_at_call 57; refine (hri _ ?_).mono ?_; (first | exact hq | (simpa using hq)); rintro e w1 ⟨rfl, hb⟩; have H3 : Hid (RdAt w1 p s a 0) := RdAt.below (show RdAt w.drew p s a 0 from H.out.drewN 1) hb; have B3 : Hid (But p w w1) := But.trans (show But p w w.drew from (But.refl p w).drewN 1) (But.of_below hb); have k0 := H3.out.c0; have k1 := H3.out.c1; have hq3 : w1.cell? ⟨q, 0, none⟩ = some (.int .i64 m) := (hb.cell (p := ⟨q, 0, none⟩) hqlt).trans (by simpa using hq); clear hb))
    have k2 := H3.out.c2
    have g1 := H3.out.f 1
    have g2 := H3.out.f 2
    go_wp2
    go_ret
    exact ⟨rfl, H3.out.set1 _ (by omega) _ (by omega), B3.out.set _ _⟩
  · have HN := Lib.hid (hnone hE)
    have hd : (E != 0) = true := by simpa using hE
    clear hnone hE
    go_enter Try.func56, Try.ntmps56
    go_wp2
    go_region_held3 (fun w' => w'.cell? ⟨p, 0, none⟩ = some (.string s) ∧ w'.cell? ⟨p, 1, none⟩ = some (.int .i64 a) ∧ w'.cell? ⟨q, 0, none⟩ = some (.int .i64 m))
      (first
        | exact ⟨h0, h1, hq⟩
        | exact ⟨by simpa using h0, by simpa using h1, by simpa using hq⟩
        | exact ⟨k0, k1, hq3⟩)
      (first | (go_at_call 57; refine (hri _ ?_).mono ?_; (first | exact hq | (simpa using hq)); rintro e w1 ⟨rfl, hb⟩; have H3 : Hid (RdAt w1 p s a 0) := RdAt.below (show RdAt w.drew p s a 0 from H.out.drewN 1) hb; have B3 : Hid (But p w w1) := But.trans (show But p w w.drew from (But.refl p w).drewN 1) (But.of_below hb); have k0 := H3.out.c0; have k1 := H3.out.c1; have hq3 : w1.cell? ⟨q, 0, none⟩ = some (.int .i64 m) := (hb.cell (p := ⟨q, 0, none⟩) hqlt).trans (by simpa using hq); clear hb))
    have k2 := H3.out.c2
    have g1 := H3.out.f 1
    have g2 := H3.out.f 2
    go_wp2
    go_ret
    refine ⟨?_, ?_, B3.out.set _ _⟩
    · rw [(HN.out).1]; rfl
    · rw [(HN.out).2]; exact H3.out.set2 _

set_option maxHeartbeats 4000000 in
set_option maxRecDepth 100000 in
theorem take_ints (p : Nat) (s : ByteArray) (a : Nat) (w : World) (m : Int) (q : Nat) (hm0 : -9223372036854775808 ≤ m) (hm1 : m ≤ 9223372036854775807) (hq : w.cell? ⟨q, 0, none⟩ = some (.int .i64 m)) (hs : s.size ≤ 1099511627776) (h : RdAt w p s a 0) :
    Calls Try.prog 59 #[.pointer (some ⟨p, 0, none⟩), .func (.func 60) #[] #[.pointer (some ⟨q, 0, none⟩)]] w fun e w' => (∃ v, e = .returned v ∧ ListNew w.heap.size w' v (lV (s.data.toList.drop a) m).length (cellsOf intC (lV (s.data.toList.drop a) m))) ∧ RdAt w' p s (a + lK (s.data.toList.drop a) m) (lE (s.data.toList.drop a) m) ∧ But p w w' := by
  have h0 := h.c0
  have h1 := h.c1
  have h2 := h.c2
  have ha := h.2
  have haI : (a : Int) ≤ (s.size : Int) := by omega
  have f1 := h.f 1
  have f2 := h.f 2
  have hkd := lK_le (s.data.toList.drop a) m
  rw [List.length_drop, ← Lib.size_eq] at hkd
  have H := Lib.hid h
  have hri := fun w' => ints_fn (s.extract a s.size) m q w' (by rw [extract_size]; omega) hm0 hm1
  rw [extract_end] at hri
  have hnone := lE_none (s.data.toList.drop a) m
  clear h
  generalize hVV : lV (s.data.toList.drop a) m = V at *
  generalize hKK : lK (s.data.toList.drop a) m = D at *
  generalize hEE : lE (s.data.toList.drop a) m = E at *
  clear hVV hKK hEE
  have hqlt : q < w.drew.heap.size := World.block_lt_of_cell? w _ hq
  have hplt := H.out.lt
  by_cases hE : E = 0
  · subst hE
    clear hnone
    go_enter Try.func59, Try.ntmps59
    go_wp2
    go_region_held3 (fun w' => w'.cell? ⟨p, 0, none⟩ = some (.string s) ∧ w'.cell? ⟨p, 1, none⟩ = some (.int .i64 a) ∧ w'.cell? ⟨q, 0, none⟩ = some (.int .i64 m))
      (first
        | exact ⟨h0, h1, hq⟩
        | exact ⟨by simpa using h0, by simpa using h1, by simpa using hq⟩
        | exact ⟨k0, k1, hq3⟩)
      (first | (go_at_call 60; refine (hri _ ?_).mono ?_; (first | exact hq | (simpa using hq)); rintro e w1 ⟨v, rfl, hl, hb⟩; obtain ⟨hl1, a1, c1, rfl, hl3⟩ := hl; have HL := Lib.hid hl3; clear hl3; have H3 : Hid (RdAt w1 p s a 0) := RdAt.below (show RdAt w.drew p s a 0 from H.out.drewN 1) hb; have B3 : Hid (But p w w1) := But.trans (show But p w w.drew from (But.refl p w).drewN 1) (But.of_below hb); have k0 := H3.out.c0; have k1 := H3.out.c1; have hq3 : w1.cell? ⟨q, 0, none⟩ = some (.int .i64 m) := (hb.cell (p := ⟨q, 0, none⟩) hqlt).trans (by simpa using hq); clear hb))
    have k2 := H3.out.c2
    have g1 := H3.out.f 1
    have g2 := H3.out.f 2
    go_wp2
    go_ret
    have hok : Hid (ListNew w.heap.size w1 (.slice a1 V.length c1) V.length (cellsOf intC V)) := ⟨hl1, a1, c1, rfl, HL.out⟩
    exact ⟨⟨_, rfl, ListNew.but hok.out ((But.refl p w1).set _ _) hplt⟩, H3.out.set1 _ (by omega) _ (by omega), B3.out.set _ _⟩
  · have HN := Lib.hid (hnone hE)
    have hd : (E != 0) = true := by simpa using hE
    clear hnone hE
    go_enter Try.func59, Try.ntmps59
    go_wp2
    go_region_held3 (fun w' => w'.cell? ⟨p, 0, none⟩ = some (.string s) ∧ w'.cell? ⟨p, 1, none⟩ = some (.int .i64 a) ∧ w'.cell? ⟨q, 0, none⟩ = some (.int .i64 m))
      (first
        | exact ⟨h0, h1, hq⟩
        | exact ⟨by simpa using h0, by simpa using h1, by simpa using hq⟩
        | exact ⟨k0, k1, hq3⟩)
      (first | (go_at_call 60; refine (hri _ ?_).mono ?_; (first | exact hq | (simpa using hq)); rintro e w1 ⟨v, rfl, hl, hb⟩; obtain ⟨hl1, a1, c1, rfl, hl3⟩ := hl; have HL := Lib.hid hl3; clear hl3; have H3 : Hid (RdAt w1 p s a 0) := RdAt.below (show RdAt w.drew p s a 0 from H.out.drewN 1) hb; have B3 : Hid (But p w w1) := But.trans (show But p w w.drew from (But.refl p w).drewN 1) (But.of_below hb); have k0 := H3.out.c0; have k1 := H3.out.c1; have hq3 : w1.cell? ⟨q, 0, none⟩ = some (.int .i64 m) := (hb.cell (p := ⟨q, 0, none⟩) hqlt).trans (by simpa using hq); clear hb))
    have k2 := H3.out.c2
    have g1 := H3.out.f 1
    have g2 := H3.out.f 2
    go_wp2
    go_ret
    refine ⟨⟨_, rfl, listAt_nil' _ _ _ _ HN.out.1⟩, ?_, B3.out.set _ _⟩
    rw [(HN.out).2]; exact H3.out.set2 _
end Go.Proofs.Ytkcmcgmonkeajaa
