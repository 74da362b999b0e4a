/- The document's own: Has, reach, Commit, add, Set, Union, Inter, Minus, First; SameInts. -/
import Derived.Test.YtcgoggkaiiljmaaConcat
import Derived.Test.YtcgoggkaiiljmaaFirst
namespace Go.Proofs.Ytcgoggkaiiljmaa
open Go.RowKit Go.Maps

set_option maxHeartbeats 2000000 in
theorem RefHas_any {w : World} {v : Value} {l : List Int} (x : Int) (h : IA w v l) (hl : l.length ≤ 1048576) :
    Calls Try.prog 26 #[v, .int .i64 x] w fun e w' => e = .returned (.bool (l.contains x)) ∧ w = w' := by
  obtain ⟨a, c, rfl, hac⟩ := h.slice
  have H := Lib.hid h
  clear h
  go_enter Try.func26, Try.ntmps26
  go_wp2
  go_loopw [5] (fun i wr => ∃ k : Nat, k ≤ l.length ∧ i = .int .i64 k ∧ Hid (x ∉ l.take k) ∧ w = wr) (fun i _ => l.length - (intOf i).toNat)
  case atStart => exact ⟨0, by omega, rfl, (show x ∉ l.take 0 by simp), rfl⟩
  case round =>
    obtain ⟨k, hk, rfl, HX, rfl⟩ := hrel
    by_cases hlt : k < l.length
    · obtain ⟨b, off, rfl, hb, hc⟩ := H.out.get hlt
      have hts := take_snocI l k hlt
      have hmem := getD_mem hlt
      generalize l.getD k 0 = y at *
      by_cases hxy : y = x
      · subst hxy
        have HE : Hid (l.contains y = true) := List.contains_iff_mem.2 hmem
        clear hmem hts
        go_wp2
        go_ret
        exact ⟨ret_bool HE.out.symm, rfl⟩
      · have HX2 : Hid (x ∉ l.take (k + 1)) := by
          show x ∉ _
          rw [hts, List.mem_append]
          rintro (h | h)
          · exact HX.out h
          · exact hxy (List.mem_singleton.1 h).symm
        have hxyi : (y == x) = false := by simpa using hxy
        clear hmem hts hxy
        go_wp2
        go_roundw
        case rel => exact ⟨k + 1, by omega, by go_num, HX2, trivial⟩
        case measure => simp [intOf]; omega
    · obtain rfl : k = l.length := by omega
      have HE : Hid (l.contains x = false) := by
        show _ = _
        rw [Bool.eq_false_iff]
        intro hc
        exact HX.out (by rw [List.take_length]; exact List.contains_iff_mem.1 hc)
      clear HX
      go_wp2
      go_ret
      exact ⟨ret_bool HE.out.symm, rfl⟩
theorem reach_snoc (l : List Int) (y x : Int) : reachS (l ++ [y]) x = reachS l x + if x ≤ y then 1 else 0 := by
  unfold reachS; rw [List.countP_append, List.countP_singleton]; simp
set_option maxHeartbeats 2000000 in
theorem reach_any {w : World} {v : Value} {l : List Int} (x : Int) (h : IA w v l) (hl : l.length ≤ 1048576) :
    Calls Try.prog 30 #[v, .int .i64 x] w fun e w' => e = .returned (.int .i64 ((reachS l x : Nat) : Int)) ∧ w = w' := by
  obtain ⟨a, c, rfl, hac⟩ := h.slice
  have H := Lib.hid h
  clear h
  go_enter Try.func30, Try.ntmps30
  go_wp2
  go_loopw [5, 6] (fun n i wr => ∃ k q : Nat, k ≤ l.length ∧ q ≤ k ∧ i = .int .i64 k ∧ n = .int .i64 q ∧ Hid (reachS (l.take k) x = q) ∧ w = wr) (fun _ i _ => l.length - (intOf i).toNat)
  case atStart => exact ⟨0, 0, by omega, by omega, rfl, rfl, rfl, rfl⟩
  case round =>
    obtain ⟨k, q, hk, hq, rfl, rfl, HX, rfl⟩ := hrel
    by_cases hlt : k < l.length
    · obtain ⟨b, off, rfl, hb, hc⟩ := H.out.get hlt
      have hts := take_snocI l k hlt
      have hrs := reach_snoc (l.take k) (l.getD k 0) x
      rw [← hts, HX.out] at hrs
      generalize l.getD k 0 = y at *
      by_cases hxy : x ≤ y
      · rw [if_pos hxy] at hrs
        have HX2 := Lib.hid hrs
        clear hrs hts
        go_wp2
        go_roundw
        case rel => exact ⟨k + 1, q + 1, by omega, by omega, by go_num, by go_num, HX2, trivial⟩
        case measure => simp [intOf]; omega
      · rw [if_neg hxy] at hrs
        have HX2 := Lib.hid hrs
        clear hrs hts
        go_wp2
        go_roundw
        case rel => exact ⟨k + 1, q, by omega, by omega, by go_num, rfl, HX2, trivial⟩
        case measure => simp [intOf]; omega
    · obtain rfl : k = l.length := by omega
      rw [List.take_length] at HX
      go_wp2
      go_ret
      exact ⟨ret_int (by rw [HX.out]), rfl⟩
end Go.Proofs.Ytcgoggkaiiljmaa
