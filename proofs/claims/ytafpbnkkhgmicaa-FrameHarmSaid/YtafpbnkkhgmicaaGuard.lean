/- What the laws ask of a list's length, first. -/
import Derived.Test.YtafpbnkkhgmicaaWorks
import Derived.Laws.MakeOwn
namespace Go.Proofs.Ytafpbnkkhgmicaa
open Go.RowKit

def gN (n : Nat) (x : ByteArray) : Nat := min n 4096 + min x.size 4097 + 8
/-- how much the first ones are, as the laws reckon it -/
def guardN (l : List ByteArray) : Nat := l.foldl gN 0
theorem guardN_snoc (l : List ByteArray) (k : Nat) (x : ByteArray) (h : l[k]? = some x) : guardN (l.take (k + 1)) = min (guardN (l.take k)) 4096 + min x.size 4097 + 8 := by
  unfold guardN
  rw [take_snocA l k x h, List.foldl_append]; rfl
theorem guard_from : ∀ (l : List ByteArray) (n : Nat), l.foldl gN n ≤ 4096 → n + (joinB l).length ≤ 4096
  | [], n, h => by simpa [joinB, joinL] using h
  | x :: l, n, h => by
    have ih := guard_from l (gN n x) h
    have e : joinB (x :: l) = frameL (bs x) ++ joinB l := by simp [joinB, joinL]
    rw [e, List.length_append, frameL_length, bs_size]
    unfold gN at ih
    omega
theorem guard_small (l : List ByteArray) (h : guardN l ≤ 4096) : (joinB l).length ≤ 4096 := by
  have := guard_from l 0 h; omega
theorem guardN_le (l : List ByteArray) : guardN l ≤ 8201 := by
  unfold guardN
  rcases List.eq_nil_or_concat l with rfl | ⟨r, x, rfl⟩
  · simp
  · rw [List.concat_eq_append, List.foldl_append]
    show gN _ x ≤ _
    unfold gN; omega
theorem joinB_cons (x : ByteArray) (l : List ByteArray) : joinB (x :: l) = frameL (bs x) ++ joinB l := by simp [joinB, joinL]
theorem joinB_each : ∀ (l : List ByteArray), 8 * l.length ≤ (joinB l).length ∧ ∀ c ∈ l, c.size + 8 ≤ (joinB l).length
  | [] => by simp
  | x :: l => by
    obtain ⟨h1, h2⟩ := joinB_each l
    rw [joinB_cons, List.length_append, frameL_length, bs_size]
    refine ⟨by rw [List.length_cons]; omega, fun c hc => ?_⟩
    rcases List.mem_cons.1 hc with rfl | hc
    · omega
    · have := h2 c hc; omega
theorem emptyL {s : ByteArray} (h : s = ⟨#[]⟩) : s.toList = [] := by rw [h, Lib.toList_data]
theorem emptyB {s : ByteArray} (h : s = ⟨#[]⟩) : s.toList.isEmpty = true := by rw [emptyL h]; rfl
theorem bool_true {b : Bool} (h : b = true) : Ending.returned (.bool b) = .returned (.bool true) := by rw [h]
/-- so many zeros: made, and a text -/
theorem zeros_any (K : Nat) (hK : K ≤ 1048576) : ∃ (Z : ByteArray) (C : Array Value), Z.size = K ∧
    (∀ w : World, (Instr.makeSlice 37 (.int .i64 (K : Int)) (.int .i64 (K : Int))).run Try.prog w = .ok (.slice (some ⟨w.heap.size, 0, none⟩) K K) (w.alloc (.cells C 5))) ∧
    (∀ w : World, (convert 37 9 (.slice (some ⟨w.heap.size, 0, none⟩) K K)).run Try.prog (w.alloc (.cells C 5)) = .ok (.string Z) (w.alloc (.cells C 5))) := by
  obtain ⟨i0, hi, hz0, hz1, hz2⟩ := info_parts info_u8
  refine ⟨mk (List.replicate K 0), madeCells #[.int .u8 0] (K * 1), by rw [mk_size, List.length_replicate], fun w => ?_, fun w => ?_⟩
  · have h := run_make (P := Try.prog) w 37 5 i0 (.int .u8 0) Try.underlying37 hi hz0 .i64 .i64 (K : Int) (K : Int) (by omega) (by omega) (by rw [hz2]; omega) (by omega)
    rw [Int.toNat_natCast, hz1] at h
    exact h
  · have h := run_convert_bytes_back (P := Try.prog) (w.alloc (.cells (madeCells #[.int .u8 0] (K * 1)) 5)) 37 9 5 ⟨w.heap.size, 0, none⟩ K (List.replicate K 0) Try.underlying37 Try.underlying5 Try.underlying9 (fun j hj => by
      rw [add_zero_off, World.cell?_alloc_new]
      have hj2 : j < K := by simpa using hj
      have hsz := size_madeCells #[Value.int .u8 0] (K * 1)
      rw [Array.getElem?_eq_getElem (by omega)]
      simp [madeCells, Nat.mod_one])
    rw [List.length_replicate] at h
    exact h
theorem frame_zl (Z : ByteArray) (h : 65536 < Z.size) (h2 : Z.size ≤ 9223372036854775807) : ∃ (Y : ByteArray) (E : Int), (∀ w, Calls Try.prog 19 #[.string Z] w fun e w' => e = .returned (.tuple #[.string Y, .int .i64 E]) ∧ Below w.heap.size w w') ∧ E = 31 ∧ Y = ⟨#[]⟩ :=
  ⟨_, _, fun w => Frame_long Z w h h2, rfl, rfl⟩
theorem frame_zs (Z : ByteArray) (h : Z.size ≤ 65536) : ∃ (Y : ByteArray) (E : Int), (∀ w, Calls Try.prog 19 #[.string Z] w fun e w' => e = .returned (.tuple #[.string Y, .int .i64 E]) ∧ Below w.heap.size w w') ∧ E = 0 ∧ Y.size = Z.size + 8 :=
  ⟨_, _, fun w => Frame_any Z w h, rfl, by rw [mk_size, frameL_length, bs_size]; omega⟩
end Go.Proofs.Ytafpbnkkhgmicaa
