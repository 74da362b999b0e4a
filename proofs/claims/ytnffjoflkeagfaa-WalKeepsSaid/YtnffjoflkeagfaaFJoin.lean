/- Join, Frame. -/
import Derived.Test.YtnffjoflkeagfaaFScan
namespace Go.Proofs.Ytnffjoflkeagfaa.Fr
open Go.RowKit

/-- the frames of texts, one behind the other -/
def joinB (l : List ByteArray) : List UInt8 := joinL (l.map bs)
theorem joinB_snoc (l : List ByteArray) (k : Nat) (x : ByteArray) (h : l[k]? = some x) : joinB (l.take (k + 1)) = joinB (l.take k) ++ frameL (bs x) := by
  unfold joinB joinL
  rw [take_snocA l k x h, List.map_append, List.flatMap_append]; simp
theorem joinB_step (l : List ByteArray) (k : Nat) (x : ByteArray) (h : l[k]? = some x) : (joinB (l.take (k + 1))).length = (joinB (l.take k)).length + (8 + x.size) := by
  rw [joinB_snoc l k x h, List.length_append, frameL_length, bs_size]
theorem all_take {l : List ByteArray} {k : Nat} {x : ByteArray} {p : ByteArray → Prop} (h : ∀ c ∈ l.take k, p c) (hx : l[k]? = some x) (hp : p x) : ∀ c ∈ l.take (k + 1), p c := by
  rw [take_snocA l k x hx]
  intro c hc
  rw [List.mem_append] at hc
  rcases hc with hc | hc
  · exact h c hc
  · rw [List.mem_singleton.1 hc]; exact hp
theorem joinB_le : ∀ (l : List ByteArray), (∀ c ∈ l, c.size ≤ 65536) → (joinB l).length ≤ 65544 * l.length
  | [], _ => by simp [joinB, joinL]
  | x :: l, h => by
    have ih := joinB_le l (fun c hc => h c (by simp [hc]))
    have hx := h x (by simp)
    have e : joinB (x :: l) = frameL (bs x) ++ joinB l := by simp [joinB, joinL]
    rw [e, List.length_append, frameL_length, bs_size, List.length_cons]; omega
theorem joinB_take (l : List ByteArray) (k : Nat) : (joinB (l.take k)).length ≤ (joinB l).length := by
  have e : joinB l = joinB (l.take k) ++ joinB (l.drop k) := by
    unfold joinB joinL; rw [← List.flatMap_append, ← List.map_append, List.take_append_drop]
  rw [e, List.length_append]; omega
theorem ret2sE {v v' : Value} (h : v = v') (c : Int) (z : IntKind) : Ending.returned (.tuple #[v, .int z c]) = .returned (.tuple #[v', .int z c]) := by rw [h]

set_option maxHeartbeats 4000000 in
set_option maxRecDepth 100000 in
theorem Join_long (v : Value) (l : List ByteArray) (w : World) (hl : ListAt w v l.length (cellsOf strC l)) (hn : l.length ≤ 1048576) (hs : ∀ c ∈ l, c.size ≤ 9223372036854775807) (hall : ¬ ∀ c ∈ l, c.size ≤ 65536) :
    Calls Try.prog 51 #[v] w fun e w' => e = .returned (.tuple #[.string ⟨#[]⟩, .int .i64 31]) ∧ w = w' := by
  obtain ⟨_, aa, cap, rfl, _, hc⟩ := hl
  have HC := Lib.hid hc
  have HA := Lib.hid hall
  clear hc hall
  go_enter Try.func51, Try.ntmps51
  go_wp2
  go_loop [4, 14] (fun n i => ∃ (k X : Nat), k ≤ l.length ∧ i = .int .i64 k ∧ n = .int .i64 X ∧ X ≤ 65544 * k ∧ Hid (∀ c ∈ l.take k, c.size ≤ 65536)) (fun _ i => l.length - (intOf i).toNat)
  case atStart => exact ⟨0, 0, by omega, rfl, rfl, by omega, fun c hc => by simp at hc⟩
  case round =>
    obtain ⟨k, X, hk, rfl, rfl, hX, hT⟩ := hrel
    by_cases hlt : k < l.length
    · obtain ⟨x, hx⟩ : ∃ x, l[k]? = some x := ⟨l[k], List.getElem?_eq_getElem hlt⟩
      obtain ⟨ba, offa, rfl, hba, hca⟩ := HC.out.resolve_left (by omega)
      have c1 := ListAt.get hca hx
      have hxs := hs x (List.mem_of_getElem? hx)
      have HX := Lib.hid hx
      clear hca hx
      by_cases hb : 65536 < x.size
      · have hbi : (65536 : Int) < (x.size : Int) := by omega
        go_wp2
        go_ret2
        exact ⟨rfl, rfl⟩
      · have hbi : ¬ (65536 : Int) < (x.size : Int) := by omega
        have HT := Lib.hid (all_take hT HX.out (p := fun c => c.size ≤ 65536) (by omega))
        go_wp2
        go_round
        case rel => exact ⟨k + 1, X + (8 + x.size), by omega, by go_num, by go_num, by omega, HT.out⟩
        case measure => simp [intOf]; omega
    · exfalso
      rw [List.take_of_length_le (by omega)] at hT
      exact HA.out hT
set_option maxHeartbeats 8000000 in
set_option maxRecDepth 100000 in
theorem Join_any (v : Value) (l : List ByteArray) (w : World) (hl : ListAt w v l.length (cellsOf strC l)) (hn : l.length ≤ 1048576) (hall : ∀ c ∈ l, c.size ≤ 65536) :
    Calls Try.prog 51 #[v] w fun e w' => e = .returned (.tuple #[.string (mk (joinB l)), .int .i64 0]) ∧ Below w.heap.size w w' := by
  have hz := tabZero
  have HL := Lib.hid hl
  obtain ⟨_, aa, cap, rfl, _, _⟩ := hl
  have hjl := joinB_le l hall
  have HA := Lib.hid hall
  clear hall
  go_enter Try.func51, Try.ntmps51
  go_wp2
  go_loop [4, 14] (fun n i => ∃ (k X : Nat), k ≤ l.length ∧ i = .int .i64 k ∧ n = .int .i64 X ∧ X ≤ 65544 * k ∧ Hid (X = (joinB (l.take k)).length)) (fun _ i => l.length - (intOf i).toNat)
  case atStart => exact ⟨0, 0, by omega, rfl, rfl, by omega, rfl⟩
  case round =>
    obtain ⟨k, X, hk, rfl, rfl, hX, hT⟩ := hrel
    by_cases hlt : k < l.length
    · obtain ⟨x, hx⟩ : ∃ x, l[k]? = some x := ⟨l[k], List.getElem?_eq_getElem hlt⟩
      obtain ⟨_, _, _, he, _, hc⟩ := HL.out
      simp only [Value.slice.injEq] at he
      obtain ⟨rfl, _, rfl⟩ := he
      obtain ⟨ba, offa, rfl, hba, hca⟩ := hc.resolve_left (by omega)
      have c1 := ListAt.get hca hx
      have hxs := HA.out x (List.mem_of_getElem? hx)
      have HX := Lib.hid (joinB_step l k x hx)
      clear hca hx hc
      have hbi : ¬ (65536 : Int) < (x.size : Int) := by omega
      go_wp2
      go_round
      case rel => exact ⟨k + 1, X + (8 + x.size), by omega, by go_num, by go_num, by omega, by show _ = _; rw [HX.out, hT]⟩
      case measure => simp [intOf]; omega
    · have hXl : X ≤ 281474976710656 := by omega
      clear hT
      go_wp2_with fail
      refine (makeTable_any _).mono ?_
      rintro e w1 ⟨rfl, b1⟩
      have hT := Lib.hid (Tab.new w1)
      have hb1 := b1.size
      go_wp2_with (refine wpList_store_new rfl 102 (.tmp 7) (.tmp 27) rfl (tabC 0) (tabC 256) 102 rfl rfl tabInfo tabOld (tabC_one _) ?_)
      have hbk := heap_alloc2_new w1 (.cells (tabC 256) 102) (.cells #[.pointer none, .slice none 0 0] 106)
      refine (Try.Builder_Grow_fresh (w1.heap.size + 1) (w1.heap.size + 1) X _ (Nat.le_refl _) hbk (by simp) hXl).mono ?_
      rintro e w2 ⟨rfl, hbu, b2⟩
      have b2' := ((Below.refl (w1.heap.size + 1) (w1.alloc (.cells (tabC 256) 102))).alloc (by simp) _).trans b2
      have hT2 := Lib.hid (hT.out.below b2' (by omega))
      have hL1 := HL.out.below b1
      have hL2 := Lib.hid (hL1.below ((((Below.refl _ _).alloc (Nat.le_refl _) _).alloc (by simp) _).trans (b2.mono (by omega))))
      have bw2 := (b1.alloc b1.size (.cells (tabC 256) 102)).trans (b2'.mono (by omega))
      have hs2 := b2'.size
      rw [size_alloc1] at hs2
      have hbu2 : IsB (w1.heap.size + 1) (w1.heap.size + 1) [] w2 := .inr hbu
      have HBU := Lib.hid hbu2
      have hTp := hT2.out.1
      clear hbk hbu hbu2 b2 b2' hL1 hT
      go_wp2
      go_loopw [32] (fun i wr => ∃ (k : Nat), k ≤ l.length ∧ i = .int .i64 k ∧ Hid (IsB (w1.heap.size + 1) (w1.heap.size + 1) (joinB (l.take k)) wr) ∧ Below (w1.heap.size + 1) w2 wr) (fun i _ => l.length - (intOf i).toNat)
      case atStart => exact ⟨0, by omega, rfl, HBU.out, Below.refl _ _⟩
      case round =>
        obtain ⟨j, hj, rfl, HB, hbel⟩ := hrel
        have hsr := hbel.size
        by_cases hlt2 : j < l.length
        · obtain ⟨x, hx⟩ : ∃ x, l[j]? = some x := ⟨l[j], List.getElem?_eq_getElem hlt2⟩
          obtain ⟨_, _, _, he, _, hc⟩ := HL.out
          simp only [Value.slice.injEq] at he
          obtain ⟨rfl, _, rfl⟩ := he
          obtain ⟨ba, offa, rfl, hba, hca⟩ := hc.resolve_left (by omega)
          have c0 := ListAt.get hca hx
          have hbz : ba < w1.heap.size := Nat.lt_of_lt_of_le hba hb1
          have c1 : wr.cell? ⟨ba, offa + j, none⟩ = some (strC x) :=
            (hbel.cell (p := ⟨ba, offa + j, none⟩) (by show ba < _; omega)).trans ((bw2.cell (p := ⟨ba, offa + j, none⟩) hba).trans c0)
          have hxs := HA.out x (List.mem_of_getElem? hx)
          have HX := Lib.hid (joinB_snoc l j x hx)
          have hst := joinB_step l j x hx
          have hle2 := joinB_take l (j + 1)
          clear hca hx hc c0
          obtain ⟨J1, hJ1⟩ : ∃ J, joinB (l.take (j + 1)) = J := ⟨_, rfl⟩
          rw [hJ1] at hst hle2 HX
          have HJ1 := Lib.hid hJ1
          clear hJ1
          generalize joinB (l.take j) = J0 at *
          have hJ0l : J0.length + 8 + x.size ≤ 140737488355328 := by omega
          have hn32 : x.size < 4294967296 := by omega
          go_wp2_with fail
          refine (fourBytes_any x.size _).mono ?_
          rintro e w3 ⟨rfl, b3⟩
          have h3 := hbel.trans (b3.mono (by omega))
          have B3 := Lib.hid (HB.out.below b3)
          have s3 := h3.size
          clear b3 hbel c1
          go_wp2_with fail
          refine (writeString_any _ _ J0 (mk (four x.size)) _ B3.out (by rw [mk_size, four_length]; omega) (by omega)).mono ?_
          rintro e w4 ⟨rfl, B4, b4⟩
          rw [bs_mk] at B4
          have B4 := Lib.hid B4
          have h4 := h3.trans b4
          have s4 := h4.size
          have hL := list_two w4 (mk (four x.size)) x 9
          have hT4 := (hT2.out.below h4 (by omega)).below ((Below.refl _ w4).alloc (Nat.le_refl _) (.cells #[.string (mk (four x.size)), .string x] 9)) (by omega)
          have HL4 := Lib.hid hL
          have HT4 := Lib.hid hT4
          clear h3 b4 hL hT4 s3 B3
          go_wp2_with fail
          refine (sum_any w1.heap.size _ [mk (four x.size), x] _ HT4.out HL4.out (by simp) (fun c hc => by
            simp only [List.mem_cons, List.not_mem_nil, or_false] at hc
            rcases hc with rfl | rfl
            · rw [mk_size, four_length]; omega
            · omega)).mono ?_
          rw [catL_two, bs_mk]
          rintro e w5 ⟨rfl, q, rfl⟩
          have b5 := below_drewN ((Below.refl w4.heap.size w4).alloc (Nat.le_refl _) (.cells #[.string (mk (four x.size)), .string x] 9)) q
          have h5 := h4.trans (b5.mono (by omega))
          have B5 := Lib.hid (B4.out.below b5)
          have s5 := h5.size
          have hsl := sumL_lt (four x.size ++ bs x)
          generalize (w4.alloc (.cells #[.string (mk (four x.size)), .string x] 9)).drewN q = w5 at *
          have HX2 : Hid (J1 = ((J0 ++ four x.size) ++ four (sumL (four x.size ++ bs x))) ++ bs x) := by
            show _ = _
            rw [HX.out]; unfold frameL; rw [bs_size]; simp
          generalize sumL (four x.size ++ bs x) = S at *
          clear h4 b5 HL4 HT4 s4 B4
          go_wp2_with fail
          refine (fourBytes_any S _).mono ?_
          rintro e w6 ⟨rfl, b6⟩
          have h6 := h5.trans (b6.mono (by omega))
          have B6 := Lib.hid (B5.out.below b6)
          have s6 := h6.size
          clear b6 h5 s5 B5
          go_wp2_with fail
          refine (writeString_any _ _ _ (mk (four S)) _ B6.out (by rw [mk_size, four_length, List.length_append, four_length]; omega) (by omega)).mono ?_
          rintro e w7 ⟨rfl, B7, b7⟩
          have B7 := Lib.hid B7
          have h7 := h6.trans b7
          have s7 := h7.size
          clear b7 h6 s6 B6
          go_wp2_with fail
          refine (writeString_any _ _ _ x _ B7.out (by rw [bs_mk, List.length_append, List.length_append, four_length, four_length]; omega) (by omega)).mono ?_
          rintro e w8 ⟨rfl, B8, b8⟩
          have B8 := Lib.hid B8
          have h8 := h7.trans b8
          clear b8 h7 s7 B7
          go_wp2
          go_roundw
          case rel => exact ⟨j + 1, by omega, by go_num, by rw [HJ1.out, HX2.out]; exact B8.out, h8⟩
          case measure => simp [intOf]; omega
        · have HJ := Lib.hid (show l.take j = l from List.take_of_length_le (by omega))
          rw [HJ.out] at HB
          go_wp2_with fail
          refine (Try.Builder_String_any _ _ _ _ HB.out (by omega)).mono ?_
          rintro e w3 ⟨rfl, b3⟩
          go_wp2
          go_ret2
          exact ⟨ret2sE rfl _ _, bw2.trans ((hbel.trans b3).mono (by omega))⟩
end Go.Proofs.Ytnffjoflkeagfaa.Fr
