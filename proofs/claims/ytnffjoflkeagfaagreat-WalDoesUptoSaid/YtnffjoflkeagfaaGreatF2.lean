/- strings.Builder's copyCheck and WriteString at this dump; strings.Clone. The frame at the beginning. -/
import Derived.Test.YtnffjoflkeagfaaGreatF1
import Derived.Test.YtnffjoflkeagfaaGreatShelf
import Derived.Deep.RegionWith
import Derived.Deep.RegionHeld3
namespace Go.Proofs.YtnffjoflkeagfaaGreat.Fr
open Go.RowKit

theorem info_u8 : (Tryz.prog.info? 5).map (fun i => (i.zero, i.size, i.bytes)) = some (some (.int .u8 0), 1, 1) := by kernel_rfl
theorem sizeBuilder : (Tryz.prog.info? 101).map (·.size) = some 2 := by kernel_rfl
theorem liesBuilder : liesAt Tryz.prog Tryz.prog.depth 101 (2 / Tryz.prog.cellsOf 101) 0 101 1 = true := by kernel_rfl

set_option maxHeartbeats 1000000 in
set_option maxRecDepth 100000 in
theorem copyCheck_used (b : Nat) (w : World) (h0 : w.cell? ⟨b, 0, none⟩ = some (.pointer (some ⟨b, 0, none⟩))) :
    Calls Tryz.prog 83 #[.pointer (some ⟨b, 0, none⟩)] w fun e w' => e = .returned (.tuple #[]) ∧ w' = w := by
  obtain ⟨j, hj, _⟩ := Option.map_eq_some_iff.1 sizeBuilder
  go_enter Tryz.func83, Tryz.ntmps83
  go_wp2
  rw [Lib.run_neq_ptr_same w _ Tryz.underlying99 hj]
  go_wp2
  go_end0
  exact ⟨rfl, rfl⟩
set_option maxHeartbeats 1000000 in
set_option maxRecDepth 100000 in
theorem copyCheck_fresh (b : Nat) (w : World) (h0 : w.cell? ⟨b, 0, none⟩ = some (.pointer none)) (hsh : w.shape? b = some (101, 2)) (hfz : w.frozen? ⟨b, 0, none⟩ = false) :
    Calls Tryz.prog 83 #[.pointer (some ⟨b, 0, none⟩)] w fun e w' => e = .returned (.tuple #[]) ∧ w' = w.setCell ⟨b, 0, none⟩ (.pointer (some ⟨b, 0, none⟩)) := by
  obtain ⟨j, hj, hjs⟩ := Option.map_eq_some_iff.1 sizeBuilder
  go_enter Tryz.func83, Tryz.ntmps83
  go_wp2
  rw [Lib.run_to_unsafe w ⟨b, 0, none⟩ Tryz.underlying99 Tryz.underlying127 hj (by rw [hjs]; decide) hsh (Nat.zero_lt_succ 1)]
  simp only [Result.andThen]
  rw [Oper.upon_value]
  go_wp2
  rw [run_callFunc_extern Tryz.func92 (by kernel_rfl) (by kernel_rfl) (by kernel_rfl) (e := Extern.AbiNoEscape.same) (by kernel_rfl)]
  rw [Lib.run_noEscape]
  simp only [Result.andThen]
  rw [Oper.upon_value]
  go_wp2
  rw [Lib.run_from_unsafe w ⟨b, 0, none⟩ Tryz.underlying127 Tryz.underlying99 hj hsh liesBuilder]
  simp only [Result.andThen]
  rw [Oper.upon_value]
  go_wp2
  go_end0
  exact ⟨rfl, rfl⟩
abbrev IsB (B b : Nat) (l : List UInt8) (w : World) : Prop := Lib.IsBuilder 101 5 B b (Lib.byteCells l) w
theorem copyCheck_any (B b : Nat) (cs : List Value) (w : World) (h : Lib.IsBuilder 101 5 B b cs w) :
    Calls Tryz.prog 83 #[.pointer (some ⟨b, 0, none⟩)] w fun e w' => e = .returned (.tuple #[]) ∧ (Lib.BuilderAt 101 5 B b (.pointer (some ⟨b, 0, none⟩)) cs w' ∧ Below B w w') := by
  rcases h with h | h
  · refine (copyCheck_fresh b w h.cell0 h.shape h.frozen0).mono ?_
    rintro e w' ⟨rfl, rfl⟩
    exact ⟨rfl, h.used _, (Below.refl B w).setCell (p := ⟨b, 0, none⟩) h.1 _⟩
  · refine (copyCheck_used b w h.cell0).mono ?_
    rintro e w' ⟨rfl, rfl⟩
    exact ⟨rfl, h, Below.refl B _⟩
set_option maxHeartbeats 4000000 in
set_option maxRecDepth 100000 in
theorem writeString_any (B b : Nat) (l : List UInt8) (s : ByteArray) (w : World) (h : IsB B b l w) (hlen : l.length + s.size ≤ 140737488355328) (hBw : B ≤ w.heap.size) :
    Calls Tryz.prog 65 #[.pointer (some ⟨b, 0, none⟩), .string s] w fun e w' => e = .returned (.tuple #[.int .i64 s.size, .nilIface]) ∧ (IsB B b (l ++ bs s) w' ∧ Below B w w') := by
  obtain ⟨i0, hi, hz0, hz1, hz2⟩ := info_parts info_u8
  have hbl : (Lib.byteCells l).length = l.length := by simp [Lib.byteCells]
  have HBL := Lib.hid hbl
  clear hbl
  go_enter Tryz.func65, Tryz.ntmps65
  go_wp2_with fail
  refine (copyCheck_any B b _ _ h).mono ?_
  rintro e w1 ⟨rfl, h1, hb1⟩
  obtain ⟨hB, v, hbk, hown, hne⟩ := h1
  have c0 : w1.cell? ⟨b, 0, none⟩ = some (.pointer (some ⟨b, 0, none⟩)) := by rw [Lib.cell_of_heap hbk]; rfl
  have c1 : w1.cell? ⟨b, 1, none⟩ = some v := by rw [Lib.cell_of_heap hbk]; rfl
  go_wp2_with (at_builtin; refine Lib.wpList_append_own_string _ rfl _ _ 66 9 rfl B 5 i0 Tryz.underlying66 Tryz.underlying9 hi hz0 hz1 hz2 _ _ _ rfl hown s rfl ?c3 ?c4 ?c5 ?_)
  case c3 => rw [HBL.out]; unfold maxLen; omega
  case c4 => rw [HBL.out]; omega
  case c5 => have := hb1.size; omega
  intro v' w2 hown' hgrow _
  have hlt : b < w1.heap.size := by
    rcases Nat.lt_or_ge b w1.heap.size with h' | h'
    · exact h'
    · simp [Array.getElem?_eq_none h'] at hbk
  have hb2 : w2.heap[b]? = some (.cells #[.pointer (some ⟨b, 0, none⟩), v] 101 (0, 0)) := by
    rw [hgrow.block b hlt (fun e => hne e.symm)]
    exact hbk
  have d0 : w2.cell? ⟨b, 0, none⟩ = some (.pointer (some ⟨b, 0, none⟩)) := by rw [Lib.cell_of_heap hb2]; rfl
  have d1 : w2.cell? ⟨b, 1, none⟩ = some v := by rw [Lib.cell_of_heap hb2]; rfl
  have f1 : w2.frozen? ⟨b, 1, none⟩ = false := Lib.frozen_of_heap hb2 1
  obtain ⟨ao, n', cap, rfl⟩ : ∃ ao n' cap, v' = .slice ao n' cap := by
    rcases hown'.2 with ⟨hv, _⟩ | ⟨g, cap, cur, hv, _⟩
    · exact ⟨_, _, _, hv⟩
    · exact ⟨_, _, _, hv⟩
  have HOWN := Lib.hid hown'
  have HGR := Lib.hid hgrow
  clear hown' hgrow
  go_wp2
  go_ret2
  refine ⟨rfl, ?_, ?_⟩
  · have e : Lib.byteCells (l ++ bs s) = Lib.byteCells l ++ Lib.strCells s := by simp [Lib.byteCells, Lib.strCells]
    rw [IsB, e]
    exact .inr (Lib.BuilderAt.put (T := 101) (e := 5) hB hb2 (bs' := Lib.byteCells l ++ Lib.strCells s) (by simpa [Lib.strCells_length] using HOWN.out) (by decide))
  · exact (hb1.grown HGR.out (by have := hb1.size; omega) (fun k hk => (hown.lt k hk).1)).setCell (p := ⟨b, 1, none⟩) hB _
/-- a builder, later: what was made meanwhile lies behind -/
theorem IsB.below {B b : Nat} {l : List UInt8} {w w' : World} (h : IsB B b l w) (hb : Below w.heap.size w w') : IsB B b l w' := by
  have hk : ∀ p, Lib.BuilderAt 101 5 B b p (Lib.byteCells l) w → Lib.BuilderAt 101 5 B b p (Lib.byteCells l) w' := fun p h => by
    have hlt := h.lt
    obtain ⟨hB, v, hbk, hown, hne⟩ := h
    refine ⟨hB, v, (hb.block b hlt).trans hbk, ?_, hne⟩
    exact hown.kept (row := none) ⟨hb.os, hb.tape, hb.output, hb.size, fun k hk _ => hb.block k hk⟩ (by by_cases h : v.ownBlock = none; exact .inl h; exact .inr h)
  rcases h with h | h
  · exact .inl (hk _ h)
  · exact .inr (hk _ h)
set_option maxHeartbeats 1000000 in
theorem clone_any (s : ByteArray) (w : World) (hlim : s.size ≤ 281474976710656) :
    Calls Tryz.prog 32 #[.string s] w fun e w' => e = .returned (.string s) ∧ Below w.heap.size w w' := by
  go_enter Tryz.func32, Tryz.ntmps32
  go_wp2_with fail
  refine (Tryz.stringslite_Clone s _ hlim).mono ?_
  rintro e w1 ⟨rfl, h⟩
  go_wp2
  go_ret
  exact ⟨rfl, h⟩
end Go.Proofs.YtnffjoflkeagfaaGreat.Fr
namespace Go.Proofs.YtnffjoflkeagfaaGreat.Fr
open Go.RowKit

theorem bs_extract (s : ByteArray) (a e : Nat) : bs (s.extract a e) = ((bs s).drop a).take (e - a) := Lib.extract_data s a e
theorem bs_from (s : ByteArray) (a : Nat) : bs (s.extract a s.size) = (bs s).drop a := by
  rw [bs_extract, List.take_of_length_le]
  rw [List.length_drop, ← Lib.size_eq]
  exact Nat.le_refl _
theorem size_from (s : ByteArray) (a : Nat) : (s.extract a s.size).size = s.size - a := by
  rw [Lib.size_eq]
  show (bs (s.extract a s.size)).length = _
  rw [bs_from, List.length_drop, ← Lib.size_eq]
theorem bs_size (s : ByteArray) : (bs s).length = s.size := (Lib.size_eq s).symm
/-- bytes as a text -/
def mk (l : List UInt8) : ByteArray := ⟨l.toArray⟩
theorem bs_mk (l : List UInt8) : bs (mk l) = l := rfl
theorem mk_bs (s : ByteArray) : mk (bs s) = s := by apply ByteArray.ext; simp [mk]
theorem mk_size (l : List UInt8) : (mk l).size = l.length := by rw [Lib.size_eq]; rfl
theorem ba_ext {a b : ByteArray} (h : bs a = bs b) : a = b := by rw [← mk_bs a, ← mk_bs b, h]
/-- what was framed, as a text; nothing, if it is no frame -/
def fS (l : List UInt8) : ByteArray := if fE l = 0 then mk (fB l) else ⟨#[]⟩
theorem ret2s {c c' : Int} {z : IntKind} {v v' : Value} (h1 : v = v') (h3 : c = c') : Ending.returned (.tuple #[v, .int z c]) = .returned (.tuple #[v', .int z c']) := by rw [h1, h3]

set_option maxHeartbeats 4000000 in
set_option maxRecDepth 100000 in
theorem unframe_any (p : Nat) (s : ByteArray) (w : World) (ht : Tab p w) (hs : s.size ≤ 1099511627776) :
    Calls Tryz.prog 58 #[.pointer (some ⟨p, 0, none⟩), .string s] w fun e w' => e = .returned (.tuple #[.string (fS (bs s)), .int .i64 (fE (bs s))]) ∧ Below w.heap.size w w' := by
  have hl := bs_size s
  by_cases h8 : s.size < 8
  · have h8i : (s.size : Int) < 8 := by omega
    have hE := Lib.hid (fE_short (l := bs s) (by omega))
    clear hl
    go_enter Tryz.func58, Tryz.ntmps58
    go_wp2
    go_ret2
    exact ⟨ret2s (by unfold fS; rw [if_neg (by rw [hE.out]; decide)]; rfl) (by rw [hE.out]), Below.refl _ _⟩
  have h8i : ¬ (s.size : Int) < 8 := by omega
  have hnum := fun w' => number_any s w' (by omega) (by omega)
  have hn32 := num4_lt (bs s)
  by_cases hbig : 65536 < num4 (bs s)
  · have hE := Lib.hid (fE_long (l := bs s) (by omega) hbig)
    have hbi : (65536 : Int) < (num4 (bs s) : Nat) := by omega
    clear hl
    generalize num4 (bs s) = n at *
    go_enter Tryz.func58, Tryz.ntmps58
    go_wp2_with fail
    refine (hnum _).mono ?_
    rintro e w1 ⟨rfl, rfl⟩
    go_wp2
    go_ret2
    exact ⟨ret2s (by unfold fS; rw [if_neg (by rw [hE.out]; decide)]; rfl) (by rw [hE.out]), Below.refl _ _⟩
  have hbi : ¬ (65536 : Int) < (num4 (bs s) : Nat) := by omega
  by_cases hless : s.size - 8 < num4 (bs s)
  · have hE := Lib.hid (fE_less (l := bs s) (by omega) hbig (by omega))
    have hli : (s.size : Int) - 8 < (num4 (bs s) : Nat) := by omega
    clear hl hbig hless
    generalize num4 (bs s) = n at *
    go_enter Tryz.func58, Tryz.ntmps58
    go_wp2_with fail
    refine (hnum _).mono ?_
    rintro e w1 ⟨rfl, rfl⟩
    go_wp2
    go_ret2
    exact ⟨ret2s (by unfold fS; rw [if_neg (by rw [hE.out]; decide)]; rfl) (by rw [hE.out]), Below.refl _ _⟩
  have hli : ¬ (s.size : Int) - 8 < (num4 (bs s) : Nat) := by omega
  have hfB : bs (s.extract 8 (8 + num4 (bs s))) = fB (bs s) := by
    rw [bs_extract]; unfold fB; congr 1; omega
  have hh4 : bs (s.extract 0 4) = (bs s).take 4 := by rw [bs_extract]; rfl
  have hd4 : bs (s.extract 4 s.size) = (bs s).drop 4 := bs_from s 4
  have hz4 : (s.extract 4 s.size).size = s.size - 4 := size_from s 4
  have hsumv : catL [s.extract 0 4, s.extract 8 (8 + num4 (bs s))] = (bs s).take 4 ++ fB (bs s) := by rw [catL_two, hh4, hfB]
  have hnum2 := fun w' => number_any (s.extract 4 s.size) w' (by omega) (by omega)
  rw [hd4] at hnum2
  have hcp : s.extract 8 (8 + num4 (bs s)) = mk (fB (bs s)) := ba_ext (by rw [hfB]; rfl)
  have HSV := Lib.hid hsumv
  have HCP := Lib.hid hcp
  have hn32b := num4_lt ((bs s).drop 4)
  have hs32 := sumL_lt ((bs s).take 4 ++ fB (bs s))
  have hlB : (fB (bs s)).length ≤ 1099511627776 := by
    have : (fB (bs s)).length ≤ (bs s).length := by unfold fB; rw [List.length_take, List.length_drop]; omega
    omega
  by_cases hsum : sumL ((bs s).take 4 ++ fB (bs s)) = num4 ((bs s).drop 4)
  · have hE := Lib.hid (fE_ok (l := bs s) (by omega) hbig (by omega) hsum)
    have hni : (((sumL ((bs s).take 4 ++ fB (bs s)) : Nat) : Int) != ((num4 ((bs s).drop 4) : Nat) : Int)) = false := by rw [hsum]; simp
    clear hl hbig hless hsum hsumv hcp hfB hh4 hd4 hz4
    generalize num4 (bs s) = n at *
    generalize num4 ((bs s).drop 4) = n4 at *
    have hL := list_two w (s.extract 0 4) (s.extract 8 (8 + n)) 9
    have hT := ht.below ((Below.refl _ w).alloc (Nat.le_refl _) (.cells #[.string (s.extract 0 4), .string (s.extract 8 (8 + n))] 9)) ht.1
    have hsz : ∀ c ∈ [s.extract 0 4, s.extract 8 (8 + n)], c.size ≤ 9223372036854775807 := fun c hc => by
      have : c.size ≤ s.size := by
        simp only [List.mem_cons, List.not_mem_nil, or_false] at hc
        rcases hc with rfl | rfl <;> (rw [ByteArray.size_extract]; omega)
      omega
    have HSZ := Lib.hid hsz
    have HL := Lib.hid hL
    have HT := Lib.hid hT
    clear hsz hL hT
    go_enter Tryz.func58, Tryz.ntmps58
    go_wp2_with fail
    refine (hnum _).mono ?_
    rintro e w1 ⟨rfl, rfl⟩
    go_wp2
    go_region_with (first
      | (go_at_call 82; refine (hnum2 _).mono ?_; rintro e w' ⟨rfl, rfl⟩)
      | (go_at_call 66; refine (sum_any p _ [s.extract 0 4, s.extract 8 (8 + n)] _ ?_ ?_ (by simp) HSZ.out).mono ?_; exact HT.out; exact HL.out; rw [HSV.out]; rintro e w' ⟨rfl, q, rfl⟩))
    all_goals
      go_wp2_with fail
      refine (clone_any _ _ (by rw [HCP.out, mk_size]; omega)).mono ?_
      rintro e w2 ⟨rfl, b2⟩
      go_wp2
      go_ret2
      refine ⟨ret2s (by unfold fS; rw [if_pos hE.out, ← HCP.out]; rfl) (by rw [hE.out]), ?_⟩
      exact bw (below_drewN ((Below.refl _ _).alloc (Nat.le_refl _) _) _) b2
  · have hE := Lib.hid (fE_sum (l := bs s) (by omega) hbig (by omega) hsum)
    have hni : (((sumL ((bs s).take 4 ++ fB (bs s)) : Nat) : Int) != ((num4 ((bs s).drop 4) : Nat) : Int)) = true := by rw [bne_iff_ne]; omega
    clear hl hbig hless hsum hsumv hcp hfB hh4 hd4 hz4
    generalize num4 (bs s) = n at *
    generalize num4 ((bs s).drop 4) = n4 at *
    have hL := list_two w (s.extract 0 4) (s.extract 8 (8 + n)) 9
    have hT := ht.below ((Below.refl _ w).alloc (Nat.le_refl _) (.cells #[.string (s.extract 0 4), .string (s.extract 8 (8 + n))] 9)) ht.1
    have hsz : ∀ c ∈ [s.extract 0 4, s.extract 8 (8 + n)], c.size ≤ 9223372036854775807 := fun c hc => by
      have : c.size ≤ s.size := by
        simp only [List.mem_cons, List.not_mem_nil, or_false] at hc
        rcases hc with rfl | rfl <;> (rw [ByteArray.size_extract]; omega)
      omega
    have HSZ := Lib.hid hsz
    have HL := Lib.hid hL
    have HT := Lib.hid hT
    clear hsz hL hT
    go_enter Tryz.func58, Tryz.ntmps58
    go_wp2_with fail
    refine (hnum _).mono ?_
    rintro e w1 ⟨rfl, rfl⟩
    go_wp2
    go_region_with (first
      | (go_at_call 82; refine (hnum2 _).mono ?_; rintro e w' ⟨rfl, rfl⟩)
      | (go_at_call 66; refine (sum_any p _ [s.extract 0 4, s.extract 8 (8 + n)] _ ?_ ?_ (by simp) HSZ.out).mono ?_; exact HT.out; exact HL.out; rw [HSV.out]; rintro e w' ⟨rfl, q, rfl⟩))
    all_goals
      go_wp2
      go_ret2
      refine ⟨ret2s (by unfold fS; rw [if_neg (by rw [hE.out]; decide)]; rfl) (by rw [hE.out]), ?_⟩
      exact below_drewN ((Below.refl _ _).alloc (Nat.le_refl _) _) _
end Go.Proofs.YtnffjoflkeagfaaGreat.Fr
