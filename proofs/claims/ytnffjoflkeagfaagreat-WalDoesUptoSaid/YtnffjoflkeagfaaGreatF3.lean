/- Unframe, Scan. Join, Frame. SameTexts. A list's first ones and the others, as slices; what is joined and scanned. -/
import Derived.Test.YtnffjoflkeagfaaGreatF2
namespace Go.Proofs.YtnffjoflkeagfaaGreat.Fr
open Go.RowKit

theorem own_below {B : Nat} {e : TypeId} {v : Value} {n : Nat} {xs : List Value} {w w' : World} (h : w.ownsRow B e 1 v n xs) (hb : Below w.heap.size w w') : w'.ownsRow B e 1 v n xs :=
  h.kept (row := none) ⟨hb.os, hb.tape, hb.output, hb.size, fun k hk _ => hb.block k hk⟩ (by by_cases h : v.ownBlock = none; exact .inl h; exact .inr h)
theorem ownsRow_mono {B C : Nat} {e : TypeId} {sz : Nat} {v : Value} {n : Nat} {xs : List Value} {w : World} (h : w.ownsRow B e sz v n xs) (hC : C ≤ B) : w.ownsRow C e sz v n xs := by
  obtain ⟨h1, h2⟩ := h
  refine ⟨h1, ?_⟩
  rcases h2 with h2 | ⟨g, cap, cur, rfl, hB, r⟩
  · exact .inl h2
  · exact .inr ⟨g, cap, cur, rfl, Nat.le_trans hC hB, r⟩
/-- how much a frame takes; 0, if it is none -/
def fK (l : List UInt8) : Nat := if fE l = 0 then 8 + num4 l else 0
theorem ret3v {b c b' c' : Int} {y z : IntKind} {v v' : Value} (h1 : v = v') (h2 : b = b') (h3 : c = c') : Ending.returned (.tuple #[v, .int y b, .int z c]) = .returned (.tuple #[v', .int y b', .int z c']) := by rw [h1, h2, h3]

/-- what is scanned, as texts; how far -/
def scanT (l : List UInt8) : List ByteArray := (scan l).1.map mk
def scanN (l : List UInt8) : Nat := (scan l).2
theorem scanF_len : ∀ (n : Nat) (l : List UInt8), 8 * (scanF n l).1.length ≤ l.length ∧ (scanF n l).2 ≤ l.length
  | 0, l => by simp [scanF]
  | n + 1, l => by
    simp only [scanF]
    by_cases h : fE l = 0
    · have hp := (fE_parts h).2.2.1
      have ih := scanF_len n (l.drop (8 + num4 l))
      rw [List.length_drop] at ih
      rw [if_pos h]
      simp only [List.length_cons]
      omega
    · rw [if_neg h]; simp
theorem scan_len (l : List UInt8) : 8 * (scanT l).length ≤ l.length := by
  unfold scanT; rw [List.length_map]; exact (scanF_len _ _).1
theorem scanN_le (l : List UInt8) : scanN l ≤ l.length := (scanF_len _ _).2
/-- a bytes are scanned: these texts -/
def SRel (l : List UInt8) (a : Nat) (xs : List ByteArray) : Prop := scanT l = xs ++ scanT (l.drop a) ∧ scanN l = a + scanN (l.drop a) ∧ 8 * xs.length ≤ a
theorem SRel.start (l : List UInt8) : SRel l 0 [] := ⟨by simp, by simp, by simp⟩
theorem SRel.step {l : List UInt8} {a : Nat} {xs : List ByteArray} (h : SRel l a xs) (hE : fE (l.drop a) = 0) : SRel l (a + fK (l.drop a)) (xs ++ [fS (l.drop a)]) := by
  obtain ⟨h1, h2, h3⟩ := h
  have hk : fK (l.drop a) = 8 + num4 (l.drop a) := by unfold fK; rw [if_pos hE]
  have hS : fS (l.drop a) = mk (fB (l.drop a)) := by unfold fS; rw [if_pos hE]
  have hs := scan_ok hE
  rw [List.drop_drop] at hs
  have e1 : scanT (l.drop a) = fS (l.drop a) :: scanT (l.drop (a + fK (l.drop a))) := by
    unfold scanT; rw [hs, hS, hk]; rfl
  have e2 : scanN (l.drop a) = fK (l.drop a) + scanN (l.drop (a + fK (l.drop a))) := by
    unfold scanN; rw [hs, hk]
  refine ⟨?_, ?_, ?_⟩
  · rw [h1, e1, List.append_assoc]; rfl
  · rw [h2, e2]; omega
  · rw [List.length_append, hk]; simp; omega
theorem SRel.stop {l : List UInt8} {a : Nat} {xs : List ByteArray} (h : SRel l a xs) (hE : fE (l.drop a) ≠ 0) : scanT l = xs ∧ scanN l = a := by
  obtain ⟨h1, h2, _⟩ := h
  have hs := scan_end hE
  constructor
  · rw [h1]; unfold scanT; rw [hs]; simp
  · rw [h2]; unfold scanN; rw [hs]; rfl
theorem info_str : (Tryz.prog.info? 9).map (fun i => (i.zero, i.size, i.bytes)) = some (some (.string ⟨#[]⟩), 1, 16) := by kernel_rfl

set_option maxHeartbeats 4000000 in
set_option maxRecDepth 100000 in
theorem Scan_any (s : ByteArray) (w : World) (hs : s.size ≤ 1099511627776) :
    Calls Tryz.prog 30 #[.string s] w fun e w' => ∃ v, e = .returned (.tuple #[v, .int .i64 (scanN (bs s) : Nat)]) ∧ w'.ownsRow w.heap.size 9 1 v (scanT (bs s)).length (cellsOf strC (scanT (bs s))) ∧ Below w.heap.size w w' := by
  obtain ⟨i0, hi, hz0, hz1, hz2⟩ := info_parts info_str
  have hz := tabZero
  have hlen := bs_size s
  have HLEN := Lib.hid hlen
  clear hlen
  go_enter Tryz.func30, Tryz.ntmps30
  go_wp2_with fail
  refine (makeTable_any _).mono ?_
  rintro e w1 ⟨rfl, b1⟩
  have hT := Lib.hid (Tab.new w1)
  have hb1 := b1.size
  go_wp2_with (refine wpList_store_new rfl 97 (.tmp 4) (.tmp 9) rfl (tabC 0) (tabC 256) 97 rfl rfl tabInfo tabOld (tabC_one _) ?_)
  go_loopw [5, 6] (fun v i wr => ∃ (a n : Nat) (xs : List ByteArray), a ≤ s.size ∧ i = .int .i64 a ∧ 8 * n ≤ a ∧ wr.ownsRow (w1.heap.size + 1) 9 1 v n (cellsOf strC xs) ∧ Below (w1.heap.size + 1) (w1.alloc (.cells (tabC 256) 97)) wr ∧ Hid (xs.length = n) ∧ SRel (bs s) a xs)
    (fun _ i _ => s.size - (intOf i).toNat)
  case atStart => exact ⟨0, 0, [], by omega, rfl, by omega, World.ownsRow_nil _ _ _ _, Below.refl _ _, rfl, SRel.start _⟩
  case round =>
    obtain ⟨a, n, xs, ha, rfl, hn8, hown, hbel, HX, hrel⟩ := hrel
    have HR := Lib.hid hrel
    clear hrel
    have haI : (a : Int) ≤ (s.size : Int) := by omega
    have hsw := hbel.size
    rw [size_alloc1] at hsw
    have hu := unframe_any w1.heap.size (s.extract a s.size) wr (hT.out.below hbel (by omega)) (by rw [size_from]; omega)
    rw [bs_from] at hu
    by_cases hE : fE ((bs s).drop a) = 0
    · have hSt := Lib.hid (HR.out.step hE)
      have hK := Lib.hid (show fK ((bs s).drop a) = 8 + num4 ((bs s).drop a) by unfold fK; rw [if_pos hE])
      have hSz := Lib.hid (show (fS ((bs s).drop a)).size = num4 ((bs s).drop a) by unfold fS; rw [if_pos hE, mk_size, fB_length hE])
      have hp := (fE_parts hE).2.2.1
      rw [List.length_drop, HLEN.out] at hp
      rw [hE] at hu
      clear hE
      generalize fS ((bs s).drop a) = S at *
      generalize fK ((bs s).drop a) = K at *
      generalize num4 ((bs s).drop a) = m at *
      have hSz2 : S.size ≤ 1099511627776 := by rw [hSz.out]; omega
      have hSz3 : (8 : Int) + (S.size : Int) ≤ s.size := by rw [hSz.out]; omega
      have hSz4 : a + (8 + S.size) ≤ s.size := by rw [hSz.out]; omega
      go_wp2_with fail
      refine hu.mono ?_
      rintro e w2 ⟨rfl, b2⟩
      have hown2 := own_below hown b2
      have hbel2 := hbel.trans (b2.mono hsw)
      have hsw2 := b2.size
      clear hown hbel
      go_wp2_with (at_builtin; refine wpList_append_own _ rfl _ _ 35 rfl (w1.heap.size + 1) 9 i0 (.string ⟨#[]⟩) 1 16 Tryz.underlying35 hi hz0 hz1 hz2 rfl (by decide) _ _ _ rfl (hown2.alloc _) ⟨w2.heap.size, 0, none⟩ 1 1 [.string S] rfl rfl ?c1 ?c2 ?c3 ?c4 ?c5 ?_)
      case c1 =>
        intro i u hu
        match i, hu with
        | 0, hu => simp at hu; subst hu; simp [Addr.add]
      case c2 => intro u hu; simp at hu; subst hu; rfl
      case c3 => unfold maxLen; omega
      case c4 => omega
      case c5 => simp; omega
      intro v' w3 hown' hgrow _
      have hb3 : Below (w1.heap.size + 1) (w1.alloc (.cells (tabC 256) 97)) w3 := (hbel2.alloc (by omega) _).grown hgrow (by simp; omega) (fun k hk => (hown2.lt k hk).1)
      have HOW := Lib.hid hown'
      clear hown2 hgrow hbel2 hown'
      go_wp2
      go_roundw
      case rel => exact ⟨a + (8 + S.size), n + 1, xs ++ [S], by omega, by go_num, by omega, by simpa [cellsOf] using HOW.out, hb3, by show _ = _; rw [List.length_append, HX]; rfl, by rw [hSz.out, ← hK.out]; exact hSt.out⟩
      case measure => simp [intOf]; omega
    · have hSp := Lib.hid (HR.out.stop hE)
      have hEb : (fE ((bs s).drop a) != 0) = true := by simpa using hE
      clear hE
      generalize fS ((bs s).drop a) = S at *
      generalize fE ((bs s).drop a) = E at *
      go_wp2_with fail
      refine hu.mono ?_
      rintro e w2 ⟨rfl, b2⟩
      have HOW := Lib.hid (own_below hown b2)
      have hbel2 := hbel.trans (b2.mono hsw)
      clear hown hbel
      go_wp2
      go_ret2
      refine ⟨_, ret2s rfl (by rw [hSp.out.2]), ?_, (b1.alloc b1.size _).trans (hbel2.mono (by omega))⟩
      rw [hSp.out.1, HX]
      exact ownsRow_mono HOW.out (by omega)
end Go.Proofs.YtnffjoflkeagfaaGreat.Fr
namespace Go.Proofs.YtnffjoflkeagfaaGreat.Fr
open Go.RowKit

/-- the frames of texts, one behind the other -/
def joinB (l : List ByteArray) : List UInt8 := joinL (l.map bs)
theorem joinB_snoc (l : List ByteArray) (k : Nat) (x : ByteArray) (h : l[k]? = some x) : joinB (l.take (k + 1)) = joinB (l.take k) ++ frameL (bs x) := by
  unfold joinB joinL
  rw [take_snocA l k x h, List.map_append, List.flatMap_append]; simp
theorem joinB_step (l : List ByteArray) (k : Nat) (x : ByteArray) (h : l[k]? = some x) : (joinB (l.take (k + 1))).length = (joinB (l.take k)).length + (8 + x.size) := by
  rw [joinB_snoc l k x h, List.length_append, frameL_length, bs_size]
theorem all_take {l : List ByteArray} {k : Nat} {x : ByteArray} {p : ByteArray → Prop} (h : ∀ c ∈ l.take k, p c) (hx : l[k]? = some x) (hp : p x) : ∀ c ∈ l.take (k + 1), p c := by
  rw [take_snocA l k x hx]
  intro c hc
  rw [List.mem_append] at hc
  rcases hc with hc | hc
  · exact h c hc
  · rw [List.mem_singleton.1 hc]; exact hp
theorem joinB_le : ∀ (l : List ByteArray), (∀ c ∈ l, c.size ≤ 65536) → (joinB l).length ≤ 65544 * l.length
  | [], _ => by simp [joinB, joinL]
  | x :: l, h => by
    have ih := joinB_le l (fun c hc => h c (by simp [hc]))
    have hx := h x (by simp)
    have e : joinB (x :: l) = frameL (bs x) ++ joinB l := by simp [joinB, joinL]
    rw [e, List.length_append, frameL_length, bs_size, List.length_cons]; omega
theorem joinB_take (l : List ByteArray) (k : Nat) : (joinB (l.take k)).length ≤ (joinB l).length := by
  have e : joinB l = joinB (l.take k) ++ joinB (l.drop k) := by
    unfold joinB joinL; rw [← List.flatMap_append, ← List.map_append, List.take_append_drop]
  rw [e, List.length_append]; omega
theorem ret2sE {v v' : Value} (h : v = v') (c : Int) (z : IntKind) : Ending.returned (.tuple #[v, .int z c]) = .returned (.tuple #[v', .int z c]) := by rw [h]

set_option maxHeartbeats 4000000 in
set_option maxRecDepth 100000 in
theorem Join_long (v : Value) (l : List ByteArray) (w : World) (hl : ListAt w v l.length (cellsOf strC l)) (hn : l.length ≤ 1048576) (hs : ∀ c ∈ l, c.size ≤ 9223372036854775807) (hall : ¬ ∀ c ∈ l, c.size ≤ 65536) :
    Calls Tryz.prog 33 #[v] w fun e w' => e = .returned (.tuple #[.string ⟨#[]⟩, .int .i64 31]) ∧ w = w' := by
  obtain ⟨_, aa, cap, rfl, _, hc⟩ := hl
  have HC := Lib.hid hc
  have HA := Lib.hid hall
  clear hc hall
  go_enter Tryz.func33, Tryz.ntmps33
  go_wp2
  go_loop [4, 14] (fun n i => ∃ (k X : Nat), k ≤ l.length ∧ i = .int .i64 k ∧ n = .int .i64 X ∧ X ≤ 65544 * k ∧ Hid (∀ c ∈ l.take k, c.size ≤ 65536)) (fun _ i => l.length - (intOf i).toNat)
  case atStart => exact ⟨0, 0, by omega, rfl, rfl, by omega, fun c hc => by simp at hc⟩
  case round =>
    obtain ⟨k, X, hk, rfl, rfl, hX, hT⟩ := hrel
    by_cases hlt : k < l.length
    · obtain ⟨x, hx⟩ : ∃ x, l[k]? = some x := ⟨l[k], List.getElem?_eq_getElem hlt⟩
      obtain ⟨ba, offa, rfl, hba, hca⟩ := HC.out.resolve_left (by omega)
      have c1 := ListAt.get hca hx
      have hxs := hs x (List.mem_of_getElem? hx)
      have HX := Lib.hid hx
      clear hca hx
      by_cases hb : 65536 < x.size
      · have hbi : (65536 : Int) < (x.size : Int) := by omega
        go_wp2
        go_ret2
        exact ⟨rfl, rfl⟩
      · have hbi : ¬ (65536 : Int) < (x.size : Int) := by omega
        have HT := Lib.hid (all_take hT HX.out (p := fun c => c.size ≤ 65536) (by omega))
        go_wp2
        go_round
        case rel => exact ⟨k + 1, X + (8 + x.size), by omega, by go_num, by go_num, by omega, HT.out⟩
        case measure => simp [intOf]; omega
    · exfalso
      rw [List.take_of_length_le (by omega)] at hT
      exact HA.out hT
set_option maxHeartbeats 8000000 in
set_option maxRecDepth 100000 in
theorem Join_any (v : Value) (l : List ByteArray) (w : World) (hl : ListAt w v l.length (cellsOf strC l)) (hn : l.length ≤ 1048576) (hall : ∀ c ∈ l, c.size ≤ 65536) :
    Calls Tryz.prog 33 #[v] w fun e w' => e = .returned (.tuple #[.string (mk (joinB l)), .int .i64 0]) ∧ Below w.heap.size w w' := by
  have hz := tabZero
  have HL := Lib.hid hl
  obtain ⟨_, aa, cap, rfl, _, _⟩ := hl
  have hjl := joinB_le l hall
  have HA := Lib.hid hall
  clear hall
  go_enter Tryz.func33, Tryz.ntmps33
  go_wp2
  go_loop [4, 14] (fun n i => ∃ (k X : Nat), k ≤ l.length ∧ i = .int .i64 k ∧ n = .int .i64 X ∧ X ≤ 65544 * k ∧ Hid (X = (joinB (l.take k)).length)) (fun _ i => l.length - (intOf i).toNat)
  case atStart => exact ⟨0, 0, by omega, rfl, rfl, by omega, rfl⟩
  case round =>
    obtain ⟨k, X, hk, rfl, rfl, hX, hT⟩ := hrel
    by_cases hlt : k < l.length
    · obtain ⟨x, hx⟩ : ∃ x, l[k]? = some x := ⟨l[k], List.getElem?_eq_getElem hlt⟩
      obtain ⟨_, _, _, he, _, hc⟩ := HL.out
      simp only [Value.slice.injEq] at he
      obtain ⟨rfl, _, rfl⟩ := he
      obtain ⟨ba, offa, rfl, hba, hca⟩ := hc.resolve_left (by omega)
      have c1 := ListAt.get hca hx
      have hxs := HA.out x (List.mem_of_getElem? hx)
      have HX := Lib.hid (joinB_step l k x hx)
      clear hca hx hc
      have hbi : ¬ (65536 : Int) < (x.size : Int) := by omega
      go_wp2
      go_round
      case rel => exact ⟨k + 1, X + (8 + x.size), by omega, by go_num, by go_num, by omega, by show _ = _; rw [HX.out, hT]⟩
      case measure => simp [intOf]; omega
    · have hXl : X ≤ 281474976710656 := by omega
      clear hT
      go_wp2_with fail
      refine (makeTable_any _).mono ?_
      rintro e w1 ⟨rfl, b1⟩
      have hT := Lib.hid (Tab.new w1)
      have hb1 := b1.size
      go_wp2_with (refine wpList_store_new rfl 97 (.tmp 7) (.tmp 27) rfl (tabC 0) (tabC 256) 97 rfl rfl tabInfo tabOld (tabC_one _) ?_)
      have hbk := heap_alloc2_new w1 (.cells (tabC 256) 97) (.cells #[.pointer none, .slice none 0 0] 101)
      refine (Tryz.Builder_Grow_fresh (w1.heap.size + 1) (w1.heap.size + 1) X _ (Nat.le_refl _) hbk (by simp) hXl).mono ?_
      rintro e w2 ⟨rfl, hbu, b2⟩
      have b2' := ((Below.refl (w1.heap.size + 1) (w1.alloc (.cells (tabC 256) 97))).alloc (by simp) _).trans b2
      have hT2 := Lib.hid (hT.out.below b2' (by omega))
      have hL1 := HL.out.below b1
      have hL2 := Lib.hid (hL1.below ((((Below.refl _ _).alloc (Nat.le_refl _) _).alloc (by simp) _).trans (b2.mono (by omega))))
      have bw2 := (b1.alloc b1.size (.cells (tabC 256) 97)).trans (b2'.mono (by omega))
      have hs2 := b2'.size
      rw [size_alloc1] at hs2
      have hbu2 : IsB (w1.heap.size + 1) (w1.heap.size + 1) [] w2 := .inr hbu
      have HBU := Lib.hid hbu2
      have hTp := hT2.out.1
      clear hbk hbu hbu2 b2 b2' hL1 hT
      go_wp2
      go_loopw [32] (fun i wr => ∃ (k : Nat), k ≤ l.length ∧ i = .int .i64 k ∧ Hid (IsB (w1.heap.size + 1) (w1.heap.size + 1) (joinB (l.take k)) wr) ∧ Below (w1.heap.size + 1) w2 wr) (fun i _ => l.length - (intOf i).toNat)
      case atStart => exact ⟨0, by omega, rfl, HBU.out, Below.refl _ _⟩
      case round =>
        obtain ⟨j, hj, rfl, HB, hbel⟩ := hrel
        have hsr := hbel.size
        by_cases hlt2 : j < l.length
        · obtain ⟨x, hx⟩ : ∃ x, l[j]? = some x := ⟨l[j], List.getElem?_eq_getElem hlt2⟩
          obtain ⟨_, _, _, he, _, hc⟩ := HL.out
          simp only [Value.slice.injEq] at he
          obtain ⟨rfl, _, rfl⟩ := he
          obtain ⟨ba, offa, rfl, hba, hca⟩ := hc.resolve_left (by omega)
          have c0 := ListAt.get hca hx
          have hbz : ba < w1.heap.size := Nat.lt_of_lt_of_le hba hb1
          have c1 : wr.cell? ⟨ba, offa + j, none⟩ = some (strC x) :=
            (hbel.cell (p := ⟨ba, offa + j, none⟩) (by show ba < _; omega)).trans ((bw2.cell (p := ⟨ba, offa + j, none⟩) hba).trans c0)
          have hxs := HA.out x (List.mem_of_getElem? hx)
          have HX := Lib.hid (joinB_snoc l j x hx)
          have hst := joinB_step l j x hx
          have hle2 := joinB_take l (j + 1)
          clear hca hx hc c0
          obtain ⟨J1, hJ1⟩ : ∃ J, joinB (l.take (j + 1)) = J := ⟨_, rfl⟩
          rw [hJ1] at hst hle2 HX
          have HJ1 := Lib.hid hJ1
          clear hJ1
          generalize joinB (l.take j) = J0 at *
          have hJ0l : J0.length + 8 + x.size ≤ 140737488355328 := by omega
          have hn32 : x.size < 4294967296 := by omega
          go_wp2_with fail
          refine (fourBytes_any x.size _).mono ?_
          rintro e w3 ⟨rfl, b3⟩
          have h3 := hbel.trans (b3.mono (by omega))
          have B3 := Lib.hid (HB.out.below b3)
          have s3 := h3.size
          clear b3 hbel c1
          go_wp2_with fail
          refine (writeString_any _ _ J0 (mk (four x.size)) _ B3.out (by rw [mk_size, four_length]; omega) (by omega)).mono ?_
          rintro e w4 ⟨rfl, B4, b4⟩
          rw [bs_mk] at B4
          have B4 := Lib.hid B4
          have h4 := h3.trans b4
          have s4 := h4.size
          have hL := list_two w4 (mk (four x.size)) x 9
          have hT4 := (hT2.out.below h4 (by omega)).below ((Below.refl _ w4).alloc (Nat.le_refl _) (.cells #[.string (mk (four x.size)), .string x] 9)) (by omega)
          have HL4 := Lib.hid hL
          have HT4 := Lib.hid hT4
          clear h3 b4 hL hT4 s3 B3
          go_wp2_with fail
          refine (sum_any w1.heap.size _ [mk (four x.size), x] _ HT4.out HL4.out (by simp) (fun c hc => by
            simp only [List.mem_cons, List.not_mem_nil, or_false] at hc
            rcases hc with rfl | rfl
            · rw [mk_size, four_length]; omega
            · omega)).mono ?_
          rw [catL_two, bs_mk]
          rintro e w5 ⟨rfl, q, rfl⟩
          have b5 := below_drewN ((Below.refl w4.heap.size w4).alloc (Nat.le_refl _) (.cells #[.string (mk (four x.size)), .string x] 9)) q
          have h5 := h4.trans (b5.mono (by omega))
          have B5 := Lib.hid (B4.out.below b5)
          have s5 := h5.size
          have hsl := sumL_lt (four x.size ++ bs x)
          generalize (w4.alloc (.cells #[.string (mk (four x.size)), .string x] 9)).drewN q = w5 at *
          have HX2 : Hid (J1 = ((J0 ++ four x.size) ++ four (sumL (four x.size ++ bs x))) ++ bs x) := by
            show _ = _
            rw [HX.out]; unfold frameL; rw [bs_size]; simp
          generalize sumL (four x.size ++ bs x) = S at *
          clear h4 b5 HL4 HT4 s4 B4
          go_wp2_with fail
          refine (fourBytes_any S _).mono ?_
          rintro e w6 ⟨rfl, b6⟩
          have h6 := h5.trans (b6.mono (by omega))
          have B6 := Lib.hid (B5.out.below b6)
          have s6 := h6.size
          clear b6 h5 s5 B5
          go_wp2_with fail
          refine (writeString_any _ _ _ (mk (four S)) _ B6.out (by rw [mk_size, four_length, List.length_append, four_length]; omega) (by omega)).mono ?_
          rintro e w7 ⟨rfl, B7, b7⟩
          have B7 := Lib.hid B7
          have h7 := h6.trans b7
          have s7 := h7.size
          clear b7 h6 s6 B6
          go_wp2_with fail
          refine (writeString_any _ _ _ x _ B7.out (by rw [bs_mk, List.length_append, List.length_append, four_length, four_length]; omega) (by omega)).mono ?_
          rintro e w8 ⟨rfl, B8, b8⟩
          have B8 := Lib.hid B8
          have h8 := h7.trans b8
          clear b8 h7 s7 B7
          go_wp2
          go_roundw
          case rel => exact ⟨j + 1, by omega, by go_num, by rw [HJ1.out, HX2.out]; exact B8.out, h8⟩
          case measure => simp [intOf]; omega
        · have HJ := Lib.hid (show l.take j = l from List.take_of_length_le (by omega))
          rw [HJ.out] at HB
          go_wp2_with fail
          refine (Tryz.Builder_String_any _ _ _ _ HB.out (by omega)).mono ?_
          rintro e w3 ⟨rfl, b3⟩
          go_wp2
          go_ret2
          exact ⟨ret2sE rfl _ _, bw2.trans ((hbel.trans b3).mono (by omega))⟩
end Go.Proofs.YtnffjoflkeagfaaGreat.Fr
namespace Go.Proofs.YtnffjoflkeagfaaGreat.Fr
open Go.RowKit

theorem neB {a b : ByteArray} (h : a ≠ b) : (a.toList == b.toList) = false := by
  rw [beq_eq_false_iff_ne]
  intro e
  rw [Lib.toList_data, Lib.toList_data] at e
  exact h (ba_ext e)
theorem eqB {a b : ByteArray} (h : a = b) : (a.toList == b.toList) = true := by rw [h]; simp
theorem eq_takeB {a b : List ByteArray} {k : Nat} {x : ByteArray} (h : a.take k = b.take k) (ha : a[k]? = some x) (hb : b[k]? = some x) : a.take (k + 1) = b.take (k + 1) := by
  rw [take_snocA a k x ha, take_snocA b k x hb, h]

set_option maxHeartbeats 2000000 in
theorem same_any (va vb : Value) (la lb : List ByteArray) (w : World) (ha : ListAt w va la.length (cellsOf strC la)) (hb : ListAt w vb lb.length (cellsOf strC lb)) (hla : la.length ≤ 1099511627776) (hlb : lb.length ≤ 1099511627776) :
    Calls Tryz.prog 20 #[va, vb] w fun e w' => e = .returned (.bool (decide (la = lb))) ∧ Below w.heap.size w w' := by
  obtain ⟨_, aa, capa, rfl, _, ha⟩ := ha
  obtain ⟨_, ab, capb, rfl, _, hb⟩ := hb
  by_cases hn : la.length = lb.length
  · have hni : ((la.length : Int) != (lb.length : Int)) = false := by rw [hn]; simp
    by_cases h0 : la.length = 0
    · have HE : Hid (decide (la = lb) = true) := by
        show _ = _
        rw [decide_eq_true_iff, List.eq_nil_of_length_eq_zero h0, List.eq_nil_of_length_eq_zero (hn.symm.trans h0)]
      have hni2 : ((0 : Int) != (lb.length : Int)) = false := by rw [← hn, h0]; rfl
      have hnb : lb.length = 0 := by omega
      rw [h0, hnb]
      go_enter Tryz.func20, Tryz.ntmps20
      go_wp2
      refine wp_loop_rounds 1 ?_
      rw [rounds_succ]
      go_wp2
      go_ret
      exact ⟨ret_bool HE.out.symm, Below.refl _ _⟩
    · rcases ha with ha | ⟨ba, offa, rfl, hlta, hca⟩
      · omega
      rcases hb with hb | ⟨bb, offb, rfl, hltb, hcb⟩
      · omega
      have HCA := Lib.hid hca
      have HCB := Lib.hid hcb
      have HN := Lib.hid hn
      clear hca hcb
      go_enter Tryz.func20, Tryz.ntmps20
      go_wp2
      go_loopw [5] (fun i wr => ∃ k : Nat, k ≤ la.length ∧ i = .int .i64 k ∧ la.take k = lb.take k ∧ Below w.heap.size w wr) (fun i _ => la.length - (intOf i).toNat)
      case atStart => exact ⟨0, by omega, rfl, by simp, Below.refl _ _⟩
      case round =>
        obtain ⟨k, hk, rfl, hx, hbw⟩ := hrel
        have HX := Lib.hid hx
        clear hx
        by_cases hlt : k < la.length
        · have hltb2 : k < lb.length := by omega
          obtain ⟨xa, hxa⟩ : ∃ x, la[k]? = some x := ⟨la[k], List.getElem?_eq_getElem hlt⟩
          obtain ⟨xb, hxb⟩ : ∃ x, lb[k]? = some x := ⟨lb[k], List.getElem?_eq_getElem hltb2⟩
          have c1 : wr.cell? ⟨ba, offa + k, none⟩ = some (.string xa) := (hbw.cell (p := ⟨ba, offa + k, none⟩) hlta).trans (ListAt.get HCA.out hxa)
          have c2 : wr.cell? ⟨bb, offb + k, none⟩ = some (.string xb) := (hbw.cell (p := ⟨bb, offb + k, none⟩) hltb).trans (ListAt.get HCB.out hxb)
          clear hn hni
          have HXA := Lib.hid hxa
          have HXB := Lib.hid hxb
          clear hxa hxb
          by_cases hxy : xa = xb
          · have hxyi : (xa.toList == xb.toList) = true := by rw [hxy]; simp
            have HXY := Lib.hid hxy
            clear hxy
            go_wp2
            go_quiet (fail)
            go_wp2
            go_roundw
            case rel => exact ⟨k + 1, by omega, by go_num, eq_takeB HX.out HXA.out (by rw [HXY.out]; exact HXB.out), below_drewN hbw _⟩
            case measure => simp [intOf]; omega
          · have hxyi : (xa.toList == xb.toList) = false := neB hxy
            have HE : Hid (decide (la = lb) = false) := by
              show _ = _
              rw [decide_eq_false_iff_not]
              intro e; apply hxy
              have h := HXA.out
              rw [e, HXB.out] at h
              exact (Option.some.inj h).symm
            clear hxy
            go_wp2
            go_quiet (fail)
            go_wp2
            go_ret
            exact ⟨ret_bool HE.out.symm, below_drewN hbw _⟩
        · have HE : Hid (decide (la = lb) = true) := by
            show _ = _
            rw [decide_eq_true_iff]
            have := HX.out
            rwa [List.take_of_length_le (by omega), List.take_of_length_le (by omega)] at this
          clear hn hni
          go_wp2
          go_ret
          exact ⟨ret_bool HE.out.symm, hbw⟩
  · have hni : ((la.length : Int) != (lb.length : Int)) = true := by rw [bne_iff_ne]; omega
    have HE : Hid (decide (la = lb) = false) := by
      show _ = _
      rw [decide_eq_false_iff_not]; intro e; exact hn (by rw [e])
    clear hn
    go_enter Tryz.func20, Tryz.ntmps20
    go_wp2
    go_ret
    exact ⟨ret_bool HE.out.symm, Below.refl _ _⟩
end Go.Proofs.YtnffjoflkeagfaaGreat.Fr
namespace Go.Proofs.YtnffjoflkeagfaaGreat.Fr
open Go.RowKit

theorem joinB_cons (x : ByteArray) (l : List ByteArray) : joinB (x :: l) = frameL (bs x) ++ joinB l := by simp [joinB, joinL]
theorem joinB_each : ∀ (l : List ByteArray), 8 * l.length ≤ (joinB l).length ∧ ∀ c ∈ l, c.size + 8 ≤ (joinB l).length
  | [] => by simp
  | x :: l => by
    obtain ⟨h1, h2⟩ := joinB_each l
    rw [joinB_cons, List.length_append, frameL_length, bs_size]
    refine ⟨by rw [List.length_cons]; omega, fun c hc => ?_⟩
    rcases List.mem_cons.1 hc with rfl | hc
    · omega
    · have := h2 c hc; omega
theorem bool_true {b : Bool} (h : b = true) : Ending.returned (.bool b) = .returned (.bool true) := by rw [h]
theorem elem_str : Tryz.prog.elem 35 = 9 := by kernel_rfl
theorem under_str : Tryz.prog.underlying 35 = some (.slice (Tryz.prog.elem 35)) := by rw [elem_str]; exact Tryz.underlying35
/-- p of p ++ q: x[:n] -/
theorem slice_to {w : World} {a : Option Addr} {n m c : Nat} {p q : List ByteArray} (h : ListAt w (.slice a (n + m) c) (n + m) (cellsOf strC (p ++ q))) (hp : p.length = n) :
    ∃ V, (∀ w', (Instr.slice 35 (.slice a (n + m) c) none (some (.int .i64 (n : Int))) none).run Tryz.prog w' = .ok V w') ∧
      (∀ w', (Instr.sliceAt 35 (.slice a (n + m) c) none (some (.int .i64 (n : Int))) none).run Tryz.prog w' = .ok V w') ∧ ListAt w V n (cellsOf strC p) := by
  obtain ⟨h1, a', c', e, hc, h2⟩ := h
  simp only [Value.slice.injEq] at e
  obtain ⟨rfl, _, rfl⟩ := e
  have hr : ∀ w', (Instr.slice 35 (.slice a (n + m) c) none (some (.int .i64 (n : Int))) none).run Tryz.prog w' = .ok (sliced a 0 n c 1) w' := fun w' => by
    rw [run_slice_h w' 35 a (n + m) c under_str .i64 (n : Int) (by omega) (by omega), elem_str, Tryz.sizeOf9]
    rfl
  refine ⟨sliced a 0 n c 1, hr, fun w' => by rw [run_sliceAt_slice w' _ _ _ _ _ under_str]; exact hr w', by simp [cellsOf, hp], (if c = 0 then a else a.map (·.add (0 * 1))), c, by unfold sliced; rw [Nat.sub_zero, Nat.sub_zero], by omega, ?_⟩
  by_cases h0 : n = 0
  · exact .inl h0
  · rcases h2 with h2 | ⟨b, off, rfl, hb, hcells⟩
    · omega
    · refine .inr ⟨b, off, ?_, hb, fun j u hu => hcells j u ?_⟩
      · rw [if_neg (by omega)]; simp [Addr.add]
      · have hj : j < p.length := by have := (List.getElem?_eq_some_iff.1 hu).1; simpa [cellsOf] using this
        simp only [cellsOf, List.map_append] at hu ⊢
        rw [List.getElem?_append_left (by simpa using hj)]; exact hu
/-- q: x[n:] -/
theorem slice_from {w : World} {a : Option Addr} {n m c : Nat} {p q : List ByteArray} (h : ListAt w (.slice a (n + m) c) (n + m) (cellsOf strC (p ++ q))) (hp : p.length = n) (hq : q.length = m) :
    ∃ V, (∀ w', (Instr.slice 35 (.slice a (n + m) c) (some (.int .i64 (n : Int))) none none).run Tryz.prog w' = .ok V w') ∧
      (∀ w', (Instr.sliceAt 35 (.slice a (n + m) c) (some (.int .i64 (n : Int))) none none).run Tryz.prog w' = .ok V w') ∧ ListAt w V m (cellsOf strC q) := by
  obtain ⟨h1, a', c', e, hc, h2⟩ := h
  simp only [Value.slice.injEq] at e
  obtain ⟨rfl, _, rfl⟩ := e
  have hr : ∀ w', (Instr.slice 35 (.slice a (n + m) c) (some (.int .i64 (n : Int))) none none).run Tryz.prog w' = .ok (sliced a n (n + m) c 1) w' := fun w' => by
    rw [run_slice_l w' 35 a (n + m) c under_str .i64 (n : Int) (by omega) (by omega), elem_str, Tryz.sizeOf9]
    rfl
  refine ⟨sliced a n (n + m) c 1, hr, fun w' => by rw [run_sliceAt_slice w' _ _ _ _ _ under_str]; exact hr w', by simp [cellsOf, hq], (if c = n then a else a.map (·.add (n * 1))), c - n, by unfold sliced; rw [Nat.add_sub_cancel_left], by omega, ?_⟩
  by_cases h0 : m = 0
  · exact .inl h0
  · rcases h2 with h2 | ⟨b, off, rfl, hb, hcells⟩
    · omega
    · refine .inr ⟨b, off + n, ?_, hb, fun j u hu => ?_⟩
      · rw [if_neg (by omega), Nat.mul_one]
        simp only [Option.map_some, Option.some.injEq]
        unfold Addr.add
        split <;> simp_all
      · have := hcells (n + j) u (by
          simp only [cellsOf, List.map_append] at hu ⊢
          rw [List.getElem?_append_right (by simp; omega)]
          simpa [hp] using hu)
        rw [Nat.add_assoc]; exact this
/-- l[:n] -/
theorem slice_first {w : World} {a : Option Addr} {N c : Nat} {l : List ByteArray} (n : Nat) (h : ListAt w (.slice a N c) N (cellsOf strC l)) (hn : n ≤ N) :
    ∃ V, (∀ w', (Instr.slice 35 (.slice a N c) none (some (.int .i64 (n : Int))) none).run Tryz.prog w' = .ok V w') ∧
      (∀ w', (Instr.sliceAt 35 (.slice a N c) none (some (.int .i64 (n : Int))) none).run Tryz.prog w' = .ok V w') ∧ ListAt w V n (cellsOf strC (l.take n)) := by
  obtain ⟨m, rfl⟩ : ∃ m, N = n + m := ⟨N - n, by omega⟩
  have hl : l.length = n + m := by have := h.1; simpa [cellsOf] using this
  refine slice_to (q := l.drop n) (by rw [List.take_append_drop]; exact h) (by rw [List.length_take]; omega)
theorem map_mk_bs (l : List ByteArray) : (l.map bs).map mk = l := by
  rw [List.map_map]
  have : (mk ∘ bs) = id := by funext s; exact mk_bs s
  rw [this, List.map_id]
theorem small_bs {l : List ByteArray} (h : ∀ c ∈ l, c.size ≤ 65536) : ∀ b ∈ l.map bs, b.length ≤ 65536 := by
  intro b hb
  obtain ⟨c, hc, rfl⟩ := List.mem_map.1 hb
  rw [bs_size]; exact h c hc
theorem scan_chain (l : List ByteArray) (r : List UInt8) (h : ∀ c ∈ l, c.size ≤ 65536) : scanT (joinB l ++ r) = l ++ scanT r ∧ scanN (joinB l ++ r) = (joinB l).length + scanN r := by
  have e := scan_join (l.map bs) r (small_bs h)
  unfold scanT scanN joinB
  rw [e]
  exact ⟨by rw [List.map_append, map_mk_bs], rfl⟩
theorem scan_all (l : List ByteArray) (h : ∀ c ∈ l, c.size ≤ 65536) : scanT (joinB l) = l ∧ scanN (joinB l) = (joinB l).length := by
  have e := scan_join0 (l.map bs) (small_bs h)
  unfold scanT scanN joinB
  rw [e]
  exact ⟨map_mk_bs l, rfl⟩
/-- cut anywhere -/
theorem scan_some (l : List ByteArray) (k : Nat) (h : ∀ c ∈ l, c.size ≤ 65536) : ∃ m, m ≤ l.length ∧ scanT ((joinB l).take k) = l.take m ∧ scanN ((joinB l).take k) = (joinB (l.take m)).length ∧ (joinB (l.take m)).length ≤ k ∧
    (joinB l).take (joinB (l.take m)).length = joinB (l.take m) ∧ (m = l.length ∨ ∃ x, l[m]? = some x ∧ k < (joinB (l.take m)).length + 8 + x.size) := by
  obtain ⟨m, h1, h2, h3, h4⟩ := scan_cut (l.map bs) k (small_bs h)
  rw [List.length_map] at h1 h4
  rw [← List.map_take] at h2 h3 h4
  refine ⟨m, h1, ?_, ?_, h3, ?_, ?_⟩
  · unfold scanT joinB; rw [h2]; exact map_mk_bs _
  · unfold scanN joinB; rw [h2]
  · have e : joinB l = joinB (l.take m) ++ joinB (l.drop m) := by
      unfold joinB joinL; rw [← List.flatMap_append, ← List.map_append, List.take_append_drop]
    rw [e, List.take_left]
  · rcases h4 with h4 | h4
    · exact .inl h4
    · by_cases hm : m < l.length
      · refine .inr ⟨l[m], List.getElem?_eq_getElem hm, ?_⟩
        have e : (l.map bs).getD m [] = bs l[m] := by simp [List.getD, hm]
        rw [e, bs_size] at h4
        exact h4
      · exact .inl (by omega)
theorem same_n (va vb : Value) (l : List ByteArray) (n : Nat) (w : World) (ha : ListAt w va n (cellsOf strC l)) (hb : ListAt w vb n (cellsOf strC l)) (h : l.length = n) (hn : n ≤ 1099511627776) :
    Calls Tryz.prog 20 #[va, vb] w fun e w' => e = .returned (.bool true) ∧ Below w.heap.size w w' := by
  subst h
  refine (same_any va vb l l w ha hb hn hn).mono ?_
  rw [decide_eq_true (rfl : l = l)]
  exact fun e w' h => h
end Go.Proofs.YtnffjoflkeagfaaGreat.Fr
