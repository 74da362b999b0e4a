/- The document's disk: a place made. -/
import Derived.Test.YtnffjoflkeagfaaRef7
namespace Go.Proofs.Ytnffjoflkeagfaa
open Go.RowKit Go.Maps

theorem ones4 (a : ByteArray) : ∀ u ∈ [Value.string a, .string ⟨#[]⟩, .int .i64 0, .bool false], u.oneCell' = true := by
  intro u hu; simp at hu; rcases hu with rfl | rfl | rfl | rfl <;> rfl
theorem put_split {k : List UInt8} {f : F} : ∀ {A B : Fs}, (∀ p ∈ A, p.1 < k) → (∀ p ∈ B, k < p.1) → putF (A ++ B) k f = A ++ (k, f) :: B
  | [], [], _, _ => rfl
  | [], p :: r, _, hB => by
    have h := hB p (by simp)
    have h1 : ¬ p.1 < k := fun h' => ltI _ (ltT h h')
    have h2 : ¬ p.1 = k := fun e => by rw [e] at h; exact ltI _ h
    simp only [List.nil_append, putF]
    rw [if_neg h1, if_neg h2]
  | p :: r, B, hA, hB => by
    rw [List.cons_append, List.cons_append, putF, if_pos (hA p (by simp)), put_split (fun q hq => hA q (by simp [hq])) hB]
/-- with a place for the file -/
def placeS (fs : Fs) (k : List UInt8) : Fs := if (look fs k).isSome = true then fs else putF fs k F.zero
theorem fit_place {s : St} (h : Fit s) (k : List UInt8) (hk : k.length ≤ 9223372036854775807) : Fit { s with fs := placeS s.fs k } := by
  unfold placeS
  split
  · exact h
  · exact fit_fs h rfl hk (Nat.le_refl _) (by have := h.room; simp [F.zero]; omega) _ _ _ h.moreI
def PlaceQ (S : Nat → Prop) (w : World) (rb : Nat) (s : St) (k : List UInt8) (wv : Bool) (left : Int) (e : Ending) (w' : World) : Prop :=
  ∃ j : Nat, e = .returned (.int .i64 (j : Int)) ∧ (placeS s.fs k)[j]? = some (k, getF s.fs k) ∧ (∃ fv', RefO S w' rb { s with fs := placeS s.fs k } fv' wv left) ∧ Kept S w w'
theorem place_end {S : Nat → Prop} {w w3 : World} {rb : Nat} {s : St} {fv v3 : Value} {wv : Bool} {left : Int} {k : Nat} {name : ByteArray} (h : RefO S w rb s fv wv left) (hS : ∀ k, w.heap.size ≤ k → S k) (hk : k ≤ s.fs.length)
    (hp : putF s.fs (bs name) F.zero = s.fs.take k ++ (bs name, F.zero) :: s.fs.drop k ∧ name.size ≤ 9223372036854775807) (hl : look s.fs (bs name) = none) (hb : Below w.heap.size w w3)
    (ho : w3.ownsRow w.heap.size 73 4 v3 (k + 1 + (s.fs.length - k)) (refL (s.fs.take k) ++ (.string name :: .string ⟨#[]⟩ :: .int .i64 0 :: .bool false :: refL (s.fs.drop k)))) :
    PlaceQ S w rb s (bs name) wv left (.returned (.int .i64 (k : Int))) (w3.setCell ⟨rb, 1, none⟩ v3) := by
  have hpl : placeS s.fs (bs name) = s.fs.take k ++ (bs name, F.zero) :: s.fs.drop k := by unfold placeS; rw [hl]; exact hp.1
  have e : refL (s.fs.take k) ++ (.string name :: .string ⟨#[]⟩ :: .int .i64 0 :: .bool false :: refL (s.fs.drop k)) = refL (placeS s.fs (bs name)) := by
    rw [hpl]
    simp only [refL, List.flatMap_append, List.flatMap_cons]
    congr 1
  rw [e] at ho
  have hr := row_ref (S := fun j => w.heap.size ≤ j) ho (by rw [hpl]; simp; omega) (fun _ h => h)
  have hlt := h.lt
  have hfit := fit_place h.fit (bs name) (by rw [bs_len]; exact hp.2)
  have hr2 := RowIn.keep (s := { s with fs := placeS s.fs (bs name) }) (w' := w3.setCell ⟨rb, 1, none⟩ v3) (S' := S) hr (by simp [World.setCell]) (fun g hg _ => heap_setCell_other _ _ _ _ (by show g ≠ rb; omega)) (fun g _ hg => hS g hg)
  refine ⟨k, rfl, ?_, ⟨v3, h.mine, ?_, h.brk, hr2, hfit⟩, (Kept.of_below hb).set (.inl h.mine) _⟩
  · rw [hpl, List.getElem?_append_right (by rw [List.length_take]; omega), List.length_take, show k - min k s.fs.length = 0 by omega]
    unfold getF; rw [hl]; rfl
  · have hblk := (hb.block rb hlt).trans h.block
    simp [World.setCell, Array.getElem?_modify, hblk, refO]
set_option maxRecDepth 100000 in
set_option maxHeartbeats 4000000 in
theorem refPlace_any {S : Nat → Prop} {w : World} {rb : Nat} {s : St} {fv : Value} {wv : Bool} {left : Int} (h : RefO S w rb s fv wv left) (hS : ∀ k, w.heap.size ≤ k → S k) (hc : s.fs.length ≤ 1099511627776) (name : ByteArray) (hn : name.size ≤ 9223372036854775807) :
    Calls Try.prog 66 #[ptrV rb, .string name] w (PlaceQ S w rb s (bs name) wv left) := by
  have HRO := Lib.hid h
  obtain ⟨a, c, rfl⟩ := h.row.slice
  have c1 := h.c1
  have f1 := h.f 1
  have hlt0 := h.lt
  have hR := Lib.hid h.row
  have HSRT := Lib.hid h.fit.sorted
  clear h
  obtain ⟨i0, hi, hz0, hz1, hz2⟩ := info_parts (show (Try.prog.info? 73).map (fun i => (i.zero, i.size, i.bytes)) = some (some (.agg #[.string ⟨#[]⟩, .string ⟨#[]⟩, .int .i64 0, .bool false]), 4, 48) by kernel_rfl)
  go_enter Try.func66, Try.ntmps66
  go_wp2
  go_loopw [5] (fun i wr => ∃ k : Nat, k ≤ s.fs.length ∧ i = .int .i64 k ∧ (∀ p ∈ s.fs.take k, p.1 < bs name) ∧ wr = w) (fun i _ => s.fs.length - (intOf i).toNat)
  case atStart => exact ⟨0, by omega, rfl, by simp, rfl⟩
  case round =>
    obtain ⟨k, hk, rfl, hall, rfl⟩ := hrel
    have HALL := Lib.hid hall
    clear hall
    by_cases hlt : k < s.fs.length
    · have hlti : (k : Int) < (s.fs.length : Int) := by omega
      obtain ⟨p, hp⟩ : ∃ p, s.fs[k]? = some p := ⟨s.fs[k], List.getElem?_eq_getElem hlt⟩
      obtain ⟨g, rfl, _, hcap, _, _, x0, x1, _⟩ := ref_row hR.out hp
      by_cases hless : p.1 < bs name
      · have hbl : Op.bytesLess p.1 name.toList = true := by rw [Lib.toList_data, Go.Proofs.bytesLess_eq]; simpa using hless
        have HP := Lib.hid hp
        have HL := Lib.hid hless
        clear hp hless
        go_wp2
        go_roundw
        case rel =>
          refine ⟨k + 1, by omega, by go_num, fun q hq => ?_, by first | rfl | trivial⟩
          rw [take_snocA _ _ _ HP.out] at hq
          rcases List.mem_append.1 hq with hq | hq
          · exact HALL.out q hq
          · simp at hq; subst hq; exact HL.out
        case measure => simp [intOf]; omega
      · have hbl : Op.bytesLess p.1 name.toList = false := by rw [Lib.toList_data, Go.Proofs.bytesLess_eq]; simpa using hless
        by_cases heq : p.1 = bs name
        · have hq : p.1 = name.toList := by rw [heq, Lib.toList_data]
          have hbl2 : Op.bytesLess name.toList name.toList = false := by rw [Go.Proofs.bytesLess_eq]; simp
          have HP : Hid (s.fs[k]? = some (bs name, p.2)) := by show _ = _; rw [hp, ← heq]
          clear hp heq hless
          go_wp2
          go_ret
          have hlk : look s.fs (bs name) = some p.2 := mem_look HSRT.out (List.mem_of_getElem? HP.out)
          have hpl : placeS s.fs (bs name) = s.fs := by unfold placeS; rw [hlk]; rfl
          refine ⟨k, rfl, ?_, ⟨.slice (some ⟨g, 0, none⟩) s.fs.length c, ?_⟩, Kept.refl _ _⟩
          · rw [hpl, getF_look hlk]; exact HP.out
          · rw [hpl]; exact HRO.out
        · have hq : ¬ p.1 = name.toList := fun e => heq (by rw [e, Lib.toList_data])
          have hq2 : (p.1 == name.toList) = false := by rw [beq_eq_false_iff_ne]; exact hq
          have hgt : ∀ q ∈ s.fs.drop k, bs name < q.1 := by
            intro q hq'
            have hpk : bs name < p.1 := ltN hless heq
            obtain ⟨hk', e⟩ := List.getElem?_eq_some_iff.1 hp
            rw [List.drop_eq_getElem_cons hk', e] at hq'
            have hso := HSRT.out
            rw [← List.take_append_drop k s.fs, List.drop_eq_getElem_cons hk', e] at hso
            rcases List.mem_cons.1 hq' with rfl | hq'
            · exact hpk
            · have := (List.pairwise_append.1 hso).2.1
              exact ltT hpk ((List.pairwise_cons.1 this).1 q hq')
          have hpu : putF s.fs (bs name) F.zero = s.fs.take k ++ (bs name, F.zero) :: s.fs.drop k := by
            have := put_split (f := F.zero) HALL.out hgt
            rw [List.take_append_drop] at this; exact this
          have HPUT := Lib.hid (And.intro hpu hn)
          have HLK : Hid (look s.fs (bs name) = none) := look_none (fun q hq' e => by
            rw [← List.take_append_drop k s.fs] at hq'
            rcases List.mem_append.1 hq' with hq' | hq'
            · exact ltne (HALL.out q hq') e
            · exact ltne (hgt q hq') e.symm)
          clear hp hgt hpu heq hless
          obtain ⟨V1, v1a, v1b, s1⟩ := ref_slice_to hR.out k hk
          have S1 := Lib.hid s1
          clear s1
          go_wp2_with (at_builtin; go_loud (refine wpList_append_src rfl _ _ 37 rfl wr.heap.size 73 i0 (.agg #[.string ⟨#[]⟩, .string ⟨#[]⟩, .int .i64 0, .bool false]) 4 48 Try.underlying37 hi hz0 hz1 hz2 rfl (by decide) _ 0 [] rfl (World.ownsRow_nil _ _ _ _) _ k (refL (s.fs.take k)) rfl S1.out (by rw [refL_len, List.length_take]; omega) (refL_one _) (by unfold maxLen; omega) (by omega) (Nat.le_refl _) ?_))
          intro v1 w1 ho1 hg1
          have B1 : Hid (Below wr.heap.size wr w1) := (Below.refl _ _).grown hg1 (Nat.le_refl _) (fun j hj => by cases hj)
          have HO1 := Lib.hid ho1
          have hsz1 := B1.out.size
          clear ho1 hg1 v1a v1b
          go_wp2_with (at_builtin; go_loud (refine wpList_append_src rfl _ _ 37 rfl wr.heap.size 73 i0 (.agg #[.string ⟨#[]⟩, .string ⟨#[]⟩, .int .i64 0, .bool false]) 4 48 Try.underlying37 hi hz0 hz1 hz2 rfl (by decide) _ _ _ rfl (HO1.out.alloc _) _ 1 [.string name, .string ⟨#[]⟩, .int .i64 0, .bool false] rfl (.inr ⟨⟨_, 0, none⟩, _, rfl, newsAt _ _ [.string name, .string ⟨#[]⟩, .int .i64 0, .bool false] _ (by simp)⟩) rfl (ones4 _) (by unfold maxLen; omega) (by omega) (by simp; omega) ?_))
          intro v2 w2 ho2 hg2
          have B2 : Hid (Below wr.heap.size wr w2) := (B1.out.alloc B1.out.size _).grown hg2 (by simp; omega) (fun j hj => (HO1.out.lt j hj).1)
          have HO2 := Lib.hid ho2
          have c1' : w2.cell? ⟨rb, 1, none⟩ = _ := (B2.out.cell (p := ⟨rb, 1, none⟩) hlt0).trans c1
          have hR2 := RowIn.keep (S' := S) hR.out B2.out.size (fun g _ hl => B2.out.block g hl) (fun _ _ hg => hg)
          obtain ⟨V2, v2a, v2b, s2⟩ := ref_slice_from hR2 k hk
          have S2 := Lib.hid s2
          have hsz2 := B2.out.size
          clear ho2 hg2 hR2 s2
          go_wp2_with (at_builtin; go_loud (refine wpList_append_src rfl _ _ 37 rfl wr.heap.size 73 i0 (.agg #[.string ⟨#[]⟩, .string ⟨#[]⟩, .int .i64 0, .bool false]) 4 48 Try.underlying37 hi hz0 hz1 hz2 rfl (by decide) _ _ _ rfl HO2.out _ (s.fs.length - k) (refL (s.fs.drop k)) rfl S2.out (by rw [refL_len, List.length_drop]) (refL_one _) (by unfold maxLen; omega) (by omega) hsz2 ?_))
          intro v3 w3 ho3 hg3
          obtain ⟨va3, vc3, rfl⟩ := row_slice ho3
          have B3 : Hid (Below wr.heap.size wr w3) := B2.out.grown hg3 hsz2 (fun j hj => (HO2.out.lt j hj).1)
          have HO3 := Lib.hid ho3
          have f1' : w3.frozen? ⟨rb, 1, none⟩ = false := by rw [World.frozen?_of_block (a := ⟨rb, 1, none⟩) (B3.out.block rb hlt0)]; exact f1
          have cc1 : w3.cell? ⟨rb, 1, none⟩ = _ := (B3.out.cell (p := ⟨rb, 1, none⟩) hlt0).trans c1
          clear ho3 hg3
          go_wp2
          go_ret
          exact place_end HRO.out hS hk HPUT.out HLK.out B3.out (by have := HO3.out; simpa using this)
    · have hlti : ¬ (k : Int) < (s.fs.length : Int) := by omega
      have hke : k = s.fs.length := by omega
      have hpu : putF s.fs (bs name) F.zero = s.fs.take k ++ (bs name, F.zero) :: s.fs.drop k := by
        have := put_split (f := F.zero) (B := s.fs.drop k) HALL.out (by rw [hke]; simp)
        rw [List.take_append_drop] at this; exact this
      have HPUT := Lib.hid (And.intro hpu hn)
      have HLK : Hid (look s.fs (bs name) = none) := look_none (fun q hq' e => by
        rw [← List.take_of_length_le (l := s.fs) (i := k) (by omega)] at hq'
        exact ltne (HALL.out q hq') e)
      have HKE := Lib.hid hke
      clear hpu hke
      obtain ⟨V1, v1a, v1b, s1⟩ := ref_slice_to hR.out k hk
      have S1 := Lib.hid s1
      clear s1
      go_wp2_with (at_builtin; go_loud (refine wpList_append_src rfl _ _ 37 rfl wr.heap.size 73 i0 (.agg #[.string ⟨#[]⟩, .string ⟨#[]⟩, .int .i64 0, .bool false]) 4 48 Try.underlying37 hi hz0 hz1 hz2 rfl (by decide) _ 0 [] rfl (World.ownsRow_nil _ _ _ _) _ k (refL (s.fs.take k)) rfl S1.out (by rw [refL_len, List.length_take]; omega) (refL_one _) (by unfold maxLen; omega) (by omega) (Nat.le_refl _) ?_))
      intro v1 w1 ho1 hg1
      have B1 : Hid (Below wr.heap.size wr w1) := (Below.refl _ _).grown hg1 (Nat.le_refl _) (fun j hj => by cases hj)
      have HO1 := Lib.hid ho1
      have hsz1 := B1.out.size
      clear ho1 hg1 v1a v1b
      go_wp2_with (at_builtin; go_loud (refine wpList_append_src rfl _ _ 37 rfl wr.heap.size 73 i0 (.agg #[.string ⟨#[]⟩, .string ⟨#[]⟩, .int .i64 0, .bool false]) 4 48 Try.underlying37 hi hz0 hz1 hz2 rfl (by decide) _ _ _ rfl (HO1.out.alloc _) _ 1 [.string name, .string ⟨#[]⟩, .int .i64 0, .bool false] rfl (.inr ⟨⟨_, 0, none⟩, _, rfl, newsAt _ _ [.string name, .string ⟨#[]⟩, .int .i64 0, .bool false] _ (by simp)⟩) rfl (ones4 _) (by unfold maxLen; omega) (by omega) (by simp; omega) ?_))
      intro v2 w2 ho2 hg2
      have B2 : Hid (Below wr.heap.size wr w2) := (B1.out.alloc B1.out.size _).grown hg2 (by simp; omega) (fun j hj => (HO1.out.lt j hj).1)
      have HO2 := Lib.hid ho2
      have c1' : w2.cell? ⟨rb, 1, none⟩ = _ := (B2.out.cell (p := ⟨rb, 1, none⟩) hlt0).trans c1
      have hR2 := RowIn.keep (S' := S) hR.out B2.out.size (fun g _ hl => B2.out.block g hl) (fun _ _ hg => hg)
      obtain ⟨V2, v2a, v2b, s2⟩ := ref_slice_from hR2 k hk
      have S2 := Lib.hid s2
      have hsz2 := B2.out.size
      clear ho2 hg2 hR2 s2
      go_wp2_with (at_builtin; go_loud (refine wpList_append_src rfl _ _ 37 rfl wr.heap.size 73 i0 (.agg #[.string ⟨#[]⟩, .string ⟨#[]⟩, .int .i64 0, .bool false]) 4 48 Try.underlying37 hi hz0 hz1 hz2 rfl (by decide) _ _ _ rfl HO2.out _ (s.fs.length - k) (refL (s.fs.drop k)) rfl S2.out (by rw [refL_len, List.length_drop]) (refL_one _) (by unfold maxLen; omega) (by omega) hsz2 ?_))
      intro v3 w3 ho3 hg3
      obtain ⟨va3, vc3, rfl⟩ := row_slice ho3
      have B3 : Hid (Below wr.heap.size wr w3) := B2.out.grown hg3 hsz2 (fun j hj => (HO2.out.lt j hj).1)
      have HO3 := Lib.hid ho3
      have f1' : w3.frozen? ⟨rb, 1, none⟩ = false := by rw [World.frozen?_of_block (a := ⟨rb, 1, none⟩) (B3.out.block rb hlt0)]; exact f1
      have cc1 : w3.cell? ⟨rb, 1, none⟩ = _ := (B3.out.cell (p := ⟨rb, 1, none⟩) hlt0).trans c1
      clear ho3 hg3
      go_wp2
      go_ret
      exact place_end HRO.out hS hk HPUT.out HLK.out B3.out (by have := HO3.out; simpa using this)
end Go.Proofs.Ytnffjoflkeagfaa
