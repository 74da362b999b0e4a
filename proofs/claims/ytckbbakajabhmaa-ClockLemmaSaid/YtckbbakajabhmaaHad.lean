/- nth, isServer, allHad. -/
import Derived.Test.YtckbbakajabhmaaPlaces
namespace Go.Proofs.Ytckbbakajabhmaa
open Go.RowKit Go.Maps

set_option maxHeartbeats 1000000 in
theorem nth_any {B : Nat → Prop} {w : World} {v : Value} {xs : List Nat} (h : Run B w v xs.length (natsC xs)) (k never : Nat) (hl : xs.length ≤ 1048576) (hk : (k : Int) + 1 ≤ 9223372036854775807) :
    Calls Try.prog 34 #[v, .int .i64 ((k : Int) + 1), .int .i64 (never : Int)] w fun e w' => e = .returned (.int .i64 (nthP xs (k + 1) never : Nat)) ∧ w = w' := by
  have H := Lib.hid h
  obtain ⟨a, c, rfl, hac⟩ := h.slice
  clear h
  by_cases hlt : k + 1 ≤ xs.length
  · have hlti : ¬ (xs.length : Int) < (k : Int) + 1 := by omega
    have hki : (k : Int) < (xs.length : Int) := by omega
    obtain ⟨x, hx⟩ : ∃ x, xs[k]? = some x := ⟨_, List.getElem?_eq_getElem hlt⟩
    obtain ⟨b, off, rfl, _, _, hb3⟩ := Run.get (j := k) H.out (by omega) (by rw [natsC, List.getElem?_map, hx]; rfl)
    have HV : Hid (nthP xs (k + 1) never = x) := by show _ = _; unfold nthP; rw [if_pos hlt, Nat.add_sub_cancel, List.getD_eq_getElem?_getD, hx]; rfl
    have hsub : (k : Int) + 1 - 1 = (k : Int) := by omega
    clear hx
    generalize nthP xs (k + 1) never = r at *
    go_enter Try.func34, Try.ntmps34
    go_wp2
    go_ret
    rw [HV.out]
    exact ⟨rfl, rfl⟩
  · have hlti : (xs.length : Int) < (k : Int) + 1 := by omega
    have HV : Hid (nthP xs (k + 1) never = never) := by show _ = _; unfold nthP; rw [if_neg hlt]
    generalize nthP xs (k + 1) never = r at *
    go_enter Try.func34, Try.ntmps34
    go_wp2
    go_ret
    rw [HV.out]
    exact ⟨rfl, rfl⟩
theorem i64_of {x : Int} (h : (Lit.int .i64 x).wf = true) : I64 x := by
  have e1 : IntKind.i64.min = -9223372036854775808 := by decide
  have e2 : IntKind.i64.max = 9223372036854775807 := by decide
  have h' : (decide (IntKind.i64.min ≤ x) && decide (x ≤ IntKind.i64.max)) = true := h
  rw [e1, e2, Bool.and_eq_true] at h'
  exact ⟨of_decide_eq_true h'.1, of_decide_eq_true h'.2⟩
theorem owns_size {w : World} {b n : Nat} {D : DataW Value} (h : w.ownsMap Try.prog 3 Rv b n D) : Maps.size D ≤ n := by
  obtain ⟨es, clock, hb, F, hs, rfl⟩ := h
  simp [Maps.size, length_sorted]; exact hs
/-- is a node a server -/
def srvB (ms sv i : Int) : Bool := decide (ms ≤ i) && decide (i - ms < sv)
set_option maxHeartbeats 1000000 in
theorem isServer_any {w : World} {ms sv i : Int} (hi : I64 i) (hms : 1 ≤ ms) (hms2 : I64 ms) :
    Calls Try.prog 35 #[.int .i64 i, .int .i64 ms, .int .i64 sv] w fun e w' => e = .returned (.bool (srvB ms sv i)) ∧ w = w' := by
  obtain ⟨h1, h2⟩ := hi
  obtain ⟨h3, h4⟩ := hms2
  by_cases c1 : ms ≤ i
  · have c3 : 0 ≤ i - ms := by omega
    have c4 : i - ms ≤ 9223372036854775807 := by omega
    by_cases c2 : i - ms < sv
    · have HV : Hid (srvB ms sv i = true) := by show _ = _; unfold srvB; rw [decide_eq_true c1, decide_eq_true c2]; rfl
      generalize srvB ms sv i = r at *
      go_enter Try.func35, Try.ntmps35
      go_wp2
      go_ret
      exact ⟨ret_bool HV.out.symm, rfl⟩
    · have c5 : sv ≤ i - ms := by omega
      have HV : Hid (srvB ms sv i = false) := by show _ = _; unfold srvB; rw [decide_eq_false c2, Bool.and_false]
      generalize srvB ms sv i = r at *
      go_enter Try.func35, Try.ntmps35
      go_wp2
      go_ret
      exact ⟨ret_bool HV.out.symm, rfl⟩
  · have c2 : i < ms := by omega
    have HV : Hid (srvB ms sv i = false) := by show _ = _; unfold srvB; rw [decide_eq_false c1, Bool.false_and]
    generalize srvB ms sv i = r at *
    go_enter Try.func35, Try.ntmps35
    go_wp2
    go_ret
    exact ⟨ret_bool HV.out.symm, rfl⟩
/-! mathematics of allHad -/
theorem len_of_subset : ∀ {A B : List Int}, A.Nodup → (∀ x ∈ A, x ∈ B) → A.length ≤ B.length
  | [], _, _, _ => Nat.zero_le _
  | a :: A, B, h, hs => by
    obtain ⟨h1, h2⟩ := List.nodup_cons.1 h
    have ha : a ∈ B := hs a (by simp)
    have := len_of_subset (A := A) (B := B.erase a) h2 (fun x hx => (List.mem_erase_of_ne (fun (e : x = a) => h1 (by rw [← e]; exact hx))).2 (hs x (by simp [hx])))
    rw [List.length_erase_of_mem ha] at this
    have hpos : 0 < B.length := List.length_pos_of_mem ha
    simp only [List.length_cons]
    omega
def srvs (ms : Int) (N : Nat) : List Int := (List.range N).map (fun (s : Nat) => ms + (s : Int))
theorem srvs_nodup (ms : Int) (N : Nat) : (srvs ms N).Nodup := by
  unfold srvs List.Nodup
  rw [List.pairwise_map]
  exact List.nodup_range.imp (fun h => by omega)
theorem mem_srvs {ms x : Int} {N : Nat} : x ∈ srvs ms N ↔ ms ≤ x ∧ x - ms < N := by
  unfold srvs
  rw [List.mem_map]
  constructor
  · rintro ⟨s, hs, rfl⟩
    rw [List.mem_range] at hs
    omega
  · rintro ⟨h1, h2⟩
    exact ⟨(x - ms).toNat, by rw [List.mem_range]; omega, by omega⟩
/-- what is known of the keys that are done -/
structure Had (P : Int → List Nat) (ms sv : Int) (n never : Nat) (done : List Int) (en tk : Nat) : Prop where
  nodup : done.Nodup
  tick : tk = (done.filter (srvB ms sv)).length
  le : ∀ x ∈ done, srvB ms sv x = true → nthP (P x) (n + 1) never ≤ en
  ex : en = 0 ∨ ∃ x ∈ done, srvB ms sv x = true ∧ nthP (P x) (n + 1) never = en
theorem had_start (P : Int → List Nat) (ms sv : Int) (n never : Nat) : Had P ms sv n never [] 0 0 :=
  ⟨List.nodup_nil, rfl, fun _ h => (by cases h), .inl rfl⟩
theorem had_server {P : Int → List Nat} {ms sv : Int} {n never : Nat} {done : List Int} {en tk : Nat} (h : Had P ms sv n never done en tk) {x : Int} (hx : x ∉ done) (hs : srvB ms sv x = true) :
    Had P ms sv n never (x :: done) (max en (nthP (P x) (n + 1) never)) (tk + 1) := by
  refine ⟨List.nodup_cons.2 ⟨hx, h.nodup⟩, by rw [List.filter_cons_of_pos hs, List.length_cons, h.tick], fun y hy hsy => ?_, ?_⟩
  · rcases List.mem_cons.1 hy with rfl | hy
    · omega
    · have := h.le y hy hsy; omega
  · by_cases c : nthP (P x) (n + 1) never ≥ en
    · exact .inr ⟨x, by simp, hs, by omega⟩
    · rcases h.ex with e | ⟨y, hy, hsy, e⟩
      · omega
      · exact .inr ⟨y, by simp [hy], hsy, by omega⟩
theorem had_other {P : Int → List Nat} {ms sv : Int} {n never : Nat} {done : List Int} {en tk : Nat} (h : Had P ms sv n never done en tk) {x : Int} (hx : x ∉ done) (hs : srvB ms sv x = false) :
    Had P ms sv n never (x :: done) en tk := by
  refine ⟨List.nodup_cons.2 ⟨hx, h.nodup⟩, by rw [List.filter_cons_of_neg (by rw [hs]; simp), h.tick], fun y hy hsy => ?_, ?_⟩
  · rcases List.mem_cons.1 hy with rfl | hy
    · rw [hs] at hsy; cases hsy
    · exact h.le y hy hsy
  · rcases h.ex with e | ⟨y, hy, hsy, e⟩
    · exact .inl e
    · exact .inr ⟨y, by simp [hy], hsy, e⟩
theorem srv_of {ms sv : Int} {s : Nat} (h : (s : Int) < sv) : srvB ms sv (ms + s) = true := by
  unfold srvB; rw [decide_eq_true (by omega), decide_eq_true (by omega)]; rfl
theorem of_srv {ms sv x : Int} (h : srvB ms sv x = true) : ms ≤ x ∧ x - ms < sv := by
  unfold srvB at h
  rw [Bool.and_eq_true] at h
  exact ⟨of_decide_eq_true h.1, of_decide_eq_true h.2⟩
/-- at the end -/
theorem had_end {l : List Int} {ms sv : Int} {n : Nat} {done : List Int} {en tk : Nat} (h : Had (fun j => pos 0 l j) ms sv n l.length done en tk) (hsv : 1 ≤ sv) (hall : ∀ x, pos 0 l x ≠ [] → x ∈ done) :
    Sup l ms sv n 0 (if (tk : Int) < sv then l.length else en) := by
  have hat : ∀ j, at_ l 0 j (n + 1) = nthP (pos 0 l j) (n + 1) l.length := fun j => by unfold at_; rw [List.drop_zero]
  split
  · rename_i c
    refine ⟨fun s _ => at_le_len l (Nat.zero_le _) _ _, ?_⟩
    -- one of them has no tick
    have hne : ¬ ∀ x ∈ srvs ms (tk + 1), x ∈ done.filter (srvB ms sv) := fun hs => by
      have := len_of_subset (srvs_nodup ms (tk + 1)) hs
      rw [← h.tick, srvs, List.length_map, List.length_range] at this
      omega
    obtain ⟨x, hx⟩ := Classical.not_forall.1 hne
    rw [Classical.not_imp] at hx
    obtain ⟨h1, h2⟩ := mem_srvs.1 hx.1
    refine ⟨(x - ms).toNat, by omega, ?_⟩
    have hxm : ms + ((x - ms).toNat : Int) = x := by omega
    rw [hxm, hat]
    have hnil : pos 0 l x = [] := by
      apply Classical.byContradiction
      intro hne
      have hd := hall x hne
      exact hx.2 (List.mem_filter.2 ⟨hd, by have := srv_of (ms := ms) (sv := sv) (s := (x - ms).toNat) (by omega); rwa [hxm] at this⟩)
    rw [hnil]
    simp [nthP]
  · rename_i c
    have hin : ∀ s : Nat, (s : Int) < sv → (ms + s) ∈ done := fun s hs => by
      apply Classical.byContradiction
      intro hn
      have hsub : ∀ x ∈ done.filter (srvB ms sv), x ∈ (srvs ms sv.toNat).erase (ms + s) := fun x hx => by
        obtain ⟨h1, h2⟩ := List.mem_filter.1 hx
        have := of_srv h2
        exact (List.mem_erase_of_ne (fun (e : x = ms + (s : Int)) => hn (by rw [← e]; exact h1))).2 (mem_srvs.2 ⟨this.1, by omega⟩)
      have h3 := len_of_subset (h.nodup.filter _) hsub
      rw [List.length_erase_of_mem (mem_srvs.2 ⟨by omega, by omega⟩), ← h.tick, srvs, List.length_map, List.length_range] at h3
      omega
    refine ⟨fun s hs => by rw [hat]; exact h.le _ (hin s hs) (srv_of hs), ?_⟩
    rcases h.ex with e | ⟨x, hx, hs, e⟩
    · refine ⟨0, by omega, ?_⟩
      have := h.le _ (hin 0 (by omega)) (srv_of (by omega))
      rw [hat]; omega
    · have := of_srv hs
      refine ⟨(x - ms).toNat, by omega, ?_⟩
      rw [show ms + ((x - ms).toNat : Int) = x by omega, hat]
      exact e

set_option maxRecDepth 100000 in
set_option maxHeartbeats 4000000 in
theorem allHad_any {w : World} {base mb : Nat} {g : Int → Option Slot} {l : List Int} {ms sv : Int} {n : Nat} (h : Rd w base mb l.length g (fun j => pos 0 l j)) (hl : l.length ≤ 1048576) (hi64 : ∀ x ∈ l, I64 x) (hms : 1 ≤ ms) (hms2 : I64 ms) (hsv : 1 ≤ sv)
    (hn : (n : Int) + 1 ≤ 9223372036854775807) :
    Calls Try.prog 33 #[.map (some mb), .int .i64 ms, .int .i64 sv, .int .i64 ((n : Int) + 1), .int .i64 (l.length : Int)] w fun e w' => (∃ en : Nat, e = .returned (.int .i64 (en : Int)) ∧ Sup l ms sv n 0 en) ∧ Below w.heap.size w w' := by
  obtain ⟨hm, hr, hno⟩ := h
  obtain ⟨D, h1, h2, h3⟩ := hm
  have HM := Lib.hid h1
  have H2 := Lib.hid h2
  have H3 := Lib.hid h3
  have HR := Lib.hid hr
  have HN := Lib.hid hno
  have H64 := Lib.hid hi64
  clear h1 h2 h3 hr hno hi64
  go_enter Try.func33, Try.ntmps33
  go_wp2_with (first | (at_range; refine wpList_range_own _ rfl _ 57 rfl 3 22 lawI Try.underlying57 Rv mb l.length D rfl HM.out ?_; intro w0 hrg0 hg0 hs0) | go_in)
  go_frame
  go_loopw [11, 12, 13, 14] (fun e t _ _ wr => ∃ (left : Lit → Bool) (cnt : Nat) (done : List Int) (en tk : Nat), e = .int .i64 (en : Int) ∧ t = .int .i64 (tk : Int) ∧ tk + cnt ≤ l.length ∧ wr.ranges Try.prog 3 Rv mb w.heap.size l.length D left cnt ∧ Hid (Below w.heap.size w wr) ∧ Hid (∀ x, left (.int .i64 x) = (Maps.has D (.int .i64 x) && !done.contains x)) ∧ Hid (Had (fun j => pos 0 l j) ms sv n l.length done en tk)) (fun _ _ _ _ wr => wr.rangeLeft mb w.heap.size)
  case atStart => exact ⟨_, _, [], 0, 0, rfl, rfl, by have := owns_size HM.out; omega, hrg0, (Below.refl _ _).grown hg0 (Nat.le_refl _) (fun k hk => by cases hk), fun x => by simp, had_start _ _ _ _ _⟩
  case round =>
    obtain ⟨left, cnt, done, en, tk, rfl, rfl, htc, hrg, HB, HL, HA⟩ := hrel
    have hinvK : ∀ key kl, keyOf Try.prog 3 key = some kl → ∃ x, key = Value.int .i64 x := fun key kl h => by
      obtain ⟨x, e, _⟩ := Maps.keyOf_int_inv Try.underlying3 h
      exact ⟨x, e⟩
    have hinvV : ∀ (v : Value) (y : DataW Value × List MemPlace), Rv v = some y → ∃ c : Value, v = c := fun v _ _ => ⟨v, rfl⟩
    go_wp2_with (first | (at_next; refine wpList_next_ranges _ rfl _ rfl 3 lawI Rv (Value.int .i64) (fun (v : Value) => v) hinvK hinvV mb w.heap.size l.length D left cnt rfl hrg ?_ ?_) | go_in)
    · intro _ hl0
      have hall : ∀ x, pos 0 l x ≠ [] → x ∈ done := fun x hne => by
        have h1 := HL.out x
        rw [hl0, H2.out] at h1
        have h2 : (g x).isSome = true := by
          cases e : g x with
          | none => exact absurd (HN.out x e) hne
          | some s => rfl
        rw [h2] at h1
        simpa using h1
      have HE := Lib.hid (had_end HA.out hsv hall)
      clear hl0 hall
      by_cases ht : (tk : Int) < sv
      · rw [if_pos ht] at HE
        go_wp2
        go_ret
        exact ⟨⟨_, rfl, HE.out⟩, HB.out⟩
      · have ht' : sv ≤ (tk : Int) := by omega
        rw [if_neg ht] at HE
        go_wp2
        go_ret
        exact ⟨⟨_, rfl, HE.out⟩, HB.out⟩
    · intro x c kl y1 y2 w1 cnt1 hkey hlx hv hat hrg1 hlt1 hg1 hs1 hen
      obtain ⟨x', ex, rfl, hwx⟩ := Maps.keyOf_int_inv Try.underlying3 hkey
      cases ex
      have hx64 : I64 x := i64_of hwx
      have h1 := HL.out x
      rw [hlx] at h1
      have h1' := h1.symm
      rw [Bool.and_eq_true] at h1'
      have hnd : x ∉ done := by simpa using h1'.2
      obtain ⟨s, hgs⟩ := Option.isSome_iff_exists.1 ((H2.out x).symm.trans h1'.1)
      obtain rfl : c = slV s := by
        have e1 : y1 = .held c := by
          have := hv
          simp only [Rv, Option.some.injEq, Prod.mk.injEq] at this
          exact this.1.symm
        have e2 := H3.out x s hgs (.held c)
        rw [hat, e1] at e2
        cases e2; rfl
      have hB1 : Below w.heap.size w w1 := HB.out.grown hg1 HB.out.size (fun k hk => by cases hk; exact Nat.le_refl _)
      have hrun := (HR.out x s hgs).below hB1
      have hlen := pos_len_le l 0 x
      have HL1 : Hid (∀ y, (left (.int .i64 y) && !(Lit.int .i64 y).sameKey (.int .i64 x)) = (Maps.has D (.int .i64 y) && !(x :: done).contains y)) := fun y => by
        by_cases e : y = x
        · subst e; simp [Lit.sameKey]
        · rw [Maps.sameKey_ne (by simpa using e), HL.out y]
          simp [e]
      have HB1 := Lib.hid hB1
      have HIS := Lib.hid (isServer_any (w := w1) (sv := sv) hx64 hms hms2)
      have HNT := Lib.hid (nth_any hrun n l.length (by omega) hn)
      have HND := Lib.hid hnd
      clear hkey hlx hv hat h1 h1' hwx hgs hg1 hs1 hB1 hrun hnd
      cases hs : srvB ms sv x with
      | true =>
        rw [hs] at HIS
        have HA1 := Lib.hid (had_server HA.out HND.out hs)
        clear hs
        generalize nthP (pos 0 l x) (n + 1) l.length = q at *
        by_cases hq : en < q
        · rw [show max en q = q by omega] at HA1
          have hqi : (en : Int) < (q : Int) := by omega
          go_wp2_with fail
          refine HIS.out.mono ?_
          rintro e w2 ⟨rfl, rfl⟩
          go_wp2_with fail
          refine HNT.out.mono ?_
          rintro e w2 ⟨rfl, rfl⟩
          go_wp2
          go_roundw
          case rel => exact ⟨_, cnt1, _, q, tk + 1, rfl, by go_num, by omega, hrg1, HB1, HL1, HA1⟩
          case measure => rw [hrg1.left_eq, hrg.left_eq]; omega
        · rw [show max en q = en by omega] at HA1
          have hqi : (q : Int) ≤ (en : Int) := by omega
          go_wp2_with fail
          refine HIS.out.mono ?_
          rintro e w2 ⟨rfl, rfl⟩
          go_wp2_with fail
          refine HNT.out.mono ?_
          rintro e w2 ⟨rfl, rfl⟩
          go_wp2
          go_roundw
          case rel => exact ⟨_, cnt1, _, en, tk + 1, rfl, by go_num, by omega, hrg1, HB1, HL1, HA1⟩
          case measure => rw [hrg1.left_eq, hrg.left_eq]; omega
      | false =>
        rw [hs] at HIS
        have HA1 := Lib.hid (had_other HA.out HND.out hs)
        clear hs
        go_wp2_with fail
        refine HIS.out.mono ?_
        rintro e w2 ⟨rfl, rfl⟩
        go_wp2
        go_roundw
        case rel => exact ⟨_, cnt1, _, en, tk, rfl, rfl, by omega, hrg1, HB1, HL1, HA1⟩
        case measure => rw [hrg1.left_eq, hrg.left_eq]; omega
end Go.Proofs.Ytckbbakajabhmaa
