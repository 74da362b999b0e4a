/- At: the program's and the document's. -/
import Derived.Test.YtheldpdckgoniaaSend
namespace Go.Proofs.Ytheldpdckgoniaa
open Go.RowKit

/-- the message at a place -/
def getI (ms : List Msg) (i : Int) : Option Msg := if i < 0 then none else ms[i.toNat]?
theorem getI_some {ms : List Msg} {i : Int} {m : Msg} (h : getI ms i = some m) : ∃ k : Nat, i = k ∧ k < ms.length ∧ ms[k]? = some m := by
  unfold getI at h
  split at h
  · cases h
  · exact ⟨i.toNat, by omega, (List.getElem?_eq_some_iff.1 h).1, h⟩
theorem getI_none {ms : List Msg} {i : Int} (h : getI ms i = none) : i < 0 ∨ (ms.length : Int) ≤ i := by
  unfold getI at h
  split at h
  · left; assumption
  · rw [List.getElem?_eq_none_iff] at h; right; omega
theorem RowM.get {S : Nat → Prop} {w : World} {b k : Nat} {a : Option Addr} {n c : Nat} {xs : List X} {x : X} (h : RowM S w b (.slice a n c) xs) (hx : xs[k]? = some x) :
    ∃ g, a = some ⟨g, 0, none⟩ ∧ n ≤ c ∧ g < w.heap.size ∧
    w.cell? ⟨g, k * 11, none⟩ = some (.int .u8 x.1.k) ∧ w.cell? ⟨g, k * 11 + 1, none⟩ = some (.int .i64 x.1.f) ∧ w.cell? ⟨g, k * 11 + 2, none⟩ = some (.int .i64 x.1.t) ∧ w.cell? ⟨g, k * 11 + 3, none⟩ = some (.int .i64 x.1.tm) ∧ w.cell? ⟨g, k * 11 + 4, none⟩ = some (.int .i64 x.1.a) ∧
    w.cell? ⟨g, k * 11 + 5, none⟩ = some (.int .i64 x.1.b) ∧ w.cell? ⟨g, k * 11 + 6, none⟩ = some (.int .i64 x.1.c) ∧ w.cell? ⟨g, k * 11 + 7, none⟩ = some (.bool x.1.ok) ∧ w.cell? ⟨g, k * 11 + 8, none⟩ = some x.2.1 ∧ w.cell? ⟨g, k * 11 + 9, none⟩ = some x.2.2 ∧ w.cell? ⟨g, k * 11 + 10, none⟩ = some (.string x.1.d) := by
  have hlt := (List.getElem?_eq_some_iff.1 hx).1
  have ha : ∃ g, a = some ⟨g, 0, none⟩ := by
    rcases h.row.2 with ⟨_, h0⟩ | ⟨g, cap, cur, e, _⟩
    · omega
    · cases e; exact ⟨g, rfl⟩
  obtain ⟨g, rfl⟩ := ha
  obtain ⟨b', off, e, _, hc, _, hl, r⟩ := h.msgs.get hx
  cases e
  rw [Nat.zero_add] at r
  exact ⟨g, rfl, hc, hl, r⟩
/-- a message out of a box, and a bool beside it -/
theorem results_pair {P : Program} {fn : Func} {p t : Tmp} {ty : TypeId} (h : fn.results = #[.cell p ty, .tmp t]) (tmps : Array Value) (w : World) (g : Nat) (tt : TypeId) (cs : Array Value) (fr : Nat × Nat) (d : TypeDesc)
    (hp : tmps.getD p undef = .pointer (some ⟨g, 0, none⟩)) (hg : w.heap[g]? = some (.cells cs tt fr))
    (hu : P.underlying ty = some d) (hd : (match d with | .struct _ | .array _ _ => true | _ => false) = true) (hi : (P.info? ty).map (·.size) = some cs.size) :
    (results fn tmps).run P w = .ok (.tuple #[.agg cs, tmps.getD t undef]) w := by
  have hp' : tmps[p]?.getD undef = .pointer (some ⟨g, 0, none⟩) := by simpa using hp
  simp [results, h, hp', asAddr, run_loadVar_row w g tt ty cs fr d hg hu hd hi, Result.andThen]
/-- what At, and Take, hand back of the message -/
def AtRes (ms : List Msg) (i : Int) (lo hi : Nat) (e : Ending) (w : World) : Prop :=
  ∃ la lc ea ec, e = .returned (.tuple #[((getI ms i).getD noMsg).agg (.slice la ((getI ms i).getD noMsg).l.length lc) (.slice ea ((getI ms i).getD noMsg).es.length ec), .bool (getI ms i).isSome]) ∧
    LI (fun k => lo ≤ k ∧ k < hi) w ((getI ms i).getD noMsg) (.slice la ((getI ms i).getD noMsg).l.length lc) (.slice ea ((getI ms i).getD noMsg).es.length ec)
/-- .. whose lists may be written over -/
def AtSoft (ms : List Msg) (i : Int) (lo hi : Nat) (e : Ending) (w : World) : Prop :=
  ∃ la lc ea ec, e = .returned (.tuple #[((getI ms i).getD noMsg).agg (.slice la ((getI ms i).getD noMsg).l.length lc) (.slice ea ((getI ms i).getD noMsg).es.length ec), .bool (getI ms i).isSome]) ∧
    LI (fun k => lo ≤ k ∧ k < hi ∧ Soft w k) w ((getI ms i).getD noMsg) (.slice la ((getI ms i).getD noMsg).l.length lc) (.slice ea ((getI ms i).getD noMsg).es.length ec)
theorem AtSoft.plain {ms : List Msg} {i : Int} {lo hi : Nat} {e : Ending} {w : World} (h : AtSoft ms i lo hi e w) : AtRes ms i lo hi e w := by
  obtain ⟨la, lc, ea, ec, h1, h2⟩ := h
  exact ⟨la, lc, ea, ec, h1, h2.mono (fun _ _ hk => ⟨hk.1, hk.2.1⟩)⟩
set_option maxHeartbeats 4000000 in
set_option maxRecDepth 100000 in
theorem At_soft {S : Nat → Prop} {w : World} {b most : Nat} {ms : List Msg} (h : BagAt BagT S w b most ms) (i : Int) :
    Calls Try.prog 19 #[ptrV b, .int .i64 i] w fun e w' => AtSoft ms i w.heap.size w'.heap.size e w' ∧ Below w.heap.size w w' := by
  obtain ⟨v, xs, rfl, h⟩ := h
  have HI : Hid ((Try.prog.info? 38).map (·.size) = some 11) := infoMsg
  obtain ⟨wa, hwa⟩ : ∃ wa, wa = w.alloc (.cells #[.int .u8 0, .int .i64 0, .int .i64 0, .int .i64 0, .int .i64 0, .int .i64 0, .int .i64 0, .bool false, .slice none 0 0, .slice none 0 0, .string ⟨#[]⟩] 38) := ⟨_, rfl⟩
  have hba : Below w.heap.size w wa := by rw [hwa]; exact (Below.refl _ _).alloc (Nat.le_refl _) _
  have hxa : wa.heap[w.heap.size]? = some (.cells #[.int .u8 0, .int .i64 0, .int .i64 0, .int .i64 0, .int .i64 0, .int .i64 0, .int .i64 0, .bool false, .slice none 0 0, .slice none 0 0, .string ⟨#[]⟩] 38 (0, 0)) := by rw [hwa]; exact heap_alloc_new w _
  have hsa : wa.heap.size = w.heap.size + 1 := by rw [hwa]; simp
  have h1 := h.keep hba.size (fun g _ hl => hba.block g hl) (fun _ _ hg => hg)
  have hl := list_any h1
  obtain ⟨a, c, rfl⟩ := h1.rm.slice
  have HA := Lib.hid hwa
  have HX := Lib.hid hxa
  cases hg : getI (xs.map (·.1)) i with
  | none =>
    have hn := getI_none hg
    have HG : Hid (∀ hi, AtSoft (xs.map (·.1)) i w.heap.size hi (.returned (.tuple #[noMsg.agg (.slice none 0 0) (.slice none 0 0), .bool false])) (wa.setRow w.heap.size #[.int .u8 0, .int .i64 0, .int .i64 0, .int .i64 0, .int .i64 0, .int .i64 0, .int .i64 0, .bool false, .slice none 0 0, .slice none 0 0, .string ⟨#[]⟩])) := by
      intro hi
      refine ⟨none, 0, none, 0, ?_, ?_⟩
      · rw [hg]; rfl
      · rw [hg]; exact ⟨Run.nil _ _ _, Run.nil _ _ _⟩
    rw [List.length_map] at hn
    have HB := Lib.hid hba
    clear hwa hxa h h1 hg hba
    go_enter Try.func19, Try.ntmps19
    go_wp2_with fail
    rw [← HA.out]
    refine hl.mono ?_
    rintro e w1 ⟨rfl, rfl⟩
    by_cases hi : i < 0
    · go_wp2_with (go_loud (refine wpList_store_row rfl 38 _ _ rfl w.heap.size #[.int .u8 0, .int .i64 0, .int .i64 0, .int .i64 0, .int .i64 0, .int .i64 0, .int .i64 0, .bool false, .slice none 0 0, .slice none 0 0, .string ⟨#[]⟩] rfl rfl 38 _ HX.out HI.out rfl (msg_one noMsg none none 0 0 0 0) ?_))
      refine bodyPost_ret (v := .tuple #[noMsg.agg (.slice none 0 0) (.slice none 0 0), .bool false]) (results_pair (fn := Try.f19) (p := 4) (t := 5) rfl _ _ w.heap.size 38 #[.int .u8 0, .int .i64 0, .int .i64 0, .int .i64 0, .int .i64 0, .int .i64 0, .int .i64 0, .bool false, .slice none 0 0, .slice none 0 0, .string ⟨#[]⟩] (0, 0) _ rfl (setRow_heap _ _ _ _ _ _ HX.out) Try.underlying38 rfl HI.out) rfl ⟨HG.out _, below_setRow HB.out (Nat.le_refl _) _⟩
    · have hi2 : (xs.length : Int) ≤ i := by omega
      go_wp2_with (go_loud (refine wpList_store_row rfl 38 _ _ rfl w.heap.size #[.int .u8 0, .int .i64 0, .int .i64 0, .int .i64 0, .int .i64 0, .int .i64 0, .int .i64 0, .bool false, .slice none 0 0, .slice none 0 0, .string ⟨#[]⟩] rfl rfl 38 _ HX.out HI.out rfl (msg_one noMsg none none 0 0 0 0) ?_))
      refine bodyPost_ret (v := .tuple #[noMsg.agg (.slice none 0 0) (.slice none 0 0), .bool false]) (results_pair (fn := Try.f19) (p := 4) (t := 5) rfl _ _ w.heap.size 38 #[.int .u8 0, .int .i64 0, .int .i64 0, .int .i64 0, .int .i64 0, .int .i64 0, .int .i64 0, .bool false, .slice none 0 0, .slice none 0 0, .string ⟨#[]⟩] (0, 0) _ rfl (setRow_heap _ _ _ _ _ _ HX.out) Try.underlying38 rfl HI.out) rfl ⟨HG.out _, below_setRow HB.out (Nat.le_refl _) _⟩
  | some m =>
    obtain ⟨k, rfl, hk, hm⟩ := getI_some hg
    rw [List.length_map] at hk
    obtain ⟨x, hx, rfl⟩ : ∃ x, xs[k]? = some x ∧ x.1 = m := by
      rw [List.getElem?_map] at hm
      obtain ⟨x, h1, h2⟩ := Option.map_eq_some_iff.1 hm
      exact ⟨x, h1, h2⟩
    obtain ⟨m, lv, ev⟩ := x
    obtain ⟨g, rfl, hcap, hgl, x0, x1, x2, x3, x4, x5, x6, x7, x8, x9, x10⟩ := h1.rm.get hx
    have hli := h1.rm.li _ (List.mem_of_getElem? hx)
    have hsm := h1.rm.sm _ (List.mem_of_getElem? hx)
    simp only at x0 x1 x2 x3 x4 x5 x6 x7 x8 x9 x10 hli hsm hg
    obtain ⟨⟨la, lc, e8⟩, ea, ec, e9⟩ := hli.slv (x := (m, lv, ev))
    simp only at e8 e9
    subst e8 e9
    have ht := told_soft hli hsm
    have HT := Lib.hid ht
    have hkI : (k : Int) < (xs.length : Int) := by omega
    have HGI := Lib.hid hg
    have HB := Lib.hid hba
    clear hwa hxa h h1 hg hm hx hli hsm ht hba
    go_enter Try.func19, Try.ntmps19
    go_wp2_with fail
    rw [← HA.out]
    refine hl.mono ?_
    rintro e w1 ⟨rfl, rfl⟩
    go_wp2_with fail
    refine HT.out.mono ?_
    rintro e w2 ⟨lv2, ev2, rfl, hl2, hb2⟩
    obtain ⟨la2, lc2, rfl, _⟩ := hl2.1.slice
    obtain ⟨ea2, ec2, rfl, _⟩ := hl2.2.slice
    have HX2 := Lib.hid (box_below HX.out hb2)
    have HL2 := Lib.hid hl2
    have HB2 := Lib.hid (HB.out.trans (hb2.mono HB.out.size))
    clear hl2 hb2
    go_wp2_with (go_loud (refine wpList_store_row rfl 38 _ _ rfl w.heap.size (m.arr (.slice la2 m.l.length lc2) (.slice ea2 m.es.length ec2)) rfl rfl 38 _ HX2.out HI.out rfl (msg_one m _ _ _ _ _ _) ?_))
    refine bodyPost_ret (v := .tuple #[m.agg (.slice la2 m.l.length lc2) (.slice ea2 m.es.length ec2), .bool true]) (results_pair (fn := Try.f19) (p := 4) (t := 5) rfl _ _ w.heap.size 38 (m.arr (.slice la2 m.l.length lc2) (.slice ea2 m.es.length ec2)) (0, 0) _ rfl (setRow_heap _ _ _ _ _ _ HX2.out) Try.underlying38 rfl HI.out) rfl ⟨⟨la2, lc2, ea2, ec2, ?_, ?_⟩, below_setRow HB2.out (Nat.le_refl _) _⟩
    · rw [HGI.out]; rfl
    · rw [HGI.out]
      have h3 : LI (fun k => w.heap.size < k ∧ Soft w2 k) w2 m (.slice la2 m.l.length lc2) (.slice ea2 m.es.length ec2) := HL2.out.mono (fun k _ hk => ⟨by have := hk.1; omega, hk.2⟩)
      exact (h3.keep (by simp [World.setRow]) (fun g hg _ => setRow_other _ _ g _ (by have := hg.1; omega))).mono (fun k hl hk => ⟨by have := hk.1; omega, hl, hk.2.eq (setRow_other _ _ k _ (by have := hk.1; omega))⟩)
theorem At_any {S : Nat → Prop} {w : World} {b most : Nat} {ms : List Msg} (h : BagAt BagT S w b most ms) (i : Int) :
    Calls Try.prog 19 #[ptrV b, .int .i64 i] w fun e w' => AtRes ms i w.heap.size w'.heap.size e w' ∧ Below w.heap.size w w' :=
  (At_soft h i).mono (fun _ _ hh => ⟨hh.1.plain, hh.2⟩)
end Go.Proofs.Ytheldpdckgoniaa
