/- All, and what goes through it. -/
import Derived.Test.YtheldpdckgoniaaRange
namespace Go.Proofs.Ytheldpdckgoniaa
open Go.RowKit

set_option maxHeartbeats 2000000 in
set_option maxRecDepth 100000 in
theorem cloneM_any {B : Nat → Prop} {w : World} {v : Value} {xs : List X} (h : MsgsIn B w v xs) (hl : xs.length ≤ 1048576) :
    Calls Try.prog 34 #[v] w fun e w' => ∃ v', e = .returned v' ∧ w'.ownsRow w.heap.size 38 11 v' xs.length (rowC xs) ∧ Below w.heap.size w w' := by
  obtain ⟨i0, hi, hz0, hz1, hz2⟩ := info_parts info_msg
  have hone := Lib.hid (rowC_one xs h.slv)
  have hr := h.1
  clear h
  obtain ⟨va, vc, rfl, hvc⟩ := hr.slice
  cases va with
  | none =>
    obtain ⟨_, _, e, _, h2, _⟩ := hr
    cases e
    obtain ⟨e1, e2⟩ := h2 rfl
    have e3 := List.length_eq_zero_iff.1 e1
    subst e3 e2
    have hnil := fun w' => Lib.run_eql_slice_nil (P := Try.prog) w' 29 38 none 0 0 0 0 Try.underlying29
    clear h2
    go_enter Try.func34, Try.ntmps34
    go_wp2
    go_ret
    exact ⟨_, rfl, World.ownsRow_nil _ _ _ _, Below.refl _ _⟩
  | some ad =>
    have HL := Lib.hid ((hr.below ((Below.refl _ w).alloc (Nat.le_refl _) (.cells #[] 38))).src (fun e => by rw [List.length_eq_zero_iff.1 e]; rfl))
    clear hr
    have hnil := fun w' => Lib.run_eql_slice_nil (P := Try.prog) w' 29 38 (some ad) xs.length vc 0 0 Try.underlying29
    go_enter Try.func34, Try.ntmps34
    go_wp2_with (at_builtin; go_loud (refine wpList_append_row rfl _ _ 29 rfl w.heap.size 38 i0 (.agg #[.int .u8 0, .int .i64 0, .int .i64 0, .int .i64 0, .int .i64 0, .int .i64 0, .int .i64 0, .bool false, .slice none 0 0, .slice none 0 0, .string ⟨#[]⟩]) 11 128 Try.underlying29 hi hz0 hz1 hz2 rfl (by decide) _ 0 [] rfl (World.ownsRow_lit w #[] 0 (Nat.le_refl _) (by decide) rfl) _ xs.length (rowC xs) rfl HL.out (rowC_len xs) hone.out (by unfold maxLen; omega) (by omega) (by simp) ?_))
    intro v' w2 ho hg _
    have HO := Lib.hid ho
    have HB : Hid (Below w.heap.size w w2) := ((Below.refl _ w).alloc (Nat.le_refl _) _).grown hg (by simp) (fun k hk => by simp [Value.ownBlock] at hk; omega)
    obtain ⟨a', c', rfl⟩ := row_slice ho
    clear ho hg
    go_wp2
    go_ret
    exact ⟨_, rfl, by simpa using HO.out, HB.out⟩
/-- what All hands back: the closure's box -/
structure AllAt (T : Nat → Prop) (w : World) (bx : Nat) (v : Value) (xs : List X) : Prop where
  mine : T bx
  box : w.heap[bx]? = some (.cells #[v] 29 (0, 0))
  msgs : MsgsIn T w v xs
  sm : ∀ x ∈ xs, Sm x.1
  lim : ∀ k, T k → k < w.heap.size
set_option maxHeartbeats 2000000 in
set_option maxRecDepth 100000 in
/-- the blocks that All reads later: those of the bag, and what it makes -/
theorem All_any {S : Nat → Prop} {w : World} {b most : Nat} {v : Value} {xs : List X} (h : BagO BagT S w b most v xs) (hc : xs.length ≤ 1048576) :
    Calls Try.prog 22 #[ptrV b] w fun e w' => ∃ bx v', e = .returned (.func (.func 35) #[] #[ptrV bx]) ∧ AllAt (fun k => (S k ∧ k < w.heap.size ∧ k ≠ b) ∨ (w.heap.size ≤ k ∧ k < w'.heap.size)) w' bx v' xs ∧ Below w.heap.size w w' := by
  have hl := list_any h
  have hcl := cloneM_any h.rm.msgs hc
  obtain ⟨a, c, rfl⟩ := h.rm.slice
  have H := Lib.hid h
  clear h
  go_enter Try.func22, Try.ntmps22
  go_wp2_with fail
  refine hl.mono ?_
  rintro e w1 ⟨rfl, e1⟩
  rw [e1]
  clear e1 w1
  go_wp2_with fail
  refine hcl.mono ?_
  rintro e w2 ⟨v', rfl, ho, hb⟩
  have HO := Lib.hid ho
  have HB := Lib.hid hb
  obtain ⟨a', c', rfl⟩ := row_slice ho
  clear ho hb hcl hl
  go_wp2
  go_ret
  have hb2 : Below w2.heap.size w2 (w2.alloc (.cells #[.slice a' xs.length c'] 29)) := (Below.refl _ _).alloc (Nat.le_refl _) _
  have hb := HB.out.trans (hb2.mono HB.out.size)
  have hsz := HB.out.size
  refine ⟨_, _, rfl, ⟨.inr ⟨hsz, by simp⟩, heap_alloc_new w2 _, ⟨(((Run.of_own HO.out (by decide)).mono (fun k hk h => (⟨h, hk⟩ : w.heap.size ≤ k ∧ k < w2.heap.size))).below hb2).mono (fun k _ hk => .inr ⟨hk.1, by simp; omega⟩), fun x hx => ?_⟩, H.out.rm.sm, fun k hk => ?_⟩, hb⟩
  · exact (((H.out.rm.li x hx).mono (fun k hk h => (⟨h.1, hk, h.2.1⟩ : S k ∧ k < w.heap.size ∧ k ≠ b))).below hb).mono (fun k _ hk => .inl hk)
  · rcases hk with ⟨_, h, _⟩ | ⟨_, h⟩
    · exact Nat.lt_of_lt_of_le h hb.size
    · exact h
/-- the closure: each message is told, one by one -/
def Told (xs : List X) (lo k : Nat) (v : Value) (W : World) : Prop :=
  ∃ x la lc ea ec, xs[k]? = some x ∧ v = x.1.agg (.slice la x.1.l.length lc) (.slice ea x.1.es.length ec) ∧ LI (fun j => lo ≤ j) W x.1 (.slice la x.1.l.length lc) (.slice ea x.1.es.length ec)
/-- the same, and its lists may be written -/
def ToldS (xs : List X) (lo k : Nat) (v : Value) (W : World) : Prop :=
  ∃ x la lc ea ec, xs[k]? = some x ∧ v = x.1.agg (.slice la x.1.l.length lc) (.slice ea x.1.es.length ec) ∧ LI (fun j => lo ≤ j ∧ Soft W j) W x.1 (.slice la x.1.l.length lc) (.slice ea x.1.es.length ec)
theorem ToldS.plain {xs : List X} {lo k : Nat} {v : Value} {W : World} (h : ToldS xs lo k v W) : Told xs lo k v W := by
  obtain ⟨x, la, lc, ea, ec, h1, h2, h3⟩ := h
  exact ⟨x, la, lc, ea, ec, h1, h2, h3.mono (fun _ _ hj => hj.1)⟩
attribute [local go_sem] Oper.semAt_some
set_option maxHeartbeats 4000000 in
set_option maxRecDepth 100000 in
theorem all_soft {T : Nat → Prop} {w : World} {bx : Nat} {v : Value} {xs : List X} (h : AllAt T w bx v xs) (hc : xs.length ≤ 1048576) :
    Comes Try.prog 35 #[ptrV bx] T xs.length (ToldS xs) w := by
  intro l J Jx W hW hJ hY h0
  obtain ⟨a, c, rfl, _⟩ := h.msgs.1.slice
  have hbox := (hW.block bx (h.lim bx h.mine)).trans h.box
  have cb : W.cell? ⟨bx, 0, none⟩ = some (.slice a xs.length c) := by rw [Lib.cell_of_heap hbox]; rfl
  have hms : MsgsIn (fun k => T k ∧ k < w.heap.size) W (.slice a xs.length c) xs := ((h.msgs.mono (fun k hk ht => (⟨ht, hk⟩ : T k ∧ k < w.heap.size))).keep hW.size (fun g hg hl => hW.block g hl))
  have HMS := Lib.hid hms
  have HSM := Lib.hid h.sm
  have HJ := Lib.hid hJ
  have HY := Lib.hid hY
  have HW := Lib.hid hW
  clear hms h hJ hY hW hbox
  refine callsIn_of_wp Try.func35 rfl trivial ?_ rfl
  simp only [Try.ntmps35, List.size_toArray, List.length_cons, List.length_nil, Nat.reduceAdd, Nat.reduceSub, Array.replicate_succ, Array.replicate_zero, List.push_toArray, List.append_toArray, List.nil_append, List.cons_append]
  gi_wp2
  gi_loopw [7] (fun i wr => ∃ k : Nat, k ≤ xs.length ∧ i = .int .i64 k ∧ J k wr ∧ Hid (KeepT T W wr)) (fun i _ => xs.length - (intOf i).toNat)
  case atStart => exact ⟨0, Nat.zero_le _, rfl, h0, KeepT.refl _ _⟩
  case round =>
    obtain ⟨k, hk, rfl, hJs, KR⟩ := hrel
    by_cases hlt : k < xs.length
    · have hlti : (k : Int) < (xs.length : Int) := by omega
      obtain ⟨x, hx⟩ : ∃ x, xs[k]? = some x := ⟨xs[k], List.getElem?_eq_getElem hlt⟩
      have hmr : MsgsIn (fun k => T k ∧ k < w.heap.size) wr (.slice a xs.length c) xs := HMS.out.keep KR.out.1 (fun g hg hl => KR.out.2 g hg.1 hl)
      obtain ⟨g, off, rfl, -, hcap, hgS, hgl, x0, x1, x2, x3, x4, x5, x6, x7, x8, x9, x10⟩ := hmr.get hx
      have hxl := hmr.2 x (List.mem_of_getElem? hx)
      have hsm := HSM.out x (List.mem_of_getElem? hx)
      obtain ⟨m, lw, ew⟩ := x
      obtain ⟨⟨la', lc', e8⟩, ea', ec', e9⟩ := hxl.slv
      simp only at e8 e9 x0 x1 x2 x3 x4 x5 x6 x7 x8 x9 x10 hxl hsm
      subst e8 e9
      have HXL := Lib.hid hxl
      have HX := Lib.hid hx
      have HS := Lib.hid hsm
      have HJS := Lib.hid hJs
      clear hxl hx hsm hmr hgS hJs
      have hal : Below wr.heap.size wr (wr.alloc (.cells (m.arr (.slice la' m.l.length lc') (.slice ea' m.es.length ec')) 38)) := (Below.refl _ _).alloc (Nat.le_refl _) _
      have HAL := Lib.hid hal
      have HT := Lib.hid (told_soft (HXL.out.below hal) HS.out)
      clear hal
      gi_wp2_with (refine ⟨trivial, ?_⟩; gi_at_call 33; refine (callsIn_wide.2 HT.out).mono ?_; rintro e w2 ⟨lv2, ev2, rfl, hl2, hb2⟩; obtain ⟨la2, lc2, rfl, _⟩ := hl2.1.slice; obtain ⟨ea2, ec2, rfl, _⟩ := hl2.2.slice; have hb := bw HAL.out hb2; have HB := Lib.hid hb; obtain ⟨fn, tmps, assign, body, hy, hR⟩ := HY.out k (m.agg (.slice la2 m.l.length lc2) (.slice ea2 m.es.length ec2)) wr w2 hlt HJS.out hb ⟨_, la2, lc2, ea2, ec2, HX.out, rfl, hl2.mono (fun j _ hj => ⟨Nat.le_trans HAL.out.size hj.1, hj.2⟩)⟩; have HR := Lib.hid hR; clear hl2 hb2 hb hR)
      refine HR.out.mono ?_
      rintro e W3 (⟨rfl, hJ3, hk3⟩ | ⟨rfl, hJx3⟩)
      · have HJ3 := Lib.hid hJ3
        have HK3 := Lib.hid hk3
        clear hJ3 hk3 hy
        gi_wp2
        go_roundw
        case rel => exact ⟨k + 1, by omega, by go_num, HJ3.out, (KR.out.trans (KeepT.of_below HB.out)).trans HK3.out⟩
        case measure => simp [intOf]; omega
      · have HJ3 := Lib.hid hJx3
        clear hJx3 hy
        gi_wp2
        refine bodyPost_ret (results_none rfl _ _ _) rfl ?_
        exact ⟨⟨_, rfl⟩, .inr ⟨k + 1, by omega, by omega, HJ3.out⟩⟩
    · have hke : k = xs.length := by omega
      have hlti : ¬ (k : Int) < (xs.length : Int) := by omega
      have HJS : Hid (J xs.length wr) := by rw [← hke]; exact hJs
      clear hke hJs
      gi_wp2
      go_end0
      exact ⟨⟨_, rfl⟩, .inl HJS.out⟩
theorem all_comes {T : Nat → Prop} {w : World} {bx : Nat} {v : Value} {xs : List X} (h : AllAt T w bx v xs) (hc : xs.length ≤ 1048576) :
    Comes Try.prog 35 #[ptrV bx] T xs.length (Told xs) w :=
  fun l J Jx W hW hJ hY h0 => all_soft h hc l J Jx W hW hJ (fun k v W0 W1 hk hj hb hr => hY k v W0 W1 hk hj hb hr.plain) h0
end Go.Proofs.Ytheldpdckgoniaa
