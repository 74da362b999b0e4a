/- What a journal keeps: the law's mathematics, and its things. -/
import Derived.Test.YtnffjoflkeagfaaLawRoom5
import Derived.Test.YtnffjoflkeagfaaActs5
namespace Go.Proofs.Ytnffjoflkeagfaa
open Go.RowKit Go.Maps

def Kp (s : St) (sure late : Recs) : Prop :=
  (s.down = false ∧ late = [] ∧ Con s (Fr.joinB sure) (Fr.joinB sure).length) ∨ (s.down = true ∧ ∃ t, Con s (Fr.joinB sure ++ t) (Fr.joinB sure).length ∧ (t = [] ∨ t = Fr.joinB late))
theorem joinB_z : Fr.joinB [] = [] := rfl
theorem Con.mapfs {s s' : St} {b : List UInt8} {sy : Nat} (h : Con s b sy) (e : s'.fs = s.fs) : Con s' b sy := by unfold Con at h ⊢; rw [e]; exact h
theorem Kp.used {s : St} {sure late : Recs} (h : Kp s sure late) : usedF s.fs ≤ (Fr.joinB sure).length + (Fr.joinB late).length := by
  rcases h with ⟨_, _, h⟩ | ⟨_, t, h, ht⟩
  · rw [h.used]; omega
  · rw [h.used, List.length_append]
    rcases ht with rfl | rfl
    · simp
    · omega
theorem Kp.count {s : St} {sure late : Recs} (h : Kp s sure late) : s.fs.length ≤ 1 := by
  rcases h with ⟨_, _, h⟩ | ⟨_, t, h, _⟩ <;> exact h.count
theorem Con.keys {s : St} {b : List UInt8} {sy : Nat} (h : Con s b sy) : ∀ p ∈ s.fs, p.1.length ≤ 281474976710656 := by
  intro p hp
  rcases h with ⟨h, _⟩ | ⟨u, h⟩
  · rw [h] at hp; cases hp
  · rw [h] at hp; rw [List.mem_singleton.1 hp]; show kJ.length ≤ _; decide
theorem Kp.keys {s : St} {sure late : Recs} (h : Kp s sure late) : ∀ p ∈ s.fs, p.1.length ≤ 281474976710656 := by
  rcases h with ⟨_, _, h⟩ | ⟨_, t, h, _⟩ <;> exact h.keys
theorem kp_write {s : St} {sure late : Recs} (h : Kp s sure late) (l : Recs) :
    (writeS s kJ sure l = (40, sure, s)) ∨ (∃ s', writeS s kJ sure l = (41, sure, s') ∧ (late = [] → Kp s' sure l) ∧ Kp s' sure late ∨ ∃ s', writeS s kJ sure l = (41, sure, s') ∧ late = [] ∧ Kp s' sure l) ∨
    (∃ s', writeS s kJ sure l = (0, sure ++ l, s') ∧ Kp s' (sure ++ l) [] ∧ late = []) := by
  rcases h with ⟨hd, hl, hc⟩ | ⟨hd, t, hc, ht⟩
  · rcases write_cases hc hd sure l with ⟨_, he⟩ | ⟨_, s', he, _, hd', u, hf⟩ | ⟨_, s', he, hd', _, _, hf⟩
    · exact .inl he
    · exact .inr (.inl ⟨s', .inr ⟨s', he, hl, .inr ⟨hd', Fr.joinB l, .inr ⟨u, hf⟩, .inr rfl⟩⟩⟩)
    · refine .inr (.inr ⟨s', he, .inl ⟨hd', rfl, ?_⟩, hl⟩)
      rw [joinB_app]; exact .inr ⟨true, hf⟩
  · refine .inr (.inl ⟨s, .inl ⟨write_down hd kJ sure l, fun e => ?_, .inr ⟨hd, t, hc, ht⟩⟩⟩)
    refine .inr ⟨hd, t, hc, .inl ?_⟩
    rcases ht with ht | ht
    · exact ht
    · rw [ht, e]; rfl
/-- as the law asks -/
theorem kp_append {s : St} {sure late : Recs} (h : Kp s sure late) (l : Recs) :
    (writeS s kJ sure l = (40, sure, s)) ∨ (∃ s', writeS s kJ sure l = (41, sure, s') ∧ ((late = [] ∧ Kp s' sure l) ∨ (late ≠ [] ∧ Kp s' sure late))) ∨ (∃ s', writeS s kJ sure l = (0, sure ++ l, s') ∧ Kp s' (sure ++ l) [] ∧ late = []) := by
  rcases kp_write h l with he | ⟨_, ⟨he, h1, h2⟩ | ⟨s', he, h1, h2⟩⟩ | h3
  · exact .inl he
  · refine .inr (.inl ⟨_, he, ?_⟩)
    by_cases e : late = []
    · exact .inl ⟨e, h1 e⟩
    · exact .inr ⟨e, h2⟩
  · exact .inr (.inl ⟨s', he, .inl ⟨h1, h2⟩⟩)
  · exact .inr (.inr h3)
theorem kp_other {s : St} {sure late : Recs} (h : Kp s sure late) (l : Recs) :
    (otherS s kJ sure l = (40, sure, s)) ∨ (∃ s', otherS s kJ sure l = (41, sure, s') ∧ Kp s' sure late) ∨ (∃ s', otherS s kJ sure l = (0, l, s') ∧ Kp s' l [] ∧ late = []) := by
  rcases h with ⟨hd, hl, hc⟩ | ⟨hd, t, hc, ht⟩
  · rcases other_cases hc hd sure l with he | ⟨s', he, hd', hf⟩ | ⟨s', he, hd', hf⟩
    · exact .inl he
    · exact .inr (.inl ⟨s', he, .inr ⟨hd', [], by rw [List.append_nil]; exact hc.mapfs hf, .inl rfl⟩⟩)
    · exact .inr (.inr ⟨s', he, .inl ⟨hd', rfl, .inr ⟨true, hf⟩⟩, hl⟩)
  · exact .inr (.inl ⟨s, other_down hd kJ sure l, .inr ⟨hd, t, hc, ht⟩⟩)
theorem kp_break {s : St} {sure late : Recs} (h : Kp s sure late) (n : Int) : Kp (breakS s n) sure late := by
  have e1 : (breakS s n).fs = s.fs := by unfold breakS; split <;> rfl
  have e2 : (breakS s n).down = s.down := by unfold breakS; split <;> rfl
  rcases h with ⟨hd, hl, hc⟩ | ⟨hd, t, hc, ht⟩
  · exact .inl ⟨by rw [e2]; exact hd, hl, hc.mapfs e1⟩
  · exact .inr ⟨by rw [e2]; exact hd, t, hc.mapfs e1, ht⟩
theorem kp_open {s : St} {sure : Recs} {r : List UInt8} (hd : s.down = false) (hw : s.waits = false) (hc : Con s (Fr.joinB sure ++ r) (Fr.joinB sure ++ r).length) (late : Recs) (n : Nat) (hr : r = (Fr.joinB late).take n) (h1 : ∀ c ∈ sure, c.size ≤ 65536) (h2 : ∀ c ∈ late, c.size ≤ 65536) :
    ∃ m s', m ≤ late.length ∧ openS s kJ = (some (sure ++ late.take m), 0, s') ∧ Kp s' (sure ++ late.take m) [] := by
  obtain ⟨m, hm, e1, e2⟩ := scan_torn sure late n h1 h2
  obtain ⟨s', sy, ho, hd', _, _, hc', hsy⟩ := open_con hc hd hw
  rw [hr] at ho hc' hsy
  rw [e1] at ho
  rw [e2] at hc' hsy
  refine ⟨m, s', hm, ho, .inl ⟨hd', rfl, ?_⟩⟩
  rw [hsy rfl] at hc'
  exact hc'
theorem kp_crash {s : St} {sure late : Recs} (h : Kp s sure late) (keep : List Int) (h1 : ∀ c ∈ sure, c.size ≤ 65536) (h2 : ∀ c ∈ late, c.size ≤ 65536) :
    ∃ m s', m ≤ late.length ∧ openS (crashS s keep) kJ = (some (sure ++ late.take m), 0, s') ∧ Kp s' (sure ++ late.take m) [] := by
  rcases h with ⟨hd, hl, hc⟩ | ⟨hd, t, hc, ht⟩
  · obtain ⟨n, hn1, hn2, hcn⟩ := crash_con hc (Nat.le_refl _) keep
    rw [List.take_of_length_le (by omega)] at hcn
    exact kp_open (r := []) rfl rfl (by rw [List.append_nil]; exact hcn) late 0 (by simp) h1 h2
  · obtain ⟨n, hn1, hn2, hcn⟩ := crash_con hc (by rw [List.length_append]; omega) keep
    rw [List.take_append, List.take_of_length_le hn1] at hcn
    rcases ht with rfl | rfl
    · exact kp_open rfl rfl hcn late 0 (by simp) h1 h2
    · exact kp_open rfl rfl hcn late _ rfl h1 h2
section
variable {Q R : (Nat → Prop) → World → Prop} {S : Nat → Prop} {w w' w2 : World} {db wb : Nat} {s s' : St} {L : Recs}
theorem Pair.drop {A B C : (Nat → Prop) → World → Prop} (h : Pair A (Pair B C) S w) : Pair A C S w := by
  obtain ⟨Sa, Sbc, a, ⟨Sb, Sc, b, c, d1, d2, d3⟩, e1, e2, e3⟩ := h
  exact ⟨Sa, Sc, a, c, fun k h1 h2 => e1 k h1 (d3 k h2).1, e2, fun k hk => e3 k (d3 k hk).1⟩
theorem Crash_beside (tQ : Thing Q) (h : Pair (DJ db wb s L) Q S w) (hS : ∀ k, w.heap.size ≤ k → S k) (hm : Small s) (hkl : ∀ p ∈ s.fs, p.1.length ≤ 281474976710656) {v : Value} {keep : List Int} (hk : ListOff S w v keep.length (keep.map (fun z => Value.int .i64 z))) (hkn : keep.length ≤ 9223372036854775807) :
    Calls Try.prog 22 #[ptrV db, v] w fun e w' => e = .returned (.tuple #[]) ∧ Pair (DJ db wb (crashS s keep) L) Q S w' ∧ Kept S w w' :=
  Pair.step1 (djThing _ _ _ _) (djThing db wb (crashS s keep) L) tQ h hS (X := fun e _ => e = .returned (.tuple #[])) (fun _ hT hTS hq =>
    Pair.step1 (diskThing _ _) (diskThing db (crashS s keep)) (walThing _ _ _ _) hq hT (X := fun e _ => e = .returned (.tuple #[])) (fun _ hT' hTS' hq' => Crash_any hq' hT' hm hkl v keep (hk.mono (fun j _ hj => hTS j (hTS' j hj))) hkn))
theorem Break_beside (tQ : Thing Q) (h : Pair (DJ db wb s L) Q S w) (hS : ∀ k, w.heap.size ≤ k → S k) (n : Int) (hn : n ≤ 9223372036854775807) :
    Calls Try.prog 29 #[ptrV db, .int .i64 n] w fun e w' => e = .returned (.tuple #[]) ∧ Pair (DJ db wb (breakS s n) L) Q S w' ∧ Kept S w w' :=
  Pair.step1 (djThing _ _ _ _) (djThing db wb (breakS s n) L) tQ h hS (X := fun e _ => e = .returned (.tuple #[])) (fun _ hT _ hq =>
    Pair.step1 (diskThing _ _) (diskThing db (breakS s n)) (walThing _ _ _ _) hq hT (X := fun e _ => e = .returned (.tuple #[])) (fun _ _ _ hq' => Break_any hq' n hn))
/-- journal, late, sure -/
abbrev KeepQ (db wb : Nat) (s : St) (L : Recs) (lv : Value) (late : Recs) (sv : Value) (sure : Recs) : (Nat → Prop) → World → Prop := Pair (DJ db wb s L) (Pair (RowQ lv late) (RowQ sv sure))
variable {lv sv : Value} {late sure : Recs}
theorem rowsThing (lv : Value) (late : Recs) (sv : Value) (sure : Recs) : Thing (Pair (RowQ lv late) (RowQ sv sure)) := pairThing (rowThing _ _) (rowThing _ _)
theorem keepThing (db wb : Nat) (s : St) (L : Recs) (lv : Value) (late : Recs) (sv : Value) (sure : Recs) : Thing (KeepQ db wb s L lv late sv sure) := pairThing (djThing _ _ _ _) (rowsThing _ _ _ _)
theorem keep_sure (h : KeepQ db wb s L lv late sv sure S w) : RowS S w sv sure := Pair.snd (rowThing _ _) (Pair.snd (rowsThing _ _ _ _) h)
theorem keep_late (h : KeepQ db wb s L lv late sv sure S w) : RowS S w lv late := Pair.fst (rowThing _ _) (Pair.snd (rowsThing _ _ _ _) h)
theorem grow_sure (h : KeepQ db wb s L lv late sv sure S w) (hS : ∀ k, w.heap.size ≤ k → S k) {v' : Value} {L' : Recs} (hg : w.grownBy w2 sv.ownBlock) (ho : w2.ownsRow 0 9 1 v' L'.length (cellsOf strC L')) (hat : v'.ownBlock = sv.ownBlock ∨ v'.ownBlock = some w.heap.size) :
    KeepQ db wb s L lv late v' L' S w2 ∧ Kept S w w2 :=
  Pair.upd2 (djThing _ _ _ _) (rowsThing _ _ _ _) (rowsThing lv late v' L') h hS (fun _ hT _ hq =>
    Pair.upd2 (rowThing _ _) (rowThing _ _) (rowThing v' L') hq hT (fun _ hT' _ hq' => row_grow hq' hT' (Below.refl _ _) hg ho hat))
theorem grow_late (h : KeepQ db wb s L lv late sv sure S w) (hS : ∀ k, w.heap.size ≤ k → S k) {v' : Value} {L' : Recs} (hg : w.grownBy w2 lv.ownBlock) (ho : w2.ownsRow 0 9 1 v' L'.length (cellsOf strC L')) (hat : v'.ownBlock = lv.ownBlock ∨ v'.ownBlock = some w.heap.size) :
    KeepQ db wb s L v' L' sv sure S w2 ∧ Kept S w w2 :=
  Pair.upd2 (djThing _ _ _ _) (rowsThing _ _ _ _) (rowsThing v' L' sv sure) h hS (fun _ hT _ hq => by
    have := Pair.upd2 (rowThing _ _) (rowThing _ _) (rowThing v' L') hq.swap hT (fun _ hT' _ hq' => row_grow hq' hT' (Below.refl _ _) hg ho hat)
    exact ⟨this.1.swap, this.2⟩)
theorem new_sure (h : KeepQ db wb s L lv late sv sure S w) (hS : ∀ k, w.heap.size ≤ k → S k) {v' : Value} {L' : Recs} (hb : Below w.heap.size w w2) (ho : w2.ownsRow w.heap.size 9 1 v' L'.length (cellsOf strC L')) :
    KeepQ db wb s L lv late v' L' S w2 :=
  (Pair.upd2 (djThing _ _ _ _) (rowsThing _ _ _ _) (rowsThing lv late v' L') h hS (fun _ hT _ hq =>
    Pair.upd2 (rowThing _ _) (rowThing _ _) (rowThing v' L') hq hT (fun _ hT' _ _ => ⟨⟨Fr.ownsRow_mono ho (Nat.zero_le _), fun g hg => hT' g (ho.lt g hg).1⟩, Kept.of_below hb⟩))).1
theorem no_late (h : KeepQ db wb s L lv late sv sure S w) : KeepQ db wb s L (.slice none 0 0) [] sv sure S w := by
  obtain ⟨Sa, Sb, a, ⟨Sc, Sd, c, d, r⟩, r'⟩ := h
  exact ⟨Sa, Sb, a, ⟨Sc, Sd, ⟨World.ownsRow_nil _ _ _ _, fun g hg => by simp [Value.ownBlock] at hg⟩, d, r⟩, r'⟩
end
/-- SameTexts at equals: it draws alone -/
theorem same_q (va vb : Value) (l : Recs) (n : Nat) (w : World) (ha : Fr.ListAt w va n (cellsOf strC l)) (hb : Fr.ListAt w vb n (cellsOf strC l)) (h : l.length = n) (hn : n ≤ 1099511627776) :
    Calls Try.prog 19 #[va, vb] w fun e w' => e = .returned (.bool true) ∧ ∃ q, w' = w.drewN q := by
  subst h
  have HA := Lib.hid (at_off ha)
  have HB := Lib.hid (at_off hb)
  obtain ⟨_, aa, capa, rfl, _, ha⟩ := ha
  obtain ⟨_, ab, capb, rfl, _, hb⟩ := hb
  clear ha hb
  go_enter Try.func19, Try.ntmps19
  go_wp2
  go_loopw [5] (fun i wr => ∃ k : Nat, k ≤ l.length ∧ i = .int .i64 k ∧ ∃ q, wr = w.drewN q) (fun i _ => l.length - (intOf i).toNat)
  case atStart => exact ⟨0, by omega, rfl, 0, rfl⟩
  case round =>
    obtain ⟨k, hk, rfl, q, hq⟩ := hrel
    have HQ := Lib.hid hq
    by_cases hlt : k < l.length
    · have hlti : (k : Int) < (l.length : Int) := by omega
      obtain ⟨x, hx⟩ : ∃ x, l[k]? = some x := ⟨l[k], List.getElem?_eq_getElem hlt⟩
      obtain ⟨b1, o1, rfl, hc1, _, hb1, x0⟩ := txt_cell HA.out hx
      obtain ⟨b2, o2, rfl, hc2, _, hb2, y0⟩ := txt_cell HB.out hx
      have hbel : Below w.heap.size w wr := by rw [hq]; exact below_drewN (Below.refl _ _) q
      have x1 : wr.cell? ⟨b1, o1 + k, none⟩ = _ := (hbel.cell (p := ⟨b1, o1 + k, none⟩) hb1).trans x0
      have y1 : wr.cell? ⟨b2, o2 + k, none⟩ = _ := (hbel.cell (p := ⟨b2, o2 + k, none⟩) hb2).trans y0
      clear hx x0 y0 hbel hq
      go_wp2
      go_quiet (fail)
      go_wp2
      go_roundw
      case rel => exact ⟨k + 1, by omega, by go_num, _, by rw [HQ.out, World.drewN_drewN]⟩
      case measure => simp [intOf]; omega
    · have hlti : ¬ (k : Int) < (l.length : Int) := by omega
      clear hq
      go_wp2
      go_ret
      exact ⟨rfl, q, HQ.out⟩
theorem same_qq (va vb : Value) (l : Recs) (n : Nat) (w : World) (ha : Fr.ListAt w va n (cellsOf strC l)) (hb : Fr.ListAt w vb n (cellsOf strC l)) (h : l.length = n) (hn : n ≤ 1099511627776) (q : Nat) :
    Calls Try.prog 19 #[va, vb] (w.drewN q) fun e w' => e = .returned (.bool true) ∧ ∃ m, w' = (w.drewN q).drewN m :=
  same_q va vb l n (w.drewN q) (ha.below (below_drewN (Below.refl _ _) q)) (hb.below (below_drewN (Below.refl _ _) q)) h hn
end Go.Proofs.Ytnffjoflkeagfaa
