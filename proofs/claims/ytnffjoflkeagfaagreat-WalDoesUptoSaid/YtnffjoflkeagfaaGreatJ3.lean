/- The document's example: works. Acts on a journal: what they are, what heavy tells of them. A disk with the journal's file alone: what is written, opened, lost. Plain. Journals beside other things: opened, appended to, within pairs. -/
import Derived.Test.YtnffjoflkeagfaaGreatJ2
import Derived.KernelRfl
namespace Go.Proofs.YtnffjoflkeagfaaGreat
open Go.RowKit Go.Maps

/-- texts in a block of the call's own -/
theorem txt_lit {S : Nat → Prop} {w : World} (hne : ¬ S w.heap.size) (l : Recs) (T : TypeId) : TxtOff S (w.alloc (.cells (cellsOf strC l).toArray T)) (.slice (some ⟨w.heap.size, 0, none⟩) l.length l.length) l := by
  refine ⟨⟨by simp [cellsOf], _, _, rfl, Nat.le_refl _, .inr ⟨w.heap.size, 0, rfl, by simp, hne, fun j u hu => ?_⟩⟩, fun n c e => by cases e⟩
  rw [Nat.zero_add, World.cell?_alloc_new, List.getElem?_toArray]; exact hu
theorem wAppend_lit {S : Nat → Prop} {w : World} {wb db : Nat} {s : St} {name : ByteArray} {L : Recs} (h : Pair (DiskQ db s) (WalQ wb db name L) S w) (hS : ∀ k, w.heap.size ≤ k → S k) (hm : s.fs.length ≤ 1048576) (hu : usedF s.fs ≤ 274877906944)
    (hn : name.size ≤ 281474976710656) {l : Recs} (T : TypeId) (hall : ∀ c ∈ l, c.size ≤ 65536) (hl : l.length ≤ 1048576) (hL : L.length ≤ 1099511627776) (hne : l ≠ []) :
    Calls Tryz.prog 14 #[ptrV wb, .slice (some ⟨w.heap.size, 0, none⟩) l.length l.length] (w.alloc (.cells (cellsOf strC l).toArray T)) fun e w' => e = .returned (.int .i64 (writeS s (bs name) L l).1) ∧ Pair (DiskQ db (writeS s (bs name) L l).2.2) (WalQ wb db name (writeS s (bs name) L l).2.1) S w' ∧ Kept S w w' := by
  have hb : Below w.heap.size w (w.alloc (.cells (cellsOf strC l).toArray T)) := (Below.refl _ _).alloc (Nat.le_refl _) _
  have hsz : (w.alloc (.cells (cellsOf strC l).toArray T)).heap.size = w.heap.size + 1 := by simp
  have h1 : Pair (DiskQ db s) (WalQ wb db name L) (fun k => S k ∧ k ≠ w.heap.size) (w.alloc (.cells (cellsOf strC l).toArray T)) :=
    (pairThing (diskThing _ _) (walThing _ _ _ _)).below ((pairThing (diskThing _ _) (walThing _ _ _ _)).mono h (fun k hl hk => ⟨hk, by omega⟩)) hb
  refine (wAppend_any h1 (fun k hk => ⟨hS k (by omega), by omega⟩) hm hu hn (txt_lit (fun hh => hh.2 rfl) l T) hall hl hL hne).mono ?_
  rintro e w' ⟨rfl, hd, hk⟩
  exact ⟨rfl, (pairThing (diskThing _ _) (walThing _ _ _ _)).mono hd (fun k _ hh => hh.1), (Kept.of_below hb).trans (hk.mono (fun k _ hh => hh.1))⟩
abbrev kJ : List UInt8 := [106]
abbrev tA : ByteArray := ⟨#[97]⟩
abbrev tB : ByteArray := ⟨#[98]⟩
abbrev tC : ByteArray := ⟨#[99]⟩
def p1 : St := (writeS (newS 1000) kJ [] [tA, tB]).2.2
def p2 : St := breakS p1 1
def p3 : St := (writeS p2 kJ [tA, tB] [tC]).2.2
def p4 : St := crashS p3 [3]
def p5 : St := (openS p4 kJ).2.2
theorem pe0 : openS (newS 1000) kJ = (some [], 0, newS 1000) := by kernel_rfl
theorem pe1 : writeS (newS 1000) kJ [] [tA, tB] = (0, [tA, tB], p1) := by kernel_rfl
theorem pe3 : writeS p2 kJ [tA, tB] [tC] = (41, [tA, tB], p3) := by kernel_rfl
theorem pe4 : openS p3 kJ = (none, 41, p3) := by kernel_rfl
theorem pe5 : openS p4 kJ = (some [tA, tB], 0, p5) := by kernel_rfl
theorem pl1 : p1.fs.length = 1 := by kernel_rfl
theorem pu1 : usedF p1.fs = 18 := by kernel_rfl
theorem pl2 : p2.fs.length = 1 := by kernel_rfl
theorem pu2 : usedF p2.fs = 18 := by kernel_rfl
theorem pl3 : p3.fs.length = 1 := by kernel_rfl
theorem pu3 : usedF p3.fs = 27 := by kernel_rfl
theorem pk3 : p3.fs.map (·.1) = [kJ] := by kernel_rfl
theorem pl4 : p4.fs.length = 1 := by kernel_rfl
theorem pu4 : usedF p4.fs = 21 := by kernel_rfl
theorem pu5 : usedF p5.fs = 18 := by kernel_rfl
abbrev nJ : ByteArray := ⟨#[106]⟩
theorem Open_some {S : Nat → Prop} {w : World} {db : Nat} {s s' : St} {L : Recs} (h : DiskAt S w db s) (hS : ∀ k, w.heap.size ≤ k → S k) (hc : s.fs.length ≤ 1099511627776) (hu : usedF s.fs ≤ 1099511627776) (he : openS s kJ = (some L, 0, s')) :
    Calls Tryz.prog 13 #[ptrV db, .string nJ] w fun e w' => ∃ wb, e = .returned (.tuple #[ptrV wb, .int .i64 0]) ∧ Pair (DiskQ db s') (WalQ wb db nJ L) S w' ∧ Kept S w w' := by
  have := Open_any h hS ⟨hc, by omega⟩ hu nJ (by decide)
  rw [show bs nJ = kJ from rfl, he] at this
  refine this.mono ?_
  rintro e w' ⟨pv, rfl, ⟨wb, rfl, hp⟩, hk⟩
  exact ⟨wb, rfl, hp, hk⟩
theorem Open_none {S : Nat → Prop} {w : World} {db : Nat} {s s' : St} (h : DiskAt S w db s) (hS : ∀ k, w.heap.size ≤ k → S k) (hc : s.fs.length ≤ 1099511627776) (hu : usedF s.fs ≤ 1099511627776) (he : openS s kJ = (none, 41, s')) :
    Calls Tryz.prog 13 #[ptrV db, .string nJ] w fun e w' => e = .returned (.tuple #[.pointer none, .int .i64 41]) ∧ DiskAt S w' db s' ∧ Kept S w w' := by
  have := Open_any h hS ⟨hc, by omega⟩ hu nJ (by decide)
  rw [show bs nJ = kJ from rfl, he] at this
  refine this.mono ?_
  rintro e w' ⟨pv, rfl, ⟨rfl, hp⟩, hk⟩
  exact ⟨rfl, hp, hk⟩
set_option maxHeartbeats 4000000 in
set_option maxRecDepth 100000 in
theorem works5_any (w : World) :
    Calls Tryz.prog 4 #[] w fun e w' => e = .returned (.bool true) ∧ Below w.heap.size w w' := by
  go_enter Tryz.func4, Tryz.ntmps4
  go_wp2_with fail
  refine (New_any (S := From w.heap.size) w (fun k hk => hk) 1000 (by decide)).mono ?_
  rintro e w1 ⟨rfl, d1, b1⟩
  have D1 := Lib.hid d1
  have K1 : Hid (Kept (From w.heap.size) w w1) := Kept.of_below b1
  clear d1 b1
  generalize hdb : w.heap.size = db at *
  go_wp2_with fail
  refine (Open_some D1.out (fun k hk => Nat.le_trans (by have := K1.out.size; omega) hk) (by decide) (by decide) pe0).mono ?_
  rintro e w2 ⟨wb, rfl, q2, k2⟩
  have P2 := Lib.hid q2
  have K2 : Hid (Kept (From db) w w2) := K1.out.trans k2
  clear q2 k2
  go_wp2_with fail
  refine (wAppend_lit (l := [tA, tB]) P2.out (fun k hk => Nat.le_trans (by have := K2.out.size; omega) hk) (by decide) (by decide) (by decide) 9 (by decide) (by decide) (by decide) (by simp)).mono ?_
  rw [show bs nJ = kJ from rfl, pe1]
  rintro e w3 ⟨rfl, q3, k3⟩
  have P3 := Lib.hid q3
  have K3 : Hid (Kept (From db) w w3) := K2.out.trans k3
  clear q3 k3
  go_wp2_with fail
  refine (Pair.step1 (diskThing _ _) (diskThing db p2) (walThing _ _ _ _) P3.out (fun k hk => Nat.le_trans (by have := K3.out.size; omega) hk) (X := fun e _ => e = .returned (.tuple #[])) (fun T hT _ hq => Break_any hq 1 (by decide))).mono ?_
  rintro e w4 ⟨rfl, q4, k4⟩
  have P4 := Lib.hid q4
  have K4 : Hid (Kept (From db) w w4) := K3.out.trans k4
  clear q4 k4
  go_wp2_with fail
  refine (wAppend_lit (l := [tC]) P4.out (fun k hk => Nat.le_trans (by have := K4.out.size; omega) hk) (by rw [pl2]; decide) (by rw [pu2]; decide) (by decide) 9 (by decide) (by decide) (by decide) (by simp)).mono ?_
  rw [show bs nJ = kJ from rfl, pe3]
  rintro e w5 ⟨rfl, q5, k5⟩
  have D5 : Hid (DiskAt (From db) w5 db p3) := Pair.fst (diskThing _ _) q5
  have K5 : Hid (Kept (From db) w w5) := K4.out.trans k5
  clear q5 k5
  go_wp2_with fail
  refine (Open_none D5.out (fun k hk => Nat.le_trans (by have := K5.out.size; omega) hk) (by rw [pl3]; decide) (by rw [pu3]; decide) pe4).mono ?_
  rintro e w6 ⟨rfl, d6, k6⟩
  have D6 := Lib.hid d6
  have K6 : Hid (Kept (From db) w w6) := K5.out.trans k6
  clear d6 k6
  go_wp2_with fail
  refine (Crash_new D6.out (fun k hk => Nat.le_trans (by have := K6.out.size; omega) hk) ⟨by rw [pl3]; decide, by rw [pu3]; decide⟩ (fun p hp => by
    have : p.1 ∈ p3.fs.map (·.1) := List.mem_map_of_mem hp
    rw [pk3] at this
    rw [List.mem_singleton.1 this]; decide) 3 [3] (by decide)).mono ?_
  rintro e w7 ⟨rfl, d7, k7⟩
  have D7 : Hid (DiskAt (From db) w7 db p4) := d7
  have K7 : Hid (Kept (From db) w w7) := K6.out.trans k7
  clear d7 k7
  go_wp2_with fail
  refine (Open_some D7.out (fun k hk => Nat.le_trans (by have := K7.out.size; omega) hk) (by rw [pl4]; decide) (by rw [pu4]; decide) pe5).mono ?_
  rintro e w8 ⟨vb, rfl, q8, k8⟩
  have P8 := Lib.hid q8
  have K8 : Hid (Kept (From db) w w8) := K7.out.trans k8
  clear q8 k8
  go_wp2_with fail
  refine (Records_any (Pair.snd (walThing _ _ _ _) P8.out) (by decide)).mono ?_
  rintro e w9 ⟨v', rfl, ho, b9⟩
  obtain ⟨ra, rc, rfl⟩ := row_slice ho
  obtain ⟨g, cap, e1, hcap, hg, _, k0⟩ := row_cell ho (j := 1) (u := .string tB) rfl
  cases e1
  have hus := Used_any ((Pair.fst (diskThing _ _) P8.out : DiskAt (From db) w8 db p5).below b9)
  rw [pu5] at hus
  have K9 : Hid (Kept (From db) w w9) := K8.out.trans (Kept.of_below b9)
  clear ho b9
  go_wp2_with fail
  refine hus.mono ?_
  rintro e w10 ⟨rfl, rfl⟩
  go_wp2
  go_ret
  exact ⟨rfl, K9.out.below (by omega) (fun k h => by have : db ≤ k := h; omega)⟩
end Go.Proofs.YtnffjoflkeagfaaGreat
namespace Go.Proofs.YtnffjoflkeagfaaGreat
open Go.RowKit Go.Maps

structure Act5 where
  k : Nat
  lv : Value
  l : Recs
  n : Int
  kv : Value
  keep : List Int
  b : ByteArray
def Acts5Off (S : Nat → Prop) (w : World) (v : Value) (l : List Act5) : Prop :=
  ∃ a cap, v = .slice a l.length cap ∧ l.length ≤ cap ∧ (l = [] ∨ ∃ b off, a = some ⟨b, off, none⟩ ∧ b < w.heap.size ∧ ¬ S b ∧ ∀ i x, l[i]? = some x →
    w.cell? ⟨b, off + i * 5, none⟩ = some (.int .u8 (x.k : Int)) ∧ w.cell? ⟨b, off + i * 5 + 1, none⟩ = some x.lv ∧ w.cell? ⟨b, off + i * 5 + 2, none⟩ = some (.int .i64 x.n) ∧
    w.cell? ⟨b, off + i * 5 + 3, none⟩ = some x.kv ∧ w.cell? ⟨b, off + i * 5 + 4, none⟩ = some (.string x.b) ∧ TxtOff S w x.lv x.l ∧ ListOff S w x.kv x.keep.length (x.keep.map (fun z => Value.int .i64 z)))
theorem Acts5Off.kept {S : Nat → Prop} {w w' : World} {v : Value} {l : List Act5} (h : Acts5Off S w v l) (hk : Kept S w w') : Acts5Off S w' v l := by
  obtain ⟨a, cap, rfl, hcap, h2⟩ := h
  refine ⟨a, cap, rfl, hcap, ?_⟩
  rcases h2 with h2 | ⟨b, off, rfl, hlt, hn, hc⟩
  · exact .inl h2
  · have e := fun j => World.cell?_of_block (a := ⟨b, j, none⟩) (hk.block b hlt hn)
    refine .inr ⟨b, off, rfl, Nat.lt_of_lt_of_le hlt hk.size, hn, fun i x hx => ?_⟩
    obtain ⟨c0, c1, c2, c3, c4, c5, c6⟩ := hc i x hx
    exact ⟨(e _).trans c0, (e _).trans c1, (e _).trans c2, (e _).trans c3, (e _).trans c4, c5.kept hk, c6.kept hk⟩
theorem Acts5Off.slice {S : Nat → Prop} {w : World} {v : Value} {l : List Act5} (h : Acts5Off S w v l) : ∃ a cap, v = .slice a l.length cap := by
  obtain ⟨a, cap, e, _⟩ := h; exact ⟨a, cap, e⟩
theorem act5_get {S : Nat → Prop} {w : World} {a : Option Addr} {n c i : Nat} {l : List Act5} {x : Act5} (h : Acts5Off S w (.slice a n c) l) (hx : l[i]? = some x) :
    ∃ b off la lc ka kc, a = some ⟨b, off, none⟩ ∧ n = l.length ∧ n ≤ c ∧ i < n ∧ x.lv = .slice la x.l.length lc ∧ x.kv = .slice ka x.keep.length kc ∧
    w.cell? ⟨b, off + i * 5, none⟩ = some (.int .u8 (x.k : Int)) ∧ w.cell? ⟨b, off + i * 5 + 1, none⟩ = some (.slice la x.l.length lc) ∧ w.cell? ⟨b, off + i * 5 + 2, none⟩ = some (.int .i64 x.n) ∧
    w.cell? ⟨b, off + i * 5 + 3, none⟩ = some (.slice ka x.keep.length kc) ∧ w.cell? ⟨b, off + i * 5 + 4, none⟩ = some (.string x.b) ∧ TxtOff S w (.slice la x.l.length lc) x.l ∧ ListOff S w (.slice ka x.keep.length kc) x.keep.length (x.keep.map (fun z => Value.int .i64 z)) ∧ x.l.length ≤ lc := by
  obtain ⟨a', c', e, hc, h2⟩ := h
  cases e
  have hlt := (List.getElem?_eq_some_iff.1 hx).1
  rcases h2 with h2 | ⟨b, off, rfl, _, _, hcell⟩
  · subst h2; simp at hlt
  · obtain ⟨c0, c1, c2, c3, c4, c5, c6⟩ := hcell i x hx
    obtain ⟨la, lc, hlv⟩ := c5.slice
    obtain ⟨_, ka, kc, hkv, _⟩ := id c6
    have hlc : x.l.length ≤ lc := by
      obtain ⟨⟨_, a', c', e, h5, _⟩, _⟩ := c5
      rw [hlv] at e; cases e; exact h5
    exact ⟨b, off, la, lc, ka, kc, rfl, rfl, hc, hlt, hlv, hkv, c0, by rw [c1, hlv], c2, by rw [c3, hkv], c4, by rw [← hlv]; exact c5, by rw [← hkv]; exact c6, hlc⟩
/-- what heavy counts -/
def w5 (x : Act5) : Nat := min x.b.size 4096 + (Fr.joinB x.l).length
def wsum5 (l : List Act5) : Nat := (l.map w5).sum
theorem wsum5_snoc (l : List Act5) (x : Act5) : wsum5 (l ++ [x]) = wsum5 l + w5 x := by simp [wsum5]
theorem wsum5_take (l : List Act5) (k : Nat) : wsum5 (l.take k) ≤ wsum5 l := by
  have h : wsum5 (l.take k ++ l.drop k) = wsum5 (l.take k) + wsum5 (l.drop k) := by unfold wsum5; rw [List.map_append, List.sum_append_nat]
  rw [List.take_append_drop] at h
  omega
theorem w5_le {l : List Act5} {x : Act5} (hx : x ∈ l) : w5 x ≤ wsum5 l := by
  unfold wsum5
  induction l with
  | nil => cases hx
  | cons y r ih =>
    rcases List.mem_cons.1 hx with rfl | hx
    · simp
    · have := ih hx; simp only [List.map_cons, List.sum_cons]; omega
set_option maxRecDepth 100000 in
set_option maxHeartbeats 8000000 in
theorem heavy5_any {S : Nat → Prop} {w : World} {v : Value} {l : List Act5} (h : Acts5Off S w v l) (hl : l.length ≤ 9223372036854775807) (hk : ∀ x ∈ l, x.keep.length ≤ 140737488355328 ∧ x.l.length ≤ 9223372036854775807 ∧ x.b.size ≤ 9223372036854775807 ∧ ∀ c ∈ x.l, c.size ≤ 9223372036854775807) :
    Calls Tryz.prog 5 #[v] w fun e w' => ∃ hv : Bool, e = .returned (.bool hv) ∧ (hv = false → l.length ≤ 201 ∧ wsum5 l ≤ 4096 ∧ ∀ x ∈ l, x.l.length ≤ 100 ∧ x.keep.length ≤ 100) ∧ Below w.heap.size w w' := by
  obtain ⟨a, c, rfl⟩ := h.slice
  have H := Lib.hid h
  have HKK := Lib.hid hk
  clear h hk
  go_enter Tryz.func5, Tryz.ntmps5
  go_wp2
  go_loopw [3, 4] (fun n i wr => ∃ k N : Nat, k ≤ l.length ∧ k ≤ 201 ∧ i = .int .i64 k ∧ n = .int .i64 N ∧ wsum5 (l.take k) ≤ N ∧ N ≤ 4096 ∧ Hid (∀ x ∈ l.take k, x.l.length ≤ 100 ∧ x.keep.length ≤ 100) ∧ wr = w) (fun n i _ => l.length - (intOf i).toNat)
  case atStart => exact ⟨0, 0, by omega, by omega, rfl, rfl, by simp [wsum5], by omega, fun x hx => by simp at hx, rfl⟩
  case round =>
    obtain ⟨k, N, hk1, hk2, rfl, rfl, hs, hN, hall, hww⟩ := hrel
    subst hww
    by_cases h1 : k < l.length
    · have h1i : (k : Int) < (l.length : Int) := by omega
      obtain ⟨x, hx⟩ : ∃ x, l[k]? = some x := ⟨l[k], List.getElem?_eq_getElem h1⟩
      obtain ⟨ba, off, la, lc, ka, kc, rfl, _, hcap, _, _, _, c0, c1, c2, c3, c4, htx, _, hlc⟩ := act5_get H.out hx
      have HX : Hid (wsum5 (l.take (k + 1)) = wsum5 (l.take k) + w5 x) := by show _ = _; rw [take_snocA _ _ _ hx, wsum5_snoc]
      obtain ⟨hz1, hz2, hz3, hz4⟩ := HKK.out x (List.mem_of_getElem? hx)
      have HZ4 := Lib.hid hz4
      have HTX := Lib.hid htx
      have HXX := Lib.hid hx
      clear hx c0 c2 htx hz4
      by_cases hA : x.l.length ≤ 100
      · have hAi : ¬ (100 : Int) < (x.l.length : Int) := by omega
        by_cases hB : x.keep.length ≤ 100
        · have hBi : ¬ (100 : Int) < (x.keep.length : Int) := by omega
          by_cases hC : k ≤ 200
          · have hCi : ¬ (200 : Int) < (k : Int) := by omega
            obtain ⟨p1, hp1⟩ : ∃ p, p = min x.b.size 4096 := ⟨_, rfl⟩
            have m1 : min ((x.b.size : Nat) : Int) 4096 = (p1 : Int) := by omega
            have m0 : min ((N : Nat) : Int) 4096 = ((N : Nat) : Int) := by omega
            have q1 : p1 ≤ 4096 := by omega
            have HW5 : Hid (w5 x = p1 + (Fr.joinB x.l).length) := by show _ = _; unfold w5; omega
            have HALL : Hid (∀ y ∈ l.take (k + 1), y.l.length ≤ 100 ∧ y.keep.length ≤ 100) := fun y hy => by
              rw [take_snocA _ _ _ HXX.out] at hy
              rcases List.mem_append.1 hy with hy | hy
              · exact hall y hy
              · rw [List.mem_singleton.1 hy]; exact ⟨hA, hB⟩
            have HP1 := Lib.hid hp1
            clear hp1 hall
            obtain ⟨wo, hwo⟩ : ∃ wo : World, wo = wr := ⟨_, rfl⟩
            subst hwo
            go_wp2
            go_loopw [3, 5] (fun n i wz => ∃ j M : Nat, j ≤ x.l.length ∧ i = .int .i64 j ∧ n = .int .i64 M ∧ M ≤ 8208 ∧ Hid (wsum5 (l.take k) + p1 + (Fr.joinB (x.l.take j)).length ≤ M ∨ 4096 < M) ∧ wz = wo) (fun n i _ => x.l.length - (intOf i).toNat)
            case atStart => exact ⟨0, N + p1, by omega, rfl, by first | rfl | (congr 1), by omega, .inl (by simp [Fr.joinB, Fr.joinL]; omega), rfl⟩
            case round =>
              obtain ⟨j, M, hj, rfl, rfl, hM, hT, hwz⟩ := hrel
              subst hwz
              by_cases hj1 : j < x.l.length
              · have hj1i : (j : Int) < (x.l.length : Int) := by omega
                obtain ⟨y, hy⟩ : ∃ y, x.l[j]? = some y := ⟨x.l[j], List.getElem?_eq_getElem hj1⟩
                obtain ⟨yb, yoff, rfl, _, _, _, d0⟩ := txt_cell HTX.out.1 hy
                have hys := HZ4.out y (List.mem_of_getElem? hy)
                have HST := Lib.hid (Fr.joinB_step x.l j y hy)
                obtain ⟨p2, hp2⟩ : ∃ p, p = min y.size 4096 := ⟨_, rfl⟩
                obtain ⟨p3, hp3⟩ : ∃ p, p = min M 4096 := ⟨_, rfl⟩
                have m2 : min ((y.size : Nat) : Int) 4096 = (p2 : Int) := by omega
                have m3 : min ((M : Nat) : Int) 4096 = (p3 : Int) := by omega
                have q2 : p2 ≤ 4096 := by omega
                have q3 : p3 ≤ 4096 := by omega
                have HP2 := Lib.hid (And.intro hp2 hp3)
                clear hy hp2 hp3
                go_wp2_with fail
                try (go_quiet (fail))
                go_wp2
                go_roundw
                case rel =>
                  refine ⟨j + 1, p3 + p2 + 8, by omega, by go_num, by first | rfl | (push_cast; rfl), by omega, ?_, by first | rfl | trivial⟩
                  show _ ∨ _
                  obtain ⟨h2, h3⟩ := HP2.out
                  rw [HST.out]
                  rcases (show _ ∨ _ from hT) with hT | hT
                  · omega
                  · omega
                case measure => simp [intOf]; omega
              · have hj1i : ¬ (j : Int) < (x.l.length : Int) := by omega
                have hje : x.l.take j = x.l := List.take_of_length_le (by omega)
                rw [hje] at hT
                clear hje
                by_cases hM2 : 4096 < M
                · have hM2i : (4096 : Int) < (M : Int) := by omega
                  clear hT
                  go_wp2
                  go_ret
                  exact .inr ⟨rfl, Below.refl _ _⟩
                · have hM2i : ¬ (4096 : Int) < (M : Int) := by omega
                  have HT2 : Hid (wsum5 (l.take (k + 1)) ≤ M) := by
                    show _ ≤ _
                    rw [HX.out, HW5.out]
                    rcases (show _ ∨ _ from hT) with hT | hT <;> omega
                  clear hT
                  go_wp2
                  go_roundw
                  case rel => exact ⟨k + 1, M, by omega, by omega, by go_num, rfl, HT2.out, by omega, HALL.out, by first | rfl | trivial⟩
                  case measure => simp [intOf]; omega
          · have hCi : (200 : Int) < (k : Int) := by omega
            go_wp2
            go_ret
            exact .inr ⟨rfl, Below.refl _ _⟩
        · have hBi : (100 : Int) < (x.keep.length : Int) := by omega
          go_wp2
          go_ret
          exact .inr ⟨rfl, Below.refl _ _⟩
      · have hAi : (100 : Int) < (x.l.length : Int) := by omega
        go_wp2
        go_ret
        exact .inr ⟨rfl, Below.refl _ _⟩
    · have h1i : ¬ (k : Int) < (l.length : Int) := by omega
      have he : l.take k = l := List.take_of_length_le (by omega)
      have HE : Hid (l.length ≤ 201 ∧ wsum5 l ≤ 4096 ∧ ∀ x ∈ l, x.l.length ≤ 100 ∧ x.keep.length ≤ 100) := ⟨by omega, by rw [he] at hs; omega, by rw [he] at hall; exact hall⟩
      clear he hall
      go_wp2
      go_ret
      exact .inl ⟨rfl, HE.out, Below.refl _ _⟩
end Go.Proofs.YtnffjoflkeagfaaGreat
namespace Go.Proofs.YtnffjoflkeagfaaGreat
open Go.RowKit Go.Maps

/-- the disk has one file at most, the journal's: its bytes, how many are synced -/
def Con (s : St) (b : List UInt8) (sy : Nat) : Prop := (s.fs = [] ∧ b = [] ∧ sy = 0) ∨ ∃ u, s.fs = [(kJ, ⟨b, sy, u⟩)]
theorem Con.used {s : St} {b : List UInt8} {sy : Nat} (h : Con s b sy) : usedF s.fs = b.length := by
  rcases h with ⟨h, rfl, _⟩ | ⟨u, h⟩ <;> rw [h] <;> simp [usedF]
theorem Con.count {s : St} {b : List UInt8} {sy : Nat} (h : Con s b sy) : s.fs.length ≤ 1 := by
  rcases h with ⟨h, _⟩ | ⟨u, h⟩ <;> rw [h] <;> simp
theorem Con.get {s : St} {b : List UInt8} {sy : Nat} (h : Con s b sy) : ∃ u, getF s.fs kJ = ⟨b, sy, u⟩ := by
  rcases h with ⟨h, rfl, rfl⟩ | ⟨u, h⟩
  · exact ⟨false, by rw [h]; rfl⟩
  · exact ⟨u, by rw [h]; simp [getF, look]⟩
theorem Con.put {s : St} {b : List UInt8} {sy : Nat} (h : Con s b sy) (f : F) : putF s.fs kJ f = [(kJ, f)] := by
  rcases h with ⟨h, _⟩ | ⟨u, h⟩
  · rw [h]; rfl
  · rw [h]; simp [putF]
theorem Con.there {s : St} {b : List UInt8} {sy : Nat} (h : Con s b sy) (hb : b ≠ []) : (look s.fs kJ).isSome = true := by
  rcases h with ⟨_, h, _⟩ | ⟨u, h⟩
  · exact absurd h hb
  · rw [h]; simp [look]
theorem brk_fs (s : St) : (brkS s).fs = s.fs := by unfold brkS; split; split <;> rfl; rfl
theorem brk_rm (s : St) : (brkS s).room = s.room := by unfold brkS; split; split <;> rfl; rfl
theorem brk_true {s : St} (h : brkB s = true) : (brkS s).down = true ∧ s.waits = true := by
  unfold brkB at h
  simp only [Bool.and_eq_true, beq_iff_eq] at h
  unfold brkS
  rw [if_pos h.1, if_pos h.2]
  exact ⟨rfl, h.1⟩
theorem brk_false {s : St} (h : brkB s = false) (hd : s.down = false) : (brkS s).down = false ∧ (s.waits = false → (brkS s).waits = false) := by
  unfold brkB at h
  unfold brkS
  by_cases hw : s.waits = true
  · rw [if_pos hw]
    rw [hw] at h
    have : ¬ s.more = 0 := by simpa using h
    rw [if_neg this]
    exact ⟨hd, fun e => by rw [hw] at e; cases e⟩
  · rw [if_neg hw]; exact ⟨hd, fun e => e⟩
theorem write_down {s : St} (hd : s.down = true) (k : List UInt8) (L l : Recs) : writeS s k L l = (41, L, s) := by
  unfold writeS appendS
  rw [changeS_down hd]
  rfl
theorem other_down {s : St} (hd : s.down = true) (k : List UInt8) (L l : Recs) : otherS s k L l = (41, L, s) := by
  unfold otherS replaceS
  rw [changeS_down hd]
  rfl
theorem write_cases {s : St} {b : List UInt8} {sy : Nat} (h : Con s b sy) (hd : s.down = false) (L l : Recs) :
    (s.room < b.length + (Fr.joinB l).length ∧ writeS s kJ L l = (40, L, s)) ∨
    (b.length + (Fr.joinB l).length ≤ s.room ∧ ∃ s', writeS s kJ L l = (41, L, s') ∧ s.waits = true ∧ s'.down = true ∧ ∃ u, s'.fs = [(kJ, ⟨b ++ Fr.joinB l, sy, u⟩)]) ∨
    (b.length + (Fr.joinB l).length ≤ s.room ∧ ∃ s', writeS s kJ L l = (0, L ++ l, s') ∧ s'.down = false ∧ (s.waits = false → s'.waits = false) ∧ s'.room = s.room ∧ s'.fs = [(kJ, ⟨b ++ Fr.joinB l, (b ++ Fr.joinB l).length, true⟩)]) := by
  by_cases hf : s.room < b.length + (Fr.joinB l).length
  · left
    refine ⟨hf, ?_⟩
    have ha : appendS s kJ (Fr.joinB l) = (40, s) := by
      unfold appendS
      rw [h.used, if_pos (show b.length + (Fr.joinB l).length > s.room by omega)]
      exact changeS_err hd (by decide) _ _
    unfold writeS
    rw [ha]; rfl
  · right
    obtain ⟨u, hg⟩ := h.get
    have ha : appendS s kJ (Fr.joinB l) = changeS s 0 [(kJ, ⟨b ++ Fr.joinB l, sy, u⟩)] [(kJ, ⟨b ++ Fr.joinB l, sy, u⟩)] := by
      unfold appendS
      rw [h.used, if_neg (show ¬ b.length + (Fr.joinB l).length > s.room by omega), h.put, hg]; rfl
    obtain ⟨s1, hs1⟩ : ∃ s1 : St, s1 = { brkS s with fs := [(kJ, ⟨b ++ Fr.joinB l, sy, u⟩)] } := ⟨_, rfl⟩
    have f1 : s1.fs = [(kJ, ⟨b ++ Fr.joinB l, sy, u⟩)] := by rw [hs1]
    have r1 : s1.room = s.room := by rw [hs1]; exact brk_rm s
    cases hb : brkB s with
    | true =>
      left
      obtain ⟨h1, h2⟩ := brk_true hb
      rw [changeS_torn hd rfl hb, ← hs1] at ha
      refine ⟨by omega, s1, ?_, h2, by rw [hs1]; exact h1, u, f1⟩
      unfold writeS
      rw [ha]; rfl
    | false =>
      obtain ⟨h1, h2⟩ := brk_false hb hd
      rw [changeS_whole hd rfl hb, ← hs1] at ha
      have d1 : s1.down = false := by rw [hs1]; exact h1
      have w1 : s.waits = false → s1.waits = false := fun e => by rw [hs1]; exact h2 e
      have hs2 : syncS s1 kJ = changeS s1 0 [(kJ, ⟨b ++ Fr.joinB l, (b ++ Fr.joinB l).length, true⟩)] s1.fs := by
        unfold syncS needE
        rw [f1, if_pos (by simp [look])]
        simp [getF, look, syncedF, putF]
      obtain ⟨s2, hs2e⟩ : ∃ s2 : St, s2 = { brkS s1 with fs := s1.fs } := ⟨_, rfl⟩
      obtain ⟨s3, hs3e⟩ : ∃ s3 : St, s3 = { brkS s1 with fs := [(kJ, ⟨b ++ Fr.joinB l, (b ++ Fr.joinB l).length, true⟩)] } := ⟨_, rfl⟩
      cases hb2 : brkB s1 with
      | true =>
        left
        obtain ⟨h3, h4⟩ := brk_true hb2
        rw [changeS_torn d1 rfl hb2, ← hs2e] at hs2
        refine ⟨by omega, s2, ?_, ?_, by rw [hs2e]; exact h3, u, by rw [hs2e]; exact f1⟩
        · unfold writeS
          rw [ha, if_pos rfl]
          simp only [hs2]
          rw [if_neg (by decide)]
        · cases hw : s.waits with
          | true => rfl
          | false => have e := w1 hw; exact absurd (h4.symm.trans e) (by decide)
      | false =>
        right
        obtain ⟨h3, h4⟩ := brk_false hb2 d1
        rw [changeS_whole d1 rfl hb2, ← hs3e] at hs2
        refine ⟨by omega, s3, ?_, by rw [hs3e]; exact h3, fun hw => by rw [hs3e]; exact h4 (w1 hw), by rw [hs3e]; show (brkS _).room = _; rw [brk_rm]; exact r1, by rw [hs3e]⟩
        unfold writeS
        rw [ha, if_pos rfl]
        simp only [hs2]
        rfl
theorem other_cases {s : St} {b : List UInt8} {sy : Nat} (h : Con s b sy) (hd : s.down = false) (L l : Recs) :
    (otherS s kJ L l = (40, L, s)) ∨ (∃ s', otherS s kJ L l = (41, L, s') ∧ s'.down = true ∧ s'.fs = s.fs) ∨
    (∃ s', otherS s kJ L l = (0, l, s') ∧ s'.down = false ∧ s'.fs = [(kJ, ⟨Fr.joinB l, (Fr.joinB l).length, true⟩)]) := by
  by_cases hf : usedF s.fs + (Fr.joinB l).length > s.room + (getF s.fs kJ).b.length
  · left
    have ha : replaceS s kJ (Fr.joinB l) = (40, s) := by
      unfold replaceS
      rw [if_pos hf]
      exact changeS_err hd (by decide) _ _
    unfold otherS
    rw [ha]; rfl
  · right
    have ha : replaceS s kJ (Fr.joinB l) = changeS s 0 [(kJ, ⟨Fr.joinB l, (Fr.joinB l).length, true⟩)] s.fs := by
      unfold replaceS
      rw [if_neg hf, h.put]
    cases hb : brkB s with
    | true =>
      left
      rw [changeS_torn hd rfl hb] at ha
      refine ⟨{ brkS s with fs := s.fs }, ?_, (brk_true hb).1, rfl⟩
      unfold otherS
      rw [ha]; rfl
    | false =>
      right
      rw [changeS_whole hd rfl hb] at ha
      refine ⟨{ brkS s with fs := [(kJ, ⟨Fr.joinB l, (Fr.joinB l).length, true⟩)] }, ?_, (brk_false hb hd).1, rfl⟩
      unfold otherS
      rw [ha, if_pos rfl]
theorem open_con {s : St} {b : List UInt8} {sy : Nat} (h : Con s b sy) (hd : s.down = false) (hw : s.waits = false) :
    ∃ s' sy', openS s kJ = (some (Fr.scanT b), 0, s') ∧ s'.down = false ∧ s'.waits = false ∧ s'.room = s.room ∧ Con s' (b.take (Fr.scanN b)) sy' ∧ (sy = b.length → sy' = (b.take (Fr.scanN b)).length) := by
  obtain ⟨u, hg⟩ := h.get
  have ho : openS s kJ = cutsS s kJ b := by unfold openS; rw [if_neg (by rw [hd]; simp), hg]
  have hle := Fr.scanN_le b
  by_cases hl : Fr.scanN b < b.length
  · have hb : b ≠ [] := by intro e; rw [e] at hl; simp at hl
    have hc : cutS s kJ (Fr.scanN b : Int) = changeS s 0 [(kJ, ⟨b.take (Fr.scanN b), min sy (Fr.scanN b), true⟩)] s.fs := by
      unfold cutS cutE
      rw [if_pos (h.there hb), hg, if_neg (by simp only; omega), h.put]
      simp [cutF]
    have hbk : brkB s = false := by unfold brkB; rw [hw]; rfl
    rw [changeS_whole hd rfl hbk] at hc
    have hbs : brkS s = s := by unfold brkS; rw [if_neg (by rw [hw]; simp)]
    rw [hbs] at hc
    refine ⟨{ s with fs := [(kJ, ⟨b.take (Fr.scanN b), min sy (Fr.scanN b), true⟩)] }, min sy (Fr.scanN b), ?_, hd, hw, rfl, .inr ⟨true, rfl⟩, fun e => ?_⟩
    · rw [ho]
      unfold cutsS
      rw [if_pos hl, hc, if_pos rfl]
    · rw [List.length_take, e]; omega
  · refine ⟨s, sy, ?_, hd, hw, rfl, by rw [List.take_of_length_le (by omega)]; exact h, fun e => by rw [List.take_of_length_le (by omega)]; exact e⟩
    rw [ho]
    unfold cutsS
    rw [if_neg hl]
/-- what a crash leaves of it -/
theorem crash_con {s : St} {b : List UInt8} {sy : Nat} (h : Con s b sy) (hs : sy ≤ b.length) (keep : List Int) : ∃ n, sy ≤ n ∧ n ≤ b.length ∧ Con (crashS s keep) (b.take n) (b.take n).length := by
  rcases h with ⟨h, rfl, rfl⟩ | ⟨u, h⟩
  · refine ⟨0, by omega, by simp, .inl ⟨?_, rfl, rfl⟩⟩
    show crashF s.fs keep = []
    rw [h]; rfl
  · obtain ⟨n, hn⟩ : ∃ n, n = leftF ⟨b, sy, u⟩ (keep.headD 0) := ⟨_, rfl⟩
    have h1 : sy ≤ n := by rw [hn]; exact Nat.le_add_right _ _
    have h2 : n ≤ b.length := by rw [hn]; show sy + min (keep.headD 0).toNat (b.length - sy) ≤ b.length; omega
    have h3 : (b.take n).length = n := by rw [List.length_take]; omega
    refine ⟨n, h1, h2, ?_⟩
    rw [h3]
    unfold Con
    show (crashF s.fs keep = [] ∧ _) ∨ ∃ u, crashF s.fs keep = _
    rw [h]
    unfold crashF
    simp only
    rw [← hn]
    by_cases hz : n = 0 ∧ u = false
    · left
      rw [if_pos hz]
      obtain ⟨rfl, _⟩ := hz
      exact ⟨rfl, rfl, rfl⟩
    · right
      rw [if_neg hz]
      exact ⟨true, rfl⟩
theorem joinB_app (a b : Recs) : Fr.joinB (a ++ b) = Fr.joinB a ++ Fr.joinB b := by
  unfold Fr.joinB Fr.joinL
  rw [List.map_append, List.flatMap_append]
theorem joinB_nil {l : Recs} (h : (Fr.joinB l).length = 0) : l = [] := by
  have := (Fr.joinB_each l).1
  exact List.length_eq_zero_iff.1 (by omega)
/-- whole records, and of a torn one a beginning -/
theorem scan_torn (a l : Recs) (k : Nat) (ha : ∀ c ∈ a, c.size ≤ 65536) (hl : ∀ c ∈ l, c.size ≤ 65536) :
    ∃ m, m ≤ l.length ∧ Fr.scanT (Fr.joinB a ++ (Fr.joinB l).take k) = a ++ l.take m ∧ (Fr.joinB a ++ (Fr.joinB l).take k).take (Fr.scanN (Fr.joinB a ++ (Fr.joinB l).take k)) = Fr.joinB (a ++ l.take m) := by
  obtain ⟨m, h1, h2, h3, h4, h5, _⟩ := Fr.scan_some l k hl
  obtain ⟨h6, h7⟩ := Fr.scan_chain a ((Fr.joinB l).take k) ha
  refine ⟨m, h1, by rw [h6, h2], ?_⟩
  rw [h7, List.take_append, List.take_of_length_le (by omega), Nat.add_sub_cancel_left, h3, joinB_app, List.take_take, Nat.min_eq_left h4, h5]
end Go.Proofs.YtnffjoflkeagfaaGreat
namespace Go.Proofs.YtnffjoflkeagfaaGreat
open Go.RowKit Go.Maps

section
variable {Q1 Q2 : (Nat → Prop) → World → Prop} {S : Nat → Prop} {w w' : World}
theorem Pair.step1e {Q1' : Ending → (Nat → Prop) → World → Prop} (t1 : Thing Q1) (t1' : ∀ e, Thing (Q1' e)) (t2 : Thing Q2) (h : Pair Q1 Q2 S w) (hS : ∀ k, w.heap.size ≤ k → S k) {P : Program} {f : FuncId} {args : Array Value}
    (hc : ∀ T : Nat → Prop, (∀ k, w.heap.size ≤ k → T k) → (∀ k, T k → S k) → Q1 T w → Calls P f args w fun e w' => Q1' e T w' ∧ Kept T w w') :
    Calls P f args w fun e w' => Pair (Q1' e) Q2 S w' ∧ Kept S w w' := by
  obtain ⟨Sa, Sb, h1, h2, h3, h4, h5⟩ := h
  have hT : ∀ k, (Sa k ∨ w.heap.size ≤ k) → S k := fun k hk => hk.elim (fun h => (h4 k h).1) (hS k)
  refine (hc (fun k => Sa k ∨ w.heap.size ≤ k) (fun k hk => .inr hk) hT (t1.mono h1 (fun k _ hk => .inl hk))).mono ?_
  rintro e w' ⟨hq, hk⟩
  refine ⟨⟨_, Sb, (t1' e).tight hq, t2.other h2 hk (fun k hlt hb ha => ha.elim (fun h => h3 k h hb) (fun h => by omega)), fun k ha hb => ha.1.elim (fun h => h3 k h hb) (fun h => by have := (h5 k hb).2; omega),
    fun k ha => ⟨hT k ha.1, ha.2⟩, fun k hb => ⟨(h5 k hb).1, Nat.lt_of_lt_of_le (h5 k hb).2 hk.size⟩⟩, hk.mono (fun k _ => hT k)⟩
theorem Pair.imp1 {Q1' : (Nat → Prop) → World → Prop} (h : Pair Q1 Q2 S w) (hi : ∀ T, Q1 T w → Q1' T w) : Pair Q1' Q2 S w := by
  obtain ⟨Sa, Sb, h1, h2, r⟩ := h
  exact ⟨Sa, Sb, hi _ h1, h2, r⟩
theorem Pair.midw {A B C : (Nat → Prop) → World → Prop} {S : Nat → Prop} {w : World} (h : Pair (Pair A B) C S w) : Pair (Pair A C) B S w := by
  obtain ⟨Sab, Sc, ⟨Sa, Sb, a, b, d1, d2, d3⟩, c, e1, e2, e3⟩ := h
  exact ⟨fun k => Sa k ∨ Sc k, Sb, ⟨Sa, Sc, a, c, fun k h1 h2 => e1 k (d2 k h1).1 h2, fun k hk => ⟨.inl hk, (d2 k hk).2⟩, fun k hk => ⟨.inr hk, (e3 k hk).2⟩⟩, b,
    fun k h1 h2 => h1.elim (fun h => d1 k h h2) (fun h => e1 k (d3 k h2).1 h), fun k hk => hk.elim (fun h => e2 k (d2 k h).1) (fun h => e3 k h), fun k hk => e2 k (d3 k hk).1⟩
end
theorem Pair.assoc {A B C : (Nat → Prop) → World → Prop} {S : Nat → Prop} {w : World} (h : Pair (Pair A B) C S w) : Pair A (Pair B C) S w := by
  obtain ⟨Sab, Sc, ⟨Sa, Sb, a, b, d1, d2, d3⟩, c, e1, e2, e3⟩ := h
  exact ⟨Sa, fun k => Sb k ∨ Sc k, a, ⟨Sb, Sc, b, c, fun k h1 h2 => e1 k (d3 k h1).1 h2, fun k hk => ⟨.inl hk, (d3 k hk).2⟩, fun k hk => ⟨.inr hk, (e3 k hk).2⟩⟩,
    fun k h1 h2 => h2.elim (fun h => d1 k h1 h) (fun h => e1 k (d2 k h1).1 h), fun k hk => e2 k (d2 k hk).1, fun k hk => hk.elim (fun h => e2 k (d3 k h).1) (fun h => e3 k h)⟩
theorem Pair.assoc' {A B C : (Nat → Prop) → World → Prop} {S : Nat → Prop} {w : World} (h : Pair A (Pair B C) S w) : Pair (Pair A B) C S w := by
  obtain ⟨Sa, Sbc, a, ⟨Sb, Sc, b, c, d1, d2, d3⟩, e1, e2, e3⟩ := h
  exact ⟨fun k => Sa k ∨ Sb k, Sc, ⟨Sa, Sb, a, b, fun k h1 h2 => e1 k h1 (d2 k h2).1, fun k hk => ⟨.inl hk, (e2 k hk).2⟩, fun k hk => ⟨.inr hk, (d2 k hk).2⟩⟩, c,
    fun k h1 h2 => h1.elim (fun h => e1 k h (d3 k h2).1) (fun h => d1 k h h2), fun k hk => hk.elim (fun h => e2 k h) (fun h => e3 k (d2 k h).1), fun k hk => e3 k (d3 k hk).1⟩
/-- disk and journal -/
abbrev DJ (db wb : Nat) (s : St) (L : Recs) : (Nat → Prop) → World → Prop := Pair (DiskQ db s) (WalQ wb db nJ L)
theorem djThing (db wb : Nat) (s : St) (L : Recs) : Thing (DJ db wb s L) := pairThing (diskThing _ _) (walThing _ _ _ _)
def OpQ (db : Nat) (s' : St) (L : Recs) (e : Ending) : (Nat → Prop) → World → Prop := fun S w => ∃ wb, e = .returned (.tuple #[ptrV wb, .int .i64 0]) ∧ DJ db wb s' L S w
theorem opThing (db : Nat) (s' : St) (L : Recs) (e : Ending) : Thing (OpQ db s' L e) :=
  ⟨fun h hS => by obtain ⟨wb, he, h⟩ := h; exact ⟨wb, he, (djThing _ _ _ _).mono h hS⟩, fun h => by obtain ⟨wb, he, h⟩ := h; exact ⟨wb, he, (djThing _ _ _ _).tight h⟩, fun h hk hS => by obtain ⟨wb, he, h⟩ := h; exact ⟨wb, he, (djThing _ _ _ _).other h hk hS⟩⟩
section
variable {Q R : (Nat → Prop) → World → Prop} {S : Nat → Prop} {w w' : World} {db wb : Nat} {s s' : St} {L : Recs}
/-- Open, of a disk with another thing beside it -/
theorem Open_beside (tQ : Thing Q) (h : Pair (DiskQ db s) Q S w) (hS : ∀ k, w.heap.size ≤ k → S k) (hc : s.fs.length ≤ 1048576) (hu : usedF s.fs ≤ 274877906944) (he : openS s kJ = (some L, 0, s')) :
    Calls Tryz.prog 13 #[ptrV db, .string nJ] w fun e w' => (∃ wb, e = .returned (.tuple #[ptrV wb, .int .i64 0]) ∧ Pair (DJ db wb s' L) Q S w') ∧ Kept S w w' := by
  refine (Pair.step1e (diskThing _ _) (opThing db s' L) tQ h hS (fun T hT _ hq => (Open_some hq hT (by omega) (by omega) he).mono (fun e w' hh => ?_))).mono ?_
  · obtain ⟨wb, he, hp, hk⟩ := hh
    exact ⟨⟨wb, he, hp⟩, hk⟩
  · rintro e w' ⟨⟨Sa, Sb, ⟨wb, he, h1⟩, h2, r⟩, hk⟩
    exact ⟨⟨wb, he, Sa, Sb, h1, h2, r⟩, hk⟩
theorem wAppend_beside (tQ : Thing Q) (h : Pair (DJ db wb s L) Q S w) (hS : ∀ k, w.heap.size ≤ k → S k) (hm : s.fs.length ≤ 1048576) (hu : usedF s.fs ≤ 274877906944)
    {v : Value} {l : Recs} (hv : TxtOff S w v l) (hall : ∀ c ∈ l, c.size ≤ 65536) (hl : l.length ≤ 1048576) (hL : L.length ≤ 1099511627776) (hne : l ≠ []) :
    Calls Tryz.prog 14 #[ptrV wb, v] w fun e w' => e = .returned (.int .i64 (writeS s kJ L l).1) ∧ Pair (DJ db wb (writeS s kJ L l).2.2 (writeS s kJ L l).2.1) Q S w' ∧ Kept S w w' :=
  Pair.step1 (djThing _ _ _ _) (djThing db wb (writeS s kJ L l).2.2 (writeS s kJ L l).2.1) tQ h hS (X := fun e _ => e = .returned (.int .i64 (writeS s kJ L l).1)) (fun T hT hTS hq => wAppend_any (name := nJ) hq hT hm hu (by decide) (hv.mono hTS) hall hl hL hne)
theorem wRewrite_beside (tQ : Thing Q) (h : Pair (DJ db wb s L) Q S w) (hS : ∀ k, w.heap.size ≤ k → S k) (hm : s.fs.length ≤ 1048576) (hu : usedF s.fs ≤ 274877906944)
    {v : Value} {l : Recs} (hv : TxtOff S w v l) (hall : ∀ c ∈ l, c.size ≤ 65536) (hl : l.length ≤ 1048576) :
    Calls Tryz.prog 22 #[ptrV wb, v] w fun e w' => e = .returned (.int .i64 (otherS s kJ L l).1) ∧ Pair (DJ db wb (otherS s kJ L l).2.2 (otherS s kJ L l).2.1) Q S w' ∧ Kept S w w' :=
  Pair.step1 (djThing _ _ _ _) (djThing db wb (otherS s kJ L l).2.2 (otherS s kJ L l).2.1) tQ h hS (X := fun e _ => e = .returned (.int .i64 (otherS s kJ L l).1)) (fun T hT hTS hq => wRewrite_any (name := nJ) hq hT hm hu (by decide) (hv.mono hTS) hall hl)
/-- .. a literal list -/
theorem wAppend_blit (tQ : Thing Q) (h : Pair (DJ db wb s L) Q S w) (hS : ∀ k, w.heap.size ≤ k → S k) (hm : s.fs.length ≤ 1048576) (hu : usedF s.fs ≤ 274877906944)
    {l : Recs} (T : TypeId) (hall : ∀ c ∈ l, c.size ≤ 65536) (hl : l.length ≤ 1048576) (hL : L.length ≤ 1099511627776) (hne : l ≠ []) :
    Calls Tryz.prog 14 #[ptrV wb, .slice (some ⟨w.heap.size, 0, none⟩) l.length l.length] (w.alloc (.cells (cellsOf strC l).toArray T)) fun e w' => e = .returned (.int .i64 (writeS s kJ L l).1) ∧ Pair (DJ db wb (writeS s kJ L l).2.2 (writeS s kJ L l).2.1) Q S w' ∧ Kept S w w' := by
  have hb : Below w.heap.size w (w.alloc (.cells (cellsOf strC l).toArray T)) := (Below.refl _ _).alloc (Nat.le_refl _) _
  have hsz : (w.alloc (.cells (cellsOf strC l).toArray T)).heap.size = w.heap.size + 1 := by simp
  have tt := pairThing (djThing db wb s L) tQ
  have h1 := tt.below (tt.mono (S' := fun k => S k ∧ k ≠ w.heap.size) h (fun k hl hk => ⟨hk, by omega⟩)) hb
  refine (wAppend_beside tQ h1 (fun k hk => ⟨hS k (by omega), by omega⟩) hm hu (txt_lit (fun hh => hh.2 rfl) l T) hall hl hL hne).mono ?_
  rintro e w' ⟨rfl, hd, hk⟩
  exact ⟨rfl, (pairThing (djThing _ _ _ _) tQ).mono hd (fun k _ hh => hh.1), (Kept.of_below hb).trans (hk.mono (fun k _ hh => hh.1))⟩
end
/-- a row of the law's own grows -/
theorem row_grow {S : Nat → Prop} {w w1 w2 : World} {v v' : Value} {L L' : Recs} (h : RowS S w v L) (hS : ∀ k, w.heap.size ≤ k → S k) (hb : Below w.heap.size w w1) (hg : w1.grownBy w2 v.ownBlock)
    (ho : w2.ownsRow 0 9 1 v' L'.length (cellsOf strC L')) (hat : v'.ownBlock = v.ownBlock ∨ v'.ownBlock = some w1.heap.size) : RowS S w2 v' L' ∧ Kept S w w2 := by
  have k3 : Kept S w1 w2 := by
    cases e : v.ownBlock with
    | none => rw [e] at hg; exact ⟨hg.os, hg.tape, hg.output, hg.size, fun i hi _ => hg.block i hi (by simp)⟩
    | some g => rw [e] at hg; exact Kept.of_but hg (h.2 g e)
  refine ⟨⟨ho, fun g hg' => ?_⟩, (Kept.of_below hb).trans k3⟩
  rcases hat with hat | hat
  · rw [hat] at hg'; exact h.2 g hg'
  · rw [hat] at hg'
    have : w1.heap.size = g := by simpa using hg'
    exact hS g (by rw [← this]; exact hb.size)
theorem open_new (room : Int) : openS (newS room) kJ = (some [], 0, newS room) := by kernel_rfl
theorem con_new (room : Int) : Con (newS room) [] 0 := .inl ⟨rfl, rfl, rfl⟩
end Go.Proofs.YtnffjoflkeagfaaGreat
