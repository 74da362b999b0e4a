/- The document's example: works. -/
import Derived.Test.YtnffjoflkeagfaaWalA
import Derived.KernelRfl
namespace Go.Proofs.Ytnffjoflkeagfaa
open Go.RowKit Go.Maps

/-- texts in a block of the call's own -/
theorem txt_lit {S : Nat → Prop} {w : World} (hne : ¬ S w.heap.size) (l : Recs) (T : TypeId) : TxtOff S (w.alloc (.cells (cellsOf strC l).toArray T)) (.slice (some ⟨w.heap.size, 0, none⟩) l.length l.length) l := by
  refine ⟨⟨by simp [cellsOf], _, _, rfl, Nat.le_refl _, .inr ⟨w.heap.size, 0, rfl, by simp, hne, fun j u hu => ?_⟩⟩, fun n c e => by cases e⟩
  rw [Nat.zero_add, World.cell?_alloc_new, List.getElem?_toArray]; exact hu
theorem wAppend_lit {S : Nat → Prop} {w : World} {wb db : Nat} {s : St} {name : ByteArray} {L : Recs} (h : Pair (DiskQ db s) (WalQ wb db name L) S w) (hS : ∀ k, w.heap.size ≤ k → S k) (hm : s.fs.length ≤ 1048576) (hu : usedF s.fs ≤ 274877906944)
    (hn : name.size ≤ 281474976710656) {l : Recs} (T : TypeId) (hall : ∀ c ∈ l, c.size ≤ 65536) (hl : l.length ≤ 1048576) (hL : L.length ≤ 1048576) (hne : l ≠ []) :
    Calls Try.prog 26 #[ptrV wb, .slice (some ⟨w.heap.size, 0, none⟩) l.length l.length] (w.alloc (.cells (cellsOf strC l).toArray T)) fun e w' => e = .returned (.int .i64 (writeS s (bs name) L l).1) ∧ Pair (DiskQ db (writeS s (bs name) L l).2.2) (WalQ wb db name (writeS s (bs name) L l).2.1) S w' ∧ Kept S w w' := by
  have hb : Below w.heap.size w (w.alloc (.cells (cellsOf strC l).toArray T)) := (Below.refl _ _).alloc (Nat.le_refl _) _
  have hsz : (w.alloc (.cells (cellsOf strC l).toArray T)).heap.size = w.heap.size + 1 := by simp
  have h1 : Pair (DiskQ db s) (WalQ wb db name L) (fun k => S k ∧ k ≠ w.heap.size) (w.alloc (.cells (cellsOf strC l).toArray T)) :=
    (pairThing (diskThing _ _) (walThing _ _ _ _)).below ((pairThing (diskThing _ _) (walThing _ _ _ _)).mono h (fun k hl hk => ⟨hk, by omega⟩)) hb
  refine (wAppend_any h1 (fun k hk => ⟨hS k (by omega), by omega⟩) hm hu hn (txt_lit (fun hh => hh.2 rfl) l T) hall hl hL hne).mono ?_
  rintro e w' ⟨rfl, hd, hk⟩
  exact ⟨rfl, (pairThing (diskThing _ _) (walThing _ _ _ _)).mono hd (fun k _ hh => hh.1), (Kept.of_below hb).trans (hk.mono (fun k _ hh => hh.1))⟩
abbrev kJ : List UInt8 := [106]
abbrev tA : ByteArray := ⟨#[97]⟩
abbrev tB : ByteArray := ⟨#[98]⟩
abbrev tC : ByteArray := ⟨#[99]⟩
def p1 : St := (writeS (newS 1000) kJ [] [tA, tB]).2.2
def p2 : St := breakS p1 1
def p3 : St := (writeS p2 kJ [tA, tB] [tC]).2.2
def p4 : St := crashS p3 [3]
def p5 : St := (openS p4 kJ).2.2
theorem pe0 : openS (newS 1000) kJ = (some [], 0, newS 1000) := by kernel_rfl
theorem pe1 : writeS (newS 1000) kJ [] [tA, tB] = (0, [tA, tB], p1) := by kernel_rfl
theorem pe3 : writeS p2 kJ [tA, tB] [tC] = (41, [tA, tB], p3) := by kernel_rfl
theorem pe4 : openS p3 kJ = (none, 41, p3) := by kernel_rfl
theorem pe5 : openS p4 kJ = (some [tA, tB], 0, p5) := by kernel_rfl
theorem pl1 : p1.fs.length = 1 := by kernel_rfl
theorem pu1 : usedF p1.fs = 18 := by kernel_rfl
theorem pl2 : p2.fs.length = 1 := by kernel_rfl
theorem pu2 : usedF p2.fs = 18 := by kernel_rfl
theorem pl3 : p3.fs.length = 1 := by kernel_rfl
theorem pu3 : usedF p3.fs = 27 := by kernel_rfl
theorem pk3 : p3.fs.map (·.1) = [kJ] := by kernel_rfl
theorem pl4 : p4.fs.length = 1 := by kernel_rfl
theorem pu4 : usedF p4.fs = 21 := by kernel_rfl
theorem pu5 : usedF p5.fs = 18 := by kernel_rfl
abbrev nJ : ByteArray := ⟨#[106]⟩
theorem Open_some {S : Nat → Prop} {w : World} {db : Nat} {s s' : St} {L : Recs} (h : DiskAt S w db s) (hS : ∀ k, w.heap.size ≤ k → S k) (hc : s.fs.length ≤ 1099511627776) (hu : usedF s.fs ≤ 1099511627776) (he : openS s kJ = (some L, 0, s')) :
    Calls Try.prog 25 #[ptrV db, .string nJ] w fun e w' => ∃ wb, e = .returned (.tuple #[ptrV wb, .int .i64 0]) ∧ Pair (DiskQ db s') (WalQ wb db nJ L) S w' ∧ Kept S w w' := by
  have := Open_any h hS ⟨hc, by omega⟩ hu nJ (by decide)
  rw [show bs nJ = kJ from rfl, he] at this
  refine this.mono ?_
  rintro e w' ⟨pv, rfl, ⟨wb, rfl, hp⟩, hk⟩
  exact ⟨wb, rfl, hp, hk⟩
theorem Open_none {S : Nat → Prop} {w : World} {db : Nat} {s s' : St} (h : DiskAt S w db s) (hS : ∀ k, w.heap.size ≤ k → S k) (hc : s.fs.length ≤ 1099511627776) (hu : usedF s.fs ≤ 1099511627776) (he : openS s kJ = (none, 41, s')) :
    Calls Try.prog 25 #[ptrV db, .string nJ] w fun e w' => e = .returned (.tuple #[.pointer none, .int .i64 41]) ∧ DiskAt S w' db s' ∧ Kept S w w' := by
  have := Open_any h hS ⟨hc, by omega⟩ hu nJ (by decide)
  rw [show bs nJ = kJ from rfl, he] at this
  refine this.mono ?_
  rintro e w' ⟨pv, rfl, ⟨rfl, hp⟩, hk⟩
  exact ⟨rfl, hp, hk⟩
set_option maxHeartbeats 4000000 in
set_option maxRecDepth 100000 in
theorem works5_any (w : World) :
    Calls Try.prog 23 #[] w fun e w' => e = .returned (.bool true) ∧ Below w.heap.size w w' := by
  go_enter Try.func23, Try.ntmps23
  go_wp2_with fail
  refine (New_any (S := From w.heap.size) w (fun k hk => hk) 1000 (by decide)).mono ?_
  rintro e w1 ⟨rfl, d1, b1⟩
  have D1 := Lib.hid d1
  have K1 : Hid (Kept (From w.heap.size) w w1) := Kept.of_below b1
  clear d1 b1
  generalize hdb : w.heap.size = db at *
  go_wp2_with fail
  refine (Open_some D1.out (fun k hk => Nat.le_trans (by have := K1.out.size; omega) hk) (by decide) (by decide) pe0).mono ?_
  rintro e w2 ⟨wb, rfl, q2, k2⟩
  have P2 := Lib.hid q2
  have K2 : Hid (Kept (From db) w w2) := K1.out.trans k2
  clear q2 k2
  go_wp2_with fail
  refine (wAppend_lit (l := [tA, tB]) P2.out (fun k hk => Nat.le_trans (by have := K2.out.size; omega) hk) (by decide) (by decide) (by decide) 9 (by decide) (by decide) (by decide) (by simp)).mono ?_
  rw [show bs nJ = kJ from rfl, pe1]
  rintro e w3 ⟨rfl, q3, k3⟩
  have P3 := Lib.hid q3
  have K3 : Hid (Kept (From db) w w3) := K2.out.trans k3
  clear q3 k3
  go_wp2_with fail
  refine (Pair.step1 (diskThing _ _) (diskThing db p2) (walThing _ _ _ _) P3.out (fun k hk => Nat.le_trans (by have := K3.out.size; omega) hk) (X := fun e _ => e = .returned (.tuple #[])) (fun T hT _ hq => Break_any hq 1 (by decide))).mono ?_
  rintro e w4 ⟨rfl, q4, k4⟩
  have P4 := Lib.hid q4
  have K4 : Hid (Kept (From db) w w4) := K3.out.trans k4
  clear q4 k4
  go_wp2_with fail
  refine (wAppend_lit (l := [tC]) P4.out (fun k hk => Nat.le_trans (by have := K4.out.size; omega) hk) (by rw [pl2]; decide) (by rw [pu2]; decide) (by decide) 9 (by decide) (by decide) (by decide) (by simp)).mono ?_
  rw [show bs nJ = kJ from rfl, pe3]
  rintro e w5 ⟨rfl, q5, k5⟩
  have D5 : Hid (DiskAt (From db) w5 db p3) := Pair.fst (diskThing _ _) q5
  have K5 : Hid (Kept (From db) w w5) := K4.out.trans k5
  clear q5 k5
  go_wp2_with fail
  refine (Open_none D5.out (fun k hk => Nat.le_trans (by have := K5.out.size; omega) hk) (by rw [pl3]; decide) (by rw [pu3]; decide) pe4).mono ?_
  rintro e w6 ⟨rfl, d6, k6⟩
  have D6 := Lib.hid d6
  have K6 : Hid (Kept (From db) w w6) := K5.out.trans k6
  clear d6 k6
  go_wp2_with fail
  refine (Crash_new D6.out (fun k hk => Nat.le_trans (by have := K6.out.size; omega) hk) ⟨by rw [pl3]; decide, by rw [pu3]; decide⟩ (fun p hp => by
    have : p.1 ∈ p3.fs.map (·.1) := List.mem_map_of_mem hp
    rw [pk3] at this
    rw [List.mem_singleton.1 this]; decide) 3 [3] (by decide)).mono ?_
  rintro e w7 ⟨rfl, d7, k7⟩
  have D7 : Hid (DiskAt (From db) w7 db p4) := d7
  have K7 : Hid (Kept (From db) w w7) := K6.out.trans k7
  clear d7 k7
  go_wp2_with fail
  refine (Open_some D7.out (fun k hk => Nat.le_trans (by have := K7.out.size; omega) hk) (by rw [pl4]; decide) (by rw [pu4]; decide) pe5).mono ?_
  rintro e w8 ⟨vb, rfl, q8, k8⟩
  have P8 := Lib.hid q8
  have K8 : Hid (Kept (From db) w w8) := K7.out.trans k8
  clear q8 k8
  go_wp2_with fail
  refine (Records_any (Pair.snd (walThing _ _ _ _) P8.out) (by decide)).mono ?_
  rintro e w9 ⟨v', rfl, ho, b9⟩
  obtain ⟨ra, rc, rfl⟩ := row_slice ho
  obtain ⟨g, cap, e1, hcap, hg, _, k0⟩ := row_cell ho (j := 1) (u := .string tB) rfl
  cases e1
  have hus := Used_any ((Pair.fst (diskThing _ _) P8.out : DiskAt (From db) w8 db p5).below b9)
  rw [pu5] at hus
  have K9 : Hid (Kept (From db) w w9) := K8.out.trans (Kept.of_below b9)
  clear ho b9
  go_wp2_with fail
  refine hus.mono ?_
  rintro e w10 ⟨rfl, rfl⟩
  go_wp2
  go_ret
  exact ⟨rfl, K9.out.below (by omega) (fun k h => by have : db ≤ k := h; omega)⟩
end Go.Proofs.Ytnffjoflkeagfaa
