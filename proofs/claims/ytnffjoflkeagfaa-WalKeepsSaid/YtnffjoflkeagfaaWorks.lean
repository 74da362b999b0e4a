/- The document's example: works. -/
import Derived.Test.YtnffjoflkeagfaaCrash
namespace Go.Proofs.Ytnffjoflkeagfaa
open Go.RowKit Go.Maps

/-- from block B on -/
abbrev From (B : Nat) : Nat → Prop := fun k => B ≤ k
/-- a crash whose numbers lie in a block of the call's own -/
theorem Crash_new {S : Nat → Prop} {w : World} {db : Nat} {s : St} (h : DiskAt S w db s) (hS : ∀ k, w.heap.size ≤ k → S k) (hm : Small s) (hkl : ∀ p ∈ s.fs, p.1.length ≤ 281474976710656) (T : TypeId) (keep : List Int) (hkn : keep.length ≤ 9223372036854775807) :
    Calls Try.prog 22 #[ptrV db, .slice (some ⟨w.heap.size, 0, none⟩) keep.length keep.length] (w.alloc (.cells (keep.map (fun z => Value.int .i64 z)).toArray T)) fun e w' => e = .returned (.tuple #[]) ∧ DiskAt S w' db (crashS s keep) ∧ Kept S w w' := by
  obtain ⟨own, mv, wv, mo, h⟩ := h
  have hb : Below w.heap.size w (w.alloc (.cells (keep.map (fun z => Value.int .i64 z)).toArray T)) := (Below.refl _ _).alloc (Nat.le_refl _) _
  have h1 : DiskAt (fun k => own k ≠ .no ∨ w.heap.size < k) (w.alloc (.cells (keep.map (fun z => Value.int .i64 z)).toArray T)) db s :=
    ⟨own, mv, wv, mo, (DiskO.mk (fun k hk => ⟨.inl hk, (h.mine k hk).2⟩) h.disk h.block h.brk h.map h.fit : DiskO own (fun k => own k ≠ .no ∨ w.heap.size < k) w db s mv wv mo).below hb⟩
  have hsz : (w.alloc (.cells (keep.map (fun z => Value.int .i64 z)).toArray T)).heap.size = w.heap.size + 1 := by simp
  have hoff : ListOff (fun k => own k ≠ .no ∨ w.heap.size < k) (w.alloc (.cells (keep.map (fun z => Value.int .i64 z)).toArray T)) (.slice (some ⟨w.heap.size, 0, none⟩) keep.length keep.length) keep.length (keep.map (fun z => Value.int .i64 z)) := by
    refine ⟨by simp, _, _, rfl, Nat.le_refl _, .inr ⟨w.heap.size, 0, rfl, by omega, fun hh => hh.elim (fun h' => h' (h.free (Nat.le_refl _))) (fun h' => by omega), fun j u hu => ?_⟩⟩
    rw [Nat.zero_add, World.cell?_alloc_new, List.getElem?_toArray]; exact hu
  refine (Crash_any h1 (fun k hk => .inr (by omega)) hm hkl _ keep hoff hkn).mono ?_
  rintro e w' ⟨rfl, hd, hk⟩
  have hSS : ∀ k, (own k ≠ .no ∨ w.heap.size < k) → S k := fun k hh => hh.elim (fun h' => (h.mine k h').1) (fun h' => hS k (by omega))
  exact ⟨rfl, hd.mono (fun k _ hh => hSS k hh), (Kept.of_below hb).trans (hk.mono (fun k _ hh => hSS k hh))⟩

def ws1 : St := ⟨10, [([98], ⟨[97, 98, 99], 0, false⟩)], false, false, 0⟩
def ws2 : St := ⟨10, [([98], ⟨[97, 98, 99], 3, true⟩)], false, false, 0⟩
def ws3 : St := ⟨10, [([98], ⟨[97, 98, 99, 100, 101, 102], 3, true⟩)], false, false, 0⟩
def ws4 : St := ⟨10, [([97], ⟨[120, 121], 0, false⟩), ([98], ⟨[97, 98, 99, 100, 101, 102], 3, true⟩)], false, false, 0⟩
def ws5 : St := ⟨10, [([97], ⟨[120], 1, true⟩), ([98], ⟨[97, 98, 99, 100, 101], 5, true⟩)], false, false, 0⟩
def ws6 : St := ⟨10, [([97], ⟨[120], 1, true⟩), ([98], ⟨[97, 98, 99, 100, 101], 5, true⟩)], false, true, 0⟩
def ws7 : St := ⟨10, [([97], ⟨[120, 49], 1, true⟩), ([98], ⟨[97, 98, 99, 100, 101], 5, true⟩)], true, false, 0⟩
theorem we1 : appendS (newS 10) [98] [97, 98, 99] = (0, ws1) := by kernel_rfl
theorem we2 : syncS ws1 [98] = (0, ws2) := by kernel_rfl
theorem we3 : appendS ws2 [98] [100, 101, 102] = (0, ws3) := by kernel_rfl
theorem we4 : appendS ws3 [97] [120, 121] = (0, ws4) := by kernel_rfl
theorem we5 : appendS ws4 [97] [122, 122, 122] = (40, ws4) := by kernel_rfl
theorem we6 : crashS ws4 [1, 2] = ws5 := by kernel_rfl
theorem we7 : readS ws5 [97] = ([120], 0) := by kernel_rfl
theorem we8 : readS ws5 [98] = ([97, 98, 99, 100, 101], 0) := by kernel_rfl
theorem we9 : breakS ws5 0 = ws6 := by kernel_rfl
theorem we10 : appendS ws6 [97] [49] = (41, ws7) := by kernel_rfl
theorem we11 : usedF ws7.fs = 7 := by kernel_rfl
set_option maxHeartbeats 4000000 in
set_option maxRecDepth 100000 in
theorem works_any (w : World) :
    Calls Try.prog 8 #[] w fun e w' => e = .returned (.bool true) ∧ Below w.heap.size w w' := by
  have h1 := New_any (S := From w.heap.size) w (fun k hk => hk) 10 (by decide)
  go_enter Try.func8, Try.ntmps8
  go_wp2_with fail
  refine h1.mono ?_
  rintro e w1 ⟨rfl, d1, b1⟩
  have D1 := Lib.hid d1
  have K1 : Hid (Kept (From w.heap.size) w w1) := Kept.of_below b1
  have s1 : Hid (w.heap.size ≤ w1.heap.size) := b1.size
  clear d1 b1 h1
  go_wp2_with fail
  refine (Append_any D1.out (fun k hk => Nat.le_trans s1.out hk) ⟨by decide, by decide⟩ ⟨#[98]⟩ ⟨#[97, 98, 99]⟩ (by decide) (by decide)).mono ?_
  rw [show appendS (newS 10) (bs ⟨#[98]⟩) (bs ⟨#[97, 98, 99]⟩) = (0, ws1) from we1]
  rintro e w2 ⟨rfl, d2, k2⟩
  have D2 := Lib.hid d2
  have K2 := Lib.hid (K1.out.trans k2)
  clear d2 k2
  go_wp2_with fail
  refine (Sync_any D2.out (fun k hk => Nat.le_trans K2.out.size hk) ⟨by decide, by decide⟩ ⟨#[98]⟩ (by decide)).mono ?_
  rw [show syncS ws1 (bs ⟨#[98]⟩) = (0, ws2) from we2]
  rintro e w3 ⟨rfl, d3, k3⟩
  have D3 := Lib.hid d3
  have K3 := Lib.hid (K2.out.trans k3)
  clear d3 k3
  go_wp2_with fail
  refine (Append_any D3.out (fun k hk => Nat.le_trans K3.out.size hk) ⟨by decide, by decide⟩ ⟨#[98]⟩ ⟨#[100, 101, 102]⟩ (by decide) (by decide)).mono ?_
  rw [show appendS ws2 (bs ⟨#[98]⟩) (bs ⟨#[100, 101, 102]⟩) = (0, ws3) from we3]
  rintro e w4 ⟨rfl, d4, k4⟩
  have D4 := Lib.hid d4
  have K4 := Lib.hid (K3.out.trans k4)
  clear d4 k4
  go_wp2_with fail
  refine (Append_any D4.out (fun k hk => Nat.le_trans K4.out.size hk) ⟨by decide, by decide⟩ ⟨#[97]⟩ ⟨#[120, 121]⟩ (by decide) (by decide)).mono ?_
  rw [show appendS ws3 (bs ⟨#[97]⟩) (bs ⟨#[120, 121]⟩) = (0, ws4) from we4]
  rintro e w5 ⟨rfl, d5, k5⟩
  have D5 := Lib.hid d5
  have K5 := Lib.hid (K4.out.trans k5)
  clear d5 k5
  go_wp2_with fail
  refine (Append_any D5.out (fun k hk => Nat.le_trans K5.out.size hk) ⟨by decide, by decide⟩ ⟨#[97]⟩ ⟨#[122, 122, 122]⟩ (by decide) (by decide)).mono ?_
  rw [show appendS ws4 (bs ⟨#[97]⟩) (bs ⟨#[122, 122, 122]⟩) = (40, ws4) from we5]
  rintro e w6 ⟨rfl, d6, k6⟩
  have D6 := Lib.hid d6
  have K6 := Lib.hid (K5.out.trans k6)
  clear d6 k6
  go_wp2_with fail
  refine (Crash_new D6.out (fun k hk => Nat.le_trans K6.out.size hk) ⟨by decide, by decide⟩ (by decide) _ [1, 2] (by decide)).mono ?_
  rw [we6]
  rintro e w7 ⟨rfl, d7, k7⟩
  have D7 := Lib.hid d7
  have K7 := Lib.hid (K6.out.trans k7)
  clear d7 k7
  go_wp2_with fail
  refine (Read_any D7.out ⟨#[97]⟩ (by decide)).mono ?_
  rw [show readS ws5 (bs ⟨#[97]⟩) = ([120], 0) from we7]
  rintro e w8 ⟨rfl, b8⟩
  have D8 := Lib.hid (D7.out.below b8)
  have K8 := Lib.hid (K7.out.trans (Kept.of_below b8))
  clear b8
  go_wp2_with fail
  refine (Read_any D8.out ⟨#[98]⟩ (by decide)).mono ?_
  rw [show readS ws5 (bs ⟨#[98]⟩) = ([97, 98, 99, 100, 101], 0) from we8]
  rintro e w9 ⟨rfl, b9⟩
  have D9 := Lib.hid (D8.out.below b9)
  have K9 := Lib.hid (K8.out.trans (Kept.of_below b9))
  clear b9
  go_wp2_with fail
  refine (Break_any D9.out 0 (by decide)).mono ?_
  rw [we9]
  rintro e w10 ⟨rfl, d10, k10⟩
  have D10 := Lib.hid d10
  have K10 := Lib.hid (K9.out.trans k10)
  clear d10 k10
  go_wp2_with fail
  refine (Append_any D10.out (fun k hk => Nat.le_trans K10.out.size hk) ⟨by decide, by decide⟩ ⟨#[97]⟩ ⟨#[49]⟩ (by decide) (by decide)).mono ?_
  rw [show appendS ws6 (bs ⟨#[97]⟩) (bs ⟨#[49]⟩) = (41, ws7) from we10]
  rintro e w11 ⟨rfl, d11, k11⟩
  have D11 := Lib.hid d11
  have K11 := Lib.hid (K10.out.trans k11)
  have U11 := Lib.hid (Used_any d11)
  have N11 := Lib.hid (Down_any d11)
  clear d11 k11
  go_wp2_with fail
  refine N11.out.mono ?_
  rintro e w12 ⟨rfl, rfl⟩
  go_wp2_with fail
  refine U11.out.mono ?_
  rw [we11]
  rintro e w13 ⟨rfl, rfl⟩
  go_wp2
  go_ret
  exact ⟨ret_bool (by first | rfl | simp | decide), K11.out.below (Nat.le_refl _) (fun _ h => h)⟩
end Go.Proofs.Ytnffjoflkeagfaa
