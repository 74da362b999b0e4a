/- The law on harm: the walk. -/
import Derived.Test.YtafpbnkkhgmicaaGuard
import Derived.Lib.LazyBuf
namespace Go.Proofs.Ytafpbnkkhgmicaa
open Go.RowKit

/-- these bytes lie in block g, and may be written -/
def RowAt (w : World) (g : Nat) (l : List UInt8) : Prop := ∀ j, j < l.length → w.cell? ⟨g, j, none⟩ = some (.int .u8 ((l.getD j 0).toNat : Nat)) ∧ w.frozen? ⟨g, j, none⟩ = false
theorem row_conv (w : World) (e : TypeId) (s : ByteArray) : RowAt (Lib.bytesWorld w e s) w.heap.size (bs s) ∧ Below w.heap.size w (Lib.bytesWorld w e s) := by
  have hsz : (Lib.bytesCells w e s).size = grownCap w s.size 0 e := by
    have hge := grownCap_ge w s.size 0 e
    unfold Lib.bytesCells
    simp only [Array.size_append, Array.size_map, Array.size_replicate]
    have : s.data.size = s.size := rfl
    omega
  have hnew := Lib.bytesWorld_at_new w e s
  refine ⟨fun j hj => ⟨?_, ?_⟩, ⟨?_, ?_, ?_, by rw [Lib.bytesWorld_size]; omega, fun k hk => Lib.bytesWorld_at_old w e s k hk⟩⟩
  · have hj2 : j < s.size := by rw [bs_size] at hj; exact hj
    rw [Lib.bytesWorld_cell w e s j hj2]
  · unfold World.frozen?
    rw [hnew]
    have hge := grownCap_ge w s.size 0 e
    rw [bs_size] at hj
    simp [hsz]
    omega
  all_goals (simp [Lib.bytesWorld, World.freeze, World.alloc, World.drew, -World.alloc_eq, -World.drew_eq])
theorem RowAt.set {w : World} {g : Nat} {l : List UInt8} (h : RowAt w g l) (k : Nat) (hk : k < l.length) (x : UInt8) : RowAt (w.setCell ⟨g, k, none⟩ (.int .u8 (x.toNat : Nat))) g (l.set k x) := by
  intro j hj
  rw [List.length_set] at hj
  obtain ⟨h1, h2⟩ := h j hj
  refine ⟨?_, by rw [World.frozen?_setCell]; exact h2⟩
  by_cases e : j = k
  · subst e
    rw [World.cell?_setCell_same _ _ _ h1]
    simp [List.getD, hk]
  · rw [World.cell?_setCell_other _ _ _ _ (by intro he; cases he; exact e rfl), h1]
    simp [List.getD, show ¬ k = j from fun h => e h.symm]
theorem row_back {w : World} {g n cap : Nat} {l : List UInt8} (h : RowAt w g l) (hn : l.length = n) :
    (convert 37 9 (.slice (some ⟨g, 0, none⟩) n cap)).run Try.prog w = .ok (.string (mk l)) w := by
  subst hn
  refine run_convert_bytes_back w 37 9 5 _ cap l Try.underlying37 Try.underlying5 Try.underlying9 (fun j hj => ?_)
  rw [add_zero_off, (h j hj).1]
  simp [List.getD, hj]

set_option maxHeartbeats 8000000 in
set_option maxRecDepth 100000 in
theorem law_harm (s : ByteArray) (a : Int) (by_ : Nat) (r : ByteArray) (w : World) (hs : s.size ≤ 9223372036854775807) (h0 : -9223372036854775808 ≤ a) (h1 : a ≤ 9223372036854775807) (hy : by_ < 256) (hr : r.size ≤ 9223372036854775807) :
    Calls Try.prog 7 #[.string s, .int .i64 a, .int .u8 by_, .string r] w fun e w' => e = .returned (.bool true) ∧ Below w.heap.size w w' := by
  by_cases hg1 : 4096 < s.size
  · have hi : (4096 : Int) < (s.size : Int) := by omega
    go_enter Try.func7, Try.ntmps7
    go_wp2_with fail
    refine (works_any _).mono ?_
    rintro e w1 ⟨rfl, b1⟩
    go_wp2
    go_ret
    exact ⟨rfl, b1⟩
  have hi1 : ¬ (4096 : Int) < (s.size : Int) := by omega
  by_cases hg2 : 4096 < r.size
  · have hi : (4096 : Int) < (r.size : Int) := by omega
    go_enter Try.func7, Try.ntmps7
    go_wp2_with fail
    refine (works_any _).mono ?_
    rintro e w1 ⟨rfl, b1⟩
    go_wp2
    go_ret
    exact ⟨rfl, b1⟩
  have hi2 : ¬ (4096 : Int) < (r.size : Int) := by omega
  by_cases hg3 : by_ = 0
  · have hi : ((by_ : Int) == 0) = true := by simp; omega
    go_enter Try.func7, Try.ntmps7
    go_wp2_with fail
    refine (works_any _).mono ?_
    rintro e w1 ⟨rfl, b1⟩
    go_wp2
    go_ret
    exact ⟨rfl, b1⟩
  have hi3 : ((by_ : Int) == 0) = false := by simp; omega
  obtain ⟨k, hk⟩ : ∃ k : Nat, (4 : Int) + min (max a 0) ((s.size : Int) + 3) = k := ⟨((4 : Int) + min (max a 0) ((s.size : Int) + 3)).toNat, by omega⟩
  have hkb : 4 ≤ k ∧ k < 8 + s.size := by omega
  have hf := fun w' => Frame_any s w' (by omega)
  have hFl : (frameL (bs s)).length = 8 + s.size := by rw [frameL_length, bs_size]
  obtain ⟨x, hx⟩ : ∃ x : UInt8, (frameL (bs s)).getD k 0 = x := ⟨_, rfl⟩
  have hxl := x.toNat_lt
  have hxr := u8_xor_nat x.toNat by_ hxl hy
  have hyl := xor_lt8 hxl hy
  obtain ⟨y, hy2⟩ : ∃ y : UInt8, y.toNat = x.toNat ^^^ by_ := ⟨(x.toNat ^^^ by_).toUInt8, toUInt8_nat hyl⟩
  rw [← hy2] at hxr
  have hne : y ≠ (frameL (bs s)).getD k 0 := by
    rw [hx]
    intro e
    rw [e] at hy2
    have h3 : 0 ^^^ x.toNat = by_ ^^^ x.toNat := by rw [Nat.zero_xor, Nat.xor_comm by_, ← hy2]
    exact hg3 (xor_cancel h3).symm
  have hE := frame_harm (bs s) (bs r) (by rw [bs_size]; omega) k y hkb.1 (by rw [bs_size]; exact hkb.2) hne
  have hU := fun w' => Unframe_at (mk ((frameL (bs s)).set k y) ++ r) 0 w' (by rw [app_size, mk_size, List.length_set, hFl]; omega) (by omega)
  have hb0 : (bs (mk ((frameL (bs s)).set k y) ++ r)).drop 0 = (frameL (bs s)).set k y ++ bs r := by rw [bs_append, bs_mk]; rfl
  have hbad := fS_bad (l := (frameL (bs s)).set k y ++ bs r) (by rw [hE]; decide)
  rw [hb0, hE, hbad.1, hbad.2] at hU
  have hkl : k < (frameL (bs s)).length := by rw [hFl]; exact hkb.2
  have hrow := fun w' => row_conv w' 5 (mk (frameL (bs s)))
  rw [bs_mk] at hrow
  have hset := fun (w' : World) (g : Nat) (h : RowAt w' g (frameL (bs s))) => h.set k hkl y
  have hback := fun (w' : World) (g cap : Nat) (h : RowAt w' g ((frameL (bs s)).set k y)) => row_back (cap := cap) (n := 8 + s.size) h (by rw [List.length_set, hFl])
  have hcell := fun (w' : World) (g : Nat) (h : RowAt w' g (frameL (bs s))) => h k hkl
  rw [hx] at hcell
  have hszF : (mk (frameL (bs s))).size = 8 + s.size := by rw [mk_size, hFl]
  have hszR : (mk ((frameL (bs s)).set k y)).size + r.size ≤ 9223372036854775807 := by rw [mk_size, List.length_set, hFl]; omega
  have hcv0 := fun (w' : World) => Lib.run_convert_string_bytes (P := Try.prog) w' 9 37 5 (mk (frameL (bs s))) Try.underlying9 Try.underlying37 Try.underlying5
  rw [hszF] at hcv0
  clear hE hne hbad hb0 hFl hx hy2
  generalize mk ((frameL (bs s)).set k y) = R at *
  generalize mk (frameL (bs s)) = F at *
  have HSF := Lib.hid hszF
  have HK := Lib.hid hk
  have hFi : (((F.size : Nat) : Int) != (s.size : Int) + 8) = false := by rw [hszF]; simp; omega
  clear hszF hk
  go_enter Try.func7, Try.ntmps7
  go_wp2_with fail
  refine (works_any _).mono ?_
  rintro e w1 ⟨rfl, b1⟩
  go_wp2_with fail
  refine (hf _).mono ?_
  rintro e w2 ⟨rfl, b2⟩
  have b2' := bw b1 b2
  have hs2 := b2'.size
  have hcv := hcv0 w2
  obtain ⟨hr0, hb3⟩ := hrow w2
  generalize Lib.bytesWorld w2 5 F = W0 at *
  generalize grownCap w2 (8 + s.size) 0 5 = cap at *
  obtain ⟨c1, f1⟩ := hcell _ _ hr0
  have hcv2 := hback _ _ cap (hset _ _ hr0)
  have HB3 := Lib.hid ((b2'.trans (hb3.mono hs2)).setCell (p := ⟨w2.heap.size, k, none⟩) hs2 (.int .u8 (y.toNat : Nat)))
  have hk := HK.out
  clear b1 b2 b2' hr0 hb3 hrow hcell hset hback hcv0
  go_wp2_with fail
  refine (hU _).mono ?_
  rintro e w5 ⟨rfl, b5⟩
  have b6 := bw HB3.out b5
  go_wp2
  go_ret
  exact ⟨bool_true (by first | rfl | simp), b6⟩
end Go.Proofs.Ytafpbnkkhgmicaa
