/- Acts on a bag: what they are, what heavy tells of them; among. -/
import Derived.Test.YtheldpdckgoniaaSameM
namespace Go.Proofs.Ytheldpdckgoniaa
open Go.RowKit

structure ActV where
  k : Int
  n : Int
  lv : Value
  xs : List X
def actC (l : List ActV) : List Value := l.flatMap (fun a => [.int .u8 a.k, .int .i64 a.n, a.lv])
theorem actC_get (l : List ActV) (k : Nat) (a : ActV) (h : l[k]? = some a) : (actC l)[k * 3]? = some (.int .u8 a.k) ∧ (actC l)[k * 3 + 1]? = some (.int .i64 a.n) ∧ (actC l)[k * 3 + 2]? = some a.lv := by
  induction l generalizing k with
  | nil => simp at h
  | cons p r ih =>
    have e0 : actC (p :: r) = [.int .u8 p.k, .int .i64 p.n, p.lv] ++ actC r := by simp [actC]
    rw [e0]
    cases k with
    | zero => simp at h; subst h; exact ⟨rfl, rfl, rfl⟩
    | succ k =>
      obtain ⟨h1, h2, h3⟩ := ih k (by simpa using h)
      have el : ([Value.int .u8 p.k, .int .i64 p.n, p.lv] : List Value).length = 3 := rfl
      rw [List.getElem?_append_right (by rw [el]; omega), List.getElem?_append_right (by rw [el]; omega), List.getElem?_append_right (by rw [el]; omega), el]
      exact ⟨by rw [show (k + 1) * 3 - 3 = k * 3 by omega]; exact h1, by rw [show (k + 1) * 3 + 1 - 3 = k * 3 + 1 by omega]; exact h2, by rw [show (k + 1) * 3 + 2 - 3 = k * 3 + 2 by omega]; exact h3⟩
/-- a slice of acts, in blocks that B admits -/
def ActsIn (B : Nat → Prop) (w : World) (v : Value) (l : List ActV) : Prop := Run B w v l.length (actC l) ∧ ∀ a ∈ l, MsgsIn B w a.lv a.xs
theorem ActsIn.keep {B : Nat → Prop} {w w' : World} {v : Value} {l : List ActV} (h : ActsIn B w v l) (hs : w.heap.size ≤ w'.heap.size) (hk : ∀ g, B g → g < w.heap.size → w'.heap[g]? = w.heap[g]?) : ActsIn B w' v l := ⟨h.1.keep hs hk, fun a ha => (h.2 a ha).keep hs hk⟩
theorem ActsIn.below {B : Nat → Prop} {w w' : World} {v : Value} {l : List ActV} (h : ActsIn B w v l) (hb : Below w.heap.size w w') : ActsIn B w' v l := h.keep hb.size (fun g _ hl => hb.block g hl)
theorem ActsIn.mono {B B' : Nat → Prop} {w : World} {v : Value} {l : List ActV} (h : ActsIn B w v l) (hB : ∀ k, k < w.heap.size → B k → B' k) : ActsIn B' w v l := ⟨h.1.mono hB, fun a ha => (h.2 a ha).mono hB⟩
theorem ActsIn.get {B : Nat → Prop} {w : World} {a : Option Addr} {n c k : Nat} {l : List ActV} {x : ActV} (h : ActsIn B w (.slice a n c) l) (hx : l[k]? = some x) :
    ∃ b off, a = some ⟨b, off, none⟩ ∧ n = l.length ∧ n ≤ c ∧ b < w.heap.size ∧ w.cell? ⟨b, off + k * 3, none⟩ = some (.int .u8 x.k) ∧ w.cell? ⟨b, off + k * 3 + 1, none⟩ = some (.int .i64 x.n) ∧ w.cell? ⟨b, off + k * 3 + 2, none⟩ = some x.lv ∧ MsgsIn B w x.lv x.xs := by
  have hlt := (List.getElem?_eq_some_iff.1 hx).1
  obtain ⟨e0, e1, e2⟩ := actC_get l k x hx
  obtain ⟨a', c', e, h1, h2, h3⟩ := h.1
  cases e
  rcases h3 with h3 | ⟨b, off, rfl, _, hl, hc⟩
  · omega
  · exact ⟨b, off, rfl, rfl, h1, hl, hc _ _ e0, hc _ _ e1, hc _ _ e2, h.2 x (List.mem_of_getElem? hx)⟩
/-- what heavy lets by -/
def SmallX (x : X) : Prop := x.1.l.length ≤ 5000 ∧ x.1.es.length ≤ 5000
def SmallA (a : ActV) : Prop := a.xs.length ≤ 100 ∧ ∀ x ∈ a.xs, SmallX x
def HeavyQ (A : Prop) (e : Ending) : Prop := ∃ hv : Bool, e = .returned (.bool hv) ∧ (hv = false → A)
theorem heavyT {A : Prop} {e : Ending} (h : e = .returned (.bool true)) : HeavyQ A e := ⟨true, h, fun h => by cases h⟩
set_option maxRecDepth 100000 in
set_option maxHeartbeats 4000000 in
theorem heavy_any {B : Nat → Prop} {w : World} {v : Value} {l : List ActV} (h : ActsIn B w v l) (hl : l.length ≤ 9223372036854775807) (hk : ∀ a ∈ l, a.xs.length ≤ 9223372036854775807 ∧ ∀ x ∈ a.xs, x.1.l.length ≤ 9223372036854775807 ∧ x.1.es.length ≤ 9223372036854775807) :
    Calls Try.prog 7 #[v] w fun e w' => HeavyQ (l.length ≤ 301 ∧ ∀ a ∈ l, SmallA a) e ∧ Below w.heap.size w w' := by
  obtain ⟨a, c, rfl, _⟩ := h.1.slice
  have H := Lib.hid h
  have HKK := Lib.hid hk
  clear h hk
  go_enter Try.func7, Try.ntmps7
  go_wp2
  go_loopw [3, 4] (fun n i wr => ∃ k m : Nat, k ≤ l.length ∧ k ≤ 301 ∧ i = .int .i64 k ∧ n = .int .i64 m ∧ m ≤ 5000 ∧ Hid (∀ a ∈ l.take k, SmallA a) ∧ Hid (Below w.heap.size w wr)) (fun n i _ => l.length - (intOf i).toNat)
  case atStart => exact ⟨0, 0, by omega, by omega, rfl, rfl, by omega, (fun a ha => by simp at ha), Below.refl _ _⟩
  case round =>
    obtain ⟨k, m, hk1, hk2, rfl, rfl, hm, HS, HB⟩ := hrel
    by_cases h1 : k < l.length
    · have h1i : (k : Int) < (l.length : Int) := by omega
      obtain ⟨x, hx⟩ : ∃ x, l[k]? = some x := ⟨l[k], List.getElem?_eq_getElem h1⟩
      obtain ⟨ba, off, rfl, -, hcap, hbl, c0, c1, c2, hms⟩ := (H.out.below HB.out).get hx
      obtain ⟨hz1, hz2⟩ := HKK.out x (List.mem_of_getElem? hx)
      have HZ := Lib.hid hz2
      have HX := Lib.hid hx
      have HMS := Lib.hid hms
      obtain ⟨la, lc, elv, hlc⟩ := hms.1.slice
      have HC := Lib.hid c2
      rw [elv] at c2 HMS
      have HEL := Lib.hid elv
      obtain ⟨wo, hwo⟩ : ∃ wo, wo = wr := ⟨_, rfl⟩
      subst hwo
      have HBL := Lib.hid hbl
      clear hx hms hz2 c0 c1 elv hbl
      by_cases h2 : x.xs.length ≤ 100
      · have h2i : ¬ (100 : Int) < (x.xs.length : Int) := by omega
        by_cases h3 : k ≤ 300
        · have h3i : ¬ (300 : Int) < (k : Int) := by omega
          go_wp2
          go_loopw [3, 5] (fun n j wr => ∃ k' m' : Nat, k' ≤ x.xs.length ∧ j = .int .i64 k' ∧ n = .int .i64 m' ∧ m' ≤ 5000 ∧ Hid (∀ y ∈ x.xs.take k', SmallX y) ∧ Hid (Below wo.heap.size wo wr)) (fun n j _ => x.xs.length - (intOf j).toNat)
          case atStart => exact ⟨0, m, by omega, rfl, rfl, hm, (fun a ha => by simp at ha), Below.refl _ _⟩
          case round =>
            obtain ⟨k', m', hk1', rfl, rfl, hm', HS', HB'⟩ := hrel
            have d2 := (HB'.out.cell (p := ⟨ba, off + k * 3 + 2, none⟩) HBL.out).trans c2
            by_cases h4 : k' < x.xs.length
            · have h4i : (k' : Int) < (x.xs.length : Int) := by omega
              obtain ⟨y, hy⟩ : ∃ y, x.xs[k']? = some y := ⟨x.xs[k'], List.getElem?_eq_getElem h4⟩
              obtain ⟨bb, off', rfl, -, hcap', -, -, -, -, -, -, -, -, -, -, y8, y9, -⟩ := (HMS.out.below HB'.out).get hy
              have hli := HMS.out.2 y (List.mem_of_getElem? hy)
              obtain ⟨⟨pa, pc, e8⟩, pb, pd, e9⟩ := hli.slv
              obtain ⟨hw1, hw2⟩ := HZ.out y (List.mem_of_getElem? hy)
              rw [e8] at y8
              rw [e9] at y9
              obtain ⟨p1, hp1⟩ : ∃ p, p = min y.1.l.length 5000 := ⟨_, rfl⟩
              obtain ⟨p2, hp2⟩ : ∃ p, p = min y.1.es.length 5000 := ⟨_, rfl⟩
              have m1 : min ((y.1.l.length : Nat) : Int) 5000 = (p1 : Int) := by omega
              have m2 : min ((y.1.es.length : Nat) : Int) 5000 = (p2 : Int) := by omega
              have q1 : p1 ≤ 5000 := by omega
              have q2 : p2 ≤ 5000 := by omega
              have HY := Lib.hid hy
              have HP : Hid (m' + 1 + p1 + p2 ≤ 5000 → SmallX y) := fun h => ⟨by omega, by omega⟩
              have HBN := Lib.hid (fun q => below_drewN HB'.out q)
              clear hy hli e8 e9 hp1 hp2
              by_cases h5 : m' + 1 + p1 + p2 ≤ 5000
              · have h5i : ¬ (5000 : Int) < (m' : Int) + 1 + (p1 : Int) + (p2 : Int) := by omega
                go_wp2
                go_quiet (fail)
                go_wp2
                go_roundw
                case rel =>
                  refine ⟨k' + 1, m' + 1 + p1 + p2, by omega, by go_num, by go_num, h5, fun z hz => ?_, HBN.out _⟩
                  rw [take_snocA _ _ _ HY.out] at hz
                  rcases List.mem_append.1 hz with hz | hz
                  · exact HS'.out z hz
                  · simp only [List.mem_singleton] at hz; subst hz; exact HP.out h5
                case measure => simp [intOf]; omega
              · have h5i : (5000 : Int) < (m' : Int) + 1 + (p1 : Int) + (p2 : Int) := by omega
                go_wp2
                go_quiet (fail)
                go_wp2
                go_ret
                exact ⟨heavyT rfl, HB.out.trans ((HBN.out _).mono HB.out.size)⟩
            · have h4i : ¬ (k' : Int) < (x.xs.length : Int) := by omega
              have hke : k' = x.xs.length := by omega
              have HKE := Lib.hid hke
              clear hke
              go_wp2
              go_roundw
              case rel =>
                refine ⟨k + 1, m', by omega, by omega, by go_num, rfl, hm', fun z hz => ?_, HB.out.trans (HB'.out.mono HB.out.size)⟩
                rw [take_snocA _ _ _ HX.out] at hz
                rcases List.mem_append.1 hz with hz | hz
                · exact HS.out z hz
                · simp only [List.mem_singleton] at hz
                  subst hz
                  refine ⟨h2, fun y hy => HS'.out y ?_⟩
                  rw [HKE.out, List.take_of_length_le (Nat.le_refl _)]; exact hy
              case measure => simp [intOf]; omega
        · have h3i : (300 : Int) < (k : Int) := by omega
          go_wp2
          go_ret
          exact ⟨heavyT rfl, HB.out⟩
      · have h2i : (100 : Int) < (x.xs.length : Int) := by omega
        go_wp2
        go_ret
        exact ⟨heavyT rfl, HB.out⟩
    · have h1i : ¬ (k : Int) < (l.length : Int) := by omega
      have he : k = l.length := by omega
      have HE : Hid (l.length ≤ 301 ∧ ∀ a ∈ l, SmallA a) := ⟨by omega, by have := HS.out; rw [he, List.take_of_length_le (Nat.le_refl _)] at this; exact this⟩
      clear he
      go_wp2
      go_ret
      exact ⟨⟨false, rfl, fun _ => HE.out⟩, HB.out⟩
end Go.Proofs.Ytheldpdckgoniaa
