/- Bytes written behind a file; what a change does. -/
import Derived.Test.YtnffjoflkeagfaaRemove
namespace Go.Proofs.Ytnffjoflkeagfaa
open Go.RowKit Go.Maps

theorem Bf.behind {own : Nat → Own} {k k' : List UInt8} {w w' : World} {v : Value} {l : List UInt8} {g n : Nat} (h : Bf own k w v l) (hb : Behind g n w w') (hg : own g = .file k') (hk : k ≠ k' ∨ l.length ≤ n) : Bf own k w' v l := by
  obtain ⟨_, _, _, hs, hblk, hin, hcell⟩ := hb
  rcases h with h | ⟨g', cap, rfl, h1, h2, h3, h4, h5⟩
  · exact .inl h
  · by_cases e : g' = g
    · subst e
      have hkk : k = k' := by rw [h1] at hg; injection hg
      have hn : l.length ≤ n := hk.resolve_left (fun h => h hkk)
      refine .inr ⟨g', cap, rfl, h1, by omega, h3, fun j hj => ?_, fun j hj => ?_⟩
      · rw [hin j (by omega)]; exact h4 j hj
      · have := hcell j (h5 j hj).1
        exact ⟨this.1, this.2.trans (h5 j hj).2⟩
    · have e1 := hblk g' h2 e
      refine .inr ⟨g', cap, rfl, h1, by omega, h3, fun j hj => ?_, fun j hj => ?_⟩
      · rw [World.cell?_of_block (a := ⟨g', j, none⟩) e1]; exact h4 j hj
      · rw [World.cell?_of_block (a := ⟨g', j, none⟩) e1, World.frozen?_of_block (a := ⟨g', j, none⟩) e1]; exact h5 j hj
/-- more bytes behind a file's, ahead of its being laid down -/
theorem append_disk {own : Nat → Own} {S : Nat → Prop} {w : World} {db : Nat} {s : St} {mv : Value} {wv : Bool} {mo : Int} (h : DiskO own S w db s mv wv mo) (hS : ∀ k, w.heap.size ≤ k → S k) (k : List UInt8) {v : Value}
    (hv : Bf own k w v (getF s.fs k).b) (x : ByteArray) (hlim : (getF s.fs k).b.length + x.size ≤ 140737488355328) :
    ∃ v' w' own', (Builtin.append_ #[69, 9] 69 #[v, .string x]).run Try.prog w = .ok v' w' ∧ DiskO own' S w' db s mv wv mo ∧ Bf own' k w' v' ((getF s.fs k).b ++ bs x) ∧ Kept S w w' ∧
      ∀ j, own j = .no → j < w.heap.size → own' j = .no ∧ w'.heap[j]? = w.heap[j]? := by
  obtain ⟨i0, hi, hz0, hz1, hz2⟩ := info_parts (show (Try.prog.info? 5).map (fun i => (i.zero, i.size, i.bytes)) = some (some (.int .u8 0), 1, 1) by kernel_rfl)
  obtain ⟨v', w', hrun, hc⟩ := run_append_bf (P := Try.prog) 69 9 69 5 i0 Try.underlying69 Try.underlying9 hi hz0 hz1 hz2 hv x hlim
  rcases hc with ⟨hb, hlt, hbf⟩ | ⟨rfl, hbf⟩ | ⟨g, hg, hb, hsz, hbf, cap, rfl⟩
  · refine ⟨v', w', _, hrun, ?_, hbf, Kept.of_below hb, fun j hj hlj => ⟨by rw [own1_other _ _ _ (by omega)]; exact hj, hb.block j hlj⟩⟩
    refine ⟨fun j hj => ?_, ?_, (hb.block db h.lt).trans h.block, h.brk, h.map.kept hb.size (fun g _ hg _ => ⟨hb.block g hg, own1_other _ _ _ (by omega)⟩), h.fit⟩
    · by_cases e : j = w.heap.size
      · subst e; exact ⟨hS _ (Nat.le_refl _), hlt⟩
      · rw [own1_other _ _ _ e] at hj
        have := h.mine j hj
        exact ⟨this.1, by omega⟩
    · rw [own1_other _ _ _ (by have := h.lt; omega)]; exact h.disk
  · exact ⟨v', w', own, hrun, h, hbf, Kept.refl _ _, fun j hj _ => ⟨hj, rfl⟩⟩
  · have hb' := hb
    obtain ⟨h1, h2, h3, h4, hblk, _, _⟩ := hb'
    have hgs := (h.mine g (by rw [hg]; simp)).1
    refine ⟨v', w', own, hrun, ⟨fun j hj => ⟨(h.mine j hj).1, by rw [hsz]; exact (h.mine j hj).2⟩, h.disk, (hblk db h.lt (fun e => by rw [← e, h.disk] at hg; cases hg)).trans h.block, h.brk, ?_, h.fit⟩, hbf,
      ⟨h1, h2, h3, h4, fun j hj hn => hblk j hj (fun e => hn (by rw [e]; exact hgs))⟩, fun j hj hlj => ⟨hj, hblk j hlj (fun e => by rw [e, hg] at hj; cases hj)⟩⟩
    rcases h.map with hm | ⟨mb, D, rfl, m1, m2, m3, m4⟩
    · exact .inl hm
    · refine .inr ⟨mb, D, rfl, m1, ?_, m3, fun k' f hf => ?_⟩
      · have hmb := hblk mb m2.lt (fun e => by rw [← e, m1] at hg; cases hg)
        obtain ⟨es, clock, hb, F, hs, rfl⟩ := m2
        exact ⟨es, clock, hmb.trans hb, F, hs, rfl⟩
      · obtain ⟨u, hu, hbu⟩ := m4 k' f hf
        refine ⟨u, hu, hbu.behind hb hg ?_⟩
        by_cases e : k' = k
        · subst e; rw [getF_look hf]; exact .inr (Nat.le_refl _)
        · exact .inl e
/-- an append whose run is known, for the walk -/
theorem wpList_append_run {P : Program} {w : World} {ops : Array Oper} {rest : List Oper} {o : Oper} {a : Act} {Q : Exit → Act → World → Prop} (hgd : o.guard = none) (s x : Operand) (t tx : TypeId)
    (ho : o.op = Op.call { callee := Callee.builtin Builtin.append, args := #[s, x], argTypes := #[t, tx] }) (v xv : Value) (hs : a.eval s = v) (hx : a.eval x = xv) (v' : Value) (w' : World)
    (hrun : (Builtin.append_ #[t, tx] o.type #[v, xv]).run P w = .ok v' w') (hK : wpList P ops Q rest (a.put o.dst v') w') : wpList P ops Q (o :: rest) a w := by
  refine wpList_plain hgd fun K hK' => ?_
  unfold Oper.wp
  simp [execOp, ho, resolve, invoke, builtin, hs, hx, hrun, Result.andThen]
  exact hK' _ _ hK
/-- two blocks told by the same cells -/
theorem cell_of {w w' : World} {b : Nat} (j : Nat) (h : w'.heap[b]? = w.heap[b]?) : w'.cell? ⟨b, j, none⟩ = w.cell? ⟨b, j, none⟩ := World.cell?_of_block (a := ⟨b, j, none⟩) h
theorem froz_of {w w' : World} {b : Nat} (j : Nat) (h : w'.heap[b]? = w.heap[b]?) : w'.frozen? ⟨b, j, none⟩ = w.frozen? ⟨b, j, none⟩ := World.frozen?_of_block (a := ⟨b, j, none⟩) h
theorem DiskO.free {own : Nat → Own} {S : Nat → Prop} {w : World} {db : Nat} {s : St} {mv : Value} {wv : Bool} {mo : Int} (h : DiskO own S w db s mv wv mo) {k : Nat} (hk : w.heap.size ≤ k) : own k = .no := by
  cases e : own k <;> first | rfl | (have := (h.mine k (by rw [e]; simp)).2; omega)
set_option maxRecDepth 100000 in
set_option maxHeartbeats 2000000 in
theorem append1_any {own : Nat → Own} {S : Nat → Prop} {w : World} {db : Nat} {s : St} {mv : Value} {wv : Bool} {mo : Int} (h : DiskO own S w db s mv wv mo) (hS : ∀ k, w.heap.size ≤ k → S k) (name x : ByteArray) (hn : name.size ≤ 281474976710656)
    (hx : (getF s.fs (bs name)).b.length + x.size ≤ 140737488355328) (hc : s.fs.length ≤ 1099511627776) (hfit : Fit { s with fs := putF s.fs (bs name) (grown (getF s.fs (bs name)) (bs x)) })
    (b1 b2 b3 : Nat) (o1 : own b1 = .no) (o2 : own b2 = .no) (k1 : w.cell? ⟨b1, 0, none⟩ = some (ptrV db)) (k2 : w.cell? ⟨b2, 0, none⟩ = some (.string name)) (k3 : w.cell? ⟨b3, 0, none⟩ = some (.string x)) :
    Calls Try.prog 60 #[ptrV b1, ptrV b2, ptrV b3] w fun e w' => e = .returned (.tuple #[]) ∧ DiskAt S w' db { s with fs := putF s.fs (bs name) (grown (getF s.fs (bs name)) (bs x)) } ∧ Kept S w w' := by
  have hlt := h.lt
  obtain ⟨v, hbf, hl⟩ := h.map.look name (by omega)
  obtain ⟨va, vc, rfl⟩ := hbf.slice
  have l1 := World.block_lt_of_cell? w _ k1
  have l2 := World.block_lt_of_cell? w _ k2
  have l3 := World.block_lt_of_cell? w _ k3
  simp only at l1 l2 l3
  have c0 := h.c0
  have c0a := fun o => (cell_alloc w o 0 hlt).trans c0
  have k1a := fun o => (cell_alloc w o 0 l1).trans k1
  have k2a := fun o => (cell_alloc w o 0 l2).trans k2
  have k3a := fun o => (cell_alloc w o 0 l3).trans k3
  have hl1 := (hl w.drew (fun g _ => rfl)).1
  have hl2 := fun o => (hl (w.alloc o).drew (fun g hg => Below.heap_alloc w o g (h.mine g (by rw [hg]; simp)).2)).1
  have hB : Below w.heap.size w (w.alloc (.cells #[.slice va (getF s.fs (bs name)).b.length vc, .int .i64 ((getF s.fs (bs name)).s : Int), .bool (getF s.fs (bs name)).u] 71)).drew := ((Below.refl _ _).alloc (Nat.le_refl _) _).drew
  obtain ⟨v', w2, own', r2, hd2, hb2, hk2, hf2⟩ := append_disk (h.below hB) (fun k hk => hS k (by have := hB.size; omega)) (bs name) (hbf.kept (own' := own) hB.size (fun g hg hlg => ⟨hB.block g hlg, hg⟩)) x hx
  obtain ⟨va', vc', rfl⟩ := hb2.slice
  have hfw := (hf2 w.heap.size (h.free (Nat.le_refl _)) (by simp)).2
  have hf1 := (hf2 b1 o1 (by simp; omega)).2
  have hfb2 := (hf2 b2 o2 (by simp; omega)).2
  have m0 : w2.cell? ⟨w.heap.size, 0, none⟩ = some (.slice va (getF s.fs (bs name)).b.length vc) := (cell_of 0 hfw).trans (by simp)
  have m1 : w2.cell? ⟨w.heap.size, 1, none⟩ = some (.int .i64 ((getF s.fs (bs name)).s : Int)) := (cell_of 1 hfw).trans (by simp)
  have m2 : w2.cell? ⟨w.heap.size, 2, none⟩ = some (.bool (getF s.fs (bs name)).u) := (cell_of 2 hfw).trans (by simp)
  have mf : w2.frozen? ⟨w.heap.size, 0, none⟩ = false := (froz_of 0 hfw).trans (by simp)
  have n1 : w2.cell? ⟨b1, 0, none⟩ = some (ptrV db) := (cell_of 0 hf1).trans (k1a _)
  have n2 : w2.cell? ⟨b2, 0, none⟩ = some (.string name) := (cell_of 0 hfb2).trans (k2a _)
  have H := Lib.hid h
  have HD2 := Lib.hid hd2
  have HB2 := Lib.hid hb2
  have HK2 := Lib.hid hk2
  have HF2 := Lib.hid hf2
  have HBB := Lib.hid hB
  have HS := Lib.hid hS
  have HF := Lib.hid hfit
  clear h hl hbf hd2 hb2 hk2 hf2 hB hS hfit hfw hf1 hfb2
  go_enter Try.func60, Try.ntmps60
  go_wp2
  go_region
  go_wp2_with (at_builtin; refine wpList_append_run rfl _ _ _ _ rfl _ _ rfl rfl _ _ r2 ?_)
  have hlen : ((getF s.fs (bs name)).b ++ bs x).length = (getF s.fs (bs name)).b.length + x.size := by rw [List.length_append, bs_len]
  have hsb : Below w2.heap.size w2 w2 := Below.refl _ _
  have hw2 : w.heap.size < w2.heap.size := World.block_lt_of_cell? w2 _ m0
  have hset : ∀ k, k ≠ w.heap.size → (w2.setCell ⟨w.heap.size, 0, none⟩ (.slice va' ((getF s.fs (bs name)).b.length + x.size) vc')).heap[k]? = w2.heap[k]? := fun k hk => Below.heap_setCell _ _ _ _ hk
  have hsz : (w2.setCell ⟨w.heap.size, 0, none⟩ (.slice va' ((getF s.fs (bs name)).b.length + x.size) vc')).heap.size = w2.heap.size := by simp [World.setCell]
  have hno := (HF2.out w.heap.size (H.out.free (Nat.le_refl _)) (by simp)).1
  have hD3 : DiskO own' S (w2.setCell ⟨w.heap.size, 0, none⟩ (.slice va' ((getF s.fs (bs name)).b.length + x.size) vc')) db s mv wv mo := HD2.out.kept (by rw [hsz]; exact Nat.le_refl _) (fun g hg _ => hset g (fun e => hg (by rw [e]; exact hno)))
  have hB3 : Bf own' (bs name) (w2.setCell ⟨w.heap.size, 0, none⟩ (.slice va' ((getF s.fs (bs name)).b.length + x.size) vc')) (.slice va' ((getF s.fs (bs name)).b.length + x.size) vc') (grown (getF s.fs (bs name)) (bs x)).b := by
    have := HB2.out.kept (own' := own') (w' := w2.setCell ⟨w.heap.size, 0, none⟩ (.slice va' ((getF s.fs (bs name)).b.length + x.size) vc')) (by rw [hsz]; exact Nat.le_refl _) (fun g hg _ => ⟨hset g (fun e => by rw [e, hno] at hg; cases hg), hg⟩)
    rw [hlen] at this
    exact this
  have hwS := HS.out w.heap.size (Nat.le_refl _)
  refine (put_any (f := grown (getF s.fs (bs name)) (bs x)) hD3 (fun k hk => HS.out k (by rw [hsz] at hk; omega)) name hn hB3 hc HF.out).mono ?_
  rintro e w4 ⟨rfl, hd4, hk4⟩
  have HD4 := Lib.hid hd4
  have HK4 := Lib.hid ((((Kept.of_below HBB.out).trans HK2.out).set (.inl hwS) _).trans hk4)
  clear hd4 hk4 hD3 hB3 hset hsz hlen
  go_wp2
  go_end0
  exact ⟨rfl, HD4.out, HK4.out⟩
end Go.Proofs.Ytnffjoflkeagfaa
