/-
  What 'With' of package eval answers: a world of its own, with the value put into it.
-/
import Derived.Test.YtlbknhedpjaelaaDoorEvU
import Derived.Laws.MakeOwn
import Derived.Deep.RegionLaw
import Derived.BigRegion
import Derived.Deep.RegionHeld2
import Derived.Deep.RegionHeldLaw
import Derived.Deep.DeepCutAuto
import Derived.Deep.CutBlock
namespace Go.Proofs.YtlbknhedpjaelaaDoor
open Go.RowKit

def boxVl (v : Vl) : Obj := .cells #[.int .i64 v.sort, .int .i64 v.n, .bool v.b, .slice v.a v.s.length v.c] 41
def wiW (W : Wd) (v : Vl) (w : World) : World := (((w.alloc (boxW W)).alloc (boxVl v)).alloc (.cells #[.int .i64 0, .slice none 0 0] 38)).alloc (boxP W)
theorem wiW_below (W : Wd) (v : Vl) (w : World) : Below w.heap.size w (wiW W v w) := bal (bal (bal (bal (Below.refl _ _) _) _) _) _
/-- the boxes of With: the world, the value, the answer, the place -/
structure WB (X : Nat) (W : Wd) (v : Vl) (w : World) : Prop where
  vb : FourV w (X + 1) (.int .i64 v.sort) (.int .i64 v.n) (.bool v.b) (.slice v.a v.s.length v.c)
  r0 : w.cell? ⟨X + 1 + 1, 0, none⟩ = some (.int .i64 0)
  r1 : w.cell? ⟨X + 1 + 1, 1, none⟩ = some (.slice none 0 0)
  r2 : w.frozen? ⟨X + 1 + 1, 0, none⟩ = false
  r3 : w.frozen? ⟨X + 1 + 1, 1, none⟩ = false
  pl : TwoW w (X + 1 + 1 + 1) W
theorem WB.later {X : Nat} {W : Wd} {v : Vl} {w w' : World} (h : WB X W v w) (hb : Below w.heap.size w w') : WB X W v w' :=
  ⟨h.vb.later hb, cell_later hb h.r0, cell_later hb h.r1, frozen_later hb h.r0 h.r2, frozen_later hb h.r1 h.r3, h.pl.later hb⟩
theorem WB.start (W : Wd) (v : Vl) (w : World) : WB w.heap.size W v (wiW W v w) := by
  refine ⟨?_, ?_, ?_, ?_, ?_, ?_⟩
  all_goals simp [wiW, FourV, TwoW, boxW, boxP, boxVl, go_sem]
/-- a row is made -/
theorem made_row (n : Nat) (h : n ≤ 100) : ∃ cs : Array Value, cs.size = (n + 1) * 5 ∧ ∀ w : World, (Instr.makeSlice 36 (.int .i64 0) (.int .i64 ((n : Int) + 1))).run Tryd.prog w = .ok (.slice (some ⟨w.heap.size, 0, none⟩) 0 (n + 1)) (w.alloc (.cells cs 48)) := by
  obtain ⟨i0, hi0, hz0, hz1, hz2⟩ := nd_parts
  refine ⟨madeCells #[.string ⟨#[]⟩, .int .i64 0, .int .i64 0, .bool false, .slice none 0 0] ((n + 1) * 5), size_madeCells _ _, fun w => ?_⟩
  have hr := run_make (P := Tryd.prog) w 36 48 i0 _ Tryd.underlying36 hi0 hz0 .i64 .i64 0 ((n : Int) + 1) (Int.le_refl _) (by omega) (by rw [hz2]; omega) (by omega)
  rw [hr, hz1, show ((n : Int) + 1).toNat = n + 1 by omega]
  rfl
theorem two_cells {w w' : World} {p q : Addr} {x y : Value} (h : w.cell? p = some x ∧ w.cell? q = some y) (hb : Below w.heap.size w w') : w'.cell? p = some x ∧ w'.cell? q = some y := ⟨cell_later hb h.1, cell_later hb h.2⟩
/-- a world that is being built: its box in block C, its row -/
structure WC (w4 : World) (nodes : Int) (C : Nat) (r : Value) (l : List Nd) (w : World) : Prop where
  bel : Below w4.heap.size w4 w
  cge : w4.heap.size ≤ C
  bc : BoxC w C nodes r
  nr : NRow w w4.heap.size r l
theorem WC.later {w4 w w' : World} {nodes : Int} {C : Nat} {r : Value} {l : List Nd} (h : WC w4 nodes C r l w) (hb : Below w.heap.size w w') : WC w4 nodes C r l w' := ⟨bon h.bel hb, h.cge, h.bc.later hb, h.nr.later hb⟩
theorem WC.grown {w4 w w' : World} {nodes : Int} {C : Nat} {r r' : Value} {l : List Nd} {y : Nd} (h : WC w4 nodes C r l w) (hr : w'.ownsRow w4.heap.size 48 5 r' (l.length + 1) (nds l ++ nd5 y)) (hg : w.grownBy w' r.ownBlock) (hy : Own w w4.heap.size y.v.a y.v.c y.v.s) (hf : y.nm.size ≤ maxLen ∧ fitB y.v.sort = true ∧ fitB y.v.n = true) : WC w4 nodes C r' (l ++ [y]) (w'.setCell ⟨C, 1, none⟩ r') := by
  have bc' := h.bc.grown h.nr hg
  exact ⟨(h.bel.grown hg h.bel.size (fun k hk => (h.nr.row.lt k hk).1)).setCell h.cge _, h.cge, bc'.set1 _, (h.nr.grown hr hg hy hf).putk (p := ⟨C, 1, none⟩) (T := 38) bc' (by decide) (by decide) _⟩
theorem SameL.snoc {l m : List Nd} {x y : Nd} (h : SameL l m) (hx : SameN x y) : SameL (l ++ [x]) (m ++ [y]) := by
  obtain ⟨h1, h2⟩ := h
  refine ⟨by simp [h1], fun i hi hi' => ?_⟩
  by_cases hk : i < l.length
  · rw [List.getElem_append_left hk, List.getElem_append_left (by omega)]
    exact h2 i hk (by omega)
  · have : i = l.length := by simp at hi; omega
    subst this
    rw [List.getElem_append_right (by omega), List.getElem_append_right (by omega)]
    simpa using hx
theorem SameL.set {l m : List Nd} {x y : Nd} (h : SameL l m) (hx : SameN x y) (k : Nat) : SameL (l.set k x) (m.set k y) := by
  obtain ⟨h1, h2⟩ := h
  refine ⟨by simp [h1], fun i hi hi' => ?_⟩
  simp only [List.getElem_set]
  by_cases hk : k = i
  · rw [if_pos hk, if_pos hk]; exact hx
  · rw [if_neg hk, if_neg hk]
    exact h2 i (by simpa using hi) (by simpa using hi')
/-- a copy of a named value: its set stands elsewhere -/
def cpN (nm : ByteArray) (v : Vl) (a : Option Addr) (c : Nat) : Nd := ⟨nm, ⟨v.sort, v.n, v.b, a, c, v.s⟩⟩
theorem cpN_same (nm : ByteArray) (v : Vl) (a : Option Addr) (c : Nat) : SameN (cpN nm v a c) ⟨nm, v⟩ := ⟨rfl, rfl, rfl, rfl, rfl⟩
theorem cells_nd (w : World) (x : Nd) : ∀ i u, (nd5 x)[i]? = some u → (w.alloc (.cells #[.string x.nm, .int .i64 x.v.sort, .int .i64 x.v.n, .bool x.v.b, .slice x.v.a x.v.s.length x.v.c] 48)).cell? ((⟨w.heap.size, 0, none⟩ : Addr).add i) = some u := by
  intro i u hu
  unfold nd5 at hu
  match i, hu with
  | 0, hu => simp at hu; subst hu; simp [Addr.add, go_sem]
  | 1, hu => simp at hu; subst hu; simp [Addr.add, go_sem]
  | 2, hu => simp at hu; subst hu; simp [Addr.add, go_sem]
  | 3, hu => simp at hu; subst hu; simp [Addr.add, go_sem]
  | 4, hu => simp at hu; subst hu; simp [Addr.add, go_sem]
  | i + 5, hu => simp at hu
theorem five_cells {w w' : World} {N : Nat} {x0 x1 x2 x3 x4 : Value} (h : w.cell? ⟨N, 0, none⟩ = some x0 ∧ w.cell? ⟨N, 1, none⟩ = some x1 ∧ w.cell? ⟨N, 2, none⟩ = some x2 ∧ w.cell? ⟨N, 3, none⟩ = some x3 ∧ w.cell? ⟨N, 4, none⟩ = some x4) (hb : w'.heap[N]? = w.heap[N]?) : w'.cell? ⟨N, 0, none⟩ = some x0 ∧ w'.cell? ⟨N, 1, none⟩ = some x1 ∧ w'.cell? ⟨N, 2, none⟩ = some x2 ∧ w'.cell? ⟨N, 3, none⟩ = some x3 ∧ w'.cell? ⟨N, 4, none⟩ = some x4 := by
  have e : ∀ o, w'.cell? ⟨N, o, none⟩ = w.cell? ⟨N, o, none⟩ := fun o => World.cell?_of_block (w := w) hb
  rw [e, e, e, e, e]; exact h
/-- while With goes through the names -/
def WI (w4 : World) (W : Wd) (C k : Nat) (w : World) : Prop := ∃ (r : Value) (l : List Nd), WC w4 W.nodes C r l w ∧ SameL l (W.l.take k)
theorem WI.startA {w4 : World} {W : Wd} {cs : Array Value} {n : Nat} (hc : cs.size = (n + 1) * 5) (hn : n ≤ 64) : WI w4 W (w4.heap.size + 1) 0 ((w4.alloc (.cells cs 48)).alloc (.cells #[.int .i64 W.nodes, .slice (some ⟨w4.heap.size, 0, none⟩) 0 (n + 1)] 38)).drew := by
  refine ⟨.slice (some ⟨w4.heap.size, 0, none⟩) 0 (n + 1), [], ⟨bdrew (bal (bal (Below.refl _ _) _) _), Nat.le_succ _, ?_, ⟨?_, fun x hx => (by cases hx), fun x hx => (by cases hx)⟩⟩, by simp [SameL]⟩
  · have := heap_alloc_new (w4.alloc (.cells cs 48)) (.cells #[.int .i64 W.nodes, .slice (some ⟨w4.heap.size, 0, none⟩) 0 (n + 1)] 38)
    rw [World.size_alloc] at this
    exact this
  · exact ((World.ownsRow_made w4 cs (n + 1) (Nat.le_refl _) (by unfold maxLen; omega) hc).alloc _).drew
theorem WI.startB {w4 : World} {W : Wd} {cs : Array Value} {n : Nat} (hc : cs.size = (n + 1) * 5) (hn : n ≤ 64) : WI w4 W w4.heap.size 0 ((w4.alloc (.cells #[.int .i64 W.nodes, .slice (some ⟨w4.heap.size + 1, 0, none⟩) 0 (n + 1)] 38)).alloc (.cells cs 48)).drew := by
  refine ⟨.slice (some ⟨w4.heap.size + 1, 0, none⟩) 0 (n + 1), [], ⟨bdrew (bal (bal (Below.refl _ _) _) _), Nat.le_refl _, ?_, ⟨?_, fun x hx => (by cases hx), fun x hx => (by cases hx)⟩⟩, by simp [SameL]⟩
  · have h1 := heap_alloc_new w4 (.cells #[.int .i64 W.nodes, .slice (some ⟨w4.heap.size + 1, 0, none⟩) 0 (n + 1)] 38)
    have h2 := Below.heap_alloc (w4.alloc (.cells #[.int .i64 W.nodes, .slice (some ⟨w4.heap.size + 1, 0, none⟩) 0 (n + 1)] 38)) (.cells cs 48) w4.heap.size (by simp)
    exact h2.trans h1
  · have := (World.ownsRow_made (base := w4.heap.size) (e := 48) (size := 5) (w4.alloc (.cells #[.int .i64 W.nodes, .slice (some ⟨w4.heap.size + 1, 0, none⟩) 0 (n + 1)] 38)) cs (n + 1) (by simp) (by unfold maxLen; omega) hc).drew
    rw [World.size_alloc] at this
    exact this
set_option maxRecDepth 100000 in
set_option maxHeartbeats 4000000 in
theorem with_any (W : Wd) (nm : ByteArray) (v : Vl) (w : World) (hW : WIn w w.heap.size W) (hv : VIn w w.heap.size v) (hnm : nm.size ≤ maxLen) (hl : W.l.length ≤ 64) (hs : ∀ x ∈ W.l, x.v.s.length ≤ 64) (hvs : v.s.length ≤ 140737488355328) :
    Calls Tryd.prog 28 #[W.val, .string nm, v.val] w fun e w' => ∃ V : Wd, e = .returned V.val ∧ V.nodes = W.nodes ∧ SameL V.l (putN ⟨nm, v⟩ W.l) ∧ NRow w' w.heap.size (.slice V.a V.l.length V.c) V.l ∧ Below w.heap.size w w' := by
  obtain ⟨i0, hi0, hz0, hz1, hz2⟩ := nd_parts
  have B0 := wiW_below W v w
  have WB0 := WB.start W v w
  have hX : (wiW W v w).heap.size = w.heap.size + 1 + 1 + 1 + 1 := by simp [wiW]
  obtain ⟨cs, hcs, hmk⟩ := made_row W.l.length (by omega)
  have HIN := mkHid (hW.later B0)
  have HVN := mkHid (hv.later B0)
  have HS := mkHid hs
  have HL := mkHid hl
  have HVS := mkHid hvs
  have HX := mkHid hX
  have HCS := mkHid hcs
  have hW4 : (((w.alloc (.cells #[.int .i64 W.nodes, .slice W.a W.l.length W.c] 38)).alloc (.cells #[.int .i64 v.sort, .int .i64 v.n, .bool v.b, .slice v.a v.s.length v.c] 41)).alloc (.cells #[.int .i64 0, .slice none 0 0] 38)).alloc (.cells #[.int .i64 W.nodes, .slice W.a W.l.length W.c] 85) = wiW W v w := rfl
  clear hW hv hs hvs hX hcs
  generalize wiW W v w = W4 at *
  unfold Wd.val Vl.val
  obtain ⟨p0, p1⟩ := WB0.pl
  have hl2 : (W.l.length : Int) ≤ 64 := by omega
  clear hl
  generalize hn' : W.l.length = n at *
  have HN := mkHid hn'
  clear hn'
  have hwr : IntKind.i64.wrap ((n : Int) + 1) = (n : Int) + 1 := by rw [IntKind.wrap_i64]; omega
  have hlt : w.heap.size + 1 + 1 + 1 < W4.heap.size := by rw [HX.out]; omega
  go_enter Tryd.func28, Tryd.ntmps28
  go_wp2_with fail
  go_cut [8] (fun s wx => ∃ C, s = .pointer (some ⟨C, 0, none⟩) ∧ WI W4 W C 0 wx)
  case first =>
    go_region_held2 (fun w' => w'.cell? ⟨w.heap.size + 1 + 1 + 1, 0, none⟩ = some (.int .i64 W.nodes) ∧ w'.cell? ⟨w.heap.size + 1 + 1 + 1, 1, none⟩ = some (.slice W.a n W.c))
      ((refine two_cells (w := W4) ⟨p0, p1⟩ ?_; repeat (first | exact Below.refl _ _ | refine bdrew ?_ | refine bal ?_ _ | refine bset ?_ (by simp) _)))
      (fail)
    all_goals
      go_wp2_with fail
      go_meet
      first
        | exact ⟨_, rfl, WI.startA HCS.out HL.out⟩
        | exact ⟨_, rfl, WI.startB HCS.out HL.out⟩
  case rest =>
    obtain ⟨C, rfl, I0⟩ := hcut
    clear p0 p1 hW4 hmk HCS
    have I0b : Below W4.heap.size W4 wc := by obtain ⟨r, l, c, -⟩ := I0; exact c.bel
    obtain ⟨p0, p1⟩ := (WB0.later I0b).pl
    rw [HN.out] at p1
    go_wp2
    clear p0 p1
    go_loopw [29] (fun i w' => ∃ (k : Nat) (x : Int), i = .int .i64 x ∧ x = k ∧ k ≤ n ∧ WI W4 W C k w') (fun i _ => (n - intOf i).toNat)
    case atStart => exact ⟨0, 0, rfl, rfl, Nat.zero_le _, I0⟩
    case round =>
      obtain ⟨k, x, rfl, hxk, hk, I⟩ := hrel
      obtain rfl : x = (k : Int) := hxk
      obtain ⟨r, l, c, same⟩ := I
      have hll : l.length = k := by rw [same.1, List.length_take, HN.out]; omega
      clear I0 I0b
      by_cases hlt : k < n
      · have hk' : k < W.l.length := by rw [HN.out]; exact hlt
        obtain ⟨b, o, ha, hbB, nd⟩ := HIN.out.at_ k hk'
        have nd' := nd.keep c.bel hbB
        obtain ⟨hnq, vq⟩ := HIN.out.vs _ (List.getElem_mem hk')
        have vq' := (vq.keep c.bel).mono c.bel.size
        have sq := HS.out _ (List.getElem_mem hk')
        have HT := mkHid (List.take_succ_eq_append_getElem hk')
        generalize W.l[k] = q at *
        rw [ha]
        clear ha nd vq hk' hbB
        obtain ⟨g0, g1, g2, g3, g4⟩ := nd'
        have bN := bel_alloc wr (boxN q)
        have F5 := boxN_five wr q
        have c5 := c.later bN
        have hN5 : wr.heap.size < (wr.alloc (boxN q)).heap.size := by simp
        have hRN : ∀ g, r.ownBlock = some g → g < wr.heap.size := fun g hg => (c.nr.row.lt g hg).2
        have HRN := mkHid hRN
        have hCN : C < wr.heap.size := c.bc.lt
        have CC := mkHid (copied_any q.v (wr.alloc (boxN q)).drew (vq'.later (bdrew bN)) (by omega))
        have HFQ := mkHid (show q.nm.size ≤ maxLen ∧ fitB q.v.sort = true ∧ fitB q.v.n = true from ⟨hnq, vq'.s, vq'.n⟩)
        have hW5 : wr.alloc (.cells #[.string q.nm, .int .i64 q.v.sort, .int .i64 q.v.n, .bool q.v.b, .slice q.v.a q.v.s.length q.v.c] 48) = wr.alloc (boxN q) := rfl
        clear hRN hnq vq' c
        generalize wr.alloc (boxN q) = W5 at *
        obtain ⟨f0, f1, f2, f3, f4⟩ := F5
        simp only [Nat.zero_add] at f0 f1 f2 f3 f4
        have y1 := c5.bc.cells.2.1
        unfold Vl.val at CC
        have HB5 : Hid (Below W4.heap.size W4 W5) := c5.bel
        have hz5 : W4.heap.size ≤ W5.heap.size := c5.bel.size
        have HC5 := mkHid c5
        clear c5
        go_wp2_with fail
        clear g0 g1 g2 g3 g4 hW5
        have y1d : W5.drew.cell? ⟨C, 1, none⟩ = some r := y1
        have hCz : C < W5.heap.size := by omega
        go_region_law (first
            | (refine step_append_lies _ (by rfl) _ _ _ (by rfl) W4.heap.size 48 i0 _ 5 64 Tryd.underlying36 hi0 hz0 hz1 hz2 rfl (by omega) r k (nds l) (by rfl) ?_ ⟨w6.heap.size, 0, none⟩ 1 1 (nd5 (cpN q.nm q.v a6 c6)) (by rfl) rfl ?_ (nd5_one _) (by omega) ?_ ?_ ?_ (w6.heap.size + 1) ?_ ?_
               · exact OR6.out.alloc _
               · exact cells_nd _ (cpN q.nm q.v a6 c6)
               · simp only [maxLen]; omega
               · omega
               · rw [World.size_alloc]; omega
               · rw [World.size_alloc]
               intro g7 cap7 w7 hown7 hgrow7 hat7 hlt7
               have bc7 := (HC6.out.later (bel_alloc _ _)).bc.grown (HC6.out.later (bel_alloc _ _)).nr hgrow7
               obtain ⟨z0, z1, z2, z3⟩ := bc7.cells)
            | (go_simp; go_at_call 60; ((with_reducible refine CC.out.mono ?_)); rintro e w6 ⟨a6, c6, rfl, ho6, hb6⟩
               have HC6 := mkHid (HC5.out.later (bon (bdrew (Below.refl _ _)) hb6))
               have OR6 : Hid (w6.ownsRow W4.heap.size 48 5 r k (nds l)) := by have := HC6.out.nr.row; rw [hll] at this; exact this
               have y6 := HC6.out.bc.cells.2.1
               have hz6 : W5.heap.size ≤ w6.heap.size := hb6.size
               have hCz6 : C < w6.heap.size := by omega
               obtain ⟨k0, k1, k2, k3, k4⟩ := five_cells (w := W5) (w' := w6) ⟨f0, f1, f2, f3, f4⟩ (hb6.block _ hN5)))
        all_goals
          have c7 := (HC6.out.later (bel_alloc _ _)).grown (y := cpN q.nm q.v a6 c6) (r' := .slice (some ⟨g7, 0, none⟩) (k + 1) cap7) (by rw [hll]; exact hown7) hgrow7 ((own_base ho6 hz5).alloc _) HFQ.out
          have HC7 := mkHid c7
          clear z0 z1 z2 z3 bc7 hgrow7 hown7 hlt7 hat7 k0 k1 k2 k3 k4 y6 OR6 HC6 ho6 hb6 f0 f1 f2 f3 f4 y1 y1d CC HC5 HB5 HRN hCz6 c7
          generalize w7.setCell ⟨C, 1, none⟩ (.slice (some ⟨g7, 0, none⟩) (k + 1) cap7) = w8 at *
          go_wp2
          go_roundw
          case rel => exact ⟨k + 1, _, rfl, by omega, by omega, _, _, HC7.out, by rw [HT.out]; exact same.snoc (cpN_same q.nm q.v a6 c6)⟩
          case measure => simp [intOf]; omega
      · obtain rfl : k = n := by omega
        have SM := mkHid (show SameL l W.l by have := same; rw [List.take_of_length_le (by rw [HN.out]; omega)] at this; exact this)
        have wb := WB0.later c.bel
        obtain ⟨v0, v1, v2, v3, -⟩ := wb.vb
        have CC := mkHid (copied_any v wr ((HVN.out.keep c.bel).mono c.bel.size) HVS.out)
        unfold Vl.val at CC
        clear same wb
        go_wp2_with fail
        ((with_reducible refine CC.out.mono ?_)); rintro e w6 ⟨a6, c6, rfl, ho6, hb6⟩
        clear v0 v1 v2 v3 CC
        have b7 := bon hb6 (bel_alloc w6 (boxN (cpN nm v a6 c6)))
        have c7 := c.later b7
        have wb7 := WB0.later c7.bel
        have o7 : Own (w6.alloc (boxN (cpN nm v a6 c6))) W4.heap.size a6 c6 v.s := (own_base ho6 c.bel.size).alloc _
        have F5 := boxN_five w6 (cpN nm v a6 c6)
        have FC := mkHid (find_any W nm v.sort _ ((HIN.out.keep c7.bel).mono c7.bel.size))
        have hFV := mkHid (show nm.size ≤ maxLen ∧ fitB v.sort = true ∧ fitB v.n = true from ⟨hnm, HVN.out.s, HVN.out.n⟩)
        unfold Wd.val at FC
        rw [HN.out] at FC
        have hW7 : w6.alloc (.cells #[.string nm, .int .i64 v.sort, .int .i64 v.n, .bool v.b, .slice a6 v.s.length c6] 48) = w6.alloc (boxN (cpN nm v a6 c6)) := rfl
        clear c ho6 b7
        generalize w6.alloc (boxN (cpN nm v a6 c6)) = W7 at *
        obtain ⟨p0, p1⟩ := wb7.pl
        rw [HN.out] at p1
        have v0 := wb7.vb.1
        clear wb7
        go_wp2_with fail
        ((with_reducible refine FC.out.mono ?_)); rintro e w8 ⟨rfl, hb8⟩
        clear p0 p1 v0 FC hW7
        have c8 := c7.later hb8
        have wb8 := WB0.later c8.bel
        have o8 : Own w8 W4.heap.size a6 c6 v.s := own_lat o7 hb8
        have HO8 := mkHid o8
        have F8 : NdAt w8 w6.heap.size 0 (cpN nm v a6 c6) := F5.keep hb8 (World.block_lt_of_cell? _ _ F5.1)
        obtain ⟨f0, f1, f2, f3, f4⟩ := F8
        simp only [cpN, Nat.zero_add] at f0 f1 f2 f3 f4
        clear c7 o7 F5 o8 hb6 hb8
        have hX4 : W4.heap.size = w.heap.size + 1 + 1 + 1 + 1 := HX.out
        have hCge := c8.cge
        have hCX : ¬ C = w.heap.size + 1 + 1 := by omega
        have hXC : ¬ w.heap.size + 1 + 1 = C := by omega
        obtain ⟨z0, z1, z2, z3⟩ := c8.bc.cells
        obtain ⟨-, r0, r1, r2, r3, -⟩ := wb8
        have HC8 := mkHid c8
        clear c8
        by_cases hf : findN nm v.sort W.l 0 = -1
        · rw [hf]
          have HP := mkHid (putN_no (y := ⟨nm, v⟩) (l := W.l) (k := 0) hf)
          clear hf
          have OR8 : Hid (w8.ownsRow W4.heap.size 48 5 r k (nds l)) := by have := HC8.out.nr.row; rw [hll] at this; exact this
          have hz8 : W4.heap.size ≤ w8.heap.size := HC8.out.bel.size
          have hC8 : C < w8.heap.size := HC8.out.bc.lt
          have C8A := mkHid (HC8.out.later (bel_alloc w8 (.cells #[.string nm, .int .i64 v.sort, .int .i64 v.n, .bool v.b, .slice a6 v.s.length c6] 48)))
          go_wp2_with (at_builtin
                       refine wpList_append_own _ rfl (.tmp 63) (.tmp 65) _ rfl W4.heap.size 48 i0 _ 5 64 Tryd.underlying36 hi0 hz0 hz1 hz2 rfl (by omega) r k (nds l) rfl ?_ ⟨w8.heap.size, 0, none⟩ 1 1 (nd5 (cpN nm v a6 c6)) rfl rfl ?_ (nd5_one _) ?_ ?_ ?_ ?_
                       · exact OR8.out.alloc _
                       · exact cells_nd _ (cpN nm v a6 c6)
                       · simp only [maxLen]; omega
                       · omega
                       · rw [World.size_alloc]; omega
                       intro v9 w9 hown9 hg9 hv9
                       obtain ⟨g9, cap9, rfl, hg9b, hg9l⟩ := World.ownsRow.form hown9 (by omega)
                       have bc9 := C8A.out.bc.grown C8A.out.nr hg9
                       have wb9 := WB0.later (C8A.out.bel.grown hg9 C8A.out.bel.size (fun k hk => (C8A.out.nr.row.lt k hk).1))
                       obtain ⟨y0, y1, y2, y3⟩ := bc9.cells
                       obtain ⟨-, q0, q1, q2, q3, -⟩ := wb9
                       clear z0 z1 z2 z3 r0 r1 r2 r3 f0 f1 f2 f3 f4)
          have c9 := C8A.out.grown (y := cpN nm v a6 c6) (r' := .slice (some ⟨g9, 0, none⟩) (k + 1) cap9) (by rw [hll]; exact hown9) hg9 (HO8.out.alloc _) hFV.out
          have e1 : (l ++ [cpN nm v a6 c6]).length = k + 1 := by simp [hll]
          refine bodyPost_ret (v := .agg #[.int .i64 W.nodes, .slice (some ⟨g9, 0, none⟩) (k + 1) cap9]) (by simp [results, Tryd.results28, go_sem, q0, q1]) rfl ⟨⟨W.nodes, some ⟨g9, 0, none⟩, cap9, l ++ [cpN nm v a6 c6]⟩, ?_, rfl, ?_, ?_, ?_⟩
          · simp only [e1]
          · rw [HP.out]; exact SM.out.snoc (cpN_same nm v a6 c6)
          · simp only [e1]
            exact ((c9.nr.put (by simp; omega) _).put (by simp; omega) _).base (by omega)
          · exact bset (bset (bon B0 c9.bel) (by simp; omega) _) (by simp; omega) _
        · obtain ⟨i, hi, e, -⟩ := findN_some hf
          have e : findN nm v.sort W.l 0 = (i : Int) := by rw [e]; omega
          have HP := mkHid (putN_yes (y := ⟨nm, v⟩) (l := W.l) (k := 0) (j := i) (by rw [Nat.zero_add]; exact e))
          rw [e]
          have hik : i < k := by rw [← HN.out]; exact hi
          have hi2 : (i : Int) < (k : Int) := by omega
          clear hf e hi
          obtain ⟨g, cap, rfl, hgb, hgl⟩ := World.ownsRow.form HC8.out.nr.row (by omega)
          rw [hll] at HC8 z1
          obtain ⟨n0, n1, n2, n3, n4⟩ := HC8.out.nr.at_ hll i (by omega)
          have hrow := HC8.out.nr.row
          rw [hll] at hrow
          have m0 := hrow.frozenAt (i * 5)
          have m1 := hrow.frozenAt (i * 5 + 1)
          have m2 := hrow.frozenAt (i * 5 + 2)
          have m3 := hrow.frozenAt (i * 5 + 3)
          have m4 := hrow.frozenAt (i * 5 + 4)
          have hCg : ¬ C = g := by
            rintro rfl
            obtain ⟨c', hc'⟩ := own_kind hrow rfl
            have := HC8.out.bc
            unfold BoxC at this
            rw [this] at hc'
            simp at hc'
          have hgC : ¬ g = C := fun e => hCg e.symm
          have hgX : ¬ g = w.heap.size + 1 + 1 := by omega
          have hXg : ¬ w.heap.size + 1 + 1 = g := by omega
          clear hrow
          go_wp2
          have nr9 := HC8.out.nr.store hll i hik (cpN nm v a6 c6) HO8.out hFV.out
          have e1 : (l.set i (cpN nm v a6 c6)).length = k := by simp [hll]
          refine bodyPost_ret (v := .agg #[.int .i64 W.nodes, .slice (some ⟨g, 0, none⟩) k cap]) (by simp [results, Tryd.results28, go_sem, r0, r1]) rfl ⟨⟨W.nodes, some ⟨g, 0, none⟩, cap, l.set i (cpN nm v a6 c6)⟩, ?_, rfl, ?_, ?_, ?_⟩
          · simp only [e1]
          · rw [HP.out]; exact SM.out.set (cpN_same nm v a6 c6) i
          · simp only [e1]
            exact ((nr9.put (by simp; omega) _).put (by simp; omega) _).base (by omega)
          · have b8 := bon B0 HC8.out.bel
            iterate 7 refine bset ?_ (by simp; omega) _
            exact b8
end Go.Proofs.YtlbknhedpjaelaaDoor
