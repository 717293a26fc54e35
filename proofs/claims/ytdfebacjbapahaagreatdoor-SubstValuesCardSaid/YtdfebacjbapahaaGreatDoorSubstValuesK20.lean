/-
  What SubstValues's proof stands on, part 20: EvQ, EvV, EvX, SbW, SbT0.
-/
import Derived.Test.YtdfebacjbapahaaGreatDoorSubstValuesK09
import Derived.BigRegion
import Derived.Deep.RegionHeld2
import Derived.Test.YtdfebacjbapahaaGreatDoorSubstValuesK19
import Derived.Laws.MakeOwn
import Derived.Deep.RegionLaw
import Derived.Deep.RegionHeldLaw
import Derived.Deep.DeepCutAuto
import Derived.Deep.CutBlock
import Derived.Test.YtdfebacjbapahaaGreatDoorSubstValuesK08
namespace Go.Proofs.YtdfebacjbapahaaGreatDoor
section
open Go.RowKit

set_option maxRecDepth 100000 in
set_option maxHeartbeats 2000000 in
theorem same_true (so nn : Int) (bb : Bool) (a1 a2 : Option Addr) (c1 c2 : Nat) (l : List Bool) (w : World) (h1 : BIn w w.heap.size a1 l) (h2 : BIn w w.heap.size a2 l) (hl : l.length ≤ 9223372036854775807) :
    Calls Tryz.prog 12 #[.agg #[.int .i64 so, .int .i64 nn, .bool bb, .slice a1 l.length c1], .agg #[.int .i64 so, .int .i64 nn, .bool bb, .slice a2 l.length c2]] w (RetB true w) := by
  have H1 := mkHid h1
  have H2 := mkHid h2
  clear h1 h2
  generalize hn' : l.length = n at *
  have HN := mkHid hn'
  clear hn'
  have hb2 : Below w.heap.size w ((w.alloc (.cells #[.int .i64 so, .int .i64 nn, .bool bb, .slice a1 n c1] 36)).alloc (.cells #[.int .i64 so, .int .i64 nn, .bool bb, .slice a2 n c2] 36)) := bal (bal (Below.refl _ _) _) _
  have F1 : FourV ((w.alloc (.cells #[.int .i64 so, .int .i64 nn, .bool bb, .slice a1 n c1] 36)).alloc (.cells #[.int .i64 so, .int .i64 nn, .bool bb, .slice a2 n c2] 36)) w.heap.size (.int .i64 so) (.int .i64 nn) (.bool bb) (.slice a1 n c1) := by simp [FourV, go_sem]
  have F2 : FourV ((w.alloc (.cells #[.int .i64 so, .int .i64 nn, .bool bb, .slice a1 n c1] 36)).alloc (.cells #[.int .i64 so, .int .i64 nn, .bool bb, .slice a2 n c2] 36)) (w.heap.size + 1) (.int .i64 so) (.int .i64 nn) (.bool bb) (.slice a2 n c2) := by simp [FourV, go_sem]
  generalize hW2 : (w.alloc (.cells #[.int .i64 so, .int .i64 nn, .bool bb, .slice a1 n c1] 36)).alloc (.cells #[.int .i64 so, .int .i64 nn, .bool bb, .slice a2 n c2] 36) = W2 at *
  obtain ⟨x0, x1, x2, x3, -⟩ := id F1
  obtain ⟨y0, y1, y2, y3, -⟩ := id F2
  have e1 : (so != so) = false := by simp
  have e2 : (nn != nn) = false := by simp
  have e3 : (bb != bb) = false := by simp
  go_enter Tryz.func12, Tryz.ntmps12
  go_wp2
  clear x0 x1 x2 x3 y0 y1 y2 y3 hW2
  go_loopw [5] (fun i w' => ∃ (k : Nat) (x : Int), i = .int .i64 x ∧ x = k ∧ k ≤ n ∧ Below W2.heap.size W2 w') (fun i _ => (n - intOf i).toNat)
  case atStart => exact ⟨0, 0, rfl, rfl, Nat.zero_le _, Below.refl _ _⟩
  case round =>
    obtain ⟨k, x, rfl, hxk, hk, hb⟩ := hrel
    obtain rfl : x = (k : Int) := hxk
    have x3 := (F1.later hb).2.2.2.1
    have y3 := (F2.later hb).2.2.2.1
    have BB := bon hb2 hb
    by_cases hlt : k < n
    · have hk' : k < l.length := by rw [HN.out]; exact hlt
      obtain ⟨b1, o1, ea, hB1, q1⟩ := (H1.out.keep BB) k hk'
      obtain ⟨b2, o2, eb, hB2, q2⟩ := (H2.out.keep BB) k hk'
      subst ea eb
      generalize l[k] = lk at *
      have e4 : (lk != lk) = false := by simp
      clear hk'
      go_wp2_with fail
      (try dsimp only [List.append])
      refine wp_region_held_drew (S := fun w' => w'.cell? ⟨w.heap.size, 3, none⟩ = some (.slice (some ⟨b1, o1, none⟩) n c1) ∧ w'.cell? ⟨w.heap.size + 1, 3, none⟩ = some (.slice (some ⟨b2, o2, none⟩) n c2) ∧ w'.cell? ⟨b1, o1 + k, none⟩ = some (.bool lk) ∧ w'.cell? ⟨b2, o2 + k, none⟩ = some (.bool lk)) (by kernel_rfl) ⟨x3, y3, q1, q2⟩ (fun hHeld => ?_)
      refine wpAnyH_take (i := 0) (v := ?_) rfl (by kernel_rfl) (by kernel_rfl) (by kernel_rfl) (fun _ _ _ h => h) (Or.inl ⟨by kernel_rfl, ?_⟩) (by assumption) ?_
      rotate_left
      · (intro w hSw; (try dsimp only at hSw); go_simp; try with_reducible rfl)
      simp only [Act.put, List.getElem_toArray, List.getElem_cons_zero, List.setIfInBounds_toArray, List.set_cons_zero, List.set_cons_succ]
      refine wpAnyH_take (i := 1) (v := ?_) rfl (by kernel_rfl) (by kernel_rfl) (by kernel_rfl) (fun _ _ _ h => h) (Or.inl ⟨by kernel_rfl, ?_⟩) (by assumption) ?_
      rotate_left
      · (intro w hSw; (try dsimp only at hSw); go_simp; try with_reducible rfl)
      simp only [Act.put, List.getElem_toArray, List.getElem_cons_succ, List.getElem_cons_zero, List.setIfInBounds_toArray, List.set_cons_zero, List.set_cons_succ]
      refine wpAnyH_take (i := 2) (v := ?_) rfl (by kernel_rfl) (by kernel_rfl) (by kernel_rfl) (fun _ _ _ h => h) (Or.inl ⟨by kernel_rfl, ?_⟩) (by assumption) ?_
      rotate_left
      · (intro w hSw; (try dsimp only at hSw); go_simp; try with_reducible rfl)
      simp only [Act.put, List.getElem_toArray, List.getElem_cons_succ, List.getElem_cons_zero, List.setIfInBounds_toArray, List.set_cons_zero, List.set_cons_succ]
      refine wpAnyH_take (i := 3) (v := ?_) rfl (by kernel_rfl) (by kernel_rfl) (by kernel_rfl) (fun _ _ _ h => h) (Or.inl ⟨by kernel_rfl, ?_⟩) (by assumption) ?_
      rotate_left
      · (intro w hSw; (try dsimp only at hSw); go_simp; try with_reducible rfl)
      simp only [Act.put, List.getElem_toArray, List.getElem_cons_succ, List.getElem_cons_zero, List.setIfInBounds_toArray, List.set_cons_zero, List.set_cons_succ]
      refine wpAnyH_take (i := 4) (v := ?_) rfl (by kernel_rfl) (by kernel_rfl) (by kernel_rfl) (fun _ _ _ h => h) (Or.inl ⟨by kernel_rfl, ?_⟩) (by assumption) ?_
      rotate_left
      · (intro w hSw; (try dsimp only at hSw); go_simp; try with_reducible rfl)
      simp only [Act.put, List.getElem_toArray, List.getElem_cons_succ, List.getElem_cons_zero, List.setIfInBounds_toArray, List.set_cons_zero, List.set_cons_succ]
      refine wpAnyH_take (i := 5) (v := ?_) rfl (by kernel_rfl) (by kernel_rfl) (by kernel_rfl) (fun _ _ _ h => h) (Or.inl ⟨by kernel_rfl, ?_⟩) (by assumption) ?_
      rotate_left
      · (intro w hSw; (try dsimp only at hSw); go_simp; try with_reducible rfl)
      simp only [Act.put, List.getElem_toArray, List.getElem_cons_succ, List.getElem_cons_zero, List.setIfInBounds_toArray, List.set_cons_zero, List.set_cons_succ]
      refine wpAnyH_take (i := 6) (v := ?_) rfl (by kernel_rfl) (by kernel_rfl) (by kernel_rfl) (fun _ _ _ h => h) (Or.inl ⟨by kernel_rfl, ?_⟩) (by assumption) ?_
      rotate_left
      · (intro w hSw; (try dsimp only at hSw); go_simp; try with_reducible rfl)
      simp only [Act.put, List.getElem_toArray, List.getElem_cons_succ, List.getElem_cons_zero, List.setIfInBounds_toArray, List.set_cons_zero, List.set_cons_succ]
      refine wpAnyH_take (i := 7) (v := ?_) rfl (by kernel_rfl) (by kernel_rfl) (by kernel_rfl) (fun _ _ _ h => h) (Or.inl ⟨by kernel_rfl, ?_⟩) (by assumption) ?_
      rotate_left
      · (intro w hSw; (try dsimp only at hSw); go_simp; try with_reducible rfl)
      simp only [Act.put, List.getElem_toArray, List.getElem_cons_succ, List.getElem_cons_zero, List.setIfInBounds_toArray, List.set_cons_zero, List.set_cons_succ]
      refine wpAnyH_take (i := 8) (v := ?_) rfl (by kernel_rfl) (by kernel_rfl) (by kernel_rfl) (fun _ _ _ h => h) (Or.inl ⟨by kernel_rfl, ?_⟩) (by assumption) ?_
      rotate_left
      · (intro w hSw; (try dsimp only at hSw); go_simp; try with_reducible rfl)
      simp only [Act.put, List.getElem_toArray, List.getElem_cons_succ, List.getElem_cons_zero, List.setIfInBounds_toArray, List.set_cons_zero, List.set_cons_succ]
      refine wpAnyH_take (i := 9) (v := ?_) rfl (by kernel_rfl) (by kernel_rfl) (by kernel_rfl) (fun _ _ _ h => h) (Or.inl ⟨by kernel_rfl, ?_⟩) (by assumption) ?_
      rotate_left
      · (intro w hSw; (try dsimp only at hSw); go_simp; try with_reducible rfl)
      simp only [Act.put, List.getElem_toArray, List.getElem_cons_succ, List.getElem_cons_zero, List.setIfInBounds_toArray, List.set_cons_zero, List.set_cons_succ]
      refine wpAnyH_take (i := 10) (v := ?_) rfl (by kernel_rfl) (by kernel_rfl) (by kernel_rfl) (fun _ _ _ h => h) (Or.inl ⟨by kernel_rfl, ?_⟩) (by assumption) ?_
      rotate_left
      · (intro w hSw; (try dsimp only at hSw); go_simp; try with_reducible rfl)
      simp only [Act.put, List.getElem_toArray, List.getElem_cons_succ, List.getElem_cons_zero, List.setIfInBounds_toArray, List.set_cons_zero, List.set_cons_succ]
      refine wpAnyH_done (by kernel_rfl) ?_ _
      go_wp2
      go_roundw
      case rel => exact ⟨k + 1, _, rfl, by omega, by omega, bdrew hb⟩
      case measure => simp [intOf]; omega
    · go_wp2
      go_ret
      exact ⟨rfl, BB⟩
end
section
open Go.RowKit

def boxVl (v : Vl) : Obj := .cells #[.int .i64 v.sort, .int .i64 v.n, .bool v.b, .slice v.a v.s.length v.c] 36
def wiW (W : Wd) (v : Vl) (w : World) : World := (((w.alloc (boxW W)).alloc (boxVl v)).alloc (.cells #[.int .i64 0, .slice none 0 0] 28)).alloc (boxP W)
theorem wiW_below (W : Wd) (v : Vl) (w : World) : Below w.heap.size w (wiW W v w) := bal (bal (bal (bal (Below.refl _ _) _) _) _) _
/-- the boxes of With: the world, the value, the answer, the place -/
structure WB (X : Nat) (W : Wd) (v : Vl) (w : World) : Prop where
  vb : FourV w (X + 1) (.int .i64 v.sort) (.int .i64 v.n) (.bool v.b) (.slice v.a v.s.length v.c)
  r0 : w.cell? ⟨X + 1 + 1, 0, none⟩ = some (.int .i64 0)
  r1 : w.cell? ⟨X + 1 + 1, 1, none⟩ = some (.slice none 0 0)
  r2 : w.frozen? ⟨X + 1 + 1, 0, none⟩ = false
  r3 : w.frozen? ⟨X + 1 + 1, 1, none⟩ = false
  pl : TwoW w (X + 1 + 1 + 1) W
theorem WB.later {X : Nat} {W : Wd} {v : Vl} {w w' : World} (h : WB X W v w) (hb : Below w.heap.size w w') : WB X W v w' :=
  ⟨h.vb.later hb, cell_later hb h.r0, cell_later hb h.r1, frozen_later hb h.r0 h.r2, frozen_later hb h.r1 h.r3, h.pl.later hb⟩
theorem WB.start (W : Wd) (v : Vl) (w : World) : WB w.heap.size W v (wiW W v w) := by
  refine ⟨?_, ?_, ?_, ?_, ?_, ?_⟩
  all_goals simp [wiW, FourV, TwoW, boxW, boxP, boxVl, go_sem]
/-- a row is made -/
theorem made_row (n : Nat) (h : n ≤ 100) : ∃ cs : Array Value, cs.size = (n + 1) * 5 ∧ ∀ w : World, (Instr.makeSlice 26 (.int .i64 0) (.int .i64 ((n : Int) + 1))).run Tryz.prog w = .ok (.slice (some ⟨w.heap.size, 0, none⟩) 0 (n + 1)) (w.alloc (.cells cs 57)) := by
  obtain ⟨i0, hi0, hz0, hz1, hz2⟩ := nd_parts
  refine ⟨madeCells #[.string ⟨#[]⟩, .int .i64 0, .int .i64 0, .bool false, .slice none 0 0] ((n + 1) * 5), size_madeCells _ _, fun w => ?_⟩
  have hr := run_make (P := Tryz.prog) w 26 57 i0 _ Tryz.underlying26 hi0 hz0 .i64 .i64 0 ((n : Int) + 1) (Int.le_refl _) (by omega) (by rw [hz2]; omega) (by omega)
  rw [hr, hz1, show ((n : Int) + 1).toNat = n + 1 by omega]
  rfl
theorem two_cells {w w' : World} {p q : Addr} {x y : Value} (h : w.cell? p = some x ∧ w.cell? q = some y) (hb : Below w.heap.size w w') : w'.cell? p = some x ∧ w'.cell? q = some y := ⟨cell_later hb h.1, cell_later hb h.2⟩
/-- a world that is being built: its box in block C, its row -/
structure WC (w4 : World) (nodes : Int) (C : Nat) (r : Value) (l : List Nd) (w : World) : Prop where
  bel : Below w4.heap.size w4 w
  cge : w4.heap.size ≤ C
  bc : BoxC w C nodes r
  nr : NRow w w4.heap.size r l
theorem WC.later {w4 w w' : World} {nodes : Int} {C : Nat} {r : Value} {l : List Nd} (h : WC w4 nodes C r l w) (hb : Below w.heap.size w w') : WC w4 nodes C r l w' := ⟨bon h.bel hb, h.cge, h.bc.later hb, h.nr.later hb⟩
theorem WC.grown {w4 w w' : World} {nodes : Int} {C : Nat} {r r' : Value} {l : List Nd} {y : Nd} (h : WC w4 nodes C r l w) (hr : w'.ownsRow w4.heap.size 57 5 r' (l.length + 1) (nds l ++ nd5 y)) (hg : w.grownBy w' r.ownBlock) (hy : Own w w4.heap.size y.v.a y.v.c y.v.s) (hf : y.nm.size ≤ maxLen ∧ fitB y.v.sort = true ∧ fitB y.v.n = true) : WC w4 nodes C r' (l ++ [y]) (w'.setCell ⟨C, 1, none⟩ r') := by
  have bc' := h.bc.grown h.nr hg
  exact ⟨(h.bel.grown hg h.bel.size (fun k hk => (h.nr.row.lt k hk).1)).setCell h.cge _, h.cge, bc'.set1 _, (h.nr.grown hr hg hy hf).putk (p := ⟨C, 1, none⟩) (T := 28) bc' (by decide) (by decide) _⟩
theorem SameL.snoc {l m : List Nd} {x y : Nd} (h : SameL l m) (hx : SameN x y) : SameL (l ++ [x]) (m ++ [y]) := by
  obtain ⟨h1, h2⟩ := h
  refine ⟨by simp [h1], fun i hi hi' => ?_⟩
  by_cases hk : i < l.length
  · rw [List.getElem_append_left hk, List.getElem_append_left (by omega)]
    exact h2 i hk (by omega)
  · have : i = l.length := by simp at hi; omega
    subst this
    rw [List.getElem_append_right (by omega), List.getElem_append_right (by omega)]
    simpa using hx
theorem SameL.set {l m : List Nd} {x y : Nd} (h : SameL l m) (hx : SameN x y) (k : Nat) : SameL (l.set k x) (m.set k y) := by
  obtain ⟨h1, h2⟩ := h
  refine ⟨by simp [h1], fun i hi hi' => ?_⟩
  simp only [List.getElem_set]
  by_cases hk : k = i
  · rw [if_pos hk, if_pos hk]; exact hx
  · rw [if_neg hk, if_neg hk]
    exact h2 i (by simpa using hi) (by simpa using hi')
/-- a copy of a named value: its set stands elsewhere -/
def cpN (nm : ByteArray) (v : Vl) (a : Option Addr) (c : Nat) : Nd := ⟨nm, ⟨v.sort, v.n, v.b, a, c, v.s⟩⟩
theorem cpN_same (nm : ByteArray) (v : Vl) (a : Option Addr) (c : Nat) : SameN (cpN nm v a c) ⟨nm, v⟩ := ⟨rfl, rfl, rfl, rfl, rfl⟩
theorem cells_nd (w : World) (x : Nd) : ∀ i u, (nd5 x)[i]? = some u → (w.alloc (.cells #[.string x.nm, .int .i64 x.v.sort, .int .i64 x.v.n, .bool x.v.b, .slice x.v.a x.v.s.length x.v.c] 57)).cell? ((⟨w.heap.size, 0, none⟩ : Addr).add i) = some u := by
  intro i u hu
  unfold nd5 at hu
  match i, hu with
  | 0, hu => simp at hu; subst hu; simp [Addr.add, go_sem]
  | 1, hu => simp at hu; subst hu; simp [Addr.add, go_sem]
  | 2, hu => simp at hu; subst hu; simp [Addr.add, go_sem]
  | 3, hu => simp at hu; subst hu; simp [Addr.add, go_sem]
  | 4, hu => simp at hu; subst hu; simp [Addr.add, go_sem]
  | i + 5, hu => simp at hu
theorem five_cells {w w' : World} {N : Nat} {x0 x1 x2 x3 x4 : Value} (h : w.cell? ⟨N, 0, none⟩ = some x0 ∧ w.cell? ⟨N, 1, none⟩ = some x1 ∧ w.cell? ⟨N, 2, none⟩ = some x2 ∧ w.cell? ⟨N, 3, none⟩ = some x3 ∧ w.cell? ⟨N, 4, none⟩ = some x4) (hb : w'.heap[N]? = w.heap[N]?) : w'.cell? ⟨N, 0, none⟩ = some x0 ∧ w'.cell? ⟨N, 1, none⟩ = some x1 ∧ w'.cell? ⟨N, 2, none⟩ = some x2 ∧ w'.cell? ⟨N, 3, none⟩ = some x3 ∧ w'.cell? ⟨N, 4, none⟩ = some x4 := by
  have e : ∀ o, w'.cell? ⟨N, o, none⟩ = w.cell? ⟨N, o, none⟩ := fun o => World.cell?_of_block (w := w) hb
  rw [e, e, e, e, e]; exact h
/-- while With goes through the names -/
def WI (w4 : World) (W : Wd) (C k : Nat) (w : World) : Prop := ∃ (r : Value) (l : List Nd), WC w4 W.nodes C r l w ∧ SameL l (W.l.take k)
theorem WI.startA {w4 : World} {W : Wd} {cs : Array Value} {n : Nat} (hc : cs.size = (n + 1) * 5) (hn : n ≤ 64) : WI w4 W (w4.heap.size + 1) 0 ((w4.alloc (.cells cs 57)).alloc (.cells #[.int .i64 W.nodes, .slice (some ⟨w4.heap.size, 0, none⟩) 0 (n + 1)] 28)).drew := by
  refine ⟨.slice (some ⟨w4.heap.size, 0, none⟩) 0 (n + 1), [], ⟨bdrew (bal (bal (Below.refl _ _) _) _), Nat.le_succ _, ?_, ⟨?_, fun x hx => (by cases hx), fun x hx => (by cases hx)⟩⟩, by simp [SameL]⟩
  · have := heap_alloc_new (w4.alloc (.cells cs 57)) (.cells #[.int .i64 W.nodes, .slice (some ⟨w4.heap.size, 0, none⟩) 0 (n + 1)] 28)
    rw [World.size_alloc] at this
    exact this
  · exact ((World.ownsRow_made w4 cs (n + 1) (Nat.le_refl _) (by unfold maxLen; omega) hc).alloc _).drew
theorem WI.startB {w4 : World} {W : Wd} {cs : Array Value} {n : Nat} (hc : cs.size = (n + 1) * 5) (hn : n ≤ 64) : WI w4 W w4.heap.size 0 ((w4.alloc (.cells #[.int .i64 W.nodes, .slice (some ⟨w4.heap.size + 1, 0, none⟩) 0 (n + 1)] 28)).alloc (.cells cs 57)).drew := by
  refine ⟨.slice (some ⟨w4.heap.size + 1, 0, none⟩) 0 (n + 1), [], ⟨bdrew (bal (bal (Below.refl _ _) _) _), Nat.le_refl _, ?_, ⟨?_, fun x hx => (by cases hx), fun x hx => (by cases hx)⟩⟩, by simp [SameL]⟩
  · have h1 := heap_alloc_new w4 (.cells #[.int .i64 W.nodes, .slice (some ⟨w4.heap.size + 1, 0, none⟩) 0 (n + 1)] 28)
    have h2 := Below.heap_alloc (w4.alloc (.cells #[.int .i64 W.nodes, .slice (some ⟨w4.heap.size + 1, 0, none⟩) 0 (n + 1)] 28)) (.cells cs 57) w4.heap.size (by simp)
    exact h2.trans h1
  · have := (World.ownsRow_made (base := w4.heap.size) (e := 57) (size := 5) (w4.alloc (.cells #[.int .i64 W.nodes, .slice (some ⟨w4.heap.size + 1, 0, none⟩) 0 (n + 1)] 28)) cs (n + 1) (by simp) (by unfold maxLen; omega) hc).drew
    rw [World.size_alloc] at this
    exact this
set_option maxRecDepth 100000 in
set_option maxHeartbeats 4000000 in
theorem with_any (W : Wd) (nm : ByteArray) (v : Vl) (w : World) (hW : WIn w w.heap.size W) (hv : VIn w w.heap.size v) (hnm : nm.size ≤ maxLen) (hl : W.l.length ≤ 64) (hs : ∀ x ∈ W.l, x.v.s.length ≤ 64) (hvs : v.s.length ≤ 140737488355328) :
    Calls Tryz.prog 10 #[W.val, .string nm, v.val] w fun e w' => ∃ V : Wd, e = .returned V.val ∧ V.nodes = W.nodes ∧ SameL V.l (putN ⟨nm, v⟩ W.l) ∧ NRow w' w.heap.size (.slice V.a V.l.length V.c) V.l ∧ Below w.heap.size w w' := by
  obtain ⟨i0, hi0, hz0, hz1, hz2⟩ := nd_parts
  have B0 := wiW_below W v w
  have WB0 := WB.start W v w
  have hX : (wiW W v w).heap.size = w.heap.size + 1 + 1 + 1 + 1 := by simp [wiW]
  obtain ⟨cs, hcs, hmk⟩ := made_row W.l.length (by omega)
  have HIN := mkHid (hW.later B0)
  have HVN := mkHid (hv.later B0)
  have HS := mkHid hs
  have HL := mkHid hl
  have HVS := mkHid hvs
  have HX := mkHid hX
  have HCS := mkHid hcs
  have hW4 : (((w.alloc (.cells #[.int .i64 W.nodes, .slice W.a W.l.length W.c] 28)).alloc (.cells #[.int .i64 v.sort, .int .i64 v.n, .bool v.b, .slice v.a v.s.length v.c] 36)).alloc (.cells #[.int .i64 0, .slice none 0 0] 28)).alloc (.cells #[.int .i64 W.nodes, .slice W.a W.l.length W.c] 55) = wiW W v w := rfl
  clear hW hv hs hvs hX hcs
  generalize wiW W v w = W4 at *
  unfold Wd.val Vl.val
  obtain ⟨p0, p1⟩ := WB0.pl
  have hl2 : (W.l.length : Int) ≤ 64 := by omega
  clear hl
  generalize hn' : W.l.length = n at *
  have HN := mkHid hn'
  clear hn'
  have hwr : IntKind.i64.wrap ((n : Int) + 1) = (n : Int) + 1 := by rw [IntKind.wrap_i64]; omega
  have hlt : w.heap.size + 1 + 1 + 1 < W4.heap.size := by rw [HX.out]; omega
  go_enter Tryz.func10, Tryz.ntmps10
  go_wp2_with fail
  go_cut [8] (fun s wx => ∃ C, s = .pointer (some ⟨C, 0, none⟩) ∧ WI W4 W C 0 wx)
  case first =>
    go_region_held2 (fun w' => w'.cell? ⟨w.heap.size + 1 + 1 + 1, 0, none⟩ = some (.int .i64 W.nodes) ∧ w'.cell? ⟨w.heap.size + 1 + 1 + 1, 1, none⟩ = some (.slice W.a n W.c))
      ((refine two_cells (w := W4) ⟨p0, p1⟩ ?_; repeat (first | exact Below.refl _ _ | refine bdrew ?_ | refine bal ?_ _ | refine bset ?_ (by simp) _)))
      (fail)
    all_goals
      go_wp2_with fail
      go_meet
      first
        | exact ⟨_, rfl, WI.startA HCS.out HL.out⟩
        | exact ⟨_, rfl, WI.startB HCS.out HL.out⟩
  case rest =>
    obtain ⟨C, rfl, I0⟩ := hcut
    clear p0 p1 hW4 hmk HCS
    have I0b : Below W4.heap.size W4 wc := by obtain ⟨r, l, c, -⟩ := I0; exact c.bel
    obtain ⟨p0, p1⟩ := (WB0.later I0b).pl
    rw [HN.out] at p1
    go_wp2
    clear p0 p1
    go_loopw [29] (fun i w' => ∃ (k : Nat) (x : Int), i = .int .i64 x ∧ x = k ∧ k ≤ n ∧ WI W4 W C k w') (fun i _ => (n - intOf i).toNat)
    case atStart => exact ⟨0, 0, rfl, rfl, Nat.zero_le _, I0⟩
    case round =>
      obtain ⟨k, x, rfl, hxk, hk, I⟩ := hrel
      obtain rfl : x = (k : Int) := hxk
      obtain ⟨r, l, c, same⟩ := I
      have hll : l.length = k := by rw [same.1, List.length_take, HN.out]; omega
      clear I0 I0b
      by_cases hlt : k < n
      · have hk' : k < W.l.length := by rw [HN.out]; exact hlt
        obtain ⟨b, o, ha, hbB, nd⟩ := HIN.out.at_ k hk'
        have nd' := nd.keep c.bel hbB
        obtain ⟨hnq, vq⟩ := HIN.out.vs _ (List.getElem_mem hk')
        have vq' := (vq.keep c.bel).mono c.bel.size
        have sq := HS.out _ (List.getElem_mem hk')
        have HT := mkHid (List.take_succ_eq_append_getElem hk')
        generalize W.l[k] = q at *
        rw [ha]
        clear ha nd vq hk' hbB
        obtain ⟨g0, g1, g2, g3, g4⟩ := nd'
        have bN := bel_alloc wr (boxN q)
        have F5 := boxN_five wr q
        have c5 := c.later bN
        have hN5 : wr.heap.size < (wr.alloc (boxN q)).heap.size := by simp
        have hRN : ∀ g, r.ownBlock = some g → g < wr.heap.size := fun g hg => (c.nr.row.lt g hg).2
        have HRN := mkHid hRN
        have hCN : C < wr.heap.size := c.bc.lt
        have CC := mkHid (copied_any q.v (wr.alloc (boxN q)).drew (vq'.later (bdrew bN)) (by omega))
        have HFQ := mkHid (show q.nm.size ≤ maxLen ∧ fitB q.v.sort = true ∧ fitB q.v.n = true from ⟨hnq, vq'.s, vq'.n⟩)
        have hW5 : wr.alloc (.cells #[.string q.nm, .int .i64 q.v.sort, .int .i64 q.v.n, .bool q.v.b, .slice q.v.a q.v.s.length q.v.c] 57) = wr.alloc (boxN q) := rfl
        clear hRN hnq vq' c
        generalize wr.alloc (boxN q) = W5 at *
        obtain ⟨f0, f1, f2, f3, f4⟩ := F5
        simp only [Nat.zero_add] at f0 f1 f2 f3 f4
        have y1 := c5.bc.cells.2.1
        unfold Vl.val at CC
        have HB5 : Hid (Below W4.heap.size W4 W5) := c5.bel
        have hz5 : W4.heap.size ≤ W5.heap.size := c5.bel.size
        have HC5 := mkHid c5
        clear c5
        go_wp2_with fail
        clear g0 g1 g2 g3 g4 hW5
        have y1d : W5.drew.cell? ⟨C, 1, none⟩ = some r := y1
        have hCz : C < W5.heap.size := by omega
        go_region_law (first
            | (refine step_append_lies _ (by rfl) _ _ _ (by rfl) W4.heap.size 57 i0 _ 5 64 Tryz.underlying26 hi0 hz0 hz1 hz2 rfl (by omega) r k (nds l) (by rfl) ?_ ⟨w6.heap.size, 0, none⟩ 1 1 (nd5 (cpN q.nm q.v a6 c6)) (by rfl) rfl ?_ (nd5_one _) (by omega) ?_ ?_ ?_ (w6.heap.size + 1) ?_ ?_
               · exact OR6.out.alloc _
               · exact cells_nd _ (cpN q.nm q.v a6 c6)
               · simp only [maxLen]; omega
               · omega
               · rw [World.size_alloc]; omega
               · rw [World.size_alloc]
               intro g7 cap7 w7 hown7 hgrow7 hat7 hlt7
               have bc7 := (HC6.out.later (bel_alloc _ _)).bc.grown (HC6.out.later (bel_alloc _ _)).nr hgrow7
               obtain ⟨z0, z1, z2, z3⟩ := bc7.cells)
            | (go_simp; go_at_call 26; ((with_reducible refine CC.out.mono ?_)); rintro e w6 ⟨a6, c6, rfl, ho6, hb6⟩
               have HC6 := mkHid (HC5.out.later (bon (bdrew (Below.refl _ _)) hb6))
               have OR6 : Hid (w6.ownsRow W4.heap.size 57 5 r k (nds l)) := by have := HC6.out.nr.row; rw [hll] at this; exact this
               have y6 := HC6.out.bc.cells.2.1
               have hz6 : W5.heap.size ≤ w6.heap.size := hb6.size
               have hCz6 : C < w6.heap.size := by omega
               obtain ⟨k0, k1, k2, k3, k4⟩ := five_cells (w := W5) (w' := w6) ⟨f0, f1, f2, f3, f4⟩ (hb6.block _ hN5)))
        all_goals
          have c7 := (HC6.out.later (bel_alloc _ _)).grown (y := cpN q.nm q.v a6 c6) (r' := .slice (some ⟨g7, 0, none⟩) (k + 1) cap7) (by rw [hll]; exact hown7) hgrow7 ((own_base ho6 hz5).alloc _) HFQ.out
          have HC7 := mkHid c7
          clear z0 z1 z2 z3 bc7 hgrow7 hown7 hlt7 hat7 k0 k1 k2 k3 k4 y6 OR6 HC6 ho6 hb6 f0 f1 f2 f3 f4 y1 y1d CC HC5 HB5 HRN hCz6 c7
          generalize w7.setCell ⟨C, 1, none⟩ (.slice (some ⟨g7, 0, none⟩) (k + 1) cap7) = w8 at *
          go_wp2
          go_roundw
          case rel => exact ⟨k + 1, _, rfl, by omega, by omega, _, _, HC7.out, by rw [HT.out]; exact same.snoc (cpN_same q.nm q.v a6 c6)⟩
          case measure => simp [intOf]; omega
      · obtain rfl : k = n := by omega
        have SM := mkHid (show SameL l W.l by have := same; rw [List.take_of_length_le (by rw [HN.out]; omega)] at this; exact this)
        have wb := WB0.later c.bel
        obtain ⟨v0, v1, v2, v3, -⟩ := wb.vb
        have CC := mkHid (copied_any v wr ((HVN.out.keep c.bel).mono c.bel.size) HVS.out)
        unfold Vl.val at CC
        clear same wb
        go_wp2_with fail
        ((with_reducible refine CC.out.mono ?_)); rintro e w6 ⟨a6, c6, rfl, ho6, hb6⟩
        clear v0 v1 v2 v3 CC
        have b7 := bon hb6 (bel_alloc w6 (boxN (cpN nm v a6 c6)))
        have c7 := c.later b7
        have wb7 := WB0.later c7.bel
        have o7 : Own (w6.alloc (boxN (cpN nm v a6 c6))) W4.heap.size a6 c6 v.s := (own_base ho6 c.bel.size).alloc _
        have F5 := boxN_five w6 (cpN nm v a6 c6)
        have FC := mkHid (find_any W nm v.sort _ ((HIN.out.keep c7.bel).mono c7.bel.size))
        have hFV := mkHid (show nm.size ≤ maxLen ∧ fitB v.sort = true ∧ fitB v.n = true from ⟨hnm, HVN.out.s, HVN.out.n⟩)
        unfold Wd.val at FC
        rw [HN.out] at FC
        have hW7 : w6.alloc (.cells #[.string nm, .int .i64 v.sort, .int .i64 v.n, .bool v.b, .slice a6 v.s.length c6] 57) = w6.alloc (boxN (cpN nm v a6 c6)) := rfl
        clear c ho6 b7
        generalize w6.alloc (boxN (cpN nm v a6 c6)) = W7 at *
        obtain ⟨p0, p1⟩ := wb7.pl
        rw [HN.out] at p1
        have v0 := wb7.vb.1
        clear wb7
        go_wp2_with fail
        ((with_reducible refine FC.out.mono ?_)); rintro e w8 ⟨rfl, hb8⟩
        clear p0 p1 v0 FC hW7
        have c8 := c7.later hb8
        have wb8 := WB0.later c8.bel
        have o8 : Own w8 W4.heap.size a6 c6 v.s := own_lat o7 hb8
        have HO8 := mkHid o8
        have F8 : NdAt w8 w6.heap.size 0 (cpN nm v a6 c6) := F5.keep hb8 (World.block_lt_of_cell? _ _ F5.1)
        obtain ⟨f0, f1, f2, f3, f4⟩ := F8
        simp only [cpN, Nat.zero_add] at f0 f1 f2 f3 f4
        clear c7 o7 F5 o8 hb6 hb8
        have hX4 : W4.heap.size = w.heap.size + 1 + 1 + 1 + 1 := HX.out
        have hCge := c8.cge
        have hCX : ¬ C = w.heap.size + 1 + 1 := by omega
        have hXC : ¬ w.heap.size + 1 + 1 = C := by omega
        obtain ⟨z0, z1, z2, z3⟩ := c8.bc.cells
        obtain ⟨-, r0, r1, r2, r3, -⟩ := wb8
        have HC8 := mkHid c8
        clear c8
        by_cases hf : findN nm v.sort W.l 0 = -1
        · rw [hf]
          have HP := mkHid (putN_no (y := ⟨nm, v⟩) (l := W.l) (k := 0) hf)
          clear hf
          have OR8 : Hid (w8.ownsRow W4.heap.size 57 5 r k (nds l)) := by have := HC8.out.nr.row; rw [hll] at this; exact this
          have hz8 : W4.heap.size ≤ w8.heap.size := HC8.out.bel.size
          have hC8 : C < w8.heap.size := HC8.out.bc.lt
          have C8A := mkHid (HC8.out.later (bel_alloc w8 (.cells #[.string nm, .int .i64 v.sort, .int .i64 v.n, .bool v.b, .slice a6 v.s.length c6] 57)))
          go_wp2_with (at_builtin
                       refine wpList_append_own _ rfl (.tmp 63) (.tmp 65) _ rfl W4.heap.size 57 i0 _ 5 64 Tryz.underlying26 hi0 hz0 hz1 hz2 rfl (by omega) r k (nds l) rfl ?_ ⟨w8.heap.size, 0, none⟩ 1 1 (nd5 (cpN nm v a6 c6)) rfl rfl ?_ (nd5_one _) ?_ ?_ ?_ ?_
                       · exact OR8.out.alloc _
                       · exact cells_nd _ (cpN nm v a6 c6)
                       · simp only [maxLen]; omega
                       · omega
                       · rw [World.size_alloc]; omega
                       intro v9 w9 hown9 hg9 hv9
                       obtain ⟨g9, cap9, rfl, hg9b, hg9l⟩ := World.ownsRow.form hown9 (by omega)
                       have bc9 := C8A.out.bc.grown C8A.out.nr hg9
                       have wb9 := WB0.later (C8A.out.bel.grown hg9 C8A.out.bel.size (fun k hk => (C8A.out.nr.row.lt k hk).1))
                       obtain ⟨y0, y1, y2, y3⟩ := bc9.cells
                       obtain ⟨-, q0, q1, q2, q3, -⟩ := wb9
                       clear z0 z1 z2 z3 r0 r1 r2 r3 f0 f1 f2 f3 f4)
          have c9 := C8A.out.grown (y := cpN nm v a6 c6) (r' := .slice (some ⟨g9, 0, none⟩) (k + 1) cap9) (by rw [hll]; exact hown9) hg9 (HO8.out.alloc _) hFV.out
          have e1 : (l ++ [cpN nm v a6 c6]).length = k + 1 := by simp [hll]
          refine bodyPost_ret (v := .agg #[.int .i64 W.nodes, .slice (some ⟨g9, 0, none⟩) (k + 1) cap9]) (by simp [results, Tryz.results10, go_sem, q0, q1]) rfl ⟨⟨W.nodes, some ⟨g9, 0, none⟩, cap9, l ++ [cpN nm v a6 c6]⟩, ?_, rfl, ?_, ?_, ?_⟩
          · simp only [e1]
          · rw [HP.out]; exact SM.out.snoc (cpN_same nm v a6 c6)
          · simp only [e1]
            exact ((c9.nr.put (by simp; omega) _).put (by simp; omega) _).base (by omega)
          · exact bset (bset (bon B0 c9.bel) (by simp; omega) _) (by simp; omega) _
        · obtain ⟨i, hi, e, -⟩ := findN_some hf
          have e : findN nm v.sort W.l 0 = (i : Int) := by rw [e]; omega
          have HP := mkHid (putN_yes (y := ⟨nm, v⟩) (l := W.l) (k := 0) (j := i) (by rw [Nat.zero_add]; exact e))
          rw [e]
          have hik : i < k := by rw [← HN.out]; exact hi
          have hi2 : (i : Int) < (k : Int) := by omega
          clear hf e hi
          obtain ⟨g, cap, rfl, hgb, hgl⟩ := World.ownsRow.form HC8.out.nr.row (by omega)
          rw [hll] at HC8 z1
          obtain ⟨n0, n1, n2, n3, n4⟩ := HC8.out.nr.at_ hll i (by omega)
          have hrow := HC8.out.nr.row
          rw [hll] at hrow
          have m0 := hrow.frozenAt (i * 5)
          have m1 := hrow.frozenAt (i * 5 + 1)
          have m2 := hrow.frozenAt (i * 5 + 2)
          have m3 := hrow.frozenAt (i * 5 + 3)
          have m4 := hrow.frozenAt (i * 5 + 4)
          have hCg : ¬ C = g := by
            rintro rfl
            obtain ⟨c', hc'⟩ := own_kind hrow rfl
            have := HC8.out.bc
            unfold BoxC at this
            rw [this] at hc'
            simp at hc'
          have hgC : ¬ g = C := fun e => hCg e.symm
          have hgX : ¬ g = w.heap.size + 1 + 1 := by omega
          have hXg : ¬ w.heap.size + 1 + 1 = g := by omega
          clear hrow
          go_wp2
          have nr9 := HC8.out.nr.store hll i hik (cpN nm v a6 c6) HO8.out hFV.out
          have e1 : (l.set i (cpN nm v a6 c6)).length = k := by simp [hll]
          refine bodyPost_ret (v := .agg #[.int .i64 W.nodes, .slice (some ⟨g, 0, none⟩) k cap]) (by simp [results, Tryz.results10, go_sem, r0, r1]) rfl ⟨⟨W.nodes, some ⟨g, 0, none⟩, cap, l.set i (cpN nm v a6 c6)⟩, ?_, rfl, ?_, ?_, ?_⟩
          · simp only [e1]
          · rw [HP.out]; exact SM.out.set (cpN_same nm v a6 c6) i
          · simp only [e1]
            exact ((nr9.put (by simp; omega) _).put (by simp; omega) _).base (by omega)
          · have b8 := bon B0 HC8.out.bel
            iterate 7 refine bset ?_ (by simp; omega) _
            exact b8
end
section
open Go.RowKit Go.Shelf

theorem hit_nm {nm nm' : ByteArray} {s : Int} {x : Nd} (h : nm.toList = nm'.toList) : hitN nm s x = hitN nm' s x := by unfold hitN; rw [h]
theorem holds_same {N : Int} {v u : Vl} (h : SameV v u) : holdsV N v = holdsV N u := by
  unfold holdsV; rw [h.1, h.2.1, h.2.2.1, h.2.2.2]
theorem right_of {W V : Wd} (hn : V.nodes = W.nodes) {P : List Nd} (hs : SameL V.l P) (h0 : 1 ≤ W.nodes ∧ W.nodes ≤ 64) (hl : P.length ≤ 64) (h1 : ∀ i (hi : i < P.length), nameB P[i].nm = true ∧ holdsV W.nodes P[i].v = true) (h2 : ∀ j (hj : j < P.length) i (hi : i < j), hitN P[j].nm P[j].v.sort P[i] = false) : rightB V = true := by
  rw [right_iff]
  obtain ⟨e, hs⟩ := hs
  refine ⟨⟨by omega, by omega, by omega⟩, fun i hi => ?_, fun j hj i hi => ?_⟩
  · obtain ⟨a, b⟩ := hs i hi (by omega)
    rw [a, holds_same b, hn]
    exact h1 i (by omega)
  · obtain ⟨a, b⟩ := hs j hj (by omega)
    obtain ⟨c, d⟩ := hs i (by omega) (by omega)
    rw [a, b.1, hit_key (by rw [c]) d.1]
    exact h2 j (by omega) i hi
theorem right_put {W V : Wd} {y : Nd} (hr : rightB W = true) (hn : V.nodes = W.nodes) (hs : SameL V.l (putN y W.l)) (hl : W.l.length < 64) (hy : nameB y.nm = true) (hv : holdsV W.nodes y.v = true) : rightB V = true := by
  obtain ⟨⟨a1, a2, a3⟩, h1, h2⟩ := (right_iff W).1 hr
  by_cases hf : findN y.nm y.v.sort W.l 0 = -1
  · rw [putN_no hf] at hs
    have hno := findN_none hf
    refine right_of hn hs ⟨a1, a2⟩ (by simp; omega) (fun i hi => ?_) (fun j hj i hi => ?_)
    · by_cases hk : i < W.l.length
      · rw [List.getElem_append_left hk]; exact h1 i hk
      · have : i = W.l.length := by simp at hi; omega
        subst this
        rw [List.getElem_append_right (by omega)]
        simpa using ⟨hy, hv⟩
    · by_cases hk : j < W.l.length
      · rw [List.getElem_append_left hk, List.getElem_append_left (by omega)]
        exact h2 j hk i hi
      · have : j = W.l.length := by simp at hj; omega
        subst this
        rw [List.getElem_append_right (by omega), List.getElem_append_left hi]
        simp only [Nat.sub_self, List.getElem_cons_zero]
        have := List.find?_eq_none.1 hno W.l[i] (List.getElem_mem hi)
        simpa using this
  · obtain ⟨k, hk, e, hf'⟩ := findN_some hf
    have e : findN y.nm y.v.sort W.l 0 = ((0 + k : Nat) : Int) := by rw [e]; omega
    rw [putN_yes e] at hs
    have hit := ((findN_iff hk).1 e).1
    unfold hitN at hit
    simp only [Bool.and_eq_true, beq_iff_eq] at hit
    have key : ∀ i (hi : i < W.l.length), ((W.l.set k y)[i]'(by simpa using hi)).nm.toList = W.l[i].nm.toList ∧ ((W.l.set k y)[i]'(by simpa using hi)).v.sort = W.l[i].v.sort := by
      intro i hi
      rw [List.getElem_set]
      by_cases h : k = i
      · subst h; rw [if_pos rfl]; exact ⟨hit.2.symm, hit.1.symm⟩
      · rw [if_neg h]; exact ⟨rfl, rfl⟩
    refine right_of hn hs ⟨a1, a2⟩ (by simp; omega) (fun i hi => ?_) (fun j hj i hi => ?_)
    · have hi' : i < W.l.length := by simpa using hi
      rw [List.getElem_set]
      by_cases h : k = i
      · rw [if_pos h]; exact ⟨hy, hv⟩
      · rw [if_neg h]; exact h1 i hi'
    · have hj' : j < W.l.length := by simpa using hj
      obtain ⟨b1, b2⟩ := key j hj'
      obtain ⟨c1, c2⟩ := key i (by omega)
      rw [hit_nm b1, b2, hit_key c1 c2]
      exact h2 j hj' i hi
theorem look_put {W V : Wd} {y : Nd} (hs : SameL V.l (putN y W.l)) {nm : ByteArray} {s : Int} (h : nm.toList ≠ y.nm.toList) : SameO (look W nm s) (look V nm s) := by
  have h1 := hs.find nm s
  rw [putN_other (by unfold hitN; rw [Bool.and_eq_false_iff]; right; rw [beq_eq_false_iff_ne]; exact fun e => h e.symm)] at h1
  exact h1.symm
/-- an answer of Eval, whatever it is -/
def AnsE (so nn : Int) (bb : Bool) (l : List Bool) (k : Int) (w : World) (e : Ending) (w' : World) : Prop := ∃ a c, e = .returned (.tuple #[.agg #[.int .i64 so, .int .i64 nn, .bool bb, .slice a l.length c], .int .i64 k]) ∧ BIn w' w'.heap.size a l ∧ l.length ≤ maxLen ∧ Below w.heap.size w w'
def rSo : Except Int Vv → Int | .ok v => v.sort | .error _ => 0
def rNn : Except Int Vv → Int | .ok v => v.n | .error _ => 0
def rBb : Except Int Vv → Bool | .ok v => v.bb | .error _ => false
def rLl : Except Int Vv → List Bool | .ok v => v.l | .error _ => []
def rKk : Except Int Vv → Int | .ok _ => 0 | .error k => k
theorem ansE {r : Except Int Vv} {w : World} {e : Ending} {w' : World} (h : EvalP r w e w') : AnsE (rSo r) (rNn r) (rBb r) (rLl r) (rKk r) w e w' := by
  cases r with
  | ok v =>
    obtain ⟨a, c, he, ho, hb⟩ := h
    exact ⟨a, c, he, ho.bin, Nat.le_trans ho.cap.1 ho.cap.2, hb⟩
  | error k =>
    obtain ⟨he, hb⟩ := h
    exact ⟨none, 0, he, (fun j hj => by simp [rLl] at hj), Nat.zero_le _, hb⟩
end
section
open Go.RowKit

structure PU (W : Wd) (s : List As) (U : Wd) : Prop where
  nd : U.nodes = W.nodes
  rt : rightB U = true
  len : U.l.length ≤ W.l.length + s.length
  put : ∀ nm (k : Nat) x, gF s.reverse nm (k : Int) = some x → ev W x = lookE (look U nm (k : Int)) (projS k)
  non : ∀ nm (k : Nat), gF s.reverse nm (k : Int) = none → SameO (look W nm (k : Int)) (look U nm (k : Int))
theorem PU.start {W : Wd} (h : rightB W = true) : PU W [] W :=
  ⟨rfl, h, by simp, (fun nm k x hx => by cases hx), fun nm k _ => SameO.refl _⟩
/-- a value as one that is looked up -/
def vlV (v : Vv) : Vl := ⟨v.sort, v.n, v.bb, none, 0, v.l⟩
theorem ty_sort {W : Wd} {s : Nat} {v : Vv} (hs : 1 ≤ s ∧ s ≤ 4) (h : Ty W s v) : v.sort = (s : Int) ∧ projS s (vlV v) = v ∧ (1 ≤ W.nodes → holdsV W.nodes (vlV v) = true) := by
  have hs4 : s = 1 ∨ s = 2 ∨ s = 3 ∨ s = 4 := by omega
  rcases hs4 with rfl | rfl | rfl | rfl
  · obtain ⟨n, rfl, -⟩ := h.i
    exact ⟨rfl, rfl, fun _ => rfl⟩
  · obtain ⟨l, rfl, hl⟩ := h.s
    refine ⟨rfl, rfl, fun hn => ?_⟩
    have e : ((l.length : Nat) : Int) = W.nodes := by omega
    simp [holdsV, vlV, Vv.sort, Vv.n, Vv.bb, Vv.l, e]
  · obtain ⟨n, rfl, h1, h2⟩ := h.d
    refine ⟨rfl, rfl, fun _ => ?_⟩
    simp [holdsV, vlV, Vv.sort, Vv.n, Vv.bb, Vv.l, h1, h2]
  · obtain ⟨x, rfl⟩ := h.b
    exact ⟨rfl, rfl, fun _ => rfl⟩
theorem gF_cons {s : List As} {x : As} (he : errR x.2 = 0) : gF (x :: s).reverse = putT (gF s.reverse) x := by
  rw [List.reverse_cons, gF_snoc, if_pos he]
theorem PU.step {W U U' : Wd} {s : List As} {x : As} {vv : Vv} {v : Vl} (h : PU W s U) (hW : 1 ≤ W.nodes) (he : errR x.2 = 0) (hn : nameB x.1 = true) (hev : ev W x.2 = .ok vv) (hty : Ty W x.2.srt vv) (hv : SameV v (vlV vv)) (hl : U.l.length < 64) (hnd : U'.nodes = U.nodes) (hs : SameL U'.l (putN ⟨x.1, v⟩ U.l)) (hlen : U'.l.length ≤ U.l.length + 1) : PU W (x :: s) U' := by
  obtain ⟨-, -, hs0, hsr⟩ := errR_fine he
  obtain ⟨t1, t2, t3⟩ := ty_sort ⟨by omega, srt_le x.2⟩ hty
  have hvs : v.sort = (x.2.srt : Int) := by rw [hv.1]; exact t1
  have hho : holdsV U.nodes v = true := by rw [holds_same hv, h.nd]; exact t3 hW
  have hoth : ∀ nm (k : Nat), ¬ (nm = x.1 ∧ (k : Int) = (srtR x.2 : Int)) → SameO (look U nm (k : Int)) (look U' nm (k : Int)) := fun nm k hne => by
    have h1 := hs.find nm (k : Int)
    rw [putN_other (by
      unfold hitN
      rw [Bool.and_eq_false_iff]
      by_cases e : v.sort = (k : Int)
      · right
        rw [beq_eq_false_iff_ne]
        intro e2
        apply hne
        refine ⟨?_, by rw [← e, hvs, hsr]⟩
        rw [ByteArray.toList_eq, ByteArray.toList_eq] at e2
        exact (Go.WideShapes.bytes_inj e2).symm
      · left
        rw [beq_eq_false_iff_ne]
        exact e)] at h1
    exact h1.symm
  refine ⟨hnd.trans h.nd, right_put (y := ⟨x.1, v⟩) h.rt hnd hs hl hn hho, by have := h.len; simp only [List.length_cons]; omega, fun nm k y hy => ?_, fun nm k hy => ?_⟩
  · rw [gF_cons he] at hy
    unfold putT at hy
    split at hy
    · rename_i hh
      cases hy
      obtain ⟨rfl, hk⟩ := hh
      have hk : k = x.2.srt := by omega
      subst hk
      have h1 := hs.find x.1 (x.2.srt : Int)
      have h2 := putN_self ⟨x.1, v⟩ U.l
      rw [show (Nd.mk x.1 v).v.sort = (x.2.srt : Int) from hvs] at h2
      rw [show (Nd.mk x.1 v).nm = x.1 from rfl] at h2
      rw [h2] at h1
      unfold look
      generalize (U'.l.find? (hitN x.1 (x.2.srt : Int))).map Nd.v = o at *
      cases h1 with
      | yes hsv =>
        rw [hev]
        show _ = Except.ok _
        rw [projS_same _ (hsv.trans hv), t2]
    · rename_i hh
      rw [h.put nm k y hy]
      exact lookE_same (hoth nm k hh) (fun v u hvu => projS_same _ hvu)
  · rw [gF_cons he] at hy
    unfold putT at hy
    split at hy
    · cases hy
    · rename_i hh
      exact (h.non nm k hy).trans (hoth nm k hh)
/-- what was put has the value that the term has behind all of it -/
theorem PU.same {W U : Wd} {l : List As} {t p : Tm} (h : PU W l U) (hr : rightB W = true) (ht : errR t = 0) (hp : errR p = 0) (he : p.er = rp (gF l.reverse) t) : evalR W p = evalR U t := by
  unfold evalR
  rw [if_pos hp, if_pos ht, hr, h.rt, if_pos rfl, if_pos rfl, ← er_ev W p, he]
  exact ev_rp h.nd.symm h.put h.non t (errR_fine ht).2.2.1
theorem gE_all {l : List As} (h : ∀ x ∈ l, errR x.2 = 0) : gE l.reverse = 0 := by
  induction l with
  | nil => rfl
  | cons x l ih =>
    rw [List.reverse_cons, gE_snoc, if_pos (h x (by simp))]
    exact ih (fun y hy => h y (by simp [hy]))
/-- all of the first assignments are small -/
def allS (l : List As) : Bool := l.all (fun x => smallB x.2)
/-- what 'few' answers -/
def FewA (l : List As) (a : Option Addr) (m c : Nat) (w : World) (e : Ending) (w' : World) : Prop := e = .returned (if allS l then .tuple #[.slice a m c, .bool true] else .tuple #[.slice none 0 0, .bool false]) ∧ Below w.heap.size w w'
set_option maxRecDepth 100000 in
set_option maxHeartbeats 4000000 in
theorem fewA_any (l : List As) (a : Option Addr) (m len c : Nat) (w : World) (hm : m = min len 10) (hl : l.length = m) (hcap : len ≤ c) (hcm : c ≤ maxLen) (hr : ∀ j (h : j < l.length), ∃ b o, a = some ⟨b, o, none⟩ ∧ b < w.heap.size ∧ Five5 w b (o + j * 5) l[j]) (hli : ∀ x ∈ l, AsIn w x) (hS : Shps w) :
    Calls Tryz.prog 6 #[.slice a len c] w (FewA l a m c w) := by
  have HB0 : Hid (Below w.heap.size w w) := Below.refl _ _
  have HROW := mkHid hr
  have HLI := mkHid hli
  have HL := mkHid hl
  have HS := mkHid hS
  have hm10 : m ≤ 10 := by omega
  have hml : m ≤ len := by omega
  have hmin : min (len : Int) 10 = (m : Int) := by omega
  have hc9 : c ≤ 9223372036854775807 := by unfold maxLen at hcm; omega
  clear hr hli hl hS hm
  go_enter Tryz.func6, Tryz.ntmps6
  go_wp2
  go_loopw [4] (fun s4 w' => ∃ (k : Nat) (x : Int), s4 = .int .i64 x ∧ x = k ∧ k ≤ m ∧ Hid (∀ j (h : j < l.length), j < k → smallB l[j].2 = true) ∧ Hid (Below w.heap.size w w')) (fun s4 _ => (m - intOf s4).toNat)
  case atStart => exact ⟨0, 0, rfl, rfl, Nat.zero_le _, fun j h hj => absurd hj (by omega), HB0⟩
  case round =>
    obtain ⟨k, x, rfl, hxk, hk, HP, HB⟩ := hrel
    obtain rfl : x = (k : Int) := hxk
    by_cases hlt : k < m
    · have hk' : k < l.length := by rw [HL.out]; exact hlt
      have hlt' : (k : Int) < (m : Int) := by omega
      obtain ⟨b, o, rfl, hbl, hf⟩ := HROW.out k hk'
      have hf2 := hf.keep HB.out hbl
      have C := mkHid (small_any l[k].2 wr ((HLI.out _ (List.getElem_mem hk')).1.later HB.out) (HS.out.later HB.out))
      have HPS : Hid (smallB l[k].2 = true → ∀ j (h : j < l.length), j < k + 1 → smallB l[j].2 = true) := fun h j hj hjk => by
        by_cases e : j < k
        · exact HP.out j hj e
        · obtain rfl : j = k := by omega
          exact h
      have HNO : Hid (smallB l[k].2 = false → allS l = false) := fun h => by
        unfold allS
        rw [List.all_eq_false]
        exact ⟨l[k], List.getElem_mem _, by rw [h]; decide⟩
      clear hf hbl HP HROW HLI
      generalize l[k] = cur at *
      obtain ⟨xn, xt⟩ := cur
      simp only at C HPS HNO
      unfold Tm.val at C
      clear hk'
      obtain ⟨c0, c1, c2, c3, c4⟩ := hf2
      go_wp2_with fail
      ((with_reducible refine C.out.mono ?_)); rintro e w5 ⟨rfl, hb5⟩
      have HB5 := mkHid (bon HB.out hb5)
      clear C c0 c1 c2 c3 c4 hb5
      cases hsm : smallB xt
      · have HN2 := mkHid (HNO.out hsm)
        clear HPS HNO
        go_wp2
        go_ret2
        exact ⟨by rw [HN2.out]; rfl, HB5.out⟩
      · have HP2 := mkHid (HPS.out hsm)
        clear HPS HNO
        go_wp2
        go_roundw
        case rel => exact ⟨k + 1, _, rfl, by omega, by omega, HP2.out, HB5⟩
        case measure => simp [intOf]; omega
    · obtain rfl : k = m := by omega
      have HA : Hid (allS l = true) := by
        show _ = _
        unfold allS
        rw [List.all_eq_true]
        intro y hy
        obtain ⟨j, hj, rfl⟩ := List.mem_iff_getElem.1 hy
        exact HP.out j hj (by rw [← HL.out]; exact hj)
      clear HP HROW HLI
      go_wp2
      go_ret2
      exact ⟨by rw [HA.out]; rfl, HB.out⟩
end
section
open Go.RowKit

/-- three terms in boxes -/
structure T3 (X : Nat) (t a b : Tm) (w : World) : Prop where
  f0 : Four w X 0 t
  f1 : Four w (X + 1) 0 a
  f2 : Four w (X + 1 + 1) 0 b
  t0 : TIn w w.heap.size t
  t1 : TIn w w.heap.size a
  t2 : TIn w w.heap.size b
  sh : Shps w
theorem T3.later {X : Nat} {t a b : Tm} {w w' : World} (h : T3 X t a b w) (hb : Below w.heap.size w w') : T3 X t a b w' :=
  ⟨h.f0.later hb, h.f1.later hb, h.f2.later hb, h.t0.later hb, h.t1.later hb, h.t2.later hb, h.sh.later hb⟩
/-- the world with the three boxes -/
def t3W (t a b : Tm) (w : World) : World := ((w.alloc (boxT t)).alloc (boxT a)).alloc (boxT b)
theorem t3_facts {t a b : Tm} {w : World} (ht : TIn w w.heap.size t) (ha : TIn w w.heap.size a) (hb : TIn w w.heap.size b) (hS : Shps w) : Below w.heap.size w (t3W t a b w) ∧ T3 w.heap.size t a b (t3W t a b w) := by
  have h : Below w.heap.size w (t3W t a b w) := bal (bal (bal (Below.refl _ _) _) _) _
  refine ⟨h, ?_, ?_, ?_, ht.later h, ha.later h, hb.later h, hS.later h⟩
  · simp [t3W, Four, boxT, go_sem]
  · simp [t3W, Four, boxT, go_sem]
  · simp [t3W, Four, boxT, go_sem]
/-! what is put twice -/
def xN' : ByteArray := ⟨#[120]⟩
def yN' : ByteArray := ⟨#[121]⟩
theorem put_one {t a : Tm} (nm : ByteArray) (ht : errR t = 0) (ha : errR a = 0) : putO t [(nm, a)] = if errR (rp (gF [(nm, a)].reverse) t) ≠ 0 then (zT, errR (rp (gF [(nm, a)].reverse) t)) else (rp (gF [(nm, a)].reverse) t, 0) := putO_ok ht (gE_one nm a ha)
theorem rp_right {t : Tm} {F : ByteArray → Int → Option Tm} (ht : errR t = 0) (hF : ∀ nm (s : Nat) x, F nm (s : Int) = some x → x.srt = s) : errR (rp F t) = 0 ∨ errR (rp F t) = 7 := errR_full (by rw [rp_srt hF t (errR_fine ht).2.2.1]; exact (errR_fine ht).2.2.1)
theorem put1_srt {nm : ByteArray} {a : Tm} (ha : errR a = 0) : ∀ n (s : Nat) x, gF [(nm, a)].reverse n (s : Int) = some x → x.srt = s := fun n s x hx => by
  rw [gF_one nm a ha] at hx
  split at hx
  · rename_i h
    cases hx
    have := (errR_fine ha).2.2.2
    omega
  · cases hx
theorem twice_same {t a b g : Tm} (ha : errR a = 0) (hb : errR b = 0) (hg : errR g = 0) (sa : a.srt = 1) (sb : b.srt = 1) (hge : g.er = rp (gF [(yN', b)].reverse) a) : rp (gF [(yN', b)].reverse) (rp (gF [(xN', a)].reverse) t) = rp (gF [(xN', g), (yN', b)].reverse) t := by
  have s1 : srtR a = 1 := by rw [(errR_fine ha).2.2.2, sa]
  have s2 : srtR b = 1 := by rw [(errR_fine hb).2.2.2, sb]
  have s3 : srtR g = 1 := by
    rw [(errR_fine hg).2.2.2, ← er_srt, hge, rp_srt (put1_srt hb) a (by rw [sa]; decide), sa]
  refine rp_rp (fun nm s x hx => ?_) (fun nm s hx => ?_) t
  · rw [gF_one _ _ ha] at hx
    split at hx
    · rename_i h
      cases hx
      refine ⟨g, ?_, hge⟩
      rw [gF_two _ _ _ _ hg hb, if_pos ⟨h.1, by rw [s3, h.2, s1]⟩]
    · cases hx
  · rw [gF_one _ _ ha] at hx
    split at hx
    · cases hx
    · rename_i h
      rw [gF_two _ _ _ _ hg hb, gF_one _ _ hb, if_neg (by rw [s3]; rw [s1] at h; exact h)]
/-- rows of one assignment, and of two, as they are made -/
theorem two_row (w : World) (n1 n2 : ByteArray) (t u : Tm) : SbRow (w.alloc (.cells #[.string n1, .int .i64 t.op, .string t.nm, .int .i64 t.n, .slice t.a t.ks.length t.c, .string n2, .int .i64 u.op, .string u.nm, .int .i64 u.n, .slice u.a u.ks.length u.c] 41)).heap.size (w.alloc (.cells #[.string n1, .int .i64 t.op, .string t.nm, .int .i64 t.n, .slice t.a t.ks.length t.c, .string n2, .int .i64 u.op, .string u.nm, .int .i64 u.n, .slice u.a u.ks.length u.c] 41)) (.slice (some ⟨w.heap.size, 0, none⟩) 2 2) [(n1, t), (n2, u)] := by
  refine ⟨_, 2, rfl, fun j hj => ?_⟩
  match j, hj with
  | 0, _ => exact ⟨w.heap.size, 0, rfl, by simp, by simp [Five5, go_sem]⟩
  | 1, _ => exact ⟨w.heap.size, 0, rfl, by simp, by simp [Five5, go_sem]⟩
end
end Go.Proofs.YtdfebacjbapahaaGreatDoor
