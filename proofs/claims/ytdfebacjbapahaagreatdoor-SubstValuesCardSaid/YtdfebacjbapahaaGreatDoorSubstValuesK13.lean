/-
  What SubstValues's proof stands on, part 13: EvF.
-/
import Derived.Test.YtdfebacjbapahaaGreatDoorSubstValuesK12
import Derived.Laws.MakeOwn
import Derived.BigRegion
import Derived.Deep.RegionHeld2
namespace Go.Proofs.YtdfebacjbapahaaGreatDoor
section
open Go.RowKit

theorem own_lat {w w' : World} {base e s n : Nat} {v : Value} {xs : List Value} (h : w.ownsRow base e s v n xs) (hb : Below w.heap.size w w') : w'.ownsRow base e s v n xs := by
  refine ⟨h.1, ?_⟩
  rcases h.2 with h0 | ⟨g, cap, cur, hv, hbg, hg, hr⟩
  · exact .inl h0
  · refine .inr ⟨g, cap, cur, hv, hbg, ?_, hr⟩
    have hlt : g < w.heap.size := by
      rcases Nat.lt_or_ge g w.heap.size with h1 | h1
      · exact h1
      · rw [Array.getElem?_eq_none h1] at hg; cases hg
    rw [hb.block g hlt]; exact hg
/-- the memory of a row of so many bools -/
def rowB (n : Nat) : Obj := .cells (madeCells #[.bool false] n) 4
theorem made_any (N : Int) (h1 : 1 ≤ N) (h2 : N ≤ 64) (w : World) : (Instr.makeSlice 34 (.int .i64 N) (.int .i64 N)).run Tryz.prog w = .ok (.slice (some ⟨w.heap.size, 0, none⟩) N.toNat N.toNat) (w.alloc (rowB N.toNat)) := by
  obtain ⟨i0, hi0, hz0, hz1, hz2⟩ := bool_parts
  have := run_make (P := Tryz.prog) w 34 4 i0 _ Tryz.underlying34 hi0 hz0 .i64 .i64 N N (by omega) (by omega) (by rw [hz2]; omega) (by omega)
  rw [this, hz1, Nat.mul_one]
  rfl
theorem own_row (w : World) (base n : Nat) (hb : base ≤ w.heap.size) (hn : n ≤ 64) : (w.alloc (rowB n)).ownsRow base 4 1 (.slice (some ⟨w.heap.size, 0, none⟩) n n) n (bls (List.replicate n false)) := by
  have := World.ownsRow_lit (base := base) (e := 4) (size := 1) w (madeCells #[.bool false] n) n hb (by unfold maxLen; omega) (by rw [size_madeCells]; omega)
  rw [toList_madeCells_one] at this
  rw [show bls (List.replicate n false) = List.replicate n (.bool false) by simp [bls]]
  exact this
theorem bls_set (l : List Bool) (k : Nat) (x : Bool) : (bls l).set k (.bool x) = bls (l.set k x) := by simp [bls, List.map_set]
/-- the first k are in, the others are not -/
def allK (n k : Nat) : List Bool := List.replicate k true ++ List.replicate (n - k) false
theorem allK_len {n k : Nat} (h : k ≤ n) : (allK n k).length = n := by simp [allK]; omega
theorem allK_set {n k : Nat} (h : k < n) : (allK n k).set k true = allK n (k + 1) := by
  unfold allK
  rw [List.set_append_right _ _ (by simp), List.length_replicate, Nat.sub_self, show n - k = (n - (k + 1)) + 1 by omega, List.replicate_succ, List.set_cons_zero, List.replicate_succ', List.append_assoc]
  rfl
set_option maxRecDepth 100000 in
set_option maxHeartbeats 1000000 in
theorem all_any (W : Wd) (w : World) (h1 : 1 ≤ W.nodes) (h2 : W.nodes ≤ 64) :
    Calls Tryz.prog 62 #[W.val] w (RetS (List.replicate W.nodes.toNat true) w) := by
  have MK := made_any W.nodes h1 h2
  have hb1 := bel_alloc w (boxP W)
  obtain ⟨t0, t1⟩ := boxP_two w W
  have OW := mkHid (own_row (w.alloc (boxP W)) w.heap.size W.nodes.toNat (by simp) (by omega))
  have hX : (w.alloc (boxP W)).heap.size = w.heap.size + 1 := by simp
  have hW : w.alloc (.cells #[.int .i64 W.nodes, .slice W.a W.l.length W.c] 55) = w.alloc (boxP W) := rfl
  have hb2 := bon hb1 (bel_alloc (w.alloc (boxP W)) (rowB W.nodes.toNat))
  generalize hn : W.nodes.toNat = n at *
  have hn64 : n ≤ 64 := by omega
  have HN := mkHid hn
  clear hn
  unfold Wd.val
  generalize w.alloc (boxP W) = W1 at *
  have HX := mkHid hX
  clear hX
  go_enter Tryz.func62, Tryz.ntmps62
  go_wp2
  generalize W1.alloc (rowB n) = W2 at *
  clear MK t0 t1 hW
  go_loopw [11] (fun i w' => ∃ (k : Nat) (x : Int), i = .int .i64 x ∧ x = k ∧ k ≤ n ∧ w'.ownsRow w.heap.size 4 1 (.slice (some ⟨W1.heap.size, 0, none⟩) n n) n (bls (allK n k)) ∧ Below w.heap.size w w') (fun i _ => (n - intOf i).toNat)
  case atStart => exact ⟨0, 0, rfl, rfl, Nat.zero_le _, by simpa [allK] using OW.out, hb2⟩
  case round =>
    obtain ⟨k, x, rfl, hxk, hk, own, hb⟩ := hrel
    obtain rfl : x = (k : Int) := hxk
    by_cases hlt : k < n
    · have fz := own.frozenAt k
      have ce := own.cellAt k (by omega)
      rw [bls_get _ k (by rw [allK_len hk]; exact hlt)] at ce
      have ST := mkHid (own.stored k (.bool true)).1
      rw [bls_set, allK_set hlt] at ST
      have hg : w.heap.size ≤ W1.heap.size := by rw [HX.out]; omega
      have BS := hb.setCell (p := ⟨W1.heap.size, k, none⟩) hg (.bool true)
      clear own hg
      go_wp2
      go_roundw
      case rel => exact ⟨k + 1, _, rfl, by omega, by omega, ST.out, BS⟩
      case measure => simp [intOf]; omega
    · obtain rfl : k = n := by omega
      go_wp2
      go_ret
      refine ⟨W1.heap.size, k, by rw [List.length_replicate]; rfl, ?_, hb⟩
      unfold Own
      rw [List.length_replicate]
      simpa [allK] using own
theorem kset1 {w : World} {A B C : Nat} {o0 o1 o2 o3 o4 o5 o6 o7 o8 o9 : Nat} {v0 v1 v2 v3 v4 v5 v6 v7 v8 v9 : Value} (h : w.cell? ⟨A, o0, none⟩ = some v0 ∧ w.cell? ⟨A, o1, none⟩ = some v1 ∧ w.cell? ⟨B, o2, none⟩ = some v2 ∧ w.cell? ⟨B, o3, none⟩ = some v3 ∧ w.cell? ⟨B, o4, none⟩ = some v4 ∧ w.cell? ⟨B, o5, none⟩ = some v5 ∧ w.cell? ⟨C, o6, none⟩ = some v6 ∧ w.cell? ⟨C, o7, none⟩ = some v7 ∧ w.cell? ⟨C, o8, none⟩ = some v8 ∧ w.cell? ⟨C, o9, none⟩ = some v9) {p : Addr} (hA : A ≠ p.block) (hB : B ≠ p.block) (hC : C ≠ p.block) (u : Value) :
    (w.setCell p u).cell? ⟨A, o0, none⟩ = some v0 ∧ (w.setCell p u).cell? ⟨A, o1, none⟩ = some v1 ∧ (w.setCell p u).cell? ⟨B, o2, none⟩ = some v2 ∧ (w.setCell p u).cell? ⟨B, o3, none⟩ = some v3 ∧ (w.setCell p u).cell? ⟨B, o4, none⟩ = some v4 ∧ (w.setCell p u).cell? ⟨B, o5, none⟩ = some v5 ∧ (w.setCell p u).cell? ⟨C, o6, none⟩ = some v6 ∧ (w.setCell p u).cell? ⟨C, o7, none⟩ = some v7 ∧ (w.setCell p u).cell? ⟨C, o8, none⟩ = some v8 ∧ (w.setCell p u).cell? ⟨C, o9, none⟩ = some v9 := by
  have far : ∀ (b i : Nat) (x : Value), b ≠ p.block → w.cell? ⟨b, i, none⟩ = some x → (w.setCell p u).cell? ⟨b, i, none⟩ = some x := fun b i x hne hx => by
    rw [World.cell?_of_block (w := w) (Below.heap_setCell w p u b hne)]; exact hx
  obtain ⟨x0, x1, x2, x3, x4, x5, x6, x7, x8, x9⟩ := h
  exact ⟨far _ _ _ hA x0, far _ _ _ hA x1, far _ _ _ hB x2, far _ _ _ hB x3, far _ _ _ hB x4, far _ _ _ hB x5, far _ _ _ hC x6, far _ _ _ hC x7, far _ _ _ hC x8, far _ _ _ hC x9⟩
/-- the first k are what f makes of both -/
def mixK (f : Bool → Bool → Bool) (x y : List Bool) (k : Nat) : List Bool := (List.zipWith f x y).take k ++ x.drop k
theorem mixK_len (f : Bool → Bool → Bool) {x y : List Bool} (h : x.length = y.length) (k : Nat) : (mixK f x y k).length = x.length := by
  simp [mixK, h]; omega
theorem mixK_get (f : Bool → Bool → Bool) {x y : List Bool} (h : x.length = y.length) {k : Nat} (hk : k < x.length) : (bls (mixK f x y k))[k]? = some (.bool x[k]) := by
  rw [bls_get _ k (by rw [mixK_len f h]; exact hk)]
  congr 2
  unfold mixK
  rw [List.getElem_append_right (by simp [h]; omega)]
  simp only [List.length_take, List.length_zipWith, h, Nat.min_self, List.getElem_drop]
  congr 1
  omega
theorem mixK_set (f : Bool → Bool → Bool) {x y : List Bool} (h : x.length = y.length) {k : Nat} (hk : k < x.length) : (mixK f x y k).set k (f x[k] (y[k]'(by omega))) = mixK f x y (k + 1) := by
  unfold mixK
  have hl : ((List.zipWith f x y).take k).length = k := by simp [h]; omega
  rw [List.set_append_right _ _ (by omega), hl, Nat.sub_self, List.drop_eq_getElem_cons hk, List.set_cons_zero, List.take_succ_eq_append_getElem (by simp; omega), List.append_assoc]
  simp [List.getElem_zipWith]
set_option maxRecDepth 100000 in
set_option maxHeartbeats 4000000 in
theorem set8 (W : Wd) (t : Tm) (hop : t.op = 8) (hks : t.ks = []) (h1 : 1 ≤ W.nodes) (h2 : W.nodes ≤ 64) : CallsS W t (RetS (List.replicate W.nodes.toNat false)) := by
  intro w hW ht
  obtain ⟨op, nm, n, a, c, ks⟩ := t
  simp only [Tm.op, Tm.ks] at hop hks
  subst hop hks
  have htn := ht.nums
  simp only [Tm.op, Tm.nm, Tm.n, Tm.ks, Tm.c] at htn
  have hb2 : Below w.heap.size w ((w.alloc (boxP W)).alloc (.cells #[.int .i64 8, .string nm, .int .i64 n, .slice a 0 c] 24)) := bal (bal (Below.refl _ _) _) _
  have TP : TwoW ((w.alloc (boxP W)).alloc (.cells #[.int .i64 8, .string nm, .int .i64 n, .slice a 0 c] 24)) w.heap.size W := (boxP_two w W).later (bel_alloc _ _)
  have TT : ((w.alloc (boxP W)).alloc (.cells #[.int .i64 8, .string nm, .int .i64 n, .slice a 0 c] 24)).cell? ⟨w.heap.size + 1, 0, none⟩ = some (.int .i64 8) ∧ ((w.alloc (boxP W)).alloc (.cells #[.int .i64 8, .string nm, .int .i64 n, .slice a 0 c] 24)).cell? ⟨w.heap.size + 1, 1, none⟩ = some (.string nm) ∧ ((w.alloc (boxP W)).alloc (.cells #[.int .i64 8, .string nm, .int .i64 n, .slice a 0 c] 24)).cell? ⟨w.heap.size + 1, 2, none⟩ = some (.int .i64 n) ∧ ((w.alloc (boxP W)).alloc (.cells #[.int .i64 8, .string nm, .int .i64 n, .slice a 0 c] 24)).cell? ⟨w.heap.size + 1, 3, none⟩ = some (.slice a 0 c) := by simp [go_sem]
  have hW2 : (w.alloc (.cells #[.int .i64 W.nodes, .slice W.a W.l.length W.c] 55)).alloc (.cells #[.int .i64 8, .string nm, .int .i64 n, .slice a 0 c] 24) = (w.alloc (boxP W)).alloc (.cells #[.int .i64 8, .string nm, .int .i64 n, .slice a 0 c] 24) := rfl
  have hX2 : w.heap.size + 1 < ((w.alloc (boxP W)).alloc (.cells #[.int .i64 8, .string nm, .int .i64 n, .slice a 0 c] 24)).heap.size := by simp
  generalize (w.alloc (boxP W)).alloc (.cells #[.int .i64 8, .string nm, .int .i64 n, .slice a 0 c] 24) = W2 at *
  unfold Wd.val Tm.val
  simp only [Tm.op, Tm.nm, Tm.n, Tm.a, Tm.ks, Tm.c, List.length_nil]
  obtain ⟨t0, t1⟩ := TP
  obtain ⟨u0, u1, u2, u3⟩ := TT
  have MK := made_any W.nodes h1 h2
  have OW := own_row W2 w.heap.size W.nodes.toNat hb2.size (by omega)
  go_enter Tryz.func41, Tryz.ntmps41
  go_wp2
  go_ret
  refine ⟨W2.heap.size, W.nodes.toNat, by rw [List.length_replicate]; rfl, ?_, bal hb2 _⟩
  unfold Own
  rw [List.length_replicate]
  exact OW

set_option maxRecDepth 100000 in
set_option maxHeartbeats 4000000 in
theorem set9 (W : Wd) (t : Tm) (hop : t.op = 9) (hks : t.ks = []) (h1 : 1 ≤ W.nodes) (h2 : W.nodes ≤ 64) : CallsS W t (RetS (List.replicate W.nodes.toNat true)) := by
  intro w hW ht
  obtain ⟨op, nm, n, a, c, ks⟩ := t
  simp only [Tm.op, Tm.ks] at hop hks
  subst hop hks
  have htn := ht.nums
  simp only [Tm.op, Tm.nm, Tm.n, Tm.ks, Tm.c] at htn
  have hb2 : Below w.heap.size w ((w.alloc (boxP W)).alloc (.cells #[.int .i64 9, .string nm, .int .i64 n, .slice a 0 c] 24)) := bal (bal (Below.refl _ _) _) _
  have TP : TwoW ((w.alloc (boxP W)).alloc (.cells #[.int .i64 9, .string nm, .int .i64 n, .slice a 0 c] 24)) w.heap.size W := (boxP_two w W).later (bel_alloc _ _)
  have TT : ((w.alloc (boxP W)).alloc (.cells #[.int .i64 9, .string nm, .int .i64 n, .slice a 0 c] 24)).cell? ⟨w.heap.size + 1, 0, none⟩ = some (.int .i64 9) ∧ ((w.alloc (boxP W)).alloc (.cells #[.int .i64 9, .string nm, .int .i64 n, .slice a 0 c] 24)).cell? ⟨w.heap.size + 1, 1, none⟩ = some (.string nm) ∧ ((w.alloc (boxP W)).alloc (.cells #[.int .i64 9, .string nm, .int .i64 n, .slice a 0 c] 24)).cell? ⟨w.heap.size + 1, 2, none⟩ = some (.int .i64 n) ∧ ((w.alloc (boxP W)).alloc (.cells #[.int .i64 9, .string nm, .int .i64 n, .slice a 0 c] 24)).cell? ⟨w.heap.size + 1, 3, none⟩ = some (.slice a 0 c) := by simp [go_sem]
  have hW2 : (w.alloc (.cells #[.int .i64 W.nodes, .slice W.a W.l.length W.c] 55)).alloc (.cells #[.int .i64 9, .string nm, .int .i64 n, .slice a 0 c] 24) = (w.alloc (boxP W)).alloc (.cells #[.int .i64 9, .string nm, .int .i64 n, .slice a 0 c] 24) := rfl
  have hX2 : w.heap.size + 1 < ((w.alloc (boxP W)).alloc (.cells #[.int .i64 9, .string nm, .int .i64 n, .slice a 0 c] 24)).heap.size := by simp
  generalize (w.alloc (boxP W)).alloc (.cells #[.int .i64 9, .string nm, .int .i64 n, .slice a 0 c] 24) = W2 at *
  unfold Wd.val Tm.val
  simp only [Tm.op, Tm.nm, Tm.n, Tm.a, Tm.ks, Tm.c, List.length_nil]
  obtain ⟨t0, t1⟩ := TP
  obtain ⟨u0, u1, u2, u3⟩ := TT
  have AC := mkHid (all_any W W2 h1 h2)
  unfold Wd.val at AC
  go_enter Tryz.func41, Tryz.ntmps41
  go_wp2_with fail
  ((with_reducible refine AC.out.mono ?_)); rintro e w1 ⟨g, c1, rfl, ho, hb1⟩
  go_wp2
  go_ret
  exact ⟨g, c1, by rw [List.length_replicate]; rfl, own_base ho hb2.size, bon hb2 hb1⟩

set_option maxRecDepth 100000 in
set_option maxHeartbeats 4000000 in
theorem set10_e (W : Wd) (t : Tm) (k0 : Tm) (hop : t.op = 10) (hks : t.ks = [k0]) (h1 : 1 ≤ W.nodes) (h2 : W.nodes ≤ 64) {e0 : Int} (C0 : CallsD W k0 (PanK e0)) : CallsS W t (PanK e0) := by
  intro w hW ht
  obtain ⟨op, nm, n, a, c, ks⟩ := t
  simp only [Tm.op, Tm.ks] at hop hks
  subst hop hks
  obtain ⟨kin0, b, o, ha, hbl, kf0⟩ := ht.kid 0 (by simp [Tm.ks])
  simp only [Tm.a, Tm.ks, List.getElem_cons_zero, Nat.zero_mul, Nat.add_zero] at ha kin0 kf0
  subst ha
  have htn := ht.nums
  simp only [Tm.op, Tm.nm, Tm.n, Tm.ks, Tm.c] at htn
  have hb2 : Below w.heap.size w ((w.alloc (boxP W)).alloc (.cells #[.int .i64 10, .string nm, .int .i64 n, .slice (some ⟨b, o, none⟩) 1 c] 24)) := bal (bal (Below.refl _ _) _) _
  have TP : TwoW ((w.alloc (boxP W)).alloc (.cells #[.int .i64 10, .string nm, .int .i64 n, .slice (some ⟨b, o, none⟩) 1 c] 24)) w.heap.size W := (boxP_two w W).later (bel_alloc _ _)
  have TT : ((w.alloc (boxP W)).alloc (.cells #[.int .i64 10, .string nm, .int .i64 n, .slice (some ⟨b, o, none⟩) 1 c] 24)).cell? ⟨w.heap.size + 1, 0, none⟩ = some (.int .i64 10) ∧ ((w.alloc (boxP W)).alloc (.cells #[.int .i64 10, .string nm, .int .i64 n, .slice (some ⟨b, o, none⟩) 1 c] 24)).cell? ⟨w.heap.size + 1, 1, none⟩ = some (.string nm) ∧ ((w.alloc (boxP W)).alloc (.cells #[.int .i64 10, .string nm, .int .i64 n, .slice (some ⟨b, o, none⟩) 1 c] 24)).cell? ⟨w.heap.size + 1, 2, none⟩ = some (.int .i64 n) ∧ ((w.alloc (boxP W)).alloc (.cells #[.int .i64 10, .string nm, .int .i64 n, .slice (some ⟨b, o, none⟩) 1 c] 24)).cell? ⟨w.heap.size + 1, 3, none⟩ = some (.slice (some ⟨b, o, none⟩) 1 c) := by simp [go_sem]
  have hW2 : (w.alloc (.cells #[.int .i64 W.nodes, .slice W.a W.l.length W.c] 55)).alloc (.cells #[.int .i64 10, .string nm, .int .i64 n, .slice (some ⟨b, o, none⟩) 1 c] 24) = (w.alloc (boxP W)).alloc (.cells #[.int .i64 10, .string nm, .int .i64 n, .slice (some ⟨b, o, none⟩) 1 c] 24) := rfl
  have hX2 : w.heap.size + 1 < ((w.alloc (boxP W)).alloc (.cells #[.int .i64 10, .string nm, .int .i64 n, .slice (some ⟨b, o, none⟩) 1 c] 24)).heap.size := by simp
  generalize (w.alloc (boxP W)).alloc (.cells #[.int .i64 10, .string nm, .int .i64 n, .slice (some ⟨b, o, none⟩) 1 c] 24) = W2 at *
  have P0 := mkHid (fun (w' : World) (hb : Below W2.heap.size W2 w') => C0 w' (hW.later (bon hb2 hb)) (kin0.later (bon hb2 hb)))
  unfold Wd.val Tm.val at P0
  obtain ⟨q00, q01, q02, q03⟩ : Four W2 b o k0 := Four.keep kf0 hb2 hbl
  clear C0 kin0 kf0
  unfold Wd.val Tm.val
  simp only [Tm.op, Tm.nm, Tm.n, Tm.a, Tm.ks, Tm.c, List.length_cons, List.length_nil, Nat.zero_add]
  obtain ⟨t0, t1⟩ := TP
  obtain ⟨u0, u1, u2, u3⟩ := TT
  have MK := made_any W.nodes h1 h2
  have BR := bel_alloc W2 (rowB W.nodes.toNat)
  have OW := mkHid (own_row W2 w.heap.size W.nodes.toNat hb2.size (by omega))
  have hX3 : (W2.alloc (rowB W.nodes.toNat)).heap.size = W2.heap.size + 1 := by simp
  go_enter Tryz.func41, Tryz.ntmps41
  go_wp2_with fail
  (try dsimp only [List.append])
  generalize hW3 : W2.alloc (rowB W.nodes.toNat) = W3 at *
  clear hW3
  have t0 := cell_later BR t0
  have t1 := cell_later BR t1
  have u0 := cell_later BR u0
  have u1 := cell_later BR u1
  have u2 := cell_later BR u2
  have u3 := cell_later BR u3
  have q00 := cell_later BR q00
  have q01 := cell_later BR q01
  have q02 := cell_later BR q02
  have q03 := cell_later BR q03
  refine wp_region_held_drew (S := fun w' => w'.cell? ⟨w.heap.size, 0, none⟩ = some (.int .i64 W.nodes) ∧ w'.cell? ⟨w.heap.size, 1, none⟩ = some (.slice W.a W.l.length W.c) ∧ w'.cell? ⟨w.heap.size + 1, 0, none⟩ = some (.int .i64 10) ∧ w'.cell? ⟨w.heap.size + 1, 1, none⟩ = some (.string nm) ∧ w'.cell? ⟨w.heap.size + 1, 2, none⟩ = some (.int .i64 n) ∧ w'.cell? ⟨w.heap.size + 1, 3, none⟩ = some (.slice (some ⟨b, o, none⟩) 1 c) ∧ w'.cell? ⟨b, o, none⟩ = some (.int .i64 k0.op) ∧ w'.cell? ⟨b, o + 1, none⟩ = some (.string k0.nm) ∧ w'.cell? ⟨b, o + 2, none⟩ = some (.int .i64 k0.n) ∧ w'.cell? ⟨b, o + 3, none⟩ = some (.slice k0.a k0.ks.length k0.c)) (by kernel_rfl) ⟨t0, t1, u0, u1, u2, u3, q00, q01, q02, q03⟩ (fun hHeld => ?_)
  refine wpAnyH_take (i := 0) (v := ?_) rfl (by kernel_rfl) (by kernel_rfl) (by kernel_rfl) (fun _ _ _ h => h) (Or.inl ⟨by kernel_rfl, ?_⟩) (by assumption) ?_
  rotate_left
  · (intro w hSw; (try dsimp only at hSw); go_simp; try with_reducible rfl)
  simp only [Act.put, List.getElem_toArray, List.getElem_cons_zero, List.setIfInBounds_toArray, List.set_cons_zero, List.set_cons_succ]
  refine wpAnyH_take (i := 1) (v := ?_) rfl (by kernel_rfl) (by kernel_rfl) (by kernel_rfl) (fun _ _ _ h => h) (Or.inl ⟨by kernel_rfl, ?_⟩) (by assumption) ?_
  rotate_left
  · (intro w hSw; (try dsimp only at hSw); go_simp; try with_reducible rfl)
  simp only [Act.put, List.getElem_toArray, List.getElem_cons_succ, List.getElem_cons_zero, List.setIfInBounds_toArray, List.set_cons_zero, List.set_cons_succ]
  refine wpAnyH_take (i := 2) (v := ?_) rfl (by kernel_rfl) (by kernel_rfl) (by kernel_rfl) (fun _ _ _ h => h) (Or.inl ⟨by kernel_rfl, ?_⟩) (by assumption) ?_
  rotate_left
  · (intro w hSw; (try dsimp only at hSw); go_simp; try with_reducible rfl)
  simp only [Act.put, List.getElem_toArray, List.getElem_cons_succ, List.getElem_cons_zero, List.setIfInBounds_toArray, List.set_cons_zero, List.set_cons_succ]
  refine wpAnyH_take (i := 3) (v := ?_) rfl (by kernel_rfl) (by kernel_rfl) (by kernel_rfl) (fun _ _ _ h => h) (Or.inl ⟨by kernel_rfl, ?_⟩) (by assumption) ?_
  rotate_left
  · (intro w hSw; (try dsimp only at hSw); go_simp; try with_reducible rfl)
  simp only [Act.put, List.getElem_toArray, List.getElem_cons_succ, List.getElem_cons_zero, List.setIfInBounds_toArray, List.set_cons_zero, List.set_cons_succ]
  refine wpAnyH_take (i := 4) (v := ?_) rfl (by kernel_rfl) (by kernel_rfl) (by kernel_rfl) (fun _ _ _ h => h) (Or.inl ⟨by kernel_rfl, ?_⟩) (by assumption) ?_
  rotate_left
  · (intro w hSw; (try dsimp only at hSw); go_simp; try with_reducible rfl)
  simp only [Act.put, List.getElem_toArray, List.getElem_cons_succ, List.getElem_cons_zero, List.setIfInBounds_toArray, List.set_cons_zero, List.set_cons_succ]
  refine wpAnyH_take (i := 5) (v := ?_) rfl (by kernel_rfl) (by kernel_rfl) (by kernel_rfl) (fun _ _ _ h => h) (Or.inl ⟨by kernel_rfl, ?_⟩) (by assumption) ?_
  rotate_left
  · (intro w hSw; (try dsimp only at hSw); go_simp; try with_reducible rfl)
  simp only [Act.put, List.getElem_toArray, List.getElem_cons_succ, List.getElem_cons_zero, List.setIfInBounds_toArray, List.set_cons_zero, List.set_cons_succ]
  refine wpAnyH_ready (rs := [6]) (by kernel_rfl) (by simp) ?_
  refine AllReadyH.cons rfl (fun K hK => ?_) AllReadyH.nil
  go_simp
  go_wp2_with (go_at_call 42; ((with_reducible refine (P0.out _ (bdrew BR)).mono ?_)); rintro e w1 ⟨rfl, hb1⟩)
  exact ⟨rfl, rfl, bon (bdrew (bon hb2 BR)) hb1⟩

set_option maxRecDepth 100000 in
set_option maxHeartbeats 4000000 in
theorem set10_ok (W : Wd) (t : Tm) (k0 : Tm) (hop : t.op = 10) (hks : t.ks = [k0]) (h1 : 1 ≤ W.nodes) (h2 : W.nodes ≤ 64) {n0 : Int} (C0 : CallsD W k0 (RetI n0)) (h0 : 0 ≤ n0) (h3 : n0 < W.nodes) : CallsS W t (RetS (oneS W.nodes.toNat n0.toNat)) := by
  intro w hW ht
  obtain ⟨op, nm, n, a, c, ks⟩ := t
  simp only [Tm.op, Tm.ks] at hop hks
  subst hop hks
  obtain ⟨kin0, b, o, ha, hbl, kf0⟩ := ht.kid 0 (by simp [Tm.ks])
  simp only [Tm.a, Tm.ks, List.getElem_cons_zero, Nat.zero_mul, Nat.add_zero] at ha kin0 kf0
  subst ha
  have htn := ht.nums
  simp only [Tm.op, Tm.nm, Tm.n, Tm.ks, Tm.c] at htn
  have hb2 : Below w.heap.size w ((w.alloc (boxP W)).alloc (.cells #[.int .i64 10, .string nm, .int .i64 n, .slice (some ⟨b, o, none⟩) 1 c] 24)) := bal (bal (Below.refl _ _) _) _
  have TP : TwoW ((w.alloc (boxP W)).alloc (.cells #[.int .i64 10, .string nm, .int .i64 n, .slice (some ⟨b, o, none⟩) 1 c] 24)) w.heap.size W := (boxP_two w W).later (bel_alloc _ _)
  have TT : ((w.alloc (boxP W)).alloc (.cells #[.int .i64 10, .string nm, .int .i64 n, .slice (some ⟨b, o, none⟩) 1 c] 24)).cell? ⟨w.heap.size + 1, 0, none⟩ = some (.int .i64 10) ∧ ((w.alloc (boxP W)).alloc (.cells #[.int .i64 10, .string nm, .int .i64 n, .slice (some ⟨b, o, none⟩) 1 c] 24)).cell? ⟨w.heap.size + 1, 1, none⟩ = some (.string nm) ∧ ((w.alloc (boxP W)).alloc (.cells #[.int .i64 10, .string nm, .int .i64 n, .slice (some ⟨b, o, none⟩) 1 c] 24)).cell? ⟨w.heap.size + 1, 2, none⟩ = some (.int .i64 n) ∧ ((w.alloc (boxP W)).alloc (.cells #[.int .i64 10, .string nm, .int .i64 n, .slice (some ⟨b, o, none⟩) 1 c] 24)).cell? ⟨w.heap.size + 1, 3, none⟩ = some (.slice (some ⟨b, o, none⟩) 1 c) := by simp [go_sem]
  have hW2 : (w.alloc (.cells #[.int .i64 W.nodes, .slice W.a W.l.length W.c] 55)).alloc (.cells #[.int .i64 10, .string nm, .int .i64 n, .slice (some ⟨b, o, none⟩) 1 c] 24) = (w.alloc (boxP W)).alloc (.cells #[.int .i64 10, .string nm, .int .i64 n, .slice (some ⟨b, o, none⟩) 1 c] 24) := rfl
  have hX2 : w.heap.size + 1 < ((w.alloc (boxP W)).alloc (.cells #[.int .i64 10, .string nm, .int .i64 n, .slice (some ⟨b, o, none⟩) 1 c] 24)).heap.size := by simp
  generalize (w.alloc (boxP W)).alloc (.cells #[.int .i64 10, .string nm, .int .i64 n, .slice (some ⟨b, o, none⟩) 1 c] 24) = W2 at *
  have P0 := mkHid (fun (w' : World) (hb : Below W2.heap.size W2 w') => C0 w' (hW.later (bon hb2 hb)) (kin0.later (bon hb2 hb)))
  unfold Wd.val Tm.val at P0
  obtain ⟨q00, q01, q02, q03⟩ : Four W2 b o k0 := Four.keep kf0 hb2 hbl
  clear C0 kin0 kf0
  unfold Wd.val Tm.val
  simp only [Tm.op, Tm.nm, Tm.n, Tm.a, Tm.ks, Tm.c, List.length_cons, List.length_nil, Nat.zero_add]
  obtain ⟨t0, t1⟩ := TP
  obtain ⟨u0, u1, u2, u3⟩ := TT
  have MK := made_any W.nodes h1 h2
  have BR := bel_alloc W2 (rowB W.nodes.toNat)
  have OW := mkHid (own_row W2 w.heap.size W.nodes.toNat hb2.size (by omega))
  have hX3 : (W2.alloc (rowB W.nodes.toNat)).heap.size = W2.heap.size + 1 := by simp
  go_enter Tryz.func41, Tryz.ntmps41
  go_wp2_with fail
  (try dsimp only [List.append])
  generalize hW3 : W2.alloc (rowB W.nodes.toNat) = W3 at *
  clear hW3
  have t0 := cell_later BR t0
  have t1 := cell_later BR t1
  have u0 := cell_later BR u0
  have u1 := cell_later BR u1
  have u2 := cell_later BR u2
  have u3 := cell_later BR u3
  have q00 := cell_later BR q00
  have q01 := cell_later BR q01
  have q02 := cell_later BR q02
  have q03 := cell_later BR q03
  refine wp_region_held_drew (S := fun w' => w'.cell? ⟨w.heap.size, 0, none⟩ = some (.int .i64 W.nodes) ∧ w'.cell? ⟨w.heap.size, 1, none⟩ = some (.slice W.a W.l.length W.c) ∧ w'.cell? ⟨w.heap.size + 1, 0, none⟩ = some (.int .i64 10) ∧ w'.cell? ⟨w.heap.size + 1, 1, none⟩ = some (.string nm) ∧ w'.cell? ⟨w.heap.size + 1, 2, none⟩ = some (.int .i64 n) ∧ w'.cell? ⟨w.heap.size + 1, 3, none⟩ = some (.slice (some ⟨b, o, none⟩) 1 c) ∧ w'.cell? ⟨b, o, none⟩ = some (.int .i64 k0.op) ∧ w'.cell? ⟨b, o + 1, none⟩ = some (.string k0.nm) ∧ w'.cell? ⟨b, o + 2, none⟩ = some (.int .i64 k0.n) ∧ w'.cell? ⟨b, o + 3, none⟩ = some (.slice k0.a k0.ks.length k0.c)) (by kernel_rfl) ⟨t0, t1, u0, u1, u2, u3, q00, q01, q02, q03⟩ (fun hHeld => ?_)
  refine wpAnyH_take (i := 0) (v := ?_) rfl (by kernel_rfl) (by kernel_rfl) (by kernel_rfl) (fun _ _ _ h => h) (Or.inl ⟨by kernel_rfl, ?_⟩) (by assumption) ?_
  rotate_left
  · (intro w hSw; (try dsimp only at hSw); go_simp; try with_reducible rfl)
  simp only [Act.put, List.getElem_toArray, List.getElem_cons_zero, List.setIfInBounds_toArray, List.set_cons_zero, List.set_cons_succ]
  refine wpAnyH_take (i := 1) (v := ?_) rfl (by kernel_rfl) (by kernel_rfl) (by kernel_rfl) (fun _ _ _ h => h) (Or.inl ⟨by kernel_rfl, ?_⟩) (by assumption) ?_
  rotate_left
  · (intro w hSw; (try dsimp only at hSw); go_simp; try with_reducible rfl)
  simp only [Act.put, List.getElem_toArray, List.getElem_cons_succ, List.getElem_cons_zero, List.setIfInBounds_toArray, List.set_cons_zero, List.set_cons_succ]
  refine wpAnyH_take (i := 2) (v := ?_) rfl (by kernel_rfl) (by kernel_rfl) (by kernel_rfl) (fun _ _ _ h => h) (Or.inl ⟨by kernel_rfl, ?_⟩) (by assumption) ?_
  rotate_left
  · (intro w hSw; (try dsimp only at hSw); go_simp; try with_reducible rfl)
  simp only [Act.put, List.getElem_toArray, List.getElem_cons_succ, List.getElem_cons_zero, List.setIfInBounds_toArray, List.set_cons_zero, List.set_cons_succ]
  refine wpAnyH_take (i := 3) (v := ?_) rfl (by kernel_rfl) (by kernel_rfl) (by kernel_rfl) (fun _ _ _ h => h) (Or.inl ⟨by kernel_rfl, ?_⟩) (by assumption) ?_
  rotate_left
  · (intro w hSw; (try dsimp only at hSw); go_simp; try with_reducible rfl)
  simp only [Act.put, List.getElem_toArray, List.getElem_cons_succ, List.getElem_cons_zero, List.setIfInBounds_toArray, List.set_cons_zero, List.set_cons_succ]
  refine wpAnyH_take (i := 4) (v := ?_) rfl (by kernel_rfl) (by kernel_rfl) (by kernel_rfl) (fun _ _ _ h => h) (Or.inl ⟨by kernel_rfl, ?_⟩) (by assumption) ?_
  rotate_left
  · (intro w hSw; (try dsimp only at hSw); go_simp; try with_reducible rfl)
  simp only [Act.put, List.getElem_toArray, List.getElem_cons_succ, List.getElem_cons_zero, List.setIfInBounds_toArray, List.set_cons_zero, List.set_cons_succ]
  refine wpAnyH_take (i := 5) (v := ?_) rfl (by kernel_rfl) (by kernel_rfl) (by kernel_rfl) (fun _ _ _ h => h) (Or.inl ⟨by kernel_rfl, ?_⟩) (by assumption) ?_
  rotate_left
  · (intro w hSw; (try dsimp only at hSw); go_simp; try with_reducible rfl)
  simp only [Act.put, List.getElem_toArray, List.getElem_cons_succ, List.getElem_cons_zero, List.setIfInBounds_toArray, List.set_cons_zero, List.set_cons_succ]
  refine wpAnyH_ready (rs := [6]) (by kernel_rfl) (by simp) ?_
  refine AllReadyH.cons rfl (fun K hK => ?_) AllReadyH.nil
  go_simp
  go_wp2_with (go_at_call 42; ((with_reducible refine (P0.out _ (bdrew BR)).mono ?_)); rintro e w1 ⟨rfl, hb1⟩)
  have own1 := own_lat OW.out (bon (bdrew (Below.refl W3.heap.size W3)) hb1)
  have fz := own1.frozenAt n0.toNat
  have ce := own1.cellAt n0.toNat (by omega)
  rw [bls_get _ n0.toNat (by rw [List.length_replicate]; omega)] at ce
  have hn1 : n0 < max W.nodes 0 := by omega
  have hn2 : n0.toNat < W.nodes.toNat := by omega
  refine hK.out _ _ (keep1 (by assumption) hb1) (fun hHeld => ?_)
  clear hK
  refine wpAnyH_take (i := 7) (v := ?_) rfl (by kernel_rfl) (by kernel_rfl) (by kernel_rfl) (fun _ _ _ h => h) (Or.inl ⟨by kernel_rfl, ?_⟩) (by assumption) ?_
  rotate_left
  · (intro w hSw; (try dsimp only at hSw); go_simp; try with_reducible rfl)
  simp only [Act.put, List.getElem_toArray, List.getElem_cons_succ, List.getElem_cons_zero, List.setIfInBounds_toArray, List.set_cons_zero, List.set_cons_succ]
  refine wpAnyH_ready (rs := [8]) (by kernel_rfl) (by simp) ?_
  refine AllReadyH.cons rfl (fun K hK => ?_) AllReadyH.nil
  go_simp
  have ST := (own1.stored n0.toNat (.bool true)).1
  rw [bls_set] at ST
  have BW1 : Below w.heap.size w w1 := bon (bdrew (bon hb2 BR)) hb1
  have hs2 := hb2.size
  refine hK.out _ _ (kset1 (by assumption) (by simp <;> omega) (by simp <;> omega) (by simp <;> omega) _) (fun hHeld => ?_)
  clear hK
  refine wpAnyH_done (by kernel_rfl) ?_ _
  go_wp2
  go_ret
  refine ⟨W2.heap.size, W.nodes.toNat, by rw [oneS_len]; rfl, ?_, BW1.setCell (by simp; omega) _⟩
  unfold Own
  rw [oneS_len]
  exact ST

set_option maxRecDepth 100000 in
set_option maxHeartbeats 4000000 in
theorem set11_e0 (W : Wd) (t : Tm) (k0 k1 : Tm) (hop : t.op = 11) (hks : t.ks = [k0, k1]) {e0 : Int} {P : World → Ending → World → Prop} (C0 : CallsS W k0 (PanK e0)) (C1 : CallsS W k1 P) : CallsS W t (PanK e0) := by
  intro w hW ht
  obtain ⟨op, nm, n, a, c, ks⟩ := t
  simp only [Tm.op, Tm.ks] at hop hks
  subst hop hks
  obtain ⟨kin0, b, o, ha, hbl, kf0⟩ := ht.kid 0 (by simp [Tm.ks])
  obtain ⟨kin1, b1, o1, ha1, hbl1, kf1⟩ := ht.kid 1 (by simp [Tm.ks])
  simp only [Tm.a, Tm.ks, List.getElem_cons_zero, List.getElem_cons_succ, Nat.zero_mul, Nat.one_mul, Nat.add_zero] at ha kin0 kf0 ha1 kin1 kf1
  subst ha
  cases ha1
  have htn := ht.nums
  simp only [Tm.op, Tm.nm, Tm.n, Tm.ks, Tm.c] at htn
  have hb2 : Below w.heap.size w ((w.alloc (boxP W)).alloc (.cells #[.int .i64 11, .string nm, .int .i64 n, .slice (some ⟨b, o, none⟩) 2 c] 24)) := bal (bal (Below.refl _ _) _) _
  have TP : TwoW ((w.alloc (boxP W)).alloc (.cells #[.int .i64 11, .string nm, .int .i64 n, .slice (some ⟨b, o, none⟩) 2 c] 24)) w.heap.size W := (boxP_two w W).later (bel_alloc _ _)
  have TT : ((w.alloc (boxP W)).alloc (.cells #[.int .i64 11, .string nm, .int .i64 n, .slice (some ⟨b, o, none⟩) 2 c] 24)).cell? ⟨w.heap.size + 1, 0, none⟩ = some (.int .i64 11) ∧ ((w.alloc (boxP W)).alloc (.cells #[.int .i64 11, .string nm, .int .i64 n, .slice (some ⟨b, o, none⟩) 2 c] 24)).cell? ⟨w.heap.size + 1, 1, none⟩ = some (.string nm) ∧ ((w.alloc (boxP W)).alloc (.cells #[.int .i64 11, .string nm, .int .i64 n, .slice (some ⟨b, o, none⟩) 2 c] 24)).cell? ⟨w.heap.size + 1, 2, none⟩ = some (.int .i64 n) ∧ ((w.alloc (boxP W)).alloc (.cells #[.int .i64 11, .string nm, .int .i64 n, .slice (some ⟨b, o, none⟩) 2 c] 24)).cell? ⟨w.heap.size + 1, 3, none⟩ = some (.slice (some ⟨b, o, none⟩) 2 c) := by simp [go_sem]
  have hW2 : (w.alloc (.cells #[.int .i64 W.nodes, .slice W.a W.l.length W.c] 55)).alloc (.cells #[.int .i64 11, .string nm, .int .i64 n, .slice (some ⟨b, o, none⟩) 2 c] 24) = (w.alloc (boxP W)).alloc (.cells #[.int .i64 11, .string nm, .int .i64 n, .slice (some ⟨b, o, none⟩) 2 c] 24) := rfl
  have hX2 : w.heap.size + 1 < ((w.alloc (boxP W)).alloc (.cells #[.int .i64 11, .string nm, .int .i64 n, .slice (some ⟨b, o, none⟩) 2 c] 24)).heap.size := by simp
  generalize (w.alloc (boxP W)).alloc (.cells #[.int .i64 11, .string nm, .int .i64 n, .slice (some ⟨b, o, none⟩) 2 c] 24) = W2 at *
  have P0 := mkHid (fun (w' : World) (hb : Below W2.heap.size W2 w') => C0 w' (hW.later (bon hb2 hb)) (kin0.later (bon hb2 hb)))
  unfold Wd.val Tm.val at P0
  obtain ⟨q00, q01, q02, q03⟩ : Four W2 b o k0 := Four.keep kf0 hb2 hbl
  have P1 := mkHid (fun (w' : World) (hb : Below W2.heap.size W2 w') => C1 w' (hW.later (bon hb2 hb)) (kin1.later (bon hb2 hb)))
  unfold Wd.val Tm.val at P1
  obtain ⟨q10, q11, q12, q13⟩ : Four W2 b (o + 4) k1 := Four.keep kf1 hb2 hbl1
  clear C0 kin0 kf0 C1 kin1 kf1
  unfold Wd.val Tm.val
  simp only [Tm.op, Tm.nm, Tm.n, Tm.a, Tm.ks, Tm.c, List.length_cons, List.length_nil, Nat.zero_add, Nat.reduceAdd]
  obtain ⟨t0, t1⟩ := TP
  obtain ⟨u0, u1, u2, u3⟩ := TT
  go_enter Tryz.func41, Tryz.ntmps41
  go_wp2_with fail
  (try dsimp only [List.append])
  refine wp_region_held_drew (S := fun w' => w'.cell? ⟨w.heap.size, 0, none⟩ = some (.int .i64 W.nodes) ∧ w'.cell? ⟨w.heap.size, 1, none⟩ = some (.slice W.a W.l.length W.c) ∧ w'.cell? ⟨w.heap.size + 1, 0, none⟩ = some (.int .i64 11) ∧ w'.cell? ⟨w.heap.size + 1, 1, none⟩ = some (.string nm) ∧ w'.cell? ⟨w.heap.size + 1, 2, none⟩ = some (.int .i64 n) ∧ w'.cell? ⟨w.heap.size + 1, 3, none⟩ = some (.slice (some ⟨b, o, none⟩) 2 c) ∧ w'.cell? ⟨b, o, none⟩ = some (.int .i64 k0.op) ∧ w'.cell? ⟨b, o + 1, none⟩ = some (.string k0.nm) ∧ w'.cell? ⟨b, o + 2, none⟩ = some (.int .i64 k0.n) ∧ w'.cell? ⟨b, o + 3, none⟩ = some (.slice k0.a k0.ks.length k0.c) ∧ w'.cell? ⟨b, o + 4, none⟩ = some (.int .i64 k1.op) ∧ w'.cell? ⟨b, o + 4 + 1, none⟩ = some (.string k1.nm) ∧ w'.cell? ⟨b, o + 4 + 2, none⟩ = some (.int .i64 k1.n) ∧ w'.cell? ⟨b, o + 4 + 3, none⟩ = some (.slice k1.a k1.ks.length k1.c)) (by kernel_rfl) ⟨t0, t1, u0, u1, u2, u3, q00, q01, q02, q03, q10, q11, q12, q13⟩ (fun hHeld => ?_)
  refine wpAnyH_take (i := 0) (v := ?_) rfl (by kernel_rfl) (by kernel_rfl) (by kernel_rfl) (fun _ _ _ h => h) (Or.inl ⟨by kernel_rfl, ?_⟩) (by assumption) ?_
  rotate_left
  · (intro w hSw; (try dsimp only at hSw); go_simp; try with_reducible rfl)
  simp only [Act.put, List.getElem_toArray, List.getElem_cons_zero, List.setIfInBounds_toArray, List.set_cons_zero, List.set_cons_succ]
  refine wpAnyH_take (i := 1) (v := ?_) rfl (by kernel_rfl) (by kernel_rfl) (by kernel_rfl) (fun _ _ _ h => h) (Or.inl ⟨by kernel_rfl, ?_⟩) (by assumption) ?_
  rotate_left
  · (intro w hSw; (try dsimp only at hSw); go_simp; try with_reducible rfl)
  simp only [Act.put, List.getElem_toArray, List.getElem_cons_succ, List.getElem_cons_zero, List.setIfInBounds_toArray, List.set_cons_zero, List.set_cons_succ]
  refine wpAnyH_take (i := 2) (v := ?_) rfl (by kernel_rfl) (by kernel_rfl) (by kernel_rfl) (fun _ _ _ h => h) (Or.inl ⟨by kernel_rfl, ?_⟩) (by assumption) ?_
  rotate_left
  · (intro w hSw; (try dsimp only at hSw); go_simp; try with_reducible rfl)
  simp only [Act.put, List.getElem_toArray, List.getElem_cons_succ, List.getElem_cons_zero, List.setIfInBounds_toArray, List.set_cons_zero, List.set_cons_succ]
  refine wpAnyH_take (i := 3) (v := ?_) rfl (by kernel_rfl) (by kernel_rfl) (by kernel_rfl) (fun _ _ _ h => h) (Or.inl ⟨by kernel_rfl, ?_⟩) (by assumption) ?_
  rotate_left
  · (intro w hSw; (try dsimp only at hSw); go_simp; try with_reducible rfl)
  simp only [Act.put, List.getElem_toArray, List.getElem_cons_succ, List.getElem_cons_zero, List.setIfInBounds_toArray, List.set_cons_zero, List.set_cons_succ]
  refine wpAnyH_take (i := 4) (v := ?_) rfl (by kernel_rfl) (by kernel_rfl) (by kernel_rfl) (fun _ _ _ h => h) (Or.inl ⟨by kernel_rfl, ?_⟩) (by assumption) ?_
  rotate_left
  · (intro w hSw; (try dsimp only at hSw); go_simp; try with_reducible rfl)
  simp only [Act.put, List.getElem_toArray, List.getElem_cons_succ, List.getElem_cons_zero, List.setIfInBounds_toArray, List.set_cons_zero, List.set_cons_succ]
  refine wpAnyH_take (i := 6) (v := ?_) rfl (by kernel_rfl) (by kernel_rfl) (by kernel_rfl) (fun _ _ _ h => h) (Or.inl ⟨by kernel_rfl, ?_⟩) (by assumption) ?_
  rotate_left
  · (intro w hSw; (try dsimp only at hSw); go_simp; try with_reducible rfl)
  simp only [Act.put, List.getElem_toArray, List.getElem_cons_succ, List.getElem_cons_zero, List.setIfInBounds_toArray, List.set_cons_zero, List.set_cons_succ]
  refine wpAnyH_take (i := 7) (v := ?_) rfl (by kernel_rfl) (by kernel_rfl) (by kernel_rfl) (fun _ _ _ h => h) (Or.inl ⟨by kernel_rfl, ?_⟩) (by assumption) ?_
  rotate_left
  · (intro w hSw; (try dsimp only at hSw); go_simp; try with_reducible rfl)
  simp only [Act.put, List.getElem_toArray, List.getElem_cons_succ, List.getElem_cons_zero, List.setIfInBounds_toArray, List.set_cons_zero, List.set_cons_succ]
  refine wpAnyH_take (i := 8) (v := ?_) rfl (by kernel_rfl) (by kernel_rfl) (by kernel_rfl) (fun _ _ _ h => h) (Or.inl ⟨by kernel_rfl, ?_⟩) (by assumption) ?_
  rotate_left
  · (intro w hSw; (try dsimp only at hSw); go_simp; try with_reducible rfl)
  simp only [Act.put, List.getElem_toArray, List.getElem_cons_succ, List.getElem_cons_zero, List.setIfInBounds_toArray, List.set_cons_zero, List.set_cons_succ]
  refine wpAnyH_take (i := 9) (v := ?_) rfl (by kernel_rfl) (by kernel_rfl) (by kernel_rfl) (fun _ _ _ h => h) (Or.inl ⟨by kernel_rfl, ?_⟩) (by assumption) ?_
  rotate_left
  · (intro w hSw; (try dsimp only at hSw); go_simp; try with_reducible rfl)
  simp only [Act.put, List.getElem_toArray, List.getElem_cons_succ, List.getElem_cons_zero, List.setIfInBounds_toArray, List.set_cons_zero, List.set_cons_succ]
  refine wpAnyH_take (i := 10) (v := ?_) rfl (by kernel_rfl) (by kernel_rfl) (by kernel_rfl) (fun _ _ _ h => h) (Or.inl ⟨by kernel_rfl, ?_⟩) (by assumption) ?_
  rotate_left
  · (intro w hSw; (try dsimp only at hSw); go_simp; try with_reducible rfl)
  simp only [Act.put, List.getElem_toArray, List.getElem_cons_succ, List.getElem_cons_zero, List.setIfInBounds_toArray, List.set_cons_zero, List.set_cons_succ]
  refine wpAnyH_ready (rs := [5]) (by kernel_rfl) (by simp) ?_
  refine AllReadyH.cons rfl (fun K hK => ?_) AllReadyH.nil
  go_simp
  go_wp2_with (go_at_call 41; ((with_reducible refine (P0.out _ (bdrew (Below.refl _ _))).mono ?_)); rintro e w1 ⟨rfl, hb1⟩)
  exact ⟨rfl, rfl, bon (bdrew hb2) hb1⟩

set_option maxRecDepth 100000 in
set_option maxHeartbeats 4000000 in
theorem set11_e1 (W : Wd) (t : Tm) (k0 k1 : Tm) (hop : t.op = 11) (hks : t.ks = [k0, k1]) {l0 : List Bool} {e1 : Int} (C0 : CallsS W k0 (RetS l0)) (C1 : CallsS W k1 (PanK e1)) : CallsS W t (PanK e1) := by
  intro w hW ht
  obtain ⟨op, nm, n, a, c, ks⟩ := t
  simp only [Tm.op, Tm.ks] at hop hks
  subst hop hks
  obtain ⟨kin0, b, o, ha, hbl, kf0⟩ := ht.kid 0 (by simp [Tm.ks])
  obtain ⟨kin1, b1, o1, ha1, hbl1, kf1⟩ := ht.kid 1 (by simp [Tm.ks])
  simp only [Tm.a, Tm.ks, List.getElem_cons_zero, List.getElem_cons_succ, Nat.zero_mul, Nat.one_mul, Nat.add_zero] at ha kin0 kf0 ha1 kin1 kf1
  subst ha
  cases ha1
  have htn := ht.nums
  simp only [Tm.op, Tm.nm, Tm.n, Tm.ks, Tm.c] at htn
  have hb2 : Below w.heap.size w ((w.alloc (boxP W)).alloc (.cells #[.int .i64 11, .string nm, .int .i64 n, .slice (some ⟨b, o, none⟩) 2 c] 24)) := bal (bal (Below.refl _ _) _) _
  have TP : TwoW ((w.alloc (boxP W)).alloc (.cells #[.int .i64 11, .string nm, .int .i64 n, .slice (some ⟨b, o, none⟩) 2 c] 24)) w.heap.size W := (boxP_two w W).later (bel_alloc _ _)
  have TT : ((w.alloc (boxP W)).alloc (.cells #[.int .i64 11, .string nm, .int .i64 n, .slice (some ⟨b, o, none⟩) 2 c] 24)).cell? ⟨w.heap.size + 1, 0, none⟩ = some (.int .i64 11) ∧ ((w.alloc (boxP W)).alloc (.cells #[.int .i64 11, .string nm, .int .i64 n, .slice (some ⟨b, o, none⟩) 2 c] 24)).cell? ⟨w.heap.size + 1, 1, none⟩ = some (.string nm) ∧ ((w.alloc (boxP W)).alloc (.cells #[.int .i64 11, .string nm, .int .i64 n, .slice (some ⟨b, o, none⟩) 2 c] 24)).cell? ⟨w.heap.size + 1, 2, none⟩ = some (.int .i64 n) ∧ ((w.alloc (boxP W)).alloc (.cells #[.int .i64 11, .string nm, .int .i64 n, .slice (some ⟨b, o, none⟩) 2 c] 24)).cell? ⟨w.heap.size + 1, 3, none⟩ = some (.slice (some ⟨b, o, none⟩) 2 c) := by simp [go_sem]
  have hW2 : (w.alloc (.cells #[.int .i64 W.nodes, .slice W.a W.l.length W.c] 55)).alloc (.cells #[.int .i64 11, .string nm, .int .i64 n, .slice (some ⟨b, o, none⟩) 2 c] 24) = (w.alloc (boxP W)).alloc (.cells #[.int .i64 11, .string nm, .int .i64 n, .slice (some ⟨b, o, none⟩) 2 c] 24) := rfl
  have hX2 : w.heap.size + 1 < ((w.alloc (boxP W)).alloc (.cells #[.int .i64 11, .string nm, .int .i64 n, .slice (some ⟨b, o, none⟩) 2 c] 24)).heap.size := by simp
  generalize (w.alloc (boxP W)).alloc (.cells #[.int .i64 11, .string nm, .int .i64 n, .slice (some ⟨b, o, none⟩) 2 c] 24) = W2 at *
  have P0 := mkHid (fun (w' : World) (hb : Below W2.heap.size W2 w') => C0 w' (hW.later (bon hb2 hb)) (kin0.later (bon hb2 hb)))
  unfold Wd.val Tm.val at P0
  obtain ⟨q00, q01, q02, q03⟩ : Four W2 b o k0 := Four.keep kf0 hb2 hbl
  have P1 := mkHid (fun (w' : World) (hb : Below W2.heap.size W2 w') => C1 w' (hW.later (bon hb2 hb)) (kin1.later (bon hb2 hb)))
  unfold Wd.val Tm.val at P1
  obtain ⟨q10, q11, q12, q13⟩ : Four W2 b (o + 4) k1 := Four.keep kf1 hb2 hbl1
  clear C0 kin0 kf0 C1 kin1 kf1
  unfold Wd.val Tm.val
  simp only [Tm.op, Tm.nm, Tm.n, Tm.a, Tm.ks, Tm.c, List.length_cons, List.length_nil, Nat.zero_add, Nat.reduceAdd]
  obtain ⟨t0, t1⟩ := TP
  obtain ⟨u0, u1, u2, u3⟩ := TT
  go_enter Tryz.func41, Tryz.ntmps41
  go_wp2_with fail
  (try dsimp only [List.append])
  refine wp_region_held_drew (S := fun w' => w'.cell? ⟨w.heap.size, 0, none⟩ = some (.int .i64 W.nodes) ∧ w'.cell? ⟨w.heap.size, 1, none⟩ = some (.slice W.a W.l.length W.c) ∧ w'.cell? ⟨w.heap.size + 1, 0, none⟩ = some (.int .i64 11) ∧ w'.cell? ⟨w.heap.size + 1, 1, none⟩ = some (.string nm) ∧ w'.cell? ⟨w.heap.size + 1, 2, none⟩ = some (.int .i64 n) ∧ w'.cell? ⟨w.heap.size + 1, 3, none⟩ = some (.slice (some ⟨b, o, none⟩) 2 c) ∧ w'.cell? ⟨b, o, none⟩ = some (.int .i64 k0.op) ∧ w'.cell? ⟨b, o + 1, none⟩ = some (.string k0.nm) ∧ w'.cell? ⟨b, o + 2, none⟩ = some (.int .i64 k0.n) ∧ w'.cell? ⟨b, o + 3, none⟩ = some (.slice k0.a k0.ks.length k0.c) ∧ w'.cell? ⟨b, o + 4, none⟩ = some (.int .i64 k1.op) ∧ w'.cell? ⟨b, o + 4 + 1, none⟩ = some (.string k1.nm) ∧ w'.cell? ⟨b, o + 4 + 2, none⟩ = some (.int .i64 k1.n) ∧ w'.cell? ⟨b, o + 4 + 3, none⟩ = some (.slice k1.a k1.ks.length k1.c)) (by kernel_rfl) ⟨t0, t1, u0, u1, u2, u3, q00, q01, q02, q03, q10, q11, q12, q13⟩ (fun hHeld => ?_)
  refine wpAnyH_take (i := 0) (v := ?_) rfl (by kernel_rfl) (by kernel_rfl) (by kernel_rfl) (fun _ _ _ h => h) (Or.inl ⟨by kernel_rfl, ?_⟩) (by assumption) ?_
  rotate_left
  · (intro w hSw; (try dsimp only at hSw); go_simp; try with_reducible rfl)
  simp only [Act.put, List.getElem_toArray, List.getElem_cons_zero, List.setIfInBounds_toArray, List.set_cons_zero, List.set_cons_succ]
  refine wpAnyH_take (i := 1) (v := ?_) rfl (by kernel_rfl) (by kernel_rfl) (by kernel_rfl) (fun _ _ _ h => h) (Or.inl ⟨by kernel_rfl, ?_⟩) (by assumption) ?_
  rotate_left
  · (intro w hSw; (try dsimp only at hSw); go_simp; try with_reducible rfl)
  simp only [Act.put, List.getElem_toArray, List.getElem_cons_succ, List.getElem_cons_zero, List.setIfInBounds_toArray, List.set_cons_zero, List.set_cons_succ]
  refine wpAnyH_take (i := 2) (v := ?_) rfl (by kernel_rfl) (by kernel_rfl) (by kernel_rfl) (fun _ _ _ h => h) (Or.inl ⟨by kernel_rfl, ?_⟩) (by assumption) ?_
  rotate_left
  · (intro w hSw; (try dsimp only at hSw); go_simp; try with_reducible rfl)
  simp only [Act.put, List.getElem_toArray, List.getElem_cons_succ, List.getElem_cons_zero, List.setIfInBounds_toArray, List.set_cons_zero, List.set_cons_succ]
  refine wpAnyH_take (i := 3) (v := ?_) rfl (by kernel_rfl) (by kernel_rfl) (by kernel_rfl) (fun _ _ _ h => h) (Or.inl ⟨by kernel_rfl, ?_⟩) (by assumption) ?_
  rotate_left
  · (intro w hSw; (try dsimp only at hSw); go_simp; try with_reducible rfl)
  simp only [Act.put, List.getElem_toArray, List.getElem_cons_succ, List.getElem_cons_zero, List.setIfInBounds_toArray, List.set_cons_zero, List.set_cons_succ]
  refine wpAnyH_take (i := 4) (v := ?_) rfl (by kernel_rfl) (by kernel_rfl) (by kernel_rfl) (fun _ _ _ h => h) (Or.inl ⟨by kernel_rfl, ?_⟩) (by assumption) ?_
  rotate_left
  · (intro w hSw; (try dsimp only at hSw); go_simp; try with_reducible rfl)
  simp only [Act.put, List.getElem_toArray, List.getElem_cons_succ, List.getElem_cons_zero, List.setIfInBounds_toArray, List.set_cons_zero, List.set_cons_succ]
  refine wpAnyH_take (i := 6) (v := ?_) rfl (by kernel_rfl) (by kernel_rfl) (by kernel_rfl) (fun _ _ _ h => h) (Or.inl ⟨by kernel_rfl, ?_⟩) (by assumption) ?_
  rotate_left
  · (intro w hSw; (try dsimp only at hSw); go_simp; try with_reducible rfl)
  simp only [Act.put, List.getElem_toArray, List.getElem_cons_succ, List.getElem_cons_zero, List.setIfInBounds_toArray, List.set_cons_zero, List.set_cons_succ]
  refine wpAnyH_take (i := 7) (v := ?_) rfl (by kernel_rfl) (by kernel_rfl) (by kernel_rfl) (fun _ _ _ h => h) (Or.inl ⟨by kernel_rfl, ?_⟩) (by assumption) ?_
  rotate_left
  · (intro w hSw; (try dsimp only at hSw); go_simp; try with_reducible rfl)
  simp only [Act.put, List.getElem_toArray, List.getElem_cons_succ, List.getElem_cons_zero, List.setIfInBounds_toArray, List.set_cons_zero, List.set_cons_succ]
  refine wpAnyH_take (i := 8) (v := ?_) rfl (by kernel_rfl) (by kernel_rfl) (by kernel_rfl) (fun _ _ _ h => h) (Or.inl ⟨by kernel_rfl, ?_⟩) (by assumption) ?_
  rotate_left
  · (intro w hSw; (try dsimp only at hSw); go_simp; try with_reducible rfl)
  simp only [Act.put, List.getElem_toArray, List.getElem_cons_succ, List.getElem_cons_zero, List.setIfInBounds_toArray, List.set_cons_zero, List.set_cons_succ]
  refine wpAnyH_take (i := 9) (v := ?_) rfl (by kernel_rfl) (by kernel_rfl) (by kernel_rfl) (fun _ _ _ h => h) (Or.inl ⟨by kernel_rfl, ?_⟩) (by assumption) ?_
  rotate_left
  · (intro w hSw; (try dsimp only at hSw); go_simp; try with_reducible rfl)
  simp only [Act.put, List.getElem_toArray, List.getElem_cons_succ, List.getElem_cons_zero, List.setIfInBounds_toArray, List.set_cons_zero, List.set_cons_succ]
  refine wpAnyH_take (i := 10) (v := ?_) rfl (by kernel_rfl) (by kernel_rfl) (by kernel_rfl) (fun _ _ _ h => h) (Or.inl ⟨by kernel_rfl, ?_⟩) (by assumption) ?_
  rotate_left
  · (intro w hSw; (try dsimp only at hSw); go_simp; try with_reducible rfl)
  simp only [Act.put, List.getElem_toArray, List.getElem_cons_succ, List.getElem_cons_zero, List.setIfInBounds_toArray, List.set_cons_zero, List.set_cons_succ]
  refine wpAnyH_ready (rs := [5]) (by kernel_rfl) (by simp) ?_
  refine AllReadyH.cons rfl (fun K hK => ?_) AllReadyH.nil
  go_simp
  go_wp2_with (go_at_call 41; ((with_reducible refine (P0.out _ (bdrew (Below.refl _ _))).mono ?_)); rintro e w1 ⟨g0, c0, rfl, ho0, hb1⟩)
  have B1 := bon (bdrew (Below.refl W2.heap.size W2)) hb1
  refine hK.out _ _ (keep2 (by assumption) hb1) (fun hHeld => ?_)
  clear hK
  refine wpAnyH_ready (rs := [11]) (by kernel_rfl) (by simp) ?_
  refine AllReadyH.cons rfl (fun K hK => ?_) AllReadyH.nil
  go_simp
  go_wp2_with (go_at_call 41; ((with_reducible refine (P1.out _ B1).mono ?_)); rintro e w3 ⟨rfl, hb3⟩)
  exact ⟨rfl, rfl, bon (bon hb2 B1) hb3⟩

set_option maxRecDepth 100000 in
set_option maxHeartbeats 4000000 in
theorem set11_ok (W : Wd) (t : Tm) (k0 k1 : Tm) (hop : t.op = 11) (hks : t.ks = [k0, k1]) {l0 l1 : List Bool} (C0 : CallsS W k0 (RetS l0)) (C1 : CallsS W k1 (RetS l1)) (hp : 0 < l0.length) (h01 : l0.length = l1.length)  (h64 : l0.length ≤ 64) : CallsS W t (RetS (List.zipWith (fun a b => a || b) l0 l1)) := by
  intro w hW ht
  obtain ⟨op, nm, n, a, c, ks⟩ := t
  simp only [Tm.op, Tm.ks] at hop hks
  subst hop hks
  obtain ⟨kin0, b, o, ha, hbl, kf0⟩ := ht.kid 0 (by simp [Tm.ks])
  obtain ⟨kin1, b1, o1, ha1, hbl1, kf1⟩ := ht.kid 1 (by simp [Tm.ks])
  simp only [Tm.a, Tm.ks, List.getElem_cons_zero, List.getElem_cons_succ, Nat.zero_mul, Nat.one_mul, Nat.add_zero] at ha kin0 kf0 ha1 kin1 kf1
  subst ha
  cases ha1
  have htn := ht.nums
  simp only [Tm.op, Tm.nm, Tm.n, Tm.ks, Tm.c] at htn
  have hb2 : Below w.heap.size w ((w.alloc (boxP W)).alloc (.cells #[.int .i64 11, .string nm, .int .i64 n, .slice (some ⟨b, o, none⟩) 2 c] 24)) := bal (bal (Below.refl _ _) _) _
  have TP : TwoW ((w.alloc (boxP W)).alloc (.cells #[.int .i64 11, .string nm, .int .i64 n, .slice (some ⟨b, o, none⟩) 2 c] 24)) w.heap.size W := (boxP_two w W).later (bel_alloc _ _)
  have TT : ((w.alloc (boxP W)).alloc (.cells #[.int .i64 11, .string nm, .int .i64 n, .slice (some ⟨b, o, none⟩) 2 c] 24)).cell? ⟨w.heap.size + 1, 0, none⟩ = some (.int .i64 11) ∧ ((w.alloc (boxP W)).alloc (.cells #[.int .i64 11, .string nm, .int .i64 n, .slice (some ⟨b, o, none⟩) 2 c] 24)).cell? ⟨w.heap.size + 1, 1, none⟩ = some (.string nm) ∧ ((w.alloc (boxP W)).alloc (.cells #[.int .i64 11, .string nm, .int .i64 n, .slice (some ⟨b, o, none⟩) 2 c] 24)).cell? ⟨w.heap.size + 1, 2, none⟩ = some (.int .i64 n) ∧ ((w.alloc (boxP W)).alloc (.cells #[.int .i64 11, .string nm, .int .i64 n, .slice (some ⟨b, o, none⟩) 2 c] 24)).cell? ⟨w.heap.size + 1, 3, none⟩ = some (.slice (some ⟨b, o, none⟩) 2 c) := by simp [go_sem]
  have hW2 : (w.alloc (.cells #[.int .i64 W.nodes, .slice W.a W.l.length W.c] 55)).alloc (.cells #[.int .i64 11, .string nm, .int .i64 n, .slice (some ⟨b, o, none⟩) 2 c] 24) = (w.alloc (boxP W)).alloc (.cells #[.int .i64 11, .string nm, .int .i64 n, .slice (some ⟨b, o, none⟩) 2 c] 24) := rfl
  have hX2 : w.heap.size + 1 < ((w.alloc (boxP W)).alloc (.cells #[.int .i64 11, .string nm, .int .i64 n, .slice (some ⟨b, o, none⟩) 2 c] 24)).heap.size := by simp
  generalize (w.alloc (boxP W)).alloc (.cells #[.int .i64 11, .string nm, .int .i64 n, .slice (some ⟨b, o, none⟩) 2 c] 24) = W2 at *
  have P0 := mkHid (fun (w' : World) (hb : Below W2.heap.size W2 w') => C0 w' (hW.later (bon hb2 hb)) (kin0.later (bon hb2 hb)))
  unfold Wd.val Tm.val at P0
  obtain ⟨q00, q01, q02, q03⟩ : Four W2 b o k0 := Four.keep kf0 hb2 hbl
  have P1 := mkHid (fun (w' : World) (hb : Below W2.heap.size W2 w') => C1 w' (hW.later (bon hb2 hb)) (kin1.later (bon hb2 hb)))
  unfold Wd.val Tm.val at P1
  obtain ⟨q10, q11, q12, q13⟩ : Four W2 b (o + 4) k1 := Four.keep kf1 hb2 hbl1
  clear C0 kin0 kf0 C1 kin1 kf1
  unfold Wd.val Tm.val
  simp only [Tm.op, Tm.nm, Tm.n, Tm.a, Tm.ks, Tm.c, List.length_cons, List.length_nil, Nat.zero_add, Nat.reduceAdd]
  obtain ⟨t0, t1⟩ := TP
  obtain ⟨u0, u1, u2, u3⟩ := TT
  go_enter Tryz.func41, Tryz.ntmps41
  go_wp2_with fail
  (try dsimp only [List.append])
  refine wp_region_held_drew (S := fun w' => w'.cell? ⟨w.heap.size, 0, none⟩ = some (.int .i64 W.nodes) ∧ w'.cell? ⟨w.heap.size, 1, none⟩ = some (.slice W.a W.l.length W.c) ∧ w'.cell? ⟨w.heap.size + 1, 0, none⟩ = some (.int .i64 11) ∧ w'.cell? ⟨w.heap.size + 1, 1, none⟩ = some (.string nm) ∧ w'.cell? ⟨w.heap.size + 1, 2, none⟩ = some (.int .i64 n) ∧ w'.cell? ⟨w.heap.size + 1, 3, none⟩ = some (.slice (some ⟨b, o, none⟩) 2 c) ∧ w'.cell? ⟨b, o, none⟩ = some (.int .i64 k0.op) ∧ w'.cell? ⟨b, o + 1, none⟩ = some (.string k0.nm) ∧ w'.cell? ⟨b, o + 2, none⟩ = some (.int .i64 k0.n) ∧ w'.cell? ⟨b, o + 3, none⟩ = some (.slice k0.a k0.ks.length k0.c) ∧ w'.cell? ⟨b, o + 4, none⟩ = some (.int .i64 k1.op) ∧ w'.cell? ⟨b, o + 4 + 1, none⟩ = some (.string k1.nm) ∧ w'.cell? ⟨b, o + 4 + 2, none⟩ = some (.int .i64 k1.n) ∧ w'.cell? ⟨b, o + 4 + 3, none⟩ = some (.slice k1.a k1.ks.length k1.c)) (by kernel_rfl) ⟨t0, t1, u0, u1, u2, u3, q00, q01, q02, q03, q10, q11, q12, q13⟩ (fun hHeld => ?_)
  refine wpAnyH_take (i := 0) (v := ?_) rfl (by kernel_rfl) (by kernel_rfl) (by kernel_rfl) (fun _ _ _ h => h) (Or.inl ⟨by kernel_rfl, ?_⟩) (by assumption) ?_
  rotate_left
  · (intro w hSw; (try dsimp only at hSw); go_simp; try with_reducible rfl)
  simp only [Act.put, List.getElem_toArray, List.getElem_cons_zero, List.setIfInBounds_toArray, List.set_cons_zero, List.set_cons_succ]
  refine wpAnyH_take (i := 1) (v := ?_) rfl (by kernel_rfl) (by kernel_rfl) (by kernel_rfl) (fun _ _ _ h => h) (Or.inl ⟨by kernel_rfl, ?_⟩) (by assumption) ?_
  rotate_left
  · (intro w hSw; (try dsimp only at hSw); go_simp; try with_reducible rfl)
  simp only [Act.put, List.getElem_toArray, List.getElem_cons_succ, List.getElem_cons_zero, List.setIfInBounds_toArray, List.set_cons_zero, List.set_cons_succ]
  refine wpAnyH_take (i := 2) (v := ?_) rfl (by kernel_rfl) (by kernel_rfl) (by kernel_rfl) (fun _ _ _ h => h) (Or.inl ⟨by kernel_rfl, ?_⟩) (by assumption) ?_
  rotate_left
  · (intro w hSw; (try dsimp only at hSw); go_simp; try with_reducible rfl)
  simp only [Act.put, List.getElem_toArray, List.getElem_cons_succ, List.getElem_cons_zero, List.setIfInBounds_toArray, List.set_cons_zero, List.set_cons_succ]
  refine wpAnyH_take (i := 3) (v := ?_) rfl (by kernel_rfl) (by kernel_rfl) (by kernel_rfl) (fun _ _ _ h => h) (Or.inl ⟨by kernel_rfl, ?_⟩) (by assumption) ?_
  rotate_left
  · (intro w hSw; (try dsimp only at hSw); go_simp; try with_reducible rfl)
  simp only [Act.put, List.getElem_toArray, List.getElem_cons_succ, List.getElem_cons_zero, List.setIfInBounds_toArray, List.set_cons_zero, List.set_cons_succ]
  refine wpAnyH_take (i := 4) (v := ?_) rfl (by kernel_rfl) (by kernel_rfl) (by kernel_rfl) (fun _ _ _ h => h) (Or.inl ⟨by kernel_rfl, ?_⟩) (by assumption) ?_
  rotate_left
  · (intro w hSw; (try dsimp only at hSw); go_simp; try with_reducible rfl)
  simp only [Act.put, List.getElem_toArray, List.getElem_cons_succ, List.getElem_cons_zero, List.setIfInBounds_toArray, List.set_cons_zero, List.set_cons_succ]
  refine wpAnyH_take (i := 6) (v := ?_) rfl (by kernel_rfl) (by kernel_rfl) (by kernel_rfl) (fun _ _ _ h => h) (Or.inl ⟨by kernel_rfl, ?_⟩) (by assumption) ?_
  rotate_left
  · (intro w hSw; (try dsimp only at hSw); go_simp; try with_reducible rfl)
  simp only [Act.put, List.getElem_toArray, List.getElem_cons_succ, List.getElem_cons_zero, List.setIfInBounds_toArray, List.set_cons_zero, List.set_cons_succ]
  refine wpAnyH_take (i := 7) (v := ?_) rfl (by kernel_rfl) (by kernel_rfl) (by kernel_rfl) (fun _ _ _ h => h) (Or.inl ⟨by kernel_rfl, ?_⟩) (by assumption) ?_
  rotate_left
  · (intro w hSw; (try dsimp only at hSw); go_simp; try with_reducible rfl)
  simp only [Act.put, List.getElem_toArray, List.getElem_cons_succ, List.getElem_cons_zero, List.setIfInBounds_toArray, List.set_cons_zero, List.set_cons_succ]
  refine wpAnyH_take (i := 8) (v := ?_) rfl (by kernel_rfl) (by kernel_rfl) (by kernel_rfl) (fun _ _ _ h => h) (Or.inl ⟨by kernel_rfl, ?_⟩) (by assumption) ?_
  rotate_left
  · (intro w hSw; (try dsimp only at hSw); go_simp; try with_reducible rfl)
  simp only [Act.put, List.getElem_toArray, List.getElem_cons_succ, List.getElem_cons_zero, List.setIfInBounds_toArray, List.set_cons_zero, List.set_cons_succ]
  refine wpAnyH_take (i := 9) (v := ?_) rfl (by kernel_rfl) (by kernel_rfl) (by kernel_rfl) (fun _ _ _ h => h) (Or.inl ⟨by kernel_rfl, ?_⟩) (by assumption) ?_
  rotate_left
  · (intro w hSw; (try dsimp only at hSw); go_simp; try with_reducible rfl)
  simp only [Act.put, List.getElem_toArray, List.getElem_cons_succ, List.getElem_cons_zero, List.setIfInBounds_toArray, List.set_cons_zero, List.set_cons_succ]
  refine wpAnyH_take (i := 10) (v := ?_) rfl (by kernel_rfl) (by kernel_rfl) (by kernel_rfl) (fun _ _ _ h => h) (Or.inl ⟨by kernel_rfl, ?_⟩) (by assumption) ?_
  rotate_left
  · (intro w hSw; (try dsimp only at hSw); go_simp; try with_reducible rfl)
  simp only [Act.put, List.getElem_toArray, List.getElem_cons_succ, List.getElem_cons_zero, List.setIfInBounds_toArray, List.set_cons_zero, List.set_cons_succ]
  refine wpAnyH_ready (rs := [5]) (by kernel_rfl) (by simp) ?_
  refine AllReadyH.cons rfl (fun K hK => ?_) AllReadyH.nil
  go_simp
  go_wp2_with (go_at_call 41; ((with_reducible refine (P0.out _ (bdrew (Below.refl _ _))).mono ?_)); rintro e w1 ⟨g0, c0, rfl, ho0, hb1⟩)
  have B1 := bon (bdrew (Below.refl W2.heap.size W2)) hb1
  refine hK.out _ _ (keep2 (by assumption) hb1) (fun hHeld => ?_)
  clear hK
  refine wpAnyH_ready (rs := [11]) (by kernel_rfl) (by simp) ?_
  refine AllReadyH.cons rfl (fun K hK => ?_) AllReadyH.nil
  go_simp
  go_wp2_with (go_at_call 41; ((with_reducible refine (P1.out _ B1).mono ?_)); rintro e w3 ⟨g1, c1, rfl, ho1, hb3⟩)
  refine hK.out _ _ (keep2 (by assumption) hb3) (fun hHeld => ?_)
  clear hK
  refine wpAnyH_take (i := 12) (v := ?_) rfl (by kernel_rfl) (by kernel_rfl) (by kernel_rfl) (fun _ _ _ h => h) (Or.inl ⟨by kernel_rfl, ?_⟩) (by assumption) ?_
  rotate_left
  · (intro w hSw; (try dsimp only at hSw); go_simp; try with_reducible rfl)
  simp only [Act.put, List.getElem_toArray, List.getElem_cons_succ, List.getElem_cons_zero, List.setIfInBounds_toArray, List.set_cons_zero, List.set_cons_succ]
  refine wpAnyH_take (i := 13) (v := ?_) rfl (by kernel_rfl) (by kernel_rfl) (by kernel_rfl) (fun _ _ _ h => h) (Or.inl ⟨by kernel_rfl, ?_⟩) (by assumption) ?_
  rotate_left
  · (intro w hSw; (try dsimp only at hSw); go_simp; try with_reducible rfl)
  simp only [Act.put, List.getElem_toArray, List.getElem_cons_succ, List.getElem_cons_zero, List.setIfInBounds_toArray, List.set_cons_zero, List.set_cons_succ]
  refine wpAnyH_done (by kernel_rfl) ?_ _
  have BW := bon (bon hb2 B1) hb3
  have own0 := own_base (own_lat ho0 hb3) (base' := w.heap.size) hb2.size
  have bin1 := Own.bin ho1
  have hg1 := (Own.some ho1 (by omega))
  have hg0 := (Own.some ho0 (by omega))
  obtain ⟨g0', e, hg0a, hg0b⟩ := hg0
  cases e
  obtain ⟨g1', e, hg1a, hg1b⟩ := hg1
  cases e
  have hu0 : w3.cell? ⟨w.heap.size + 1, 0, none⟩ = some (.int .i64 11) := hHeld.2.2.1
  have ow0 : w3.ownsRow w.heap.size 4 1 (.slice (some ⟨g0, 0, none⟩) l0.length c0) l0.length (bls (mixK (fun a b => a || b) l0 l1 0)) := own0
  have hne1 : g1 ≠ g0 := by omega
  have hne2 : w.heap.size + 1 ≠ g0 := by have h : W2.heap.size ≤ g0 := hg0a; omega
  have hw0 : w.heap.size ≤ g0 := by have h : W2.heap.size ≤ g0 := hg0a; omega
  clear hHeld own0 ho0 ho1 hg0a hg0b hg1a hg1b hb1 hb3 P0 P1 t0 t1 u0 u1 u2 u3 q00 q01 q02 q03 q10 q11 q12 q13 hW2 B1
  have HB := mkHid bin1
  clear bin1
  have H01 := mkHid h01
  generalize hn : l0.length = m at *
  generalize hn1 : l1.length = m1 at *
  have HN := mkHid hn
  have HN1 := mkHid hn1
  have hmm : m = m1 := H01.out
  subst hmm
  clear hn hn1 h01
  go_wp2
  go_loopw [57] (fun i w' => ∃ (k : Nat) (x : Int), i = .int .i64 x ∧ x = k ∧ k ≤ m ∧ But g0 w3 w' ∧ w'.ownsRow w.heap.size 4 1 (.slice (some ⟨g0, 0, none⟩) m c0) m (bls (mixK (fun a b => a || b) l0 l1 k))) (fun i _ => (m - intOf i).toNat)
  case atStart => exact ⟨0, 0, rfl, rfl, Nat.zero_le _, But.refl _ _, ow0⟩
  case round =>
    obtain ⟨k, x, rfl, hxk, hk, bt, own⟩ := hrel
    obtain rfl : x = (k : Int) := hxk
    have v0 := bt.cell hu0 hne2
    by_cases hlt : k < m
    · have hk0 : k < l0.length := by rw [HN.out]; exact hlt
      have hk1 : k < l1.length := by rw [HN1.out]; exact hlt
      have fz := own.frozenAt k
      have ce := own.cellAt k (by omega)
      rw [mixK_get _ (HN.out.trans HN1.out.symm) hk0] at ce
      obtain ⟨b', o', e, -, cb⟩ := HB.out k hk1
      cases e
      rw [Nat.zero_add] at cb
      have cb' := bt.cell cb hne1
      have ST := mkHid (own.stored k (.bool ((fun a b => a || b) l0[k] l1[k]))).1
      rw [bls_set, mixK_set (fun a b => a || b) (HN.out.trans HN1.out.symm) hk0] at ST
      have BS := bt.set (p := ⟨g0, k, none⟩) (.inl rfl) (.bool ((fun a b => a || b) l0[k] l1[k]))
      clear cb own
      generalize l0[k] = xk at *
      generalize l1[k] = yk at *
      cases xk <;> cases yk
      all_goals
        go_wp2
        go_roundw
        case rel => exact ⟨k + 1, _, rfl, by omega, by omega, BS, ST.out⟩
        case measure => simp [intOf]; omega
    · obtain rfl : k = m := by omega
      go_wp2
      go_ret
      refine ⟨g0, c0, ?_, ?_, ?_⟩
      · rw [List.length_zipWith, HN.out, HN1.out, Nat.min_self]; rfl
      · unfold Own
        rw [List.length_zipWith, HN.out, HN1.out, Nat.min_self]
        have e : mixK (fun a b => a || b) l0 l1 k = List.zipWith (fun a b => a || b) l0 l1 := by
          unfold mixK
          rw [List.take_of_length_le (by rw [List.length_zipWith, HN.out, HN1.out, Nat.min_self]; omega), List.drop_eq_nil_of_le (by rw [HN.out]; omega), List.append_nil]
        rw [e] at own
        exact own
      · exact BW.trans (bt.below hw0 BW.size)

set_option maxRecDepth 100000 in
set_option maxHeartbeats 4000000 in
theorem set12_e0 (W : Wd) (t : Tm) (k0 k1 : Tm) (hop : t.op = 12) (hks : t.ks = [k0, k1]) {e0 : Int} {P : World → Ending → World → Prop} (C0 : CallsS W k0 (PanK e0)) (C1 : CallsS W k1 P) : CallsS W t (PanK e0) := by
  intro w hW ht
  obtain ⟨op, nm, n, a, c, ks⟩ := t
  simp only [Tm.op, Tm.ks] at hop hks
  subst hop hks
  obtain ⟨kin0, b, o, ha, hbl, kf0⟩ := ht.kid 0 (by simp [Tm.ks])
  obtain ⟨kin1, b1, o1, ha1, hbl1, kf1⟩ := ht.kid 1 (by simp [Tm.ks])
  simp only [Tm.a, Tm.ks, List.getElem_cons_zero, List.getElem_cons_succ, Nat.zero_mul, Nat.one_mul, Nat.add_zero] at ha kin0 kf0 ha1 kin1 kf1
  subst ha
  cases ha1
  have htn := ht.nums
  simp only [Tm.op, Tm.nm, Tm.n, Tm.ks, Tm.c] at htn
  have hb2 : Below w.heap.size w ((w.alloc (boxP W)).alloc (.cells #[.int .i64 12, .string nm, .int .i64 n, .slice (some ⟨b, o, none⟩) 2 c] 24)) := bal (bal (Below.refl _ _) _) _
  have TP : TwoW ((w.alloc (boxP W)).alloc (.cells #[.int .i64 12, .string nm, .int .i64 n, .slice (some ⟨b, o, none⟩) 2 c] 24)) w.heap.size W := (boxP_two w W).later (bel_alloc _ _)
  have TT : ((w.alloc (boxP W)).alloc (.cells #[.int .i64 12, .string nm, .int .i64 n, .slice (some ⟨b, o, none⟩) 2 c] 24)).cell? ⟨w.heap.size + 1, 0, none⟩ = some (.int .i64 12) ∧ ((w.alloc (boxP W)).alloc (.cells #[.int .i64 12, .string nm, .int .i64 n, .slice (some ⟨b, o, none⟩) 2 c] 24)).cell? ⟨w.heap.size + 1, 1, none⟩ = some (.string nm) ∧ ((w.alloc (boxP W)).alloc (.cells #[.int .i64 12, .string nm, .int .i64 n, .slice (some ⟨b, o, none⟩) 2 c] 24)).cell? ⟨w.heap.size + 1, 2, none⟩ = some (.int .i64 n) ∧ ((w.alloc (boxP W)).alloc (.cells #[.int .i64 12, .string nm, .int .i64 n, .slice (some ⟨b, o, none⟩) 2 c] 24)).cell? ⟨w.heap.size + 1, 3, none⟩ = some (.slice (some ⟨b, o, none⟩) 2 c) := by simp [go_sem]
  have hW2 : (w.alloc (.cells #[.int .i64 W.nodes, .slice W.a W.l.length W.c] 55)).alloc (.cells #[.int .i64 12, .string nm, .int .i64 n, .slice (some ⟨b, o, none⟩) 2 c] 24) = (w.alloc (boxP W)).alloc (.cells #[.int .i64 12, .string nm, .int .i64 n, .slice (some ⟨b, o, none⟩) 2 c] 24) := rfl
  have hX2 : w.heap.size + 1 < ((w.alloc (boxP W)).alloc (.cells #[.int .i64 12, .string nm, .int .i64 n, .slice (some ⟨b, o, none⟩) 2 c] 24)).heap.size := by simp
  generalize (w.alloc (boxP W)).alloc (.cells #[.int .i64 12, .string nm, .int .i64 n, .slice (some ⟨b, o, none⟩) 2 c] 24) = W2 at *
  have P0 := mkHid (fun (w' : World) (hb : Below W2.heap.size W2 w') => C0 w' (hW.later (bon hb2 hb)) (kin0.later (bon hb2 hb)))
  unfold Wd.val Tm.val at P0
  obtain ⟨q00, q01, q02, q03⟩ : Four W2 b o k0 := Four.keep kf0 hb2 hbl
  have P1 := mkHid (fun (w' : World) (hb : Below W2.heap.size W2 w') => C1 w' (hW.later (bon hb2 hb)) (kin1.later (bon hb2 hb)))
  unfold Wd.val Tm.val at P1
  obtain ⟨q10, q11, q12, q13⟩ : Four W2 b (o + 4) k1 := Four.keep kf1 hb2 hbl1
  clear C0 kin0 kf0 C1 kin1 kf1
  unfold Wd.val Tm.val
  simp only [Tm.op, Tm.nm, Tm.n, Tm.a, Tm.ks, Tm.c, List.length_cons, List.length_nil, Nat.zero_add, Nat.reduceAdd]
  obtain ⟨t0, t1⟩ := TP
  obtain ⟨u0, u1, u2, u3⟩ := TT
  go_enter Tryz.func41, Tryz.ntmps41
  go_wp2_with fail
  (try dsimp only [List.append])
  refine wp_region_held_drew (S := fun w' => w'.cell? ⟨w.heap.size, 0, none⟩ = some (.int .i64 W.nodes) ∧ w'.cell? ⟨w.heap.size, 1, none⟩ = some (.slice W.a W.l.length W.c) ∧ w'.cell? ⟨w.heap.size + 1, 0, none⟩ = some (.int .i64 12) ∧ w'.cell? ⟨w.heap.size + 1, 1, none⟩ = some (.string nm) ∧ w'.cell? ⟨w.heap.size + 1, 2, none⟩ = some (.int .i64 n) ∧ w'.cell? ⟨w.heap.size + 1, 3, none⟩ = some (.slice (some ⟨b, o, none⟩) 2 c) ∧ w'.cell? ⟨b, o, none⟩ = some (.int .i64 k0.op) ∧ w'.cell? ⟨b, o + 1, none⟩ = some (.string k0.nm) ∧ w'.cell? ⟨b, o + 2, none⟩ = some (.int .i64 k0.n) ∧ w'.cell? ⟨b, o + 3, none⟩ = some (.slice k0.a k0.ks.length k0.c) ∧ w'.cell? ⟨b, o + 4, none⟩ = some (.int .i64 k1.op) ∧ w'.cell? ⟨b, o + 4 + 1, none⟩ = some (.string k1.nm) ∧ w'.cell? ⟨b, o + 4 + 2, none⟩ = some (.int .i64 k1.n) ∧ w'.cell? ⟨b, o + 4 + 3, none⟩ = some (.slice k1.a k1.ks.length k1.c)) (by kernel_rfl) ⟨t0, t1, u0, u1, u2, u3, q00, q01, q02, q03, q10, q11, q12, q13⟩ (fun hHeld => ?_)
  refine wpAnyH_take (i := 0) (v := ?_) rfl (by kernel_rfl) (by kernel_rfl) (by kernel_rfl) (fun _ _ _ h => h) (Or.inl ⟨by kernel_rfl, ?_⟩) (by assumption) ?_
  rotate_left
  · (intro w hSw; (try dsimp only at hSw); go_simp; try with_reducible rfl)
  simp only [Act.put, List.getElem_toArray, List.getElem_cons_zero, List.setIfInBounds_toArray, List.set_cons_zero, List.set_cons_succ]
  refine wpAnyH_take (i := 1) (v := ?_) rfl (by kernel_rfl) (by kernel_rfl) (by kernel_rfl) (fun _ _ _ h => h) (Or.inl ⟨by kernel_rfl, ?_⟩) (by assumption) ?_
  rotate_left
  · (intro w hSw; (try dsimp only at hSw); go_simp; try with_reducible rfl)
  simp only [Act.put, List.getElem_toArray, List.getElem_cons_succ, List.getElem_cons_zero, List.setIfInBounds_toArray, List.set_cons_zero, List.set_cons_succ]
  refine wpAnyH_take (i := 2) (v := ?_) rfl (by kernel_rfl) (by kernel_rfl) (by kernel_rfl) (fun _ _ _ h => h) (Or.inl ⟨by kernel_rfl, ?_⟩) (by assumption) ?_
  rotate_left
  · (intro w hSw; (try dsimp only at hSw); go_simp; try with_reducible rfl)
  simp only [Act.put, List.getElem_toArray, List.getElem_cons_succ, List.getElem_cons_zero, List.setIfInBounds_toArray, List.set_cons_zero, List.set_cons_succ]
  refine wpAnyH_take (i := 3) (v := ?_) rfl (by kernel_rfl) (by kernel_rfl) (by kernel_rfl) (fun _ _ _ h => h) (Or.inl ⟨by kernel_rfl, ?_⟩) (by assumption) ?_
  rotate_left
  · (intro w hSw; (try dsimp only at hSw); go_simp; try with_reducible rfl)
  simp only [Act.put, List.getElem_toArray, List.getElem_cons_succ, List.getElem_cons_zero, List.setIfInBounds_toArray, List.set_cons_zero, List.set_cons_succ]
  refine wpAnyH_take (i := 4) (v := ?_) rfl (by kernel_rfl) (by kernel_rfl) (by kernel_rfl) (fun _ _ _ h => h) (Or.inl ⟨by kernel_rfl, ?_⟩) (by assumption) ?_
  rotate_left
  · (intro w hSw; (try dsimp only at hSw); go_simp; try with_reducible rfl)
  simp only [Act.put, List.getElem_toArray, List.getElem_cons_succ, List.getElem_cons_zero, List.setIfInBounds_toArray, List.set_cons_zero, List.set_cons_succ]
  refine wpAnyH_take (i := 6) (v := ?_) rfl (by kernel_rfl) (by kernel_rfl) (by kernel_rfl) (fun _ _ _ h => h) (Or.inl ⟨by kernel_rfl, ?_⟩) (by assumption) ?_
  rotate_left
  · (intro w hSw; (try dsimp only at hSw); go_simp; try with_reducible rfl)
  simp only [Act.put, List.getElem_toArray, List.getElem_cons_succ, List.getElem_cons_zero, List.setIfInBounds_toArray, List.set_cons_zero, List.set_cons_succ]
  refine wpAnyH_take (i := 7) (v := ?_) rfl (by kernel_rfl) (by kernel_rfl) (by kernel_rfl) (fun _ _ _ h => h) (Or.inl ⟨by kernel_rfl, ?_⟩) (by assumption) ?_
  rotate_left
  · (intro w hSw; (try dsimp only at hSw); go_simp; try with_reducible rfl)
  simp only [Act.put, List.getElem_toArray, List.getElem_cons_succ, List.getElem_cons_zero, List.setIfInBounds_toArray, List.set_cons_zero, List.set_cons_succ]
  refine wpAnyH_take (i := 8) (v := ?_) rfl (by kernel_rfl) (by kernel_rfl) (by kernel_rfl) (fun _ _ _ h => h) (Or.inl ⟨by kernel_rfl, ?_⟩) (by assumption) ?_
  rotate_left
  · (intro w hSw; (try dsimp only at hSw); go_simp; try with_reducible rfl)
  simp only [Act.put, List.getElem_toArray, List.getElem_cons_succ, List.getElem_cons_zero, List.setIfInBounds_toArray, List.set_cons_zero, List.set_cons_succ]
  refine wpAnyH_take (i := 9) (v := ?_) rfl (by kernel_rfl) (by kernel_rfl) (by kernel_rfl) (fun _ _ _ h => h) (Or.inl ⟨by kernel_rfl, ?_⟩) (by assumption) ?_
  rotate_left
  · (intro w hSw; (try dsimp only at hSw); go_simp; try with_reducible rfl)
  simp only [Act.put, List.getElem_toArray, List.getElem_cons_succ, List.getElem_cons_zero, List.setIfInBounds_toArray, List.set_cons_zero, List.set_cons_succ]
  refine wpAnyH_take (i := 10) (v := ?_) rfl (by kernel_rfl) (by kernel_rfl) (by kernel_rfl) (fun _ _ _ h => h) (Or.inl ⟨by kernel_rfl, ?_⟩) (by assumption) ?_
  rotate_left
  · (intro w hSw; (try dsimp only at hSw); go_simp; try with_reducible rfl)
  simp only [Act.put, List.getElem_toArray, List.getElem_cons_succ, List.getElem_cons_zero, List.setIfInBounds_toArray, List.set_cons_zero, List.set_cons_succ]
  refine wpAnyH_ready (rs := [5]) (by kernel_rfl) (by simp) ?_
  refine AllReadyH.cons rfl (fun K hK => ?_) AllReadyH.nil
  go_simp
  go_wp2_with (go_at_call 41; ((with_reducible refine (P0.out _ (bdrew (Below.refl _ _))).mono ?_)); rintro e w1 ⟨rfl, hb1⟩)
  exact ⟨rfl, rfl, bon (bdrew hb2) hb1⟩

set_option maxRecDepth 100000 in
set_option maxHeartbeats 4000000 in
theorem set12_e1 (W : Wd) (t : Tm) (k0 k1 : Tm) (hop : t.op = 12) (hks : t.ks = [k0, k1]) {l0 : List Bool} {e1 : Int} (C0 : CallsS W k0 (RetS l0)) (C1 : CallsS W k1 (PanK e1)) : CallsS W t (PanK e1) := by
  intro w hW ht
  obtain ⟨op, nm, n, a, c, ks⟩ := t
  simp only [Tm.op, Tm.ks] at hop hks
  subst hop hks
  obtain ⟨kin0, b, o, ha, hbl, kf0⟩ := ht.kid 0 (by simp [Tm.ks])
  obtain ⟨kin1, b1, o1, ha1, hbl1, kf1⟩ := ht.kid 1 (by simp [Tm.ks])
  simp only [Tm.a, Tm.ks, List.getElem_cons_zero, List.getElem_cons_succ, Nat.zero_mul, Nat.one_mul, Nat.add_zero] at ha kin0 kf0 ha1 kin1 kf1
  subst ha
  cases ha1
  have htn := ht.nums
  simp only [Tm.op, Tm.nm, Tm.n, Tm.ks, Tm.c] at htn
  have hb2 : Below w.heap.size w ((w.alloc (boxP W)).alloc (.cells #[.int .i64 12, .string nm, .int .i64 n, .slice (some ⟨b, o, none⟩) 2 c] 24)) := bal (bal (Below.refl _ _) _) _
  have TP : TwoW ((w.alloc (boxP W)).alloc (.cells #[.int .i64 12, .string nm, .int .i64 n, .slice (some ⟨b, o, none⟩) 2 c] 24)) w.heap.size W := (boxP_two w W).later (bel_alloc _ _)
  have TT : ((w.alloc (boxP W)).alloc (.cells #[.int .i64 12, .string nm, .int .i64 n, .slice (some ⟨b, o, none⟩) 2 c] 24)).cell? ⟨w.heap.size + 1, 0, none⟩ = some (.int .i64 12) ∧ ((w.alloc (boxP W)).alloc (.cells #[.int .i64 12, .string nm, .int .i64 n, .slice (some ⟨b, o, none⟩) 2 c] 24)).cell? ⟨w.heap.size + 1, 1, none⟩ = some (.string nm) ∧ ((w.alloc (boxP W)).alloc (.cells #[.int .i64 12, .string nm, .int .i64 n, .slice (some ⟨b, o, none⟩) 2 c] 24)).cell? ⟨w.heap.size + 1, 2, none⟩ = some (.int .i64 n) ∧ ((w.alloc (boxP W)).alloc (.cells #[.int .i64 12, .string nm, .int .i64 n, .slice (some ⟨b, o, none⟩) 2 c] 24)).cell? ⟨w.heap.size + 1, 3, none⟩ = some (.slice (some ⟨b, o, none⟩) 2 c) := by simp [go_sem]
  have hW2 : (w.alloc (.cells #[.int .i64 W.nodes, .slice W.a W.l.length W.c] 55)).alloc (.cells #[.int .i64 12, .string nm, .int .i64 n, .slice (some ⟨b, o, none⟩) 2 c] 24) = (w.alloc (boxP W)).alloc (.cells #[.int .i64 12, .string nm, .int .i64 n, .slice (some ⟨b, o, none⟩) 2 c] 24) := rfl
  have hX2 : w.heap.size + 1 < ((w.alloc (boxP W)).alloc (.cells #[.int .i64 12, .string nm, .int .i64 n, .slice (some ⟨b, o, none⟩) 2 c] 24)).heap.size := by simp
  generalize (w.alloc (boxP W)).alloc (.cells #[.int .i64 12, .string nm, .int .i64 n, .slice (some ⟨b, o, none⟩) 2 c] 24) = W2 at *
  have P0 := mkHid (fun (w' : World) (hb : Below W2.heap.size W2 w') => C0 w' (hW.later (bon hb2 hb)) (kin0.later (bon hb2 hb)))
  unfold Wd.val Tm.val at P0
  obtain ⟨q00, q01, q02, q03⟩ : Four W2 b o k0 := Four.keep kf0 hb2 hbl
  have P1 := mkHid (fun (w' : World) (hb : Below W2.heap.size W2 w') => C1 w' (hW.later (bon hb2 hb)) (kin1.later (bon hb2 hb)))
  unfold Wd.val Tm.val at P1
  obtain ⟨q10, q11, q12, q13⟩ : Four W2 b (o + 4) k1 := Four.keep kf1 hb2 hbl1
  clear C0 kin0 kf0 C1 kin1 kf1
  unfold Wd.val Tm.val
  simp only [Tm.op, Tm.nm, Tm.n, Tm.a, Tm.ks, Tm.c, List.length_cons, List.length_nil, Nat.zero_add, Nat.reduceAdd]
  obtain ⟨t0, t1⟩ := TP
  obtain ⟨u0, u1, u2, u3⟩ := TT
  go_enter Tryz.func41, Tryz.ntmps41
  go_wp2_with fail
  (try dsimp only [List.append])
  refine wp_region_held_drew (S := fun w' => w'.cell? ⟨w.heap.size, 0, none⟩ = some (.int .i64 W.nodes) ∧ w'.cell? ⟨w.heap.size, 1, none⟩ = some (.slice W.a W.l.length W.c) ∧ w'.cell? ⟨w.heap.size + 1, 0, none⟩ = some (.int .i64 12) ∧ w'.cell? ⟨w.heap.size + 1, 1, none⟩ = some (.string nm) ∧ w'.cell? ⟨w.heap.size + 1, 2, none⟩ = some (.int .i64 n) ∧ w'.cell? ⟨w.heap.size + 1, 3, none⟩ = some (.slice (some ⟨b, o, none⟩) 2 c) ∧ w'.cell? ⟨b, o, none⟩ = some (.int .i64 k0.op) ∧ w'.cell? ⟨b, o + 1, none⟩ = some (.string k0.nm) ∧ w'.cell? ⟨b, o + 2, none⟩ = some (.int .i64 k0.n) ∧ w'.cell? ⟨b, o + 3, none⟩ = some (.slice k0.a k0.ks.length k0.c) ∧ w'.cell? ⟨b, o + 4, none⟩ = some (.int .i64 k1.op) ∧ w'.cell? ⟨b, o + 4 + 1, none⟩ = some (.string k1.nm) ∧ w'.cell? ⟨b, o + 4 + 2, none⟩ = some (.int .i64 k1.n) ∧ w'.cell? ⟨b, o + 4 + 3, none⟩ = some (.slice k1.a k1.ks.length k1.c)) (by kernel_rfl) ⟨t0, t1, u0, u1, u2, u3, q00, q01, q02, q03, q10, q11, q12, q13⟩ (fun hHeld => ?_)
  refine wpAnyH_take (i := 0) (v := ?_) rfl (by kernel_rfl) (by kernel_rfl) (by kernel_rfl) (fun _ _ _ h => h) (Or.inl ⟨by kernel_rfl, ?_⟩) (by assumption) ?_
  rotate_left
  · (intro w hSw; (try dsimp only at hSw); go_simp; try with_reducible rfl)
  simp only [Act.put, List.getElem_toArray, List.getElem_cons_zero, List.setIfInBounds_toArray, List.set_cons_zero, List.set_cons_succ]
  refine wpAnyH_take (i := 1) (v := ?_) rfl (by kernel_rfl) (by kernel_rfl) (by kernel_rfl) (fun _ _ _ h => h) (Or.inl ⟨by kernel_rfl, ?_⟩) (by assumption) ?_
  rotate_left
  · (intro w hSw; (try dsimp only at hSw); go_simp; try with_reducible rfl)
  simp only [Act.put, List.getElem_toArray, List.getElem_cons_succ, List.getElem_cons_zero, List.setIfInBounds_toArray, List.set_cons_zero, List.set_cons_succ]
  refine wpAnyH_take (i := 2) (v := ?_) rfl (by kernel_rfl) (by kernel_rfl) (by kernel_rfl) (fun _ _ _ h => h) (Or.inl ⟨by kernel_rfl, ?_⟩) (by assumption) ?_
  rotate_left
  · (intro w hSw; (try dsimp only at hSw); go_simp; try with_reducible rfl)
  simp only [Act.put, List.getElem_toArray, List.getElem_cons_succ, List.getElem_cons_zero, List.setIfInBounds_toArray, List.set_cons_zero, List.set_cons_succ]
  refine wpAnyH_take (i := 3) (v := ?_) rfl (by kernel_rfl) (by kernel_rfl) (by kernel_rfl) (fun _ _ _ h => h) (Or.inl ⟨by kernel_rfl, ?_⟩) (by assumption) ?_
  rotate_left
  · (intro w hSw; (try dsimp only at hSw); go_simp; try with_reducible rfl)
  simp only [Act.put, List.getElem_toArray, List.getElem_cons_succ, List.getElem_cons_zero, List.setIfInBounds_toArray, List.set_cons_zero, List.set_cons_succ]
  refine wpAnyH_take (i := 4) (v := ?_) rfl (by kernel_rfl) (by kernel_rfl) (by kernel_rfl) (fun _ _ _ h => h) (Or.inl ⟨by kernel_rfl, ?_⟩) (by assumption) ?_
  rotate_left
  · (intro w hSw; (try dsimp only at hSw); go_simp; try with_reducible rfl)
  simp only [Act.put, List.getElem_toArray, List.getElem_cons_succ, List.getElem_cons_zero, List.setIfInBounds_toArray, List.set_cons_zero, List.set_cons_succ]
  refine wpAnyH_take (i := 6) (v := ?_) rfl (by kernel_rfl) (by kernel_rfl) (by kernel_rfl) (fun _ _ _ h => h) (Or.inl ⟨by kernel_rfl, ?_⟩) (by assumption) ?_
  rotate_left
  · (intro w hSw; (try dsimp only at hSw); go_simp; try with_reducible rfl)
  simp only [Act.put, List.getElem_toArray, List.getElem_cons_succ, List.getElem_cons_zero, List.setIfInBounds_toArray, List.set_cons_zero, List.set_cons_succ]
  refine wpAnyH_take (i := 7) (v := ?_) rfl (by kernel_rfl) (by kernel_rfl) (by kernel_rfl) (fun _ _ _ h => h) (Or.inl ⟨by kernel_rfl, ?_⟩) (by assumption) ?_
  rotate_left
  · (intro w hSw; (try dsimp only at hSw); go_simp; try with_reducible rfl)
  simp only [Act.put, List.getElem_toArray, List.getElem_cons_succ, List.getElem_cons_zero, List.setIfInBounds_toArray, List.set_cons_zero, List.set_cons_succ]
  refine wpAnyH_take (i := 8) (v := ?_) rfl (by kernel_rfl) (by kernel_rfl) (by kernel_rfl) (fun _ _ _ h => h) (Or.inl ⟨by kernel_rfl, ?_⟩) (by assumption) ?_
  rotate_left
  · (intro w hSw; (try dsimp only at hSw); go_simp; try with_reducible rfl)
  simp only [Act.put, List.getElem_toArray, List.getElem_cons_succ, List.getElem_cons_zero, List.setIfInBounds_toArray, List.set_cons_zero, List.set_cons_succ]
  refine wpAnyH_take (i := 9) (v := ?_) rfl (by kernel_rfl) (by kernel_rfl) (by kernel_rfl) (fun _ _ _ h => h) (Or.inl ⟨by kernel_rfl, ?_⟩) (by assumption) ?_
  rotate_left
  · (intro w hSw; (try dsimp only at hSw); go_simp; try with_reducible rfl)
  simp only [Act.put, List.getElem_toArray, List.getElem_cons_succ, List.getElem_cons_zero, List.setIfInBounds_toArray, List.set_cons_zero, List.set_cons_succ]
  refine wpAnyH_take (i := 10) (v := ?_) rfl (by kernel_rfl) (by kernel_rfl) (by kernel_rfl) (fun _ _ _ h => h) (Or.inl ⟨by kernel_rfl, ?_⟩) (by assumption) ?_
  rotate_left
  · (intro w hSw; (try dsimp only at hSw); go_simp; try with_reducible rfl)
  simp only [Act.put, List.getElem_toArray, List.getElem_cons_succ, List.getElem_cons_zero, List.setIfInBounds_toArray, List.set_cons_zero, List.set_cons_succ]
  refine wpAnyH_ready (rs := [5]) (by kernel_rfl) (by simp) ?_
  refine AllReadyH.cons rfl (fun K hK => ?_) AllReadyH.nil
  go_simp
  go_wp2_with (go_at_call 41; ((with_reducible refine (P0.out _ (bdrew (Below.refl _ _))).mono ?_)); rintro e w1 ⟨g0, c0, rfl, ho0, hb1⟩)
  have B1 := bon (bdrew (Below.refl W2.heap.size W2)) hb1
  refine hK.out _ _ (keep2 (by assumption) hb1) (fun hHeld => ?_)
  clear hK
  refine wpAnyH_ready (rs := [11]) (by kernel_rfl) (by simp) ?_
  refine AllReadyH.cons rfl (fun K hK => ?_) AllReadyH.nil
  go_simp
  go_wp2_with (go_at_call 41; ((with_reducible refine (P1.out _ B1).mono ?_)); rintro e w3 ⟨rfl, hb3⟩)
  exact ⟨rfl, rfl, bon (bon hb2 B1) hb3⟩

set_option maxRecDepth 100000 in
set_option maxHeartbeats 4000000 in
theorem set12_ok (W : Wd) (t : Tm) (k0 k1 : Tm) (hop : t.op = 12) (hks : t.ks = [k0, k1]) {l0 l1 : List Bool} (C0 : CallsS W k0 (RetS l0)) (C1 : CallsS W k1 (RetS l1)) (hp : 0 < l0.length) (h01 : l0.length = l1.length)  (h64 : l0.length ≤ 64) : CallsS W t (RetS (List.zipWith (fun a b => a && b) l0 l1)) := by
  intro w hW ht
  obtain ⟨op, nm, n, a, c, ks⟩ := t
  simp only [Tm.op, Tm.ks] at hop hks
  subst hop hks
  obtain ⟨kin0, b, o, ha, hbl, kf0⟩ := ht.kid 0 (by simp [Tm.ks])
  obtain ⟨kin1, b1, o1, ha1, hbl1, kf1⟩ := ht.kid 1 (by simp [Tm.ks])
  simp only [Tm.a, Tm.ks, List.getElem_cons_zero, List.getElem_cons_succ, Nat.zero_mul, Nat.one_mul, Nat.add_zero] at ha kin0 kf0 ha1 kin1 kf1
  subst ha
  cases ha1
  have htn := ht.nums
  simp only [Tm.op, Tm.nm, Tm.n, Tm.ks, Tm.c] at htn
  have hb2 : Below w.heap.size w ((w.alloc (boxP W)).alloc (.cells #[.int .i64 12, .string nm, .int .i64 n, .slice (some ⟨b, o, none⟩) 2 c] 24)) := bal (bal (Below.refl _ _) _) _
  have TP : TwoW ((w.alloc (boxP W)).alloc (.cells #[.int .i64 12, .string nm, .int .i64 n, .slice (some ⟨b, o, none⟩) 2 c] 24)) w.heap.size W := (boxP_two w W).later (bel_alloc _ _)
  have TT : ((w.alloc (boxP W)).alloc (.cells #[.int .i64 12, .string nm, .int .i64 n, .slice (some ⟨b, o, none⟩) 2 c] 24)).cell? ⟨w.heap.size + 1, 0, none⟩ = some (.int .i64 12) ∧ ((w.alloc (boxP W)).alloc (.cells #[.int .i64 12, .string nm, .int .i64 n, .slice (some ⟨b, o, none⟩) 2 c] 24)).cell? ⟨w.heap.size + 1, 1, none⟩ = some (.string nm) ∧ ((w.alloc (boxP W)).alloc (.cells #[.int .i64 12, .string nm, .int .i64 n, .slice (some ⟨b, o, none⟩) 2 c] 24)).cell? ⟨w.heap.size + 1, 2, none⟩ = some (.int .i64 n) ∧ ((w.alloc (boxP W)).alloc (.cells #[.int .i64 12, .string nm, .int .i64 n, .slice (some ⟨b, o, none⟩) 2 c] 24)).cell? ⟨w.heap.size + 1, 3, none⟩ = some (.slice (some ⟨b, o, none⟩) 2 c) := by simp [go_sem]
  have hW2 : (w.alloc (.cells #[.int .i64 W.nodes, .slice W.a W.l.length W.c] 55)).alloc (.cells #[.int .i64 12, .string nm, .int .i64 n, .slice (some ⟨b, o, none⟩) 2 c] 24) = (w.alloc (boxP W)).alloc (.cells #[.int .i64 12, .string nm, .int .i64 n, .slice (some ⟨b, o, none⟩) 2 c] 24) := rfl
  have hX2 : w.heap.size + 1 < ((w.alloc (boxP W)).alloc (.cells #[.int .i64 12, .string nm, .int .i64 n, .slice (some ⟨b, o, none⟩) 2 c] 24)).heap.size := by simp
  generalize (w.alloc (boxP W)).alloc (.cells #[.int .i64 12, .string nm, .int .i64 n, .slice (some ⟨b, o, none⟩) 2 c] 24) = W2 at *
  have P0 := mkHid (fun (w' : World) (hb : Below W2.heap.size W2 w') => C0 w' (hW.later (bon hb2 hb)) (kin0.later (bon hb2 hb)))
  unfold Wd.val Tm.val at P0
  obtain ⟨q00, q01, q02, q03⟩ : Four W2 b o k0 := Four.keep kf0 hb2 hbl
  have P1 := mkHid (fun (w' : World) (hb : Below W2.heap.size W2 w') => C1 w' (hW.later (bon hb2 hb)) (kin1.later (bon hb2 hb)))
  unfold Wd.val Tm.val at P1
  obtain ⟨q10, q11, q12, q13⟩ : Four W2 b (o + 4) k1 := Four.keep kf1 hb2 hbl1
  clear C0 kin0 kf0 C1 kin1 kf1
  unfold Wd.val Tm.val
  simp only [Tm.op, Tm.nm, Tm.n, Tm.a, Tm.ks, Tm.c, List.length_cons, List.length_nil, Nat.zero_add, Nat.reduceAdd]
  obtain ⟨t0, t1⟩ := TP
  obtain ⟨u0, u1, u2, u3⟩ := TT
  go_enter Tryz.func41, Tryz.ntmps41
  go_wp2_with fail
  (try dsimp only [List.append])
  refine wp_region_held_drew (S := fun w' => w'.cell? ⟨w.heap.size, 0, none⟩ = some (.int .i64 W.nodes) ∧ w'.cell? ⟨w.heap.size, 1, none⟩ = some (.slice W.a W.l.length W.c) ∧ w'.cell? ⟨w.heap.size + 1, 0, none⟩ = some (.int .i64 12) ∧ w'.cell? ⟨w.heap.size + 1, 1, none⟩ = some (.string nm) ∧ w'.cell? ⟨w.heap.size + 1, 2, none⟩ = some (.int .i64 n) ∧ w'.cell? ⟨w.heap.size + 1, 3, none⟩ = some (.slice (some ⟨b, o, none⟩) 2 c) ∧ w'.cell? ⟨b, o, none⟩ = some (.int .i64 k0.op) ∧ w'.cell? ⟨b, o + 1, none⟩ = some (.string k0.nm) ∧ w'.cell? ⟨b, o + 2, none⟩ = some (.int .i64 k0.n) ∧ w'.cell? ⟨b, o + 3, none⟩ = some (.slice k0.a k0.ks.length k0.c) ∧ w'.cell? ⟨b, o + 4, none⟩ = some (.int .i64 k1.op) ∧ w'.cell? ⟨b, o + 4 + 1, none⟩ = some (.string k1.nm) ∧ w'.cell? ⟨b, o + 4 + 2, none⟩ = some (.int .i64 k1.n) ∧ w'.cell? ⟨b, o + 4 + 3, none⟩ = some (.slice k1.a k1.ks.length k1.c)) (by kernel_rfl) ⟨t0, t1, u0, u1, u2, u3, q00, q01, q02, q03, q10, q11, q12, q13⟩ (fun hHeld => ?_)
  refine wpAnyH_take (i := 0) (v := ?_) rfl (by kernel_rfl) (by kernel_rfl) (by kernel_rfl) (fun _ _ _ h => h) (Or.inl ⟨by kernel_rfl, ?_⟩) (by assumption) ?_
  rotate_left
  · (intro w hSw; (try dsimp only at hSw); go_simp; try with_reducible rfl)
  simp only [Act.put, List.getElem_toArray, List.getElem_cons_zero, List.setIfInBounds_toArray, List.set_cons_zero, List.set_cons_succ]
  refine wpAnyH_take (i := 1) (v := ?_) rfl (by kernel_rfl) (by kernel_rfl) (by kernel_rfl) (fun _ _ _ h => h) (Or.inl ⟨by kernel_rfl, ?_⟩) (by assumption) ?_
  rotate_left
  · (intro w hSw; (try dsimp only at hSw); go_simp; try with_reducible rfl)
  simp only [Act.put, List.getElem_toArray, List.getElem_cons_succ, List.getElem_cons_zero, List.setIfInBounds_toArray, List.set_cons_zero, List.set_cons_succ]
  refine wpAnyH_take (i := 2) (v := ?_) rfl (by kernel_rfl) (by kernel_rfl) (by kernel_rfl) (fun _ _ _ h => h) (Or.inl ⟨by kernel_rfl, ?_⟩) (by assumption) ?_
  rotate_left
  · (intro w hSw; (try dsimp only at hSw); go_simp; try with_reducible rfl)
  simp only [Act.put, List.getElem_toArray, List.getElem_cons_succ, List.getElem_cons_zero, List.setIfInBounds_toArray, List.set_cons_zero, List.set_cons_succ]
  refine wpAnyH_take (i := 3) (v := ?_) rfl (by kernel_rfl) (by kernel_rfl) (by kernel_rfl) (fun _ _ _ h => h) (Or.inl ⟨by kernel_rfl, ?_⟩) (by assumption) ?_
  rotate_left
  · (intro w hSw; (try dsimp only at hSw); go_simp; try with_reducible rfl)
  simp only [Act.put, List.getElem_toArray, List.getElem_cons_succ, List.getElem_cons_zero, List.setIfInBounds_toArray, List.set_cons_zero, List.set_cons_succ]
  refine wpAnyH_take (i := 4) (v := ?_) rfl (by kernel_rfl) (by kernel_rfl) (by kernel_rfl) (fun _ _ _ h => h) (Or.inl ⟨by kernel_rfl, ?_⟩) (by assumption) ?_
  rotate_left
  · (intro w hSw; (try dsimp only at hSw); go_simp; try with_reducible rfl)
  simp only [Act.put, List.getElem_toArray, List.getElem_cons_succ, List.getElem_cons_zero, List.setIfInBounds_toArray, List.set_cons_zero, List.set_cons_succ]
  refine wpAnyH_take (i := 6) (v := ?_) rfl (by kernel_rfl) (by kernel_rfl) (by kernel_rfl) (fun _ _ _ h => h) (Or.inl ⟨by kernel_rfl, ?_⟩) (by assumption) ?_
  rotate_left
  · (intro w hSw; (try dsimp only at hSw); go_simp; try with_reducible rfl)
  simp only [Act.put, List.getElem_toArray, List.getElem_cons_succ, List.getElem_cons_zero, List.setIfInBounds_toArray, List.set_cons_zero, List.set_cons_succ]
  refine wpAnyH_take (i := 7) (v := ?_) rfl (by kernel_rfl) (by kernel_rfl) (by kernel_rfl) (fun _ _ _ h => h) (Or.inl ⟨by kernel_rfl, ?_⟩) (by assumption) ?_
  rotate_left
  · (intro w hSw; (try dsimp only at hSw); go_simp; try with_reducible rfl)
  simp only [Act.put, List.getElem_toArray, List.getElem_cons_succ, List.getElem_cons_zero, List.setIfInBounds_toArray, List.set_cons_zero, List.set_cons_succ]
  refine wpAnyH_take (i := 8) (v := ?_) rfl (by kernel_rfl) (by kernel_rfl) (by kernel_rfl) (fun _ _ _ h => h) (Or.inl ⟨by kernel_rfl, ?_⟩) (by assumption) ?_
  rotate_left
  · (intro w hSw; (try dsimp only at hSw); go_simp; try with_reducible rfl)
  simp only [Act.put, List.getElem_toArray, List.getElem_cons_succ, List.getElem_cons_zero, List.setIfInBounds_toArray, List.set_cons_zero, List.set_cons_succ]
  refine wpAnyH_take (i := 9) (v := ?_) rfl (by kernel_rfl) (by kernel_rfl) (by kernel_rfl) (fun _ _ _ h => h) (Or.inl ⟨by kernel_rfl, ?_⟩) (by assumption) ?_
  rotate_left
  · (intro w hSw; (try dsimp only at hSw); go_simp; try with_reducible rfl)
  simp only [Act.put, List.getElem_toArray, List.getElem_cons_succ, List.getElem_cons_zero, List.setIfInBounds_toArray, List.set_cons_zero, List.set_cons_succ]
  refine wpAnyH_take (i := 10) (v := ?_) rfl (by kernel_rfl) (by kernel_rfl) (by kernel_rfl) (fun _ _ _ h => h) (Or.inl ⟨by kernel_rfl, ?_⟩) (by assumption) ?_
  rotate_left
  · (intro w hSw; (try dsimp only at hSw); go_simp; try with_reducible rfl)
  simp only [Act.put, List.getElem_toArray, List.getElem_cons_succ, List.getElem_cons_zero, List.setIfInBounds_toArray, List.set_cons_zero, List.set_cons_succ]
  refine wpAnyH_ready (rs := [5]) (by kernel_rfl) (by simp) ?_
  refine AllReadyH.cons rfl (fun K hK => ?_) AllReadyH.nil
  go_simp
  go_wp2_with (go_at_call 41; ((with_reducible refine (P0.out _ (bdrew (Below.refl _ _))).mono ?_)); rintro e w1 ⟨g0, c0, rfl, ho0, hb1⟩)
  have B1 := bon (bdrew (Below.refl W2.heap.size W2)) hb1
  refine hK.out _ _ (keep2 (by assumption) hb1) (fun hHeld => ?_)
  clear hK
  refine wpAnyH_ready (rs := [11]) (by kernel_rfl) (by simp) ?_
  refine AllReadyH.cons rfl (fun K hK => ?_) AllReadyH.nil
  go_simp
  go_wp2_with (go_at_call 41; ((with_reducible refine (P1.out _ B1).mono ?_)); rintro e w3 ⟨g1, c1, rfl, ho1, hb3⟩)
  refine hK.out _ _ (keep2 (by assumption) hb3) (fun hHeld => ?_)
  clear hK
  refine wpAnyH_take (i := 12) (v := ?_) rfl (by kernel_rfl) (by kernel_rfl) (by kernel_rfl) (fun _ _ _ h => h) (Or.inl ⟨by kernel_rfl, ?_⟩) (by assumption) ?_
  rotate_left
  · (intro w hSw; (try dsimp only at hSw); go_simp; try with_reducible rfl)
  simp only [Act.put, List.getElem_toArray, List.getElem_cons_succ, List.getElem_cons_zero, List.setIfInBounds_toArray, List.set_cons_zero, List.set_cons_succ]
  refine wpAnyH_take (i := 13) (v := ?_) rfl (by kernel_rfl) (by kernel_rfl) (by kernel_rfl) (fun _ _ _ h => h) (Or.inl ⟨by kernel_rfl, ?_⟩) (by assumption) ?_
  rotate_left
  · (intro w hSw; (try dsimp only at hSw); go_simp; try with_reducible rfl)
  simp only [Act.put, List.getElem_toArray, List.getElem_cons_succ, List.getElem_cons_zero, List.setIfInBounds_toArray, List.set_cons_zero, List.set_cons_succ]
  refine wpAnyH_done (by kernel_rfl) ?_ _
  have BW := bon (bon hb2 B1) hb3
  have own0 := own_base (own_lat ho0 hb3) (base' := w.heap.size) hb2.size
  have bin1 := Own.bin ho1
  have hg1 := (Own.some ho1 (by omega))
  have hg0 := (Own.some ho0 (by omega))
  obtain ⟨g0', e, hg0a, hg0b⟩ := hg0
  cases e
  obtain ⟨g1', e, hg1a, hg1b⟩ := hg1
  cases e
  have hu0 : w3.cell? ⟨w.heap.size + 1, 0, none⟩ = some (.int .i64 12) := hHeld.2.2.1
  have ow0 : w3.ownsRow w.heap.size 4 1 (.slice (some ⟨g0, 0, none⟩) l0.length c0) l0.length (bls (mixK (fun a b => a && b) l0 l1 0)) := own0
  have hne1 : g1 ≠ g0 := by omega
  have hne2 : w.heap.size + 1 ≠ g0 := by have h : W2.heap.size ≤ g0 := hg0a; omega
  have hw0 : w.heap.size ≤ g0 := by have h : W2.heap.size ≤ g0 := hg0a; omega
  clear hHeld own0 ho0 ho1 hg0a hg0b hg1a hg1b hb1 hb3 P0 P1 t0 t1 u0 u1 u2 u3 q00 q01 q02 q03 q10 q11 q12 q13 hW2 B1
  have HB := mkHid bin1
  clear bin1
  have H01 := mkHid h01
  generalize hn : l0.length = m at *
  generalize hn1 : l1.length = m1 at *
  have HN := mkHid hn
  have HN1 := mkHid hn1
  have hmm : m = m1 := H01.out
  subst hmm
  clear hn hn1 h01
  go_wp2
  go_loopw [57] (fun i w' => ∃ (k : Nat) (x : Int), i = .int .i64 x ∧ x = k ∧ k ≤ m ∧ But g0 w3 w' ∧ w'.ownsRow w.heap.size 4 1 (.slice (some ⟨g0, 0, none⟩) m c0) m (bls (mixK (fun a b => a && b) l0 l1 k))) (fun i _ => (m - intOf i).toNat)
  case atStart => exact ⟨0, 0, rfl, rfl, Nat.zero_le _, But.refl _ _, ow0⟩
  case round =>
    obtain ⟨k, x, rfl, hxk, hk, bt, own⟩ := hrel
    obtain rfl : x = (k : Int) := hxk
    have v0 := bt.cell hu0 hne2
    by_cases hlt : k < m
    · have hk0 : k < l0.length := by rw [HN.out]; exact hlt
      have hk1 : k < l1.length := by rw [HN1.out]; exact hlt
      have fz := own.frozenAt k
      have ce := own.cellAt k (by omega)
      rw [mixK_get _ (HN.out.trans HN1.out.symm) hk0] at ce
      obtain ⟨b', o', e, -, cb⟩ := HB.out k hk1
      cases e
      rw [Nat.zero_add] at cb
      have cb' := bt.cell cb hne1
      have ST := mkHid (own.stored k (.bool ((fun a b => a && b) l0[k] l1[k]))).1
      rw [bls_set, mixK_set (fun a b => a && b) (HN.out.trans HN1.out.symm) hk0] at ST
      have BS := bt.set (p := ⟨g0, k, none⟩) (.inl rfl) (.bool ((fun a b => a && b) l0[k] l1[k]))
      clear cb own
      generalize l0[k] = xk at *
      generalize l1[k] = yk at *
      cases xk <;> cases yk
      all_goals
        go_wp2
        go_roundw
        case rel => exact ⟨k + 1, _, rfl, by omega, by omega, BS, ST.out⟩
        case measure => simp [intOf]; omega
    · obtain rfl : k = m := by omega
      go_wp2
      go_ret
      refine ⟨g0, c0, ?_, ?_, ?_⟩
      · rw [List.length_zipWith, HN.out, HN1.out, Nat.min_self]; rfl
      · unfold Own
        rw [List.length_zipWith, HN.out, HN1.out, Nat.min_self]
        have e : mixK (fun a b => a && b) l0 l1 k = List.zipWith (fun a b => a && b) l0 l1 := by
          unfold mixK
          rw [List.take_of_length_le (by rw [List.length_zipWith, HN.out, HN1.out, Nat.min_self]; omega), List.drop_eq_nil_of_le (by rw [HN.out]; omega), List.append_nil]
        rw [e] at own
        exact own
      · exact BW.trans (bt.below hw0 BW.size)

set_option maxRecDepth 100000 in
set_option maxHeartbeats 4000000 in
theorem set13_e0 (W : Wd) (t : Tm) (k0 k1 : Tm) (hop : t.op = 13) (hks : t.ks = [k0, k1]) {e0 : Int} {P : World → Ending → World → Prop} (C0 : CallsS W k0 (PanK e0)) (C1 : CallsS W k1 P) : CallsS W t (PanK e0) := by
  intro w hW ht
  obtain ⟨op, nm, n, a, c, ks⟩ := t
  simp only [Tm.op, Tm.ks] at hop hks
  subst hop hks
  obtain ⟨kin0, b, o, ha, hbl, kf0⟩ := ht.kid 0 (by simp [Tm.ks])
  obtain ⟨kin1, b1, o1, ha1, hbl1, kf1⟩ := ht.kid 1 (by simp [Tm.ks])
  simp only [Tm.a, Tm.ks, List.getElem_cons_zero, List.getElem_cons_succ, Nat.zero_mul, Nat.one_mul, Nat.add_zero] at ha kin0 kf0 ha1 kin1 kf1
  subst ha
  cases ha1
  have htn := ht.nums
  simp only [Tm.op, Tm.nm, Tm.n, Tm.ks, Tm.c] at htn
  have hb2 : Below w.heap.size w ((w.alloc (boxP W)).alloc (.cells #[.int .i64 13, .string nm, .int .i64 n, .slice (some ⟨b, o, none⟩) 2 c] 24)) := bal (bal (Below.refl _ _) _) _
  have TP : TwoW ((w.alloc (boxP W)).alloc (.cells #[.int .i64 13, .string nm, .int .i64 n, .slice (some ⟨b, o, none⟩) 2 c] 24)) w.heap.size W := (boxP_two w W).later (bel_alloc _ _)
  have TT : ((w.alloc (boxP W)).alloc (.cells #[.int .i64 13, .string nm, .int .i64 n, .slice (some ⟨b, o, none⟩) 2 c] 24)).cell? ⟨w.heap.size + 1, 0, none⟩ = some (.int .i64 13) ∧ ((w.alloc (boxP W)).alloc (.cells #[.int .i64 13, .string nm, .int .i64 n, .slice (some ⟨b, o, none⟩) 2 c] 24)).cell? ⟨w.heap.size + 1, 1, none⟩ = some (.string nm) ∧ ((w.alloc (boxP W)).alloc (.cells #[.int .i64 13, .string nm, .int .i64 n, .slice (some ⟨b, o, none⟩) 2 c] 24)).cell? ⟨w.heap.size + 1, 2, none⟩ = some (.int .i64 n) ∧ ((w.alloc (boxP W)).alloc (.cells #[.int .i64 13, .string nm, .int .i64 n, .slice (some ⟨b, o, none⟩) 2 c] 24)).cell? ⟨w.heap.size + 1, 3, none⟩ = some (.slice (some ⟨b, o, none⟩) 2 c) := by simp [go_sem]
  have hW2 : (w.alloc (.cells #[.int .i64 W.nodes, .slice W.a W.l.length W.c] 55)).alloc (.cells #[.int .i64 13, .string nm, .int .i64 n, .slice (some ⟨b, o, none⟩) 2 c] 24) = (w.alloc (boxP W)).alloc (.cells #[.int .i64 13, .string nm, .int .i64 n, .slice (some ⟨b, o, none⟩) 2 c] 24) := rfl
  have hX2 : w.heap.size + 1 < ((w.alloc (boxP W)).alloc (.cells #[.int .i64 13, .string nm, .int .i64 n, .slice (some ⟨b, o, none⟩) 2 c] 24)).heap.size := by simp
  generalize (w.alloc (boxP W)).alloc (.cells #[.int .i64 13, .string nm, .int .i64 n, .slice (some ⟨b, o, none⟩) 2 c] 24) = W2 at *
  have P0 := mkHid (fun (w' : World) (hb : Below W2.heap.size W2 w') => C0 w' (hW.later (bon hb2 hb)) (kin0.later (bon hb2 hb)))
  unfold Wd.val Tm.val at P0
  obtain ⟨q00, q01, q02, q03⟩ : Four W2 b o k0 := Four.keep kf0 hb2 hbl
  have P1 := mkHid (fun (w' : World) (hb : Below W2.heap.size W2 w') => C1 w' (hW.later (bon hb2 hb)) (kin1.later (bon hb2 hb)))
  unfold Wd.val Tm.val at P1
  obtain ⟨q10, q11, q12, q13⟩ : Four W2 b (o + 4) k1 := Four.keep kf1 hb2 hbl1
  clear C0 kin0 kf0 C1 kin1 kf1
  unfold Wd.val Tm.val
  simp only [Tm.op, Tm.nm, Tm.n, Tm.a, Tm.ks, Tm.c, List.length_cons, List.length_nil, Nat.zero_add, Nat.reduceAdd]
  obtain ⟨t0, t1⟩ := TP
  obtain ⟨u0, u1, u2, u3⟩ := TT
  go_enter Tryz.func41, Tryz.ntmps41
  go_wp2_with fail
  (try dsimp only [List.append])
  refine wp_region_held_drew (S := fun w' => w'.cell? ⟨w.heap.size, 0, none⟩ = some (.int .i64 W.nodes) ∧ w'.cell? ⟨w.heap.size, 1, none⟩ = some (.slice W.a W.l.length W.c) ∧ w'.cell? ⟨w.heap.size + 1, 0, none⟩ = some (.int .i64 13) ∧ w'.cell? ⟨w.heap.size + 1, 1, none⟩ = some (.string nm) ∧ w'.cell? ⟨w.heap.size + 1, 2, none⟩ = some (.int .i64 n) ∧ w'.cell? ⟨w.heap.size + 1, 3, none⟩ = some (.slice (some ⟨b, o, none⟩) 2 c) ∧ w'.cell? ⟨b, o, none⟩ = some (.int .i64 k0.op) ∧ w'.cell? ⟨b, o + 1, none⟩ = some (.string k0.nm) ∧ w'.cell? ⟨b, o + 2, none⟩ = some (.int .i64 k0.n) ∧ w'.cell? ⟨b, o + 3, none⟩ = some (.slice k0.a k0.ks.length k0.c) ∧ w'.cell? ⟨b, o + 4, none⟩ = some (.int .i64 k1.op) ∧ w'.cell? ⟨b, o + 4 + 1, none⟩ = some (.string k1.nm) ∧ w'.cell? ⟨b, o + 4 + 2, none⟩ = some (.int .i64 k1.n) ∧ w'.cell? ⟨b, o + 4 + 3, none⟩ = some (.slice k1.a k1.ks.length k1.c)) (by kernel_rfl) ⟨t0, t1, u0, u1, u2, u3, q00, q01, q02, q03, q10, q11, q12, q13⟩ (fun hHeld => ?_)
  refine wpAnyH_take (i := 0) (v := ?_) rfl (by kernel_rfl) (by kernel_rfl) (by kernel_rfl) (fun _ _ _ h => h) (Or.inl ⟨by kernel_rfl, ?_⟩) (by assumption) ?_
  rotate_left
  · (intro w hSw; (try dsimp only at hSw); go_simp; try with_reducible rfl)
  simp only [Act.put, List.getElem_toArray, List.getElem_cons_zero, List.setIfInBounds_toArray, List.set_cons_zero, List.set_cons_succ]
  refine wpAnyH_take (i := 1) (v := ?_) rfl (by kernel_rfl) (by kernel_rfl) (by kernel_rfl) (fun _ _ _ h => h) (Or.inl ⟨by kernel_rfl, ?_⟩) (by assumption) ?_
  rotate_left
  · (intro w hSw; (try dsimp only at hSw); go_simp; try with_reducible rfl)
  simp only [Act.put, List.getElem_toArray, List.getElem_cons_succ, List.getElem_cons_zero, List.setIfInBounds_toArray, List.set_cons_zero, List.set_cons_succ]
  refine wpAnyH_take (i := 2) (v := ?_) rfl (by kernel_rfl) (by kernel_rfl) (by kernel_rfl) (fun _ _ _ h => h) (Or.inl ⟨by kernel_rfl, ?_⟩) (by assumption) ?_
  rotate_left
  · (intro w hSw; (try dsimp only at hSw); go_simp; try with_reducible rfl)
  simp only [Act.put, List.getElem_toArray, List.getElem_cons_succ, List.getElem_cons_zero, List.setIfInBounds_toArray, List.set_cons_zero, List.set_cons_succ]
  refine wpAnyH_take (i := 3) (v := ?_) rfl (by kernel_rfl) (by kernel_rfl) (by kernel_rfl) (fun _ _ _ h => h) (Or.inl ⟨by kernel_rfl, ?_⟩) (by assumption) ?_
  rotate_left
  · (intro w hSw; (try dsimp only at hSw); go_simp; try with_reducible rfl)
  simp only [Act.put, List.getElem_toArray, List.getElem_cons_succ, List.getElem_cons_zero, List.setIfInBounds_toArray, List.set_cons_zero, List.set_cons_succ]
  refine wpAnyH_take (i := 4) (v := ?_) rfl (by kernel_rfl) (by kernel_rfl) (by kernel_rfl) (fun _ _ _ h => h) (Or.inl ⟨by kernel_rfl, ?_⟩) (by assumption) ?_
  rotate_left
  · (intro w hSw; (try dsimp only at hSw); go_simp; try with_reducible rfl)
  simp only [Act.put, List.getElem_toArray, List.getElem_cons_succ, List.getElem_cons_zero, List.setIfInBounds_toArray, List.set_cons_zero, List.set_cons_succ]
  refine wpAnyH_take (i := 6) (v := ?_) rfl (by kernel_rfl) (by kernel_rfl) (by kernel_rfl) (fun _ _ _ h => h) (Or.inl ⟨by kernel_rfl, ?_⟩) (by assumption) ?_
  rotate_left
  · (intro w hSw; (try dsimp only at hSw); go_simp; try with_reducible rfl)
  simp only [Act.put, List.getElem_toArray, List.getElem_cons_succ, List.getElem_cons_zero, List.setIfInBounds_toArray, List.set_cons_zero, List.set_cons_succ]
  refine wpAnyH_take (i := 7) (v := ?_) rfl (by kernel_rfl) (by kernel_rfl) (by kernel_rfl) (fun _ _ _ h => h) (Or.inl ⟨by kernel_rfl, ?_⟩) (by assumption) ?_
  rotate_left
  · (intro w hSw; (try dsimp only at hSw); go_simp; try with_reducible rfl)
  simp only [Act.put, List.getElem_toArray, List.getElem_cons_succ, List.getElem_cons_zero, List.setIfInBounds_toArray, List.set_cons_zero, List.set_cons_succ]
  refine wpAnyH_take (i := 8) (v := ?_) rfl (by kernel_rfl) (by kernel_rfl) (by kernel_rfl) (fun _ _ _ h => h) (Or.inl ⟨by kernel_rfl, ?_⟩) (by assumption) ?_
  rotate_left
  · (intro w hSw; (try dsimp only at hSw); go_simp; try with_reducible rfl)
  simp only [Act.put, List.getElem_toArray, List.getElem_cons_succ, List.getElem_cons_zero, List.setIfInBounds_toArray, List.set_cons_zero, List.set_cons_succ]
  refine wpAnyH_take (i := 9) (v := ?_) rfl (by kernel_rfl) (by kernel_rfl) (by kernel_rfl) (fun _ _ _ h => h) (Or.inl ⟨by kernel_rfl, ?_⟩) (by assumption) ?_
  rotate_left
  · (intro w hSw; (try dsimp only at hSw); go_simp; try with_reducible rfl)
  simp only [Act.put, List.getElem_toArray, List.getElem_cons_succ, List.getElem_cons_zero, List.setIfInBounds_toArray, List.set_cons_zero, List.set_cons_succ]
  refine wpAnyH_take (i := 10) (v := ?_) rfl (by kernel_rfl) (by kernel_rfl) (by kernel_rfl) (fun _ _ _ h => h) (Or.inl ⟨by kernel_rfl, ?_⟩) (by assumption) ?_
  rotate_left
  · (intro w hSw; (try dsimp only at hSw); go_simp; try with_reducible rfl)
  simp only [Act.put, List.getElem_toArray, List.getElem_cons_succ, List.getElem_cons_zero, List.setIfInBounds_toArray, List.set_cons_zero, List.set_cons_succ]
  refine wpAnyH_ready (rs := [5]) (by kernel_rfl) (by simp) ?_
  refine AllReadyH.cons rfl (fun K hK => ?_) AllReadyH.nil
  go_simp
  go_wp2_with (go_at_call 41; ((with_reducible refine (P0.out _ (bdrew (Below.refl _ _))).mono ?_)); rintro e w1 ⟨rfl, hb1⟩)
  exact ⟨rfl, rfl, bon (bdrew hb2) hb1⟩

set_option maxRecDepth 100000 in
set_option maxHeartbeats 4000000 in
theorem set13_e1 (W : Wd) (t : Tm) (k0 k1 : Tm) (hop : t.op = 13) (hks : t.ks = [k0, k1]) {l0 : List Bool} {e1 : Int} (C0 : CallsS W k0 (RetS l0)) (C1 : CallsS W k1 (PanK e1)) : CallsS W t (PanK e1) := by
  intro w hW ht
  obtain ⟨op, nm, n, a, c, ks⟩ := t
  simp only [Tm.op, Tm.ks] at hop hks
  subst hop hks
  obtain ⟨kin0, b, o, ha, hbl, kf0⟩ := ht.kid 0 (by simp [Tm.ks])
  obtain ⟨kin1, b1, o1, ha1, hbl1, kf1⟩ := ht.kid 1 (by simp [Tm.ks])
  simp only [Tm.a, Tm.ks, List.getElem_cons_zero, List.getElem_cons_succ, Nat.zero_mul, Nat.one_mul, Nat.add_zero] at ha kin0 kf0 ha1 kin1 kf1
  subst ha
  cases ha1
  have htn := ht.nums
  simp only [Tm.op, Tm.nm, Tm.n, Tm.ks, Tm.c] at htn
  have hb2 : Below w.heap.size w ((w.alloc (boxP W)).alloc (.cells #[.int .i64 13, .string nm, .int .i64 n, .slice (some ⟨b, o, none⟩) 2 c] 24)) := bal (bal (Below.refl _ _) _) _
  have TP : TwoW ((w.alloc (boxP W)).alloc (.cells #[.int .i64 13, .string nm, .int .i64 n, .slice (some ⟨b, o, none⟩) 2 c] 24)) w.heap.size W := (boxP_two w W).later (bel_alloc _ _)
  have TT : ((w.alloc (boxP W)).alloc (.cells #[.int .i64 13, .string nm, .int .i64 n, .slice (some ⟨b, o, none⟩) 2 c] 24)).cell? ⟨w.heap.size + 1, 0, none⟩ = some (.int .i64 13) ∧ ((w.alloc (boxP W)).alloc (.cells #[.int .i64 13, .string nm, .int .i64 n, .slice (some ⟨b, o, none⟩) 2 c] 24)).cell? ⟨w.heap.size + 1, 1, none⟩ = some (.string nm) ∧ ((w.alloc (boxP W)).alloc (.cells #[.int .i64 13, .string nm, .int .i64 n, .slice (some ⟨b, o, none⟩) 2 c] 24)).cell? ⟨w.heap.size + 1, 2, none⟩ = some (.int .i64 n) ∧ ((w.alloc (boxP W)).alloc (.cells #[.int .i64 13, .string nm, .int .i64 n, .slice (some ⟨b, o, none⟩) 2 c] 24)).cell? ⟨w.heap.size + 1, 3, none⟩ = some (.slice (some ⟨b, o, none⟩) 2 c) := by simp [go_sem]
  have hW2 : (w.alloc (.cells #[.int .i64 W.nodes, .slice W.a W.l.length W.c] 55)).alloc (.cells #[.int .i64 13, .string nm, .int .i64 n, .slice (some ⟨b, o, none⟩) 2 c] 24) = (w.alloc (boxP W)).alloc (.cells #[.int .i64 13, .string nm, .int .i64 n, .slice (some ⟨b, o, none⟩) 2 c] 24) := rfl
  have hX2 : w.heap.size + 1 < ((w.alloc (boxP W)).alloc (.cells #[.int .i64 13, .string nm, .int .i64 n, .slice (some ⟨b, o, none⟩) 2 c] 24)).heap.size := by simp
  generalize (w.alloc (boxP W)).alloc (.cells #[.int .i64 13, .string nm, .int .i64 n, .slice (some ⟨b, o, none⟩) 2 c] 24) = W2 at *
  have P0 := mkHid (fun (w' : World) (hb : Below W2.heap.size W2 w') => C0 w' (hW.later (bon hb2 hb)) (kin0.later (bon hb2 hb)))
  unfold Wd.val Tm.val at P0
  obtain ⟨q00, q01, q02, q03⟩ : Four W2 b o k0 := Four.keep kf0 hb2 hbl
  have P1 := mkHid (fun (w' : World) (hb : Below W2.heap.size W2 w') => C1 w' (hW.later (bon hb2 hb)) (kin1.later (bon hb2 hb)))
  unfold Wd.val Tm.val at P1
  obtain ⟨q10, q11, q12, q13⟩ : Four W2 b (o + 4) k1 := Four.keep kf1 hb2 hbl1
  clear C0 kin0 kf0 C1 kin1 kf1
  unfold Wd.val Tm.val
  simp only [Tm.op, Tm.nm, Tm.n, Tm.a, Tm.ks, Tm.c, List.length_cons, List.length_nil, Nat.zero_add, Nat.reduceAdd]
  obtain ⟨t0, t1⟩ := TP
  obtain ⟨u0, u1, u2, u3⟩ := TT
  go_enter Tryz.func41, Tryz.ntmps41
  go_wp2_with fail
  (try dsimp only [List.append])
  refine wp_region_held_drew (S := fun w' => w'.cell? ⟨w.heap.size, 0, none⟩ = some (.int .i64 W.nodes) ∧ w'.cell? ⟨w.heap.size, 1, none⟩ = some (.slice W.a W.l.length W.c) ∧ w'.cell? ⟨w.heap.size + 1, 0, none⟩ = some (.int .i64 13) ∧ w'.cell? ⟨w.heap.size + 1, 1, none⟩ = some (.string nm) ∧ w'.cell? ⟨w.heap.size + 1, 2, none⟩ = some (.int .i64 n) ∧ w'.cell? ⟨w.heap.size + 1, 3, none⟩ = some (.slice (some ⟨b, o, none⟩) 2 c) ∧ w'.cell? ⟨b, o, none⟩ = some (.int .i64 k0.op) ∧ w'.cell? ⟨b, o + 1, none⟩ = some (.string k0.nm) ∧ w'.cell? ⟨b, o + 2, none⟩ = some (.int .i64 k0.n) ∧ w'.cell? ⟨b, o + 3, none⟩ = some (.slice k0.a k0.ks.length k0.c) ∧ w'.cell? ⟨b, o + 4, none⟩ = some (.int .i64 k1.op) ∧ w'.cell? ⟨b, o + 4 + 1, none⟩ = some (.string k1.nm) ∧ w'.cell? ⟨b, o + 4 + 2, none⟩ = some (.int .i64 k1.n) ∧ w'.cell? ⟨b, o + 4 + 3, none⟩ = some (.slice k1.a k1.ks.length k1.c)) (by kernel_rfl) ⟨t0, t1, u0, u1, u2, u3, q00, q01, q02, q03, q10, q11, q12, q13⟩ (fun hHeld => ?_)
  refine wpAnyH_take (i := 0) (v := ?_) rfl (by kernel_rfl) (by kernel_rfl) (by kernel_rfl) (fun _ _ _ h => h) (Or.inl ⟨by kernel_rfl, ?_⟩) (by assumption) ?_
  rotate_left
  · (intro w hSw; (try dsimp only at hSw); go_simp; try with_reducible rfl)
  simp only [Act.put, List.getElem_toArray, List.getElem_cons_zero, List.setIfInBounds_toArray, List.set_cons_zero, List.set_cons_succ]
  refine wpAnyH_take (i := 1) (v := ?_) rfl (by kernel_rfl) (by kernel_rfl) (by kernel_rfl) (fun _ _ _ h => h) (Or.inl ⟨by kernel_rfl, ?_⟩) (by assumption) ?_
  rotate_left
  · (intro w hSw; (try dsimp only at hSw); go_simp; try with_reducible rfl)
  simp only [Act.put, List.getElem_toArray, List.getElem_cons_succ, List.getElem_cons_zero, List.setIfInBounds_toArray, List.set_cons_zero, List.set_cons_succ]
  refine wpAnyH_take (i := 2) (v := ?_) rfl (by kernel_rfl) (by kernel_rfl) (by kernel_rfl) (fun _ _ _ h => h) (Or.inl ⟨by kernel_rfl, ?_⟩) (by assumption) ?_
  rotate_left
  · (intro w hSw; (try dsimp only at hSw); go_simp; try with_reducible rfl)
  simp only [Act.put, List.getElem_toArray, List.getElem_cons_succ, List.getElem_cons_zero, List.setIfInBounds_toArray, List.set_cons_zero, List.set_cons_succ]
  refine wpAnyH_take (i := 3) (v := ?_) rfl (by kernel_rfl) (by kernel_rfl) (by kernel_rfl) (fun _ _ _ h => h) (Or.inl ⟨by kernel_rfl, ?_⟩) (by assumption) ?_
  rotate_left
  · (intro w hSw; (try dsimp only at hSw); go_simp; try with_reducible rfl)
  simp only [Act.put, List.getElem_toArray, List.getElem_cons_succ, List.getElem_cons_zero, List.setIfInBounds_toArray, List.set_cons_zero, List.set_cons_succ]
  refine wpAnyH_take (i := 4) (v := ?_) rfl (by kernel_rfl) (by kernel_rfl) (by kernel_rfl) (fun _ _ _ h => h) (Or.inl ⟨by kernel_rfl, ?_⟩) (by assumption) ?_
  rotate_left
  · (intro w hSw; (try dsimp only at hSw); go_simp; try with_reducible rfl)
  simp only [Act.put, List.getElem_toArray, List.getElem_cons_succ, List.getElem_cons_zero, List.setIfInBounds_toArray, List.set_cons_zero, List.set_cons_succ]
  refine wpAnyH_take (i := 6) (v := ?_) rfl (by kernel_rfl) (by kernel_rfl) (by kernel_rfl) (fun _ _ _ h => h) (Or.inl ⟨by kernel_rfl, ?_⟩) (by assumption) ?_
  rotate_left
  · (intro w hSw; (try dsimp only at hSw); go_simp; try with_reducible rfl)
  simp only [Act.put, List.getElem_toArray, List.getElem_cons_succ, List.getElem_cons_zero, List.setIfInBounds_toArray, List.set_cons_zero, List.set_cons_succ]
  refine wpAnyH_take (i := 7) (v := ?_) rfl (by kernel_rfl) (by kernel_rfl) (by kernel_rfl) (fun _ _ _ h => h) (Or.inl ⟨by kernel_rfl, ?_⟩) (by assumption) ?_
  rotate_left
  · (intro w hSw; (try dsimp only at hSw); go_simp; try with_reducible rfl)
  simp only [Act.put, List.getElem_toArray, List.getElem_cons_succ, List.getElem_cons_zero, List.setIfInBounds_toArray, List.set_cons_zero, List.set_cons_succ]
  refine wpAnyH_take (i := 8) (v := ?_) rfl (by kernel_rfl) (by kernel_rfl) (by kernel_rfl) (fun _ _ _ h => h) (Or.inl ⟨by kernel_rfl, ?_⟩) (by assumption) ?_
  rotate_left
  · (intro w hSw; (try dsimp only at hSw); go_simp; try with_reducible rfl)
  simp only [Act.put, List.getElem_toArray, List.getElem_cons_succ, List.getElem_cons_zero, List.setIfInBounds_toArray, List.set_cons_zero, List.set_cons_succ]
  refine wpAnyH_take (i := 9) (v := ?_) rfl (by kernel_rfl) (by kernel_rfl) (by kernel_rfl) (fun _ _ _ h => h) (Or.inl ⟨by kernel_rfl, ?_⟩) (by assumption) ?_
  rotate_left
  · (intro w hSw; (try dsimp only at hSw); go_simp; try with_reducible rfl)
  simp only [Act.put, List.getElem_toArray, List.getElem_cons_succ, List.getElem_cons_zero, List.setIfInBounds_toArray, List.set_cons_zero, List.set_cons_succ]
  refine wpAnyH_take (i := 10) (v := ?_) rfl (by kernel_rfl) (by kernel_rfl) (by kernel_rfl) (fun _ _ _ h => h) (Or.inl ⟨by kernel_rfl, ?_⟩) (by assumption) ?_
  rotate_left
  · (intro w hSw; (try dsimp only at hSw); go_simp; try with_reducible rfl)
  simp only [Act.put, List.getElem_toArray, List.getElem_cons_succ, List.getElem_cons_zero, List.setIfInBounds_toArray, List.set_cons_zero, List.set_cons_succ]
  refine wpAnyH_ready (rs := [5]) (by kernel_rfl) (by simp) ?_
  refine AllReadyH.cons rfl (fun K hK => ?_) AllReadyH.nil
  go_simp
  go_wp2_with (go_at_call 41; ((with_reducible refine (P0.out _ (bdrew (Below.refl _ _))).mono ?_)); rintro e w1 ⟨g0, c0, rfl, ho0, hb1⟩)
  have B1 := bon (bdrew (Below.refl W2.heap.size W2)) hb1
  refine hK.out _ _ (keep2 (by assumption) hb1) (fun hHeld => ?_)
  clear hK
  refine wpAnyH_ready (rs := [11]) (by kernel_rfl) (by simp) ?_
  refine AllReadyH.cons rfl (fun K hK => ?_) AllReadyH.nil
  go_simp
  go_wp2_with (go_at_call 41; ((with_reducible refine (P1.out _ B1).mono ?_)); rintro e w3 ⟨rfl, hb3⟩)
  exact ⟨rfl, rfl, bon (bon hb2 B1) hb3⟩

set_option maxRecDepth 100000 in
set_option maxHeartbeats 4000000 in
theorem set13_ok (W : Wd) (t : Tm) (k0 k1 : Tm) (hop : t.op = 13) (hks : t.ks = [k0, k1]) {l0 l1 : List Bool} (C0 : CallsS W k0 (RetS l0)) (C1 : CallsS W k1 (RetS l1)) (hp : 0 < l0.length) (h01 : l0.length = l1.length)  (h64 : l0.length ≤ 64) : CallsS W t (RetS (List.zipWith (fun a b => a && !b) l0 l1)) := by
  intro w hW ht
  obtain ⟨op, nm, n, a, c, ks⟩ := t
  simp only [Tm.op, Tm.ks] at hop hks
  subst hop hks
  obtain ⟨kin0, b, o, ha, hbl, kf0⟩ := ht.kid 0 (by simp [Tm.ks])
  obtain ⟨kin1, b1, o1, ha1, hbl1, kf1⟩ := ht.kid 1 (by simp [Tm.ks])
  simp only [Tm.a, Tm.ks, List.getElem_cons_zero, List.getElem_cons_succ, Nat.zero_mul, Nat.one_mul, Nat.add_zero] at ha kin0 kf0 ha1 kin1 kf1
  subst ha
  cases ha1
  have htn := ht.nums
  simp only [Tm.op, Tm.nm, Tm.n, Tm.ks, Tm.c] at htn
  have hb2 : Below w.heap.size w ((w.alloc (boxP W)).alloc (.cells #[.int .i64 13, .string nm, .int .i64 n, .slice (some ⟨b, o, none⟩) 2 c] 24)) := bal (bal (Below.refl _ _) _) _
  have TP : TwoW ((w.alloc (boxP W)).alloc (.cells #[.int .i64 13, .string nm, .int .i64 n, .slice (some ⟨b, o, none⟩) 2 c] 24)) w.heap.size W := (boxP_two w W).later (bel_alloc _ _)
  have TT : ((w.alloc (boxP W)).alloc (.cells #[.int .i64 13, .string nm, .int .i64 n, .slice (some ⟨b, o, none⟩) 2 c] 24)).cell? ⟨w.heap.size + 1, 0, none⟩ = some (.int .i64 13) ∧ ((w.alloc (boxP W)).alloc (.cells #[.int .i64 13, .string nm, .int .i64 n, .slice (some ⟨b, o, none⟩) 2 c] 24)).cell? ⟨w.heap.size + 1, 1, none⟩ = some (.string nm) ∧ ((w.alloc (boxP W)).alloc (.cells #[.int .i64 13, .string nm, .int .i64 n, .slice (some ⟨b, o, none⟩) 2 c] 24)).cell? ⟨w.heap.size + 1, 2, none⟩ = some (.int .i64 n) ∧ ((w.alloc (boxP W)).alloc (.cells #[.int .i64 13, .string nm, .int .i64 n, .slice (some ⟨b, o, none⟩) 2 c] 24)).cell? ⟨w.heap.size + 1, 3, none⟩ = some (.slice (some ⟨b, o, none⟩) 2 c) := by simp [go_sem]
  have hW2 : (w.alloc (.cells #[.int .i64 W.nodes, .slice W.a W.l.length W.c] 55)).alloc (.cells #[.int .i64 13, .string nm, .int .i64 n, .slice (some ⟨b, o, none⟩) 2 c] 24) = (w.alloc (boxP W)).alloc (.cells #[.int .i64 13, .string nm, .int .i64 n, .slice (some ⟨b, o, none⟩) 2 c] 24) := rfl
  have hX2 : w.heap.size + 1 < ((w.alloc (boxP W)).alloc (.cells #[.int .i64 13, .string nm, .int .i64 n, .slice (some ⟨b, o, none⟩) 2 c] 24)).heap.size := by simp
  generalize (w.alloc (boxP W)).alloc (.cells #[.int .i64 13, .string nm, .int .i64 n, .slice (some ⟨b, o, none⟩) 2 c] 24) = W2 at *
  have P0 := mkHid (fun (w' : World) (hb : Below W2.heap.size W2 w') => C0 w' (hW.later (bon hb2 hb)) (kin0.later (bon hb2 hb)))
  unfold Wd.val Tm.val at P0
  obtain ⟨q00, q01, q02, q03⟩ : Four W2 b o k0 := Four.keep kf0 hb2 hbl
  have P1 := mkHid (fun (w' : World) (hb : Below W2.heap.size W2 w') => C1 w' (hW.later (bon hb2 hb)) (kin1.later (bon hb2 hb)))
  unfold Wd.val Tm.val at P1
  obtain ⟨q10, q11, q12, q13⟩ : Four W2 b (o + 4) k1 := Four.keep kf1 hb2 hbl1
  clear C0 kin0 kf0 C1 kin1 kf1
  unfold Wd.val Tm.val
  simp only [Tm.op, Tm.nm, Tm.n, Tm.a, Tm.ks, Tm.c, List.length_cons, List.length_nil, Nat.zero_add, Nat.reduceAdd]
  obtain ⟨t0, t1⟩ := TP
  obtain ⟨u0, u1, u2, u3⟩ := TT
  go_enter Tryz.func41, Tryz.ntmps41
  go_wp2_with fail
  (try dsimp only [List.append])
  refine wp_region_held_drew (S := fun w' => w'.cell? ⟨w.heap.size, 0, none⟩ = some (.int .i64 W.nodes) ∧ w'.cell? ⟨w.heap.size, 1, none⟩ = some (.slice W.a W.l.length W.c) ∧ w'.cell? ⟨w.heap.size + 1, 0, none⟩ = some (.int .i64 13) ∧ w'.cell? ⟨w.heap.size + 1, 1, none⟩ = some (.string nm) ∧ w'.cell? ⟨w.heap.size + 1, 2, none⟩ = some (.int .i64 n) ∧ w'.cell? ⟨w.heap.size + 1, 3, none⟩ = some (.slice (some ⟨b, o, none⟩) 2 c) ∧ w'.cell? ⟨b, o, none⟩ = some (.int .i64 k0.op) ∧ w'.cell? ⟨b, o + 1, none⟩ = some (.string k0.nm) ∧ w'.cell? ⟨b, o + 2, none⟩ = some (.int .i64 k0.n) ∧ w'.cell? ⟨b, o + 3, none⟩ = some (.slice k0.a k0.ks.length k0.c) ∧ w'.cell? ⟨b, o + 4, none⟩ = some (.int .i64 k1.op) ∧ w'.cell? ⟨b, o + 4 + 1, none⟩ = some (.string k1.nm) ∧ w'.cell? ⟨b, o + 4 + 2, none⟩ = some (.int .i64 k1.n) ∧ w'.cell? ⟨b, o + 4 + 3, none⟩ = some (.slice k1.a k1.ks.length k1.c)) (by kernel_rfl) ⟨t0, t1, u0, u1, u2, u3, q00, q01, q02, q03, q10, q11, q12, q13⟩ (fun hHeld => ?_)
  refine wpAnyH_take (i := 0) (v := ?_) rfl (by kernel_rfl) (by kernel_rfl) (by kernel_rfl) (fun _ _ _ h => h) (Or.inl ⟨by kernel_rfl, ?_⟩) (by assumption) ?_
  rotate_left
  · (intro w hSw; (try dsimp only at hSw); go_simp; try with_reducible rfl)
  simp only [Act.put, List.getElem_toArray, List.getElem_cons_zero, List.setIfInBounds_toArray, List.set_cons_zero, List.set_cons_succ]
  refine wpAnyH_take (i := 1) (v := ?_) rfl (by kernel_rfl) (by kernel_rfl) (by kernel_rfl) (fun _ _ _ h => h) (Or.inl ⟨by kernel_rfl, ?_⟩) (by assumption) ?_
  rotate_left
  · (intro w hSw; (try dsimp only at hSw); go_simp; try with_reducible rfl)
  simp only [Act.put, List.getElem_toArray, List.getElem_cons_succ, List.getElem_cons_zero, List.setIfInBounds_toArray, List.set_cons_zero, List.set_cons_succ]
  refine wpAnyH_take (i := 2) (v := ?_) rfl (by kernel_rfl) (by kernel_rfl) (by kernel_rfl) (fun _ _ _ h => h) (Or.inl ⟨by kernel_rfl, ?_⟩) (by assumption) ?_
  rotate_left
  · (intro w hSw; (try dsimp only at hSw); go_simp; try with_reducible rfl)
  simp only [Act.put, List.getElem_toArray, List.getElem_cons_succ, List.getElem_cons_zero, List.setIfInBounds_toArray, List.set_cons_zero, List.set_cons_succ]
  refine wpAnyH_take (i := 3) (v := ?_) rfl (by kernel_rfl) (by kernel_rfl) (by kernel_rfl) (fun _ _ _ h => h) (Or.inl ⟨by kernel_rfl, ?_⟩) (by assumption) ?_
  rotate_left
  · (intro w hSw; (try dsimp only at hSw); go_simp; try with_reducible rfl)
  simp only [Act.put, List.getElem_toArray, List.getElem_cons_succ, List.getElem_cons_zero, List.setIfInBounds_toArray, List.set_cons_zero, List.set_cons_succ]
  refine wpAnyH_take (i := 4) (v := ?_) rfl (by kernel_rfl) (by kernel_rfl) (by kernel_rfl) (fun _ _ _ h => h) (Or.inl ⟨by kernel_rfl, ?_⟩) (by assumption) ?_
  rotate_left
  · (intro w hSw; (try dsimp only at hSw); go_simp; try with_reducible rfl)
  simp only [Act.put, List.getElem_toArray, List.getElem_cons_succ, List.getElem_cons_zero, List.setIfInBounds_toArray, List.set_cons_zero, List.set_cons_succ]
  refine wpAnyH_take (i := 6) (v := ?_) rfl (by kernel_rfl) (by kernel_rfl) (by kernel_rfl) (fun _ _ _ h => h) (Or.inl ⟨by kernel_rfl, ?_⟩) (by assumption) ?_
  rotate_left
  · (intro w hSw; (try dsimp only at hSw); go_simp; try with_reducible rfl)
  simp only [Act.put, List.getElem_toArray, List.getElem_cons_succ, List.getElem_cons_zero, List.setIfInBounds_toArray, List.set_cons_zero, List.set_cons_succ]
  refine wpAnyH_take (i := 7) (v := ?_) rfl (by kernel_rfl) (by kernel_rfl) (by kernel_rfl) (fun _ _ _ h => h) (Or.inl ⟨by kernel_rfl, ?_⟩) (by assumption) ?_
  rotate_left
  · (intro w hSw; (try dsimp only at hSw); go_simp; try with_reducible rfl)
  simp only [Act.put, List.getElem_toArray, List.getElem_cons_succ, List.getElem_cons_zero, List.setIfInBounds_toArray, List.set_cons_zero, List.set_cons_succ]
  refine wpAnyH_take (i := 8) (v := ?_) rfl (by kernel_rfl) (by kernel_rfl) (by kernel_rfl) (fun _ _ _ h => h) (Or.inl ⟨by kernel_rfl, ?_⟩) (by assumption) ?_
  rotate_left
  · (intro w hSw; (try dsimp only at hSw); go_simp; try with_reducible rfl)
  simp only [Act.put, List.getElem_toArray, List.getElem_cons_succ, List.getElem_cons_zero, List.setIfInBounds_toArray, List.set_cons_zero, List.set_cons_succ]
  refine wpAnyH_take (i := 9) (v := ?_) rfl (by kernel_rfl) (by kernel_rfl) (by kernel_rfl) (fun _ _ _ h => h) (Or.inl ⟨by kernel_rfl, ?_⟩) (by assumption) ?_
  rotate_left
  · (intro w hSw; (try dsimp only at hSw); go_simp; try with_reducible rfl)
  simp only [Act.put, List.getElem_toArray, List.getElem_cons_succ, List.getElem_cons_zero, List.setIfInBounds_toArray, List.set_cons_zero, List.set_cons_succ]
  refine wpAnyH_take (i := 10) (v := ?_) rfl (by kernel_rfl) (by kernel_rfl) (by kernel_rfl) (fun _ _ _ h => h) (Or.inl ⟨by kernel_rfl, ?_⟩) (by assumption) ?_
  rotate_left
  · (intro w hSw; (try dsimp only at hSw); go_simp; try with_reducible rfl)
  simp only [Act.put, List.getElem_toArray, List.getElem_cons_succ, List.getElem_cons_zero, List.setIfInBounds_toArray, List.set_cons_zero, List.set_cons_succ]
  refine wpAnyH_ready (rs := [5]) (by kernel_rfl) (by simp) ?_
  refine AllReadyH.cons rfl (fun K hK => ?_) AllReadyH.nil
  go_simp
  go_wp2_with (go_at_call 41; ((with_reducible refine (P0.out _ (bdrew (Below.refl _ _))).mono ?_)); rintro e w1 ⟨g0, c0, rfl, ho0, hb1⟩)
  have B1 := bon (bdrew (Below.refl W2.heap.size W2)) hb1
  refine hK.out _ _ (keep2 (by assumption) hb1) (fun hHeld => ?_)
  clear hK
  refine wpAnyH_ready (rs := [11]) (by kernel_rfl) (by simp) ?_
  refine AllReadyH.cons rfl (fun K hK => ?_) AllReadyH.nil
  go_simp
  go_wp2_with (go_at_call 41; ((with_reducible refine (P1.out _ B1).mono ?_)); rintro e w3 ⟨g1, c1, rfl, ho1, hb3⟩)
  refine hK.out _ _ (keep2 (by assumption) hb3) (fun hHeld => ?_)
  clear hK
  refine wpAnyH_take (i := 12) (v := ?_) rfl (by kernel_rfl) (by kernel_rfl) (by kernel_rfl) (fun _ _ _ h => h) (Or.inl ⟨by kernel_rfl, ?_⟩) (by assumption) ?_
  rotate_left
  · (intro w hSw; (try dsimp only at hSw); go_simp; try with_reducible rfl)
  simp only [Act.put, List.getElem_toArray, List.getElem_cons_succ, List.getElem_cons_zero, List.setIfInBounds_toArray, List.set_cons_zero, List.set_cons_succ]
  refine wpAnyH_take (i := 13) (v := ?_) rfl (by kernel_rfl) (by kernel_rfl) (by kernel_rfl) (fun _ _ _ h => h) (Or.inl ⟨by kernel_rfl, ?_⟩) (by assumption) ?_
  rotate_left
  · (intro w hSw; (try dsimp only at hSw); go_simp; try with_reducible rfl)
  simp only [Act.put, List.getElem_toArray, List.getElem_cons_succ, List.getElem_cons_zero, List.setIfInBounds_toArray, List.set_cons_zero, List.set_cons_succ]
  refine wpAnyH_done (by kernel_rfl) ?_ _
  have BW := bon (bon hb2 B1) hb3
  have own0 := own_base (own_lat ho0 hb3) (base' := w.heap.size) hb2.size
  have bin1 := Own.bin ho1
  have hg1 := (Own.some ho1 (by omega))
  have hg0 := (Own.some ho0 (by omega))
  obtain ⟨g0', e, hg0a, hg0b⟩ := hg0
  cases e
  obtain ⟨g1', e, hg1a, hg1b⟩ := hg1
  cases e
  have hu0 : w3.cell? ⟨w.heap.size + 1, 0, none⟩ = some (.int .i64 13) := hHeld.2.2.1
  have ow0 : w3.ownsRow w.heap.size 4 1 (.slice (some ⟨g0, 0, none⟩) l0.length c0) l0.length (bls (mixK (fun a b => a && !b) l0 l1 0)) := own0
  have hne1 : g1 ≠ g0 := by omega
  have hne2 : w.heap.size + 1 ≠ g0 := by have h : W2.heap.size ≤ g0 := hg0a; omega
  have hw0 : w.heap.size ≤ g0 := by have h : W2.heap.size ≤ g0 := hg0a; omega
  clear hHeld own0 ho0 ho1 hg0a hg0b hg1a hg1b hb1 hb3 P0 P1 t0 t1 u0 u1 u2 u3 q00 q01 q02 q03 q10 q11 q12 q13 hW2 B1
  have HB := mkHid bin1
  clear bin1
  have H01 := mkHid h01
  generalize hn : l0.length = m at *
  generalize hn1 : l1.length = m1 at *
  have HN := mkHid hn
  have HN1 := mkHid hn1
  have hmm : m = m1 := H01.out
  subst hmm
  clear hn hn1 h01
  go_wp2
  go_loopw [57] (fun i w' => ∃ (k : Nat) (x : Int), i = .int .i64 x ∧ x = k ∧ k ≤ m ∧ But g0 w3 w' ∧ w'.ownsRow w.heap.size 4 1 (.slice (some ⟨g0, 0, none⟩) m c0) m (bls (mixK (fun a b => a && !b) l0 l1 k))) (fun i _ => (m - intOf i).toNat)
  case atStart => exact ⟨0, 0, rfl, rfl, Nat.zero_le _, But.refl _ _, ow0⟩
  case round =>
    obtain ⟨k, x, rfl, hxk, hk, bt, own⟩ := hrel
    obtain rfl : x = (k : Int) := hxk
    have v0 := bt.cell hu0 hne2
    by_cases hlt : k < m
    · have hk0 : k < l0.length := by rw [HN.out]; exact hlt
      have hk1 : k < l1.length := by rw [HN1.out]; exact hlt
      have fz := own.frozenAt k
      have ce := own.cellAt k (by omega)
      rw [mixK_get _ (HN.out.trans HN1.out.symm) hk0] at ce
      obtain ⟨b', o', e, -, cb⟩ := HB.out k hk1
      cases e
      rw [Nat.zero_add] at cb
      have cb' := bt.cell cb hne1
      have ST := mkHid (own.stored k (.bool ((fun a b => a && !b) l0[k] l1[k]))).1
      rw [bls_set, mixK_set (fun a b => a && !b) (HN.out.trans HN1.out.symm) hk0] at ST
      have BS := bt.set (p := ⟨g0, k, none⟩) (.inl rfl) (.bool ((fun a b => a && !b) l0[k] l1[k]))
      clear cb own
      generalize l0[k] = xk at *
      generalize l1[k] = yk at *
      cases xk <;> cases yk
      all_goals
        go_wp2
        go_roundw
        case rel => exact ⟨k + 1, _, rfl, by omega, by omega, BS, ST.out⟩
        case measure => simp [intOf]; omega
    · obtain rfl : k = m := by omega
      go_wp2
      go_ret
      refine ⟨g0, c0, ?_, ?_, ?_⟩
      · rw [List.length_zipWith, HN.out, HN1.out, Nat.min_self]; rfl
      · unfold Own
        rw [List.length_zipWith, HN.out, HN1.out, Nat.min_self]
        have e : mixK (fun a b => a && !b) l0 l1 k = List.zipWith (fun a b => a && !b) l0 l1 := by
          unfold mixK
          rw [List.take_of_length_le (by rw [List.length_zipWith, HN.out, HN1.out, Nat.min_self]; omega), List.drop_eq_nil_of_le (by rw [HN.out]; omega), List.append_nil]
        rw [e] at own
        exact own
      · exact BW.trans (bt.below hw0 BW.size)
end
end Go.Proofs.YtdfebacjbapahaaGreatDoor
