/-
  What the laws' 'shown' answers: true.
-/
import Derived.Test.YtilhamnibdjfaaaPrK
namespace Go.Proofs.Ytilhamnibdjfaaa
open Go.RowKit

theorem made_lit (n : Nat) (z : Int) (hz : z = (n : Int)) (h : n ≤ 100000) : ∃ cs : Array Value, cs.size = n * 1 ∧ cs.toList = nums .i8 (List.replicate n 0) ∧ ∀ w : World, (Instr.makeSlice 23 (.int .i64 z) (.int .i64 z)).run Try.prog w = .ok (.slice (some ⟨w.heap.size, 0, none⟩) n n) (w.alloc (.cells cs 30)) := by
  subst hz; exact made_i8 n h
theorem size_alloc (w : World) (o : Obj) : (w.alloc o).heap.size = w.heap.size + 1 := by simp [go_sem]
theorem own_lit {w : World} (R : List Int) (n : Nat) (cs : Array Value) (hn : R.length = n) (hm : n ≤ 1000) (hc : cs.toList = nums .i64 R) : (w.alloc (.cells cs 3)).ownsRow w.heap.size 3 1 (.slice (some ⟨w.heap.size, 0, none⟩) n n) R.length (nums .i64 R) := by
  subst hn
  have hs : cs.size = R.length * 1 := by rw [← Array.length_toList, hc, nums_len, Nat.mul_one]
  have := World.ownsRow_lit (base := w.heap.size) (size := 1) (e := 3) w cs R.length (Nat.le_refl _) (by unfold maxLen; omega) hs
  rwa [hc] at this
theorem CR.two {W : World} {u1 u2 : Value} {R1 R2 : List Int} {b1 b2 : Nat} (h1 : W.ownsRow b1 3 1 u1 R1.length (nums .i64 R1)) (h2 : W.ownsRow b2 3 1 u2 R2.length (nums .i64 R2)) :
    CR (W.alloc (.cells #[u1, u2] 35)) W.heap.size (.slice (some ⟨W.heap.size, 0, none⟩) 2 2) [R1, R2] [u1, u2] := by
  have hb := bel_alloc W (.cells #[u1, u2] 35)
  refine ⟨World.ownsRow_lit W _ 2 (Nat.le_refl _) (by decide) rfl, rfl, fun i hi => ?_⟩
  have : i = 0 ∨ i = 1 := by simp at hi; omega
  rcases this with rfl | rfl
  · exact ⟨b1, own_keep h1 hb⟩
  · exact ⟨b2, own_keep h2 hb⟩
theorem CR.one {W : World} {u1 : Value} {R1 : List Int} {b1 : Nat} (h1 : W.ownsRow b1 3 1 u1 R1.length (nums .i64 R1)) :
    CR (W.alloc (.cells #[u1] 35)) W.heap.size (.slice (some ⟨W.heap.size, 0, none⟩) 1 1) [R1] [u1] := by
  have hb := bel_alloc W (.cells #[u1] 35)
  refine ⟨World.ownsRow_lit W _ 1 (Nat.le_refl _) (by decide) rfl, rfl, fun i hi => ?_⟩
  have : i = 0 := by simp at hi; omega
  subst this
  exact ⟨b1, own_keep h1 hb⟩
theorem fit_small {C : List (List Int)} (h : ∀ c ∈ C, c.length ≤ 1000 ∧ ∀ x ∈ c, -9223372036854775808 ≤ x ∧ x ≤ 9223372036854775807) : ∀ c ∈ C, Fit c ∧ c.length ≤ 1000 := fun c hc => ⟨(h c hc).2, (h c hc).1⟩
theorem unit_at (W : World) (H n : Nat) (hH : W.heap.size = H) (v : Value) (L : List (List Int)) (hC : RR W v L) (cs : Array Value) (hn : n ≤ 1000) (k1 : cs.size = n * 1) (k2 : cs.toList = nums .i8 (List.replicate n 0)) (A : List Int) (cf : Bool) (hu : unit L (List.replicate n 0) = (A, cf)) (hl : L.length ≤ 1000) (hf : ∀ c ∈ L, c.length ≤ 1000 ∧ ∀ x ∈ c, -9223372036854775808 ≤ x ∧ x ≤ 9223372036854775807) :
    Calls Try.prog 14 #[v, .slice (some ⟨H, 0, none⟩) n n] (W.alloc (.cells cs 30)) fun e w' => ∃ g, e = .returned (.tuple #[.slice (some ⟨g, 0, none⟩) n n, .bool cf]) ∧ AR w' g n A ∧ Below W.heap.size W w' := by
  have B4 := bel_alloc W (.cells cs 30)
  have M := AR.made (w := W) (by omega) k1 k2
  rw [hH] at M
  have hl2 : (List.replicate n (0 : Int)).length = n := List.length_replicate
  have U := unit_any L (List.replicate n 0) _ _ _ (hC.later B4) M.rk hl (by omega) (fit_small hf)
  refine U.mono ?_
  rintro e w' ⟨g, rfl, hg, ha, hb⟩
  rw [hu, hl2] at *
  exact ⟨g, rfl, ha, bon B4 hb⟩
theorem eval_at (W : World) (H n : Nat) (hH : W.heap.size = H) (v : Value) (L : List (List Int)) (hC : RR W v L) (cs : Array Value) (hn : n ≤ 1000) (k1 : cs.size = n * 1) (k2 : cs.toList = nums .i8 (List.replicate n 0)) (r : Int) (hu : evl L (List.replicate n 0) = r) (hl : L.length ≤ 1000) (hf : ∀ c ∈ L, c.length ≤ 1000 ∧ ∀ x ∈ c, -9223372036854775808 ≤ x ∧ x ≤ 9223372036854775807) :
    Calls Try.prog 17 #[v, .slice (some ⟨H, 0, none⟩) n n] (W.alloc (.cells cs 30)) fun e w' => e = .returned (.int .i8 r) ∧ Below W.heap.size W w' := by
  have B4 := bel_alloc W (.cells cs 30)
  have M := AR.made (w := W) (by omega) k1 k2
  rw [hH] at M
  have hl2 : (List.replicate n (0 : Int)).length = n := List.length_replicate
  have U := eval_any L (List.replicate n 0) _ _ _ (hC.later B4) M.rk hl (by omega) (fit_small hf)
  refine U.mono ?_
  rintro e w' ⟨rfl, hb⟩
  rw [hu]
  exact ⟨rfl, bon B4 hb⟩
theorem shown1 (w : World) (R1 R2 : List Int) (cs1 cs2 cs : Array Value) (n1 n2 n : Nat) (h1 : cs1.toList = nums .i64 R1) (h2 : cs2.toList = nums .i64 R2) (hn1 : R1.length = n1) (hn2 : R2.length = n2) (hm1 : n1 ≤ 1000) (hm2 : n2 ≤ 1000) (hn : n ≤ 1000) (k1 : cs.size = n * 1) (k2 : cs.toList = nums .i8 (List.replicate n 0)) (A : List Int) (cf : Bool) (hu : unit [R1, R2] (List.replicate n 0) = (A, cf)) (hf : ∀ c ∈ [R1, R2], c.length ≤ 1000 ∧ ∀ x ∈ c, -9223372036854775808 ≤ x ∧ x ≤ 9223372036854775807) :
    Calls Try.prog 14 #[.slice (some ⟨w.heap.size + 1 + 1, 0, none⟩) 2 2, .slice (some ⟨w.heap.size + 1 + 1 + 1, 0, none⟩) n n]
      ((((w.alloc (.cells cs1 3)).alloc (.cells cs2 3)).alloc (.cells #[.slice (some ⟨w.heap.size, 0, none⟩) n1 n1, .slice (some ⟨w.heap.size + 1, 0, none⟩) n2 n2] 35)).alloc (.cells cs 30))
      fun e w' => ∃ g, e = .returned (.tuple #[.slice (some ⟨g, 0, none⟩) n n, .bool cf]) ∧ AR w' g n A ∧ Below w.heap.size w w' := by
  have B1 := bel_alloc w (.cells cs1 3)
  have O1 := own_lit (w := w) R1 n1 cs1 hn1 hm1 h1
  have B2 := bel_alloc (w.alloc (.cells cs1 3)) (.cells cs2 3)
  have O2 := own_lit (w := w.alloc (.cells cs1 3)) R2 n2 cs2 hn2 hm2 h2
  have C := CR.two (own_keep O1 B2) O2
  have B3 := bel_alloc ((w.alloc (.cells cs1 3)).alloc (.cells cs2 3)) (.cells #[.slice (some ⟨w.heap.size, 0, none⟩) n1 n1, .slice (some ⟨(w.alloc (.cells cs1 3)).heap.size, 0, none⟩) n2 n2] 35)
  have HB3 := bon (bon B1 B2) B3
  clear O1 O2 B1 B2 B3
  simp only [size_alloc] at C HB3
  have hsz : (((w.alloc (.cells cs1 3)).alloc (.cells cs2 3)).alloc (.cells #[.slice (some ⟨w.heap.size, 0, none⟩) n1 n1, .slice (some ⟨w.heap.size + 1, 0, none⟩) n2 n2] 35)).heap.size = w.heap.size + 1 + 1 + 1 := by simp only [size_alloc]
  refine (unit_at _ _ n hsz _ [R1, R2] C.rr cs hn k1 k2 A cf hu (by simp) hf).mono ?_
  rintro e w' ⟨g, rfl, ha, hb⟩
  exact ⟨g, rfl, ha, bon HB3 hb⟩
theorem eval_nil (w : World) : Calls Try.prog 17 #[.slice none 0 0, .slice none 0 0] w (RetV (.int .i8 1) w) :=
  eval_any [] [] _ _ w (CR.nil w 0).rr (RK.of_own (base := 0) (e := 0) ⟨rfl, .inl ⟨rfl, rfl⟩⟩) (by decide) (by decide) (fun c hc => by cases hc)
theorem eval_none (w : World) (cs : Array Value) (hcs : cs.toList = []) : Calls Try.prog 17 #[.slice (some ⟨w.heap.size + 1, 0, none⟩) 1 1, .slice none 0 0] ((w.alloc (.cells cs 3)).alloc (.cells #[.slice (some ⟨w.heap.size, 0, none⟩) 0 0] 35)) fun e w' => e = .returned (.int .i8 (-1)) ∧ Below w.heap.size w w' := by
  have B1 := bel_alloc w (.cells cs 3)
  have O1 := own_lit (w := w) [] 0 cs rfl (by decide) hcs
  have C := CR.one O1
  rw [size_alloc] at C
  have B2 := bel_alloc (w.alloc (.cells cs 3)) (.cells #[.slice (some ⟨w.heap.size, 0, none⟩) 0 0] 35)
  have U := eval_any [[]] [] _ (.slice none 0 0) _ C.rr (RK.of_own (base := 0) (e := 0) ⟨rfl, .inl ⟨rfl, rfl⟩⟩) (by decide) (by decide) (fun c hc => by rw [List.mem_singleton.1 hc]; exact ⟨fun x hx => absurd hx (by simp), by decide⟩)
  refine U.mono ?_
  rintro e w' ⟨rfl, hb⟩
  exact ⟨rfl, bon (bon B1 B2) hb⟩
theorem eval_one (w : World) (cs1 cs : Array Value) (h1 : cs1.toList = nums .i64 [1]) (k1 : cs.size = 2 * 1) (k2 : cs.toList = nums .i8 (List.replicate 2 0)) : Calls Try.prog 17 #[.slice (some ⟨w.heap.size + 1, 0, none⟩) 1 1, .slice (some ⟨w.heap.size + 1 + 1, 0, none⟩) 2 2] (((w.alloc (.cells cs1 3)).alloc (.cells #[.slice (some ⟨w.heap.size, 0, none⟩) 1 1] 35)).alloc (.cells cs 30)) fun e w' => e = .returned (.int .i8 0) ∧ Below w.heap.size w w' := by
  have B1 := bel_alloc w (.cells cs1 3)
  have O1 := own_lit (w := w) [1] 1 cs1 rfl (by decide) h1
  have C := CR.one O1
  have HB2 := bon B1 (bel_alloc (w.alloc (.cells cs1 3)) (.cells #[.slice (some ⟨w.heap.size, 0, none⟩) 1 1] 35))
  clear O1 B1
  simp only [size_alloc] at C HB2
  have hsz : ((w.alloc (.cells cs1 3)).alloc (.cells #[.slice (some ⟨w.heap.size, 0, none⟩) 1 1] 35)).heap.size = w.heap.size + 1 + 1 := by simp only [size_alloc]
  refine (eval_at _ _ 2 hsz _ [[1]] C.rr cs (by decide) k1 k2 0 (by decide +kernel) (by decide) (fun c hc => by rw [List.mem_singleton.1 hc]; exact ⟨by decide, fun x hx => by rw [List.mem_singleton.1 hx]; decide⟩)).mono ?_
  rintro e w' ⟨rfl, hb⟩
  exact ⟨rfl, bon HB2 hb⟩
set_option maxRecDepth 100000 in
set_option maxHeartbeats 8000000 in
theorem shown_any (w : World) : Calls Try.prog 12 #[] w (RetV (.bool true) w) := by
  obtain ⟨cs3, k31, k32, mk3⟩ := made_lit 3 3 rfl (by decide)
  obtain ⟨cs2, k21, k22, mk2⟩ := made_lit 2 2 rfl (by decide)
  have U1 := mkHid (fun w => shown1 w [-1, 2] [1] #[.int .i64 (-1), .int .i64 2] #[.int .i64 1] cs3 2 1 3 rfl rfl rfl rfl (by decide) (by decide) (by decide) k31 k32 [0, 1, 1] false (by decide +kernel) (by intro c hc; simp at hc; rcases hc with rfl | rfl <;> decide))
  have U2 := mkHid (fun w => shown1 w [1] [-1] #[.int .i64 1] #[.int .i64 (-1)] cs2 1 1 2 rfl rfl rfl rfl (by decide) (by decide) (by decide) k21 k22 [0, 1] true (by decide +kernel) (by intro c hc; simp at hc; rcases hc with rfl | rfl <;> decide))
  have V3 := mkHid (fun w => eval_one w #[.int .i64 1] cs2 rfl k21 k22)
  clear k31 k32 k21 k22
  go_enter Try.func12, Try.ntmps12
  go_wp2_with (first
    | (revert HB4; intro HB4; (go_at_call 17; ((with_reducible refine (V3.out _).mono ?_)); rintro e w5 ⟨rfl, hb5⟩; have HB5 := mkHid (bon HB4.out hb5)))
    | (revert HB3; intro HB3; (go_at_call 17; ((with_reducible refine (eval_none _ _ rfl).mono ?_)); rintro e w4 ⟨rfl, hb4⟩; have HB4 := mkHid (bon HB3.out hb4)))
    | (revert HB2; intro HB2; (go_at_call 17; ((with_reducible refine (eval_nil _).mono ?_)); rintro e w3 ⟨rfl, hb3⟩; have HB3 := mkHid (bon HB2.out hb3)))
    | (revert HB1; intro HB1; (go_at_call 14; ((with_reducible refine (U2.out _).mono ?_)); rintro e w2 ⟨g2, rfl, ha2, hb2⟩; have HB2 := mkHid (bon HB1.out hb2); have c1 := (HA1.out.later hb2).cell 1 (by decide); have c2 := (HA1.out.later hb2).cell 2 (by decide); clear hb2 ha2))
    | (go_at_call 14; ((with_reducible refine (U1.out _).mono ?_)); rintro e w1 ⟨g1, rfl, ha1, hb1⟩; have HB1 := mkHid hb1; have HA1 := mkHid ha1; clear hb1 ha1))
  go_ret
  exact ⟨rfl, HB5.out⟩
end Go.Proofs.Ytilhamnibdjfaaa
