/-
  The document's two, not, one and within of norm.
-/
import Derived.Test.YtlobffjgkhcjbaaDoorNmN
namespace Go.Proofs.YtlobffjgkhcjbaaDoor
open Go.RowKit

/-- something was made of two terms -/
def BecP2 (er a b : Tm) (wc : World) (e : Ending) (w' : World) : Prop := ∃ z : Tm, e = .returned z.val ∧ z.er = er ∧ TIn w' w'.heap.size z ∧ (∀ R, R < wc.heap.size → TAw R a → TAw R b → TAw R z) ∧ Below wc.heap.size wc w'
theorem Mk.call2 {w wc w' : World} {t a b z : Tm} (h : Mk w t wc a) (h' : Mk w t wc b) (hX : w.heap.size + 1 < wc.heap.size) (hz : TIn w' w'.heap.size z) (haw : ∀ R, R < wc.heap.size → TAw R a → TAw R b → TAw R z) : Mk w t w' z :=
  ⟨hz, haw _ hX h.own h'.own, fun R hR hT => haw R (by omega) (h.aw R hR hT) (h'.aw R hR hT)⟩
theorem put4R {wN : World} {x : Tm} {R : Nat} (h : TIn wN wN.heap.size x) (ho : TAw R x) :
    TIn ((((wN.setCell ⟨R, 0, none⟩ (.int .i64 x.op)).setCell ⟨R, 1, none⟩ (.string x.nm)).setCell ⟨R, 2, none⟩ (.int .i64 x.n)).setCell ⟨R, 3, none⟩ (.slice x.a x.ks.length x.c)) ((((wN.setCell ⟨R, 0, none⟩ (.int .i64 x.op)).setCell ⟨R, 1, none⟩ (.string x.nm)).setCell ⟨R, 2, none⟩ (.int .i64 x.n)).setCell ⟨R, 3, none⟩ (.slice x.a x.ks.length x.c)).heap.size x := by
  have hsz : ((((wN.setCell ⟨R, 0, none⟩ (.int .i64 x.op)).setCell ⟨R, 1, none⟩ (.string x.nm)).setCell ⟨R, 2, none⟩ (.int .i64 x.n)).setCell ⟨R, 3, none⟩ (.slice x.a x.ks.length x.c)).heap.size = wN.heap.size := by simp
  rw [hsz]
  exact (((h.setAw (p := ⟨R, 0, none⟩) ho _).setAw (p := ⟨R, 1, none⟩) ho _).setAw (p := ⟨R, 2, none⟩) ho _).setAw (p := ⟨R, 3, none⟩) ho _
theorem bset4 {w wN : World} {R : Nat} (BW : Below w.heap.size w wN) (hR : w.heap.size ≤ R) (a b c d : Value) : Below w.heap.size w ((((wN.setCell ⟨R, 0, none⟩ a).setCell ⟨R, 1, none⟩ b).setCell ⟨R, 2, none⟩ c).setCell ⟨R, 3, none⟩ d) :=
  bset (bset (bset (bset BW (p := ⟨R, 0, none⟩) hR _) (p := ⟨R, 1, none⟩) hR _) (p := ⟨R, 2, none⟩) hR _) (p := ⟨R, 3, none⟩) hR _
theorem q1_aw {R g : Nat} {op : Int} {a : Tm} (hg : R < g) (h : TAw R a) : TAw R (q1 op g a) := aw_each hg (fun x hx => by rw [List.mem_singleton.1 hx]; exact h)
theorem q2_aw {R g : Nat} {op : Int} {a b : Tm} (hg : R < g) (h : TAw R a) (h' : TAw R b) : TAw R (q2 op g a b) := aw_each hg (fun x hx => by
  simp only [List.mem_cons, List.not_mem_nil, or_false] at hx
  rcases hx with rfl | rfl
  · exact h
  · exact h')
theorem q0_aw (R : Nat) (op : Int) : TAw R (q0 op) := .mk _ (fun h => absurd rfl h) (fun k hk => by simp [q0, Tm.ks] at hk)
theorem q0_in (w : World) (B : Nat) {op : Int} (ho : fitB op = true) : TIn w B (q0 op) := .mk _ ho (by show fitB 0 = true; decide) (by show (0 : Nat) ≤ _; omega) (Nat.le_refl _) (Nat.zero_le _) (fun j hj => by simp [q0, Tm.ks] at hj) (fun k hk => by simp [q0, Tm.ks] at hk)
set_option maxRecDepth 100000 in
set_option maxHeartbeats 4000000 in
theorem rtwo_any (op : Int) (ho : fitB op = true) (a b : Tm) (wc : World) (ha : TIn wc wc.heap.size a) (hb : TIn wc wc.heap.size b) : Calls Tryd.prog 94 #[.int .i64 op, a.val, b.val] wc (BecP2 (mkT op [a.er, b.er]) a b wc) := by
  have A0 : FourV' (((wc.alloc (boxT a)).alloc (boxT b)).alloc (.cells #[.int .i64 0, .string ⟨#[]⟩, .int .i64 0, .slice none 0 0] 24)) (wc.heap.size + 1 + 1) (.int .i64 0) (.string ⟨#[]⟩) (.int .i64 0) (.slice none 0 0) := by simp [FourV', boxT, go_sem]
  have Aa : Four (((wc.alloc (boxT a)).alloc (boxT b)).alloc (.cells #[.int .i64 0, .string ⟨#[]⟩, .int .i64 0, .slice none 0 0] 24)) (wc.heap.size) 0 a := by simp [Four, boxT, go_sem]
  have Ab : Four (((wc.alloc (boxT a)).alloc (boxT b)).alloc (.cells #[.int .i64 0, .string ⟨#[]⟩, .int .i64 0, .slice none 0 0] 24)) (wc.heap.size + 1) 0 b := by simp [Four, boxT, go_sem]
  have B0 : Below wc.heap.size wc (((wc.alloc (boxT a)).alloc (boxT b)).alloc (.cells #[.int .i64 0, .string ⟨#[]⟩, .int .i64 0, .slice none 0 0] 24)) := bal (bal (bal (Below.refl _ _) _) _) _
  have hsz : (((wc.alloc (boxT a)).alloc (boxT b)).alloc (.cells #[.int .i64 0, .string ⟨#[]⟩, .int .i64 0, .slice none 0 0] 24)).heap.size = wc.heap.size + 1 + 1 + 1 := by simp
  have HSZ := mkHid hsz
  have hW : (((wc.alloc (.cells #[.int .i64 a.op, .string a.nm, .int .i64 a.n, .slice a.a a.ks.length a.c] 24)).alloc (.cells #[.int .i64 b.op, .string b.nm, .int .i64 b.n, .slice b.a b.ks.length b.c] 24)).alloc (.cells #[.int .i64 0, .string ⟨#[]⟩, .int .i64 0, .slice none 0 0] 24)) = (((wc.alloc (boxT a)).alloc (boxT b)).alloc (.cells #[.int .i64 0, .string ⟨#[]⟩, .int .i64 0, .slice none 0 0] 24)) := rfl
  clear hsz
  generalize (((wc.alloc (boxT a)).alloc (boxT b)).alloc (.cells #[.int .i64 0, .string ⟨#[]⟩, .int .i64 0, .slice none 0 0] 24)) = W at *
  have Ha := mkHid (ha.later B0)
  have Wa := mkHid (ha.aw (R := wc.heap.size + 1 + 1) (by omega))
  obtain ⟨a0, a1, a2, a3⟩ := Aa
  simp only [Nat.zero_add] at a1 a2 a3
  have Hb := mkHid (hb.later B0)
  have Wb := mkHid (hb.aw (R := wc.heap.size + 1 + 1) (by omega))
  obtain ⟨b0, b1, b2, b3⟩ := Ab
  simp only [Nat.zero_add] at b1 b2 b3
  clear ha hb
  have f1 := build2 W a b
  have b1 := bel_alloc W (.cells #[.int .i64 a.op, .string a.nm, .int .i64 a.n, .slice a.a a.ks.length a.c, .int .i64 b.op, .string b.nm, .int .i64 b.n, .slice b.a b.ks.length b.c] 24)
  unfold Tm.val
  generalize hW1 : W.alloc (.cells #[.int .i64 a.op, .string a.nm, .int .i64 a.n, .slice a.a a.ks.length a.c, .int .i64 b.op, .string b.nm, .int .i64 b.n, .slice b.a b.ks.length b.c] 24) = W1 at *
  have HF1 := mkHid f1
  clear f1
  obtain ⟨m0, m1, m2, m3, g0, g1, g2, g3⟩ := A0.later b1
  clear A0
  go_enter Tryd.func94, Tryd.ntmps94
  go_wp2
  have hs := HSZ.out
  have T1 := q2_in (op := op) ho HF1.out.1 HF1.out.2 (Ha.out.later b1) (Hb.out.later b1) (World.block_lt_of_cell? _ _ HF1.out.1.1)
  refine bodyPost_ret (v := .agg #[.int .i64 op, .string ⟨#[]⟩, .int .i64 0, .slice (some ⟨W.heap.size, 0, none⟩) 2 2]) (by simp [results, Tryd.results94, go_sem, m0, m1, m2, m3]) rfl ⟨q2 op W.heap.size a b, rfl, q2_er _ _ _ _, put4R (x := q2 op W.heap.size a b) (R := wc.heap.size + 1 + 1) T1 (q2_aw (by omega) Wa.out Wb.out), fun R hR h h' => q2_aw (by omega) h h', bset4 (bon B0 b1) (by omega) _ _ _ _⟩
set_option maxRecDepth 100000 in
set_option maxHeartbeats 4000000 in
theorem rnot_any (a : Tm) (wc : World) (ha : TIn wc wc.heap.size a) : Calls Tryd.prog 95 #[a.val] wc (BecP2 (mkT 18 [a.er]) a a wc) := by
  have A0 : FourV' ((wc.alloc (boxT a)).alloc (.cells #[.int .i64 0, .string ⟨#[]⟩, .int .i64 0, .slice none 0 0] 24)) (wc.heap.size + 1) (.int .i64 0) (.string ⟨#[]⟩) (.int .i64 0) (.slice none 0 0) := by simp [FourV', boxT, go_sem]
  have Aa : Four ((wc.alloc (boxT a)).alloc (.cells #[.int .i64 0, .string ⟨#[]⟩, .int .i64 0, .slice none 0 0] 24)) (wc.heap.size) 0 a := by simp [Four, boxT, go_sem]
  have B0 : Below wc.heap.size wc ((wc.alloc (boxT a)).alloc (.cells #[.int .i64 0, .string ⟨#[]⟩, .int .i64 0, .slice none 0 0] 24)) := bal (bal (Below.refl _ _) _) _
  have hsz : ((wc.alloc (boxT a)).alloc (.cells #[.int .i64 0, .string ⟨#[]⟩, .int .i64 0, .slice none 0 0] 24)).heap.size = wc.heap.size + 1 + 1 := by simp
  have HSZ := mkHid hsz
  have hW : ((wc.alloc (.cells #[.int .i64 a.op, .string a.nm, .int .i64 a.n, .slice a.a a.ks.length a.c] 24)).alloc (.cells #[.int .i64 0, .string ⟨#[]⟩, .int .i64 0, .slice none 0 0] 24)) = ((wc.alloc (boxT a)).alloc (.cells #[.int .i64 0, .string ⟨#[]⟩, .int .i64 0, .slice none 0 0] 24)) := rfl
  clear hsz
  generalize ((wc.alloc (boxT a)).alloc (.cells #[.int .i64 0, .string ⟨#[]⟩, .int .i64 0, .slice none 0 0] 24)) = W at *
  have Ha := mkHid (ha.later B0)
  have Wa := mkHid (ha.aw (R := wc.heap.size + 1) (by omega))
  obtain ⟨a0, a1, a2, a3⟩ := Aa
  simp only [Nat.zero_add] at a1 a2 a3
  clear ha
  have f1 := build1 W a
  have b1 := bel_alloc W (.cells #[.int .i64 a.op, .string a.nm, .int .i64 a.n, .slice a.a a.ks.length a.c] 24)
  unfold Tm.val
  generalize hW1 : W.alloc (.cells #[.int .i64 a.op, .string a.nm, .int .i64 a.n, .slice a.a a.ks.length a.c] 24) = W1 at *
  have HF1 := mkHid f1
  clear f1
  obtain ⟨m0, m1, m2, m3, g0, g1, g2, g3⟩ := A0.later b1
  clear A0
  go_enter Tryd.func95, Tryd.ntmps95
  go_wp2
  have hs := HSZ.out
  have T1 := q1_in (op := 18) (by decide) HF1.out (Ha.out.later b1) (World.block_lt_of_cell? _ _ HF1.out.1)
  refine bodyPost_ret (v := .agg #[.int .i64 18, .string ⟨#[]⟩, .int .i64 0, .slice (some ⟨W.heap.size, 0, none⟩) 1 1]) (by simp [results, Tryd.results95, go_sem, m0, m1, m2, m3]) rfl ⟨q1 18 W.heap.size a, rfl, q1_er _ _ _, put4R (x := q1 18 W.heap.size a) (R := wc.heap.size + 1) T1 (q1_aw (by omega) Wa.out), fun R hR h _ => q1_aw (by omega) h, bset4 (bon B0 b1) (by omega) _ _ _ _⟩
set_option maxRecDepth 100000 in
set_option maxHeartbeats 4000000 in
theorem rone_any (a : Tm) (wc : World) (ha : TIn wc wc.heap.size a) : Calls Tryd.prog 97 #[a.val] wc (BecP2 (mkT 10 [a.er]) a a wc) := by
  have A0 : FourV' ((wc.alloc (boxT a)).alloc (.cells #[.int .i64 0, .string ⟨#[]⟩, .int .i64 0, .slice none 0 0] 24)) (wc.heap.size + 1) (.int .i64 0) (.string ⟨#[]⟩) (.int .i64 0) (.slice none 0 0) := by simp [FourV', boxT, go_sem]
  have Aa : Four ((wc.alloc (boxT a)).alloc (.cells #[.int .i64 0, .string ⟨#[]⟩, .int .i64 0, .slice none 0 0] 24)) (wc.heap.size) 0 a := by simp [Four, boxT, go_sem]
  have B0 : Below wc.heap.size wc ((wc.alloc (boxT a)).alloc (.cells #[.int .i64 0, .string ⟨#[]⟩, .int .i64 0, .slice none 0 0] 24)) := bal (bal (Below.refl _ _) _) _
  have hsz : ((wc.alloc (boxT a)).alloc (.cells #[.int .i64 0, .string ⟨#[]⟩, .int .i64 0, .slice none 0 0] 24)).heap.size = wc.heap.size + 1 + 1 := by simp
  have HSZ := mkHid hsz
  have hW : ((wc.alloc (.cells #[.int .i64 a.op, .string a.nm, .int .i64 a.n, .slice a.a a.ks.length a.c] 24)).alloc (.cells #[.int .i64 0, .string ⟨#[]⟩, .int .i64 0, .slice none 0 0] 24)) = ((wc.alloc (boxT a)).alloc (.cells #[.int .i64 0, .string ⟨#[]⟩, .int .i64 0, .slice none 0 0] 24)) := rfl
  clear hsz
  generalize ((wc.alloc (boxT a)).alloc (.cells #[.int .i64 0, .string ⟨#[]⟩, .int .i64 0, .slice none 0 0] 24)) = W at *
  have Ha := mkHid (ha.later B0)
  have Wa := mkHid (ha.aw (R := wc.heap.size + 1) (by omega))
  obtain ⟨a0, a1, a2, a3⟩ := Aa
  simp only [Nat.zero_add] at a1 a2 a3
  clear ha
  have f1 := build1 W a
  have b1 := bel_alloc W (.cells #[.int .i64 a.op, .string a.nm, .int .i64 a.n, .slice a.a a.ks.length a.c] 24)
  unfold Tm.val
  generalize hW1 : W.alloc (.cells #[.int .i64 a.op, .string a.nm, .int .i64 a.n, .slice a.a a.ks.length a.c] 24) = W1 at *
  have HF1 := mkHid f1
  clear f1
  obtain ⟨m0, m1, m2, m3, g0, g1, g2, g3⟩ := A0.later b1
  clear A0
  go_enter Tryd.func97, Tryd.ntmps97
  go_wp2
  have hs := HSZ.out
  have T1 := q1_in (op := 10) (by decide) HF1.out (Ha.out.later b1) (World.block_lt_of_cell? _ _ HF1.out.1)
  refine bodyPost_ret (v := .agg #[.int .i64 10, .string ⟨#[]⟩, .int .i64 0, .slice (some ⟨W.heap.size, 0, none⟩) 1 1]) (by simp [results, Tryd.results97, go_sem, m0, m1, m2, m3]) rfl ⟨q1 10 W.heap.size a, rfl, q1_er _ _ _, put4R (x := q1 10 W.heap.size a) (R := wc.heap.size + 1) T1 (q1_aw (by omega) Wa.out), fun R hR h _ => q1_aw (by omega) h, bset4 (bon B0 b1) (by omega) _ _ _ _⟩
set_option maxRecDepth 100000 in
set_option maxHeartbeats 4000000 in
theorem rwithin_any (a b : Tm) (wc : World) (ha : TIn wc wc.heap.size a) (hb : TIn wc wc.heap.size b) : Calls Tryd.prog 96 #[a.val, b.val] wc (BecP2 (insT a.er b.er) a b wc) := by
  have A0 : FourV' (((wc.alloc (boxT a)).alloc (boxT b)).alloc (.cells #[.int .i64 0, .string ⟨#[]⟩, .int .i64 0, .slice none 0 0] 24)) (wc.heap.size + 1 + 1) (.int .i64 0) (.string ⟨#[]⟩) (.int .i64 0) (.slice none 0 0) := by simp [FourV', boxT, go_sem]
  have Aa : Four (((wc.alloc (boxT a)).alloc (boxT b)).alloc (.cells #[.int .i64 0, .string ⟨#[]⟩, .int .i64 0, .slice none 0 0] 24)) (wc.heap.size) 0 a := by simp [Four, boxT, go_sem]
  have Ab : Four (((wc.alloc (boxT a)).alloc (boxT b)).alloc (.cells #[.int .i64 0, .string ⟨#[]⟩, .int .i64 0, .slice none 0 0] 24)) (wc.heap.size + 1) 0 b := by simp [Four, boxT, go_sem]
  have B0 : Below wc.heap.size wc (((wc.alloc (boxT a)).alloc (boxT b)).alloc (.cells #[.int .i64 0, .string ⟨#[]⟩, .int .i64 0, .slice none 0 0] 24)) := bal (bal (bal (Below.refl _ _) _) _) _
  have hsz : (((wc.alloc (boxT a)).alloc (boxT b)).alloc (.cells #[.int .i64 0, .string ⟨#[]⟩, .int .i64 0, .slice none 0 0] 24)).heap.size = wc.heap.size + 1 + 1 + 1 := by simp
  have HSZ := mkHid hsz
  have hW : (((wc.alloc (.cells #[.int .i64 a.op, .string a.nm, .int .i64 a.n, .slice a.a a.ks.length a.c] 24)).alloc (.cells #[.int .i64 b.op, .string b.nm, .int .i64 b.n, .slice b.a b.ks.length b.c] 24)).alloc (.cells #[.int .i64 0, .string ⟨#[]⟩, .int .i64 0, .slice none 0 0] 24)) = (((wc.alloc (boxT a)).alloc (boxT b)).alloc (.cells #[.int .i64 0, .string ⟨#[]⟩, .int .i64 0, .slice none 0 0] 24)) := rfl
  clear hsz
  generalize (((wc.alloc (boxT a)).alloc (boxT b)).alloc (.cells #[.int .i64 0, .string ⟨#[]⟩, .int .i64 0, .slice none 0 0] 24)) = W at *
  have Ha := mkHid (ha.later B0)
  have Wa := mkHid (ha.aw (R := wc.heap.size + 1 + 1) (by omega))
  obtain ⟨a0, a1, a2, a3⟩ := Aa
  simp only [Nat.zero_add] at a1 a2 a3
  have Hb := mkHid (hb.later B0)
  have Wb := mkHid (hb.aw (R := wc.heap.size + 1 + 1) (by omega))
  obtain ⟨b0, b1, b2, b3⟩ := Ab
  simp only [Nat.zero_add] at b1 b2 b3
  clear ha hb
  have C1 := mkHid (rtwo_any 13 (by decide) a b W Ha.out Hb.out)
  have HA0 := mkHid A0
  clear A0
  unfold Tm.val at C1
  unfold Tm.val
  go_enter Tryd.func96, Tryd.ntmps96
  go_wp2_with fail
  ((with_reducible refine C1.out.mono ?_)); rintro e w2 ⟨z, rfl, ze, zt, zw, hb2⟩
  clear hW a0 a1 a2 a3 b0 b1 b2 b3 C1
  have HZE := mkHid ze
  have HZW := mkHid zw
  have f3 := build1 w2 z
  have b3 := bel_alloc w2 (.cells #[.int .i64 z.op, .string z.nm, .int .i64 z.n, .slice z.a z.ks.length z.c] 24)
  unfold Tm.val
  generalize h3 : w2.alloc (.cells #[.int .i64 z.op, .string z.nm, .int .i64 z.n, .slice z.a z.ks.length z.c] 24) = W3 at *
  have f4 : Four (W3.alloc (.cells #[.int .i64 3, .string ⟨#[]⟩, .int .i64 0, .slice (some ⟨w2.heap.size, 0, none⟩) 1 1] 24)) W3.heap.size 0 (q1 3 w2.heap.size z) := build1 W3 (q1 3 w2.heap.size z)
  have b4 := bel_alloc W3 (.cells #[.int .i64 3, .string ⟨#[]⟩, .int .i64 0, .slice (some ⟨w2.heap.size, 0, none⟩) 1 1] 24)
  generalize h4 : W3.alloc (.cells #[.int .i64 3, .string ⟨#[]⟩, .int .i64 0, .slice (some ⟨w2.heap.size, 0, none⟩) 1 1] 24) = W4 at *
  have T3 := mkHid (q1_in (op := 3) (by decide) (f3.later b4) (zt.later (bon b3 b4)) (World.block_lt_of_cell? _ _ (f3.later b4).1))
  have C2 : Hid (Calls Tryd.prog 94 #[.int .i64 22, .agg #[.int .i64 3, .string ⟨#[]⟩, .int .i64 0, .slice (some ⟨w2.heap.size, 0, none⟩) 1 1], .agg #[.int .i64 1, .string ⟨#[]⟩, .int .i64 0, .slice none 0 0]] W4 (BecP2 (mkT 22 [(q1 3 w2.heap.size z).er, (q0 1).er]) (q1 3 w2.heap.size z) (q0 1) W4)) := rtwo_any 22 (by decide) (q1 3 w2.heap.size z) (q0 1) W4 T3.out (q0_in _ _ (by decide))
  clear ze zw zt f3
  obtain ⟨x0, x1, x2, x3⟩ := f4
  simp only [q1, Tm.op, Tm.nm, Tm.n, Tm.a, Tm.ks, Tm.c, List.length_cons, List.length_nil, Nat.zero_add] at x0 x1 x2 x3
  go_wp2_with fail
  ((with_reducible refine C2.out.mono ?_)); rintro e w5 ⟨y, rfl, ye, yt, yw, hb5⟩
  have D5 := bon (bon (bon hb2 b3) b4) hb5
  have hs := HSZ.out
  have l2 := hb2.size
  have l4 := (bon b3 b4).size
  have AWR : ∀ R, R < W.heap.size → TAw R a → TAw R b → TAw R y := fun R hR h h' => yw R (by omega) (q1_aw (by omega) (HZW.out R hR h h')) (q0_aw _ _)
  have HAWR := mkHid AWR
  have HYT := mkHid yt
  have HYE : Hid (y.er = insT a.er b.er) := by
    show y.er = _
    rw [ye, q1_er, HZE.out, q0_er]; rfl
  obtain ⟨m0, m1, m2, m3, g0, g1, g2, g3⟩ := HA0.out.later D5
  clear x0 x1 x2 x3 h3 h4 C2 HA0 AWR yt ye yw hs l2 l4
  unfold Tm.val
  go_wp2
  have hs := HSZ.out
  refine bodyPost_ret (v := .agg #[.int .i64 y.op, .string y.nm, .int .i64 y.n, .slice y.a y.ks.length y.c]) (by simp [results, Tryd.results96, go_sem, m0, m1, m2, m3]) rfl ⟨y, rfl, HYE.out, put4R (x := y) (R := wc.heap.size + 1 + 1) HYT.out (HAWR.out _ (by omega) Wa.out Wb.out), fun R hR h h' => HAWR.out R (by omega) h h', bset4 (bon B0 D5) (by omega) _ _ _ _⟩
end Go.Proofs.YtlobffjgkhcjbaaDoor
