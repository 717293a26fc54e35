/-
  The walks of norm's inside, affirmed and denied, one for each operation.
-/
import Derived.Test.YtlobffjgkhcjbaaDoorNmB
import Derived.BigRegion
import Derived.Deep.RegionHeld2
namespace Go.Proofs.YtlobffjgkhcjbaaDoor
open Go.RowKit

theorem keep4 {w w' : World} {p0 p1 p2 p3 : Addr} {v0 v1 v2 v3 : Value} (h : w.cell? p0 = some v0 ∧ w.cell? p1 = some v1 ∧ w.cell? p2 = some v2 ∧ w.cell? p3 = some v3) (hb : Below w.heap.size w w') :
    w'.cell? p0 = some v0 ∧ w'.cell? p1 = some v1 ∧ w'.cell? p2 = some v2 ∧ w'.cell? p3 = some v3 := by
  obtain ⟨x0, x1, x2, x3⟩ := h
  exact ⟨cell_later hb x0, cell_later hb x1, cell_later hb x2, cell_later hb x3⟩
theorem keep4B {w w' : World} {s : Nat} {p0 p1 p2 p3 : Addr} {v0 v1 v2 v3 : Value} (h : w.cell? p0 = some v0 ∧ w.cell? p1 = some v1 ∧ w.cell? p2 = some v2 ∧ w.cell? p3 = some v3) (hb : But s w w') (n0 : p0.block ≠ s) (n1 : p1.block ≠ s) (n2 : p2.block ≠ s) (n3 : p3.block ≠ s) :
    w'.cell? p0 = some v0 ∧ w'.cell? p1 = some v1 ∧ w'.cell? p2 = some v2 ∧ w'.cell? p3 = some v3 := by
  obtain ⟨x0, x1, x2, x3⟩ := h
  exact ⟨hb.cell x0 n0, hb.cell x1 n1, hb.cell x2 n2, hb.cell x3 n3⟩
theorem keep12 {w w' : World} {p0 p1 p2 p3 p4 p5 p6 p7 p8 p9 p10 p11 : Addr} {v0 v1 v2 v3 v4 v5 v6 v7 v8 v9 v10 v11 : Value} (h : w.cell? p0 = some v0 ∧ w.cell? p1 = some v1 ∧ w.cell? p2 = some v2 ∧ w.cell? p3 = some v3 ∧ w.cell? p4 = some v4 ∧ w.cell? p5 = some v5 ∧ w.cell? p6 = some v6 ∧ w.cell? p7 = some v7 ∧ w.cell? p8 = some v8 ∧ w.cell? p9 = some v9 ∧ w.cell? p10 = some v10 ∧ w.cell? p11 = some v11) (hb : Below w.heap.size w w') :
    w'.cell? p0 = some v0 ∧ w'.cell? p1 = some v1 ∧ w'.cell? p2 = some v2 ∧ w'.cell? p3 = some v3 ∧ w'.cell? p4 = some v4 ∧ w'.cell? p5 = some v5 ∧ w'.cell? p6 = some v6 ∧ w'.cell? p7 = some v7 ∧ w'.cell? p8 = some v8 ∧ w'.cell? p9 = some v9 ∧ w'.cell? p10 = some v10 ∧ w'.cell? p11 = some v11 := by
  obtain ⟨x0, x1, x2, x3, x4, x5, x6, x7, x8, x9, x10, x11⟩ := h
  exact ⟨cell_later hb x0, cell_later hb x1, cell_later hb x2, cell_later hb x3, cell_later hb x4, cell_later hb x5, cell_later hb x6, cell_later hb x7, cell_later hb x8, cell_later hb x9, cell_later hb x10, cell_later hb x11⟩
theorem keep12B {w w' : World} {s : Nat} {p0 p1 p2 p3 p4 p5 p6 p7 p8 p9 p10 p11 : Addr} {v0 v1 v2 v3 v4 v5 v6 v7 v8 v9 v10 v11 : Value} (h : w.cell? p0 = some v0 ∧ w.cell? p1 = some v1 ∧ w.cell? p2 = some v2 ∧ w.cell? p3 = some v3 ∧ w.cell? p4 = some v4 ∧ w.cell? p5 = some v5 ∧ w.cell? p6 = some v6 ∧ w.cell? p7 = some v7 ∧ w.cell? p8 = some v8 ∧ w.cell? p9 = some v9 ∧ w.cell? p10 = some v10 ∧ w.cell? p11 = some v11) (hb : But s w w') (n0 : p0.block ≠ s) (n1 : p1.block ≠ s) (n2 : p2.block ≠ s) (n3 : p3.block ≠ s) (n4 : p4.block ≠ s) (n5 : p5.block ≠ s) (n6 : p6.block ≠ s) (n7 : p7.block ≠ s) (n8 : p8.block ≠ s) (n9 : p9.block ≠ s) (n10 : p10.block ≠ s) (n11 : p11.block ≠ s) :
    w'.cell? p0 = some v0 ∧ w'.cell? p1 = some v1 ∧ w'.cell? p2 = some v2 ∧ w'.cell? p3 = some v3 ∧ w'.cell? p4 = some v4 ∧ w'.cell? p5 = some v5 ∧ w'.cell? p6 = some v6 ∧ w'.cell? p7 = some v7 ∧ w'.cell? p8 = some v8 ∧ w'.cell? p9 = some v9 ∧ w'.cell? p10 = some v10 ∧ w'.cell? p11 = some v11 := by
  obtain ⟨x0, x1, x2, x3, x4, x5, x6, x7, x8, x9, x10, x11⟩ := h
  exact ⟨hb.cell x0 n0, hb.cell x1 n1, hb.cell x2 n2, hb.cell x3 n3, hb.cell x4 n4, hb.cell x5 n5, hb.cell x6 n6, hb.cell x7 n7, hb.cell x8 n8, hb.cell x9 n9, hb.cell x10 n10, hb.cell x11 n11⟩
theorem Mk.row {w wc w' w'' : World} {t : Tm} {F : Tm → Tm} {l : List Tm} {R0 : Nat} {op : Int} (ht : TIn w w.heap.size t) (hX : w.heap.size + 1 < wc.heap.size) (ho : fitB op = true) (hk : t.ks.length ≤ 2000) (hl : l.map Tm.er = t.ks.map F) (hf : ∀ j (h : j < l.length), Four w' R0 (j * 4) l[j]) (hti : ∀ x ∈ l, TIn w' w'.heap.size x) (hR1 : wc.heap.size ≤ R0) (hR2 : R0 < w'.heap.size) (haw : ∀ R, R < wc.heap.size → (∀ k ∈ t.ks, TAw R k) → ∀ x ∈ l, TAw R x) (hb : Below w'.heap.size w' w'') : Mk w t w'' (.node op ⟨#[]⟩ 0 (some ⟨R0, 0, none⟩) t.ks.length l) :=
  ⟨of_each op 0 ⟨#[]⟩ ho (by decide) (by decide) hk hl hf hti hR2 hb, aw_each (by omega) (haw _ hX (fun k hk => (kid_in ht hk).aw (by omega))), fun R hR hT => aw_each (by omega) (haw R (by omega) (fun k hk => hT.kid hk))⟩
/-- inside of two: a term that is the set's being in the other one -/
def InsP (w : World) (t a b : Tm) (wc : World) (e : Ending) (w' : World) : Prop := ∃ z : Tm, e = .returned z.val ∧ z.er = insT a.er b.er ∧ Mk w t w' z ∧ Below wc.heap.size wc w'
set_option maxRecDepth 100000 in
set_option maxHeartbeats 4000000 in
theorem inside_any (w : World) (t a b : Tm) (wc : World) (ha : Mk w t wc a) (hb : Mk w t wc b) (hs : w.heap.size + 1 < wc.heap.size) :
    Calls Tryd.prog 92 #[a.val, b.val] wc (InsP w t a b wc) := by
  have A0 : FourV' (((wc.alloc (boxT a)).alloc (boxT b)).alloc (.cells #[.int .i64 0, .string ⟨#[]⟩, .int .i64 0, .slice none 0 0] 24)) (wc.heap.size + 1 + 1) (.int .i64 0) (.string ⟨#[]⟩) (.int .i64 0) (.slice none 0 0) := by simp [FourV', boxT, go_sem]
  have A1 : Four (((wc.alloc (boxT a)).alloc (boxT b)).alloc (.cells #[.int .i64 0, .string ⟨#[]⟩, .int .i64 0, .slice none 0 0] 24)) wc.heap.size 0 a := by simp [Four, boxT, go_sem]
  have A2 : Four (((wc.alloc (boxT a)).alloc (boxT b)).alloc (.cells #[.int .i64 0, .string ⟨#[]⟩, .int .i64 0, .slice none 0 0] 24)) (wc.heap.size + 1) 0 b := by simp [Four, boxT, go_sem]
  have B0 : Below wc.heap.size wc (((wc.alloc (boxT a)).alloc (boxT b)).alloc (.cells #[.int .i64 0, .string ⟨#[]⟩, .int .i64 0, .slice none 0 0] 24)) := bal (bal (bal (Below.refl _ _) _) _) _
  have hsz : (((wc.alloc (boxT a)).alloc (boxT b)).alloc (.cells #[.int .i64 0, .string ⟨#[]⟩, .int .i64 0, .slice none 0 0] 24)).heap.size = wc.heap.size + 1 + 1 + 1 := by simp
  have HSZ := mkHid hsz
  have hW : (((wc.alloc (.cells #[.int .i64 a.op, .string a.nm, .int .i64 a.n, .slice a.a a.ks.length a.c] 24)).alloc (.cells #[.int .i64 b.op, .string b.nm, .int .i64 b.n, .slice b.a b.ks.length b.c] 24)).alloc (.cells #[.int .i64 0, .string ⟨#[]⟩, .int .i64 0, .slice none 0 0] 24)) = (((wc.alloc (boxT a)).alloc (boxT b)).alloc (.cells #[.int .i64 0, .string ⟨#[]⟩, .int .i64 0, .slice none 0 0] 24)) := rfl
  clear hsz
  generalize (((wc.alloc (boxT a)).alloc (boxT b)).alloc (.cells #[.int .i64 0, .string ⟨#[]⟩, .int .i64 0, .slice none 0 0] 24)) = W at *
  have HAA := mkHid (ha.tin.aw (R := wc.heap.size + 1 + 1) (by omega))
  have HBB := mkHid (hb.tin.aw (R := wc.heap.size + 1 + 1) (by omega))
  have HA := mkHid (ha.later B0)
  have HB := mkHid (hb.later B0)
  have F1 := build2 W a b
  have b1 := bel_alloc W (.cells #[.int .i64 a.op, .string a.nm, .int .i64 a.n, .slice a.a a.ks.length a.c, .int .i64 b.op, .string b.nm, .int .i64 b.n, .slice b.a b.ks.length b.c] 24)
  obtain ⟨x0, x1, x2, x3⟩ := A1
  obtain ⟨y0, y1, y2, y3⟩ := A2
  simp only [Nat.zero_add] at x1 x2 x3 y1 y2 y3
  have HA0 := mkHid (A0.later b1)
  clear A0 ha hb
  unfold Tm.val
  generalize hW1 : W.alloc (.cells #[.int .i64 a.op, .string a.nm, .int .i64 a.n, .slice a.a a.ks.length a.c, .int .i64 b.op, .string b.nm, .int .i64 b.n, .slice b.a b.ks.length b.c] 24) = W1 at *
  have HF1 := mkHid F1
  have HX := mkHid b1
  clear F1
  go_enter Tryd.func92, Tryd.ntmps92
  go_wp2_with fail
  ((with_reducible refine (of_any _ _ _ _ _).mono ?_)); rintro e w2 ⟨rfl, hb2⟩
  clear hW1 hW x0 x1 x2 x3 y0 y1 y2 y3
  have HF2 := mkHid (build1 w2 (q2 13 W.heap.size a b))
  have b3 := bel_alloc w2 (.cells #[.int .i64 13, .string ⟨#[]⟩, .int .i64 0, .slice (some ⟨W.heap.size, 0, none⟩) 2 2] 24)
  have HF2 : Hid (Four (w2.alloc (.cells #[.int .i64 13, .string ⟨#[]⟩, .int .i64 0, .slice (some ⟨W.heap.size, 0, none⟩) 2 2] 24)) w2.heap.size 0 (q2 13 W.heap.size a b)) := HF2
  generalize hW3 : w2.alloc (.cells #[.int .i64 13, .string ⟨#[]⟩, .int .i64 0, .slice (some ⟨W.heap.size, 0, none⟩) 2 2] 24) = W3 at *
  go_wp2_with fail
  ((with_reducible refine (of_any _ _ _ _ _).mono ?_)); rintro e w4 ⟨rfl, hb4⟩
  clear hW3
  have hQ := build1 w4 (q1 3 w2.heap.size (q2 13 W.heap.size a b))
  have b5 := bel_alloc w4 (.cells #[.int .i64 3, .string ⟨#[]⟩, .int .i64 0, .slice (some ⟨w2.heap.size, 0, none⟩) 1 1] 24)
  have hQ : Four (w4.alloc (.cells #[.int .i64 3, .string ⟨#[]⟩, .int .i64 0, .slice (some ⟨w2.heap.size, 0, none⟩) 1 1] 24)) w4.heap.size 0 (q1 3 w2.heap.size (q2 13 W.heap.size a b)) := hQ
  generalize hW5 : w4.alloc (.cells #[.int .i64 3, .string ⟨#[]⟩, .int .i64 0, .slice (some ⟨w2.heap.size, 0, none⟩) 1 1] 24) = W5 at *
  obtain ⟨z0, z1, z2, z3⟩ := hQ
  simp only [q1, Tm.op, Tm.nm, Tm.n, Tm.a, Tm.ks, Tm.c, List.length_cons, List.length_nil, Nat.zero_add] at z0 z1 z2 z3
  have HF6 := mkHid (build2 W5 (q1 3 w2.heap.size (q2 13 W.heap.size a b)) (q0 1))
  have b6 := bel_alloc W5 (.cells #[.int .i64 3, .string ⟨#[]⟩, .int .i64 0, .slice (some ⟨w2.heap.size, 0, none⟩) 1 1, .int .i64 1, .string ⟨#[]⟩, .int .i64 0, .slice none 0 0] 24)
  have HF6 : Hid (Four (W5.alloc (.cells #[.int .i64 3, .string ⟨#[]⟩, .int .i64 0, .slice (some ⟨w2.heap.size, 0, none⟩) 1 1, .int .i64 1, .string ⟨#[]⟩, .int .i64 0, .slice none 0 0] 24)) W5.heap.size 0 (q1 3 w2.heap.size (q2 13 W.heap.size a b)) ∧ Four (W5.alloc (.cells #[.int .i64 3, .string ⟨#[]⟩, .int .i64 0, .slice (some ⟨w2.heap.size, 0, none⟩) 1 1, .int .i64 1, .string ⟨#[]⟩, .int .i64 0, .slice none 0 0] 24)) W5.heap.size 4 (q0 1)) := HF6
  generalize hW6 : W5.alloc (.cells #[.int .i64 3, .string ⟨#[]⟩, .int .i64 0, .slice (some ⟨w2.heap.size, 0, none⟩) 1 1, .int .i64 1, .string ⟨#[]⟩, .int .i64 0, .slice none 0 0] 24) = W6 at *
  go_wp2_with fail
  ((with_reducible refine (of_any _ _ _ _ _).mono ?_)); rintro e w7 ⟨rfl, hb7⟩
  clear hW5 hW6 z0 z1 z2 z3
  have c12 := bon HX.out hb2
  have c15 := bon (bon (bon c12 b3) hb4) b5
  have c17 := bon (bon c15 b6) hb7
  have d17 := bon (bon (bon (bon (bon hb2 b3) hb4) b5) b6) hb7
  have d37 := bon (bon (bon hb4 b5) b6) hb7
  have hg := HSZ.out
  have M1 : Mk w t w7 (q2 13 W.heap.size a b) := Mk.two (HA.out.later c17) (HB.out.later c17) ⟨HF1.out.1.later d17, HF1.out.2.later d17⟩ (by omega) (by decide)
  have M2 : Mk w t w7 (q1 3 w2.heap.size (q2 13 W.heap.size a b)) := Mk.one M1 (HF2.out.later d37) (by have := c12.size; omega) (by decide)
  have M3 : Mk w t w7 (q2 22 W5.heap.size (q1 3 w2.heap.size (q2 13 W.heap.size a b)) (q0 1)) := Mk.two M2 (Mk.nil (by decide)) ⟨HF6.out.1.later hb7, HF6.out.2.later hb7⟩ (by have := c15.size; omega) (by decide)
  have A3 : TAw (wc.heap.size + 1 + 1) (q2 22 W5.heap.size (q1 3 w2.heap.size (q2 13 W.heap.size a b)) (q0 1)) := by
    have l1 := c12.size
    have l2 := c15.size
    refine aw_each (by omega) (fun x hx => ?_)
    simp only [List.mem_cons, List.not_mem_nil, or_false] at hx
    rcases hx with rfl | rfl
    · refine aw_each (by omega) (fun x hx => ?_)
      simp only [List.mem_cons, List.not_mem_nil, or_false] at hx
      rcases hx with rfl
      refine aw_each (by omega) (fun x hx => ?_)
      simp only [List.mem_cons, List.not_mem_nil, or_false] at hx
      rcases hx with rfl | rfl
      · exact HAA.out
      · exact HBB.out
    · exact .mk _ (fun h => absurd rfl h) (fun k hk => by simp [q0, Tm.ks] at hk)
  obtain ⟨m0, m1, m2, m3, f0, f1, f2, f3⟩ := HA0.out.later d17
  have BB := mkHid (bon B0 c17)
  have HM3 := mkHid M3
  have HA3 := mkHid A3
  clear c12 c15 c17 d17 d37 hg M1 M2 M3 A3 HF1 HF2 HF6 B0 HX b1 hb2 b3 hb4 b5 b6 hb7 HA HB HA0
  go_wp2
  have hsz : ((((w7.setCell ⟨wc.heap.size + 1 + 1, 0, none⟩ (.int .i64 22)).setCell ⟨wc.heap.size + 1 + 1, 1, none⟩ (.string ⟨#[]⟩)).setCell ⟨wc.heap.size + 1 + 1, 2, none⟩ (.int .i64 0)).setCell ⟨wc.heap.size + 1 + 1, 3, none⟩ (.slice (some ⟨W5.heap.size, 0, none⟩) 2 2)).heap.size = w7.heap.size := by simp
  refine bodyPost_ret (v := .agg #[.int .i64 22, .string ⟨#[]⟩, .int .i64 0, .slice (some ⟨W5.heap.size, 0, none⟩) 2 2]) (by simp [results, Tryd.results92, go_sem, m0, m1, m2, m3]) rfl ⟨q2 22 W5.heap.size (q1 3 w2.heap.size (q2 13 W.heap.size a b)) (q0 1), rfl, ?_, ⟨?_, HM3.out.own, HM3.out.aw⟩, ?_⟩
  · rw [q2_er, q1_er, q2_er, q0_er]; rfl
  · rw [hsz]
    exact (((HM3.out.tin.setAw (p := ⟨wc.heap.size + 1 + 1, 0, none⟩) HA3.out _).setAw (p := ⟨wc.heap.size + 1 + 1, 1, none⟩) HA3.out _).setAw (p := ⟨wc.heap.size + 1 + 1, 2, none⟩) HA3.out _).setAw (p := ⟨wc.heap.size + 1 + 1, 3, none⟩) HA3.out _
  · exact bset (bset (bset (bset BB.out (by show wc.heap.size ≤ wc.heap.size + 1 + 1; omega) _) (by show wc.heap.size ≤ wc.heap.size + 1 + 1; omega) _) (by show wc.heap.size ≤ wc.heap.size + 1 + 1; omega) _) (by show wc.heap.size ≤ wc.heap.size + 1 + 1; omega) _
set_option maxRecDepth 100000 in
set_option maxHeartbeats 4000000 in
theorem aff23 (F : Tm → Tm) (t : Tm) (k0 k1 : Tm) (hop : t.op = 23) (hks : t.ks = [k0, k1]) (hF : F t = notT (leT k1.er k0.er)) (w : World) (ht : TIn w w.heap.size t) : Calls Tryd.prog 66 #[t.val] w (BecP F t w) := by
  have HT := mkHid ht
  have HFT := mkHid hF
  clear hF
  have hTV : t.val = t.val := rfl
  obtain ⟨op, nm, n, a, c, ks⟩ := t
  simp only [Tm.op, Tm.ks] at hop hks
  subst hop hks
  obtain ⟨kin0, b, o, ha, hbl, kf0⟩ := ht.kid 0 (by simp [Tm.ks])
  obtain ⟨kin1, b1, o1, ha1, hbl1, kf1⟩ := ht.kid 1 (by simp [Tm.ks])
  simp only [Tm.a, Tm.ks, List.getElem_cons_zero, List.getElem_cons_succ, Nat.zero_mul, Nat.one_mul, Nat.add_zero] at ha kin0 kf0 ha1 kin1 kf1
  subst ha
  cases ha1
  have hb2 : Below w.heap.size w ((w.alloc (.cells #[.int .i64 23, .string nm, .int .i64 n, .slice (some ⟨b, o, none⟩) 2 c] 24)).alloc (.cells #[.int .i64 0, .string ⟨#[]⟩, .int .i64 0, .slice none 0 0] 24)) := bal (bal (Below.refl _ _) _) _
  have TT : ((w.alloc (.cells #[.int .i64 23, .string nm, .int .i64 n, .slice (some ⟨b, o, none⟩) 2 c] 24)).alloc (.cells #[.int .i64 0, .string ⟨#[]⟩, .int .i64 0, .slice none 0 0] 24)).cell? ⟨w.heap.size, 0, none⟩ = some (.int .i64 23) ∧ ((w.alloc (.cells #[.int .i64 23, .string nm, .int .i64 n, .slice (some ⟨b, o, none⟩) 2 c] 24)).alloc (.cells #[.int .i64 0, .string ⟨#[]⟩, .int .i64 0, .slice none 0 0] 24)).cell? ⟨w.heap.size, 1, none⟩ = some (.string nm) ∧ ((w.alloc (.cells #[.int .i64 23, .string nm, .int .i64 n, .slice (some ⟨b, o, none⟩) 2 c] 24)).alloc (.cells #[.int .i64 0, .string ⟨#[]⟩, .int .i64 0, .slice none 0 0] 24)).cell? ⟨w.heap.size, 2, none⟩ = some (.int .i64 n) ∧ ((w.alloc (.cells #[.int .i64 23, .string nm, .int .i64 n, .slice (some ⟨b, o, none⟩) 2 c] 24)).alloc (.cells #[.int .i64 0, .string ⟨#[]⟩, .int .i64 0, .slice none 0 0] 24)).cell? ⟨w.heap.size, 3, none⟩ = some (.slice (some ⟨b, o, none⟩) 2 c) := by simp [go_sem]
  have FR0 : FourV' ((w.alloc (.cells #[.int .i64 23, .string nm, .int .i64 n, .slice (some ⟨b, o, none⟩) 2 c] 24)).alloc (.cells #[.int .i64 0, .string ⟨#[]⟩, .int .i64 0, .slice none 0 0] 24)) (w.heap.size + 1) (.int .i64 0) (.string ⟨#[]⟩) (.int .i64 0) (.slice none 0 0) := by simp [FourV', go_sem]
  have hX2 : w.heap.size + 1 < ((w.alloc (.cells #[.int .i64 23, .string nm, .int .i64 n, .slice (some ⟨b, o, none⟩) 2 c] 24)).alloc (.cells #[.int .i64 0, .string ⟨#[]⟩, .int .i64 0, .slice none 0 0] 24)).heap.size := by simp
  generalize hW2 : ((w.alloc (.cells #[.int .i64 23, .string nm, .int .i64 n, .slice (some ⟨b, o, none⟩) 2 c] 24)).alloc (.cells #[.int .i64 0, .string ⟨#[]⟩, .int .i64 0, .slice none 0 0] 24)) = W2 at *
  obtain ⟨q00, q01, q02, q03⟩ : Four W2 b o k0 := Four.keep kf0 hb2 hbl
  obtain ⟨q10, q11, q12, q13⟩ : Four W2 b (o + 4) k1 := Four.keep kf1 hb2 hbl1
  clear kin0 kf0 kin1 kf1
  unfold Tm.val
  simp only [Tm.op, Tm.nm, Tm.n, Tm.a, Tm.ks, Tm.c, List.length_cons, List.length_nil, Nat.zero_add, Nat.reduceAdd]
  obtain ⟨u0, u1, u2, u3⟩ := TT
  have FR := mkHid FR0
  have SZ := hX2
  have BW := hb2
  clear FR0 hX2 hb2 ht hTV
  go_enter Tryd.func66, Tryd.ntmps66
  go_wp2_with fail
  (try dsimp only [List.append])
  refine wp_region_held_drew (S := fun w' => w'.cell? ⟨w.heap.size, 0, none⟩ = some (.int .i64 23) ∧ w'.cell? ⟨w.heap.size, 1, none⟩ = some (.string nm) ∧ w'.cell? ⟨w.heap.size, 2, none⟩ = some (.int .i64 n) ∧ w'.cell? ⟨w.heap.size, 3, none⟩ = some (.slice (some ⟨b, o, none⟩) 2 c) ∧ w'.cell? ⟨b, o, none⟩ = some (.int .i64 k0.op) ∧ w'.cell? ⟨b, o + 1, none⟩ = some (.string k0.nm) ∧ w'.cell? ⟨b, o + 2, none⟩ = some (.int .i64 k0.n) ∧ w'.cell? ⟨b, o + 3, none⟩ = some (.slice k0.a k0.ks.length k0.c) ∧ w'.cell? ⟨b, o + 4, none⟩ = some (.int .i64 k1.op) ∧ w'.cell? ⟨b, o + 4 + 1, none⟩ = some (.string k1.nm) ∧ w'.cell? ⟨b, o + 4 + 2, none⟩ = some (.int .i64 k1.n) ∧ w'.cell? ⟨b, o + 4 + 3, none⟩ = some (.slice k1.a k1.ks.length k1.c)) (by kernel_rfl) ⟨u0, u1, u2, u3, q00, q01, q02, q03, q10, q11, q12, q13⟩ (fun hHeld => ?_)
  replace FR := mkHid (FR.out.later (bdrew (Below.refl W2.heap.size W2)))
  replace BW := bdrew BW
  replace SZ : w.heap.size + 1 < W2.drew.heap.size := SZ
  clear hW2 u0 u1 u2 u3 q00 q01 q02 q03 q10 q11 q12 q13
  generalize W2.drew = V at *
  refine wpAnyH_take (i := 0) (v := ?_) rfl (by kernel_rfl) (by kernel_rfl) (by kernel_rfl) (fun _ _ _ h => h) (Or.inl ⟨by kernel_rfl, ?_⟩) (by assumption) ?_
  rotate_left
  · (intro w hSw; (try dsimp only at hSw); go_simp; try with_reducible rfl)
  simp only [Act.put, List.getElem_toArray, List.getElem_cons_zero, List.setIfInBounds_toArray, List.set_cons_zero, List.set_cons_succ]
  refine wpAnyH_take (i := 1) (v := ?_) rfl (by kernel_rfl) (by kernel_rfl) (by kernel_rfl) (fun _ _ _ h => h) (Or.inl ⟨by kernel_rfl, ?_⟩) (by assumption) ?_
  rotate_left
  · (intro w hSw; (try dsimp only at hSw); go_simp; try with_reducible rfl)
  simp only [Act.put, List.getElem_toArray, List.getElem_cons_succ, List.getElem_cons_zero, List.setIfInBounds_toArray, List.set_cons_zero, List.set_cons_succ]
  refine wpAnyH_take (i := 2) (v := ?_) rfl (by kernel_rfl) (by kernel_rfl) (by kernel_rfl) (fun _ _ _ h => h) (Or.inl ⟨by kernel_rfl, ?_⟩) (by assumption) ?_
  rotate_left
  · (intro w hSw; (try dsimp only at hSw); go_simp; try with_reducible rfl)
  simp only [Act.put, List.getElem_toArray, List.getElem_cons_succ, List.getElem_cons_zero, List.setIfInBounds_toArray, List.set_cons_zero, List.set_cons_succ]
  refine wpAnyH_take (i := 3) (v := ?_) rfl (by kernel_rfl) (by kernel_rfl) (by kernel_rfl) (fun _ _ _ h => h) (Or.inl ⟨by kernel_rfl, ?_⟩) (by assumption) ?_
  rotate_left
  · (intro w hSw; (try dsimp only at hSw); go_simp; try with_reducible rfl)
  simp only [Act.put, List.getElem_toArray, List.getElem_cons_succ, List.getElem_cons_zero, List.setIfInBounds_toArray, List.set_cons_zero, List.set_cons_succ]
  refine wpAnyH_take (i := 4) (v := ?_) rfl (by kernel_rfl) (by kernel_rfl) (by kernel_rfl) (fun _ _ _ h => h) (Or.inl ⟨by kernel_rfl, ?_⟩) (by assumption) ?_
  rotate_left
  · (intro w hSw; (try dsimp only at hSw); go_simp; try with_reducible rfl)
  simp only [Act.put, List.getElem_toArray, List.getElem_cons_succ, List.getElem_cons_zero, List.setIfInBounds_toArray, List.set_cons_zero, List.set_cons_succ]
  refine wpAnyH_take (i := 5) (v := ?_) rfl (by kernel_rfl) (by kernel_rfl) (by kernel_rfl) (fun _ _ _ h => h) (Or.inl ⟨by kernel_rfl, ?_⟩) (by assumption) ?_
  rotate_left
  · (intro w hSw; (try dsimp only at hSw); go_simp; try with_reducible rfl)
  simp only [Act.put, List.getElem_toArray, List.getElem_cons_succ, List.getElem_cons_zero, List.setIfInBounds_toArray, List.set_cons_zero, List.set_cons_succ]
  refine wpAnyH_take (i := 6) (v := ?_) rfl (by kernel_rfl) (by kernel_rfl) (by kernel_rfl) (fun _ _ _ h => h) (Or.inl ⟨by kernel_rfl, ?_⟩) (by assumption) ?_
  rotate_left
  · (intro w hSw; (try dsimp only at hSw); go_simp; try with_reducible rfl)
  simp only [Act.put, List.getElem_toArray, List.getElem_cons_succ, List.getElem_cons_zero, List.setIfInBounds_toArray, List.set_cons_zero, List.set_cons_succ]
  refine wpAnyH_take (i := 7) (v := ?_) rfl (by kernel_rfl) (by kernel_rfl) (by kernel_rfl) (fun _ _ _ h => h) (Or.inl ⟨by kernel_rfl, ?_⟩) (by assumption) ?_
  rotate_left
  · (intro w hSw; (try dsimp only at hSw); go_simp; try with_reducible rfl)
  simp only [Act.put, List.getElem_toArray, List.getElem_cons_succ, List.getElem_cons_zero, List.setIfInBounds_toArray, List.set_cons_zero, List.set_cons_succ]
  have Mk0 := mkHid (Mk.kid (k := k0) HT.out (by simp [Tm.ks]) BW)
  have Mk1 := mkHid (Mk.kid (k := k1) HT.out (by simp [Tm.ks]) BW)
  refine wpAnyH_ready (rs := [8]) (by kernel_rfl) (by simp) ?_
  refine AllReadyH.cons rfl (fun K hK => ?_) AllReadyH.nil
  go_simp
  have bg1 := bel_alloc V (.cells #[.int .i64 k1.op, .string k1.nm, .int .i64 k1.n, .slice k1.a k1.ks.length k1.c, .int .i64 k0.op, .string k0.nm, .int .i64 k0.n, .slice k0.a k0.ks.length k0.c] 24)
  refine hK.out _ _ (keep12 (by assumption) bg1) (fun hHeld => ?_)
  clear hK
  have Fg1 : Hid (Four (V.alloc (.cells #[.int .i64 k1.op, .string k1.nm, .int .i64 k1.n, .slice k1.a k1.ks.length k1.c, .int .i64 k0.op, .string k0.nm, .int .i64 k0.n, .slice k0.a k0.ks.length k0.c] 24)) V.heap.size 0 k1 ∧ Four (V.alloc (.cells #[.int .i64 k1.op, .string k1.nm, .int .i64 k1.n, .slice k1.a k1.ks.length k1.c, .int .i64 k0.op, .string k0.nm, .int .i64 k0.n, .slice k0.a k0.ks.length k0.c] 24)) V.heap.size 4 k0) := build2 V k1 k0
  have Gg1 : w.heap.size + 1 < V.heap.size := SZ
  generalize V.alloc (.cells #[.int .i64 k1.op, .string k1.nm, .int .i64 k1.n, .slice k1.a k1.ks.length k1.c, .int .i64 k0.op, .string k0.nm, .int .i64 k0.n, .slice k0.a k0.ks.length k0.c] 24) = Wg1 at *
  have BW1 := bon BW bg1
  have SZ1 : w.heap.size + 1 < Wg1.heap.size := Nat.lt_of_lt_of_le SZ bg1.size
  have FR1 := mkHid (FR.out.later bg1)
  replace Mk0 := mkHid (Mk0.out.later bg1)
  replace Mk1 := mkHid (Mk1.out.later bg1)
  skip
  refine wpAnyH_ready (rs := [9]) (by kernel_rfl) (by simp) ?_
  refine AllReadyH.cons rfl (fun K hK => ?_) AllReadyH.nil
  go_simp
  go_wp2_with (go_at_call 90; ((with_reducible refine (of_any _ _ _ _ _).mono ?_)); rintro e w3 ⟨rfl, hb3⟩)
  refine hK.out _ _ (keep12 (by assumption) hb3) (fun hHeld => ?_)
  clear hK
  have BW2 := bon BW1 hb3
  have SZ2 : w.heap.size + 1 < w3.heap.size := Nat.lt_of_lt_of_le SZ1 hb3.size
  have FR2 := mkHid (FR1.out.later hb3)
  replace Mk0 := mkHid (Mk0.out.later hb3)
  replace Mk1 := mkHid (Mk1.out.later hb3)
  replace Fg1 := mkHid (And.intro (Fg1.out.1.later hb3) (Fg1.out.2.later hb3))
  refine wpAnyH_ready (rs := [10]) (by kernel_rfl) (by simp) ?_
  refine AllReadyH.cons rfl (fun K hK => ?_) AllReadyH.nil
  go_simp
  have bg2 := bel_alloc w3 (.cells #[.int .i64 22, .string ⟨#[]⟩, .int .i64 0, .slice (some ⟨V.heap.size, 0, none⟩) 2 2] 24)
  refine hK.out _ _ (keep12 (by assumption) bg2) (fun hHeld => ?_)
  clear hK
  have Fg2 : Hid (Four (w3.alloc (.cells #[.int .i64 22, .string ⟨#[]⟩, .int .i64 0, .slice (some ⟨V.heap.size, 0, none⟩) 2 2] 24)) w3.heap.size 0 (q2 22 V.heap.size k1 k0)) := build1 w3 (q2 22 V.heap.size k1 k0)
  have Gg2 : w.heap.size + 1 < w3.heap.size := SZ2
  generalize w3.alloc (.cells #[.int .i64 22, .string ⟨#[]⟩, .int .i64 0, .slice (some ⟨V.heap.size, 0, none⟩) 2 2] 24) = Wg2 at *
  have BW3 := bon BW2 bg2
  have SZ3 : w.heap.size + 1 < Wg2.heap.size := Nat.lt_of_lt_of_le SZ2 bg2.size
  have FR3 := mkHid (FR2.out.later bg2)
  replace Mk0 := mkHid (Mk0.out.later bg2)
  replace Mk1 := mkHid (Mk1.out.later bg2)
  replace Fg1 := mkHid (And.intro (Fg1.out.1.later bg2) (Fg1.out.2.later bg2))
  skip
  refine wpAnyH_ready (rs := [11]) (by kernel_rfl) (by simp) ?_
  refine AllReadyH.cons rfl (fun K hK => ?_) AllReadyH.nil
  go_simp
  go_wp2_with (go_at_call 90; ((with_reducible refine (of_any _ _ _ _ _).mono ?_)); rintro e w4 ⟨rfl, hb4⟩)
  refine hK.out _ _ (keep12 (by assumption) hb4) (fun hHeld => ?_)
  clear hK
  have BW4 := bon BW3 hb4
  have SZ4 : w.heap.size + 1 < w4.heap.size := Nat.lt_of_lt_of_le SZ3 hb4.size
  have FR4 := mkHid (FR3.out.later hb4)
  replace Mk0 := mkHid (Mk0.out.later hb4)
  replace Mk1 := mkHid (Mk1.out.later hb4)
  replace Fg1 := mkHid (And.intro (Fg1.out.1.later hb4) (Fg1.out.2.later hb4))
  replace Fg2 := mkHid (Fg2.out.later hb4)
  obtain ⟨m0, m1, m2, m3, f0, f1, f2, f3⟩ := FR4.out
  refine wpAnyH_ready (rs := [12]) (by kernel_rfl) (by simp) ?_
  refine AllReadyH.cons rfl (fun K hK => ?_) AllReadyH.nil
  go_simp
  have BS : But (w.heap.size + 1) w4 ((((w4.setCell ⟨w.heap.size + 1, 0, none⟩ (.int .i64 18)).setCell ⟨w.heap.size + 1, 1, none⟩ (.string ⟨#[]⟩)).setCell ⟨w.heap.size + 1, 2, none⟩ (.int .i64 0)).setCell ⟨w.heap.size + 1, 3, none⟩ (.slice (some ⟨w3.heap.size, 0, none⟩) 1 1)) := ((((But.refl _ _).set (p := ⟨w.heap.size + 1, 0, none⟩) (.inl rfl) _).set (p := ⟨w.heap.size + 1, 1, none⟩) (.inl rfl) _).set (p := ⟨w.heap.size + 1, 2, none⟩) (.inl rfl) _).set (p := ⟨w.heap.size + 1, 3, none⟩) (.inl rfl) _
  have HN0 : Hid (w.heap.size ≠ w.heap.size + 1) := Nat.ne_of_lt (Nat.lt_succ_self _)
  have HNb : Hid (b ≠ w.heap.size + 1) := Nat.ne_of_lt (Nat.lt_succ_of_lt hbl)
  refine hK.out _ _ (keep12B (by assumption) BS HN0.out HN0.out HN0.out HN0.out HNb.out HNb.out HNb.out HNb.out HNb.out HNb.out HNb.out HNb.out) (fun hHeld => ?_)
  clear hK hHeld
  refine wpAnyH_done (by kernel_rfl) ?_ _
  go_wp2
  refine bodyPost_ret (v := .agg #[.int .i64 18, .string ⟨#[]⟩, .int .i64 0, .slice (some ⟨w3.heap.size, 0, none⟩) 1 1]) (by simp [results, Tryd.results66, go_sem, m0, m1, m2, m3]) rfl (Mk.fin (x := (q1 18 w3.heap.size (q2 22 V.heap.size k1 k0))) (Mk.one (Mk.two Mk1.out Mk0.out Fg1.out Gg1 (by decide)) Fg2.out Gg2 (by decide)) BW4 ?_)
  rw [HFT.out, q1_er, q2_er]; all_goals rfl
set_option maxRecDepth 100000 in
set_option maxHeartbeats 4000000 in
theorem den23 (F : Tm → Tm) (t : Tm) (k0 k1 : Tm) (hop : t.op = 23) (hks : t.ks = [k0, k1]) (hF : F t = leT k1.er k0.er) (w : World) (ht : TIn w w.heap.size t) : Calls Tryd.prog 89 #[t.val] w (BecP F t w) := by
  have HT := mkHid ht
  have HFT := mkHid hF
  clear hF
  have hTV : t.val = t.val := rfl
  obtain ⟨op, nm, n, a, c, ks⟩ := t
  simp only [Tm.op, Tm.ks] at hop hks
  subst hop hks
  obtain ⟨kin0, b, o, ha, hbl, kf0⟩ := ht.kid 0 (by simp [Tm.ks])
  obtain ⟨kin1, b1, o1, ha1, hbl1, kf1⟩ := ht.kid 1 (by simp [Tm.ks])
  simp only [Tm.a, Tm.ks, List.getElem_cons_zero, List.getElem_cons_succ, Nat.zero_mul, Nat.one_mul, Nat.add_zero] at ha kin0 kf0 ha1 kin1 kf1
  subst ha
  cases ha1
  have hb2 : Below w.heap.size w ((w.alloc (.cells #[.int .i64 23, .string nm, .int .i64 n, .slice (some ⟨b, o, none⟩) 2 c] 24)).alloc (.cells #[.int .i64 0, .string ⟨#[]⟩, .int .i64 0, .slice none 0 0] 24)) := bal (bal (Below.refl _ _) _) _
  have TT : ((w.alloc (.cells #[.int .i64 23, .string nm, .int .i64 n, .slice (some ⟨b, o, none⟩) 2 c] 24)).alloc (.cells #[.int .i64 0, .string ⟨#[]⟩, .int .i64 0, .slice none 0 0] 24)).cell? ⟨w.heap.size, 0, none⟩ = some (.int .i64 23) ∧ ((w.alloc (.cells #[.int .i64 23, .string nm, .int .i64 n, .slice (some ⟨b, o, none⟩) 2 c] 24)).alloc (.cells #[.int .i64 0, .string ⟨#[]⟩, .int .i64 0, .slice none 0 0] 24)).cell? ⟨w.heap.size, 1, none⟩ = some (.string nm) ∧ ((w.alloc (.cells #[.int .i64 23, .string nm, .int .i64 n, .slice (some ⟨b, o, none⟩) 2 c] 24)).alloc (.cells #[.int .i64 0, .string ⟨#[]⟩, .int .i64 0, .slice none 0 0] 24)).cell? ⟨w.heap.size, 2, none⟩ = some (.int .i64 n) ∧ ((w.alloc (.cells #[.int .i64 23, .string nm, .int .i64 n, .slice (some ⟨b, o, none⟩) 2 c] 24)).alloc (.cells #[.int .i64 0, .string ⟨#[]⟩, .int .i64 0, .slice none 0 0] 24)).cell? ⟨w.heap.size, 3, none⟩ = some (.slice (some ⟨b, o, none⟩) 2 c) := by simp [go_sem]
  have FR0 : FourV' ((w.alloc (.cells #[.int .i64 23, .string nm, .int .i64 n, .slice (some ⟨b, o, none⟩) 2 c] 24)).alloc (.cells #[.int .i64 0, .string ⟨#[]⟩, .int .i64 0, .slice none 0 0] 24)) (w.heap.size + 1) (.int .i64 0) (.string ⟨#[]⟩) (.int .i64 0) (.slice none 0 0) := by simp [FourV', go_sem]
  have hX2 : w.heap.size + 1 < ((w.alloc (.cells #[.int .i64 23, .string nm, .int .i64 n, .slice (some ⟨b, o, none⟩) 2 c] 24)).alloc (.cells #[.int .i64 0, .string ⟨#[]⟩, .int .i64 0, .slice none 0 0] 24)).heap.size := by simp
  generalize hW2 : ((w.alloc (.cells #[.int .i64 23, .string nm, .int .i64 n, .slice (some ⟨b, o, none⟩) 2 c] 24)).alloc (.cells #[.int .i64 0, .string ⟨#[]⟩, .int .i64 0, .slice none 0 0] 24)) = W2 at *
  obtain ⟨q00, q01, q02, q03⟩ : Four W2 b o k0 := Four.keep kf0 hb2 hbl
  obtain ⟨q10, q11, q12, q13⟩ : Four W2 b (o + 4) k1 := Four.keep kf1 hb2 hbl1
  clear kin0 kf0 kin1 kf1
  unfold Tm.val
  simp only [Tm.op, Tm.nm, Tm.n, Tm.a, Tm.ks, Tm.c, List.length_cons, List.length_nil, Nat.zero_add, Nat.reduceAdd]
  obtain ⟨u0, u1, u2, u3⟩ := TT
  have FR := mkHid FR0
  have SZ := hX2
  have BW := hb2
  clear FR0 hX2 hb2 ht hTV
  go_enter Tryd.func89, Tryd.ntmps89
  go_wp2_with fail
  (try dsimp only [List.append])
  refine wp_region_held_drew (S := fun w' => w'.cell? ⟨w.heap.size, 0, none⟩ = some (.int .i64 23) ∧ w'.cell? ⟨w.heap.size, 1, none⟩ = some (.string nm) ∧ w'.cell? ⟨w.heap.size, 2, none⟩ = some (.int .i64 n) ∧ w'.cell? ⟨w.heap.size, 3, none⟩ = some (.slice (some ⟨b, o, none⟩) 2 c) ∧ w'.cell? ⟨b, o, none⟩ = some (.int .i64 k0.op) ∧ w'.cell? ⟨b, o + 1, none⟩ = some (.string k0.nm) ∧ w'.cell? ⟨b, o + 2, none⟩ = some (.int .i64 k0.n) ∧ w'.cell? ⟨b, o + 3, none⟩ = some (.slice k0.a k0.ks.length k0.c) ∧ w'.cell? ⟨b, o + 4, none⟩ = some (.int .i64 k1.op) ∧ w'.cell? ⟨b, o + 4 + 1, none⟩ = some (.string k1.nm) ∧ w'.cell? ⟨b, o + 4 + 2, none⟩ = some (.int .i64 k1.n) ∧ w'.cell? ⟨b, o + 4 + 3, none⟩ = some (.slice k1.a k1.ks.length k1.c)) (by kernel_rfl) ⟨u0, u1, u2, u3, q00, q01, q02, q03, q10, q11, q12, q13⟩ (fun hHeld => ?_)
  replace FR := mkHid (FR.out.later (bdrew (Below.refl W2.heap.size W2)))
  replace BW := bdrew BW
  replace SZ : w.heap.size + 1 < W2.drew.heap.size := SZ
  clear hW2 u0 u1 u2 u3 q00 q01 q02 q03 q10 q11 q12 q13
  generalize W2.drew = V at *
  refine wpAnyH_take (i := 0) (v := ?_) rfl (by kernel_rfl) (by kernel_rfl) (by kernel_rfl) (fun _ _ _ h => h) (Or.inl ⟨by kernel_rfl, ?_⟩) (by assumption) ?_
  rotate_left
  · (intro w hSw; (try dsimp only at hSw); go_simp; try with_reducible rfl)
  simp only [Act.put, List.getElem_toArray, List.getElem_cons_zero, List.setIfInBounds_toArray, List.set_cons_zero, List.set_cons_succ]
  refine wpAnyH_take (i := 1) (v := ?_) rfl (by kernel_rfl) (by kernel_rfl) (by kernel_rfl) (fun _ _ _ h => h) (Or.inl ⟨by kernel_rfl, ?_⟩) (by assumption) ?_
  rotate_left
  · (intro w hSw; (try dsimp only at hSw); go_simp; try with_reducible rfl)
  simp only [Act.put, List.getElem_toArray, List.getElem_cons_succ, List.getElem_cons_zero, List.setIfInBounds_toArray, List.set_cons_zero, List.set_cons_succ]
  refine wpAnyH_take (i := 2) (v := ?_) rfl (by kernel_rfl) (by kernel_rfl) (by kernel_rfl) (fun _ _ _ h => h) (Or.inl ⟨by kernel_rfl, ?_⟩) (by assumption) ?_
  rotate_left
  · (intro w hSw; (try dsimp only at hSw); go_simp; try with_reducible rfl)
  simp only [Act.put, List.getElem_toArray, List.getElem_cons_succ, List.getElem_cons_zero, List.setIfInBounds_toArray, List.set_cons_zero, List.set_cons_succ]
  refine wpAnyH_take (i := 3) (v := ?_) rfl (by kernel_rfl) (by kernel_rfl) (by kernel_rfl) (fun _ _ _ h => h) (Or.inl ⟨by kernel_rfl, ?_⟩) (by assumption) ?_
  rotate_left
  · (intro w hSw; (try dsimp only at hSw); go_simp; try with_reducible rfl)
  simp only [Act.put, List.getElem_toArray, List.getElem_cons_succ, List.getElem_cons_zero, List.setIfInBounds_toArray, List.set_cons_zero, List.set_cons_succ]
  refine wpAnyH_take (i := 4) (v := ?_) rfl (by kernel_rfl) (by kernel_rfl) (by kernel_rfl) (fun _ _ _ h => h) (Or.inl ⟨by kernel_rfl, ?_⟩) (by assumption) ?_
  rotate_left
  · (intro w hSw; (try dsimp only at hSw); go_simp; try with_reducible rfl)
  simp only [Act.put, List.getElem_toArray, List.getElem_cons_succ, List.getElem_cons_zero, List.setIfInBounds_toArray, List.set_cons_zero, List.set_cons_succ]
  refine wpAnyH_take (i := 5) (v := ?_) rfl (by kernel_rfl) (by kernel_rfl) (by kernel_rfl) (fun _ _ _ h => h) (Or.inl ⟨by kernel_rfl, ?_⟩) (by assumption) ?_
  rotate_left
  · (intro w hSw; (try dsimp only at hSw); go_simp; try with_reducible rfl)
  simp only [Act.put, List.getElem_toArray, List.getElem_cons_succ, List.getElem_cons_zero, List.setIfInBounds_toArray, List.set_cons_zero, List.set_cons_succ]
  refine wpAnyH_take (i := 6) (v := ?_) rfl (by kernel_rfl) (by kernel_rfl) (by kernel_rfl) (fun _ _ _ h => h) (Or.inl ⟨by kernel_rfl, ?_⟩) (by assumption) ?_
  rotate_left
  · (intro w hSw; (try dsimp only at hSw); go_simp; try with_reducible rfl)
  simp only [Act.put, List.getElem_toArray, List.getElem_cons_succ, List.getElem_cons_zero, List.setIfInBounds_toArray, List.set_cons_zero, List.set_cons_succ]
  refine wpAnyH_take (i := 7) (v := ?_) rfl (by kernel_rfl) (by kernel_rfl) (by kernel_rfl) (fun _ _ _ h => h) (Or.inl ⟨by kernel_rfl, ?_⟩) (by assumption) ?_
  rotate_left
  · (intro w hSw; (try dsimp only at hSw); go_simp; try with_reducible rfl)
  simp only [Act.put, List.getElem_toArray, List.getElem_cons_succ, List.getElem_cons_zero, List.setIfInBounds_toArray, List.set_cons_zero, List.set_cons_succ]
  have Mk0 := mkHid (Mk.kid (k := k0) HT.out (by simp [Tm.ks]) BW)
  have Mk1 := mkHid (Mk.kid (k := k1) HT.out (by simp [Tm.ks]) BW)
  refine wpAnyH_ready (rs := [8]) (by kernel_rfl) (by simp) ?_
  refine AllReadyH.cons rfl (fun K hK => ?_) AllReadyH.nil
  go_simp
  have bg1 := bel_alloc V (.cells #[.int .i64 k1.op, .string k1.nm, .int .i64 k1.n, .slice k1.a k1.ks.length k1.c, .int .i64 k0.op, .string k0.nm, .int .i64 k0.n, .slice k0.a k0.ks.length k0.c] 24)
  refine hK.out _ _ (keep12 (by assumption) bg1) (fun hHeld => ?_)
  clear hK
  have Fg1 : Hid (Four (V.alloc (.cells #[.int .i64 k1.op, .string k1.nm, .int .i64 k1.n, .slice k1.a k1.ks.length k1.c, .int .i64 k0.op, .string k0.nm, .int .i64 k0.n, .slice k0.a k0.ks.length k0.c] 24)) V.heap.size 0 k1 ∧ Four (V.alloc (.cells #[.int .i64 k1.op, .string k1.nm, .int .i64 k1.n, .slice k1.a k1.ks.length k1.c, .int .i64 k0.op, .string k0.nm, .int .i64 k0.n, .slice k0.a k0.ks.length k0.c] 24)) V.heap.size 4 k0) := build2 V k1 k0
  have Gg1 : w.heap.size + 1 < V.heap.size := SZ
  generalize V.alloc (.cells #[.int .i64 k1.op, .string k1.nm, .int .i64 k1.n, .slice k1.a k1.ks.length k1.c, .int .i64 k0.op, .string k0.nm, .int .i64 k0.n, .slice k0.a k0.ks.length k0.c] 24) = Wg1 at *
  have BW1 := bon BW bg1
  have SZ1 : w.heap.size + 1 < Wg1.heap.size := Nat.lt_of_lt_of_le SZ bg1.size
  have FR1 := mkHid (FR.out.later bg1)
  replace Mk0 := mkHid (Mk0.out.later bg1)
  replace Mk1 := mkHid (Mk1.out.later bg1)
  skip
  refine wpAnyH_ready (rs := [9]) (by kernel_rfl) (by simp) ?_
  refine AllReadyH.cons rfl (fun K hK => ?_) AllReadyH.nil
  go_simp
  go_wp2_with (go_at_call 90; ((with_reducible refine (of_any _ _ _ _ _).mono ?_)); rintro e w3 ⟨rfl, hb3⟩)
  refine hK.out _ _ (keep12 (by assumption) hb3) (fun hHeld => ?_)
  clear hK
  have BW2 := bon BW1 hb3
  have SZ2 : w.heap.size + 1 < w3.heap.size := Nat.lt_of_lt_of_le SZ1 hb3.size
  have FR2 := mkHid (FR1.out.later hb3)
  replace Mk0 := mkHid (Mk0.out.later hb3)
  replace Mk1 := mkHid (Mk1.out.later hb3)
  replace Fg1 := mkHid (And.intro (Fg1.out.1.later hb3) (Fg1.out.2.later hb3))
  obtain ⟨m0, m1, m2, m3, f0, f1, f2, f3⟩ := FR2.out
  refine wpAnyH_ready (rs := [10]) (by kernel_rfl) (by simp) ?_
  refine AllReadyH.cons rfl (fun K hK => ?_) AllReadyH.nil
  go_simp
  have BS : But (w.heap.size + 1) w3 ((((w3.setCell ⟨w.heap.size + 1, 0, none⟩ (.int .i64 22)).setCell ⟨w.heap.size + 1, 1, none⟩ (.string ⟨#[]⟩)).setCell ⟨w.heap.size + 1, 2, none⟩ (.int .i64 0)).setCell ⟨w.heap.size + 1, 3, none⟩ (.slice (some ⟨V.heap.size, 0, none⟩) 2 2)) := ((((But.refl _ _).set (p := ⟨w.heap.size + 1, 0, none⟩) (.inl rfl) _).set (p := ⟨w.heap.size + 1, 1, none⟩) (.inl rfl) _).set (p := ⟨w.heap.size + 1, 2, none⟩) (.inl rfl) _).set (p := ⟨w.heap.size + 1, 3, none⟩) (.inl rfl) _
  have HN0 : Hid (w.heap.size ≠ w.heap.size + 1) := Nat.ne_of_lt (Nat.lt_succ_self _)
  have HNb : Hid (b ≠ w.heap.size + 1) := Nat.ne_of_lt (Nat.lt_succ_of_lt hbl)
  refine hK.out _ _ (keep12B (by assumption) BS HN0.out HN0.out HN0.out HN0.out HNb.out HNb.out HNb.out HNb.out HNb.out HNb.out HNb.out HNb.out) (fun hHeld => ?_)
  clear hK hHeld
  refine wpAnyH_done (by kernel_rfl) ?_ _
  go_wp2
  refine bodyPost_ret (v := .agg #[.int .i64 22, .string ⟨#[]⟩, .int .i64 0, .slice (some ⟨V.heap.size, 0, none⟩) 2 2]) (by simp [results, Tryd.results89, go_sem, m0, m1, m2, m3]) rfl (Mk.fin (x := (q2 22 V.heap.size k1 k0)) (Mk.two Mk1.out Mk0.out Fg1.out Gg1 (by decide)) BW2 ?_)
  rw [HFT.out, q2_er]; all_goals rfl
set_option maxRecDepth 100000 in
set_option maxHeartbeats 4000000 in
theorem aff26 (F : Tm → Tm) (t : Tm) (k0 k1 : Tm) (hop : t.op = 26) (hks : t.ks = [k0, k1]) (hF : F t = insT k0.er k1.er) (w : World) (ht : TIn w w.heap.size t) : Calls Tryd.prog 66 #[t.val] w (BecP F t w) := by
  have HT := mkHid ht
  have HFT := mkHid hF
  clear hF
  have hTV : t.val = t.val := rfl
  obtain ⟨op, nm, n, a, c, ks⟩ := t
  simp only [Tm.op, Tm.ks] at hop hks
  subst hop hks
  obtain ⟨kin0, b, o, ha, hbl, kf0⟩ := ht.kid 0 (by simp [Tm.ks])
  obtain ⟨kin1, b1, o1, ha1, hbl1, kf1⟩ := ht.kid 1 (by simp [Tm.ks])
  simp only [Tm.a, Tm.ks, List.getElem_cons_zero, List.getElem_cons_succ, Nat.zero_mul, Nat.one_mul, Nat.add_zero] at ha kin0 kf0 ha1 kin1 kf1
  subst ha
  cases ha1
  have hb2 : Below w.heap.size w ((w.alloc (.cells #[.int .i64 26, .string nm, .int .i64 n, .slice (some ⟨b, o, none⟩) 2 c] 24)).alloc (.cells #[.int .i64 0, .string ⟨#[]⟩, .int .i64 0, .slice none 0 0] 24)) := bal (bal (Below.refl _ _) _) _
  have TT : ((w.alloc (.cells #[.int .i64 26, .string nm, .int .i64 n, .slice (some ⟨b, o, none⟩) 2 c] 24)).alloc (.cells #[.int .i64 0, .string ⟨#[]⟩, .int .i64 0, .slice none 0 0] 24)).cell? ⟨w.heap.size, 0, none⟩ = some (.int .i64 26) ∧ ((w.alloc (.cells #[.int .i64 26, .string nm, .int .i64 n, .slice (some ⟨b, o, none⟩) 2 c] 24)).alloc (.cells #[.int .i64 0, .string ⟨#[]⟩, .int .i64 0, .slice none 0 0] 24)).cell? ⟨w.heap.size, 1, none⟩ = some (.string nm) ∧ ((w.alloc (.cells #[.int .i64 26, .string nm, .int .i64 n, .slice (some ⟨b, o, none⟩) 2 c] 24)).alloc (.cells #[.int .i64 0, .string ⟨#[]⟩, .int .i64 0, .slice none 0 0] 24)).cell? ⟨w.heap.size, 2, none⟩ = some (.int .i64 n) ∧ ((w.alloc (.cells #[.int .i64 26, .string nm, .int .i64 n, .slice (some ⟨b, o, none⟩) 2 c] 24)).alloc (.cells #[.int .i64 0, .string ⟨#[]⟩, .int .i64 0, .slice none 0 0] 24)).cell? ⟨w.heap.size, 3, none⟩ = some (.slice (some ⟨b, o, none⟩) 2 c) := by simp [go_sem]
  have FR0 : FourV' ((w.alloc (.cells #[.int .i64 26, .string nm, .int .i64 n, .slice (some ⟨b, o, none⟩) 2 c] 24)).alloc (.cells #[.int .i64 0, .string ⟨#[]⟩, .int .i64 0, .slice none 0 0] 24)) (w.heap.size + 1) (.int .i64 0) (.string ⟨#[]⟩) (.int .i64 0) (.slice none 0 0) := by simp [FourV', go_sem]
  have hX2 : w.heap.size + 1 < ((w.alloc (.cells #[.int .i64 26, .string nm, .int .i64 n, .slice (some ⟨b, o, none⟩) 2 c] 24)).alloc (.cells #[.int .i64 0, .string ⟨#[]⟩, .int .i64 0, .slice none 0 0] 24)).heap.size := by simp
  generalize hW2 : ((w.alloc (.cells #[.int .i64 26, .string nm, .int .i64 n, .slice (some ⟨b, o, none⟩) 2 c] 24)).alloc (.cells #[.int .i64 0, .string ⟨#[]⟩, .int .i64 0, .slice none 0 0] 24)) = W2 at *
  obtain ⟨q00, q01, q02, q03⟩ : Four W2 b o k0 := Four.keep kf0 hb2 hbl
  obtain ⟨q10, q11, q12, q13⟩ : Four W2 b (o + 4) k1 := Four.keep kf1 hb2 hbl1
  clear kin0 kf0 kin1 kf1
  unfold Tm.val
  simp only [Tm.op, Tm.nm, Tm.n, Tm.a, Tm.ks, Tm.c, List.length_cons, List.length_nil, Nat.zero_add, Nat.reduceAdd]
  obtain ⟨u0, u1, u2, u3⟩ := TT
  have FR := mkHid FR0
  have SZ := hX2
  have BW := hb2
  clear FR0 hX2 hb2 ht hTV
  go_enter Tryd.func66, Tryd.ntmps66
  go_wp2_with fail
  (try dsimp only [List.append])
  refine wp_region_held_drew (S := fun w' => w'.cell? ⟨w.heap.size, 0, none⟩ = some (.int .i64 26) ∧ w'.cell? ⟨w.heap.size, 1, none⟩ = some (.string nm) ∧ w'.cell? ⟨w.heap.size, 2, none⟩ = some (.int .i64 n) ∧ w'.cell? ⟨w.heap.size, 3, none⟩ = some (.slice (some ⟨b, o, none⟩) 2 c) ∧ w'.cell? ⟨b, o, none⟩ = some (.int .i64 k0.op) ∧ w'.cell? ⟨b, o + 1, none⟩ = some (.string k0.nm) ∧ w'.cell? ⟨b, o + 2, none⟩ = some (.int .i64 k0.n) ∧ w'.cell? ⟨b, o + 3, none⟩ = some (.slice k0.a k0.ks.length k0.c) ∧ w'.cell? ⟨b, o + 4, none⟩ = some (.int .i64 k1.op) ∧ w'.cell? ⟨b, o + 4 + 1, none⟩ = some (.string k1.nm) ∧ w'.cell? ⟨b, o + 4 + 2, none⟩ = some (.int .i64 k1.n) ∧ w'.cell? ⟨b, o + 4 + 3, none⟩ = some (.slice k1.a k1.ks.length k1.c)) (by kernel_rfl) ⟨u0, u1, u2, u3, q00, q01, q02, q03, q10, q11, q12, q13⟩ (fun hHeld => ?_)
  replace FR := mkHid (FR.out.later (bdrew (Below.refl W2.heap.size W2)))
  replace BW := bdrew BW
  replace SZ : w.heap.size + 1 < W2.drew.heap.size := SZ
  clear hW2 u0 u1 u2 u3 q00 q01 q02 q03 q10 q11 q12 q13
  generalize W2.drew = V at *
  refine wpAnyH_take (i := 0) (v := ?_) rfl (by kernel_rfl) (by kernel_rfl) (by kernel_rfl) (fun _ _ _ h => h) (Or.inl ⟨by kernel_rfl, ?_⟩) (by assumption) ?_
  rotate_left
  · (intro w hSw; (try dsimp only at hSw); go_simp; try with_reducible rfl)
  simp only [Act.put, List.getElem_toArray, List.getElem_cons_zero, List.setIfInBounds_toArray, List.set_cons_zero, List.set_cons_succ]
  refine wpAnyH_take (i := 1) (v := ?_) rfl (by kernel_rfl) (by kernel_rfl) (by kernel_rfl) (fun _ _ _ h => h) (Or.inl ⟨by kernel_rfl, ?_⟩) (by assumption) ?_
  rotate_left
  · (intro w hSw; (try dsimp only at hSw); go_simp; try with_reducible rfl)
  simp only [Act.put, List.getElem_toArray, List.getElem_cons_succ, List.getElem_cons_zero, List.setIfInBounds_toArray, List.set_cons_zero, List.set_cons_succ]
  refine wpAnyH_take (i := 2) (v := ?_) rfl (by kernel_rfl) (by kernel_rfl) (by kernel_rfl) (fun _ _ _ h => h) (Or.inl ⟨by kernel_rfl, ?_⟩) (by assumption) ?_
  rotate_left
  · (intro w hSw; (try dsimp only at hSw); go_simp; try with_reducible rfl)
  simp only [Act.put, List.getElem_toArray, List.getElem_cons_succ, List.getElem_cons_zero, List.setIfInBounds_toArray, List.set_cons_zero, List.set_cons_succ]
  refine wpAnyH_take (i := 3) (v := ?_) rfl (by kernel_rfl) (by kernel_rfl) (by kernel_rfl) (fun _ _ _ h => h) (Or.inl ⟨by kernel_rfl, ?_⟩) (by assumption) ?_
  rotate_left
  · (intro w hSw; (try dsimp only at hSw); go_simp; try with_reducible rfl)
  simp only [Act.put, List.getElem_toArray, List.getElem_cons_succ, List.getElem_cons_zero, List.setIfInBounds_toArray, List.set_cons_zero, List.set_cons_succ]
  refine wpAnyH_take (i := 4) (v := ?_) rfl (by kernel_rfl) (by kernel_rfl) (by kernel_rfl) (fun _ _ _ h => h) (Or.inl ⟨by kernel_rfl, ?_⟩) (by assumption) ?_
  rotate_left
  · (intro w hSw; (try dsimp only at hSw); go_simp; try with_reducible rfl)
  simp only [Act.put, List.getElem_toArray, List.getElem_cons_succ, List.getElem_cons_zero, List.setIfInBounds_toArray, List.set_cons_zero, List.set_cons_succ]
  refine wpAnyH_take (i := 5) (v := ?_) rfl (by kernel_rfl) (by kernel_rfl) (by kernel_rfl) (fun _ _ _ h => h) (Or.inl ⟨by kernel_rfl, ?_⟩) (by assumption) ?_
  rotate_left
  · (intro w hSw; (try dsimp only at hSw); go_simp; try with_reducible rfl)
  simp only [Act.put, List.getElem_toArray, List.getElem_cons_succ, List.getElem_cons_zero, List.setIfInBounds_toArray, List.set_cons_zero, List.set_cons_succ]
  refine wpAnyH_take (i := 6) (v := ?_) rfl (by kernel_rfl) (by kernel_rfl) (by kernel_rfl) (fun _ _ _ h => h) (Or.inl ⟨by kernel_rfl, ?_⟩) (by assumption) ?_
  rotate_left
  · (intro w hSw; (try dsimp only at hSw); go_simp; try with_reducible rfl)
  simp only [Act.put, List.getElem_toArray, List.getElem_cons_succ, List.getElem_cons_zero, List.setIfInBounds_toArray, List.set_cons_zero, List.set_cons_succ]
  refine wpAnyH_take (i := 7) (v := ?_) rfl (by kernel_rfl) (by kernel_rfl) (by kernel_rfl) (fun _ _ _ h => h) (Or.inl ⟨by kernel_rfl, ?_⟩) (by assumption) ?_
  rotate_left
  · (intro w hSw; (try dsimp only at hSw); go_simp; try with_reducible rfl)
  simp only [Act.put, List.getElem_toArray, List.getElem_cons_succ, List.getElem_cons_zero, List.setIfInBounds_toArray, List.set_cons_zero, List.set_cons_succ]
  have Mk0 := mkHid (Mk.kid (k := k0) HT.out (by simp [Tm.ks]) BW)
  have Mk1 := mkHid (Mk.kid (k := k1) HT.out (by simp [Tm.ks]) BW)
  refine wpAnyH_ready (rs := [8]) (by kernel_rfl) (by simp) ?_
  refine AllReadyH.cons rfl (fun K hK => ?_) AllReadyH.nil
  have P3 : Hid (Calls Tryd.prog 92 #[.agg #[.int .i64 k0.op, .string k0.nm, .int .i64 k0.n, .slice k0.a k0.ks.length k0.c], .agg #[.int .i64 k1.op, .string k1.nm, .int .i64 k1.n, .slice k1.a k1.ks.length k1.c]] V (InsP w (.node 26 nm n (some ⟨b, o, none⟩) c [k0, k1]) k0 k1 V)) := mkHid (inside_any w (.node 26 nm n (some ⟨b, o, none⟩) c [k0, k1]) k0 k1 V Mk0.out Mk1.out SZ)
  go_simp
  go_wp2_with (go_at_call 92; ((with_reducible refine (P3.out).mono ?_)); rintro e w3 ⟨z, rfl, ze, zt, hb3⟩)
  refine hK.out _ _ (keep12 (by assumption) hb3) (fun hHeld => ?_)
  clear hK
  have BW1 := bon BW hb3
  have SZ1 : w.heap.size + 1 < w3.heap.size := Nat.lt_of_lt_of_le SZ hb3.size
  have FR1 := mkHid (FR.out.later hb3)
  replace Mk0 := mkHid (Mk0.out.later hb3)
  replace Mk1 := mkHid (Mk1.out.later hb3)
  have Mz := mkHid zt
  unfold Tm.val
  obtain ⟨m0, m1, m2, m3, f0, f1, f2, f3⟩ := FR1.out
  refine wpAnyH_ready (rs := [9]) (by kernel_rfl) (by simp) ?_
  refine AllReadyH.cons rfl (fun K hK => ?_) AllReadyH.nil
  go_simp
  have BS : But (w.heap.size + 1) w3 ((((w3.setCell ⟨w.heap.size + 1, 0, none⟩ (.int .i64 z.op)).setCell ⟨w.heap.size + 1, 1, none⟩ (.string z.nm)).setCell ⟨w.heap.size + 1, 2, none⟩ (.int .i64 z.n)).setCell ⟨w.heap.size + 1, 3, none⟩ (.slice z.a z.ks.length z.c)) := ((((But.refl _ _).set (p := ⟨w.heap.size + 1, 0, none⟩) (.inl rfl) _).set (p := ⟨w.heap.size + 1, 1, none⟩) (.inl rfl) _).set (p := ⟨w.heap.size + 1, 2, none⟩) (.inl rfl) _).set (p := ⟨w.heap.size + 1, 3, none⟩) (.inl rfl) _
  have HN0 : Hid (w.heap.size ≠ w.heap.size + 1) := Nat.ne_of_lt (Nat.lt_succ_self _)
  have HNb : Hid (b ≠ w.heap.size + 1) := Nat.ne_of_lt (Nat.lt_succ_of_lt hbl)
  refine hK.out _ _ (keep12B (by assumption) BS HN0.out HN0.out HN0.out HN0.out HNb.out HNb.out HNb.out HNb.out HNb.out HNb.out HNb.out HNb.out) (fun hHeld => ?_)
  clear hK hHeld
  refine wpAnyH_done (by kernel_rfl) ?_ _
  go_wp2
  refine bodyPost_ret (v := .agg #[.int .i64 z.op, .string z.nm, .int .i64 z.n, .slice z.a z.ks.length z.c]) (by simp [results, Tryd.results66, go_sem, m0, m1, m2, m3]) rfl (Mk.fin (x := z) Mz.out BW1 ?_)
  rw [HFT.out, ze]; all_goals rfl
set_option maxRecDepth 100000 in
set_option maxHeartbeats 4000000 in
theorem aff25 (F : Tm → Tm) (t : Tm) (k0 k1 : Tm) (hop : t.op = 25) (hks : t.ks = [k0, k1]) (hF : F t = insT (oneT k0.er) k1.er) (w : World) (ht : TIn w w.heap.size t) : Calls Tryd.prog 66 #[t.val] w (BecP F t w) := by
  have HT := mkHid ht
  have HFT := mkHid hF
  clear hF
  have hTV : t.val = t.val := rfl
  obtain ⟨op, nm, n, a, c, ks⟩ := t
  simp only [Tm.op, Tm.ks] at hop hks
  subst hop hks
  obtain ⟨kin0, b, o, ha, hbl, kf0⟩ := ht.kid 0 (by simp [Tm.ks])
  obtain ⟨kin1, b1, o1, ha1, hbl1, kf1⟩ := ht.kid 1 (by simp [Tm.ks])
  simp only [Tm.a, Tm.ks, List.getElem_cons_zero, List.getElem_cons_succ, Nat.zero_mul, Nat.one_mul, Nat.add_zero] at ha kin0 kf0 ha1 kin1 kf1
  subst ha
  cases ha1
  have hb2 : Below w.heap.size w ((w.alloc (.cells #[.int .i64 25, .string nm, .int .i64 n, .slice (some ⟨b, o, none⟩) 2 c] 24)).alloc (.cells #[.int .i64 0, .string ⟨#[]⟩, .int .i64 0, .slice none 0 0] 24)) := bal (bal (Below.refl _ _) _) _
  have TT : ((w.alloc (.cells #[.int .i64 25, .string nm, .int .i64 n, .slice (some ⟨b, o, none⟩) 2 c] 24)).alloc (.cells #[.int .i64 0, .string ⟨#[]⟩, .int .i64 0, .slice none 0 0] 24)).cell? ⟨w.heap.size, 0, none⟩ = some (.int .i64 25) ∧ ((w.alloc (.cells #[.int .i64 25, .string nm, .int .i64 n, .slice (some ⟨b, o, none⟩) 2 c] 24)).alloc (.cells #[.int .i64 0, .string ⟨#[]⟩, .int .i64 0, .slice none 0 0] 24)).cell? ⟨w.heap.size, 1, none⟩ = some (.string nm) ∧ ((w.alloc (.cells #[.int .i64 25, .string nm, .int .i64 n, .slice (some ⟨b, o, none⟩) 2 c] 24)).alloc (.cells #[.int .i64 0, .string ⟨#[]⟩, .int .i64 0, .slice none 0 0] 24)).cell? ⟨w.heap.size, 2, none⟩ = some (.int .i64 n) ∧ ((w.alloc (.cells #[.int .i64 25, .string nm, .int .i64 n, .slice (some ⟨b, o, none⟩) 2 c] 24)).alloc (.cells #[.int .i64 0, .string ⟨#[]⟩, .int .i64 0, .slice none 0 0] 24)).cell? ⟨w.heap.size, 3, none⟩ = some (.slice (some ⟨b, o, none⟩) 2 c) := by simp [go_sem]
  have FR0 : FourV' ((w.alloc (.cells #[.int .i64 25, .string nm, .int .i64 n, .slice (some ⟨b, o, none⟩) 2 c] 24)).alloc (.cells #[.int .i64 0, .string ⟨#[]⟩, .int .i64 0, .slice none 0 0] 24)) (w.heap.size + 1) (.int .i64 0) (.string ⟨#[]⟩) (.int .i64 0) (.slice none 0 0) := by simp [FourV', go_sem]
  have hX2 : w.heap.size + 1 < ((w.alloc (.cells #[.int .i64 25, .string nm, .int .i64 n, .slice (some ⟨b, o, none⟩) 2 c] 24)).alloc (.cells #[.int .i64 0, .string ⟨#[]⟩, .int .i64 0, .slice none 0 0] 24)).heap.size := by simp
  generalize hW2 : ((w.alloc (.cells #[.int .i64 25, .string nm, .int .i64 n, .slice (some ⟨b, o, none⟩) 2 c] 24)).alloc (.cells #[.int .i64 0, .string ⟨#[]⟩, .int .i64 0, .slice none 0 0] 24)) = W2 at *
  obtain ⟨q00, q01, q02, q03⟩ : Four W2 b o k0 := Four.keep kf0 hb2 hbl
  obtain ⟨q10, q11, q12, q13⟩ : Four W2 b (o + 4) k1 := Four.keep kf1 hb2 hbl1
  clear kin0 kf0 kin1 kf1
  unfold Tm.val
  simp only [Tm.op, Tm.nm, Tm.n, Tm.a, Tm.ks, Tm.c, List.length_cons, List.length_nil, Nat.zero_add, Nat.reduceAdd]
  obtain ⟨u0, u1, u2, u3⟩ := TT
  have FR := mkHid FR0
  have SZ := hX2
  have BW := hb2
  clear FR0 hX2 hb2 ht hTV
  go_enter Tryd.func66, Tryd.ntmps66
  go_wp2_with fail
  (try dsimp only [List.append])
  refine wp_region_held_drew (S := fun w' => w'.cell? ⟨w.heap.size, 0, none⟩ = some (.int .i64 25) ∧ w'.cell? ⟨w.heap.size, 1, none⟩ = some (.string nm) ∧ w'.cell? ⟨w.heap.size, 2, none⟩ = some (.int .i64 n) ∧ w'.cell? ⟨w.heap.size, 3, none⟩ = some (.slice (some ⟨b, o, none⟩) 2 c) ∧ w'.cell? ⟨b, o, none⟩ = some (.int .i64 k0.op) ∧ w'.cell? ⟨b, o + 1, none⟩ = some (.string k0.nm) ∧ w'.cell? ⟨b, o + 2, none⟩ = some (.int .i64 k0.n) ∧ w'.cell? ⟨b, o + 3, none⟩ = some (.slice k0.a k0.ks.length k0.c) ∧ w'.cell? ⟨b, o + 4, none⟩ = some (.int .i64 k1.op) ∧ w'.cell? ⟨b, o + 4 + 1, none⟩ = some (.string k1.nm) ∧ w'.cell? ⟨b, o + 4 + 2, none⟩ = some (.int .i64 k1.n) ∧ w'.cell? ⟨b, o + 4 + 3, none⟩ = some (.slice k1.a k1.ks.length k1.c)) (by kernel_rfl) ⟨u0, u1, u2, u3, q00, q01, q02, q03, q10, q11, q12, q13⟩ (fun hHeld => ?_)
  replace FR := mkHid (FR.out.later (bdrew (Below.refl W2.heap.size W2)))
  replace BW := bdrew BW
  replace SZ : w.heap.size + 1 < W2.drew.heap.size := SZ
  clear hW2 u0 u1 u2 u3 q00 q01 q02 q03 q10 q11 q12 q13
  generalize W2.drew = V at *
  refine wpAnyH_take (i := 0) (v := ?_) rfl (by kernel_rfl) (by kernel_rfl) (by kernel_rfl) (fun _ _ _ h => h) (Or.inl ⟨by kernel_rfl, ?_⟩) (by assumption) ?_
  rotate_left
  · (intro w hSw; (try dsimp only at hSw); go_simp; try with_reducible rfl)
  simp only [Act.put, List.getElem_toArray, List.getElem_cons_zero, List.setIfInBounds_toArray, List.set_cons_zero, List.set_cons_succ]
  refine wpAnyH_take (i := 1) (v := ?_) rfl (by kernel_rfl) (by kernel_rfl) (by kernel_rfl) (fun _ _ _ h => h) (Or.inl ⟨by kernel_rfl, ?_⟩) (by assumption) ?_
  rotate_left
  · (intro w hSw; (try dsimp only at hSw); go_simp; try with_reducible rfl)
  simp only [Act.put, List.getElem_toArray, List.getElem_cons_succ, List.getElem_cons_zero, List.setIfInBounds_toArray, List.set_cons_zero, List.set_cons_succ]
  refine wpAnyH_take (i := 2) (v := ?_) rfl (by kernel_rfl) (by kernel_rfl) (by kernel_rfl) (fun _ _ _ h => h) (Or.inl ⟨by kernel_rfl, ?_⟩) (by assumption) ?_
  rotate_left
  · (intro w hSw; (try dsimp only at hSw); go_simp; try with_reducible rfl)
  simp only [Act.put, List.getElem_toArray, List.getElem_cons_succ, List.getElem_cons_zero, List.setIfInBounds_toArray, List.set_cons_zero, List.set_cons_succ]
  refine wpAnyH_take (i := 3) (v := ?_) rfl (by kernel_rfl) (by kernel_rfl) (by kernel_rfl) (fun _ _ _ h => h) (Or.inl ⟨by kernel_rfl, ?_⟩) (by assumption) ?_
  rotate_left
  · (intro w hSw; (try dsimp only at hSw); go_simp; try with_reducible rfl)
  simp only [Act.put, List.getElem_toArray, List.getElem_cons_succ, List.getElem_cons_zero, List.setIfInBounds_toArray, List.set_cons_zero, List.set_cons_succ]
  refine wpAnyH_take (i := 6) (v := ?_) rfl (by kernel_rfl) (by kernel_rfl) (by kernel_rfl) (fun _ _ _ h => h) (Or.inl ⟨by kernel_rfl, ?_⟩) (by assumption) ?_
  rotate_left
  · (intro w hSw; (try dsimp only at hSw); go_simp; try with_reducible rfl)
  simp only [Act.put, List.getElem_toArray, List.getElem_cons_succ, List.getElem_cons_zero, List.setIfInBounds_toArray, List.set_cons_zero, List.set_cons_succ]
  refine wpAnyH_take (i := 7) (v := ?_) rfl (by kernel_rfl) (by kernel_rfl) (by kernel_rfl) (fun _ _ _ h => h) (Or.inl ⟨by kernel_rfl, ?_⟩) (by assumption) ?_
  rotate_left
  · (intro w hSw; (try dsimp only at hSw); go_simp; try with_reducible rfl)
  simp only [Act.put, List.getElem_toArray, List.getElem_cons_succ, List.getElem_cons_zero, List.setIfInBounds_toArray, List.set_cons_zero, List.set_cons_succ]
  refine wpAnyH_take (i := 8) (v := ?_) rfl (by kernel_rfl) (by kernel_rfl) (by kernel_rfl) (fun _ _ _ h => h) (Or.inl ⟨by kernel_rfl, ?_⟩) (by assumption) ?_
  rotate_left
  · (intro w hSw; (try dsimp only at hSw); go_simp; try with_reducible rfl)
  simp only [Act.put, List.getElem_toArray, List.getElem_cons_succ, List.getElem_cons_zero, List.setIfInBounds_toArray, List.set_cons_zero, List.set_cons_succ]
  refine wpAnyH_take (i := 9) (v := ?_) rfl (by kernel_rfl) (by kernel_rfl) (by kernel_rfl) (fun _ _ _ h => h) (Or.inl ⟨by kernel_rfl, ?_⟩) (by assumption) ?_
  rotate_left
  · (intro w hSw; (try dsimp only at hSw); go_simp; try with_reducible rfl)
  simp only [Act.put, List.getElem_toArray, List.getElem_cons_succ, List.getElem_cons_zero, List.setIfInBounds_toArray, List.set_cons_zero, List.set_cons_succ]
  have Mk0 := mkHid (Mk.kid (k := k0) HT.out (by simp [Tm.ks]) BW)
  have Mk1 := mkHid (Mk.kid (k := k1) HT.out (by simp [Tm.ks]) BW)
  refine wpAnyH_ready (rs := [4]) (by kernel_rfl) (by simp) ?_
  refine AllReadyH.cons rfl (fun K hK => ?_) AllReadyH.nil
  go_simp
  have bg1 := bel_alloc V (.cells #[.int .i64 k0.op, .string k0.nm, .int .i64 k0.n, .slice k0.a k0.ks.length k0.c] 24)
  refine hK.out _ _ (keep12 (by assumption) bg1) (fun hHeld => ?_)
  clear hK
  have Fg1 : Hid (Four (V.alloc (.cells #[.int .i64 k0.op, .string k0.nm, .int .i64 k0.n, .slice k0.a k0.ks.length k0.c] 24)) V.heap.size 0 k0) := build1 V k0
  have Gg1 : w.heap.size + 1 < V.heap.size := SZ
  generalize V.alloc (.cells #[.int .i64 k0.op, .string k0.nm, .int .i64 k0.n, .slice k0.a k0.ks.length k0.c] 24) = Wg1 at *
  have BW1 := bon BW bg1
  have SZ1 : w.heap.size + 1 < Wg1.heap.size := Nat.lt_of_lt_of_le SZ bg1.size
  have FR1 := mkHid (FR.out.later bg1)
  replace Mk0 := mkHid (Mk0.out.later bg1)
  replace Mk1 := mkHid (Mk1.out.later bg1)
  skip
  refine wpAnyH_ready (rs := [5]) (by kernel_rfl) (by simp) ?_
  refine AllReadyH.cons rfl (fun K hK => ?_) AllReadyH.nil
  go_simp
  go_wp2_with (go_at_call 90; ((with_reducible refine (of_any _ _ _ _ _).mono ?_)); rintro e w3 ⟨rfl, hb3⟩)
  refine hK.out _ _ (keep12 (by assumption) hb3) (fun hHeld => ?_)
  clear hK
  have BW2 := bon BW1 hb3
  have SZ2 : w.heap.size + 1 < w3.heap.size := Nat.lt_of_lt_of_le SZ1 hb3.size
  have FR2 := mkHid (FR1.out.later hb3)
  replace Mk0 := mkHid (Mk0.out.later hb3)
  replace Mk1 := mkHid (Mk1.out.later hb3)
  replace Fg1 := mkHid (Fg1.out.later hb3)
  refine wpAnyH_ready (rs := [10]) (by kernel_rfl) (by simp) ?_
  refine AllReadyH.cons rfl (fun K hK => ?_) AllReadyH.nil
  have P4 : Hid (Calls Tryd.prog 92 #[.agg #[.int .i64 10, .string ⟨#[]⟩, .int .i64 0, .slice (some ⟨V.heap.size, 0, none⟩) 1 1], .agg #[.int .i64 k1.op, .string k1.nm, .int .i64 k1.n, .slice k1.a k1.ks.length k1.c]] w3 (InsP w (.node 25 nm n (some ⟨b, o, none⟩) c [k0, k1]) (q1 10 V.heap.size k0) k1 w3)) := mkHid (inside_any w (.node 25 nm n (some ⟨b, o, none⟩) c [k0, k1]) (q1 10 V.heap.size k0) k1 w3 (Mk.one Mk0.out Fg1.out Gg1 (by decide)) Mk1.out SZ2)
  go_simp
  go_wp2_with (go_at_call 92; ((with_reducible refine (P4.out).mono ?_)); rintro e w4 ⟨z, rfl, ze, zt, hb4⟩)
  refine hK.out _ _ (keep12 (by assumption) hb4) (fun hHeld => ?_)
  clear hK
  have BW3 := bon BW2 hb4
  have SZ3 : w.heap.size + 1 < w4.heap.size := Nat.lt_of_lt_of_le SZ2 hb4.size
  have FR3 := mkHid (FR2.out.later hb4)
  replace Mk0 := mkHid (Mk0.out.later hb4)
  replace Mk1 := mkHid (Mk1.out.later hb4)
  replace Fg1 := mkHid (Fg1.out.later hb4)
  have Mz := mkHid zt
  unfold Tm.val
  obtain ⟨m0, m1, m2, m3, f0, f1, f2, f3⟩ := FR3.out
  refine wpAnyH_ready (rs := [11]) (by kernel_rfl) (by simp) ?_
  refine AllReadyH.cons rfl (fun K hK => ?_) AllReadyH.nil
  go_simp
  have BS : But (w.heap.size + 1) w4 ((((w4.setCell ⟨w.heap.size + 1, 0, none⟩ (.int .i64 z.op)).setCell ⟨w.heap.size + 1, 1, none⟩ (.string z.nm)).setCell ⟨w.heap.size + 1, 2, none⟩ (.int .i64 z.n)).setCell ⟨w.heap.size + 1, 3, none⟩ (.slice z.a z.ks.length z.c)) := ((((But.refl _ _).set (p := ⟨w.heap.size + 1, 0, none⟩) (.inl rfl) _).set (p := ⟨w.heap.size + 1, 1, none⟩) (.inl rfl) _).set (p := ⟨w.heap.size + 1, 2, none⟩) (.inl rfl) _).set (p := ⟨w.heap.size + 1, 3, none⟩) (.inl rfl) _
  have HN0 : Hid (w.heap.size ≠ w.heap.size + 1) := Nat.ne_of_lt (Nat.lt_succ_self _)
  have HNb : Hid (b ≠ w.heap.size + 1) := Nat.ne_of_lt (Nat.lt_succ_of_lt hbl)
  refine hK.out _ _ (keep12B (by assumption) BS HN0.out HN0.out HN0.out HN0.out HNb.out HNb.out HNb.out HNb.out HNb.out HNb.out HNb.out HNb.out) (fun hHeld => ?_)
  clear hK hHeld
  refine wpAnyH_done (by kernel_rfl) ?_ _
  go_wp2
  refine bodyPost_ret (v := .agg #[.int .i64 z.op, .string z.nm, .int .i64 z.n, .slice z.a z.ks.length z.c]) (by simp [results, Tryd.results66, go_sem, m0, m1, m2, m3]) rfl (Mk.fin (x := z) Mz.out BW3 ?_)
  rw [HFT.out, ze, q1_er]; all_goals rfl
end Go.Proofs.YtlobffjgkhcjbaaDoor
