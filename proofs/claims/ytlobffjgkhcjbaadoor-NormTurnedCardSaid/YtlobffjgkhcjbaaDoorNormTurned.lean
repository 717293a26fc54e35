/-
  NormTurned, walked: it returns true.
-/
import Derived.Test.YtlobffjgkhcjbaaDoorNmN
namespace Go.Proofs.YtlobffjgkhcjbaaDoor
open Go.RowKit

theorem qn_facts {u : Tm} (g : Nat) (h : u.srt = 4) (hz : u.size < 2000) (hd : u.deep < 100) : errR (q1 18 g u) = 0 ∧ (q1 18 g u).srt = 4 ∧ (q1 18 g u).size = 1 + u.size ∧ (q1 18 g u).deep = 1 + u.deep ∧ ∀ b, nn (q1 18 g u) b = nn u (!b) := by
  have e1 : (q1 18 g u).srt = 4 := by rw [← er_srt, q1_er]; exact not_srt (by rw [er_srt]; exact h)
  have e2 : (q1 18 g u).size = 1 + u.size := by simp [q1, Tm.size, Tm.sizes]
  have e3 : (q1 18 g u).deep = 1 + u.deep := by simp [q1, Tm.deep, Tm.deeps]
  refine ⟨?_, e1, e2, e3, fun b => nn18 rfl rfl b⟩
  have hf : fullB (q1 18 g u) = false := by unfold fullB; rw [decide_eq_false (by omega), decide_eq_false (by omega)]; rfl
  unfold errR; rw [hf, if_neg (by decide), if_neg (by omega)]
/-- all that is so of a right bool that is not too large -/
structure Tf (t : Tm) (g g2 : Nat) : Prop where
  nb : normE (q1 18 g2 (q1 18 g t)) = normE t
  eb : ∀ z : Tm, z.er = nn (q1 18 g2 (q1 18 g t)) false → z.er = nn t false
  ec : ∀ z : Tm, z.er = nn (q1 18 g t) false → z.er = nn t true
  nd : ∀ (a : Tm) (g3 : Nat), normE t = 0 → normE (q1 18 g t) = 0 → a.er = nn t false → a.size < 2000 → normE (q1 18 g3 a) = 0 ∧ (∀ z : Tm, z.er = nn (q1 18 g3 a) false → z.er = nn t true) ∧ a.deep ≤ 100
  dc : normE (q1 18 g t) = 0 → ∀ z : Tm, z.er = nn t true → z.deep ≤ 100
theorem tf {t : Tm} (g g2 : Nat) (h4 : t.srt = 4) (he : errR t = 0) (hd : t.deep ≤ 90) (hz : t.size < 1000) : Tf t g g2 := by
  obtain ⟨p1, p2, p3, p4, p5⟩ := qn_facts g h4 (by omega) (by omega)
  obtain ⟨r1, r2, -, -, r5⟩ := qn_facts g2 p2 (by omega) (by omega)
  have e2 : nn (q1 18 g2 (q1 18 g t)) false = nn t false := by rw [r5, p5]; rfl
  refine ⟨?_, fun z h => by rw [h, e2], fun z h => by rw [h, p5]; rfl, fun a g3 h1 h2 ha hs => ?_, fun h z hz => ?_⟩
  · unfold normE
    rw [e2, r1, r2, he, h4]
  · have da : a.deep ≤ 94 := by
      have := nn_deep t h4 false
      rw [← ha, er_deep] at this
      omega
    have sa : a.srt = 4 := by rw [← er_srt, ha]; exact nn_srt t h4 false
    obtain ⟨s1, s2, -, -, s5⟩ := qn_facts g3 sa (by omega) (by omega)
    have e3 : nn (q1 18 g3 a) false = nn t true := by
      rw [s5, ← nn_er, ha, nn_nn t h4]; rfl
    have e4 : errR (nn t true) = 0 := by
      have := (normE_zero h2).2.2
      rw [p5] at this; exact this
    exact ⟨normE_is s1 s2 (by rw [e3]; exact e4), fun z h => by rw [h, e3], by omega⟩
  · have := (normE_zero h).2.2
    rw [p5] at this
    have d := (errR_zero this).2.1
    rw [← er_deep, hz]; exact d
theorem cmpI {a b : Nat} (h : a = b) : (((a : Int)) == (b : Int)) = true := by rw [h]; simp
set_option maxRecDepth 100000 in
set_option maxHeartbeats 4000000 in
theorem turned_any (t : Tm) (w : World) (ht : TIn w w.heap.size t) (hS : Shps w) : Calls Tryd.prog 11 #[t.val] w (RetBo true w) := by
  have B0 := bel_alloc w (boxT t)
  have F1 := box_four w t
  have CH := mkHid (shownN (w.alloc (boxT t)) (hS.later B0))
  have HS := mkHid (hS.later B0)
  have HT := mkHid (ht.later B0)
  have hW2 : w.alloc (.cells #[.int .i64 t.op, .string t.nm, .int .i64 t.n, .slice t.a t.ks.length t.c] 24) = w.alloc (boxT t) := rfl
  generalize w.alloc (boxT t) = W1 at *
  unfold Tm.val
  clear hS ht
  have HF := mkHid F1
  clear F1
  go_enter Tryd.func11, Tryd.ntmps11
  go_wp2_with fail
  ((with_reducible refine CH.out.mono ?_)); rintro e w2 ⟨rfl, D2⟩
  clear CH hW2
  obtain ⟨x0, x1, x2, x3⟩ := HF.out.later D2
  simp only [Nat.zero_add] at x1 x2 x3
  have CS := mkHid (sort_any t w2 (HT.out.later D2) (HS.out.later D2))
  unfold Tm.val at CS
  by_cases he : errR t = 0
  case neg =>
    have e0 : (((errR t : Nat) : Int) == 0) = false := by rw [beq_eq_false_iff_ne]; omega
    have e0p : ¬ ((errR t : Nat) : Int) = 0 := by omega
    clear he
    generalize ((errR t : Nat) : Int) = ev at *
    generalize ((srtR t : Nat) : Int) = sv at *
    go_wp2_with fail
    ((with_reducible refine CS.out.mono ?_)); rintro e w3 ⟨rfl, hb3⟩
    clear CS x0 x1 x2 x3
    go_wp2
    go_ret
    exact ⟨rfl, bon B0 (bon D2 hb3)⟩
  case pos =>
  have hs := srtR_ok he
  rw [he, hs] at CS
  by_cases h4 : t.srt = 4
  case neg =>
    have e4 : (((t.srt : Nat) : Int) == 4) = false := by rw [beq_eq_false_iff_ne]; omega
    have e4p : ¬ ((t.srt : Nat) : Int) = 4 := by omega
    clear he hs h4
    generalize ((t.srt : Nat) : Int) = sv at *
    go_wp2_with fail
    ((with_reducible refine CS.out.mono ?_)); rintro e w3 ⟨rfl, hb3⟩
    clear CS x0 x1 x2 x3
    go_wp2
    go_ret
    exact ⟨rfl, bon B0 (bon D2 hb3)⟩
  case pos =>
  rw [h4] at CS
  obtain ⟨hz, hd, -, -⟩ := errR_zero he
  go_wp2_with fail
  ((with_reducible refine CS.out.mono ?_)); rintro e w3 ⟨rfl, hb3⟩
  clear CS x0 x1 x2 x3
  have D3 := bon D2 hb3
  obtain ⟨x0, x1, x2, x3⟩ := HF.out.later D3
  simp only [Nat.zero_add] at x1 x2 x3
  have CD := mkHid (deep_small t w3 (HT.out.later D3) hz)
  unfold Tm.val at CD
  have hm : min 101 t.deep = t.deep := by omega
  rw [hm] at CD
  clear hm hs
  by_cases hd9 : t.deep ≤ 90
  case neg =>
    have e90 : (90 : Int) < ((t.deep : Nat) : Int) := by omega
    clear hd9 hd hz he h4
    generalize ((t.deep : Nat) : Int) = dv at *
    go_wp2_with fail
    ((with_reducible refine CD.out.mono ?_)); rintro e w4 ⟨rfl, hb4⟩
    clear CD x0 x1 x2 x3
    go_wp2
    go_ret
    exact ⟨rfl, bon B0 (bon D3 hb4)⟩
  case pos =>
  have e90 : ¬ (90 : Int) < ((t.deep : Nat) : Int) := by omega
  have HD9 := mkHid hd9
  have HH4 := mkHid h4
  have HHE := mkHid he
  clear hd9 hd he h4
  generalize ((t.deep : Nat) : Int) = dv at *
  go_wp2_with fail
  ((with_reducible refine CD.out.mono ?_)); rintro e w4 ⟨rfl, hb4⟩
  clear CD x0 x1 x2 x3
  have D4 := bon D3 hb4
  obtain ⟨x0, x1, x2, x3⟩ := HF.out.later D4
  simp only [Nat.zero_add] at x1 x2 x3
  have CZ := mkHid (size_any t w4 (HT.out.later D4))
  unfold Tm.val at CZ
  have hm : min 2001 t.size = t.size := by omega
  rw [hm] at CZ
  clear hm
  by_cases hz1 : t.size < 1000
  case neg =>
    have e9 : (1000 : Int) ≤ ((t.size : Nat) : Int) := by omega
    clear hz1 hz
    generalize ((t.size : Nat) : Int) = zv at *
    go_wp2_with fail
    ((with_reducible refine CZ.out.mono ?_)); rintro e w5 ⟨rfl, hb5⟩
    clear CZ x0 x1 x2 x3
    go_wp2
    go_ret
    exact ⟨rfl, bon B0 (bon D4 hb5)⟩
  case pos =>
  have e9 : ¬ (1000 : Int) ≤ ((t.size : Nat) : Int) := by omega
  have HZ1 := mkHid hz1
  clear hz1 hz
  generalize ((t.size : Nat) : Int) = zv at *
  go_wp2_with fail
  ((with_reducible refine CZ.out.mono ?_)); rintro e w5 ⟨rfl, hb5⟩
  clear CZ x0 x1 x2 x3
  have D5 := bon D4 hb5
  obtain ⟨x0, x1, x2, x3⟩ := HF.out.later D5
  simp only [Nat.zero_add] at x1 x2 x3
  have f6 := build1 w5 t
  have b6 := bel_alloc w5 (.cells #[.int .i64 t.op, .string t.nm, .int .i64 t.n, .slice t.a t.ks.length t.c] 24)
  generalize h6 : w5.alloc (.cells #[.int .i64 t.op, .string t.nm, .int .i64 t.n, .slice t.a t.ks.length t.c] 24) = W6 at *
  have f7 : Four (W6.alloc (.cells #[.int .i64 18, .string ⟨#[]⟩, .int .i64 0, .slice (some ⟨w5.heap.size, 0, none⟩) 1 1] 24)) W6.heap.size 0 (q1 18 w5.heap.size t) := build1 W6 (q1 18 w5.heap.size t)
  have b7 := bel_alloc W6 (.cells #[.int .i64 18, .string ⟨#[]⟩, .int .i64 0, .slice (some ⟨w5.heap.size, 0, none⟩) 1 1] 24)
  generalize h7 : W6.alloc (.cells #[.int .i64 18, .string ⟨#[]⟩, .int .i64 0, .slice (some ⟨w5.heap.size, 0, none⟩) 1 1] 24) = W7 at *
  have D6 := bon D5 b6
  have D7 := bon D6 b7
  have HI7 : Hid (TIn W7 W7.heap.size (q1 18 w5.heap.size t)) := q1_in (by decide) (f6.later b7) (HT.out.later D7) (World.block_lt_of_cell? _ _ (f6.later b7).1)
  have HF7 := mkHid f7
  clear f7
  have f6x := f6
  clear f6x f6
  have x6 := HF.out.later D6
  obtain ⟨y0, y1, y2, y3⟩ := x6
  simp only [Nat.zero_add] at y1 y2 y3
  obtain ⟨v0, v1, v2, v3⟩ := HF.out.later D7
  simp only [Nat.zero_add] at v1 v2 v3
  have CA := mkHid (norm_any t W7 (HT.out.later D7) (HS.out.later D7))
  unfold Tm.val at CA
  go_wp2_with fail
  ((with_reducible refine CA.out.mono ?_)); rintro e w8 ⟨⟨a, rfl, at', ae, -⟩, hb8⟩
  clear CA x0 x1 x2 x3 y0 y1 y2 y3 v0 v1 v2 v3 h6 h7 e9 e90
  have D8 := bon D7 hb8
  have HAE := mkHid ae
  clear ae
  have bW8 := bel_alloc w8 (boxT a)
  have fW8 := box_four w8 a
  have hW8 : w8.alloc (.cells #[.int .i64 a.op, .string a.nm, .int .i64 a.n, .slice a.a a.ks.length a.c] 24) = w8.alloc (boxT a) := rfl
  have Ia := mkHid (at'.later bW8)
  unfold Tm.val
  generalize w8.alloc (boxT a) = W8 at *
  have Fa := mkHid fW8
  clear fW8 at'
  have D8' := bon D8 bW8
  obtain ⟨n0, n1, n2, n3⟩ := HF7.out.later (bon hb8 bW8)
  simp only [q1, Tm.op, Tm.nm, Tm.n, Tm.a, Tm.ks, Tm.c, List.length_cons, List.length_nil, Nat.zero_add] at n0 n1 n2 n3
  have f9 : Four (W8.alloc (.cells #[.int .i64 18, .string ⟨#[]⟩, .int .i64 0, .slice (some ⟨w5.heap.size, 0, none⟩) 1 1] 24)) W8.heap.size 0 (q1 18 w5.heap.size t) := build1 W8 (q1 18 w5.heap.size t)
  have b9 := bel_alloc W8 (.cells #[.int .i64 18, .string ⟨#[]⟩, .int .i64 0, .slice (some ⟨w5.heap.size, 0, none⟩) 1 1] 24)
  generalize h9 : W8.alloc (.cells #[.int .i64 18, .string ⟨#[]⟩, .int .i64 0, .slice (some ⟨w5.heap.size, 0, none⟩) 1 1] 24) = W9 at *
  have D9 := bon D8' b9
  have HI9 : TIn W9 W9.heap.size (q1 18 W8.heap.size (q1 18 w5.heap.size t)) := q1_in (by decide) f9 (HI7.out.later (bon (bon hb8 bW8) b9)) (World.block_lt_of_cell? _ _ f9.1)
  have CB : Hid (Calls Tryd.prog 36 #[.agg #[.int .i64 18, .string ⟨#[]⟩, .int .i64 0, .slice (some ⟨W8.heap.size, 0, none⟩) 1 1]] W9 (NormP (q1 18 W8.heap.size (q1 18 w5.heap.size t)) W9)) := norm_any (q1 18 W8.heap.size (q1 18 w5.heap.size t)) W9 HI9 (HS.out.later D9)
  clear HI9 f9
  go_wp2_with fail
  ((with_reducible refine CB.out.mono ?_)); rintro e w10 ⟨⟨b, rfl, bt, be, -⟩, hb10⟩
  clear CB n0 n1 n2 n3 h9 hW8
  have D10 := bon D9 hb10
  have HBE := mkHid be
  clear be
  have bW10 := bel_alloc w10 (boxT b)
  have fW10 := box_four w10 b
  have hW10 : w10.alloc (.cells #[.int .i64 b.op, .string b.nm, .int .i64 b.n, .slice b.a b.ks.length b.c] 24) = w10.alloc (boxT b) := rfl
  have Ib := mkHid (bt.later bW10)
  unfold Tm.val
  generalize w10.alloc (boxT b) = W10 at *
  have Fb := mkHid fW10
  clear fW10 bt
  have D10' := bon D10 bW10
  obtain ⟨n0, n1, n2, n3⟩ := HF7.out.later (bon (bon (bon (bon hb8 bW8) b9) hb10) bW10)
  simp only [q1, Tm.op, Tm.nm, Tm.n, Tm.a, Tm.ks, Tm.c, List.length_cons, List.length_nil, Nat.zero_add] at n0 n1 n2 n3
  have CC : Hid (Calls Tryd.prog 36 #[.agg #[.int .i64 18, .string ⟨#[]⟩, .int .i64 0, .slice (some ⟨w5.heap.size, 0, none⟩) 1 1]] W10 (NormP (q1 18 w5.heap.size t) W10)) := norm_any (q1 18 w5.heap.size t) W10 (HI7.out.later (bon (bon (bon (bon hb8 bW8) b9) hb10) bW10)) (HS.out.later D10')
  go_wp2_with fail
  ((with_reducible refine CC.out.mono ?_)); rintro e w11 ⟨⟨c, rfl, ct, ce, -⟩, hb11⟩
  clear CC n0 n1 n2 n3 hW10
  have D11 := bon D10' hb11
  have HCE := mkHid ce
  clear ce
  have bW11 := bel_alloc w11 (boxT c)
  have fW11 := box_four w11 c
  have hW11 : w11.alloc (.cells #[.int .i64 c.op, .string c.nm, .int .i64 c.n, .slice c.a c.ks.length c.c] 24) = w11.alloc (boxT c) := rfl
  have Ic := mkHid (ct.later bW11)
  unfold Tm.val
  generalize w11.alloc (boxT c) = W11 at *
  have Fc := mkHid fW11
  clear fW11 ct
  have D11' := bon D11 bW11
  have TF := mkHid (tf w5.heap.size W8.heap.size HH4.out HHE.out HD9.out HZ1.out)
  have hnb := TF.out.nb
  by_cases hna : normE t = 0
  case neg =>
    have e0 : (((normE t : Nat) : Int) == 0) = false := by rw [beq_eq_false_iff_ne]; omega
    have e0p : ¬ ((normE t : Nat) : Int) = 0 := by omega
    have e1 := cmpI hnb.symm
    have e1p : ((normE t : Nat) : Int) = ((normE (q1 18 W8.heap.size (q1 18 w5.heap.size t)) : Nat) : Int) := by rw [hnb]
    clear hna hnb
    generalize ((normE t : Nat) : Int) = av at *
    generalize ((normE (q1 18 W8.heap.size (q1 18 w5.heap.size t)) : Nat) : Int) = bv at *
    generalize ((normE (q1 18 w5.heap.size t) : Nat) : Int) = cv at *
    go_wp2
    go_ret
    exact ⟨rfl, bon B0 D11'⟩
  case pos =>
  rw [hnb, hna]
  have hbe := TF.out.eb _ (HBE.out (hnb.trans hna))
  have hae := HAE.out hna
  by_cases hnc : normE (q1 18 w5.heap.size t) = 0
  case neg =>
    have e0 : (((normE (q1 18 w5.heap.size t) : Nat) : Int) == 0) = false := by rw [beq_eq_false_iff_ne]; omega
    have e0p : ¬ ((normE (q1 18 w5.heap.size t) : Nat) : Int) = 0 := by omega
    clear hna hnb hnc hbe hae
    generalize ((normE (q1 18 w5.heap.size t) : Nat) : Int) = cv at *
    go_wp2
    go_ret
    exact ⟨rfl, bon B0 D11'⟩
  case pos =>
  rw [hnc]
  have hce := TF.out.ec _ (HCE.out hnc)
  have E8 := bon (bon (bon (bon b9 hb10) bW10) hb11) bW11
  obtain ⟨a0, a1, a2, a3⟩ := Fa.out.later E8
  simp only [Nat.zero_add] at a1 a2 a3
  have CZ := mkHid (size_any a W11 (Ia.out.later E8))
  unfold Tm.val at CZ
  by_cases hza : a.size < 2000
  case neg =>
    have e9 : (2000 : Int) ≤ ((min 2001 a.size : Nat) : Int) := by omega
    clear hza hna hnb hnc hbe hae hce
    generalize ((min 2001 a.size : Nat) : Int) = zv at *
    go_wp2_with fail
    ((with_reducible refine CZ.out.mono ?_)); rintro e w12 ⟨rfl, hb12⟩
    clear CZ a0 a1 a2 a3 hW11
    go_wp2
    go_ret
    exact ⟨rfl, bon B0 (bon D11' hb12)⟩
  case pos =>
  have e9 : ¬ (2000 : Int) ≤ ((min 2001 a.size : Nat) : Int) := by omega
  have NDQ := mkHid (fun g3 => TF.out.nd a g3 hna hnc hae hza)
  have HDC := mkHid (TF.out.dc hnc c hce)
  have HALL := mkHid (And.intro hae (And.intro hbe hce))
  clear hza hna hnb hnc hbe hae hce
  generalize ((min 2001 a.size : Nat) : Int) = zv at *
  go_wp2_with fail
  ((with_reducible refine CZ.out.mono ?_)); rintro e w12 ⟨rfl, hb12⟩
  clear CZ a0 a1 a2 a3 hW11
  have E12 := bon E8 hb12
  have D12 := bon D11' hb12
  obtain ⟨a0, a1, a2, a3⟩ := Fa.out.later E12
  simp only [Nat.zero_add] at a1 a2 a3
  have f13 := build1 w12 a
  have b13 := bel_alloc w12 (.cells #[.int .i64 a.op, .string a.nm, .int .i64 a.n, .slice a.a a.ks.length a.c] 24)
  generalize h13 : w12.alloc (.cells #[.int .i64 a.op, .string a.nm, .int .i64 a.n, .slice a.a a.ks.length a.c] 24) = W13 at *
  have D13 := bon D12 b13
  have E13 := bon E12 b13
  have HI13 : TIn W13 W13.heap.size (q1 18 w12.heap.size a) := q1_in (by decide) f13 (Ia.out.later E13) (World.block_lt_of_cell? _ _ f13.1)
  have CDD : Hid (Calls Tryd.prog 36 #[.agg #[.int .i64 18, .string ⟨#[]⟩, .int .i64 0, .slice (some ⟨w12.heap.size, 0, none⟩) 1 1]] W13 (NormP (q1 18 w12.heap.size a) W13)) := norm_any (q1 18 w12.heap.size a) W13 HI13 (HS.out.later D13)
  clear HI13 f13
  go_wp2_with fail
  ((with_reducible refine CDD.out.mono ?_)); rintro e w14 ⟨⟨d, rfl, dt, de, -⟩, hb14⟩
  rw [(NDQ.out w12.heap.size).1]
  have HDE : Hid (d.er = nn t true) := (NDQ.out w12.heap.size).2.1 d (de (NDQ.out w12.heap.size).1)
  have HDA := mkHid (NDQ.out w12.heap.size).2.2
  clear CDD a0 a1 a2 a3 h13 e9 de
  have bW14 := bel_alloc w14 (boxT d)
  have fW14 := box_four w14 d
  have hW14 : w14.alloc (.cells #[.int .i64 d.op, .string d.nm, .int .i64 d.n, .slice d.a d.ks.length d.c] 24) = w14.alloc (boxT d) := rfl
  have Id := mkHid (dt.later bW14)
  unfold Tm.val
  generalize w14.alloc (boxT d) = W14 at *
  have Fd := mkHid fW14
  clear fW14 dt
  have E14 := bon (bon E13 hb14) bW14
  have G14 := bon (bon (bon (bon (bon (bon hb11 bW11) hb12) b13) hb14) bW14) (Below.refl _ _)
  obtain ⟨a0, a1, a2, a3⟩ := Fa.out.later E14
  simp only [Nat.zero_add] at a1 a2 a3
  obtain ⟨b0, b1, b2, b3⟩ := Fb.out.later G14
  simp only [Nat.zero_add] at b1 b2 b3
  have C1 := mkHid (same_er (a := a) (b := b) (w := W14) (Ia.out.later E14) (Ib.out.later G14) (HALL.out.1.trans HALL.out.2.1.symm) HDA.out)
  unfold Tm.val at C1
  go_wp2_with fail
  ((with_reducible refine C1.out.mono ?_)); rintro e w15 ⟨rfl, hb15⟩
  clear C1 a0 a1 a2 a3 b0 b1 b2 b3 hW14
  have H15 := bon (bon (bon (bon hb12 b13) hb14) bW14) hb15
  obtain ⟨c0, c1, c2, c3⟩ := Fc.out.later H15
  simp only [Nat.zero_add] at c1 c2 c3
  obtain ⟨d0, d1, d2, d3⟩ := Fd.out.later hb15
  simp only [Nat.zero_add] at d1 d2 d3
  have C2 := mkHid (same_er (a := c) (b := d) (w := w15) (Ic.out.later H15) (Id.out.later hb15) (HALL.out.2.2.trans HDE.out.symm) HDC.out)
  unfold Tm.val at C2
  go_wp2_with fail
  ((with_reducible refine C2.out.mono ?_)); rintro e w16 ⟨rfl, hb16⟩
  clear C2 c0 c1 c2 c3 d0 d1 d2 d3
  go_wp2
  go_ret
  exact ⟨rfl, bon B0 (bon D11' (bon H15 hb16))⟩
end Go.Proofs.YtlobffjgkhcjbaaDoor
