/-
  Rows of clauses and a row of literals, both of one's own, side by side.
-/
import Derived.Test.YtaiachmolkjedaaDoorCnR
namespace Go.Proofs.YtaiachmolkjedaaDoor
open Go.RowKit

theorem CRows.grown {w w' : World} {base : Nat} {v q : Value} {C : List (List Int)} {us : List Value} (h : CRows w base v C us) (hg : w.grownBy w' q.ownBlock) (hv : ∀ k, v.ownBlock = some k → q.ownBlock ≠ some k) (hne : ∀ u ∈ us, ∀ k, u.ownBlock = some k → q.ownBlock ≠ some k) : CRows w' base v C us :=
  ⟨own_grown' h.row hg hv, h.len, fun i h1 h2 => own_grown' (h.els i h1 h2) hg (hne _ (List.getElem_mem h2))⟩
structure CQ (w : World) (base : Nat) (p : Value) (C : List (List Int)) (us : List Value) (q : Value) (R : List Int) : Prop where
  rows : CRows w base p C us
  nums : w.ownsRow base 3 1 q R.length (ints R)
  off : ∀ u ∈ us, ∀ k, u.ownBlock = some k → q.ownBlock ≠ some k
theorem CQ.later {w w' : World} {base : Nat} {p q : Value} {C : List (List Int)} {us : List Value} {R : List Int} (h : CQ w base p C us q R) (hb : Below w.heap.size w w') : CQ w' base p C us q R :=
  ⟨h.rows.later hb, own_lat' h.nums hb, h.off⟩
theorem CRows.lt {w : World} {base : Nat} {v : Value} {C : List (List Int)} {us : List Value} (h : CRows w base v C us) : ∀ u ∈ us, ∀ k, u.ownBlock = some k → base ≤ k ∧ k < w.heap.size := by
  intro u hu k hk
  obtain ⟨i, hi, rfl⟩ := List.getElem_of_mem hu
  exact own_lt (h.els i (by rw [← h.len]; exact hi) hi) hk
/-- one literal more -/
theorem CQ.num {w : World} {base : Nat} {p q : Value} {C : List (List Int)} {us : List Value} {R : List Int} (h : CQ w base p C us q R) (x : Int) (hm : R.length ≤ 50000) (hb : base ≤ w.heap.size) :
    ∃ v' w', (Builtin.append_ #[54, 54] 54 #[q, .slice (some ⟨w.heap.size, 0, none⟩) 1 1]).run Tryd.prog (w.alloc (.cells #[.int .i64 x] 3)) = .ok v' w' ∧ CQ w' base p C us v' (R ++ [x]) ∧ Below base w w' := by
  have b1 := bel_alloc w (.cells #[.int .i64 x] 3)
  have h1 := h.later b1
  obtain ⟨i0, hi0, hz0, hz1, hz2⟩ := int_parts
  obtain ⟨v', w', e, h2, h3, -, h5⟩ := run_append_own_at (P := Tryd.prog) (w.alloc (.cells #[.int .i64 x] 3)) base 54 54 3 i0 _ 1 8 Tryd.underlying54 hi0 hz0 hz1 hz2 rfl (by omega) q R.length (ints R) h1.nums ⟨w.heap.size, 0, none⟩ 1 1 [.int .i64 x] rfl (one_cell _ _ _) (ints_one [x]) (by unfold maxLen; omega) (by omega) (Nat.le_trans hb b1.size)
  refine ⟨v', w', e, ⟨h1.rows.grown h3 (own_apart' h1.rows.row h1.nums (by decide)) h1.off, by rw [ints_append, List.length_append]; exact h2, fun u hu k hk e => ?_⟩, (b1.mono hb).trans (below_grown h3 (fun k hk => (own_lt h1.nums hk).1) (Nat.le_trans hb b1.size))⟩
  rcases h5 with h5 | h5
  · rw [h5] at e; exact h.off u hu k hk e
  · rw [h5] at e
    simp only [Option.some.injEq] at e
    have := (h1.rows.lt u hu k hk).2
    omega
/-- clauses more -/
theorem CQ.more {w : World} {base b2 : Nat} {p q v2 : Value} {C M : List (List Int)} {us us2 : List Value} {R : List Int} (h : CQ w base p C us q R) (h2 : CRows w b2 v2 M us2) (hb2 : base ≤ b2) (hq : ∀ k, q.ownBlock = some k → k < b2) (hl : C.length + M.length ≤ 100000) (hb : base ≤ w.heap.size) :
    ∃ v' w', (Builtin.append_ #[47, 47] 47 #[p, v2]).run Tryd.prog w = .ok v' w' ∧ CQ w' base v' (C ++ M) (us ++ us2) q R ∧ Below base w w' := by
  obtain ⟨i0, hi0, hz0, hz1, hz2⟩ := sl_parts
  have hoff : ∀ u ∈ us ++ us2, ∀ k, u.ownBlock = some k → q.ownBlock ≠ some k := fun u hu k hk e => by
    rcases List.mem_append.1 hu with hu | hu
    · exact h.off u hu k hk e
    · have := (h2.lt u hu k hk).1
      have := hq k e
      omega
  rcases h2.row.2 with ⟨rfl, h0⟩ | ⟨g, cap, cur, rfl, -⟩
  · have hM : M = [] := List.length_eq_zero_iff.1 h0
    subst hM
    have hu : us2 = [] := List.length_eq_zero_iff.1 h2.len
    subst hu
    refine ⟨p, w, run_append_owned_none w base 47 47 54 i0 1 Tryd.underlying47 hi0 p C.length us h.rows.row, by simpa using h, Below.refl _ _⟩
  · have hcs : ∀ j x, us2[j]? = some x → w.cell? ((⟨g, 0, none⟩ : Addr).add j) = some x := fun j x hx => by
      have hj : j < us2.length := (List.getElem?_eq_some_iff.1 hx).1
      rw [Go.WideShapes.add_plain, Nat.zero_add, h2.row.cellAt j (by have := h2.len; omega)]; exact hx
    obtain ⟨v', w', e, k2, k3, -, -⟩ := run_append_own_at (P := Tryd.prog) w base 47 47 54 i0 _ 1 24 Tryd.underlying47 hi0 hz0 hz1 hz2 rfl (by omega) p C.length us h.rows.row ⟨g, 0, none⟩ M.length cap us2 (by rw [h2.len]; omega) hcs h2.one_cells (by unfold maxLen; omega) (by omega) hb
    exact ⟨v', w', e, ⟨h.rows.joined (h2.base_le hb2) k2 k3, own_grown' h.nums k3 (own_apart' h.nums h.rows.row (by decide)), hoff⟩, below_grown k3 (fun k hk => (own_lt h.rows.row hk).1) hb⟩
/-- one clause more -/
theorem CQ.row {w : World} {base b2 : Nat} {p q u : Value} {C : List (List Int)} {us : List Value} {R Q : List Int} {ad : Addr} (h : CQ w base p C us q R) (hu : w.ownsRow b2 3 1 u Q.length (ints Q)) (hb2 : base ≤ b2) (hq : ∀ k, q.ownBlock = some k → k < b2)
    (hc : ∀ j x, [u][j]? = some x → w.cell? (ad.add j) = some x) (hl : C.length ≤ 50000) (hb : base ≤ w.heap.size) :
    ∃ v' w', (Builtin.append_ #[47, 47] 47 #[p, .slice (some ad) 1 1]).run Tryd.prog w = .ok v' w' ∧ CQ w' base v' (C ++ [Q]) (us ++ [u]) q R ∧ Below base w w' := by
  obtain ⟨i0, hi0, hz0, hz1, hz2⟩ := sl_parts
  have hoff : ∀ u' ∈ us ++ [u], ∀ k, u'.ownBlock = some k → q.ownBlock ≠ some k := fun u' hu' k hk e => by
    rcases List.mem_append.1 hu' with hu' | hu'
    · exact h.off u' hu' k hk e
    · rw [List.mem_singleton.1 hu'] at hk
      have := (own_lt hu hk).1
      have := hq k e
      omega
  obtain ⟨a, c, rfl⟩ := own_val hu
  obtain ⟨v', w', h1, h2, h3, -, -⟩ := run_append_own_at (P := Tryd.prog) w base 47 47 54 i0 _ 1 24 Tryd.underlying47 hi0 hz0 hz1 hz2 rfl (by omega) p C.length us h.rows.row ad 1 1 [.slice a Q.length c] rfl hc (fun u hu => by rw [List.mem_singleton.1 hu]; rfl) (by unfold maxLen; omega) (by omega) hb
  exact ⟨v', w', h1, ⟨h.rows.snoc (own_base hu hb2) h2 h3, own_grown' h.nums h3 (own_apart' h.nums h.rows.row (by decide)), hoff⟩, below_grown h3 (fun k hk => (own_lt h.rows.row hk).1) hb⟩
theorem CQ.start (w : World) : CQ ((w.alloc (.cells #[] 54)).alloc (.cells #[] 3)) w.heap.size (.slice (some ⟨w.heap.size, 0, none⟩) 0 0) [] [] (.slice (some ⟨w.heap.size + 1, 0, none⟩) 0 0) [] := by
  have b2 := bel_alloc (w.alloc (.cells #[] 54)) (.cells #[] 3)
  have hr : (w.alloc (.cells #[] 54)).ownsRow w.heap.size 54 1 (.slice (some ⟨w.heap.size, 0, none⟩) 0 0) 0 [] := World.ownsRow_lit (base := w.heap.size) (size := 1) (e := 54) w #[] 0 (Nat.le_refl _) (by decide) rfl
  have hn := own_lit (w := w.alloc (.cells #[] 54)) [] 0 #[] rfl (by omega) rfl
  rw [size_alloc] at hn
  exact ⟨⟨own_lat' hr b2, rfl, fun i h => absurd h (by simp)⟩, own_base hn (by omega), fun u hu => by cases hu⟩
theorem CQ.cell {w : World} {base : Nat} {p q : Value} {C : List (List Int)} {us : List Value} {R : List Int} (h : CQ w base p C us q R) (j : Nat) (hj : j < R.length) : ∃ g c, q = .slice (some ⟨g, 0, none⟩) R.length c ∧ g < w.heap.size ∧ w.cell? ⟨g, j, none⟩ = some (.int .i64 R[j]) := by
  obtain ⟨g, c, e⟩ := own_some h.nums (by omega)
  have hn := h.nums
  rw [e] at hn
  exact ⟨g, c, e, (own_lt hn rfl).2, by rw [hn.cellAt j (by omega), ints_at R j hj]⟩
theorem CQ.lt {w : World} {base : Nat} {p q : Value} {C : List (List Int)} {us : List Value} {R : List Int} (h : CQ w base p C us q R) : ∀ k, q.ownBlock = some k → k < w.heap.size := fun _ hk => (own_lt h.nums hk).2
/-- what the document's clauses answers -/
def ClsP (L : List Tm) (t : Tm) (m : Nat) (w : World) (e : Ending) (w' : World) : Prop := ∃ v us, e = .returned v ∧ Below w.heap.size w w' ∧ CRows w' w.heap.size v (cls L t m) us
theorem hlps_sizes : ∀ l : List Tm, hlps l ≤ Tm.sizes l
  | [] => Nat.le_refl _
  | k :: l => by have := hlps_sizes l; have := hlp_le k; simp only [hlps, Tm.sizes]; omega
theorem own_val' {w : World} {base e s n : Nat} {v : Value} {xs : List Value} (h : w.ownsRow base e s v n xs) : ∃ a n' c, v = .slice a n' c ∧ w.ownsRow base e s (.slice a n' c) n xs := by
  obtain ⟨a, c, e⟩ := own_val h
  exact ⟨a, n, c, e, by rw [← e]; exact h⟩
theorem sizes_take' {ks : List Tm} {k : Nat} (h : k < ks.length) : Tm.sizes (ks.take k) + ks[k].size ≤ Tm.sizes ks := by
  have happ : ∀ a b : List Tm, Tm.sizes (a ++ b) = Tm.sizes a + Tm.sizes b := by
    intro a b
    induction a with
    | nil => simp [Tm.sizes]
    | cons x a ih => simp only [List.cons_append, Tm.sizes, ih]; omega
  have e := congrArg Tm.sizes (List.take_append_drop (k + 1) ks)
  rw [happ, take1 h, happ] at e
  simp only [Tm.sizes] at e
  omega
/-- what holds of a formula whose clauses are asked for -/
structure CIn (L : List Tm) (va : Value) (t : Tm) (m : Nat) (w : World) : Prop where
  row : Row4 w va L
  els : ∀ x ∈ L, TIn w w.heap.size x ∧ x.deep ≤ 100
  tin : TIn w w.heap.size t
  srt : t.srt = 4
  cov : cov L t = true
  deep : t.deep ≤ 100
  size : t.size ≤ 2000
  len : L.length ≤ 2000
  low : L.length ≤ m
  most : m + t.size ≤ 8000
theorem CIn.later {L : List Tm} {va : Value} {t : Tm} {m : Nat} {w w' : World} (h : CIn L va t m w) (hb : Below w.heap.size w w') : CIn L va t m w' :=
  ⟨h.row.later hb, fun x hx => ⟨(h.els x hx).1.later hb, (h.els x hx).2⟩, h.tin.later hb, h.srt, h.cov, h.deep, h.size, h.len, h.low, h.most⟩
theorem CIn.kid {L : List Tm} {va : Value} {t : Tm} {m : Nat} {w : World} (h : CIn L va t m w) (hj : jnB t.op = true) (h4 : ∀ k ∈ t.ks, k.srt = 4) {k : Nat} (hk : k < t.ks.length) : CIn L va t.ks[k] (m + hlps (t.ks.take k)) w := by
  have hm := List.getElem_mem hk
  have h1 := sizes_take' hk
  have h2 := hlps_sizes (t.ks.take k)
  have h3 := Tm.size_eq t
  have h5 := h.most
  have h6 := h.low
  have hc := h.cov
  rw [cov_eq, if_pos hj] at hc
  exact ⟨h.row, h.els, (h.tin.kid k hk).1, h4 _ hm, (covs_all L t.ks).1 hc _ hm, by have := kid_deep hm; have := h.deep; omega, by have := kid_size hm; have := h.size; omega, h.len, by omega, by omega⟩
theorem CIn.lit {L : List Tm} {va : Value} {t : Tm} {m : Nat} {w : World} (h : CIn L va t m w) : Calls Tryd.prog 69 #[va, t.val, .int .i64 (m : Int)] w (RetV (.int .i64 (lit L t m)) w) :=
  rlit_any L va (by have := h.len; omega) m (by have := h.most; omega) h.low t h.srt w h.row h.els h.tin h.deep h.size h.cov
theorem CIn.hlp {L : List Tm} {va : Value} {t : Tm} {m : Nat} {w : World} (h : CIn L va t m w) : Calls Tryd.prog 70 #[t.val] w (RetV (.int .i64 (hlp t : Int)) w) := rhelp_any t w h.tin h.size
end Go.Proofs.YtaiachmolkjedaaDoor
