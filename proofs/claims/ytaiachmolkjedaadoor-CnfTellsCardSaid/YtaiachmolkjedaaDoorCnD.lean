/-
  A copy of a term: what 'copied' of package cnf does, by slices.Clone.
-/
import Derived.Test.YtaiachmolkjedaaDoorCnB
import Derived.Test.YtaiachmolkjedaaDoorSbA
import Derived.Laws.AppendOwnNone
import Derived.Maps.AppendAt
import Derived.Lib.SliceRun
namespace Go.Proofs.YtaiachmolkjedaaDoor
open Go.RowKit

theorem tm4_len (l : List Tm) : (l.flatMap tm4).length = l.length * 4 := by
  induction l with
  | nil => rfl
  | cons x l ih => simp only [List.flatMap_cons, List.length_append, ih, List.length_cons]; simp [tm4]; omega
theorem tm4_at (l : List Tm) (j : Nat) (hj : j < l.length) (i : Nat) (hi : i < 4) : (l.flatMap tm4)[j * 4 + i]? = (tm4 l[j])[i]? := by
  induction l generalizing j with
  | nil => simp at hj
  | cons x l ih =>
    cases j with
    | zero =>
      simp only [List.flatMap_cons, Nat.zero_mul, Nat.zero_add, List.getElem_cons_zero]
      rw [List.getElem?_append_left (by simp [tm4]; omega)]
    | succ j =>
      simp only [List.flatMap_cons, List.getElem_cons_succ]
      have h4 : (tm4 x).length = 4 := rfl
      rw [List.getElem?_append_right (by rw [h4]; omega), h4, show (j + 1) * 4 + i - 4 = j * 4 + i by omega]
      exact ih j (by simpa using hj)
theorem tm4_ones (l : List Tm) : ∀ u ∈ l.flatMap tm4, u.oneCell' = true := by
  intro u hu
  obtain ⟨x, -, hx⟩ := List.mem_flatMap.1 hu
  simp only [tm4, List.mem_cons, List.not_mem_nil, or_false] at hx
  rcases hx with rfl | rfl | rfl | rfl <;> rfl
theorem own_four {w : World} {base g n cap : Nat} {l : List Tm} (h : w.ownsRow base 24 4 (.slice (some ⟨g, 0, none⟩) n cap) n (l.flatMap tm4)) (j : Nat) (hj : j < l.length) : Four w g (j * 4) l[j] := by
  have hn : l.length * 4 = n * 4 := by have := h.1; rw [tm4_len] at this; exact this
  have c : ∀ i, i < 4 → w.cell? ⟨g, j * 4 + i, none⟩ = (tm4 l[j])[i]? := fun i hi => by rw [h.cellAt (j * 4 + i) (by omega), tm4_at l j hj i hi]
  exact ⟨c 0 (by omega), c 1 (by omega), c 2 (by omega), c 3 (by omega)⟩
/-- the cells of a term's parts -/
theorem kid_cells {w : World} {B : Nat} {t : Tm} (h : TIn w B t) {b o : Nat} (ha : t.a = some ⟨b, o, none⟩) : ∀ j u, (t.ks.flatMap tm4)[j]? = some u → w.cell? ((⟨b, o, none⟩ : Addr).add j) = some u := by
  intro j u hu
  have hl : j < t.ks.length * 4 := by rw [← tm4_len]; exact (List.getElem?_eq_some_iff.1 hu).1
  obtain ⟨q, r, hr, rfl⟩ : ∃ q r, r < 4 ∧ j = q * 4 + r := ⟨j / 4, j % 4, by omega, by omega⟩
  have hk : q < t.ks.length := by omega
  obtain ⟨-, b', o', ha', -, f0, f1, f2, f3⟩ := h.kid q hk
  rw [ha] at ha'
  simp only [Option.some.injEq, Addr.mk.injEq, and_true] at ha'
  obtain ⟨rfl, rfl⟩ := ha'
  rw [tm4_at t.ks q hk r hr] at hu
  have hadd : (⟨b, o, none⟩ : Addr).add (q * 4 + r) = ⟨b, o + (q * 4 + r), none⟩ := by
    unfold Addr.add
    split
    · rename_i h0
      rw [h0]; rfl
    · rfl
  rw [hadd]
  unfold tm4 at hu
  match r, hr with
  | 0, _ => simp only [List.getElem?_cons_zero, Option.some.injEq] at hu; subst hu; exact f0
  | 1, _ => simp only [List.getElem?_cons_zero, List.getElem?_cons_succ, Option.some.injEq] at hu; subst hu; exact f1
  | 2, _ => simp only [List.getElem?_cons_zero, List.getElem?_cons_succ, Option.some.injEq] at hu; subst hu; exact f2
  | 3, _ => simp only [List.getElem?_cons_zero, List.getElem?_cons_succ, Option.some.injEq] at hu; subst hu; exact f3
/-- a row of a term's parts, all of it new -/
def CloP (t : Tm) (w : World) (e : Ending) (w' : World) : Prop := ∃ a' c', e = .returned (.slice a' t.ks.length c') ∧ Below w.heap.size w w' ∧ t.ks.length ≤ c' ∧ c' ≤ maxLen ∧
  ((a' = none ∧ t.ks.length = 0) ∨ ∃ R, a' = some ⟨R, 0, none⟩ ∧ w'.ownsRow w.heap.size 24 4 (.slice (some ⟨R, 0, none⟩) t.ks.length c') t.ks.length (t.ks.flatMap tm4))
set_option maxRecDepth 100000 in
set_option maxHeartbeats 2000000 in
theorem clone_any (t : Tm) (w : World) (hin : TIn w w.heap.size t) (hz : t.ks.length ≤ 2000) :
    Calls Tryd.prog 107 #[.slice t.a t.ks.length t.c] w (CloP t w) := by
  obtain ⟨i0, hi0, hz0, hz1, hz2⟩ := tm_parts
  have qT : ∀ (w : World) (a : Option Addr) (n c : Nat), (binOp .eql 22 (.slice a n c) (.slice none 0 0)).run Tryd.prog w = .ok (.bool a.isNone) w := fun w a n c => Lib.run_eql_slice_nil w _ _ a n c 0 0 Tryd.underlying22
  have HK := mkHid (fun (b o : Nat) (ha : t.a = some ⟨b, o, none⟩) => kid_cells (hin.later (bel_alloc w (.cells #[] 24))) ha)
  have HF := mkHid (fun (h : 0 < t.ks.length) => hin.kid 0 h)
  have hown := World.ownsRow_lit (base := w.heap.size) (size := 4) (e := 24) w #[] 0 (Nat.le_refl _) (by decide) rfl
  unfold CloP
  generalize hks : t.ks = ks at *
  obtain ⟨n, hn⟩ : ∃ n, ks.length = n := ⟨_, rfl⟩
  have HN := mkHid hn
  rw [hn] at hz ⊢
  have h4 : (ks.flatMap tm4).length = n * 4 := by rw [tm4_len, hn]
  have H4 := mkHid h4
  clear h4 hn
  cases ha : t.a with
  | none =>
    have h0 : n = 0 := by
      by_cases h : 0 < n
      · obtain ⟨-, b, o, h1, -⟩ := HF.out (by rw [HN.out]; exact h)
        rw [ha] at h1; cases h1
      · omega
    subst h0
    clear HK HF
    go_enter Tryd.func107, Tryd.ntmps107
    go_wp2
    go_ret
    exact ⟨none, 0, rfl, Below.refl _ _, by decide, .inl rfl⟩
  | some ad =>
    have hnews : ∀ j u, (ks.flatMap tm4)[j]? = some u → (w.alloc (.cells #[] 24)).cell? (ad.add j) = some u := by
      intro j u hu
      by_cases h : 0 < n
      · obtain ⟨-, b, o, h1, -⟩ := HF.out (by rw [HN.out]; exact h)
        rw [ha] at h1
        obtain rfl := Option.some.inj h1
        exact HK.out b o ha j u hu
      · have h0 : n = 0 := by omega
        subst h0
        rw [List.length_eq_zero_iff.1 HN.out] at hu
        simp at hu
    have HNW := mkHid hnews
    have ho1 := mkHid (tm4_ones ks)
    clear hnews HK HF
    go_enter Tryd.func107, Tryd.ntmps107
    go_wp2_with (at_builtin; refine wpList_append_own_at _ rfl (.tmp 5) (.tmp 6) _ rfl w.heap.size 24 i0 _ 4 56 Tryd.underlying22 hi0 hz0 hz1 hz2 rfl (by omega) (.slice (some ⟨w.heap.size, 0, none⟩) 0 0) 0 [] rfl hown ad n t.c (ks.flatMap tm4) rfl H4.out HNW.out ho1.out (by simp only [maxLen]; omega) (by omega) (by simp) ?_; intro v1 w1 hown1 hgrow1 hnil hblk)
    have hne : v1 ≠ .slice none 0 0 := fun e => by have := (hnil.1 e).1; simp at this
    obtain ⟨g, cap, rfl⟩ : ∃ g cap, v1 = .slice (some ⟨g, 0, none⟩) (0 + n) cap := by
      rcases hown1.2 with ⟨h1, -⟩ | ⟨g, cap, cur, h1, -⟩
      · exact absurd h1 hne
      · exact ⟨g, cap, h1⟩
    rw [Nat.zero_add, List.nil_append] at hown1
    rw [Nat.zero_add]
    go_wp2
    go_ret
    obtain ⟨a1, c1, e1, hc1, hc2⟩ := own_is hown1
    simp only [Value.slice.injEq] at e1
    obtain ⟨-, -, rfl⟩ := e1
    refine ⟨_, cap, rfl, ?_, hc1, hc2, .inr ⟨g, rfl, hown1⟩⟩
    exact ⟨hgrow1.os, hgrow1.tape, hgrow1.output, by have := hgrow1.size; simp at this; omega, fun k hk => by
      rw [hgrow1.block k (by simp; omega) (by simp only [Value.ownBlock, ne_eq, Option.some.injEq]; omega)]
      exact Below.heap_alloc _ _ _ hk⟩
theorem own_far' {w : World} {base e s n : Nat} {v : Value} {xs : List Value} {p : Addr} (h : w.ownsRow base e s v n xs) (hp : p.block < base) (u : Value) : (w.setCell p u).ownsRow base e s v n xs := by
  refine ⟨h.1, ?_⟩
  rcases h.2 with h0 | ⟨g, cap, cur, hv, hbg, hg, hr⟩
  · exact .inl h0
  · exact .inr ⟨g, cap, cur, hv, hbg, by rw [Below.heap_setCell w p u g (by omega)]; exact hg, hr⟩
theorem FourV'.put3' {w : World} {b : Nat} {x y z u : Value} (h : FourV' w b x y z u) (v : Value) : FourV' (w.setCell ⟨b, 3, none⟩ v) b x y z v := by
  obtain ⟨h0, h1, h2, h3, f0, f1, f2, f3⟩ := h
  refine ⟨?_, ?_, ?_, ?_, ?_, ?_, ?_, ?_⟩ <;> simp [go_sem, h0, h1, h2, h3, f0, f1, f2, f3]
theorem FourV'.far {w : World} {b : Nat} {x y z u : Value} (h : FourV' w b x y z u) {p : Addr} (hp : p.block ≠ b) (v : Value) : FourV' (w.setCell p v) b x y z u := by
  have c : ∀ i, (w.setCell p v).cell? ⟨b, i, none⟩ = w.cell? ⟨b, i, none⟩ := fun i => World.cell?_of_block (w := w) (Below.heap_setCell w p v b (fun e => hp e.symm))
  have f : ∀ i, (w.setCell p v).frozen? ⟨b, i, none⟩ = w.frozen? ⟨b, i, none⟩ := fun i => World.frozen?_of_block (w := w) (Below.heap_setCell w p v b (fun e => hp e.symm))
  unfold FourV' at *
  rw [c, c, c, c, f, f, f, f]; exact h
theorem set4_row (A B : List Value) (y0 y1 y2 y3 x0 x1 x2 x3 : Value) (k : Nat) (hk : A.length = k) :
    ((((A ++ ([y0, y1, y2, y3] ++ B)).set k x0).set (k + 1) x1).set (k + 2) x2).set (k + 3) x3 = A ++ [x0, x1, x2, x3] ++ B := by
  subst hk
  simp
/-- a term whose parts are being copied: the box, the answer's box, the row -/
structure CL (w : World) (t : Tm) (a' : Option Addr) (c' : Nat) (l : List Tm) (w' : World) : Prop where
  bel : Below w.heap.size w w'
  bt : FourV' w' w.heap.size (.int .i64 t.op) (.string t.nm) (.int .i64 t.n) (.slice a' t.ks.length c')
  fr : FourV' w' (w.heap.size + 1) (.int .i64 0) (.string ⟨#[]⟩) (.int .i64 0) (.slice none 0 0)
  row : 0 < t.ks.length → ∃ R, a' = some ⟨R, 0, none⟩ ∧ w'.ownsRow (w.heap.size + 1 + 1) 24 4 (.slice (some ⟨R, 0, none⟩) t.ks.length c') t.ks.length ((l ++ t.ks.drop l.length).flatMap tm4)
  tin : ∀ x ∈ l, TIn w' w'.heap.size x
  tfr : ∀ x ∈ l, TFr (w.heap.size + 1 + 1) x
  aw : ∀ x ∈ l, ∀ R, a' = some ⟨R, 0, none⟩ → TAw R x
theorem CL.later {w w' w'' : World} {t : Tm} {a' : Option Addr} {c' : Nat} {l : List Tm} (h : CL w t a' c' l w') (hb : Below w'.heap.size w' w'') : CL w t a' c' l w'' :=
  ⟨h.bel.trans (hb.mono h.bel.size), h.bt.later hb, h.fr.later hb, fun h0 => by
    obtain ⟨R, e, ho⟩ := h.row h0
    exact ⟨R, e, own_lat' ho hb⟩, fun x hx => (h.tin x hx).later hb, h.tfr, h.aw⟩
theorem TFr.awR {R B : Nat} {t : Tm} (h : TFr B t) (hR : R < B) : TAw R t := by
  induction t using Tm.ind with
  | h t ih =>
    cases h with
    | mk _ h hk => exact .mk t (fun _ p hp => by have := h p hp; omega) (fun k hk' => ih k hk' (hk k hk'))
theorem CL.store {w w' : World} {t x : Tm} {R c' : Nat} {l : List Tm} (h : CL w t (some ⟨R, 0, none⟩) c' l w') (hl : l.length < t.ks.length) (hx : TIn w' w'.heap.size x) (hf : TFr (w.heap.size + 1 + 1) x) (ha : TAw R x) :
    CL w t (some ⟨R, 0, none⟩) c' (l ++ [x]) ((((w'.setCell ⟨R, l.length * 4, none⟩ (.int .i64 x.op)).setCell ⟨R, l.length * 4 + 1, none⟩ (.string x.nm)).setCell ⟨R, l.length * 4 + 2, none⟩ (.int .i64 x.n)).setCell ⟨R, l.length * 4 + 3, none⟩ (.slice x.a x.ks.length x.c)) := by
  obtain ⟨R', e, ho⟩ := h.row (by omega)
  simp only [Option.some.injEq, Addr.mk.injEq, and_true] at e
  subst e
  have hR : w.heap.size + 1 + 1 ≤ R := (own_lt ho rfl).1
  have r1 := (ho.stored (l.length * 4) (.int .i64 x.op)).1
  have r2 := (r1.stored (l.length * 4 + 1) (.string x.nm)).1
  have r3 := (r2.stored (l.length * 4 + 2) (.int .i64 x.n)).1
  have r4 := (r3.stored (l.length * 4 + 3) (.slice x.a x.ks.length x.c)).1
  have eX : ((l ++ t.ks.drop l.length).flatMap tm4) = l.flatMap tm4 ++ (tm4 t.ks[l.length] ++ (t.ks.drop (l.length + 1)).flatMap tm4) := by
    rw [List.flatMap_append, List.drop_eq_getElem_cons hl, List.flatMap_cons]
  have eY : ((l ++ [x] ++ t.ks.drop (l ++ [x]).length).flatMap tm4) = l.flatMap tm4 ++ tm4 x ++ (t.ks.drop (l.length + 1)).flatMap tm4 := by
    simp
  rw [eX] at r4
  have e4 := set4_row (l.flatMap tm4) ((t.ks.drop (l.length + 1)).flatMap tm4) (.int .i64 t.ks[l.length].op) (.string t.ks[l.length].nm) (.int .i64 t.ks[l.length].n) (.slice t.ks[l.length].a t.ks[l.length].ks.length t.ks[l.length].c) (.int .i64 x.op) (.string x.nm) (.int .i64 x.n) (.slice x.a x.ks.length x.c) (l.length * 4) (tm4_len l)
  have r5 : _ = _ := e4
  unfold tm4 at r4 eY
  unfold tm4 at r5
  rw [r5] at r4
  have hsz : ((((w'.setCell ⟨R, l.length * 4, none⟩ (.int .i64 x.op)).setCell ⟨R, l.length * 4 + 1, none⟩ (.string x.nm)).setCell ⟨R, l.length * 4 + 2, none⟩ (.int .i64 x.n)).setCell ⟨R, l.length * 4 + 3, none⟩ (.slice x.a x.ks.length x.c)).heap.size = w'.heap.size := by simp
  have aws : ∀ y ∈ l ++ [x], TAw R y := fun y hy => by
    rcases List.mem_append.1 hy with hy | hy
    · exact h.aw y hy R rfl
    · rw [List.mem_singleton.1 hy]; exact ha
  have tins : ∀ y ∈ l ++ [x], TIn w' w'.heap.size y := fun y hy => by
    rcases List.mem_append.1 hy with hy | hy
    · exact h.tin y hy
    · rw [List.mem_singleton.1 hy]; exact hx
  refine ⟨?_, ?_, ?_, fun _ => ⟨R, rfl, ?_⟩, fun y hy => ?_, fun y hy => ?_, fun y hy R' e => ?_⟩
  · exact bset (bset (bset (bset h.bel (p := ⟨R, _, none⟩) (by show w.heap.size ≤ R; omega) _) (p := ⟨R, _, none⟩) (by show w.heap.size ≤ R; omega) _) (p := ⟨R, _, none⟩) (by show w.heap.size ≤ R; omega) _) (p := ⟨R, _, none⟩) (by show w.heap.size ≤ R; omega) _
  · have hne : ∀ i, (⟨R, i, none⟩ : Addr).block ≠ w.heap.size := fun i => by show R ≠ _; omega
    exact (((h.bt.far (hne _) _).far (hne _) _).far (hne _) _).far (hne _) _
  · have hne : ∀ i, (⟨R, i, none⟩ : Addr).block ≠ w.heap.size + 1 := fun i => by show R ≠ _; omega
    exact (((h.fr.far (hne _) _).far (hne _) _).far (hne _) _).far (hne _) _
  · show World.ownsRow _ _ _ _ _ _ (List.flatMap (fun t : Tm => [Value.int .i64 t.op, .string t.nm, .int .i64 t.n, .slice t.a t.ks.length t.c]) _)
    rw [eY]; exact r4
  · rw [hsz]
    have a := aws y hy
    exact ((((tins y hy).setAw (p := ⟨R, _, none⟩) a _).setAw (p := ⟨R, _, none⟩) a _).setAw (p := ⟨R, _, none⟩) a _).setAw (p := ⟨R, _, none⟩) a _
  · rcases List.mem_append.1 hy with hy | hy
    · exact h.tfr y hy
    · rw [List.mem_singleton.1 hy]; exact hf
  · simp only [Option.some.injEq, Addr.mk.injEq, and_true] at e
    subst e
    exact aws y hy
end Go.Proofs.YtaiachmolkjedaaDoor
