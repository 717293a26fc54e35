/-
  Terms that keep away from a block, rows of them that are being made.
-/
import Derived.Test.YtaibmdikimpooaaDoorSbA
namespace Go.Proofs.YtaibmdikimpooaaDoor
open Go.RowKit

/-- none of its parts stands in block R -/
inductive TAw (R : Nat) : Tm → Prop
  | mk (t : Tm) (h : t.ks ≠ [] → ∀ p, t.a = some p → p.block ≠ R) (hk : ∀ k ∈ t.ks, TAw R k) : TAw R t
theorem TAw.kid {R : Nat} {t k : Tm} (h : TAw R t) (hk : k ∈ t.ks) : TAw R k := by
  cases h with
  | mk _ _ h => exact h k hk
theorem TIn.aw {w : World} {B R : Nat} {t : Tm} (h : TIn w B t) (hR : B ≤ R) : TAw R t := by
  induction t using Tm.ind with
  | h t ih =>
    cases h with
    | mk _ ho hn hs hc hm hk hi =>
      refine .mk t (fun hne p hp => ?_) (fun k hk' => ih k hk' (hi k hk'))
      have hl : 0 < t.ks.length := List.length_pos_iff.2 hne
      obtain ⟨b, o, ha, hb, -⟩ := hk 0 hl
      rw [ha] at hp
      obtain rfl := Option.some.inj hp
      show b ≠ R
      omega
theorem TIn.setAw {w : World} {B : Nat} {t : Tm} {p : Addr} (h : TIn w B t) (hf : TAw p.block t) (u : Value) : TIn (w.setCell p u) B t := by
  induction t using Tm.ind with
  | h t ih =>
    cases h with
    | mk _ ho hn hs hc hm hk hi =>
      cases hf with
      | mk _ h' hk' =>
        refine .mk t ho hn hs hc hm (fun j hj => ?_) (fun k hk'' => ih k hk'' (hi k hk'') (hk' k hk''))
        obtain ⟨b, o, ha, hb, f⟩ := hk j hj
        have hne : b ≠ p.block := h' (List.length_pos_iff.1 (by omega)) _ ha
        refine ⟨b, o, ha, hb, ?_⟩
        have e : ∀ q, (w.setCell p u).cell? ⟨b, q, none⟩ = w.cell? ⟨b, q, none⟩ := fun q => World.cell?_of_block (w := w) (Below.heap_setCell w p u b hne)
        unfold Four
        rw [e, e, e, e]
        exact f
/-- the parts that are done: the row in block R, its first parts -/
structure CR (W3 : World) (R n : Nat) (l : List Tm) (w : World) : Prop where
  but : But R W3 w
  row : ∃ xs : List Value, w.ownsRow R 24 4 (.slice (some ⟨R, 0, none⟩) n n) n xs ∧ ∀ m (hm : m < l.length) i, i < 4 → xs[m * 4 + i]? = (tm4 l[m])[i]?
  tin : ∀ x ∈ l, TIn w w.heap.size x
  aw : ∀ x ∈ l, TAw R x
theorem CR.later {W3 w w' : World} {R n : Nat} {l : List Tm} (h : CR W3 R n l w) (hb : Below w.heap.size w w') : CR W3 R n l w' := by
  obtain ⟨xs, ho, hx⟩ := h.row
  refine ⟨h.but.trans (But.of hb), ⟨xs, ?_, hx⟩, fun x hx => (h.tin x hx).later hb, h.aw⟩
  refine ⟨ho.1, ?_⟩
  rcases ho.2 with h0 | ⟨g, cap, cur, hv, hbg, hg, hr⟩
  · exact .inl h0
  · exact .inr ⟨g, cap, cur, hv, hbg, by rw [hb.block g (Array.getElem?_eq_some_iff.1 hg).1]; exact hg, hr⟩
theorem CR.four {W3 w : World} {R n : Nat} {l : List Tm} (h : CR W3 R n l w) (hl : l.length ≤ n) (m : Nat) (hm : m < l.length) : Four w R (m * 4) l[m] := by
  obtain ⟨xs, ho, hx⟩ := h.row
  have c : ∀ i, i < 4 → w.cell? ⟨R, m * 4 + i, none⟩ = (tm4 l[m])[i]? := fun i hi => by rw [ho.cellAt (m * 4 + i) (by omega), hx m hm i hi]
  exact ⟨c 0 (by omega), c 1 (by omega), c 2 (by omega), c 3 (by omega)⟩
theorem CR.there {W3 w : World} {R n : Nat} {l : List Tm} (h : CR W3 R n l w) (k : Nat) (hk : k < n * 4) : ∃ u, w.cell? ⟨R, k, none⟩ = some u ∧ w.frozen? ⟨R, k, none⟩ = false := by
  obtain ⟨xs, ho, -⟩ := h.row
  refine ⟨xs[k]'(by rw [ho.1]; exact hk), ?_, ho.frozenAt k⟩
  rw [ho.cellAt k hk]
  exact List.getElem?_eq_getElem _
theorem CR.store {W3 w : World} {R n : Nat} {l : List Tm} (h : CR W3 R n l w) (hl : l.length < n) {x : Tm} (hx : TIn w w.heap.size x) (hf : TAw R x) :
    CR W3 R n (l ++ [x]) ((((w.setCell ⟨R, l.length * 4, none⟩ (.int .i64 x.op)).setCell ⟨R, l.length * 4 + 1, none⟩ (.string x.nm)).setCell ⟨R, l.length * 4 + 2, none⟩ (.int .i64 x.n)).setCell ⟨R, l.length * 4 + 3, none⟩ (.slice x.a x.ks.length x.c)) := by
  obtain ⟨xs, ho, hxs⟩ := h.row
  have r1 := (ho.stored (l.length * 4) (.int .i64 x.op)).1
  have r2 := (r1.stored (l.length * 4 + 1) (.string x.nm)).1
  have r3 := (r2.stored (l.length * 4 + 2) (.int .i64 x.n)).1
  have r4 := (r3.stored (l.length * 4 + 3) (.slice x.a x.ks.length x.c)).1
  have hlen : xs.length = n * 4 := ho.1
  have set4 : ∀ y : Tm, TIn w w.heap.size y → TAw R y → TIn ((((w.setCell ⟨R, l.length * 4, none⟩ (.int .i64 x.op)).setCell ⟨R, l.length * 4 + 1, none⟩ (.string x.nm)).setCell ⟨R, l.length * 4 + 2, none⟩ (.int .i64 x.n)).setCell ⟨R, l.length * 4 + 3, none⟩ (.slice x.a x.ks.length x.c)) w.heap.size y := fun y hy hfy =>
    (((hy.setAw (p := ⟨R, _, none⟩) hfy _).setAw (p := ⟨R, _, none⟩) hfy _).setAw (p := ⟨R, _, none⟩) hfy _).setAw (p := ⟨R, _, none⟩) hfy _
  refine ⟨(((h.but.set (p := ⟨R, _, none⟩) (.inl rfl) _).set (p := ⟨R, _, none⟩) (.inl rfl) _).set (p := ⟨R, _, none⟩) (.inl rfl) _).set (p := ⟨R, _, none⟩) (.inl rfl) _, ⟨_, r4, fun m hm i hi => ?_⟩, fun y hy => ?_, fun y hy => ?_⟩
  · simp only [List.getElem?_set, List.length_set]
    by_cases hml : m < l.length
    · rw [if_neg (by omega), if_neg (by omega), if_neg (by omega), if_neg (by omega), hxs m hml i hi, List.getElem_append_left hml]
    · have hml : m = l.length := by simp at hm; omega
      subst hml
      rw [List.getElem_append_right (by omega)]
      simp only [Nat.sub_self, List.getElem_cons_zero]
      match i, hi with
      | 0, _ => rw [if_neg (by omega), if_neg (by omega), if_neg (by omega), if_pos (by omega), if_pos (by omega)]; rfl
      | 1, _ => rw [if_neg (by omega), if_neg (by omega), if_pos (by omega), if_pos (by omega)]; rfl
      | 2, _ => rw [if_neg (by omega), if_pos (by omega), if_pos (by omega)]; rfl
      | 3, _ => rw [if_pos (by omega), if_pos (by omega)]; rfl
  · have hs : ((((w.setCell ⟨R, l.length * 4, none⟩ (.int .i64 x.op)).setCell ⟨R, l.length * 4 + 1, none⟩ (.string x.nm)).setCell ⟨R, l.length * 4 + 2, none⟩ (.int .i64 x.n)).setCell ⟨R, l.length * 4 + 3, none⟩ (.slice x.a x.ks.length x.c)).heap.size = w.heap.size := by simp
    rw [hs]
    rcases List.mem_append.1 hy with hy | hy
    · exact set4 y (h.tin y hy) (h.aw y hy)
    · rw [List.mem_singleton.1 hy]; exact set4 x hx hf
  · rcases List.mem_append.1 hy with hy | hy
    · exact h.aw y hy
    · rw [List.mem_singleton.1 hy]; exact hf
theorem CR.start {w : World} {cs : Array Value} {n : Nat} (hc : cs.size = n * 4) (hn : n ≤ 2000) : CR (w.alloc (.cells cs 24)) w.heap.size n [] (w.alloc (.cells cs 24)) :=
  ⟨But.refl _ _, ⟨_, World.ownsRow_lit w cs n (Nat.le_refl _) (by unfold maxLen; omega) hc, fun m hm => by simp at hm⟩, fun x hx => (by cases hx), fun x hx => (by cases hx)⟩
/-- what a term became: a term, which it is without places; it keeps away from what the first one keeps away from -/
def BecP (F : Tm → Tm) (t : Tm) (w : World) (e : Ending) (w' : World) : Prop := ∃ x : Tm, e = .returned x.val ∧ x.er = F t ∧ TIn w' w'.heap.size x ∧ (∀ R, R < w.heap.size → TAw R t → TAw R x) ∧ Below w.heap.size w w'
/-- what became of each part: a row -/
def EachP (F : Tm → Tm) (ks : List Tm) (w : World) (e : Ending) (w' : World) : Prop := ∃ (l : List Tm) (R0 : Nat), e = .returned (.slice (some ⟨R0, 0, none⟩) ks.length ks.length) ∧ l.map Tm.er = ks.map F ∧ (∀ j (h : j < l.length), Four w' R0 (j * 4) l[j]) ∧ (∀ x ∈ l, TIn w' w'.heap.size x) ∧ w.heap.size ≤ R0 ∧ R0 < w'.heap.size ∧ (∀ R, R < w.heap.size → (∀ k ∈ ks, TAw R k) → ∀ x ∈ l, TAw R x) ∧ Below w.heap.size w w'
theorem kid_in {w : World} {B : Nat} {t k : Tm} (h : TIn w B t) (hk : k ∈ t.ks) : TIn w B k := by
  obtain ⟨j, hj, rfl⟩ := List.getElem_of_mem hk
  exact (h.kid j hj).1
def mkT (op : Int) (ks : List Tm) : Tm := .node op ⟨#[]⟩ 0 none 0 ks
def leT (a b : Tm) : Tm := mkT 22 [a, b]
def notT (a : Tm) : Tm := mkT 18 [a]
def oneT (a : Tm) : Tm := mkT 10 [a]
def numT : Tm := mkT 1 []
def insT (a b : Tm) : Tm := leT (mkT 3 [mkT 13 [a, b]]) numT
theorem er_mk (op : Int) (l : List Tm) : (mkT op l).er = mkT op (l.map Tm.er) := by rw [er_eq]; rfl
/-- terms of no, one and two parts, as they are made in place -/
def q0 (op : Int) : Tm := .node op ⟨#[]⟩ 0 none 0 []
def q1 (op : Int) (g : Nat) (k : Tm) : Tm := .node op ⟨#[]⟩ 0 (some ⟨g, 0, none⟩) 1 [k]
def q2 (op : Int) (g : Nat) (k0 k1 : Tm) : Tm := .node op ⟨#[]⟩ 0 (some ⟨g, 0, none⟩) 2 [k0, k1]
theorem q0_er (op : Int) : (q0 op).er = mkT op [] := by rw [er_eq]; rfl
theorem q1_er (op : Int) (g : Nat) (k : Tm) : (q1 op g k).er = mkT op [k.er] := by rw [er_eq]; rfl
theorem q2_er (op : Int) (g : Nat) (k0 k1 : Tm) : (q2 op g k0 k1).er = mkT op [k0.er, k1.er] := by rw [er_eq]; rfl
/-- what was made on the way of a function that was called in world w with the term t: it lies in memory, away from where the answer is put, and from what t keeps away from -/
structure Mk (w : World) (t : Tm) (wc : World) (x : Tm) : Prop where
  tin : TIn wc wc.heap.size x
  own : TAw (w.heap.size + 1) x
  aw : ∀ R, R < w.heap.size → TAw R t → TAw R x
theorem Mk.later {w wc wc' : World} {t x : Tm} (h : Mk w t wc x) (hb : Below wc.heap.size wc wc') : Mk w t wc' x := ⟨h.tin.later hb, h.own, h.aw⟩
theorem Mk.kid {w wc : World} {t k : Tm} (ht : TIn w w.heap.size t) (hk : k ∈ t.ks) (hb : Below w.heap.size w wc) : Mk w t wc k :=
  ⟨(kid_in ht hk).later hb, (kid_in ht hk).aw (by omega), fun _ _ h => h.kid hk⟩
theorem Mk.self {w wc : World} {t : Tm} (ht : TIn w w.heap.size t) (hb : Below w.heap.size w wc) : Mk w t wc t :=
  ⟨ht.later hb, ht.aw (by omega), fun _ _ h => h⟩
theorem Mk.nil {w wc : World} {t : Tm} {op : Int} (ho : fitB op = true) : Mk w t wc (q0 op) :=
  ⟨.mk _ ho (by show fitB 0 = true; decide) (by show (0 : Nat) ≤ _; omega) (Nat.le_refl _) (Nat.zero_le _) (fun j hj => by simp [q0, Tm.ks] at hj) (fun k hk => by simp [q0, Tm.ks] at hk),
    .mk _ (fun h => absurd rfl h) (fun k hk => by simp [q0, Tm.ks] at hk), fun _ _ _ => .mk _ (fun h => absurd rfl h) (fun k hk => by simp [q0, Tm.ks] at hk)⟩
theorem Mk.one {w wc : World} {t x : Tm} {op : Int} {g : Nat} (h : Mk w t wc x) (hf : Four wc g 0 x) (hg : w.heap.size + 1 < g) (ho : fitB op = true) : Mk w t wc (q1 op g x) := by
  have hm : ∀ k ∈ (q1 op g x).ks, k = x := fun k hk => by simpa [q1, Tm.ks] using hk
  have hp : ∀ R, R < g → ∀ p, (q1 op g x).a = some p → p.block ≠ R := fun R hR p hp => by
    have hp : some (⟨g, 0, none⟩ : Addr) = some p := hp
    obtain rfl := Option.some.inj hp
    show g ≠ R
    omega
  refine ⟨.mk _ ho (by show fitB 0 = true; decide) (by show (0 : Nat) ≤ _; omega) (by show (1 : Nat) ≤ 1; omega) (by show (1 : Nat) ≤ maxLen; decide) (fun j hj => ?_) (fun k hk => by rw [hm k hk]; exact h.tin), .mk _ (fun _ => hp _ hg) (fun k hk => by rw [hm k hk]; exact h.own), fun R hR hT => .mk _ (fun _ => hp _ (by omega)) (fun k hk => by rw [hm k hk]; exact h.aw R hR hT)⟩
  have : j = 0 := by simp [q1, Tm.ks] at hj; omega
  subst this
  exact ⟨g, 0, rfl, World.block_lt_of_cell? _ _ hf.1, hf⟩
theorem Mk.two {w wc : World} {t x y : Tm} {op : Int} {g : Nat} (h : Mk w t wc x) (h' : Mk w t wc y) (hf : Four wc g 0 x ∧ Four wc g 4 y) (hg : w.heap.size + 1 < g) (ho : fitB op = true) : Mk w t wc (q2 op g x y) := by
  have hm : ∀ k ∈ (q2 op g x y).ks, k = x ∨ k = y := fun k hk => by simpa [q2, Tm.ks] using hk
  have hp : ∀ R, R < g → ∀ p, (q2 op g x y).a = some p → p.block ≠ R := fun R hR p hp => by
    have hp : some (⟨g, 0, none⟩ : Addr) = some p := hp
    obtain rfl := Option.some.inj hp
    show g ≠ R
    omega
  refine ⟨.mk _ ho (by show fitB 0 = true; decide) (by show (0 : Nat) ≤ _; omega) (by show (2 : Nat) ≤ 2; omega) (by show (2 : Nat) ≤ maxLen; decide) (fun j hj => ?_) (fun k hk => ?_), .mk _ (fun _ => hp _ hg) (fun k hk => ?_), fun R hR hT => .mk _ (fun _ => hp _ (by omega)) (fun k hk => ?_)⟩
  · have : j = 0 ∨ j = 1 := by simp [q2, Tm.ks] at hj; omega
    rcases this with rfl | rfl
    · exact ⟨g, 0, rfl, World.block_lt_of_cell? _ _ hf.1.1, hf.1⟩
    · exact ⟨g, 0, rfl, World.block_lt_of_cell? _ _ hf.1.1, hf.2⟩
  · rcases hm k hk with rfl | rfl
    · exact h.tin
    · exact h'.tin
  · rcases hm k hk with rfl | rfl
    · exact h.own
    · exact h'.own
  · rcases hm k hk with rfl | rfl
    · exact h.aw R hR hT
    · exact h'.aw R hR hT
theorem Mk.call {w wc w' : World} {t k x : Tm} (h : Mk w t wc k) (hX : w.heap.size + 1 < wc.heap.size) (hz : TIn w' w'.heap.size x) (haw : ∀ R, R < wc.heap.size → TAw R k → TAw R x) : Mk w t w' x :=
  ⟨hz, haw _ hX h.own, fun R hR hT => haw R (by omega) (h.aw R hR hT)⟩
theorem build1 (w : World) (x : Tm) : Four (w.alloc (.cells #[.int .i64 x.op, .string x.nm, .int .i64 x.n, .slice x.a x.ks.length x.c] 24)) w.heap.size 0 x := box_four w x
theorem build2 (w : World) (x y : Tm) : Four (w.alloc (.cells #[.int .i64 x.op, .string x.nm, .int .i64 x.n, .slice x.a x.ks.length x.c, .int .i64 y.op, .string y.nm, .int .i64 y.n, .slice y.a y.ks.length y.c] 24)) w.heap.size 0 x ∧ Four (w.alloc (.cells #[.int .i64 x.op, .string x.nm, .int .i64 x.n, .slice x.a x.ks.length x.c, .int .i64 y.op, .string y.nm, .int .i64 y.n, .slice y.a y.ks.length y.c] 24)) w.heap.size 4 y := by
  constructor <;> simp [Four, go_sem]
/-- the answer is put where it belongs -/
theorem Mk.fin {F : Tm → Tm} {w wN : World} {t x : Tm} (M : Mk w t wN x) (BW : Below w.heap.size w wN) (he : x.er = F t) :
    BecP F t w (.returned x.val) ((((wN.setCell ⟨w.heap.size + 1, 0, none⟩ (.int .i64 x.op)).setCell ⟨w.heap.size + 1, 1, none⟩ (.string x.nm)).setCell ⟨w.heap.size + 1, 2, none⟩ (.int .i64 x.n)).setCell ⟨w.heap.size + 1, 3, none⟩ (.slice x.a x.ks.length x.c)) := by
  have hsz : ((((wN.setCell ⟨w.heap.size + 1, 0, none⟩ (.int .i64 x.op)).setCell ⟨w.heap.size + 1, 1, none⟩ (.string x.nm)).setCell ⟨w.heap.size + 1, 2, none⟩ (.int .i64 x.n)).setCell ⟨w.heap.size + 1, 3, none⟩ (.slice x.a x.ks.length x.c)).heap.size = wN.heap.size := by simp
  refine ⟨x, rfl, he, ?_, M.aw, ?_⟩
  · rw [hsz]
    exact (((M.tin.setAw (p := ⟨w.heap.size + 1, 0, none⟩) M.own _).setAw (p := ⟨w.heap.size + 1, 1, none⟩) M.own _).setAw (p := ⟨w.heap.size + 1, 2, none⟩) M.own _).setAw (p := ⟨w.heap.size + 1, 3, none⟩) M.own _
  · exact bset (bset (bset (bset BW (by show w.heap.size ≤ w.heap.size + 1; omega) _) (by show w.heap.size ≤ w.heap.size + 1; omega) _) (by show w.heap.size ≤ w.heap.size + 1; omega) _) (by show w.heap.size ≤ w.heap.size + 1; omega) _
end Go.Proofs.YtaibmdikimpooaaDoor
