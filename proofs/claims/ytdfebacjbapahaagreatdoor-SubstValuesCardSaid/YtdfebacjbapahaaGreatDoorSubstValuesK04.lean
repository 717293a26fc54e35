/-
  What SubstValues's proof stands on, part 4: NmE, NmA, NmM, SbG, SbF.
-/
import Derived.Test.YtdfebacjbapahaaGreatDoorSubstValuesK02
import Derived.Test.YtdfebacjbapahaaGreatDoorSubstValuesK03
namespace Go.Proofs.YtdfebacjbapahaaGreatDoor
section
open Go.RowKit

theorem er_op (t : Tm) : t.er.op = t.op ∧ t.er.nm = t.nm ∧ t.er.n = t.n ∧ t.er.ks = t.ks.map Tm.er := by rw [er_eq]; exact ⟨rfl, rfl, rfl, rfl⟩
theorem er_size (t : Tm) : t.er.size = t.size := by
  induction t using Tm.ind with
  | h t ih =>
    have hs : ∀ ks : List Tm, (∀ k ∈ ks, k.er.size = k.size) → Tm.sizes (ks.map Tm.er) = Tm.sizes ks := by
      intro ks
      induction ks with
      | nil => intro _; rfl
      | cons k ks ihk =>
        intro h
        simp only [List.map_cons, Tm.sizes]
        rw [h k (by simp), ihk (fun q hq => h q (by simp [hq]))]
    rw [Tm.size_eq, (er_op t).2.2.2, hs t.ks ih, ← Tm.size_eq]
theorem er_deep (t : Tm) : t.er.deep = t.deep := by
  induction t using Tm.ind with
  | h t ih =>
    have hs : ∀ ks : List Tm, (∀ k ∈ ks, k.er.deep = k.deep) → Tm.deeps (ks.map Tm.er) = Tm.deeps ks := by
      intro ks
      induction ks with
      | nil => intro _; rfl
      | cons k ks ihk =>
        intro h
        simp only [List.map_cons, Tm.deeps]
        rw [h k (by simp), ihk (fun q hq => h q (by simp [hq]))]
    rw [Tm.deep_eq, (er_op t).2.2.2, hs t.ks ih, ← Tm.deep_eq]
theorem er_srt (t : Tm) : t.er.srt = t.srt := by
  induction t using Tm.ind with
  | h t ih =>
    obtain ⟨h1, h2, h3, h4⟩ := er_op t
    rw [srt_eq, srt_eq t, h1, h2, h3, h4, List.map_map]
    congr 1
    exact List.map_congr_left (fun k hk => ih k hk)
theorem er_errR (t : Tm) : errR t.er = errR t := by unfold errR fullB; rw [er_size, er_deep, er_srt]
theorem er_vars (t : Tm) : t.er.vars = t.vars := by
  induction t using Tm.ind with
  | h t ih =>
    have hs : ∀ ks : List Tm, (∀ k ∈ ks, k.er.vars = k.vars) → Tm.varss (ks.map Tm.er) = Tm.varss ks := by
      intro ks
      induction ks with
      | nil => intro _; rfl
      | cons k ks ihk =>
        intro h
        simp only [List.map_cons, Tm.varss]
        rw [h k (by simp), ihk (fun q hq => h q (by simp [hq]))]
    obtain ⟨h1, h2, -, h4⟩ := er_op t
    rw [vars_eq, vars_eq t, h1, h2, h4, hs t.ks ih]
theorem er_er (t : Tm) : t.er.er = t.er := by
  induction t using Tm.ind with
  | h q ihq =>
    obtain ⟨q1, q2, q3, q4⟩ := er_op q
    rw [er_eq q.er, q1, q2, q3, q4, List.map_map]
    conv => rhs; rw [er_eq q]
    congr 1
    exact List.map_congr_left (fun k hk => ihq k hk)
theorem nsrt_form {t : Tm} (h : t.srt ≠ 0) : ∃ j : Nat, t.op = (j : Int) ∧ 1 ≤ j ∧ j ≤ 28 ∧ t.srt = (shRow j).sort ∧ ((shRow j).many = true ∨ t.ks.length = (shRow j).count) ∧ ∀ i (hi : i < t.ks.length), t.ks[i].srt = (shRow j).want i := by
  rw [srt_eq] at h
  have h0 := h
  unfold sortOf at h
  split at h
  · rename_i ho
    have e : t.op = ((t.op.toNat : Nat) : Int) := by omega
    split at h
    · rename_i hb
      refine ⟨t.op.toNat, e, by omega, by omega, ?_, ?_, ?_⟩
      · rw [srt_eq]
        unfold sortOf
        rw [if_pos ho, if_pos hb]
      · simp only [Bool.and_eq_true, holdsB, Bool.or_eq_true, decide_eq_true_eq] at hb
        simpa using hb.2.1
      · intro i hi
        simp only [Bool.and_eq_true, holdsB, List.all_eq_true, List.mem_range, decide_eq_true_eq] at hb
        have := hb.2.2 i (by simpa using hi)
        simpa [List.getD, hi] using this
    · exact absurd rfl h
  · exact absurd rfl h
theorem nlen0 {α : Type} {l : List α} (h : l.length = 0) : l = [] := List.eq_nil_of_length_eq_zero h
theorem nlen1 {α : Type} {l : List α} (h : l.length = 1) : ∃ a, l = [a] := by
  match l, h with
  | [a], _ => exact ⟨a, rfl⟩
theorem nlen2 {α : Type} {l : List α} (h : l.length = 2) : ∃ a b, l = [a, b] := by
  match l, h with
  | [a, b], _ => exact ⟨a, b, rfl⟩
theorem nform0 {t : Tm} (j : Nat) (h : t.srt ≠ 0) (ho : t.op = (j : Int)) (hm : (shRow j).many = false) (hc : (shRow j).count = 0) : t.ks = [] ∧ t.srt = (shRow j).sort := by
  obtain ⟨i, h1, -, -, h4, h5, -⟩ := nsrt_form h
  obtain rfl : i = j := by omega
  rw [hm, hc] at h5
  exact ⟨nlen0 (by simpa using h5), h4⟩
theorem nform1 {t : Tm} (j : Nat) (h : t.srt ≠ 0) (ho : t.op = (j : Int)) (hm : (shRow j).many = false) (hc : (shRow j).count = 1) : ∃ k0, t.ks = [k0] ∧ k0.srt = (shRow j).p0 ∧ t.srt = (shRow j).sort := by
  obtain ⟨i, h1, -, -, h4, h5, h6⟩ := nsrt_form h
  obtain rfl : i = j := by omega
  rw [hm, hc] at h5
  have hl : t.ks.length = 1 := by simpa using h5
  obtain ⟨a, ha⟩ := nlen1 hl
  refine ⟨a, ha, ?_, h4⟩
  have := h6 0 (by omega)
  simp only [ha, List.getElem_cons_zero] at this
  rw [this]; unfold Sh.want; rw [hm]; rfl
theorem nform2 {t : Tm} (j : Nat) (h : t.srt ≠ 0) (ho : t.op = (j : Int)) (hm : (shRow j).many = false) (hc : (shRow j).count = 2) : ∃ k0 k1, t.ks = [k0, k1] ∧ k0.srt = (shRow j).p0 ∧ k1.srt = (shRow j).p1 ∧ t.srt = (shRow j).sort := by
  obtain ⟨i, h1, -, -, h4, h5, h6⟩ := nsrt_form h
  obtain rfl : i = j := by omega
  rw [hm, hc] at h5
  have hl : t.ks.length = 2 := by simpa using h5
  obtain ⟨a, b, ha⟩ := nlen2 hl
  refine ⟨a, b, ha, ?_, ?_, h4⟩
  · have := h6 0 (by omega)
    simp only [ha, List.getElem_cons_zero] at this
    rw [this]; unfold Sh.want; rw [hm]; rfl
  · have := h6 1 (by omega)
    simp only [ha, List.getElem_cons_succ, List.getElem_cons_zero] at this
    rw [this]; unfold Sh.want; rw [hm]; rfl
theorem nformM {t : Tm} (j : Nat) (h : t.srt ≠ 0) (ho : t.op = (j : Int)) (hm : (shRow j).many = true) : (∀ k ∈ t.ks, k.srt = (shRow j).p0) ∧ t.srt = (shRow j).sort := by
  obtain ⟨i, h1, -, -, h4, -, h6⟩ := nsrt_form h
  obtain rfl : i = j := by omega
  refine ⟨fun k hk => ?_, h4⟩
  obtain ⟨i, hi, rfl⟩ := List.mem_iff_getElem.1 hk
  rw [h6 i hi]; unfold Sh.want; rw [hm]; rfl
theorem nvarss_mem {x : ByteArray × Int} : ∀ {ks : List Tm}, x ∈ Tm.varss ks ↔ ∃ k ∈ ks, x ∈ k.vars
  | [] => by simp [Tm.varss]
  | k :: ks => by simp [Tm.varss, nvarss_mem (ks := ks)]
end
section
open Go.RowKit

/-- none of its parts stands in block R -/
inductive TAw (R : Nat) : Tm → Prop
  | mk (t : Tm) (h : t.ks ≠ [] → ∀ p, t.a = some p → p.block ≠ R) (hk : ∀ k ∈ t.ks, TAw R k) : TAw R t
theorem TAw.kid {R : Nat} {t k : Tm} (h : TAw R t) (hk : k ∈ t.ks) : TAw R k := by
  cases h with
  | mk _ _ h => exact h k hk
theorem TIn.aw {w : World} {B R : Nat} {t : Tm} (h : TIn w B t) (hR : B ≤ R) : TAw R t := by
  induction t using Tm.ind with
  | h t ih =>
    cases h with
    | mk _ ho hn hs hc hm hk hi =>
      refine .mk t (fun hne p hp => ?_) (fun k hk' => ih k hk' (hi k hk'))
      have hl : 0 < t.ks.length := List.length_pos_iff.2 hne
      obtain ⟨b, o, ha, hb, -⟩ := hk 0 hl
      rw [ha] at hp
      obtain rfl := Option.some.inj hp
      show b ≠ R
      omega
theorem TIn.setAw {w : World} {B : Nat} {t : Tm} {p : Addr} (h : TIn w B t) (hf : TAw p.block t) (u : Value) : TIn (w.setCell p u) B t := by
  induction t using Tm.ind with
  | h t ih =>
    cases h with
    | mk _ ho hn hs hc hm hk hi =>
      cases hf with
      | mk _ h' hk' =>
        refine .mk t ho hn hs hc hm (fun j hj => ?_) (fun k hk'' => ih k hk'' (hi k hk'') (hk' k hk''))
        obtain ⟨b, o, ha, hb, f⟩ := hk j hj
        have hne : b ≠ p.block := h' (List.length_pos_iff.1 (by omega)) _ ha
        refine ⟨b, o, ha, hb, ?_⟩
        have e : ∀ q, (w.setCell p u).cell? ⟨b, q, none⟩ = w.cell? ⟨b, q, none⟩ := fun q => World.cell?_of_block (w := w) (Below.heap_setCell w p u b hne)
        unfold Four
        rw [e, e, e, e]
        exact f
/-- the parts that are done: the row in block R, its first parts -/
structure CR (W3 : World) (R n : Nat) (l : List Tm) (w : World) : Prop where
  but : But R W3 w
  row : ∃ xs : List Value, w.ownsRow R 24 4 (.slice (some ⟨R, 0, none⟩) n n) n xs ∧ ∀ m (hm : m < l.length) i, i < 4 → xs[m * 4 + i]? = (tm4 l[m])[i]?
  tin : ∀ x ∈ l, TIn w w.heap.size x
  aw : ∀ x ∈ l, TAw R x
theorem CR.later {W3 w w' : World} {R n : Nat} {l : List Tm} (h : CR W3 R n l w) (hb : Below w.heap.size w w') : CR W3 R n l w' := by
  obtain ⟨xs, ho, hx⟩ := h.row
  refine ⟨h.but.trans (But.of hb), ⟨xs, ?_, hx⟩, fun x hx => (h.tin x hx).later hb, h.aw⟩
  refine ⟨ho.1, ?_⟩
  rcases ho.2 with h0 | ⟨g, cap, cur, hv, hbg, hg, hr⟩
  · exact .inl h0
  · exact .inr ⟨g, cap, cur, hv, hbg, by rw [hb.block g (Array.getElem?_eq_some_iff.1 hg).1]; exact hg, hr⟩
theorem CR.four {W3 w : World} {R n : Nat} {l : List Tm} (h : CR W3 R n l w) (hl : l.length ≤ n) (m : Nat) (hm : m < l.length) : Four w R (m * 4) l[m] := by
  obtain ⟨xs, ho, hx⟩ := h.row
  have c : ∀ i, i < 4 → w.cell? ⟨R, m * 4 + i, none⟩ = (tm4 l[m])[i]? := fun i hi => by rw [ho.cellAt (m * 4 + i) (by omega), hx m hm i hi]
  exact ⟨c 0 (by omega), c 1 (by omega), c 2 (by omega), c 3 (by omega)⟩
theorem CR.there {W3 w : World} {R n : Nat} {l : List Tm} (h : CR W3 R n l w) (k : Nat) (hk : k < n * 4) : ∃ u, w.cell? ⟨R, k, none⟩ = some u ∧ w.frozen? ⟨R, k, none⟩ = false := by
  obtain ⟨xs, ho, -⟩ := h.row
  refine ⟨xs[k]'(by rw [ho.1]; exact hk), ?_, ho.frozenAt k⟩
  rw [ho.cellAt k hk]
  exact List.getElem?_eq_getElem _
theorem CR.store {W3 w : World} {R n : Nat} {l : List Tm} (h : CR W3 R n l w) (hl : l.length < n) {x : Tm} (hx : TIn w w.heap.size x) (hf : TAw R x) :
    CR W3 R n (l ++ [x]) ((((w.setCell ⟨R, l.length * 4, none⟩ (.int .i64 x.op)).setCell ⟨R, l.length * 4 + 1, none⟩ (.string x.nm)).setCell ⟨R, l.length * 4 + 2, none⟩ (.int .i64 x.n)).setCell ⟨R, l.length * 4 + 3, none⟩ (.slice x.a x.ks.length x.c)) := by
  obtain ⟨xs, ho, hxs⟩ := h.row
  have r1 := (ho.stored (l.length * 4) (.int .i64 x.op)).1
  have r2 := (r1.stored (l.length * 4 + 1) (.string x.nm)).1
  have r3 := (r2.stored (l.length * 4 + 2) (.int .i64 x.n)).1
  have r4 := (r3.stored (l.length * 4 + 3) (.slice x.a x.ks.length x.c)).1
  have hlen : xs.length = n * 4 := ho.1
  have set4 : ∀ y : Tm, TIn w w.heap.size y → TAw R y → TIn ((((w.setCell ⟨R, l.length * 4, none⟩ (.int .i64 x.op)).setCell ⟨R, l.length * 4 + 1, none⟩ (.string x.nm)).setCell ⟨R, l.length * 4 + 2, none⟩ (.int .i64 x.n)).setCell ⟨R, l.length * 4 + 3, none⟩ (.slice x.a x.ks.length x.c)) w.heap.size y := fun y hy hfy =>
    (((hy.setAw (p := ⟨R, _, none⟩) hfy _).setAw (p := ⟨R, _, none⟩) hfy _).setAw (p := ⟨R, _, none⟩) hfy _).setAw (p := ⟨R, _, none⟩) hfy _
  refine ⟨(((h.but.set (p := ⟨R, _, none⟩) (.inl rfl) _).set (p := ⟨R, _, none⟩) (.inl rfl) _).set (p := ⟨R, _, none⟩) (.inl rfl) _).set (p := ⟨R, _, none⟩) (.inl rfl) _, ⟨_, r4, fun m hm i hi => ?_⟩, fun y hy => ?_, fun y hy => ?_⟩
  · simp only [List.getElem?_set, List.length_set]
    by_cases hml : m < l.length
    · rw [if_neg (by omega), if_neg (by omega), if_neg (by omega), if_neg (by omega), hxs m hml i hi, List.getElem_append_left hml]
    · have hml : m = l.length := by simp at hm; omega
      subst hml
      rw [List.getElem_append_right (by omega)]
      simp only [Nat.sub_self, List.getElem_cons_zero]
      match i, hi with
      | 0, _ => rw [if_neg (by omega), if_neg (by omega), if_neg (by omega), if_pos (by omega), if_pos (by omega)]; rfl
      | 1, _ => rw [if_neg (by omega), if_neg (by omega), if_pos (by omega), if_pos (by omega)]; rfl
      | 2, _ => rw [if_neg (by omega), if_pos (by omega), if_pos (by omega)]; rfl
      | 3, _ => rw [if_pos (by omega), if_pos (by omega)]; rfl
  · have hs : ((((w.setCell ⟨R, l.length * 4, none⟩ (.int .i64 x.op)).setCell ⟨R, l.length * 4 + 1, none⟩ (.string x.nm)).setCell ⟨R, l.length * 4 + 2, none⟩ (.int .i64 x.n)).setCell ⟨R, l.length * 4 + 3, none⟩ (.slice x.a x.ks.length x.c)).heap.size = w.heap.size := by simp
    rw [hs]
    rcases List.mem_append.1 hy with hy | hy
    · exact set4 y (h.tin y hy) (h.aw y hy)
    · rw [List.mem_singleton.1 hy]; exact set4 x hx hf
  · rcases List.mem_append.1 hy with hy | hy
    · exact h.aw y hy
    · rw [List.mem_singleton.1 hy]; exact hf
theorem CR.start {w : World} {cs : Array Value} {n : Nat} (hc : cs.size = n * 4) (hn : n ≤ 2000) : CR (w.alloc (.cells cs 24)) w.heap.size n [] (w.alloc (.cells cs 24)) :=
  ⟨But.refl _ _, ⟨_, World.ownsRow_lit w cs n (Nat.le_refl _) (by unfold maxLen; omega) hc, fun m hm => by simp at hm⟩, fun x hx => (by cases hx), fun x hx => (by cases hx)⟩
/-- what a term became: a term, which it is without places; it keeps away from what the first one keeps away from -/
def BecP (F : Tm → Tm) (t : Tm) (w : World) (e : Ending) (w' : World) : Prop := ∃ x : Tm, e = .returned x.val ∧ x.er = F t ∧ TIn w' w'.heap.size x ∧ (∀ R, R < w.heap.size → TAw R t → TAw R x) ∧ Below w.heap.size w w'
/-- what became of each part: a row -/
def EachP (F : Tm → Tm) (ks : List Tm) (w : World) (e : Ending) (w' : World) : Prop := ∃ (l : List Tm) (R0 : Nat), e = .returned (.slice (some ⟨R0, 0, none⟩) ks.length ks.length) ∧ l.map Tm.er = ks.map F ∧ (∀ j (h : j < l.length), Four w' R0 (j * 4) l[j]) ∧ (∀ x ∈ l, TIn w' w'.heap.size x) ∧ w.heap.size ≤ R0 ∧ R0 < w'.heap.size ∧ (∀ R, R < w.heap.size → (∀ k ∈ ks, TAw R k) → ∀ x ∈ l, TAw R x) ∧ Below w.heap.size w w'
theorem kid_in {w : World} {B : Nat} {t k : Tm} (h : TIn w B t) (hk : k ∈ t.ks) : TIn w B k := by
  obtain ⟨j, hj, rfl⟩ := List.getElem_of_mem hk
  exact (h.kid j hj).1
def mkT (op : Int) (ks : List Tm) : Tm := .node op ⟨#[]⟩ 0 none 0 ks
def leT (a b : Tm) : Tm := mkT 22 [a, b]
def notT (a : Tm) : Tm := mkT 18 [a]
def oneT (a : Tm) : Tm := mkT 10 [a]
def numT : Tm := mkT 1 []
def insT (a b : Tm) : Tm := leT (mkT 3 [mkT 13 [a, b]]) numT
theorem er_mk (op : Int) (l : List Tm) : (mkT op l).er = mkT op (l.map Tm.er) := by rw [er_eq]; rfl
/-- terms of no, one and two parts, as they are made in place -/
def q0 (op : Int) : Tm := .node op ⟨#[]⟩ 0 none 0 []
def q1 (op : Int) (g : Nat) (k : Tm) : Tm := .node op ⟨#[]⟩ 0 (some ⟨g, 0, none⟩) 1 [k]
def q2 (op : Int) (g : Nat) (k0 k1 : Tm) : Tm := .node op ⟨#[]⟩ 0 (some ⟨g, 0, none⟩) 2 [k0, k1]
theorem q0_er (op : Int) : (q0 op).er = mkT op [] := by rw [er_eq]; rfl
theorem q1_er (op : Int) (g : Nat) (k : Tm) : (q1 op g k).er = mkT op [k.er] := by rw [er_eq]; rfl
theorem q2_er (op : Int) (g : Nat) (k0 k1 : Tm) : (q2 op g k0 k1).er = mkT op [k0.er, k1.er] := by rw [er_eq]; rfl
/-- what was made on the way of a function that was called in world w with the term t: it lies in memory, away from where the answer is put, and from what t keeps away from -/
structure Mk (w : World) (t : Tm) (wc : World) (x : Tm) : Prop where
  tin : TIn wc wc.heap.size x
  own : TAw (w.heap.size + 1) x
  aw : ∀ R, R < w.heap.size → TAw R t → TAw R x
theorem Mk.later {w wc wc' : World} {t x : Tm} (h : Mk w t wc x) (hb : Below wc.heap.size wc wc') : Mk w t wc' x := ⟨h.tin.later hb, h.own, h.aw⟩
theorem Mk.kid {w wc : World} {t k : Tm} (ht : TIn w w.heap.size t) (hk : k ∈ t.ks) (hb : Below w.heap.size w wc) : Mk w t wc k :=
  ⟨(kid_in ht hk).later hb, (kid_in ht hk).aw (by omega), fun _ _ h => h.kid hk⟩
theorem Mk.self {w wc : World} {t : Tm} (ht : TIn w w.heap.size t) (hb : Below w.heap.size w wc) : Mk w t wc t :=
  ⟨ht.later hb, ht.aw (by omega), fun _ _ h => h⟩
theorem Mk.nil {w wc : World} {t : Tm} {op : Int} (ho : fitB op = true) : Mk w t wc (q0 op) :=
  ⟨.mk _ ho (by show fitB 0 = true; decide) (by show (0 : Nat) ≤ _; omega) (Nat.le_refl _) (Nat.zero_le _) (fun j hj => by simp [q0, Tm.ks] at hj) (fun k hk => by simp [q0, Tm.ks] at hk),
    .mk _ (fun h => absurd rfl h) (fun k hk => by simp [q0, Tm.ks] at hk), fun _ _ _ => .mk _ (fun h => absurd rfl h) (fun k hk => by simp [q0, Tm.ks] at hk)⟩
theorem Mk.one {w wc : World} {t x : Tm} {op : Int} {g : Nat} (h : Mk w t wc x) (hf : Four wc g 0 x) (hg : w.heap.size + 1 < g) (ho : fitB op = true) : Mk w t wc (q1 op g x) := by
  have hm : ∀ k ∈ (q1 op g x).ks, k = x := fun k hk => by simpa [q1, Tm.ks] using hk
  have hp : ∀ R, R < g → ∀ p, (q1 op g x).a = some p → p.block ≠ R := fun R hR p hp => by
    have hp : some (⟨g, 0, none⟩ : Addr) = some p := hp
    obtain rfl := Option.some.inj hp
    show g ≠ R
    omega
  refine ⟨.mk _ ho (by show fitB 0 = true; decide) (by show (0 : Nat) ≤ _; omega) (by show (1 : Nat) ≤ 1; omega) (by show (1 : Nat) ≤ maxLen; decide) (fun j hj => ?_) (fun k hk => by rw [hm k hk]; exact h.tin), .mk _ (fun _ => hp _ hg) (fun k hk => by rw [hm k hk]; exact h.own), fun R hR hT => .mk _ (fun _ => hp _ (by omega)) (fun k hk => by rw [hm k hk]; exact h.aw R hR hT)⟩
  have : j = 0 := by simp [q1, Tm.ks] at hj; omega
  subst this
  exact ⟨g, 0, rfl, World.block_lt_of_cell? _ _ hf.1, hf⟩
theorem Mk.two {w wc : World} {t x y : Tm} {op : Int} {g : Nat} (h : Mk w t wc x) (h' : Mk w t wc y) (hf : Four wc g 0 x ∧ Four wc g 4 y) (hg : w.heap.size + 1 < g) (ho : fitB op = true) : Mk w t wc (q2 op g x y) := by
  have hm : ∀ k ∈ (q2 op g x y).ks, k = x ∨ k = y := fun k hk => by simpa [q2, Tm.ks] using hk
  have hp : ∀ R, R < g → ∀ p, (q2 op g x y).a = some p → p.block ≠ R := fun R hR p hp => by
    have hp : some (⟨g, 0, none⟩ : Addr) = some p := hp
    obtain rfl := Option.some.inj hp
    show g ≠ R
    omega
  refine ⟨.mk _ ho (by show fitB 0 = true; decide) (by show (0 : Nat) ≤ _; omega) (by show (2 : Nat) ≤ 2; omega) (by show (2 : Nat) ≤ maxLen; decide) (fun j hj => ?_) (fun k hk => ?_), .mk _ (fun _ => hp _ hg) (fun k hk => ?_), fun R hR hT => .mk _ (fun _ => hp _ (by omega)) (fun k hk => ?_)⟩
  · have : j = 0 ∨ j = 1 := by simp [q2, Tm.ks] at hj; omega
    rcases this with rfl | rfl
    · exact ⟨g, 0, rfl, World.block_lt_of_cell? _ _ hf.1.1, hf.1⟩
    · exact ⟨g, 0, rfl, World.block_lt_of_cell? _ _ hf.1.1, hf.2⟩
  · rcases hm k hk with rfl | rfl
    · exact h.tin
    · exact h'.tin
  · rcases hm k hk with rfl | rfl
    · exact h.own
    · exact h'.own
  · rcases hm k hk with rfl | rfl
    · exact h.aw R hR hT
    · exact h'.aw R hR hT
theorem Mk.call {w wc w' : World} {t k x : Tm} (h : Mk w t wc k) (hX : w.heap.size + 1 < wc.heap.size) (hz : TIn w' w'.heap.size x) (haw : ∀ R, R < wc.heap.size → TAw R k → TAw R x) : Mk w t w' x :=
  ⟨hz, haw _ hX h.own, fun R hR hT => haw R (by omega) (h.aw R hR hT)⟩
theorem build1 (w : World) (x : Tm) : Four (w.alloc (.cells #[.int .i64 x.op, .string x.nm, .int .i64 x.n, .slice x.a x.ks.length x.c] 24)) w.heap.size 0 x := box_four w x
theorem build2 (w : World) (x y : Tm) : Four (w.alloc (.cells #[.int .i64 x.op, .string x.nm, .int .i64 x.n, .slice x.a x.ks.length x.c, .int .i64 y.op, .string y.nm, .int .i64 y.n, .slice y.a y.ks.length y.c] 24)) w.heap.size 0 x ∧ Four (w.alloc (.cells #[.int .i64 x.op, .string x.nm, .int .i64 x.n, .slice x.a x.ks.length x.c, .int .i64 y.op, .string y.nm, .int .i64 y.n, .slice y.a y.ks.length y.c] 24)) w.heap.size 4 y := by
  constructor <;> simp [Four, go_sem]
/-- the answer is put where it belongs -/
theorem Mk.fin {F : Tm → Tm} {w wN : World} {t x : Tm} (M : Mk w t wN x) (BW : Below w.heap.size w wN) (he : x.er = F t) :
    BecP F t w (.returned x.val) ((((wN.setCell ⟨w.heap.size + 1, 0, none⟩ (.int .i64 x.op)).setCell ⟨w.heap.size + 1, 1, none⟩ (.string x.nm)).setCell ⟨w.heap.size + 1, 2, none⟩ (.int .i64 x.n)).setCell ⟨w.heap.size + 1, 3, none⟩ (.slice x.a x.ks.length x.c)) := by
  have hsz : ((((wN.setCell ⟨w.heap.size + 1, 0, none⟩ (.int .i64 x.op)).setCell ⟨w.heap.size + 1, 1, none⟩ (.string x.nm)).setCell ⟨w.heap.size + 1, 2, none⟩ (.int .i64 x.n)).setCell ⟨w.heap.size + 1, 3, none⟩ (.slice x.a x.ks.length x.c)).heap.size = wN.heap.size := by simp
  refine ⟨x, rfl, he, ?_, M.aw, ?_⟩
  · rw [hsz]
    exact (((M.tin.setAw (p := ⟨w.heap.size + 1, 0, none⟩) M.own _).setAw (p := ⟨w.heap.size + 1, 1, none⟩) M.own _).setAw (p := ⟨w.heap.size + 1, 2, none⟩) M.own _).setAw (p := ⟨w.heap.size + 1, 3, none⟩) M.own _
  · exact bset (bset (bset (bset BW (by show w.heap.size ≤ w.heap.size + 1; omega) _) (by show w.heap.size ≤ w.heap.size + 1; omega) _) (by show w.heap.size ≤ w.heap.size + 1; omega) _) (by show w.heap.size ≤ w.heap.size + 1; omega) _
end
section
open Go.RowKit

def g0 (l : List Tm) : Tm := l.getD 0 numT
def g1 (l : List Tm) : Tm := l.getD 1 numT
/-- N, of the operation, the term without places, its parts without places, and what they become -/
def nnU (op : Int) (e : Tm) (ks N D : List Tm) : Tm :=
  if op = 18 then g0 D
  else if op = 19 then mkT 19 N
  else if op = 20 then mkT 20 N
  else if op = 21 then mkT 20 [g0 D, g1 N]
  else if op = 23 then notT (leT (g1 ks) (g0 ks))
  else if op = 24 then mkT 19 [leT (g0 ks) (g1 ks), leT (g1 ks) (g0 ks)]
  else if op = 26 then insT (g0 ks) (g1 ks)
  else if op = 25 then insT (oneT (g0 ks)) (g1 ks)
  else if op = 28 then insT (oneT (g0 ks)) (oneT (g1 ks))
  else if op = 27 then mkT 19 [insT (g0 ks) (g1 ks), insT (g1 ks) (g0 ks)]
  else e
/-- D -/
def nnD (op : Int) (e : Tm) (ks N D : List Tm) : Tm :=
  if op = 16 then mkT 17 []
  else if op = 17 then mkT 16 []
  else if op = 18 then g0 N
  else if op = 19 then mkT 20 D
  else if op = 20 then mkT 19 D
  else if op = 21 then mkT 19 [g0 N, g1 D]
  else if op = 23 then leT (g1 ks) (g0 ks)
  else if op = 24 then mkT 20 [notT (leT (g0 ks) (g1 ks)), notT (leT (g1 ks) (g0 ks))]
  else if op = 27 then mkT 20 [notT (insT (g0 ks) (g1 ks)), notT (insT (g1 ks) (g0 ks))]
  else notT (nnU op e ks N D)
def nnS (b : Bool) (op : Int) (e : Tm) (ks N D : List Tm) : Tm := if b = true then nnD op e ks N D else nnU op e ks N D
mutual
/-- what a bool becomes: N for false, D for true -/
def nn : Tm → Bool → Tm
  | .node op nm n _ _ ks, b => nnS b op (.node op nm n none 0 (Tm.ers ks)) (Tm.ers ks) (nns ks false) (nns ks true)
def nns : List Tm → Bool → List Tm
  | [], _ => []
  | t :: ts, b => nn t b :: nns ts b
end
theorem nns_map (b : Bool) : ∀ ks : List Tm, nns ks b = ks.map (fun k => nn k b)
  | [] => rfl
  | k :: ks => by simp only [nns, nns_map b ks, List.map_cons]
theorem nn_eq (t : Tm) (b : Bool) : nn t b = nnS b t.op t.er (t.ks.map Tm.er) (t.ks.map (fun k => nn k false)) (t.ks.map (fun k => nn k true)) := by
  cases t with
  | node op nm n a c ks => rw [nn, nns_map, nns_map, ers_map, er_eq]; rfl
theorem nn_er (t : Tm) : ∀ b, nn t.er b = nn t b := by
  induction t using Tm.ind with
  | h t ih =>
    intro b
    obtain ⟨h1, h2, h3, h4⟩ := er_op t
    rw [nn_eq, nn_eq t, h1, h4, er_er, List.map_map, List.map_map, List.map_map]
    have e1 : t.ks.map ((fun k => nn k false) ∘ Tm.er) = t.ks.map (fun k => nn k false) := List.map_congr_left (fun k hk => ih k hk false)
    have e2 : t.ks.map ((fun k => nn k true) ∘ Tm.er) = t.ks.map (fun k => nn k true) := List.map_congr_left (fun k hk => ih k hk true)
    have e3 : t.ks.map (Tm.er ∘ Tm.er) = t.ks.map Tm.er := List.map_congr_left (fun k _ => er_er k)
    rw [e1, e2, e3]

/-- a right term without a name and a number -/
theorem bare {t : Tm} (j : Nat) (h : t.srt ≠ 0) (ho : t.op = (j : Int)) (hn : (shRow j).name = false) (hb : (shRow j).number = false) : t.nm = ⟨#[]⟩ ∧ t.n = 0 := by
  rw [srt_eq] at h
  unfold sortOf at h
  have hj : t.op.toNat = j := by omega
  rw [hj] at h
  by_cases h1 : 1 ≤ t.op ∧ t.op ≤ 28
  · rw [if_pos h1] at h
    by_cases h2 : (namedB (shRow j) t.nm && ((shRow j).number || decide (t.n = 0)) && holdsB (shRow j) (t.ks.map Tm.srt)) = true
    · simp only [Bool.and_eq_true, hb, Bool.false_or, decide_eq_true_eq] at h2
      refine ⟨?_, h2.1.2⟩
      have h3 := h2.1.1
      unfold namedB at h3
      rw [hn] at h3
      simp only [Bool.false_eq_true, if_false] at h3
      have h4 : t.nm.toList = [] := List.isEmpty_iff.1 h3
      rw [ByteArray.toList_eq] at h4
      exact ByteArray.ext (Array.toList_eq_nil_iff.1 h4)
    · rw [if_neg h2] at h; exact absurd rfl h
  · rw [if_neg h1] at h; exact absurd rfl h

/-- the forms of right bools -/
theorem bool_ind {P : Tm → Prop}
    (h15 : ∀ t : Tm, t.srt = 4 → t.op = 15 → t.ks = [] → P t)
    (h16 : ∀ t : Tm, t.srt = 4 → t.op = 16 → t.ks = [] → t.nm = ⟨#[]⟩ ∧ t.n = 0 → P t)
    (h17 : ∀ t : Tm, t.srt = 4 → t.op = 17 → t.ks = [] → t.nm = ⟨#[]⟩ ∧ t.n = 0 → P t)
    (h18 : ∀ t u : Tm, t.srt = 4 → t.op = 18 → t.ks = [u] → t.nm = ⟨#[]⟩ ∧ t.n = 0 → u.srt = 4 → P u → P t)
    (h19 : ∀ t : Tm, t.srt = 4 → t.op = 19 → t.nm = ⟨#[]⟩ ∧ t.n = 0 → (∀ k ∈ t.ks, k.srt = 4) → (∀ k ∈ t.ks, P k) → P t)
    (h20 : ∀ t : Tm, t.srt = 4 → t.op = 20 → t.nm = ⟨#[]⟩ ∧ t.n = 0 → (∀ k ∈ t.ks, k.srt = 4) → (∀ k ∈ t.ks, P k) → P t)
    (h21 : ∀ t u v : Tm, t.srt = 4 → t.op = 21 → t.ks = [u, v] → t.nm = ⟨#[]⟩ ∧ t.n = 0 → u.srt = 4 → v.srt = 4 → P u → P v → P t)
    (h22 : ∀ t u v : Tm, t.srt = 4 → t.op = 22 → t.ks = [u, v] → t.nm = ⟨#[]⟩ ∧ t.n = 0 → u.srt = 1 → v.srt = 1 → P t)
    (h23 : ∀ t u v : Tm, t.srt = 4 → t.op = 23 → t.ks = [u, v] → u.srt = 1 → v.srt = 1 → P t)
    (h24 : ∀ t u v : Tm, t.srt = 4 → t.op = 24 → t.ks = [u, v] → u.srt = 1 → v.srt = 1 → P t)
    (h25 : ∀ t u v : Tm, t.srt = 4 → t.op = 25 → t.ks = [u, v] → u.srt = 3 → v.srt = 2 → P t)
    (h26 : ∀ t u v : Tm, t.srt = 4 → t.op = 26 → t.ks = [u, v] → u.srt = 2 → v.srt = 2 → P t)
    (h27 : ∀ t u v : Tm, t.srt = 4 → t.op = 27 → t.ks = [u, v] → u.srt = 2 → v.srt = 2 → P t)
    (h28 : ∀ t u v : Tm, t.srt = 4 → t.op = 28 → t.ks = [u, v] → u.srt = 3 → v.srt = 3 → P t) : ∀ t : Tm, t.srt = 4 → P t := by
  intro t
  induction t using Tm.ind with
  | h t ih =>
    intro h
    have hne : t.srt ≠ 0 := fun e => by rw [h] at e; exact absurd e (by decide)
    obtain ⟨j, hj, j1, j2, hs, -, -⟩ := nsrt_form hne
    have hsj : (shRow j).sort = 4 := hs.symm.trans h
    have hj15 : 15 ≤ j := by
      have : ∀ i : Nat, i < 29 → (shRow i).sort = 4 → 15 ≤ i := by decide
      exact this j (Nat.lt_succ_of_le j2) hsj
    obtain rfl | rfl | rfl | rfl | rfl | rfl | rfl | rfl | rfl | rfl | rfl | rfl | rfl | rfl : j = 15 ∨ j = 16 ∨ j = 17 ∨ j = 18 ∨ j = 19 ∨ j = 20 ∨ j = 21 ∨ j = 22 ∨ j = 23 ∨ j = 24 ∨ j = 25 ∨ j = 26 ∨ j = 27 ∨ j = 28 := by
      have : ∀ i : Nat, i < 29 → 15 ≤ i → i = 15 ∨ i = 16 ∨ i = 17 ∨ i = 18 ∨ i = 19 ∨ i = 20 ∨ i = 21 ∨ i = 22 ∨ i = 23 ∨ i = 24 ∨ i = 25 ∨ i = 26 ∨ i = 27 ∨ i = 28 := by decide
      exact this j (Nat.lt_succ_of_le j2) hj15
    · exact h15 t h hj (nform0 15 hne hj rfl rfl).1
    · exact h16 t h hj (nform0 16 hne hj rfl rfl).1 (bare 16 hne hj rfl rfl)
    · exact h17 t h hj (nform0 17 hne hj rfl rfl).1 (bare 17 hne hj rfl rfl)
    · obtain ⟨u, hk, hu, -⟩ := nform1 18 hne hj rfl rfl
      exact h18 t u h hj hk (bare 18 hne hj rfl rfl) hu (ih u (by simp [hk]) hu)
    · obtain ⟨hk, -⟩ := nformM 19 hne hj rfl
      exact h19 t h hj (bare 19 hne hj rfl rfl) hk (fun k hk' => ih k hk' (hk k hk'))
    · obtain ⟨hk, -⟩ := nformM 20 hne hj rfl
      exact h20 t h hj (bare 20 hne hj rfl rfl) hk (fun k hk' => ih k hk' (hk k hk'))
    · obtain ⟨u, v, hk, hu, hv, -⟩ := nform2 21 hne hj rfl rfl
      exact h21 t u v h hj hk (bare 21 hne hj rfl rfl) hu hv (ih u (by simp [hk]) hu) (ih v (by simp [hk]) hv)
    · obtain ⟨u, v, hk, hu, hv, -⟩ := nform2 22 hne hj rfl rfl
      exact h22 t u v h hj hk (bare 22 hne hj rfl rfl) hu hv
    · obtain ⟨u, v, hk, hu, hv, -⟩ := nform2 23 hne hj rfl rfl
      exact h23 t u v h hj hk hu hv
    · obtain ⟨u, v, hk, hu, hv, -⟩ := nform2 24 hne hj rfl rfl
      exact h24 t u v h hj hk hu hv
    · obtain ⟨u, v, hk, hu, hv, -⟩ := nform2 25 hne hj rfl rfl
      exact h25 t u v h hj hk hu hv
    · obtain ⟨u, v, hk, hu, hv, -⟩ := nform2 26 hne hj rfl rfl
      exact h26 t u v h hj hk hu hv
    · obtain ⟨u, v, hk, hu, hv, -⟩ := nform2 27 hne hj rfl rfl
      exact h27 t u v h hj hk hu hv
    · obtain ⟨u, v, hk, hu, hv, -⟩ := nform2 28 hne hj rfl rfl
      exact h28 t u v h hj hk hu hv

/- what is made, form by form -/
theorem nn15 {t : Tm} (ho : t.op = 15) (b : Bool) : nn t b = if b = true then notT t.er else t.er := by rw [nn_eq, ho]; cases b <;> rfl
theorem nn16 {t : Tm} (ho : t.op = 16) (b : Bool) : nn t b = if b = true then mkT 17 [] else t.er := by rw [nn_eq, ho]; cases b <;> rfl
theorem nn17 {t : Tm} (ho : t.op = 17) (b : Bool) : nn t b = if b = true then mkT 16 [] else t.er := by rw [nn_eq, ho]; cases b <;> rfl
theorem nn18 {t u : Tm} (ho : t.op = 18) (hk : t.ks = [u]) (b : Bool) : nn t b = nn u (!b) := by rw [nn_eq, ho, hk]; cases b <;> rfl
theorem nn19 {t : Tm} (ho : t.op = 19) (b : Bool) : nn t b = mkT (if b = true then 20 else 19) (t.ks.map (fun k => nn k b)) := by rw [nn_eq, ho]; cases b <;> rfl
theorem nn20 {t : Tm} (ho : t.op = 20) (b : Bool) : nn t b = mkT (if b = true then 19 else 20) (t.ks.map (fun k => nn k b)) := by rw [nn_eq, ho]; cases b <;> rfl
theorem nn21 {t u v : Tm} (ho : t.op = 21) (hk : t.ks = [u, v]) (b : Bool) : nn t b = mkT (if b = true then 19 else 20) [nn u (!b), nn v b] := by rw [nn_eq, ho, hk]; cases b <;> rfl
theorem nn22 {t : Tm} (ho : t.op = 22) (b : Bool) : nn t b = if b = true then notT t.er else t.er := by rw [nn_eq, ho]; cases b <;> rfl
theorem nn23 {t u v : Tm} (ho : t.op = 23) (hk : t.ks = [u, v]) (b : Bool) : nn t b = if b = true then leT v.er u.er else notT (leT v.er u.er) := by rw [nn_eq, ho, hk]; cases b <;> rfl
theorem nn24 {t u v : Tm} (ho : t.op = 24) (hk : t.ks = [u, v]) (b : Bool) : nn t b = if b = true then mkT 20 [notT (leT u.er v.er), notT (leT v.er u.er)] else mkT 19 [leT u.er v.er, leT v.er u.er] := by rw [nn_eq, ho, hk]; cases b <;> rfl
theorem nn25 {t u v : Tm} (ho : t.op = 25) (hk : t.ks = [u, v]) (b : Bool) : nn t b = if b = true then notT (insT (oneT u.er) v.er) else insT (oneT u.er) v.er := by rw [nn_eq, ho, hk]; cases b <;> rfl
theorem nn26 {t u v : Tm} (ho : t.op = 26) (hk : t.ks = [u, v]) (b : Bool) : nn t b = if b = true then notT (insT u.er v.er) else insT u.er v.er := by rw [nn_eq, ho, hk]; cases b <;> rfl
theorem nn27 {t u v : Tm} (ho : t.op = 27) (hk : t.ks = [u, v]) (b : Bool) : nn t b = if b = true then mkT 20 [notT (insT u.er v.er), notT (insT v.er u.er)] else mkT 19 [insT u.er v.er, insT v.er u.er] := by rw [nn_eq, ho, hk]; cases b <;> rfl
theorem nn28 {t u v : Tm} (ho : t.op = 28) (hk : t.ks = [u, v]) (b : Bool) : nn t b = if b = true then notT (insT (oneT u.er) (oneT v.er)) else insT (oneT u.er) (oneT v.er) := by rw [nn_eq, ho, hk]; cases b <;> rfl
theorem nn_not (u : Tm) (b : Bool) : nn (notT u) b = nn u (!b) := nn18 rfl rfl b
theorem nn_and (l : List Tm) (b : Bool) : nn (mkT 19 l) b = mkT (if b = true then 20 else 19) (l.map (fun k => nn k b)) := nn19 rfl b
theorem nn_or (l : List Tm) (b : Bool) : nn (mkT 20 l) b = mkT (if b = true then 19 else 20) (l.map (fun k => nn k b)) := nn20 rfl b
theorem er_le (u v : Tm) : (leT u v).er = leT u.er v.er := er_mk 22 _
theorem er_ins (u v : Tm) : (insT u v).er = insT u.er v.er := by
  unfold insT
  rw [er_le, er_mk, List.map_cons, er_mk]
  rfl
theorem er_one (u : Tm) : (oneT u).er = oneT u.er := er_mk 10 _
theorem nn_le (u v : Tm) (b : Bool) : nn (leT u v) b = if b = true then notT (leT u.er v.er) else leT u.er v.er := by rw [nn22 rfl, er_le]
theorem nn_ins (u v : Tm) (b : Bool) : nn (insT u v) b = if b = true then notT (insT u.er v.er) else insT u.er v.er := by rw [nn22 rfl, er_ins]
theorem nn_tru (b : Bool) : nn (mkT 16 []) b = if b = true then mkT 17 [] else mkT 16 [] := nn16 rfl b
theorem nn_fal (b : Bool) : nn (mkT 17 []) b = if b = true then mkT 16 [] else mkT 17 [] := nn17 rfl b
theorem bare_er {t : Tm} (h : t.nm = ⟨#[]⟩ ∧ t.n = 0) : t.er = mkT t.op (t.ks.map Tm.er) := by rw [er_eq, h.1, h.2]; rfl

/-- made again, it is what it was, or turned -/
theorem nn_nn : ∀ t : Tm, t.srt = 4 → ∀ b c, nn (nn t b) c = nn t (b ^^ c) := by
  refine bool_ind ?_ ?_ ?_ ?_ ?_ ?_ ?_ ?_ ?_ ?_ ?_ ?_ ?_ ?_
  · intro t _ ho _ b c
    rw [nn15 ho b]
    cases b
    · rw [if_neg (by decide), nn_er, Bool.false_xor]
    · rw [if_pos rfl, nn_not, nn_er, Bool.true_xor]
  · intro t _ ho hk hb b c
    have e := bare_er hb
    rw [ho, hk] at e
    rw [nn16 ho b, nn16 ho, e]
    cases b <;> cases c <;> simp [nn_tru, nn_fal]
  · intro t _ ho hk hb b c
    have e := bare_er hb
    rw [ho, hk] at e
    rw [nn17 ho b, nn17 ho, e]
    cases b <;> cases c <;> simp [nn_tru, nn_fal]
  · intro t u _ ho hk _ _ ih b c
    rw [nn18 ho hk, nn18 ho hk, ih]
    cases b <;> cases c <;> rfl
  · intro t _ ho _ _ ih b c
    rw [nn19 ho b, nn19 ho]
    have e : ∀ c, (t.ks.map (fun k => nn k b)).map (fun k => nn k c) = t.ks.map (fun k => nn k (b ^^ c)) := fun c => by
      rw [List.map_map]; exact List.map_congr_left (fun k hk => ih k hk b c)
    cases b
    · rw [if_neg (by decide), nn_and, e, Bool.false_xor]
    · rw [if_pos rfl, nn_or, e]; cases c <;> rfl
  · intro t _ ho _ _ ih b c
    rw [nn20 ho b, nn20 ho]
    have e : ∀ c, (t.ks.map (fun k => nn k b)).map (fun k => nn k c) = t.ks.map (fun k => nn k (b ^^ c)) := fun c => by
      rw [List.map_map]; exact List.map_congr_left (fun k hk => ih k hk b c)
    cases b
    · rw [if_neg (by decide), nn_or, e, Bool.false_xor]
    · rw [if_pos rfl, nn_and, e]; cases c <;> rfl
  · intro t u v _ ho hk _ _ _ ihu ihv b c
    rw [nn21 ho hk b, nn21 ho hk]
    cases b
    · rw [if_neg (by decide), nn_or]; simp only [List.map_cons, List.map_nil, ihu, ihv]; cases c <;> rfl
    · rw [if_pos rfl, nn_and]; simp only [List.map_cons, List.map_nil, ihu, ihv]; cases c <;> rfl
  · intro t u v _ ho _ _ _ _ b c
    rw [nn22 ho b]
    cases b
    · rw [if_neg (by decide), nn_er, Bool.false_xor]
    · rw [if_pos rfl, nn_not, nn_er, Bool.true_xor]
  · intro t u v _ ho hk _ _ b c
    rw [nn23 ho hk b, nn23 ho hk]
    cases b <;> cases c <;> simp [nn_not, nn_le, er_er]
  · intro t u v _ ho hk _ _ b c
    rw [nn24 ho hk b, nn24 ho hk]
    cases b <;> cases c <;> simp [nn_and, nn_or, nn_not, nn_le, er_er]
  · intro t u v _ ho hk _ _ b c
    rw [nn25 ho hk b, nn25 ho hk]
    cases b <;> cases c <;> simp [nn_not, nn_ins, er_er, er_one]
  · intro t u v _ ho hk _ _ b c
    rw [nn26 ho hk b, nn26 ho hk]
    cases b <;> cases c <;> simp [nn_not, nn_ins, er_er]
  · intro t u v _ ho hk _ _ b c
    rw [nn27 ho hk b, nn27 ho hk]
    cases b <;> cases c <;> simp [nn_and, nn_or, nn_not, nn_ins, er_er]
  · intro t u v _ ho hk _ _ b c
    rw [nn28 ho hk b, nn28 ho hk]
    cases b <;> cases c <;> simp [nn_not, nn_ins, er_er, er_one]

/- sorts -/
theorem mk_srt (op : Int) (l : List Tm) : (mkT op l).srt = sortOf op ⟨#[]⟩ 0 (l.map Tm.srt) := by rw [srt_eq]; rfl
theorem not_srt {u : Tm} (h : u.srt = 4) : (notT u).srt = 4 := by unfold notT; rw [mk_srt]; simp only [List.map_cons, List.map_nil, h]; kernel_rfl
theorem le_srt {u v : Tm} (h : u.srt = 1) (h' : v.srt = 1) : (leT u v).srt = 4 := by unfold leT; rw [mk_srt]; simp only [List.map_cons, List.map_nil, h, h']; kernel_rfl
theorem one_srt {u : Tm} (h : u.srt = 3) : (oneT u).srt = 2 := by unfold oneT; rw [mk_srt]; simp only [List.map_cons, List.map_nil, h]; kernel_rfl
theorem ins_srt {u v : Tm} (h : u.srt = 2) (h' : v.srt = 2) : (insT u v).srt = 4 := by
  have e : (mkT 13 [u, v]).srt = 2 := by rw [mk_srt]; simp only [List.map_cons, List.map_nil, h, h']; kernel_rfl
  have e' : (mkT 3 [mkT 13 [u, v]]).srt = 1 := by rw [mk_srt]; simp only [List.map_cons, List.map_nil, e]; kernel_rfl
  exact le_srt e' (by unfold numT; rw [mk_srt]; kernel_rfl)
theorem many_srt {op : Int} (ho : op = 19 ∨ op = 20) {l : List Tm} (h : ∀ k ∈ l, k.srt = 4) : (mkT op l).srt = 4 := by
  have hh : holdsB (shRow 19) (l.map Tm.srt) = true := by
    refine holdsB_all (.inl rfl) ?_
    rw [List.all_eq_true]
    intro i hi
    rw [List.mem_range, List.length_map] at hi
    rw [getD_map_srt l i hi, h _ (List.getElem_mem _)]
    rfl
  rw [mk_srt]
  rcases ho with rfl | rfl
  · show (if namedB (shRow 19) ⟨#[]⟩ && ((shRow 19).number || decide ((0 : Int) = 0)) && holdsB (shRow 19) (l.map Tm.srt) then (shRow 19).sort else 0) = 4
    rw [hh]; kernel_rfl
  · show (if namedB (shRow 19) ⟨#[]⟩ && ((shRow 19).number || decide ((0 : Int) = 0)) && holdsB (shRow 19) (l.map Tm.srt) then (shRow 19).sort else 0) = 4
    rw [hh]; kernel_rfl
theorem nn_srt : ∀ t : Tm, t.srt = 4 → ∀ b, (nn t b).srt = 4 := by
  refine bool_ind ?_ ?_ ?_ ?_ ?_ ?_ ?_ ?_ ?_ ?_ ?_ ?_ ?_ ?_
  · intro t h ho _ b
    rw [nn15 ho b]
    cases b
    · rw [if_neg (by decide), er_srt]; exact h
    · rw [if_pos rfl]; exact not_srt (by rw [er_srt]; exact h)
  · intro t h ho _ _ b
    rw [nn16 ho b]
    cases b
    · rw [if_neg (by decide), er_srt]; exact h
    · rw [if_pos rfl, mk_srt]; kernel_rfl
  · intro t h ho _ _ b
    rw [nn17 ho b]
    cases b
    · rw [if_neg (by decide), er_srt]; exact h
    · rw [if_pos rfl, mk_srt]; kernel_rfl
  · intro t u _ ho hk _ _ ih b
    rw [nn18 ho hk]; exact ih _
  · intro t _ ho _ _ ih b
    rw [nn19 ho]
    refine many_srt (by cases b <;> simp) (fun k hk => ?_)
    obtain ⟨q, hq, rfl⟩ := List.mem_map.1 hk
    exact ih q hq b
  · intro t _ ho _ _ ih b
    rw [nn20 ho]
    refine many_srt (by cases b <;> simp) (fun k hk => ?_)
    obtain ⟨q, hq, rfl⟩ := List.mem_map.1 hk
    exact ih q hq b
  · intro t u v _ ho hk _ _ _ ihu ihv b
    rw [nn21 ho hk]
    refine many_srt (by cases b <;> simp) (fun k hk => ?_)
    simp only [List.mem_cons, List.not_mem_nil, or_false] at hk
    rcases hk with rfl | rfl
    · exact ihu _
    · exact ihv _
  · intro t u v h ho _ _ _ _ b
    rw [nn22 ho b]
    cases b
    · rw [if_neg (by decide), er_srt]; exact h
    · rw [if_pos rfl]; exact not_srt (by rw [er_srt]; exact h)
  · intro t u v _ ho hk hu hv b
    have e : (leT v.er u.er).srt = 4 := le_srt (by rw [er_srt]; exact hv) (by rw [er_srt]; exact hu)
    rw [nn23 ho hk]
    cases b
    · exact not_srt e
    · exact e
  · intro t u v _ ho hk hu hv b
    have e : (leT v.er u.er).srt = 4 := le_srt (by rw [er_srt]; exact hv) (by rw [er_srt]; exact hu)
    have e' : (leT u.er v.er).srt = 4 := le_srt (by rw [er_srt]; exact hu) (by rw [er_srt]; exact hv)
    rw [nn24 ho hk]
    cases b
    · refine many_srt (.inl rfl) (fun k hk => ?_)
      simp only [List.mem_cons, List.not_mem_nil, or_false] at hk
      rcases hk with rfl | rfl
      · exact e'
      · exact e
    · refine many_srt (.inr rfl) (fun k hk => ?_)
      simp only [List.mem_cons, List.not_mem_nil, or_false] at hk
      rcases hk with rfl | rfl
      · exact not_srt e'
      · exact not_srt e
  · intro t u v _ ho hk hu hv b
    have e : (insT (oneT u.er) v.er).srt = 4 := ins_srt (one_srt (by rw [er_srt]; exact hu)) (by rw [er_srt]; exact hv)
    rw [nn25 ho hk]
    cases b
    · exact e
    · exact not_srt e
  · intro t u v _ ho hk hu hv b
    have e : (insT u.er v.er).srt = 4 := ins_srt (by rw [er_srt]; exact hu) (by rw [er_srt]; exact hv)
    rw [nn26 ho hk]
    cases b
    · exact e
    · exact not_srt e
  · intro t u v _ ho hk hu hv b
    have e : (insT u.er v.er).srt = 4 := ins_srt (by rw [er_srt]; exact hu) (by rw [er_srt]; exact hv)
    have e' : (insT v.er u.er).srt = 4 := ins_srt (by rw [er_srt]; exact hv) (by rw [er_srt]; exact hu)
    rw [nn27 ho hk]
    cases b
    · refine many_srt (.inl rfl) (fun k hk => ?_)
      simp only [List.mem_cons, List.not_mem_nil, or_false] at hk
      rcases hk with rfl | rfl
      · exact e
      · exact e'
    · refine many_srt (.inr rfl) (fun k hk => ?_)
      simp only [List.mem_cons, List.not_mem_nil, or_false] at hk
      rcases hk with rfl | rfl
      · exact not_srt e
      · exact not_srt e'
  · intro t u v _ ho hk hu hv b
    have e : (insT (oneT u.er) (oneT v.er)).srt = 4 := ins_srt (one_srt (by rw [er_srt]; exact hu)) (one_srt (by rw [er_srt]; exact hv))
    rw [nn28 ho hk]
    cases b
    · exact e
    · exact not_srt e

/- depth -/
theorem deeps_map_le {f : Tm → Tm} : ∀ {ks : List Tm}, (∀ k ∈ ks, (f k).deep ≤ k.deep + 4) → Tm.deeps (ks.map f) ≤ Tm.deeps ks + 4
  | [], _ => Nat.zero_le _
  | k :: ks, h => by
    have h1 := h k (by simp)
    have h2 := deeps_map_le (ks := ks) (fun q hq => h q (by simp [hq]))
    simp only [List.map_cons, Tm.deeps]
    omega
theorem mk_deep (op : Int) (l : List Tm) : (mkT op l).deep = 1 + Tm.deeps l := Tm.deep_eq _
theorem nn_deep : ∀ t : Tm, t.srt = 4 → ∀ b, (nn t b).deep ≤ t.deep + 4 := by
  refine bool_ind ?_ ?_ ?_ ?_ ?_ ?_ ?_ ?_ ?_ ?_ ?_ ?_ ?_ ?_
  · intro t h ho _ b
    rw [nn15 ho b]
    cases b <;> simp [notT, mk_deep, Tm.deeps, er_deep] <;> omega
  · intro t h ho _ _ b
    rw [nn16 ho b]
    cases b <;> simp [mk_deep, Tm.deeps, er_deep] <;> omega
  · intro t h ho _ _ b
    rw [nn17 ho b]
    cases b <;> simp [mk_deep, Tm.deeps, er_deep] <;> omega
  · intro t u _ ho hk _ _ ih b
    rw [nn18 ho hk, Tm.deep_eq t, hk]
    have := ih (!b)
    simp only [Tm.deeps]; omega
  · intro t _ ho _ _ ih b
    rw [nn19 ho, Tm.deep_eq t, mk_deep]
    have := deeps_map_le (f := fun k => nn k b) (fun k hk => ih k hk b)
    omega
  · intro t _ ho _ _ ih b
    rw [nn20 ho, Tm.deep_eq t, mk_deep]
    have := deeps_map_le (f := fun k => nn k b) (fun k hk => ih k hk b)
    omega
  · intro t u v _ ho hk _ _ _ ihu ihv b
    rw [nn21 ho hk, Tm.deep_eq t, mk_deep, hk]
    have := ihu (!b)
    have := ihv b
    simp only [Tm.deeps]; omega
  · intro t u v h ho _ _ _ _ b
    rw [nn22 ho b]
    cases b <;> simp [notT, mk_deep, Tm.deeps, er_deep] <;> omega
  · intro t u v _ ho hk _ _ b
    rw [nn23 ho hk, Tm.deep_eq t, hk]
    cases b <;> simp [notT, leT, mk_deep, Tm.deeps, er_deep] <;> omega
  · intro t u v _ ho hk _ _ b
    rw [nn24 ho hk, Tm.deep_eq t, hk]
    cases b <;> simp [notT, leT, mk_deep, Tm.deeps, er_deep] <;> omega
  · intro t u v _ ho hk _ _ b
    rw [nn25 ho hk, Tm.deep_eq t, hk]
    cases b <;> simp [notT, leT, insT, oneT, numT, mk_deep, Tm.deeps, er_deep] <;> omega
  · intro t u v _ ho hk _ _ b
    rw [nn26 ho hk, Tm.deep_eq t, hk]
    cases b <;> simp [notT, leT, insT, numT, mk_deep, Tm.deeps, er_deep] <;> omega
  · intro t u v _ ho hk _ _ b
    rw [nn27 ho hk, Tm.deep_eq t, hk]
    cases b <;> simp [notT, leT, insT, numT, mk_deep, Tm.deeps, er_deep] <;> omega
  · intro t u v _ ho hk _ _ b
    rw [nn28 ho hk, Tm.deep_eq t, hk]
    cases b <;> simp [notT, leT, insT, oneT, numT, mk_deep, Tm.deeps, er_deep] <;> omega

/- names -/
theorem mk_vars (op : Int) (l : List Tm) (h : (shRow op.toNat).name = false) : (mkT op l).vars = Tm.varss l := by rw [vars_eq]; show (if (shRow op.toNat).name then _ else _) ++ _ = _; rw [h]; rfl
theorem not_vars (u : Tm) : (notT u).vars = u.vars := by unfold notT; rw [mk_vars 18 _ rfl]; simp [Tm.varss]
theorem one_vars (u : Tm) : (oneT u).vars = u.vars := by unfold oneT; rw [mk_vars 10 _ rfl]; simp [Tm.varss]
theorem le_vars (u v : Tm) : (leT u v).vars = u.vars ++ v.vars := by unfold leT; rw [mk_vars 22 _ rfl]; simp [Tm.varss]
theorem ins_vars (u v : Tm) : (insT u v).vars = u.vars ++ v.vars := by
  unfold insT; rw [le_vars, mk_vars 3 _ rfl]; simp only [Tm.varss]; rw [mk_vars 13 _ rfl]; unfold numT; rw [mk_vars 1 _ rfl]; simp [Tm.varss]
theorem nn_vars (x : ByteArray × Int) : ∀ t : Tm, t.srt = 4 → ∀ b, x ∈ (nn t b).vars ↔ x ∈ t.vars := by
  have two : ∀ {t u v : Tm} (j : Nat), t.op = (j : Int) → (shRow j).name = false → t.ks = [u, v] → t.vars = u.vars ++ v.vars := by
    intro t u v j ho hn hk
    rw [vars_eq, hk]
    have : t.op.toNat = j := by omega
    rw [this, hn]; simp [Tm.varss]
  have all : ∀ {t : Tm} (j : Nat), t.op = (j : Int) → (shRow j).name = false → t.vars = Tm.varss t.ks := by
    intro t j ho hn
    rw [vars_eq]
    have : t.op.toNat = j := by omega
    rw [this, hn]; rfl
  have many : ∀ (ks : List Tm) (b : Bool), (∀ k ∈ ks, ∀ b, x ∈ (nn k b).vars ↔ x ∈ k.vars) → (x ∈ Tm.varss (ks.map (fun k => nn k b)) ↔ x ∈ Tm.varss ks) := by
    intro ks b ih
    rw [nvarss_mem, nvarss_mem]
    constructor
    · rintro ⟨k, hk, hx⟩
      obtain ⟨q, hq, rfl⟩ := List.mem_map.1 hk
      exact ⟨q, hq, (ih q hq b).1 hx⟩
    · rintro ⟨k, hk, hx⟩
      exact ⟨_, List.mem_map.2 ⟨k, hk, rfl⟩, (ih k hk b).2 hx⟩
  refine bool_ind ?_ ?_ ?_ ?_ ?_ ?_ ?_ ?_ ?_ ?_ ?_ ?_ ?_ ?_
  · intro t h ho _ b
    rw [nn15 ho b]
    cases b <;> simp [not_vars, er_vars]
  · intro t h ho hk _ b
    rw [nn16 ho b, all 16 ho rfl, hk]
    cases b <;> simp [er_vars, all 16 ho rfl, hk, Tm.varss, mk_vars 17 _ rfl]
  · intro t h ho hk _ b
    rw [nn17 ho b, all 17 ho rfl, hk]
    cases b <;> simp [er_vars, all 17 ho rfl, hk, Tm.varss, mk_vars 16 _ rfl]
  · intro t u _ ho hk _ _ ih b
    rw [nn18 ho hk, all 18 ho rfl, hk, ih]; simp [Tm.varss]
  · intro t _ ho _ _ ih b
    rw [nn19 ho, all 19 ho rfl, mk_vars _ _ (by cases b <;> rfl), many t.ks b ih]
  · intro t _ ho _ _ ih b
    rw [nn20 ho, all 20 ho rfl, mk_vars _ _ (by cases b <;> rfl), many t.ks b ih]
  · intro t u v _ ho hk _ _ _ ihu ihv b
    rw [nn21 ho hk, two 21 ho rfl hk, mk_vars _ _ (by cases b <;> rfl)]
    simp [Tm.varss, ihu, ihv]
  · intro t u v h ho _ _ _ _ b
    rw [nn22 ho b]
    cases b <;> simp [not_vars, er_vars]
  · intro t u v _ ho hk _ _ b
    rw [nn23 ho hk, two 23 ho rfl hk]
    cases b <;> simp [not_vars, le_vars, er_vars, or_comm]
  · intro t u v _ ho hk _ _ b
    rw [nn24 ho hk, two 24 ho rfl hk]
    cases b <;> simp [not_vars, le_vars, er_vars, mk_vars 19 _ rfl, mk_vars 20 _ rfl, Tm.varss] <;> grind
  · intro t u v _ ho hk _ _ b
    rw [nn25 ho hk, two 25 ho rfl hk]
    cases b <;> simp [not_vars, ins_vars, one_vars, er_vars]
  · intro t u v _ ho hk _ _ b
    rw [nn26 ho hk, two 26 ho rfl hk]
    cases b <;> simp [not_vars, ins_vars, er_vars]
  · intro t u v _ ho hk _ _ b
    rw [nn27 ho hk, two 27 ho rfl hk]
    cases b <;> simp [not_vars, ins_vars, er_vars, mk_vars 19 _ rfl, mk_vars 20 _ rfl, Tm.varss] <;> grind
  · intro t u v _ ho hk _ _ b
    rw [nn28 ho hk, two 28 ho rfl hk]
    cases b <;> simp [not_vars, ins_vars, one_vars, er_vars]

/- few operations -/
mutual
def plB : Tm → Bool
  | .node op _ _ _ _ ks => if op = 15 ∨ op = 22 ∨ op = 16 ∨ op = 17 then true else if op = 18 then decide ((g0 ks).op = 15) || decide ((g0 ks).op = 22) else if op = 19 ∨ op = 20 then plBs ks else false
def plBs : List Tm → Bool
  | [] => true
  | t :: ts => plB t && plBs ts
end
theorem plBs_all : ∀ ks : List Tm, plBs ks = ks.all plB
  | [] => rfl
  | k :: ks => by simp only [plBs, plBs_all ks, List.all_cons]
theorem plB_eq (t : Tm) : plB t = if t.op = 15 ∨ t.op = 22 ∨ t.op = 16 ∨ t.op = 17 then true else if t.op = 18 then decide ((g0 t.ks).op = 15) || decide ((g0 t.ks).op = 22) else if t.op = 19 ∨ t.op = 20 then t.ks.all plB else false := by
  cases t with
  | node op nm n a c ks => rw [plB, plBs_all]; rfl
theorem g0_er (ks : List Tm) : (g0 (ks.map Tm.er)).op = (g0 ks).op := by
  cases ks with
  | nil => rfl
  | cons k ks => exact (er_op k).1
theorem plB_er (t : Tm) : plB t.er = plB t := by
  induction t using Tm.ind with
  | h t ih =>
    obtain ⟨h1, -, -, h4⟩ := er_op t
    have e : (t.ks.map Tm.er).all plB = t.ks.all plB := by
      rw [List.all_map]
      rw [Bool.eq_iff_iff, List.all_eq_true, List.all_eq_true]
      exact ⟨fun h k hk => by rw [← ih k hk]; exact h k hk, fun h k hk => by show plB k.er = true; rw [ih k hk]; exact h k hk⟩
    rw [plB_eq, plB_eq t, h1, h4, g0_er, e]
theorem pl_mk (op : Int) (ho : op = 19 ∨ op = 20) (l : List Tm) (h : ∀ k ∈ l, plB k = true) : plB (mkT op l) = true := by
  rw [plB_eq]
  show (if op = 15 ∨ op = 22 ∨ op = 16 ∨ op = 17 then true else if op = 18 then _ else if op = 19 ∨ op = 20 then l.all plB else false) = true
  rw [if_neg (by omega), if_neg (by omega), if_pos ho, List.all_eq_true]
  exact h
theorem pl_le (u v : Tm) : plB (leT u v) = true := by rw [plB_eq]; rfl
theorem pl_ins (u v : Tm) : plB (insT u v) = true := pl_le _ _
theorem pl_not {u : Tm} (h : u.op = 15 ∨ u.op = 22) : plB (notT u) = true := by
  rw [plB_eq]
  show (decide (u.op = 15) || decide (u.op = 22)) = true
  simpa using h
theorem nn_pl : ∀ t : Tm, t.srt = 4 → ∀ b, plB (nn t b) = true := by
  have two : ∀ (op : Int) (u v : Tm), op = 19 ∨ op = 20 → plB u = true → plB v = true → plB (mkT op [u, v]) = true := fun op u v ho hu hv => pl_mk op ho _ (fun k hk => by
    simp only [List.mem_cons, List.not_mem_nil, or_false] at hk
    rcases hk with rfl | rfl
    · exact hu
    · exact hv)
  have lf : ∀ t : Tm, t.op = 15 ∨ t.op = 22 ∨ t.op = 16 ∨ t.op = 17 → plB t = true := fun t h => by rw [plB_eq, if_pos h]
  refine bool_ind ?_ ?_ ?_ ?_ ?_ ?_ ?_ ?_ ?_ ?_ ?_ ?_ ?_ ?_
  · intro t h ho _ b
    rw [nn15 ho b]
    cases b
    · exact lf _ (by rw [if_neg (by decide), (er_op t).1]; exact .inl ho)
    · exact pl_not (by rw [(er_op t).1]; exact .inl ho)
  · intro t h ho hk _ b
    rw [nn16 ho b]
    cases b
    · exact lf _ (by rw [if_neg (by decide), (er_op t).1]; exact .inr (.inr (.inl ho)))
    · exact lf _ (.inr (.inr (.inr rfl)))
  · intro t h ho hk _ b
    rw [nn17 ho b]
    cases b
    · exact lf _ (by rw [if_neg (by decide), (er_op t).1]; exact .inr (.inr (.inr ho)))
    · exact lf _ (.inr (.inr (.inl rfl)))
  · intro t u _ ho hk _ _ ih b
    rw [nn18 ho hk]; exact ih _
  · intro t _ ho _ _ ih b
    rw [nn19 ho]
    refine pl_mk _ (by cases b <;> simp) _ (fun k hk => ?_)
    obtain ⟨q, hq, rfl⟩ := List.mem_map.1 hk
    exact ih q hq b
  · intro t _ ho _ _ ih b
    rw [nn20 ho]
    refine pl_mk _ (by cases b <;> simp) _ (fun k hk => ?_)
    obtain ⟨q, hq, rfl⟩ := List.mem_map.1 hk
    exact ih q hq b
  · intro t u v _ ho hk _ _ _ ihu ihv b
    rw [nn21 ho hk]
    exact two _ _ _ (by cases b <;> simp) (ihu _) (ihv _)
  · intro t u v h ho _ _ _ _ b
    rw [nn22 ho b]
    cases b
    · exact lf _ (by rw [if_neg (by decide), (er_op t).1]; exact .inr (.inl ho))
    · exact pl_not (by rw [(er_op t).1]; exact .inr ho)
  · intro t u v _ ho hk _ _ b
    rw [nn23 ho hk]
    cases b
    · exact pl_not (.inr rfl)
    · exact pl_le _ _
  · intro t u v _ ho hk _ _ b
    rw [nn24 ho hk]
    cases b
    · exact two _ _ _ (.inl rfl) (pl_le _ _) (pl_le _ _)
    · exact two _ _ _ (.inr rfl) (pl_not (.inr rfl)) (pl_not (.inr rfl))
  · intro t u v _ ho hk _ _ b
    rw [nn25 ho hk]
    cases b
    · exact pl_ins _ _
    · exact pl_not (.inr rfl)
  · intro t u v _ ho hk _ _ b
    rw [nn26 ho hk]
    cases b
    · exact pl_ins _ _
    · exact pl_not (.inr rfl)
  · intro t u v _ ho hk _ _ b
    rw [nn27 ho hk]
    cases b
    · exact two _ _ _ (.inl rfl) (pl_ins _ _) (pl_ins _ _)
    · exact two _ _ _ (.inr rfl) (pl_not (.inr rfl)) (pl_not (.inr rfl))
  · intro t u v _ ho hk _ _ b
    rw [nn28 ho hk]
    cases b
    · exact pl_ins _ _
    · exact pl_not (.inr rfl)
/-- what has few operations stays -/
theorem pl_nn : ∀ t : Tm, t.srt = 4 → plB t = true → nn t false = t.er := by
  refine bool_ind ?_ ?_ ?_ ?_ ?_ ?_ ?_ ?_ ?_ ?_ ?_ ?_ ?_ ?_
  · intro t _ ho _ _; rw [nn15 ho]; rfl
  · intro t _ ho _ _ _; rw [nn16 ho]; rfl
  · intro t _ ho _ _ _; rw [nn17 ho]; rfl
  · intro t u _ ho hk hb hu _ hp
    rw [plB_eq, ho, hk] at hp
    have hp : (decide (u.op = 15) || decide (u.op = 22)) = true := hp
    simp only [Bool.or_eq_true, decide_eq_true_eq] at hp
    rw [nn18 ho hk, bare_er hb, ho, hk]
    rcases hp with e | e
    · rw [nn15 e]; rfl
    · rw [nn22 e]; rfl
  · intro t _ ho hb _ ih hp
    rw [plB_eq, ho] at hp
    have hp : t.ks.all plB = true := hp
    rw [List.all_eq_true] at hp
    rw [nn19 ho, bare_er hb, ho]
    have e : t.ks.map (fun k => nn k false) = t.ks.map Tm.er := List.map_congr_left (fun k hk => ih k hk (hp k hk))
    rw [e]; rfl
  · intro t _ ho hb _ ih hp
    rw [plB_eq, ho] at hp
    have hp : t.ks.all plB = true := hp
    rw [List.all_eq_true] at hp
    rw [nn20 ho, bare_er hb, ho]
    have e : t.ks.map (fun k => nn k false) = t.ks.map Tm.er := List.map_congr_left (fun k hk => ih k hk (hp k hk))
    rw [e]; rfl
  · intro t u v _ ho _ _ _ _ _ _ hp; rw [plB_eq, ho] at hp; exact Bool.noConfusion (show false = true from hp)
  · intro t u v _ ho _ _ _ _ _; rw [nn22 ho]; rfl
  · intro t u v _ ho _ _ _ hp; rw [plB_eq, ho] at hp; exact Bool.noConfusion (show false = true from hp)
  · intro t u v _ ho _ _ _ hp; rw [plB_eq, ho] at hp; exact Bool.noConfusion (show false = true from hp)
  · intro t u v _ ho _ _ _ hp; rw [plB_eq, ho] at hp; exact Bool.noConfusion (show false = true from hp)
  · intro t u v _ ho _ _ _ hp; rw [plB_eq, ho] at hp; exact Bool.noConfusion (show false = true from hp)
  · intro t u v _ ho _ _ _ hp; rw [plB_eq, ho] at hp; exact Bool.noConfusion (show false = true from hp)
  · intro t u v _ ho _ _ _ hp; rw [plB_eq, ho] at hp; exact Bool.noConfusion (show false = true from hp)
end
section
open Go.RowKit

theorem nsN_row : ∀ j : Nat, j < 29 → 1 ≤ j → nsN (j : Int) = (if (shRow j).name then (shRow j).sort else 0) := by decide
theorem name_none {t : Tm} (h : t.srt ≠ 0) (hs : nsN t.op ≠ 0) : t.ks = [] ∧ (t.op = 2 ∨ t.op = 7 ∨ t.op = 14 ∨ t.op = 15) := by
  have ho : t.op = 2 ∨ t.op = 7 ∨ t.op = 14 ∨ t.op = 15 := by
    unfold nsN at hs
    by_cases e1 : t.op = 2
    · exact .inl e1
    · by_cases e2 : t.op = 7
      · exact .inr (.inl e2)
      · by_cases e3 : t.op = 14
        · exact .inr (.inr (.inl e3))
        · by_cases e4 : t.op = 15
          · exact .inr (.inr (.inr e4))
          · rw [if_neg e1, if_neg e2, if_neg e3, if_neg e4] at hs; exact absurd rfl hs
  refine ⟨?_, ho⟩
  rcases ho with e | e | e | e
  · exact (nform0 2 h e rfl rfl).1
  · exact (nform0 7 h e rfl rfl).1
  · exact (nform0 14 h e rfl rfl).1
  · exact (nform0 15 h e rfl rfl).1
end
section
open Go.RowKit

/-- what is put does not look at places -/
theorem rp_er (F : ByteArray → Int → Option Tm) (t : Tm) : rp F t.er = rp F t := by
  induction t using Tm.ind with
  | h t ih =>
    obtain ⟨h1, h2, h3, h4⟩ := er_op t
    by_cases hs : nsN t.op = 0
    · rw [rp_part (by rw [h1]; exact hs), rp_part hs, h1, h2, h3, h4, List.map_map]
      congr 1
      exact List.map_congr_left (fun k hk => ih k hk)
    · rw [rp_name (by rw [h1]; exact hs), rp_name hs, h1, h2]
      cases F t.nm (nsN t.op : Int) with
      | none =>
        show t.er.er = t.er
        rw [er_eq t.er, h1, h2, h3, h4, List.map_map]
        conv => rhs; rw [er_eq t]
        congr 1
        refine List.map_congr_left (fun k _ => ?_)
        show k.er.er = k.er
        have e2 : ∀ q : Tm, q.er.er = q.er := by
          intro q
          induction q using Tm.ind with
          | h q ihq =>
            obtain ⟨q1, q2, q3, q4⟩ := er_op q
            rw [er_eq q.er, q1, q2, q3, q4, List.map_map]
            conv => rhs; rw [er_eq q]
            congr 1
            exact List.map_congr_left (fun k hk => ihq k hk)
        exact e2 k
      | some x => rfl
/-- where at each name either nothing is put, or the name itself, the term stays -/
theorem rp_same {F : ByteArray → Int → Option Tm} : ∀ t : Tm, t.srt ≠ 0 → (∀ x ∈ t.vars, ∀ y, F x.1 (nsN x.2 : Int) = some y → y.er = .node x.2 x.1 0 none 0 []) → rp F t = t.er := by
  intro t
  induction t using Tm.ind with
  | h t ih =>
    intro h hF
    by_cases hs : nsN t.op = 0
    · rw [rp_part hs, er_eq]
      congr 1
      refine List.map_congr_left (fun k hk => ih k hk ((srt_ops h).2 k hk) (fun x hx => hF x ?_))
      rw [vars_eq, List.mem_append]
      exact .inr (nvarss_mem.2 ⟨k, hk, hx⟩)
    · rw [rp_name hs]
      cases hy : F t.nm (nsN t.op : Int) with
      | none => rfl
      | some y =>
        show y.er = t.er
        obtain ⟨hks, ho⟩ := name_none h hs
        have hn : (shRow t.op.toNat).name = true := by
          rcases ho with e | e | e | e <;> rw [e] <;> rfl
        have hm : (t.nm, t.op) ∈ t.vars := by rw [vars_eq, hn]; simp
        rw [hF _ hm y hy, er_eq, hks]
        have h0 : t.n = 0 := by
          rw [srt_eq] at h
          unfold sortOf at h
          have hr : 1 ≤ t.op ∧ t.op ≤ 28 := (srt_ops (by rw [srt_eq]; exact h)).1
          rw [if_pos hr] at h
          by_cases hb : (namedB (shRow t.op.toNat) t.nm && ((shRow t.op.toNat).number || decide (t.n = 0)) && holdsB (shRow t.op.toNat) (t.ks.map Tm.srt)) = true
          · simp only [Bool.and_eq_true, Bool.or_eq_true, decide_eq_true_eq] at hb
            rcases hb.1.2 with e | e
            · exfalso
              have : (shRow t.op.toNat).number = false := by rcases ho with e | e | e | e <;> rw [e] <;> rfl
              rw [this] at e; cases e
            · exact e
          · rw [if_neg hb] at h; exact absurd rfl h
        rw [h0]; rfl
/-- what is put twice is what is put at once -/
theorem rp_rp {F G H : ByteArray → Int → Option Tm} (h1 : ∀ nm s a, F nm s = some a → ∃ g, H nm s = some g ∧ g.er = rp G a) (h2 : ∀ nm s, F nm s = none → H nm s = G nm s) : ∀ t : Tm, rp G (rp F t) = rp H t := by
  intro t
  induction t using Tm.ind with
  | h t ih =>
    by_cases hs : nsN t.op = 0
    · rw [rp_part hs, rp_part hs, rp_part (by exact hs)]
      show Tm.node t.op t.nm t.n none 0 ((t.ks.map (rp F)).map (rp G)) = _
      rw [List.map_map]
      congr 1
      exact List.map_congr_left (fun k hk => ih k hk)
    · rw [rp_name hs, rp_name hs]
      cases hF : F t.nm (nsN t.op : Int) with
      | none =>
        rw [h2 _ _ hF]
        show rp G t.er = _
        rw [rp_er, rp_name hs]
      | some a =>
        obtain ⟨g, hg, e⟩ := h1 _ _ _ hF
        rw [hg]
        show rp G a.er = g.er
        rw [rp_er, e]
/-- sorts stay, if what is put is of the name's sort -/
theorem rp_srt {F : ByteArray → Int → Option Tm} (hF : ∀ nm (s : Nat) x, F nm (s : Int) = some x → x.srt = s) : ∀ t : Tm, t.srt ≠ 0 → (rp F t).srt = t.srt := by
  intro t
  induction t using Tm.ind with
  | h t ih =>
    intro h
    by_cases hs : nsN t.op = 0
    · rw [rp_part hs, srt_eq, srt_eq t]
      show sortOf t.op t.nm t.n ((t.ks.map (rp F)).map Tm.srt) = _
      rw [List.map_map]
      congr 1
      exact List.map_congr_left (fun k hk => ih k hk ((srt_ops h).2 k hk))
    · rw [rp_name hs]
      cases hy : F t.nm (nsN t.op : Int) with
      | none => exact er_srt t
      | some x =>
        show x.er.srt = _
        rw [er_srt, hF _ _ _ hy]
        obtain ⟨j, hj, j1, j2, e, -⟩ := nsrt_form h
        have hr := nsN_row j (by omega) j1
        rw [← hj] at hr
        rw [e, hr]
        split
        · rfl
        · rename_i hn
          rw [if_neg hn] at hr
          exact absurd hr hs
end
end Go.Proofs.YtdfebacjbapahaaGreatDoor
