/-
  What the laws ask of the clauses of a formula, plainly.
-/
import Derived.Test.YtaiachmolkjedaaDoorCnM
import Derived.Test.YtaiachmolkjedaaDoorNmM
namespace Go.Proofs.YtaiachmolkjedaaDoor
open Go.RowKit

theorem not_all {N t : Tm} (ho : N.op = 18) (hk : N.ks = [t]) : (∀ l, ats N l = ats t l) ∧ hlp N = hlp t ∧ (∀ L m, cls L N m = cls L t m) ∧ (∀ L m, lit L N m = - lit L t m) ∧ jcl N = jcl t := by
  have hj : jnB N.op = true := by rw [ho]; rfl
  refine ⟨fun l => ?_, ?_, fun L m => ?_, fun L m => ?_, ?_⟩
  · rw [ats_eq, if_pos hj, hk]; rfl
  · rw [hlp_eq, if_pos hj, if_pos ho, hk]; simp [hlps]
  · rw [cls_eq, if_pos hj, if_pos ho, hk]; simp [clss]
  · rw [lit_eq, if_pos hj, if_pos ho, hk]; rfl
  · rw [jcl_eq, if_pos hj, if_pos ho, hk]; simp [jcls]
theorem cE_not {N t : Tm} (ho : N.op = 18) (hk : N.ks = [t]) (h : cE N = 0) : cE t = 0 := by
  obtain ⟨h1, h2⟩ := cE_zero h
  obtain ⟨e1, e2, e3, -⟩ := errR_okk h1
  obtain ⟨k0, hk0, hs, -⟩ := nform1 18 e3 ho rfl rfl
  have hs' : k0.srt = 4 := hs
  rw [hk] at hk0
  have : t = k0 := by simpa using hk0
  subst this
  have h5 := Tm.size_eq N
  have h6 := Tm.deep_eq N
  rw [hk] at h5 h6
  simp only [Tm.sizes, Tm.deeps] at h5 h6
  refine cE_is ?_ hs'
  unfold errR
  rw [if_neg, if_neg (by omega)]
  unfold fullB
  simp only [Bool.or_eq_true, decide_eq_true_eq, not_or, Nat.not_lt]
  exact ⟨by omega, by omega⟩
theorem cC_not {N t : Tm} (ho : N.op = 18) (hk : N.ks = [t]) (h : cE N = 0) : cA N = cA t ∧ cN N = cN t ∧ ∃ (r : List (List Int)) (x : Int), cC t = r ++ [[x]] ∧ cC N = r ++ [[-x]] := by
  have h' := cE_not ho hk h
  obtain ⟨a1, a2, a3, a4, -⟩ := not_all ho hk
  refine ⟨?_, ?_, ?_⟩
  · unfold cA; rw [if_pos h, if_pos h', a1]
  · unfold cN; rw [if_pos h, if_pos h', a1, a2]
  · unfold cC; rw [if_pos h, if_pos h', a1, a3, a4]
    exact ⟨_, _, rfl, rfl⟩
theorem and_cE {D t : Tm} (he : D.er = mkT 19 [t.er, t.er]) (h : cE t = 0) (hz : t.size ≤ 900) (hd : t.deep ≤ 90) : cE D = 0 := by
  obtain ⟨h1, h2⟩ := cE_zero h
  have hs : D.srt = 4 := by
    rw [← er_srt, he]
    exact many_srt (.inl rfl) (by intro k hk; simp at hk; subst hk; rw [er_srt]; exact h2)
  have z : D.size = 1 + (t.size + t.size) := by
    rw [← er_size, he, Tm.size_eq]; show 1 + Tm.sizes [t.er, t.er] = _; simp only [Tm.sizes, er_size]; omega
  have d : D.deep = 1 + t.deep := by
    rw [← er_deep, he, Tm.deep_eq]; show 1 + Tm.deeps [t.er, t.er] = _; simp only [Tm.deeps, er_deep]; omega
  refine cE_is ?_ hs
  unfold errR
  rw [if_neg, if_neg (by omega)]
  unfold fullB
  simp only [Bool.or_eq_true, decide_eq_true_eq, not_or, Nat.not_lt]
  exact ⟨by omega, by omega⟩
theorem and_two {D t : Tm} (ho : D.op = 19) (hk : D.ks = [t, t]) (h : cE t = 0) (h' : cE D = 0) : cA D = cA t ∧ cN D = (cA t).length + 2 * hlp t + 1 ∧ cN t = (cA t).length + hlp t ∧
    ∃ (r s : List (List Int)) (x : Int) (d : List (List Int)), cC t = r ++ [[x]] ∧ cC D = r ++ s ++ d ++ [[(cN D : Int)]] ∧ s.length = r.length ∧ d.length = 3 := by
  have hj : jnB D.op = true := by rw [ho]; rfl
  have hn : ¬ D.op = 18 := by omega
  have a1 : ats D [] = ats t [] := by rw [ats_eq, if_pos hj, hk]; exact ats_cov t _ (cov_ats t [])
  have a2 : hlp D = 2 * hlp t + 1 := by rw [hlp_eq, if_pos hj, if_neg hn, hk]; simp only [hlps]; omega
  have e1 : cA D = cA t := by unfold cA; rw [if_pos h, if_pos h', a1]
  have e2 : cA t = ats t [] := by unfold cA; rw [if_pos h]
  have e3 : cN D = (cA t).length + 2 * hlp t + 1 := by unfold cN; rw [if_pos h', a1, a2, e2]; omega
  refine ⟨e1, e3, by unfold cN; rw [if_pos h, e2], ?_⟩
  have e4 : lit (ats t []) D (ats t []).length = ((cN D : Nat) : Int) := by
    rw [lit_eq, if_pos hj, if_neg hn, hk, e3, e2]; simp only [hlps]; congr 1; omega
  unfold cC
  rw [if_pos h, if_pos h', a1, e4, cls_eq _ D, if_pos hj, if_neg hn, hk]
  simp only [clss, List.append_nil]
  exact ⟨_, _, _, _, rfl, rfl, by rw [cls_len, cls_len], by rw [cdef_len, lits_len]; rfl⟩

mutual
/-- the atoms of a term, as often as they stand in it -/
def aos : Tm → List Tm
  | .node op nm n a c ks => if jnB op then aoss ks else [.node op nm n a c ks]
def aoss : List Tm → List Tm
  | [] => []
  | t :: ts => aos t ++ aoss ts
end
theorem aos_eq (t : Tm) : aos t = if jnB t.op then aoss t.ks else [t] := by
  cases t; rw [aos]; rfl
theorem aoss_mem {x : Tm} : ∀ {ks : List Tm}, x ∈ aoss ks ↔ ∃ k ∈ ks, x ∈ aos k
  | [] => by simp [aoss]
  | k :: ks => by simp [aoss, aoss_mem (ks := ks)]
theorem aos_atom : ∀ t : Tm, t.srt = 4 → ∀ a ∈ aos t, a.srt = 4 ∧ jnB a.op = false ∧ a.size ≤ t.size ∧ a.deep ≤ t.deep := by
  have kid : ∀ (t : Tm), ∀ k ∈ t.ks, k.size ≤ t.size ∧ k.deep ≤ t.deep := by
    intro t k hk
    have h1 := Tm.size_eq t
    have h2 := Tm.deep_eq t
    have : ∀ l : List Tm, k ∈ l → k.size ≤ Tm.sizes l ∧ k.deep ≤ Tm.deeps l := by
      intro l
      induction l with
      | nil => intro h; simp at h
      | cons a l ih =>
        intro h
        simp only [Tm.sizes, Tm.deeps]
        rcases List.mem_cons.1 h with rfl | h
        · exact ⟨by omega, by omega⟩
        · have := ih h; exact ⟨by omega, by omega⟩
    have := this t.ks hk
    exact ⟨by omega, by omega⟩
  refine cnf_ind (fun t h hj a ha => ?_) (fun t u h ho hk hu ih a ha => ?_) (fun t h hj hn _ _ _ hks ih a ha => ?_)
  · rw [aos_eq, if_neg (by rw [hj]; simp)] at ha
    rw [List.mem_singleton] at ha
    subst ha
    exact ⟨h, hj, Nat.le_refl _, Nat.le_refl _⟩
  · rw [aos_eq, if_pos (by rw [ho]; rfl), hk] at ha
    simp only [aoss, List.append_nil] at ha
    obtain ⟨h1, h2, h3, h4⟩ := ih a ha
    obtain ⟨h5, h6⟩ := kid t u (by rw [hk]; simp)
    exact ⟨h1, h2, by omega, by omega⟩
  · rw [aos_eq, if_pos hj, aoss_mem] at ha
    obtain ⟨k, hk, ha⟩ := ha
    obtain ⟨h1, h2, h3, h4⟩ := ih k hk a ha
    obtain ⟨h5, h6⟩ := kid t k hk
    exact ⟨h1, h2, by omega, by omega⟩
theorem ats_from : ∀ (t : Tm) (l : List Tm), ∀ x ∈ ats t l, x ∈ l ∨ ∃ a ∈ aos t, x = a.er := by
  intro t
  induction t using Tm.ind with
  | h t ih =>
    intro l x hx
    have hs : ∀ (ks l : List Tm), (∀ k ∈ ks, ∀ l : List Tm, ∀ x ∈ ats k l, x ∈ l ∨ ∃ a ∈ aos k, x = a.er) → ∀ x ∈ atss ks l, x ∈ l ∨ ∃ a ∈ aoss ks, x = a.er := by
      intro ks
      induction ks with
      | nil => intro l _ x hx; exact .inl hx
      | cons a ks ihl =>
        intro l h x hx
        simp only [atss] at hx
        rcases ihl _ (fun k hk => h k (by simp [hk])) x hx with h1 | ⟨b, hb, rfl⟩
        · rcases h a (by simp) l x h1 with h2 | ⟨b, hb, rfl⟩
          · exact .inl h2
          · exact .inr ⟨b, by simp [aoss, hb], rfl⟩
        · exact .inr ⟨b, by simp [aoss, hb], rfl⟩
    rw [ats_eq] at hx
    rw [aos_eq]
    split at hx
    · rename_i hj
      rw [if_pos hj]
      exact hs t.ks l ih x hx
    · rename_i hj
      rw [if_neg hj]
      split at hx
      · exact .inl hx
      · rcases List.mem_append.1 hx with hx | hx
        · exact .inl hx
        · rw [List.mem_singleton] at hx
          exact .inr ⟨t, by simp, hx⟩
/-- no two are the same -/
def Dis (l : List Tm) : Prop := ∀ i (h : i < l.length), fnd l l[i] = i
theorem Dis.add {l : List Tm} (h : Dis l) {t : Tm} (hn : has l t = false) : Dis (l ++ [t.er]) := by
  intro i hi
  by_cases hl : i < l.length
  · rw [List.getElem_append_left hl]
    have h1 : fnd l l[i] = i := h i hl
    have h2 : has l l[i] = true := by rw [has_iff, h1]; exact hl
    rw [fnd_append _ h2, h1]
  · have : i = l.length := by simp at hi; omega
    subst this
    rw [List.getElem_append_right (by omega)]
    simp only [Nat.sub_self, List.getElem_cons_zero]
    rw [fnd_er _ (er_er t)]
    have h3 : ¬ fnd l t < l.length := by rw [← has_iff, hn]; simp
    unfold fnd at h3
    unfold fnd
    rw [List.findIdx_append, if_neg h3]
    have : eqT t.er t = true := by rw [eqT_iff, er_er]
    simp [List.findIdx_cons, this]
theorem ats_dis : ∀ (t : Tm) (l : List Tm), Dis l → Dis (ats t l) := by
  intro t
  induction t using Tm.ind with
  | h t ih =>
    intro l hl
    have hs : ∀ (ks l : List Tm), (∀ k ∈ ks, ∀ l : List Tm, Dis l → Dis (ats k l)) → Dis l → Dis (atss ks l) := by
      intro ks
      induction ks with
      | nil => intro l _ h; exact h
      | cons a ks ihl => intro l h hl; exact ihl _ (fun k hk => h k (by simp [hk])) (h a (by simp) l hl)
    rw [ats_eq]
    split
    · exact hs t.ks l ih hl
    · split
      · exact hl
      · rename_i h2
        exact hl.add (by simpa using h2)
/-- a variable stands in some clause -/
def Occ (v : Nat) (cs : List (List Int)) : Prop := ∃ c ∈ cs, ∃ x ∈ c, x.natAbs = v
theorem Occ.left {v : Nat} {a : List (List Int)} (h : Occ v a) (b : List (List Int)) : Occ v (a ++ b) := by
  obtain ⟨c, hc, h⟩ := h
  exact ⟨c, by simp [hc], h⟩
theorem Occ.right {v : Nat} {b : List (List Int)} (a : List (List Int)) (h : Occ v b) : Occ v (a ++ b) := by
  obtain ⟨c, hc, h⟩ := h
  exact ⟨c, by simp [hc], h⟩
theorem cdef_occ {op h x : Int} {ls : List Int} (hx : x ∈ ls) : Occ x.natAbs (cdef op h ls) := by
  unfold cdef
  split
  · exact Occ.left ⟨[-h, x], List.mem_map.2 ⟨x, hx, rfl⟩, x, by simp, rfl⟩ _
  · split
    · have : ∃ y ∈ neg0 ls, y.natAbs = x.natAbs := by
        cases ls with
        | nil => simp at hx
        | cons z zs =>
          rcases List.mem_cons.1 hx with rfl | hx
          · exact ⟨-x, by simp [neg0], by omega⟩
          · exact ⟨x, by simp [neg0, hx], rfl⟩
      obtain ⟨y, hy, he⟩ := this
      exact Occ.left ⟨[h, -y], List.mem_map.2 ⟨y, hy, rfl⟩, -y, by simp, by omega⟩ _
    · exact Occ.left ⟨[h, -x], List.mem_map.2 ⟨x, hx, rfl⟩, -x, by simp, by omega⟩ _
theorem occs (L : List Tm) : ∀ (ks : List Tm) (m v : Nat), (∀ k ∈ ks, ∀ m v : Nat, ((m < v ∧ v ≤ m + hlp k) ∨ ∃ a ∈ aos k, v = fnd L a + 1) → (lit L k m).natAbs = v ∨ Occ v (cls L k m)) →
    ((m < v ∧ v ≤ m + hlps ks) ∨ ∃ a ∈ aoss ks, v = fnd L a + 1) → (∃ x ∈ lits L ks m, x.natAbs = v) ∨ Occ v (clss L ks m)
  | [], m, v, _, h => by
    rcases h with ⟨h1, h2⟩ | ⟨a, ha, -⟩
    · simp only [hlps] at h2; omega
    · simp [aoss] at ha
  | k :: ks, m, v, hk, h => by
    have go : ((m < v ∧ v ≤ m + hlp k) ∨ ∃ a ∈ aos k, v = fnd L a + 1) ∨ ((m + hlp k < v ∧ v ≤ m + hlp k + hlps ks) ∨ ∃ a ∈ aoss ks, v = fnd L a + 1) := by
      rcases h with ⟨h1, h2⟩ | ⟨a, ha, e⟩
      · simp only [hlps] at h2
        by_cases hv : v ≤ m + hlp k
        · exact .inl (.inl ⟨h1, hv⟩)
        · exact .inr (.inl ⟨by omega, by omega⟩)
      · simp only [aoss, List.mem_append] at ha
        rcases ha with ha | ha
        · exact .inl (.inr ⟨a, ha, e⟩)
        · exact .inr (.inr ⟨a, ha, e⟩)
    simp only [lits, clss]
    rcases go with g | g
    · rcases hk k (by simp) m v g with e | e
      · exact .inl ⟨_, by simp, e⟩
      · exact .inr (e.left _)
    · rcases occs L ks (m + hlp k) v (fun q hq => hk q (by simp [hq])) g with ⟨x, hx, e⟩ | e
      · exact .inl ⟨x, by simp [hx], e⟩
      · exact .inr (Occ.right _ e)
theorem occ_any (L : List Tm) : ∀ t : Tm, t.srt = 4 → ∀ m v : Nat, ((m < v ∧ v ≤ m + hlp t) ∨ ∃ a ∈ aos t, v = fnd L a + 1) → (lit L t m).natAbs = v ∨ Occ v (cls L t m) := by
  refine cnf_ind (fun t h hj m v hv => ?_) (fun t u h ho hk hu ih m v hv => ?_) (fun t h hj hn _ _ _ hks ih m v hv => ?_)
  · rw [hlp_eq, if_neg (by rw [hj]; simp), aos_eq, if_neg (by rw [hj]; simp)] at hv
    rw [lit_eq, if_neg (by rw [hj]; simp)]
    rcases hv with ⟨h1, h2⟩ | ⟨a, ha, e⟩
    · omega
    · rw [List.mem_singleton] at ha
      subst ha
      left; omega
  · obtain ⟨-, a2, a3, a4, -⟩ := not_all ho hk
    rw [a2, aos_eq, if_pos (by rw [ho]; rfl), hk] at hv
    simp only [aoss, List.append_nil] at hv
    rw [a3, a4]
    rcases ih m v hv with e | e
    · left; omega
    · exact .inr e
  · rw [hlp_eq, if_pos hj, if_neg hn, aos_eq, if_pos hj] at hv
    rw [lit_eq, if_pos hj, if_neg hn, cls_eq, if_pos hj, if_neg hn]
    by_cases hh : v = m + hlps t.ks + 1
    · left; omega
    · right
      have hv' : (m < v ∧ v ≤ m + hlps t.ks) ∨ ∃ a ∈ aoss t.ks, v = fnd L a + 1 := by
        rcases hv with ⟨h1, h2⟩ | h
        · exact .inl ⟨h1, by omega⟩
        · exact .inr h
      rcases occs L t.ks m v ih hv' with ⟨x, hx, rfl⟩ | e
      · exact Occ.right _ (cdef_occ hx)
      · exact e.left _
theorem cC_occ {t : Tm} (h : cE t = 0) : ∀ v, 1 ≤ v → v ≤ cN t → Occ v (cC t) := by
  intro v h1 h2
  have hs := (cE_zero h).2
  unfold cN at h2
  rw [if_pos h] at h2
  unfold cC
  rw [if_pos h]
  have := occ_any (ats t []) t hs (ats t []).length v (by
    by_cases hv : (ats t []).length < v
    · exact .inl ⟨hv, h2⟩
    · right
      have hi : v - 1 < (ats t []).length := by omega
      rcases ats_from t [] (ats t [])[v - 1] (List.getElem_mem _) with h3 | ⟨a, ha, e⟩
      · simp at h3
      · refine ⟨a, ha, ?_⟩
        have h4 := ats_dis t [] (by intro i hi; simp at hi) (v - 1) hi
        rw [e, fnd_er _ (er_er a)] at h4
        omega)
  rcases this with e | e
  · exact Occ.right _ ⟨[lit (ats t []) t (ats t []).length], by simp, _, by simp, e⟩
  · exact e.left _
theorem cA_atom {t : Tm} (h : cE t = 0) : ∀ x ∈ cA t, x.srt = 4 ∧ jnB x.op = false ∧ errR x = 0 := by
  intro x hx
  unfold cA at hx
  rw [if_pos h] at hx
  obtain ⟨h1, h2, h3⟩ := cE_small h
  rcases ats_from t [] x hx with h4 | ⟨a, ha, rfl⟩
  · simp at h4
  · obtain ⟨a1, a2, a3, a4⟩ := aos_atom t h3 a ha
    refine ⟨by rw [er_srt]; exact a1, by rw [(er_op a).1]; exact a2, ?_⟩
    rw [er_errR]
    unfold errR
    rw [if_neg, if_neg (by omega)]
    unfold fullB
    simp only [Bool.or_eq_true, decide_eq_true_eq, not_or, Nat.not_lt]
    exact ⟨by omega, by omega⟩
theorem cA_dis (t : Tm) : Dis (cA t) := by
  unfold cA
  split
  · exact ats_dis t [] (by intro i hi; simp at hi)
  · intro i hi; simp at hi
end Go.Proofs.YtaiachmolkjedaaDoor
