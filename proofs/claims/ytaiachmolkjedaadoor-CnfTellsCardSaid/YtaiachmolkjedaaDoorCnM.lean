/-
  What clauses of a formula are like: how many there are, and between which bounds their literals are.
-/
import Derived.Test.YtaiachmolkjedaaDoorCnA
namespace Go.Proofs.YtaiachmolkjedaaDoor
open Go.RowKit

/-- induction over right bools: atoms, Not, and those that have a variable of their own -/
theorem cnf_ind {P : Tm → Prop} (hA : ∀ t : Tm, t.srt = 4 → jnB t.op = false → P t) (hN : ∀ t u : Tm, t.srt = 4 → t.op = 18 → t.ks = [u] → u.srt = 4 → P u → P t)
    (hD : ∀ t : Tm, t.srt = 4 → jnB t.op = true → t.op ≠ 18 → (t.op = 16 ∨ t.op = 17 ∨ t.op = 19 ∨ t.op = 20 ∨ t.op = 21) → ((t.op = 16 ∨ t.op = 17) → t.ks = []) → (t.op = 21 → ∃ u v : Tm, t.ks = [u, v]) → (∀ k ∈ t.ks, k.srt = 4) → (∀ k ∈ t.ks, P k) → P t) : ∀ t : Tm, t.srt = 4 → P t := by
  intro t
  induction t using Tm.ind with
  | h t ih =>
    intro h
    have h0 : t.srt ≠ 0 := by omega
    cases hj : jnB t.op with
    | false => exact hA t h hj
    | true =>
      have hj' := hj
      unfold jnB at hj'
      simp only [Bool.and_eq_true, decide_eq_true_eq] at hj'
      have hc : t.op = 16 ∨ t.op = 17 ∨ t.op = 18 ∨ t.op = 19 ∨ t.op = 20 ∨ t.op = 21 := by omega
      rcases hc with e | e | e | e | e | e
      · have hk := (nform0 16 h0 e rfl rfl).1
        exact hD t h hj (by omega) (by omega) (fun _ => hk) (by omega) (by rw [hk]; simp) (by rw [hk]; simp)
      · have hk := (nform0 17 h0 e rfl rfl).1
        exact hD t h hj (by omega) (by omega) (fun _ => hk) (by omega) (by rw [hk]; simp) (by rw [hk]; simp)
      · obtain ⟨u, hk, hu, -⟩ := nform1 18 h0 e rfl rfl
        have hu' : u.srt = 4 := hu
        exact hN t u h e hk hu' (ih u (by rw [hk]; simp) hu')
      · have hk := (nformM 19 h0 e rfl).1
        exact hD t h hj (by omega) (by omega) (by omega) (by omega) hk (fun k hk' => ih k hk' (hk k hk'))
      · have hk := (nformM 20 h0 e rfl).1
        exact hD t h hj (by omega) (by omega) (by omega) (by omega) hk (fun k hk' => ih k hk' (hk k hk'))
      · obtain ⟨u, v, hk, hu, hv, -⟩ := nform2 21 h0 e rfl rfl
        have hu' : u.srt = 4 := hu
        have hv' : v.srt = 4 := hv
        have hall : ∀ k ∈ t.ks, k.srt = 4 := by
          rw [hk]; intro k hk'
          simp only [List.mem_cons, List.not_mem_nil, or_false] at hk'
          rcases hk' with rfl | rfl
          · exact hu'
          · exact hv'
        exact hD t h hj (by omega) (by omega) (by omega) (fun _ => ⟨u, v, hk⟩) hall (fun k hk' => ih k hk' (hall k hk'))

mutual
/-- how many clauses a term takes -/
def jcl : Tm → Nat
  | .node op _ _ _ _ ks => if jnB op then (if op = 18 then 0 else ks.length + 1) + jcls ks else 0
def jcls : List Tm → Nat
  | [] => 0
  | t :: ts => jcl t + jcls ts
end
theorem jcl_eq (t : Tm) : jcl t = if jnB t.op then (if t.op = 18 then 0 else t.ks.length + 1) + jcls t.ks else 0 := by
  cases t; rw [jcl]; rfl
theorem cls_len (L : List Tm) : ∀ (t : Tm) (m : Nat), (cls L t m).length = jcl t := by
  intro t
  induction t using Tm.ind with
  | h t ih =>
    intro m
    have hs : ∀ (ks : List Tm) (m : Nat), (∀ k ∈ ks, ∀ m, (cls L k m).length = jcl k) → (clss L ks m).length = jcls ks := by
      intro ks
      induction ks with
      | nil => intro _ _; rfl
      | cons a l ihl =>
        intro m h
        simp only [clss, jcls, List.length_append]
        rw [h a (by simp), ihl _ (fun k hk => h k (by simp [hk]))]
    rw [cls_eq, jcl_eq]
    split
    · rw [List.length_append, hs t.ks m ih]
      split
      · simp
      · rw [cdef_len, lits_len]; omega
    · rfl
theorem jcls_le : ∀ ks : List Tm, (∀ k ∈ ks, jcl k + 1 ≤ 2 * k.size) → jcls ks + ks.length ≤ 2 * Tm.sizes ks
  | [], _ => by simp [jcls, Tm.sizes]
  | a :: l, h => by
    have h1 := h a (by simp)
    have h2 := jcls_le l (fun k hk => h k (by simp [hk]))
    simp only [jcls, Tm.sizes, List.length_cons]; omega
theorem jcl_le : ∀ t : Tm, jcl t + 1 ≤ 2 * t.size := by
  intro t
  induction t using Tm.ind with
  | h t ih =>
    have := jcls_le t.ks ih
    have h1 := Tm.size_eq t
    rw [jcl_eq]
    split
    · split <;> omega
    · omega
/-- a literal of a variable up to n -/
def lb (x : Int) (n : Nat) : Prop := x ≠ 0 ∧ x.natAbs ≤ n
theorem lb.mono {x : Int} {n n' : Nat} (h : lb x n) (hn : n ≤ n') : lb x n' := ⟨h.1, Nat.le_trans h.2 hn⟩
theorem lb.neg {x : Int} {n : Nat} (h : lb x n) : lb (-x) n := ⟨by have := h.1; omega, by have := h.2; omega⟩
theorem lits_lb (L : List Tm) : ∀ (ks : List Tm) (m : Nat), (∀ k ∈ ks, ∀ m, L.length ≤ m → lb (lit L k m) (m + hlp k)) → L.length ≤ m → ∀ x ∈ lits L ks m, lb x (m + hlps ks)
  | [], _, _, _, x, hx => by simp [lits] at hx
  | a :: l, m, h, hm, x, hx => by
    simp only [lits, List.mem_cons] at hx
    simp only [hlps]
    rcases hx with rfl | hx
    · exact (h a (by simp) m hm).mono (by omega)
    · exact (lits_lb L l (m + hlp a) (fun k hk => h k (by simp [hk])) (by omega) x hx).mono (by omega)
theorem lit_lb {L : List Tm} : ∀ t : Tm, t.srt = 4 → cov L t = true → ∀ m, L.length ≤ m → lb (lit L t m) (m + hlp t) := by
  refine cnf_ind (fun t h hj hc m hm => ?_) (fun t u h ho hk hu ih hc m hm => ?_) (fun t h hj hn _ _ _ _ _ hc m hm => ?_)
  · rw [lit_eq, if_neg (by rw [hj]; simp)]
    rw [cov_eq, if_neg (by rw [hj]; simp), has_iff] at hc
    exact ⟨by omega, by omega⟩
  · have hj : jnB t.op = true := by rw [ho]; rfl
    rw [cov_eq, if_pos hj, hk] at hc
    rw [lit_eq, if_pos hj, if_pos ho, hlp_eq, if_pos hj, if_pos ho, hk]
    simp only [covs, Bool.and_true] at hc
    simp only [lits, List.headD_cons, hlps, Nat.add_zero, Nat.zero_add]
    exact (ih hc m hm).neg
  · rw [lit_eq, if_pos hj, if_neg hn, hlp_eq, if_pos hj, if_neg hn]
    exact ⟨by omega, by omega⟩
theorem cdef_lb {op : Int} {h n : Nat} {ls : List Int} (hh : 1 ≤ h) (hn : h ≤ n) (hl : ∀ x ∈ ls, lb x n) : ∀ c ∈ cdef op (h : Int) ls, ∀ x ∈ c, lb x n := by
  have b1 : lb (h : Int) n := ⟨by omega, by omega⟩
  have b2 := b1.neg
  have hl' : ∀ x ∈ neg0 ls, lb x n := by
    intro x hx
    cases ls with
    | nil => simp [neg0] at hx
    | cons y ys =>
      simp only [neg0, List.mem_cons] at hx
      rcases hx with rfl | hx
      · exact (hl y (by simp)).neg
      · exact hl x (by simp [hx])
  intro c hc x hx
  unfold cdef at hc
  split at hc
  · rcases List.mem_append.1 hc with hc | hc
    · obtain ⟨y, hy, rfl⟩ := List.mem_map.1 hc
      simp only [List.mem_cons, List.not_mem_nil, or_false] at hx
      rcases hx with rfl | rfl
      · exact b2
      · exact hl _ hy
    · rw [List.mem_singleton] at hc
      subst hc
      rcases List.mem_cons.1 hx with rfl | hx
      · exact b1
      · obtain ⟨y, hy, rfl⟩ := List.mem_map.1 hx
        exact (hl y hy).neg
  · split at hc
    · rcases List.mem_append.1 hc with hc | hc
      · obtain ⟨y, hy, rfl⟩ := List.mem_map.1 hc
        simp only [List.mem_cons, List.not_mem_nil, or_false] at hx
        rcases hx with rfl | rfl
        · exact b1
        · exact (hl' _ hy).neg
      · rw [List.mem_singleton] at hc
        subst hc
        rcases List.mem_cons.1 hx with rfl | hx
        · exact b2
        · exact hl' x hx
    · rcases List.mem_append.1 hc with hc | hc
      · obtain ⟨y, hy, rfl⟩ := List.mem_map.1 hc
        simp only [List.mem_cons, List.not_mem_nil, or_false] at hx
        rcases hx with rfl | rfl
        · exact b1
        · exact (hl _ hy).neg
      · rw [List.mem_singleton] at hc
        subst hc
        rcases List.mem_cons.1 hx with rfl | hx
        · exact b2
        · exact hl x hx
theorem clss_lb (L : List Tm) : ∀ (ks : List Tm) (m : Nat), (∀ k ∈ ks, ∀ m, L.length ≤ m → ∀ c ∈ cls L k m, ∀ x ∈ c, lb x (m + hlp k)) → L.length ≤ m → ∀ c ∈ clss L ks m, ∀ x ∈ c, lb x (m + hlps ks)
  | [], _, _, _, c, hc, _, _ => by simp [clss] at hc
  | a :: l, m, h, hm, c, hc, x, hx => by
    simp only [clss, List.mem_append] at hc
    simp only [hlps]
    rcases hc with hc | hc
    · exact (h a (by simp) m hm c hc x hx).mono (by omega)
    · exact (clss_lb L l (m + hlp a) (fun k hk => h k (by simp [hk])) (by omega) c hc x hx).mono (by omega)
theorem cls_lb {L : List Tm} : ∀ t : Tm, t.srt = 4 → cov L t = true → ∀ m, L.length ≤ m → ∀ c ∈ cls L t m, ∀ x ∈ c, lb x (m + hlp t) := by
  refine cnf_ind (fun t h hj hc m hm c hc' => ?_) (fun t u h ho hk hu ih hc m hm => ?_) (fun t h hj hn _ _ _ hks ih hc m hm c hc' x hx => ?_)
  · rw [cls_eq, if_neg (by rw [hj]; simp)] at hc'
    simp at hc'
  · have hj : jnB t.op = true := by rw [ho]; rfl
    rw [cov_eq, if_pos hj, hk] at hc
    rw [cls_eq, if_pos hj, if_pos ho, hlp_eq, if_pos hj, if_pos ho, hk]
    simp only [covs, Bool.and_true] at hc
    simp only [clss, hlps, Nat.add_zero, Nat.zero_add, List.append_nil]
    exact ih hc m hm
  · rw [cov_eq, if_pos hj, covs_all] at hc
    rw [cls_eq, if_pos hj, if_neg hn] at hc'
    rw [hlp_eq, if_pos hj, if_neg hn]
    rcases List.mem_append.1 hc' with h1 | h1
    · exact (clss_lb L t.ks m (fun k hk m hm => ih k hk (hc k hk) m hm) hm c h1 x hx).mono (by omega)
    · exact cdef_lb (by omega) (by omega) (fun y hy => (lits_lb L t.ks m (fun k hk m hm => lit_lb k (hks k hk) (hc k hk) m hm) hm y hy).mono (by omega)) c h1 x hx

/-- the error of Clauses, its atoms, variables, clauses -/
def cE (t : Tm) : Nat := if errR t ≠ 0 then errR t else if t.srt ≠ 4 then 3 else 0
def cA (t : Tm) : List Tm := if cE t = 0 then ats t [] else []
def cN (t : Tm) : Nat := if cE t = 0 then (ats t []).length + hlp t else 0
def cC (t : Tm) : List (List Int) := if cE t = 0 then cls (ats t []) t (ats t []).length ++ [[lit (ats t []) t (ats t []).length]] else []
theorem cE_zero {t : Tm} (h : cE t = 0) : errR t = 0 ∧ t.srt = 4 := by
  unfold cE at h
  split at h
  · omega
  · rename_i h1
    split at h
    · omega
    · rename_i h2
      exact ⟨by omega, by omega⟩
theorem cE_is {t : Tm} (h : errR t = 0) (h' : t.srt = 4) : cE t = 0 := by unfold cE; rw [if_neg (by omega), if_neg (by omega)]
theorem errR_okk {t : Tm} (h : errR t = 0) : t.size ≤ 2000 ∧ t.deep ≤ 100 ∧ t.srt ≠ 0 ∧ srtR t = t.srt := by
  unfold errR at h
  split at h
  · omega
  · rename_i hf
    split at h
    · omega
    · rename_i hs
      unfold fullB at hf
      simp only [Bool.or_eq_true, decide_eq_true_eq, not_or, Nat.not_lt] at hf
      refine ⟨hf.1, hf.2, hs, ?_⟩
      unfold srtR fullB
      rw [if_neg]
      simp only [Bool.or_eq_true, decide_eq_true_eq, not_or, Nat.not_lt]
      exact hf
theorem cE_small {t : Tm} (h : cE t = 0) : t.size ≤ 2000 ∧ t.deep ≤ 100 ∧ t.srt = 4 := by
  obtain ⟨h1, h2⟩ := cE_zero h
  have := errR_okk h1
  exact ⟨this.1, this.2.1, h2⟩
theorem cC_lb (t : Tm) : ∀ c ∈ cC t, ∀ x ∈ c, lb x (cN t) := by
  intro c hc x hx
  unfold cC at hc
  unfold cN
  split at hc
  · rename_i h
    rw [if_pos h]
    have hs := (cE_zero h).2
    rcases List.mem_append.1 hc with h1 | h1
    · exact cls_lb t hs (cov_ats t []) _ (Nat.le_refl _) c h1 x hx
    · rw [List.mem_singleton] at h1
      subst h1
      rw [List.mem_singleton] at hx
      subst hx
      exact lit_lb t hs (cov_ats t []) _ (Nat.le_refl _)
  · simp at hc
theorem cC_len {t : Tm} (h : cE t = 0) : (cC t).length = jcl t + 1 := by
  unfold cC; rw [if_pos h, List.length_append, cls_len]; rfl
theorem cN_le (t : Tm) : cN t ≤ 2 * t.size := by
  unfold cN
  split
  · have := ats_le t []
    have h1 := hlp_le t
    simp at this
    omega
  · omega
end Go.Proofs.YtaiachmolkjedaaDoor
