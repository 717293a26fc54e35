/-
  Plain facts of terms without places: sizes, sorts, names; the forms of right terms.
-/
import Derived.Test.YtaibmdikimpooaaDoorSbA
import Derived.Test.YtaibmdikimpooaaDoorTmJ
namespace Go.Proofs.YtaibmdikimpooaaDoor
open Go.RowKit

theorem er_op (t : Tm) : t.er.op = t.op ∧ t.er.nm = t.nm ∧ t.er.n = t.n ∧ t.er.ks = t.ks.map Tm.er := by rw [er_eq]; exact ⟨rfl, rfl, rfl, rfl⟩
theorem er_size (t : Tm) : t.er.size = t.size := by
  induction t using Tm.ind with
  | h t ih =>
    have hs : ∀ ks : List Tm, (∀ k ∈ ks, k.er.size = k.size) → Tm.sizes (ks.map Tm.er) = Tm.sizes ks := by
      intro ks
      induction ks with
      | nil => intro _; rfl
      | cons k ks ihk =>
        intro h
        simp only [List.map_cons, Tm.sizes]
        rw [h k (by simp), ihk (fun q hq => h q (by simp [hq]))]
    rw [Tm.size_eq, (er_op t).2.2.2, hs t.ks ih, ← Tm.size_eq]
theorem er_deep (t : Tm) : t.er.deep = t.deep := by
  induction t using Tm.ind with
  | h t ih =>
    have hs : ∀ ks : List Tm, (∀ k ∈ ks, k.er.deep = k.deep) → Tm.deeps (ks.map Tm.er) = Tm.deeps ks := by
      intro ks
      induction ks with
      | nil => intro _; rfl
      | cons k ks ihk =>
        intro h
        simp only [List.map_cons, Tm.deeps]
        rw [h k (by simp), ihk (fun q hq => h q (by simp [hq]))]
    rw [Tm.deep_eq, (er_op t).2.2.2, hs t.ks ih, ← Tm.deep_eq]
theorem er_srt (t : Tm) : t.er.srt = t.srt := by
  induction t using Tm.ind with
  | h t ih =>
    obtain ⟨h1, h2, h3, h4⟩ := er_op t
    rw [srt_eq, srt_eq t, h1, h2, h3, h4, List.map_map]
    congr 1
    exact List.map_congr_left (fun k hk => ih k hk)
theorem er_errR (t : Tm) : errR t.er = errR t := by unfold errR fullB; rw [er_size, er_deep, er_srt]
theorem er_vars (t : Tm) : t.er.vars = t.vars := by
  induction t using Tm.ind with
  | h t ih =>
    have hs : ∀ ks : List Tm, (∀ k ∈ ks, k.er.vars = k.vars) → Tm.varss (ks.map Tm.er) = Tm.varss ks := by
      intro ks
      induction ks with
      | nil => intro _; rfl
      | cons k ks ihk =>
        intro h
        simp only [List.map_cons, Tm.varss]
        rw [h k (by simp), ihk (fun q hq => h q (by simp [hq]))]
    obtain ⟨h1, h2, -, h4⟩ := er_op t
    rw [vars_eq, vars_eq t, h1, h2, h4, hs t.ks ih]
theorem er_er (t : Tm) : t.er.er = t.er := by
  induction t using Tm.ind with
  | h q ihq =>
    obtain ⟨q1, q2, q3, q4⟩ := er_op q
    rw [er_eq q.er, q1, q2, q3, q4, List.map_map]
    conv => rhs; rw [er_eq q]
    congr 1
    exact List.map_congr_left (fun k hk => ihq k hk)
theorem nsrt_form {t : Tm} (h : t.srt ≠ 0) : ∃ j : Nat, t.op = (j : Int) ∧ 1 ≤ j ∧ j ≤ 28 ∧ t.srt = (shRow j).sort ∧ ((shRow j).many = true ∨ t.ks.length = (shRow j).count) ∧ ∀ i (hi : i < t.ks.length), t.ks[i].srt = (shRow j).want i := by
  rw [srt_eq] at h
  have h0 := h
  unfold sortOf at h
  split at h
  · rename_i ho
    have e : t.op = ((t.op.toNat : Nat) : Int) := by omega
    split at h
    · rename_i hb
      refine ⟨t.op.toNat, e, by omega, by omega, ?_, ?_, ?_⟩
      · rw [srt_eq]
        unfold sortOf
        rw [if_pos ho, if_pos hb]
      · simp only [Bool.and_eq_true, holdsB, Bool.or_eq_true, decide_eq_true_eq] at hb
        simpa using hb.2.1
      · intro i hi
        simp only [Bool.and_eq_true, holdsB, List.all_eq_true, List.mem_range, decide_eq_true_eq] at hb
        have := hb.2.2 i (by simpa using hi)
        simpa [List.getD, hi] using this
    · exact absurd rfl h
  · exact absurd rfl h
theorem nlen0 {α : Type} {l : List α} (h : l.length = 0) : l = [] := List.eq_nil_of_length_eq_zero h
theorem nlen1 {α : Type} {l : List α} (h : l.length = 1) : ∃ a, l = [a] := by
  match l, h with
  | [a], _ => exact ⟨a, rfl⟩
theorem nlen2 {α : Type} {l : List α} (h : l.length = 2) : ∃ a b, l = [a, b] := by
  match l, h with
  | [a, b], _ => exact ⟨a, b, rfl⟩
theorem nform0 {t : Tm} (j : Nat) (h : t.srt ≠ 0) (ho : t.op = (j : Int)) (hm : (shRow j).many = false) (hc : (shRow j).count = 0) : t.ks = [] ∧ t.srt = (shRow j).sort := by
  obtain ⟨i, h1, -, -, h4, h5, -⟩ := nsrt_form h
  obtain rfl : i = j := by omega
  rw [hm, hc] at h5
  exact ⟨nlen0 (by simpa using h5), h4⟩
theorem nform1 {t : Tm} (j : Nat) (h : t.srt ≠ 0) (ho : t.op = (j : Int)) (hm : (shRow j).many = false) (hc : (shRow j).count = 1) : ∃ k0, t.ks = [k0] ∧ k0.srt = (shRow j).p0 ∧ t.srt = (shRow j).sort := by
  obtain ⟨i, h1, -, -, h4, h5, h6⟩ := nsrt_form h
  obtain rfl : i = j := by omega
  rw [hm, hc] at h5
  have hl : t.ks.length = 1 := by simpa using h5
  obtain ⟨a, ha⟩ := nlen1 hl
  refine ⟨a, ha, ?_, h4⟩
  have := h6 0 (by omega)
  simp only [ha, List.getElem_cons_zero] at this
  rw [this]; unfold Sh.want; rw [hm]; rfl
theorem nform2 {t : Tm} (j : Nat) (h : t.srt ≠ 0) (ho : t.op = (j : Int)) (hm : (shRow j).many = false) (hc : (shRow j).count = 2) : ∃ k0 k1, t.ks = [k0, k1] ∧ k0.srt = (shRow j).p0 ∧ k1.srt = (shRow j).p1 ∧ t.srt = (shRow j).sort := by
  obtain ⟨i, h1, -, -, h4, h5, h6⟩ := nsrt_form h
  obtain rfl : i = j := by omega
  rw [hm, hc] at h5
  have hl : t.ks.length = 2 := by simpa using h5
  obtain ⟨a, b, ha⟩ := nlen2 hl
  refine ⟨a, b, ha, ?_, ?_, h4⟩
  · have := h6 0 (by omega)
    simp only [ha, List.getElem_cons_zero] at this
    rw [this]; unfold Sh.want; rw [hm]; rfl
  · have := h6 1 (by omega)
    simp only [ha, List.getElem_cons_succ, List.getElem_cons_zero] at this
    rw [this]; unfold Sh.want; rw [hm]; rfl
theorem nformM {t : Tm} (j : Nat) (h : t.srt ≠ 0) (ho : t.op = (j : Int)) (hm : (shRow j).many = true) : (∀ k ∈ t.ks, k.srt = (shRow j).p0) ∧ t.srt = (shRow j).sort := by
  obtain ⟨i, h1, -, -, h4, -, h6⟩ := nsrt_form h
  obtain rfl : i = j := by omega
  refine ⟨fun k hk => ?_, h4⟩
  obtain ⟨i, hi, rfl⟩ := List.mem_iff_getElem.1 hk
  rw [h6 i hi]; unfold Sh.want; rw [hm]; rfl
theorem nvarss_mem {x : ByteArray × Int} : ∀ {ks : List Tm}, x ∈ Tm.varss ks ↔ ∃ k ∈ ks, x ∈ k.vars
  | [] => by simp [Tm.varss]
  | k :: ks => by simp [Tm.varss, nvarss_mem (ks := ks)]
end Go.Proofs.YtaibmdikimpooaaDoor
