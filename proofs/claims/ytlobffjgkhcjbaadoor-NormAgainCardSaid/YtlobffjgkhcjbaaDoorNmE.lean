/-
  Plain facts of terms without places: sizes, sorts, names, values.
-/
import Derived.Test.YtlobffjgkhcjbaaDoorSbA
import Derived.Test.YtlobffjgkhcjbaaDoorEvM
import Derived.Test.YtlobffjgkhcjbaaDoorEvP
namespace Go.Proofs.YtlobffjgkhcjbaaDoor
open Go.RowKit Go.Shelf

theorem er_op (t : Tm) : t.er.op = t.op ∧ t.er.nm = t.nm ∧ t.er.n = t.n ∧ t.er.ks = t.ks.map Tm.er := by rw [er_eq]; exact ⟨rfl, rfl, rfl, rfl⟩
theorem er_size (t : Tm) : t.er.size = t.size := by
  induction t using Tm.ind with
  | h t ih =>
    have hs : ∀ ks : List Tm, (∀ k ∈ ks, k.er.size = k.size) → Tm.sizes (ks.map Tm.er) = Tm.sizes ks := by
      intro ks
      induction ks with
      | nil => intro _; rfl
      | cons k ks ihk =>
        intro h
        simp only [List.map_cons, Tm.sizes]
        rw [h k (by simp), ihk (fun q hq => h q (by simp [hq]))]
    rw [Tm.size_eq, (er_op t).2.2.2, hs t.ks ih, ← Tm.size_eq]
theorem er_deep (t : Tm) : t.er.deep = t.deep := by
  induction t using Tm.ind with
  | h t ih =>
    have hs : ∀ ks : List Tm, (∀ k ∈ ks, k.er.deep = k.deep) → Tm.deeps (ks.map Tm.er) = Tm.deeps ks := by
      intro ks
      induction ks with
      | nil => intro _; rfl
      | cons k ks ihk =>
        intro h
        simp only [List.map_cons, Tm.deeps]
        rw [h k (by simp), ihk (fun q hq => h q (by simp [hq]))]
    rw [Tm.deep_eq, (er_op t).2.2.2, hs t.ks ih, ← Tm.deep_eq]
theorem er_srt (t : Tm) : t.er.srt = t.srt := by
  induction t using Tm.ind with
  | h t ih =>
    obtain ⟨h1, h2, h3, h4⟩ := er_op t
    rw [srt_eq, srt_eq t, h1, h2, h3, h4, List.map_map]
    congr 1
    exact List.map_congr_left (fun k hk => ih k hk)
theorem er_errR (t : Tm) : errR t.er = errR t := by unfold errR fullB; rw [er_size, er_deep, er_srt]
theorem er_vars (t : Tm) : t.er.vars = t.vars := by
  induction t using Tm.ind with
  | h t ih =>
    have hs : ∀ ks : List Tm, (∀ k ∈ ks, k.er.vars = k.vars) → Tm.varss (ks.map Tm.er) = Tm.varss ks := by
      intro ks
      induction ks with
      | nil => intro _; rfl
      | cons k ks ihk =>
        intro h
        simp only [List.map_cons, Tm.varss]
        rw [h k (by simp), ihk (fun q hq => h q (by simp [hq]))]
    obtain ⟨h1, h2, -, h4⟩ := er_op t
    rw [vars_eq, vars_eq t, h1, h2, h4, hs t.ks ih]
theorem er_ev (W : Wd) (t : Tm) : ev W t.er = ev W t := by
  induction t using Tm.ind with
  | h t ih =>
    have hs : ∀ ks : List Tm, (∀ k ∈ ks, ev W k.er = ev W k) → evs W (ks.map Tm.er) = evs W ks := by
      intro ks
      induction ks with
      | nil => intro _; rfl
      | cons k ks ihk =>
        intro h
        simp only [List.map_cons, evs]
        rw [h k (by simp), ihk (fun q hq => h q (by simp [hq]))]
    obtain ⟨h1, h2, h3, h4⟩ := er_op t
    rw [ev_eq, ev_eq W t, h1, h2, h3, h4, hs t.ks ih]
theorem er_er (t : Tm) : t.er.er = t.er := by
  induction t using Tm.ind with
  | h q ihq =>
    obtain ⟨q1, q2, q3, q4⟩ := er_op q
    rw [er_eq q.er, q1, q2, q3, q4, List.map_map]
    conv => rhs; rw [er_eq q]
    congr 1
    exact List.map_congr_left (fun k hk => ihq k hk)
end Go.Proofs.YtlobffjgkhcjbaaDoor
