/-
  What a term is in a world does not hang on its places.
-/
import Derived.Test.YtlobffjgkhcjbaaDoorNmE
import Derived.Test.YtlobffjgkhcjbaaDoorEvD
namespace Go.Proofs.YtlobffjgkhcjbaaDoor
open Go.RowKit

theorem er_ev (W : Wd) (t : Tm) : ev W t.er = ev W t := by
  induction t using Tm.ind with
  | h t ih =>
    have hs : ∀ ks : List Tm, (∀ k ∈ ks, ev W k.er = ev W k) → evs W (ks.map Tm.er) = evs W ks := by
      intro ks
      induction ks with
      | nil => intro _; rfl
      | cons k ks ihk =>
        intro h
        simp only [List.map_cons, evs]
        rw [h k (by simp), ihk (fun q hq => h q (by simp [hq]))]
    obtain ⟨h1, h2, h3, h4⟩ := er_op t
    rw [ev_eq, ev_eq W t, h1, h2, h3, h4, hs t.ks ih]
end Go.Proofs.YtlobffjgkhcjbaaDoor
