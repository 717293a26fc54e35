/-
  What EvalLaws does: it returns true, whatever the two terms and the world are.
-/
import Derived.Test.YtlbknhedpjaelaaDoorEvLawS
import Derived.Test.YtlbknhedpjaelaaDoorEvLawB
import Derived.Test.YtlbknhedpjaelaaDoorEvLawI
import Derived.Test.YtlbknhedpjaelaaDoorEvLawN
namespace Go.Proofs.YtlbknhedpjaelaaDoor
open Go.RowKit Go.Shelf

theorem evalR_err {W : Wd} {t : Tm} {k : Int} {w : World} {B : Nat} (hW : WIn w B W) (ht : TIn w B t) (h : evalR W t = .error k) (he : errR t = 0) (hr : rightB W = true) : k ≠ 0 := by
  unfold evalR at h
  rw [if_pos he, if_pos hr] at h
  have := ev_ty (right_rt hr hW) t ht (errR_zero he).2.2.1
  rw [h] at this
  have : k = 4 ∨ k = 5 := this
  omega
theorem evalR_ty {W : Wd} {t : Tm} {v : Vv} {w : World} {B : Nat} (hW : WIn w B W) (ht : TIn w B t) (h : evalR W t = .ok v) (he : errR t = 0) (hr : rightB W = true) : Ty W t.srt v := by
  unfold evalR at h
  rw [if_pos he, if_pos hr] at h
  have := ev_ty (right_rt hr hW) t ht (errR_zero he).2.2.1
  rw [h] at this
  exact this
theorem llaws_any (t u : Tm) (W : Wd) (w : World) (ht : TIn w w.heap.size t) (hu : TIn w w.heap.size u) (hW : WIn w w.heap.size W) (hS : Shps w) :
    Calls Tryd.prog 6 #[t.val, u.val, W.val] w (RetB true w) := by
  by_cases h1 : errR t = 0
  · by_cases h2 : errR u = 0
    · by_cases h3 : srtR t = srtR u
      · cases h4 : rightB W
        · exact laws4 t u W w ht hu hW hS h1 h2 h3 h4
        · by_cases h5 : t.size ≤ 200
          · by_cases h6 : u.size ≤ 200
            · by_cases h7 : t.deep ≤ 80
              · by_cases h8 : u.deep ≤ 80
                · cases hvt : evalR W t with
                  | error k =>
                    refine laws9 t u W w ht hu hW hS h1 h2 h3 h4 h5 h6 h7 h8 k (evalR_err hW ht hvt h1 h4) hvt (fun w' h => ?_)
                    have := eval_any W u w' h.win h.uin h.s
                    cases hvu : evalR W u with
                    | error k2 =>
                      rw [hvu] at this
                      exact this.mono fun e w'' ⟨he, hb⟩ => ⟨_, _, _, _, _, _, k2, he, hb⟩
                    | ok v2 =>
                      rw [hvu] at this
                      exact this.mono fun e w'' ⟨a, c, he, _, hb⟩ => ⟨_, _, _, a, _, c, 0, he, hb⟩
                  | ok v1 =>
                    cases hvu : evalR W u with
                    | error k => exact laws10 t u W w ht hu hW hS h1 h2 h3 h4 h5 h6 h7 h8 v1 hvt k (evalR_err hW hu hvu h2 h4) hvu
                    | ok v2 =>
                      have y1 := evalR_ty hW ht hvt h1 h4
                      have y2 := evalR_ty hW hu hvu h2 h4
                      obtain ⟨-, -, n1, e1⟩ := errR_zero h1
                      obtain ⟨-, -, -, e2⟩ := errR_zero h2
                      have e3 : u.srt = t.srt := by rw [← e2, ← h3, e1]
                      rw [e3] at y2
                      have L : ∀ s, t.srt = s → Lw W s t u := fun s hs => ⟨h4, right_rt h4 hW, hs, by rw [e3]; exact hs, h5, h6, h7, h8⟩
                      have h4' := srt_le t
                      rcases (show t.srt = 1 ∨ t.srt = 2 ∨ t.srt = 3 ∨ t.srt = 4 by omega) with e | e | e | e
                      · rw [e] at y1 y2
                        exact lawsI t u W w ht hu hW hS h1 h2 (L _ e) v1 v2 hvt hvu y1 y2
                      · rw [e] at y1 y2
                        exact lawsS t u W w ht hu hW hS h1 h2 (L _ e) v1 v2 hvt hvu y1 y2
                      · rw [e] at y1 y2
                        exact lawsN t u W w ht hu hW hS h1 h2 (L _ e) v1 v2 hvt hvu y1 y2
                      · rw [e] at y1 y2
                        exact lawsB t u W w ht hu hW hS h1 h2 (L _ e) v1 v2 hvt hvu y1 y2
                · exact laws8 t u W w ht hu hW hS h1 h2 h3 h4 h5 h6 h7 (by omega)
              · exact laws7 t u W w ht hu hW hS h1 h2 h3 h4 h5 h6 (by omega)
            · exact laws6 t u W w ht hu hW hS h1 h2 h3 h4 h5 (by omega)
          · exact laws5 t u W w ht hu hW hS h1 h2 h3 h4 (by omega)
      · exact laws3 t u W w ht hu hW hS h1 h2 h3
    · exact laws2 t u W w ht hu hW hS h1 h2
  · exact laws1 t u W w ht hu hW hS h1
end Go.Proofs.YtlbknhedpjaelaaDoor
