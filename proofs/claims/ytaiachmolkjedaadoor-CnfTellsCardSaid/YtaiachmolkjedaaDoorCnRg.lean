/-
  The document's clauses: all operations.
-/
import Derived.Test.YtaiachmolkjedaaDoorCnRc
import Derived.Test.YtaiachmolkjedaaDoorCnRd
import Derived.Test.YtaiachmolkjedaaDoorCnRe
import Derived.Test.YtaiachmolkjedaaDoorCnRf
namespace Go.Proofs.YtaiachmolkjedaaDoor
open Go.RowKit

/-- what joins bools -/
theorem join_forms {t : Tm} (h : t.srt = 4) : jnB t.op = true → (∀ k ∈ t.ks, k.srt = 4) ∧ ((t.op = 16 ∧ t.ks = []) ∨ (t.op = 17 ∧ t.ks = []) ∨ t.op = 18 ∨ t.op = 19 ∨ t.op = 20 ∨ (t.op = 21 ∧ ∃ u v : Tm, t.ks = [u, v])) := by
  refine cnf_ind (P := fun t => jnB t.op = true → (∀ k ∈ t.ks, k.srt = 4) ∧ ((t.op = 16 ∧ t.ks = []) ∨ (t.op = 17 ∧ t.ks = []) ∨ t.op = 18 ∨ t.op = 19 ∨ t.op = 20 ∨ (t.op = 21 ∧ ∃ u v : Tm, t.ks = [u, v]))) (fun t _ h0 hj => ?_) (fun t u h ho hk hu _ _ => ?_) (fun t h hj hn ho h0 h2 h4 _ _ => ?_) t h
  · rw [h0] at hj; cases hj
  · refine ⟨fun k hk' => ?_, .inr (.inr (.inl ho))⟩
    rw [hk] at hk'
    rw [List.mem_singleton.1 hk']; exact hu
  · refine ⟨h4, ?_⟩
    rcases ho with ho | ho | ho | ho | ho
    · exact .inl ⟨ho, h0 (.inl ho)⟩
    · exact .inr (.inl ⟨ho, h0 (.inr ho)⟩)
    · exact .inr (.inr (.inr (.inl ho)))
    · exact .inr (.inr (.inr (.inr (.inl ho))))
    · exact .inr (.inr (.inr (.inr (.inr ⟨ho, h2 ho⟩))))
set_option maxRecDepth 100000 in
set_option maxHeartbeats 4000000 in
theorem rcls_leaf (L : List Tm) (va : Value) (t : Tm) (m : Nat) (w : World) (hj : jnB t.op = false) : Calls Tryd.prog 68 #[va, t.val, .int .i64 (m : Int)] w (ClsP L t m w) := by
  have B0 := bel_alloc w (boxT t)
  have F1 := box_four w t
  have hW : w.alloc (.cells #[.int .i64 t.op, .string t.nm, .int .i64 t.n, .slice t.a t.ks.length t.c] 24) = w.alloc (boxT t) := rfl
  have CJ := mkHid (rjoins_any t.op (w.alloc (boxT t)))
  rw [hj] at CJ
  have HE : Hid (cls L t m = []) := by
    show _ = _
    rw [cls_eq, if_neg (by rw [hj]; simp)]
  generalize w.alloc (boxT t) = W at *
  obtain ⟨f0, f1, f2, f3⟩ := F1
  simp only [Nat.zero_add] at f1 f2 f3
  unfold Tm.val
  go_enter Tryd.func68, Tryd.ntmps68
  go_wp2_with (go_at_call 89; ((with_reducible refine CJ.out.mono ?_)); rintro e w1 ⟨rfl, hb1⟩)
  go_ret
  exact ⟨_, [], rfl, bon B0 hb1, by rw [HE.out]; exact CRows.nil _ _⟩
/-- the document's clauses -/
theorem rclauses_any (L : List Tm) (va : Value) : ∀ t : Tm, ∀ (m : Nat) (w : World), CIn L va t m w → Calls Tryd.prog 68 #[va, t.val, .int .i64 (m : Int)] w (ClsP L t m w) := by
  intro t
  induction t using Tm.ind with
  | h t ih =>
  intro m w hin
  have hs := hin.srt
  have IH : ∀ (k : Nat) (hk : k < t.ks.length) (w' : World), CIn L va t.ks[k] (m + hlps (t.ks.take k)) w' → Calls Tryd.prog 68 #[va, t.ks[k].val, .int .i64 ((m + hlps (t.ks.take k) : Nat) : Int)] w' (ClsP L t.ks[k] (m + hlps (t.ks.take k)) w') := fun k hk w' h => ih _ (List.getElem_mem hk) _ w' h
  by_cases hj : jnB t.op = true
  · obtain ⟨h4, ho⟩ := join_forms hs hj
    rcases ho with ⟨ho, hk⟩ | ⟨ho, hk⟩ | ho | ho | ho | ⟨ho, hk⟩
    · exact rcls_16 L va t m w hin ho h4 hk IH
    · exact rcls_17 L va t m w hin ho h4 hk IH
    · exact rcls_18 L va t m w hin ho h4 IH
    · exact rcls_19 L va t m w hin ho h4 IH
    · exact rcls_20 L va t m w hin ho h4 IH
    · exact rcls_21 L va t m w hin ho h4 hk IH
  · exact rcls_leaf L va t m w (by simpa using hj)
end Go.Proofs.YtaiachmolkjedaaDoor
