/-
  The contract of the statements' 'rats'.
-/
import Derived.Test.YtkgaoafcjhjefaaNumP
import Derived.BigRegion
namespace Go.Proofs.Ytkgaoafcjhjefaa
open Go.RowKit Go.Shelf

set_option maxHeartbeats 4000000 in
set_option maxRecDepth 100000 in
theorem rats_core (p q r s P Q R S : Int) (c d : Bool) (w : World)
    (M1 : Hid (∀ w, Calls Try.prog 26 #[.int .i64 p, .int .i64 q] w fun e w' => e = .returned (.tuple #[.agg #[.int .i64 P, .int .i64 Q], .bool c]) ∧ Below w.heap.size w w'))
    (M2 : Hid (∀ w, Calls Try.prog 26 #[.int .i64 r, .int .i64 s] w fun e w' => e = .returned (.tuple #[.agg #[.int .i64 R, .int .i64 S], .bool d]) ∧ Below w.heap.size w w')) :
    Calls Try.prog 29 #[.int .i64 p, .int .i64 q, .int .i64 r, .int .i64 s] w fun e w' => e = .returned (.tuple #[.agg #[.int .i64 P, .int .i64 Q], .agg #[.int .i64 R, .int .i64 S], .bool (c && d)]) ∧ Below w.heap.size w w' := by
  cases c
  all_goals
    go_enter Try.func29, Try.ntmps29
    go_wp2_with fail
    refine (M1.out _).mono ?_; rintro e w1 ⟨rfl, hb1⟩
    go_wp2_with fail
    refine (M2.out _).mono ?_; rintro e w2 ⟨rfl, hb2⟩
    have t0 : Two w2 w.heap.size (.int .i64 0) (.int .i64 0) := Two.later hb2 (Two.later (bal (Below.refl _ _) _) (Two.later hb1 (by simp [Two, go_sem])))
    have t1 : Two w2 (w.heap.size + 1) (.int .i64 0) (.int .i64 0) := Two.later hb2 (Two.later (bal (Below.refl _ _) _) (Two.later hb1 (by simp [Two, go_sem])))
    have t2 : Two w2 w1.heap.size (.int .i64 P) (.int .i64 Q) := Two.later hb2 (by simp [Two, go_sem])
    have z1 := hb1.size; simp at z1
    have z2 := hb2.size; simp at z2
    have A0 : ∀ o, Two (w2.alloc o) w.heap.size (.int .i64 0) (.int .i64 0) := fun o => Two.later (bal (Below.refl _ _) o) t0
    have A1 : ∀ o, Two (w2.alloc o) (w.heap.size + 1) (.int .i64 0) (.int .i64 0) := fun o => Two.later (bal (Below.refl _ _) o) t1
    have A2 : ∀ o, Two (w2.alloc o) w1.heap.size (.int .i64 P) (.int .i64 Q) := fun o => Two.later (bal (Below.refl _ _) o) t2
    clear t0 t1 t2
    simp only [Two] at A0 A1 A2
    go_wp2_with fail
    go_region
    go_wp2
    exact bodyPost_ret (v := .tuple #[.agg #[.int .i64 P, .int .i64 Q], .agg #[.int .i64 R, .int .i64 S], .bool _]) (by simp [results, Try.results29, go_sem, A0, A1]) rfl ⟨rfl, (by repeat (first | exact Below.refl _ _ | (refine bset ?_ (by simp <;> omega) _) | (refine bon ?_ (by assumption)) | refine bdrew ?_ | refine bal ?_ _))⟩
theorem ratsR (p q r s : Int) (w : World) (hp : fitB p = true) (hq : fitB q = true) (hr : fitB r = true) (hs : fitB s = true) :
    Calls Try.prog 29 #[.int .i64 p, .int .i64 q, .int .i64 r, .int .i64 s] w fun e w' => e = .returned (.tuple #[.agg #[.int .i64 (vp (makeO p q)), .int .i64 (vq (makeO p q))], .agg #[.int .i64 (vp (makeO r s)), .int .i64 (vq (makeO r s))], .bool ((makeO p q).isSome && (makeO r s).isSome)]) ∧ Below w.heap.size w w' :=
  rats_core p q r s _ _ _ _ _ _ w (fun w => makeR p q w hp hq) (fun w => makeR r s w hr hs)
end Go.Proofs.Ytkgaoafcjhjefaa
