/-
  The contracts of package num's 'attempt' at rats, and of the calls on rats: Make, Plus, Minus, Times, Over.
-/
import Derived.Test.YtkgaoafcjhjefaaNumK
namespace Go.Proofs.Ytkgaoafcjhjefaa
open Go.RowKit Go.Shelf

set_option maxHeartbeats 400000 in
theorem catchR_panicking (bp bq : Nat) (x y : Int) (z : Bool) (u : TypeId) (pv : Value) (older : List PanicEntry) (w : World) (h : Two w bp (.int .i64 x) (.int .i64 y)) (h' : Single w bq (.bool z)) (_hne : bp ≠ bq) :
    CallsD Try.prog 79 #[.pointer (some ⟨bp, 0, none⟩), .pointer (some ⟨bq, 0, none⟩)] (.panicking ({ v := .iface u pv, recovered := false } :: older)) w fun e u' w' =>
      e = .returned (.tuple #[]) ∧ u' = .panicking ({ v := .iface u pv, recovered := true } :: older) ∧ ∃ o, w' = (((w.alloc o).setCell ⟨bp, 0, none⟩ (.int .i64 0)).setCell ⟨bp, 1, none⟩ (.int .i64 0)).setCell ⟨bq, 0, none⟩ (.bool false) := by
  obtain ⟨c0, c1, f0, f1⟩ := h
  obtain ⟨c2, f2⟩ := h'
  refine callsD_of_wpS Try.func79 rfl fun c₀ cs hu => ?_
  apply wpS_seq
  apply wpS_region
  simp [wpOpsS, go_sem, recoverD, hu, Try.ntmps79, Exit.thenS]
  refine wpS_cond (t := true) (by simp [Act.eval, Array.replicate]) ?_
  simp only [if_true]
  have A0 : ∀ o, (w.alloc o).cell? ⟨bp, 0, none⟩ = some (.int .i64 x) := fun o => cell_later (bal (Below.refl _ _) o) c0
  have A1 : ∀ o, (w.alloc o).cell? ⟨bp, 1, none⟩ = some (.int .i64 y) := fun o => cell_later (bal (Below.refl _ _) o) c1
  have A2 : ∀ o, (w.alloc o).cell? ⟨bq, 0, none⟩ = some (.bool z) := fun o => cell_later (bal (Below.refl _ _) o) c2
  have F0 : ∀ o, (w.alloc o).frozen? ⟨bp, 0, none⟩ = false := fun o => frozen_later (bal (Below.refl _ _) o) c0 f0
  have F1 : ∀ o, (w.alloc o).frozen? ⟨bp, 1, none⟩ = false := fun o => frozen_later (bal (Below.refl _ _) o) c1 f1
  have F2 : ∀ o, (w.alloc o).frozen? ⟨bq, 0, none⟩ = false := fun o => frozen_later (bal (Below.refl _ _) o) c2 f2
  apply wpS_seq
  apply wpS_region
  simp [wpOpsS, go_sem, Exit.thenS]
  apply wpS_region
  simp [wpOpsS, go_sem, A0, A1, A2, F0, F1, F2, bodyPostS, results, Try.results79]
  exact ⟨_, rfl⟩
set_option maxHeartbeats 400000 in
theorem catchR_idle (p q : Addr) (w : World) :
    CallsD Try.prog 79 #[.pointer (some p), .pointer (some q)] .returning w fun e u' w' =>
      e = .returned (.tuple #[]) ∧ u' = .returning ∧ w' = w := by
  refine callsD_of_wpS Try.func79 rfl fun c₀ cs hu => ?_
  apply wpS_seq
  apply wpS_region
  simp [wpOpsS, go_sem, recoverD, hu, Try.ntmps79, Exit.thenS]
  refine wpS_cond (t := false) (by simp [Act.eval, Array.replicate]) ?_
  simp only [Bool.false_eq_true, if_false]
  refine wpS_of_wp (wp_skip ?_)
  cases c₀
  simp_all [bodyPostS, results, Try.results79]

set_option maxHeartbeats 400000 in
theorem attemptR_any (K : Nat) (p q : Addr) (c : Bool) (n m : Int) (w : World)
    (henter : ∀ args w, (callFunc K args).run Try.prog w = .ok (.enter K args) w)
    (h : ∀ w1, Below w.heap.size w w1 → Calls Try.prog K #[.pointer (some p), .pointer (some q)] w1 (Out c (.agg #[.int .i64 n, .int .i64 m]) w1)) :
    Calls Try.prog 61 #[.func (.func K) #[] #[.pointer (some p), .pointer (some q)]] w fun e w' =>
      e = .returned (.tuple #[.agg #[.int .i64 (tc c n), .int .i64 (tc c m)], .bool c]) ∧ Below w.heap.size w w' := by
  have hmf : ∀ (fn : Fn) (first cap : Array Value) (w : World), (Instr.makeFunc fn first cap).run Try.prog w = .ok (.func fn first cap) w := fun _ _ _ _ => rfl
  have H := mkHid h; clear h
  go_enter_defers Try.func61, Try.ntmps61
  go_wp2_with fail
  refine (H.out _ (bal (bal (Below.refl _ _) _) _)).mono ?_
  rintro e w1 (⟨rfl, rfl, hb1⟩ | ⟨rfl, ⟨v, rfl⟩, hb1⟩)
  · obtain ⟨c0, c1, f0, f1⟩ : Two w1 w.heap.size (.int .i64 0) (.int .i64 0) := Two.later hb1 (by simp [Two, go_sem])
    obtain ⟨c2, f2⟩ : Single w1 (w.heap.size + 1) (.bool false) := Single.later hb1 (by simp [Single, go_sem])
    go_wp2_with fail
    refine leaves_cons (f := 79) (args := #[.pointer (some ⟨w.heap.size, 0, none⟩), .pointer (some ⟨w.heap.size + 1, 0, none⟩)]) (by simp) (by simp [go_sem]) ?_
    refine (catchR_idle ⟨w.heap.size, 0, none⟩ ⟨w.heap.size + 1, 0, none⟩ _).mono ?_
    rintro e u' w'' ⟨rfl, rfl, rfl⟩
    simp [Leaves, settle, results, Try.results61, go_sem, c0, c1, c2, tc]
    exact bset (bset (bset (bon (bal (bal (Below.refl _ _) _) _) hb1) (by simp) _) (by simp) _) (by simp) _
  · have t0 : Two w1 w.heap.size (.int .i64 0) (.int .i64 0) := Two.later hb1 (by simp [Two, go_sem])
    have t1 : Single w1 (w.heap.size + 1) (.bool false) := Single.later hb1 (by simp [Single, go_sem])
    show bodyPostD _ _ _ _ _ _
    refine leaves_cons (f := 79) (args := #[.pointer (some ⟨w.heap.size, 0, none⟩), .pointer (some ⟨w.heap.size + 1, 0, none⟩)]) (by simp) (by simp [go_sem]) ?_
    refine (catchR_panicking w.heap.size (w.heap.size + 1) 0 0 false 9 v [] _ t0 t1 (by omega)).mono ?_
    rintro e u' w'' ⟨rfl, rfl, o, rfl⟩
    have A0 := cell_later (bal (Below.refl w1.heap.size w1) o) t0.1
    have A1 := cell_later (bal (Below.refl w1.heap.size w1) o) t0.2.1
    have A2 := cell_later (bal (Below.refl w1.heap.size w1) o) t1.1
    simp [Leaves, settle, results, Try.results61, go_sem, A0, A1, A2, tc]
    exact bset (bset (bset (bal (bon (bal (bal (Below.refl _ _) _) _) hb1) _) (by simp) _) (by simp) _) (by simp) _
end Go.Proofs.Ytkgaoafcjhjefaa
