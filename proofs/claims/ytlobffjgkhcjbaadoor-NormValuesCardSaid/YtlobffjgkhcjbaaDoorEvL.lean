/-
  What 'attempt' and 'Eval' of package eval answer.
-/
import Derived.Test.YtlobffjgkhcjbaaDoorEvK
import Derived.Test.YtlobffjgkhcjbaaDoorEvNuD
namespace Go.Proofs.YtlobffjgkhcjbaaDoor
open Go.RowKit Go.Shelf

theorem ta_errno (k : Int) (w : World) : (Instr.typeAssert (.iface 26 (.int .i64 k)) 20 26 true).run Tryd.prog w = .ok (.tuple #[.int .i64 k, .bool true]) w := by kernel_rfl
theorem ta_nil (w : World) : (Instr.typeAssert .nilIface 20 26 true).run Tryd.prog w = .ok (.tuple #[.int .i64 0, .bool false]) w := by kernel_rfl
set_option maxRecDepth 100000 in
set_option maxHeartbeats 400000 in
theorem catchE_panicking (bp bq : Nat) (x0 x1 x2 x3 x4 : Value) (k : Int) (older : List PanicEntry) (w : World) (h : FourV w bp x0 x1 x2 x3) (h' : Single w bq x4) (_hne : bp ≠ bq) :
    Go.CallsD Tryd.prog 98 #[.pointer (some ⟨bp, 0, none⟩), .pointer (some ⟨bq, 0, none⟩)] (.panicking ({ v := .iface 26 (.int .i64 k), recovered := false } :: older)) w fun e u' w' =>
      e = .returned (.tuple #[]) ∧ u' = .panicking ({ v := .iface 26 (.int .i64 k), recovered := true } :: older) ∧ w' = ((((w.setCell ⟨bp, 0, none⟩ (.int .i64 0)).setCell ⟨bp, 1, none⟩ (.int .i64 0)).setCell ⟨bp, 2, none⟩ (.bool false)).setCell ⟨bp, 3, none⟩ (.slice none 0 0)).setCell ⟨bq, 0, none⟩ (.int .i64 k) := by
  obtain ⟨c0, c1, c2, c3, f0, f1, f2, f3⟩ := h
  obtain ⟨c4, f4⟩ := h'
  refine callsD_of_wpS Tryd.func98 rfl fun c₀ cs hu => ?_
  apply wpS_seq
  apply wpS_region
  simp [wpOpsS, go_sem, recoverD, hu, ta_errno, Tryd.ntmps98, Exit.thenS]
  apply wpS_seq
  apply wpS_region
  simp [wpOpsS, go_sem, Exit.thenS]
  refine wpS_cond (t := true) (by simp [Act.eval, Array.replicate]) ?_
  simp only [if_true]
  apply wpS_region
  simp [wpOpsS, go_sem, c0, c1, c2, c3, c4, f0, f1, f2, f3, f4, bodyPostS, results, Tryd.results98]
set_option maxRecDepth 100000 in
set_option maxHeartbeats 400000 in
theorem catchE_idle (p q : Addr) (w : World) :
    Go.CallsD Tryd.prog 98 #[.pointer (some p), .pointer (some q)] .returning w fun e u' w' =>
      e = .returned (.tuple #[]) ∧ u' = .returning ∧ w' = w := by
  refine callsD_of_wpS Tryd.func98 rfl fun c₀ cs hu => ?_
  apply wpS_seq
  apply wpS_region
  simp [wpOpsS, go_sem, recoverD, hu, ta_nil, Tryd.ntmps98, Exit.thenS]
  apply wpS_seq
  apply wpS_region
  simp [wpOpsS, go_sem, Exit.thenS]
  refine wpS_cond (t := false) (by simp [Act.eval, Array.replicate]) ?_
  simp only [Bool.false_eq_true, if_false]
  refine wpS_of_wp (wp_skip ?_)
  cases c₀
  simp_all [bodyPostS, results, Tryd.results98]

/-- a value is answered, and no error -/
def RetVE (v : Vv) (w : World) (e : Ending) (w' : World) : Prop := ∃ a c, e = .returned (.tuple #[.agg #[.int .i64 v.sort, .int .i64 v.n, .bool v.bb, .slice a v.l.length c], .int .i64 0]) ∧ Own w' w.heap.size a c v.l ∧ Below w.heap.size w w'
/-- an error is answered -/
def RetE (k : Int) (w : World) (e : Ending) (w' : World) : Prop := e = .returned (.tuple #[zeroV, .int .i64 k]) ∧ Below w.heap.size w w'
theorem Single.lat {w w1 : World} {b : Nat} {x : Value} (h : Single w b x) (hb : Below w.heap.size w w1) : Single w1 b x := ⟨cell_later hb h.1, frozen_later hb h.1 h.2⟩
set_option maxRecDepth 100000 in
set_option maxHeartbeats 1000000 in
theorem attemptE_err (K : Nat) (p q r : Addr) (k : Int) (w : World)
    (henter : ∀ args w, (callFunc K args).run Tryd.prog w = .ok (.enter K args) w)
    (h : ∀ w1, Below w.heap.size w w1 → Calls Tryd.prog K #[.pointer (some p), .pointer (some q), .pointer (some r)] w1 (PanK k w1)) :
    Calls Tryd.prog 73 #[.func (.func K) #[] #[.pointer (some p), .pointer (some q), .pointer (some r)]] w (RetE k w) := by
  have hmf : ∀ (fn : Fn) (first cap : Array Value) (w : World), (Instr.makeFunc fn first cap).run Tryd.prog w = .ok (.func fn first cap) w := fun _ _ _ _ => rfl
  have H := mkHid h; clear h
  go_enter_defers Tryd.func73, Tryd.ntmps73
  go_wp2_with fail
  refine (H.out _ (bal (bal (Below.refl _ _) _) _)).mono ?_
  rintro e w1 ⟨rfl, hb1⟩
  have t0 : FourV w1 w.heap.size (.int .i64 0) (.int .i64 0) (.bool false) (.slice none 0 0) := FourV.later (by simp [FourV, go_sem]) hb1
  have t1 : Single w1 (w.heap.size + 1) (.int .i64 0) := Single.lat (by simp [Single, go_sem]) hb1
  show bodyPostD _ _ _ _ _ _
  refine leaves_cons (f := 98) (args := #[.pointer (some ⟨w.heap.size, 0, none⟩), .pointer (some ⟨w.heap.size + 1, 0, none⟩)]) (by simp) (by simp [go_sem]) ?_
  refine (catchE_panicking w.heap.size (w.heap.size + 1) _ _ _ _ _ k [] _ t0 t1 (by omega)).mono ?_
  rintro e u' w'' ⟨rfl, rfl, rfl⟩
  obtain ⟨c0, c1, c2, c3, -⟩ := t0
  obtain ⟨c4, -⟩ := t1
  simp [Leaves, settle, results, Tryd.results73, go_sem, c0, c1, c2, c3, c4]
  refine ⟨rfl, ?_⟩
  exact bset (bset (bset (bset (bset (bon (bal (bal (Below.refl _ _) _) _) hb1) (by simp) _) (by simp) _) (by simp) _) (by simp) _) (by simp) _
set_option maxRecDepth 100000 in
set_option maxHeartbeats 1000000 in
theorem attemptE_ok (K : Nat) (p q r : Addr) (v : Vv) (w : World)
    (henter : ∀ args w, (callFunc K args).run Tryd.prog w = .ok (.enter K args) w)
    (h : ∀ w1, Below w.heap.size w w1 → Calls Tryd.prog K #[.pointer (some p), .pointer (some q), .pointer (some r)] w1 (RetV v w1)) :
    Calls Tryd.prog 73 #[.func (.func K) #[] #[.pointer (some p), .pointer (some q), .pointer (some r)]] w (RetVE v w) := by
  have hmf : ∀ (fn : Fn) (first cap : Array Value) (w : World), (Instr.makeFunc fn first cap).run Tryd.prog w = .ok (.func fn first cap) w := fun _ _ _ _ => rfl
  have H := mkHid h; clear h
  go_enter_defers Tryd.func73, Tryd.ntmps73
  go_wp2_with fail
  refine (H.out _ (bal (bal (Below.refl _ _) _) _)).mono ?_
  rintro e w1 ⟨a, c, rfl, ho, hb1⟩
  obtain ⟨c0, c1, c2, c3, f0, f1, f2, f3⟩ : FourV w1 w.heap.size (.int .i64 0) (.int .i64 0) (.bool false) (.slice none 0 0) := FourV.later (by simp [FourV, go_sem]) hb1
  obtain ⟨c4, f4⟩ : Single w1 (w.heap.size + 1) (.int .i64 0) := Single.lat (by simp [Single, go_sem]) hb1
  go_wp2_with fail
  refine leaves_cons (f := 98) (args := #[.pointer (some ⟨w.heap.size, 0, none⟩), .pointer (some ⟨w.heap.size + 1, 0, none⟩)]) (by simp) (by simp [go_sem]) ?_
  refine (catchE_idle ⟨w.heap.size, 0, none⟩ ⟨w.heap.size + 1, 0, none⟩ _).mono ?_
  rintro e u' w'' ⟨rfl, rfl, rfl⟩
  simp [Leaves, settle, results, Tryd.results73, go_sem, c0, c1, c2, c3, c4]
  have hs1 := hb1.size
  refine ⟨a, c, rfl, ?_, ?_⟩
  · refine own_base (base := w.heap.size + 1 + 1) ?_ (by omega)
    have ho := own_base (base' := w.heap.size + 1 + 1) ho (by simp)
    refine own_put (own_put (own_put (own_put (own_put ho ?_ _) ?_ _) ?_ _) ?_ _) ?_ _ <;> (simp <;> omega)
  · exact bset (bset (bset (bset (bset (bon (bal (bal (Below.refl _ _) _) _) hb1) (by simp) _) (by simp) _) (by simp) _) (by simp) _) (by simp) _

/-- what Eval answers -/
def evalR (W : Wd) (t : Tm) : Except Int Vv := if errR t = 0 then (if rightB W then ev W t else .error 1) else .error (errR t)
def EvalP (r : Except Int Vv) (w : World) (e : Ending) (w' : World) : Prop :=
  match r with
  | .ok v => RetVE v w e w'
  | .error k => RetE k w e w'
theorem valueR {W : Wd} {t : Tm} {s : Nat} (h : EvOf W s t) (hs : 1 ≤ s) (hs4 : s ≤ 4) : (∃ v, ev W t = .ok v ∧ CallsV W t s (RetV v)) ∨ ∃ k, ev W t = .error k ∧ CallsV W t s (PanK k) := by
  rcases (show s = 1 ∨ s = 2 ∨ s = 3 ∨ s = 4 by omega) with rfl | rfl | rfl | rfl
  · rcases h with ⟨x, h1, C⟩ | ⟨e, h1, C⟩
    · exact .inl ⟨_, h1, val1_ok W t x C⟩
    · exact .inr ⟨_, h1, val1_e W t e C⟩
  · rcases h with ⟨x, h1, C⟩ | ⟨e, h1, C⟩
    · exact .inl ⟨_, h1, val2_ok W t x C⟩
    · exact .inr ⟨_, h1, val2_e W t e C⟩
  · rcases h with ⟨x, h1, C⟩ | ⟨e, h1, C⟩
    · exact .inl ⟨_, h1, val3_ok W t x C⟩
    · exact .inr ⟨_, h1, val3_e W t e C⟩
  · rcases h with ⟨x, h1, C⟩ | ⟨e, h1, C⟩
    · exact .inl ⟨_, h1, val4_ok W t x C⟩
    · exact .inr ⟨_, h1, val4_e W t e C⟩
set_option maxRecDepth 100000 in
set_option maxHeartbeats 1000000 in
theorem evalC_err (W : Wd) (t : Tm) (s k : Int) (bw bt bs : Nat) (w : World) (hW : WIn w w.heap.size W) (ht : TIn w w.heap.size t) (TP : TwoW w bw W) (TT : Four w bt 0 t) (TS : w.cell? ⟨bs, 0, none⟩ = some (.int .i64 s)) (C : CallsV W t s (PanK k)) :
    Calls Tryd.prog 74 #[.pointer (some ⟨bw, 0, none⟩), .pointer (some ⟨bt, 0, none⟩), .pointer (some ⟨bs, 0, none⟩)] w (PanK k w) := by
  have hb1 := bel_alloc w (.cells #[.int .i64 0, .int .i64 0, .bool false, .slice none 0 0] 54)
  have CC := mkHid (C _ (hW.later hb1) (ht.later hb1))
  unfold Wd.val Tm.val at CC
  obtain ⟨t0, t1⟩ := TP.later hb1
  obtain ⟨u0, u1, u2, u3⟩ := TT.later hb1
  have v0 := cell_later hb1 TS
  simp only [Nat.zero_add] at u1 u2 u3
  clear TP TT TS C hW ht
  generalize hW1 : w.alloc (.cells #[.int .i64 0, .int .i64 0, .bool false, .slice none 0 0] 54) = W1 at *
  go_enter Tryd.func74, Tryd.ntmps74
  go_wp2_with fail
  ((with_reducible refine CC.out.mono ?_)); rintro e w3 ⟨rfl, hb3⟩
  exact ⟨rfl, rfl, bon hb1 hb3⟩
set_option maxRecDepth 100000 in
set_option maxHeartbeats 1000000 in
theorem evalC_ok (W : Wd) (t : Tm) (s : Int) (v : Vv) (bw bt bs : Nat) (w : World) (hW : WIn w w.heap.size W) (ht : TIn w w.heap.size t) (TP : TwoW w bw W) (TT : Four w bt 0 t) (TS : w.cell? ⟨bs, 0, none⟩ = some (.int .i64 s)) (C : CallsV W t s (RetV v)) :
    Calls Tryd.prog 74 #[.pointer (some ⟨bw, 0, none⟩), .pointer (some ⟨bt, 0, none⟩), .pointer (some ⟨bs, 0, none⟩)] w (RetV v w) := by
  have hb1 := bel_alloc w (.cells #[.int .i64 0, .int .i64 0, .bool false, .slice none 0 0] 54)
  have CC := mkHid (C _ (hW.later hb1) (ht.later hb1))
  unfold Wd.val Tm.val at CC
  obtain ⟨t0, t1⟩ := TP.later hb1
  obtain ⟨u0, u1, u2, u3⟩ := TT.later hb1
  have v0 := cell_later hb1 TS
  simp only [Nat.zero_add] at u1 u2 u3
  have F1 : FourV (w.alloc (.cells #[.int .i64 0, .int .i64 0, .bool false, .slice none 0 0] 54)) w.heap.size (.int .i64 0) (.int .i64 0) (.bool false) (.slice none 0 0) := by simp [FourV, go_sem]
  have hX : w.heap.size < (w.alloc (.cells #[.int .i64 0, .int .i64 0, .bool false, .slice none 0 0] 54)).heap.size := by simp
  clear TP TT TS C hW ht
  generalize hW1 : w.alloc (.cells #[.int .i64 0, .int .i64 0, .bool false, .slice none 0 0] 54) = W1 at *
  go_enter Tryd.func74, Tryd.ntmps74
  go_wp2_with fail
  ((with_reducible refine CC.out.mono ?_)); rintro e w3 ⟨a, c, rfl, ho, hb3⟩
  have BW := bon hb1 hb3
  obtain ⟨x0, x1, x2, x3, x4, x5, x6, x7⟩ := F1.later hb3
  clear t0 t1 u0 u1 u2 u3 v0 hW1
  go_wp2
  refine bodyPost_ret (v := .agg #[.int .i64 v.sort, .int .i64 v.n, .bool v.bb, .slice a v.l.length c]) (by simp [results, Tryd.results74, go_sem, x0, x1, x2, x3]) rfl ⟨a, c, rfl, ?_, ?_⟩
  · refine own_base (base := W1.heap.size) ?_ (by omega)
    refine own_put (own_put (own_put (own_put ho ?_ _) ?_ _) ?_ _) ?_ _ <;> (simp <;> omega)
  · (repeat (first | exact BW | (refine bset ?_ (by simp <;> omega) _)))
end Go.Proofs.YtlobffjgkhcjbaaDoor
