/-
  What SubstValues's proof stands on, part 19: EvL, EvM, EvP, EvU, EvS, SbE.
-/
import Derived.Test.YtdfebacjbapahaaGreatDoorSubstValuesK18
import Derived.Test.YtdfebacjbapahaaGreatDoorSubstValuesK10
import Derived.Test.YtdfebacjbapahaaGreatDoorSubstValuesK05
import Derived.Test.YtdfebacjbapahaaGreatDoorSubstValuesK03
import Derived.Test.YtdfebacjbapahaaGreatDoorSubstValuesK08
import Derived.Deep.AppendLies
import Derived.Test.YtdfebacjbapahaaGreatDoorSubstValuesK04
import Derived.Test.YtdfebacjbapahaaGreatDoorSubstValuesK09
namespace Go.Proofs.YtdfebacjbapahaaGreatDoor
section
open Go.RowKit Go.Shelf

theorem ta_errno (k : Int) (w : World) : (Instr.typeAssert (.iface 37 (.int .i64 k)) 20 37 true).run Tryz.prog w = .ok (.tuple #[.int .i64 k, .bool true]) w := by kernel_rfl
theorem ta_nil (w : World) : (Instr.typeAssert .nilIface 20 37 true).run Tryz.prog w = .ok (.tuple #[.int .i64 0, .bool false]) w := by kernel_rfl
set_option maxRecDepth 100000 in
set_option maxHeartbeats 400000 in
theorem catchE_panicking (bp bq : Nat) (x0 x1 x2 x3 x4 : Value) (k : Int) (older : List PanicEntry) (w : World) (h : FourV w bp x0 x1 x2 x3) (h' : Single w bq x4) (_hne : bp ≠ bq) :
    Go.CallsD Tryz.prog 39 #[.pointer (some ⟨bp, 0, none⟩), .pointer (some ⟨bq, 0, none⟩)] (.panicking ({ v := .iface 37 (.int .i64 k), recovered := false } :: older)) w fun e u' w' =>
      e = .returned (.tuple #[]) ∧ u' = .panicking ({ v := .iface 37 (.int .i64 k), recovered := true } :: older) ∧ w' = ((((w.setCell ⟨bp, 0, none⟩ (.int .i64 0)).setCell ⟨bp, 1, none⟩ (.int .i64 0)).setCell ⟨bp, 2, none⟩ (.bool false)).setCell ⟨bp, 3, none⟩ (.slice none 0 0)).setCell ⟨bq, 0, none⟩ (.int .i64 k) := by
  obtain ⟨c0, c1, c2, c3, f0, f1, f2, f3⟩ := h
  obtain ⟨c4, f4⟩ := h'
  refine callsD_of_wpS Tryz.func39 rfl fun c₀ cs hu => ?_
  apply wpS_seq
  apply wpS_region
  simp [wpOpsS, go_sem, recoverD, hu, ta_errno, Tryz.ntmps39, Exit.thenS]
  apply wpS_seq
  apply wpS_region
  simp [wpOpsS, go_sem, Exit.thenS]
  refine wpS_cond (t := true) (by simp [Act.eval, Array.replicate]) ?_
  simp only [if_true]
  apply wpS_region
  simp [wpOpsS, go_sem, c0, c1, c2, c3, c4, f0, f1, f2, f3, f4, bodyPostS, results, Tryz.results39]
set_option maxRecDepth 100000 in
set_option maxHeartbeats 400000 in
theorem catchE_idle (p q : Addr) (w : World) :
    Go.CallsD Tryz.prog 39 #[.pointer (some p), .pointer (some q)] .returning w fun e u' w' =>
      e = .returned (.tuple #[]) ∧ u' = .returning ∧ w' = w := by
  refine callsD_of_wpS Tryz.func39 rfl fun c₀ cs hu => ?_
  apply wpS_seq
  apply wpS_region
  simp [wpOpsS, go_sem, recoverD, hu, ta_nil, Tryz.ntmps39, Exit.thenS]
  apply wpS_seq
  apply wpS_region
  simp [wpOpsS, go_sem, Exit.thenS]
  refine wpS_cond (t := false) (by simp [Act.eval, Array.replicate]) ?_
  simp only [Bool.false_eq_true, if_false]
  refine wpS_of_wp (wp_skip ?_)
  cases c₀
  simp_all [bodyPostS, results, Tryz.results39]

/-- a value is answered, and no error -/
def RetVE (v : Vv) (w : World) (e : Ending) (w' : World) : Prop := ∃ a c, e = .returned (.tuple #[.agg #[.int .i64 v.sort, .int .i64 v.n, .bool v.bb, .slice a v.l.length c], .int .i64 0]) ∧ Own w' w.heap.size a c v.l ∧ Below w.heap.size w w'
/-- an error is answered -/
def RetE (k : Int) (w : World) (e : Ending) (w' : World) : Prop := e = .returned (.tuple #[zeroV, .int .i64 k]) ∧ Below w.heap.size w w'
theorem Single.lat {w w1 : World} {b : Nat} {x : Value} (h : Single w b x) (hb : Below w.heap.size w w1) : Single w1 b x := ⟨cell_later hb h.1, frozen_later hb h.1 h.2⟩
set_option maxRecDepth 100000 in
set_option maxHeartbeats 1000000 in
theorem attemptE_err (K : Nat) (p q r : Addr) (k : Int) (w : World)
    (henter : ∀ args w, (callFunc K args).run Tryz.prog w = .ok (.enter K args) w)
    (h : ∀ w1, Below w.heap.size w w1 → Calls Tryz.prog K #[.pointer (some p), .pointer (some q), .pointer (some r)] w1 (PanK k w1)) :
    Calls Tryz.prog 21 #[.func (.func K) #[] #[.pointer (some p), .pointer (some q), .pointer (some r)]] w (RetE k w) := by
  have hmf : ∀ (fn : Fn) (first cap : Array Value) (w : World), (Instr.makeFunc fn first cap).run Tryz.prog w = .ok (.func fn first cap) w := fun _ _ _ _ => rfl
  have H := mkHid h; clear h
  go_enter_defers Tryz.func21, Tryz.ntmps21
  go_wp2_with fail
  refine (H.out _ (bal (bal (Below.refl _ _) _) _)).mono ?_
  rintro e w1 ⟨rfl, hb1⟩
  have t0 : FourV w1 w.heap.size (.int .i64 0) (.int .i64 0) (.bool false) (.slice none 0 0) := FourV.later (by simp [FourV, go_sem]) hb1
  have t1 : Single w1 (w.heap.size + 1) (.int .i64 0) := Single.lat (by simp [Single, go_sem]) hb1
  show bodyPostD _ _ _ _ _ _
  refine leaves_cons (f := 39) (args := #[.pointer (some ⟨w.heap.size, 0, none⟩), .pointer (some ⟨w.heap.size + 1, 0, none⟩)]) (by simp) (by simp [go_sem]) ?_
  refine (catchE_panicking w.heap.size (w.heap.size + 1) _ _ _ _ _ k [] _ t0 t1 (by omega)).mono ?_
  rintro e u' w'' ⟨rfl, rfl, rfl⟩
  obtain ⟨c0, c1, c2, c3, -⟩ := t0
  obtain ⟨c4, -⟩ := t1
  simp [Leaves, settle, results, Tryz.results21, go_sem, c0, c1, c2, c3, c4]
  refine ⟨rfl, ?_⟩
  exact bset (bset (bset (bset (bset (bon (bal (bal (Below.refl _ _) _) _) hb1) (by simp) _) (by simp) _) (by simp) _) (by simp) _) (by simp) _
set_option maxRecDepth 100000 in
set_option maxHeartbeats 1000000 in
theorem attemptE_ok (K : Nat) (p q r : Addr) (v : Vv) (w : World)
    (henter : ∀ args w, (callFunc K args).run Tryz.prog w = .ok (.enter K args) w)
    (h : ∀ w1, Below w.heap.size w w1 → Calls Tryz.prog K #[.pointer (some p), .pointer (some q), .pointer (some r)] w1 (RetV v w1)) :
    Calls Tryz.prog 21 #[.func (.func K) #[] #[.pointer (some p), .pointer (some q), .pointer (some r)]] w (RetVE v w) := by
  have hmf : ∀ (fn : Fn) (first cap : Array Value) (w : World), (Instr.makeFunc fn first cap).run Tryz.prog w = .ok (.func fn first cap) w := fun _ _ _ _ => rfl
  have H := mkHid h; clear h
  go_enter_defers Tryz.func21, Tryz.ntmps21
  go_wp2_with fail
  refine (H.out _ (bal (bal (Below.refl _ _) _) _)).mono ?_
  rintro e w1 ⟨a, c, rfl, ho, hb1⟩
  obtain ⟨c0, c1, c2, c3, f0, f1, f2, f3⟩ : FourV w1 w.heap.size (.int .i64 0) (.int .i64 0) (.bool false) (.slice none 0 0) := FourV.later (by simp [FourV, go_sem]) hb1
  obtain ⟨c4, f4⟩ : Single w1 (w.heap.size + 1) (.int .i64 0) := Single.lat (by simp [Single, go_sem]) hb1
  go_wp2_with fail
  refine leaves_cons (f := 39) (args := #[.pointer (some ⟨w.heap.size, 0, none⟩), .pointer (some ⟨w.heap.size + 1, 0, none⟩)]) (by simp) (by simp [go_sem]) ?_
  refine (catchE_idle ⟨w.heap.size, 0, none⟩ ⟨w.heap.size + 1, 0, none⟩ _).mono ?_
  rintro e u' w'' ⟨rfl, rfl, rfl⟩
  simp [Leaves, settle, results, Tryz.results21, go_sem, c0, c1, c2, c3, c4]
  have hs1 := hb1.size
  refine ⟨a, c, rfl, ?_, ?_⟩
  · refine own_base (base := w.heap.size + 1 + 1) ?_ (by omega)
    have ho := own_base (base' := w.heap.size + 1 + 1) ho (by simp)
    refine own_put (own_put (own_put (own_put (own_put ho ?_ _) ?_ _) ?_ _) ?_ _) ?_ _ <;> (simp <;> omega)
  · exact bset (bset (bset (bset (bset (bon (bal (bal (Below.refl _ _) _) _) hb1) (by simp) _) (by simp) _) (by simp) _) (by simp) _) (by simp) _

/-- what Eval answers -/
def evalR (W : Wd) (t : Tm) : Except Int Vv := if errR t = 0 then (if rightB W then ev W t else .error 1) else .error (errR t)
def EvalP (r : Except Int Vv) (w : World) (e : Ending) (w' : World) : Prop :=
  match r with
  | .ok v => RetVE v w e w'
  | .error k => RetE k w e w'
theorem valueR {W : Wd} {t : Tm} {s : Nat} (h : EvOf W s t) (hs : 1 ≤ s) (hs4 : s ≤ 4) : (∃ v, ev W t = .ok v ∧ CallsV W t s (RetV v)) ∨ ∃ k, ev W t = .error k ∧ CallsV W t s (PanK k) := by
  rcases (show s = 1 ∨ s = 2 ∨ s = 3 ∨ s = 4 by omega) with rfl | rfl | rfl | rfl
  · rcases h with ⟨x, h1, C⟩ | ⟨e, h1, C⟩
    · exact .inl ⟨_, h1, val1_ok W t x C⟩
    · exact .inr ⟨_, h1, val1_e W t e C⟩
  · rcases h with ⟨x, h1, C⟩ | ⟨e, h1, C⟩
    · exact .inl ⟨_, h1, val2_ok W t x C⟩
    · exact .inr ⟨_, h1, val2_e W t e C⟩
  · rcases h with ⟨x, h1, C⟩ | ⟨e, h1, C⟩
    · exact .inl ⟨_, h1, val3_ok W t x C⟩
    · exact .inr ⟨_, h1, val3_e W t e C⟩
  · rcases h with ⟨x, h1, C⟩ | ⟨e, h1, C⟩
    · exact .inl ⟨_, h1, val4_ok W t x C⟩
    · exact .inr ⟨_, h1, val4_e W t e C⟩
set_option maxRecDepth 100000 in
set_option maxHeartbeats 1000000 in
theorem evalC_err (W : Wd) (t : Tm) (s k : Int) (bw bt bs : Nat) (w : World) (hW : WIn w w.heap.size W) (ht : TIn w w.heap.size t) (TP : TwoW w bw W) (TT : Four w bt 0 t) (TS : w.cell? ⟨bs, 0, none⟩ = some (.int .i64 s)) (C : CallsV W t s (PanK k)) :
    Calls Tryz.prog 22 #[.pointer (some ⟨bw, 0, none⟩), .pointer (some ⟨bt, 0, none⟩), .pointer (some ⟨bs, 0, none⟩)] w (PanK k w) := by
  have hb1 := bel_alloc w (.cells #[.int .i64 0, .int .i64 0, .bool false, .slice none 0 0] 36)
  have CC := mkHid (C _ (hW.later hb1) (ht.later hb1))
  unfold Wd.val Tm.val at CC
  obtain ⟨t0, t1⟩ := TP.later hb1
  obtain ⟨u0, u1, u2, u3⟩ := TT.later hb1
  have v0 := cell_later hb1 TS
  simp only [Nat.zero_add] at u1 u2 u3
  clear TP TT TS C hW ht
  generalize hW1 : w.alloc (.cells #[.int .i64 0, .int .i64 0, .bool false, .slice none 0 0] 36) = W1 at *
  go_enter Tryz.func22, Tryz.ntmps22
  go_wp2_with fail
  ((with_reducible refine CC.out.mono ?_)); rintro e w3 ⟨rfl, hb3⟩
  exact ⟨rfl, rfl, bon hb1 hb3⟩
set_option maxRecDepth 100000 in
set_option maxHeartbeats 1000000 in
theorem evalC_ok (W : Wd) (t : Tm) (s : Int) (v : Vv) (bw bt bs : Nat) (w : World) (hW : WIn w w.heap.size W) (ht : TIn w w.heap.size t) (TP : TwoW w bw W) (TT : Four w bt 0 t) (TS : w.cell? ⟨bs, 0, none⟩ = some (.int .i64 s)) (C : CallsV W t s (RetV v)) :
    Calls Tryz.prog 22 #[.pointer (some ⟨bw, 0, none⟩), .pointer (some ⟨bt, 0, none⟩), .pointer (some ⟨bs, 0, none⟩)] w (RetV v w) := by
  have hb1 := bel_alloc w (.cells #[.int .i64 0, .int .i64 0, .bool false, .slice none 0 0] 36)
  have CC := mkHid (C _ (hW.later hb1) (ht.later hb1))
  unfold Wd.val Tm.val at CC
  obtain ⟨t0, t1⟩ := TP.later hb1
  obtain ⟨u0, u1, u2, u3⟩ := TT.later hb1
  have v0 := cell_later hb1 TS
  simp only [Nat.zero_add] at u1 u2 u3
  have F1 : FourV (w.alloc (.cells #[.int .i64 0, .int .i64 0, .bool false, .slice none 0 0] 36)) w.heap.size (.int .i64 0) (.int .i64 0) (.bool false) (.slice none 0 0) := by simp [FourV, go_sem]
  have hX : w.heap.size < (w.alloc (.cells #[.int .i64 0, .int .i64 0, .bool false, .slice none 0 0] 36)).heap.size := by simp
  clear TP TT TS C hW ht
  generalize hW1 : w.alloc (.cells #[.int .i64 0, .int .i64 0, .bool false, .slice none 0 0] 36) = W1 at *
  go_enter Tryz.func22, Tryz.ntmps22
  go_wp2_with fail
  ((with_reducible refine CC.out.mono ?_)); rintro e w3 ⟨a, c, rfl, ho, hb3⟩
  have BW := bon hb1 hb3
  obtain ⟨x0, x1, x2, x3, x4, x5, x6, x7⟩ := F1.later hb3
  clear t0 t1 u0 u1 u2 u3 v0 hW1
  go_wp2
  refine bodyPost_ret (v := .agg #[.int .i64 v.sort, .int .i64 v.n, .bool v.bb, .slice a v.l.length c]) (by simp [results, Tryz.results22, go_sem, x0, x1, x2, x3]) rfl ⟨a, c, rfl, ?_, ?_⟩
  · refine own_base (base := W1.heap.size) ?_ (by omega)
    refine own_put (own_put (own_put (own_put ho ?_ _) ?_ _) ?_ _) ?_ _ <;> (simp <;> omega)
  · (repeat (first | exact BW | (refine bset ?_ (by simp <;> omega) _)))
end
section
open Go.RowKit Go.Shelf

set_option maxRecDepth 100000 in
set_option maxHeartbeats 2000000 in
theorem eval_bad (W : Wd) (t : Tm) (w : World) (hW : WIn w w.heap.size W) (ht : TIn w w.heap.size t) (hS : Shps w) (h : errR t ≠ 0) :
    Calls Tryz.prog 8 #[t.val, W.val] w (RetE (errR t) w) := by
  have hb3 : Below w.heap.size w (((w.alloc (boxT t)).alloc (boxW W)).alloc (.cells #[.int .i64 0, .int .i64 0, .bool false, .slice none 0 0] 36)) := bal (bal (bal (Below.refl _ _) _) _) _
  have TT : Four (((w.alloc (boxT t)).alloc (boxW W)).alloc (.cells #[.int .i64 0, .int .i64 0, .bool false, .slice none 0 0] 36)) w.heap.size 0 t := ((box_four w t).later (bel_alloc _ _)).later (bel_alloc _ _)
  have TP : TwoW (((w.alloc (boxT t)).alloc (boxW W)).alloc (.cells #[.int .i64 0, .int .i64 0, .bool false, .slice none 0 0] 36)) (w.heap.size + 1) W := by
    have := (boxW_two (w.alloc (boxT t)) W).later (bel_alloc _ (.cells #[.int .i64 0, .int .i64 0, .bool false, .slice none 0 0] 36)); simpa using this
  have F1 : FourV (((w.alloc (boxT t)).alloc (boxW W)).alloc (.cells #[.int .i64 0, .int .i64 0, .bool false, .slice none 0 0] 36)) (w.heap.size + 1 + 1) (.int .i64 0) (.int .i64 0) (.bool false) (.slice none 0 0) := by simp [FourV, go_sem]
  have hX : (((w.alloc (boxT t)).alloc (boxW W)).alloc (.cells #[.int .i64 0, .int .i64 0, .bool false, .slice none 0 0] 36)).heap.size = w.heap.size + 1 + 1 + 1 := by simp
  have HX := mkHid hX
  clear hX
  have SC := mkHid (sort_any t _ (ht.later hb3) (hS.later hb3))
  have hne : ((errR t : Int) != 0) = true := by rw [bne_iff_ne]; omega
  generalize errR t = er at *
  generalize srtR t = sr at *
  clear h
  generalize hW3 : ((w.alloc (boxT t)).alloc (boxW W)).alloc (.cells #[.int .i64 0, .int .i64 0, .bool false, .slice none 0 0] 36) = W3 at *
  unfold boxT boxW at hW3
  have HIN := mkHid (hW.later hb3)
  have HTN := mkHid (ht.later hb3)
  clear hW ht hS
  unfold Tm.val at SC
  unfold Wd.val Tm.val
  obtain ⟨u0, u1, u2, u3⟩ := id TT
  obtain ⟨t0, t1⟩ := id TP
  simp only [Nat.zero_add] at u1 u2 u3
  go_enter Tryz.func8, Tryz.ntmps8
  go_wp2_with fail
  ((with_reducible refine SC.out.mono ?_)); rintro e w4 ⟨rfl, hb4⟩
  clear u0 u1 u2 u3 t0 t1 hW3 SC
  have hz4 := hb4.size
  have hz3 : w.heap.size + 1 + 1 < w4.heap.size := by rw [HX.out] at hz4; omega
  have BW := bon hb3 hb4
  have FF := F1.later hb4
  obtain ⟨x0, x1, x2, x3, x4, x5, x6, x7⟩ := FF
  go_wp2
  refine bodyPost_ret (v := .tuple #[zeroV, .int .i64 er]) (by simp [results, Tryz.results8, go_sem, x0, x1, x2, x3, zeroV, hz3]) rfl ⟨rfl, ?_⟩
  (repeat (first | exact BW | (refine bset ?_ (by simp <;> omega) _) | refine bal ?_ _))
set_option maxRecDepth 100000 in
set_option maxHeartbeats 2000000 in
theorem eval_wrong (W : Wd) (t : Tm) (w : World) (hW : WIn w w.heap.size W) (ht : TIn w w.heap.size t) (hS : Shps w) (h : errR t = 0) (hr : rightB W = false) :
    Calls Tryz.prog 8 #[t.val, W.val] w (RetE 1 w) := by
  have hb3 : Below w.heap.size w (((w.alloc (boxT t)).alloc (boxW W)).alloc (.cells #[.int .i64 0, .int .i64 0, .bool false, .slice none 0 0] 36)) := bal (bal (bal (Below.refl _ _) _) _) _
  have TT : Four (((w.alloc (boxT t)).alloc (boxW W)).alloc (.cells #[.int .i64 0, .int .i64 0, .bool false, .slice none 0 0] 36)) w.heap.size 0 t := ((box_four w t).later (bel_alloc _ _)).later (bel_alloc _ _)
  have TP : TwoW (((w.alloc (boxT t)).alloc (boxW W)).alloc (.cells #[.int .i64 0, .int .i64 0, .bool false, .slice none 0 0] 36)) (w.heap.size + 1) W := by
    have := (boxW_two (w.alloc (boxT t)) W).later (bel_alloc _ (.cells #[.int .i64 0, .int .i64 0, .bool false, .slice none 0 0] 36)); simpa using this
  have F1 : FourV (((w.alloc (boxT t)).alloc (boxW W)).alloc (.cells #[.int .i64 0, .int .i64 0, .bool false, .slice none 0 0] 36)) (w.heap.size + 1 + 1) (.int .i64 0) (.int .i64 0) (.bool false) (.slice none 0 0) := by simp [FourV, go_sem]
  have hX : (((w.alloc (boxT t)).alloc (boxW W)).alloc (.cells #[.int .i64 0, .int .i64 0, .bool false, .slice none 0 0] 36)).heap.size = w.heap.size + 1 + 1 + 1 := by simp
  have HX := mkHid hX
  clear hX
  have SC := mkHid (sort_any t _ (ht.later hb3) (hS.later hb3))
  have he := h
  obtain ⟨-, -, -, hsr⟩ := errR_zero h
  rw [he, hsr] at SC
  generalize hsg : t.srt = sr at *
  clear hsr hsg h he
  generalize hW3 : ((w.alloc (boxT t)).alloc (boxW W)).alloc (.cells #[.int .i64 0, .int .i64 0, .bool false, .slice none 0 0] 36) = W3 at *
  unfold boxT boxW at hW3
  have HIN := mkHid (hW.later hb3)
  have HTN := mkHid (ht.later hb3)
  clear hW ht hS
  unfold Tm.val at SC
  unfold Wd.val Tm.val
  obtain ⟨u0, u1, u2, u3⟩ := id TT
  obtain ⟨t0, t1⟩ := id TP
  simp only [Nat.zero_add] at u1 u2 u3
  go_enter Tryz.func8, Tryz.ntmps8
  go_wp2_with fail
  ((with_reducible refine SC.out.mono ?_)); rintro e w4 ⟨rfl, hb4⟩
  clear u0 u1 u2 u3 t0 t1 hW3 SC
  have hz4 := hb4.size
  have hz3 : w.heap.size + 1 + 1 < w4.heap.size := by rw [HX.out] at hz4; omega
  have hb5 := bel_alloc w4 (.cells #[.int .i64 sr] 3)
  have B5 := bon hb4 hb5
  have RC := mkHid (right_any W _ (HIN.out.later B5))
  rw [hr] at RC
  unfold Wd.val at RC
  have hs5 : (w4.alloc (.cells #[.int .i64 sr] 3)).cell? ⟨w4.heap.size, 0, none⟩ = some (.int .i64 sr) := by simp [go_sem]
  have HS5 := mkHid (fun (w' : World) (hb : Below (w4.alloc (.cells #[.int .i64 sr] 3)).heap.size (w4.alloc (.cells #[.int .i64 sr] 3)) w') => cell_later hb hs5)
  have hz5 : (w4.alloc (.cells #[.int .i64 sr] 3)).heap.size = w4.heap.size + 1 := by simp
  have HZ5 := mkHid hz5
  clear hz5 hs5
  generalize hW5 : w4.alloc (.cells #[.int .i64 sr] 3) = W5 at *
  obtain ⟨t0, t1⟩ := TP.later B5
  go_wp2_with fail
  ((with_reducible refine RC.out.mono ?_)); rintro e w6 ⟨rfl, hb6⟩
  have B6 := bon B5 hb6
  clear t0 t1 hW5 RC hr
  have BW := bon hb3 B6
  have FF := F1.later B6
  have hz3 : w.heap.size + 1 + 1 < w6.heap.size := by have := hb6.size; rw [HZ5.out] at this; omega
  obtain ⟨x0, x1, x2, x3, x4, x5, x6, x7⟩ := FF
  go_wp2
  refine bodyPost_ret (v := .tuple #[zeroV, .int .i64 1]) (by simp [results, Tryz.results8, go_sem, x0, x1, x2, x3, zeroV]) rfl ⟨rfl, ?_⟩
  (repeat (first | exact BW | (refine bset ?_ (by simp <;> omega) _) | refine bal ?_ _))
set_option maxRecDepth 100000 in
set_option maxHeartbeats 2000000 in
theorem eval_err (W : Wd) (t : Tm) (w : World) (hW : WIn w w.heap.size W) (ht : TIn w w.heap.size t) (hS : Shps w) {k : Int} (h : errR t = 0) (hr : rightB W = true) (C : CallsV W t t.srt (PanK k)) :
    Calls Tryz.prog 8 #[t.val, W.val] w (RetE k w) := by
  have hb3 : Below w.heap.size w (((w.alloc (boxT t)).alloc (boxW W)).alloc (.cells #[.int .i64 0, .int .i64 0, .bool false, .slice none 0 0] 36)) := bal (bal (bal (Below.refl _ _) _) _) _
  have TT : Four (((w.alloc (boxT t)).alloc (boxW W)).alloc (.cells #[.int .i64 0, .int .i64 0, .bool false, .slice none 0 0] 36)) w.heap.size 0 t := ((box_four w t).later (bel_alloc _ _)).later (bel_alloc _ _)
  have TP : TwoW (((w.alloc (boxT t)).alloc (boxW W)).alloc (.cells #[.int .i64 0, .int .i64 0, .bool false, .slice none 0 0] 36)) (w.heap.size + 1) W := by
    have := (boxW_two (w.alloc (boxT t)) W).later (bel_alloc _ (.cells #[.int .i64 0, .int .i64 0, .bool false, .slice none 0 0] 36)); simpa using this
  have F1 : FourV (((w.alloc (boxT t)).alloc (boxW W)).alloc (.cells #[.int .i64 0, .int .i64 0, .bool false, .slice none 0 0] 36)) (w.heap.size + 1 + 1) (.int .i64 0) (.int .i64 0) (.bool false) (.slice none 0 0) := by simp [FourV, go_sem]
  have hX : (((w.alloc (boxT t)).alloc (boxW W)).alloc (.cells #[.int .i64 0, .int .i64 0, .bool false, .slice none 0 0] 36)).heap.size = w.heap.size + 1 + 1 + 1 := by simp
  have HX := mkHid hX
  clear hX
  have SC := mkHid (sort_any t _ (ht.later hb3) (hS.later hb3))
  have he := h
  obtain ⟨-, -, -, hsr⟩ := errR_zero h
  rw [he, hsr] at SC
  generalize hsg : t.srt = sr at *
  clear hsr hsg h he
  generalize hW3 : ((w.alloc (boxT t)).alloc (boxW W)).alloc (.cells #[.int .i64 0, .int .i64 0, .bool false, .slice none 0 0] 36) = W3 at *
  unfold boxT boxW at hW3
  have HIN := mkHid (hW.later hb3)
  have HTN := mkHid (ht.later hb3)
  clear hW ht hS
  unfold Tm.val at SC
  unfold Wd.val Tm.val
  obtain ⟨u0, u1, u2, u3⟩ := id TT
  obtain ⟨t0, t1⟩ := id TP
  simp only [Nat.zero_add] at u1 u2 u3
  go_enter Tryz.func8, Tryz.ntmps8
  go_wp2_with fail
  ((with_reducible refine SC.out.mono ?_)); rintro e w4 ⟨rfl, hb4⟩
  clear u0 u1 u2 u3 t0 t1 hW3 SC
  have hz4 := hb4.size
  have hz3 : w.heap.size + 1 + 1 < w4.heap.size := by rw [HX.out] at hz4; omega
  have hb5 := bel_alloc w4 (.cells #[.int .i64 sr] 3)
  have B5 := bon hb4 hb5
  have RC := mkHid (right_any W _ (HIN.out.later B5))
  rw [hr] at RC
  unfold Wd.val at RC
  have hs5 : (w4.alloc (.cells #[.int .i64 sr] 3)).cell? ⟨w4.heap.size, 0, none⟩ = some (.int .i64 sr) := by simp [go_sem]
  have HS5 := mkHid (fun (w' : World) (hb : Below (w4.alloc (.cells #[.int .i64 sr] 3)).heap.size (w4.alloc (.cells #[.int .i64 sr] 3)) w') => cell_later hb hs5)
  have hz5 : (w4.alloc (.cells #[.int .i64 sr] 3)).heap.size = w4.heap.size + 1 := by simp
  have HZ5 := mkHid hz5
  clear hz5 hs5
  generalize hW5 : w4.alloc (.cells #[.int .i64 sr] 3) = W5 at *
  obtain ⟨t0, t1⟩ := TP.later B5
  go_wp2_with fail
  ((with_reducible refine RC.out.mono ?_)); rintro e w6 ⟨rfl, hb6⟩
  have B6 := bon B5 hb6
  clear t0 t1 hW5 RC hr
  have hmf : ∀ (fn : Fn) (first cap : Array Value) (w : World), (Instr.makeFunc fn first cap).run Tryz.prog w = .ok (.func fn first cap) w := fun _ _ _ _ => rfl
  have AT := mkHid (attemptE_err 22 ⟨w.heap.size + 1, 0, none⟩ ⟨w.heap.size, 0, none⟩ ⟨w4.heap.size, 0, none⟩ k w6 (enters_of Tryz.func22 (by kernel_rfl) rfl) (fun w7 hb7 => evalC_err W t sr k (w.heap.size + 1) w.heap.size w4.heap.size w7 (HIN.out.later (bon B6 hb7)) (HTN.out.later (bon B6 hb7)) (TP.later (bon B6 hb7)) (TT.later (bon B6 hb7)) (HS5.out w7 (bon hb6 hb7)) C))
  clear C
  go_wp2_with fail
  ((with_reducible refine AT.out.mono ?_)); rintro e w8 ⟨rfl, hb8⟩
  have BW := bon (bon hb3 B6) hb8
  unfold zeroV
  have FF := F1.later (bon B6 hb8)
  have hz3 : w.heap.size + 1 + 1 < w8.heap.size := by have h1 := hb6.size; have h2 := hb8.size; rw [HZ5.out] at h1; omega
  obtain ⟨x0, x1, x2, x3, x4, x5, x6, x7⟩ := FF
  go_wp2
  refine bodyPost_ret (v := .tuple #[zeroV, .int .i64 k]) (by simp [results, Tryz.results8, go_sem, x0, x1, x2, x3, zeroV]) rfl ⟨rfl, ?_⟩
  (repeat (first | exact BW | (refine bset ?_ (by simp <;> omega) _) | refine bal ?_ _))
set_option maxRecDepth 100000 in
set_option maxHeartbeats 2000000 in
theorem eval_ok (W : Wd) (t : Tm) (w : World) (hW : WIn w w.heap.size W) (ht : TIn w w.heap.size t) (hS : Shps w) {v : Vv} (h : errR t = 0) (hr : rightB W = true) (C : CallsV W t t.srt (RetV v)) :
    Calls Tryz.prog 8 #[t.val, W.val] w (RetVE v w) := by
  have hb3 : Below w.heap.size w (((w.alloc (boxT t)).alloc (boxW W)).alloc (.cells #[.int .i64 0, .int .i64 0, .bool false, .slice none 0 0] 36)) := bal (bal (bal (Below.refl _ _) _) _) _
  have TT : Four (((w.alloc (boxT t)).alloc (boxW W)).alloc (.cells #[.int .i64 0, .int .i64 0, .bool false, .slice none 0 0] 36)) w.heap.size 0 t := ((box_four w t).later (bel_alloc _ _)).later (bel_alloc _ _)
  have TP : TwoW (((w.alloc (boxT t)).alloc (boxW W)).alloc (.cells #[.int .i64 0, .int .i64 0, .bool false, .slice none 0 0] 36)) (w.heap.size + 1) W := by
    have := (boxW_two (w.alloc (boxT t)) W).later (bel_alloc _ (.cells #[.int .i64 0, .int .i64 0, .bool false, .slice none 0 0] 36)); simpa using this
  have F1 : FourV (((w.alloc (boxT t)).alloc (boxW W)).alloc (.cells #[.int .i64 0, .int .i64 0, .bool false, .slice none 0 0] 36)) (w.heap.size + 1 + 1) (.int .i64 0) (.int .i64 0) (.bool false) (.slice none 0 0) := by simp [FourV, go_sem]
  have hX : (((w.alloc (boxT t)).alloc (boxW W)).alloc (.cells #[.int .i64 0, .int .i64 0, .bool false, .slice none 0 0] 36)).heap.size = w.heap.size + 1 + 1 + 1 := by simp
  have HX := mkHid hX
  clear hX
  have SC := mkHid (sort_any t _ (ht.later hb3) (hS.later hb3))
  have he := h
  obtain ⟨-, -, -, hsr⟩ := errR_zero h
  rw [he, hsr] at SC
  generalize hsg : t.srt = sr at *
  clear hsr hsg h he
  generalize hW3 : ((w.alloc (boxT t)).alloc (boxW W)).alloc (.cells #[.int .i64 0, .int .i64 0, .bool false, .slice none 0 0] 36) = W3 at *
  unfold boxT boxW at hW3
  have HIN := mkHid (hW.later hb3)
  have HTN := mkHid (ht.later hb3)
  clear hW ht hS
  unfold Tm.val at SC
  unfold Wd.val Tm.val
  obtain ⟨u0, u1, u2, u3⟩ := id TT
  obtain ⟨t0, t1⟩ := id TP
  simp only [Nat.zero_add] at u1 u2 u3
  go_enter Tryz.func8, Tryz.ntmps8
  go_wp2_with fail
  ((with_reducible refine SC.out.mono ?_)); rintro e w4 ⟨rfl, hb4⟩
  clear u0 u1 u2 u3 t0 t1 hW3 SC
  have hz4 := hb4.size
  have hz3 : w.heap.size + 1 + 1 < w4.heap.size := by rw [HX.out] at hz4; omega
  have hb5 := bel_alloc w4 (.cells #[.int .i64 sr] 3)
  have B5 := bon hb4 hb5
  have RC := mkHid (right_any W _ (HIN.out.later B5))
  rw [hr] at RC
  unfold Wd.val at RC
  have hs5 : (w4.alloc (.cells #[.int .i64 sr] 3)).cell? ⟨w4.heap.size, 0, none⟩ = some (.int .i64 sr) := by simp [go_sem]
  have HS5 := mkHid (fun (w' : World) (hb : Below (w4.alloc (.cells #[.int .i64 sr] 3)).heap.size (w4.alloc (.cells #[.int .i64 sr] 3)) w') => cell_later hb hs5)
  have hz5 : (w4.alloc (.cells #[.int .i64 sr] 3)).heap.size = w4.heap.size + 1 := by simp
  have HZ5 := mkHid hz5
  clear hz5 hs5
  generalize hW5 : w4.alloc (.cells #[.int .i64 sr] 3) = W5 at *
  obtain ⟨t0, t1⟩ := TP.later B5
  go_wp2_with fail
  ((with_reducible refine RC.out.mono ?_)); rintro e w6 ⟨rfl, hb6⟩
  have B6 := bon B5 hb6
  clear t0 t1 hW5 RC hr
  have hmf : ∀ (fn : Fn) (first cap : Array Value) (w : World), (Instr.makeFunc fn first cap).run Tryz.prog w = .ok (.func fn first cap) w := fun _ _ _ _ => rfl
  have AT := mkHid (attemptE_ok 22 ⟨w.heap.size + 1, 0, none⟩ ⟨w.heap.size, 0, none⟩ ⟨w4.heap.size, 0, none⟩ v w6 (enters_of Tryz.func22 (by kernel_rfl) rfl) (fun w7 hb7 => evalC_ok W t sr v (w.heap.size + 1) w.heap.size w4.heap.size w7 (HIN.out.later (bon B6 hb7)) (HTN.out.later (bon B6 hb7)) (TP.later (bon B6 hb7)) (TT.later (bon B6 hb7)) (HS5.out w7 (bon hb6 hb7)) C))
  clear C
  go_wp2_with fail
  ((with_reducible refine AT.out.mono ?_)); rintro e w8 ⟨a, c, rfl, ho, hb8⟩
  have BW := bon (bon hb3 B6) hb8
  have hz6 := hb6.size
  rw [HZ5.out] at hz6
  obtain ⟨x0, x1, x2, x3, x4, x5, x6, x7⟩ := F1.later (bon B6 hb8)
  go_wp2
  refine bodyPost_ret (v := .tuple #[.agg #[.int .i64 v.sort, .int .i64 v.n, .bool v.bb, .slice a v.l.length c], .int .i64 0]) (by simp [results, Tryz.results8, go_sem, x0, x1, x2, x3]) rfl ⟨a, c, rfl, ?_, ?_⟩
  · refine own_base (base := w6.heap.size) ?_ (by omega)
    refine own_put (own_put (own_put (own_put ho ?_ _) ?_ _) ?_ _) ?_ _ <;> (simp <;> omega)
  · (repeat (first | exact BW | (refine bset ?_ (by simp <;> omega) _)))
theorem eval_any (W : Wd) (t : Tm) (w : World) (hW : WIn w w.heap.size W) (ht : TIn w w.heap.size t) (hS : Shps w) :
    Calls Tryz.prog 8 #[t.val, W.val] w (EvalP (evalR W t) w) := by
  unfold evalR
  by_cases h : errR t = 0
  · rw [if_pos h]
    cases hr : rightB W
    · exact eval_wrong W t w hW ht hS h hr
    · obtain ⟨hz, -, hs, -⟩ := errR_zero h
      rcases valueR (ev_of (right_rt hr hW) t ht hs hz) (by omega) (srt_le t) with ⟨v, e, C⟩ | ⟨k, e, C⟩
      · simp only [if_true]; rw [e]; exact eval_ok W t w hW ht hS h hr C
      · simp only [if_true]; rw [e]; exact eval_err W t w hW ht hS h hr C
  · rw [if_neg h]
    exact eval_bad W t w hW ht hS h
end
section
open Go.RowKit

/-- is a name there, with a value of its sort? -/
def thereB (W : Wd) (x : ByteArray × Int) : Bool := (look W x.1 (shRow x.2.toNat).sort).isSome
theorem varss_mem {x : ByteArray × Int} : ∀ {ks : List Tm}, x ∈ Tm.varss ks ↔ ∃ k ∈ ks, x ∈ k.vars
  | [] => by simp [Tm.varss]
  | k :: ks => by simp [Tm.varss, varss_mem (ks := ks)]
theorem evs_ok_all {W : Wd} : ∀ {ks : List Tm} {vs : List Vv}, evs W ks = .ok vs → ∀ k ∈ ks, ∃ v, ev W k = .ok v
  | [], _, _, k, hk => by cases hk
  | k0 :: ks, vs, h, k, hk => by
    simp only [evs] at h
    split at h
    · cases h
    · rename_i v hv
      split at h
      · cases h
      · rename_i us hu
        rcases List.mem_cons.1 hk with rfl | hk
        · exact ⟨v, hv⟩
        · exact evs_ok_all hu k hk
theorem evs_err_ex {W : Wd} {e : Int} : ∀ {ks : List Tm}, evs W ks = .error e → ∃ k ∈ ks, ev W k = .error e
  | [], h => by cases h
  | k0 :: ks, h => by
    simp only [evs] at h
    split at h
    · rename_i e' hv
      cases h
      exact ⟨k0, by simp, hv⟩
    · split at h
      · rename_i e' hu
        cases h
        obtain ⟨k, hk, hk'⟩ := evs_err_ex hu
        exact ⟨k, by simp [hk], hk'⟩
      · cases h
theorem fitE_err {n e : Int} (h : fitE n = .error e) : e = 5 := by
  unfold fitE at h
  split at h
  · cases h
  · cases h; rfl
/-- only names make the error of names -/
theorem app_err {W : Wd} {j : Nat} {nm : ByteArray} {n : Int} {vs : List Vv} (h : app W j nm n vs = .error 4) : j = 2 ∨ j = 7 ∨ j = 14 ∨ j = 15 := by
  unfold app at h
  split at h <;> first | omega | (cases h; done) | (have := fitE_err h; omega) | simp at h
theorem app_name {W : Wd} {j : Nat} {nm : ByteArray} {n : Int} (h : j = 2 ∨ j = 7 ∨ j = 14 ∨ j = 15) (r : Except Int Vv) (hr : app W j nm n [] = r) : (∃ v, r = .ok v ∧ (look W nm (shRow j).sort).isSome = true) ∨ (r = .error 4 ∧ (look W nm (shRow j).sort).isSome = false) := by
  subst hr
  rcases h with rfl | rfl | rfl | rfl
  · show _ ∨ _
    cases hl : look W nm 1 with
    | none => exact .inr ⟨by show lookE (look W nm 1) _ = _; rw [hl]; rfl, by show (look W nm 1).isSome = false; rw [hl]; rfl⟩
    | some v => exact .inl ⟨_, by show lookE (look W nm 1) _ = _; rw [hl]; rfl, by show (look W nm 1).isSome = true; rw [hl]; rfl⟩
  · cases hl : look W nm 2 with
    | none => exact .inr ⟨by show lookE (look W nm 2) _ = _; rw [hl]; rfl, by show (look W nm 2).isSome = false; rw [hl]; rfl⟩
    | some v => exact .inl ⟨_, by show lookE (look W nm 2) _ = _; rw [hl]; rfl, by show (look W nm 2).isSome = true; rw [hl]; rfl⟩
  · cases hl : look W nm 3 with
    | none => exact .inr ⟨by show lookE (look W nm 3) _ = _; rw [hl]; rfl, by show (look W nm 3).isSome = false; rw [hl]; rfl⟩
    | some v => exact .inl ⟨_, by show lookE (look W nm 3) _ = _; rw [hl]; rfl, by show (look W nm 3).isSome = true; rw [hl]; rfl⟩
  · cases hl : look W nm 4 with
    | none => exact .inr ⟨by show lookE (look W nm 4) _ = _; rw [hl]; rfl, by show (look W nm 4).isSome = false; rw [hl]; rfl⟩
    | some v => exact .inl ⟨_, by show lookE (look W nm 4) _ = _; rw [hl]; rfl, by show (look W nm 4).isSome = true; rw [hl]; rfl⟩
theorem name_ops : ∀ j, j < 29 → (shRow j).name = true → (j = 2 ∨ j = 7 ∨ j = 14 ∨ j = 15) ∧ (shRow j).many = false ∧ (shRow j).count = 0 := by decide
theorem name_ops' : ∀ j, (j = 2 ∨ j = 7 ∨ j = 14 ∨ j = 15) → (shRow j).name = true := by
  intro j h; rcases h with rfl | rfl | rfl | rfl <;> rfl
theorem ev_names {W : Wd} : ∀ t : Tm, t.srt ≠ 0 → ((∃ v, ev W t = .ok v) → ∀ x ∈ t.vars, thereB W x = true) ∧ (ev W t = .error 4 → ∃ x ∈ t.vars, thereB W x = false) := by
  intro t
  induction t using Tm.ind with
  | h t ih =>
    intro hs
    obtain ⟨j, hj, j1, j2, -⟩ := srt_form hs
    obtain ⟨-, hk⟩ := srt_ops hs
    have ho : t.op.toNat = j := by omega
    cases hn : (shRow j).name
    · have hv : t.vars = Tm.varss t.ks := by rw [vars_eq, ho, hn]; rfl
      rw [hv]
      refine ⟨fun ⟨v, h⟩ x hx => ?_, fun h => ?_⟩
      · obtain ⟨k, hkm, hxk⟩ := varss_mem.1 hx
        rw [ev_eq] at h
        split at h
        · cases h
        · rename_i vs hvs
          exact (ih k hkm (hk k hkm)).1 (evs_ok_all hvs k hkm) x hxk
      · rw [ev_eq] at h
        split at h
        · rename_i e he
          cases h
          obtain ⟨k, hkm, hke⟩ := evs_err_ex he
          obtain ⟨x, hx, hx'⟩ := (ih k hkm (hk k hkm)).2 hke
          exact ⟨x, varss_mem.2 ⟨k, hkm, hx⟩, hx'⟩
        · have := app_err h
          rw [ho] at this
          rw [name_ops' j this] at hn
          cases hn
    · obtain ⟨h4, hm, hc⟩ := name_ops j (by omega) hn
      obtain ⟨hks, -⟩ := form0 j hs hj hm hc
      have hv : t.vars = [(t.nm, t.op)] := by rw [vars_eq, ho, hn, hks]; rfl
      rw [hv]
      have ha := app_name (W := W) (nm := t.nm) (n := t.n) h4 (ev W t) (by rw [ev0 hks, ho])
      have ht : thereB W (t.nm, t.op) = (look W t.nm (shRow j).sort).isSome := by unfold thereB; simp only; rw [ho]
      refine ⟨fun ⟨v, h⟩ x hx => ?_, fun h => ?_⟩
      · rw [List.mem_singleton] at hx
        subst hx
        rcases ha with ⟨v', h1, h2⟩ | ⟨h1, h2⟩
        · rw [ht]; exact h2
        · rw [h] at h1; cases h1
      · refine ⟨_, List.mem_singleton.2 rfl, ?_⟩
        rcases ha with ⟨v', h1, h2⟩ | ⟨h1, h2⟩
        · rw [h] at h1; cases h1
        · rw [ht]; exact h2
end
section
open Go.RowKit

/-- the same value, wherever its set stands -/
def SameV (v u : Vl) : Prop := v.sort = u.sort ∧ v.n = u.n ∧ v.b = u.b ∧ v.s = u.s
theorem SameV.refl (v : Vl) : SameV v v := ⟨rfl, rfl, rfl, rfl⟩
theorem SameV.symm {v u : Vl} (h : SameV v u) : SameV u v := ⟨h.1.symm, h.2.1.symm, h.2.2.1.symm, h.2.2.2.symm⟩
theorem SameV.trans {v u x : Vl} (h : SameV v u) (h' : SameV u x) : SameV v x := ⟨h.1.trans h'.1, h.2.1.trans h'.2.1, h.2.2.1.trans h'.2.2.1, h.2.2.2.trans h'.2.2.2⟩
inductive SameO : Option Vl → Option Vl → Prop
  | no : SameO none none
  | yes {v u : Vl} : SameV v u → SameO (some v) (some u)
theorem SameO.refl (o : Option Vl) : SameO o o := by cases o <;> first | exact .no | exact .yes (SameV.refl _)
theorem SameO.symm {o p : Option Vl} (h : SameO o p) : SameO p o := by cases h <;> first | exact .no | exact .yes (SameV.symm (by assumption))
theorem SameO.trans {o p q : Option Vl} (h : SameO o p) (h' : SameO p q) : SameO o q := by
  cases h with
  | no => exact h'
  | yes h => cases h' with
    | yes h' => exact .yes (h.trans h')
theorem SameO.none {o : Option Vl} (h : SameO o none) : o = none := by cases h; rfl
theorem findN_low {nm : ByteArray} {s : Int} {l : List Nd} {k : Nat} : findN nm s l k = -1 ∨ (k : Int) ≤ findN nm s l k := by
  induction l generalizing k with
  | nil => exact .inl rfl
  | cons x l ih =>
    unfold findN
    split
    · exact .inr (Int.le_refl _)
    · rcases ih (k := k + 1) with h | h
      · exact .inl h
      · exact .inr (by omega)
theorem findN_iff {nm : ByteArray} {s : Int} : ∀ {l : List Nd} {k j : Nat} (hj : j < l.length), (findN nm s l k = ((k + j : Nat) : Int) ↔ hitN nm s l[j] = true ∧ ∀ i (hi : i < j), hitN nm s l[i] = false)
  | [], _, _, hj => by simp at hj
  | x :: l, k, 0, hj => by
    unfold findN
    by_cases hx : hitN nm s x = true
    · simp [hx]
    · rw [if_neg hx]
      have := findN_low (nm := nm) (s := s) (l := l) (k := k + 1)
      simp only [List.getElem_cons_zero]
      constructor
      · intro h; omega
      · intro h; exact absurd h.1 hx
  | x :: l, k, j + 1, hj => by
    unfold findN
    by_cases hx : hitN nm s x = true
    · rw [if_pos hx]
      constructor
      · intro h; omega
      · intro h
        have := h.2 0 (by omega)
        simp only [List.getElem_cons_zero] at this
        rw [hx] at this; cases this
    · rw [if_neg hx, show k + (j + 1) = k + 1 + j by omega, findN_iff (l := l) (k := k + 1) (j := j) (by simpa using hj)]
      simp only [List.getElem_cons_succ]
      constructor
      · rintro ⟨h1, h2⟩
        refine ⟨h1, fun i hi => ?_⟩
        cases i with
        | zero => simpa using hx
        | succ i => simpa using h2 i (by omega)
      · rintro ⟨h1, h2⟩
        refine ⟨h1, fun i hi => ?_⟩
        have := h2 (i + 1) (by omega)
        simpa using this
theorem hit_self (x : Nd) : hitN x.nm x.v.sort x = true := by simp [hitN]
theorem hit_key {nm : ByteArray} {s : Int} {x y : Nd} (h1 : x.nm.toList = y.nm.toList) (h2 : x.v.sort = y.v.sort) : hitN nm s x = hitN nm s y := by
  unfold hitN; rw [h1, h2]

/-- the same name and value, wherever its set stands -/
def SameN (x y : Nd) : Prop := x.nm = y.nm ∧ SameV x.v y.v
theorem SameN.refl (x : Nd) : SameN x x := ⟨rfl, SameV.refl _⟩
/-- row by row -/
def SameL (l m : List Nd) : Prop := l.length = m.length ∧ ∀ i (h : i < l.length) (h' : i < m.length), SameN l[i] m[i]
theorem SameL.refl (l : List Nd) : SameL l l := ⟨rfl, fun _ _ _ => SameN.refl _⟩
theorem SameL.find {l m : List Nd} (h : SameL l m) (nm : ByteArray) (s : Int) : SameO ((l.find? (hitN nm s)).map Nd.v) ((m.find? (hitN nm s)).map Nd.v) := by
  obtain ⟨h1, h2⟩ := h
  induction l generalizing m with
  | nil => cases m with
    | nil => exact .no
    | cons y m => simp at h1
  | cons x l ih => cases m with
    | nil => simp at h1
    | cons y m =>
      have h0 := h2 0 (by simp) (by simp)
      simp only [List.getElem_cons_zero] at h0
      have e : hitN nm s x = hitN nm s y := hit_key (by rw [h0.1]) h0.2.1
      simp only [List.find?]
      rw [e]
      cases hitN nm s y
      · exact ih (by simpa using h1) (fun i hi hi' => by have := h2 (i + 1) (by simpa using hi) (by simpa using hi'); simpa using this)
      · exact .yes h0.2
/-- a row with a value put into it -/
def putN (y : Nd) : List Nd → List Nd
  | [] => [y]
  | x :: l => if hitN y.nm y.v.sort x then y :: l else x :: putN y l
theorem putN_no {y : Nd} : ∀ {l : List Nd} {k : Nat}, findN y.nm y.v.sort l k = -1 → putN y l = l ++ [y]
  | [], _, _ => rfl
  | x :: l, k, h => by
    unfold findN at h
    by_cases hx : hitN y.nm y.v.sort x = true
    · rw [if_pos hx] at h; omega
    · rw [if_neg hx] at h
      simp only [putN, if_neg hx, putN_no h, List.cons_append]
theorem putN_yes {y : Nd} : ∀ {l : List Nd} {k j : Nat}, findN y.nm y.v.sort l k = ((k + j : Nat) : Int) → putN y l = l.set j y
  | [], k, j, h => by simp only [findN] at h; omega
  | x :: l, k, j, h => by
    unfold findN at h
    by_cases hx : hitN y.nm y.v.sort x = true
    · rw [if_pos hx] at h
      obtain rfl : j = 0 := by omega
      simp only [putN, if_pos hx, List.set_cons_zero]
    · rw [if_neg hx] at h
      have hl := findN_low (nm := y.nm) (s := y.v.sort) (l := l) (k := k + 1)
      obtain ⟨i, rfl⟩ : ∃ i, j = i + 1 := ⟨j - 1, by omega⟩
      simp only [putN, if_neg hx, List.set_cons_succ]
      rw [putN_yes (l := l) (k := k + 1) (j := i) (by rw [h]; congr 1; omega)]
theorem putN_self (y : Nd) : ∀ l : List Nd, (putN y l).find? (hitN y.nm y.v.sort) = some y
  | [] => by simp [putN, hit_self]
  | x :: l => by
    by_cases hx : hitN y.nm y.v.sort x = true
    · simp only [putN, if_pos hx, List.find?, hit_self]
    · simp only [putN, if_neg hx, List.find?]
      rw [putN_self y l]
      simp [hx]
theorem putN_other {y : Nd} {nm : ByteArray} {s : Int} (hy : hitN nm s y = false) : ∀ l : List Nd, (putN y l).find? (hitN nm s) = l.find? (hitN nm s)
  | [] => by simp [putN, List.find?, hy]
  | x :: l => by
    by_cases hx : hitN y.nm y.v.sort x = true
    · have e : hitN nm s x = hitN nm s y := by
        unfold hitN at hx ⊢
        simp only [Bool.and_eq_true, beq_iff_eq] at hx
        rw [hx.1, hx.2]
      simp only [putN, if_pos hx, List.find?, hy, e]
    · simp only [putN, if_neg hx, List.find?]
      rw [putN_other hy l]
theorem own_lat_again1 {w w' : World} {base e s n : Nat} {v : Value} {xs : List Value} (h : w.ownsRow base e s v n xs) (hb : Below w.heap.size w w') : w'.ownsRow base e s v n xs := by
  refine ⟨h.1, ?_⟩
  rcases h.2 with h0 | ⟨g, cap, cur, hv, hbg, hg, hr⟩
  · exact .inl h0
  · exact .inr ⟨g, cap, cur, hv, hbg, by rw [hb.block g (Array.getElem?_eq_some_iff.1 hg).1]; exact hg, hr⟩
/-- a store into a block of another kind -/
theorem own_putk {w : World} {base e s n T : Nat} {v : Value} {xs : List Value} (h : w.ownsRow base e s v n xs) {p : Addr} {c : Array Value} {fz : Nat × Nat} (hp : w.heap[p.block]? = some (.cells c T fz)) (hne : T ≠ e) (u : Value) : (w.setCell p u).ownsRow base e s v n xs := by
  refine ⟨h.1, ?_⟩
  rcases h.2 with h0 | ⟨g, cap, cur, hv, hbg, hg, hr⟩
  · exact .inl h0
  · refine .inr ⟨g, cap, cur, hv, hbg, ?_, hr⟩
    rw [Below.heap_setCell w p u g (by rintro rfl; rw [hp] at hg; simp at hg; exact hne hg.2.1)]
    exact hg
/-- the five cells of a named value -/
def nd5 (x : Nd) : List Value := [.string x.nm, .int .i64 x.v.sort, .int .i64 x.v.n, .bool x.v.b, .slice x.v.a x.v.s.length x.v.c]
def nds (l : List Nd) : List Value := l.flatMap nd5
theorem nds_append (l r : List Nd) : nds (l ++ r) = nds l ++ nds r := by simp [nds]
theorem nds_one (x : Nd) : nds [x] = nd5 x := by simp [nds]
theorem nds_len (l : List Nd) : (nds l).length = l.length * 5 := by
  induction l with
  | nil => rfl
  | cons x l ih => simp only [nds, List.flatMap_cons, List.length_append] at *; rw [ih]; simp [nd5]; omega
theorem nd5_one (x : Nd) : ∀ u ∈ nd5 x, u.oneCell' = true := by
  intro u hu
  unfold nd5 at hu
  simp at hu
  rcases hu with rfl | rfl | rfl | rfl | rfl <;> rfl
theorem nds_get (m : List Nd) (k i : Nat) (hk : k < m.length) (hi : i < 5) : (nds m)[k * 5 + i]? = (nd5 m[k])[i]? := by
  induction m generalizing k with
  | nil => simp at hk
  | cons x m ih =>
    have e : nds (x :: m) = nd5 x ++ nds m := rfl
    rw [e]
    cases k with
    | zero => simp only [Nat.zero_mul, Nat.zero_add]; rw [List.getElem?_append_left (by simp [nd5]; omega)]; rfl
    | succ k =>
      rw [List.getElem?_append_right (by simp [nd5]; omega)]
      have : (k + 1) * 5 + i - (nd5 x).length = k * 5 + i := by simp [nd5]; omega
      rw [this, ih k (by simpa using hk)]
      rfl
theorem nds_set (m : List Nd) (k : Nat) (y : Nd) (hk : k < m.length) : nds (m.set k y) = ((((((nds m).set (k * 5) (.string y.nm)).set (k * 5 + 1) (.int .i64 y.v.sort)).set (k * 5 + 2) (.int .i64 y.v.n)).set (k * 5 + 3) (.bool y.v.b)).set (k * 5 + 4) (.slice y.v.a y.v.s.length y.v.c)) := by
  induction m generalizing k with
  | nil => simp at hk
  | cons x m ih =>
    have e : nds (x :: m) = nd5 x ++ nds m := rfl
    cases k with
    | zero => simp [nds, nd5]
    | succ k =>
      have hl : (nd5 x).length = 5 := rfl
      rw [List.set_cons_succ]
      have e2 : nds (x :: m.set k y) = nd5 x ++ nds (m.set k y) := rfl
      rw [e2, ih k (by simpa using hk), e]
      have r : ∀ (a b : List Value) (i : Nat) (v : Value), a.length = 5 → (a ++ b).set ((k + 1) * 5 + i) v = a ++ b.set (k * 5 + i) v := by
        intro a b i v ha
        rw [List.set_append_right _ _ (by omega)]
        congr 2
        omega
      have r0 : ∀ (a b : List Value) (v : Value), a.length = 5 → (a ++ b).set ((k + 1) * 5) v = a ++ b.set (k * 5) v := fun a b v ha => r a b 0 v ha
      rw [r0 _ _ _ hl, r _ _ 1 _ hl, r _ _ 2 _ hl, r _ _ 3 _ hl, r _ _ 4 _ hl]
theorem nd_info : (Tryz.prog.info? 57).map (fun i => (i.zero, i.size, i.bytes)) = some (some (.agg #[.string ⟨#[]⟩, .int .i64 0, .int .i64 0, .bool false, .slice none 0 0]), 5, 64) := by kernel_rfl
theorem nd_parts : ∃ i, Tryz.prog.info? 57 = some i ∧ i.zero = some (.agg #[.string ⟨#[]⟩, .int .i64 0, .int .i64 0, .bool false, .slice none 0 0]) ∧ i.size = 5 ∧ i.bytes = 64 := by
  obtain ⟨i, hi, he⟩ := Option.map_eq_some_iff.1 nd_info
  simp only [Prod.mk.injEq] at he
  exact ⟨i, hi, he.1, he.2.1, he.2.2⟩
theorem own_kind {w : World} {B e s n g : Nat} {v : Value} {xs : List Value} (h : w.ownsRow B e s v n xs) (hg : v.ownBlock = some g) : ∃ c, w.heap[g]? = some (.cells c e (0, 0)) := by
  rcases h.2 with ⟨rfl, -⟩ | ⟨g', cap, cur, rfl, -, hgg, -⟩
  · simp [Value.ownBlock] at hg
  · simp only [Value.ownBlock, Option.some.injEq] at hg
    subst hg
    exact ⟨cur, hgg⟩
/-- rows of two kinds stand apart -/
theorem own_apart {w : World} {B B' e e' s s' n n' : Nat} {v u : Value} {xs ys : List Value} (h : w.ownsRow B e s v n xs) (h' : w.ownsRow B' e' s' u n' ys) (hne : e ≠ e') : v.ownBlock = none ∨ v.ownBlock ≠ u.ownBlock := by
  cases hv : v.ownBlock with
  | none => exact .inl rfl
  | some g =>
    refine .inr fun hu => ?_
    obtain ⟨c, h1⟩ := own_kind h hv
    obtain ⟨c', h2⟩ := own_kind h' hu.symm
    rw [h1] at h2
    simp at h2
    exact hne h2.2
/-- a row of named values -/
structure NRow (w : World) (base : Nat) (v : Value) (l : List Nd) : Prop where
  row : w.ownsRow base 57 5 v l.length (nds l)
  own : ∀ x ∈ l, Own w base x.v.a x.v.c x.v.s
  fit : ∀ x ∈ l, x.nm.size ≤ maxLen ∧ fitB x.v.sort = true ∧ fitB x.v.n = true
theorem NRow.later {w w' : World} {base : Nat} {v : Value} {l : List Nd} (h : NRow w base v l) (hb : Below w.heap.size w w') : NRow w' base v l := ⟨own_lat h.row hb, fun x hx => own_lat (h.own x hx) hb, h.fit⟩
theorem NRow.put {w : World} {base : Nat} {v : Value} {l : List Nd} (h : NRow w base v l) {p : Addr} (hp : p.block < base) (u : Value) : NRow (w.setCell p u) base v l := ⟨own_put h.row hp u, fun x hx => own_put (h.own x hx) hp u, h.fit⟩
theorem NRow.putk {w : World} {base T : Nat} {v : Value} {l : List Nd} (h : NRow w base v l) {p : Addr} {c : Array Value} {fz : Nat × Nat} (hp : w.heap[p.block]? = some (.cells c T fz)) (h1 : T ≠ 57) (h2 : T ≠ 4) (u : Value) : NRow (w.setCell p u) base v l := ⟨own_putk h.row hp h1 u, fun x hx => own_putk (h.own x hx) hp h2 u, h.fit⟩
theorem NRow.base {w : World} {base base' : Nat} {v : Value} {l : List Nd} (h : NRow w base v l) (hb : base' ≤ base) : NRow w base' v l := ⟨own_base h.row hb, fun x hx => own_base (h.own x hx) hb, h.fit⟩
/-- behind an append -/
theorem NRow.grown {w w' : World} {base : Nat} {v v' : Value} {l : List Nd} {y : Nd} (h : NRow w base v l) (hr : w'.ownsRow base 57 5 v' (l.length + 1) (nds l ++ nd5 y)) (hg : w.grownBy w' v.ownBlock) (hy : Own w base y.v.a y.v.c y.v.s) (hf : y.nm.size ≤ maxLen ∧ fitB y.v.sort = true ∧ fitB y.v.n = true) : NRow w' base v' (l ++ [y]) := by
  have hk : ∀ x : Nd, Own w base x.v.a x.v.c x.v.s → Own w' base x.v.a x.v.c x.v.s := fun x hx => hx.kept hg (own_apart hx h.row (by decide))
  refine ⟨?_, fun x hx => ?_, fun x hx => ?_⟩
  · rw [List.length_append, nds_append, nds_one]
    exact hr
  · rcases List.mem_append.1 hx with hx | hx
    · exact hk x (h.own x hx)
    · rw [List.mem_singleton.1 hx]; exact hk y hy
  · rcases List.mem_append.1 hx with hx | hx
    · exact h.fit x hx
    · rw [List.mem_singleton.1 hx]; exact hf
/-- behind a store of a whole -/
theorem NRow.store {w : World} {base g n cap : Nat} {l : List Nd} (h : NRow w base (.slice (some ⟨g, 0, none⟩) n cap) l) (hn : l.length = n) (k : Nat) (hk : k < n) (y : Nd) (hy : Own w base y.v.a y.v.c y.v.s) (hf : y.nm.size ≤ maxLen ∧ fitB y.v.sort = true ∧ fitB y.v.n = true) :
    NRow (((((w.setCell ⟨g, k * 5, none⟩ (.string y.nm)).setCell ⟨g, k * 5 + 1, none⟩ (.int .i64 y.v.sort)).setCell ⟨g, k * 5 + 2, none⟩ (.int .i64 y.v.n)).setCell ⟨g, k * 5 + 3, none⟩ (.bool y.v.b)).setCell ⟨g, k * 5 + 4, none⟩ (.slice y.v.a y.v.s.length y.v.c)) base (.slice (some ⟨g, 0, none⟩) n cap) (l.set k y) := by
  have hr := h.row
  rw [hn] at hr
  have hset : ∀ (w1 : World) (o : Nat) (u : Value) (z : Nd), (∃ c, w1.heap[g]? = some (.cells c 57 (0, 0))) → Own w1 base z.v.a z.v.c z.v.s → Own (w1.setCell ⟨g, o, none⟩ u) base z.v.a z.v.c z.v.s := by
    intro w1 o u z ⟨c, hc⟩ hz
    refine ⟨hz.1, ?_⟩
    rcases hz.2 with h0 | ⟨g', cp, cur, e, hb, hgg, rest⟩
    · exact .inl h0
    · refine .inr ⟨g', cp, cur, e, hb, ?_, rest⟩
      rw [Below.heap_setCell w1 ⟨g, o, none⟩ u g' (by rintro rfl; rw [hc] at hgg; simp at hgg)]
      exact hgg
  have r0 := hr
  have r1 := (r0.stored (k * 5) (.string y.nm)).1
  have r2 := (r1.stored (k * 5 + 1) (.int .i64 y.v.sort)).1
  have r3 := (r2.stored (k * 5 + 2) (.int .i64 y.v.n)).1
  have r4 := (r3.stored (k * 5 + 3) (.bool y.v.b)).1
  have r5 := (r4.stored (k * 5 + 4) (.slice y.v.a y.v.s.length y.v.c)).1
  have hall : ∀ z : Nd, Own w base z.v.a z.v.c z.v.s → Own (((((w.setCell ⟨g, k * 5, none⟩ (.string y.nm)).setCell ⟨g, k * 5 + 1, none⟩ (.int .i64 y.v.sort)).setCell ⟨g, k * 5 + 2, none⟩ (.int .i64 y.v.n)).setCell ⟨g, k * 5 + 3, none⟩ (.bool y.v.b)).setCell ⟨g, k * 5 + 4, none⟩ (.slice y.v.a y.v.s.length y.v.c)) base z.v.a z.v.c z.v.s := fun z hz =>
    hset _ _ _ z (own_kind r4 rfl) (hset _ _ _ z (own_kind r3 rfl) (hset _ _ _ z (own_kind r2 rfl) (hset _ _ _ z (own_kind r1 rfl) (hset _ _ _ z (own_kind r0 rfl) hz))))
  refine ⟨?_, fun x hx => ?_, fun x hx => ?_⟩
  · rw [List.length_set, hn, nds_set l k y (by omega)]
    exact r5
  · rcases List.mem_or_eq_of_mem_set hx with hx | rfl
    · exact hall x (h.own x hx)
    · exact hall _ hy
  · rcases List.mem_or_eq_of_mem_set hx with hx | rfl
    · exact h.fit x hx
    · exact hf
theorem NRow.at_ {w : World} {base g n cap : Nat} {l : List Nd} (h : NRow w base (.slice (some ⟨g, 0, none⟩) n cap) l) (hn : l.length = n) (k : Nat) (hk : k < l.length) : NdAt w g (k * 5) l[k] := by
  have hr := h.row
  rw [hn] at hr
  have c : ∀ i, i < 5 → w.cell? ⟨g, k * 5 + i, none⟩ = (nd5 l[k])[i]? := fun i hi => by
    rw [hr.cellAt (k * 5 + i) (by omega), nds_get l k i hk hi]
  exact ⟨c 0 (by omega), c 1 (by omega), c 2 (by omega), c 3 (by omega), c 4 (by omega)⟩
/-- such a row is that of a world -/
theorem NRow.win {w : World} {base : Nat} {a : Option Addr} {c : Nat} {l : List Nd} (h : NRow w base (.slice a l.length c) l) {nodes : Int} (hnd : fitB nodes = true) : WIn w w.heap.size ⟨nodes, a, c, l⟩ := by
  have hv : ∀ x ∈ l, x.nm.size ≤ maxLen ∧ VIn w w.heap.size x.v := fun x hx => by
    obtain ⟨f1, f2, f3⟩ := h.fit x hx
    have o := h.own x hx
    exact ⟨f1, f2, f3, o.cap.1, o.cap.2, o.bin⟩
  rcases h.row.2 with ⟨e, h0⟩ | ⟨g, cap, cur, e, hb, hg, hc, hm, -⟩
  · simp only [Value.slice.injEq] at e
    obtain ⟨rfl, -, rfl⟩ := e
    exact ⟨hnd, by show l.length ≤ 0; omega, by show 0 ≤ maxLen; omega, fun j hj => by have : j < l.length := hj; omega, hv⟩
  · simp only [Value.slice.injEq, true_and] at e
    obtain ⟨rfl, rfl⟩ := e
    refine ⟨hnd, hc, hm, fun j hj => ⟨g, 0, rfl, (Array.getElem?_eq_some_iff.1 hg).1, ?_⟩, hv⟩
    have := h.at_ rfl j hj
    rw [Nat.zero_add]; exact this
/-- the box of a world -/
def BoxC (w : World) (C : Nat) (nodes : Int) (v : Value) : Prop := w.heap[C]? = some (.cells #[.int .i64 nodes, v] 28 (0, 0))
theorem BoxC.lt {w : World} {C : Nat} {nodes : Int} {v : Value} (h : BoxC w C nodes v) : C < w.heap.size := (Array.getElem?_eq_some_iff.1 h).1
theorem BoxC.later {w w' : World} {C : Nat} {nodes : Int} {v : Value} (h : BoxC w C nodes v) (hb : Below w.heap.size w w') : BoxC w' C nodes v := by
  unfold BoxC; rw [hb.block C h.lt]; exact h
theorem BoxC.cells {w : World} {C : Nat} {nodes : Int} {v : Value} (h : BoxC w C nodes v) : w.cell? ⟨C, 0, none⟩ = some (.int .i64 nodes) ∧ w.cell? ⟨C, 1, none⟩ = some v ∧ w.frozen? ⟨C, 0, none⟩ = false ∧ w.frozen? ⟨C, 1, none⟩ = false := by
  unfold BoxC at h
  refine ⟨by rw [cell_of_row w C 0 _ _ _ h]; rfl, by rw [cell_of_row w C 1 _ _ _ h]; rfl, ?_, ?_⟩
  · simp [World.frozen?, h]
  · simp [World.frozen?, h]
theorem BoxC.set1 {w : World} {C : Nat} {nodes : Int} {v : Value} (h : BoxC w C nodes v) (u : Value) : BoxC (w.setCell ⟨C, 1, none⟩ u) C nodes u := by
  unfold BoxC at *
  simp only [World.setCell, Array.getElem?_modify, if_pos, h]
  simp
theorem BoxC.grown {w w' : World} {C base : Nat} {nodes : Int} {v u : Value} {l : List Nd} (h : BoxC w C nodes v) (hr : NRow w base u l) (hg : w.grownBy w' u.ownBlock) : BoxC w' C nodes v := by
  have hlt := h.lt
  unfold BoxC at *
  rw [hg.block C hlt (fun e => by
    obtain ⟨c, hc⟩ := own_kind hr.row e.symm
    rw [h] at hc
    simp at hc)]
  exact h
end
section
open Go.RowKit Go.Shelf

theorem lookE_same {o p : Option Vl} (h : SameO o p) {f : Vl → Vv} (hf : ∀ v u, SameV v u → f v = f u) : lookE o f = lookE p f := by
  cases h with
  | no => rfl
  | yes h => simp only [lookE]; rw [hf _ _ h]
theorem app_same {W V : Wd} (hn : W.nodes = V.nodes) {j : Nat} {nm : ByteArray} {n : Int} {vs : List Vv} (h : (shRow j).name = true → SameO (look W nm (shRow j).sort) (look V nm (shRow j).sort)) : app W j nm n vs = app V j nm n vs := by
  unfold app
  split
  all_goals first
    | rfl
    | exact lookE_same (h rfl) (fun v u k => by simp only [k.2.1])
    | exact lookE_same (h rfl) (fun v u k => by simp only [k.2.2.1])
    | exact lookE_same (h rfl) (fun v u k => by simp only [k.2.2.2])
    | simp only [hn]
theorem ev_same {W V : Wd} (hn : W.nodes = V.nodes) : ∀ t : Tm, (∀ x ∈ t.vars, SameO (look W x.1 (shRow x.2.toNat).sort) (look V x.1 (shRow x.2.toNat).sort)) → ev W t = ev V t := by
  intro t
  induction t using Tm.ind with
  | h t ih =>
    intro h
    have hks : ∀ ks : List Tm, (∀ k ∈ ks, ev W k = ev V k) → evs W ks = evs V ks := by
      intro ks
      induction ks with
      | nil => intro _; rfl
      | cons k ks ihk =>
        intro h
        simp only [evs]
        rw [h k (by simp), ihk (fun q hq => h q (by simp [hq]))]
    rw [vars_eq] at h
    rw [ev_eq, ev_eq, hks t.ks (fun k hk => ih k hk (fun x hx => h x (by rw [List.mem_append]; exact .inr (varss_mem.2 ⟨k, hk, hx⟩))))]
    cases evs V t.ks with
    | error e => rfl
    | ok vs =>
      exact app_same hn (fun hr => h (t.nm, t.op) (by rw [hr]; simp))
theorem evalR_same {W V : Wd} (hn : W.nodes = V.nodes) (hr : rightB W = rightB V) {t : Tm} (h : ∀ x ∈ t.vars, SameO (look W x.1 (shRow x.2.toNat).sort) (look V x.1 (shRow x.2.toNat).sort)) : evalR W t = evalR V t := by
  unfold evalR
  rw [hr, ev_same hn t h]

theorem rightL_iff {W : Wd} : ∀ {l : List Nd} {k : Nat}, rightL W l k = true ↔ ∀ i (hi : i < l.length), rightN W (k + i) l[i] = true
  | [], k => by simp [rightL]
  | x :: l, k => by
    simp only [rightL, Bool.and_eq_true]
    rw [rightL_iff (l := l) (k := k + 1)]
    constructor
    · rintro ⟨h1, h2⟩ i hi
      cases i with
      | zero => simpa using h1
      | succ i =>
        have := h2 i (by simpa using hi)
        rw [show k + 1 + i = k + (i + 1) by omega] at this
        simpa using this
    · intro h
      refine ⟨by have := h 0 (by simp); simpa using this, fun i hi => ?_⟩
      have := h (i + 1) (by simpa using hi)
      rw [show k + (i + 1) = k + 1 + i by omega] at this
      simpa using this
theorem right_iff (W : Wd) : rightB W = true ↔ (1 ≤ W.nodes ∧ W.nodes ≤ 64 ∧ W.l.length ≤ 64) ∧ (∀ i (hi : i < W.l.length), nameB W.l[i].nm = true ∧ holdsV W.nodes W.l[i].v = true) ∧ ∀ j (hj : j < W.l.length) i (hi : i < j), hitN W.l[j].nm W.l[j].v.sort W.l[i] = false := by
  simp only [rightB, Bool.and_eq_true, decide_eq_true_eq]
  rw [rightL_iff]
  have key : (∀ i (hi : i < W.l.length), rightN W (0 + i) W.l[i] = true) ↔ (∀ i (hi : i < W.l.length), nameB W.l[i].nm = true ∧ holdsV W.nodes W.l[i].v = true) ∧ ∀ j (hj : j < W.l.length) i (hi : i < j), hitN W.l[j].nm W.l[j].v.sort W.l[i] = false := by
    constructor
    · intro h
      refine ⟨fun i hi => ?_, fun j hj i hi => ?_⟩
      · have := h i hi
        simp only [rightN, Bool.and_eq_true] at this
        exact this.1
      · have := h j hj
        simp only [rightN, Bool.and_eq_true, beq_iff_eq] at this
        have e := (findN_iff (k := 0) hj).1 this.2
        exact e.2 i hi
    · rintro ⟨h1, h2⟩ i hi
      simp only [rightN, Bool.and_eq_true, beq_iff_eq]
      exact ⟨h1 i hi, (findN_iff (k := 0) hi).2 ⟨hit_self _, fun j hj => h2 i hi j hj⟩⟩
  rw [key]
  constructor
  · rintro ⟨⟨⟨h1, h2⟩, h3⟩, h4⟩; exact ⟨⟨h1, h2, h3⟩, h4⟩
  · rintro ⟨⟨h1, h2, h3⟩, h4⟩; exact ⟨⟨⟨h1, h2⟩, h3⟩, h4⟩
end
section
open Go.RowKit Go.Shelf


/-- what a looked up value is, by its sort -/
def projS (s : Nat) (v : Vl) : Vv := match s with
  | 1 => .i v.n
  | 2 => .s v.s
  | 3 => .d v.n
  | _ => .b v.b
theorem ev_name {V : Wd} {t : Tm} (h : t.srt ≠ 0) (hs : nsN t.op ≠ 0) : ev V t = lookE (look V t.nm (nsN t.op)) (projS (nsN t.op)) := by
  obtain ⟨hks, ho⟩ := name_none h hs
  rw [ev0 hks]
  rcases ho with e | e | e | e <;> rw [e] <;> rfl
theorem projS_same (s : Nat) {v u : Vl} (h : SameV v u) : projS s v = projS s u := by
  unfold projS
  split
  · rw [h.2.1]
  · rw [h.2.2.2]
  · rw [h.2.1]
  · rw [h.2.2.1]
/-- what was put has the value that the term has in a world with the values -/
theorem ev_rp {W V : Wd} {F : ByteArray → Int → Option Tm} (hn : W.nodes = V.nodes) (h1 : ∀ nm (s : Nat) x, F nm (s : Int) = some x → ev W x = lookE (look V nm (s : Int)) (projS s)) (h2 : ∀ nm (s : Nat), F nm (s : Int) = none → SameO (look W nm (s : Int)) (look V nm (s : Int))) : ∀ t : Tm, t.srt ≠ 0 → ev W (rp F t) = ev V t := by
  intro t
  induction t using Tm.ind with
  | h t ih =>
    intro h
    by_cases hs : nsN t.op = 0
    · have hks := (srt_ops h).2
      have hev : ∀ ks : List Tm, (∀ k ∈ ks, ev W (rp F k) = ev V k) → evs W (ks.map (rp F)) = evs V ks := by
        intro ks
        induction ks with
        | nil => intro _; rfl
        | cons k ks ihk =>
          intro h
          simp only [List.map_cons, evs]
          rw [h k (by simp), ihk (fun q hq => h q (by simp [hq]))]
      rw [rp_part hs, ev_eq, ev_eq V t]
      show (match evs W (t.ks.map (rp F)) with | Except.error k => (Except.error k : Except Int Vv) | Except.ok vs => app W t.op.toNat t.nm t.n vs) = _
      rw [hev t.ks (fun k hk => ih k hk (hks k hk))]
      cases evs V t.ks with
      | error e => rfl
      | ok vs =>
        refine app_same hn (fun hr => ?_)
        obtain ⟨j, hj, j1, j2, -⟩ := srt_form h
        have := nsN_row j (by omega) j1
        rw [← hj, hs] at this
        have ho : t.op.toNat = j := by omega
        have hr : (shRow t.op.toNat).name = true := hr
        rw [ho] at hr
        rw [if_pos hr] at this
        have hp : 1 ≤ (shRow j).sort := by
          have : ∀ i : Nat, i < 29 → 1 ≤ i → (shRow i).name = true → 1 ≤ (shRow i).sort := by decide
          exact this j (by omega) j1 hr
        omega
    · rw [rp_name hs, ev_name h hs]
      cases hF : F t.nm (nsN t.op : Int) with
      | none =>
        show ev W t.er = _
        rw [er_ev, ev_name h hs]
        exact lookE_same (h2 _ _ hF) (fun v u k => projS_same _ k)
      | some x =>
        show ev W x.er = _
        rw [er_ev]
        exact h1 _ _ _ hF
end
end Go.Proofs.YtdfebacjbapahaaGreatDoor
