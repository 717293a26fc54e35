/-
  What 'value', 'attempt' and 'Eval' of package eval answer.
-/
import Derived.Test.YtlobffjgkhcjbaaDoorEvI
import Derived.Test.YtlobffjgkhcjbaaDoorEvJ
namespace Go.Proofs.YtlobffjgkhcjbaaDoor
open Go.RowKit Go.Shelf

def Vv.sort : Vv → Int
  | .i _ => 1
  | .s _ => 2
  | .d _ => 3
  | .b _ => 4
def Vv.n : Vv → Int
  | .i n => n
  | .d n => n
  | _ => 0
def Vv.bb : Vv → Bool
  | .b x => x
  | _ => false
def Vv.l : Vv → List Bool
  | .s l => l
  | _ => []
/-- a value is answered, its set in memory of its own -/
def RetV (v : Vv) (w : World) (e : Ending) (w' : World) : Prop := ∃ a c, e = .returned (.agg #[.int .i64 v.sort, .int .i64 v.n, .bool v.bb, .slice a v.l.length c]) ∧ Own w' w.heap.size a c v.l ∧ Below w.heap.size w w'
def CallsV (W : Wd) (t : Tm) (s : Int) (P : World → Ending → World → Prop) : Prop := ∀ w : World, WIn w w.heap.size W → TIn w w.heap.size t → Calls Tryd.prog 75 #[W.val, t.val, .int .i64 s] w (P w)
set_option maxRecDepth 100000 in
set_option maxHeartbeats 2000000 in
theorem val1_ok (W : Wd) (t : Tm) (n : Int) (C : CallsN W t (RetI n)) : CallsV W t 1 (RetV (.i n)) := by
  intro w hW ht
  have hb2 : Below w.heap.size w ((((w.alloc (boxP W)).alloc (boxT t)).alloc (.cells #[.int .i64 0, .int .i64 0, .bool false, .slice none 0 0] 54)).alloc (.cells #[.int .i64 1, .int .i64 0, .bool false, .slice none 0 0] 54)) := bal (bal (bal (bal (Below.refl _ _) _) _) _) _
  have F1 : FourV ((((w.alloc (boxP W)).alloc (boxT t)).alloc (.cells #[.int .i64 0, .int .i64 0, .bool false, .slice none 0 0] 54)).alloc (.cells #[.int .i64 1, .int .i64 0, .bool false, .slice none 0 0] 54)) (w.heap.size + 1 + 1) (.int .i64 0) (.int .i64 0) (.bool false) (.slice none 0 0) := by simp [FourV, go_sem]
  have F2 : FourV ((((w.alloc (boxP W)).alloc (boxT t)).alloc (.cells #[.int .i64 0, .int .i64 0, .bool false, .slice none 0 0] 54)).alloc (.cells #[.int .i64 1, .int .i64 0, .bool false, .slice none 0 0] 54)) (w.heap.size + 1 + 1 + 1) (.int .i64 1) (.int .i64 0) (.bool false) (.slice none 0 0) := by simp [FourV, go_sem]
  have CC := mkHid (C _ (hW.later hb2) (ht.later hb2))
  have hX : w.heap.size + 1 + 1 + 1 < ((((w.alloc (boxP W)).alloc (boxT t)).alloc (.cells #[.int .i64 0, .int .i64 0, .bool false, .slice none 0 0] 54)).alloc (.cells #[.int .i64 1, .int .i64 0, .bool false, .slice none 0 0] 54)).heap.size := by simp
  unfold boxP boxT at *
  unfold Wd.val Tm.val at *
  clear hW ht C
  go_enter Tryd.func75, Tryd.ntmps75
  go_wp2_with fail
  ((with_reducible refine CC.out.mono ?_)); rintro e w3 ⟨rfl, hb3⟩
  have BW := bon hb2 hb3
  obtain ⟨x0, x1, x2, x3, x4, x5, x6, x7⟩ := F1.later hb3
  obtain ⟨y0, y1, y2, y3, y4, y5, y6, y7⟩ := F2.later hb3
  go_wp2
  refine bodyPost_ret (v := .agg #[.int .i64 1, .int .i64 n, .bool false, .slice none 0 0]) (by simp [results, Tryd.results75, go_sem, x0, x1, x2, x3]) rfl ⟨none, 0, rfl, ?_, ?_⟩
  · exact World.ownsRow_nil _ _ _ _
  · (repeat (first | exact BW | (refine bset ?_ (by simp <;> omega) _)))
set_option maxRecDepth 100000 in
set_option maxHeartbeats 2000000 in
theorem val1_e (W : Wd) (t : Tm) (k : Int) (C : CallsN W t (PanK k)) : CallsV W t 1 (PanK k) := by
  intro w hW ht
  have hb2 : Below w.heap.size w ((((w.alloc (boxP W)).alloc (boxT t)).alloc (.cells #[.int .i64 0, .int .i64 0, .bool false, .slice none 0 0] 54)).alloc (.cells #[.int .i64 1, .int .i64 0, .bool false, .slice none 0 0] 54)) := bal (bal (bal (bal (Below.refl _ _) _) _) _) _
  have F1 : FourV ((((w.alloc (boxP W)).alloc (boxT t)).alloc (.cells #[.int .i64 0, .int .i64 0, .bool false, .slice none 0 0] 54)).alloc (.cells #[.int .i64 1, .int .i64 0, .bool false, .slice none 0 0] 54)) (w.heap.size + 1 + 1) (.int .i64 0) (.int .i64 0) (.bool false) (.slice none 0 0) := by simp [FourV, go_sem]
  have F2 : FourV ((((w.alloc (boxP W)).alloc (boxT t)).alloc (.cells #[.int .i64 0, .int .i64 0, .bool false, .slice none 0 0] 54)).alloc (.cells #[.int .i64 1, .int .i64 0, .bool false, .slice none 0 0] 54)) (w.heap.size + 1 + 1 + 1) (.int .i64 1) (.int .i64 0) (.bool false) (.slice none 0 0) := by simp [FourV, go_sem]
  have CC := mkHid (C _ (hW.later hb2) (ht.later hb2))
  have hX : w.heap.size + 1 + 1 + 1 < ((((w.alloc (boxP W)).alloc (boxT t)).alloc (.cells #[.int .i64 0, .int .i64 0, .bool false, .slice none 0 0] 54)).alloc (.cells #[.int .i64 1, .int .i64 0, .bool false, .slice none 0 0] 54)).heap.size := by simp
  unfold boxP boxT at *
  unfold Wd.val Tm.val at *
  clear hW ht C
  go_enter Tryd.func75, Tryd.ntmps75
  go_wp2_with fail
  ((with_reducible refine CC.out.mono ?_)); rintro e w3 ⟨rfl, hb3⟩
  exact ⟨rfl, rfl, bon hb2 hb3⟩
set_option maxRecDepth 100000 in
set_option maxHeartbeats 2000000 in
theorem val2_ok (W : Wd) (t : Tm) (l : List Bool) (C : CallsS W t (RetS l)) : CallsV W t 2 (RetV (.s l)) := by
  intro w hW ht
  have hb2 : Below w.heap.size w ((((w.alloc (boxP W)).alloc (boxT t)).alloc (.cells #[.int .i64 0, .int .i64 0, .bool false, .slice none 0 0] 54)).alloc (.cells #[.int .i64 2, .int .i64 0, .bool false, .slice none 0 0] 54)) := bal (bal (bal (bal (Below.refl _ _) _) _) _) _
  have F1 : FourV ((((w.alloc (boxP W)).alloc (boxT t)).alloc (.cells #[.int .i64 0, .int .i64 0, .bool false, .slice none 0 0] 54)).alloc (.cells #[.int .i64 2, .int .i64 0, .bool false, .slice none 0 0] 54)) (w.heap.size + 1 + 1) (.int .i64 0) (.int .i64 0) (.bool false) (.slice none 0 0) := by simp [FourV, go_sem]
  have F2 : FourV ((((w.alloc (boxP W)).alloc (boxT t)).alloc (.cells #[.int .i64 0, .int .i64 0, .bool false, .slice none 0 0] 54)).alloc (.cells #[.int .i64 2, .int .i64 0, .bool false, .slice none 0 0] 54)) (w.heap.size + 1 + 1 + 1) (.int .i64 2) (.int .i64 0) (.bool false) (.slice none 0 0) := by simp [FourV, go_sem]
  have CC := mkHid (C _ (hW.later hb2) (ht.later hb2))
  have hX : w.heap.size + 1 + 1 + 1 < ((((w.alloc (boxP W)).alloc (boxT t)).alloc (.cells #[.int .i64 0, .int .i64 0, .bool false, .slice none 0 0] 54)).alloc (.cells #[.int .i64 2, .int .i64 0, .bool false, .slice none 0 0] 54)).heap.size := by simp
  unfold boxP boxT at *
  unfold Wd.val Tm.val at *
  clear hW ht C
  go_enter Tryd.func75, Tryd.ntmps75
  go_wp2_with fail
  ((with_reducible refine CC.out.mono ?_)); rintro e w3 ⟨g, c, rfl, ho, hb3⟩
  have BW := bon hb2 hb3
  obtain ⟨x0, x1, x2, x3, x4, x5, x6, x7⟩ := F1.later hb3
  obtain ⟨y0, y1, y2, y3, y4, y5, y6, y7⟩ := F2.later hb3
  go_wp2
  refine bodyPost_ret (v := .agg #[.int .i64 2, .int .i64 0, .bool false, .slice (some ⟨g, 0, none⟩) l.length c]) (by simp [results, Tryd.results75, go_sem, x0, x1, x2, x3]) rfl ⟨some ⟨g, 0, none⟩, c, rfl, ?_, ?_⟩
  · refine own_base (base := w.heap.size + 1 + 1 + 1 + 1) ?_ (by omega)
    have ho := own_base (base' := w.heap.size + 1 + 1 + 1 + 1) ho (by simp)
    refine own_put (own_put (own_put (own_put (own_put ho ?_ _) ?_ _) ?_ _) ?_ _) ?_ _ <;> (simp <;> omega)
  · (repeat (first | exact BW | (refine bset ?_ (by simp <;> omega) _)))
set_option maxRecDepth 100000 in
set_option maxHeartbeats 2000000 in
theorem val2_e (W : Wd) (t : Tm) (k : Int) (C : CallsS W t (PanK k)) : CallsV W t 2 (PanK k) := by
  intro w hW ht
  have hb2 : Below w.heap.size w ((((w.alloc (boxP W)).alloc (boxT t)).alloc (.cells #[.int .i64 0, .int .i64 0, .bool false, .slice none 0 0] 54)).alloc (.cells #[.int .i64 2, .int .i64 0, .bool false, .slice none 0 0] 54)) := bal (bal (bal (bal (Below.refl _ _) _) _) _) _
  have F1 : FourV ((((w.alloc (boxP W)).alloc (boxT t)).alloc (.cells #[.int .i64 0, .int .i64 0, .bool false, .slice none 0 0] 54)).alloc (.cells #[.int .i64 2, .int .i64 0, .bool false, .slice none 0 0] 54)) (w.heap.size + 1 + 1) (.int .i64 0) (.int .i64 0) (.bool false) (.slice none 0 0) := by simp [FourV, go_sem]
  have F2 : FourV ((((w.alloc (boxP W)).alloc (boxT t)).alloc (.cells #[.int .i64 0, .int .i64 0, .bool false, .slice none 0 0] 54)).alloc (.cells #[.int .i64 2, .int .i64 0, .bool false, .slice none 0 0] 54)) (w.heap.size + 1 + 1 + 1) (.int .i64 2) (.int .i64 0) (.bool false) (.slice none 0 0) := by simp [FourV, go_sem]
  have CC := mkHid (C _ (hW.later hb2) (ht.later hb2))
  have hX : w.heap.size + 1 + 1 + 1 < ((((w.alloc (boxP W)).alloc (boxT t)).alloc (.cells #[.int .i64 0, .int .i64 0, .bool false, .slice none 0 0] 54)).alloc (.cells #[.int .i64 2, .int .i64 0, .bool false, .slice none 0 0] 54)).heap.size := by simp
  unfold boxP boxT at *
  unfold Wd.val Tm.val at *
  clear hW ht C
  go_enter Tryd.func75, Tryd.ntmps75
  go_wp2_with fail
  ((with_reducible refine CC.out.mono ?_)); rintro e w3 ⟨rfl, hb3⟩
  exact ⟨rfl, rfl, bon hb2 hb3⟩
set_option maxRecDepth 100000 in
set_option maxHeartbeats 2000000 in
theorem val3_ok (W : Wd) (t : Tm) (n : Int) (C : CallsD W t (RetI n)) : CallsV W t 3 (RetV (.d n)) := by
  intro w hW ht
  have hb2 : Below w.heap.size w ((((w.alloc (boxP W)).alloc (boxT t)).alloc (.cells #[.int .i64 0, .int .i64 0, .bool false, .slice none 0 0] 54)).alloc (.cells #[.int .i64 3, .int .i64 0, .bool false, .slice none 0 0] 54)) := bal (bal (bal (bal (Below.refl _ _) _) _) _) _
  have F1 : FourV ((((w.alloc (boxP W)).alloc (boxT t)).alloc (.cells #[.int .i64 0, .int .i64 0, .bool false, .slice none 0 0] 54)).alloc (.cells #[.int .i64 3, .int .i64 0, .bool false, .slice none 0 0] 54)) (w.heap.size + 1 + 1) (.int .i64 0) (.int .i64 0) (.bool false) (.slice none 0 0) := by simp [FourV, go_sem]
  have F2 : FourV ((((w.alloc (boxP W)).alloc (boxT t)).alloc (.cells #[.int .i64 0, .int .i64 0, .bool false, .slice none 0 0] 54)).alloc (.cells #[.int .i64 3, .int .i64 0, .bool false, .slice none 0 0] 54)) (w.heap.size + 1 + 1 + 1) (.int .i64 3) (.int .i64 0) (.bool false) (.slice none 0 0) := by simp [FourV, go_sem]
  have CC := mkHid (C _ (hW.later hb2) (ht.later hb2))
  have hX : w.heap.size + 1 + 1 + 1 < ((((w.alloc (boxP W)).alloc (boxT t)).alloc (.cells #[.int .i64 0, .int .i64 0, .bool false, .slice none 0 0] 54)).alloc (.cells #[.int .i64 3, .int .i64 0, .bool false, .slice none 0 0] 54)).heap.size := by simp
  unfold boxP boxT at *
  unfold Wd.val Tm.val at *
  clear hW ht C
  go_enter Tryd.func75, Tryd.ntmps75
  go_wp2_with fail
  ((with_reducible refine CC.out.mono ?_)); rintro e w3 ⟨rfl, hb3⟩
  have BW := bon hb2 hb3
  obtain ⟨x0, x1, x2, x3, x4, x5, x6, x7⟩ := F1.later hb3
  obtain ⟨y0, y1, y2, y3, y4, y5, y6, y7⟩ := F2.later hb3
  go_wp2
  refine bodyPost_ret (v := .agg #[.int .i64 3, .int .i64 n, .bool false, .slice none 0 0]) (by simp [results, Tryd.results75, go_sem, x0, x1, x2, x3]) rfl ⟨none, 0, rfl, ?_, ?_⟩
  · exact World.ownsRow_nil _ _ _ _
  · (repeat (first | exact BW | (refine bset ?_ (by simp <;> omega) _)))
set_option maxRecDepth 100000 in
set_option maxHeartbeats 2000000 in
theorem val3_e (W : Wd) (t : Tm) (k : Int) (C : CallsD W t (PanK k)) : CallsV W t 3 (PanK k) := by
  intro w hW ht
  have hb2 : Below w.heap.size w ((((w.alloc (boxP W)).alloc (boxT t)).alloc (.cells #[.int .i64 0, .int .i64 0, .bool false, .slice none 0 0] 54)).alloc (.cells #[.int .i64 3, .int .i64 0, .bool false, .slice none 0 0] 54)) := bal (bal (bal (bal (Below.refl _ _) _) _) _) _
  have F1 : FourV ((((w.alloc (boxP W)).alloc (boxT t)).alloc (.cells #[.int .i64 0, .int .i64 0, .bool false, .slice none 0 0] 54)).alloc (.cells #[.int .i64 3, .int .i64 0, .bool false, .slice none 0 0] 54)) (w.heap.size + 1 + 1) (.int .i64 0) (.int .i64 0) (.bool false) (.slice none 0 0) := by simp [FourV, go_sem]
  have F2 : FourV ((((w.alloc (boxP W)).alloc (boxT t)).alloc (.cells #[.int .i64 0, .int .i64 0, .bool false, .slice none 0 0] 54)).alloc (.cells #[.int .i64 3, .int .i64 0, .bool false, .slice none 0 0] 54)) (w.heap.size + 1 + 1 + 1) (.int .i64 3) (.int .i64 0) (.bool false) (.slice none 0 0) := by simp [FourV, go_sem]
  have CC := mkHid (C _ (hW.later hb2) (ht.later hb2))
  have hX : w.heap.size + 1 + 1 + 1 < ((((w.alloc (boxP W)).alloc (boxT t)).alloc (.cells #[.int .i64 0, .int .i64 0, .bool false, .slice none 0 0] 54)).alloc (.cells #[.int .i64 3, .int .i64 0, .bool false, .slice none 0 0] 54)).heap.size := by simp
  unfold boxP boxT at *
  unfold Wd.val Tm.val at *
  clear hW ht C
  go_enter Tryd.func75, Tryd.ntmps75
  go_wp2_with fail
  ((with_reducible refine CC.out.mono ?_)); rintro e w3 ⟨rfl, hb3⟩
  exact ⟨rfl, rfl, bon hb2 hb3⟩
set_option maxRecDepth 100000 in
set_option maxHeartbeats 2000000 in
theorem val4_ok (W : Wd) (t : Tm) (x : Bool) (C : CallsB W t (RetB x)) : CallsV W t 4 (RetV (.b x)) := by
  intro w hW ht
  have hb2 : Below w.heap.size w ((((w.alloc (boxP W)).alloc (boxT t)).alloc (.cells #[.int .i64 0, .int .i64 0, .bool false, .slice none 0 0] 54)).alloc (.cells #[.int .i64 4, .int .i64 0, .bool false, .slice none 0 0] 54)) := bal (bal (bal (bal (Below.refl _ _) _) _) _) _
  have F1 : FourV ((((w.alloc (boxP W)).alloc (boxT t)).alloc (.cells #[.int .i64 0, .int .i64 0, .bool false, .slice none 0 0] 54)).alloc (.cells #[.int .i64 4, .int .i64 0, .bool false, .slice none 0 0] 54)) (w.heap.size + 1 + 1) (.int .i64 0) (.int .i64 0) (.bool false) (.slice none 0 0) := by simp [FourV, go_sem]
  have F2 : FourV ((((w.alloc (boxP W)).alloc (boxT t)).alloc (.cells #[.int .i64 0, .int .i64 0, .bool false, .slice none 0 0] 54)).alloc (.cells #[.int .i64 4, .int .i64 0, .bool false, .slice none 0 0] 54)) (w.heap.size + 1 + 1 + 1) (.int .i64 4) (.int .i64 0) (.bool false) (.slice none 0 0) := by simp [FourV, go_sem]
  have CC := mkHid (C _ (hW.later hb2) (ht.later hb2))
  have hX : w.heap.size + 1 + 1 + 1 < ((((w.alloc (boxP W)).alloc (boxT t)).alloc (.cells #[.int .i64 0, .int .i64 0, .bool false, .slice none 0 0] 54)).alloc (.cells #[.int .i64 4, .int .i64 0, .bool false, .slice none 0 0] 54)).heap.size := by simp
  unfold boxP boxT at *
  unfold Wd.val Tm.val at *
  clear hW ht C
  go_enter Tryd.func75, Tryd.ntmps75
  go_wp2_with fail
  ((with_reducible refine CC.out.mono ?_)); rintro e w3 ⟨rfl, hb3⟩
  have BW := bon hb2 hb3
  obtain ⟨x0, x1, x2, x3, x4, x5, x6, x7⟩ := F1.later hb3
  obtain ⟨y0, y1, y2, y3, y4, y5, y6, y7⟩ := F2.later hb3
  go_wp2
  refine bodyPost_ret (v := .agg #[.int .i64 4, .int .i64 0, .bool x, .slice none 0 0]) (by simp [results, Tryd.results75, go_sem, x0, x1, x2, x3]) rfl ⟨none, 0, rfl, ?_, ?_⟩
  · exact World.ownsRow_nil _ _ _ _
  · (repeat (first | exact BW | (refine bset ?_ (by simp <;> omega) _)))
set_option maxRecDepth 100000 in
set_option maxHeartbeats 2000000 in
theorem val4_e (W : Wd) (t : Tm) (k : Int) (C : CallsB W t (PanK k)) : CallsV W t 4 (PanK k) := by
  intro w hW ht
  have hb2 : Below w.heap.size w ((((w.alloc (boxP W)).alloc (boxT t)).alloc (.cells #[.int .i64 0, .int .i64 0, .bool false, .slice none 0 0] 54)).alloc (.cells #[.int .i64 4, .int .i64 0, .bool false, .slice none 0 0] 54)) := bal (bal (bal (bal (Below.refl _ _) _) _) _) _
  have F1 : FourV ((((w.alloc (boxP W)).alloc (boxT t)).alloc (.cells #[.int .i64 0, .int .i64 0, .bool false, .slice none 0 0] 54)).alloc (.cells #[.int .i64 4, .int .i64 0, .bool false, .slice none 0 0] 54)) (w.heap.size + 1 + 1) (.int .i64 0) (.int .i64 0) (.bool false) (.slice none 0 0) := by simp [FourV, go_sem]
  have F2 : FourV ((((w.alloc (boxP W)).alloc (boxT t)).alloc (.cells #[.int .i64 0, .int .i64 0, .bool false, .slice none 0 0] 54)).alloc (.cells #[.int .i64 4, .int .i64 0, .bool false, .slice none 0 0] 54)) (w.heap.size + 1 + 1 + 1) (.int .i64 4) (.int .i64 0) (.bool false) (.slice none 0 0) := by simp [FourV, go_sem]
  have CC := mkHid (C _ (hW.later hb2) (ht.later hb2))
  have hX : w.heap.size + 1 + 1 + 1 < ((((w.alloc (boxP W)).alloc (boxT t)).alloc (.cells #[.int .i64 0, .int .i64 0, .bool false, .slice none 0 0] 54)).alloc (.cells #[.int .i64 4, .int .i64 0, .bool false, .slice none 0 0] 54)).heap.size := by simp
  unfold boxP boxT at *
  unfold Wd.val Tm.val at *
  clear hW ht C
  go_enter Tryd.func75, Tryd.ntmps75
  go_wp2_with fail
  ((with_reducible refine CC.out.mono ?_)); rintro e w3 ⟨rfl, hb3⟩
  exact ⟨rfl, rfl, bon hb2 hb3⟩
end Go.Proofs.YtlobffjgkhcjbaaDoor
