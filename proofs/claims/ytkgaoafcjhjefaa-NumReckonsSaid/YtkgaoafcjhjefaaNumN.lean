/-
  The contracts of package num's calls on rats: Make, Plus, Minus, Times, Over, Whole, Cmp, Floor, Ceil.
-/
import Derived.Test.YtkgaoafcjhjefaaNumL
namespace Go.Proofs.Ytkgaoafcjhjefaa
open Go.RowKit Go.Shelf

def plusO : Option Rat → Option Rat → Option Rat | some a, some b => told (a + b) | _, _ => none
def minusO : Option Rat → Option Rat → Option Rat | some a, some b => told (a - b) | _, _ => none
def timesO : Option Rat → Option Rat → Option Rat | some a, some b => told (a * b) | _, _ => none
def overO : Option Rat → Option Rat → Option Rat | some a, some b => if b = 0 then none else told (a / b) | _, _ => none
def makeO (p q : Int) : Option Rat := if q = 0 then none else told (Rat.divInt p q)

theorem tc_vp (o : Option Rat) : tc o.isSome (vp o) = vp o := by cases o <;> rfl
theorem tc_vq (o : Option Rat) : tc o.isSome (vq o) = vq o := by cases o <;> rfl
theorem out_told {r : Rat} {w : World} {e : Ending} {w' : World} (h : Out (rok r) (.agg #[.int .i64 r.num, .int .i64 (r.den : Int)]) w e w') :
    Out (told r).isSome (.agg #[.int .i64 (vp (told r)), .int .i64 (vq (told r))]) w e w' := by
  cases hr : rok r
  · rw [told_none hr]; rw [hr] at h
    rcases h with ⟨h, _⟩ | h
    · cases h
    · exact Or.inr h
  · rw [told_some hr]; rw [hr] at h; exact h

theorem plusC_any (bp bq : Nat) (o1 o2 : Option Rat) (w : World) (h1 : Fits o1) (h2 : Fits o2)
    (cp0 : w.cell? ⟨bp, 0, none⟩ = some (.int .i64 (vp o1))) (cp1 : w.cell? ⟨bp, 1, none⟩ = some (.int .i64 (vq o1))) (cq0 : w.cell? ⟨bq, 0, none⟩ = some (.int .i64 (vp o2))) (cq1 : w.cell? ⟨bq, 1, none⟩ = some (.int .i64 (vq o2))) :
    Calls Try.prog 63 #[.pointer (some ⟨bp, 0, none⟩), .pointer (some ⟨bq, 0, none⟩)] w (Out (plusO o1 o2).isSome (.agg #[.int .i64 (vp (plusO o1 o2)), .int .i64 (vq (plusO o1 o2))]) w) := by
  have bad : (o1.isSome && o2.isSome) = false → Calls Try.prog 63 #[.pointer (some ⟨bp, 0, none⟩), .pointer (some ⟨bq, 0, none⟩)] w (Out false (.agg #[.int .i64 0, .int .i64 0]) w) := fun hb =>
    plusC_none bp bq _ _ _ _ _ w h1.vp h1.vq h2.vp h2.vq (by rw [vq_pos, vq_pos]; exact hb) cp0 cp1 cq0 cq1
  match o1, o2 with
  | some a, some b => exact (plusC_some bp bq a b w (h1 a rfl) (h2 b rfl) cp0 cp1 cq0 cq1).mono fun _ _ h => out_told h
  | none, some _ => exact bad rfl
  | some _, none => exact bad rfl
  | none, none => exact bad rfl
theorem minusC_any (bp bq : Nat) (o1 o2 : Option Rat) (w : World) (h1 : Fits o1) (h2 : Fits o2)
    (cp0 : w.cell? ⟨bp, 0, none⟩ = some (.int .i64 (vp o1))) (cp1 : w.cell? ⟨bp, 1, none⟩ = some (.int .i64 (vq o1))) (cq0 : w.cell? ⟨bq, 0, none⟩ = some (.int .i64 (vp o2))) (cq1 : w.cell? ⟨bq, 1, none⟩ = some (.int .i64 (vq o2))) :
    Calls Try.prog 66 #[.pointer (some ⟨bp, 0, none⟩), .pointer (some ⟨bq, 0, none⟩)] w (Out (minusO o1 o2).isSome (.agg #[.int .i64 (vp (minusO o1 o2)), .int .i64 (vq (minusO o1 o2))]) w) := by
  have bad : (o1.isSome && o2.isSome) = false → Calls Try.prog 66 #[.pointer (some ⟨bp, 0, none⟩), .pointer (some ⟨bq, 0, none⟩)] w (Out false (.agg #[.int .i64 0, .int .i64 0]) w) := fun hb =>
    minusC_none bp bq _ _ _ _ _ w h1.vp h1.vq h2.vp h2.vq (by rw [vq_pos, vq_pos]; exact hb) cp0 cp1 cq0 cq1
  match o1, o2 with
  | some a, some b => exact (minusC_some bp bq a b w (h1 a rfl) (h2 b rfl) cp0 cp1 cq0 cq1).mono fun _ _ h => out_told h
  | none, some _ => exact bad rfl
  | some _, none => exact bad rfl
  | none, none => exact bad rfl
theorem timesC_any (bp bq : Nat) (o1 o2 : Option Rat) (w : World) (h1 : Fits o1) (h2 : Fits o2)
    (cp0 : w.cell? ⟨bp, 0, none⟩ = some (.int .i64 (vp o1))) (cp1 : w.cell? ⟨bp, 1, none⟩ = some (.int .i64 (vq o1))) (cq0 : w.cell? ⟨bq, 0, none⟩ = some (.int .i64 (vp o2))) (cq1 : w.cell? ⟨bq, 1, none⟩ = some (.int .i64 (vq o2))) :
    Calls Try.prog 67 #[.pointer (some ⟨bp, 0, none⟩), .pointer (some ⟨bq, 0, none⟩)] w (Out (timesO o1 o2).isSome (.agg #[.int .i64 (vp (timesO o1 o2)), .int .i64 (vq (timesO o1 o2))]) w) := by
  have bad : (o1.isSome && o2.isSome) = false → Calls Try.prog 67 #[.pointer (some ⟨bp, 0, none⟩), .pointer (some ⟨bq, 0, none⟩)] w (Out false (.agg #[.int .i64 0, .int .i64 0]) w) := fun hb =>
    timesC_none bp bq _ _ _ _ _ w h1.vp h1.vq h2.vp h2.vq (by show (decide _ && decide _) = false; rw [vq_pos, vq_pos]; exact hb) cp0 cp1 cq0 cq1
  match o1, o2 with
  | some a, some b => exact (timesC_some bp bq a b w (h1 a rfl) (h2 b rfl) cp0 cp1 cq0 cq1).mono fun _ _ h => out_told h
  | none, some _ => exact bad rfl
  | some _, none => exact bad rfl
  | none, none => exact bad rfl
theorem overC_any (bp bq : Nat) (o1 o2 : Option Rat) (w : World) (h1 : Fits o1) (h2 : Fits o2)
    (cp0 : w.cell? ⟨bp, 0, none⟩ = some (.int .i64 (vp o1))) (cp1 : w.cell? ⟨bp, 1, none⟩ = some (.int .i64 (vq o1))) (cq0 : w.cell? ⟨bq, 0, none⟩ = some (.int .i64 (vp o2))) (cq1 : w.cell? ⟨bq, 1, none⟩ = some (.int .i64 (vq o2))) :
    Calls Try.prog 70 #[.pointer (some ⟨bp, 0, none⟩), .pointer (some ⟨bq, 0, none⟩)] w (Out (overO o1 o2).isSome (.agg #[.int .i64 (vp (overO o1 o2)), .int .i64 (vq (overO o1 o2))]) w) := by
  have bad : (o1.isSome && o2.isSome) = false → Calls Try.prog 70 #[.pointer (some ⟨bp, 0, none⟩), .pointer (some ⟨bq, 0, none⟩)] w (Out false (.agg #[.int .i64 0, .int .i64 0]) w) := fun hb =>
    overC_none bp bq _ _ _ _ _ w h1.vp h1.vq h2.vp h2.vq (by show (decide _ && (decide _ && _)) = false; rw [vq_pos, vq_pos, ← Bool.and_assoc, hb]; rfl) cp0 cp1 cq0 cq1
  match o1, o2 with
  | some a, some b =>
    by_cases hz : b = 0
    · have e : overO (some a) (some b) = none := by simp [overO, hz]
      rw [e]
      exact overC_none bp bq _ _ _ _ _ w h1.vp h1.vq h2.vp h2.vq (by show (decide _ && (decide _ && _)) = false; simp [hz, vp, szI]) cp0 cp1 cq0 cq1
    · have e : overO (some a) (some b) = told (a / b) := by simp [overO, hz]
      rw [e]
      exact (overC_some bp bq a b w (h1 a rfl) (h2 b rfl) hz cp0 cp1 cq0 cq1).mono fun _ _ h => out_told h
  | none, some _ => exact bad rfl
  | some _, none => exact bad rfl
  | none, none => exact bad rfl
theorem makeC_any (bp bq : Nat) (p q : Int) (w : World) (fp : fitB p = true) (fq : fitB q = true) (cp : w.cell? ⟨bp, 0, none⟩ = some (.int .i64 p)) (cq : w.cell? ⟨bq, 0, none⟩ = some (.int .i64 q)) :
    Calls Try.prog 62 #[.pointer (some ⟨bq, 0, none⟩), .pointer (some ⟨bp, 0, none⟩)] w (Out (makeO p q).isSome (.agg #[.int .i64 (vp (makeO p q)), .int .i64 (vq (makeO p q))]) w) := by
  by_cases hz : q = 0
  · have e : makeO p q = none := by simp [makeO, hz]
    rw [e]
    exact makeC_none bp bq _ w (hz ▸ cq)
  · have e : makeO p q = told (Rat.divInt p q) := by simp [makeO, hz]
    rw [e]
    exact (makeC_some bp bq p q w fp fq hz cp cq).mono fun _ _ h => out_told h
theorem fits_make (p q : Int) : Fits (makeO p q) := by
  unfold makeO; split
  · exact fits_none
  · exact fits_told _
theorem fits_plus (o1 o2 : Option Rat) : Fits (plusO o1 o2) := by
  cases o1 <;> cases o2 <;> first | exact fits_none | exact fits_told _
theorem fits_minus (o1 o2 : Option Rat) : Fits (minusO o1 o2) := by
  cases o1 <;> cases o2 <;> first | exact fits_none | exact fits_told _
theorem fits_times (o1 o2 : Option Rat) : Fits (timesO o1 o2) := by
  cases o1 <;> cases o2 <;> first | exact fits_none | exact fits_told _
theorem fits_over (o1 o2 : Option Rat) : Fits (overO o1 o2) := by
  match o1, o2 with
  | some a, some b =>
    show Fits (if b = 0 then none else told (a / b))
    split
    · exact fits_none
    · exact fits_told _
  | none, some _ => exact fits_none
  | some _, none => exact fits_none
  | none, none => exact fits_none

set_option maxHeartbeats 400000 in
theorem plusR (o1 o2 : Option Rat) (w : World) (h1 : Fits o1) (h2 : Fits o2) :
    Calls Try.prog 30 #[.agg #[.int .i64 (vp o1), .int .i64 (vq o1)], .agg #[.int .i64 (vp o2), .int .i64 (vq o2)]] w fun e w' => e = .returned (.tuple #[.agg #[.int .i64 (vp (plusO o1 o2)), .int .i64 (vq (plusO o1 o2))], .bool (plusO o1 o2).isSome]) ∧ Below w.heap.size w w' := by
  have hmf : ∀ (fn : Fn) (first cap : Array Value) (w : World), (Instr.makeFunc fn first cap).run Try.prog w = .ok (.func fn first cap) w := fun _ _ _ _ => rfl
  go_enter Try.func30, Try.ntmps30
  go_wp2_with fail
  refine (attemptR_any 63 ⟨w.heap.size, 0, none⟩ ⟨w.heap.size + 1, 0, none⟩ (plusO o1 o2).isSome (vp (plusO o1 o2)) (vq (plusO o1 o2)) _ (enters_of Try.func63 (by kernel_rfl) rfl) ?_).mono ?_
  · intro w1 hb1
    exact plusC_any _ _ o1 o2 w1 h1 h2 (cell_later hb1 (by simp [go_sem])) (cell_later hb1 (by simp [go_sem])) (cell_later hb1 (by simp [go_sem])) (cell_later hb1 (by simp [go_sem]))
  rintro e w1 ⟨rfl, hb1⟩
  rw [tc_vp, tc_vq]
  obtain ⟨c0, c1, f0, f1⟩ : Two w1 (w.heap.size + 2) (.int .i64 0) (.int .i64 0) := Two.later hb1 (by simp [Two, go_sem])
  go_wp2
  exact bodyPost_ret (v := .tuple #[.agg #[.int .i64 (vp (plusO o1 o2)), .int .i64 (vq (plusO o1 o2))], .bool (plusO o1 o2).isSome]) (by simp [results, Try.results30, go_sem, c0, c1]) rfl ⟨rfl, (by repeat (first | exact Below.refl _ _ | (refine bset ?_ (by simp <;> omega) _) | (refine bon ?_ (by assumption)) | refine bdrew ?_ | refine bal ?_ _))⟩

set_option maxHeartbeats 400000 in
theorem minusR (o1 o2 : Option Rat) (w : World) (h1 : Fits o1) (h2 : Fits o2) :
    Calls Try.prog 31 #[.agg #[.int .i64 (vp o1), .int .i64 (vq o1)], .agg #[.int .i64 (vp o2), .int .i64 (vq o2)]] w fun e w' => e = .returned (.tuple #[.agg #[.int .i64 (vp (minusO o1 o2)), .int .i64 (vq (minusO o1 o2))], .bool (minusO o1 o2).isSome]) ∧ Below w.heap.size w w' := by
  have hmf : ∀ (fn : Fn) (first cap : Array Value) (w : World), (Instr.makeFunc fn first cap).run Try.prog w = .ok (.func fn first cap) w := fun _ _ _ _ => rfl
  go_enter Try.func31, Try.ntmps31
  go_wp2_with fail
  refine (attemptR_any 66 ⟨w.heap.size, 0, none⟩ ⟨w.heap.size + 1, 0, none⟩ (minusO o1 o2).isSome (vp (minusO o1 o2)) (vq (minusO o1 o2)) _ (enters_of Try.func66 (by kernel_rfl) rfl) ?_).mono ?_
  · intro w1 hb1
    exact minusC_any _ _ o1 o2 w1 h1 h2 (cell_later hb1 (by simp [go_sem])) (cell_later hb1 (by simp [go_sem])) (cell_later hb1 (by simp [go_sem])) (cell_later hb1 (by simp [go_sem]))
  rintro e w1 ⟨rfl, hb1⟩
  rw [tc_vp, tc_vq]
  obtain ⟨c0, c1, f0, f1⟩ : Two w1 (w.heap.size + 2) (.int .i64 0) (.int .i64 0) := Two.later hb1 (by simp [Two, go_sem])
  go_wp2
  exact bodyPost_ret (v := .tuple #[.agg #[.int .i64 (vp (minusO o1 o2)), .int .i64 (vq (minusO o1 o2))], .bool (minusO o1 o2).isSome]) (by simp [results, Try.results31, go_sem, c0, c1]) rfl ⟨rfl, (by repeat (first | exact Below.refl _ _ | (refine bset ?_ (by simp <;> omega) _) | (refine bon ?_ (by assumption)) | refine bdrew ?_ | refine bal ?_ _))⟩

set_option maxHeartbeats 400000 in
theorem timesR (o1 o2 : Option Rat) (w : World) (h1 : Fits o1) (h2 : Fits o2) :
    Calls Try.prog 32 #[.agg #[.int .i64 (vp o1), .int .i64 (vq o1)], .agg #[.int .i64 (vp o2), .int .i64 (vq o2)]] w fun e w' => e = .returned (.tuple #[.agg #[.int .i64 (vp (timesO o1 o2)), .int .i64 (vq (timesO o1 o2))], .bool (timesO o1 o2).isSome]) ∧ Below w.heap.size w w' := by
  have hmf : ∀ (fn : Fn) (first cap : Array Value) (w : World), (Instr.makeFunc fn first cap).run Try.prog w = .ok (.func fn first cap) w := fun _ _ _ _ => rfl
  go_enter Try.func32, Try.ntmps32
  go_wp2_with fail
  refine (attemptR_any 67 ⟨w.heap.size, 0, none⟩ ⟨w.heap.size + 1, 0, none⟩ (timesO o1 o2).isSome (vp (timesO o1 o2)) (vq (timesO o1 o2)) _ (enters_of Try.func67 (by kernel_rfl) rfl) ?_).mono ?_
  · intro w1 hb1
    exact timesC_any _ _ o1 o2 w1 h1 h2 (cell_later hb1 (by simp [go_sem])) (cell_later hb1 (by simp [go_sem])) (cell_later hb1 (by simp [go_sem])) (cell_later hb1 (by simp [go_sem]))
  rintro e w1 ⟨rfl, hb1⟩
  rw [tc_vp, tc_vq]
  obtain ⟨c0, c1, f0, f1⟩ : Two w1 (w.heap.size + 2) (.int .i64 0) (.int .i64 0) := Two.later hb1 (by simp [Two, go_sem])
  go_wp2
  exact bodyPost_ret (v := .tuple #[.agg #[.int .i64 (vp (timesO o1 o2)), .int .i64 (vq (timesO o1 o2))], .bool (timesO o1 o2).isSome]) (by simp [results, Try.results32, go_sem, c0, c1]) rfl ⟨rfl, (by repeat (first | exact Below.refl _ _ | (refine bset ?_ (by simp <;> omega) _) | (refine bon ?_ (by assumption)) | refine bdrew ?_ | refine bal ?_ _))⟩

set_option maxHeartbeats 400000 in
theorem overR (o1 o2 : Option Rat) (w : World) (h1 : Fits o1) (h2 : Fits o2) :
    Calls Try.prog 33 #[.agg #[.int .i64 (vp o1), .int .i64 (vq o1)], .agg #[.int .i64 (vp o2), .int .i64 (vq o2)]] w fun e w' => e = .returned (.tuple #[.agg #[.int .i64 (vp (overO o1 o2)), .int .i64 (vq (overO o1 o2))], .bool (overO o1 o2).isSome]) ∧ Below w.heap.size w w' := by
  have hmf : ∀ (fn : Fn) (first cap : Array Value) (w : World), (Instr.makeFunc fn first cap).run Try.prog w = .ok (.func fn first cap) w := fun _ _ _ _ => rfl
  go_enter Try.func33, Try.ntmps33
  go_wp2_with fail
  refine (attemptR_any 70 ⟨w.heap.size, 0, none⟩ ⟨w.heap.size + 1, 0, none⟩ (overO o1 o2).isSome (vp (overO o1 o2)) (vq (overO o1 o2)) _ (enters_of Try.func70 (by kernel_rfl) rfl) ?_).mono ?_
  · intro w1 hb1
    exact overC_any _ _ o1 o2 w1 h1 h2 (cell_later hb1 (by simp [go_sem])) (cell_later hb1 (by simp [go_sem])) (cell_later hb1 (by simp [go_sem])) (cell_later hb1 (by simp [go_sem]))
  rintro e w1 ⟨rfl, hb1⟩
  rw [tc_vp, tc_vq]
  obtain ⟨c0, c1, f0, f1⟩ : Two w1 (w.heap.size + 2) (.int .i64 0) (.int .i64 0) := Two.later hb1 (by simp [Two, go_sem])
  go_wp2
  exact bodyPost_ret (v := .tuple #[.agg #[.int .i64 (vp (overO o1 o2)), .int .i64 (vq (overO o1 o2))], .bool (overO o1 o2).isSome]) (by simp [results, Try.results33, go_sem, c0, c1]) rfl ⟨rfl, (by repeat (first | exact Below.refl _ _ | (refine bset ?_ (by simp <;> omega) _) | (refine bon ?_ (by assumption)) | refine bdrew ?_ | refine bal ?_ _))⟩

set_option maxHeartbeats 400000 in
theorem makeR (p q : Int) (w : World) (h1 : fitB p = true) (h2 : fitB q = true) :
    Calls Try.prog 26 #[.int .i64 p, .int .i64 q] w fun e w' => e = .returned (.tuple #[.agg #[.int .i64 (vp (makeO p q)), .int .i64 (vq (makeO p q))], .bool (makeO p q).isSome]) ∧ Below w.heap.size w w' := by
  have hmf : ∀ (fn : Fn) (first cap : Array Value) (w : World), (Instr.makeFunc fn first cap).run Try.prog w = .ok (.func fn first cap) w := fun _ _ _ _ => rfl
  go_enter Try.func26, Try.ntmps26
  go_wp2_with fail
  refine (attemptR_any 62 ⟨w.heap.size + 1, 0, none⟩ ⟨w.heap.size, 0, none⟩ (makeO p q).isSome (vp (makeO p q)) (vq (makeO p q)) _ (enters_of Try.func62 (by kernel_rfl) rfl) ?_).mono ?_
  · intro w1 hb1
    exact makeC_any _ _ p q w1 h1 h2 (cell_later hb1 (by simp [go_sem])) (cell_later hb1 (by simp [go_sem]))
  rintro e w1 ⟨rfl, hb1⟩
  rw [tc_vp, tc_vq]
  obtain ⟨c0, c1, f0, f1⟩ : Two w1 (w.heap.size + 2) (.int .i64 0) (.int .i64 0) := Two.later hb1 (by simp [Two, go_sem])
  go_wp2
  exact bodyPost_ret (v := .tuple #[.agg #[.int .i64 (vp (makeO p q)), .int .i64 (vq (makeO p q))], .bool (makeO p q).isSome]) (by simp [results, Try.results26, go_sem, c0, c1]) rfl ⟨rfl, (by repeat (first | exact Below.refl _ _ | (refine bset ?_ (by simp <;> omega) _) | (refine bon ?_ (by assumption)) | refine bdrew ?_ | refine bal ?_ _))⟩

set_option maxHeartbeats 400000 in
theorem wholeR (n : Int) (w : World) :
    Calls Try.prog 28 #[.int .i64 n] w fun e w' => e = .returned (.agg #[.int .i64 n, .int .i64 1]) ∧ Below w.heap.size w w' := by
  go_enter Try.func28, Try.ntmps28
  go_wp2
  exact bodyPost_ret (v := .agg #[.int .i64 n, .int .i64 1]) (by simp [results, Try.results28, go_sem]) rfl ⟨rfl, bal (Below.refl _ _) _⟩
end Go.Proofs.Ytkgaoafcjhjefaa
