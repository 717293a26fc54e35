/-
  What 'order' answers: names rising, then operations.
-/
import Derived.Test.YtaibmdikimpooaaDoorTmL
import Derived.Sort.Grow
import Derived.Sort.Walk0
import Derived.Deep.RegionHeld2
namespace Go.Proofs.YtaibmdikimpooaaDoor
open Go.RowKit

set_option maxRecDepth 100000 in
set_option maxHeartbeats 1000000 in
theorem nan_str (x : ByteArray) (w : World) : Calls Tryd.prog 75 #[.string x] w fun e w' => e = .returned (.bool false) ∧ w = w' := by
  have h : (x.toList == x.toList) = true := by simp
  go_enter Tryd.func75, Tryd.ntmps75
  go_wp2
  go_ret
  exact ⟨rfl, rfl⟩
set_option maxRecDepth 100000 in
set_option maxHeartbeats 1000000 in
theorem nan_int (x : Int) (w : World) : Calls Tryd.prog 76 #[.int .i64 x] w fun e w' => e = .returned (.bool false) ∧ w = w' := by
  have h : (x != x) = false := by simp
  go_enter Tryd.func76, Tryd.ntmps76
  go_wp2
  go_ret
  exact ⟨rfl, rfl⟩
def cmpI (x y : Int) : Int := if x < y then -1 else if y < x then 1 else 0
set_option maxRecDepth 100000 in
set_option maxHeartbeats 1000000 in
theorem cmp_int (x y : Int) (w : World) : Calls Tryd.prog 60 #[.int .i64 x, .int .i64 y] w fun e w' => e = .returned (.int .i64 (cmpI x y)) ∧ w = w' := by
  have N := mkHid nan_int
  by_cases h1 : x < y
  · have e : cmpI x y = -1 := by simp [cmpI, h1]
    rw [e]; clear e
    go_enter Tryd.func60, Tryd.ntmps60
    go_wp2_with (go_at_call 76; refine (N.out _ _).mono ?_; rintro e w1 ⟨rfl, rfl⟩)
    go_ret
    exact ⟨rfl, rfl⟩
  · by_cases h2 : y < x
    · have e : cmpI x y = 1 := by simp [cmpI, h1, h2]
      rw [e]; clear e
      go_enter Tryd.func60, Tryd.ntmps60
      go_wp2_with (go_at_call 76; refine (N.out _ _).mono ?_; rintro e w1 ⟨rfl, rfl⟩)
      go_ret
      exact ⟨rfl, rfl⟩
    · have e : cmpI x y = 0 := by simp [cmpI, h1, h2]
      rw [e]; clear e
      go_enter Tryd.func60, Tryd.ntmps60
      go_wp2_with (go_at_call 76; refine (N.out _ _).mono ?_; rintro e w1 ⟨rfl, rfl⟩)
      go_ret
      exact ⟨rfl, rfl⟩
def cmpS (x y : ByteArray) : Int := if Op.bytesLess x.toList y.toList then -1 else if x.toList == y.toList then 0 else 1
set_option maxRecDepth 100000 in
set_option maxHeartbeats 1000000 in
theorem cmp_str (x y : ByteArray) (w : World) : Calls Tryd.prog 59 #[.string x, .string y] w fun e w' => e = .returned (.int .i64 (cmpS x y)) ∧ w = w' := by
  have N := mkHid nan_str
  cases h1 : Op.bytesLess x.toList y.toList
  · cases h2 : (x.toList == y.toList)
    · have e : cmpS x y = 1 := by unfold cmpS; rw [h1, h2]; rfl
      rw [e]; clear e
      go_enter Tryd.func59, Tryd.ntmps59
      go_wp2_with (go_at_call 75; refine (N.out _ _).mono ?_; rintro e w1 ⟨rfl, rfl⟩)
      go_ret
      exact ⟨rfl, rfl⟩
    · have e : cmpS x y = 0 := by unfold cmpS; rw [h1, h2]; rfl
      rw [e]; clear e
      go_enter Tryd.func59, Tryd.ntmps59
      go_wp2_with (go_at_call 75; refine (N.out _ _).mono ?_; rintro e w1 ⟨rfl, rfl⟩)
      go_ret
      exact ⟨rfl, rfl⟩
  · have e : cmpS x y = -1 := by unfold cmpS; rw [h1]; rfl
    rw [e]; clear e
    go_enter Tryd.func59, Tryd.ntmps59
    go_wp2_with (go_at_call 75; refine (N.out _ _).mono ?_; rintro e w1 ⟨rfl, rfl⟩)
    go_ret
    exact ⟨rfl, rfl⟩
set_option maxRecDepth 100000 in
set_option maxHeartbeats 1000000 in
theorem or_two (g : Nat) (a b : Int) (w : World) (h0 : w.cell? ⟨g, 0, none⟩ = some (.int .i64 a)) (h1 : w.cell? ⟨g, 1, none⟩ = some (.int .i64 b)) :
    Calls Tryd.prog 58 #[.slice (some ⟨g, 0, none⟩) 2 2] w fun e w' => e = .returned (.int .i64 (if a = 0 then b else a)) ∧ w = w' := by
  generalize hR : (if a = 0 then b else a) = R
  have HR := mkHid hR
  clear hR
  go_enter Tryd.func58, Tryd.ntmps58
  go_wp2
  go_loop [8] (fun i => ∃ x : Int, i = .int .i64 x ∧ (x = 0 ∨ (x = 1 ∧ Hid (a = 0)) ∨ (x = 2 ∧ Hid (a = 0) ∧ Hid (b = 0)))) (fun i => (2 - intOf i).toNat)
  case atStart => exact ⟨0, rfl, .inl rfl⟩
  case round =>
    obtain ⟨x, rfl, rfl | ⟨rfl, ha⟩ | ⟨rfl, ha, hb⟩⟩ := hrel
    · by_cases h : a = 0
      · have H := mkHid h
        have h' : (a != 0) = false := by rw [h]; rfl
        clear h
        go_wp2
        go_round
        case rel => exact ⟨1, rfl, .inr (.inl ⟨rfl, H⟩)⟩
        case measure => simp [intOf]
      · have h' : (a != 0) = true := by rw [bne_iff_ne]; exact h
        obtain rfl : R = a := by rw [← HR.out, if_neg h]
        clear h HR
        go_wp2
        go_ret
        exact ⟨rfl, rfl⟩
    · by_cases h : b = 0
      · have H := mkHid h
        have h' : (b != 0) = false := by rw [h]; rfl
        clear h
        go_wp2
        go_round
        case rel => exact ⟨2, rfl, .inr (.inr ⟨rfl, ha, H⟩)⟩
        case measure => simp [intOf]
      · have h' : (b != 0) = true := by rw [bne_iff_ne]; exact h
        obtain rfl : R = b := by rw [← HR.out, if_pos ha.out]
        clear h HR
        go_wp2
        go_ret
        exact ⟨rfl, rfl⟩
    · obtain rfl : R = 0 := by rw [← HR.out, if_pos ha.out]; exact hb.out
      clear HR
      go_wp2
      go_ret
      exact ⟨rfl, rfl⟩
def cmpA (x y : ByteArray × Int) : Int := if cmpS x.1 y.1 = 0 then cmpI x.2 y.2 else cmpS x.1 y.1
/-- the box of a name that stands for itself -/
def boxA (x : ByteArray × Int) : Obj := .cells #[.string x.1, .int .i64 x.2, .string x.1, .int .i64 0, .slice none 0 0] 38
theorem four_keep {w w' : World} {X Y : Nat} {x0 x1 y0 y1 : Value} (h : w.cell? ⟨X, 0, none⟩ = some x0 ∧ w.cell? ⟨X, 1, none⟩ = some x1 ∧ w.cell? ⟨Y, 0, none⟩ = some y0 ∧ w.cell? ⟨Y, 1, none⟩ = some y1) (hb : Below w.heap.size w w') :
    w'.cell? ⟨X, 0, none⟩ = some x0 ∧ w'.cell? ⟨X, 1, none⟩ = some x1 ∧ w'.cell? ⟨Y, 0, none⟩ = some y0 ∧ w'.cell? ⟨Y, 1, none⟩ = some y1 :=
  ⟨cell_later hb h.1, cell_later hb h.2.1, cell_later hb h.2.2.1, cell_later hb h.2.2.2⟩
set_option maxHeartbeats 4000000 in
set_option maxRecDepth 100000 in
theorem order_any (x y : ByteArray × Int) (w : World) :
    Calls Tryd.prog 37 #[.agg #[.string x.1, .int .i64 x.2, .string x.1, .int .i64 0, .slice none 0 0], .agg #[.string y.1, .int .i64 y.2, .string y.1, .int .i64 0, .slice none 0 0]] w fun e w' => e = .returned (.int .i64 (cmpA x y)) ∧ ∃ q os', w' = Sort.grow (w.drewN q) os' := by
  have CI := mkHid (cmp_int x.2 y.2)
  have CS := mkHid (cmp_str x.1 y.1)
  have OR := mkHid (fun g w h0 h1 => or_two g (cmpS x.1 y.1) (cmpI x.2 y.2) w h0 h1)
  have e : cmpA x y = if cmpS x.1 y.1 = 0 then cmpI x.2 y.2 else cmpS x.1 y.1 := rfl
  rw [e]
  clear e
  generalize (if cmpS x.1 y.1 = 0 then cmpI x.2 y.2 else cmpS x.1 y.1) = R at *
  generalize cmpS x.1 y.1 = a at *
  generalize cmpI x.2 y.2 = b at *
  have s0 : ((w.alloc (boxA x)).alloc (boxA y)).cell? ⟨w.heap.size, 0, none⟩ = some (.string x.1) := by simp [boxA, go_sem]
  have s1 : ((w.alloc (boxA x)).alloc (boxA y)).cell? ⟨w.heap.size, 1, none⟩ = some (.int .i64 x.2) := by simp [boxA, go_sem]
  have s2 : ((w.alloc (boxA x)).alloc (boxA y)).cell? ⟨w.heap.size + 1, 0, none⟩ = some (.string y.1) := by simp [boxA, go_sem]
  have s3 : ((w.alloc (boxA x)).alloc (boxA y)).cell? ⟨w.heap.size + 1, 1, none⟩ = some (.int .i64 y.2) := by simp [boxA, go_sem]
  have hW : (w.alloc (.cells #[.string x.1, .int .i64 x.2, .string x.1, .int .i64 0, .slice none 0 0] 38)).alloc (.cells #[.string y.1, .int .i64 y.2, .string y.1, .int .i64 0, .slice none 0 0] 38) = (w.alloc (boxA x)).alloc (boxA y) := rfl
  have hG : (w.alloc (boxA x)).alloc (boxA y) = Sort.grow w #[boxA x, boxA y] := by rw [Sort.alloc_eq_grow, Sort.alloc_eq_grow, Sort.grow_grow]; rfl
  have HG := mkHid hG
  have hX : w.heap.size + 1 < ((w.alloc (boxA x)).alloc (boxA y)).heap.size := by simp
  clear hG
  generalize (w.alloc (boxA x)).alloc (boxA y) = W at *
  generalize hX0 : w.heap.size = X at *
  go_enter Tryd.func37, Tryd.ntmps37
  go_wp2_with fail
  go_region_held2 (fun w' => w'.cell? ⟨X, 0, none⟩ = some (.string x.1) ∧ w'.cell? ⟨X, 1, none⟩ = some (.int .i64 x.2) ∧ w'.cell? ⟨X + 1, 0, none⟩ = some (.string y.1) ∧ w'.cell? ⟨X + 1, 1, none⟩ = some (.int .i64 y.2))
    (first | exact ⟨s0, s1, s2, s3⟩ | assumption | exact four_keep ⟨s0, s1, s2, s3⟩ (by repeat (first | exact Below.refl _ _ | refine bdrew ?_ | refine bal ?_ _)))
    ((first
      | (go_at_call 59; ((with_reducible refine (CS.out _).mono ?_)); rintro e w1 ⟨rfl, rfl⟩)
      | (go_at_call 60; ((with_reducible refine (CI.out _).mono ?_)); rintro e w2 ⟨rfl, rfl⟩)
      | (go_at_call 58; refine (OR.out _ _ (by simp [go_sem]) (by simp [go_sem])).mono ?_; rintro e w3 ⟨rfl, rfl⟩)))
  clear s0 s1 s2 s3 CI CS OR
  go_wp2
  go_ret
  exact ⟨rfl, 1, #[boxA x, boxA y, .cells #[.int .i64 a, .int .i64 b] 3], by rw [HG.out, Sort.alloc_eq_grow, Sort.grow_grow]; rfl⟩
theorem grow_below (w : World) (os : Array Obj) : Below w.heap.size w (Sort.grow w os) :=
  ⟨rfl, rfl, rfl, by simp [Sort.grow], fun k hk => by show (w.heap ++ os)[k]? = _; rw [Array.getElem?_append_left hk]⟩
set_option maxRecDepth 100000 in
set_option maxHeartbeats 1000000 in
theorem names2_any (x y : ByteArray × Int) (w : World) :
    Calls Tryd.prog 39 #[.agg #[.string x.1, .int .i64 x.2, .string x.1, .int .i64 0, .slice none 0 0], .agg #[.string y.1, .int .i64 y.2, .string y.1, .int .i64 0, .slice none 0 0]] w fun e w' => e = .returned (.bool (decide (cmpA x y = 0))) ∧ Below w.heap.size w w' := by
  have O := mkHid (order_any x y)
  generalize cmpA x y = c at *
  by_cases h : c = 0
  · subst h
    show Calls _ _ _ _ fun e w' => e = .returned (.bool true) ∧ _
    go_enter Tryd.func39, Tryd.ntmps39
    go_wp2_with fail
    ((with_reducible refine (O.out _).mono ?_)); rintro e w1 ⟨rfl, q, os', hw⟩
    have HB : Hid (Below w.heap.size w w1) := by
      rw [hw]
      exact bon (below_drewN (bal (bal (Below.refl _ _) _) _) q) (grow_below _ _)
    clear hw
    go_wp2
    go_ret
    exact ⟨rfl, HB.out⟩
  · have h' : (c == 0) = false := beq_eq_false_iff_ne.2 h
    rw [decide_eq_false h]
    clear h
    go_enter Tryd.func39, Tryd.ntmps39
    go_wp2_with fail
    ((with_reducible refine (O.out _).mono ?_)); rintro e w1 ⟨rfl, q, os', hw⟩
    have HB : Hid (Below w.heap.size w w1) := by
      rw [hw]
      exact bon (below_drewN (bal (bal (Below.refl _ _) _) _) q) (grow_below _ _)
    clear hw
    go_wp2
    go_ret
    exact ⟨rfl, HB.out⟩

/- the order of names -/
def ltA (x y : ByteArray × Int) : Prop := x.1.toList < y.1.toList ∨ (x.1 = y.1 ∧ x.2 < y.2)
theorem less_iff (x y : ByteArray) : Op.bytesLess x.toList y.toList = true ↔ x.toList < y.toList := by rw [bytesLess_eq]; simp
theorem toList_inj {x y : ByteArray} (h : x.toList = y.toList) : x = y := by
  rw [ByteArray.toList_eq, ByteArray.toList_eq] at h
  exact Go.WideShapes.bytes_inj h
theorem tri (x y : List UInt8) : x < y ∨ x = y ∨ y < x := by
  rcases Classical.em (x < y) with h | h
  · exact .inl h
  · rcases Classical.em (y < x) with h' | h'
    · exact .inr (.inr h')
    · exact .inr (.inl (List.le_antisymm (List.not_lt.1 h') (List.not_lt.1 h)))
theorem cmpS_lt {x y : ByteArray} (h : x.toList < y.toList) : cmpS x y = -1 := by unfold cmpS; rw [(less_iff x y).2 h]; rfl
theorem cmpS_eq (x : ByteArray) : cmpS x x = 0 := by
  unfold cmpS
  have : Op.bytesLess x.toList x.toList = false := by
    rw [Bool.eq_false_iff]; intro h; exact List.lt_irrefl _ ((less_iff x x).1 h)
  rw [this]; simp
theorem cmpS_gt {x y : ByteArray} (h : y.toList < x.toList) : cmpS x y = 1 := by
  unfold cmpS
  have h1 : Op.bytesLess x.toList y.toList = false := by
    rw [Bool.eq_false_iff]; intro h'; exact List.lt_irrefl _ (List.lt_trans ((less_iff x y).1 h') h)
  have h2 : (x.toList == y.toList) = false := by
    rw [Bool.eq_false_iff]; intro h'
    have e := eq_of_beq h'
    rw [e] at h
    exact List.lt_irrefl _ h
  rw [h1, h2]; rfl
theorem cmpA_neg (x y : ByteArray × Int) : cmpA x y < 0 ↔ ltA x y := by
  unfold cmpA ltA
  rcases tri x.1.toList y.1.toList with h | h | h
  · rw [cmpS_lt h]; simp [h]
  · have e := toList_inj h
    rw [e, cmpS_eq]
    simp only [if_true, List.lt_irrefl, false_or, true_and]
    unfold cmpI
    by_cases h1 : x.2 < y.2
    · simp [h1]
    · by_cases h2 : y.2 < x.2 <;> simp [h1, h2]
  · rw [cmpS_gt h]
    have h1 : ¬ x.1.toList < y.1.toList := fun h' => List.lt_irrefl _ (List.lt_trans h' h)
    have h2 : x.1 ≠ y.1 := fun e => by rw [e] at h; exact List.lt_irrefl _ h
    simp [h1, h2]
theorem cmpA_zero (x y : ByteArray × Int) : cmpA x y = 0 ↔ x = y := by
  constructor
  · intro h
    unfold cmpA at h
    rcases tri x.1.toList y.1.toList with k | k | k
    · rw [cmpS_lt k] at h; simp at h
    · have e := toList_inj k
      rw [e, cmpS_eq] at h
      simp only [if_true] at h
      unfold cmpI at h
      obtain ⟨x1, x2⟩ := x
      obtain ⟨y1, y2⟩ := y
      simp only at *
      subst e
      have : x2 = y2 := by
        by_cases h1 : x2 < y2
        · simp [h1] at h
        · by_cases h2 : y2 < x2
          · simp [h1, h2] at h
          · omega
      rw [this]
    · rw [cmpS_gt k] at h; simp at h
  · rintro rfl
    unfold cmpA
    rw [cmpS_eq]; simp [cmpI]
end Go.Proofs.YtaibmdikimpooaaDoor
