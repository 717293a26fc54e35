/-
  What SubstValues's proof stands on, part 6: TmN, TmO, TmP, TmQ, TmR, SbB.
-/
import Derived.Test.YtdfebacjbapahaaGreatDoorSubstValuesK05
import Derived.Sort.Grow
import Derived.Sort.Walk0
import Derived.Deep.RegionHeld2
import Derived.Lib.SliceRun
import Derived.Shelf.SlSortCmp.WholeK
import Derived.Test.YtdfebacjbapahaaGreatDoorSubstValuesK02
namespace Go.Proofs.YtdfebacjbapahaaGreatDoor
section
open Go.RowKit

set_option maxRecDepth 100000 in
set_option maxHeartbeats 1000000 in
theorem nan_str (x : ByteArray) (w : World) : Calls Tryz.prog 93 #[.string x] w fun e w' => e = .returned (.bool false) ∧ w = w' := by
  have h : (x.toList == x.toList) = true := by simp
  go_enter Tryz.func93, Tryz.ntmps93
  go_wp2
  go_ret
  exact ⟨rfl, rfl⟩
set_option maxRecDepth 100000 in
set_option maxHeartbeats 1000000 in
theorem nan_int (x : Int) (w : World) : Calls Tryz.prog 94 #[.int .i64 x] w fun e w' => e = .returned (.bool false) ∧ w = w' := by
  have h : (x != x) = false := by simp
  go_enter Tryz.func94, Tryz.ntmps94
  go_wp2
  go_ret
  exact ⟨rfl, rfl⟩
def cmpI (x y : Int) : Int := if x < y then -1 else if y < x then 1 else 0
set_option maxRecDepth 100000 in
set_option maxHeartbeats 1000000 in
theorem cmp_int (x y : Int) (w : World) : Calls Tryz.prog 71 #[.int .i64 x, .int .i64 y] w fun e w' => e = .returned (.int .i64 (cmpI x y)) ∧ w = w' := by
  have N := mkHid nan_int
  by_cases h1 : x < y
  · have e : cmpI x y = -1 := by simp [cmpI, h1]
    rw [e]; clear e
    go_enter Tryz.func71, Tryz.ntmps71
    go_wp2_with (go_at_call 94; refine (N.out _ _).mono ?_; rintro e w1 ⟨rfl, rfl⟩)
    go_ret
    exact ⟨rfl, rfl⟩
  · by_cases h2 : y < x
    · have e : cmpI x y = 1 := by simp [cmpI, h1, h2]
      rw [e]; clear e
      go_enter Tryz.func71, Tryz.ntmps71
      go_wp2_with (go_at_call 94; refine (N.out _ _).mono ?_; rintro e w1 ⟨rfl, rfl⟩)
      go_ret
      exact ⟨rfl, rfl⟩
    · have e : cmpI x y = 0 := by simp [cmpI, h1, h2]
      rw [e]; clear e
      go_enter Tryz.func71, Tryz.ntmps71
      go_wp2_with (go_at_call 94; refine (N.out _ _).mono ?_; rintro e w1 ⟨rfl, rfl⟩)
      go_ret
      exact ⟨rfl, rfl⟩
def cmpS (x y : ByteArray) : Int := if Op.bytesLess x.toList y.toList then -1 else if x.toList == y.toList then 0 else 1
set_option maxRecDepth 100000 in
set_option maxHeartbeats 1000000 in
theorem cmp_str (x y : ByteArray) (w : World) : Calls Tryz.prog 70 #[.string x, .string y] w fun e w' => e = .returned (.int .i64 (cmpS x y)) ∧ w = w' := by
  have N := mkHid nan_str
  cases h1 : Op.bytesLess x.toList y.toList
  · cases h2 : (x.toList == y.toList)
    · have e : cmpS x y = 1 := by unfold cmpS; rw [h1, h2]; rfl
      rw [e]; clear e
      go_enter Tryz.func70, Tryz.ntmps70
      go_wp2_with (go_at_call 93; refine (N.out _ _).mono ?_; rintro e w1 ⟨rfl, rfl⟩)
      go_ret
      exact ⟨rfl, rfl⟩
    · have e : cmpS x y = 0 := by unfold cmpS; rw [h1, h2]; rfl
      rw [e]; clear e
      go_enter Tryz.func70, Tryz.ntmps70
      go_wp2_with (go_at_call 93; refine (N.out _ _).mono ?_; rintro e w1 ⟨rfl, rfl⟩)
      go_ret
      exact ⟨rfl, rfl⟩
  · have e : cmpS x y = -1 := by unfold cmpS; rw [h1]; rfl
    rw [e]; clear e
    go_enter Tryz.func70, Tryz.ntmps70
    go_wp2_with (go_at_call 93; refine (N.out _ _).mono ?_; rintro e w1 ⟨rfl, rfl⟩)
    go_ret
    exact ⟨rfl, rfl⟩
set_option maxRecDepth 100000 in
set_option maxHeartbeats 1000000 in
theorem or_two (g : Nat) (a b : Int) (w : World) (h0 : w.cell? ⟨g, 0, none⟩ = some (.int .i64 a)) (h1 : w.cell? ⟨g, 1, none⟩ = some (.int .i64 b)) :
    Calls Tryz.prog 69 #[.slice (some ⟨g, 0, none⟩) 2 2] w fun e w' => e = .returned (.int .i64 (if a = 0 then b else a)) ∧ w = w' := by
  generalize hR : (if a = 0 then b else a) = R
  have HR := mkHid hR
  clear hR
  go_enter Tryz.func69, Tryz.ntmps69
  go_wp2
  go_loop [8] (fun i => ∃ x : Int, i = .int .i64 x ∧ (x = 0 ∨ (x = 1 ∧ Hid (a = 0)) ∨ (x = 2 ∧ Hid (a = 0) ∧ Hid (b = 0)))) (fun i => (2 - intOf i).toNat)
  case atStart => exact ⟨0, rfl, .inl rfl⟩
  case round =>
    obtain ⟨x, rfl, rfl | ⟨rfl, ha⟩ | ⟨rfl, ha, hb⟩⟩ := hrel
    · by_cases h : a = 0
      · have H := mkHid h
        have h' : (a != 0) = false := by rw [h]; rfl
        clear h
        go_wp2
        go_round
        case rel => exact ⟨1, rfl, .inr (.inl ⟨rfl, H⟩)⟩
        case measure => simp [intOf]
      · have h' : (a != 0) = true := by rw [bne_iff_ne]; exact h
        obtain rfl : R = a := by rw [← HR.out, if_neg h]
        clear h HR
        go_wp2
        go_ret
        exact ⟨rfl, rfl⟩
    · by_cases h : b = 0
      · have H := mkHid h
        have h' : (b != 0) = false := by rw [h]; rfl
        clear h
        go_wp2
        go_round
        case rel => exact ⟨2, rfl, .inr (.inr ⟨rfl, ha, H⟩)⟩
        case measure => simp [intOf]
      · have h' : (b != 0) = true := by rw [bne_iff_ne]; exact h
        obtain rfl : R = b := by rw [← HR.out, if_pos ha.out]
        clear h HR
        go_wp2
        go_ret
        exact ⟨rfl, rfl⟩
    · obtain rfl : R = 0 := by rw [← HR.out, if_pos ha.out]; exact hb.out
      clear HR
      go_wp2
      go_ret
      exact ⟨rfl, rfl⟩
def cmpA (x y : ByteArray × Int) : Int := if cmpS x.1 y.1 = 0 then cmpI x.2 y.2 else cmpS x.1 y.1
/-- the box of a name that stands for itself -/
def boxA (x : ByteArray × Int) : Obj := .cells #[.string x.1, .int .i64 x.2, .string x.1, .int .i64 0, .slice none 0 0] 41
theorem four_keep {w w' : World} {X Y : Nat} {x0 x1 y0 y1 : Value} (h : w.cell? ⟨X, 0, none⟩ = some x0 ∧ w.cell? ⟨X, 1, none⟩ = some x1 ∧ w.cell? ⟨Y, 0, none⟩ = some y0 ∧ w.cell? ⟨Y, 1, none⟩ = some y1) (hb : Below w.heap.size w w') :
    w'.cell? ⟨X, 0, none⟩ = some x0 ∧ w'.cell? ⟨X, 1, none⟩ = some x1 ∧ w'.cell? ⟨Y, 0, none⟩ = some y0 ∧ w'.cell? ⟨Y, 1, none⟩ = some y1 :=
  ⟨cell_later hb h.1, cell_later hb h.2.1, cell_later hb h.2.2.1, cell_later hb h.2.2.2⟩
set_option maxHeartbeats 4000000 in
set_option maxRecDepth 100000 in
theorem order_any (x y : ByteArray × Int) (w : World) :
    Calls Tryz.prog 49 #[.agg #[.string x.1, .int .i64 x.2, .string x.1, .int .i64 0, .slice none 0 0], .agg #[.string y.1, .int .i64 y.2, .string y.1, .int .i64 0, .slice none 0 0]] w fun e w' => e = .returned (.int .i64 (cmpA x y)) ∧ ∃ q os', w' = Sort.grow (w.drewN q) os' := by
  have CI := mkHid (cmp_int x.2 y.2)
  have CS := mkHid (cmp_str x.1 y.1)
  have OR := mkHid (fun g w h0 h1 => or_two g (cmpS x.1 y.1) (cmpI x.2 y.2) w h0 h1)
  have e : cmpA x y = if cmpS x.1 y.1 = 0 then cmpI x.2 y.2 else cmpS x.1 y.1 := rfl
  rw [e]
  clear e
  generalize (if cmpS x.1 y.1 = 0 then cmpI x.2 y.2 else cmpS x.1 y.1) = R at *
  generalize cmpS x.1 y.1 = a at *
  generalize cmpI x.2 y.2 = b at *
  have s0 : ((w.alloc (boxA x)).alloc (boxA y)).cell? ⟨w.heap.size, 0, none⟩ = some (.string x.1) := by simp [boxA, go_sem]
  have s1 : ((w.alloc (boxA x)).alloc (boxA y)).cell? ⟨w.heap.size, 1, none⟩ = some (.int .i64 x.2) := by simp [boxA, go_sem]
  have s2 : ((w.alloc (boxA x)).alloc (boxA y)).cell? ⟨w.heap.size + 1, 0, none⟩ = some (.string y.1) := by simp [boxA, go_sem]
  have s3 : ((w.alloc (boxA x)).alloc (boxA y)).cell? ⟨w.heap.size + 1, 1, none⟩ = some (.int .i64 y.2) := by simp [boxA, go_sem]
  have hW : (w.alloc (.cells #[.string x.1, .int .i64 x.2, .string x.1, .int .i64 0, .slice none 0 0] 41)).alloc (.cells #[.string y.1, .int .i64 y.2, .string y.1, .int .i64 0, .slice none 0 0] 41) = (w.alloc (boxA x)).alloc (boxA y) := rfl
  have hG : (w.alloc (boxA x)).alloc (boxA y) = Sort.grow w #[boxA x, boxA y] := by rw [Sort.alloc_eq_grow, Sort.alloc_eq_grow, Sort.grow_grow]; rfl
  have HG := mkHid hG
  have hX : w.heap.size + 1 < ((w.alloc (boxA x)).alloc (boxA y)).heap.size := by simp
  clear hG
  generalize (w.alloc (boxA x)).alloc (boxA y) = W at *
  generalize hX0 : w.heap.size = X at *
  go_enter Tryz.func49, Tryz.ntmps49
  go_wp2_with fail
  go_region_held2 (fun w' => w'.cell? ⟨X, 0, none⟩ = some (.string x.1) ∧ w'.cell? ⟨X, 1, none⟩ = some (.int .i64 x.2) ∧ w'.cell? ⟨X + 1, 0, none⟩ = some (.string y.1) ∧ w'.cell? ⟨X + 1, 1, none⟩ = some (.int .i64 y.2))
    (first | exact ⟨s0, s1, s2, s3⟩ | assumption | exact four_keep ⟨s0, s1, s2, s3⟩ (by repeat (first | exact Below.refl _ _ | refine bdrew ?_ | refine bal ?_ _)))
    ((first
      | (go_at_call 70; ((with_reducible refine (CS.out _).mono ?_)); rintro e w1 ⟨rfl, rfl⟩)
      | (go_at_call 71; ((with_reducible refine (CI.out _).mono ?_)); rintro e w2 ⟨rfl, rfl⟩)
      | (go_at_call 69; refine (OR.out _ _ (by simp [go_sem]) (by simp [go_sem])).mono ?_; rintro e w3 ⟨rfl, rfl⟩)))
  clear s0 s1 s2 s3 CI CS OR
  go_wp2
  go_ret
  exact ⟨rfl, 1, #[boxA x, boxA y, .cells #[.int .i64 a, .int .i64 b] 3], by rw [HG.out, Sort.alloc_eq_grow, Sort.grow_grow]; rfl⟩
theorem grow_below (w : World) (os : Array Obj) : Below w.heap.size w (Sort.grow w os) :=
  ⟨rfl, rfl, rfl, by simp [Sort.grow], fun k hk => by show (w.heap ++ os)[k]? = _; rw [Array.getElem?_append_left hk]⟩
set_option maxRecDepth 100000 in
set_option maxHeartbeats 1000000 in
theorem names2_any (x y : ByteArray × Int) (w : World) :
    Calls Tryz.prog 51 #[.agg #[.string x.1, .int .i64 x.2, .string x.1, .int .i64 0, .slice none 0 0], .agg #[.string y.1, .int .i64 y.2, .string y.1, .int .i64 0, .slice none 0 0]] w fun e w' => e = .returned (.bool (decide (cmpA x y = 0))) ∧ Below w.heap.size w w' := by
  have O := mkHid (order_any x y)
  generalize cmpA x y = c at *
  by_cases h : c = 0
  · subst h
    show Calls _ _ _ _ fun e w' => e = .returned (.bool true) ∧ _
    go_enter Tryz.func51, Tryz.ntmps51
    go_wp2_with fail
    ((with_reducible refine (O.out _).mono ?_)); rintro e w1 ⟨rfl, q, os', hw⟩
    have HB : Hid (Below w.heap.size w w1) := by
      rw [hw]
      exact bon (below_drewN (bal (bal (Below.refl _ _) _) _) q) (grow_below _ _)
    clear hw
    go_wp2
    go_ret
    exact ⟨rfl, HB.out⟩
  · have h' : (c == 0) = false := beq_eq_false_iff_ne.2 h
    rw [decide_eq_false h]
    clear h
    go_enter Tryz.func51, Tryz.ntmps51
    go_wp2_with fail
    ((with_reducible refine (O.out _).mono ?_)); rintro e w1 ⟨rfl, q, os', hw⟩
    have HB : Hid (Below w.heap.size w w1) := by
      rw [hw]
      exact bon (below_drewN (bal (bal (Below.refl _ _) _) _) q) (grow_below _ _)
    clear hw
    go_wp2
    go_ret
    exact ⟨rfl, HB.out⟩

/- the order of names -/
def ltA (x y : ByteArray × Int) : Prop := x.1.toList < y.1.toList ∨ (x.1 = y.1 ∧ x.2 < y.2)
theorem less_iff (x y : ByteArray) : Op.bytesLess x.toList y.toList = true ↔ x.toList < y.toList := by rw [bytesLess_eq]; simp
theorem toList_inj {x y : ByteArray} (h : x.toList = y.toList) : x = y := by
  rw [ByteArray.toList_eq, ByteArray.toList_eq] at h
  exact Go.WideShapes.bytes_inj h
theorem tri (x y : List UInt8) : x < y ∨ x = y ∨ y < x := by
  rcases Classical.em (x < y) with h | h
  · exact .inl h
  · rcases Classical.em (y < x) with h' | h'
    · exact .inr (.inr h')
    · exact .inr (.inl (List.le_antisymm (List.not_lt.1 h') (List.not_lt.1 h)))
theorem cmpS_lt {x y : ByteArray} (h : x.toList < y.toList) : cmpS x y = -1 := by unfold cmpS; rw [(less_iff x y).2 h]; rfl
theorem cmpS_eq (x : ByteArray) : cmpS x x = 0 := by
  unfold cmpS
  have : Op.bytesLess x.toList x.toList = false := by
    rw [Bool.eq_false_iff]; intro h; exact List.lt_irrefl _ ((less_iff x x).1 h)
  rw [this]; simp
theorem cmpS_gt {x y : ByteArray} (h : y.toList < x.toList) : cmpS x y = 1 := by
  unfold cmpS
  have h1 : Op.bytesLess x.toList y.toList = false := by
    rw [Bool.eq_false_iff]; intro h'; exact List.lt_irrefl _ (List.lt_trans ((less_iff x y).1 h') h)
  have h2 : (x.toList == y.toList) = false := by
    rw [Bool.eq_false_iff]; intro h'
    have e := eq_of_beq h'
    rw [e] at h
    exact List.lt_irrefl _ h
  rw [h1, h2]; rfl
theorem cmpA_neg (x y : ByteArray × Int) : cmpA x y < 0 ↔ ltA x y := by
  unfold cmpA ltA
  rcases tri x.1.toList y.1.toList with h | h | h
  · rw [cmpS_lt h]; simp [h]
  · have e := toList_inj h
    rw [e, cmpS_eq]
    simp only [if_true, List.lt_irrefl, false_or, true_and]
    unfold cmpI
    by_cases h1 : x.2 < y.2
    · simp [h1]
    · by_cases h2 : y.2 < x.2 <;> simp [h1, h2]
  · rw [cmpS_gt h]
    have h1 : ¬ x.1.toList < y.1.toList := fun h' => List.lt_irrefl _ (List.lt_trans h' h)
    have h2 : x.1 ≠ y.1 := fun e => by rw [e] at h; exact List.lt_irrefl _ h
    simp [h1, h2]
theorem cmpA_zero (x y : ByteArray × Int) : cmpA x y = 0 ↔ x = y := by
  constructor
  · intro h
    unfold cmpA at h
    rcases tri x.1.toList y.1.toList with k | k | k
    · rw [cmpS_lt k] at h; simp at h
    · have e := toList_inj k
      rw [e, cmpS_eq] at h
      simp only [if_true] at h
      unfold cmpI at h
      obtain ⟨x1, x2⟩ := x
      obtain ⟨y1, y2⟩ := y
      simp only at *
      subst e
      have : x2 = y2 := by
        by_cases h1 : x2 < y2
        · simp [h1] at h
        · by_cases h2 : y2 < x2
          · simp [h1, h2] at h
          · omega
      rw [this]
    · rw [cmpS_gt k] at h; simp at h
  · rintro rfl
    unfold cmpA
    rw [cmpS_eq]; simp [cmpI]
end
section
open Go.RowKit

abbrev Nm := ByteArray × Int
def noNm : Nm := (⟨#[]⟩, 0)
/-- the first j of a row, without what is as the one ahead of it -/
def ddN (l : List Nm) : Nat → List Nm
  | 0 => []
  | j + 1 => if 0 < j ∧ l.getD j noNm = l.getD (j - 1) noNm then ddN l j else ddN l j ++ [l.getD j noNm]
theorem ddN_len (l : List Nm) (j : Nat) : (ddN l j).length ≤ j := by
  induction j with
  | zero => simp [ddN]
  | succ j ih =>
    unfold ddN
    split
    · omega
    · simp; omega
theorem ddN_less (l : List Nm) {k : Nat} (hk : 0 < k) (h : l.getD k noNm = l.getD (k - 1) noNm) : ∀ j, k < j → (ddN l j).length < j := by
  intro j hj
  induction j with
  | zero => omega
  | succ j ih =>
    unfold ddN
    by_cases e : k = j
    · subst e
      rw [if_pos ⟨hk, h⟩]
      have := ddN_len l k
      omega
    · have := ih (by omega)
      split
      · omega
      · simp; omega
theorem ddN_take (l : List Nm) (k : Nat) (hk : k < l.length) (h : ddN l k = l.take k) (hne : ¬ (0 < k ∧ l.getD k noNm = l.getD (k - 1) noNm)) : ddN l (k + 1) = l.take (k + 1) := by
  unfold ddN
  rw [if_neg hne, h, List.take_succ_eq_append_getElem hk]
  simp [List.getD, List.getElem?_eq_getElem hk]
theorem own_later {w w' : World} {base e s n : Nat} {v : Value} {xs : List Value} (h : w.ownsRow base e s v n xs) (hb : Below w.heap.size w w') : w'.ownsRow base e s v n xs := by
  refine ⟨h.1, ?_⟩
  rcases h.2 with h0 | ⟨g, cap, cur, hv, hbg, hg, hr⟩
  · exact .inl h0
  · refine .inr ⟨g, cap, cur, hv, hbg, ?_, hr⟩
    have hlt : g < w.heap.size := by
      rcases Nat.lt_or_ge g w.heap.size with h1 | h1
      · exact h1
      · rw [Array.getElem?_eq_none h1] at hg; cases hg
    rw [hb.block g hlt]; exact hg
theorem asgs_get (m : List Nm) (k i : Nat) (hk : k < m.length) (hi : i < 5) : (asgs m)[k * 5 + i]? = (asg (m.getD k noNm))[i]? := by
  induction m generalizing k with
  | nil => simp at hk
  | cons x m ih =>
    have e : asgs (x :: m) = asg x ++ asgs m := rfl
    rw [e]
    cases k with
    | zero => simp only [Nat.zero_mul, Nat.zero_add]; rw [List.getElem?_append_left (by simp [asg]; omega)]; rfl
    | succ k =>
      rw [List.getElem?_append_right (by simp [asg]; omega)]
      have : (k + 1) * 5 + i - (asg x).length = k * 5 + i := by simp [asg]; omega
      rw [this, ih k (by simpa using hk)]
      rfl
/-- the five cells of a name in a row -/
def Five (w : World) (g o : Nat) (x : Nm) : Prop := w.cell? ⟨g, o, none⟩ = some (.string x.1) ∧ w.cell? ⟨g, o + 1, none⟩ = some (.int .i64 x.2) ∧ w.cell? ⟨g, o + 2, none⟩ = some (.string x.1) ∧ w.cell? ⟨g, o + 3, none⟩ = some (.int .i64 0) ∧ w.cell? ⟨g, o + 4, none⟩ = some (.slice none 0 0)
theorem own_five {w : World} {base g n cap : Nat} {m : List Nm} (h : w.ownsRow base 41 5 (.slice (some ⟨g, 0, none⟩) n cap) n (asgs m)) (hm : m.length = n) (k : Nat) (hk : k < n) : Five w g (k * 5) (m.getD k noNm) := by
  have c : ∀ i, i < 5 → w.cell? ⟨g, k * 5 + i, none⟩ = (asg (m.getD k noNm))[i]? := fun i hi => by
    rw [h.cellAt (k * 5 + i) (by omega), asgs_get m k i (by omega) hi]
  exact ⟨c 0 (by omega), c 1 (by omega), c 2 (by omega), c 3 (by omega), c 4 (by omega)⟩
theorem asgs_set (m : List Nm) (k : Nat) (y : Nm) (hk : k < m.length) : asgs (m.set k y) = ((((((asgs m).set (k * 5) (.string y.1)).set (k * 5 + 1) (.int .i64 y.2)).set (k * 5 + 2) (.string y.1)).set (k * 5 + 3) (.int .i64 0)).set (k * 5 + 4) (.slice none 0 0)) := by
  induction m generalizing k with
  | nil => simp at hk
  | cons x m ih =>
    have e : asgs (x :: m) = asg x ++ asgs m := rfl
    cases k with
    | zero => simp [asgs, asg]
    | succ k =>
      have hl : (asg x).length = 5 := rfl
      rw [List.set_cons_succ]
      have e2 : asgs (x :: m.set k y) = asg x ++ asgs (m.set k y) := rfl
      rw [e2, ih k (by simpa using hk), e]
      have r : ∀ (a b : List Value) (i : Nat) (v : Value), a.length = 5 → (a ++ b).set ((k + 1) * 5 + i) v = a ++ b.set (k * 5 + i) v := by
        intro a b i v ha
        rw [List.set_append_right _ _ (by omega)]
        congr 2
        omega
      have r0 : ∀ (a b : List Value) (v : Value), a.length = 5 → (a ++ b).set ((k + 1) * 5) v = a ++ b.set (k * 5) v := fun a b v ha => r a b 0 v ha
      rw [r0 _ _ _ hl, r _ _ 1 _ hl, r _ _ 2 _ hl, r _ _ 3 _ hl, r _ _ 4 _ hl]
theorem own_store {w : World} {base g n cap : Nat} {m : List Nm} (h : w.ownsRow base 41 5 (.slice (some ⟨g, 0, none⟩) n cap) n (asgs m)) (hm : m.length = n) (k : Nat) (hk : k < n) (y : Nm) :
    (((((w.setCell ⟨g, k * 5, none⟩ (.string y.1)).setCell ⟨g, k * 5 + 1, none⟩ (.int .i64 y.2)).setCell ⟨g, k * 5 + 2, none⟩ (.string y.1)).setCell ⟨g, k * 5 + 3, none⟩ (.int .i64 0)).setCell ⟨g, k * 5 + 4, none⟩ (.slice none 0 0)).ownsRow base 41 5 (.slice (some ⟨g, 0, none⟩) n cap) n (asgs (m.set k y)) := by
  rw [asgs_set m k y (by omega)]
  exact (((((h.stored _ _).1.stored _ _).1.stored _ _).1.stored _ _).1.stored _ _).1
end
section
open Go.RowKit

theorem Five.later {w w' : World} {g o : Nat} {x : Nm} (h : Five w g o x) (hb : Below w.heap.size w w') : Five w' g o x :=
  ⟨cell_later hb h.1, cell_later hb h.2.1, cell_later hb h.2.2.1, cell_later hb h.2.2.2.1, cell_later hb h.2.2.2.2⟩
theorem eq_same (x y : Nm) (w : World) : Calls Tryz.prog 51 #[.agg #[.string x.1, .int .i64 x.2, .string x.1, .int .i64 0, .slice none 0 0], .agg #[.string y.1, .int .i64 y.2, .string y.1, .int .i64 0, .slice none 0 0]] w fun e w' => e = .returned (.bool (decide (x = y))) ∧ Below w.heap.size w w' := by
  have := names2_any x y w
  have e : decide (cmpA x y = 0) = decide (x = y) := by rw [Bool.eq_iff_iff]; simp only [decide_eq_true_eq]; exact cmpA_zero x y
  rw [e] at this; exact this

theorem asgs_take (m : List Nm) (k : Nat) : (asgs m).take (k * 5) = asgs (m.take k) := by
  induction m generalizing k with
  | nil => simp [asgs]
  | cons x m ih =>
    cases k with
    | zero => simp [asgs]
    | succ k =>
      have e : asgs (x :: m) = asg x ++ asgs m := rfl
      have e2 : asgs ((x :: m).take (k + 1)) = asg x ++ asgs (m.take k) := rfl
      rw [e, e2, ← ih k, List.take_append]
      have : (asg x).length = 5 := rfl
      rw [List.take_of_length_le (by omega), this, show (k + 1) * 5 - 5 = k * 5 by omega]
theorem own_shrink {w : World} {base g n cap k : Nat} {xs : List Value} (h : w.ownsRow base 41 5 (.slice (some ⟨g, 0, none⟩) n cap) n xs) (hk : k ≤ n) : w.ownsRow base 41 5 (.slice (some ⟨g, 0, none⟩) k cap) k (xs.take (k * 5)) := by
  obtain ⟨h1, h2⟩ := h
  refine ⟨by rw [List.length_take]; omega, ?_⟩
  rcases h2 with ⟨e, -⟩ | ⟨g', cap', cur, e, hb, hg, hc, hm, hs, ht⟩
  · cases e
  · simp only [Value.slice.injEq, Option.some.injEq, Addr.mk.injEq, and_true, true_and] at e
    obtain ⟨rfl, rfl⟩ := e
    refine .inr ⟨_, _, cur, rfl, hb, hg, by omega, hm, hs, ?_⟩
    rw [← ht, List.take_take]
    congr 1
    omega
theorem own_stores {base g n cap k : Nat} : ∀ (zs : List Value) (i : Nat) (w : World) (xs : List Value), k * 5 ≤ i → w.ownsRow base 41 5 (.slice (some ⟨g, 0, none⟩) n cap) n xs → ∃ ys, (w.setCells g i zs).ownsRow base 41 5 (.slice (some ⟨g, 0, none⟩) n cap) n ys ∧ ys.take (k * 5) = xs.take (k * 5) ∧ But g w (w.setCells g i zs)
  | [], i, w, xs, _, h => ⟨xs, h, rfl, But.refl g w⟩
  | z :: zs, i, w, xs, hi, h => by
    obtain ⟨ys, h1, h2, h3⟩ := own_stores (k := k) zs (i + 1) (w.setCell ⟨g, i, none⟩ z) (xs.set i z) (by omega) (h.stored i z).1
    refine ⟨ys, h1, ?_, ((But.refl g w).set (.inl rfl) z).trans h3⟩
    rw [h2]
    apply List.ext_getElem?
    intro q
    rw [List.getElem?_take, List.getElem?_take]
    split
    · rw [List.getElem?_set_ne (by omega)]
    · rfl
def zeroA : Value := .agg #[.string ⟨#[]⟩, .int .i64 0, .string ⟨#[]⟩, .int .i64 0, .slice none 0 0]
theorem zeros_one (n : Nat) : ∀ v ∈ (Builtin.zeroCells zeroA.cells n).toList, v.oneCell' = true := by
  intro v hv
  simp only [Builtin.zeroCells, Array.toList_map, List.mem_map] at hv
  obtain ⟨i, -, rfl⟩ := hv
  have hsz : zeroA.cells.size = 5 := rfl
  rw [hsz]
  have : i % 5 < 5 := Nat.mod_lt _ (by omega)
  generalize i % 5 = j at *
  have : ∀ j, j < 5 → (zeroA.cells[j]!).oneCell' = true := by decide
  exact this j ‹_›
theorem run_clear_five (w : World) (ty : TypeId) (b o n c : Nat) (hn : 0 < n) (hc : ∀ j, j < n * 5 → (w.cell? ⟨b, o + j, none⟩).isSome = true) (hf : ∀ j, j < n * 5 → w.frozen? ⟨b, o + j, none⟩ = false) :
    (Builtin.clear_ #[25] ty #[.slice (some ⟨b, o, none⟩) n c]).run Tryz.prog w = .ok (.tuple #[]) (w.setCells b o (Builtin.zeroCells zeroA.cells n).toList) := by
  have hl : (Builtin.zeroCells zeroA.cells n).toList.length = n * 5 := by simp [Builtin.zeroCells]; rfl
  have hst := run_storeCells_cells (P := Tryz.prog) b o (Builtin.zeroCells zeroA.cells n).toList 0 w (by rw [hl]; simpa using hc) (by rw [hl]; simpa using hf) (zeros_one n)
  simp only [Nat.add_zero] at hst
  obtain ⟨m, rfl⟩ : ∃ m, n = m + 1 := ⟨n - 1, by omega⟩
  unfold zeroA at hst ⊢
  simp [Builtin.clear_, run_underlying Tryz.underlying25, hst]

/-- the state of the inner loop: J have been looked at -/
structure CRo (w0 : World) (base g n cap J kk : Nat) (l m : List Nm) (w : World) : Prop where
  but : But g w0 w
  own : w.ownsRow base 41 5 (.slice (some ⟨g, 0, none⟩) n cap) n (asgs m)
  len : m.length = n
  head : m.take kk = ddN l J
  cnt : kk = (ddN l J).length
  less : kk < J
  tail : ∀ t, J ≤ t + 1 → m.getD t noNm = l.getD t noNm
theorem take_set_snoc (m : List Nm) (k : Nat) (y : Nm) (hk : k < m.length) : (m.set k y).take (k + 1) = m.take k ++ [y] := by
  rw [List.take_succ_eq_append_getElem (by simpa using hk)]
  simp [List.take_set_of_le]

set_option maxHeartbeats 8000000 in
set_option maxRecDepth 100000 in
theorem compact_any (l : List Nm) (g n cap base : Nat) (w : World) (ho : w.ownsRow base 41 5 (.slice (some ⟨g, 0, none⟩) n cap) n (asgs l)) (hl : l.length = n) (h2 : 2 ≤ n) (hn : n ≤ 2000) (hcap : n ≤ cap) (hcm : cap ≤ maxLen) :
    Calls Tryz.prog 50 #[.slice (some ⟨g, 0, none⟩) n cap, .func (.func 51) #[] #[]] w fun e w' =>
      e = .returned (.slice (some ⟨g, 0, none⟩) (ddN l n).length cap) ∧ w'.ownsRow base 41 5 (.slice (some ⟨g, 0, none⟩) (ddN l n).length cap) (ddN l n).length (asgs (ddN l n)) ∧ But g w w' := by
  unfold maxLen at hcm
  have EQ := mkHid eq_same
  have HO := mkHid ho
  have HL := mkHid hl
  clear ho hl
  have hn2 : ¬ (n : Int) < 2 := by omega
  go_enter Tryz.func50, Tryz.ntmps50
  go_wp2
  go_loopw [5] (fun i w' => ∃ (j : Nat) (x : Int), i = .int .i64 x ∧ x = (j : Int) + 1 ∧ j + 1 ≤ n ∧ ddN l (j + 1) = l.take (j + 1) ∧ Below w.heap.size w w') (fun i _ => (n - intOf i).toNat)
  case atStart => exact ⟨0, 1, rfl, rfl, by omega, ddN_take l 0 (by rw [HL.out]; omega) rfl (by simp), Below.refl _ _⟩
  case round =>
    obtain ⟨j, x, rfl, hxk, hj, hdd, hb⟩ := hrel
    obtain rfl : x = (j : Int) + 1 := hxk
    have HD := mkHid hdd
    clear hdd
    by_cases hlt : j + 1 < n
    · have hlt' : (j : Int) + 1 < (n : Int) := by omega
      have t1 : ((j : Int) + 1).toNat = j + 1 := by omega
      have t2 : (0 : Int) ≤ (j : Int) + 1 := by omega
      have t3 : (j : Int) < (n : Int) := by omega
      have t4 : j < n := by omega
      have W1 : IntKind.i64.wrap (j : Int) = (j : Int) := IntWalk.i64_in _ (by omega)
      have HOr := own_later HO.out hb
      have v1 := own_five HOr HL.out (j + 1) hlt
      have v0 := own_five HOr HL.out j t4
      have EQ1 := mkHid (EQ.out (l.getD (j + 1) noNm) (l.getD j noNm) wr.drew)
      have SAME : Hid (l.getD (j + 1) noNm = l.getD j noNm → ∀ i, j + 1 < i → (ddN l i).length < i) := fun h => ddN_less l (k := j + 1) (by omega) h
      have DIFF : Hid (l.getD (j + 1) noNm ≠ l.getD j noNm → ddN l (j + 1 + 1) = l.take (j + 1 + 1)) := fun h => ddN_take l (j + 1) (by rw [HL.out]; exact hlt) HD.out (fun hh => h hh.2)
      have SAMD : Hid (l.getD (j + 1) noNm = l.getD j noNm → ddN l (j + 1 + 1) = l.take (j + 1)) := fun h => by
        show (if 0 < j + 1 ∧ l.getD (j + 1) noNm = l.getD j noNm then ddN l (j + 1) else _) = _
        rw [if_pos ⟨by omega, h⟩]; exact HD.out
      generalize l.getD (j + 1) noNm = a1 at *
      generalize l.getD j noNm = a0 at *
      go_wp2_with fail
      obtain ⟨y0, y1, y2, y3, y4⟩ : Five wr.drew g ((j + 1) * 5) a1 := v1
      obtain ⟨z0, z1, z2, z3, z4⟩ : Five wr.drew g (j * 5) a0 := v0
      have hbd := bdrew hb
      refine wp_region_still_tail 10 (by kernel_rfl) (by kernel_rfl) ?_
      change wpStill _ _ wr.drew (fun a' => wpList _ _ _ _ a' wr.drew) _ _
      generalize wr.drew = wd at *
      simp only [List.take_succ_cons, List.take_zero, List.drop_succ_cons, List.drop_zero]
      repeat still_step
      refine wpStill_nil ?_
      clear y0 y1 y2 y3 y4 z0 z1 z2 z3 z4 HOr W1
      by_cases hq : a1 = a0
      · have S1 := mkHid (SAME.out hq)
        have S2 := mkHid (SAMD.out hq)
        rw [decide_eq_true hq] at EQ1
        clear SAME SAMD DIFF hq
        go_wp2_with (go_at_call 51; ((with_reducible refine EQ1.out.mono ?_)); rintro e w1 ⟨rfl, hb1⟩)
        have R0 : CRo w base g n cap (j + 1 + 1) (j + 1) l l w1 := by
          have bb := bon hbd hb1
          exact ⟨But.of bb, own_later HO.out bb, HL.out, S2.out.symm, by rw [S2.out, List.length_take, HL.out]; omega, by omega, fun _ _ => rfl⟩
        clear EQ1 hbd hb1 hb S2 HD HO
        go_loopw [5, 7] (fun s5 s7 w' => ∃ (i kk : Nat) (x y : Int) (m : List Nm), s7 = .int .i64 x ∧ x = (i : Int) + 1 ∧ s5 = .int .i64 y ∧ y = kk ∧ j + 1 + 1 + i ≤ n ∧ CRo w base g n cap (j + 1 + 1 + i) kk l m w') (fun _ s7 _ => (n - intOf s7).toNat)
        case atStart => exact ⟨0, j + 1, 1, _, l, rfl, rfl, rfl, by omega, by omega, R0⟩
        case round =>
          clear R0
          obtain ⟨i, kk, x, y, m, rfl, hx, rfl, hy, hJ, R⟩ := hrel
          obtain rfl : x = (i : Int) + 1 := hx
          obtain rfl : y = (kk : Int) := hy
          have hless := R.less
          by_cases hin : j + 1 + 1 + i < n
          · have d1 : (i : Int) + 1 < ((n - (j + 1) : Nat) : Int) := by omega
            have d2 : ((i : Int) + 1).toNat = i + 1 := by omega
            have d3 : (0 : Int) ≤ (i : Int) + 1 := by omega
            have d4 : (i : Int) < ((n - (j + 1) : Nat) : Int) := by omega
            have d5 : i < n - (j + 1) := by omega
            have d6 : i + 1 < n - (j + 1) := by omega
            have V1 : IntKind.i64.wrap (i : Int) = (i : Int) := IntWalk.i64_in _ (by omega)
            have own := R.own
            have p1 := own_five own R.len (j + 1 + 1 + i) hin
            have p0 := own_five own R.len (j + 1 + i) (by omega)
            have pk := own_five own R.len kk (by omega)
            rw [R.tail _ (by omega), show (j + 1 + 1 + i) * 5 = (j + 1) * 5 + (i + 1) * 5 by omega] at p1
            rw [R.tail _ (by omega), show (j + 1 + i) * 5 = (j + 1) * 5 + i * 5 by omega] at p0
            have EQ2 := mkHid (EQ.out (l.getD (j + 1 + 1 + i) noNm) (l.getD (j + 1 + i) noNm) wr.drew)
            have NX : Hid (ddN l (j + 1 + 1 + i + 1) = if 0 < j + 1 + 1 + i ∧ l.getD (j + 1 + 1 + i) noNm = l.getD (j + 1 + 1 + i - 1) noNm then ddN l (j + 1 + 1 + i) else ddN l (j + 1 + 1 + i) ++ [l.getD (j + 1 + 1 + i) noNm]) := rfl
            rw [show j + 1 + 1 + i - 1 = j + 1 + i by omega] at NX
            generalize l.getD (j + 1 + 1 + i) noNm = b1 at *
            generalize l.getD (j + 1 + i) noNm = b0 at *
            generalize m.getD kk noNm = bk at *
            have RH := mkHid R
            clear R own
            go_wp2_with fail
            have q1 : Five wr.drew g ((j + 1) * 5 + (i + 1) * 5) b1 := p1
            have q0 : Five wr.drew g ((j + 1) * 5 + i * 5) b0 := p0
            have qk : Five wr.drew g (kk * 5) bk := pk
            have hbd : Below wr.heap.size wr wr.drew := bdrew (Below.refl _ _)
            have HQ1 := mkHid q1
            have HQK := mkHid qk
            obtain ⟨y0, y1, y2, y3, y4⟩ := q1
            obtain ⟨z0, z1, z2, z3, z4⟩ := q0
            refine wp_region_still_tail 10 (by kernel_rfl) (by kernel_rfl) ?_
            change wpStill _ _ wr.drew (fun a' => wpList _ _ _ _ a' wr.drew) _ _
            generalize wr.drew = wd at *
            simp only [List.take_succ_cons, List.take_zero, List.drop_succ_cons, List.drop_zero]
            repeat still_step
            refine wpStill_nil ?_
            clear y0 y1 y2 y3 y4 z0 z1 z2 z3 z4 V1
            by_cases hq : b1 = b0
            · rw [if_pos ⟨by omega, hq⟩] at NX
              rw [decide_eq_true hq] at EQ2
              clear hq
              go_wp2_with (go_at_call 51; ((with_reducible refine EQ2.out.mono ?_)); rintro e w1 ⟨rfl, hb1⟩)
              go_roundw
              case rel =>
                have R := RH.out
                have bb := bon hbd hb1
                exact ⟨i + 1, kk, _, _, m, rfl, by omega, rfl, rfl, by omega, ⟨R.but.trans (But.of bb), own_later R.own bb, R.len, by rw [← Nat.add_assoc, NX.out]; exact R.head, by rw [← Nat.add_assoc, NX.out]; exact R.cnt, by omega, fun t ht => R.tail t (by omega)⟩⟩
              case measure => simp [intOf]; omega
            · rw [if_neg (fun h => hq h.2)] at NX
              rw [decide_eq_false hq] at EQ2
              clear hq
              have k1 : (kk : Int) < (n : Int) := by omega
              have k2 : kk < n := by omega
              go_wp2_with (go_at_call 51; ((with_reducible refine EQ2.out.mono ?_)); rintro e w1 ⟨rfl, hb1⟩; obtain ⟨y0, y1, y2, y3, y4⟩ := HQ1.out.later hb1; obtain ⟨z0, z1, z2, z3, z4⟩ := HQK.out.later hb1; have fz := (own_later RH.out.own (bon hbd hb1)).frozenAt (kk * 5); have fz1 := (own_later RH.out.own (bon hbd hb1)).frozenAt (kk * 5 + 1); have fz2 := (own_later RH.out.own (bon hbd hb1)).frozenAt (kk * 5 + 2); have fz3 := (own_later RH.out.own (bon hbd hb1)).frozenAt (kk * 5 + 3); have fz4 := (own_later RH.out.own (bon hbd hb1)).frozenAt (kk * 5 + 4))
              go_roundw
              case rel =>
                have R := RH.out
                have bb := bon hbd hb1
                refine ⟨i + 1, kk + 1, _, _, m.set kk b1, rfl, by omega, rfl, by omega, by omega, ⟨(((((R.but.trans (But.of bb)).set (.inl rfl) _).set (.inl rfl) _).set (.inl rfl) _).set (.inl rfl) _).set (.inl rfl) _, own_store (own_later R.own bb) R.len kk k2 b1, by simp [R.len], ?_, ?_, by omega, fun t ht => ?_⟩⟩
                · rw [← Nat.add_assoc, NX.out, take_set_snoc m kk b1 (by rw [R.len]; exact k2), R.head]
                · rw [← Nat.add_assoc, NX.out, List.length_append, ← R.cnt]; rfl
                · rw [← R.tail t (by omega), List.getD_eq_getElem?_getD, List.getD_eq_getElem?_getD, List.getElem?_set_ne (by omega)]
              case measure => simp [intOf]; omega
          · have hJn : j + 1 + 1 + i = n := by omega
            have e1 := R.cnt
            have e2 := R.head
            rw [hJn] at e1 e2
            have E1 := mkHid e1.symm
            have E2 := mkHid e2
            have k1 : (kk : Int) ≤ (n : Int) := by omega
            have k2 : kk < n := by omega
            have k3 : kk ≤ cap := by omega
            have k4 : ¬ cap = kk := by omega
            have k5 : ¬ kk = cap := by omega
            have k6 : (kk : Int) ≤ (cap : Int) := by omega
            have d1 : ¬ (i : Int) + 1 < ((n - (j + 1) : Nat) : Int) := by omega
            have own := R.own
            have hcl : ∀ ty, (Builtin.clear_ #[25] ty #[.slice (some ⟨g, kk * 5, none⟩) (n - kk) (cap - kk)]).run Tryz.prog wr = .ok (.tuple #[]) (wr.setCells g (kk * 5) (Builtin.zeroCells zeroA.cells (n - kk)).toList) := fun ty =>
              run_clear_five wr ty g (kk * 5) (n - kk) (cap - kk) (by omega) (fun q hq => by rw [own.cellAt _ (by omega), List.getElem?_eq_getElem (by rw [own.1]; omega)]; rfl) (fun q _ => own.frozenAt _)
            obtain ⟨ys, o1, o2, o3⟩ := own_stores (k := kk) (Builtin.zeroCells zeroA.cells (n - kk)).toList (kk * 5) wr (asgs m) (Nat.le_refl _) own
            have o4 := own_shrink o1 (k := kk) (by omega)
            rw [o2, asgs_take, E2.out] at o4
            have O4 := mkHid o4
            have O5 := mkHid (R.but.trans o3)
            clear e1 e2 own o1 o2 o3 o4 R hJn
            generalize hzs : (Builtin.zeroCells zeroA.cells (n - kk)).toList = zs at *
            clear hzs
            generalize hws : wr.setCells g (kk * 5) zs = ws at *
            go_wp2
            go_ret
            rw [E1.out]
            exact ⟨rfl, O4.out, O5.out⟩
      · have S3 := mkHid (DIFF.out hq)
        rw [decide_eq_false hq] at EQ1
        clear SAME SAMD DIFF hq
        go_wp2_with (go_at_call 51; ((with_reducible refine EQ1.out.mono ?_)); rintro e w1 ⟨rfl, hb1⟩)
        go_roundw
        case rel => exact ⟨j + 1, _, rfl, by omega, by omega, S3.out, bon hbd hb1⟩
        case measure => simp [intOf]; omega
    · have e : j + 1 = n := by omega
      have E1 : ddN l n = l := by rw [← e, HD.out, List.take_of_length_le (by rw [HL.out]; omega)]
      have E2 := mkHid E1
      clear E1
      go_wp2
      go_ret
      rw [E2.out, HL.out]
      exact ⟨rfl, own_later HO.out hb, But.of hb⟩
end
section
open Go.Shelf Go.RowKit

def sortAs_ren : Go.Shelf.Ren := ⟨fun | 6 => 48 | 15 => 68 | 14 => 67 | 28 => 91 | 29 => 92 | 20 => 83 | 21 => 84 | 22 => 85 | 23 => 86 | 24 => 87 | 25 => 88 | 26 => 89 | 27 => 90 | 46 => 105 | 47 => 106 | 48 => 107 | 49 => 108 | 50 => 109 | 57 => 115 | n => n, fun | 22 => 25 | 24 => 41 | 25 => 98 | 3 => 3 | 39 => 119 | 0 => 0 | 53 => 143 | 55 => 127 | 4 => 4 | 46 => 136 | 45 => 135 | 50 => 140 | 5 => 5 | 9 => 9 | 66 => 155 | 70 => 159 | 76 => 166 | 77 => 167 | n => n, fun | n => n⟩
theorem sortAs : Go.Proofs.SlLaysF0.n6 Tryz.prog sortAs_ren := {
  mixed := by kernel_rfl
  f6 := ⟨Tryz.f48.name, by decide, Tryz.func48.trans (congrArg some (by kernel_rfl))⟩
  f14 := ⟨Tryz.f67.name, by decide, Tryz.func67.trans (congrArg some (by kernel_rfl))⟩
  f15 := Tryz.func68.trans (congrArg some (by kernel_rfl))
  f20 := ⟨Tryz.f83.name, by decide, Tryz.func83.trans (congrArg some (by kernel_rfl))⟩
  f21 := ⟨Tryz.f84.name, by decide, Tryz.func84.trans (congrArg some (by kernel_rfl))⟩
  f22 := ⟨Tryz.f85.name, by decide, Tryz.func85.trans (congrArg some (by kernel_rfl))⟩
  f23 := ⟨Tryz.f86.name, by decide, Tryz.func86.trans (congrArg some (by kernel_rfl))⟩
  f24 := ⟨Tryz.f87.name, by decide, Tryz.func87.trans (congrArg some (by kernel_rfl))⟩
  f25 := ⟨Tryz.f88.name, by decide, Tryz.func88.trans (congrArg some (by kernel_rfl))⟩
  f26 := ⟨Tryz.f89.name, by decide, Tryz.func89.trans (congrArg some (by kernel_rfl))⟩
  f27 := ⟨Tryz.f90.name, by decide, Tryz.func90.trans (congrArg some (by kernel_rfl))⟩
  f28 := Tryz.func91.trans (congrArg some (by kernel_rfl))
  f29 := Tryz.func92.trans (congrArg some (by kernel_rfl))
  f46 := ⟨Tryz.f105.name, by decide, Tryz.func105.trans (congrArg some (by kernel_rfl))⟩
  f47 := Tryz.func106.trans (congrArg some (by kernel_rfl))
  f48 := Tryz.func107.trans (congrArg some (by kernel_rfl))
  f49 := ⟨Tryz.f108.name, by decide, Tryz.func108.trans (congrArg some (by kernel_rfl))⟩
  f50 := ⟨Tryz.f109.name, by decide, Tryz.func109.trans (congrArg some (by kernel_rfl))⟩
  f57 := ⟨Tryz.f115.name, by decide, Tryz.func115.trans (congrArg some (by kernel_rfl))⟩
  t0 := Tryz.underlying0
  a0 := Tryz.isAgg0
  z0 := Tryz.sizeOf0
  v0 := Tryz.zeroValue0
  t3 := Tryz.underlying3
  a3 := Tryz.isAgg3
  z3 := Tryz.sizeOf3
  v3 := Tryz.zeroValue3
  t4 := Tryz.underlying4
  a4 := Tryz.isAgg4
  z4 := Tryz.sizeOf4
  v4 := Tryz.zeroValue4
  t5 := Tryz.underlying5
  a5 := Tryz.isAgg5
  z5 := Tryz.sizeOf5
  v5 := Tryz.zeroValue5
  t9 := Tryz.underlying9
  a9 := Tryz.isAgg9
  z9 := Tryz.sizeOf9
  v9 := Tryz.zeroValue9
  t22 := Tryz.underlying25
  a22 := Tryz.isAgg25
  z22 := Tryz.sizeOf25
  v22 := Tryz.zeroValue25
  t25 := Tryz.underlying98
  a25 := Tryz.isAgg98
  z25 := Tryz.sizeOf98
  v25 := Tryz.zeroValue98
  t39 := Tryz.underlying119
  a39 := Tryz.isAgg119
  z39 := Tryz.sizeOf119
  v39 := Tryz.zeroValue119
  t45 := Tryz.underlying135
  a45 := Tryz.isAgg135
  z45 := Tryz.sizeOf135
  v45 := Tryz.zeroValue135
  t46 := Tryz.underlying136
  a46 := Tryz.isAgg136
  z46 := Tryz.sizeOf136
  v46 := Tryz.zeroValue136
  t50 := Tryz.underlying140
  a50 := Tryz.isAgg140
  z50 := Tryz.sizeOf140
  v50 := Tryz.zeroValue140
  t53 := Tryz.underlying143
  a53 := Tryz.isAgg143
  z53 := Tryz.sizeOf143
  v53 := Tryz.zeroValue143
  t55 := Tryz.underlying127
  a55 := Tryz.isAgg127
  z55 := Tryz.sizeOf127
  v55 := Tryz.zeroValue127
  t66 := Tryz.underlying155
  a66 := Tryz.isAgg155
  z66 := Tryz.sizeOf155
  v66 := Tryz.zeroValue155
  t70 := Tryz.underlying159
  a70 := Tryz.isAgg159
  z70 := Tryz.sizeOf159
  v70 := Tryz.zeroValue159
  t76 := Tryz.underlying166
  a76 := Tryz.isAgg166
  z76 := Tryz.sizeOf166
  v76 := Tryz.zeroValue166
  t77 := Tryz.underlying167
  a77 := Tryz.isAgg167
  z77 := Tryz.sizeOf167
  v77 := Tryz.zeroValue167 }

theorem mapBlock_get (w : World) (b : Nat) (f : Array Value → Array Value) (k : Nat) (hk : k ≠ b) : (Sort.mapBlock w b f).heap[k]? = w.heap[k]? := by
  unfold Sort.mapBlock
  simp only [Array.getElem?_modify]
  rw [if_neg (fun e => hk e.symm)]
theorem mapBlock_at (w : World) (b : Nat) (f : Array Value → Array Value) (c : Array Value) (e : TypeId) (fr : Nat × Nat) (h : w.heap[b]? = some (.cells c e fr)) : (Sort.mapBlock w b f).heap[b]? = some (.cells (f c) e fr) := by
  unfold Sort.mapBlock
  simp only [Array.getElem?_modify, if_true, h]
  rfl
theorem asg_enc (x : Nm) : (asg x).length = 5 := rfl
instance : Inhabited Nm := ⟨noNm⟩
theorem getBang (l : List Nm) (k : Nat) (hk : k < l.length) : l.toArray[k]! = l.getD k noNm := by
  simp [List.getD, hk]
theorem flat_asgs (l : List Nm) (t : Nat) (ht : t < l.length * 5) : some ((Sort.flatK asg 5 l.toArray)[t]!) = (asgs l)[t]? := by
  rw [Sort.get_flatK asg 5 l.toArray t (by simpa using ht)]
  have h1 : t / 5 < l.length := by omega
  have h2 : t % 5 < 5 := Nat.mod_lt _ (by omega)
  rw [getBang l _ h1]
  have h3 := asgs_get l (t / 5) (t % 5) h1 h2
  rw [show t / 5 * 5 + t % 5 = t by omega] at h3
  rw [h3]
  generalize l.getD (t / 5) noNm = x
  generalize t % 5 = j at *
  rw [List.getElem?_eq_getElem (show j < (asg x).length from h2)]
  simp [show j < (asg x).length from h2]
theorem holds_row {w : World} {base g n cap : Nat} {l : List Nm} (h : w.ownsRow base 41 5 (.slice (some ⟨g, 0, none⟩) n cap) n (asgs l)) (hl : l.length = n) : Sort.HoldsK asg 5 w g 0 l.toArray := by
  intro j hj
  have hj' : j < n * 5 := by rw [Sort.size_flatK] at hj; simpa [hl] using hj
  rw [Nat.zero_add]
  refine ⟨?_, h.frozenAt j⟩
  rw [h.cellAt j hj', ← flat_asgs l j (by omega)]
  rfl
theorem row_put {w : World} {base g n cap m : Nat} {l l' : List Nm} {os : Array Obj} (h : w.ownsRow base 41 5 (.slice (some ⟨g, 0, none⟩) n cap) n (asgs l)) (hl' : l'.length = n) :
    (Go.Proofs.sortWorldK asg 5 w g 0 m l'.toArray os).ownsRow base 41 5 (.slice (some ⟨g, 0, none⟩) n cap) n (asgs l') ∧ But g w (Go.Proofs.sortWorldK asg 5 w g 0 m l'.toArray os) := by
  obtain ⟨h1, h2⟩ := h
  rcases h2 with ⟨e, -⟩ | ⟨g', cap', cur, e, hb, hg, hc, hm, hs, ht⟩
  · cases e
  simp only [Value.slice.injEq, Option.some.injEq, Addr.mk.injEq, and_true, true_and] at e
  obtain ⟨rfl, rfl⟩ := e
  have hlt : g < w.heap.size := by
    rcases Nat.lt_or_ge g w.heap.size with q | q
    · exact q
    · rw [Array.getElem?_eq_none q] at hg; cases hg
  have hga : (Sort.ahead w m).heap[g]? = some (.cells cur 41 (0, 0)) := hg
  have hsz : (Sort.mapBlock (Sort.ahead w m) g (Sort.putCells id 0 (Sort.flatK asg 5 l'.toArray))).heap.size = w.heap.size := by simp [Sort.mapBlock]
  have hblk : ∀ k, k < w.heap.size → (Go.Proofs.sortWorldK asg 5 w g 0 m l'.toArray os).heap[k]? = (Sort.mapBlock (Sort.ahead w m) g (Sort.putCells id 0 (Sort.flatK asg 5 l'.toArray))).heap[k]? := fun k hk => Sort.heap_grow_old _ _ (by rw [show (Sort.putRowK asg 5 (Sort.ahead w m) g 0 l'.toArray) = Sort.mapBlock (Sort.ahead w m) g (Sort.putCells id 0 (Sort.flatK asg 5 l'.toArray)) from rfl, hsz]; exact hk)
  refine ⟨⟨by rw [asgs_len, hl'], .inr ⟨g, cap, Sort.putCells id 0 (Sort.flatK asg 5 l'.toArray) cur, rfl, hb, ?_, hc, hm, by simp [Sort.putCells, hs], ?_⟩⟩, ⟨rfl, rfl, rfl, ?_, ?_⟩⟩
  · rw [hblk g hlt]; exact mapBlock_at _ _ _ _ _ _ hga
  · apply List.ext_getElem?
    intro j
    rw [List.getElem?_take]
    by_cases hj : j < n * 5
    · rw [if_pos hj]
      have hjc : j < cur.size := by have := Nat.mul_le_mul_right 5 hc; omega
      have hfs : (Sort.flatK asg 5 l'.toArray).size = n * 5 := by rw [Sort.size_flatK]; simp [hl']
      rw [← flat_asgs l' j (by omega)]
      simp [Sort.putCells, hjc, hfs, hj]
    · rw [if_neg hj, List.getElem?_eq_none (by rw [asgs_len, hl']; omega)]
  · show w.heap.size ≤ (Sort.grow _ os).heap.size
    rw [Sort.size_grow]
    have : (Sort.putRowK asg 5 (Sort.ahead w m) g 0 l'.toArray).heap.size = w.heap.size := hsz
    omega
  · intro k hk hne
    rw [hblk k hk, mapBlock_get _ _ _ _ hne]; rfl

theorem ltOf_iff (x y : Nm) : Go.Proofs.ltOf cmpA x y = true ↔ ltA x y := by unfold Go.Proofs.ltOf; rw [decide_eq_true_eq]; exact cmpA_neg x y
theorem ltA_irrefl (x : Nm) : ¬ ltA x x := by
  rintro (h | ⟨-, h⟩)
  · exact List.lt_irrefl _ h
  · omega
theorem ltA_trans {x y z : Nm} (h1 : ltA x y) (h2 : ltA y z) : ltA x z := by
  rcases h1 with h1 | ⟨e1, h1⟩
  · rcases h2 with h2 | ⟨e2, h2⟩
    · exact .inl (List.lt_trans h1 h2)
    · exact .inl (e2 ▸ h1)
  · rcases h2 with h2 | ⟨e2, h2⟩
    · exact .inl (e1 ▸ h2)
    · exact .inr ⟨e1.trans e2, by omega⟩
theorem ltA_tri (x y : Nm) : ltA x y ∨ x = y ∨ ltA y x := by
  rcases tri x.1.toList y.1.toList with h | h | h
  · exact .inl (.inl h)
  · have e := toList_inj h
    rcases (show x.2 < y.2 ∨ x.2 = y.2 ∨ y.2 < x.2 by omega) with k | k | k
    · exact .inl (.inr ⟨e, k⟩)
    · exact .inr (.inl (Prod.ext e k))
    · exact .inr (.inr (.inr ⟨e.symm, k⟩))
  · exact .inr (.inr (.inl h))
theorem swoA : Sort.SWO (Go.Proofs.ltOf cmpA) := {
  irrefl := fun x => by rw [Bool.eq_false_iff, ne_eq, ltOf_iff]; exact ltA_irrefl x
  trans := fun x y z h1 h2 => by rw [ltOf_iff] at *; exact ltA_trans h1 h2
  ntrans := fun x y z h1 h2 => by
    rw [Bool.eq_false_iff, ne_eq, ltOf_iff] at *
    intro h3
    rcases ltA_tri x y with k | k | k
    · exact h1 k
    · exact h2 (k ▸ h3)
    · rcases ltA_tri y z with q | q | q
      · exact h2 q
      · exact h1 (q ▸ h3)
      · exact ltA_irrefl x (ltA_trans h3 (ltA_trans q k)) }

theorem enters_order : ∀ args w, (callFunc 49 args).run Tryz.prog w = .ok (.enter 49 args) w := enters_of Tryz.func49 (by kernel_rfl) rfl
theorem sort_many (l : List Nm) (g n cap base : Nat) (w : World) (ho : w.ownsRow base 41 5 (.slice (some ⟨g, 0, none⟩) n cap) n (asgs l)) (hl : l.length = n) (hn : n ≤ 2000) :
    Calls Tryz.prog 48 #[.slice (some ⟨g, 0, none⟩) n cap, .func (.func 49) #[] #[]] w fun e w' =>
      e = .returned (.tuple #[]) ∧ (∃ l' : List Nm, l'.length = n ∧ l'.Perm l ∧ (∀ i j, i < j → j < n → ¬ ltA (l'.getD j noNm) (l'.getD i noNm)) ∧ w'.ownsRow base 41 5 (.slice (some ⟨g, 0, none⟩) n cap) n (asgs l')) ∧ But g w w' := by
  have hblk : g < w.heap.size := (ho.lt g rfl).2
  have h := Go.Proofs.AnyQ.slices_SortFunc sortAs 5 Tryz.isAgg41 Tryz.sizeOf41 asg asg_enc asg_one cmpA swoA 49 #[] g 0 cap l.toArray w enters_order (fun m os dk hs x y => order_any x y _) (holds_row ho hl) hblk (by simp; omega)
  rw [List.size_toArray, hl] at h
  refine h.mono ?_
  rintro e w' ⟨he, d', m, os, hp, hso, rfl⟩
  obtain ⟨p1, -, p3⟩ := hp
  have p1 : d'.size = n := by rw [p1]; simp [hl]
  have e1 : d'.toList.length = n := by simpa using p1
  have hd : d' = d'.toList.toArray := by simp
  have hr := row_put (m := m) (os := os) ho e1
  rw [← hd] at hr
  refine ⟨he, ⟨d'.toList, e1, ?_, ?_, hr.1⟩, hr.2⟩
  · have a1 : (d'.extract 0 n).toList = d'.toList := by rw [Array.extract_eq_self_of_le (by omega)]
    have a2 : (l.toArray.extract 0 n).toList = l := by rw [Array.extract_eq_self_of_le (by simp; omega)]
    rw [a1, a2] at p3; exact p3
  · intro i j hij hj
    have := hso i j (by omega) hij hj
    rw [Bool.eq_false_iff, ne_eq, ltOf_iff] at this
    rw [hd, getBang _ j (by omega), getBang _ i (by omega)] at this
    exact this
end
section
open Go.RowKit

/-- the names of a term, rising, each once -/
def NamesOf (t : Tm) (L : List Nm) : Prop := L.Pairwise ltA ∧ ∀ x, x ∈ L ↔ x ∈ t.vars
theorem dd_fin (l : List Nm) (hs : ∀ i j, i < j → j < l.length → ¬ ltA (l.getD j noNm) (l.getD i noNm)) : ∀ j, j ≤ l.length → (ddN l j).Pairwise ltA ∧ ∀ x, x ∈ ddN l j ↔ ∃ i, i < j ∧ x = l.getD i noNm := by
  intro j
  induction j with
  | zero => intro _; exact ⟨by simp [ddN], fun x => by simp [ddN]⟩
  | succ j ih =>
    intro hj
    obtain ⟨h1, h2⟩ := ih (by omega)
    unfold ddN
    split
    · rename_i h
      refine ⟨h1, fun x => ⟨fun hx => ?_, fun ⟨i, hi, e⟩ => ?_⟩⟩
      · obtain ⟨i, hi, e⟩ := (h2 x).1 hx
        exact ⟨i, by omega, e⟩
      · by_cases k : i = j
        · subst k
          exact (h2 x).2 ⟨i - 1, by omega, e.trans h.2⟩
        · exact (h2 x).2 ⟨i, by omega, e⟩
    · rename_i h
      refine ⟨List.pairwise_append.2 ⟨h1, by simp, fun x hx y hy => ?_⟩, fun x => ?_⟩
      · rw [List.mem_singleton] at hy
        subst hy
        obtain ⟨i, hi, rfl⟩ := (h2 x).1 hx
        rcases ltA_tri (l.getD i noNm) (l.getD j noNm) with k | k | k
        · exact k
        · exfalso
          by_cases hij : i = j - 1
          · subst hij; exact h ⟨by omega, k.symm⟩
          · have a1 := hs i (j - 1) (by omega) (by omega)
            have a2 := hs (j - 1) j (by omega) (by omega)
            rcases ltA_tri (l.getD (j - 1) noNm) (l.getD j noNm) with q | q | q
            · rw [k] at a1; exact a1 q
            · exact h ⟨by omega, q.symm⟩
            · exact a2 q
        · exact absurd k (hs i j hi (by omega))
      · rw [List.mem_append, List.mem_singleton, h2]
        constructor
        · rintro (⟨i, hi, e⟩ | e)
          · exact ⟨i, by omega, e⟩
          · exact ⟨j, by omega, e⟩
        · rintro ⟨i, hi, e⟩
          by_cases k : i = j
          · subst k; exact .inr e
          · exact .inl ⟨i, by omega, e⟩
theorem mem_getD (l : List Nm) (x : Nm) : x ∈ l ↔ ∃ i, i < l.length ∧ x = l.getD i noNm := by
  constructor
  · intro h
    obtain ⟨i, hi, rfl⟩ := List.mem_iff_getElem.1 h
    exact ⟨i, hi, by simp [List.getD, hi]⟩
  · rintro ⟨i, hi, rfl⟩
    have : l.getD i noNm = l[i] := by simp [List.getD, hi]
    rw [this]; exact List.getElem_mem _
theorem names_fin {t : Tm} {l' : List Nm} (hl : l'.length = t.vars.length) (hp : l'.Perm t.vars) (hs : ∀ i j, i < j → j < t.vars.length → ¬ ltA (l'.getD j noNm) (l'.getD i noNm)) : NamesOf t (ddN l' t.vars.length) := by
  rw [← hl] at hs ⊢
  obtain ⟨h1, h2⟩ := dd_fin l' hs l'.length (Nat.le_refl _)
  exact ⟨h1, fun x => by rw [h2, ← mem_getD]; exact hp.mem_iff⟩
theorem own_caps {w : World} {base e s n cap g : Nat} {xs : List Value} (h : w.ownsRow base e s (.slice (some ⟨g, 0, none⟩) n cap) n xs) : n ≤ cap ∧ cap ≤ maxLen := by
  rcases h.2 with ⟨e, -⟩ | ⟨g', cap', cur, e, -, -, hc, hm, -, -⟩
  · cases e
  · simp only [Value.slice.injEq, Option.some.injEq, Addr.mk.injEq, and_true, true_and] at e
    obtain ⟨-, rfl⟩ := e
    exact ⟨hc, hm⟩

set_option maxRecDepth 100000 in
set_option maxHeartbeats 4000000 in
theorem names_lots (t : Tm) (w : World) (hin : TIn w w.heap.size t) (hS : Shps w) (he : errR t = 0) (hv : 2 ≤ t.vars.length) :
    Calls Tryz.prog 32 #[t.val] w fun e w' => (∃ (L : List Nm) (v : Value), e = .returned v ∧ w'.ownsRow w.heap.size 41 5 v L.length (asgs L) ∧ NamesOf t L) ∧ Below w.heap.size w w' := by
  have hmf : ∀ (fn : Fn) (first cap : Array Value) (w : World), (Instr.makeFunc fn first cap).run Tryz.prog w = .ok (.func fn first cap) w := fun _ _ _ _ => rfl
  obtain ⟨hz, hd, hs0, hsr⟩ := errR_zero he
  have hb1 := bel_alloc w (boxT t)
  have f4 := box_four w t
  have ST := mkHid (sort_any t _ (hin.later hb1) (hS.later hb1))
  rw [he] at ST
  have hg0 : 0 < w.heap.size := World.block_lt_of_cell? _ _ (hS 0 (by omega)).1
  have hW : w.alloc (.cells #[.int .i64 t.op, .string t.nm, .int .i64 t.n, .slice t.a t.ks.length t.c] 24) = w.alloc (boxT t) := rfl
  have HIN := mkHid hin
  have HS := mkHid hS
  have HF := mkHid f4
  have hX1 : w.heap.size < (w.alloc (boxT t)).heap.size := by simp
  have HG := mkHid (fun B base nb fb v W => gather_any t B base nb fb [] v W)
  have hvz : t.vars.length ≤ 2000 := Nat.le_trans (vars_le t) hz
  have TS := mkHid (fun g cap w' ho => sort_many t.vars g t.vars.length cap w.heap.size w' ho rfl hvz)
  generalize hx : srtR t = sr at *
  generalize w.alloc (boxT t) = W at *
  have hval : t.val = .agg #[.int .i64 t.op, .string t.nm, .int .i64 t.n, .slice t.a t.ks.length t.c] := rfl
  have HVL := mkHid hval
  rw [hval]
  clear hval hx hin hS hd he
  obtain ⟨a0, a1, a2, a3⟩ := f4
  simp only [Nat.zero_add] at a1 a2 a3
  unfold Tm.val at ST
  go_enter Tryz.func32, Tryz.ntmps32
  go_wp2_with fail
  ((with_reducible refine ST.out.mono ?_)); rintro e w2 ⟨rfl, hb2⟩
  have B2 := bon hb1 hb2
  have f5 := HF.out.later hb2
  obtain ⟨n1, n2, n3, n4, n5⟩ := namW_facts w2
  have f6 := f5.later n1
  have B3 := bon B2 n1
  have G := mkHid (HG.out w.heap.size w.heap.size w2.heap.size (w2.heap.size + 1) (.slice none 0 0) (namW w2) (HIN.out.keep B3) (HS.out.later B3) hg0 hs0 B2.size (by have := B2.size; omega) (by omega) (Nat.le_refl _) n4 n5 B3.size n2 (World.ownsRow_nil _ _ _ _) n3 (by simp; omega))
  rw [List.nil_append, HVL.out] at G
  have hW2 : ((w2.alloc (.cells #[.slice none 0 0] 25)).alloc (.cells #[.nilFunc] 76)).setCell ⟨w2.heap.size + 1, 0, none⟩ (.func (.func 47) #[] #[.pointer (some ⟨w2.heap.size, 0, none⟩), .pointer (some ⟨w2.heap.size + 1, 0, none⟩)]) = namW w2 := rfl
  clear a0 a1 a2 a3 hW HF f5 HG ST HIN HS hs0 hg0 hz hsr
  unfold gthF at n3
  obtain ⟨m0, m1⟩ := n2
  obtain ⟨a0, a1, a2, a3⟩ := f6
  simp only [Nat.zero_add] at a1 a2 a3
  generalize namW w2 = W2 at *
  have hY : w.heap.size ≤ w2.heap.size := B2.size
  have n6 : Hid (Below w.heap.size w W2) := B3
  clear B3 B2 hb1 hb2 n1 n4 n5 m1
  go_wp2_with fail
  ((with_reducible refine G.out.mono ?_)); rintro e w3 ⟨rfl, ⟨gt3, gn3⟩, ⟨v3, ⟨s3, s4⟩, ov⟩⟩
  have B4 := n6.out.trans (gt3.below (B := w.heap.size) hY n6.out.size)
  have NB0 := own_block ov gn3
  obtain ⟨g, c, rfl⟩ := own_some ov (by omega)
  have NBG : w2.heap.size ≠ g := fun e => NB0 (by rw [e]; rfl)
  have hgl := (ov.lt g rfl).1
  have hgs := (ov.lt g rfl).2
  clear a0 a1 a2 a3 n3 m0 hW2 G gt3 s4 hmf HVL n6
  go_wp2_with fail
  refine (TS.out _ _ _ ov).mono ?_; rintro e w4 ⟨rfl, ⟨l', hl', hpm, hso, ov4⟩, bt4⟩
  have hnr : w2.heap.size ≠ g := NBG
  have s5 := bt4.cell s3 (by simpa using hnr)
  obtain ⟨cc, hcc⟩ := own_caps ov4
  have CP := mkHid (compact_any l' g t.vars.length c w.heap.size w4 ov4 hl' hv hvz cc hcc)
  have B5 := B4.trans (bt4.below (B := w.heap.size) hgl B4.size)
  have FIN := mkHid (names_fin (t := t) hl' hpm hso)
  clear s3 TS ov ov4 bt4 hso hpm B4
  go_wp2_with fail
  ((with_reducible refine CP.out.mono ?_)); rintro e w5 ⟨rfl, ov5, bt5⟩
  go_wp2
  go_ret
  exact ⟨⟨ddN l' t.vars.length, _, rfl, ov5, FIN.out⟩, B5.trans (bt5.below (B := w.heap.size) hgl B5.size)⟩

theorem names_any (t : Tm) (w : World) (hin : TIn w w.heap.size t) (hS : Shps w) (he : errR t = 0) :
    Calls Tryz.prog 32 #[t.val] w fun e w' => (∃ (L : List Nm) (v : Value), e = .returned v ∧ w'.ownsRow w.heap.size 41 5 v L.length (asgs L) ∧ NamesOf t L) ∧ Below w.heap.size w w' := by
  by_cases hv : t.vars.length ≤ 1
  · refine (names_few t w hin hS he hv).mono ?_
    rintro e w' ⟨⟨v, rfl, ho⟩, hb⟩
    refine ⟨⟨t.vars, v, rfl, ho, ?_, fun x => Iff.rfl⟩, hb⟩
    match h : t.vars, hv with
    | [], _ => simp
    | [x], _ => simp
  · exact names_lots t w hin hS he (by omega)
end
section
open Go.RowKit Go.Shelf

def freeB (t : Tm) (nm : ByteArray) : Bool := decide (errR t = 0) && t.vars.any (fun x => x.1.toList == nm.toList)
/-- Names, of any term: all of them, or none -/
theorem names_free (t : Tm) (nm : ByteArray) (w : World) (hin : TIn w w.heap.size t) (hS : Shps w) :
    Calls Tryz.prog 32 #[t.val] w fun e w' => (∃ (L : List Nm) (v : Value), e = .returned v ∧ w'.ownsRow w.heap.size 41 5 v L.length (asgs L) ∧ L.any (fun x => x.1.toList == nm.toList) = freeB t nm) ∧ Below w.heap.size w w' := by
  by_cases he : errR t = 0
  · refine (names_any t w hin hS he).mono ?_
    rintro e w' ⟨⟨L, v, h1, h2, h3⟩, hb⟩
    refine ⟨⟨L, v, h1, h2, ?_⟩, hb⟩
    unfold freeB
    rw [decide_eq_true he, Bool.true_and, Bool.eq_iff_iff, List.any_eq_true, List.any_eq_true]
    constructor
    · rintro ⟨x, hx, hp⟩; exact ⟨x, (h3.2 x).1 hx, hp⟩
    · rintro ⟨x, hx, hp⟩; exact ⟨x, (h3.2 x).2 hx, hp⟩
  · refine (names_wrong t w hin hS he).mono ?_
    rintro e w' ⟨h1, hb⟩
    refine ⟨⟨[], _, h1, World.ownsRow_nil _ _ _ _, ?_⟩, hb⟩
    unfold freeB
    rw [decide_eq_false he]; rfl
set_option maxRecDepth 100000 in
set_option maxHeartbeats 4000000 in
theorem free_any (t : Tm) (nm : ByteArray) (w : World) (ht : TIn w w.heap.size t) (hS : Shps w) :
    Calls Tryz.prog 14 #[t.val, .string nm] w (RetB (freeB t nm) w) := by
  have B0 := bel_alloc w (boxT t)
  have F0 := box_four w t
  have NA := mkHid (names_free t nm _ (ht.later B0) (hS.later B0))
  have hW : w.alloc (.cells #[.int .i64 t.op, .string t.nm, .int .i64 t.n, .slice t.a t.ks.length t.c] 24) = w.alloc (boxT t) := rfl
  generalize freeB t nm = fr at *
  generalize w.alloc (boxT t) = W1 at *
  unfold Tm.val at NA ⊢
  clear ht hS
  obtain ⟨u0, u1, u2, u3⟩ := F0
  simp only [Nat.zero_add] at u1 u2 u3
  go_enter Tryz.func14, Tryz.ntmps14
  go_wp2_with fail
  ((with_reducible refine NA.out.mono ?_)); rintro e w4 ⟨⟨L, v, rfl, own, hfr⟩, hb4⟩
  have B4 := bon B0 hb4
  clear u0 u1 u2 u3 NA hW B0 hb4
  obtain ⟨A, c, rfl⟩ := own_slice own
  have HOWN := mkHid own
  have HFR := mkHid hfr
  have hlen : L.length ≤ 9223372036854775807 := by
    rcases own.2 with ⟨-, h0⟩ | ⟨g, cap, cur, -, -, -, hc, hm, -⟩
    · omega
    · unfold maxLen at hm; omega
  clear own hfr
  generalize hn' : L.length = m at *
  have HN := mkHid hn'
  clear hn'
  go_wp2
  go_loopw [10] (fun i w' => ∃ (k : Nat) (x : Int), i = .int .i64 x ∧ x = k ∧ k ≤ m ∧ Below w4.heap.size w4 w' ∧ Hid (∀ j, j < k → ((L.getD j noNm).1.toList == nm.toList) = false)) (fun i _ => (m - intOf i).toNat)
  case atStart => exact ⟨0, 0, rfl, rfl, Nat.zero_le _, Below.refl _ _, fun j hj => by omega⟩
  case round =>
    obtain ⟨k, x, rfl, hxk, hk, hb, hne⟩ := hrel
    obtain rfl : x = (k : Int) := hxk
    have BR := bon B4 hb
    by_cases hlt : k < m
    · have own := own_later HOWN.out hb
      obtain ⟨g, c', e⟩ := own_some own (by omega)
      simp only [Value.slice.injEq, true_and] at e
      obtain ⟨rfl, rfl⟩ := e
      obtain ⟨y0, y1, y2, y3, y4⟩ := own_five own HN.out k hlt
      have HK : Hid (((L.getD k noNm).1.toList == nm.toList) = false → ∀ j, j < k + 1 → ((L.getD j noNm).1.toList == nm.toList) = false) := fun h j hj => by
        by_cases e : j = k
        · rw [e]; exact h
        · exact hne.out j (by omega)
      have HT : Hid (((L.getD k noNm).1.toList == nm.toList) = true → fr = true) := fun h => by
        rw [← HFR.out, List.any_eq_true]
        exact ⟨L.getD k noNm, (mem_getD L _).2 ⟨k, by rw [HN.out]; exact hlt, rfl⟩, h⟩
      clear own hne
      generalize L.getD k noNm = cur at *
      obtain ⟨cn, co⟩ := cur
      simp only at y0 y1 y2 y3 y4 HK HT
      cases h2 : (cn.toList == nm.toList)
      · go_wp2
        go_roundw
        case rel => exact ⟨k + 1, _, rfl, by omega, by omega, bal hb _, HK.out h2⟩
        case measure => simp [intOf]; omega
      · have hT := HT.out h2
        subst hT
        go_wp2
        go_ret
        exact ⟨rfl, bal BR _⟩
    · obtain rfl : k = m := by omega
      have hF : fr = false := by
        rw [← HFR.out, List.any_eq_false]
        intro x hx
        obtain ⟨j, hj, rfl⟩ := (mem_getD L x).1 hx
        rw [hne.out j (by rw [← HN.out]; exact hj)]; decide
      subst hF
      clear hne
      go_wp2
      go_ret
      exact ⟨rfl, BR⟩
end
end Go.Proofs.YtdfebacjbapahaaGreatDoor
