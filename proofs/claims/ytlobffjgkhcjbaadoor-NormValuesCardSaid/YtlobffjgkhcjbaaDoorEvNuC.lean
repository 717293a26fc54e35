/-
  The contracts of package num's functions on numbers of 128 bits, of sizes, and of the whole numbers' calls.
-/
import Derived.Test.YtlobffjgkhcjbaaDoorEvNuB
import Derived.Deep.RegionWith
import Derived.Deep.RegionHeld2
namespace Go.Proofs.YtlobffjgkhcjbaaDoor.Nu
open Go.RowKit

set_option maxHeartbeats 400000 in
theorem over_one (W : Int) (w : World) (h1 : 0 ≤ W) (h2 : W < 18446744073709551616) :
    Calls Tryd.prog 153 #[.agg #[.int .u64 (hiW W), .int .u64 (loW W)], .int .u64 1] w fun e w' => e = .returned (.int .u64 W) ∧ Below w.heap.size w w' := by
  have e1 : hiW W = 0 := by unfold hiW; omega
  have e2 : loW W = W := by unfold loW; omega
  rw [e1, e2]; clear e1 e2
  have D : ∀ w, Calls Tryd.prog 162 #[.int .u64 0, .int .u64 W, .int .u64 1] w fun e w' => e = .returned (.tuple #[.int .u64 W, .int .u64 0]) ∧ ∃ n, w' = w.drewN n := by
    intro w
    have h := div64_low W 1 w h1 h2 (by decide) (by decide)
    simpa using h
  have D' := mkHid D; clear D
  go_enter Tryd.func153, Tryd.ntmps153
  go_wp2_with fail
  refine (D'.out _).mono ?_
  rintro e w1 ⟨rfl, n, rfl⟩
  go_wp2
  go_ret
  exact ⟨rfl, bdrewN (bal (Below.refl _ _) _) _⟩
set_option maxHeartbeats 400000 in
theorem over_not (W d : Int) (w : World) (h1 : d ≤ hiW W) :
    Calls Tryd.prog 153 #[.agg #[.int .u64 (hiW W), .int .u64 (loW W)], .int .u64 d] w fun e w' => Mis e ∧ Below w.heap.size w w' := by
  go_enter Tryd.func153, Tryd.ntmps153
  go_wp2
  exact ⟨rfl, ⟨_, rfl⟩, bal (Below.refl _ _) _⟩

/-- a call that answers v, if c, and else panics with a text; nothing that was there has turned -/
def Out (c : Bool) (v : Value) (w : World) (e : Ending) (w' : World) : Prop :=
  (c = true ∧ e = .returned v ∧ Below w.heap.size w w') ∨ (c = false ∧ Mis e ∧ Below w.heap.size w w')
theorem signed_any (b : Bool) (x : Int) (w : World) (h0 : 0 ≤ x) (hx : x < 18446744073709551616) :
    Calls Tryd.prog 150 #[.bool b, .int .u64 x] w (Out (fitB (sgnI b x)) (.int .i64 (sgnI b x)) w) := by
  cases h : fitB (sgnI b x)
  · exact (signed_not b x w h0 hx h).mono fun e w' ⟨he, hw⟩ => Or.inr ⟨rfl, he, hw ▸ Below.refl _ _⟩
  · exact (signed_fit b x w h0 hx h).mono fun e w' ⟨he, hw⟩ => Or.inl ⟨rfl, he, hw ▸ Below.refl _ _⟩
theorem over_1 (W : Int) (w : World) (h1 : 0 ≤ W) (h2 : W < 340282366920938463463374607431768211456) :
    Calls Tryd.prog 153 #[.agg #[.int .u64 (hiW W), .int .u64 (loW W)], .int .u64 1] w (Out (decide (W < 18446744073709551616)) (.int .u64 W) w) := by
  by_cases h : W < 18446744073709551616
  · exact (over_one W w h1 h).mono fun e w' ⟨he, hw⟩ => Or.inl ⟨by simpa using h, he, hw⟩
  · exact (over_not W 1 w (by rw [hi_nat W h1 h2]; omega)).mono fun e w' ⟨he, hw⟩ => Or.inr ⟨by simpa using h, he, hw⟩

theorem size_f (a : Int) (w : World) (h : fitB a = true) :
    Calls Tryd.prog 155 #[.int .i64 a] w fun e w' => e = .returned (.int .u64 (szI a)) ∧ w = w' :=
  size_any a w ((fitB_iff a).1 h).1 ((fitB_iff a).1 h).2
theorem widen_f (a : Int) (w : World) (h : fitB a = true) :
    Calls Tryd.prog 139 #[.int .i64 a] w fun e w' => e = .returned (wv a) ∧ Below w.heap.size w w' :=
  widen_any a w ((fitB_iff a).1 h).1 ((fitB_iff a).1 h).2
theorem product_f (a b : Int) (w : World) (h : fitB a = true) (h' : fitB b = true) :
    Calls Tryd.prog 137 #[.int .i64 a, .int .i64 b] w fun e w' => e = .returned (wv (a * b)) ∧ Below w.heap.size w w' :=
  product_any a b w ((fitB_iff a).1 h).1 ((fitB_iff a).1 h).2 ((fitB_iff b).1 h').1 ((fitB_iff b).1 h').2
theorem fit_far {W : Int} (h : decide (szI W < 18446744073709551616) = false) : fitB W = false := by
  rw [fitB_not]; simp at h; unfold szI at h; omega
theorem cells2_later {w wx : World} {a b : Addr} {x y : Value} (hb : Below w.heap.size w wx) (h : w.cell? a = some x ∧ w.cell? b = some y) : wx.cell? a = some x ∧ wx.cell? b = some y :=
  ⟨cell_later hb h.1, cell_later hb h.2⟩

set_option maxHeartbeats 1000000 in
theorem narrow_any (W : Int) (w : World) (hw : Wide W) :
    Calls Tryd.prog 136 #[.agg #[.int .u64 (hiW W), .int .u64 (loW W)]] w (Out (fitB W) (.int .i64 W) w) := by
  have z0 := szI_nonneg W
  have z1 : szI W < 340282366920938463463374607431768211456 := by unfold Wide at hw; unfold szI; omega
  have E := mkHid (sgn_sz W)
  go_enter Tryd.func136, Tryd.ntmps136
  go_wp2
  go_region_held2 (fun w' => w'.cell? ⟨w.heap.size, 0, none⟩ = some (.int .u64 (hiW W)) ∧ w'.cell? ⟨w.heap.size, 1, none⟩ = some (.int .u64 (loW W)))
    (first | exact cells2_later (by assumption) (by assumption) | exact ⟨by simp [go_sem], by simp [go_sem]⟩)
    (first
      | (go_at_call 151; refine (below_any W _ hw).mono ?_; rintro e w1 ⟨rfl, hb1⟩)
      | (go_at_call 152; refine (wsize_any W _ hw).mono ?_; rintro e w2 ⟨rfl, hb2⟩)
      | (go_at_call 153; refine (over_1 _ _ z0 z1).mono ?_; rintro e w3 (⟨hc, rfl, hb3⟩ | ⟨hc, ⟨v, rfl⟩, hb3⟩); rotate_left; exact ⟨rfl, Or.inr ⟨fit_far hc, ⟨v, rfl⟩, bon (bon (bon (bdrew (bal (Below.refl _ _) _)) hb1) hb2) hb3⟩⟩)
      | (go_at_call 150; refine (signed_any _ _ _ z0 (by simpa using hc)).mono ?_; rintro e w4 (⟨hd, rfl, hb4⟩ | ⟨hd, ⟨v, rfl⟩, hb4⟩); rotate_left; exact ⟨rfl, Or.inr ⟨by rw [← hd, E.out], ⟨v, rfl⟩, bon (bon (bon (bon (bdrew (bal (Below.refl _ _) _)) hb1) hb2) hb3) hb4⟩⟩))
  go_wp2
  go_ret
  exact Or.inl ⟨by rw [← hd, E.out], ret_int E.out, bon (bon (bon (bon (bdrew (bal (Below.refl _ _) _)) hb1) hb2) hb3) hb4⟩

/-! ### the closures of Add, Sub, Mul, Gcd -/
set_option maxHeartbeats 1000000 in
theorem addC_any (p q : Addr) (a b : Int) (w : World) (ha : fitB a = true) (hb : fitB b = true) (cp : w.cell? p = some (.int .i64 a)) (cq : w.cell? q = some (.int .i64 b)) :
    Calls Tryd.prog 138 #[.pointer (some p), .pointer (some q)] w (Out (fitB (a + b)) (.int .i64 (a + b)) w) := by
  obtain ⟨a1, a2⟩ := (fitB_iff a).1 ha
  obtain ⟨b1, b2⟩ := (fitB_iff b).1 hb
  have hw : Wide (a + b) := by unfold Wide; omega
  clear ha hb
  go_enter Tryd.func138, Tryd.ntmps138
  go_wp2
  go_region_held2 (fun w' => w'.cell? p = some (.int .i64 a) ∧ w'.cell? q = some (.int .i64 b))
    (first | exact cells2_later (by assumption) (by assumption) | assumption | exact ⟨cp, cq⟩)
    (first
      | (go_at_call 139; refine (widen_any _ _ (by assumption) (by assumption)).mono ?_; rintro e w1 ⟨rfl, hb1⟩)
      | (go_at_call 140; refine (plus_any a b _).mono ?_; rintro e w2 ⟨rfl, hb2⟩)
      | (go_at_call 136; refine (narrow_any _ _ hw).mono ?_; rintro e w3 (⟨hc, rfl, hb3⟩ | ⟨hc, ⟨v, rfl⟩, hb3⟩); rotate_left; exact ⟨rfl, Or.inr ⟨hc, ⟨v, rfl⟩, (by repeat (first | exact Below.refl _ _ | (refine bon ?_ (by assumption)) | refine bdrew ?_ | refine bal ?_ _))⟩⟩))
  go_wp2
  go_ret
  exact Or.inl ⟨hc, rfl, (by repeat (first | exact Below.refl _ _ | (refine bon ?_ (by assumption)) | refine bdrew ?_ | refine bal ?_ _))⟩
set_option maxHeartbeats 1000000 in
theorem subC_any (p q : Addr) (a b : Int) (w : World) (ha : fitB a = true) (hb : fitB b = true) (cp : w.cell? p = some (.int .i64 a)) (cq : w.cell? q = some (.int .i64 b)) :
    Calls Tryd.prog 141 #[.pointer (some p), .pointer (some q)] w (Out (fitB (a - b)) (.int .i64 (a - b)) w) := by
  obtain ⟨a1, a2⟩ := (fitB_iff a).1 ha
  obtain ⟨b1, b2⟩ := (fitB_iff b).1 hb
  have hw : Wide (a - b) := by unfold Wide; omega
  clear ha hb
  go_enter Tryd.func141, Tryd.ntmps141
  go_wp2
  go_region_held2 (fun w' => w'.cell? p = some (.int .i64 a) ∧ w'.cell? q = some (.int .i64 b))
    (first | exact cells2_later (by assumption) (by assumption) | assumption | exact ⟨cp, cq⟩)
    (first
      | (go_at_call 139; refine (widen_any _ _ (by assumption) (by assumption)).mono ?_; rintro e w1 ⟨rfl, hb1⟩)
      | (go_at_call 142; refine (minus_any a b _).mono ?_; rintro e w2 ⟨rfl, hb2⟩)
      | (go_at_call 136; refine (narrow_any _ _ hw).mono ?_; rintro e w3 (⟨hc, rfl, hb3⟩ | ⟨hc, ⟨v, rfl⟩, hb3⟩); rotate_left; exact ⟨rfl, Or.inr ⟨hc, ⟨v, rfl⟩, (by repeat (first | exact Below.refl _ _ | (refine bon ?_ (by assumption)) | refine bdrew ?_ | refine bal ?_ _))⟩⟩))
  go_wp2
  go_ret
  exact Or.inl ⟨hc, rfl, (by repeat (first | exact Below.refl _ _ | (refine bon ?_ (by assumption)) | refine bdrew ?_ | refine bal ?_ _))⟩
set_option maxHeartbeats 1000000 in
theorem mulC_any (p q : Addr) (a b : Int) (w : World) (ha : fitB a = true) (hb : fitB b = true) (cp : w.cell? p = some (.int .i64 a)) (cq : w.cell? q = some (.int .i64 b)) :
    Calls Tryd.prog 135 #[.pointer (some p), .pointer (some q)] w (Out (fitB (a * b)) (.int .i64 (a * b)) w) := by
  have hw : Wide (a * b) := wide_small (wide_mul ha hb)
  obtain ⟨a1, a2⟩ := (fitB_iff a).1 ha
  obtain ⟨b1, b2⟩ := (fitB_iff b).1 hb
  clear ha hb
  go_enter Tryd.func135, Tryd.ntmps135
  go_wp2_with fail
  refine (product_any _ _ _ a1 a2 b1 b2).mono ?_; rintro e w2 ⟨rfl, hb2⟩
  unfold wv
  go_wp2_with fail
  refine (narrow_any _ _ hw).mono ?_; rintro e w3 (⟨hc, rfl, hb3⟩ | ⟨hc, ⟨v, rfl⟩, hb3⟩)
  · go_wp2
    go_ret
    exact Or.inl ⟨hc, rfl, bon hb2 hb3⟩
  · exact ⟨rfl, Or.inr ⟨hc, ⟨v, rfl⟩, bon hb2 hb3⟩⟩
end Go.Proofs.YtlobffjgkhcjbaaDoor.Nu
