/-
  The contracts of package num's functions on numbers of 128 bits, of sizes, and of the whole numbers' calls.
-/
import Derived.Test.YtkgaoafcjhjefaaNumB
import Derived.Deep.RegionWith
import Derived.Deep.RegionHeld2
namespace Go.Proofs.Ytkgaoafcjhjefaa
open Go.RowKit

set_option maxHeartbeats 400000 in
theorem over_one (W : Int) (w : World) (h1 : 0 ≤ W) (h2 : W < 18446744073709551616) :
    Calls Try.prog 75 #[.agg #[.int .u64 (hiW W), .int .u64 (loW W)], .int .u64 1] w fun e w' => e = .returned (.int .u64 W) ∧ Below w.heap.size w w' := by
  have e1 : hiW W = 0 := by unfold hiW; omega
  have e2 : loW W = W := by unfold loW; omega
  rw [e1, e2]; clear e1 e2
  have D : ∀ w, Calls Try.prog 82 #[.int .u64 0, .int .u64 W, .int .u64 1] w fun e w' => e = .returned (.tuple #[.int .u64 W, .int .u64 0]) ∧ ∃ n, w' = w.drewN n := by
    intro w
    have h := div64_low W 1 w h1 h2 (by decide) (by decide)
    simpa using h
  have D' := mkHid D; clear D
  go_enter Try.func75, Try.ntmps75
  go_wp2_with fail
  refine (D'.out _).mono ?_
  rintro e w1 ⟨rfl, n, rfl⟩
  go_wp2
  go_ret
  exact ⟨rfl, bdrewN (bal (Below.refl _ _) _) _⟩
set_option maxHeartbeats 400000 in
theorem over_not (W d : Int) (w : World) (h1 : d ≤ hiW W) :
    Calls Try.prog 75 #[.agg #[.int .u64 (hiW W), .int .u64 (loW W)], .int .u64 d] w fun e w' => Mis e ∧ Below w.heap.size w w' := by
  go_enter Try.func75, Try.ntmps75
  go_wp2
  exact ⟨rfl, ⟨_, rfl⟩, bal (Below.refl _ _) _⟩

/-- a call that answers v, if c, and else panics with a text; nothing that was there has turned -/
def Out (c : Bool) (v : Value) (w : World) (e : Ending) (w' : World) : Prop :=
  (c = true ∧ e = .returned v ∧ Below w.heap.size w w') ∨ (c = false ∧ Mis e ∧ Below w.heap.size w w')
theorem signed_any (b : Bool) (x : Int) (w : World) (h0 : 0 ≤ x) (hx : x < 18446744073709551616) :
    Calls Try.prog 52 #[.bool b, .int .u64 x] w (Out (fitB (sgnI b x)) (.int .i64 (sgnI b x)) w) := by
  cases h : fitB (sgnI b x)
  · exact (signed_not b x w h0 hx h).mono fun e w' ⟨he, hw⟩ => Or.inr ⟨rfl, he, hw ▸ Below.refl _ _⟩
  · exact (signed_fit b x w h0 hx h).mono fun e w' ⟨he, hw⟩ => Or.inl ⟨rfl, he, hw ▸ Below.refl _ _⟩
theorem over_1 (W : Int) (w : World) (h1 : 0 ≤ W) (h2 : W < 340282366920938463463374607431768211456) :
    Calls Try.prog 75 #[.agg #[.int .u64 (hiW W), .int .u64 (loW W)], .int .u64 1] w (Out (decide (W < 18446744073709551616)) (.int .u64 W) w) := by
  by_cases h : W < 18446744073709551616
  · exact (over_one W w h1 h).mono fun e w' ⟨he, hw⟩ => Or.inl ⟨by simpa using h, he, hw⟩
  · exact (over_not W 1 w (by rw [hi_nat W h1 h2]; omega)).mono fun e w' ⟨he, hw⟩ => Or.inr ⟨by simpa using h, he, hw⟩

theorem size_f (a : Int) (w : World) (h : fitB a = true) :
    Calls Try.prog 54 #[.int .i64 a] w fun e w' => e = .returned (.int .u64 (szI a)) ∧ w = w' :=
  size_any a w ((fitB_iff a).1 h).1 ((fitB_iff a).1 h).2
theorem widen_f (a : Int) (w : World) (h : fitB a = true) :
    Calls Try.prog 45 #[.int .i64 a] w fun e w' => e = .returned (wv a) ∧ Below w.heap.size w w' :=
  widen_any a w ((fitB_iff a).1 h).1 ((fitB_iff a).1 h).2
theorem product_f (a b : Int) (w : World) (h : fitB a = true) (h' : fitB b = true) :
    Calls Try.prog 50 #[.int .i64 a, .int .i64 b] w fun e w' => e = .returned (wv (a * b)) ∧ Below w.heap.size w w' :=
  product_any a b w ((fitB_iff a).1 h).1 ((fitB_iff a).1 h).2 ((fitB_iff b).1 h').1 ((fitB_iff b).1 h').2
theorem fit_far {W : Int} (h : decide (szI W < 18446744073709551616) = false) : fitB W = false := by
  rw [fitB_not]; simp at h; unfold szI at h; omega
theorem cells2_later {w wx : World} {a b : Addr} {x y : Value} (hb : Below w.heap.size w wx) (h : w.cell? a = some x ∧ w.cell? b = some y) : wx.cell? a = some x ∧ wx.cell? b = some y :=
  ⟨cell_later hb h.1, cell_later hb h.2⟩

set_option maxHeartbeats 1000000 in
theorem narrow_any (W : Int) (w : World) (hw : Wide W) :
    Calls Try.prog 44 #[.agg #[.int .u64 (hiW W), .int .u64 (loW W)]] w (Out (fitB W) (.int .i64 W) w) := by
  have z0 := szI_nonneg W
  have z1 : szI W < 340282366920938463463374607431768211456 := by unfold Wide at hw; unfold szI; omega
  have E := mkHid (sgn_sz W)
  go_enter Try.func44, Try.ntmps44
  go_wp2
  go_region_held2 (fun w' => w'.cell? ⟨w.heap.size, 0, none⟩ = some (.int .u64 (hiW W)) ∧ w'.cell? ⟨w.heap.size, 1, none⟩ = some (.int .u64 (loW W)))
    (first | exact cells2_later (by assumption) (by assumption) | exact ⟨by simp [go_sem], by simp [go_sem]⟩)
    (first
      | (go_at_call 72; refine (below_any W _ hw).mono ?_; rintro e w1 ⟨rfl, hb1⟩)
      | (go_at_call 74; refine (wsize_any W _ hw).mono ?_; rintro e w2 ⟨rfl, hb2⟩)
      | (go_at_call 75; refine (over_1 _ _ z0 z1).mono ?_; rintro e w3 (⟨hc, rfl, hb3⟩ | ⟨hc, ⟨v, rfl⟩, hb3⟩); rotate_left; exact ⟨rfl, Or.inr ⟨fit_far hc, ⟨v, rfl⟩, bon (bon (bon (bdrew (bal (Below.refl _ _) _)) hb1) hb2) hb3⟩⟩)
      | (go_at_call 52; refine (signed_any _ _ _ z0 (by simpa using hc)).mono ?_; rintro e w4 (⟨hd, rfl, hb4⟩ | ⟨hd, ⟨v, rfl⟩, hb4⟩); rotate_left; exact ⟨rfl, Or.inr ⟨by rw [← hd, E.out], ⟨v, rfl⟩, bon (bon (bon (bon (bdrew (bal (Below.refl _ _) _)) hb1) hb2) hb3) hb4⟩⟩))
  go_wp2
  go_ret
  exact Or.inl ⟨by rw [← hd, E.out], ret_int E.out, bon (bon (bon (bon (bdrew (bal (Below.refl _ _) _)) hb1) hb2) hb3) hb4⟩

/-! ### the closures of Add, Sub, Mul, Gcd -/
theorem divisor_b (a b : Int) (w : World) (ha : 0 ≤ a) (ha' : a < 18446744073709551616) (hb : 0 ≤ b) (hb' : b < 18446744073709551616) :
    Calls Try.prog 53 #[.int .u64 a, .int .u64 b] w fun e w' => e = .returned (.int .u64 (gcdI a b)) ∧ Below w.heap.size w w' :=
  (divisor_any a b w ha ha' hb hb').mono fun _ _ ⟨he, n, hn⟩ => ⟨he, hn ▸ below_drewN (Below.refl _ _) n⟩
theorem gcdI_lt {a b : Int} (a1 : -9223372036854775808 ≤ a) (a2 : a ≤ 9223372036854775807) (b1 : -9223372036854775808 ≤ b) (b2 : b ≤ 9223372036854775807) : gcdI a b < 18446744073709551616 := by
  unfold gcdI
  by_cases h : a.natAbs = 0
  · rw [h, Nat.gcd_zero_left]; omega
  · have := Nat.gcd_le_left b.natAbs (Nat.pos_of_ne_zero h); omega
set_option maxHeartbeats 1000000 in
theorem addC_any (p q : Addr) (a b : Int) (w : World) (ha : fitB a = true) (hb : fitB b = true) (cp : w.cell? p = some (.int .i64 a)) (cq : w.cell? q = some (.int .i64 b)) :
    Calls Try.prog 43 #[.pointer (some p), .pointer (some q)] w (Out (fitB (a + b)) (.int .i64 (a + b)) w) := by
  obtain ⟨a1, a2⟩ := (fitB_iff a).1 ha
  obtain ⟨b1, b2⟩ := (fitB_iff b).1 hb
  have hw : Wide (a + b) := by unfold Wide; omega
  clear ha hb
  go_enter Try.func43, Try.ntmps43
  go_wp2
  go_region_held2 (fun w' => w'.cell? p = some (.int .i64 a) ∧ w'.cell? q = some (.int .i64 b))
    (first | exact cells2_later (by assumption) (by assumption) | assumption | exact ⟨cp, cq⟩)
    (first
      | (go_at_call 45; refine (widen_any _ _ (by assumption) (by assumption)).mono ?_; rintro e w1 ⟨rfl, hb1⟩)
      | (go_at_call 46; refine (plus_any a b _).mono ?_; rintro e w2 ⟨rfl, hb2⟩)
      | (go_at_call 44; refine (narrow_any _ _ hw).mono ?_; rintro e w3 (⟨hc, rfl, hb3⟩ | ⟨hc, ⟨v, rfl⟩, hb3⟩); rotate_left; exact ⟨rfl, Or.inr ⟨hc, ⟨v, rfl⟩, (by repeat (first | exact Below.refl _ _ | (refine bon ?_ (by assumption)) | refine bdrew ?_ | refine bal ?_ _))⟩⟩))
  go_wp2
  go_ret
  exact Or.inl ⟨hc, rfl, (by repeat (first | exact Below.refl _ _ | (refine bon ?_ (by assumption)) | refine bdrew ?_ | refine bal ?_ _))⟩
set_option maxHeartbeats 1000000 in
theorem subC_any (p q : Addr) (a b : Int) (w : World) (ha : fitB a = true) (hb : fitB b = true) (cp : w.cell? p = some (.int .i64 a)) (cq : w.cell? q = some (.int .i64 b)) :
    Calls Try.prog 47 #[.pointer (some p), .pointer (some q)] w (Out (fitB (a - b)) (.int .i64 (a - b)) w) := by
  obtain ⟨a1, a2⟩ := (fitB_iff a).1 ha
  obtain ⟨b1, b2⟩ := (fitB_iff b).1 hb
  have hw : Wide (a - b) := by unfold Wide; omega
  clear ha hb
  go_enter Try.func47, Try.ntmps47
  go_wp2
  go_region_held2 (fun w' => w'.cell? p = some (.int .i64 a) ∧ w'.cell? q = some (.int .i64 b))
    (first | exact cells2_later (by assumption) (by assumption) | assumption | exact ⟨cp, cq⟩)
    (first
      | (go_at_call 45; refine (widen_any _ _ (by assumption) (by assumption)).mono ?_; rintro e w1 ⟨rfl, hb1⟩)
      | (go_at_call 48; refine (minus_any a b _).mono ?_; rintro e w2 ⟨rfl, hb2⟩)
      | (go_at_call 44; refine (narrow_any _ _ hw).mono ?_; rintro e w3 (⟨hc, rfl, hb3⟩ | ⟨hc, ⟨v, rfl⟩, hb3⟩); rotate_left; exact ⟨rfl, Or.inr ⟨hc, ⟨v, rfl⟩, (by repeat (first | exact Below.refl _ _ | (refine bon ?_ (by assumption)) | refine bdrew ?_ | refine bal ?_ _))⟩⟩))
  go_wp2
  go_ret
  exact Or.inl ⟨hc, rfl, (by repeat (first | exact Below.refl _ _ | (refine bon ?_ (by assumption)) | refine bdrew ?_ | refine bal ?_ _))⟩
set_option maxHeartbeats 1000000 in
theorem mulC_any (p q : Addr) (a b : Int) (w : World) (ha : fitB a = true) (hb : fitB b = true) (cp : w.cell? p = some (.int .i64 a)) (cq : w.cell? q = some (.int .i64 b)) :
    Calls Try.prog 49 #[.pointer (some p), .pointer (some q)] w (Out (fitB (a * b)) (.int .i64 (a * b)) w) := by
  have hw : Wide (a * b) := wide_small (wide_mul ha hb)
  obtain ⟨a1, a2⟩ := (fitB_iff a).1 ha
  obtain ⟨b1, b2⟩ := (fitB_iff b).1 hb
  clear ha hb
  go_enter Try.func49, Try.ntmps49
  go_wp2_with fail
  refine (product_any _ _ _ a1 a2 b1 b2).mono ?_; rintro e w2 ⟨rfl, hb2⟩
  unfold wv
  go_wp2_with fail
  refine (narrow_any _ _ hw).mono ?_; rintro e w3 (⟨hc, rfl, hb3⟩ | ⟨hc, ⟨v, rfl⟩, hb3⟩)
  · go_wp2
    go_ret
    exact Or.inl ⟨hc, rfl, bon hb2 hb3⟩
  · exact ⟨rfl, Or.inr ⟨hc, ⟨v, rfl⟩, bon hb2 hb3⟩⟩
set_option maxHeartbeats 1000000 in
theorem gcdC_any (p q : Addr) (a b : Int) (w : World) (ha : fitB a = true) (hb : fitB b = true) (cp : w.cell? p = some (.int .i64 a)) (cq : w.cell? q = some (.int .i64 b)) :
    Calls Try.prog 51 #[.pointer (some p), .pointer (some q)] w (Out (fitB (gcdI a b)) (.int .i64 (gcdI a b)) w) := by
  obtain ⟨a1, a2⟩ := (fitB_iff a).1 ha
  obtain ⟨b1, b2⟩ := (fitB_iff b).1 hb
  have s1 := szI_nonneg a; have s2 := sz_lt a1 a2; have s3 := szI_nonneg b; have s4 := sz_lt b1 b2
  have g0 := gcdI_nonneg a b
  have g1 := gcdI_lt a1 a2 b1 b2
  have G := mkHid (gcdI_szI a b)
  clear a1 a2 b1 b2
  go_enter Try.func51, Try.ntmps51
  go_wp2
  go_region_held2 (fun w' => w'.cell? p = some (.int .i64 a) ∧ w'.cell? q = some (.int .i64 b))
    (first | exact cells2_later (by assumption) (by assumption) | assumption | exact ⟨cp, cq⟩)
    (first
      | (go_at_call 54; refine (size_f _ _ (by assumption)).mono ?_; rintro e w1 ⟨rfl, rfl⟩)
      | (go_at_call 53; refine (divisor_b _ _ _ s1 s2 s3 s4).mono ?_; rintro e w2 ⟨rfl, hb2⟩; rw [G.out])
      | (go_at_call 52; refine (signed_any false (gcdI a b) _ g0 g1).mono ?_; rintro e w3 (⟨hc, rfl, hb3⟩ | ⟨hc, ⟨v, rfl⟩, hb3⟩); rotate_left; exact ⟨rfl, Or.inr ⟨hc, ⟨v, rfl⟩, (by repeat (first | exact Below.refl _ _ | (refine bon ?_ (by assumption)) | refine bdrew ?_ | refine bal ?_ _))⟩⟩))
  go_wp2
  go_ret
  exact Or.inl ⟨hc, rfl, (by repeat (first | exact Below.refl _ _ | (refine bon ?_ (by assumption)) | refine bdrew ?_ | refine bal ?_ _))⟩

end Go.Proofs.Ytkgaoafcjhjefaa
