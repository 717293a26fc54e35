/-
  The contracts of package num's functions on the parts of rats.
-/
import Derived.Test.YtkgaoafcjhjefaaNumF
namespace Go.Proofs.Ytkgaoafcjhjefaa
open Go.RowKit Go.Shelf

theorem cells4_later {w wx : World} {a b c d : Addr} {x y z t : Value} (hb : Below w.heap.size w wx) (h : w.cell? a = some x ∧ w.cell? b = some y ∧ w.cell? c = some z ∧ w.cell? d = some t) :
    wx.cell? a = some x ∧ wx.cell? b = some y ∧ wx.cell? c = some z ∧ wx.cell? d = some t :=
  ⟨cell_later hb h.1, cell_later hb h.2.1, cell_later hb h.2.2.1, cell_later hb h.2.2.2⟩
theorem cells6_later {w wx : World} {a b c d e f : Addr} {x y z t u v : Value} (hb : Below w.heap.size w wx) (h : w.cell? a = some x ∧ w.cell? b = some y ∧ w.cell? c = some z ∧ w.cell? d = some t ∧ w.cell? e = some u ∧ w.cell? f = some v) :
    wx.cell? a = some x ∧ wx.cell? b = some y ∧ wx.cell? c = some z ∧ wx.cell? d = some t ∧ wx.cell? e = some u ∧ wx.cell? f = some v :=
  ⟨cell_later hb h.1, cell_later hb h.2.1, cell_later hb h.2.2.1, cell_later hb h.2.2.2.1, cell_later hb h.2.2.2.2.1, cell_later hb h.2.2.2.2.2⟩
theorem size_b (a : Int) (w : World) (h : fitB a = true) :
    Calls Try.prog 54 #[.int .i64 a] w fun e w' => e = .returned (.int .u64 (szI a)) ∧ Below w.heap.size w w' :=
  (size_f a w h).mono fun _ _ ⟨he, hw⟩ => ⟨he, hw ▸ Below.refl _ _⟩

/-- a block of three cells that may be written -/
def Three (w : World) (b : Nat) (x y z : Value) : Prop := w.cell? ⟨b, 0, none⟩ = some x ∧ w.cell? ⟨b, 1, none⟩ = some y ∧ w.cell? ⟨b, 2, none⟩ = some z ∧ w.frozen? ⟨b, 0, none⟩ = false ∧ w.frozen? ⟨b, 1, none⟩ = false ∧ w.frozen? ⟨b, 2, none⟩ = false
theorem Three.later {w w1 : World} {b : Nat} {x y z : Value} (hb : Below w.heap.size w w1) (h : Three w b x y z) : Three w1 b x y z :=
  ⟨cell_later hb h.1, cell_later hb h.2.1, cell_later hb h.2.2.1, frozen_later hb h.1 h.2.2.2.1, frozen_later hb h.2.1 h.2.2.2.2.1, frozen_later hb h.2.2.1 h.2.2.2.2.2⟩

set_option maxHeartbeats 1000000 in
theorem partsOf_any (p q : Int) (w : World) (hp : fitB p = true) (hq : fitB q = true) :
    Calls Try.prog 69 #[.agg #[.int .i64 p, .int .i64 q]] w (Out (decide (1 ≤ q)) (.agg #[.bool (negB p), .int .u64 (szI p), .int .u64 (szI q)]) w) := by
  by_cases h : 1 ≤ q
  · have hd : decide (1 ≤ q) = true := by simpa using h
    have hn : decide (p < 0) = negB p := rfl
    go_enter Try.func69, Try.ntmps69
    go_wp2
    go_region_held2 (fun w' => w'.cell? ⟨w.heap.size, 0, none⟩ = some (.int .i64 p) ∧ w'.cell? ⟨w.heap.size, 1, none⟩ = some (.int .i64 q))
      (first | exact cells2_later (by assumption) (by assumption) | (simp [go_sem]; done) | (simp [go_sem, *]; done))
      (first
        | (go_at_call 54; refine (size_b _ _ (by assumption)).mono ?_; rintro e w1 ⟨rfl, hb1⟩; obtain ⟨c0, c1, c2, f0, f1, f2⟩ : Three w1 (w.heap.size + 1) (.bool false) (.int .u64 0) (.int .u64 0) := Three.later hb1 (by first | (simp [Three, go_sem]; done) | exact ⟨c0, c1, c2, f0, f1, f2⟩)))
    go_wp2
    exact bodyPost_ret (v := .agg #[.bool (negB p), .int .u64 (szI p), .int .u64 (szI q)]) (by simp [results, Try.results69, go_sem, c0, c1, c2]) rfl (Or.inl ⟨by first | rfl | exact hd, rfl, (by repeat (first | exact Below.refl _ _ | (refine bset ?_ (by simp <;> omega) _) | (refine bon ?_ (by assumption)) | refine bdrew ?_ | refine bal ?_ _))⟩)
  · have hd : decide (1 ≤ q) = false := by simpa using h
    go_enter Try.func69, Try.ntmps69
    go_wp2
    exact ⟨rfl, Or.inr ⟨rfl, ⟨_, rfl⟩, bal (bal (Below.refl _ _) _) _⟩⟩

set_option maxHeartbeats 1000000 in
theorem turned_any (b : Bool) (p q : Int) (w : World) :
    Calls Try.prog 71 #[.agg #[.bool b, .int .u64 p, .int .u64 q]] w (Out (!(p == 0)) (.agg #[.bool b, .int .u64 q, .int .u64 p]) w) := by
  cases h : (p == 0)
  · go_enter Try.func71, Try.ntmps71
    go_wp2
    exact bodyPost_ret (v := .agg #[.bool b, .int .u64 q, .int .u64 p]) (by simp [results, Try.results71, go_sem]) rfl (Or.inl ⟨rfl, rfl, (by repeat (first | exact Below.refl _ _ | (refine bset ?_ (by simp <;> omega) _) | (refine bon ?_ (by assumption)) | refine bdrew ?_ | refine bal ?_ _))⟩)
  · go_enter Try.func71, Try.ntmps71
    go_wp2
    exact ⟨rfl, Or.inr ⟨rfl, ⟨_, rfl⟩, (by repeat (first | exact Below.refl _ _ | (refine bset ?_ (by simp <;> omega) _) | (refine bon ?_ (by assumption)) | refine bdrew ?_ | refine bal ?_ _))⟩⟩

theorem gcd_fit (a b : Int) (ha : 1 ≤ a) (ha' : fitB a = true) : fitB (sgnI false (gcdI a b)) = true ∧ 1 ≤ gcdI a b := by
  rw [fitB_iff] at *
  have h1 : 0 < Nat.gcd a.natAbs b.natAbs := Nat.gcd_pos_of_pos_left _ (by omega)
  have h2 : Nat.gcd a.natAbs b.natAbs ≤ a.natAbs := Nat.gcd_le_left _ (by omega)
  show (_ ≤ gcdI a b ∧ gcdI a b ≤ _) ∧ _
  unfold gcdI
  omega
set_option maxHeartbeats 1000000 in
theorem shared_any (p q r s : Int) (w : World) (hp : fitB p = true) (hq : fitB q = true) (hr : fitB r = true) (hs : fitB s = true) :
    Calls Try.prog 64 #[.agg #[.int .i64 p, .int .i64 q], .agg #[.int .i64 r, .int .i64 s]] w (Out (decide (1 ≤ q) && decide (1 ≤ s)) (.int .i64 (gcdI q s)) w) := by
  have s1 := szI_nonneg q; have s2 := sz_lt ((fitB_iff q).1 hq).1 ((fitB_iff q).1 hq).2; have s3 := szI_nonneg s; have s4 := sz_lt ((fitB_iff s).1 hs).1 ((fitB_iff s).1 hs).2
  have g0 := gcdI_nonneg q s
  have g1 := gcdI_lt ((fitB_iff q).1 hq).1 ((fitB_iff q).1 hq).2 ((fitB_iff s).1 hs).1 ((fitB_iff s).1 hs).2
  have G := mkHid (gcdI_szI q s)
  have hfd : ∀ (b : Bool) (p q : Int) (w : World), (Instr.field 76 (.agg #[.bool b, .int .u64 p, .int .u64 q]) 2).run Try.prog w = .ok (.int .u64 q) w := fun _ _ _ _ => by kernel_rfl
  go_enter Try.func64, Try.ntmps64
  go_wp2
  go_region_held2 (fun w' => w'.cell? ⟨w.heap.size, 0, none⟩ = some (.int .i64 p) ∧ w'.cell? ⟨w.heap.size, 1, none⟩ = some (.int .i64 q) ∧ w'.cell? ⟨w.heap.size + 1, 0, none⟩ = some (.int .i64 r) ∧ w'.cell? ⟨w.heap.size + 1, 1, none⟩ = some (.int .i64 s))
    (first | exact cells4_later (by assumption) (by assumption) | (simp [go_sem]; done) | (simp [go_sem, *]; done))
    (first
      | (go_at_call_of 69 q; refine (partsOf_any p q _ hp hq).mono ?_; rintro e w1 (⟨hc, rfl, hb1⟩ | ⟨hc, ⟨v, rfl⟩, hb1⟩); rotate_left; exact ⟨rfl, Or.inr ⟨by simp [hc], ⟨v, rfl⟩, (by repeat (first | exact Below.refl _ _ | (refine bset ?_ (by simp <;> omega) _) | (refine bon ?_ (by assumption)) | refine bdrew ?_ | refine bal ?_ _))⟩⟩)
      | (go_at_call_of 69 s; refine (partsOf_any r s _ hr hs).mono ?_; rintro e w2 (⟨hd, rfl, hb2⟩ | ⟨hd, ⟨v, rfl⟩, hb2⟩); rotate_left; exact ⟨rfl, Or.inr ⟨by simp [hd], ⟨v, rfl⟩, (by repeat (first | exact Below.refl _ _ | (refine bset ?_ (by simp <;> omega) _) | (refine bon ?_ (by assumption)) | refine bdrew ?_ | refine bal ?_ _))⟩⟩)
      | (go_at_call 53; refine (divisor_b _ _ _ s1 s2 s3 s4).mono ?_; rintro e w3 ⟨rfl, hb3⟩; rw [G.out])
      | (go_at_call 52; refine (signed_any false (gcdI q s) _ g0 g1).mono ?_; rintro e w4 (⟨hf, rfl, hb4⟩ | ⟨hf, ⟨v, rfl⟩, hb4⟩); rotate_left; exact absurd hf (by rw [(gcd_fit q s (by simpa using hc) hq).1]; decide)))
  go_wp2
  go_ret
  exact Or.inl ⟨by simp [hc, hd], rfl, (by repeat (first | exact Below.refl _ _ | (refine bset ?_ (by simp <;> omega) _) | (refine bon ?_ (by assumption)) | refine bdrew ?_ | refine bal ?_ _))⟩
end Go.Proofs.Ytkgaoafcjhjefaa
