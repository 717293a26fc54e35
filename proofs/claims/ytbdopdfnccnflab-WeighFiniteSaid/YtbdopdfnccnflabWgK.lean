/-
  Rescaled rows: their order, their bounds; sums and quotients held against 0.
-/
import Derived.Test.YtbdopdfnccnflabWgJ
namespace Go.Proofs.Ytbdopdfnccnflab
open Go.RowKit

theorem scale_plc {x y : Nat} (hx : rung x < 9218868437227405312) (hy : rung y < 9218868437227405312) (h : plc x < plc y) : plc (scaleW x) ≤ plc (scaleW y) := by
  have sx := scale_ngv x hx
  have sy := scale_ngv y hy
  have bx := scale_bound x hx
  have by' := scale_bound y hy
  have px : plc x = if ngv x then 9223372036854775808 - rung x else 9223372036854775809 + rung x := by unfold plc; rw [if_neg (by omega)]
  have py : plc y = if ngv y then 9223372036854775808 - rung y else 9223372036854775809 + rung y := by unfold plc; rw [if_neg (by omega)]
  have qx : plc (scaleW x) = if ngv x then 9223372036854775808 - rung (scaleW x) else 9223372036854775809 + rung (scaleW x) := by unfold plc; rw [if_neg (by omega), sx]
  have qy : plc (scaleW y) = if ngv y then 9223372036854775808 - rung (scaleW y) else 9223372036854775809 + rung (scaleW y) := by unfold plc; rw [if_neg (by omega), sy]
  rw [px, py] at h
  rw [qx, qy]
  cases nx : ngv x <;> cases ny : ngv y <;> rw [nx, ny] at h <;> simp only [if_true, if_false, Bool.false_eq_true] at h ⊢
  · have := scale_mono hx hy (by omega); omega
  · omega
  · omega
  · have := scale_mono hy hx (by omega); omega
theorem resc_get (ds : List Nat) (j : Nat) (hj : j < ds.length) : (rescW ds).getD j 0 = if farAny (ds.map tameW) = true then scaleW (tameW (ds.getD j 0)) else tameW (ds.getD j 0) := by
  unfold rescW
  split <;> simp [List.getD, List.getElem?_map, List.getElem?_eq_getElem hj]
theorem resc_keeps (ds : List Nat) (i k : Nat) (hi : i < ds.length) (hk : k < ds.length) (h : plc (tameW (ds.getD i 0)) < plc (tameW (ds.getD k 0))) : plc ((rescW ds).getD i 0) ≤ plc ((rescW ds).getD k 0) := by
  rw [resc_get ds i hi, resc_get ds k hk]
  split
  · exact scale_plc (tame_rung _) (tame_rung _) h
  · omega
theorem abs_far (t : Nat) (h : rung t < 9218868437227405312) : (FloatKind.f64.format.order (rung t) 6103021453049119613 == some .gt) = farB t := by
  have e : rung (rung t) = rung t := by unfold rung; omega
  have n : ngv (rung t) = false := by
    unfold ngv; rw [show rung t / 9223372036854775808 = 0 by have := rung_lt t; omega]; rfl
  rw [oGt (by omega) (by decide), key_p n, e, show key 6103021453049119613 = 6103021453049119613 by decide]
  unfold farB; rw [decide_eq_decide]; omega

theorem fins_resc (ds : List Nat) : Fins (rescW ds) := by
  unfold rescW
  intro d hd
  split at hd
  · obtain ⟨y, hy, rfl⟩ := List.mem_map.1 hd
    obtain ⟨x, -, rfl⟩ := List.mem_map.1 hy
    have := scale_bound _ (tame_rung x); omega
  · exact fins_tame ds d hd
theorem map_tame_fins {l : List Nat} (h : Fins l) : l.map tameW = l := by
  induction l with
  | nil => rfl
  | cons x l ih =>
    rw [List.map_cons, tame_fin x (h x (by simp)), ih (fun d hd => h d (by simp [hd]))]
theorem resc_again {ds : List Nat} (h : farAny (ds.map tameW) = false) : farAny ((rescW ds).map tameW) = false ∧ rescW (rescW ds) = rescW ds := by
  have e : rescW ds = ds.map tameW := by unfold rescW; rw [h]; rfl
  have m := map_tame_fins (fins_tame ds)
  rw [e, m]
  refine ⟨h, ?_⟩
  unfold rescW; rw [m, h]; rfl
theorem abs_top (t : Nat) (h : rung t ≤ 7747900000000000000) : (FloatKind.f64.format.order (rung t) 7748537163665533883 == some .gt) = false := by
  have e : rung (rung t) = rung t := by unfold rung; omega
  have n : ngv (rung t) = false := by
    unfold ngv; rw [show rung t / 9223372036854775808 = 0 by omega]; rfl
  rw [oGt (by omega) (by decide), key_p n, e, show key 7748537163665533883 = 7748537163665533883 by decide]
  exact decide_eq_false (by omega)
theorem resc_far (ds : List Nat) (h : farAny (ds.map tameW) = true) (j : Nat) : rung ((rescW ds).getD j 0) ≤ 7747900000000000000 := by
  by_cases hj : j < ds.length
  · rw [resc_get ds j hj, if_pos h]; exact scale_bound _ (tame_rung _)
  · have := len_resc ds
    rw [List.getD, List.getElem?_eq_none (by omega)]; simp [rung]
theorem resc_near (ds : List Nat) (h : farAny (ds.map tameW) = false) (j : Nat) (hj : j < ds.length) : farB ((rescW ds).getD j 0) = false := by
  rw [resc_get ds j hj, if_neg (by rw [h]; decide)]
  unfold farAny at h
  rw [List.any_eq_false] at h
  have := h (tameW (ds.getD j 0)) (List.mem_map.2 ⟨ds.getD j 0, by rw [List.getD, List.getElem?_eq_getElem hj]; exact List.getElem_mem hj, rfl⟩)
  simpa using this

/-- what a word is, held against 0, and what then must be -/
theorem kinds_of (a b : Nat) :
    let G := (FloatKind.f64.format.order b 0 == some .gt)
    let L := (FloatKind.f64.format.order b 0 == some .lt)
    let E := (FloatKind.f64.format.order b 0 == some .eq)
    let p := (FloatKind.f64.format.order (decayW b) (tameW b) == some .gt)
    let q := (FloatKind.f64.format.order (decayW b) (tameW b) == some .eq)
    (G = false ∧ L = false ∧ E = false ∧ (p = true ∨ p = false ∧ q = true))
    ∨ (G = true ∧ L = false ∧ E = false ∧ (FloatKind.f64.format.order (bumpW a b) (tameW a) == some .lt) = false ∧ (p = true ∨ p = false ∧ q = true))
    ∨ (G = false ∧ L = true ∧ E = false ∧ (FloatKind.f64.format.order (bumpW a b) (tameW a) == some .gt) = false)
    ∨ (G = false ∧ L = false ∧ E = true) := by
  intro G L E p q
  have rb := bump_rung a b
  have rt := tame_rung a
  have rd := decay_rung b
  have rtb := tame_rung b
  have hp : p = decide (key (tameW b) < key (decayW b)) := oGt (by omega) (by omega)
  have hq : q = decide (key (decayW b) = key (tameW b)) := oEq (by omega) (by omega)
  have ge : ngv (tameW b) = false → (p = true ∨ p = false ∧ q = true) := by
    intro hn
    obtain ⟨g1, g2⟩ := decay_grows b
    rw [hn] at g1
    rw [hp, hq, key_p hn, key_p g1]
    by_cases e : rung (tameW b) = rung (decayW b)
    · exact .inr ⟨decide_eq_false (by omega), decide_eq_true (by omega)⟩
    · exact .inl (decide_eq_true (by omega))
  have k0 : key 0 = 0 := by decide
  by_cases hn : 9218868437227405312 < rung b
  · left
    have o := oNanL 0 hn
    refine ⟨?_, ?_, ?_, ge ?_⟩
    · show (FloatKind.f64.format.order b 0 == some .gt) = false; rw [o]; rfl
    · show (FloatKind.f64.format.order b 0 == some .lt) = false; rw [o]; rfl
    · show (FloatKind.f64.format.order b 0 == some .eq) = false; rw [o]; rfl
    · rw [tame_nan hn]; decide
  · right
    have hG : G = decide (key 0 < key b) := oGt (by omega) (by decide)
    have hL : L = decide (key b < key 0) := oLt (by omega) (by decide)
    have hE : E = decide (key b = key 0) := oEq (by omega) (by decide)
    rw [hG, hL, hE, k0]
    have kt := key_tame b (by omega)
    have cs := clamp_sign (v := key b)
    rcases Int.lt_trichotomy (key b) 0 with h | h | h
    · right; left
      refine ⟨decide_eq_false (by omega), decide_eq_true h, decide_eq_false (by omega), ?_⟩
      have := bump_down a b (by rw [kt]; exact cs.2.2 h)
      rw [oGt (by omega) (by omega)]; exact decide_eq_false (by omega)
    · right; right
      exact ⟨decide_eq_false (by omega), decide_eq_false (by omega), decide_eq_true h⟩
    · left
      refine ⟨decide_eq_true h, decide_eq_false (by omega), decide_eq_false (by omega), ?_, ge ?_⟩
      · have := bump_up a b (by rw [kt]; exact cs.1.2 h)
        rw [oLt (by omega) (by omega)]; exact decide_eq_false (by omega)
      · rw [tame_ngv (by omega)]
        cases hs : ngv b
        · rfl
        · rw [key_n hs] at h; omega

end Go.Proofs.Ytbdopdfnccnflab
