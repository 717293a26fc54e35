/-
  What WeighGrows does: it returns true, whatever the word is.
-/
import Derived.Test.YtbdopdfnccnflabWgG
import Derived.Test.YtbdopdfnccnflabWgH
import Derived.Test.YtbdopdfnccnflabWgGrow
namespace Go.Proofs.Ytbdopdfnccnflab
open Go.RowKit

/-- a word of a number that is not below 0 -/
def Pos (x : Nat) : Prop := rung x < 9218868437227405312 ∧ ngv x = false
theorem Pos.decay {x : Nat} (h : Pos x) : Pos (decayW x) ∧ key x ≤ key (decayW x) := by
  have e := decay_grows x
  rw [tame_fin x h.1] at e
  have p : Pos (decayW x) := ⟨decay_rung x, by rw [e.1]; exact h.2⟩
  exact ⟨p, by rw [key, h.2, key, p.2]; show (rung x : Int) ≤ rung (decayW x); omega⟩
theorem Pos.steps {x : Nat} (h : Pos x) : (FloatKind.f64.format.order (decayW x) x == some .lt) = false ∧ (FloatKind.f64.format.order (decayW x) 9218868437227405311 == some .gt) = false := by
  obtain ⟨p, g⟩ := h.decay
  obtain ⟨h1, h2⟩ := h
  obtain ⟨p1, p2⟩ := p
  constructor
  · rw [oLt (by omega) (by omega)]; exact decide_eq_false (by omega)
  · rw [oGt (by omega) (by decide), k_max]
    have := key_fin p1
    exact decide_eq_false (by omega)

set_option maxHeartbeats 4000000 in
set_option maxRecDepth 100000 in
theorem weigh_grows_any (a : Nat) (w : World) (ha : a < 18446744073709551616) :
    Calls Try.prog 9 #[.int .u64 a] w fun e w' => e = .returned (.bool true) ∧ Below w.heap.size w w' := by
  have T := mkHidW (tame_any a)
  have Ab := mkHidW (fun w => abs_any (tameW a) w (tame_lt a ha))
  have p0 : Hid (Pos (rung (tameW a))) := by
    have h := tame_rung a
    have e : rung (rung (tameW a)) = rung (tameW a) := by unfold rung; omega
    refine ⟨by rw [e]; exact h, ?_⟩
    unfold ngv
    rw [show rung (tameW a) / 9223372036854775808 = 0 by have := rung_lt (tameW a); omega]; rfl
  have D := mkHidW decay_any
  have st := mkHidW (fun (x : Nat) (h : Pos x) => h.steps)
  have sd := mkHidW (fun (x : Nat) (h : Pos x) => h.decay.1)
  obtain ⟨it, i0, is, il⟩ : ∃ it : Nat → Nat, Hid (4607182418800017408 = it 0) ∧ Hid (∀ k, it (k + 1) = decayW (it k)) ∧ Hid (it 5000 = 6273523365418543280) := ⟨fun k => itD k 4607182418800017408, rfl, fun k => rfl, d20⟩
  have last : (FloatKind.f64.format.order 6273523365418543280 6103021453049119613 == some .gt) = true := by decide +kernel
  generalize tameW a = t at *
  generalize rung t = r at *
  generalize Pos = PP at *
  generalize decayW = dec at *
  clear ha
  go_enter Try.func9, Try.ntmps9
  go_wp2_with fail
  refine (shown_any _).mono ?_; rintro e w1 ⟨rfl, hb1⟩
  go_wp2_with fail
  refine (T.out _).mono ?_; rintro e w2 ⟨rfl, rfl⟩
  go_wp2_with fail
  refine (Ab.out _).mono ?_; rintro e w2 ⟨rfl, rfl⟩
  clear T Ab
  go_wp2_with fail
  go_loop [5, 6] (fun b i => ∃ (k : Nat) (x : Int) (y : Nat), k ≤ 1000 ∧ i = .int .i64 x ∧ x = k ∧ b = .float .f64 y ∧ Hid (PP y)) (fun _ i => (1000 - intOf i).toNat)
  case atStart => exact ⟨0, 0, r, by omega, rfl, rfl, rfl, p0⟩
  case round =>
    obtain ⟨k, x, y, hk, rfl, hxk, rfl, hy⟩ := hrel
    obtain rfl : x = (k : Int) := hxk
    by_cases hlt : k < 1000
    · have DD := mkHidW (D.out y)
      obtain ⟨s1, s2⟩ := st.out y hy.out
      have hS := mkHidW (sd.out y hy.out)
      clear D st sd p0 i0 is il last hy
      generalize dec y = z at *
      go_wp2_with fail
      refine (DD.out _).mono ?_; rintro e w2 ⟨rfl, rfl⟩
      go_wp2
      go_round
      case rel => exact ⟨k + 1, _, z, by omega, rfl, by omega, rfl, hS⟩
      case measure => simp [intOf]; omega
    · clear st sd p0 hy
      go_wp2_with fail
      go_loop [8, 9] (fun b i => ∃ (k : Nat) (x : Int) (y : Nat), k ≤ 5000 ∧ i = .int .i64 x ∧ x = k ∧ b = .float .f64 y ∧ Hid (y = it k)) (fun _ i => (5000 - intOf i).toNat)
      case atStart => exact ⟨0, 0, _, by omega, rfl, rfl, rfl, i0⟩
      case round =>
        obtain ⟨q, x, z, hq, rfl, hxq, rfl, hz⟩ := hrel
        obtain rfl : x = (q : Int) := hxq
        by_cases hlq : q < 5000
        · have DD := mkHidW (D.out z)
          have hS : Hid (dec z = it (q + 1)) := by rw [is.out q, ← hz.out]; exact mkHidW rfl
          clear D i0 is il last hz
          generalize dec z = v at *
          go_wp2_with fail
          refine (DD.out _).mono ?_; rintro e w2 ⟨rfl, rfl⟩
          go_wp2
          go_round
          case rel => exact ⟨q + 1, _, v, by omega, rfl, by omega, rfl, hS⟩
          case measure => simp [intOf]; omega
        · obtain rfl : q = 5000 := by omega
          obtain rfl : z = 6273523365418543280 := hz.out.trans il.out
          clear D i0 is il hz
          go_wp2
          go_ret
          exact ⟨rfl, hb1⟩
end Go.Proofs.Ytbdopdfnccnflab
