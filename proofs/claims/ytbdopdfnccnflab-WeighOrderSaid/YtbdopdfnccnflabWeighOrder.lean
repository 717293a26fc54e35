/-
  What WeighOrder does: it returns true, whatever the three words are.
-/
import Derived.Test.YtbdopdfnccnflabWgG
namespace Go.Proofs.Ytbdopdfnccnflab
open Go.RowKit

set_option maxHeartbeats 8000000 in
set_option maxRecDepth 100000 in
theorem order_core (x y z : Nat) (xy yx yz zy xz zx n1 n2 q l : Bool) (w : World)
    (L1 : Hid (∀ w, Calls Try.prog 20 #[.float .f64 x, .float .f64 y] w fun e w' => e = .returned (.bool xy) ∧ w = w'))
    (L2 : Hid (∀ w, Calls Try.prog 20 #[.float .f64 y, .float .f64 x] w fun e w' => e = .returned (.bool yx) ∧ w = w'))
    (L3 : Hid (∀ w, Calls Try.prog 20 #[.float .f64 y, .float .f64 z] w fun e w' => e = .returned (.bool yz) ∧ w = w'))
    (L4 : Hid (∀ w, Calls Try.prog 20 #[.float .f64 z, .float .f64 y] w fun e w' => e = .returned (.bool zy) ∧ w = w'))
    (L5 : Hid (∀ w, Calls Try.prog 20 #[.float .f64 x, .float .f64 z] w fun e w' => e = .returned (.bool xz) ∧ w = w'))
    (L6 : Hid (∀ w, Calls Try.prog 20 #[.float .f64 z, .float .f64 x] w fun e w' => e = .returned (.bool zx) ∧ w = w'))
    (L7 : Hid (∀ w, Calls Try.prog 20 #[.float .f64 x, .float .f64 x] w fun e w' => e = .returned (.bool false) ∧ w = w'))
    (hh : Hid ((xy = false ∧ yx = false ∧ yz = false ∧ zy = false ∧ xz = false ∧ zx = false) ∨ (xy = false ∧ yx = false ∧ yz = true ∧ zy = false ∧ xz = true ∧ zx = false) ∨ (xy = true ∧ yx = false ∧ yz = false ∧ zy = true ∧ xz = false ∧ zx = false) ∨ (xy = true ∧ yx = false ∧ yz = false ∧ zy = false ∧ xz = true ∧ zx = false) ∨ (xy = true ∧ yx = false ∧ yz = true ∧ zy = false ∧ xz = true ∧ zx = false) ∨ (xy = true ∧ yx = false ∧ yz = false ∧ zy = true ∧ xz = true ∧ zx = false) ∨ (xy = false ∧ yx = true ∧ yz = false ∧ zy = false ∧ xz = false ∧ zx = true) ∨ (xy = false ∧ yx = true ∧ yz = true ∧ zy = false ∧ xz = false ∧ zx = false) ∨ (xy = false ∧ yx = true ∧ yz = true ∧ zy = false ∧ xz = true ∧ zx = false) ∨ (xy = false ∧ yx = false ∧ yz = false ∧ zy = true ∧ xz = false ∧ zx = true) ∨ (xy = true ∧ yx = false ∧ yz = false ∧ zy = true ∧ xz = false ∧ zx = true) ∨ (xy = false ∧ yx = true ∧ yz = true ∧ zy = false ∧ xz = false ∧ zx = true) ∨ (xy = false ∧ yx = true ∧ yz = false ∧ zy = true ∧ xz = false ∧ zx = true)))
    (N1 : (FloatKind.f64.format.order x x != some .eq) = n1) (N2 : (FloatKind.f64.format.order y y != some .eq) = n2) (Q : (FloatKind.f64.format.order x y == some .eq) = q) (LL : (FloatKind.f64.format.order x y == some .lt) = l)
    (fin : Hid (n1 = true ∨ (n1 = false ∧ n2 = true) ∨ (n1 = false ∧ n2 = false ∧ q = true) ∨ (n1 = false ∧ n2 = false ∧ q = false ∧ l = xy))) :
    Calls Try.prog 4 #[.int .u64 x, .int .u64 y, .int .u64 z] w fun e w' => e = .returned (.bool true) ∧ Below w.heap.size w w' := by
  have N1' := mkHidW N1; have N2' := mkHidW N2; have Q' := mkHidW Q; have LL' := mkHidW LL
  clear N1 N2 Q LL
  go_enter Try.func4, Try.ntmps4
  go_wp2_with fail
  refine (shown_any _).mono ?_; rintro e w1 ⟨rfl, hb1⟩
  go_wp2_with fail
  refine (L1.out _).mono ?_; rintro e w2 ⟨rfl, rfl⟩
  go_wp2_with fail
  refine (L2.out _).mono ?_; rintro e w2 ⟨rfl, rfl⟩
  go_wp2_with fail
  refine (L3.out _).mono ?_; rintro e w2 ⟨rfl, rfl⟩
  go_wp2_with fail
  refine (L4.out _).mono ?_; rintro e w2 ⟨rfl, rfl⟩
  go_wp2_with fail
  refine (L5.out _).mono ?_; rintro e w2 ⟨rfl, rfl⟩
  go_wp2_with fail
  refine (L6.out _).mono ?_; rintro e w2 ⟨rfl, rfl⟩
  go_wp2_with fail
  refine (L7.out _).mono ?_; rintro e w2 ⟨rfl, rfl⟩
  clear L1 L2 L3 L4 L5 L6 L7
  rcases hh.out with ⟨rfl, rfl, rfl, rfl, rfl, rfl⟩ | ⟨rfl, rfl, rfl, rfl, rfl, rfl⟩ | ⟨rfl, rfl, rfl, rfl, rfl, rfl⟩ | ⟨rfl, rfl, rfl, rfl, rfl, rfl⟩ | ⟨rfl, rfl, rfl, rfl, rfl, rfl⟩ | ⟨rfl, rfl, rfl, rfl, rfl, rfl⟩ | ⟨rfl, rfl, rfl, rfl, rfl, rfl⟩ | ⟨rfl, rfl, rfl, rfl, rfl, rfl⟩ | ⟨rfl, rfl, rfl, rfl, rfl, rfl⟩ | ⟨rfl, rfl, rfl, rfl, rfl, rfl⟩ | ⟨rfl, rfl, rfl, rfl, rfl, rfl⟩ | ⟨rfl, rfl, rfl, rfl, rfl, rfl⟩ | ⟨rfl, rfl, rfl, rfl, rfl, rfl⟩
  all_goals
    clear hh
    rcases fin.out with rfl | ⟨rfl, rfl⟩ | ⟨rfl, rfl, rfl⟩ | ⟨rfl, rfl, rfl, rfl⟩
    all_goals
      clear fin
      have N1 := N1'.out; have N2 := N2'.out; have Q := Q'.out; have LL := LL'.out
      clear N1' N2' Q' LL'
      go_wp2
      go_ret
      exact ⟨rfl, hb1⟩

theorem tri (a b : Nat) : (decide (a < b) = true ∧ decide (b < a) = false ∧ a < b) ∨ (decide (a < b) = false ∧ decide (b < a) = false ∧ a = b) ∨ (decide (a < b) = false ∧ decide (b < a) = true ∧ b < a) := by
  rcases Nat.lt_trichotomy a b with h | h | h
  · exact .inl ⟨decide_eq_true h, decide_eq_false (by omega), h⟩
  · exact .inr (.inl ⟨decide_eq_false (by omega), decide_eq_false (by omega), h⟩)
  · exact .inr (.inr ⟨decide_eq_false (by omega), decide_eq_true h, h⟩)
set_option maxRecDepth 100000 in
theorem order_three (a b c : Nat) : ∀ xy yx yz zy xz zx : Bool, xy = decide (a < b) → yx = decide (b < a) → yz = decide (b < c) → zy = decide (c < b) → xz = decide (a < c) → zx = decide (c < a) → (xy = false ∧ yx = false ∧ yz = false ∧ zy = false ∧ xz = false ∧ zx = false) ∨ (xy = false ∧ yx = false ∧ yz = true ∧ zy = false ∧ xz = true ∧ zx = false) ∨ (xy = true ∧ yx = false ∧ yz = false ∧ zy = true ∧ xz = false ∧ zx = false) ∨ (xy = true ∧ yx = false ∧ yz = false ∧ zy = false ∧ xz = true ∧ zx = false) ∨ (xy = true ∧ yx = false ∧ yz = true ∧ zy = false ∧ xz = true ∧ zx = false) ∨ (xy = true ∧ yx = false ∧ yz = false ∧ zy = true ∧ xz = true ∧ zx = false) ∨ (xy = false ∧ yx = true ∧ yz = false ∧ zy = false ∧ xz = false ∧ zx = true) ∨ (xy = false ∧ yx = true ∧ yz = true ∧ zy = false ∧ xz = false ∧ zx = false) ∨ (xy = false ∧ yx = true ∧ yz = true ∧ zy = false ∧ xz = true ∧ zx = false) ∨ (xy = false ∧ yx = false ∧ yz = false ∧ zy = true ∧ xz = false ∧ zx = true) ∨ (xy = true ∧ yx = false ∧ yz = false ∧ zy = true ∧ xz = false ∧ zx = true) ∨ (xy = false ∧ yx = true ∧ yz = true ∧ zy = false ∧ xz = false ∧ zx = true) ∨ (xy = false ∧ yx = true ∧ yz = false ∧ zy = true ∧ xz = false ∧ zx = true) := by
  rintro _ _ _ _ _ _ rfl rfl rfl rfl rfl rfl
  rcases tri a b with ⟨p1, q1, h1⟩ | ⟨p1, q1, h1⟩ | ⟨p1, q1, h1⟩ <;> rcases tri b c with ⟨p2, q2, h2⟩ | ⟨p2, q2, h2⟩ | ⟨p2, q2, h2⟩ <;> rcases tri a c with ⟨p3, q3, h3⟩ | ⟨p3, q3, h3⟩ | ⟨p3, q3, h3⟩ <;> first
    | (exfalso; omega)
    | (rw [p1, q1, p2, q2, p3, q3]; simp)
theorem weigh_order_any (a b c : Nat) (w : World) (ha : a < 18446744073709551616) (hb : b < 18446744073709551616) (hc : c < 18446744073709551616) :
    Calls Try.prog 4 #[.int .u64 a, .int .u64 b, .int .u64 c] w fun e w' => e = .returned (.bool true) ∧ Below w.heap.size w w' := by
  refine order_core a b c (lessW a b) (lessW b a) (lessW b c) (lessW c b) (lessW a c) (lessW c a) (nanB a) (nanB b) _ _ w (fun w => less_any _ _ w ha hb) (fun w => less_any _ _ w hb ha) (fun w => less_any _ _ w hb hc) (fun w => less_any _ _ w hc hb) (fun w => less_any _ _ w ha hc) (fun w => less_any _ _ w hc ha) (less_at ha ha (decide_eq_false (by omega))) (order_three (plc a) (plc b) (plc c) _ _ _ _ _ _ rfl rfl rfl rfl rfl rfl) (oSelfN a) (oSelfN b) rfl rfl ?_
  show _ ∨ _
  cases na : nanB a
  · cases nb : nanB b
    · rcases less_num na nb with ⟨h, -⟩ | ⟨h, h2⟩
      · rw [h]; exact .inr (.inr (.inl ⟨rfl, rfl, rfl⟩))
      · rw [h, h2]; exact .inr (.inr (.inr ⟨rfl, rfl, rfl, rfl⟩))
    · exact .inr (.inl ⟨rfl, rfl⟩)
  · exact .inl rfl
end Go.Proofs.Ytbdopdfnccnflab
