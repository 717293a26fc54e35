/-
  The contracts of package num's small functions: what each call answers, and that it turns nothing that was there.
-/
import Derived.Test.YtlobffjgkhcjbaaDoorRows
import Derived.Test.YtlobffjgkhcjbaaDoorEvNuMath
import Derived.WalkKit
import Derived.WalkSpells
import Derived.WalkLawsBesides
import Derived.BigQuiet
import Derived.Deep.QuietTactic
import Derived.Laws.Externs
import Derived.Laws.MathBits
import Derived.Laws.Bits64b
namespace Go.Proofs.YtlobffjgkhcjbaaDoor.Nu
open Go.RowKit

theorem ret_int {k : IntKind} {a b : Int} (h : a = b) : Ending.returned (.int k a) = .returned (.int k b) := by rw [h]
theorem ret_two {k l : IntKind} {a b c d : Int} (h : a = b) (h' : c = d) : Ending.returned (.tuple #[.int k a, .int l c]) = .returned (.tuple #[.int k b, .int l d]) := by rw [h, h']
/-- the ending of a call that panics with a text -/
def Mis (e : Ending) : Prop := ∃ v, e = .panicked [{ v := .iface 9 v, recovered := false }]
def wv (W : Int) : Value := .agg #[.int .u64 (hiW W), .int .u64 (loW W)]

set_option maxHeartbeats 400000 in
theorem size_any (a : Int) (w : World) (h1 : -9223372036854775808 ≤ a) (h2 : a ≤ 9223372036854775807) :
    Calls Tryd.prog 155 #[.int .i64 a] w fun e w' => e = .returned (.int .u64 (szI a)) ∧ w = w' := by
  by_cases h0 : a < 0
  · go_enter Tryd.func155, Tryd.ntmps155
    go_wp2
    go_ret
    exact ⟨ret_int (by rw [szI_neg h0, IntKind.wrap_u64, IntKind.wrap_u64]; omega), rfl⟩
  · go_enter Tryd.func155, Tryd.ntmps155
    go_wp2
    go_ret
    exact ⟨ret_int (by rw [szI_pos (by omega)]), rfl⟩

set_option maxHeartbeats 400000 in
theorem signed_fit (b : Bool) (x : Int) (w : World) (h0 : 0 ≤ x) (hx : x < 18446744073709551616) (h : fitB (sgnI b x) = true) :
    Calls Tryd.prog 150 #[.bool b, .int .u64 x] w fun e w' => e = .returned (.int .i64 (sgnI b x)) ∧ w = w' := by
  have h' := h; rw [fitB_iff] at h'; clear h
  cases b
  · simp only [sgnI, Bool.false_eq_true, if_false] at h' ⊢
    go_enter Tryd.func150, Tryd.ntmps150
    go_wp2
    go_ret
    exact ⟨rfl, rfl⟩
  · simp only [sgnI, if_true] at h' ⊢
    go_enter Tryd.func150, Tryd.ntmps150
    go_wp2
    go_ret
    exact ⟨ret_int (by simp only [wrap64, IntKind.wrap_u64]; omega), rfl⟩

set_option maxHeartbeats 400000 in
theorem signed_not (b : Bool) (x : Int) (w : World) (h0 : 0 ≤ x) (hx : x < 18446744073709551616) (h : fitB (sgnI b x) = false) :
    Calls Tryd.prog 150 #[.bool b, .int .u64 x] w fun e w' => Mis e ∧ w = w' := by
  have h' := h; rw [fitB_not] at h'; clear h
  cases b
  · simp only [sgnI, Bool.false_eq_true, if_false] at h' ⊢
    have h3 : 9223372036854775807 < x := by omega
    clear h'
    go_enter Tryd.func150, Tryd.ntmps150
    go_wp2
    exact ⟨rfl, ⟨_, rfl⟩, rfl⟩
  · simp only [sgnI, if_true] at h' ⊢
    have h3 : 9223372036854775808 < x := by omega
    clear h'
    go_enter Tryd.func150, Tryd.ntmps150
    go_wp2
    exact ⟨rfl, ⟨_, rfl⟩, rfl⟩

theorem add64 (x y c : Int) (hx : 0 ≤ x) (hy : 0 ≤ y) (hc0 : 0 ≤ c) (hc : c ≤ 1) (w : World) : (callFunc 156 #[.int .u64 x, .int .u64 y, .int .u64 c]).run Tryd.prog w =
    .ok (.value (.tuple #[.int .u64 ((x + y + c) % 18446744073709551616), .int .u64 ((x + y + c) / 18446744073709551616)])) w := by
  obtain ⟨x, rfl⟩ := Int.eq_ofNat_of_zero_le hx
  obtain ⟨y, rfl⟩ := Int.eq_ofNat_of_zero_le hy
  rw [run_callFunc_extern Tryd.func156 (by kernel_rfl) (by kernel_rfl) (by kernel_rfl) (e := (Extern.MathBitsCarry.rows.getD 0 default).2) (by kernel_rfl)]
  have hc2 : c = 0 ∨ c = 1 := by omega
  rcases hc2 with rfl | rfl
  · have e : ((Extern.MathBitsCarry.rows.getD 0 default).2 #[.int .u64 x, .int .u64 y, .int .u64 0]).run Tryd.prog w = .ok (.tuple #[.int .u64 (((x + y + 0) % 18446744073709551616 : Nat) : Int), .int .u64 (((x + y + 0) / 18446744073709551616 : Nat) : Int)]) w := rfl
    rw [e]; simp only [Result.andThen]
    congr 5 <;> omega
  · have e : ((Extern.MathBitsCarry.rows.getD 0 default).2 #[.int .u64 x, .int .u64 y, .int .u64 1]).run Tryd.prog w = .ok (.tuple #[.int .u64 (((x + y + 1) % 18446744073709551616 : Nat) : Int), .int .u64 (((x + y + 1) / 18446744073709551616 : Nat) : Int)]) w := rfl
    rw [e]; simp only [Result.andThen]
    congr 5 <;> omega
theorem sub64 (x y b : Int) (hx : 0 ≤ x) (hy : 0 ≤ y) (hy' : y < 18446744073709551616) (hb0 : 0 ≤ b) (hb : b ≤ 1) (w : World) : (callFunc 157 #[.int .u64 x, .int .u64 y, .int .u64 b]).run Tryd.prog w =
    .ok (.value (.tuple #[.int .u64 ((x - y - b) % 18446744073709551616), .int .u64 (bor x (y + b))])) w := by
  obtain ⟨x, rfl⟩ := Int.eq_ofNat_of_zero_le hx
  obtain ⟨y, rfl⟩ := Int.eq_ofNat_of_zero_le hy
  rw [run_callFunc_extern Tryd.func157 (by kernel_rfl) (by kernel_rfl) (by kernel_rfl) (e := (Extern.MathBitsCarry.rows.getD 1 default).2) (by kernel_rfl)]
  have hc2 : b = 0 ∨ b = 1 := by omega
  rcases hc2 with rfl | rfl
  · have e : ((Extern.MathBitsCarry.rows.getD 1 default).2 #[.int .u64 x, .int .u64 y, .int .u64 0]).run Tryd.prog w = .ok (.tuple #[.int .u64 (((x + 18446744073709551616 - y - 0) % 18446744073709551616 : Nat) : Int), .int .u64 ((if x < y + 0 then 1 else 0 : Nat) : Int)]) w := rfl
    rw [e]; simp only [Result.andThen]
    have e1 : (((x + 18446744073709551616 - y - 0) % 18446744073709551616 : Nat) : Int) = ((x : Int) - y - 0) % 18446744073709551616 := by omega
    have e2 : ((if x < y + 0 then 1 else 0 : Nat) : Int) = bor (x : Int) (y + 0) := by unfold bor; split <;> split <;> omega
    rw [e1, e2]
  · have e : ((Extern.MathBitsCarry.rows.getD 1 default).2 #[.int .u64 x, .int .u64 y, .int .u64 1]).run Tryd.prog w = .ok (.tuple #[.int .u64 (((x + 18446744073709551616 - y - 1) % 18446744073709551616 : Nat) : Int), .int .u64 ((if x < y + 1 then 1 else 0 : Nat) : Int)]) w := rfl
    rw [e]; simp only [Result.andThen]
    have e1 : (((x + 18446744073709551616 - y - 1) % 18446744073709551616 : Nat) : Int) = ((x : Int) - y - 1) % 18446744073709551616 := by omega
    have e2 : ((if x < y + 1 then 1 else 0 : Nat) : Int) = bor (x : Int) (y + 1) := by unfold bor; split <;> split <;> omega
    rw [e1, e2]
theorem add64_0 (x y : Int) (hx : 0 ≤ x) (hy : 0 ≤ y) (w : World) : (callFunc 156 #[.int .u64 x, .int .u64 y, .int .u64 0]).run Tryd.prog w =
    .ok (.value (.tuple #[.int .u64 ((x + y) % 18446744073709551616), .int .u64 ((x + y) / 18446744073709551616)])) w := by
  simpa using add64 x y 0 hx hy (Int.le_refl 0) (by decide) w
theorem sub64_0 (x y : Int) (hx : 0 ≤ x) (hy : 0 ≤ y) (hy' : y < 18446744073709551616) (w : World) : (callFunc 157 #[.int .u64 x, .int .u64 y, .int .u64 0]).run Tryd.prog w =
    .ok (.value (.tuple #[.int .u64 ((x - y) % 18446744073709551616), .int .u64 (bor x y)])) w := by
  simpa using sub64 x y 0 hx hy hy' (Int.le_refl 0) (by decide) w

theorem mul_hi (x y : Int) (hx0 : 0 ≤ x) (hx : x < 18446744073709551616) (hy0 : 0 ≤ y) (hy : y < 18446744073709551616) :
    IntKind.u64.wrap (IntKind.u64.wrap (IntKind.u64.wrap (x / 4294967296 * (y / 4294967296)) + IntKind.u64.wrap (IntKind.u64.wrap (x / 4294967296 * (y % 4294967296)) + IntKind.u64.wrap (x % 4294967296 * (y % 4294967296)) / 4294967296) / 4294967296) +
      IntKind.u64.wrap (bits BinOp.and IntKind.u64 (IntKind.u64.wrap (IntKind.u64.wrap (x / 4294967296 * (y % 4294967296)) + IntKind.u64.wrap (x % 4294967296 * (y % 4294967296)) / 4294967296)) 4294967295 + IntKind.u64.wrap (x % 4294967296 * (y / 4294967296))) / 4294967296) = x * y / 18446744073709551616 := by
  have e : ∀ z, bits BinOp.and IntKind.u64 (IntKind.u64.wrap z) 4294967295 = (z % 18446744073709551616) % 4294967296 := by
    intro z; rw [IntKind.wrap_u64]; exact and_low32 _ (by omega) (by omega)
  rw [e]
  simp only [IntKind.wrap_u64]
  exact mul64_arith x y hx0 hx hy0 hy
set_option maxHeartbeats 1000000 in
theorem mul64_any (x y : Int) (w : World) (hx0 : 0 ≤ x) (hx : x < 18446744073709551616) (hy0 : 0 ≤ y) (hy : y < 18446744073709551616) :
    Calls Tryd.prog 154 #[.int .u64 x, .int .u64 y] w fun e w' => e = .returned (.tuple #[.int .u64 (x * y / 18446744073709551616), .int .u64 (x * y % 18446744073709551616)]) ∧ w = w' := by
  have k1 := and_low32 x hx0 hx
  have k2 := and_low32 y hy0 hy
  have k3 := mul64_arith x y hx0 hx hy0 hy
  go_enter Tryd.func154, Tryd.ntmps154
  clear k3
  go_wp2
  go_ret2
  exact ⟨ret_two (mul_hi x y hx0 hx hy0 hy) (by rw [IntKind.wrap_u64]), rfl⟩

/-! ### numbers of 128 bits -/
set_option maxHeartbeats 400000 in
theorem widen_any (a : Int) (w : World) (h1 : -9223372036854775808 ≤ a) (h2 : a ≤ 9223372036854775807) :
    Calls Tryd.prog 139 #[.int .i64 a] w fun e w' => e = .returned (wv a) ∧ Below w.heap.size w w' := by
  have e1 : IntKind.u64.wrap (a / 9223372036854775808) = hiW a := by rw [IntKind.wrap_u64]; unfold hiW; omega
  have e2 : IntKind.u64.wrap a = loW a := by rw [IntKind.wrap_u64]; rfl
  go_enter Tryd.func139, Tryd.ntmps139
  go_wp2
  refine bodyPost_ret (v := wv a) (by simp [results, Tryd.results139, go_sem, wv]) rfl ⟨rfl, ?_⟩
  exact (Below.refl _ _).alloc (Nat.le_refl _) _
set_option maxHeartbeats 400000 in
theorem plus_any (W V : Int) (w : World) :
    Calls Tryd.prog 140 #[.agg #[.int .u64 (hiW W), .int .u64 (loW W)], .agg #[.int .u64 (hiW V), .int .u64 (loW V)]] w fun e w' => e = .returned (wv (W + V)) ∧ Below w.heap.size w w' := by
  have b1 := hiW_nonneg W; have b2 := hiW_lt W; have b3 := loW_nonneg W; have b4 := loW_lt W
  have d1 := hiW_nonneg V; have d2 := hiW_lt V; have d3 := loW_nonneg V; have d4 := loW_lt V
  have k0 : 0 ≤ (loW W + loW V) / 18446744073709551616 := by omega
  have k1 : (loW W + loW V) / 18446744073709551616 ≤ 1 := by omega
  have e1 := lo_add W V
  have e2 := hi_add W V
  go_enter Tryd.func140, Tryd.ntmps140
  go_wp2_with (first | simp only [add64_0 _ _ b3 d3] | simp only [add64 _ _ _ b1 d1 k0 k1])
  refine bodyPost_ret (v := wv (W + V)) (by simp [results, Tryd.results140, go_sem, wv]) rfl ⟨rfl, ?_⟩
  exact (((Below.refl _ _).alloc (Nat.le_refl _) _).alloc (by simp) _).alloc (by simp; omega) _
set_option maxHeartbeats 400000 in
theorem minus_any (W V : Int) (w : World) :
    Calls Tryd.prog 142 #[.agg #[.int .u64 (hiW W), .int .u64 (loW W)], .agg #[.int .u64 (hiW V), .int .u64 (loW V)]] w fun e w' => e = .returned (wv (W - V)) ∧ Below w.heap.size w w' := by
  have b1 := hiW_nonneg W; have b2 := hiW_lt W; have b3 := loW_nonneg W; have b4 := loW_lt W
  have d1 := hiW_nonneg V; have d2 := hiW_lt V; have d3 := loW_nonneg V; have d4 := loW_lt V
  have k0 := bor_nonneg (loW W) (loW V)
  have k1 := bor_le (loW W) (loW V)
  have e1 := lo_sub W V
  have e2 := hi_sub W V
  go_enter Tryd.func142, Tryd.ntmps142
  go_wp2_with (first | simp only [sub64_0 _ _ b3 d3 d4] | simp only [sub64 _ _ _ b1 d1 d2 k0 k1])
  refine bodyPost_ret (v := wv (W - V)) (by simp [results, Tryd.results142, go_sem, wv]) rfl ⟨rfl, ?_⟩
  exact (((Below.refl _ _).alloc (Nat.le_refl _) _).alloc (by simp) _).alloc (by simp; omega) _
set_option maxHeartbeats 400000 in
theorem below_any (W : Int) (w : World) (hW : Wide W) :
    Calls Tryd.prog 151 #[.agg #[.int .u64 (hiW W), .int .u64 (loW W)]] w fun e w' => e = .returned (.bool (negB W)) ∧ Below w.heap.size w w' := by
  have b1 := hiW_nonneg W; have b2 := hiW_lt W
  have e1 := neg_hi W hW
  go_enter Tryd.func151, Tryd.ntmps151
  go_wp2
  go_ret
  exact ⟨rfl, (Below.refl _ _).alloc (Nat.le_refl _) _⟩

end Go.Proofs.YtlobffjgkhcjbaaDoor.Nu
