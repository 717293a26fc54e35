/-
  What SubstValues's proof stands on, part 10: EvNuA, EvNuB, EvNuC, EvNuD.
-/
import Derived.Test.YtdfebacjbapahaaGreatDoorRows
import Derived.Test.YtdfebacjbapahaaGreatDoorSubstValuesK09
import Derived.WalkKit
import Derived.WalkSpells
import Derived.WalkLawsBesides
import Derived.BigQuiet
import Derived.Deep.QuietTactic
import Derived.Laws.Externs
import Derived.Laws.MathBits
import Derived.Laws.Bits64b
import Derived.Deep.RegionHeld3
import Derived.Defers
import Derived.Recover
import Derived.WalkSmall
import Derived.Deep.RegionWith
import Derived.Deep.RegionHeld2
import Derived.Laws.Pointers
import Derived.Shelf.Abstract
namespace Go.Proofs.YtdfebacjbapahaaGreatDoor
section
namespace Nu
open Go.RowKit

theorem ret_int {k : IntKind} {a b : Int} (h : a = b) : Ending.returned (.int k a) = .returned (.int k b) := by rw [h]
theorem ret_two {k l : IntKind} {a b c d : Int} (h : a = b) (h' : c = d) : Ending.returned (.tuple #[.int k a, .int l c]) = .returned (.tuple #[.int k b, .int l d]) := by rw [h, h']
/-- the ending of a call that panics with a text -/
def Mis (e : Ending) : Prop := ∃ v, e = .panicked [{ v := .iface 9 v, recovered := false }]
def wv (W : Int) : Value := .agg #[.int .u64 (hiW W), .int .u64 (loW W)]

set_option maxHeartbeats 400000 in
theorem size_any (a : Int) (w : World) (h1 : -9223372036854775808 ≤ a) (h2 : a ≤ 9223372036854775807) :
    Calls Tryz.prog 102 #[.int .i64 a] w fun e w' => e = .returned (.int .u64 (szI a)) ∧ w = w' := by
  by_cases h0 : a < 0
  · go_enter Tryz.func102, Tryz.ntmps102
    go_wp2
    go_ret
    exact ⟨ret_int (by rw [szI_neg h0, IntKind.wrap_u64, IntKind.wrap_u64]; omega), rfl⟩
  · go_enter Tryz.func102, Tryz.ntmps102
    go_wp2
    go_ret
    exact ⟨ret_int (by rw [szI_pos (by omega)]), rfl⟩

set_option maxHeartbeats 400000 in
theorem signed_fit (b : Bool) (x : Int) (w : World) (h0 : 0 ≤ x) (hx : x < 18446744073709551616) (h : fitB (sgnI b x) = true) :
    Calls Tryz.prog 97 #[.bool b, .int .u64 x] w fun e w' => e = .returned (.int .i64 (sgnI b x)) ∧ w = w' := by
  have h' := h; rw [fitB_iff] at h'; clear h
  cases b
  · simp only [sgnI, Bool.false_eq_true, if_false] at h' ⊢
    go_enter Tryz.func97, Tryz.ntmps97
    go_wp2
    go_ret
    exact ⟨rfl, rfl⟩
  · simp only [sgnI, if_true] at h' ⊢
    go_enter Tryz.func97, Tryz.ntmps97
    go_wp2
    go_ret
    exact ⟨ret_int (by simp only [wrap64, IntKind.wrap_u64]; omega), rfl⟩

set_option maxHeartbeats 400000 in
theorem signed_not (b : Bool) (x : Int) (w : World) (h0 : 0 ≤ x) (hx : x < 18446744073709551616) (h : fitB (sgnI b x) = false) :
    Calls Tryz.prog 97 #[.bool b, .int .u64 x] w fun e w' => Mis e ∧ w = w' := by
  have h' := h; rw [fitB_not] at h'; clear h
  cases b
  · simp only [sgnI, Bool.false_eq_true, if_false] at h' ⊢
    have h3 : 9223372036854775807 < x := by omega
    clear h'
    go_enter Tryz.func97, Tryz.ntmps97
    go_wp2
    exact ⟨rfl, ⟨_, rfl⟩, rfl⟩
  · simp only [sgnI, if_true] at h' ⊢
    have h3 : 9223372036854775808 < x := by omega
    clear h'
    go_enter Tryz.func97, Tryz.ntmps97
    go_wp2
    exact ⟨rfl, ⟨_, rfl⟩, rfl⟩

theorem add64 (x y c : Int) (hx : 0 ≤ x) (hy : 0 ≤ y) (hc0 : 0 ≤ c) (hc : c ≤ 1) (w : World) : (callFunc 103 #[.int .u64 x, .int .u64 y, .int .u64 c]).run Tryz.prog w =
    .ok (.value (.tuple #[.int .u64 ((x + y + c) % 18446744073709551616), .int .u64 ((x + y + c) / 18446744073709551616)])) w := by
  obtain ⟨x, rfl⟩ := Int.eq_ofNat_of_zero_le hx
  obtain ⟨y, rfl⟩ := Int.eq_ofNat_of_zero_le hy
  rw [run_callFunc_extern Tryz.func103 (by kernel_rfl) (by kernel_rfl) (by kernel_rfl) (e := (Extern.MathBitsCarry.rows.getD 0 default).2) (by kernel_rfl)]
  have hc2 : c = 0 ∨ c = 1 := by omega
  rcases hc2 with rfl | rfl
  · have e : ((Extern.MathBitsCarry.rows.getD 0 default).2 #[.int .u64 x, .int .u64 y, .int .u64 0]).run Tryz.prog w = .ok (.tuple #[.int .u64 (((x + y + 0) % 18446744073709551616 : Nat) : Int), .int .u64 (((x + y + 0) / 18446744073709551616 : Nat) : Int)]) w := rfl
    rw [e]; simp only [Result.andThen]
    congr 5 <;> omega
  · have e : ((Extern.MathBitsCarry.rows.getD 0 default).2 #[.int .u64 x, .int .u64 y, .int .u64 1]).run Tryz.prog w = .ok (.tuple #[.int .u64 (((x + y + 1) % 18446744073709551616 : Nat) : Int), .int .u64 (((x + y + 1) / 18446744073709551616 : Nat) : Int)]) w := rfl
    rw [e]; simp only [Result.andThen]
    congr 5 <;> omega
theorem sub64 (x y b : Int) (hx : 0 ≤ x) (hy : 0 ≤ y) (hy' : y < 18446744073709551616) (hb0 : 0 ≤ b) (hb : b ≤ 1) (w : World) : (callFunc 104 #[.int .u64 x, .int .u64 y, .int .u64 b]).run Tryz.prog w =
    .ok (.value (.tuple #[.int .u64 ((x - y - b) % 18446744073709551616), .int .u64 (bor x (y + b))])) w := by
  obtain ⟨x, rfl⟩ := Int.eq_ofNat_of_zero_le hx
  obtain ⟨y, rfl⟩ := Int.eq_ofNat_of_zero_le hy
  rw [run_callFunc_extern Tryz.func104 (by kernel_rfl) (by kernel_rfl) (by kernel_rfl) (e := (Extern.MathBitsCarry.rows.getD 1 default).2) (by kernel_rfl)]
  have hc2 : b = 0 ∨ b = 1 := by omega
  rcases hc2 with rfl | rfl
  · have e : ((Extern.MathBitsCarry.rows.getD 1 default).2 #[.int .u64 x, .int .u64 y, .int .u64 0]).run Tryz.prog w = .ok (.tuple #[.int .u64 (((x + 18446744073709551616 - y - 0) % 18446744073709551616 : Nat) : Int), .int .u64 ((if x < y + 0 then 1 else 0 : Nat) : Int)]) w := rfl
    rw [e]; simp only [Result.andThen]
    have e1 : (((x + 18446744073709551616 - y - 0) % 18446744073709551616 : Nat) : Int) = ((x : Int) - y - 0) % 18446744073709551616 := by omega
    have e2 : ((if x < y + 0 then 1 else 0 : Nat) : Int) = bor (x : Int) (y + 0) := by unfold bor; split <;> split <;> omega
    rw [e1, e2]
  · have e : ((Extern.MathBitsCarry.rows.getD 1 default).2 #[.int .u64 x, .int .u64 y, .int .u64 1]).run Tryz.prog w = .ok (.tuple #[.int .u64 (((x + 18446744073709551616 - y - 1) % 18446744073709551616 : Nat) : Int), .int .u64 ((if x < y + 1 then 1 else 0 : Nat) : Int)]) w := rfl
    rw [e]; simp only [Result.andThen]
    have e1 : (((x + 18446744073709551616 - y - 1) % 18446744073709551616 : Nat) : Int) = ((x : Int) - y - 1) % 18446744073709551616 := by omega
    have e2 : ((if x < y + 1 then 1 else 0 : Nat) : Int) = bor (x : Int) (y + 1) := by unfold bor; split <;> split <;> omega
    rw [e1, e2]
theorem add64_0 (x y : Int) (hx : 0 ≤ x) (hy : 0 ≤ y) (w : World) : (callFunc 103 #[.int .u64 x, .int .u64 y, .int .u64 0]).run Tryz.prog w =
    .ok (.value (.tuple #[.int .u64 ((x + y) % 18446744073709551616), .int .u64 ((x + y) / 18446744073709551616)])) w := by
  simpa using add64 x y 0 hx hy (Int.le_refl 0) (by decide) w
theorem sub64_0 (x y : Int) (hx : 0 ≤ x) (hy : 0 ≤ y) (hy' : y < 18446744073709551616) (w : World) : (callFunc 104 #[.int .u64 x, .int .u64 y, .int .u64 0]).run Tryz.prog w =
    .ok (.value (.tuple #[.int .u64 ((x - y) % 18446744073709551616), .int .u64 (bor x y)])) w := by
  simpa using sub64 x y 0 hx hy hy' (Int.le_refl 0) (by decide) w

theorem mul_hi (x y : Int) (hx0 : 0 ≤ x) (hx : x < 18446744073709551616) (hy0 : 0 ≤ y) (hy : y < 18446744073709551616) :
    IntKind.u64.wrap (IntKind.u64.wrap (IntKind.u64.wrap (x / 4294967296 * (y / 4294967296)) + IntKind.u64.wrap (IntKind.u64.wrap (x / 4294967296 * (y % 4294967296)) + IntKind.u64.wrap (x % 4294967296 * (y % 4294967296)) / 4294967296) / 4294967296) +
      IntKind.u64.wrap (bits BinOp.and IntKind.u64 (IntKind.u64.wrap (IntKind.u64.wrap (x / 4294967296 * (y % 4294967296)) + IntKind.u64.wrap (x % 4294967296 * (y % 4294967296)) / 4294967296)) 4294967295 + IntKind.u64.wrap (x % 4294967296 * (y / 4294967296))) / 4294967296) = x * y / 18446744073709551616 := by
  have e : ∀ z, bits BinOp.and IntKind.u64 (IntKind.u64.wrap z) 4294967295 = (z % 18446744073709551616) % 4294967296 := by
    intro z; rw [IntKind.wrap_u64]; exact and_low32 _ (by omega) (by omega)
  rw [e]
  simp only [IntKind.wrap_u64]
  exact mul64_arith x y hx0 hx hy0 hy
set_option maxHeartbeats 1000000 in
theorem mul64_any (x y : Int) (w : World) (hx0 : 0 ≤ x) (hx : x < 18446744073709551616) (hy0 : 0 ≤ y) (hy : y < 18446744073709551616) :
    Calls Tryz.prog 101 #[.int .u64 x, .int .u64 y] w fun e w' => e = .returned (.tuple #[.int .u64 (x * y / 18446744073709551616), .int .u64 (x * y % 18446744073709551616)]) ∧ w = w' := by
  have k1 := and_low32 x hx0 hx
  have k2 := and_low32 y hy0 hy
  have k3 := mul64_arith x y hx0 hx hy0 hy
  go_enter Tryz.func101, Tryz.ntmps101
  clear k3
  go_wp2
  go_ret2
  exact ⟨ret_two (mul_hi x y hx0 hx hy0 hy) (by rw [IntKind.wrap_u64]), rfl⟩

/-! ### numbers of 128 bits -/
set_option maxHeartbeats 400000 in
theorem widen_any (a : Int) (w : World) (h1 : -9223372036854775808 ≤ a) (h2 : a ≤ 9223372036854775807) :
    Calls Tryz.prog 79 #[.int .i64 a] w fun e w' => e = .returned (wv a) ∧ Below w.heap.size w w' := by
  have e1 : IntKind.u64.wrap (a / 9223372036854775808) = hiW a := by rw [IntKind.wrap_u64]; unfold hiW; omega
  have e2 : IntKind.u64.wrap a = loW a := by rw [IntKind.wrap_u64]; rfl
  go_enter Tryz.func79, Tryz.ntmps79
  go_wp2
  refine bodyPost_ret (v := wv a) (by simp [results, Tryz.results79, go_sem, wv]) rfl ⟨rfl, ?_⟩
  exact (Below.refl _ _).alloc (Nat.le_refl _) _
set_option maxHeartbeats 400000 in
theorem plus_any (W V : Int) (w : World) :
    Calls Tryz.prog 80 #[.agg #[.int .u64 (hiW W), .int .u64 (loW W)], .agg #[.int .u64 (hiW V), .int .u64 (loW V)]] w fun e w' => e = .returned (wv (W + V)) ∧ Below w.heap.size w w' := by
  have b1 := hiW_nonneg W; have b2 := hiW_lt W; have b3 := loW_nonneg W; have b4 := loW_lt W
  have d1 := hiW_nonneg V; have d2 := hiW_lt V; have d3 := loW_nonneg V; have d4 := loW_lt V
  have k0 : 0 ≤ (loW W + loW V) / 18446744073709551616 := by omega
  have k1 : (loW W + loW V) / 18446744073709551616 ≤ 1 := by omega
  have e1 := lo_add W V
  have e2 := hi_add W V
  go_enter Tryz.func80, Tryz.ntmps80
  go_wp2_with (first | simp only [add64_0 _ _ b3 d3] | simp only [add64 _ _ _ b1 d1 k0 k1])
  refine bodyPost_ret (v := wv (W + V)) (by simp [results, Tryz.results80, go_sem, wv]) rfl ⟨rfl, ?_⟩
  exact (((Below.refl _ _).alloc (Nat.le_refl _) _).alloc (by simp) _).alloc (by simp; omega) _
set_option maxHeartbeats 400000 in
theorem minus_any (W V : Int) (w : World) :
    Calls Tryz.prog 82 #[.agg #[.int .u64 (hiW W), .int .u64 (loW W)], .agg #[.int .u64 (hiW V), .int .u64 (loW V)]] w fun e w' => e = .returned (wv (W - V)) ∧ Below w.heap.size w w' := by
  have b1 := hiW_nonneg W; have b2 := hiW_lt W; have b3 := loW_nonneg W; have b4 := loW_lt W
  have d1 := hiW_nonneg V; have d2 := hiW_lt V; have d3 := loW_nonneg V; have d4 := loW_lt V
  have k0 := bor_nonneg (loW W) (loW V)
  have k1 := bor_le (loW W) (loW V)
  have e1 := lo_sub W V
  have e2 := hi_sub W V
  go_enter Tryz.func82, Tryz.ntmps82
  go_wp2_with (first | simp only [sub64_0 _ _ b3 d3 d4] | simp only [sub64 _ _ _ b1 d1 d2 k0 k1])
  refine bodyPost_ret (v := wv (W - V)) (by simp [results, Tryz.results82, go_sem, wv]) rfl ⟨rfl, ?_⟩
  exact (((Below.refl _ _).alloc (Nat.le_refl _) _).alloc (by simp) _).alloc (by simp; omega) _
set_option maxHeartbeats 400000 in
theorem below_any (W : Int) (w : World) (hW : Wide W) :
    Calls Tryz.prog 98 #[.agg #[.int .u64 (hiW W), .int .u64 (loW W)]] w fun e w' => e = .returned (.bool (negB W)) ∧ Below w.heap.size w w' := by
  have b1 := hiW_nonneg W; have b2 := hiW_lt W
  have e1 := neg_hi W hW
  go_enter Tryz.func98, Tryz.ntmps98
  go_wp2
  go_ret
  exact ⟨rfl, (Below.refl _ _).alloc (Nat.le_refl _) _⟩

end Nu
end
section
namespace Nu
open Go.RowKit

theorem bcell {W w1 : World} (hb : Below W.heap.size W w1) : (∀ b o, b < W.heap.size → w1.cell? ⟨b, o, none⟩ = W.cell? ⟨b, o, none⟩) ∧ (∀ b o, b < W.heap.size → w1.frozen? ⟨b, o, none⟩ = W.frozen? ⟨b, o, none⟩) :=
  ⟨fun b o h => hb.cell (p := ⟨b, o, none⟩) h, fun b o h => hb.frozen (p := ⟨b, o, none⟩) h⟩

theorem frozen_later {w w1 : World} (hb : Below w.heap.size w w1) {a : Addr} {v : Value} (h : w.cell? a = some v) (hf : w.frozen? a = false) : w1.frozen? a = false := by
  rw [hb.frozen (World.block_lt_of_cell? _ _ h)]; exact hf
/-- a block of two cells that may be written -/
def Two (w : World) (b : Nat) (x y : Value) : Prop := w.cell? ⟨b, 0, none⟩ = some x ∧ w.cell? ⟨b, 1, none⟩ = some y ∧ w.frozen? ⟨b, 0, none⟩ = false ∧ w.frozen? ⟨b, 1, none⟩ = false
theorem Two.later {w w1 : World} {b : Nat} {x y : Value} (hb : Below w.heap.size w w1) (h : Two w b x y) : Two w1 b x y :=
  ⟨cell_later hb h.1, cell_later hb h.2.1, frozen_later hb h.1 h.2.2.1, frozen_later hb h.2.1 h.2.2.2⟩
/-- a block of one cell that may be written -/
def Single (w : World) (b : Nat) (x : Value) : Prop := w.cell? ⟨b, 0, none⟩ = some x ∧ w.frozen? ⟨b, 0, none⟩ = false
theorem Single.later {w w1 : World} {b : Nat} {x : Value} (hb : Below w.heap.size w w1) (h : Single w b x) : Single w1 b x :=
  ⟨cell_later hb h.1, frozen_later hb h.1 h.2⟩

theorem mkHid {p : Prop} (h : p) : Hid p := h
theorem bon {w a b : World} (h : Below w.heap.size w a) (hb : Below a.heap.size a b) : Below w.heap.size w b := h.trans (hb.mono h.size)
theorem bal {w a : World} (h : Below w.heap.size w a) (o : Obj) : Below w.heap.size w (a.alloc o) := h.alloc h.size o
theorem bset {w a : World} (h : Below w.heap.size w a) {p : Addr} (hp : w.heap.size ≤ p.block) (u : Value) : Below w.heap.size w (a.setCell p u) := h.setCell hp u
theorem bdrewN {w a : World} (h : Below w.heap.size w a) (n : Nat) : Below w.heap.size w (a.drewN n) := below_drewN h n
theorem bdrew {w a : World} (h : Below w.heap.size w a) : Below w.heap.size w a.drew := h.drew

theorem minus_zero (V : Int) (w : World) :
    Calls Tryz.prog 82 #[.agg #[.int .u64 0, .int .u64 0], .agg #[.int .u64 (hiW V), .int .u64 (loW V)]] w fun e w' => e = .returned (wv (-V)) ∧ Below w.heap.size w w' := by
  have h := minus_any 0 V w
  rw [hiW_zero, loW_zero, Int.zero_sub] at h
  exact h

set_option maxHeartbeats 400000 in
theorem wsize_any (W : Int) (w : World) (hW : Wide W) :
    Calls Tryz.prog 99 #[.agg #[.int .u64 (hiW W), .int .u64 (loW W)]] w fun e w' => e = .returned (wv (szI W)) ∧ Below w.heap.size w w' := by
  by_cases hn : negB W = true
  · have e0 : szI W = -W := szI_neg (by simpa [negB] using hn)
    rw [e0]; clear e0
    go_enter Tryz.func99, Tryz.ntmps99
    go_wp2_with fail
    refine (below_any W _ hW).mono ?_
    rintro e w1 ⟨rfl, hb1⟩
    obtain ⟨c0, c1, f0, f1⟩ : Two w1 w.heap.size (.int .u64 (hiW W)) (.int .u64 (loW W)) := Two.later hb1 (by simp [Two, go_sem])
    obtain ⟨c2, c3, f2, f3⟩ : Two w1 (w.heap.size + 1) (.int .u64 0) (.int .u64 0) := Two.later hb1 (by simp [Two, go_sem])
    go_wp2_with fail
    refine (minus_zero W _).mono ?_
    rintro e w2 ⟨rfl, hb2⟩
    obtain ⟨d2, d3, g2, g3⟩ := Two.later hb2 ⟨c2, c3, f2, f3⟩
    unfold wv
    go_wp2_with fail
    refine bodyPost_ret (v := wv (-W)) (by simp [results, Tryz.results99, go_sem, wv, d2, d3]) rfl ⟨rfl, ?_⟩
    exact bset (bset (bon (bon (bal (bal (Below.refl _ _) _) _) hb1) hb2) (by simp) _) (by simp) _
  · have e0 : szI W = W := szI_pos (by simpa [negB] using hn)
    rw [e0]; clear e0
    have hn' : negB W = false := by simpa using hn
    clear hn
    go_enter Tryz.func99, Tryz.ntmps99
    go_wp2_with fail
    refine (below_any W _ hW).mono ?_
    rintro e w1 ⟨rfl, hb1⟩
    obtain ⟨c0, c1, f0, f1⟩ : Two w1 w.heap.size (.int .u64 (hiW W)) (.int .u64 (loW W)) := Two.later hb1 (by simp [Two, go_sem])
    obtain ⟨c2, c3, f2, f3⟩ : Two w1 (w.heap.size + 1) (.int .u64 0) (.int .u64 0) := Two.later hb1 (by simp [Two, go_sem])
    go_wp2_with fail
    refine bodyPost_ret (v := wv W) (by simp [results, Tryz.results99, go_sem, wv, c2, c3]) rfl ⟨rfl, ?_⟩
    exact bset (bset (bon (bal (bal (Below.refl _ _) _) _) hb1) (by simp) _) (by simp) _

set_option maxHeartbeats 400000 in
theorem product_any (a b : Int) (w : World) (h1 : -9223372036854775808 ≤ a) (h2 : a ≤ 9223372036854775807) (h3 : -9223372036854775808 ≤ b) (h4 : b ≤ 9223372036854775807) :
    Calls Tryz.prog 77 #[.int .i64 a, .int .i64 b] w fun e w' => e = .returned (wv (a * b)) ∧ Below w.heap.size w w' := by
  have r := wide_mul ((fitB_iff a).2 ⟨h1, h2⟩) ((fitB_iff b).2 ⟨h3, h4⟩)
  have rs := sz_small r
  have rn := szI_nonneg (a * b)
  have M : ∀ w, Calls Tryz.prog 101 #[.int .u64 (szI a), .int .u64 (szI b)] w fun e w' => e = .returned (.tuple #[.int .u64 (hiW (szI (a * b))), .int .u64 (loW (szI (a * b)))]) ∧ w = w' := by
    intro w
    have h := mul64_any (szI a) (szI b) w (szI_nonneg a) (sz_lt h1 h2) (szI_nonneg b) (sz_lt h3 h4)
    rw [sz_mul, ← hi_nat _ rn (by omega)] at h
    exact h
  have M' := mkHid M; clear M
  clear r rs rn
  by_cases hs : (!(decide (a < 0) == decide (b < 0))) = true
  · have e0 := mul_signs (a := a) (b := b) (by simpa [bne] using hs)
    rw [e0]; have E0 := mkHid e0; clear e0
    go_enter Tryz.func77, Tryz.ntmps77
    go_wp2_with fail
    refine (size_any a _ h1 h2).mono ?_
    rintro e w1 ⟨rfl, rfl⟩
    go_wp2_with fail
    refine (size_any b _ h3 h4).mono ?_
    rintro e w1 ⟨rfl, rfl⟩
    go_wp2_with fail
    refine (M'.out _).mono ?_
    rintro e w1 ⟨rfl, rfl⟩
    go_wp2_with fail
    refine (minus_zero (szI (a * b)) _).mono ?_
    rintro e w1 ⟨rfl, hb1⟩
    obtain ⟨c0, c1, f0, f1⟩ : Two w1 w.heap.size (.int .u64 0) (.int .u64 0) := Two.later hb1 (by simp [Two, go_sem])
    unfold wv
    go_wp2_with fail
    refine bodyPost_ret (v := wv (-szI (a * b))) (by simp [results, Tryz.results77, go_sem, wv, c0, c1]) rfl ⟨rfl, ?_⟩
    exact bset (bset (bon (bal (bal (Below.refl _ _) _) _) hb1) (by simp) _) (by simp) _
  · have hs' : (!(decide (a < 0) == decide (b < 0))) = false := by simpa using hs
    have e0 := mul_signs' (a := a) (b := b) (by simpa [bne] using hs)
    rw [e0]; have E0 := mkHid e0; clear e0 hs
    go_enter Tryz.func77, Tryz.ntmps77
    go_wp2_with fail
    refine (size_any a _ h1 h2).mono ?_
    rintro e w1 ⟨rfl, rfl⟩
    go_wp2_with fail
    refine (size_any b _ h3 h4).mono ?_
    rintro e w1 ⟨rfl, rfl⟩
    go_wp2_with fail
    refine (M'.out _).mono ?_
    rintro e w1 ⟨rfl, rfl⟩
    go_wp2_with fail
    refine bodyPost_ret (v := wv (szI (a * b))) (by simp [results, Tryz.results77, go_sem, wv]) rfl ⟨rfl, ?_⟩
    exact bal (bal (Below.refl _ _) _) _

set_option maxHeartbeats 400000 in
theorem div64_low (lo y : Int) (w : World) (h1 : 0 ≤ lo) (h2 : lo < 18446744073709551616) (h3 : 0 < y) (h4 : y < 18446744073709551616) :
    Calls Tryz.prog 114 #[.int .u64 0, .int .u64 lo, .int .u64 y] w fun e w' => e = .returned (.tuple #[.int .u64 (lo / y), .int .u64 (lo % y)]) ∧ ∃ n, w' = w.drewN n := by
  go_enter Tryz.func114, Tryz.ntmps114
  go_wp2
  go_quiet (fail)
  go_wp2
  go_ret2
  exact ⟨rfl, _, rfl⟩
end Nu
end
section
namespace Nu
open Go.RowKit

set_option maxHeartbeats 400000 in
theorem over_one (W : Int) (w : World) (h1 : 0 ≤ W) (h2 : W < 18446744073709551616) :
    Calls Tryz.prog 100 #[.agg #[.int .u64 (hiW W), .int .u64 (loW W)], .int .u64 1] w fun e w' => e = .returned (.int .u64 W) ∧ Below w.heap.size w w' := by
  have e1 : hiW W = 0 := by unfold hiW; omega
  have e2 : loW W = W := by unfold loW; omega
  rw [e1, e2]; clear e1 e2
  have D : ∀ w, Calls Tryz.prog 114 #[.int .u64 0, .int .u64 W, .int .u64 1] w fun e w' => e = .returned (.tuple #[.int .u64 W, .int .u64 0]) ∧ ∃ n, w' = w.drewN n := by
    intro w
    have h := div64_low W 1 w h1 h2 (by decide) (by decide)
    simpa using h
  have D' := mkHid D; clear D
  go_enter Tryz.func100, Tryz.ntmps100
  go_wp2_with fail
  refine (D'.out _).mono ?_
  rintro e w1 ⟨rfl, n, rfl⟩
  go_wp2
  go_ret
  exact ⟨rfl, bdrewN (bal (Below.refl _ _) _) _⟩
set_option maxHeartbeats 400000 in
theorem over_not (W d : Int) (w : World) (h1 : d ≤ hiW W) :
    Calls Tryz.prog 100 #[.agg #[.int .u64 (hiW W), .int .u64 (loW W)], .int .u64 d] w fun e w' => Mis e ∧ Below w.heap.size w w' := by
  go_enter Tryz.func100, Tryz.ntmps100
  go_wp2
  exact ⟨rfl, ⟨_, rfl⟩, bal (Below.refl _ _) _⟩

/-- a call that answers v, if c, and else panics with a text; nothing that was there has turned -/
def Out (c : Bool) (v : Value) (w : World) (e : Ending) (w' : World) : Prop :=
  (c = true ∧ e = .returned v ∧ Below w.heap.size w w') ∨ (c = false ∧ Mis e ∧ Below w.heap.size w w')
theorem signed_any (b : Bool) (x : Int) (w : World) (h0 : 0 ≤ x) (hx : x < 18446744073709551616) :
    Calls Tryz.prog 97 #[.bool b, .int .u64 x] w (Out (fitB (sgnI b x)) (.int .i64 (sgnI b x)) w) := by
  cases h : fitB (sgnI b x)
  · exact (signed_not b x w h0 hx h).mono fun e w' ⟨he, hw⟩ => Or.inr ⟨rfl, he, hw ▸ Below.refl _ _⟩
  · exact (signed_fit b x w h0 hx h).mono fun e w' ⟨he, hw⟩ => Or.inl ⟨rfl, he, hw ▸ Below.refl _ _⟩
theorem over_1 (W : Int) (w : World) (h1 : 0 ≤ W) (h2 : W < 340282366920938463463374607431768211456) :
    Calls Tryz.prog 100 #[.agg #[.int .u64 (hiW W), .int .u64 (loW W)], .int .u64 1] w (Out (decide (W < 18446744073709551616)) (.int .u64 W) w) := by
  by_cases h : W < 18446744073709551616
  · exact (over_one W w h1 h).mono fun e w' ⟨he, hw⟩ => Or.inl ⟨by simpa using h, he, hw⟩
  · exact (over_not W 1 w (by rw [hi_nat W h1 h2]; omega)).mono fun e w' ⟨he, hw⟩ => Or.inr ⟨by simpa using h, he, hw⟩

theorem size_f (a : Int) (w : World) (h : fitB a = true) :
    Calls Tryz.prog 102 #[.int .i64 a] w fun e w' => e = .returned (.int .u64 (szI a)) ∧ w = w' :=
  size_any a w ((fitB_iff a).1 h).1 ((fitB_iff a).1 h).2
theorem widen_f (a : Int) (w : World) (h : fitB a = true) :
    Calls Tryz.prog 79 #[.int .i64 a] w fun e w' => e = .returned (wv a) ∧ Below w.heap.size w w' :=
  widen_any a w ((fitB_iff a).1 h).1 ((fitB_iff a).1 h).2
theorem product_f (a b : Int) (w : World) (h : fitB a = true) (h' : fitB b = true) :
    Calls Tryz.prog 77 #[.int .i64 a, .int .i64 b] w fun e w' => e = .returned (wv (a * b)) ∧ Below w.heap.size w w' :=
  product_any a b w ((fitB_iff a).1 h).1 ((fitB_iff a).1 h).2 ((fitB_iff b).1 h').1 ((fitB_iff b).1 h').2
theorem fit_far {W : Int} (h : decide (szI W < 18446744073709551616) = false) : fitB W = false := by
  rw [fitB_not]; simp at h; unfold szI at h; omega
theorem cells2_later {w wx : World} {a b : Addr} {x y : Value} (hb : Below w.heap.size w wx) (h : w.cell? a = some x ∧ w.cell? b = some y) : wx.cell? a = some x ∧ wx.cell? b = some y :=
  ⟨cell_later hb h.1, cell_later hb h.2⟩

set_option maxHeartbeats 1000000 in
theorem narrow_any (W : Int) (w : World) (hw : Wide W) :
    Calls Tryz.prog 76 #[.agg #[.int .u64 (hiW W), .int .u64 (loW W)]] w (Out (fitB W) (.int .i64 W) w) := by
  have z0 := szI_nonneg W
  have z1 : szI W < 340282366920938463463374607431768211456 := by unfold Wide at hw; unfold szI; omega
  have E := mkHid (sgn_sz W)
  go_enter Tryz.func76, Tryz.ntmps76
  go_wp2
  go_region_held2 (fun w' => w'.cell? ⟨w.heap.size, 0, none⟩ = some (.int .u64 (hiW W)) ∧ w'.cell? ⟨w.heap.size, 1, none⟩ = some (.int .u64 (loW W)))
    (first | exact cells2_later (by assumption) (by assumption) | exact ⟨by simp [go_sem], by simp [go_sem]⟩)
    (first
      | (go_at_call 98; refine (below_any W _ hw).mono ?_; rintro e w1 ⟨rfl, hb1⟩)
      | (go_at_call 99; refine (wsize_any W _ hw).mono ?_; rintro e w2 ⟨rfl, hb2⟩)
      | (go_at_call 100; refine (over_1 _ _ z0 z1).mono ?_; rintro e w3 (⟨hc, rfl, hb3⟩ | ⟨hc, ⟨v, rfl⟩, hb3⟩); rotate_left; exact ⟨rfl, Or.inr ⟨fit_far hc, ⟨v, rfl⟩, bon (bon (bon (bdrew (bal (Below.refl _ _) _)) hb1) hb2) hb3⟩⟩)
      | (go_at_call 97; refine (signed_any _ _ _ z0 (by simpa using hc)).mono ?_; rintro e w4 (⟨hd, rfl, hb4⟩ | ⟨hd, ⟨v, rfl⟩, hb4⟩); rotate_left; exact ⟨rfl, Or.inr ⟨by rw [← hd, E.out], ⟨v, rfl⟩, bon (bon (bon (bon (bdrew (bal (Below.refl _ _) _)) hb1) hb2) hb3) hb4⟩⟩))
  go_wp2
  go_ret
  exact Or.inl ⟨by rw [← hd, E.out], ret_int E.out, bon (bon (bon (bon (bdrew (bal (Below.refl _ _) _)) hb1) hb2) hb3) hb4⟩

/-! ### the closures of Add, Sub, Mul, Gcd -/
set_option maxHeartbeats 1000000 in
theorem addC_any (p q : Addr) (a b : Int) (w : World) (ha : fitB a = true) (hb : fitB b = true) (cp : w.cell? p = some (.int .i64 a)) (cq : w.cell? q = some (.int .i64 b)) :
    Calls Tryz.prog 78 #[.pointer (some p), .pointer (some q)] w (Out (fitB (a + b)) (.int .i64 (a + b)) w) := by
  obtain ⟨a1, a2⟩ := (fitB_iff a).1 ha
  obtain ⟨b1, b2⟩ := (fitB_iff b).1 hb
  have hw : Wide (a + b) := by unfold Wide; omega
  clear ha hb
  go_enter Tryz.func78, Tryz.ntmps78
  go_wp2
  go_region_held2 (fun w' => w'.cell? p = some (.int .i64 a) ∧ w'.cell? q = some (.int .i64 b))
    (first | exact cells2_later (by assumption) (by assumption) | assumption | exact ⟨cp, cq⟩)
    (first
      | (go_at_call 79; refine (widen_any _ _ (by assumption) (by assumption)).mono ?_; rintro e w1 ⟨rfl, hb1⟩)
      | (go_at_call 80; refine (plus_any a b _).mono ?_; rintro e w2 ⟨rfl, hb2⟩)
      | (go_at_call 76; refine (narrow_any _ _ hw).mono ?_; rintro e w3 (⟨hc, rfl, hb3⟩ | ⟨hc, ⟨v, rfl⟩, hb3⟩); rotate_left; exact ⟨rfl, Or.inr ⟨hc, ⟨v, rfl⟩, (by repeat (first | exact Below.refl _ _ | (refine bon ?_ (by assumption)) | refine bdrew ?_ | refine bal ?_ _))⟩⟩))
  go_wp2
  go_ret
  exact Or.inl ⟨hc, rfl, (by repeat (first | exact Below.refl _ _ | (refine bon ?_ (by assumption)) | refine bdrew ?_ | refine bal ?_ _))⟩
set_option maxHeartbeats 1000000 in
theorem subC_any (p q : Addr) (a b : Int) (w : World) (ha : fitB a = true) (hb : fitB b = true) (cp : w.cell? p = some (.int .i64 a)) (cq : w.cell? q = some (.int .i64 b)) :
    Calls Tryz.prog 81 #[.pointer (some p), .pointer (some q)] w (Out (fitB (a - b)) (.int .i64 (a - b)) w) := by
  obtain ⟨a1, a2⟩ := (fitB_iff a).1 ha
  obtain ⟨b1, b2⟩ := (fitB_iff b).1 hb
  have hw : Wide (a - b) := by unfold Wide; omega
  clear ha hb
  go_enter Tryz.func81, Tryz.ntmps81
  go_wp2
  go_region_held2 (fun w' => w'.cell? p = some (.int .i64 a) ∧ w'.cell? q = some (.int .i64 b))
    (first | exact cells2_later (by assumption) (by assumption) | assumption | exact ⟨cp, cq⟩)
    (first
      | (go_at_call 79; refine (widen_any _ _ (by assumption) (by assumption)).mono ?_; rintro e w1 ⟨rfl, hb1⟩)
      | (go_at_call 82; refine (minus_any a b _).mono ?_; rintro e w2 ⟨rfl, hb2⟩)
      | (go_at_call 76; refine (narrow_any _ _ hw).mono ?_; rintro e w3 (⟨hc, rfl, hb3⟩ | ⟨hc, ⟨v, rfl⟩, hb3⟩); rotate_left; exact ⟨rfl, Or.inr ⟨hc, ⟨v, rfl⟩, (by repeat (first | exact Below.refl _ _ | (refine bon ?_ (by assumption)) | refine bdrew ?_ | refine bal ?_ _))⟩⟩))
  go_wp2
  go_ret
  exact Or.inl ⟨hc, rfl, (by repeat (first | exact Below.refl _ _ | (refine bon ?_ (by assumption)) | refine bdrew ?_ | refine bal ?_ _))⟩
set_option maxHeartbeats 1000000 in
theorem mulC_any (p q : Addr) (a b : Int) (w : World) (ha : fitB a = true) (hb : fitB b = true) (cp : w.cell? p = some (.int .i64 a)) (cq : w.cell? q = some (.int .i64 b)) :
    Calls Tryz.prog 75 #[.pointer (some p), .pointer (some q)] w (Out (fitB (a * b)) (.int .i64 (a * b)) w) := by
  have hw : Wide (a * b) := wide_small (wide_mul ha hb)
  obtain ⟨a1, a2⟩ := (fitB_iff a).1 ha
  obtain ⟨b1, b2⟩ := (fitB_iff b).1 hb
  clear ha hb
  go_enter Tryz.func75, Tryz.ntmps75
  go_wp2_with fail
  refine (product_any _ _ _ a1 a2 b1 b2).mono ?_; rintro e w2 ⟨rfl, hb2⟩
  unfold wv
  go_wp2_with fail
  refine (narrow_any _ _ hw).mono ?_; rintro e w3 (⟨hc, rfl, hb3⟩ | ⟨hc, ⟨v, rfl⟩, hb3⟩)
  · go_wp2
    go_ret
    exact Or.inl ⟨hc, rfl, bon hb2 hb3⟩
  · exact ⟨rfl, Or.inr ⟨hc, ⟨v, rfl⟩, bon hb2 hb3⟩⟩
end Nu
end
section
namespace Nu
open Go.RowKit Go.Shelf

set_option maxHeartbeats 400000 in
theorem catchI_panicking (p q : Addr) (x : Int) (y : Bool) (u : TypeId) (pv : Value) (older : List PanicEntry) (w : World) (hc : w.cell? p = some (.int .i64 x)) (hz : w.frozen? p = false) (hc' : w.cell? q = some (.bool y)) (hz' : w.frozen? q = false) (hne : p ≠ q) :
    CallsD Tryz.prog 96 #[.pointer (some p), .pointer (some q)] (.panicking ({ v := .iface u pv, recovered := false } :: older)) w fun e u' w' =>
      e = .returned (.tuple #[]) ∧ u' = .panicking ({ v := .iface u pv, recovered := true } :: older) ∧ w' = (w.setCell p (.int .i64 0)).setCell q (.bool false) := by
  refine callsD_of_wpS Tryz.func96 rfl fun c₀ cs hu => ?_
  apply wpS_seq
  apply wpS_region
  simp [wpOpsS, go_sem, recoverD, hu, Tryz.ntmps96, Exit.thenS]
  refine wpS_cond (t := true) (by simp [Act.eval, Array.replicate]) ?_
  simp only [if_true]
  have c2 : (w.setCell p (.int .i64 0)).cell? q = some (.bool y) := by rw [World.cell?_setCell_other _ _ _ _ hne]; exact hc'
  apply wpS_seq
  apply wpS_region
  simp [wpOpsS, go_sem, Exit.thenS]
  apply wpS_region
  simp [wpOpsS, go_sem, hc, hz, c2, hz', bodyPostS, results, Tryz.results96]
set_option maxHeartbeats 400000 in
theorem catchI_idle (p q : Addr) (w : World) :
    CallsD Tryz.prog 96 #[.pointer (some p), .pointer (some q)] .returning w fun e u' w' =>
      e = .returned (.tuple #[]) ∧ u' = .returning ∧ w' = w := by
  refine callsD_of_wpS Tryz.func96 rfl fun c₀ cs hu => ?_
  apply wpS_seq
  apply wpS_region
  simp [wpOpsS, go_sem, recoverD, hu, Tryz.ntmps96, Exit.thenS]
  refine wpS_cond (t := false) (by simp [Act.eval, Array.replicate]) ?_
  simp only [Bool.false_eq_true, if_false]
  refine wpS_of_wp (wp_skip ?_)
  cases c₀
  simp_all [bodyPostS, results, Tryz.results96]

def tc (c : Bool) (n : Int) : Int := if c then n else 0
theorem tc_fit (n : Int) : tc (fitB n) n = tel n := rfl
set_option maxHeartbeats 400000 in
theorem attemptI_any (K : Nat) (p q : Addr) (c : Bool) (n : Int) (w : World)
    (henter : ∀ args w, (callFunc K args).run Tryz.prog w = .ok (.enter K args) w)
    (h : ∀ w1, Below w.heap.size w w1 → Calls Tryz.prog K #[.pointer (some p), .pointer (some q)] w1 (Out c (.int .i64 n) w1)) :
    Calls Tryz.prog 74 #[.func (.func K) #[] #[.pointer (some p), .pointer (some q)]] w fun e w' =>
      e = .returned (.tuple #[.int .i64 (tc c n), .bool c]) ∧ Below w.heap.size w w' := by
  have hmf : ∀ (fn : Fn) (first cap : Array Value) (w : World), (Instr.makeFunc fn first cap).run Tryz.prog w = .ok (.func fn first cap) w := fun _ _ _ _ => rfl
  have H := mkHid h; clear h
  go_enter_defers Tryz.func74, Tryz.ntmps74
  go_wp2_with fail
  refine (H.out _ (bal (bal (Below.refl _ _) _) _)).mono ?_
  rintro e w1 (⟨rfl, rfl, hb1⟩ | ⟨rfl, ⟨v, rfl⟩, hb1⟩)
  · obtain ⟨c0, f0⟩ : Single w1 w.heap.size (.int .i64 0) := Single.later hb1 (by simp [Single, go_sem])
    obtain ⟨c1, f1⟩ : Single w1 (w.heap.size + 1) (.bool false) := Single.later hb1 (by simp [Single, go_sem])
    go_wp2_with fail
    refine leaves_cons (f := 96) (args := #[.pointer (some ⟨w.heap.size, 0, none⟩), .pointer (some ⟨w.heap.size + 1, 0, none⟩)]) (by simp) (by simp [go_sem]) ?_
    refine (catchI_idle ⟨w.heap.size, 0, none⟩ ⟨w.heap.size + 1, 0, none⟩ _).mono ?_
    rintro e u' w'' ⟨rfl, rfl, rfl⟩
    simp [Leaves, settle, results, Tryz.results74, go_sem, c0, c1, tc]
    exact bset (bset (bon (bal (bal (Below.refl _ _) _) _) hb1) (by simp) _) (by simp) _
  · obtain ⟨c0, f0⟩ : Single w1 w.heap.size (.int .i64 0) := Single.later hb1 (by simp [Single, go_sem])
    obtain ⟨c1, f1⟩ : Single w1 (w.heap.size + 1) (.bool false) := Single.later hb1 (by simp [Single, go_sem])
    show bodyPostD _ _ _ _ _ _
    refine leaves_cons (f := 96) (args := #[.pointer (some ⟨w.heap.size, 0, none⟩), .pointer (some ⟨w.heap.size + 1, 0, none⟩)]) (by simp) (by simp [go_sem]) ?_
    refine (catchI_panicking ⟨w.heap.size, 0, none⟩ ⟨w.heap.size + 1, 0, none⟩ 0 false 9 v [] _ c0 f0 c1 f1 (by simp)).mono ?_
    rintro e u' w'' ⟨rfl, rfl, rfl⟩
    simp [Leaves, settle, results, Tryz.results74, go_sem, c0, c1, tc]
    exact bset (bset (bon (bal (bal (Below.refl _ _) _) _) hb1) (by simp) _) (by simp) _

/-! ### Add, Sub, Mul, Neg, Gcd -/
set_option maxHeartbeats 400000 in
theorem add_any (a b : Int) (w : World) (ha : fitB a = true) (hb : fitB b = true) :
    Calls Tryz.prog 60 #[.int .i64 a, .int .i64 b] w fun e w' => e = .returned (.tuple #[.int .i64 (tel (a + b)), .bool (fitB (a + b))]) ∧ Below w.heap.size w w' := by
  have hmf : ∀ (fn : Fn) (first cap : Array Value) (w : World), (Instr.makeFunc fn first cap).run Tryz.prog w = .ok (.func fn first cap) w := fun _ _ _ _ => rfl
  go_enter Tryz.func60, Tryz.ntmps60
  go_wp2_with fail
  refine (attemptI_any 78 ⟨w.heap.size, 0, none⟩ ⟨w.heap.size + 1, 0, none⟩ (fitB (a + b)) (a + b) _ (enters_of Tryz.func78 (by kernel_rfl) rfl) ?_).mono ?_
  · intro w1 hb1
    exact addC_any _ _ a b w1 ha hb (cell_later hb1 (by simp [go_sem])) (cell_later hb1 (by simp [go_sem]))
  rintro e w1 ⟨rfl, hb1⟩
  rw [tc_fit]
  go_wp2
  go_ret2
  exact ⟨rfl, bon (bal (bal (Below.refl _ _) _) _) hb1⟩
set_option maxHeartbeats 400000 in
theorem sub_any (a b : Int) (w : World) (ha : fitB a = true) (hb : fitB b = true) :
    Calls Tryz.prog 61 #[.int .i64 a, .int .i64 b] w fun e w' => e = .returned (.tuple #[.int .i64 (tel (a - b)), .bool (fitB (a - b))]) ∧ Below w.heap.size w w' := by
  have hmf : ∀ (fn : Fn) (first cap : Array Value) (w : World), (Instr.makeFunc fn first cap).run Tryz.prog w = .ok (.func fn first cap) w := fun _ _ _ _ => rfl
  go_enter Tryz.func61, Tryz.ntmps61
  go_wp2_with fail
  refine (attemptI_any 81 ⟨w.heap.size, 0, none⟩ ⟨w.heap.size + 1, 0, none⟩ (fitB (a - b)) (a - b) _ (enters_of Tryz.func81 (by kernel_rfl) rfl) ?_).mono ?_
  · intro w1 hb1
    exact subC_any _ _ a b w1 ha hb (cell_later hb1 (by simp [go_sem])) (cell_later hb1 (by simp [go_sem]))
  rintro e w1 ⟨rfl, hb1⟩
  rw [tc_fit]
  go_wp2
  go_ret2
  exact ⟨rfl, bon (bal (bal (Below.refl _ _) _) _) hb1⟩
set_option maxHeartbeats 400000 in
theorem mul_any (a b : Int) (w : World) (ha : fitB a = true) (hb : fitB b = true) :
    Calls Tryz.prog 59 #[.int .i64 a, .int .i64 b] w fun e w' => e = .returned (.tuple #[.int .i64 (tel (a * b)), .bool (fitB (a * b))]) ∧ Below w.heap.size w w' := by
  have hmf : ∀ (fn : Fn) (first cap : Array Value) (w : World), (Instr.makeFunc fn first cap).run Tryz.prog w = .ok (.func fn first cap) w := fun _ _ _ _ => rfl
  go_enter Tryz.func59, Tryz.ntmps59
  go_wp2_with fail
  refine (attemptI_any 75 ⟨w.heap.size, 0, none⟩ ⟨w.heap.size + 1, 0, none⟩ (fitB (a * b)) (a * b) _ (enters_of Tryz.func75 (by kernel_rfl) rfl) ?_).mono ?_
  · intro w1 hb1
    exact mulC_any _ _ a b w1 ha hb (cell_later hb1 (by simp [go_sem])) (cell_later hb1 (by simp [go_sem]))
  rintro e w1 ⟨rfl, hb1⟩
  rw [tc_fit]
  go_wp2
  go_ret2
  exact ⟨rfl, bon (bal (bal (Below.refl _ _) _) _) hb1⟩
end Nu
end
end Go.Proofs.YtdfebacjbapahaaGreatDoor
