/-
  The contracts of package num's functions on numbers of 128 bits, of sizes, and of the whole numbers' calls.
-/
import Derived.Test.YtlobffjgkhcjbaaDoorEvNuA
import Derived.Deep.RegionHeld3
import Derived.Defers
import Derived.Recover

import Derived.WalkSmall
namespace Go.Proofs.YtlobffjgkhcjbaaDoor.Nu
open Go.RowKit

theorem bcell {W w1 : World} (hb : Below W.heap.size W w1) : (∀ b o, b < W.heap.size → w1.cell? ⟨b, o, none⟩ = W.cell? ⟨b, o, none⟩) ∧ (∀ b o, b < W.heap.size → w1.frozen? ⟨b, o, none⟩ = W.frozen? ⟨b, o, none⟩) :=
  ⟨fun b o h => hb.cell (p := ⟨b, o, none⟩) h, fun b o h => hb.frozen (p := ⟨b, o, none⟩) h⟩

theorem frozen_later {w w1 : World} (hb : Below w.heap.size w w1) {a : Addr} {v : Value} (h : w.cell? a = some v) (hf : w.frozen? a = false) : w1.frozen? a = false := by
  rw [hb.frozen (World.block_lt_of_cell? _ _ h)]; exact hf
/-- a block of two cells that may be written -/
def Two (w : World) (b : Nat) (x y : Value) : Prop := w.cell? ⟨b, 0, none⟩ = some x ∧ w.cell? ⟨b, 1, none⟩ = some y ∧ w.frozen? ⟨b, 0, none⟩ = false ∧ w.frozen? ⟨b, 1, none⟩ = false
theorem Two.later {w w1 : World} {b : Nat} {x y : Value} (hb : Below w.heap.size w w1) (h : Two w b x y) : Two w1 b x y :=
  ⟨cell_later hb h.1, cell_later hb h.2.1, frozen_later hb h.1 h.2.2.1, frozen_later hb h.2.1 h.2.2.2⟩
/-- a block of one cell that may be written -/
def Single (w : World) (b : Nat) (x : Value) : Prop := w.cell? ⟨b, 0, none⟩ = some x ∧ w.frozen? ⟨b, 0, none⟩ = false
theorem Single.later {w w1 : World} {b : Nat} {x : Value} (hb : Below w.heap.size w w1) (h : Single w b x) : Single w1 b x :=
  ⟨cell_later hb h.1, frozen_later hb h.1 h.2⟩

theorem mkHid {p : Prop} (h : p) : Hid p := h
theorem bon {w a b : World} (h : Below w.heap.size w a) (hb : Below a.heap.size a b) : Below w.heap.size w b := h.trans (hb.mono h.size)
theorem bal {w a : World} (h : Below w.heap.size w a) (o : Obj) : Below w.heap.size w (a.alloc o) := h.alloc h.size o
theorem bset {w a : World} (h : Below w.heap.size w a) {p : Addr} (hp : w.heap.size ≤ p.block) (u : Value) : Below w.heap.size w (a.setCell p u) := h.setCell hp u
theorem bdrewN {w a : World} (h : Below w.heap.size w a) (n : Nat) : Below w.heap.size w (a.drewN n) := below_drewN h n
theorem bdrew {w a : World} (h : Below w.heap.size w a) : Below w.heap.size w a.drew := h.drew

theorem minus_zero (V : Int) (w : World) :
    Calls Tryd.prog 142 #[.agg #[.int .u64 0, .int .u64 0], .agg #[.int .u64 (hiW V), .int .u64 (loW V)]] w fun e w' => e = .returned (wv (-V)) ∧ Below w.heap.size w w' := by
  have h := minus_any 0 V w
  rw [hiW_zero, loW_zero, Int.zero_sub] at h
  exact h

set_option maxHeartbeats 400000 in
theorem wsize_any (W : Int) (w : World) (hW : Wide W) :
    Calls Tryd.prog 152 #[.agg #[.int .u64 (hiW W), .int .u64 (loW W)]] w fun e w' => e = .returned (wv (szI W)) ∧ Below w.heap.size w w' := by
  by_cases hn : negB W = true
  · have e0 : szI W = -W := szI_neg (by simpa [negB] using hn)
    rw [e0]; clear e0
    go_enter Tryd.func152, Tryd.ntmps152
    go_wp2_with fail
    refine (below_any W _ hW).mono ?_
    rintro e w1 ⟨rfl, hb1⟩
    obtain ⟨c0, c1, f0, f1⟩ : Two w1 w.heap.size (.int .u64 (hiW W)) (.int .u64 (loW W)) := Two.later hb1 (by simp [Two, go_sem])
    obtain ⟨c2, c3, f2, f3⟩ : Two w1 (w.heap.size + 1) (.int .u64 0) (.int .u64 0) := Two.later hb1 (by simp [Two, go_sem])
    go_wp2_with fail
    refine (minus_zero W _).mono ?_
    rintro e w2 ⟨rfl, hb2⟩
    obtain ⟨d2, d3, g2, g3⟩ := Two.later hb2 ⟨c2, c3, f2, f3⟩
    unfold wv
    go_wp2_with fail
    refine bodyPost_ret (v := wv (-W)) (by simp [results, Tryd.results152, go_sem, wv, d2, d3]) rfl ⟨rfl, ?_⟩
    exact bset (bset (bon (bon (bal (bal (Below.refl _ _) _) _) hb1) hb2) (by simp) _) (by simp) _
  · have e0 : szI W = W := szI_pos (by simpa [negB] using hn)
    rw [e0]; clear e0
    have hn' : negB W = false := by simpa using hn
    clear hn
    go_enter Tryd.func152, Tryd.ntmps152
    go_wp2_with fail
    refine (below_any W _ hW).mono ?_
    rintro e w1 ⟨rfl, hb1⟩
    obtain ⟨c0, c1, f0, f1⟩ : Two w1 w.heap.size (.int .u64 (hiW W)) (.int .u64 (loW W)) := Two.later hb1 (by simp [Two, go_sem])
    obtain ⟨c2, c3, f2, f3⟩ : Two w1 (w.heap.size + 1) (.int .u64 0) (.int .u64 0) := Two.later hb1 (by simp [Two, go_sem])
    go_wp2_with fail
    refine bodyPost_ret (v := wv W) (by simp [results, Tryd.results152, go_sem, wv, c2, c3]) rfl ⟨rfl, ?_⟩
    exact bset (bset (bon (bal (bal (Below.refl _ _) _) _) hb1) (by simp) _) (by simp) _

set_option maxHeartbeats 400000 in
theorem product_any (a b : Int) (w : World) (h1 : -9223372036854775808 ≤ a) (h2 : a ≤ 9223372036854775807) (h3 : -9223372036854775808 ≤ b) (h4 : b ≤ 9223372036854775807) :
    Calls Tryd.prog 137 #[.int .i64 a, .int .i64 b] w fun e w' => e = .returned (wv (a * b)) ∧ Below w.heap.size w w' := by
  have r := wide_mul ((fitB_iff a).2 ⟨h1, h2⟩) ((fitB_iff b).2 ⟨h3, h4⟩)
  have rs := sz_small r
  have rn := szI_nonneg (a * b)
  have M : ∀ w, Calls Tryd.prog 154 #[.int .u64 (szI a), .int .u64 (szI b)] w fun e w' => e = .returned (.tuple #[.int .u64 (hiW (szI (a * b))), .int .u64 (loW (szI (a * b)))]) ∧ w = w' := by
    intro w
    have h := mul64_any (szI a) (szI b) w (szI_nonneg a) (sz_lt h1 h2) (szI_nonneg b) (sz_lt h3 h4)
    rw [sz_mul, ← hi_nat _ rn (by omega)] at h
    exact h
  have M' := mkHid M; clear M
  clear r rs rn
  by_cases hs : (!(decide (a < 0) == decide (b < 0))) = true
  · have e0 := mul_signs (a := a) (b := b) (by simpa [bne] using hs)
    rw [e0]; have E0 := mkHid e0; clear e0
    go_enter Tryd.func137, Tryd.ntmps137
    go_wp2_with fail
    refine (size_any a _ h1 h2).mono ?_
    rintro e w1 ⟨rfl, rfl⟩
    go_wp2_with fail
    refine (size_any b _ h3 h4).mono ?_
    rintro e w1 ⟨rfl, rfl⟩
    go_wp2_with fail
    refine (M'.out _).mono ?_
    rintro e w1 ⟨rfl, rfl⟩
    go_wp2_with fail
    refine (minus_zero (szI (a * b)) _).mono ?_
    rintro e w1 ⟨rfl, hb1⟩
    obtain ⟨c0, c1, f0, f1⟩ : Two w1 w.heap.size (.int .u64 0) (.int .u64 0) := Two.later hb1 (by simp [Two, go_sem])
    unfold wv
    go_wp2_with fail
    refine bodyPost_ret (v := wv (-szI (a * b))) (by simp [results, Tryd.results137, go_sem, wv, c0, c1]) rfl ⟨rfl, ?_⟩
    exact bset (bset (bon (bal (bal (Below.refl _ _) _) _) hb1) (by simp) _) (by simp) _
  · have hs' : (!(decide (a < 0) == decide (b < 0))) = false := by simpa using hs
    have e0 := mul_signs' (a := a) (b := b) (by simpa [bne] using hs)
    rw [e0]; have E0 := mkHid e0; clear e0 hs
    go_enter Tryd.func137, Tryd.ntmps137
    go_wp2_with fail
    refine (size_any a _ h1 h2).mono ?_
    rintro e w1 ⟨rfl, rfl⟩
    go_wp2_with fail
    refine (size_any b _ h3 h4).mono ?_
    rintro e w1 ⟨rfl, rfl⟩
    go_wp2_with fail
    refine (M'.out _).mono ?_
    rintro e w1 ⟨rfl, rfl⟩
    go_wp2_with fail
    refine bodyPost_ret (v := wv (szI (a * b))) (by simp [results, Tryd.results137, go_sem, wv]) rfl ⟨rfl, ?_⟩
    exact bal (bal (Below.refl _ _) _) _

set_option maxHeartbeats 400000 in
theorem div64_low (lo y : Int) (w : World) (h1 : 0 ≤ lo) (h2 : lo < 18446744073709551616) (h3 : 0 < y) (h4 : y < 18446744073709551616) :
    Calls Tryd.prog 162 #[.int .u64 0, .int .u64 lo, .int .u64 y] w fun e w' => e = .returned (.tuple #[.int .u64 (lo / y), .int .u64 (lo % y)]) ∧ ∃ n, w' = w.drewN n := by
  go_enter Tryd.func162, Tryd.ntmps162
  go_wp2
  go_quiet (fail)
  go_wp2
  go_ret2
  exact ⟨rfl, _, rfl⟩
end Go.Proofs.YtlobffjgkhcjbaaDoor.Nu
