/-
  Sorting, and leaving out doubles, of none or one.
-/
import Derived.Test.YtaibmdikimpooaaDoorTmJ
namespace Go.Proofs.YtaibmdikimpooaaDoor
open Go.RowKit

set_option maxHeartbeats 2000000 in
set_option maxRecDepth 100000 in
theorem len64_tiny (n : Nat) (h : n ≤ 1) (w : World) : Calls Tryd.prog 74 #[.int .u64 n] w fun e w' => (∃ l : Int, e = .returned (.int .i64 l)) ∧ w = w' := by
  rcases (show n = 0 ∨ n = 1 by omega) with rfl | rfl
  · show Calls Tryd.prog 74 #[.int .u64 0] w _
    go_enter Tryd.func74, Tryd.ntmps74
    go_wp2
    go_ret
    exact ⟨⟨_, rfl⟩, rfl⟩
  · show Calls Tryd.prog 74 #[.int .u64 1] w _
    go_enter Tryd.func74, Tryd.ntmps74
    go_wp2
    go_ret
    exact ⟨⟨_, rfl⟩, rfl⟩
set_option maxRecDepth 100000 in
set_option maxHeartbeats 2000000 in
theorem len_tiny (n : Nat) (h : n ≤ 1) (w : World) : Calls Tryd.prog 57 #[.int .u64 n] w fun e w' => (∃ l : Int, e = .returned (.int .i64 l)) ∧ w = w' := by
  have L := mkHid (len64_tiny n h)
  go_enter Tryd.func57, Tryd.ntmps57
  go_wp2_with (go_at_call 74; refine (L.out _).mono ?_; rintro e w1 ⟨⟨l, rfl⟩, rfl⟩)
  go_ret
  exact ⟨⟨_, rfl⟩, rfl⟩
set_option maxRecDepth 100000 in
set_option maxHeartbeats 2000000 in
theorem insertion_tiny (A : Option Addr) (n c : Nat) (g : Value) (h : n ≤ 1) (w : World) :
    Calls Tryd.prog 65 #[.slice A n c, .int .i64 0, .int .i64 n, g] w fun e w' => e = .returned (.tuple #[]) ∧ w = w' := by
  have hn : ¬ (1 : Int) < (n : Int) := by omega
  go_enter Tryd.func65, Tryd.ntmps65
  go_wp2
  go_loop [8, 9] (fun i _ => i = .int .i64 1) (fun _ _ => 0)
  case atStart => rfl
  case round =>
    subst hrel
    go_wp2
    go_end0
    exact ⟨rfl, rfl⟩
set_option maxHeartbeats 2000000 in
set_option maxRecDepth 100000 in
theorem pdq_tiny (A : Option Addr) (n c : Nat) (l : Int) (g : Value) (h : n ≤ 1) (w : World) :
    Calls Tryd.prog 56 #[.slice A n c, .int .i64 0, .int .i64 n, .int .i64 l, g] w fun e w' => e = .returned (.tuple #[]) ∧ w = w' := by
  have hn : (n : Int) ≤ 12 := by omega
  have I := mkHid (insertion_tiny A n c g h)
  go_enter Tryd.func56, Tryd.ntmps56
  go_wp2
  go_loop [1, 2] (fun a b => a = .int .i64 0 ∧ b = .int .i64 n) (fun _ _ => 0)
  case atStart => exact ⟨rfl, rfl⟩
  case round =>
    obtain ⟨rfl, rfl⟩ := hrel
    go_wp2_with (go_at_call 65; refine (I.out _).mono ?_; rintro e w1 ⟨rfl, rfl⟩)
    exact bodyPost_ret (v := .tuple #[]) (by simp [results, Tryd.results56]) rfl ⟨rfl, rfl⟩
set_option maxRecDepth 100000 in
set_option maxHeartbeats 2000000 in
theorem sort_tiny (A : Option Addr) (n c : Nat) (g : Value) (h : n ≤ 1) (w : World) :
    Calls Tryd.prog 36 #[.slice A n c, g] w fun e w' => e = .returned (.tuple #[]) ∧ w = w' := by
  have L := mkHid (len_tiny n h)
  have P := mkHid (fun l => pdq_tiny A n c l g h)
  have wr : IntKind.u64.wrap (n : Int) = n := by simp [IntKind.wrap, IntKind.bits, IntKind.signed]; omega
  go_enter Tryd.func36, Tryd.ntmps36
  go_wp2_with (first
    | (go_at_call 57; refine (L.out _).mono ?_; rintro e w1 ⟨⟨l, rfl⟩, rfl⟩)
    | (go_at_call 56; refine (P.out _ _).mono ?_; rintro e w1 ⟨rfl, rfl⟩))
  go_end0
  exact ⟨rfl, rfl⟩
set_option maxRecDepth 100000 in
set_option maxHeartbeats 2000000 in
theorem compact_tiny (A : Option Addr) (n c : Nat) (g : Value) (h : n ≤ 1) (w : World) :
    Calls Tryd.prog 38 #[.slice A n c, g] w fun e w' => e = .returned (.slice A n c) ∧ w = w' := by
  have hn : (n : Int) < 2 := by omega
  go_enter Tryd.func38, Tryd.ntmps38
  go_wp2
  go_ret
  exact ⟨rfl, rfl⟩
end Go.Proofs.YtaibmdikimpooaaDoor
