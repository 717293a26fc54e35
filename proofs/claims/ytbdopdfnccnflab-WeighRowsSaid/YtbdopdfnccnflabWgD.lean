/-
  What 'each' makes of a row; what 'Rescale' does.
-/
import Derived.Test.YtbdopdfnccnflabWgC
namespace Go.Proofs.Ytbdopdfnccnflab
open Go.RowKit

@[go_sem] theorem run_store_floatW (P : Program) (w : World) (a : Addr) (m : Mode) (k : FloatKind) (n : Nat) : (store a (.float k n) m).run P w = stored P w a (.float k n) m := run_store P w a _ m rfl

theorem set_map_step (f g : Nat → Nat) (n k : Nat) (h : k < n) :
    ((List.range n).map (fun j => Value.float .f64 (if j < k then g (f j) else 0))).set k (.float .f64 (g (f k))) = (List.range n).map (fun j => Value.float .f64 (if j < k + 1 then g (f j) else 0)) := by
  apply List.ext_getElem?
  intro j
  rw [List.getElem?_set]
  by_cases e : k = j
  · subst e; simp [h]
  · rw [if_neg e]
    by_cases hj : j < n
    · simp only [List.getElem?_map, List.getElem?_range hj, Option.map_some]
      by_cases g1 : j < k
      · rw [if_pos g1, if_pos (by omega)]
      · rw [if_neg g1, if_neg (by omega)]
    · simp [hj]

theorem made_row (f g : Nat → Nat) (n : Nat) : (madeCells (Value.float .f64 0).cells (n * 1)).toList = (List.range n).map (fun j => Value.float .f64 (if j < 0 then g (f j) else 0)) := by
  show (madeCells #[Value.float .f64 0] (n * 1)).toList = _
  rw [toList_madeCells_one, Nat.mul_one]
  apply List.ext_getElem?
  intro j
  by_cases hj : j < n <;> simp [hj]
theorem row_done (ds : List Nat) (g : Nat → Nat) : (List.range ds.length).map (fun j => Value.float .f64 (if j < ds.length then g (ds.getD j 0) else 0)) = (ds.map g).map (Value.float .f64) := by
  apply List.ext_getElem?
  intro j
  by_cases hj : j < ds.length <;> simp [hj]

set_option maxHeartbeats 2000000 in
set_option maxRecDepth 100000 in
theorem each_any (F : Nat) (g : Nat → Nat) (A : Option Addr) (c : Nat) (ds : List Nat) (w : World) (hx : FLies w A ds) (hn : ds.length ≤ 1000000) (hF1 : F = 23 ∨ F = 32)
    (hF : Hid (∀ j, j < ds.length → ∀ w, Calls Try.prog F #[.float .f64 (ds.getD j 0)] w fun e w' => e = .returned (.float .f64 (g (ds.getD j 0))) ∧ w = w')) :
    Calls Try.prog 30 #[.slice A ds.length c, .func (.func F) #[] #[]] w fun e w' => (∃ v, e = .returned v ∧ FRow w' v (ds.map g)) ∧ Below w.heap.size w w' := by
  obtain ⟨i0, hi0, hz0, hz1, hz2⟩ := info_partsW float_info
  have rd : Hid (∀ k : Nat, k < ds.length → ∃ b, A = some ⟨b, 0, none⟩ ∧ ∀ w', Below w.heap.size w w' → w'.cell? ⟨b, k, none⟩ = some (.float .f64 (ds.getD k 0))) := by
    intro k hk
    rcases hx with rfl | ⟨b, rfl, hc⟩
    · simp at hk
    · exact ⟨b, rfl, fun w' hb => cell_keep hb (hc k hk)⟩
  clear hx
  obtain ⟨xs, xl, x0, xst, xd⟩ : ∃ xs : Nat → List Value, Hid (∀ k, (xs k).length = ds.length) ∧ Hid ((madeCells (Value.float .f64 0).cells (ds.length * 1)).toList = xs 0) ∧ Hid (∀ k, k < ds.length → (xs k).set k (.float .f64 (g (ds.getD k 0))) = xs (k + 1)) ∧ Hid (xs ds.length = (ds.map g).map (Value.float .f64)) :=
    ⟨fun k => (List.range ds.length).map (fun j => Value.float .f64 (if j < k then g (ds.getD j 0) else 0)), fun k => by simp, made_row _ _ _, fun k h => set_map_step _ g _ k h, row_done ds g⟩
  generalize hf : (fun j => ds.getD j 0) = f
  have ef : ∀ j, ds.getD j 0 = f j := fun j => by rw [← hf]
  simp only [ef] at *
  clear ef hf
  generalize ds.map g = out at *
  generalize ds.length = n at *
  clear ds
  rcases hF1 with rfl | rfl
  all_goals
    go_enter Try.func30, Try.ntmps30
    go_wp2_with (at_make; refine wpList_make_full _ rfl _ _ 24 rfl w.heap.size 30 i0 _ 1 Try.underlying24 hi0 hz0 hz1 _ _ _ _ n rfl rfl rfl rfl (by rw [hz2]; omega) (by simp only [maxLen]; omega) (Nat.le_refl _) ?_; intro w1 hown0 hg0)
    rw [x0.out] at hown0
    have hb0 := Below.grown (Below.refl w.heap.size w) hg0 (Nat.le_refl _) (fun k hk => by cases hk)
    clear x0 hg0
    go_loopw [13] (fun i w' => ∃ (k : Nat) (x : Int), k ≤ n ∧ i = .int .i64 x ∧ x = k ∧ w'.ownsRow w.heap.size 30 1 (.slice (some ⟨w.heap.size, 0, none⟩) n n) n (xs k) ∧ Below w.heap.size w w') (fun i _ => (n - intOf i).toNat)
    case atStart => exact ⟨0, 0, by omega, rfl, rfl, hown0, hb0⟩
    case round =>
      obtain ⟨k, x, hk, rfl, hxk, hown, hb⟩ := hrel
      obtain rfl : x = (k : Int) := hxk
      clear hown0 hb0
      by_cases hlt : k < n
      · obtain ⟨b, rfl, hrd⟩ := rd.out k hlt
        have hc := hrd _ hb
        have HF := mkHidW (hF.out k hlt)
        have cAt : (wr.cell? ⟨w.heap.size, k, none⟩).isSome = true := by
          rw [hown.cellAt k (by omega)]; simp [xl.out k, hlt]
        obtain ⟨old, cOld⟩ := Option.isSome_iff_exists.1 cAt
        have fAt := hown.frozenAt k
        have hst := hown.stored k (.float .f64 (g (f k)))
        rw [xst.out k hlt] at hst
        have HST := mkHidW hst
        clear rd hrd hF cAt xst hst xl xd
        go_wp2_with fail
        refine (HF.out _).mono ?_; rintro e w2 ⟨rfl, rfl⟩
        go_wp2
        go_roundw
        case rel => exact ⟨k + 1, _, by omega, rfl, by omega, HST.out.1, Below.grown hb HST.out.2 (by have := hb.size; omega) (fun j hj => by cases hj; exact Nat.le_refl _)⟩
        case measure => simp [intOf]; omega
      · obtain rfl : k = n := by omega
        rw [xd.out] at hown
        go_wp2
        go_ret
        exact ⟨⟨_, rfl, FRow.of_own hown⟩, hb⟩
end Go.Proofs.Ytbdopdfnccnflab
