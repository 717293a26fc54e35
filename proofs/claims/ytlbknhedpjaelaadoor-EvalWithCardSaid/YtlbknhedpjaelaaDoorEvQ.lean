/-
  What the document's 'Same' answers of two values that are the same: true.
-/
import Derived.Test.YtlbknhedpjaelaaDoorEvC
import Derived.BigRegion
import Derived.Deep.RegionHeld2
namespace Go.Proofs.YtlbknhedpjaelaaDoor
open Go.RowKit

set_option maxRecDepth 100000 in
set_option maxHeartbeats 2000000 in
theorem same_true (so nn : Int) (bb : Bool) (a1 a2 : Option Addr) (c1 c2 : Nat) (l : List Bool) (w : World) (h1 : BIn w w.heap.size a1 l) (h2 : BIn w w.heap.size a2 l) (hl : l.length ≤ 9223372036854775807) :
    Calls Tryd.prog 30 #[.agg #[.int .i64 so, .int .i64 nn, .bool bb, .slice a1 l.length c1], .agg #[.int .i64 so, .int .i64 nn, .bool bb, .slice a2 l.length c2]] w (RetB true w) := by
  have H1 := mkHid h1
  have H2 := mkHid h2
  clear h1 h2
  generalize hn' : l.length = n at *
  have HN := mkHid hn'
  clear hn'
  have hb2 : Below w.heap.size w ((w.alloc (.cells #[.int .i64 so, .int .i64 nn, .bool bb, .slice a1 n c1] 41)).alloc (.cells #[.int .i64 so, .int .i64 nn, .bool bb, .slice a2 n c2] 41)) := bal (bal (Below.refl _ _) _) _
  have F1 : FourV ((w.alloc (.cells #[.int .i64 so, .int .i64 nn, .bool bb, .slice a1 n c1] 41)).alloc (.cells #[.int .i64 so, .int .i64 nn, .bool bb, .slice a2 n c2] 41)) w.heap.size (.int .i64 so) (.int .i64 nn) (.bool bb) (.slice a1 n c1) := by simp [FourV, go_sem]
  have F2 : FourV ((w.alloc (.cells #[.int .i64 so, .int .i64 nn, .bool bb, .slice a1 n c1] 41)).alloc (.cells #[.int .i64 so, .int .i64 nn, .bool bb, .slice a2 n c2] 41)) (w.heap.size + 1) (.int .i64 so) (.int .i64 nn) (.bool bb) (.slice a2 n c2) := by simp [FourV, go_sem]
  generalize hW2 : (w.alloc (.cells #[.int .i64 so, .int .i64 nn, .bool bb, .slice a1 n c1] 41)).alloc (.cells #[.int .i64 so, .int .i64 nn, .bool bb, .slice a2 n c2] 41) = W2 at *
  obtain ⟨x0, x1, x2, x3, -⟩ := id F1
  obtain ⟨y0, y1, y2, y3, -⟩ := id F2
  have e1 : (so != so) = false := by simp
  have e2 : (nn != nn) = false := by simp
  have e3 : (bb != bb) = false := by simp
  go_enter Tryd.func30, Tryd.ntmps30
  go_wp2
  clear x0 x1 x2 x3 y0 y1 y2 y3 hW2
  go_loopw [5] (fun i w' => ∃ (k : Nat) (x : Int), i = .int .i64 x ∧ x = k ∧ k ≤ n ∧ Below W2.heap.size W2 w') (fun i _ => (n - intOf i).toNat)
  case atStart => exact ⟨0, 0, rfl, rfl, Nat.zero_le _, Below.refl _ _⟩
  case round =>
    obtain ⟨k, x, rfl, hxk, hk, hb⟩ := hrel
    obtain rfl : x = (k : Int) := hxk
    have x3 := (F1.later hb).2.2.2.1
    have y3 := (F2.later hb).2.2.2.1
    have BB := bon hb2 hb
    by_cases hlt : k < n
    · have hk' : k < l.length := by rw [HN.out]; exact hlt
      obtain ⟨b1, o1, ea, hB1, q1⟩ := (H1.out.keep BB) k hk'
      obtain ⟨b2, o2, eb, hB2, q2⟩ := (H2.out.keep BB) k hk'
      subst ea eb
      generalize l[k] = lk at *
      have e4 : (lk != lk) = false := by simp
      clear hk'
      go_wp2_with fail
      (try dsimp only [List.append])
      refine wp_region_held_drew (S := fun w' => w'.cell? ⟨w.heap.size, 3, none⟩ = some (.slice (some ⟨b1, o1, none⟩) n c1) ∧ w'.cell? ⟨w.heap.size + 1, 3, none⟩ = some (.slice (some ⟨b2, o2, none⟩) n c2) ∧ w'.cell? ⟨b1, o1 + k, none⟩ = some (.bool lk) ∧ w'.cell? ⟨b2, o2 + k, none⟩ = some (.bool lk)) (by kernel_rfl) ⟨x3, y3, q1, q2⟩ (fun hHeld => ?_)
      refine wpAnyH_take (i := 0) (v := ?_) rfl (by kernel_rfl) (by kernel_rfl) (by kernel_rfl) (fun _ _ _ h => h) (Or.inl ⟨by kernel_rfl, ?_⟩) (by assumption) ?_
      rotate_left
      · (intro w hSw; (try dsimp only at hSw); go_simp; try with_reducible rfl)
      simp only [Act.put, List.getElem_toArray, List.getElem_cons_zero, List.setIfInBounds_toArray, List.set_cons_zero, List.set_cons_succ]
      refine wpAnyH_take (i := 1) (v := ?_) rfl (by kernel_rfl) (by kernel_rfl) (by kernel_rfl) (fun _ _ _ h => h) (Or.inl ⟨by kernel_rfl, ?_⟩) (by assumption) ?_
      rotate_left
      · (intro w hSw; (try dsimp only at hSw); go_simp; try with_reducible rfl)
      simp only [Act.put, List.getElem_toArray, List.getElem_cons_succ, List.getElem_cons_zero, List.setIfInBounds_toArray, List.set_cons_zero, List.set_cons_succ]
      refine wpAnyH_take (i := 2) (v := ?_) rfl (by kernel_rfl) (by kernel_rfl) (by kernel_rfl) (fun _ _ _ h => h) (Or.inl ⟨by kernel_rfl, ?_⟩) (by assumption) ?_
      rotate_left
      · (intro w hSw; (try dsimp only at hSw); go_simp; try with_reducible rfl)
      simp only [Act.put, List.getElem_toArray, List.getElem_cons_succ, List.getElem_cons_zero, List.setIfInBounds_toArray, List.set_cons_zero, List.set_cons_succ]
      refine wpAnyH_take (i := 3) (v := ?_) rfl (by kernel_rfl) (by kernel_rfl) (by kernel_rfl) (fun _ _ _ h => h) (Or.inl ⟨by kernel_rfl, ?_⟩) (by assumption) ?_
      rotate_left
      · (intro w hSw; (try dsimp only at hSw); go_simp; try with_reducible rfl)
      simp only [Act.put, List.getElem_toArray, List.getElem_cons_succ, List.getElem_cons_zero, List.setIfInBounds_toArray, List.set_cons_zero, List.set_cons_succ]
      refine wpAnyH_take (i := 4) (v := ?_) rfl (by kernel_rfl) (by kernel_rfl) (by kernel_rfl) (fun _ _ _ h => h) (Or.inl ⟨by kernel_rfl, ?_⟩) (by assumption) ?_
      rotate_left
      · (intro w hSw; (try dsimp only at hSw); go_simp; try with_reducible rfl)
      simp only [Act.put, List.getElem_toArray, List.getElem_cons_succ, List.getElem_cons_zero, List.setIfInBounds_toArray, List.set_cons_zero, List.set_cons_succ]
      refine wpAnyH_take (i := 5) (v := ?_) rfl (by kernel_rfl) (by kernel_rfl) (by kernel_rfl) (fun _ _ _ h => h) (Or.inl ⟨by kernel_rfl, ?_⟩) (by assumption) ?_
      rotate_left
      · (intro w hSw; (try dsimp only at hSw); go_simp; try with_reducible rfl)
      simp only [Act.put, List.getElem_toArray, List.getElem_cons_succ, List.getElem_cons_zero, List.setIfInBounds_toArray, List.set_cons_zero, List.set_cons_succ]
      refine wpAnyH_take (i := 6) (v := ?_) rfl (by kernel_rfl) (by kernel_rfl) (by kernel_rfl) (fun _ _ _ h => h) (Or.inl ⟨by kernel_rfl, ?_⟩) (by assumption) ?_
      rotate_left
      · (intro w hSw; (try dsimp only at hSw); go_simp; try with_reducible rfl)
      simp only [Act.put, List.getElem_toArray, List.getElem_cons_succ, List.getElem_cons_zero, List.setIfInBounds_toArray, List.set_cons_zero, List.set_cons_succ]
      refine wpAnyH_take (i := 7) (v := ?_) rfl (by kernel_rfl) (by kernel_rfl) (by kernel_rfl) (fun _ _ _ h => h) (Or.inl ⟨by kernel_rfl, ?_⟩) (by assumption) ?_
      rotate_left
      · (intro w hSw; (try dsimp only at hSw); go_simp; try with_reducible rfl)
      simp only [Act.put, List.getElem_toArray, List.getElem_cons_succ, List.getElem_cons_zero, List.setIfInBounds_toArray, List.set_cons_zero, List.set_cons_succ]
      refine wpAnyH_take (i := 8) (v := ?_) rfl (by kernel_rfl) (by kernel_rfl) (by kernel_rfl) (fun _ _ _ h => h) (Or.inl ⟨by kernel_rfl, ?_⟩) (by assumption) ?_
      rotate_left
      · (intro w hSw; (try dsimp only at hSw); go_simp; try with_reducible rfl)
      simp only [Act.put, List.getElem_toArray, List.getElem_cons_succ, List.getElem_cons_zero, List.setIfInBounds_toArray, List.set_cons_zero, List.set_cons_succ]
      refine wpAnyH_take (i := 9) (v := ?_) rfl (by kernel_rfl) (by kernel_rfl) (by kernel_rfl) (fun _ _ _ h => h) (Or.inl ⟨by kernel_rfl, ?_⟩) (by assumption) ?_
      rotate_left
      · (intro w hSw; (try dsimp only at hSw); go_simp; try with_reducible rfl)
      simp only [Act.put, List.getElem_toArray, List.getElem_cons_succ, List.getElem_cons_zero, List.setIfInBounds_toArray, List.set_cons_zero, List.set_cons_succ]
      refine wpAnyH_take (i := 10) (v := ?_) rfl (by kernel_rfl) (by kernel_rfl) (by kernel_rfl) (fun _ _ _ h => h) (Or.inl ⟨by kernel_rfl, ?_⟩) (by assumption) ?_
      rotate_left
      · (intro w hSw; (try dsimp only at hSw); go_simp; try with_reducible rfl)
      simp only [Act.put, List.getElem_toArray, List.getElem_cons_succ, List.getElem_cons_zero, List.setIfInBounds_toArray, List.set_cons_zero, List.set_cons_succ]
      refine wpAnyH_done (by kernel_rfl) ?_ _
      go_wp2
      go_roundw
      case rel => exact ⟨k + 1, _, rfl, by omega, by omega, bdrew hb⟩
      case measure => simp [intOf]; omega
    · go_wp2
      go_ret
      exact ⟨rfl, BB⟩
end Go.Proofs.YtlbknhedpjaelaaDoor
