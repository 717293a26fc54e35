/-
  What WeighHeavy does: it returns true, whatever the row is.
-/
import Derived.Test.YtbdopdfnccnflabWgJ
namespace Go.Proofs.Ytbdopdfnccnflab
open Go.RowKit

set_option maxHeartbeats 4000000 in
set_option maxRecDepth 100000 in
theorem weigh_heavy_any (A : Option Addr) (c : Nat) (xs : List Nat) (w : World) (hx : ILies w A xs) (hw : Words xs) (hn : xs.length ≤ maxLen) :
    Calls Try.prog 6 #[.slice A xs.length c] w fun e w' => e = .returned (.bool true) ∧ Below w.heap.size w w' := by
  have Fl := mkHidW (fun w h => floats_any A c xs w h hn)
  have hw' := words_take hw 100
  have hl := len_take xs
  generalize xs.take 100 = ds at *
  have Hv := mkHidW (fun A c w h => heavy_any A c ds w h (by omega) hw')
  by_cases h0 : 0 < ds.length
  · have Rs := mkHidW (fun A c w h => rescale_any A c ds w h (by omega))
    have hlr := len_resc ds
    have hwr := words_resc hw'
    have Hr := mkHidW (fun A c w h => heavy_any A c (rescW ds) w h (by omega) hwr)
    obtain ⟨m, e1, hm, a1, a2⟩ := heavy_some h0
    obtain ⟨q, e2, hq, b1, -⟩ := heavy_some (ds := rescW ds) (by omega)
    have L1 : Hid (∀ i, i < ds.length → ∀ w, Calls Try.prog 20 #[.float .f64 (ds.getD m 0), .float .f64 (ds.getD i 0)] w fun e w' => e = .returned (.bool false) ∧ w = w') := fun i hi => less_at (hw'.get m) (hw'.get i) (a1 i hi)
    have L2 : Hid (∀ i, i < m → ∀ w, Calls Try.prog 20 #[.float .f64 (ds.getD i 0), .float .f64 (ds.getD m 0)] w fun e w' => e = .returned (.bool true) ∧ w = w') := fun i hi => less_at (hw'.get i) (hw'.get m) (a2 i hi)
    have L3 := mkHidW (less_at (hwr.get q) (hwr.get m) (b1 m (by omega)))
    rw [e1] at Hv
    rw [e2] at Hr
    clear a1 a2 b1 hwr hw' hw e1 e2 hn
    have rc : Hid (∀ w v, FRow w v ds → ∃ g c, v = .slice (some ⟨g, 0, none⟩) ds.length c ∧ ds.length ≤ c ∧ FLies w (some ⟨g, 0, none⟩) ds ∧ (∀ j, j < ds.length → w.cell? ⟨g, j, none⟩ = some (.float .f64 (ds.getD j 0)))) := fun w v h => frow_cells h h0
    have rr : Hid (∀ w v, FRow w v (rescW ds) → ∃ g c, v = .slice (some ⟨g, 0, none⟩) ds.length c ∧ ds.length ≤ c ∧ FLies w (some ⟨g, 0, none⟩) (rescW ds) ∧ (∀ j, j < ds.length → w.cell? ⟨g, j, none⟩ = some (.float .f64 ((rescW ds).getD j 0)))) := by
      intro w v h
      have := frow_cells h (by omega)
      rw [hlr] at this; exact this
    rw [hlr] at Hr hq
    clear hlr
    generalize rescW ds = rs at *
    generalize farAny (ds.map tameW) = far at *
    generalize hf : (fun j => ds.getD j 0) = f at *
    have ef : ∀ j, ds.getD j 0 = f j := fun j => by rw [← hf]
    generalize hh : (fun j => rs.getD j 0) = h at *
    have eh : ∀ j, rs.getD j 0 = h j := fun j => by rw [← hh]
    simp only [ef, eh] at *
    clear ef hf eh hh
    generalize hln : ds.length = n at *
    clear hln
    go_enter Try.func6, Try.ntmps6
    go_wp2_with fail
    refine (shown_any _).mono ?_; rintro e w1 ⟨rfl, hb1⟩
    go_wp2_with fail
    refine (Fl.out _ (hx.later hb1)).mono ?_; rintro e w2 ⟨⟨v, rfl, hr2⟩, hb2⟩
    obtain ⟨g, c2, rfl, hc2, hf2, hcell⟩ := rc.out _ _ hr2
    have hB2 := bonW hb1 hb2
    have HC := mkHidW hcell
    clear hcell Fl rc hx hr2 hb1 hb2
    go_wp2_with fail
    refine (Hv.out _ _ _ hf2).mono ?_; rintro e w3 ⟨rfl, rfl⟩
    clear Hv
    go_wp2_with fail
    go_loopw [6] (fun i w' => ∃ (k : Nat) (x : Int), k ≤ n ∧ i = .int .i64 x ∧ x = k ∧ Below w2.heap.size w2 w') (fun i _ => (n - intOf i).toNat)
    case atStart => exact ⟨0, 0, by omega, rfl, rfl, Below.refl _ _⟩
    case round =>
      obtain ⟨k, x, hk, rfl, hxk, hb⟩ := hrel
      obtain rfl : x = (k : Int) := hxk
      by_cases hlt : k < n
      · have c1 := cell_keep hb (HC.out k hlt)
        have cm := cell_keep hb (HC.out m hm)
        have M1 := mkHidW (L1.out k hlt)
        clear L1 L3 Rs Hr rr HC hf2
        by_cases hkm : k < m
        · have M2 := mkHidW (L2.out k hkm)
          clear L2
          go_wp2_with fail
          go_quiet ((go_at_call 20; first | with_reducible exact quietW (M1.out _) | with_reducible exact quietW (M2.out _)))
          go_wp2
          go_roundw
          case rel => exact ⟨k + 1, _, by omega, rfl, by omega, below_drew hb _⟩
          case measure => simp [intOf]; omega
        · clear L2
          go_wp2_with fail
          go_quiet ((go_at_call 20; with_reducible exact quietW (M1.out _)))
          go_wp2
          go_roundw
          case rel => exact ⟨k + 1, _, by omega, rfl, by omega, below_drew hb _⟩
          case measure => simp [intOf]; omega
      · have hf3 := hf2.later hb
        clear L1 L2 HC hf2
        go_wp2_with fail
        refine (Rs.out _ _ _ hf3).mono ?_; rintro e w4 ⟨⟨v, rfl, hr4⟩, hb4⟩
        obtain ⟨g4, c4, rfl, hc4, hf4, hcell4⟩ := rr.out _ _ hr4
        have cq := hcell4 q hq
        have cm := hcell4 m hm
        clear Rs rr hcell4 hf3 hr4
        go_wp2_with fail
        refine (Hr.out _ _ _ hf4).mono ?_; rintro e w5 ⟨rfl, rfl⟩
        clear Hr hf4
        go_wp2_with fail
        go_quiet ((go_at_call 20; with_reducible exact quietW (L3.out _)))
        go_wp2
        go_ret
        exact ⟨rfl, below_drew (bonW hB2 (bonW hb hb4)) _⟩
  · obtain rfl : ds = [] := List.eq_nil_of_length_eq_zero (by omega)
    have rn : Hid (∀ w v, FRow w v [] → ∃ A c, v = .slice A 0 c ∧ FLies w A []) := fun w v h => frow_nil h
    have e1 : heavyW [] = -1 := rfl
    rw [e1] at Hv
    have Hv' : Hid (∀ A c w, FLies w A [] → Calls Try.prog 15 #[.slice A 0 c] w fun e w' => e = .returned (.int .i64 (-1)) ∧ w = w') := Hv.out
    clear Hv e1 h0 hl hw'
    go_enter Try.func6, Try.ntmps6
    go_wp2_with fail
    refine (shown_any _).mono ?_; rintro e w1 ⟨rfl, hb1⟩
    go_wp2_with fail
    refine (Fl.out _ (hx.later hb1)).mono ?_; rintro e w2 ⟨⟨v, rfl, hr2⟩, hb2⟩
    obtain ⟨B, d, rfl, hf2⟩ := rn.out _ _ hr2
    go_wp2_with fail
    refine (Hv'.out _ _ _ hf2).mono ?_; rintro e w3 ⟨rfl, rfl⟩
    go_wp2
    go_ret
    exact ⟨rfl, bonW hb1 hb2⟩
end Go.Proofs.Ytbdopdfnccnflab
