/-
  What WeighKeeps does: it returns true, whatever the row is.
-/
import Derived.Test.YtbdopdfnccnflabWgK
namespace Go.Proofs.Ytbdopdfnccnflab
open Go.RowKit

set_option maxHeartbeats 8000000 in
set_option maxRecDepth 100000 in
theorem weigh_keeps_any (A : Option Addr) (c : Nat) (xs : List Nat) (w : World) (hx : ILies w A xs) (hw : Words xs) (hn : xs.length ≤ maxLen) :
    Calls Try.prog 8 #[.slice A xs.length c] w fun e w' => e = .returned (.bool true) ∧ Below w.heap.size w w' := by
  have Fl := mkHidW (fun w h => floats_some A c xs w h hn)
  have hw' := words_take hw 100
  have hl := len_take xs
  generalize xs.take 100 = ds at *
  have Rs := mkHidW (fun A c w h => rescale_any A c ds w h (by omega))
  have fs1 : Hid (∀ w v, FSome w v ds → ∃ (g c : Nat), v = .slice (some ⟨g, 0, none⟩) ds.length c ∧ ds.length ≤ c ∧ FLies w (some ⟨g, 0, none⟩) ds ∧ ∀ j : Nat, j < ds.length → w.cell? ⟨g, j, none⟩ = some (.float .f64 (ds.getD j 0))) := by
    rintro w v ⟨g, c, rfl, hc, h⟩; exact ⟨g, c, rfl, hc, Or.inr ⟨g, rfl, h⟩, h⟩
  by_cases h0 : 0 < ds.length
  · have hlr := len_resc ds
    have hwr := words_resc hw'
    have T := mkHidW (fun j w => tame_any (ds.getD j 0) w)
    have Ab := mkHidW (fun j w => abs_any (tameW (ds.getD j 0)) w (tame_lt _ (hw'.get j)))
    have af := mkHidW (fun j => abs_far (tameW (ds.getD j 0)) (tame_rung _))
    have LT : Hid (∀ i k b, lessW (tameW (ds.getD i 0)) (tameW (ds.getD k 0)) = b → ∀ w, Calls Try.prog 20 #[.float .f64 (tameW (ds.getD i 0)), .float .f64 (tameW (ds.getD k 0))] w fun e w' => e = .returned (.bool b) ∧ w = w') := fun i k b h => less_at (tame_lt _ (hw'.get i)) (tame_lt _ (hw'.get k)) h
    have LR : Hid (∀ i k b, lessW ((rescW ds).getD i 0) ((rescW ds).getD k 0) = b → ∀ w, Calls Try.prog 20 #[.float .f64 ((rescW ds).getD i 0), .float .f64 ((rescW ds).getD k 0)] w fun e w' => e = .returned (.bool b) ∧ w = w') := fun i k b h => less_at (hwr.get i) (hwr.get k) h
    have ways : Hid (∀ i k, i < ds.length → k < ds.length →
        (lessW (tameW (ds.getD i 0)) (tameW (ds.getD k 0)) = true ∧ lessW ((rescW ds).getD k 0) ((rescW ds).getD i 0) = false ∧ lessW (tameW (ds.getD k 0)) (tameW (ds.getD i 0)) = false)
        ∨ (lessW (tameW (ds.getD i 0)) (tameW (ds.getD k 0)) = false ∧ lessW (tameW (ds.getD k 0)) (tameW (ds.getD i 0)) = false)
        ∨ (lessW (tameW (ds.getD i 0)) (tameW (ds.getD k 0)) = false ∧ lessW (tameW (ds.getD k 0)) (tameW (ds.getD i 0)) = true ∧ lessW ((rescW ds).getD i 0) ((rescW ds).getD k 0) = false)) := by
      intro i k hi hk
      rcases Nat.lt_trichotomy (plc (tameW (ds.getD i 0))) (plc (tameW (ds.getD k 0))) with h | h | h
      · have := resc_keeps ds i k hi hk h
        exact .inl ⟨decide_eq_true h, decide_eq_false (by omega), decide_eq_false (by omega)⟩
      · exact .inr (.inl ⟨decide_eq_false (by omega), decide_eq_false (by omega)⟩)
      · have := resc_keeps ds k i hk hi h
        exact .inr (.inr ⟨decide_eq_false (by omega), decide_eq_true h, decide_eq_false (by omega)⟩)
    obtain ⟨Inv, start, stp, fin⟩ : ∃ Inv : Nat → Bool → Prop, Inv 0 false ∧ Hid (∀ k b b', k < ds.length → Inv k b → b' = (b || farB (tameW (ds.getD k 0))) → Inv (k + 1) b') ∧ Hid (∀ b, Inv ds.length b → b = farAny (ds.map tameW)) := by
      refine ⟨fun k b => b = farAny ((ds.take k).map tameW), by simp [farAny], ?_, ?_⟩
      · rintro k b b' hk rfl rfl
        show _ = farAny ((ds.take (k + 1)).map tameW)
        rw [take_map_snoc ds k hk, farAny_snoc]
      · rintro b rfl; rw [List.take_length]
    have rr : Hid (∀ w v, FRow w v (rescW ds) → ∃ g c, v = .slice (some ⟨g, 0, none⟩) ds.length c ∧ ds.length ≤ c ∧ (∀ j, j < ds.length → w.cell? ⟨g, j, none⟩ = some (.float .f64 ((rescW ds).getD j 0)))) := by
      intro w v h
      obtain ⟨g, c, e, hc, -, hcell⟩ := frow_cells h (by omega)
      rw [hlr] at e hc hcell; exact ⟨g, c, e, hc, hcell⟩
    clear hlr hwr hw' hw hn
    generalize rescW ds = rs at *
    generalize farAny (ds.map tameW) = far at *
    generalize hh : (fun j => rs.getD j 0) = h at *
    have eh : ∀ j, rs.getD j 0 = h j := fun j => by rw [← hh]
    generalize ht : (fun j => tameW (ds.getD j 0)) = t at *
    have et : ∀ j, tameW (ds.getD j 0) = t j := fun j => by rw [← ht]
    simp only [et, eh] at *
    generalize hf : (fun j => ds.getD j 0) = f at *
    have ef : ∀ j, ds.getD j 0 = f j := fun j => by rw [← hf]
    simp only [ef] at *
    clear ef hf eh hh et ht
    generalize hln : ds.length = n at *
    clear hln
    go_enter Try.func8, Try.ntmps8
    go_wp2_with fail
    refine (shown_any _).mono ?_; rintro e w1 ⟨rfl, hb1⟩
    go_wp2_with fail
    refine (Fl.out _ (hx.later hb1)).mono ?_; rintro e w2 ⟨⟨v, rfl, hr2⟩, hb2⟩
    obtain ⟨g, c2, rfl, hc2, hf2, hcell⟩ := fs1.out _ _ hr2
    have hB2 := bonW hb1 hb2
    clear Fl fs1 hx hr2 hb1 hb2
    go_wp2_with fail
    refine (Rs.out _ _ _ hf2).mono ?_; rintro e w4 ⟨⟨v, rfl, hr4⟩, hb4⟩
    obtain ⟨g4, c4, rfl, hc4, hcell4⟩ := rr.out _ _ hr4
    have HC : Hid (∀ w', Below w4.heap.size w4 w' → ∀ j, j < n → w'.cell? ⟨g, j, none⟩ = some (.float .f64 (f j)) ∧ w'.cell? ⟨g4, j, none⟩ = some (.float .f64 (h j))) := fun w' hb j hj => ⟨cell_keep hb (cell_keep hb4 (hcell j hj)), cell_keep hb (hcell4 j hj)⟩
    have hB4 := bonW hB2 hb4
    clear Rs rr hcell4 hcell hf2 hr4 hB2 hb4
    go_wp2_with fail
    go_loopw [7, 8] (fun s i w' => ∃ (k : Nat) (x : Int) (b : Bool), k ≤ n ∧ i = .int .i64 x ∧ x = k ∧ s = .bool b ∧ Hid (Inv k b) ∧ Below w4.heap.size w4 w') (fun _ i _ => (n - intOf i).toNat)
    case atStart => exact ⟨0, 0, false, by omega, rfl, rfl, rfl, start, Below.refl _ _⟩
    case round =>
      obtain ⟨i, x, b, hi, rfl, hxi, rfl, hI, hb⟩ := hrel
      obtain rfl : x = (i : Int) := hxi
      clear start
      by_cases hlt : i < n
      · obtain ⟨b', hb', hS⟩ : ∃ b', b' = (b || farB (t i)) ∧ Hid (Inv (i + 1) b') := ⟨_, rfl, stp.out i b _ hlt hI.out rfl⟩
        have ci := (HC.out _ hb i hlt).1
        have T1 := mkHidW (T.out i)
        have A1 := mkHidW (Ab.out i)
        have a1 := af.out i
        clear stp fin hI Ab af
        have mid : Hid (∀ w', Below w4.heap.size w4 w' → ∀ k, k < i → (w'.cell? ⟨g, i, none⟩ = some (.float .f64 (f i)) ∧ w'.cell? ⟨g, k, none⟩ = some (.float .f64 (f k)) ∧ w'.cell? ⟨g4, i, none⟩ = some (.float .f64 (h i)) ∧ w'.cell? ⟨g4, k, none⟩ = some (.float .f64 (h k)))) := fun w' hb k hk => ⟨(HC.out w' hb i hlt).1, (HC.out w' hb k (by omega)).1, (HC.out w' hb i hlt).2, (HC.out w' hb k (by omega)).2⟩
        clear HC
        cases b
        · rw [Bool.false_or] at hb'
          rw [← hb'] at a1
          clear hb'
          go_wp2_with fail
          refine (T1.out _).mono ?_; rintro e w5 ⟨rfl, rfl⟩
          go_wp2_with fail
          refine (A1.out _).mono ?_; rintro e w5 ⟨rfl, rfl⟩
          go_wp2_with fail
          clear a1 ci A1
          go_loopw [9] (fun q w' => ∃ (k : Nat) (y : Int), k ≤ i ∧ q = .int .i64 y ∧ y = k ∧ Below w4.heap.size w4 w') (fun q _ => (i - intOf q).toNat)
          case atStart => exact ⟨0, 0, by omega, rfl, rfl, hb⟩
          case round =>
            obtain ⟨k, y, hk, rfl, hyk, hb5⟩ := hrel
            obtain rfl : y = (k : Int) := hyk
            clear hb
            by_cases hlk : k < i
            · obtain ⟨d1, d2, d3, d4⟩ := mid.out _ hb5 k hlk
              have wy := ways.out i k hlt (by omega)
              have L1 := mkHidW (LT.out i k)
              have L2 := mkHidW (LT.out k i)
              have L3 := mkHidW (LR.out i k)
              have L4 := mkHidW (LR.out k i)
              have T2 := mkHidW (T.out k)
              clear mid ways LT LR T
              rcases wy with ⟨e1, e2, e3⟩ | ⟨e1, e2⟩ | ⟨e1, e2, e3⟩
              · have M1 := mkHidW (L1.out _ e1)
                have M2 := mkHidW (L4.out _ e2)
                have M3 := mkHidW (L2.out _ e3)
                clear e1 e2 e3 L1 L2 L3 L4
                go_wp2_with fail
                go_quiet ((first | (go_at_call 23; first | with_reducible exact quietW (T1.out _) | with_reducible exact quietW (T2.out _)) | (go_at_call 20; first | with_reducible exact quietW (M1.out _) | with_reducible exact quietW (M2.out _) | with_reducible exact quietW (M3.out _))))
                go_wp2
                go_roundw
                case rel => exact ⟨k + 1, _, by omega, rfl, by omega, below_drew hb5 _⟩
                case measure => simp [intOf]; omega
              · have M1 := mkHidW (L1.out _ e1)
                have M3 := mkHidW (L2.out _ e2)
                clear e1 e2 L1 L2 L3 L4
                go_wp2_with fail
                go_quiet ((first | (go_at_call 23; first | with_reducible exact quietW (T1.out _) | with_reducible exact quietW (T2.out _)) | (go_at_call 20; first | with_reducible exact quietW (M1.out _) | with_reducible exact quietW (M3.out _))))
                go_wp2
                go_roundw
                case rel => exact ⟨k + 1, _, by omega, rfl, by omega, below_drew hb5 _⟩
                case measure => simp [intOf]; omega
              · have M1 := mkHidW (L1.out _ e1)
                have M2 := mkHidW (L3.out _ e3)
                have M3 := mkHidW (L2.out _ e2)
                clear e1 e2 e3 L1 L2 L3 L4
                go_wp2_with fail
                go_quiet ((first | (go_at_call 23; first | with_reducible exact quietW (T1.out _) | with_reducible exact quietW (T2.out _)) | (go_at_call 20; first | with_reducible exact quietW (M1.out _) | with_reducible exact quietW (M2.out _) | with_reducible exact quietW (M3.out _))))
                go_wp2
                go_roundw
                case rel => exact ⟨k + 1, _, by omega, rfl, by omega, below_drew hb5 _⟩
                case measure => simp [intOf]; omega
            · clear mid ways LT LR T T1
              go_wp2
              go_roundw
              case rel => exact ⟨i + 1, _, _, by omega, rfl, by omega, rfl, hS, hb5⟩
              case measure => simp [intOf]; omega
        · obtain rfl : b' = true := hb'
          go_wp2_with fail
          clear a1 ci A1
          go_loopw [9] (fun q w' => ∃ (k : Nat) (y : Int), k ≤ i ∧ q = .int .i64 y ∧ y = k ∧ Below w4.heap.size w4 w') (fun q _ => (i - intOf q).toNat)
          case atStart => exact ⟨0, 0, by omega, rfl, rfl, hb⟩
          case round =>
            obtain ⟨k, y, hk, rfl, hyk, hb5⟩ := hrel
            obtain rfl : y = (k : Int) := hyk
            clear hb
            by_cases hlk : k < i
            · obtain ⟨d1, d2, d3, d4⟩ := mid.out _ hb5 k hlk
              have wy := ways.out i k hlt (by omega)
              have L1 := mkHidW (LT.out i k)
              have L2 := mkHidW (LT.out k i)
              have L3 := mkHidW (LR.out i k)
              have L4 := mkHidW (LR.out k i)
              have T2 := mkHidW (T.out k)
              clear mid ways LT LR T
              rcases wy with ⟨e1, e2, e3⟩ | ⟨e1, e2⟩ | ⟨e1, e2, e3⟩
              · have M1 := mkHidW (L1.out _ e1)
                have M2 := mkHidW (L4.out _ e2)
                have M3 := mkHidW (L2.out _ e3)
                clear e1 e2 e3 L1 L2 L3 L4
                go_wp2_with fail
                go_quiet ((first | (go_at_call 23; first | with_reducible exact quietW (T1.out _) | with_reducible exact quietW (T2.out _)) | (go_at_call 20; first | with_reducible exact quietW (M1.out _) | with_reducible exact quietW (M2.out _) | with_reducible exact quietW (M3.out _))))
                go_wp2
                go_roundw
                case rel => exact ⟨k + 1, _, by omega, rfl, by omega, below_drew hb5 _⟩
                case measure => simp [intOf]; omega
              · have M1 := mkHidW (L1.out _ e1)
                have M3 := mkHidW (L2.out _ e2)
                clear e1 e2 L1 L2 L3 L4
                go_wp2_with fail
                go_quiet ((first | (go_at_call 23; first | with_reducible exact quietW (T1.out _) | with_reducible exact quietW (T2.out _)) | (go_at_call 20; first | with_reducible exact quietW (M1.out _) | with_reducible exact quietW (M3.out _))))
                go_wp2
                go_roundw
                case rel => exact ⟨k + 1, _, by omega, rfl, by omega, below_drew hb5 _⟩
                case measure => simp [intOf]; omega
              · have M1 := mkHidW (L1.out _ e1)
                have M2 := mkHidW (L3.out _ e3)
                have M3 := mkHidW (L2.out _ e2)
                clear e1 e2 e3 L1 L2 L3 L4
                go_wp2_with fail
                go_quiet ((first | (go_at_call 23; first | with_reducible exact quietW (T1.out _) | with_reducible exact quietW (T2.out _)) | (go_at_call 20; first | with_reducible exact quietW (M1.out _) | with_reducible exact quietW (M2.out _) | with_reducible exact quietW (M3.out _))))
                go_wp2
                go_roundw
                case rel => exact ⟨k + 1, _, by omega, rfl, by omega, below_drew hb5 _⟩
                case measure => simp [intOf]; omega
            · clear mid ways LT LR T T1
              go_wp2
              go_roundw
              case rel => exact ⟨i + 1, _, _, by omega, rfl, by omega, rfl, hS, hb5⟩
              case measure => simp [intOf]; omega
      · obtain rfl : i = n := by omega
        obtain rfl : b = far := fin.out b hI.out
        clear stp fin hI Ab af ways LT LR T HC
        cases b
        · go_wp2
          go_ret
          exact ⟨rfl, bonW hB4 hb⟩
        · go_wp2
          go_ret
          exact ⟨rfl, bonW hB4 hb⟩
  · obtain rfl : ds = [] := List.eq_nil_of_length_eq_zero (by omega)
    have rn : Hid (∀ w v, FRow w v [] → ∃ A c, v = .slice A 0 c ∧ FLies w A []) := fun w v h => frow_nil h
    have Rs' : Hid (∀ A c w, FLies w A [] → Calls Try.prog 13 #[.slice A 0 c] w fun e w' => (∃ v, e = .returned (.tuple #[v, .bool false]) ∧ FRow w' v []) ∧ Below w.heap.size w w') := Rs.out
    have fs0 : Hid (∀ w v, FSome w v [] → ∃ (g c : Nat), v = .slice (some ⟨g, 0, none⟩) 0 c ∧ FLies w (some ⟨g, 0, none⟩) []) := by
      rintro w v ⟨g, c, rfl, hc, h⟩; exact ⟨g, c, rfl, Or.inl rfl⟩
    clear Rs fs1 h0 hl hw'
    go_enter Try.func8, Try.ntmps8
    go_wp2_with fail
    refine (shown_any _).mono ?_; rintro e w1 ⟨rfl, hb1⟩
    go_wp2_with fail
    refine (Fl.out _ (hx.later hb1)).mono ?_; rintro e w2 ⟨⟨v, rfl, hr2⟩, hb2⟩
    obtain ⟨B, d, rfl, hf2⟩ := fs0.out _ _ hr2
    go_wp2_with fail
    refine (Rs'.out _ _ _ hf2).mono ?_; rintro e w3 ⟨⟨v, rfl, hr3⟩, hb3⟩
    obtain ⟨B3, d3, rfl, hf3⟩ := rn.out _ _ hr3
    have hB := bonW (bonW hb1 hb2) hb3
    clear Fl fs0 Rs' rn hr2 hr3 hf2 hf3 hb1 hb2 hb3
    go_wp2_with fail
    go_loopw [7, 8] (fun s i w' => i = .int .i64 0 ∧ s = .bool false ∧ Below w.heap.size w w') (fun _ _ _ => 0)
    case atStart => exact ⟨rfl, rfl, hB⟩
    case round =>
      obtain ⟨rfl, rfl, hb⟩ := hrel
      clear hB
      go_wp2
      go_ret
      exact ⟨rfl, hb⟩
end Go.Proofs.Ytbdopdfnccnflab
