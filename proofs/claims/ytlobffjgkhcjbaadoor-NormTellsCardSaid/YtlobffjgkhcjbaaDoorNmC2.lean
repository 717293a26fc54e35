/-
  The walks of norm's inside, affirmed and denied, one for each operation.
-/
import Derived.Test.YtlobffjgkhcjbaaDoorNmC
import Derived.BigRegion
import Derived.Deep.RegionHeld2
namespace Go.Proofs.YtlobffjgkhcjbaaDoor
open Go.RowKit

set_option maxRecDepth 100000 in
set_option maxHeartbeats 4000000 in
theorem aff24 (F : Tm → Tm) (t : Tm) (k0 k1 : Tm) (hop : t.op = 24) (hks : t.ks = [k0, k1]) (hF : F t = mkT 19 [leT k0.er k1.er, leT k1.er k0.er]) (w : World) (ht : TIn w w.heap.size t) : Calls Tryd.prog 66 #[t.val] w (BecP F t w) := by
  have HT := mkHid ht
  have HFT := mkHid hF
  clear hF
  have hTV : t.val = t.val := rfl
  obtain ⟨op, nm, n, a, c, ks⟩ := t
  simp only [Tm.op, Tm.ks] at hop hks
  subst hop hks
  obtain ⟨kin0, b, o, ha, hbl, kf0⟩ := ht.kid 0 (by simp [Tm.ks])
  obtain ⟨kin1, b1, o1, ha1, hbl1, kf1⟩ := ht.kid 1 (by simp [Tm.ks])
  simp only [Tm.a, Tm.ks, List.getElem_cons_zero, List.getElem_cons_succ, Nat.zero_mul, Nat.one_mul, Nat.add_zero] at ha kin0 kf0 ha1 kin1 kf1
  subst ha
  cases ha1
  have hb2 : Below w.heap.size w ((w.alloc (.cells #[.int .i64 24, .string nm, .int .i64 n, .slice (some ⟨b, o, none⟩) 2 c] 24)).alloc (.cells #[.int .i64 0, .string ⟨#[]⟩, .int .i64 0, .slice none 0 0] 24)) := bal (bal (Below.refl _ _) _) _
  have TT : ((w.alloc (.cells #[.int .i64 24, .string nm, .int .i64 n, .slice (some ⟨b, o, none⟩) 2 c] 24)).alloc (.cells #[.int .i64 0, .string ⟨#[]⟩, .int .i64 0, .slice none 0 0] 24)).cell? ⟨w.heap.size, 0, none⟩ = some (.int .i64 24) ∧ ((w.alloc (.cells #[.int .i64 24, .string nm, .int .i64 n, .slice (some ⟨b, o, none⟩) 2 c] 24)).alloc (.cells #[.int .i64 0, .string ⟨#[]⟩, .int .i64 0, .slice none 0 0] 24)).cell? ⟨w.heap.size, 1, none⟩ = some (.string nm) ∧ ((w.alloc (.cells #[.int .i64 24, .string nm, .int .i64 n, .slice (some ⟨b, o, none⟩) 2 c] 24)).alloc (.cells #[.int .i64 0, .string ⟨#[]⟩, .int .i64 0, .slice none 0 0] 24)).cell? ⟨w.heap.size, 2, none⟩ = some (.int .i64 n) ∧ ((w.alloc (.cells #[.int .i64 24, .string nm, .int .i64 n, .slice (some ⟨b, o, none⟩) 2 c] 24)).alloc (.cells #[.int .i64 0, .string ⟨#[]⟩, .int .i64 0, .slice none 0 0] 24)).cell? ⟨w.heap.size, 3, none⟩ = some (.slice (some ⟨b, o, none⟩) 2 c) := by simp [go_sem]
  have FR0 : FourV' ((w.alloc (.cells #[.int .i64 24, .string nm, .int .i64 n, .slice (some ⟨b, o, none⟩) 2 c] 24)).alloc (.cells #[.int .i64 0, .string ⟨#[]⟩, .int .i64 0, .slice none 0 0] 24)) (w.heap.size + 1) (.int .i64 0) (.string ⟨#[]⟩) (.int .i64 0) (.slice none 0 0) := by simp [FourV', go_sem]
  have hX2 : w.heap.size + 1 < ((w.alloc (.cells #[.int .i64 24, .string nm, .int .i64 n, .slice (some ⟨b, o, none⟩) 2 c] 24)).alloc (.cells #[.int .i64 0, .string ⟨#[]⟩, .int .i64 0, .slice none 0 0] 24)).heap.size := by simp
  generalize hW2 : ((w.alloc (.cells #[.int .i64 24, .string nm, .int .i64 n, .slice (some ⟨b, o, none⟩) 2 c] 24)).alloc (.cells #[.int .i64 0, .string ⟨#[]⟩, .int .i64 0, .slice none 0 0] 24)) = W2 at *
  obtain ⟨q00, q01, q02, q03⟩ : Four W2 b o k0 := Four.keep kf0 hb2 hbl
  obtain ⟨q10, q11, q12, q13⟩ : Four W2 b (o + 4) k1 := Four.keep kf1 hb2 hbl1
  clear kin0 kf0 kin1 kf1
  unfold Tm.val
  simp only [Tm.op, Tm.nm, Tm.n, Tm.a, Tm.ks, Tm.c, List.length_cons, List.length_nil, Nat.zero_add, Nat.reduceAdd]
  obtain ⟨u0, u1, u2, u3⟩ := TT
  have FR := mkHid FR0
  have SZ := hX2
  have BW := hb2
  clear FR0 hX2 hb2 ht hTV
  go_enter Tryd.func66, Tryd.ntmps66
  go_wp2_with fail
  (try dsimp only [List.append])
  refine wp_region_held_drew (S := fun w' => w'.cell? ⟨w.heap.size, 0, none⟩ = some (.int .i64 24) ∧ w'.cell? ⟨w.heap.size, 1, none⟩ = some (.string nm) ∧ w'.cell? ⟨w.heap.size, 2, none⟩ = some (.int .i64 n) ∧ w'.cell? ⟨w.heap.size, 3, none⟩ = some (.slice (some ⟨b, o, none⟩) 2 c) ∧ w'.cell? ⟨b, o, none⟩ = some (.int .i64 k0.op) ∧ w'.cell? ⟨b, o + 1, none⟩ = some (.string k0.nm) ∧ w'.cell? ⟨b, o + 2, none⟩ = some (.int .i64 k0.n) ∧ w'.cell? ⟨b, o + 3, none⟩ = some (.slice k0.a k0.ks.length k0.c) ∧ w'.cell? ⟨b, o + 4, none⟩ = some (.int .i64 k1.op) ∧ w'.cell? ⟨b, o + 4 + 1, none⟩ = some (.string k1.nm) ∧ w'.cell? ⟨b, o + 4 + 2, none⟩ = some (.int .i64 k1.n) ∧ w'.cell? ⟨b, o + 4 + 3, none⟩ = some (.slice k1.a k1.ks.length k1.c)) (by kernel_rfl) ⟨u0, u1, u2, u3, q00, q01, q02, q03, q10, q11, q12, q13⟩ (fun hHeld => ?_)
  replace FR := mkHid (FR.out.later (bdrew (Below.refl W2.heap.size W2)))
  replace BW := bdrew BW
  replace SZ : w.heap.size + 1 < W2.drew.heap.size := SZ
  clear hW2 u0 u1 u2 u3 q00 q01 q02 q03 q10 q11 q12 q13
  generalize W2.drew = V at *
  refine wpAnyH_take (i := 0) (v := ?_) rfl (by kernel_rfl) (by kernel_rfl) (by kernel_rfl) (fun _ _ _ h => h) (Or.inl ⟨by kernel_rfl, ?_⟩) (by assumption) ?_
  rotate_left
  · (intro w hSw; (try dsimp only at hSw); go_simp; try with_reducible rfl)
  simp only [Act.put, List.getElem_toArray, List.getElem_cons_zero, List.setIfInBounds_toArray, List.set_cons_zero, List.set_cons_succ]
  refine wpAnyH_take (i := 1) (v := ?_) rfl (by kernel_rfl) (by kernel_rfl) (by kernel_rfl) (fun _ _ _ h => h) (Or.inl ⟨by kernel_rfl, ?_⟩) (by assumption) ?_
  rotate_left
  · (intro w hSw; (try dsimp only at hSw); go_simp; try with_reducible rfl)
  simp only [Act.put, List.getElem_toArray, List.getElem_cons_succ, List.getElem_cons_zero, List.setIfInBounds_toArray, List.set_cons_zero, List.set_cons_succ]
  refine wpAnyH_take (i := 2) (v := ?_) rfl (by kernel_rfl) (by kernel_rfl) (by kernel_rfl) (fun _ _ _ h => h) (Or.inl ⟨by kernel_rfl, ?_⟩) (by assumption) ?_
  rotate_left
  · (intro w hSw; (try dsimp only at hSw); go_simp; try with_reducible rfl)
  simp only [Act.put, List.getElem_toArray, List.getElem_cons_succ, List.getElem_cons_zero, List.setIfInBounds_toArray, List.set_cons_zero, List.set_cons_succ]
  refine wpAnyH_take (i := 3) (v := ?_) rfl (by kernel_rfl) (by kernel_rfl) (by kernel_rfl) (fun _ _ _ h => h) (Or.inl ⟨by kernel_rfl, ?_⟩) (by assumption) ?_
  rotate_left
  · (intro w hSw; (try dsimp only at hSw); go_simp; try with_reducible rfl)
  simp only [Act.put, List.getElem_toArray, List.getElem_cons_succ, List.getElem_cons_zero, List.setIfInBounds_toArray, List.set_cons_zero, List.set_cons_succ]
  refine wpAnyH_take (i := 4) (v := ?_) rfl (by kernel_rfl) (by kernel_rfl) (by kernel_rfl) (fun _ _ _ h => h) (Or.inl ⟨by kernel_rfl, ?_⟩) (by assumption) ?_
  rotate_left
  · (intro w hSw; (try dsimp only at hSw); go_simp; try with_reducible rfl)
  simp only [Act.put, List.getElem_toArray, List.getElem_cons_succ, List.getElem_cons_zero, List.setIfInBounds_toArray, List.set_cons_zero, List.set_cons_succ]
  refine wpAnyH_take (i := 5) (v := ?_) rfl (by kernel_rfl) (by kernel_rfl) (by kernel_rfl) (fun _ _ _ h => h) (Or.inl ⟨by kernel_rfl, ?_⟩) (by assumption) ?_
  rotate_left
  · (intro w hSw; (try dsimp only at hSw); go_simp; try with_reducible rfl)
  simp only [Act.put, List.getElem_toArray, List.getElem_cons_succ, List.getElem_cons_zero, List.setIfInBounds_toArray, List.set_cons_zero, List.set_cons_succ]
  refine wpAnyH_take (i := 6) (v := ?_) rfl (by kernel_rfl) (by kernel_rfl) (by kernel_rfl) (fun _ _ _ h => h) (Or.inl ⟨by kernel_rfl, ?_⟩) (by assumption) ?_
  rotate_left
  · (intro w hSw; (try dsimp only at hSw); go_simp; try with_reducible rfl)
  simp only [Act.put, List.getElem_toArray, List.getElem_cons_succ, List.getElem_cons_zero, List.setIfInBounds_toArray, List.set_cons_zero, List.set_cons_succ]
  refine wpAnyH_take (i := 7) (v := ?_) rfl (by kernel_rfl) (by kernel_rfl) (by kernel_rfl) (fun _ _ _ h => h) (Or.inl ⟨by kernel_rfl, ?_⟩) (by assumption) ?_
  rotate_left
  · (intro w hSw; (try dsimp only at hSw); go_simp; try with_reducible rfl)
  simp only [Act.put, List.getElem_toArray, List.getElem_cons_succ, List.getElem_cons_zero, List.setIfInBounds_toArray, List.set_cons_zero, List.set_cons_succ]
  refine wpAnyH_take (i := 10) (v := ?_) rfl (by kernel_rfl) (by kernel_rfl) (by kernel_rfl) (fun _ _ _ h => h) (Or.inl ⟨by kernel_rfl, ?_⟩) (by assumption) ?_
  rotate_left
  · (intro w hSw; (try dsimp only at hSw); go_simp; try with_reducible rfl)
  simp only [Act.put, List.getElem_toArray, List.getElem_cons_succ, List.getElem_cons_zero, List.setIfInBounds_toArray, List.set_cons_zero, List.set_cons_succ]
  refine wpAnyH_take (i := 11) (v := ?_) rfl (by kernel_rfl) (by kernel_rfl) (by kernel_rfl) (fun _ _ _ h => h) (Or.inl ⟨by kernel_rfl, ?_⟩) (by assumption) ?_
  rotate_left
  · (intro w hSw; (try dsimp only at hSw); go_simp; try with_reducible rfl)
  simp only [Act.put, List.getElem_toArray, List.getElem_cons_succ, List.getElem_cons_zero, List.setIfInBounds_toArray, List.set_cons_zero, List.set_cons_succ]
  refine wpAnyH_take (i := 12) (v := ?_) rfl (by kernel_rfl) (by kernel_rfl) (by kernel_rfl) (fun _ _ _ h => h) (Or.inl ⟨by kernel_rfl, ?_⟩) (by assumption) ?_
  rotate_left
  · (intro w hSw; (try dsimp only at hSw); go_simp; try with_reducible rfl)
  simp only [Act.put, List.getElem_toArray, List.getElem_cons_succ, List.getElem_cons_zero, List.setIfInBounds_toArray, List.set_cons_zero, List.set_cons_succ]
  refine wpAnyH_take (i := 13) (v := ?_) rfl (by kernel_rfl) (by kernel_rfl) (by kernel_rfl) (fun _ _ _ h => h) (Or.inl ⟨by kernel_rfl, ?_⟩) (by assumption) ?_
  rotate_left
  · (intro w hSw; (try dsimp only at hSw); go_simp; try with_reducible rfl)
  simp only [Act.put, List.getElem_toArray, List.getElem_cons_succ, List.getElem_cons_zero, List.setIfInBounds_toArray, List.set_cons_zero, List.set_cons_succ]
  refine wpAnyH_take (i := 14) (v := ?_) rfl (by kernel_rfl) (by kernel_rfl) (by kernel_rfl) (fun _ _ _ h => h) (Or.inl ⟨by kernel_rfl, ?_⟩) (by assumption) ?_
  rotate_left
  · (intro w hSw; (try dsimp only at hSw); go_simp; try with_reducible rfl)
  simp only [Act.put, List.getElem_toArray, List.getElem_cons_succ, List.getElem_cons_zero, List.setIfInBounds_toArray, List.set_cons_zero, List.set_cons_succ]
  refine wpAnyH_take (i := 15) (v := ?_) rfl (by kernel_rfl) (by kernel_rfl) (by kernel_rfl) (fun _ _ _ h => h) (Or.inl ⟨by kernel_rfl, ?_⟩) (by assumption) ?_
  rotate_left
  · (intro w hSw; (try dsimp only at hSw); go_simp; try with_reducible rfl)
  simp only [Act.put, List.getElem_toArray, List.getElem_cons_succ, List.getElem_cons_zero, List.setIfInBounds_toArray, List.set_cons_zero, List.set_cons_succ]
  refine wpAnyH_take (i := 16) (v := ?_) rfl (by kernel_rfl) (by kernel_rfl) (by kernel_rfl) (fun _ _ _ h => h) (Or.inl ⟨by kernel_rfl, ?_⟩) (by assumption) ?_
  rotate_left
  · (intro w hSw; (try dsimp only at hSw); go_simp; try with_reducible rfl)
  simp only [Act.put, List.getElem_toArray, List.getElem_cons_succ, List.getElem_cons_zero, List.setIfInBounds_toArray, List.set_cons_zero, List.set_cons_succ]
  refine wpAnyH_take (i := 17) (v := ?_) rfl (by kernel_rfl) (by kernel_rfl) (by kernel_rfl) (fun _ _ _ h => h) (Or.inl ⟨by kernel_rfl, ?_⟩) (by assumption) ?_
  rotate_left
  · (intro w hSw; (try dsimp only at hSw); go_simp; try with_reducible rfl)
  simp only [Act.put, List.getElem_toArray, List.getElem_cons_succ, List.getElem_cons_zero, List.setIfInBounds_toArray, List.set_cons_zero, List.set_cons_succ]
  have Mk0 := mkHid (Mk.kid (k := k0) HT.out (by simp [Tm.ks]) BW)
  have Mk1 := mkHid (Mk.kid (k := k1) HT.out (by simp [Tm.ks]) BW)
  refine wpAnyH_ready (rs := [8, 18]) (by kernel_rfl) (by simp) ?_
  refine AllReadyH.cons rfl (fun K hK => ?_) ?_
  · go_simp
    have bg1 := bel_alloc V (.cells #[.int .i64 k0.op, .string k0.nm, .int .i64 k0.n, .slice k0.a k0.ks.length k0.c, .int .i64 k1.op, .string k1.nm, .int .i64 k1.n, .slice k1.a k1.ks.length k1.c] 24)
    refine hK.out _ _ (keep12 (by assumption) bg1) (fun hHeld => ?_)
    clear hK
    have Fg1 : Hid (Four (V.alloc (.cells #[.int .i64 k0.op, .string k0.nm, .int .i64 k0.n, .slice k0.a k0.ks.length k0.c, .int .i64 k1.op, .string k1.nm, .int .i64 k1.n, .slice k1.a k1.ks.length k1.c] 24)) V.heap.size 0 k0 ∧ Four (V.alloc (.cells #[.int .i64 k0.op, .string k0.nm, .int .i64 k0.n, .slice k0.a k0.ks.length k0.c, .int .i64 k1.op, .string k1.nm, .int .i64 k1.n, .slice k1.a k1.ks.length k1.c] 24)) V.heap.size 4 k1) := build2 V k0 k1
    have Gg1 : w.heap.size + 1 < V.heap.size := SZ
    generalize V.alloc (.cells #[.int .i64 k0.op, .string k0.nm, .int .i64 k0.n, .slice k0.a k0.ks.length k0.c, .int .i64 k1.op, .string k1.nm, .int .i64 k1.n, .slice k1.a k1.ks.length k1.c] 24) = Wg1 at *
    have BW1 := bon BW bg1
    have SZ1 : w.heap.size + 1 < Wg1.heap.size := Nat.lt_of_lt_of_le SZ bg1.size
    have FR1 := mkHid (FR.out.later bg1)
    replace Mk0 := mkHid (Mk0.out.later bg1)
    replace Mk1 := mkHid (Mk1.out.later bg1)
    skip
    refine wpAnyH_ready (rs := [9, 18]) (by kernel_rfl) (by simp) ?_
    refine AllReadyH.cons rfl (fun K hK => ?_) ?_
    · go_simp
      go_wp2_with (go_at_call 90; ((with_reducible refine (of_any _ _ _ _ _).mono ?_)); rintro e w3 ⟨rfl, hb3⟩)
      refine hK.out _ _ (keep12 (by assumption) hb3) (fun hHeld => ?_)
      clear hK
      have BW2 := bon BW1 hb3
      have SZ2 : w.heap.size + 1 < w3.heap.size := Nat.lt_of_lt_of_le SZ1 hb3.size
      have FR2 := mkHid (FR1.out.later hb3)
      replace Mk0 := mkHid (Mk0.out.later hb3)
      replace Mk1 := mkHid (Mk1.out.later hb3)
      replace Fg1 := mkHid (And.intro (Fg1.out.1.later hb3) (Fg1.out.2.later hb3))
      refine wpAnyH_ready (rs := [18]) (by kernel_rfl) (by simp) ?_
      refine AllReadyH.cons rfl (fun K hK => ?_) AllReadyH.nil
      go_simp
      have bg2 := bel_alloc w3 (.cells #[.int .i64 k1.op, .string k1.nm, .int .i64 k1.n, .slice k1.a k1.ks.length k1.c, .int .i64 k0.op, .string k0.nm, .int .i64 k0.n, .slice k0.a k0.ks.length k0.c] 24)
      refine hK.out _ _ (keep12 (by assumption) bg2) (fun hHeld => ?_)
      clear hK
      have Fg2 : Hid (Four (w3.alloc (.cells #[.int .i64 k1.op, .string k1.nm, .int .i64 k1.n, .slice k1.a k1.ks.length k1.c, .int .i64 k0.op, .string k0.nm, .int .i64 k0.n, .slice k0.a k0.ks.length k0.c] 24)) w3.heap.size 0 k1 ∧ Four (w3.alloc (.cells #[.int .i64 k1.op, .string k1.nm, .int .i64 k1.n, .slice k1.a k1.ks.length k1.c, .int .i64 k0.op, .string k0.nm, .int .i64 k0.n, .slice k0.a k0.ks.length k0.c] 24)) w3.heap.size 4 k0) := build2 w3 k1 k0
      have Gg2 : w.heap.size + 1 < w3.heap.size := SZ2
      generalize w3.alloc (.cells #[.int .i64 k1.op, .string k1.nm, .int .i64 k1.n, .slice k1.a k1.ks.length k1.c, .int .i64 k0.op, .string k0.nm, .int .i64 k0.n, .slice k0.a k0.ks.length k0.c] 24) = Wg2 at *
      have BW3 := bon BW2 bg2
      have SZ3 : w.heap.size + 1 < Wg2.heap.size := Nat.lt_of_lt_of_le SZ2 bg2.size
      have FR3 := mkHid (FR2.out.later bg2)
      replace Mk0 := mkHid (Mk0.out.later bg2)
      replace Mk1 := mkHid (Mk1.out.later bg2)
      replace Fg1 := mkHid (And.intro (Fg1.out.1.later bg2) (Fg1.out.2.later bg2))
      skip
      refine wpAnyH_ready (rs := [19]) (by kernel_rfl) (by simp) ?_
      refine AllReadyH.cons rfl (fun K hK => ?_) AllReadyH.nil
      go_simp
      go_wp2_with (go_at_call 90; ((with_reducible refine (of_any _ _ _ _ _).mono ?_)); rintro e w4 ⟨rfl, hb4⟩)
      refine hK.out _ _ (keep12 (by assumption) hb4) (fun hHeld => ?_)
      clear hK
      have BW4 := bon BW3 hb4
      have SZ4 : w.heap.size + 1 < w4.heap.size := Nat.lt_of_lt_of_le SZ3 hb4.size
      have FR4 := mkHid (FR3.out.later hb4)
      replace Mk0 := mkHid (Mk0.out.later hb4)
      replace Mk1 := mkHid (Mk1.out.later hb4)
      replace Fg1 := mkHid (And.intro (Fg1.out.1.later hb4) (Fg1.out.2.later hb4))
      replace Fg2 := mkHid (And.intro (Fg2.out.1.later hb4) (Fg2.out.2.later hb4))
      refine wpAnyH_ready (rs := [20]) (by kernel_rfl) (by simp) ?_
      refine AllReadyH.cons rfl (fun K hK => ?_) AllReadyH.nil
      go_simp
      have bg3 := bel_alloc w4 (.cells #[.int .i64 22, .string ⟨#[]⟩, .int .i64 0, .slice (some ⟨V.heap.size, 0, none⟩) 2 2, .int .i64 22, .string ⟨#[]⟩, .int .i64 0, .slice (some ⟨w3.heap.size, 0, none⟩) 2 2] 24)
      refine hK.out _ _ (keep12 (by assumption) bg3) (fun hHeld => ?_)
      clear hK
      have Fg3 : Hid (Four (w4.alloc (.cells #[.int .i64 22, .string ⟨#[]⟩, .int .i64 0, .slice (some ⟨V.heap.size, 0, none⟩) 2 2, .int .i64 22, .string ⟨#[]⟩, .int .i64 0, .slice (some ⟨w3.heap.size, 0, none⟩) 2 2] 24)) w4.heap.size 0 (q2 22 V.heap.size k0 k1) ∧ Four (w4.alloc (.cells #[.int .i64 22, .string ⟨#[]⟩, .int .i64 0, .slice (some ⟨V.heap.size, 0, none⟩) 2 2, .int .i64 22, .string ⟨#[]⟩, .int .i64 0, .slice (some ⟨w3.heap.size, 0, none⟩) 2 2] 24)) w4.heap.size 4 (q2 22 w3.heap.size k1 k0)) := build2 w4 (q2 22 V.heap.size k0 k1) (q2 22 w3.heap.size k1 k0)
      have Gg3 : w.heap.size + 1 < w4.heap.size := SZ4
      generalize w4.alloc (.cells #[.int .i64 22, .string ⟨#[]⟩, .int .i64 0, .slice (some ⟨V.heap.size, 0, none⟩) 2 2, .int .i64 22, .string ⟨#[]⟩, .int .i64 0, .slice (some ⟨w3.heap.size, 0, none⟩) 2 2] 24) = Wg3 at *
      have BW5 := bon BW4 bg3
      have SZ5 : w.heap.size + 1 < Wg3.heap.size := Nat.lt_of_lt_of_le SZ4 bg3.size
      have FR5 := mkHid (FR4.out.later bg3)
      replace Mk0 := mkHid (Mk0.out.later bg3)
      replace Mk1 := mkHid (Mk1.out.later bg3)
      replace Fg1 := mkHid (And.intro (Fg1.out.1.later bg3) (Fg1.out.2.later bg3))
      replace Fg2 := mkHid (And.intro (Fg2.out.1.later bg3) (Fg2.out.2.later bg3))
      skip
      refine wpAnyH_ready (rs := [21]) (by kernel_rfl) (by simp) ?_
      refine AllReadyH.cons rfl (fun K hK => ?_) AllReadyH.nil
      go_simp
      go_wp2_with (go_at_call 90; ((with_reducible refine (of_any _ _ _ _ _).mono ?_)); rintro e w5 ⟨rfl, hb5⟩)
      refine hK.out _ _ (keep12 (by assumption) hb5) (fun hHeld => ?_)
      clear hK
      have BW6 := bon BW5 hb5
      have SZ6 : w.heap.size + 1 < w5.heap.size := Nat.lt_of_lt_of_le SZ5 hb5.size
      have FR6 := mkHid (FR5.out.later hb5)
      replace Mk0 := mkHid (Mk0.out.later hb5)
      replace Mk1 := mkHid (Mk1.out.later hb5)
      replace Fg1 := mkHid (And.intro (Fg1.out.1.later hb5) (Fg1.out.2.later hb5))
      replace Fg2 := mkHid (And.intro (Fg2.out.1.later hb5) (Fg2.out.2.later hb5))
      replace Fg3 := mkHid (And.intro (Fg3.out.1.later hb5) (Fg3.out.2.later hb5))
      obtain ⟨m0, m1, m2, m3, f0, f1, f2, f3⟩ := FR6.out
      refine wpAnyH_ready (rs := [22]) (by kernel_rfl) (by simp) ?_
      refine AllReadyH.cons rfl (fun K hK => ?_) AllReadyH.nil
      go_simp
      have BS : But (w.heap.size + 1) w5 ((((w5.setCell ⟨w.heap.size + 1, 0, none⟩ (.int .i64 19)).setCell ⟨w.heap.size + 1, 1, none⟩ (.string ⟨#[]⟩)).setCell ⟨w.heap.size + 1, 2, none⟩ (.int .i64 0)).setCell ⟨w.heap.size + 1, 3, none⟩ (.slice (some ⟨w4.heap.size, 0, none⟩) 2 2)) := ((((But.refl _ _).set (p := ⟨w.heap.size + 1, 0, none⟩) (.inl rfl) _).set (p := ⟨w.heap.size + 1, 1, none⟩) (.inl rfl) _).set (p := ⟨w.heap.size + 1, 2, none⟩) (.inl rfl) _).set (p := ⟨w.heap.size + 1, 3, none⟩) (.inl rfl) _
      have HN0 : Hid (w.heap.size ≠ w.heap.size + 1) := Nat.ne_of_lt (Nat.lt_succ_self _)
      have HNb : Hid (b ≠ w.heap.size + 1) := Nat.ne_of_lt (Nat.lt_succ_of_lt hbl)
      refine hK.out _ _ (keep12B (by assumption) BS HN0.out HN0.out HN0.out HN0.out HNb.out HNb.out HNb.out HNb.out HNb.out HNb.out HNb.out HNb.out) (fun hHeld => ?_)
      clear hK hHeld
      refine wpAnyH_done (by kernel_rfl) ?_ _
      go_wp2
      refine bodyPost_ret (v := .agg #[.int .i64 19, .string ⟨#[]⟩, .int .i64 0, .slice (some ⟨w4.heap.size, 0, none⟩) 2 2]) (by simp [results, Tryd.results66, go_sem, m0, m1, m2, m3]) rfl (Mk.fin (x := (q2 19 w4.heap.size (q2 22 V.heap.size k0 k1) (q2 22 w3.heap.size k1 k0))) (Mk.two (Mk.two Mk0.out Mk1.out Fg1.out Gg1 (by decide)) (Mk.two Mk1.out Mk0.out Fg2.out Gg2 (by decide)) Fg3.out Gg3 (by decide)) BW6 ?_)
      rw [HFT.out, q2_er, q2_er, q2_er]; all_goals rfl
    refine AllReadyH.cons rfl (fun K hK => ?_) AllReadyH.nil
    go_simp
    have bg2 := bel_alloc Wg1 (.cells #[.int .i64 k1.op, .string k1.nm, .int .i64 k1.n, .slice k1.a k1.ks.length k1.c, .int .i64 k0.op, .string k0.nm, .int .i64 k0.n, .slice k0.a k0.ks.length k0.c] 24)
    refine hK.out _ _ (keep12 (by assumption) bg2) (fun hHeld => ?_)
    clear hK
    have Fg2 : Hid (Four (Wg1.alloc (.cells #[.int .i64 k1.op, .string k1.nm, .int .i64 k1.n, .slice k1.a k1.ks.length k1.c, .int .i64 k0.op, .string k0.nm, .int .i64 k0.n, .slice k0.a k0.ks.length k0.c] 24)) Wg1.heap.size 0 k1 ∧ Four (Wg1.alloc (.cells #[.int .i64 k1.op, .string k1.nm, .int .i64 k1.n, .slice k1.a k1.ks.length k1.c, .int .i64 k0.op, .string k0.nm, .int .i64 k0.n, .slice k0.a k0.ks.length k0.c] 24)) Wg1.heap.size 4 k0) := build2 Wg1 k1 k0
    have Gg2 : w.heap.size + 1 < Wg1.heap.size := SZ1
    generalize Wg1.alloc (.cells #[.int .i64 k1.op, .string k1.nm, .int .i64 k1.n, .slice k1.a k1.ks.length k1.c, .int .i64 k0.op, .string k0.nm, .int .i64 k0.n, .slice k0.a k0.ks.length k0.c] 24) = Wg2 at *
    have BW2 := bon BW1 bg2
    have SZ2 : w.heap.size + 1 < Wg2.heap.size := Nat.lt_of_lt_of_le SZ1 bg2.size
    have FR2 := mkHid (FR1.out.later bg2)
    replace Mk0 := mkHid (Mk0.out.later bg2)
    replace Mk1 := mkHid (Mk1.out.later bg2)
    replace Fg1 := mkHid (And.intro (Fg1.out.1.later bg2) (Fg1.out.2.later bg2))
    skip
    refine wpAnyH_ready (rs := [9]) (by kernel_rfl) (by simp) ?_
    refine AllReadyH.cons rfl (fun K hK => ?_) AllReadyH.nil
    go_simp
    go_wp2_with (go_at_call 90; ((with_reducible refine (of_any _ _ _ _ _).mono ?_)); rintro e w3 ⟨rfl, hb3⟩)
    refine hK.out _ _ (keep12 (by assumption) hb3) (fun hHeld => ?_)
    clear hK
    have BW3 := bon BW2 hb3
    have SZ3 : w.heap.size + 1 < w3.heap.size := Nat.lt_of_lt_of_le SZ2 hb3.size
    have FR3 := mkHid (FR2.out.later hb3)
    replace Mk0 := mkHid (Mk0.out.later hb3)
    replace Mk1 := mkHid (Mk1.out.later hb3)
    replace Fg1 := mkHid (And.intro (Fg1.out.1.later hb3) (Fg1.out.2.later hb3))
    replace Fg2 := mkHid (And.intro (Fg2.out.1.later hb3) (Fg2.out.2.later hb3))
    refine wpAnyH_ready (rs := [19]) (by kernel_rfl) (by simp) ?_
    refine AllReadyH.cons rfl (fun K hK => ?_) AllReadyH.nil
    go_simp
    go_wp2_with (go_at_call 90; ((with_reducible refine (of_any _ _ _ _ _).mono ?_)); rintro e w4 ⟨rfl, hb4⟩)
    refine hK.out _ _ (keep12 (by assumption) hb4) (fun hHeld => ?_)
    clear hK
    have BW4 := bon BW3 hb4
    have SZ4 : w.heap.size + 1 < w4.heap.size := Nat.lt_of_lt_of_le SZ3 hb4.size
    have FR4 := mkHid (FR3.out.later hb4)
    replace Mk0 := mkHid (Mk0.out.later hb4)
    replace Mk1 := mkHid (Mk1.out.later hb4)
    replace Fg1 := mkHid (And.intro (Fg1.out.1.later hb4) (Fg1.out.2.later hb4))
    replace Fg2 := mkHid (And.intro (Fg2.out.1.later hb4) (Fg2.out.2.later hb4))
    refine wpAnyH_ready (rs := [20]) (by kernel_rfl) (by simp) ?_
    refine AllReadyH.cons rfl (fun K hK => ?_) AllReadyH.nil
    go_simp
    have bg3 := bel_alloc w4 (.cells #[.int .i64 22, .string ⟨#[]⟩, .int .i64 0, .slice (some ⟨V.heap.size, 0, none⟩) 2 2, .int .i64 22, .string ⟨#[]⟩, .int .i64 0, .slice (some ⟨Wg1.heap.size, 0, none⟩) 2 2] 24)
    refine hK.out _ _ (keep12 (by assumption) bg3) (fun hHeld => ?_)
    clear hK
    have Fg3 : Hid (Four (w4.alloc (.cells #[.int .i64 22, .string ⟨#[]⟩, .int .i64 0, .slice (some ⟨V.heap.size, 0, none⟩) 2 2, .int .i64 22, .string ⟨#[]⟩, .int .i64 0, .slice (some ⟨Wg1.heap.size, 0, none⟩) 2 2] 24)) w4.heap.size 0 (q2 22 V.heap.size k0 k1) ∧ Four (w4.alloc (.cells #[.int .i64 22, .string ⟨#[]⟩, .int .i64 0, .slice (some ⟨V.heap.size, 0, none⟩) 2 2, .int .i64 22, .string ⟨#[]⟩, .int .i64 0, .slice (some ⟨Wg1.heap.size, 0, none⟩) 2 2] 24)) w4.heap.size 4 (q2 22 Wg1.heap.size k1 k0)) := build2 w4 (q2 22 V.heap.size k0 k1) (q2 22 Wg1.heap.size k1 k0)
    have Gg3 : w.heap.size + 1 < w4.heap.size := SZ4
    generalize w4.alloc (.cells #[.int .i64 22, .string ⟨#[]⟩, .int .i64 0, .slice (some ⟨V.heap.size, 0, none⟩) 2 2, .int .i64 22, .string ⟨#[]⟩, .int .i64 0, .slice (some ⟨Wg1.heap.size, 0, none⟩) 2 2] 24) = Wg3 at *
    have BW5 := bon BW4 bg3
    have SZ5 : w.heap.size + 1 < Wg3.heap.size := Nat.lt_of_lt_of_le SZ4 bg3.size
    have FR5 := mkHid (FR4.out.later bg3)
    replace Mk0 := mkHid (Mk0.out.later bg3)
    replace Mk1 := mkHid (Mk1.out.later bg3)
    replace Fg1 := mkHid (And.intro (Fg1.out.1.later bg3) (Fg1.out.2.later bg3))
    replace Fg2 := mkHid (And.intro (Fg2.out.1.later bg3) (Fg2.out.2.later bg3))
    skip
    refine wpAnyH_ready (rs := [21]) (by kernel_rfl) (by simp) ?_
    refine AllReadyH.cons rfl (fun K hK => ?_) AllReadyH.nil
    go_simp
    go_wp2_with (go_at_call 90; ((with_reducible refine (of_any _ _ _ _ _).mono ?_)); rintro e w5 ⟨rfl, hb5⟩)
    refine hK.out _ _ (keep12 (by assumption) hb5) (fun hHeld => ?_)
    clear hK
    have BW6 := bon BW5 hb5
    have SZ6 : w.heap.size + 1 < w5.heap.size := Nat.lt_of_lt_of_le SZ5 hb5.size
    have FR6 := mkHid (FR5.out.later hb5)
    replace Mk0 := mkHid (Mk0.out.later hb5)
    replace Mk1 := mkHid (Mk1.out.later hb5)
    replace Fg1 := mkHid (And.intro (Fg1.out.1.later hb5) (Fg1.out.2.later hb5))
    replace Fg2 := mkHid (And.intro (Fg2.out.1.later hb5) (Fg2.out.2.later hb5))
    replace Fg3 := mkHid (And.intro (Fg3.out.1.later hb5) (Fg3.out.2.later hb5))
    obtain ⟨m0, m1, m2, m3, f0, f1, f2, f3⟩ := FR6.out
    refine wpAnyH_ready (rs := [22]) (by kernel_rfl) (by simp) ?_
    refine AllReadyH.cons rfl (fun K hK => ?_) AllReadyH.nil
    go_simp
    have BS : But (w.heap.size + 1) w5 ((((w5.setCell ⟨w.heap.size + 1, 0, none⟩ (.int .i64 19)).setCell ⟨w.heap.size + 1, 1, none⟩ (.string ⟨#[]⟩)).setCell ⟨w.heap.size + 1, 2, none⟩ (.int .i64 0)).setCell ⟨w.heap.size + 1, 3, none⟩ (.slice (some ⟨w4.heap.size, 0, none⟩) 2 2)) := ((((But.refl _ _).set (p := ⟨w.heap.size + 1, 0, none⟩) (.inl rfl) _).set (p := ⟨w.heap.size + 1, 1, none⟩) (.inl rfl) _).set (p := ⟨w.heap.size + 1, 2, none⟩) (.inl rfl) _).set (p := ⟨w.heap.size + 1, 3, none⟩) (.inl rfl) _
    have HN0 : Hid (w.heap.size ≠ w.heap.size + 1) := Nat.ne_of_lt (Nat.lt_succ_self _)
    have HNb : Hid (b ≠ w.heap.size + 1) := Nat.ne_of_lt (Nat.lt_succ_of_lt hbl)
    refine hK.out _ _ (keep12B (by assumption) BS HN0.out HN0.out HN0.out HN0.out HNb.out HNb.out HNb.out HNb.out HNb.out HNb.out HNb.out HNb.out) (fun hHeld => ?_)
    clear hK hHeld
    refine wpAnyH_done (by kernel_rfl) ?_ _
    go_wp2
    refine bodyPost_ret (v := .agg #[.int .i64 19, .string ⟨#[]⟩, .int .i64 0, .slice (some ⟨w4.heap.size, 0, none⟩) 2 2]) (by simp [results, Tryd.results66, go_sem, m0, m1, m2, m3]) rfl (Mk.fin (x := (q2 19 w4.heap.size (q2 22 V.heap.size k0 k1) (q2 22 Wg1.heap.size k1 k0))) (Mk.two (Mk.two Mk0.out Mk1.out Fg1.out Gg1 (by decide)) (Mk.two Mk1.out Mk0.out Fg2.out Gg2 (by decide)) Fg3.out Gg3 (by decide)) BW6 ?_)
    rw [HFT.out, q2_er, q2_er, q2_er]; all_goals rfl
  refine AllReadyH.cons rfl (fun K hK => ?_) AllReadyH.nil
  go_simp
  have bg2 := bel_alloc V (.cells #[.int .i64 k1.op, .string k1.nm, .int .i64 k1.n, .slice k1.a k1.ks.length k1.c, .int .i64 k0.op, .string k0.nm, .int .i64 k0.n, .slice k0.a k0.ks.length k0.c] 24)
  refine hK.out _ _ (keep12 (by assumption) bg2) (fun hHeld => ?_)
  clear hK
  have Fg2 : Hid (Four (V.alloc (.cells #[.int .i64 k1.op, .string k1.nm, .int .i64 k1.n, .slice k1.a k1.ks.length k1.c, .int .i64 k0.op, .string k0.nm, .int .i64 k0.n, .slice k0.a k0.ks.length k0.c] 24)) V.heap.size 0 k1 ∧ Four (V.alloc (.cells #[.int .i64 k1.op, .string k1.nm, .int .i64 k1.n, .slice k1.a k1.ks.length k1.c, .int .i64 k0.op, .string k0.nm, .int .i64 k0.n, .slice k0.a k0.ks.length k0.c] 24)) V.heap.size 4 k0) := build2 V k1 k0
  have Gg2 : w.heap.size + 1 < V.heap.size := SZ
  generalize V.alloc (.cells #[.int .i64 k1.op, .string k1.nm, .int .i64 k1.n, .slice k1.a k1.ks.length k1.c, .int .i64 k0.op, .string k0.nm, .int .i64 k0.n, .slice k0.a k0.ks.length k0.c] 24) = Wg2 at *
  have BW1 := bon BW bg2
  have SZ1 : w.heap.size + 1 < Wg2.heap.size := Nat.lt_of_lt_of_le SZ bg2.size
  have FR1 := mkHid (FR.out.later bg2)
  replace Mk0 := mkHid (Mk0.out.later bg2)
  replace Mk1 := mkHid (Mk1.out.later bg2)
  skip
  refine wpAnyH_ready (rs := [8]) (by kernel_rfl) (by simp) ?_
  refine AllReadyH.cons rfl (fun K hK => ?_) AllReadyH.nil
  go_simp
  have bg1 := bel_alloc Wg2 (.cells #[.int .i64 k0.op, .string k0.nm, .int .i64 k0.n, .slice k0.a k0.ks.length k0.c, .int .i64 k1.op, .string k1.nm, .int .i64 k1.n, .slice k1.a k1.ks.length k1.c] 24)
  refine hK.out _ _ (keep12 (by assumption) bg1) (fun hHeld => ?_)
  clear hK
  have Fg1 : Hid (Four (Wg2.alloc (.cells #[.int .i64 k0.op, .string k0.nm, .int .i64 k0.n, .slice k0.a k0.ks.length k0.c, .int .i64 k1.op, .string k1.nm, .int .i64 k1.n, .slice k1.a k1.ks.length k1.c] 24)) Wg2.heap.size 0 k0 ∧ Four (Wg2.alloc (.cells #[.int .i64 k0.op, .string k0.nm, .int .i64 k0.n, .slice k0.a k0.ks.length k0.c, .int .i64 k1.op, .string k1.nm, .int .i64 k1.n, .slice k1.a k1.ks.length k1.c] 24)) Wg2.heap.size 4 k1) := build2 Wg2 k0 k1
  have Gg1 : w.heap.size + 1 < Wg2.heap.size := SZ1
  generalize Wg2.alloc (.cells #[.int .i64 k0.op, .string k0.nm, .int .i64 k0.n, .slice k0.a k0.ks.length k0.c, .int .i64 k1.op, .string k1.nm, .int .i64 k1.n, .slice k1.a k1.ks.length k1.c] 24) = Wg1 at *
  have BW2 := bon BW1 bg1
  have SZ2 : w.heap.size + 1 < Wg1.heap.size := Nat.lt_of_lt_of_le SZ1 bg1.size
  have FR2 := mkHid (FR1.out.later bg1)
  replace Mk0 := mkHid (Mk0.out.later bg1)
  replace Mk1 := mkHid (Mk1.out.later bg1)
  replace Fg2 := mkHid (And.intro (Fg2.out.1.later bg1) (Fg2.out.2.later bg1))
  skip
  refine wpAnyH_ready (rs := [9]) (by kernel_rfl) (by simp) ?_
  refine AllReadyH.cons rfl (fun K hK => ?_) AllReadyH.nil
  go_simp
  go_wp2_with (go_at_call 90; ((with_reducible refine (of_any _ _ _ _ _).mono ?_)); rintro e w3 ⟨rfl, hb3⟩)
  refine hK.out _ _ (keep12 (by assumption) hb3) (fun hHeld => ?_)
  clear hK
  have BW3 := bon BW2 hb3
  have SZ3 : w.heap.size + 1 < w3.heap.size := Nat.lt_of_lt_of_le SZ2 hb3.size
  have FR3 := mkHid (FR2.out.later hb3)
  replace Mk0 := mkHid (Mk0.out.later hb3)
  replace Mk1 := mkHid (Mk1.out.later hb3)
  replace Fg2 := mkHid (And.intro (Fg2.out.1.later hb3) (Fg2.out.2.later hb3))
  replace Fg1 := mkHid (And.intro (Fg1.out.1.later hb3) (Fg1.out.2.later hb3))
  refine wpAnyH_ready (rs := [19]) (by kernel_rfl) (by simp) ?_
  refine AllReadyH.cons rfl (fun K hK => ?_) AllReadyH.nil
  go_simp
  go_wp2_with (go_at_call 90; ((with_reducible refine (of_any _ _ _ _ _).mono ?_)); rintro e w4 ⟨rfl, hb4⟩)
  refine hK.out _ _ (keep12 (by assumption) hb4) (fun hHeld => ?_)
  clear hK
  have BW4 := bon BW3 hb4
  have SZ4 : w.heap.size + 1 < w4.heap.size := Nat.lt_of_lt_of_le SZ3 hb4.size
  have FR4 := mkHid (FR3.out.later hb4)
  replace Mk0 := mkHid (Mk0.out.later hb4)
  replace Mk1 := mkHid (Mk1.out.later hb4)
  replace Fg2 := mkHid (And.intro (Fg2.out.1.later hb4) (Fg2.out.2.later hb4))
  replace Fg1 := mkHid (And.intro (Fg1.out.1.later hb4) (Fg1.out.2.later hb4))
  refine wpAnyH_ready (rs := [20]) (by kernel_rfl) (by simp) ?_
  refine AllReadyH.cons rfl (fun K hK => ?_) AllReadyH.nil
  go_simp
  have bg3 := bel_alloc w4 (.cells #[.int .i64 22, .string ⟨#[]⟩, .int .i64 0, .slice (some ⟨Wg2.heap.size, 0, none⟩) 2 2, .int .i64 22, .string ⟨#[]⟩, .int .i64 0, .slice (some ⟨V.heap.size, 0, none⟩) 2 2] 24)
  refine hK.out _ _ (keep12 (by assumption) bg3) (fun hHeld => ?_)
  clear hK
  have Fg3 : Hid (Four (w4.alloc (.cells #[.int .i64 22, .string ⟨#[]⟩, .int .i64 0, .slice (some ⟨Wg2.heap.size, 0, none⟩) 2 2, .int .i64 22, .string ⟨#[]⟩, .int .i64 0, .slice (some ⟨V.heap.size, 0, none⟩) 2 2] 24)) w4.heap.size 0 (q2 22 Wg2.heap.size k0 k1) ∧ Four (w4.alloc (.cells #[.int .i64 22, .string ⟨#[]⟩, .int .i64 0, .slice (some ⟨Wg2.heap.size, 0, none⟩) 2 2, .int .i64 22, .string ⟨#[]⟩, .int .i64 0, .slice (some ⟨V.heap.size, 0, none⟩) 2 2] 24)) w4.heap.size 4 (q2 22 V.heap.size k1 k0)) := build2 w4 (q2 22 Wg2.heap.size k0 k1) (q2 22 V.heap.size k1 k0)
  have Gg3 : w.heap.size + 1 < w4.heap.size := SZ4
  generalize w4.alloc (.cells #[.int .i64 22, .string ⟨#[]⟩, .int .i64 0, .slice (some ⟨Wg2.heap.size, 0, none⟩) 2 2, .int .i64 22, .string ⟨#[]⟩, .int .i64 0, .slice (some ⟨V.heap.size, 0, none⟩) 2 2] 24) = Wg3 at *
  have BW5 := bon BW4 bg3
  have SZ5 : w.heap.size + 1 < Wg3.heap.size := Nat.lt_of_lt_of_le SZ4 bg3.size
  have FR5 := mkHid (FR4.out.later bg3)
  replace Mk0 := mkHid (Mk0.out.later bg3)
  replace Mk1 := mkHid (Mk1.out.later bg3)
  replace Fg2 := mkHid (And.intro (Fg2.out.1.later bg3) (Fg2.out.2.later bg3))
  replace Fg1 := mkHid (And.intro (Fg1.out.1.later bg3) (Fg1.out.2.later bg3))
  skip
  refine wpAnyH_ready (rs := [21]) (by kernel_rfl) (by simp) ?_
  refine AllReadyH.cons rfl (fun K hK => ?_) AllReadyH.nil
  go_simp
  go_wp2_with (go_at_call 90; ((with_reducible refine (of_any _ _ _ _ _).mono ?_)); rintro e w5 ⟨rfl, hb5⟩)
  refine hK.out _ _ (keep12 (by assumption) hb5) (fun hHeld => ?_)
  clear hK
  have BW6 := bon BW5 hb5
  have SZ6 : w.heap.size + 1 < w5.heap.size := Nat.lt_of_lt_of_le SZ5 hb5.size
  have FR6 := mkHid (FR5.out.later hb5)
  replace Mk0 := mkHid (Mk0.out.later hb5)
  replace Mk1 := mkHid (Mk1.out.later hb5)
  replace Fg2 := mkHid (And.intro (Fg2.out.1.later hb5) (Fg2.out.2.later hb5))
  replace Fg1 := mkHid (And.intro (Fg1.out.1.later hb5) (Fg1.out.2.later hb5))
  replace Fg3 := mkHid (And.intro (Fg3.out.1.later hb5) (Fg3.out.2.later hb5))
  obtain ⟨m0, m1, m2, m3, f0, f1, f2, f3⟩ := FR6.out
  refine wpAnyH_ready (rs := [22]) (by kernel_rfl) (by simp) ?_
  refine AllReadyH.cons rfl (fun K hK => ?_) AllReadyH.nil
  go_simp
  have BS : But (w.heap.size + 1) w5 ((((w5.setCell ⟨w.heap.size + 1, 0, none⟩ (.int .i64 19)).setCell ⟨w.heap.size + 1, 1, none⟩ (.string ⟨#[]⟩)).setCell ⟨w.heap.size + 1, 2, none⟩ (.int .i64 0)).setCell ⟨w.heap.size + 1, 3, none⟩ (.slice (some ⟨w4.heap.size, 0, none⟩) 2 2)) := ((((But.refl _ _).set (p := ⟨w.heap.size + 1, 0, none⟩) (.inl rfl) _).set (p := ⟨w.heap.size + 1, 1, none⟩) (.inl rfl) _).set (p := ⟨w.heap.size + 1, 2, none⟩) (.inl rfl) _).set (p := ⟨w.heap.size + 1, 3, none⟩) (.inl rfl) _
  have HN0 : Hid (w.heap.size ≠ w.heap.size + 1) := Nat.ne_of_lt (Nat.lt_succ_self _)
  have HNb : Hid (b ≠ w.heap.size + 1) := Nat.ne_of_lt (Nat.lt_succ_of_lt hbl)
  refine hK.out _ _ (keep12B (by assumption) BS HN0.out HN0.out HN0.out HN0.out HNb.out HNb.out HNb.out HNb.out HNb.out HNb.out HNb.out HNb.out) (fun hHeld => ?_)
  clear hK hHeld
  refine wpAnyH_done (by kernel_rfl) ?_ _
  go_wp2
  refine bodyPost_ret (v := .agg #[.int .i64 19, .string ⟨#[]⟩, .int .i64 0, .slice (some ⟨w4.heap.size, 0, none⟩) 2 2]) (by simp [results, Tryd.results66, go_sem, m0, m1, m2, m3]) rfl (Mk.fin (x := (q2 19 w4.heap.size (q2 22 Wg2.heap.size k0 k1) (q2 22 V.heap.size k1 k0))) (Mk.two (Mk.two Mk0.out Mk1.out Fg1.out Gg1 (by decide)) (Mk.two Mk1.out Mk0.out Fg2.out Gg2 (by decide)) Fg3.out Gg3 (by decide)) BW6 ?_)
  rw [HFT.out, q2_er, q2_er, q2_er]; all_goals rfl
set_option maxRecDepth 100000 in
set_option maxHeartbeats 4000000 in
theorem aff15 (F : Tm → Tm) (t : Tm) (hop : t.op = 15) (hF : F t = t.er) (w : World) (ht : TIn w w.heap.size t) : Calls Tryd.prog 66 #[t.val] w (BecP F t w) := by
  have HT := mkHid ht
  have HFT := mkHid hF
  clear hF
  have hTV : t.val = t.val := rfl
  obtain ⟨op, nm, n, a, c, ks⟩ := t
  simp only [Tm.op] at hop
  subst hop
  have hb2 : Below w.heap.size w ((w.alloc (.cells #[.int .i64 15, .string nm, .int .i64 n, .slice a ks.length c] 24)).alloc (.cells #[.int .i64 0, .string ⟨#[]⟩, .int .i64 0, .slice none 0 0] 24)) := bal (bal (Below.refl _ _) _) _
  have TT : ((w.alloc (.cells #[.int .i64 15, .string nm, .int .i64 n, .slice a ks.length c] 24)).alloc (.cells #[.int .i64 0, .string ⟨#[]⟩, .int .i64 0, .slice none 0 0] 24)).cell? ⟨w.heap.size, 0, none⟩ = some (.int .i64 15) ∧ ((w.alloc (.cells #[.int .i64 15, .string nm, .int .i64 n, .slice a ks.length c] 24)).alloc (.cells #[.int .i64 0, .string ⟨#[]⟩, .int .i64 0, .slice none 0 0] 24)).cell? ⟨w.heap.size, 1, none⟩ = some (.string nm) ∧ ((w.alloc (.cells #[.int .i64 15, .string nm, .int .i64 n, .slice a ks.length c] 24)).alloc (.cells #[.int .i64 0, .string ⟨#[]⟩, .int .i64 0, .slice none 0 0] 24)).cell? ⟨w.heap.size, 2, none⟩ = some (.int .i64 n) ∧ ((w.alloc (.cells #[.int .i64 15, .string nm, .int .i64 n, .slice a ks.length c] 24)).alloc (.cells #[.int .i64 0, .string ⟨#[]⟩, .int .i64 0, .slice none 0 0] 24)).cell? ⟨w.heap.size, 3, none⟩ = some (.slice a ks.length c) := by simp [go_sem]
  have FR0 : FourV' ((w.alloc (.cells #[.int .i64 15, .string nm, .int .i64 n, .slice a ks.length c] 24)).alloc (.cells #[.int .i64 0, .string ⟨#[]⟩, .int .i64 0, .slice none 0 0] 24)) (w.heap.size + 1) (.int .i64 0) (.string ⟨#[]⟩) (.int .i64 0) (.slice none 0 0) := by simp [FourV', go_sem]
  have hX2 : w.heap.size + 1 < ((w.alloc (.cells #[.int .i64 15, .string nm, .int .i64 n, .slice a ks.length c] 24)).alloc (.cells #[.int .i64 0, .string ⟨#[]⟩, .int .i64 0, .slice none 0 0] 24)).heap.size := by simp
  generalize hW2 : ((w.alloc (.cells #[.int .i64 15, .string nm, .int .i64 n, .slice a ks.length c] 24)).alloc (.cells #[.int .i64 0, .string ⟨#[]⟩, .int .i64 0, .slice none 0 0] 24)) = W2 at *
  unfold Tm.val
  simp only [Tm.op, Tm.nm, Tm.n, Tm.a, Tm.ks, Tm.c]
  obtain ⟨u0, u1, u2, u3⟩ := TT
  have FR := mkHid FR0
  have SZ := hX2
  have BW := hb2
  clear FR0 hX2 hb2 ht hTV
  obtain ⟨m0, m1, m2, m3, f0, f1, f2, f3⟩ := FR.out
  go_enter Tryd.func66, Tryd.ntmps66
  go_wp2_with fail
  refine bodyPost_ret (v := .agg #[.int .i64 15, .string nm, .int .i64 n, .slice a ks.length c]) (by simp [results, Tryd.results66, go_sem, m0, m1, m2, m3]) rfl (Mk.fin (x := (.node 15 nm n a c ks)) (Mk.self HT.out BW) BW ?_)
  rw [HFT.out]
set_option maxRecDepth 100000 in
set_option maxHeartbeats 4000000 in
theorem aff16 (F : Tm → Tm) (t : Tm) (hop : t.op = 16) (hF : F t = t.er) (w : World) (ht : TIn w w.heap.size t) : Calls Tryd.prog 66 #[t.val] w (BecP F t w) := by
  have HT := mkHid ht
  have HFT := mkHid hF
  clear hF
  have hTV : t.val = t.val := rfl
  obtain ⟨op, nm, n, a, c, ks⟩ := t
  simp only [Tm.op] at hop
  subst hop
  have hb2 : Below w.heap.size w ((w.alloc (.cells #[.int .i64 16, .string nm, .int .i64 n, .slice a ks.length c] 24)).alloc (.cells #[.int .i64 0, .string ⟨#[]⟩, .int .i64 0, .slice none 0 0] 24)) := bal (bal (Below.refl _ _) _) _
  have TT : ((w.alloc (.cells #[.int .i64 16, .string nm, .int .i64 n, .slice a ks.length c] 24)).alloc (.cells #[.int .i64 0, .string ⟨#[]⟩, .int .i64 0, .slice none 0 0] 24)).cell? ⟨w.heap.size, 0, none⟩ = some (.int .i64 16) ∧ ((w.alloc (.cells #[.int .i64 16, .string nm, .int .i64 n, .slice a ks.length c] 24)).alloc (.cells #[.int .i64 0, .string ⟨#[]⟩, .int .i64 0, .slice none 0 0] 24)).cell? ⟨w.heap.size, 1, none⟩ = some (.string nm) ∧ ((w.alloc (.cells #[.int .i64 16, .string nm, .int .i64 n, .slice a ks.length c] 24)).alloc (.cells #[.int .i64 0, .string ⟨#[]⟩, .int .i64 0, .slice none 0 0] 24)).cell? ⟨w.heap.size, 2, none⟩ = some (.int .i64 n) ∧ ((w.alloc (.cells #[.int .i64 16, .string nm, .int .i64 n, .slice a ks.length c] 24)).alloc (.cells #[.int .i64 0, .string ⟨#[]⟩, .int .i64 0, .slice none 0 0] 24)).cell? ⟨w.heap.size, 3, none⟩ = some (.slice a ks.length c) := by simp [go_sem]
  have FR0 : FourV' ((w.alloc (.cells #[.int .i64 16, .string nm, .int .i64 n, .slice a ks.length c] 24)).alloc (.cells #[.int .i64 0, .string ⟨#[]⟩, .int .i64 0, .slice none 0 0] 24)) (w.heap.size + 1) (.int .i64 0) (.string ⟨#[]⟩) (.int .i64 0) (.slice none 0 0) := by simp [FourV', go_sem]
  have hX2 : w.heap.size + 1 < ((w.alloc (.cells #[.int .i64 16, .string nm, .int .i64 n, .slice a ks.length c] 24)).alloc (.cells #[.int .i64 0, .string ⟨#[]⟩, .int .i64 0, .slice none 0 0] 24)).heap.size := by simp
  generalize hW2 : ((w.alloc (.cells #[.int .i64 16, .string nm, .int .i64 n, .slice a ks.length c] 24)).alloc (.cells #[.int .i64 0, .string ⟨#[]⟩, .int .i64 0, .slice none 0 0] 24)) = W2 at *
  unfold Tm.val
  simp only [Tm.op, Tm.nm, Tm.n, Tm.a, Tm.ks, Tm.c]
  obtain ⟨u0, u1, u2, u3⟩ := TT
  have FR := mkHid FR0
  have SZ := hX2
  have BW := hb2
  clear FR0 hX2 hb2 ht hTV
  obtain ⟨m0, m1, m2, m3, f0, f1, f2, f3⟩ := FR.out
  go_enter Tryd.func66, Tryd.ntmps66
  go_wp2_with fail
  refine bodyPost_ret (v := .agg #[.int .i64 16, .string nm, .int .i64 n, .slice a ks.length c]) (by simp [results, Tryd.results66, go_sem, m0, m1, m2, m3]) rfl (Mk.fin (x := (.node 16 nm n a c ks)) (Mk.self HT.out BW) BW ?_)
  rw [HFT.out]
set_option maxRecDepth 100000 in
set_option maxHeartbeats 4000000 in
theorem aff17 (F : Tm → Tm) (t : Tm) (hop : t.op = 17) (hF : F t = t.er) (w : World) (ht : TIn w w.heap.size t) : Calls Tryd.prog 66 #[t.val] w (BecP F t w) := by
  have HT := mkHid ht
  have HFT := mkHid hF
  clear hF
  have hTV : t.val = t.val := rfl
  obtain ⟨op, nm, n, a, c, ks⟩ := t
  simp only [Tm.op] at hop
  subst hop
  have hb2 : Below w.heap.size w ((w.alloc (.cells #[.int .i64 17, .string nm, .int .i64 n, .slice a ks.length c] 24)).alloc (.cells #[.int .i64 0, .string ⟨#[]⟩, .int .i64 0, .slice none 0 0] 24)) := bal (bal (Below.refl _ _) _) _
  have TT : ((w.alloc (.cells #[.int .i64 17, .string nm, .int .i64 n, .slice a ks.length c] 24)).alloc (.cells #[.int .i64 0, .string ⟨#[]⟩, .int .i64 0, .slice none 0 0] 24)).cell? ⟨w.heap.size, 0, none⟩ = some (.int .i64 17) ∧ ((w.alloc (.cells #[.int .i64 17, .string nm, .int .i64 n, .slice a ks.length c] 24)).alloc (.cells #[.int .i64 0, .string ⟨#[]⟩, .int .i64 0, .slice none 0 0] 24)).cell? ⟨w.heap.size, 1, none⟩ = some (.string nm) ∧ ((w.alloc (.cells #[.int .i64 17, .string nm, .int .i64 n, .slice a ks.length c] 24)).alloc (.cells #[.int .i64 0, .string ⟨#[]⟩, .int .i64 0, .slice none 0 0] 24)).cell? ⟨w.heap.size, 2, none⟩ = some (.int .i64 n) ∧ ((w.alloc (.cells #[.int .i64 17, .string nm, .int .i64 n, .slice a ks.length c] 24)).alloc (.cells #[.int .i64 0, .string ⟨#[]⟩, .int .i64 0, .slice none 0 0] 24)).cell? ⟨w.heap.size, 3, none⟩ = some (.slice a ks.length c) := by simp [go_sem]
  have FR0 : FourV' ((w.alloc (.cells #[.int .i64 17, .string nm, .int .i64 n, .slice a ks.length c] 24)).alloc (.cells #[.int .i64 0, .string ⟨#[]⟩, .int .i64 0, .slice none 0 0] 24)) (w.heap.size + 1) (.int .i64 0) (.string ⟨#[]⟩) (.int .i64 0) (.slice none 0 0) := by simp [FourV', go_sem]
  have hX2 : w.heap.size + 1 < ((w.alloc (.cells #[.int .i64 17, .string nm, .int .i64 n, .slice a ks.length c] 24)).alloc (.cells #[.int .i64 0, .string ⟨#[]⟩, .int .i64 0, .slice none 0 0] 24)).heap.size := by simp
  generalize hW2 : ((w.alloc (.cells #[.int .i64 17, .string nm, .int .i64 n, .slice a ks.length c] 24)).alloc (.cells #[.int .i64 0, .string ⟨#[]⟩, .int .i64 0, .slice none 0 0] 24)) = W2 at *
  unfold Tm.val
  simp only [Tm.op, Tm.nm, Tm.n, Tm.a, Tm.ks, Tm.c]
  obtain ⟨u0, u1, u2, u3⟩ := TT
  have FR := mkHid FR0
  have SZ := hX2
  have BW := hb2
  clear FR0 hX2 hb2 ht hTV
  obtain ⟨m0, m1, m2, m3, f0, f1, f2, f3⟩ := FR.out
  go_enter Tryd.func66, Tryd.ntmps66
  go_wp2_with fail
  refine bodyPost_ret (v := .agg #[.int .i64 17, .string nm, .int .i64 n, .slice a ks.length c]) (by simp [results, Tryd.results66, go_sem, m0, m1, m2, m3]) rfl (Mk.fin (x := (.node 17 nm n a c ks)) (Mk.self HT.out BW) BW ?_)
  rw [HFT.out]
set_option maxRecDepth 100000 in
set_option maxHeartbeats 4000000 in
theorem aff22 (F : Tm → Tm) (t : Tm) (hop : t.op = 22) (hF : F t = t.er) (w : World) (ht : TIn w w.heap.size t) : Calls Tryd.prog 66 #[t.val] w (BecP F t w) := by
  have HT := mkHid ht
  have HFT := mkHid hF
  clear hF
  have hTV : t.val = t.val := rfl
  obtain ⟨op, nm, n, a, c, ks⟩ := t
  simp only [Tm.op] at hop
  subst hop
  have hb2 : Below w.heap.size w ((w.alloc (.cells #[.int .i64 22, .string nm, .int .i64 n, .slice a ks.length c] 24)).alloc (.cells #[.int .i64 0, .string ⟨#[]⟩, .int .i64 0, .slice none 0 0] 24)) := bal (bal (Below.refl _ _) _) _
  have TT : ((w.alloc (.cells #[.int .i64 22, .string nm, .int .i64 n, .slice a ks.length c] 24)).alloc (.cells #[.int .i64 0, .string ⟨#[]⟩, .int .i64 0, .slice none 0 0] 24)).cell? ⟨w.heap.size, 0, none⟩ = some (.int .i64 22) ∧ ((w.alloc (.cells #[.int .i64 22, .string nm, .int .i64 n, .slice a ks.length c] 24)).alloc (.cells #[.int .i64 0, .string ⟨#[]⟩, .int .i64 0, .slice none 0 0] 24)).cell? ⟨w.heap.size, 1, none⟩ = some (.string nm) ∧ ((w.alloc (.cells #[.int .i64 22, .string nm, .int .i64 n, .slice a ks.length c] 24)).alloc (.cells #[.int .i64 0, .string ⟨#[]⟩, .int .i64 0, .slice none 0 0] 24)).cell? ⟨w.heap.size, 2, none⟩ = some (.int .i64 n) ∧ ((w.alloc (.cells #[.int .i64 22, .string nm, .int .i64 n, .slice a ks.length c] 24)).alloc (.cells #[.int .i64 0, .string ⟨#[]⟩, .int .i64 0, .slice none 0 0] 24)).cell? ⟨w.heap.size, 3, none⟩ = some (.slice a ks.length c) := by simp [go_sem]
  have FR0 : FourV' ((w.alloc (.cells #[.int .i64 22, .string nm, .int .i64 n, .slice a ks.length c] 24)).alloc (.cells #[.int .i64 0, .string ⟨#[]⟩, .int .i64 0, .slice none 0 0] 24)) (w.heap.size + 1) (.int .i64 0) (.string ⟨#[]⟩) (.int .i64 0) (.slice none 0 0) := by simp [FourV', go_sem]
  have hX2 : w.heap.size + 1 < ((w.alloc (.cells #[.int .i64 22, .string nm, .int .i64 n, .slice a ks.length c] 24)).alloc (.cells #[.int .i64 0, .string ⟨#[]⟩, .int .i64 0, .slice none 0 0] 24)).heap.size := by simp
  generalize hW2 : ((w.alloc (.cells #[.int .i64 22, .string nm, .int .i64 n, .slice a ks.length c] 24)).alloc (.cells #[.int .i64 0, .string ⟨#[]⟩, .int .i64 0, .slice none 0 0] 24)) = W2 at *
  unfold Tm.val
  simp only [Tm.op, Tm.nm, Tm.n, Tm.a, Tm.ks, Tm.c]
  obtain ⟨u0, u1, u2, u3⟩ := TT
  have FR := mkHid FR0
  have SZ := hX2
  have BW := hb2
  clear FR0 hX2 hb2 ht hTV
  obtain ⟨m0, m1, m2, m3, f0, f1, f2, f3⟩ := FR.out
  go_enter Tryd.func66, Tryd.ntmps66
  go_wp2_with fail
  refine bodyPost_ret (v := .agg #[.int .i64 22, .string nm, .int .i64 n, .slice a ks.length c]) (by simp [results, Tryd.results66, go_sem, m0, m1, m2, m3]) rfl (Mk.fin (x := (.node 22 nm n a c ks)) (Mk.self HT.out BW) BW ?_)
  rw [HFT.out]
set_option maxRecDepth 100000 in
set_option maxHeartbeats 4000000 in
theorem aff18 (F : Tm → Tm) (t : Tm) (k0 : Tm) (hop : t.op = 18) (hks : t.ks = [k0]) {F0 : Tm → Tm} (Ck : ∀ w' : World, TIn w' w'.heap.size k0 → Calls Tryd.prog 89 #[k0.val] w' (BecP F0 k0 w')) (hF : F t = F0 k0) (w : World) (ht : TIn w w.heap.size t) : Calls Tryd.prog 66 #[t.val] w (BecP F t w) := by
  have HT := mkHid ht
  have HFT := mkHid hF
  clear hF
  have hTV : t.val = t.val := rfl
  obtain ⟨op, nm, n, a, c, ks⟩ := t
  simp only [Tm.op, Tm.ks] at hop hks
  subst hop hks
  obtain ⟨kin0, b, o, ha, hbl, kf0⟩ := ht.kid 0 (by simp [Tm.ks])
  simp only [Tm.a, Tm.ks, List.getElem_cons_zero, Nat.zero_mul, Nat.add_zero] at ha kin0 kf0
  subst ha
  have hb2 : Below w.heap.size w ((w.alloc (.cells #[.int .i64 18, .string nm, .int .i64 n, .slice (some ⟨b, o, none⟩) 1 c] 24)).alloc (.cells #[.int .i64 0, .string ⟨#[]⟩, .int .i64 0, .slice none 0 0] 24)) := bal (bal (Below.refl _ _) _) _
  have TT : ((w.alloc (.cells #[.int .i64 18, .string nm, .int .i64 n, .slice (some ⟨b, o, none⟩) 1 c] 24)).alloc (.cells #[.int .i64 0, .string ⟨#[]⟩, .int .i64 0, .slice none 0 0] 24)).cell? ⟨w.heap.size, 0, none⟩ = some (.int .i64 18) ∧ ((w.alloc (.cells #[.int .i64 18, .string nm, .int .i64 n, .slice (some ⟨b, o, none⟩) 1 c] 24)).alloc (.cells #[.int .i64 0, .string ⟨#[]⟩, .int .i64 0, .slice none 0 0] 24)).cell? ⟨w.heap.size, 1, none⟩ = some (.string nm) ∧ ((w.alloc (.cells #[.int .i64 18, .string nm, .int .i64 n, .slice (some ⟨b, o, none⟩) 1 c] 24)).alloc (.cells #[.int .i64 0, .string ⟨#[]⟩, .int .i64 0, .slice none 0 0] 24)).cell? ⟨w.heap.size, 2, none⟩ = some (.int .i64 n) ∧ ((w.alloc (.cells #[.int .i64 18, .string nm, .int .i64 n, .slice (some ⟨b, o, none⟩) 1 c] 24)).alloc (.cells #[.int .i64 0, .string ⟨#[]⟩, .int .i64 0, .slice none 0 0] 24)).cell? ⟨w.heap.size, 3, none⟩ = some (.slice (some ⟨b, o, none⟩) 1 c) := by simp [go_sem]
  have FR0 : FourV' ((w.alloc (.cells #[.int .i64 18, .string nm, .int .i64 n, .slice (some ⟨b, o, none⟩) 1 c] 24)).alloc (.cells #[.int .i64 0, .string ⟨#[]⟩, .int .i64 0, .slice none 0 0] 24)) (w.heap.size + 1) (.int .i64 0) (.string ⟨#[]⟩) (.int .i64 0) (.slice none 0 0) := by simp [FourV', go_sem]
  have hX2 : w.heap.size + 1 < ((w.alloc (.cells #[.int .i64 18, .string nm, .int .i64 n, .slice (some ⟨b, o, none⟩) 1 c] 24)).alloc (.cells #[.int .i64 0, .string ⟨#[]⟩, .int .i64 0, .slice none 0 0] 24)).heap.size := by simp
  generalize hW2 : ((w.alloc (.cells #[.int .i64 18, .string nm, .int .i64 n, .slice (some ⟨b, o, none⟩) 1 c] 24)).alloc (.cells #[.int .i64 0, .string ⟨#[]⟩, .int .i64 0, .slice none 0 0] 24)) = W2 at *
  obtain ⟨q00, q01, q02, q03⟩ : Four W2 b o k0 := Four.keep kf0 hb2 hbl
  clear kin0 kf0
  unfold Tm.val
  simp only [Tm.op, Tm.nm, Tm.n, Tm.a, Tm.ks, Tm.c, List.length_cons, List.length_nil, Nat.zero_add]
  obtain ⟨u0, u1, u2, u3⟩ := TT
  have FR := mkHid FR0
  have SZ := hX2
  have BW := hb2
  clear FR0 hX2 hb2 ht hTV
  obtain ⟨m0, m1, m2, m3, f0, f1, f2, f3⟩ := FR.out
  have MK : Mk w (.node 18 nm n (some ⟨b, o, none⟩) c [k0]) W2 k0 := Mk.kid HT.out (by simp [Tm.ks]) BW
  have P := mkHid (Ck W2 MK.tin)
  have HMK := mkHid MK
  clear MK Ck
  unfold Tm.val at P
  go_enter Tryd.func66, Tryd.ntmps66
  go_wp2_with fail
  ((with_reducible refine P.out.mono ?_)); rintro e w3 ⟨z, rfl, ze, zt, zw, hb3⟩
  have HZ := mkHid (Mk.call HMK.out SZ zt zw)
  clear m0 m1 m2 m3 f0 f1 f2 f3
  obtain ⟨m0, m1, m2, m3, f0, f1, f2, f3⟩ := FR.out.later hb3
  clear u0 u1 u2 u3 q00 q01 q02 q03 hW2 zt zw P
  unfold Tm.val
  go_wp2
  refine bodyPost_ret (v := .agg #[.int .i64 z.op, .string z.nm, .int .i64 z.n, .slice z.a z.ks.length z.c]) (by simp [results, Tryd.results66, go_sem, m0, m1, m2, m3]) rfl (Mk.fin (x := z) (HZ.out) (bon BW hb3) ?_)
  rw [HFT.out, ze]
set_option maxRecDepth 100000 in
set_option maxHeartbeats 4000000 in
theorem den18 (F : Tm → Tm) (t : Tm) (k0 : Tm) (hop : t.op = 18) (hks : t.ks = [k0]) {F0 : Tm → Tm} (Ck : ∀ w' : World, TIn w' w'.heap.size k0 → Calls Tryd.prog 66 #[k0.val] w' (BecP F0 k0 w')) (hF : F t = F0 k0) (w : World) (ht : TIn w w.heap.size t) : Calls Tryd.prog 89 #[t.val] w (BecP F t w) := by
  have HT := mkHid ht
  have HFT := mkHid hF
  clear hF
  have hTV : t.val = t.val := rfl
  obtain ⟨op, nm, n, a, c, ks⟩ := t
  simp only [Tm.op, Tm.ks] at hop hks
  subst hop hks
  obtain ⟨kin0, b, o, ha, hbl, kf0⟩ := ht.kid 0 (by simp [Tm.ks])
  simp only [Tm.a, Tm.ks, List.getElem_cons_zero, Nat.zero_mul, Nat.add_zero] at ha kin0 kf0
  subst ha
  have hb2 : Below w.heap.size w ((w.alloc (.cells #[.int .i64 18, .string nm, .int .i64 n, .slice (some ⟨b, o, none⟩) 1 c] 24)).alloc (.cells #[.int .i64 0, .string ⟨#[]⟩, .int .i64 0, .slice none 0 0] 24)) := bal (bal (Below.refl _ _) _) _
  have TT : ((w.alloc (.cells #[.int .i64 18, .string nm, .int .i64 n, .slice (some ⟨b, o, none⟩) 1 c] 24)).alloc (.cells #[.int .i64 0, .string ⟨#[]⟩, .int .i64 0, .slice none 0 0] 24)).cell? ⟨w.heap.size, 0, none⟩ = some (.int .i64 18) ∧ ((w.alloc (.cells #[.int .i64 18, .string nm, .int .i64 n, .slice (some ⟨b, o, none⟩) 1 c] 24)).alloc (.cells #[.int .i64 0, .string ⟨#[]⟩, .int .i64 0, .slice none 0 0] 24)).cell? ⟨w.heap.size, 1, none⟩ = some (.string nm) ∧ ((w.alloc (.cells #[.int .i64 18, .string nm, .int .i64 n, .slice (some ⟨b, o, none⟩) 1 c] 24)).alloc (.cells #[.int .i64 0, .string ⟨#[]⟩, .int .i64 0, .slice none 0 0] 24)).cell? ⟨w.heap.size, 2, none⟩ = some (.int .i64 n) ∧ ((w.alloc (.cells #[.int .i64 18, .string nm, .int .i64 n, .slice (some ⟨b, o, none⟩) 1 c] 24)).alloc (.cells #[.int .i64 0, .string ⟨#[]⟩, .int .i64 0, .slice none 0 0] 24)).cell? ⟨w.heap.size, 3, none⟩ = some (.slice (some ⟨b, o, none⟩) 1 c) := by simp [go_sem]
  have FR0 : FourV' ((w.alloc (.cells #[.int .i64 18, .string nm, .int .i64 n, .slice (some ⟨b, o, none⟩) 1 c] 24)).alloc (.cells #[.int .i64 0, .string ⟨#[]⟩, .int .i64 0, .slice none 0 0] 24)) (w.heap.size + 1) (.int .i64 0) (.string ⟨#[]⟩) (.int .i64 0) (.slice none 0 0) := by simp [FourV', go_sem]
  have hX2 : w.heap.size + 1 < ((w.alloc (.cells #[.int .i64 18, .string nm, .int .i64 n, .slice (some ⟨b, o, none⟩) 1 c] 24)).alloc (.cells #[.int .i64 0, .string ⟨#[]⟩, .int .i64 0, .slice none 0 0] 24)).heap.size := by simp
  generalize hW2 : ((w.alloc (.cells #[.int .i64 18, .string nm, .int .i64 n, .slice (some ⟨b, o, none⟩) 1 c] 24)).alloc (.cells #[.int .i64 0, .string ⟨#[]⟩, .int .i64 0, .slice none 0 0] 24)) = W2 at *
  obtain ⟨q00, q01, q02, q03⟩ : Four W2 b o k0 := Four.keep kf0 hb2 hbl
  clear kin0 kf0
  unfold Tm.val
  simp only [Tm.op, Tm.nm, Tm.n, Tm.a, Tm.ks, Tm.c, List.length_cons, List.length_nil, Nat.zero_add]
  obtain ⟨u0, u1, u2, u3⟩ := TT
  have FR := mkHid FR0
  have SZ := hX2
  have BW := hb2
  clear FR0 hX2 hb2 ht hTV
  obtain ⟨m0, m1, m2, m3, f0, f1, f2, f3⟩ := FR.out
  have MK : Mk w (.node 18 nm n (some ⟨b, o, none⟩) c [k0]) W2 k0 := Mk.kid HT.out (by simp [Tm.ks]) BW
  have P := mkHid (Ck W2 MK.tin)
  have HMK := mkHid MK
  clear MK Ck
  unfold Tm.val at P
  go_enter Tryd.func89, Tryd.ntmps89
  go_wp2_with fail
  ((with_reducible refine P.out.mono ?_)); rintro e w3 ⟨z, rfl, ze, zt, zw, hb3⟩
  have HZ := mkHid (Mk.call HMK.out SZ zt zw)
  clear m0 m1 m2 m3 f0 f1 f2 f3
  obtain ⟨m0, m1, m2, m3, f0, f1, f2, f3⟩ := FR.out.later hb3
  clear u0 u1 u2 u3 q00 q01 q02 q03 hW2 zt zw P
  unfold Tm.val
  go_wp2
  refine bodyPost_ret (v := .agg #[.int .i64 z.op, .string z.nm, .int .i64 z.n, .slice z.a z.ks.length z.c]) (by simp [results, Tryd.results89, go_sem, m0, m1, m2, m3]) rfl (Mk.fin (x := z) (HZ.out) (bon BW hb3) ?_)
  rw [HFT.out, ze]
set_option maxRecDepth 100000 in
set_option maxHeartbeats 4000000 in
theorem den16 (F : Tm → Tm) (t : Tm) (hop : t.op = 16) (hF : F t = mkT 17 []) (w : World) (ht : TIn w w.heap.size t) : Calls Tryd.prog 89 #[t.val] w (BecP F t w) := by
  have HT := mkHid ht
  have HFT := mkHid hF
  clear hF
  have hTV : t.val = t.val := rfl
  obtain ⟨op, nm, n, a, c, ks⟩ := t
  simp only [Tm.op] at hop
  subst hop
  have hb2 : Below w.heap.size w ((w.alloc (.cells #[.int .i64 16, .string nm, .int .i64 n, .slice a ks.length c] 24)).alloc (.cells #[.int .i64 0, .string ⟨#[]⟩, .int .i64 0, .slice none 0 0] 24)) := bal (bal (Below.refl _ _) _) _
  have TT : ((w.alloc (.cells #[.int .i64 16, .string nm, .int .i64 n, .slice a ks.length c] 24)).alloc (.cells #[.int .i64 0, .string ⟨#[]⟩, .int .i64 0, .slice none 0 0] 24)).cell? ⟨w.heap.size, 0, none⟩ = some (.int .i64 16) ∧ ((w.alloc (.cells #[.int .i64 16, .string nm, .int .i64 n, .slice a ks.length c] 24)).alloc (.cells #[.int .i64 0, .string ⟨#[]⟩, .int .i64 0, .slice none 0 0] 24)).cell? ⟨w.heap.size, 1, none⟩ = some (.string nm) ∧ ((w.alloc (.cells #[.int .i64 16, .string nm, .int .i64 n, .slice a ks.length c] 24)).alloc (.cells #[.int .i64 0, .string ⟨#[]⟩, .int .i64 0, .slice none 0 0] 24)).cell? ⟨w.heap.size, 2, none⟩ = some (.int .i64 n) ∧ ((w.alloc (.cells #[.int .i64 16, .string nm, .int .i64 n, .slice a ks.length c] 24)).alloc (.cells #[.int .i64 0, .string ⟨#[]⟩, .int .i64 0, .slice none 0 0] 24)).cell? ⟨w.heap.size, 3, none⟩ = some (.slice a ks.length c) := by simp [go_sem]
  have FR0 : FourV' ((w.alloc (.cells #[.int .i64 16, .string nm, .int .i64 n, .slice a ks.length c] 24)).alloc (.cells #[.int .i64 0, .string ⟨#[]⟩, .int .i64 0, .slice none 0 0] 24)) (w.heap.size + 1) (.int .i64 0) (.string ⟨#[]⟩) (.int .i64 0) (.slice none 0 0) := by simp [FourV', go_sem]
  have hX2 : w.heap.size + 1 < ((w.alloc (.cells #[.int .i64 16, .string nm, .int .i64 n, .slice a ks.length c] 24)).alloc (.cells #[.int .i64 0, .string ⟨#[]⟩, .int .i64 0, .slice none 0 0] 24)).heap.size := by simp
  generalize hW2 : ((w.alloc (.cells #[.int .i64 16, .string nm, .int .i64 n, .slice a ks.length c] 24)).alloc (.cells #[.int .i64 0, .string ⟨#[]⟩, .int .i64 0, .slice none 0 0] 24)) = W2 at *
  unfold Tm.val
  simp only [Tm.op, Tm.nm, Tm.n, Tm.a, Tm.ks, Tm.c]
  obtain ⟨u0, u1, u2, u3⟩ := TT
  have FR := mkHid FR0
  have SZ := hX2
  have BW := hb2
  clear FR0 hX2 hb2 ht hTV
  obtain ⟨m0, m1, m2, m3, f0, f1, f2, f3⟩ := FR.out
  go_enter Tryd.func89, Tryd.ntmps89
  go_wp2_with fail
  ((with_reducible refine (of_any _ _ _ _ _).mono ?_)); rintro e w3 ⟨rfl, hb3⟩
  clear m0 m1 m2 m3 f0 f1 f2 f3
  obtain ⟨m0, m1, m2, m3, f0, f1, f2, f3⟩ := FR.out.later hb3
  clear u0 u1 u2 u3 hW2
  go_wp2
  refine bodyPost_ret (v := .agg #[.int .i64 17, .string ⟨#[]⟩, .int .i64 0, .slice none 0 0]) (by simp [results, Tryd.results89, go_sem, m0, m1, m2, m3]) rfl (Mk.fin (x := q0 17) (Mk.nil (by decide)) (bon BW hb3) ?_)
  rw [HFT.out, q0_er]
set_option maxRecDepth 100000 in
set_option maxHeartbeats 4000000 in
theorem den17 (F : Tm → Tm) (t : Tm) (hop : t.op = 17) (hF : F t = mkT 16 []) (w : World) (ht : TIn w w.heap.size t) : Calls Tryd.prog 89 #[t.val] w (BecP F t w) := by
  have HT := mkHid ht
  have HFT := mkHid hF
  clear hF
  have hTV : t.val = t.val := rfl
  obtain ⟨op, nm, n, a, c, ks⟩ := t
  simp only [Tm.op] at hop
  subst hop
  have hb2 : Below w.heap.size w ((w.alloc (.cells #[.int .i64 17, .string nm, .int .i64 n, .slice a ks.length c] 24)).alloc (.cells #[.int .i64 0, .string ⟨#[]⟩, .int .i64 0, .slice none 0 0] 24)) := bal (bal (Below.refl _ _) _) _
  have TT : ((w.alloc (.cells #[.int .i64 17, .string nm, .int .i64 n, .slice a ks.length c] 24)).alloc (.cells #[.int .i64 0, .string ⟨#[]⟩, .int .i64 0, .slice none 0 0] 24)).cell? ⟨w.heap.size, 0, none⟩ = some (.int .i64 17) ∧ ((w.alloc (.cells #[.int .i64 17, .string nm, .int .i64 n, .slice a ks.length c] 24)).alloc (.cells #[.int .i64 0, .string ⟨#[]⟩, .int .i64 0, .slice none 0 0] 24)).cell? ⟨w.heap.size, 1, none⟩ = some (.string nm) ∧ ((w.alloc (.cells #[.int .i64 17, .string nm, .int .i64 n, .slice a ks.length c] 24)).alloc (.cells #[.int .i64 0, .string ⟨#[]⟩, .int .i64 0, .slice none 0 0] 24)).cell? ⟨w.heap.size, 2, none⟩ = some (.int .i64 n) ∧ ((w.alloc (.cells #[.int .i64 17, .string nm, .int .i64 n, .slice a ks.length c] 24)).alloc (.cells #[.int .i64 0, .string ⟨#[]⟩, .int .i64 0, .slice none 0 0] 24)).cell? ⟨w.heap.size, 3, none⟩ = some (.slice a ks.length c) := by simp [go_sem]
  have FR0 : FourV' ((w.alloc (.cells #[.int .i64 17, .string nm, .int .i64 n, .slice a ks.length c] 24)).alloc (.cells #[.int .i64 0, .string ⟨#[]⟩, .int .i64 0, .slice none 0 0] 24)) (w.heap.size + 1) (.int .i64 0) (.string ⟨#[]⟩) (.int .i64 0) (.slice none 0 0) := by simp [FourV', go_sem]
  have hX2 : w.heap.size + 1 < ((w.alloc (.cells #[.int .i64 17, .string nm, .int .i64 n, .slice a ks.length c] 24)).alloc (.cells #[.int .i64 0, .string ⟨#[]⟩, .int .i64 0, .slice none 0 0] 24)).heap.size := by simp
  generalize hW2 : ((w.alloc (.cells #[.int .i64 17, .string nm, .int .i64 n, .slice a ks.length c] 24)).alloc (.cells #[.int .i64 0, .string ⟨#[]⟩, .int .i64 0, .slice none 0 0] 24)) = W2 at *
  unfold Tm.val
  simp only [Tm.op, Tm.nm, Tm.n, Tm.a, Tm.ks, Tm.c]
  obtain ⟨u0, u1, u2, u3⟩ := TT
  have FR := mkHid FR0
  have SZ := hX2
  have BW := hb2
  clear FR0 hX2 hb2 ht hTV
  obtain ⟨m0, m1, m2, m3, f0, f1, f2, f3⟩ := FR.out
  go_enter Tryd.func89, Tryd.ntmps89
  go_wp2_with fail
  ((with_reducible refine (of_any _ _ _ _ _).mono ?_)); rintro e w3 ⟨rfl, hb3⟩
  clear m0 m1 m2 m3 f0 f1 f2 f3
  obtain ⟨m0, m1, m2, m3, f0, f1, f2, f3⟩ := FR.out.later hb3
  clear u0 u1 u2 u3 hW2
  go_wp2
  refine bodyPost_ret (v := .agg #[.int .i64 16, .string ⟨#[]⟩, .int .i64 0, .slice none 0 0]) (by simp [results, Tryd.results89, go_sem, m0, m1, m2, m3]) rfl (Mk.fin (x := q0 16) (Mk.nil (by decide)) (bon BW hb3) ?_)
  rw [HFT.out, q0_er]
end Go.Proofs.YtlobffjgkhcjbaaDoor
