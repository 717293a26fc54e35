/-
  The walks of norm's inside, affirmed and denied, one for each operation.
-/
import Derived.Test.YtlobffjgkhcjbaaDoorNmC
import Derived.BigRegion
import Derived.Deep.RegionHeld2
namespace Go.Proofs.YtlobffjgkhcjbaaDoor
open Go.RowKit

set_option maxRecDepth 100000 in
set_option maxHeartbeats 4000000 in
theorem aff28 (F : Tm → Tm) (t : Tm) (k0 k1 : Tm) (hop : t.op = 28) (hks : t.ks = [k0, k1]) (hF : F t = insT (oneT k0.er) (oneT k1.er)) (w : World) (ht : TIn w w.heap.size t) : Calls Tryd.prog 66 #[t.val] w (BecP F t w) := by
  have HT := mkHid ht
  have HFT := mkHid hF
  clear hF
  have hTV : t.val = t.val := rfl
  obtain ⟨op, nm, n, a, c, ks⟩ := t
  simp only [Tm.op, Tm.ks] at hop hks
  subst hop hks
  obtain ⟨kin0, b, o, ha, hbl, kf0⟩ := ht.kid 0 (by simp [Tm.ks])
  obtain ⟨kin1, b1, o1, ha1, hbl1, kf1⟩ := ht.kid 1 (by simp [Tm.ks])
  simp only [Tm.a, Tm.ks, List.getElem_cons_zero, List.getElem_cons_succ, Nat.zero_mul, Nat.one_mul, Nat.add_zero] at ha kin0 kf0 ha1 kin1 kf1
  subst ha
  cases ha1
  have hb2 : Below w.heap.size w ((w.alloc (.cells #[.int .i64 28, .string nm, .int .i64 n, .slice (some ⟨b, o, none⟩) 2 c] 24)).alloc (.cells #[.int .i64 0, .string ⟨#[]⟩, .int .i64 0, .slice none 0 0] 24)) := bal (bal (Below.refl _ _) _) _
  have TT : ((w.alloc (.cells #[.int .i64 28, .string nm, .int .i64 n, .slice (some ⟨b, o, none⟩) 2 c] 24)).alloc (.cells #[.int .i64 0, .string ⟨#[]⟩, .int .i64 0, .slice none 0 0] 24)).cell? ⟨w.heap.size, 0, none⟩ = some (.int .i64 28) ∧ ((w.alloc (.cells #[.int .i64 28, .string nm, .int .i64 n, .slice (some ⟨b, o, none⟩) 2 c] 24)).alloc (.cells #[.int .i64 0, .string ⟨#[]⟩, .int .i64 0, .slice none 0 0] 24)).cell? ⟨w.heap.size, 1, none⟩ = some (.string nm) ∧ ((w.alloc (.cells #[.int .i64 28, .string nm, .int .i64 n, .slice (some ⟨b, o, none⟩) 2 c] 24)).alloc (.cells #[.int .i64 0, .string ⟨#[]⟩, .int .i64 0, .slice none 0 0] 24)).cell? ⟨w.heap.size, 2, none⟩ = some (.int .i64 n) ∧ ((w.alloc (.cells #[.int .i64 28, .string nm, .int .i64 n, .slice (some ⟨b, o, none⟩) 2 c] 24)).alloc (.cells #[.int .i64 0, .string ⟨#[]⟩, .int .i64 0, .slice none 0 0] 24)).cell? ⟨w.heap.size, 3, none⟩ = some (.slice (some ⟨b, o, none⟩) 2 c) := by simp [go_sem]
  have FR0 : FourV' ((w.alloc (.cells #[.int .i64 28, .string nm, .int .i64 n, .slice (some ⟨b, o, none⟩) 2 c] 24)).alloc (.cells #[.int .i64 0, .string ⟨#[]⟩, .int .i64 0, .slice none 0 0] 24)) (w.heap.size + 1) (.int .i64 0) (.string ⟨#[]⟩) (.int .i64 0) (.slice none 0 0) := by simp [FourV', go_sem]
  have hX2 : w.heap.size + 1 < ((w.alloc (.cells #[.int .i64 28, .string nm, .int .i64 n, .slice (some ⟨b, o, none⟩) 2 c] 24)).alloc (.cells #[.int .i64 0, .string ⟨#[]⟩, .int .i64 0, .slice none 0 0] 24)).heap.size := by simp
  generalize hW2 : ((w.alloc (.cells #[.int .i64 28, .string nm, .int .i64 n, .slice (some ⟨b, o, none⟩) 2 c] 24)).alloc (.cells #[.int .i64 0, .string ⟨#[]⟩, .int .i64 0, .slice none 0 0] 24)) = W2 at *
  obtain ⟨q00, q01, q02, q03⟩ : Four W2 b o k0 := Four.keep kf0 hb2 hbl
  obtain ⟨q10, q11, q12, q13⟩ : Four W2 b (o + 4) k1 := Four.keep kf1 hb2 hbl1
  clear kin0 kf0 kin1 kf1
  unfold Tm.val
  simp only [Tm.op, Tm.nm, Tm.n, Tm.a, Tm.ks, Tm.c, List.length_cons, List.length_nil, Nat.zero_add, Nat.reduceAdd]
  obtain ⟨u0, u1, u2, u3⟩ := TT
  have FR := mkHid FR0
  have SZ := hX2
  have BW := hb2
  clear FR0 hX2 hb2 ht hTV
  go_enter Tryd.func66, Tryd.ntmps66
  go_wp2_with fail
  (try dsimp only [List.append])
  refine wp_region_held_drew (S := fun w' => w'.cell? ⟨w.heap.size, 0, none⟩ = some (.int .i64 28) ∧ w'.cell? ⟨w.heap.size, 1, none⟩ = some (.string nm) ∧ w'.cell? ⟨w.heap.size, 2, none⟩ = some (.int .i64 n) ∧ w'.cell? ⟨w.heap.size, 3, none⟩ = some (.slice (some ⟨b, o, none⟩) 2 c) ∧ w'.cell? ⟨b, o, none⟩ = some (.int .i64 k0.op) ∧ w'.cell? ⟨b, o + 1, none⟩ = some (.string k0.nm) ∧ w'.cell? ⟨b, o + 2, none⟩ = some (.int .i64 k0.n) ∧ w'.cell? ⟨b, o + 3, none⟩ = some (.slice k0.a k0.ks.length k0.c) ∧ w'.cell? ⟨b, o + 4, none⟩ = some (.int .i64 k1.op) ∧ w'.cell? ⟨b, o + 4 + 1, none⟩ = some (.string k1.nm) ∧ w'.cell? ⟨b, o + 4 + 2, none⟩ = some (.int .i64 k1.n) ∧ w'.cell? ⟨b, o + 4 + 3, none⟩ = some (.slice k1.a k1.ks.length k1.c)) (by kernel_rfl) ⟨u0, u1, u2, u3, q00, q01, q02, q03, q10, q11, q12, q13⟩ (fun hHeld => ?_)
  replace FR := mkHid (FR.out.later (bdrew (Below.refl W2.heap.size W2)))
  replace BW := bdrew BW
  replace SZ : w.heap.size + 1 < W2.drew.heap.size := SZ
  clear hW2 u0 u1 u2 u3 q00 q01 q02 q03 q10 q11 q12 q13
  generalize W2.drew = V at *
  refine wpAnyH_take (i := 0) (v := ?_) rfl (by kernel_rfl) (by kernel_rfl) (by kernel_rfl) (fun _ _ _ h => h) (Or.inl ⟨by kernel_rfl, ?_⟩) (by assumption) ?_
  rotate_left
  · (intro w hSw; (try dsimp only at hSw); go_simp; try with_reducible rfl)
  simp only [Act.put, List.getElem_toArray, List.getElem_cons_zero, List.setIfInBounds_toArray, List.set_cons_zero, List.set_cons_succ]
  refine wpAnyH_take (i := 1) (v := ?_) rfl (by kernel_rfl) (by kernel_rfl) (by kernel_rfl) (fun _ _ _ h => h) (Or.inl ⟨by kernel_rfl, ?_⟩) (by assumption) ?_
  rotate_left
  · (intro w hSw; (try dsimp only at hSw); go_simp; try with_reducible rfl)
  simp only [Act.put, List.getElem_toArray, List.getElem_cons_succ, List.getElem_cons_zero, List.setIfInBounds_toArray, List.set_cons_zero, List.set_cons_succ]
  refine wpAnyH_take (i := 2) (v := ?_) rfl (by kernel_rfl) (by kernel_rfl) (by kernel_rfl) (fun _ _ _ h => h) (Or.inl ⟨by kernel_rfl, ?_⟩) (by assumption) ?_
  rotate_left
  · (intro w hSw; (try dsimp only at hSw); go_simp; try with_reducible rfl)
  simp only [Act.put, List.getElem_toArray, List.getElem_cons_succ, List.getElem_cons_zero, List.setIfInBounds_toArray, List.set_cons_zero, List.set_cons_succ]
  refine wpAnyH_take (i := 3) (v := ?_) rfl (by kernel_rfl) (by kernel_rfl) (by kernel_rfl) (fun _ _ _ h => h) (Or.inl ⟨by kernel_rfl, ?_⟩) (by assumption) ?_
  rotate_left
  · (intro w hSw; (try dsimp only at hSw); go_simp; try with_reducible rfl)
  simp only [Act.put, List.getElem_toArray, List.getElem_cons_succ, List.getElem_cons_zero, List.setIfInBounds_toArray, List.set_cons_zero, List.set_cons_succ]
  refine wpAnyH_take (i := 6) (v := ?_) rfl (by kernel_rfl) (by kernel_rfl) (by kernel_rfl) (fun _ _ _ h => h) (Or.inl ⟨by kernel_rfl, ?_⟩) (by assumption) ?_
  rotate_left
  · (intro w hSw; (try dsimp only at hSw); go_simp; try with_reducible rfl)
  simp only [Act.put, List.getElem_toArray, List.getElem_cons_succ, List.getElem_cons_zero, List.setIfInBounds_toArray, List.set_cons_zero, List.set_cons_succ]
  refine wpAnyH_take (i := 7) (v := ?_) rfl (by kernel_rfl) (by kernel_rfl) (by kernel_rfl) (fun _ _ _ h => h) (Or.inl ⟨by kernel_rfl, ?_⟩) (by assumption) ?_
  rotate_left
  · (intro w hSw; (try dsimp only at hSw); go_simp; try with_reducible rfl)
  simp only [Act.put, List.getElem_toArray, List.getElem_cons_succ, List.getElem_cons_zero, List.setIfInBounds_toArray, List.set_cons_zero, List.set_cons_succ]
  refine wpAnyH_take (i := 8) (v := ?_) rfl (by kernel_rfl) (by kernel_rfl) (by kernel_rfl) (fun _ _ _ h => h) (Or.inl ⟨by kernel_rfl, ?_⟩) (by assumption) ?_
  rotate_left
  · (intro w hSw; (try dsimp only at hSw); go_simp; try with_reducible rfl)
  simp only [Act.put, List.getElem_toArray, List.getElem_cons_succ, List.getElem_cons_zero, List.setIfInBounds_toArray, List.set_cons_zero, List.set_cons_succ]
  refine wpAnyH_take (i := 9) (v := ?_) rfl (by kernel_rfl) (by kernel_rfl) (by kernel_rfl) (fun _ _ _ h => h) (Or.inl ⟨by kernel_rfl, ?_⟩) (by assumption) ?_
  rotate_left
  · (intro w hSw; (try dsimp only at hSw); go_simp; try with_reducible rfl)
  simp only [Act.put, List.getElem_toArray, List.getElem_cons_succ, List.getElem_cons_zero, List.setIfInBounds_toArray, List.set_cons_zero, List.set_cons_succ]
  have Mk0 := mkHid (Mk.kid (k := k0) HT.out (by simp [Tm.ks]) BW)
  have Mk1 := mkHid (Mk.kid (k := k1) HT.out (by simp [Tm.ks]) BW)
  refine wpAnyH_ready (rs := [4, 10]) (by kernel_rfl) (by simp) ?_
  refine AllReadyH.cons rfl (fun K hK => ?_) ?_
  · go_simp
    have bg1 := bel_alloc V (.cells #[.int .i64 k0.op, .string k0.nm, .int .i64 k0.n, .slice k0.a k0.ks.length k0.c] 24)
    refine hK.out _ _ (keep12 (by assumption) bg1) (fun hHeld => ?_)
    clear hK
    have Fg1 : Hid (Four (V.alloc (.cells #[.int .i64 k0.op, .string k0.nm, .int .i64 k0.n, .slice k0.a k0.ks.length k0.c] 24)) V.heap.size 0 k0) := build1 V k0
    have Gg1 : w.heap.size + 1 < V.heap.size := SZ
    generalize V.alloc (.cells #[.int .i64 k0.op, .string k0.nm, .int .i64 k0.n, .slice k0.a k0.ks.length k0.c] 24) = Wg1 at *
    have BW1 := bon BW bg1
    have SZ1 : w.heap.size + 1 < Wg1.heap.size := Nat.lt_of_lt_of_le SZ bg1.size
    have FR1 := mkHid (FR.out.later bg1)
    replace Mk0 := mkHid (Mk0.out.later bg1)
    replace Mk1 := mkHid (Mk1.out.later bg1)
    skip
    refine wpAnyH_ready (rs := [5, 10]) (by kernel_rfl) (by simp) ?_
    refine AllReadyH.cons rfl (fun K hK => ?_) ?_
    · go_simp
      go_wp2_with (go_at_call 90; ((with_reducible refine (of_any _ _ _ _ _).mono ?_)); rintro e w3 ⟨rfl, hb3⟩)
      refine hK.out _ _ (keep12 (by assumption) hb3) (fun hHeld => ?_)
      clear hK
      have BW2 := bon BW1 hb3
      have SZ2 : w.heap.size + 1 < w3.heap.size := Nat.lt_of_lt_of_le SZ1 hb3.size
      have FR2 := mkHid (FR1.out.later hb3)
      replace Mk0 := mkHid (Mk0.out.later hb3)
      replace Mk1 := mkHid (Mk1.out.later hb3)
      replace Fg1 := mkHid (Fg1.out.later hb3)
      refine wpAnyH_ready (rs := [10]) (by kernel_rfl) (by simp) ?_
      refine AllReadyH.cons rfl (fun K hK => ?_) AllReadyH.nil
      go_simp
      have bg2 := bel_alloc w3 (.cells #[.int .i64 k1.op, .string k1.nm, .int .i64 k1.n, .slice k1.a k1.ks.length k1.c] 24)
      refine hK.out _ _ (keep12 (by assumption) bg2) (fun hHeld => ?_)
      clear hK
      have Fg2 : Hid (Four (w3.alloc (.cells #[.int .i64 k1.op, .string k1.nm, .int .i64 k1.n, .slice k1.a k1.ks.length k1.c] 24)) w3.heap.size 0 k1) := build1 w3 k1
      have Gg2 : w.heap.size + 1 < w3.heap.size := SZ2
      generalize w3.alloc (.cells #[.int .i64 k1.op, .string k1.nm, .int .i64 k1.n, .slice k1.a k1.ks.length k1.c] 24) = Wg2 at *
      have BW3 := bon BW2 bg2
      have SZ3 : w.heap.size + 1 < Wg2.heap.size := Nat.lt_of_lt_of_le SZ2 bg2.size
      have FR3 := mkHid (FR2.out.later bg2)
      replace Mk0 := mkHid (Mk0.out.later bg2)
      replace Mk1 := mkHid (Mk1.out.later bg2)
      replace Fg1 := mkHid (Fg1.out.later bg2)
      skip
      refine wpAnyH_ready (rs := [11]) (by kernel_rfl) (by simp) ?_
      refine AllReadyH.cons rfl (fun K hK => ?_) AllReadyH.nil
      go_simp
      go_wp2_with (go_at_call 90; ((with_reducible refine (of_any _ _ _ _ _).mono ?_)); rintro e w4 ⟨rfl, hb4⟩)
      refine hK.out _ _ (keep12 (by assumption) hb4) (fun hHeld => ?_)
      clear hK
      have BW4 := bon BW3 hb4
      have SZ4 : w.heap.size + 1 < w4.heap.size := Nat.lt_of_lt_of_le SZ3 hb4.size
      have FR4 := mkHid (FR3.out.later hb4)
      replace Mk0 := mkHid (Mk0.out.later hb4)
      replace Mk1 := mkHid (Mk1.out.later hb4)
      replace Fg1 := mkHid (Fg1.out.later hb4)
      replace Fg2 := mkHid (Fg2.out.later hb4)
      refine wpAnyH_ready (rs := [12]) (by kernel_rfl) (by simp) ?_
      refine AllReadyH.cons rfl (fun K hK => ?_) AllReadyH.nil
      have P5 : Hid (Calls Tryd.prog 92 #[.agg #[.int .i64 10, .string ⟨#[]⟩, .int .i64 0, .slice (some ⟨V.heap.size, 0, none⟩) 1 1], .agg #[.int .i64 10, .string ⟨#[]⟩, .int .i64 0, .slice (some ⟨w3.heap.size, 0, none⟩) 1 1]] w4 (InsP w (.node 28 nm n (some ⟨b, o, none⟩) c [k0, k1]) (q1 10 V.heap.size k0) (q1 10 w3.heap.size k1) w4)) := mkHid (inside_any w (.node 28 nm n (some ⟨b, o, none⟩) c [k0, k1]) (q1 10 V.heap.size k0) (q1 10 w3.heap.size k1) w4 (Mk.one Mk0.out Fg1.out Gg1 (by decide)) (Mk.one Mk1.out Fg2.out Gg2 (by decide)) SZ4)
      go_simp
      go_wp2_with (go_at_call 92; ((with_reducible refine (P5.out).mono ?_)); rintro e w5 ⟨z, rfl, ze, zt, hb5⟩)
      refine hK.out _ _ (keep12 (by assumption) hb5) (fun hHeld => ?_)
      clear hK
      have BW5 := bon BW4 hb5
      have SZ5 : w.heap.size + 1 < w5.heap.size := Nat.lt_of_lt_of_le SZ4 hb5.size
      have FR5 := mkHid (FR4.out.later hb5)
      replace Mk0 := mkHid (Mk0.out.later hb5)
      replace Mk1 := mkHid (Mk1.out.later hb5)
      replace Fg1 := mkHid (Fg1.out.later hb5)
      replace Fg2 := mkHid (Fg2.out.later hb5)
      have Mz := mkHid zt
      unfold Tm.val
      obtain ⟨m0, m1, m2, m3, f0, f1, f2, f3⟩ := FR5.out
      refine wpAnyH_ready (rs := [13]) (by kernel_rfl) (by simp) ?_
      refine AllReadyH.cons rfl (fun K hK => ?_) AllReadyH.nil
      go_simp
      have BS : But (w.heap.size + 1) w5 ((((w5.setCell ⟨w.heap.size + 1, 0, none⟩ (.int .i64 z.op)).setCell ⟨w.heap.size + 1, 1, none⟩ (.string z.nm)).setCell ⟨w.heap.size + 1, 2, none⟩ (.int .i64 z.n)).setCell ⟨w.heap.size + 1, 3, none⟩ (.slice z.a z.ks.length z.c)) := ((((But.refl _ _).set (p := ⟨w.heap.size + 1, 0, none⟩) (.inl rfl) _).set (p := ⟨w.heap.size + 1, 1, none⟩) (.inl rfl) _).set (p := ⟨w.heap.size + 1, 2, none⟩) (.inl rfl) _).set (p := ⟨w.heap.size + 1, 3, none⟩) (.inl rfl) _
      have HN0 : Hid (w.heap.size ≠ w.heap.size + 1) := Nat.ne_of_lt (Nat.lt_succ_self _)
      have HNb : Hid (b ≠ w.heap.size + 1) := Nat.ne_of_lt (Nat.lt_succ_of_lt hbl)
      refine hK.out _ _ (keep12B (by assumption) BS HN0.out HN0.out HN0.out HN0.out HNb.out HNb.out HNb.out HNb.out HNb.out HNb.out HNb.out HNb.out) (fun hHeld => ?_)
      clear hK hHeld
      refine wpAnyH_done (by kernel_rfl) ?_ _
      go_wp2
      refine bodyPost_ret (v := .agg #[.int .i64 z.op, .string z.nm, .int .i64 z.n, .slice z.a z.ks.length z.c]) (by simp [results, Tryd.results66, go_sem, m0, m1, m2, m3]) rfl (Mk.fin (x := z) Mz.out BW5 ?_)
      rw [HFT.out, ze, q1_er, q1_er]; all_goals rfl
    refine AllReadyH.cons rfl (fun K hK => ?_) AllReadyH.nil
    go_simp
    have bg2 := bel_alloc Wg1 (.cells #[.int .i64 k1.op, .string k1.nm, .int .i64 k1.n, .slice k1.a k1.ks.length k1.c] 24)
    refine hK.out _ _ (keep12 (by assumption) bg2) (fun hHeld => ?_)
    clear hK
    have Fg2 : Hid (Four (Wg1.alloc (.cells #[.int .i64 k1.op, .string k1.nm, .int .i64 k1.n, .slice k1.a k1.ks.length k1.c] 24)) Wg1.heap.size 0 k1) := build1 Wg1 k1
    have Gg2 : w.heap.size + 1 < Wg1.heap.size := SZ1
    generalize Wg1.alloc (.cells #[.int .i64 k1.op, .string k1.nm, .int .i64 k1.n, .slice k1.a k1.ks.length k1.c] 24) = Wg2 at *
    have BW2 := bon BW1 bg2
    have SZ2 : w.heap.size + 1 < Wg2.heap.size := Nat.lt_of_lt_of_le SZ1 bg2.size
    have FR2 := mkHid (FR1.out.later bg2)
    replace Mk0 := mkHid (Mk0.out.later bg2)
    replace Mk1 := mkHid (Mk1.out.later bg2)
    replace Fg1 := mkHid (Fg1.out.later bg2)
    skip
    refine wpAnyH_ready (rs := [5]) (by kernel_rfl) (by simp) ?_
    refine AllReadyH.cons rfl (fun K hK => ?_) AllReadyH.nil
    go_simp
    go_wp2_with (go_at_call 90; ((with_reducible refine (of_any _ _ _ _ _).mono ?_)); rintro e w3 ⟨rfl, hb3⟩)
    refine hK.out _ _ (keep12 (by assumption) hb3) (fun hHeld => ?_)
    clear hK
    have BW3 := bon BW2 hb3
    have SZ3 : w.heap.size + 1 < w3.heap.size := Nat.lt_of_lt_of_le SZ2 hb3.size
    have FR3 := mkHid (FR2.out.later hb3)
    replace Mk0 := mkHid (Mk0.out.later hb3)
    replace Mk1 := mkHid (Mk1.out.later hb3)
    replace Fg1 := mkHid (Fg1.out.later hb3)
    replace Fg2 := mkHid (Fg2.out.later hb3)
    refine wpAnyH_ready (rs := [11]) (by kernel_rfl) (by simp) ?_
    refine AllReadyH.cons rfl (fun K hK => ?_) AllReadyH.nil
    go_simp
    go_wp2_with (go_at_call 90; ((with_reducible refine (of_any _ _ _ _ _).mono ?_)); rintro e w4 ⟨rfl, hb4⟩)
    refine hK.out _ _ (keep12 (by assumption) hb4) (fun hHeld => ?_)
    clear hK
    have BW4 := bon BW3 hb4
    have SZ4 : w.heap.size + 1 < w4.heap.size := Nat.lt_of_lt_of_le SZ3 hb4.size
    have FR4 := mkHid (FR3.out.later hb4)
    replace Mk0 := mkHid (Mk0.out.later hb4)
    replace Mk1 := mkHid (Mk1.out.later hb4)
    replace Fg1 := mkHid (Fg1.out.later hb4)
    replace Fg2 := mkHid (Fg2.out.later hb4)
    refine wpAnyH_ready (rs := [12]) (by kernel_rfl) (by simp) ?_
    refine AllReadyH.cons rfl (fun K hK => ?_) AllReadyH.nil
    have P5 : Hid (Calls Tryd.prog 92 #[.agg #[.int .i64 10, .string ⟨#[]⟩, .int .i64 0, .slice (some ⟨V.heap.size, 0, none⟩) 1 1], .agg #[.int .i64 10, .string ⟨#[]⟩, .int .i64 0, .slice (some ⟨Wg1.heap.size, 0, none⟩) 1 1]] w4 (InsP w (.node 28 nm n (some ⟨b, o, none⟩) c [k0, k1]) (q1 10 V.heap.size k0) (q1 10 Wg1.heap.size k1) w4)) := mkHid (inside_any w (.node 28 nm n (some ⟨b, o, none⟩) c [k0, k1]) (q1 10 V.heap.size k0) (q1 10 Wg1.heap.size k1) w4 (Mk.one Mk0.out Fg1.out Gg1 (by decide)) (Mk.one Mk1.out Fg2.out Gg2 (by decide)) SZ4)
    go_simp
    go_wp2_with (go_at_call 92; ((with_reducible refine (P5.out).mono ?_)); rintro e w5 ⟨z, rfl, ze, zt, hb5⟩)
    refine hK.out _ _ (keep12 (by assumption) hb5) (fun hHeld => ?_)
    clear hK
    have BW5 := bon BW4 hb5
    have SZ5 : w.heap.size + 1 < w5.heap.size := Nat.lt_of_lt_of_le SZ4 hb5.size
    have FR5 := mkHid (FR4.out.later hb5)
    replace Mk0 := mkHid (Mk0.out.later hb5)
    replace Mk1 := mkHid (Mk1.out.later hb5)
    replace Fg1 := mkHid (Fg1.out.later hb5)
    replace Fg2 := mkHid (Fg2.out.later hb5)
    have Mz := mkHid zt
    unfold Tm.val
    obtain ⟨m0, m1, m2, m3, f0, f1, f2, f3⟩ := FR5.out
    refine wpAnyH_ready (rs := [13]) (by kernel_rfl) (by simp) ?_
    refine AllReadyH.cons rfl (fun K hK => ?_) AllReadyH.nil
    go_simp
    have BS : But (w.heap.size + 1) w5 ((((w5.setCell ⟨w.heap.size + 1, 0, none⟩ (.int .i64 z.op)).setCell ⟨w.heap.size + 1, 1, none⟩ (.string z.nm)).setCell ⟨w.heap.size + 1, 2, none⟩ (.int .i64 z.n)).setCell ⟨w.heap.size + 1, 3, none⟩ (.slice z.a z.ks.length z.c)) := ((((But.refl _ _).set (p := ⟨w.heap.size + 1, 0, none⟩) (.inl rfl) _).set (p := ⟨w.heap.size + 1, 1, none⟩) (.inl rfl) _).set (p := ⟨w.heap.size + 1, 2, none⟩) (.inl rfl) _).set (p := ⟨w.heap.size + 1, 3, none⟩) (.inl rfl) _
    have HN0 : Hid (w.heap.size ≠ w.heap.size + 1) := Nat.ne_of_lt (Nat.lt_succ_self _)
    have HNb : Hid (b ≠ w.heap.size + 1) := Nat.ne_of_lt (Nat.lt_succ_of_lt hbl)
    refine hK.out _ _ (keep12B (by assumption) BS HN0.out HN0.out HN0.out HN0.out HNb.out HNb.out HNb.out HNb.out HNb.out HNb.out HNb.out HNb.out) (fun hHeld => ?_)
    clear hK hHeld
    refine wpAnyH_done (by kernel_rfl) ?_ _
    go_wp2
    refine bodyPost_ret (v := .agg #[.int .i64 z.op, .string z.nm, .int .i64 z.n, .slice z.a z.ks.length z.c]) (by simp [results, Tryd.results66, go_sem, m0, m1, m2, m3]) rfl (Mk.fin (x := z) Mz.out BW5 ?_)
    rw [HFT.out, ze, q1_er, q1_er]; all_goals rfl
  refine AllReadyH.cons rfl (fun K hK => ?_) AllReadyH.nil
  go_simp
  have bg2 := bel_alloc V (.cells #[.int .i64 k1.op, .string k1.nm, .int .i64 k1.n, .slice k1.a k1.ks.length k1.c] 24)
  refine hK.out _ _ (keep12 (by assumption) bg2) (fun hHeld => ?_)
  clear hK
  have Fg2 : Hid (Four (V.alloc (.cells #[.int .i64 k1.op, .string k1.nm, .int .i64 k1.n, .slice k1.a k1.ks.length k1.c] 24)) V.heap.size 0 k1) := build1 V k1
  have Gg2 : w.heap.size + 1 < V.heap.size := SZ
  generalize V.alloc (.cells #[.int .i64 k1.op, .string k1.nm, .int .i64 k1.n, .slice k1.a k1.ks.length k1.c] 24) = Wg2 at *
  have BW1 := bon BW bg2
  have SZ1 : w.heap.size + 1 < Wg2.heap.size := Nat.lt_of_lt_of_le SZ bg2.size
  have FR1 := mkHid (FR.out.later bg2)
  replace Mk0 := mkHid (Mk0.out.later bg2)
  replace Mk1 := mkHid (Mk1.out.later bg2)
  skip
  refine wpAnyH_ready (rs := [4]) (by kernel_rfl) (by simp) ?_
  refine AllReadyH.cons rfl (fun K hK => ?_) AllReadyH.nil
  go_simp
  have bg1 := bel_alloc Wg2 (.cells #[.int .i64 k0.op, .string k0.nm, .int .i64 k0.n, .slice k0.a k0.ks.length k0.c] 24)
  refine hK.out _ _ (keep12 (by assumption) bg1) (fun hHeld => ?_)
  clear hK
  have Fg1 : Hid (Four (Wg2.alloc (.cells #[.int .i64 k0.op, .string k0.nm, .int .i64 k0.n, .slice k0.a k0.ks.length k0.c] 24)) Wg2.heap.size 0 k0) := build1 Wg2 k0
  have Gg1 : w.heap.size + 1 < Wg2.heap.size := SZ1
  generalize Wg2.alloc (.cells #[.int .i64 k0.op, .string k0.nm, .int .i64 k0.n, .slice k0.a k0.ks.length k0.c] 24) = Wg1 at *
  have BW2 := bon BW1 bg1
  have SZ2 : w.heap.size + 1 < Wg1.heap.size := Nat.lt_of_lt_of_le SZ1 bg1.size
  have FR2 := mkHid (FR1.out.later bg1)
  replace Mk0 := mkHid (Mk0.out.later bg1)
  replace Mk1 := mkHid (Mk1.out.later bg1)
  replace Fg2 := mkHid (Fg2.out.later bg1)
  skip
  refine wpAnyH_ready (rs := [5]) (by kernel_rfl) (by simp) ?_
  refine AllReadyH.cons rfl (fun K hK => ?_) AllReadyH.nil
  go_simp
  go_wp2_with (go_at_call 90; ((with_reducible refine (of_any _ _ _ _ _).mono ?_)); rintro e w3 ⟨rfl, hb3⟩)
  refine hK.out _ _ (keep12 (by assumption) hb3) (fun hHeld => ?_)
  clear hK
  have BW3 := bon BW2 hb3
  have SZ3 : w.heap.size + 1 < w3.heap.size := Nat.lt_of_lt_of_le SZ2 hb3.size
  have FR3 := mkHid (FR2.out.later hb3)
  replace Mk0 := mkHid (Mk0.out.later hb3)
  replace Mk1 := mkHid (Mk1.out.later hb3)
  replace Fg2 := mkHid (Fg2.out.later hb3)
  replace Fg1 := mkHid (Fg1.out.later hb3)
  refine wpAnyH_ready (rs := [11]) (by kernel_rfl) (by simp) ?_
  refine AllReadyH.cons rfl (fun K hK => ?_) AllReadyH.nil
  go_simp
  go_wp2_with (go_at_call 90; ((with_reducible refine (of_any _ _ _ _ _).mono ?_)); rintro e w4 ⟨rfl, hb4⟩)
  refine hK.out _ _ (keep12 (by assumption) hb4) (fun hHeld => ?_)
  clear hK
  have BW4 := bon BW3 hb4
  have SZ4 : w.heap.size + 1 < w4.heap.size := Nat.lt_of_lt_of_le SZ3 hb4.size
  have FR4 := mkHid (FR3.out.later hb4)
  replace Mk0 := mkHid (Mk0.out.later hb4)
  replace Mk1 := mkHid (Mk1.out.later hb4)
  replace Fg2 := mkHid (Fg2.out.later hb4)
  replace Fg1 := mkHid (Fg1.out.later hb4)
  refine wpAnyH_ready (rs := [12]) (by kernel_rfl) (by simp) ?_
  refine AllReadyH.cons rfl (fun K hK => ?_) AllReadyH.nil
  have P5 : Hid (Calls Tryd.prog 92 #[.agg #[.int .i64 10, .string ⟨#[]⟩, .int .i64 0, .slice (some ⟨Wg2.heap.size, 0, none⟩) 1 1], .agg #[.int .i64 10, .string ⟨#[]⟩, .int .i64 0, .slice (some ⟨V.heap.size, 0, none⟩) 1 1]] w4 (InsP w (.node 28 nm n (some ⟨b, o, none⟩) c [k0, k1]) (q1 10 Wg2.heap.size k0) (q1 10 V.heap.size k1) w4)) := mkHid (inside_any w (.node 28 nm n (some ⟨b, o, none⟩) c [k0, k1]) (q1 10 Wg2.heap.size k0) (q1 10 V.heap.size k1) w4 (Mk.one Mk0.out Fg1.out Gg1 (by decide)) (Mk.one Mk1.out Fg2.out Gg2 (by decide)) SZ4)
  go_simp
  go_wp2_with (go_at_call 92; ((with_reducible refine (P5.out).mono ?_)); rintro e w5 ⟨z, rfl, ze, zt, hb5⟩)
  refine hK.out _ _ (keep12 (by assumption) hb5) (fun hHeld => ?_)
  clear hK
  have BW5 := bon BW4 hb5
  have SZ5 : w.heap.size + 1 < w5.heap.size := Nat.lt_of_lt_of_le SZ4 hb5.size
  have FR5 := mkHid (FR4.out.later hb5)
  replace Mk0 := mkHid (Mk0.out.later hb5)
  replace Mk1 := mkHid (Mk1.out.later hb5)
  replace Fg2 := mkHid (Fg2.out.later hb5)
  replace Fg1 := mkHid (Fg1.out.later hb5)
  have Mz := mkHid zt
  unfold Tm.val
  obtain ⟨m0, m1, m2, m3, f0, f1, f2, f3⟩ := FR5.out
  refine wpAnyH_ready (rs := [13]) (by kernel_rfl) (by simp) ?_
  refine AllReadyH.cons rfl (fun K hK => ?_) AllReadyH.nil
  go_simp
  have BS : But (w.heap.size + 1) w5 ((((w5.setCell ⟨w.heap.size + 1, 0, none⟩ (.int .i64 z.op)).setCell ⟨w.heap.size + 1, 1, none⟩ (.string z.nm)).setCell ⟨w.heap.size + 1, 2, none⟩ (.int .i64 z.n)).setCell ⟨w.heap.size + 1, 3, none⟩ (.slice z.a z.ks.length z.c)) := ((((But.refl _ _).set (p := ⟨w.heap.size + 1, 0, none⟩) (.inl rfl) _).set (p := ⟨w.heap.size + 1, 1, none⟩) (.inl rfl) _).set (p := ⟨w.heap.size + 1, 2, none⟩) (.inl rfl) _).set (p := ⟨w.heap.size + 1, 3, none⟩) (.inl rfl) _
  have HN0 : Hid (w.heap.size ≠ w.heap.size + 1) := Nat.ne_of_lt (Nat.lt_succ_self _)
  have HNb : Hid (b ≠ w.heap.size + 1) := Nat.ne_of_lt (Nat.lt_succ_of_lt hbl)
  refine hK.out _ _ (keep12B (by assumption) BS HN0.out HN0.out HN0.out HN0.out HNb.out HNb.out HNb.out HNb.out HNb.out HNb.out HNb.out HNb.out) (fun hHeld => ?_)
  clear hK hHeld
  refine wpAnyH_done (by kernel_rfl) ?_ _
  go_wp2
  refine bodyPost_ret (v := .agg #[.int .i64 z.op, .string z.nm, .int .i64 z.n, .slice z.a z.ks.length z.c]) (by simp [results, Tryd.results66, go_sem, m0, m1, m2, m3]) rfl (Mk.fin (x := z) Mz.out BW5 ?_)
  rw [HFT.out, ze, q1_er, q1_er]; all_goals rfl
set_option maxRecDepth 100000 in
set_option maxHeartbeats 4000000 in
theorem aff27 (F : Tm → Tm) (t : Tm) (k0 k1 : Tm) (hop : t.op = 27) (hks : t.ks = [k0, k1]) (hF : F t = mkT 19 [insT k0.er k1.er, insT k1.er k0.er]) (w : World) (ht : TIn w w.heap.size t) : Calls Tryd.prog 66 #[t.val] w (BecP F t w) := by
  have HT := mkHid ht
  have HFT := mkHid hF
  clear hF
  have hTV : t.val = t.val := rfl
  obtain ⟨op, nm, n, a, c, ks⟩ := t
  simp only [Tm.op, Tm.ks] at hop hks
  subst hop hks
  obtain ⟨kin0, b, o, ha, hbl, kf0⟩ := ht.kid 0 (by simp [Tm.ks])
  obtain ⟨kin1, b1, o1, ha1, hbl1, kf1⟩ := ht.kid 1 (by simp [Tm.ks])
  simp only [Tm.a, Tm.ks, List.getElem_cons_zero, List.getElem_cons_succ, Nat.zero_mul, Nat.one_mul, Nat.add_zero] at ha kin0 kf0 ha1 kin1 kf1
  subst ha
  cases ha1
  have hb2 : Below w.heap.size w ((w.alloc (.cells #[.int .i64 27, .string nm, .int .i64 n, .slice (some ⟨b, o, none⟩) 2 c] 24)).alloc (.cells #[.int .i64 0, .string ⟨#[]⟩, .int .i64 0, .slice none 0 0] 24)) := bal (bal (Below.refl _ _) _) _
  have TT : ((w.alloc (.cells #[.int .i64 27, .string nm, .int .i64 n, .slice (some ⟨b, o, none⟩) 2 c] 24)).alloc (.cells #[.int .i64 0, .string ⟨#[]⟩, .int .i64 0, .slice none 0 0] 24)).cell? ⟨w.heap.size, 0, none⟩ = some (.int .i64 27) ∧ ((w.alloc (.cells #[.int .i64 27, .string nm, .int .i64 n, .slice (some ⟨b, o, none⟩) 2 c] 24)).alloc (.cells #[.int .i64 0, .string ⟨#[]⟩, .int .i64 0, .slice none 0 0] 24)).cell? ⟨w.heap.size, 1, none⟩ = some (.string nm) ∧ ((w.alloc (.cells #[.int .i64 27, .string nm, .int .i64 n, .slice (some ⟨b, o, none⟩) 2 c] 24)).alloc (.cells #[.int .i64 0, .string ⟨#[]⟩, .int .i64 0, .slice none 0 0] 24)).cell? ⟨w.heap.size, 2, none⟩ = some (.int .i64 n) ∧ ((w.alloc (.cells #[.int .i64 27, .string nm, .int .i64 n, .slice (some ⟨b, o, none⟩) 2 c] 24)).alloc (.cells #[.int .i64 0, .string ⟨#[]⟩, .int .i64 0, .slice none 0 0] 24)).cell? ⟨w.heap.size, 3, none⟩ = some (.slice (some ⟨b, o, none⟩) 2 c) := by simp [go_sem]
  have FR0 : FourV' ((w.alloc (.cells #[.int .i64 27, .string nm, .int .i64 n, .slice (some ⟨b, o, none⟩) 2 c] 24)).alloc (.cells #[.int .i64 0, .string ⟨#[]⟩, .int .i64 0, .slice none 0 0] 24)) (w.heap.size + 1) (.int .i64 0) (.string ⟨#[]⟩) (.int .i64 0) (.slice none 0 0) := by simp [FourV', go_sem]
  have hX2 : w.heap.size + 1 < ((w.alloc (.cells #[.int .i64 27, .string nm, .int .i64 n, .slice (some ⟨b, o, none⟩) 2 c] 24)).alloc (.cells #[.int .i64 0, .string ⟨#[]⟩, .int .i64 0, .slice none 0 0] 24)).heap.size := by simp
  generalize hW2 : ((w.alloc (.cells #[.int .i64 27, .string nm, .int .i64 n, .slice (some ⟨b, o, none⟩) 2 c] 24)).alloc (.cells #[.int .i64 0, .string ⟨#[]⟩, .int .i64 0, .slice none 0 0] 24)) = W2 at *
  obtain ⟨q00, q01, q02, q03⟩ : Four W2 b o k0 := Four.keep kf0 hb2 hbl
  obtain ⟨q10, q11, q12, q13⟩ : Four W2 b (o + 4) k1 := Four.keep kf1 hb2 hbl1
  clear kin0 kf0 kin1 kf1
  unfold Tm.val
  simp only [Tm.op, Tm.nm, Tm.n, Tm.a, Tm.ks, Tm.c, List.length_cons, List.length_nil, Nat.zero_add, Nat.reduceAdd]
  obtain ⟨u0, u1, u2, u3⟩ := TT
  have FR := mkHid FR0
  have SZ := hX2
  have BW := hb2
  clear FR0 hX2 hb2 ht hTV
  go_enter Tryd.func66, Tryd.ntmps66
  go_wp2_with fail
  (try dsimp only [List.append])
  refine wp_region_held_drew (S := fun w' => w'.cell? ⟨w.heap.size, 0, none⟩ = some (.int .i64 27) ∧ w'.cell? ⟨w.heap.size, 1, none⟩ = some (.string nm) ∧ w'.cell? ⟨w.heap.size, 2, none⟩ = some (.int .i64 n) ∧ w'.cell? ⟨w.heap.size, 3, none⟩ = some (.slice (some ⟨b, o, none⟩) 2 c) ∧ w'.cell? ⟨b, o, none⟩ = some (.int .i64 k0.op) ∧ w'.cell? ⟨b, o + 1, none⟩ = some (.string k0.nm) ∧ w'.cell? ⟨b, o + 2, none⟩ = some (.int .i64 k0.n) ∧ w'.cell? ⟨b, o + 3, none⟩ = some (.slice k0.a k0.ks.length k0.c) ∧ w'.cell? ⟨b, o + 4, none⟩ = some (.int .i64 k1.op) ∧ w'.cell? ⟨b, o + 4 + 1, none⟩ = some (.string k1.nm) ∧ w'.cell? ⟨b, o + 4 + 2, none⟩ = some (.int .i64 k1.n) ∧ w'.cell? ⟨b, o + 4 + 3, none⟩ = some (.slice k1.a k1.ks.length k1.c)) (by kernel_rfl) ⟨u0, u1, u2, u3, q00, q01, q02, q03, q10, q11, q12, q13⟩ (fun hHeld => ?_)
  replace FR := mkHid (FR.out.later (bdrew (Below.refl W2.heap.size W2)))
  replace BW := bdrew BW
  replace SZ : w.heap.size + 1 < W2.drew.heap.size := SZ
  clear hW2 u0 u1 u2 u3 q00 q01 q02 q03 q10 q11 q12 q13
  generalize W2.drew = V at *
  refine wpAnyH_take (i := 0) (v := ?_) rfl (by kernel_rfl) (by kernel_rfl) (by kernel_rfl) (fun _ _ _ h => h) (Or.inl ⟨by kernel_rfl, ?_⟩) (by assumption) ?_
  rotate_left
  · (intro w hSw; (try dsimp only at hSw); go_simp; try with_reducible rfl)
  simp only [Act.put, List.getElem_toArray, List.getElem_cons_zero, List.setIfInBounds_toArray, List.set_cons_zero, List.set_cons_succ]
  refine wpAnyH_take (i := 1) (v := ?_) rfl (by kernel_rfl) (by kernel_rfl) (by kernel_rfl) (fun _ _ _ h => h) (Or.inl ⟨by kernel_rfl, ?_⟩) (by assumption) ?_
  rotate_left
  · (intro w hSw; (try dsimp only at hSw); go_simp; try with_reducible rfl)
  simp only [Act.put, List.getElem_toArray, List.getElem_cons_succ, List.getElem_cons_zero, List.setIfInBounds_toArray, List.set_cons_zero, List.set_cons_succ]
  refine wpAnyH_take (i := 2) (v := ?_) rfl (by kernel_rfl) (by kernel_rfl) (by kernel_rfl) (fun _ _ _ h => h) (Or.inl ⟨by kernel_rfl, ?_⟩) (by assumption) ?_
  rotate_left
  · (intro w hSw; (try dsimp only at hSw); go_simp; try with_reducible rfl)
  simp only [Act.put, List.getElem_toArray, List.getElem_cons_succ, List.getElem_cons_zero, List.setIfInBounds_toArray, List.set_cons_zero, List.set_cons_succ]
  refine wpAnyH_take (i := 3) (v := ?_) rfl (by kernel_rfl) (by kernel_rfl) (by kernel_rfl) (fun _ _ _ h => h) (Or.inl ⟨by kernel_rfl, ?_⟩) (by assumption) ?_
  rotate_left
  · (intro w hSw; (try dsimp only at hSw); go_simp; try with_reducible rfl)
  simp only [Act.put, List.getElem_toArray, List.getElem_cons_succ, List.getElem_cons_zero, List.setIfInBounds_toArray, List.set_cons_zero, List.set_cons_succ]
  refine wpAnyH_take (i := 4) (v := ?_) rfl (by kernel_rfl) (by kernel_rfl) (by kernel_rfl) (fun _ _ _ h => h) (Or.inl ⟨by kernel_rfl, ?_⟩) (by assumption) ?_
  rotate_left
  · (intro w hSw; (try dsimp only at hSw); go_simp; try with_reducible rfl)
  simp only [Act.put, List.getElem_toArray, List.getElem_cons_succ, List.getElem_cons_zero, List.setIfInBounds_toArray, List.set_cons_zero, List.set_cons_succ]
  refine wpAnyH_take (i := 5) (v := ?_) rfl (by kernel_rfl) (by kernel_rfl) (by kernel_rfl) (fun _ _ _ h => h) (Or.inl ⟨by kernel_rfl, ?_⟩) (by assumption) ?_
  rotate_left
  · (intro w hSw; (try dsimp only at hSw); go_simp; try with_reducible rfl)
  simp only [Act.put, List.getElem_toArray, List.getElem_cons_succ, List.getElem_cons_zero, List.setIfInBounds_toArray, List.set_cons_zero, List.set_cons_succ]
  refine wpAnyH_take (i := 6) (v := ?_) rfl (by kernel_rfl) (by kernel_rfl) (by kernel_rfl) (fun _ _ _ h => h) (Or.inl ⟨by kernel_rfl, ?_⟩) (by assumption) ?_
  rotate_left
  · (intro w hSw; (try dsimp only at hSw); go_simp; try with_reducible rfl)
  simp only [Act.put, List.getElem_toArray, List.getElem_cons_succ, List.getElem_cons_zero, List.setIfInBounds_toArray, List.set_cons_zero, List.set_cons_succ]
  refine wpAnyH_take (i := 7) (v := ?_) rfl (by kernel_rfl) (by kernel_rfl) (by kernel_rfl) (fun _ _ _ h => h) (Or.inl ⟨by kernel_rfl, ?_⟩) (by assumption) ?_
  rotate_left
  · (intro w hSw; (try dsimp only at hSw); go_simp; try with_reducible rfl)
  simp only [Act.put, List.getElem_toArray, List.getElem_cons_succ, List.getElem_cons_zero, List.setIfInBounds_toArray, List.set_cons_zero, List.set_cons_succ]
  refine wpAnyH_take (i := 9) (v := ?_) rfl (by kernel_rfl) (by kernel_rfl) (by kernel_rfl) (fun _ _ _ h => h) (Or.inl ⟨by kernel_rfl, ?_⟩) (by assumption) ?_
  rotate_left
  · (intro w hSw; (try dsimp only at hSw); go_simp; try with_reducible rfl)
  simp only [Act.put, List.getElem_toArray, List.getElem_cons_succ, List.getElem_cons_zero, List.setIfInBounds_toArray, List.set_cons_zero, List.set_cons_succ]
  refine wpAnyH_take (i := 10) (v := ?_) rfl (by kernel_rfl) (by kernel_rfl) (by kernel_rfl) (fun _ _ _ h => h) (Or.inl ⟨by kernel_rfl, ?_⟩) (by assumption) ?_
  rotate_left
  · (intro w hSw; (try dsimp only at hSw); go_simp; try with_reducible rfl)
  simp only [Act.put, List.getElem_toArray, List.getElem_cons_succ, List.getElem_cons_zero, List.setIfInBounds_toArray, List.set_cons_zero, List.set_cons_succ]
  refine wpAnyH_take (i := 11) (v := ?_) rfl (by kernel_rfl) (by kernel_rfl) (by kernel_rfl) (fun _ _ _ h => h) (Or.inl ⟨by kernel_rfl, ?_⟩) (by assumption) ?_
  rotate_left
  · (intro w hSw; (try dsimp only at hSw); go_simp; try with_reducible rfl)
  simp only [Act.put, List.getElem_toArray, List.getElem_cons_succ, List.getElem_cons_zero, List.setIfInBounds_toArray, List.set_cons_zero, List.set_cons_succ]
  refine wpAnyH_take (i := 12) (v := ?_) rfl (by kernel_rfl) (by kernel_rfl) (by kernel_rfl) (fun _ _ _ h => h) (Or.inl ⟨by kernel_rfl, ?_⟩) (by assumption) ?_
  rotate_left
  · (intro w hSw; (try dsimp only at hSw); go_simp; try with_reducible rfl)
  simp only [Act.put, List.getElem_toArray, List.getElem_cons_succ, List.getElem_cons_zero, List.setIfInBounds_toArray, List.set_cons_zero, List.set_cons_succ]
  refine wpAnyH_take (i := 13) (v := ?_) rfl (by kernel_rfl) (by kernel_rfl) (by kernel_rfl) (fun _ _ _ h => h) (Or.inl ⟨by kernel_rfl, ?_⟩) (by assumption) ?_
  rotate_left
  · (intro w hSw; (try dsimp only at hSw); go_simp; try with_reducible rfl)
  simp only [Act.put, List.getElem_toArray, List.getElem_cons_succ, List.getElem_cons_zero, List.setIfInBounds_toArray, List.set_cons_zero, List.set_cons_succ]
  refine wpAnyH_take (i := 14) (v := ?_) rfl (by kernel_rfl) (by kernel_rfl) (by kernel_rfl) (fun _ _ _ h => h) (Or.inl ⟨by kernel_rfl, ?_⟩) (by assumption) ?_
  rotate_left
  · (intro w hSw; (try dsimp only at hSw); go_simp; try with_reducible rfl)
  simp only [Act.put, List.getElem_toArray, List.getElem_cons_succ, List.getElem_cons_zero, List.setIfInBounds_toArray, List.set_cons_zero, List.set_cons_succ]
  refine wpAnyH_take (i := 15) (v := ?_) rfl (by kernel_rfl) (by kernel_rfl) (by kernel_rfl) (fun _ _ _ h => h) (Or.inl ⟨by kernel_rfl, ?_⟩) (by assumption) ?_
  rotate_left
  · (intro w hSw; (try dsimp only at hSw); go_simp; try with_reducible rfl)
  simp only [Act.put, List.getElem_toArray, List.getElem_cons_succ, List.getElem_cons_zero, List.setIfInBounds_toArray, List.set_cons_zero, List.set_cons_succ]
  refine wpAnyH_take (i := 16) (v := ?_) rfl (by kernel_rfl) (by kernel_rfl) (by kernel_rfl) (fun _ _ _ h => h) (Or.inl ⟨by kernel_rfl, ?_⟩) (by assumption) ?_
  rotate_left
  · (intro w hSw; (try dsimp only at hSw); go_simp; try with_reducible rfl)
  simp only [Act.put, List.getElem_toArray, List.getElem_cons_succ, List.getElem_cons_zero, List.setIfInBounds_toArray, List.set_cons_zero, List.set_cons_succ]
  have Mk0 := mkHid (Mk.kid (k := k0) HT.out (by simp [Tm.ks]) BW)
  have Mk1 := mkHid (Mk.kid (k := k1) HT.out (by simp [Tm.ks]) BW)
  refine wpAnyH_ready (rs := [8]) (by kernel_rfl) (by simp) ?_
  refine AllReadyH.cons rfl (fun K hK => ?_) AllReadyH.nil
  have P3 : Hid (Calls Tryd.prog 92 #[.agg #[.int .i64 k0.op, .string k0.nm, .int .i64 k0.n, .slice k0.a k0.ks.length k0.c], .agg #[.int .i64 k1.op, .string k1.nm, .int .i64 k1.n, .slice k1.a k1.ks.length k1.c]] V (InsP w (.node 27 nm n (some ⟨b, o, none⟩) c [k0, k1]) k0 k1 V)) := mkHid (inside_any w (.node 27 nm n (some ⟨b, o, none⟩) c [k0, k1]) k0 k1 V Mk0.out Mk1.out SZ)
  go_simp
  go_wp2_with (go_at_call 92; ((with_reducible refine (P3.out).mono ?_)); rintro e w3 ⟨z, rfl, ze, zt, hb3⟩)
  refine hK.out _ _ (keep12 (by assumption) hb3) (fun hHeld => ?_)
  clear hK
  have BW1 := bon BW hb3
  have SZ1 : w.heap.size + 1 < w3.heap.size := Nat.lt_of_lt_of_le SZ hb3.size
  have FR1 := mkHid (FR.out.later hb3)
  replace Mk0 := mkHid (Mk0.out.later hb3)
  replace Mk1 := mkHid (Mk1.out.later hb3)
  have Mz := mkHid zt
  unfold Tm.val
  refine wpAnyH_ready (rs := [17]) (by kernel_rfl) (by simp) ?_
  refine AllReadyH.cons rfl (fun K hK => ?_) AllReadyH.nil
  have P4 : Hid (Calls Tryd.prog 92 #[.agg #[.int .i64 k1.op, .string k1.nm, .int .i64 k1.n, .slice k1.a k1.ks.length k1.c], .agg #[.int .i64 k0.op, .string k0.nm, .int .i64 k0.n, .slice k0.a k0.ks.length k0.c]] w3 (InsP w (.node 27 nm n (some ⟨b, o, none⟩) c [k0, k1]) k1 k0 w3)) := mkHid (inside_any w (.node 27 nm n (some ⟨b, o, none⟩) c [k0, k1]) k1 k0 w3 Mk1.out Mk0.out SZ1)
  go_simp
  go_wp2_with (go_at_call 92; ((with_reducible refine (P4.out).mono ?_)); rintro e w4 ⟨y, rfl, ye, yt, hb4⟩)
  refine hK.out _ _ (keep12 (by assumption) hb4) (fun hHeld => ?_)
  clear hK
  have BW2 := bon BW1 hb4
  have SZ2 : w.heap.size + 1 < w4.heap.size := Nat.lt_of_lt_of_le SZ1 hb4.size
  have FR2 := mkHid (FR1.out.later hb4)
  replace Mk0 := mkHid (Mk0.out.later hb4)
  replace Mk1 := mkHid (Mk1.out.later hb4)
  replace Mz := mkHid (Mz.out.later hb4)
  have My := mkHid yt
  unfold Tm.val
  refine wpAnyH_ready (rs := [18]) (by kernel_rfl) (by simp) ?_
  refine AllReadyH.cons rfl (fun K hK => ?_) AllReadyH.nil
  go_simp
  have bg1 := bel_alloc w4 (.cells #[.int .i64 z.op, .string z.nm, .int .i64 z.n, .slice z.a z.ks.length z.c, .int .i64 y.op, .string y.nm, .int .i64 y.n, .slice y.a y.ks.length y.c] 24)
  refine hK.out _ _ (keep12 (by assumption) bg1) (fun hHeld => ?_)
  clear hK
  have Fg1 : Hid (Four (w4.alloc (.cells #[.int .i64 z.op, .string z.nm, .int .i64 z.n, .slice z.a z.ks.length z.c, .int .i64 y.op, .string y.nm, .int .i64 y.n, .slice y.a y.ks.length y.c] 24)) w4.heap.size 0 z ∧ Four (w4.alloc (.cells #[.int .i64 z.op, .string z.nm, .int .i64 z.n, .slice z.a z.ks.length z.c, .int .i64 y.op, .string y.nm, .int .i64 y.n, .slice y.a y.ks.length y.c] 24)) w4.heap.size 4 y) := build2 w4 z y
  have Gg1 : w.heap.size + 1 < w4.heap.size := SZ2
  generalize w4.alloc (.cells #[.int .i64 z.op, .string z.nm, .int .i64 z.n, .slice z.a z.ks.length z.c, .int .i64 y.op, .string y.nm, .int .i64 y.n, .slice y.a y.ks.length y.c] 24) = Wg1 at *
  have BW3 := bon BW2 bg1
  have SZ3 : w.heap.size + 1 < Wg1.heap.size := Nat.lt_of_lt_of_le SZ2 bg1.size
  have FR3 := mkHid (FR2.out.later bg1)
  replace Mk0 := mkHid (Mk0.out.later bg1)
  replace Mk1 := mkHid (Mk1.out.later bg1)
  replace Mz := mkHid (Mz.out.later bg1)
  replace My := mkHid (My.out.later bg1)
  skip
  refine wpAnyH_ready (rs := [19]) (by kernel_rfl) (by simp) ?_
  refine AllReadyH.cons rfl (fun K hK => ?_) AllReadyH.nil
  go_simp
  go_wp2_with (go_at_call 90; ((with_reducible refine (of_any _ _ _ _ _).mono ?_)); rintro e w5 ⟨rfl, hb5⟩)
  refine hK.out _ _ (keep12 (by assumption) hb5) (fun hHeld => ?_)
  clear hK
  have BW4 := bon BW3 hb5
  have SZ4 : w.heap.size + 1 < w5.heap.size := Nat.lt_of_lt_of_le SZ3 hb5.size
  have FR4 := mkHid (FR3.out.later hb5)
  replace Mk0 := mkHid (Mk0.out.later hb5)
  replace Mk1 := mkHid (Mk1.out.later hb5)
  replace Mz := mkHid (Mz.out.later hb5)
  replace My := mkHid (My.out.later hb5)
  replace Fg1 := mkHid (And.intro (Fg1.out.1.later hb5) (Fg1.out.2.later hb5))
  obtain ⟨m0, m1, m2, m3, f0, f1, f2, f3⟩ := FR4.out
  refine wpAnyH_ready (rs := [20]) (by kernel_rfl) (by simp) ?_
  refine AllReadyH.cons rfl (fun K hK => ?_) AllReadyH.nil
  go_simp
  have BS : But (w.heap.size + 1) w5 ((((w5.setCell ⟨w.heap.size + 1, 0, none⟩ (.int .i64 19)).setCell ⟨w.heap.size + 1, 1, none⟩ (.string ⟨#[]⟩)).setCell ⟨w.heap.size + 1, 2, none⟩ (.int .i64 0)).setCell ⟨w.heap.size + 1, 3, none⟩ (.slice (some ⟨w4.heap.size, 0, none⟩) 2 2)) := ((((But.refl _ _).set (p := ⟨w.heap.size + 1, 0, none⟩) (.inl rfl) _).set (p := ⟨w.heap.size + 1, 1, none⟩) (.inl rfl) _).set (p := ⟨w.heap.size + 1, 2, none⟩) (.inl rfl) _).set (p := ⟨w.heap.size + 1, 3, none⟩) (.inl rfl) _
  have HN0 : Hid (w.heap.size ≠ w.heap.size + 1) := Nat.ne_of_lt (Nat.lt_succ_self _)
  have HNb : Hid (b ≠ w.heap.size + 1) := Nat.ne_of_lt (Nat.lt_succ_of_lt hbl)
  refine hK.out _ _ (keep12B (by assumption) BS HN0.out HN0.out HN0.out HN0.out HNb.out HNb.out HNb.out HNb.out HNb.out HNb.out HNb.out HNb.out) (fun hHeld => ?_)
  clear hK hHeld
  refine wpAnyH_done (by kernel_rfl) ?_ _
  go_wp2
  refine bodyPost_ret (v := .agg #[.int .i64 19, .string ⟨#[]⟩, .int .i64 0, .slice (some ⟨w4.heap.size, 0, none⟩) 2 2]) (by simp [results, Tryd.results66, go_sem, m0, m1, m2, m3]) rfl (Mk.fin (x := (q2 19 w4.heap.size z y)) (Mk.two Mz.out My.out Fg1.out Gg1 (by decide)) BW4 ?_)
  rw [HFT.out, q2_er, ze, ye]; all_goals rfl
set_option maxRecDepth 100000 in
set_option maxHeartbeats 4000000 in
theorem aff21 (F : Tm → Tm) (t : Tm) (k0 k1 : Tm) (hop : t.op = 21) (hks : t.ks = [k0, k1]) {F0 F1 : Tm → Tm} (Ck0' : ∀ w' : World, TIn w' w'.heap.size k0 → Calls Tryd.prog 89 #[k0.val] w' (BecP F0 k0 w')) (Ck1' : ∀ w' : World, TIn w' w'.heap.size k1 → Calls Tryd.prog 66 #[k1.val] w' (BecP F1 k1 w')) (hF : F t = mkT 20 [F0 k0, F1 k1]) (w : World) (ht : TIn w w.heap.size t) : Calls Tryd.prog 66 #[t.val] w (BecP F t w) := by
  have HT := mkHid ht
  have HFT := mkHid hF
  clear hF
  have hTV : t.val = t.val := rfl
  obtain ⟨op, nm, n, a, c, ks⟩ := t
  simp only [Tm.op, Tm.ks] at hop hks
  subst hop hks
  obtain ⟨kin0, b, o, ha, hbl, kf0⟩ := ht.kid 0 (by simp [Tm.ks])
  obtain ⟨kin1, b1, o1, ha1, hbl1, kf1⟩ := ht.kid 1 (by simp [Tm.ks])
  simp only [Tm.a, Tm.ks, List.getElem_cons_zero, List.getElem_cons_succ, Nat.zero_mul, Nat.one_mul, Nat.add_zero] at ha kin0 kf0 ha1 kin1 kf1
  subst ha
  cases ha1
  have hb2 : Below w.heap.size w ((w.alloc (.cells #[.int .i64 21, .string nm, .int .i64 n, .slice (some ⟨b, o, none⟩) 2 c] 24)).alloc (.cells #[.int .i64 0, .string ⟨#[]⟩, .int .i64 0, .slice none 0 0] 24)) := bal (bal (Below.refl _ _) _) _
  have TT : ((w.alloc (.cells #[.int .i64 21, .string nm, .int .i64 n, .slice (some ⟨b, o, none⟩) 2 c] 24)).alloc (.cells #[.int .i64 0, .string ⟨#[]⟩, .int .i64 0, .slice none 0 0] 24)).cell? ⟨w.heap.size, 0, none⟩ = some (.int .i64 21) ∧ ((w.alloc (.cells #[.int .i64 21, .string nm, .int .i64 n, .slice (some ⟨b, o, none⟩) 2 c] 24)).alloc (.cells #[.int .i64 0, .string ⟨#[]⟩, .int .i64 0, .slice none 0 0] 24)).cell? ⟨w.heap.size, 1, none⟩ = some (.string nm) ∧ ((w.alloc (.cells #[.int .i64 21, .string nm, .int .i64 n, .slice (some ⟨b, o, none⟩) 2 c] 24)).alloc (.cells #[.int .i64 0, .string ⟨#[]⟩, .int .i64 0, .slice none 0 0] 24)).cell? ⟨w.heap.size, 2, none⟩ = some (.int .i64 n) ∧ ((w.alloc (.cells #[.int .i64 21, .string nm, .int .i64 n, .slice (some ⟨b, o, none⟩) 2 c] 24)).alloc (.cells #[.int .i64 0, .string ⟨#[]⟩, .int .i64 0, .slice none 0 0] 24)).cell? ⟨w.heap.size, 3, none⟩ = some (.slice (some ⟨b, o, none⟩) 2 c) := by simp [go_sem]
  have FR0 : FourV' ((w.alloc (.cells #[.int .i64 21, .string nm, .int .i64 n, .slice (some ⟨b, o, none⟩) 2 c] 24)).alloc (.cells #[.int .i64 0, .string ⟨#[]⟩, .int .i64 0, .slice none 0 0] 24)) (w.heap.size + 1) (.int .i64 0) (.string ⟨#[]⟩) (.int .i64 0) (.slice none 0 0) := by simp [FourV', go_sem]
  have hX2 : w.heap.size + 1 < ((w.alloc (.cells #[.int .i64 21, .string nm, .int .i64 n, .slice (some ⟨b, o, none⟩) 2 c] 24)).alloc (.cells #[.int .i64 0, .string ⟨#[]⟩, .int .i64 0, .slice none 0 0] 24)).heap.size := by simp
  generalize hW2 : ((w.alloc (.cells #[.int .i64 21, .string nm, .int .i64 n, .slice (some ⟨b, o, none⟩) 2 c] 24)).alloc (.cells #[.int .i64 0, .string ⟨#[]⟩, .int .i64 0, .slice none 0 0] 24)) = W2 at *
  obtain ⟨q00, q01, q02, q03⟩ : Four W2 b o k0 := Four.keep kf0 hb2 hbl
  obtain ⟨q10, q11, q12, q13⟩ : Four W2 b (o + 4) k1 := Four.keep kf1 hb2 hbl1
  clear kin0 kf0 kin1 kf1
  unfold Tm.val
  simp only [Tm.op, Tm.nm, Tm.n, Tm.a, Tm.ks, Tm.c, List.length_cons, List.length_nil, Nat.zero_add, Nat.reduceAdd]
  obtain ⟨u0, u1, u2, u3⟩ := TT
  have FR := mkHid FR0
  have SZ := hX2
  have BW := hb2
  clear FR0 hX2 hb2 ht hTV
  go_enter Tryd.func66, Tryd.ntmps66
  go_wp2_with fail
  (try dsimp only [List.append])
  refine wp_region_held_drew (S := fun w' => w'.cell? ⟨w.heap.size, 0, none⟩ = some (.int .i64 21) ∧ w'.cell? ⟨w.heap.size, 1, none⟩ = some (.string nm) ∧ w'.cell? ⟨w.heap.size, 2, none⟩ = some (.int .i64 n) ∧ w'.cell? ⟨w.heap.size, 3, none⟩ = some (.slice (some ⟨b, o, none⟩) 2 c) ∧ w'.cell? ⟨b, o, none⟩ = some (.int .i64 k0.op) ∧ w'.cell? ⟨b, o + 1, none⟩ = some (.string k0.nm) ∧ w'.cell? ⟨b, o + 2, none⟩ = some (.int .i64 k0.n) ∧ w'.cell? ⟨b, o + 3, none⟩ = some (.slice k0.a k0.ks.length k0.c) ∧ w'.cell? ⟨b, o + 4, none⟩ = some (.int .i64 k1.op) ∧ w'.cell? ⟨b, o + 4 + 1, none⟩ = some (.string k1.nm) ∧ w'.cell? ⟨b, o + 4 + 2, none⟩ = some (.int .i64 k1.n) ∧ w'.cell? ⟨b, o + 4 + 3, none⟩ = some (.slice k1.a k1.ks.length k1.c)) (by kernel_rfl) ⟨u0, u1, u2, u3, q00, q01, q02, q03, q10, q11, q12, q13⟩ (fun hHeld => ?_)
  replace FR := mkHid (FR.out.later (bdrew (Below.refl W2.heap.size W2)))
  replace BW := bdrew BW
  replace SZ : w.heap.size + 1 < W2.drew.heap.size := SZ
  clear hW2 u0 u1 u2 u3 q00 q01 q02 q03 q10 q11 q12 q13
  generalize W2.drew = V at *
  have Ck0 := mkHid Ck0'
  have Ck1 := mkHid Ck1'
  clear Ck0' Ck1'
  refine wpAnyH_take (i := 0) (v := ?_) rfl (by kernel_rfl) (by kernel_rfl) (by kernel_rfl) (fun _ _ _ h => h) (Or.inl ⟨by kernel_rfl, ?_⟩) (by assumption) ?_
  rotate_left
  · (intro w hSw; (try dsimp only at hSw); go_simp; try with_reducible rfl)
  simp only [Act.put, List.getElem_toArray, List.getElem_cons_zero, List.setIfInBounds_toArray, List.set_cons_zero, List.set_cons_succ]
  refine wpAnyH_take (i := 1) (v := ?_) rfl (by kernel_rfl) (by kernel_rfl) (by kernel_rfl) (fun _ _ _ h => h) (Or.inl ⟨by kernel_rfl, ?_⟩) (by assumption) ?_
  rotate_left
  · (intro w hSw; (try dsimp only at hSw); go_simp; try with_reducible rfl)
  simp only [Act.put, List.getElem_toArray, List.getElem_cons_succ, List.getElem_cons_zero, List.setIfInBounds_toArray, List.set_cons_zero, List.set_cons_succ]
  refine wpAnyH_take (i := 2) (v := ?_) rfl (by kernel_rfl) (by kernel_rfl) (by kernel_rfl) (fun _ _ _ h => h) (Or.inl ⟨by kernel_rfl, ?_⟩) (by assumption) ?_
  rotate_left
  · (intro w hSw; (try dsimp only at hSw); go_simp; try with_reducible rfl)
  simp only [Act.put, List.getElem_toArray, List.getElem_cons_succ, List.getElem_cons_zero, List.setIfInBounds_toArray, List.set_cons_zero, List.set_cons_succ]
  refine wpAnyH_take (i := 3) (v := ?_) rfl (by kernel_rfl) (by kernel_rfl) (by kernel_rfl) (fun _ _ _ h => h) (Or.inl ⟨by kernel_rfl, ?_⟩) (by assumption) ?_
  rotate_left
  · (intro w hSw; (try dsimp only at hSw); go_simp; try with_reducible rfl)
  simp only [Act.put, List.getElem_toArray, List.getElem_cons_succ, List.getElem_cons_zero, List.setIfInBounds_toArray, List.set_cons_zero, List.set_cons_succ]
  refine wpAnyH_take (i := 5) (v := ?_) rfl (by kernel_rfl) (by kernel_rfl) (by kernel_rfl) (fun _ _ _ h => h) (Or.inl ⟨by kernel_rfl, ?_⟩) (by assumption) ?_
  rotate_left
  · (intro w hSw; (try dsimp only at hSw); go_simp; try with_reducible rfl)
  simp only [Act.put, List.getElem_toArray, List.getElem_cons_succ, List.getElem_cons_zero, List.setIfInBounds_toArray, List.set_cons_zero, List.set_cons_succ]
  refine wpAnyH_take (i := 6) (v := ?_) rfl (by kernel_rfl) (by kernel_rfl) (by kernel_rfl) (fun _ _ _ h => h) (Or.inl ⟨by kernel_rfl, ?_⟩) (by assumption) ?_
  rotate_left
  · (intro w hSw; (try dsimp only at hSw); go_simp; try with_reducible rfl)
  simp only [Act.put, List.getElem_toArray, List.getElem_cons_succ, List.getElem_cons_zero, List.setIfInBounds_toArray, List.set_cons_zero, List.set_cons_succ]
  refine wpAnyH_take (i := 7) (v := ?_) rfl (by kernel_rfl) (by kernel_rfl) (by kernel_rfl) (fun _ _ _ h => h) (Or.inl ⟨by kernel_rfl, ?_⟩) (by assumption) ?_
  rotate_left
  · (intro w hSw; (try dsimp only at hSw); go_simp; try with_reducible rfl)
  simp only [Act.put, List.getElem_toArray, List.getElem_cons_succ, List.getElem_cons_zero, List.setIfInBounds_toArray, List.set_cons_zero, List.set_cons_succ]
  refine wpAnyH_take (i := 8) (v := ?_) rfl (by kernel_rfl) (by kernel_rfl) (by kernel_rfl) (fun _ _ _ h => h) (Or.inl ⟨by kernel_rfl, ?_⟩) (by assumption) ?_
  rotate_left
  · (intro w hSw; (try dsimp only at hSw); go_simp; try with_reducible rfl)
  simp only [Act.put, List.getElem_toArray, List.getElem_cons_succ, List.getElem_cons_zero, List.setIfInBounds_toArray, List.set_cons_zero, List.set_cons_succ]
  have Mk0 := mkHid (Mk.kid (k := k0) HT.out (by simp [Tm.ks]) BW)
  have Mk1 := mkHid (Mk.kid (k := k1) HT.out (by simp [Tm.ks]) BW)
  refine wpAnyH_ready (rs := [4]) (by kernel_rfl) (by simp) ?_
  refine AllReadyH.cons rfl (fun K hK => ?_) AllReadyH.nil
  have P3 := mkHid (Ck0.out V Mk0.out.tin)
  unfold Tm.val at P3
  go_simp
  go_wp2_with (go_at_call 89; ((with_reducible refine (P3.out).mono ?_)); rintro e w3 ⟨z, rfl, ze, zt, zw, hb3⟩)
  refine hK.out _ _ (keep12 (by assumption) hb3) (fun hHeld => ?_)
  clear hK
  have BW1 := bon BW hb3
  have SZ1 : w.heap.size + 1 < w3.heap.size := Nat.lt_of_lt_of_le SZ hb3.size
  have FR1 := mkHid (FR.out.later hb3)
  replace Mk0 := mkHid (Mk0.out.later hb3)
  replace Mk1 := mkHid (Mk1.out.later hb3)
  have Mz := mkHid (Mk.call (wc := V) (Mk.kid HT.out (by simp [Tm.ks]) BW) SZ zt zw)
  unfold Tm.val
  refine wpAnyH_ready (rs := [9]) (by kernel_rfl) (by simp) ?_
  refine AllReadyH.cons rfl (fun K hK => ?_) AllReadyH.nil
  have P4 := mkHid (Ck1.out w3 Mk1.out.tin)
  unfold Tm.val at P4
  go_simp
  go_wp2_with (go_at_call 66; ((with_reducible refine (P4.out).mono ?_)); rintro e w4 ⟨y, rfl, ye, yt, yw, hb4⟩)
  refine hK.out _ _ (keep12 (by assumption) hb4) (fun hHeld => ?_)
  clear hK
  have BW2 := bon BW1 hb4
  have SZ2 : w.heap.size + 1 < w4.heap.size := Nat.lt_of_lt_of_le SZ1 hb4.size
  have FR2 := mkHid (FR1.out.later hb4)
  replace Mk0 := mkHid (Mk0.out.later hb4)
  replace Mk1 := mkHid (Mk1.out.later hb4)
  replace Mz := mkHid (Mz.out.later hb4)
  have My := mkHid (Mk.call (wc := w3) (Mk.kid HT.out (by simp [Tm.ks]) BW1) SZ1 yt yw)
  unfold Tm.val
  refine wpAnyH_ready (rs := [10]) (by kernel_rfl) (by simp) ?_
  refine AllReadyH.cons rfl (fun K hK => ?_) AllReadyH.nil
  go_simp
  have bg1 := bel_alloc w4 (.cells #[.int .i64 z.op, .string z.nm, .int .i64 z.n, .slice z.a z.ks.length z.c, .int .i64 y.op, .string y.nm, .int .i64 y.n, .slice y.a y.ks.length y.c] 24)
  refine hK.out _ _ (keep12 (by assumption) bg1) (fun hHeld => ?_)
  clear hK
  have Fg1 : Hid (Four (w4.alloc (.cells #[.int .i64 z.op, .string z.nm, .int .i64 z.n, .slice z.a z.ks.length z.c, .int .i64 y.op, .string y.nm, .int .i64 y.n, .slice y.a y.ks.length y.c] 24)) w4.heap.size 0 z ∧ Four (w4.alloc (.cells #[.int .i64 z.op, .string z.nm, .int .i64 z.n, .slice z.a z.ks.length z.c, .int .i64 y.op, .string y.nm, .int .i64 y.n, .slice y.a y.ks.length y.c] 24)) w4.heap.size 4 y) := build2 w4 z y
  have Gg1 : w.heap.size + 1 < w4.heap.size := SZ2
  generalize w4.alloc (.cells #[.int .i64 z.op, .string z.nm, .int .i64 z.n, .slice z.a z.ks.length z.c, .int .i64 y.op, .string y.nm, .int .i64 y.n, .slice y.a y.ks.length y.c] 24) = Wg1 at *
  have BW3 := bon BW2 bg1
  have SZ3 : w.heap.size + 1 < Wg1.heap.size := Nat.lt_of_lt_of_le SZ2 bg1.size
  have FR3 := mkHid (FR2.out.later bg1)
  replace Mk0 := mkHid (Mk0.out.later bg1)
  replace Mk1 := mkHid (Mk1.out.later bg1)
  replace Mz := mkHid (Mz.out.later bg1)
  replace My := mkHid (My.out.later bg1)
  skip
  refine wpAnyH_ready (rs := [11]) (by kernel_rfl) (by simp) ?_
  refine AllReadyH.cons rfl (fun K hK => ?_) AllReadyH.nil
  go_simp
  go_wp2_with (go_at_call 90; ((with_reducible refine (of_any _ _ _ _ _).mono ?_)); rintro e w5 ⟨rfl, hb5⟩)
  refine hK.out _ _ (keep12 (by assumption) hb5) (fun hHeld => ?_)
  clear hK
  have BW4 := bon BW3 hb5
  have SZ4 : w.heap.size + 1 < w5.heap.size := Nat.lt_of_lt_of_le SZ3 hb5.size
  have FR4 := mkHid (FR3.out.later hb5)
  replace Mk0 := mkHid (Mk0.out.later hb5)
  replace Mk1 := mkHid (Mk1.out.later hb5)
  replace Mz := mkHid (Mz.out.later hb5)
  replace My := mkHid (My.out.later hb5)
  replace Fg1 := mkHid (And.intro (Fg1.out.1.later hb5) (Fg1.out.2.later hb5))
  obtain ⟨m0, m1, m2, m3, f0, f1, f2, f3⟩ := FR4.out
  refine wpAnyH_ready (rs := [12]) (by kernel_rfl) (by simp) ?_
  refine AllReadyH.cons rfl (fun K hK => ?_) AllReadyH.nil
  go_simp
  have BS : But (w.heap.size + 1) w5 ((((w5.setCell ⟨w.heap.size + 1, 0, none⟩ (.int .i64 20)).setCell ⟨w.heap.size + 1, 1, none⟩ (.string ⟨#[]⟩)).setCell ⟨w.heap.size + 1, 2, none⟩ (.int .i64 0)).setCell ⟨w.heap.size + 1, 3, none⟩ (.slice (some ⟨w4.heap.size, 0, none⟩) 2 2)) := ((((But.refl _ _).set (p := ⟨w.heap.size + 1, 0, none⟩) (.inl rfl) _).set (p := ⟨w.heap.size + 1, 1, none⟩) (.inl rfl) _).set (p := ⟨w.heap.size + 1, 2, none⟩) (.inl rfl) _).set (p := ⟨w.heap.size + 1, 3, none⟩) (.inl rfl) _
  have HN0 : Hid (w.heap.size ≠ w.heap.size + 1) := Nat.ne_of_lt (Nat.lt_succ_self _)
  have HNb : Hid (b ≠ w.heap.size + 1) := Nat.ne_of_lt (Nat.lt_succ_of_lt hbl)
  refine hK.out _ _ (keep12B (by assumption) BS HN0.out HN0.out HN0.out HN0.out HNb.out HNb.out HNb.out HNb.out HNb.out HNb.out HNb.out HNb.out) (fun hHeld => ?_)
  clear hK hHeld
  refine wpAnyH_done (by kernel_rfl) ?_ _
  go_wp2
  refine bodyPost_ret (v := .agg #[.int .i64 20, .string ⟨#[]⟩, .int .i64 0, .slice (some ⟨w4.heap.size, 0, none⟩) 2 2]) (by simp [results, Tryd.results66, go_sem, m0, m1, m2, m3]) rfl (Mk.fin (x := (q2 20 w4.heap.size z y)) (Mk.two Mz.out My.out Fg1.out Gg1 (by decide)) BW4 ?_)
  rw [HFT.out, q2_er, ze, ye]; all_goals rfl
set_option maxRecDepth 100000 in
set_option maxHeartbeats 4000000 in
theorem den21 (F : Tm → Tm) (t : Tm) (k0 k1 : Tm) (hop : t.op = 21) (hks : t.ks = [k0, k1]) {F0 F1 : Tm → Tm} (Ck0' : ∀ w' : World, TIn w' w'.heap.size k0 → Calls Tryd.prog 66 #[k0.val] w' (BecP F0 k0 w')) (Ck1' : ∀ w' : World, TIn w' w'.heap.size k1 → Calls Tryd.prog 89 #[k1.val] w' (BecP F1 k1 w')) (hF : F t = mkT 19 [F0 k0, F1 k1]) (w : World) (ht : TIn w w.heap.size t) : Calls Tryd.prog 89 #[t.val] w (BecP F t w) := by
  have HT := mkHid ht
  have HFT := mkHid hF
  clear hF
  have hTV : t.val = t.val := rfl
  obtain ⟨op, nm, n, a, c, ks⟩ := t
  simp only [Tm.op, Tm.ks] at hop hks
  subst hop hks
  obtain ⟨kin0, b, o, ha, hbl, kf0⟩ := ht.kid 0 (by simp [Tm.ks])
  obtain ⟨kin1, b1, o1, ha1, hbl1, kf1⟩ := ht.kid 1 (by simp [Tm.ks])
  simp only [Tm.a, Tm.ks, List.getElem_cons_zero, List.getElem_cons_succ, Nat.zero_mul, Nat.one_mul, Nat.add_zero] at ha kin0 kf0 ha1 kin1 kf1
  subst ha
  cases ha1
  have hb2 : Below w.heap.size w ((w.alloc (.cells #[.int .i64 21, .string nm, .int .i64 n, .slice (some ⟨b, o, none⟩) 2 c] 24)).alloc (.cells #[.int .i64 0, .string ⟨#[]⟩, .int .i64 0, .slice none 0 0] 24)) := bal (bal (Below.refl _ _) _) _
  have TT : ((w.alloc (.cells #[.int .i64 21, .string nm, .int .i64 n, .slice (some ⟨b, o, none⟩) 2 c] 24)).alloc (.cells #[.int .i64 0, .string ⟨#[]⟩, .int .i64 0, .slice none 0 0] 24)).cell? ⟨w.heap.size, 0, none⟩ = some (.int .i64 21) ∧ ((w.alloc (.cells #[.int .i64 21, .string nm, .int .i64 n, .slice (some ⟨b, o, none⟩) 2 c] 24)).alloc (.cells #[.int .i64 0, .string ⟨#[]⟩, .int .i64 0, .slice none 0 0] 24)).cell? ⟨w.heap.size, 1, none⟩ = some (.string nm) ∧ ((w.alloc (.cells #[.int .i64 21, .string nm, .int .i64 n, .slice (some ⟨b, o, none⟩) 2 c] 24)).alloc (.cells #[.int .i64 0, .string ⟨#[]⟩, .int .i64 0, .slice none 0 0] 24)).cell? ⟨w.heap.size, 2, none⟩ = some (.int .i64 n) ∧ ((w.alloc (.cells #[.int .i64 21, .string nm, .int .i64 n, .slice (some ⟨b, o, none⟩) 2 c] 24)).alloc (.cells #[.int .i64 0, .string ⟨#[]⟩, .int .i64 0, .slice none 0 0] 24)).cell? ⟨w.heap.size, 3, none⟩ = some (.slice (some ⟨b, o, none⟩) 2 c) := by simp [go_sem]
  have FR0 : FourV' ((w.alloc (.cells #[.int .i64 21, .string nm, .int .i64 n, .slice (some ⟨b, o, none⟩) 2 c] 24)).alloc (.cells #[.int .i64 0, .string ⟨#[]⟩, .int .i64 0, .slice none 0 0] 24)) (w.heap.size + 1) (.int .i64 0) (.string ⟨#[]⟩) (.int .i64 0) (.slice none 0 0) := by simp [FourV', go_sem]
  have hX2 : w.heap.size + 1 < ((w.alloc (.cells #[.int .i64 21, .string nm, .int .i64 n, .slice (some ⟨b, o, none⟩) 2 c] 24)).alloc (.cells #[.int .i64 0, .string ⟨#[]⟩, .int .i64 0, .slice none 0 0] 24)).heap.size := by simp
  generalize hW2 : ((w.alloc (.cells #[.int .i64 21, .string nm, .int .i64 n, .slice (some ⟨b, o, none⟩) 2 c] 24)).alloc (.cells #[.int .i64 0, .string ⟨#[]⟩, .int .i64 0, .slice none 0 0] 24)) = W2 at *
  obtain ⟨q00, q01, q02, q03⟩ : Four W2 b o k0 := Four.keep kf0 hb2 hbl
  obtain ⟨q10, q11, q12, q13⟩ : Four W2 b (o + 4) k1 := Four.keep kf1 hb2 hbl1
  clear kin0 kf0 kin1 kf1
  unfold Tm.val
  simp only [Tm.op, Tm.nm, Tm.n, Tm.a, Tm.ks, Tm.c, List.length_cons, List.length_nil, Nat.zero_add, Nat.reduceAdd]
  obtain ⟨u0, u1, u2, u3⟩ := TT
  have FR := mkHid FR0
  have SZ := hX2
  have BW := hb2
  clear FR0 hX2 hb2 ht hTV
  go_enter Tryd.func89, Tryd.ntmps89
  go_wp2_with fail
  (try dsimp only [List.append])
  refine wp_region_held_drew (S := fun w' => w'.cell? ⟨w.heap.size, 0, none⟩ = some (.int .i64 21) ∧ w'.cell? ⟨w.heap.size, 1, none⟩ = some (.string nm) ∧ w'.cell? ⟨w.heap.size, 2, none⟩ = some (.int .i64 n) ∧ w'.cell? ⟨w.heap.size, 3, none⟩ = some (.slice (some ⟨b, o, none⟩) 2 c) ∧ w'.cell? ⟨b, o, none⟩ = some (.int .i64 k0.op) ∧ w'.cell? ⟨b, o + 1, none⟩ = some (.string k0.nm) ∧ w'.cell? ⟨b, o + 2, none⟩ = some (.int .i64 k0.n) ∧ w'.cell? ⟨b, o + 3, none⟩ = some (.slice k0.a k0.ks.length k0.c) ∧ w'.cell? ⟨b, o + 4, none⟩ = some (.int .i64 k1.op) ∧ w'.cell? ⟨b, o + 4 + 1, none⟩ = some (.string k1.nm) ∧ w'.cell? ⟨b, o + 4 + 2, none⟩ = some (.int .i64 k1.n) ∧ w'.cell? ⟨b, o + 4 + 3, none⟩ = some (.slice k1.a k1.ks.length k1.c)) (by kernel_rfl) ⟨u0, u1, u2, u3, q00, q01, q02, q03, q10, q11, q12, q13⟩ (fun hHeld => ?_)
  replace FR := mkHid (FR.out.later (bdrew (Below.refl W2.heap.size W2)))
  replace BW := bdrew BW
  replace SZ : w.heap.size + 1 < W2.drew.heap.size := SZ
  clear hW2 u0 u1 u2 u3 q00 q01 q02 q03 q10 q11 q12 q13
  generalize W2.drew = V at *
  have Ck0 := mkHid Ck0'
  have Ck1 := mkHid Ck1'
  clear Ck0' Ck1'
  refine wpAnyH_take (i := 0) (v := ?_) rfl (by kernel_rfl) (by kernel_rfl) (by kernel_rfl) (fun _ _ _ h => h) (Or.inl ⟨by kernel_rfl, ?_⟩) (by assumption) ?_
  rotate_left
  · (intro w hSw; (try dsimp only at hSw); go_simp; try with_reducible rfl)
  simp only [Act.put, List.getElem_toArray, List.getElem_cons_zero, List.setIfInBounds_toArray, List.set_cons_zero, List.set_cons_succ]
  refine wpAnyH_take (i := 1) (v := ?_) rfl (by kernel_rfl) (by kernel_rfl) (by kernel_rfl) (fun _ _ _ h => h) (Or.inl ⟨by kernel_rfl, ?_⟩) (by assumption) ?_
  rotate_left
  · (intro w hSw; (try dsimp only at hSw); go_simp; try with_reducible rfl)
  simp only [Act.put, List.getElem_toArray, List.getElem_cons_succ, List.getElem_cons_zero, List.setIfInBounds_toArray, List.set_cons_zero, List.set_cons_succ]
  refine wpAnyH_take (i := 2) (v := ?_) rfl (by kernel_rfl) (by kernel_rfl) (by kernel_rfl) (fun _ _ _ h => h) (Or.inl ⟨by kernel_rfl, ?_⟩) (by assumption) ?_
  rotate_left
  · (intro w hSw; (try dsimp only at hSw); go_simp; try with_reducible rfl)
  simp only [Act.put, List.getElem_toArray, List.getElem_cons_succ, List.getElem_cons_zero, List.setIfInBounds_toArray, List.set_cons_zero, List.set_cons_succ]
  refine wpAnyH_take (i := 3) (v := ?_) rfl (by kernel_rfl) (by kernel_rfl) (by kernel_rfl) (fun _ _ _ h => h) (Or.inl ⟨by kernel_rfl, ?_⟩) (by assumption) ?_
  rotate_left
  · (intro w hSw; (try dsimp only at hSw); go_simp; try with_reducible rfl)
  simp only [Act.put, List.getElem_toArray, List.getElem_cons_succ, List.getElem_cons_zero, List.setIfInBounds_toArray, List.set_cons_zero, List.set_cons_succ]
  refine wpAnyH_take (i := 5) (v := ?_) rfl (by kernel_rfl) (by kernel_rfl) (by kernel_rfl) (fun _ _ _ h => h) (Or.inl ⟨by kernel_rfl, ?_⟩) (by assumption) ?_
  rotate_left
  · (intro w hSw; (try dsimp only at hSw); go_simp; try with_reducible rfl)
  simp only [Act.put, List.getElem_toArray, List.getElem_cons_succ, List.getElem_cons_zero, List.setIfInBounds_toArray, List.set_cons_zero, List.set_cons_succ]
  refine wpAnyH_take (i := 6) (v := ?_) rfl (by kernel_rfl) (by kernel_rfl) (by kernel_rfl) (fun _ _ _ h => h) (Or.inl ⟨by kernel_rfl, ?_⟩) (by assumption) ?_
  rotate_left
  · (intro w hSw; (try dsimp only at hSw); go_simp; try with_reducible rfl)
  simp only [Act.put, List.getElem_toArray, List.getElem_cons_succ, List.getElem_cons_zero, List.setIfInBounds_toArray, List.set_cons_zero, List.set_cons_succ]
  refine wpAnyH_take (i := 7) (v := ?_) rfl (by kernel_rfl) (by kernel_rfl) (by kernel_rfl) (fun _ _ _ h => h) (Or.inl ⟨by kernel_rfl, ?_⟩) (by assumption) ?_
  rotate_left
  · (intro w hSw; (try dsimp only at hSw); go_simp; try with_reducible rfl)
  simp only [Act.put, List.getElem_toArray, List.getElem_cons_succ, List.getElem_cons_zero, List.setIfInBounds_toArray, List.set_cons_zero, List.set_cons_succ]
  refine wpAnyH_take (i := 8) (v := ?_) rfl (by kernel_rfl) (by kernel_rfl) (by kernel_rfl) (fun _ _ _ h => h) (Or.inl ⟨by kernel_rfl, ?_⟩) (by assumption) ?_
  rotate_left
  · (intro w hSw; (try dsimp only at hSw); go_simp; try with_reducible rfl)
  simp only [Act.put, List.getElem_toArray, List.getElem_cons_succ, List.getElem_cons_zero, List.setIfInBounds_toArray, List.set_cons_zero, List.set_cons_succ]
  have Mk0 := mkHid (Mk.kid (k := k0) HT.out (by simp [Tm.ks]) BW)
  have Mk1 := mkHid (Mk.kid (k := k1) HT.out (by simp [Tm.ks]) BW)
  refine wpAnyH_ready (rs := [4]) (by kernel_rfl) (by simp) ?_
  refine AllReadyH.cons rfl (fun K hK => ?_) AllReadyH.nil
  have P3 := mkHid (Ck0.out V Mk0.out.tin)
  unfold Tm.val at P3
  go_simp
  go_wp2_with (go_at_call 66; ((with_reducible refine (P3.out).mono ?_)); rintro e w3 ⟨z, rfl, ze, zt, zw, hb3⟩)
  refine hK.out _ _ (keep12 (by assumption) hb3) (fun hHeld => ?_)
  clear hK
  have BW1 := bon BW hb3
  have SZ1 : w.heap.size + 1 < w3.heap.size := Nat.lt_of_lt_of_le SZ hb3.size
  have FR1 := mkHid (FR.out.later hb3)
  replace Mk0 := mkHid (Mk0.out.later hb3)
  replace Mk1 := mkHid (Mk1.out.later hb3)
  have Mz := mkHid (Mk.call (wc := V) (Mk.kid HT.out (by simp [Tm.ks]) BW) SZ zt zw)
  unfold Tm.val
  refine wpAnyH_ready (rs := [9]) (by kernel_rfl) (by simp) ?_
  refine AllReadyH.cons rfl (fun K hK => ?_) AllReadyH.nil
  have P4 := mkHid (Ck1.out w3 Mk1.out.tin)
  unfold Tm.val at P4
  go_simp
  go_wp2_with (go_at_call 89; ((with_reducible refine (P4.out).mono ?_)); rintro e w4 ⟨y, rfl, ye, yt, yw, hb4⟩)
  refine hK.out _ _ (keep12 (by assumption) hb4) (fun hHeld => ?_)
  clear hK
  have BW2 := bon BW1 hb4
  have SZ2 : w.heap.size + 1 < w4.heap.size := Nat.lt_of_lt_of_le SZ1 hb4.size
  have FR2 := mkHid (FR1.out.later hb4)
  replace Mk0 := mkHid (Mk0.out.later hb4)
  replace Mk1 := mkHid (Mk1.out.later hb4)
  replace Mz := mkHid (Mz.out.later hb4)
  have My := mkHid (Mk.call (wc := w3) (Mk.kid HT.out (by simp [Tm.ks]) BW1) SZ1 yt yw)
  unfold Tm.val
  refine wpAnyH_ready (rs := [10]) (by kernel_rfl) (by simp) ?_
  refine AllReadyH.cons rfl (fun K hK => ?_) AllReadyH.nil
  go_simp
  have bg1 := bel_alloc w4 (.cells #[.int .i64 z.op, .string z.nm, .int .i64 z.n, .slice z.a z.ks.length z.c, .int .i64 y.op, .string y.nm, .int .i64 y.n, .slice y.a y.ks.length y.c] 24)
  refine hK.out _ _ (keep12 (by assumption) bg1) (fun hHeld => ?_)
  clear hK
  have Fg1 : Hid (Four (w4.alloc (.cells #[.int .i64 z.op, .string z.nm, .int .i64 z.n, .slice z.a z.ks.length z.c, .int .i64 y.op, .string y.nm, .int .i64 y.n, .slice y.a y.ks.length y.c] 24)) w4.heap.size 0 z ∧ Four (w4.alloc (.cells #[.int .i64 z.op, .string z.nm, .int .i64 z.n, .slice z.a z.ks.length z.c, .int .i64 y.op, .string y.nm, .int .i64 y.n, .slice y.a y.ks.length y.c] 24)) w4.heap.size 4 y) := build2 w4 z y
  have Gg1 : w.heap.size + 1 < w4.heap.size := SZ2
  generalize w4.alloc (.cells #[.int .i64 z.op, .string z.nm, .int .i64 z.n, .slice z.a z.ks.length z.c, .int .i64 y.op, .string y.nm, .int .i64 y.n, .slice y.a y.ks.length y.c] 24) = Wg1 at *
  have BW3 := bon BW2 bg1
  have SZ3 : w.heap.size + 1 < Wg1.heap.size := Nat.lt_of_lt_of_le SZ2 bg1.size
  have FR3 := mkHid (FR2.out.later bg1)
  replace Mk0 := mkHid (Mk0.out.later bg1)
  replace Mk1 := mkHid (Mk1.out.later bg1)
  replace Mz := mkHid (Mz.out.later bg1)
  replace My := mkHid (My.out.later bg1)
  skip
  refine wpAnyH_ready (rs := [11]) (by kernel_rfl) (by simp) ?_
  refine AllReadyH.cons rfl (fun K hK => ?_) AllReadyH.nil
  go_simp
  go_wp2_with (go_at_call 90; ((with_reducible refine (of_any _ _ _ _ _).mono ?_)); rintro e w5 ⟨rfl, hb5⟩)
  refine hK.out _ _ (keep12 (by assumption) hb5) (fun hHeld => ?_)
  clear hK
  have BW4 := bon BW3 hb5
  have SZ4 : w.heap.size + 1 < w5.heap.size := Nat.lt_of_lt_of_le SZ3 hb5.size
  have FR4 := mkHid (FR3.out.later hb5)
  replace Mk0 := mkHid (Mk0.out.later hb5)
  replace Mk1 := mkHid (Mk1.out.later hb5)
  replace Mz := mkHid (Mz.out.later hb5)
  replace My := mkHid (My.out.later hb5)
  replace Fg1 := mkHid (And.intro (Fg1.out.1.later hb5) (Fg1.out.2.later hb5))
  obtain ⟨m0, m1, m2, m3, f0, f1, f2, f3⟩ := FR4.out
  refine wpAnyH_ready (rs := [12]) (by kernel_rfl) (by simp) ?_
  refine AllReadyH.cons rfl (fun K hK => ?_) AllReadyH.nil
  go_simp
  have BS : But (w.heap.size + 1) w5 ((((w5.setCell ⟨w.heap.size + 1, 0, none⟩ (.int .i64 19)).setCell ⟨w.heap.size + 1, 1, none⟩ (.string ⟨#[]⟩)).setCell ⟨w.heap.size + 1, 2, none⟩ (.int .i64 0)).setCell ⟨w.heap.size + 1, 3, none⟩ (.slice (some ⟨w4.heap.size, 0, none⟩) 2 2)) := ((((But.refl _ _).set (p := ⟨w.heap.size + 1, 0, none⟩) (.inl rfl) _).set (p := ⟨w.heap.size + 1, 1, none⟩) (.inl rfl) _).set (p := ⟨w.heap.size + 1, 2, none⟩) (.inl rfl) _).set (p := ⟨w.heap.size + 1, 3, none⟩) (.inl rfl) _
  have HN0 : Hid (w.heap.size ≠ w.heap.size + 1) := Nat.ne_of_lt (Nat.lt_succ_self _)
  have HNb : Hid (b ≠ w.heap.size + 1) := Nat.ne_of_lt (Nat.lt_succ_of_lt hbl)
  refine hK.out _ _ (keep12B (by assumption) BS HN0.out HN0.out HN0.out HN0.out HNb.out HNb.out HNb.out HNb.out HNb.out HNb.out HNb.out HNb.out) (fun hHeld => ?_)
  clear hK hHeld
  refine wpAnyH_done (by kernel_rfl) ?_ _
  go_wp2
  refine bodyPost_ret (v := .agg #[.int .i64 19, .string ⟨#[]⟩, .int .i64 0, .slice (some ⟨w4.heap.size, 0, none⟩) 2 2]) (by simp [results, Tryd.results89, go_sem, m0, m1, m2, m3]) rfl (Mk.fin (x := (q2 19 w4.heap.size z y)) (Mk.two Mz.out My.out Fg1.out Gg1 (by decide)) BW4 ?_)
  rw [HFT.out, q2_er, ze, ye]; all_goals rfl
end Go.Proofs.YtlobffjgkhcjbaaDoor
