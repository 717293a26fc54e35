/-
  What TermParts does: it returns true, whatever the term is.
-/
import Derived.Test.YtheegiaehlfdmaaDoorTmM
namespace Go.Proofs.YtheegiaehlfdmaaDoor
open Go.RowKit

theorem size_mem {ks : List Tm} {k : Tm} (h : k ∈ ks) : k.size ≤ Tm.sizes ks := by
  induction ks with
  | nil => simp at h
  | cons t ts ih =>
    simp only [Tm.sizes]
    rcases List.mem_cons.1 h with rfl | h
    · omega
    · have := ih h; omega
theorem errR_of {t : Tm} (h1 : t.size ≤ 2000) (h2 : t.deep ≤ 100) (h3 : t.srt ≠ 0) : errR t = 0 ∧ srtR t = t.srt := by
  have e : fullB t = false := by simp [fullB]; omega
  exact ⟨by unfold errR; rw [e]; simp [h3], by unfold srtR; rw [e]; rfl⟩
theorem errR_kid {t k : Tm} (h : errR t = 0) (hk : k ∈ t.ks) : errR k = 0 := by
  obtain ⟨h1, h2, h3, -⟩ := errR_zero h
  rw [Tm.size_eq] at h1
  rw [Tm.deep_eq] at h2
  have := size_mem hk
  have := deep_mem hk
  exact (errR_of (by omega) (by omega) ((srt_ops h3).2 k hk)).1

set_option maxHeartbeats 4000000 in
set_option maxRecDepth 100000 in
theorem parts_any (t : Tm) (w : World) (hin : TIn w w.heap.size t) (hS : Shps w) :
    Calls Tryd.prog 4 #[t.val] w fun e w' => e = .returned (.bool true) ∧ Below w.heap.size w w' := by
  have hb0 := bel_alloc w (boxT t)
  have HF := mkHid (box_four w t)
  have HIN := mkHid (hin.later hb0)
  have HS := mkHid (hS.later hb0)
  have hW : w.alloc (.cells #[.int .i64 t.op, .string t.nm, .int .i64 t.n, .slice t.a t.ks.length t.c] 24) = w.alloc (boxT t) := rfl
  have SW := mkHid (shown_any _ (hS.later hb0))
  have HST := mkHid (fun w h1 h2 => sort_any t w h1 h2)
  obtain ⟨-, -, -, hlc, hcm⟩ := hin.nums
  unfold maxLen at hcm
  have hn : t.ks.length ≤ 9223372036854775807 := by omega
  clear hin hS
  generalize w.alloc (boxT t) = W at *
  by_cases he : errR t = 0
  · rw [he] at HST
    obtain ⟨hz, hd, hs, hsr⟩ := errR_zero he
    have KID := mkHid (fun k (hk : k ∈ t.ks) => errR_kid he hk)
    have SZ := mkHid (fun w h => size_any t w h)
    have DP := mkHid (fun w h => deep_small t w h hz)
    have SM := mkHid (fun w h => same_small t t w h h hz)
    rw [sm_refl t 1 (by omega)] at SM
    rw [show min 2001 t.size = t.size by omega] at SZ
    rw [show min 101 t.deep = t.deep by omega] at DP
    have E1 := mkHid (Tm.size_eq t)
    have E2 := mkHid (Tm.deep_eq t)
    have z1 : 1 + Tm.sizes t.ks ≤ 2000 := by have := Tm.size_eq t; omega
    have z2 : 1 + Tm.deeps t.ks ≤ 100 := by have := Tm.deep_eq t; omega
    clear he hs hsr hz hd
    generalize srtR t = sr at *
    unfold Tm.val at *
    have KEEP := mkHid (fun (w' : World) (hb : Below W.heap.size W w') => HF.out.later hb)
    go_enter Tryd.func4, Tryd.ntmps4
    go_wp2_with fail
    ((with_reducible refine SW.out.mono ?_)); rintro e w1 ⟨rfl, hb1⟩
    obtain ⟨x0, x1, x2, x3⟩ := KEEP.out w1 hb1
    simp only [Nat.zero_add] at x1 x2 x3
    clear hW SW
    go_wp2_with fail
    ((with_reducible refine (HST.out _ (HIN.out.later hb1) (HS.out.later hb1)).mono ?_)); rintro e w2 ⟨rfl, hb2⟩
    have B2 := bon hb1 hb2
    clear x0 x1 x2 x3 HST hb1 hb2
    go_wp2
    generalize hn' : t.ks.length = n at *
    have HN := mkHid hn'
    clear hn'
    generalize hX : w.heap.size = X at *
    go_loopw [6, 7, 8] (fun p d i w' => ∃ (k : Nat) (x y z : Int), p = .int .i64 y ∧ y = (1 + Tm.sizes (t.ks.take k) : Nat) ∧ d = .int .i64 z ∧ z = (Tm.deeps (t.ks.take k) : Nat) ∧ i = .int .i64 x ∧ x = k ∧ k ≤ n ∧ Below W.heap.size W w') (fun _ _ i _ => (n - intOf i).toNat)
    case atStart => exact ⟨0, 0, 1, 0, rfl, by simp [Tm.sizes], rfl, by simp [Tm.deeps], rfl, rfl, Nat.zero_le _, B2⟩
    case round =>
      clear B2
      obtain ⟨k, x, y, z, rfl, hy, rfl, hz, rfl, hxk, hk, hb⟩ := hrel
      obtain rfl : x = (k : Int) := hxk
      have f4 := KEEP.out wr hb
      rw [Four, HN.out] at f4
      obtain ⟨x0, x1, x2, x3⟩ := f4
      simp only [Nat.zero_add] at x1 x2 x3
      have l1 := sizes_take_le t.ks k
      have l2 := deeps_take_le t.ks k
      by_cases hlt : k < n
      · have hk' : k < t.ks.length := by rw [HN.out]; exact hlt
        have TW := HIN.out.later hb
        obtain ⟨kin, b, o, ha, hbB, kf⟩ := TW.kid k hk'
        have T1 := take_succ_sizes t.ks k hk'
        have T2 := take_succ_deeps t.ks k hk'
        have m1 := sizes_take_le t.ks (k + 1)
        have m2 := deeps_take_le t.ks (k + 1)
        have dp := deep_pos t.ks[k]
        have sp := size_pos t.ks[k]
        have hz1 : (t.ks[k]).size ≤ 2000 := by omega
        have hd1 : (t.ks[k]).deep ≤ 100 := by omega
        have ke := KID.out _ (List.getElem_mem hk')
        have CS := mkHid (sort_any t.ks[k])
        rw [ke] at CS
        have CZ := mkHid (size_any t.ks[k])
        have CD := mkHid (fun w hh => deep_small _ w hh hz1)
        rw [show min 2001 (t.ks[k]).size = (t.ks[k]).size by omega] at CZ
        rw [show min 101 (t.ks[k]).deep = (t.ks[k]).deep by omega] at CD
        rw [ha] at x3
        have KF : Hid (∀ w', Below wr.heap.size wr w' → Four w' b (o + k * 4) t.ks[k] ∧ w'.cell? ⟨X, 3, none⟩ = some (.slice (some ⟨b, o, none⟩) n t.c)) := fun w' hb' => ⟨kf.later hb', cell_later hb' x3⟩
        have KI : Hid (∀ w', Below wr.heap.size wr w' → TIn w' w'.heap.size t.ks[k]) := fun w' hb' => kin.later hb'
        have KS : Hid (∀ w', Below wr.heap.size wr w' → Shps w') := fun w' hb' => (HS.out.later hb).later hb'
        unfold Tm.val at CS CZ CD
        generalize srtR t.ks[k] = sq at *
        clear ke TW kin hbB KID HIN ha KEEP SZ DP SM HS
        generalize t.ks[k] = q at *
        clear hk'
        obtain ⟨g0, g1, g2, g3⟩ := kf
        have HT1 := mkHid T1
        have HT2 := mkHid T2
        clear T1 T2
        have HY := mkHid hy
        have HZ := mkHid hz
        have hy1 : 0 ≤ y := by omega
        have hy2 : y ≤ 2000 := by omega
        have hz3 : 0 ≤ z := by omega
        have hz4 : z ≤ 100 := by omega
        have cs : (q.deep : Int) ≤ z ∨ z < (q.deep : Int) := by omega
        clear hy hz
        rcases cs with cs | cs
        all_goals
          go_wp2_with fail
          ((with_reducible refine (CS.out _ (KI.out _ (Below.refl _ _)) (KS.out _ (Below.refl _ _))).mono ?_)); rintro e w3 ⟨rfl, hb3⟩
          clear g0 g1 g2 g3 x0 x1 x2 x3
          obtain ⟨⟨g0, g1, g2, g3⟩, x3⟩ := KF.out w3 hb3
          go_wp2_with fail
          ((with_reducible refine (CZ.out _ (KI.out _ hb3)).mono ?_)); rintro e w4 ⟨rfl, hb4⟩
          have b4 := bon hb3 hb4
          clear g0 g1 g2 g3 x3
          obtain ⟨⟨g0, g1, g2, g3⟩, x3⟩ := KF.out w4 b4
          go_wp2_with fail
          ((with_reducible refine (CD.out _ (KI.out _ b4)).mono ?_)); rintro e w5 ⟨rfl, hb5⟩
          have b5 := bon b4 hb5
          clear g0 g1 g2 g3 x3
          go_wp2
          go_roundw
          case rel => exact ⟨k + 1, _, _, _, rfl, by rw [HT1.out, HY.out]; omega, rfl, by rw [HT2.out]; have := HZ.out; omega, rfl, by omega, by omega, bon hb b5⟩
          case measure => simp [intOf]; omega
      · have hkn : k = n := by omega
        have e1 : y = (t.size : Int) := by rw [hy, E1.out, List.take_of_length_le (by rw [HN.out]; omega)]
        have e2 : z + 1 = (t.deep : Int) := by rw [hz, E2.out, List.take_of_length_le (by rw [HN.out]; omega)]; omega
        have q1 : ((t.size : Int) == y) = true := by rw [e1]; simp
        have q2 : ((t.deep : Int) == z + 1) = true := by rw [e2]; simp
        have hz3 : 0 ≤ z := by omega
        have hz4 : z ≤ 100 := by omega
        have CK := mkHid (fun w' (hb' : Below wr.heap.size wr w') => KEEP.out w' (bon hb hb'))
        have CI := mkHid (fun w' (hb' : Below wr.heap.size wr w') => HIN.out.later (bon hb hb'))
        clear hy hz e1 e2 E1 E2 hkn KEEP KID
        go_wp2_with fail
        ((with_reducible refine (SZ.out _ (CI.out _ (Below.refl _ _))).mono ?_)); rintro e w3 ⟨rfl, hb3⟩
        clear x0 x1 x2 x3
        have f4 := CK.out w3 hb3
        rw [Four, HN.out] at f4
        obtain ⟨x0, x1, x2, x3⟩ := f4
        simp only [Nat.zero_add] at x1 x2 x3
        go_wp2_with fail
        ((with_reducible refine (DP.out _ (CI.out _ hb3)).mono ?_)); rintro e w4 ⟨rfl, hb4⟩
        have b4 := bon hb3 hb4
        clear x0 x1 x2 x3
        have f4 := CK.out w4 b4
        rw [Four, HN.out] at f4
        obtain ⟨x0, x1, x2, x3⟩ := f4
        simp only [Nat.zero_add] at x1 x2 x3
        go_wp2_with fail
        ((with_reducible refine (SM.out _ (CI.out _ b4)).mono ?_)); rintro e w5 ⟨rfl, hb5⟩
        go_wp2
        go_ret
        have B5 := bon (bon hb b4) hb5
        have hb0' : Below w.heap.size w W := by rw [hX]; exact hb0
        have r := bon hb0' B5
        exact ⟨rfl, by first | exact r | (rw [hX] at r; exact r)⟩
  · have hne : ((errR t : Int) != 0) = true := by rw [bne_iff_ne]; omega
    generalize errR t = er at *
    generalize srtR t = sr at *
    clear he
    unfold Tm.val at *
    go_enter Tryd.func4, Tryd.ntmps4
    go_wp2_with fail
    ((with_reducible refine SW.out.mono ?_)); rintro e w1 ⟨rfl, hb1⟩
    obtain ⟨x0, x1, x2, x3⟩ := HF.out.later hb1
    simp only [Nat.zero_add] at x1 x2 x3
    clear hW SW
    go_wp2_with fail
    ((with_reducible refine (HST.out _ (HIN.out.later hb1) (HS.out.later hb1)).mono ?_)); rintro e w2 ⟨rfl, hb2⟩
    go_wp2
    go_ret
    exact ⟨rfl, bon hb0 (bon hb1 hb2)⟩
end Go.Proofs.YtheegiaehlfdmaaDoor
