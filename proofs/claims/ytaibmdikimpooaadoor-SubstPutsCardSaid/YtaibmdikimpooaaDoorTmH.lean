/-
  What 'sortWithin' and 'Sort' answer.
-/
import Derived.Test.YtaibmdikimpooaaDoorTmG
namespace Go.Proofs.YtaibmdikimpooaaDoor
open Go.RowKit

theorem sortOf_low {op : Int} {nm : ByteArray} {n : Int} {l : List Nat} (h : ¬ (1 ≤ op ∧ op ≤ 28)) : sortOf op nm n l = 0 := by unfold sortOf; rw [if_neg h]
theorem sortOf_in {j : Nat} {nm : ByteArray} {n : Int} {l : List Nat} (h1 : 1 ≤ j) (h2 : j ≤ 28) : sortOf (j : Int) nm n l = if namedB (shRow j) nm && ((shRow j).number || decide (n = 0)) && holdsB (shRow j) l then (shRow j).sort else 0 := by
  unfold sortOf; rw [if_pos (by omega), Int.toNat_natCast]
theorem Four.later {w w' : World} {b o : Nat} {t : Tm} (h : Four w b o t) (hb : Below w.heap.size w w') : Four w' b o t :=
  ⟨cell_later hb h.1, cell_later hb h.2.1, cell_later hb h.2.2.1, cell_later hb h.2.2.2⟩

theorem Four_later' {w w' : World} {b o : Nat} {x y z u : Value} (h : w.cell? ⟨b, o, none⟩ = some x ∧ w.cell? ⟨b, o + 1, none⟩ = some y ∧ w.cell? ⟨b, o + 2, none⟩ = some z ∧ w.cell? ⟨b, o + 3, none⟩ = some u) (hb : Below w.heap.size w w') :
    w'.cell? ⟨b, o, none⟩ = some x ∧ w'.cell? ⟨b, o + 1, none⟩ = some y ∧ w'.cell? ⟨b, o + 2, none⟩ = some z ∧ w'.cell? ⟨b, o + 3, none⟩ = some u :=
  ⟨cell_later hb h.1, cell_later hb h.2.1, cell_later hb h.2.2.1, cell_later hb h.2.2.2⟩

set_option maxRecDepth 100000 in
set_option maxHeartbeats 4000000 in
theorem sortWithin_any (t : Tm) : ∀ (w : World), TIn w w.heap.size t → Shps w → Calls Tryd.prog 28 #[t.val] w fun e w' => e = .returned (.int .i64 t.srt) ∧ Below w.heap.size w w' := by
  induction t using Tm.ind with
  | h t ih =>
  intro w hin hS
  have IH := mkHid ih
  clear ih
  rw [srt_eq]
  by_cases hop : 1 ≤ t.op ∧ t.op ≤ 28
  · obtain ⟨j, hj⟩ := Int.eq_ofNat_of_zero_le (show 0 ≤ t.op by omega)
    have j1 : 1 ≤ j := by omega
    have j2 : j ≤ 28 := by omega
    have j3 : (j : Int) ≤ 28 := by omega
    have j4 : 1 ≤ (j : Int) := by omega
    rw [hj, sortOf_in j1 j2]
    obtain ⟨hc2, -, -, hp0, hp1⟩ := shRow_all j (by omega)
    have hR := hS j (by omega)
    generalize shRow j = r at *
    have hb1 := bel_alloc w (boxT t)
    have f4 := box_four w t
    have HN := mkHid (fun w => named_any r t.nm w hin.nums.2.2.1)
    have HH := mkHid (fun w h1 h2 => holds_any r t w h1 h2 hc2 hp0 hp1 IH)
    have r1 := hR.later hb1
    have hb2 := bel_alloc (w.alloc (boxT t)) (.cells #[.int .i64 r.sort, .bool r.name, .bool r.number, .bool r.many, .int .i64 r.count, .int .i64 r.p0, .int .i64 r.p1] 54)
    have s7 := seven_box (w.alloc (boxT t)) r
    have f5 := f4.later hb2
    have B2 := bon hb1 hb2
    have hin2 := hin.later B2
    have hS2 := hS.later B2
    have hW : w.alloc (.cells #[.int .i64 (j : Int), .string t.nm, .int .i64 t.n, .slice t.a t.ks.length t.c] 24) = w.alloc (boxT t) := by rw [← hj]; rfl
    clear hin hS hR hc2 hp0 hp1 hop
    unfold Tm.val
    rw [hj]
    rw [Four, hj] at f4 f5
    generalize w.alloc (boxT t) = W at *
    generalize hW2 : W.alloc (.cells #[.int .i64 r.sort, .bool r.name, .bool r.number, .bool r.many, .int .i64 r.count, .int .i64 r.p0, .int .i64 r.p1] 54) = W2 at *
    obtain ⟨a0, a1, a2, a3⟩ := f4
    obtain ⟨c0, c1, c2, c3, c4, c5, c6⟩ := r1
    simp only [Nat.zero_add] at a1 a2 a3
    have HF5 := mkHid f5
    have HS7 := mkHid s7
    obtain ⟨b0, b1, b2, b3⟩ := f5
    obtain ⟨d0, d1, d2, d3, d4, d5, d6⟩ := s7
    simp only [Nat.zero_add] at b1 b2 b3 d1 d2 d3 d4 d5 d6
    have HI2 := mkHid hin2
    have HS2 := mkHid hS2
    clear IH hj hin2 hS2
    generalize hR : (if namedB r t.nm && (r.number || decide (t.n = 0)) && holdsB r (t.ks.map Tm.srt) then r.sort else 0) = R
    have HR := mkHid hR
    clear hR
    have HNN : Hid (namedB r t.nm = namedB r t.nm) := rfl
    generalize hnb : namedB r t.nm = nb at *
    have HNB := mkHid hnb
    clear hnb HNN
    generalize hhb : holdsB r (t.ks.map Tm.srt) = hb at *
    clear hhb
    unfold Sh.val at HN HH
    go_enter Tryd.func28, Tryd.ntmps28
    go_wp2_with fail
    ((with_reducible refine (HN.out _).mono ?_)); rintro e w3 ⟨rfl, hb3⟩
    have f6 := Four_later' HF5.out hb3
    have s8 := HS7.out.later hb3
    clear a0 a1 a2 a3 b0 b1 b2 b3 c0 c1 c2 c3 c4 c5 c6 d0 d1 d2 d3 d4 d5 d6 HF5 HS7 HN hW hW2
    obtain ⟨b0, b1, b2, b3⟩ := f6
    obtain ⟨d0, d1, d2, d3, d4, d5, d6⟩ := s8
    simp only [Nat.zero_add] at b1 b2 b3 d1 d2 d3 d4 d5 d6
    have HC := mkHid (HH.out w3 (HI2.out.later hb3) (HS2.out.later hb3))
    have B3 := bon B2 hb3
    clear HH HI2 HS2 hb3 B2 hb1 hb2
    cases nb
    · have e : R = 0 := by rw [← HR.out]; simp
      subst e
      clear HR
      go_wp2
      go_ret
      exact ⟨rfl, B3⟩
    · have fin : (r.number = true ∨ r.number = false ∧ t.n = 0) ∨ (r.number = false ∧ t.n ≠ 0) := by
        cases r.number
        · by_cases h : t.n = 0
          · exact .inl (.inr ⟨rfl, h⟩)
          · exact .inr ⟨rfl, h⟩
        · exact .inl (.inl rfl)
      rcases fin with fin | ⟨fin, h0⟩
      · have e : R = if hb then r.sort else 0 := by
          rw [← HR.out]
          rcases fin with h | ⟨h, h'⟩
          · simp [h]
          · simp [h, h']
        have HE := mkHid e
        clear HR e
        rcases fin with h | ⟨h, h'⟩
        · rw [h] at d2 HC
          cases hb
          · obtain rfl : R = 0 := HE.out
            clear HE h
            go_wp2_with (go_at_call 53; ((with_reducible refine HC.out.mono ?_)); rintro e w4 ⟨rfl, hb4⟩)
            go_ret
            exact ⟨rfl, bon B3 hb4⟩
          · obtain rfl : R = r.sort := HE.out
            clear HE h
            go_wp2_with (go_at_call 53; ((with_reducible refine HC.out.mono ?_)); rintro e w4 ⟨rfl, hb4⟩; have q0 := cell_later hb4 d0)
            go_ret
            exact ⟨rfl, bon B3 hb4⟩
        · rw [h] at d2 HC
          rw [h'] at b2
          cases hb
          · obtain rfl : R = 0 := HE.out
            clear HE h h'
            go_wp2_with (go_at_call 53; ((with_reducible refine HC.out.mono ?_)); rintro e w4 ⟨rfl, hb4⟩)
            go_ret
            exact ⟨rfl, bon B3 hb4⟩
          · obtain rfl : R = r.sort := HE.out
            clear HE h h'
            go_wp2_with (go_at_call 53; ((with_reducible refine HC.out.mono ?_)); rintro e w4 ⟨rfl, hb4⟩; have q0 := cell_later hb4 d0)
            go_ret
            exact ⟨rfl, bon B3 hb4⟩
      · have e : R = 0 := by
          rw [← HR.out]; simp [fin, h0]
        have hne : (t.n != 0) = true := by rw [bne_iff_ne]; exact h0
        subst e
        rw [fin] at d2
        clear HR fin h0
        go_wp2
        go_ret
        exact ⟨rfl, B3⟩
  · rw [sortOf_low hop]
    have hb1 := bel_alloc w (boxT t)
    have f4 := box_four w t
    have hW : w.alloc (.cells #[.int .i64 t.op, .string t.nm, .int .i64 t.n, .slice t.a t.ks.length t.c] 24) = w.alloc (boxT t) := rfl
    unfold Tm.val
    generalize w.alloc (boxT t) = W at *
    obtain ⟨a0, a1, a2, a3⟩ := f4
    simp only [Nat.zero_add] at a1 a2 a3
    by_cases h1 : t.op < 1
    · have h2 : decide (t.op < 1) = true := decide_eq_true h1
      clear hop IH
      go_enter Tryd.func28, Tryd.ntmps28
      go_wp2
      go_ret
      exact ⟨rfl, hb1⟩
    · have h2 : decide (t.op < 1) = false := decide_eq_false h1
      have h3 : decide (28 < t.op) = true := decide_eq_true (by omega)
      clear hop IH
      go_enter Tryd.func28, Tryd.ntmps28
      go_wp2
      go_ret
      exact ⟨rfl, hb1⟩

def fullB (t : Tm) : Bool := decide (2000 < t.size) || decide (100 < t.deep)
def srtR (t : Tm) : Nat := if fullB t then 0 else t.srt
def errR (t : Tm) : Nat := if fullB t then 7 else if t.srt = 0 then 3 else 0

set_option maxRecDepth 100000 in
set_option maxHeartbeats 2000000 in
theorem sort_any (t : Tm) (w : World) (hin : TIn w w.heap.size t) (hS : Shps w) :
    Calls Tryd.prog 7 #[t.val] w fun e w' => e = .returned (.tuple #[.int .i64 (srtR t), .int .i64 (errR t)]) ∧ Below w.heap.size w w' := by
  have hb1 := bel_alloc w (boxT t)
  have f4 := box_four w t
  have SZ := mkHid (size_any t _ (hin.later hb1))
  have HI1 := mkHid (hin.later hb1)
  have HS1 := mkHid (hS.later hb1)
  have hW : w.alloc (.cells #[.int .i64 t.op, .string t.nm, .int .i64 t.n, .slice t.a t.ks.length t.c] 24) = w.alloc (boxT t) := rfl
  have DP := mkHid (fun w h hz => deep_small t w h hz)
  have SW := mkHid (sortWithin_any t)
  clear hin hS
  by_cases hz : t.size ≤ 2000
  · rw [show min 2001 t.size = t.size by omega] at SZ
    have e0 : fullB t = decide (100 < t.deep) := by simp [fullB]; omega
    have DQ := mkHid (fun w h => DP.out w h hz)
    have hz1 : ¬ (2000 : Int) < (t.size : Int) := by omega
    have hz2 : decide ((2000 : Int) < (t.size : Int)) = false := decide_eq_false hz1
    by_cases hd : t.deep ≤ 100
    · rw [show min 101 t.deep = t.deep by omega] at DQ
      have e1 : srtR t = t.srt := by unfold srtR; rw [e0, decide_eq_false (by omega)]; rfl
      have e2 : errR t = if t.srt = 0 then 3 else 0 := by unfold errR; rw [e0, decide_eq_false (by omega)]; rfl
      rw [e1, e2]
      have hd2 : decide ((100 : Int) < (t.deep : Int)) = false := decide_eq_false (by omega)
      clear e0 e1 e2 DP
      have fin : ∀ (R : Nat), (if t.srt = 0 then 3 else 0) = R → Calls Tryd.prog 7 #[t.val] w fun e w' => e = .returned (.tuple #[.int .i64 t.srt, .int .i64 R]) ∧ Below w.heap.size w w' := by
        intro R hR
        unfold Tm.val at *
        generalize t.size = z at *
        generalize t.deep = d at *
        have HR := mkHid hR
        clear hR
        generalize hs : t.srt = s at *
        clear hs
        generalize w.alloc (boxT t) = W at *
        have HF := mkHid f4
        obtain ⟨a0, a1, a2, a3⟩ := f4
        simp only [Nat.zero_add] at a1 a2 a3
        go_enter Tryd.func7, Tryd.ntmps7
        go_wp2_with fail
        ((with_reducible refine SZ.out.mono ?_)); rintro e w2 ⟨rfl, hb2⟩
        have f5 := HF.out.later hb2
        have HF2 := mkHid f5
        clear a0 a1 a2 a3 hW
        obtain ⟨a0, a1, a2, a3⟩ := f5
        simp only [Nat.zero_add] at a1 a2 a3
        go_wp2_with fail
        ((with_reducible refine (DQ.out _ (HI1.out.later hb2)).mono ?_)); rintro e w3 ⟨rfl, hb3⟩
        have f6 := HF2.out.later hb3
        clear a0 a1 a2 a3
        obtain ⟨a0, a1, a2, a3⟩ := f6
        simp only [Nat.zero_add] at a1 a2 a3
        have b3 := bon hb2 hb3
        go_wp2_with fail
        ((with_reducible refine (SW.out _ (HI1.out.later b3) (HS1.out.later b3)).mono ?_)); rintro e w4 ⟨rfl, hb4⟩
        have B4 := bon (bon hb1 b3) hb4
        by_cases h0 : s = 0
        · subst h0
          obtain rfl : R = 3 := HR.out.symm
          go_wp2
          go_ret2
          exact ⟨rfl, B4⟩
        · have h1 : ((s : Int) == 0) = false := beq_eq_false_iff_ne.2 (by omega)
          have e : R = 0 := by rw [← HR.out, if_neg h0]
          subst e
          clear HR h0
          go_wp2
          go_ret2
          exact ⟨rfl, B4⟩
      exact fin _ rfl
    · rw [show min 101 t.deep = 101 by omega] at DQ
      have e1 : srtR t = 0 := by unfold srtR; rw [e0, decide_eq_true (by omega)]; rfl
      have e2 : errR t = 7 := by unfold errR; rw [e0, decide_eq_true (by omega)]; rfl
      rw [e1, e2]
      clear e0 e1 e2 DP
      unfold Tm.val at *
      generalize t.size = z at *
      generalize w.alloc (boxT t) = W at *
      have HF := mkHid f4
      obtain ⟨a0, a1, a2, a3⟩ := f4
      simp only [Nat.zero_add] at a1 a2 a3
      go_enter Tryd.func7, Tryd.ntmps7
      go_wp2_with fail
      ((with_reducible refine SZ.out.mono ?_)); rintro e w2 ⟨rfl, hb2⟩
      have f5 := HF.out.later hb2
      clear a0 a1 a2 a3 hW
      obtain ⟨a0, a1, a2, a3⟩ := f5
      simp only [Nat.zero_add] at a1 a2 a3
      go_wp2_with fail
      ((with_reducible refine (DQ.out _ (HI1.out.later hb2)).mono ?_)); rintro e w3 ⟨rfl, hb3⟩
      go_wp2
      go_ret2
      exact ⟨rfl, bon (bon hb1 hb2) hb3⟩
  · rw [show min 2001 t.size = 2001 by omega] at SZ
    have e1 : srtR t = 0 := by unfold srtR fullB; rw [decide_eq_true (by omega)]; rfl
    have e2 : errR t = 7 := by unfold errR fullB; rw [decide_eq_true (by omega)]; rfl
    rw [e1, e2]
    clear e1 e2
    unfold Tm.val at *
    generalize w.alloc (boxT t) = W at *
    obtain ⟨a0, a1, a2, a3⟩ := f4
    simp only [Nat.zero_add] at a1 a2 a3
    go_enter Tryd.func7, Tryd.ntmps7
    go_wp2_with fail
    ((with_reducible refine SZ.out.mono ?_)); rintro e w2 ⟨rfl, hb2⟩
    go_wp2
    go_ret2
    exact ⟨rfl, bon hb1 hb2⟩
end Go.Proofs.YtaibmdikimpooaaDoor
