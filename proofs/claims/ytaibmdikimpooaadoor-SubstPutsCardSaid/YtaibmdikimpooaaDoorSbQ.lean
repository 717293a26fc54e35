/-
  What the laws' 'small' answers; rows of one and two assignments; plain facts of what is put twice.
-/
import Derived.Test.YtaibmdikimpooaaDoorSbP
import Derived.Test.YtaibmdikimpooaaDoorTmE
namespace Go.Proofs.YtaibmdikimpooaaDoor
open Go.RowKit

/-- a right term of at most two hundred, twenty deep -/
def smallB (t : Tm) : Bool := decide (errR t = 0) && (decide (t.size ≤ 200) && decide (t.deep ≤ 20))
theorem smallB_is {t : Tm} : smallB t = true ↔ errR t = 0 ∧ t.size ≤ 200 ∧ t.deep ≤ 20 := by unfold smallB; simp
set_option maxRecDepth 100000 in
set_option maxHeartbeats 4000000 in
theorem small_any (t : Tm) (w : World) (hin : TIn w w.heap.size t) (hS : Shps w) : Calls Tryd.prog 21 #[t.val] w (RetB (smallB t) w) := by
  have B0 := bel_alloc w (boxT t)
  have F1 := box_four w t
  have hW : w.alloc (.cells #[.int .i64 t.op, .string t.nm, .int .i64 t.n, .slice t.a t.ks.length t.c] 24) = w.alloc (boxT t) := rfl
  have C1 := mkHid (sort_any t _ (hin.later B0) (hS.later B0))
  have HIN := mkHid (hin.later B0)
  have HF := mkHid F1
  clear hin hS
  have HB0 := mkHid B0
  unfold RetB smallB
  by_cases he : errR t = 0
  · obtain ⟨z1, z2, -, -⟩ := errR_fine he
    rw [he] at C1
    rw [decide_eq_true he]
    have C2 := mkHid (fun (w1 : World) (hb : Below (w.alloc (boxT t)).heap.size (w.alloc (boxT t)) w1) => size_any t w1 (HIN.out.later hb))
    have C3 := mkHid (fun (w1 : World) (hb : Below (w.alloc (boxT t)).heap.size (w.alloc (boxT t)) w1) => deep_small t w1 (HIN.out.later hb) z1)
    rw [show min 2001 t.size = t.size by omega] at C2
    rw [show min 101 t.deep = t.deep by omega] at C3
    generalize w.alloc (boxT t) = W at *
    obtain ⟨f0, f1, f2, f3⟩ := F1
    simp only [Nat.zero_add] at f1 f2 f3
    unfold Tm.val at *
    by_cases h1 : t.size ≤ 200
    · have h1' : (t.size : Int) ≤ 200 := by omega
      rw [decide_eq_true h1]
      by_cases h2 : t.deep ≤ 20
      · have h2' : (t.deep : Int) ≤ 20 := by omega
        rw [decide_eq_true h2]
        go_enter Tryd.func21, Tryd.ntmps21
        go_wp2_with (first
          | (go_at_call 7; ((with_reducible refine C1.out.mono ?_)); rintro e w1 ⟨rfl, hb1⟩; have k0 := cell_later hb1 f0; have k1 := cell_later hb1 f1; have k2 := cell_later hb1 f2; have k3 := cell_later hb1 f3)
          | (go_at_call 9; ((with_reducible refine (C2.out _ hb1).mono ?_)); rintro e w2 ⟨rfl, hb2⟩; have l0 := cell_later hb2 k0; have l1 := cell_later hb2 k1; have l2 := cell_later hb2 k2; have l3 := cell_later hb2 k3)
          | (go_at_call 11; ((with_reducible refine (C3.out _ (bon hb1 hb2)).mono ?_)); rintro e w3 ⟨rfl, hb3⟩))
        go_ret
        exact ⟨rfl, bon HB0.out (bon hb1 (bon hb2 hb3))⟩
      · have h2' : ¬ (t.deep : Int) ≤ 20 := by omega
        rw [decide_eq_false h2]
        go_enter Tryd.func21, Tryd.ntmps21
        go_wp2_with (first
          | (go_at_call 7; ((with_reducible refine C1.out.mono ?_)); rintro e w1 ⟨rfl, hb1⟩; have k0 := cell_later hb1 f0; have k1 := cell_later hb1 f1; have k2 := cell_later hb1 f2; have k3 := cell_later hb1 f3)
          | (go_at_call 9; ((with_reducible refine (C2.out _ hb1).mono ?_)); rintro e w2 ⟨rfl, hb2⟩; have l0 := cell_later hb2 k0; have l1 := cell_later hb2 k1; have l2 := cell_later hb2 k2; have l3 := cell_later hb2 k3)
          | (go_at_call 11; ((with_reducible refine (C3.out _ (bon hb1 hb2)).mono ?_)); rintro e w3 ⟨rfl, hb3⟩))
        go_ret
        exact ⟨by show Ending.returned (Value.bool (decide ((t.deep : Int) ≤ 20))) = _; rw [decide_eq_false (by omega)]; rfl, bon HB0.out (bon hb1 (bon hb2 hb3))⟩
    · have h1' : ¬ (t.size : Int) ≤ 200 := by omega
      rw [decide_eq_false h1]
      clear C3
      go_enter Tryd.func21, Tryd.ntmps21
      go_wp2_with (first
        | (go_at_call 7; ((with_reducible refine C1.out.mono ?_)); rintro e w1 ⟨rfl, hb1⟩; have k0 := cell_later hb1 f0; have k1 := cell_later hb1 f1; have k2 := cell_later hb1 f2; have k3 := cell_later hb1 f3)
        | (go_at_call 9; ((with_reducible refine (C2.out _ hb1).mono ?_)); rintro e w2 ⟨rfl, hb2⟩))
      go_ret
      exact ⟨rfl, bon HB0.out (bon hb1 hb2)⟩
  · have hne : ((errR t : Int) == 0) = false := by simp; omega
    rw [decide_eq_false he]
    generalize errR t = er at *
    generalize srtR t = sr at *
    clear he
    generalize w.alloc (boxT t) = W at *
    obtain ⟨f0, f1, f2, f3⟩ := F1
    simp only [Nat.zero_add] at f1 f2 f3
    unfold Tm.val at *
    go_enter Tryd.func21, Tryd.ntmps21
    go_wp2_with (go_at_call 7; ((with_reducible refine C1.out.mono ?_)); rintro e w1 ⟨rfl, hb1⟩)
    go_ret
    exact ⟨rfl, bon HB0.out hb1⟩
/-- ErrFull, or none -/
theorem errR_full {t : Tm} (h : t.srt ≠ 0) : errR t = 0 ∨ errR t = 7 := by
  unfold errR
  split
  · exact .inr rfl
  · exact .inl rfl
theorem gF_one (nm : ByteArray) (a : Tm) (h : errR a = 0) (n : ByteArray) (s : Int) : gF [(nm, a)].reverse n s = if n = nm ∧ s = (srtR a : Int) then some a else none := by
  show (if errR a = 0 then putT (fun _ _ => none) (nm, a) else (fun _ _ => none)) n s = _
  rw [if_pos h]; rfl
theorem gF_two (n1 n2 : ByteArray) (a b : Tm) (h : errR a = 0) (h' : errR b = 0) (n : ByteArray) (s : Int) : gF [(n1, a), (n2, b)].reverse n s = if n = n1 ∧ s = (srtR a : Int) then some a else if n = n2 ∧ s = (srtR b : Int) then some b else none := by
  show (if errR a = 0 then putT (if errR b = 0 then putT (fun _ _ => none) (n2, b) else (fun _ _ => none)) (n1, a) else (if errR b = 0 then putT (fun _ _ => none) (n2, b) else (fun _ _ => none))) n s = _
  rw [if_pos h, if_pos h']; rfl
theorem gE_one (nm : ByteArray) (a : Tm) (h : errR a = 0) : gE [(nm, a)].reverse = 0 := by
  show (if errR a = 0 then 0 else errR a) = 0
  rw [if_pos h]
theorem gE_two (n1 n2 : ByteArray) (a b : Tm) (h : errR a = 0) (h' : errR b = 0) : gE [(n1, a), (n2, b)].reverse = 0 := by
  show (if errR a = 0 then (if errR b = 0 then 0 else errR b) else errR a) = 0
  rw [if_pos h, if_pos h']
theorem putO_ok {t : Tm} {l : List As} (h : errR t = 0) (h' : gE l.reverse = 0) : putO t l = if errR (rp (gF l.reverse) t) ≠ 0 then (zT, errR (rp (gF l.reverse) t)) else (rp (gF l.reverse) t, 0) := by
  unfold putO
  rw [if_neg (by rw [h]; simp), if_neg (by rw [h']; simp)]
end Go.Proofs.YtaibmdikimpooaaDoor
