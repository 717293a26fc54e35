/-
  SbT: the calls of SubstNone: Fresh and Put, on the rows that it makes.
-/
import Derived.Test.YtaibmdikimpooaaDoorSbS
import Derived.Test.YtaibmdikimpooaaDoorSbT0
namespace Go.Proofs.YtaibmdikimpooaaDoor
open Go.RowKit

theorem frS_size (ts : List Tm) (nm : ByteArray) : (frS ts nm).size ≤ maxLen := by
  have h100 : (frS ts nm).size ≤ 100 := by
    unfold frS
    have h16 : (if nameB nm then nm else xN).size ≤ 16 := by
      split
      · rename_i h
        unfold nameB at h
        simp only [Bool.and_eq_true, decide_eq_true_eq] at h
        exact h.1.1.2
      · decide
    generalize (if nameB nm then nm else xN) = m at *
    unfold frN
    cases hf : ((List.range 101).map (chN m)).find? (noneB ts) with
    | none => exact chN_size h16 (by omega)
    | some y =>
      obtain ⟨j, hj, rfl⟩ := List.mem_map.1 (List.mem_of_find?_eq_some hf)
      exact chN_size h16 (List.mem_range.1 hj)
  exact Nat.le_trans h100 (by decide)
theorem sn_fr (t : Tm) (nm : ByteArray) (w : World) (ht : TIn w w.heap.size t) (hn : nm.size ≤ maxLen) (hS : Shps w) : Calls Tryd.prog 26 #[.slice (some ⟨w.heap.size, 0, none⟩) 1 1, .string nm] (w.alloc (boxT t)) (fun e w' => e = .returned (.string (frS [t] nm)) ∧ Below w.heap.size w w') := by
  have b1 := bel_alloc w (boxT t)
  have h := fresh_any [t] (.slice (some ⟨w.heap.size, 0, none⟩) 1 1) nm (w.alloc (boxT t)) (one_ts w t) (by simp) (fun x hx => by rw [List.mem_singleton.1 hx]; exact ht.later b1) (hS.later b1) hn
  refine Calls.mono h ?_
  rintro e w' ⟨rfl, h3⟩
  exact ⟨rfl, b1.trans (h3.mono b1.size)⟩
/-- what a Put with no error answers -/
def PutOk (x : Tm) (w : World) (e : Ending) (w' : World) : Prop := ∃ u : Tm, e = .returned (.tuple #[u.val, .int .i64 0]) ∧ u.er = x ∧ TIn w' w'.heap.size u ∧ Below w.heap.size w w'
theorem putOk_of {t x : Tm} {l : List As} {w w0 : World} {e : Ending} {w' : World} (h : SPutP t l w e w') (hp : putO t l = (x, 0)) (hb : Below w0.heap.size w0 w) : PutOk x w0 e w' := by
  obtain ⟨u, h1, h2, h3, h4⟩ := h
  rw [hp] at h1 h2
  exact ⟨u, h1, h2, h3, hb.trans (h4.mono hb.size)⟩
def row2 (f : ByteArray) (n : Int) : Obj := .cells #[.string f, .int .i64 1, .string ⟨#[]⟩, .int .i64 n, .slice none 0 0, .string f, .int .i64 8, .string ⟨#[]⟩, .int .i64 0, .slice none 0 0] 38
theorem sn_p2 (t : Tm) (f : ByteArray) (n : Int) (w : World) (ht : TIn w w.heap.size t) (he : errR t = 0) (hf : freeB t f = false) (hz : f.size ≤ maxLen) (hn : fitB n = true) (hS : Shps w) :
    Calls Tryd.prog 22 #[t.val, .slice (some ⟨w.heap.size, 0, none⟩) 2 2] (w.alloc (row2 f n)) (PutOk t.er w) := by
  have b1 := bel_alloc w (row2 f n)
  have hr : SbRow (w.alloc (row2 f n)).heap.size (w.alloc (row2 f n)) (.slice (some ⟨w.heap.size, 0, none⟩) 2 2) [(f, sNum n), (f, sEm)] := two_row w f f (sNum n) sEm
  have h := sput_any t [(f, sNum n), (f, sEm)] _ (w.alloc (row2 f n)) (ht.later b1) hr (by simp) (fun y hy => by
    simp only [List.mem_cons, List.not_mem_nil, or_false] at hy
    rcases hy with rfl | rfl
    · exact ⟨s_leaf (by decide) hn (by decide), hz⟩
    · exact ⟨s_leaf (by decide) (by decide) (by decide), hz⟩) (hS.later b1)
  refine Calls.mono h ?_
  intro e w' hh
  exact putOk_of hh (put_fresh he hf (sNum_ok n).1 sEm_ok.1) b1
def row3 (f : ByteArray) (n : Int) : Obj := .cells #[.string f, .int .i64 1, .string ⟨#[]⟩, .int .i64 n, .slice none 0 0, .string f, .int .i64 9, .string ⟨#[]⟩, .int .i64 0, .slice none 0 0, .string f, .int .i64 17, .string ⟨#[]⟩, .int .i64 0, .slice none 0 0] 38
theorem three_row (w : World) (f : ByteArray) (n : Int) : SbRow (w.alloc (row3 f n)).heap.size (w.alloc (row3 f n)) (.slice (some ⟨w.heap.size, 0, none⟩) 3 3) (threeA f n) := by
  refine ⟨_, 3, rfl, fun j hj => ?_⟩
  match j, hj with
  | 0, _ => exact ⟨w.heap.size, 0, rfl, by simp, by simp [Five5, row3, threeA, sNum, sAll, sFa, Tm.op, Tm.nm, Tm.n, Tm.a, Tm.ks, Tm.c, go_sem]⟩
  | 1, _ => exact ⟨w.heap.size, 0, rfl, by simp, by simp [Five5, row3, threeA, sNum, sAll, sFa, Tm.op, Tm.nm, Tm.n, Tm.a, Tm.ks, Tm.c, go_sem]⟩
  | 2, _ => exact ⟨w.heap.size, 0, rfl, by simp, by simp [Five5, row3, threeA, sNum, sAll, sFa, Tm.op, Tm.nm, Tm.n, Tm.a, Tm.ks, Tm.c, go_sem]⟩
theorem sn_p3 (t : Tm) (f : ByteArray) (n : Int) (w : World) (ht : TIn w w.heap.size t) (he : errR t = 0) (hz : f.size ≤ maxLen) (hn : fitB n = true) (hS : Shps w) :
    Calls Tryd.prog 22 #[t.val, .slice (some ⟨w.heap.size, 0, none⟩) 3 3] (w.alloc (row3 f n)) (PutOk (rp (gF (threeA f n).reverse) t) w) := by
  have b1 := bel_alloc w (row3 f n)
  have h := sput_any t (threeA f n) _ (w.alloc (row3 f n)) (ht.later b1) (three_row w f n) (by decide : (3 : Nat) ≤ 1000000) (fun y hy => by
    simp only [threeA, List.mem_cons, List.not_mem_nil, or_false] at hy
    rcases hy with rfl | rfl | rfl
    · exact ⟨s_leaf (by decide) hn (by decide), hz⟩
    · exact ⟨s_leaf (by decide) (by decide) (by decide), hz⟩
    · exact ⟨s_leaf (by decide) (by decide) (by decide), hz⟩) (hS.later b1)
  refine Calls.mono h ?_
  intro e w' hh
  exact putOk_of hh (put_three f n he).1 b1
/-- the row of names is a row of assignments -/
theorem names_row {w : World} {base : Nat} {v : Value} {L : List Nm} (h : w.ownsRow base 38 5 v L.length (asgs L)) : SbRow w.heap.size w v (asN L) := by
  have hlen : (asN L).length = L.length := by simp [asN]
  obtain ⟨A, c, rfl⟩ := own_slice h
  refine ⟨A, c, by rw [hlen], fun j hj => ?_⟩
  rw [hlen] at hj
  obtain ⟨g, c', e⟩ := own_some h (by omega)
  simp only [Value.slice.injEq, true_and] at e
  obtain ⟨rfl, rfl⟩ := e
  have h5 := own_five h rfl j hj
  refine ⟨g, 0, rfl, ?_, ?_⟩
  · exact World.block_lt_of_cell? _ _ h5.1
  · rw [Nat.zero_add]
    have e1 : (asN L)[j] = ((L.getD j noNm).1, vlf (L.getD j noNm)) := by
      simp [asN, List.getD_eq_getElem?_getD, List.getElem?_eq_getElem hj]
    rw [e1]
    exact h5
/-- the names of a right term, and where they stand -/
theorem sn_names (t : Tm) (w : World) (ht : TIn w w.heap.size t) (he : errR t = 0) (hS : Shps w) :
    Calls Tryd.prog 14 #[t.val] w fun e w' => (∃ (L : List Nm) (v : Value), e = .returned v ∧ w'.ownsRow w.heap.size 38 5 v L.length (asgs L) ∧ L.length ≤ 2000 ∧ (∀ x ∈ L, x.1.size ≤ maxLen) ∧ ∀ x, x ∈ L ↔ x ∈ t.vars) ∧ Below w.heap.size w w' := by
  refine (names_any t w ht hS he).mono ?_
  rintro e w' ⟨⟨L, v, h1, h2, h3⟩, hb'⟩
  refine ⟨⟨L, v, h1, h2, ?_, fun x hx => vars_size ht x ((h3.2 x).1 hx), h3.2⟩, hb'⟩
  have := snodup_len L t.vars (snames_nodup h3) (fun x hx => (h3.2 x).1 hx)
  have := vars_le t
  have := (errR_fine he).1
  omega
theorem nsN_fit {op : Int} (h : nsN op ≠ 0) : fitB op = true := by
  rcases four_ops h with rfl | rfl | rfl | rfl <;> decide
theorem sn_pn (t : Tm) (L : List Nm) (v : Value) (base : Nat) (w : World) (ht : TIn w w.heap.size t) (he : errR t = 0) (ho : w.ownsRow base 38 5 v L.length (asgs L)) (hl : L.length ≤ 2000) (hz : ∀ x ∈ L, x.1.size ≤ maxLen) (hL : ∀ x, x ∈ L ↔ x ∈ t.vars) (hS : Shps w) :
    Calls Tryd.prog 22 #[t.val, v] w (PutOk t.er w) := by
  have h := sput_any t (asN L) v w ht (names_row ho) (by simp only [asN, List.length_map]; omega) (fun y hy => by
    obtain ⟨x, hx, rfl⟩ := List.mem_map.1 hy
    exact ⟨s_leaf (nsN_fit (svars_ok (errR_fine he).2.2.1 x ((hL x).1 hx)).2) (by decide) (hz x hx), hz x hx⟩) hS
  refine Calls.mono h ?_
  intro e w' hh
  exact putOk_of hh (put_names he (fun x hx => (hL x).1 hx)) (Below.refl _ _)
end Go.Proofs.YtaibmdikimpooaaDoor
