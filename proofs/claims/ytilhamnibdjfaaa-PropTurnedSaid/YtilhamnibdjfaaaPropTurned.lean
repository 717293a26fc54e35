/-
  PropTurned, walked: it returns true.
-/
import Derived.Test.YtilhamnibdjfaaaPrQ
import Derived.Test.YtilhamnibdjfaaaPrIn
namespace Go.Proofs.Ytilhamnibdjfaaa
open Go.RowKit

theorem getD_lt {α : Type} {M : List α} {d : α} {i : Nat} (h : i < M.length) : M.getD i d = M[i] := by rw [List.getD_eq_getElem?_getD, List.getElem?_eq_getElem h]; rfl
theorem set_get (A : List Int) (k i : Nat) (x : Int) (hk : k < A.length) : (A.set k x).getD i 0 = if k = i then x else A.getD i 0 := by
  rw [List.getD_eq_getElem?_getD, List.getElem?_set]
  by_cases e : k = i
  · subst e; simp [hk]
  · rw [if_neg e, if_neg e, ← List.getD_eq_getElem?_getD]
/-- a literal with the variable v turned; an assignment with it turned -/
def tl (v : Nat) (x : Int) : Int := if x.natAbs = v then -x else x
def tn (v : Nat) (c : List Int) : List Int := c.map (tl v)
def tA (v : Nat) (A : List Int) : List Int := A.set v (-(A.getD v 0))
theorem tl_abs (v : Nat) (x : Int) : (tl v x).natAbs = x.natAbs := by unfold tl; split <;> omega
theorem tl_zero (v : Nat) (x : Int) : tl v x = 0 ↔ x = 0 := by unfold tl; split <;> omega
theorem tl_inj (v : Nat) (x y : Int) : tl v x = tl v y ↔ x = y := by
  constructor
  · intro h
    have h1 := congrArg Int.natAbs h
    rw [tl_abs, tl_abs] at h1
    unfold tl at h
    rw [h1] at h
    split at h <;> omega
  · rintro rfl; rfl
theorem tA_len (v : Nat) (A : List Int) : (tA v A).length = A.length := by simp [tA]
theorem tA_get {v : Nat} {A : List Int} (hv : v < A.length) (i : Nat) : (tA v A).getD i 0 = if v = i then -(A.getD v 0) else A.getD i 0 := set_get _ _ _ _ hv
theorem wh_turn {v : Nat} {A : List Int} (hv : v < A.length) (x : Int) : wh (tA v A) (tl v x) = wh A x := by
  unfold wh
  rw [tl_abs, tA_len, tA_get hv]
  by_cases h0 : x.natAbs = 0 ∨ A.length ≤ x.natAbs
  · rw [if_pos h0, if_pos h0]
  · rw [if_neg h0, if_neg h0]
    by_cases hx : v = x.natAbs
    · subst hx
      rw [if_pos rfl]
      have e : tl x.natAbs x = -x := by unfold tl; rw [if_pos rfl]
      rw [e]
      generalize A.getD x.natAbs 0 = a
      by_cases ha : a = 0
      · subst ha; rfl
      · rw [if_neg (by omega), if_neg ha]
        by_cases hp : 0 < a
        · by_cases hq : 0 < x
          · rw [if_pos (propext ⟨fun _ => by omega, fun _ => by omega⟩), if_pos (propext ⟨fun _ => hq, fun _ => hp⟩)]
          · rw [if_neg (fun h => by have : 0 < -a := h.mpr (by omega); omega), if_neg (fun h => hq (h.mp hp))]
        · by_cases hq : 0 < x
          · rw [if_neg (fun h => by have : 0 < -x := h.mp (by omega); omega), if_neg (fun h => hp (h.mpr hq))]
          · rw [if_pos (propext ⟨fun _ => by omega, fun _ => by omega⟩), if_pos (propext ⟨fun h => absurd h hp, fun h => absurd h hq⟩)]
    · have e : tl v x = x := by unfold tl; rw [if_neg (fun h => hx h.symm)]
      rw [if_neg hx, e]
theorem askGo_cons (A : List Int) (o x : Int) (c : List Int) : askGo A o (x :: c) = if wh A x = 1 then none else if wh A x = 0 then (if o ≠ 0 ∧ o ≠ x then none else askGo A x c) else askGo A o c := rfl
theorem askGo_turn {v : Nat} {A : List Int} (hv : v < A.length) : ∀ (c : List Int) (o : Int), askGo (tA v A) (tl v o) (tn v c) = (askGo A o c).map (tl v) := by
  intro c
  induction c with
  | nil => intro o; rfl
  | cons x c ih =>
    intro o
    show askGo (tA v A) (tl v o) (tl v x :: tn v c) = _
    rw [askGo_cons, askGo_cons, wh_turn hv]
    by_cases h1 : wh A x = 1
    · rw [if_pos h1, if_pos h1]; rfl
    · rw [if_neg h1, if_neg h1]
      by_cases h0 : wh A x = 0
      · rw [if_pos h0, if_pos h0]
        by_cases ho : o ≠ 0 ∧ o ≠ x
        · rw [if_pos ho, if_pos ⟨fun h => ho.1 ((tl_zero v o).1 h), fun h => ho.2 ((tl_inj v o x).1 h)⟩]; rfl
        · rw [if_neg ho, if_neg (fun h => ho ⟨fun e => h.1 ((tl_zero v o).2 e), fun e => h.2 (by rw [e])⟩), ih]
      · rw [if_neg h0, if_neg h0, ih]
theorem ask_turn {v : Nat} {A : List Int} (hv : v < A.length) (c : List Int) : ask (tA v A) (tn v c) = (ask A c).map (tl v) := by
  have := askGo_turn hv c 0
  rw [(tl_zero v 0).2 rfl] at this
  exact this
theorem find_turn {v : Nat} {A : List Int} (hv : v < A.length) (L : List (List Int)) : (L.map (tn v)).findSome? (ask (tA v A)) = (L.findSome? (ask A)).map (tl v) := by
  induction L with
  | nil => rfl
  | cons c L ih =>
    rw [List.map_cons, List.findSome?_cons, List.findSome?_cons, ask_turn hv]
    cases ask A c with
    | none => exact ih
    | some r => rfl
theorem put_turn {v : Nat} {A : List Int} {x : Int} (hv : v < A.length) (h0 : wh A x = 0) : put (tA v A) (tl v x) = tA v (put A x) := by
  have hx := wh_zero (A := A) (x := x) (by omega)
  unfold put
  rw [tl_abs]
  by_cases e : x.natAbs = v
  · subst e
    have e1 : tl x.natAbs x = -x := by unfold tl; rw [if_pos rfl]
    unfold tA
    rw [e1, List.set_set, List.set_set, set_get _ _ _ _ hx.2.2, if_pos rfl]
    congr 1
    by_cases hq : x < 0
    · rw [if_neg (by omega), if_pos hq]; rfl
    · rw [if_pos (by omega), if_neg hq]
  · have e1 : tl v x = x := by unfold tl; rw [if_neg e]
    unfold tA
    rw [e1, set_get _ _ _ _ hx.2.2, if_neg e]
    exact List.set_comm _ _ (fun h => e h.symm)
theorem unit_turn {v N : Nat} {L : List (List Int)} (hv : v < N) : ∀ A, A.length = N → unit (L.map (tn v)) (tA v A) = (tA v (unit L A).1, (unit L A).2) := by
  refine unit_ind (L := L) (fun A h hA => ?_) (fun A h hA => ?_) (fun A x h hx ih hA => ?_)
  · have hv' : v < A.length := by omega
    rw [unit_none h, unit_none (by rw [find_turn hv', h]; rfl)]
  · have hv' : v < A.length := by omega
    rw [unit_conf h, unit_conf (by rw [find_turn hv', h]; exact congrArg some ((tl_zero v 0).2 rfl))]
  · have hv' : v < A.length := by omega
    rw [unit_step h hx, unit_step (x := tl v x) (by rw [find_turn hv', h]; rfl) (fun e => hx ((tl_zero v x).1 e)), put_turn hv' (findSome_open h hx)]
    exact ih (by rw [put_len]; exact hA)
theorem tA_tA {v : Nat} {A : List Int} (hv : v < A.length) : tA v (tA v A) = A := by
  unfold tA
  rw [set_get _ _ _ _ hv, if_pos rfl, List.set_set, Int.neg_neg, getD_lt hv]
  simp
theorem best_turn {v : Nat} {A : List Int} (hv : v < A.length) (c : List Int) : best (tA v A) (tn v c) = best A c := by
  unfold best tn
  rw [List.foldl_map]
  congr 1
  funext m x
  rw [wh_turn hv]
theorem evl_turn {v : Nat} {A : List Int} (hv : v < A.length) (L : List (List Int)) : evl (L.map (tn v)) (tA v A) = evl L A := by
  unfold evl
  rw [List.foldl_map]
  congr 1
  funext m c
  rw [best_turn hv]
theorem tn_small {v : Nat} {M : List (List Int)} {A B : List Int} (h : Small M A) (hB : B.length ≤ 1000) (hv : v ≤ 1000) : Small (M.map (tn v)) B := by
  refine ⟨by simpa using h.rows, hB, fun d hd => ?_⟩
  obtain ⟨c, hc, rfl⟩ := List.mem_map.1 hd
  obtain ⟨h1, h2⟩ := h.fit c hc
  refine ⟨fun x hx => ?_, by unfold tn; simpa using h2⟩
  unfold tn at hx
  obtain ⟨y, hy, rfl⟩ := List.mem_map.1 hx
  have := h1 y hy
  unfold tl
  split <;> omega
/-- a store into one row of one's own -/
theorem CR.put {w : World} {base gi li ci i k : Nat} {v : Value} {x : Int} {B : Nat} {C : List (List Int)} {us : List Value} (h : CR w base v C us) (ha : Apart B us) (hi : i < us.length) (hu : us[i] = .slice (some ⟨gi, 0, none⟩) li ci) : CR (w.setCell ⟨gi, k, none⟩ (.int .i64 x)) base v (C.set i ((C.getD i []).set k x)) us := by
  obtain ⟨b, hr⟩ := h.els i hi
  rw [hu] at hr
  have hl : (C.getD i []).length = li := by
    obtain ⟨a', c', e, -⟩ := own_val hr
    simp only [Value.slice.injEq] at e
    exact e.2.1.symm
  rw [hl] at hr
  obtain ⟨s1, s2⟩ := World.ownsRow.stored hr k (.int .i64 x)
  rw [nums_set] at s1
  have hlen := h.len
  have s3 : w.grownBy (w.setCell ⟨gi, k, none⟩ (.int .i64 x)) us[i].ownBlock := by rw [hu]; exact s2
  have hcl : (C.set i ((C.getD i []).set k x)).length = C.length := by simp
  refine ⟨?_, by rw [hcl]; exact h.len, fun p hp => ?_⟩
  · rw [hcl]
    refine own_grown h.row s3 (fun q h1 h2 => ?_)
    rw [hu] at h2
    exact own_apart hr h.row (by decide) q h2 h1
  · by_cases e : p = i
    · subst e
      have e1 : (C.set p ((C.getD p []).set k x)).getD p [] = (C.getD p []).set k x := by
        rw [List.getD_eq_getElem?_getD, List.getElem?_set, if_pos rfl, if_pos (by omega)]; rfl
      rw [e1, hu, List.length_set, hl]
      exact ⟨b, s1⟩
    · have e1 : (C.set i ((C.getD i []).set k x)).getD p [] = C.getD p [] := by
        rw [List.getD_eq_getElem?_getD, List.getElem?_set, if_neg (fun h => e h.symm), ← List.getD_eq_getElem?_getD]
      rw [e1]
      obtain ⟨b', k'⟩ := h.els p hp
      refine ⟨b', own_grown k' s3 (fun q h1 h2 => ?_)⟩
      rcases Nat.lt_or_ge p i with h9 | h9
      · exact ha.2 p i hp hi h9 q h1 h2
      · exact ha.2 i p hi hp (by omega) q h2 h1
/-- a clause whose first k literals are turned -/
def tk (v : Nat) (R : List Int) (k : Nat) : List Int := (R.take k).map (tl v) ++ R.drop k
theorem tk_len (v : Nat) (R : List Int) (k : Nat) : (tk v R k).length = R.length := by unfold tk; simp; omega
theorem tk_zero (v : Nat) (R : List Int) : tk v R 0 = R := by simp [tk]
theorem tk_all (v : Nat) (R : List Int) : tk v R R.length = tn v R := by simp [tk, tn]
theorem tk_get (v : Nat) (R : List Int) (k : Nat) (h : k < R.length) : (tk v R k).getD k 0 = R.getD k 0 := by
  unfold tk
  rw [List.getD_eq_getElem?_getD, List.getElem?_append_right (by simp; omega)]
  simp [List.getD_eq_getElem?_getD, Nat.min_eq_left (Nat.le_of_lt h)]
theorem tk_succ (v : Nat) (R : List Int) (k : Nat) (h : k < R.length) : tk v R (k + 1) = (tk v R k).set k (tl v (R.getD k 0)) := by
  unfold tk
  have hl : ((R.take k).map (tl v)).length = k := by simp; omega
  rw [List.take_succ_eq_append_getElem h, List.map_append, List.append_assoc, List.set_append_right _ _ (by omega), hl, Nat.sub_self, getD_lt h]
  conv => rhs; rw [List.drop_eq_getElem_cons h]
  rfl
theorem tk_keep (v : Nat) (R : List Int) (k : Nat) (h : k < R.length) (hz : (R.getD k 0).natAbs ≠ v) : tk v R (k + 1) = tk v R k := by
  rw [tk_succ v R k h]
  have e : tl v (R.getD k 0) = R.getD k 0 := by unfold tl; rw [if_neg hz]
  rw [e]
  have hl := tk_len v R k
  conv => lhs; rw [← tk_get v R k h]
  rw [getD_lt (by omega)]
  simp
theorem tk_turn (v : Nat) (R : List Int) (k : Nat) (h : k < R.length) (hz : (R.getD k 0).natAbs = v) : tk v R (k + 1) = (tk v R k).set k (-(R.getD k 0)) := by
  rw [tk_succ v R k h]
  unfold tl
  rw [if_pos hz]
/-- the clauses ahead of i are turned; of the i-th one the first k literals -/
def OC (v : Nat) (M : List (List Int)) (i : Nat) (C : List (List Int)) : Prop := C.length = M.length ∧ ∀ p, C.getD p [] = if p < i then tn v (M.getD p []) else M.getD p []
def IC (v : Nat) (M : List (List Int)) (i k : Nat) (C : List (List Int)) : Prop := C.length = M.length ∧ C.getD i [] = tk v (M.getD i []) k ∧ ∀ p, p ≠ i → C.getD p [] = if p < i then tn v (M.getD p []) else M.getD p []
theorem OC.start (v : Nat) (M : List (List Int)) : OC v M 0 M := ⟨rfl, fun p => by rw [if_neg (by omega)]⟩
theorem OC.inner {v i : Nat} {M C : List (List Int)} (h : OC v M i C) : IC v M i 0 C := ⟨h.1, by rw [h.2 i, if_neg (by omega), tk_zero], fun p _ => h.2 p⟩
theorem IC.outer {v i : Nat} {M C : List (List Int)} (h : IC v M i (M.getD i []).length C) : OC v M (i + 1) C := by
  refine ⟨h.1, fun p => ?_⟩
  by_cases e : p = i
  · subst e
    rw [h.2.1, tk_all, if_pos (by omega)]
  · rw [h.2.2 p e]
    by_cases hp : p < i
    · rw [if_pos hp, if_pos (by omega)]
    · rw [if_neg hp, if_neg (by omega)]
theorem IC.keep {v i k : Nat} {M C : List (List Int)} (h : IC v M i k C) (hk : k < (M.getD i []).length) (hz : ((M.getD i []).getD k 0).natAbs ≠ v) : IC v M i (k + 1) C := ⟨h.1, by rw [h.2.1, tk_keep v _ k hk hz], h.2.2⟩
theorem IC.turn {v i k : Nat} {M C : List (List Int)} (h : IC v M i k C) (hi : i < M.length) (hk : k < (M.getD i []).length) (hz : ((M.getD i []).getD k 0).natAbs = v) : IC v M i (k + 1) (C.set i ((C.getD i []).set k (-((M.getD i []).getD k 0)))) := by
  refine ⟨by simp [h.1], ?_, fun p hp => ?_⟩
  · rw [List.getD_eq_getElem?_getD, List.getElem?_set, if_pos rfl, if_pos (by rw [h.1]; exact hi), Option.getD_some, h.2.1, tk_turn v _ k hk hz]
  · rw [List.getD_eq_getElem?_getD, List.getElem?_set, if_neg (fun e => hp e.symm), ← List.getD_eq_getElem?_getD]
    exact h.2.2 p hp
theorem OC.last {v : Nat} {M C : List (List Int)} (h : OC v M M.length C) : C = M.map (tn v) := by
  apply List.ext_getElem
  · simp [h.1]
  · intro p h1 h2
    have hp : p < M.length := by rw [← h.1]; exact h1
    have := h.2 p
    rw [if_pos hp, getD_lt h1, getD_lt hp] at this
    rw [this]; simp
theorem turned_n (z : Int) (N : Nat) (h2 : 2 ≤ N) (h50 : N ≤ 50) : ∃ v : Nat, wrap64 (1 + (bits BinOp.and IntKind.i64 z 65535).tmod ((N : Int) - 1)) = (v : Int) ∧ 1 ≤ v ∧ v < N := by
  have h : ((BitVec.ofInt 64 z) &&& (BitVec.ofInt 64 65535)).toNat ≤ 65535 := by
    rw [BitVec.toNat_and]
    exact Nat.le_trans Nat.and_le_right (by decide)
  have hb : 0 ≤ bits BinOp.and IntKind.i64 z 65535 := by
    unfold bits
    show 0 ≤ IntKind.i64.wrap (((BitVec.ofInt 64 z) &&& (BitVec.ofInt 64 65535)).toNat : Int)
    rw [IntKind.wrap_i64]
    omega
  generalize bits BinOp.and IntKind.i64 z 65535 = q at *
  have e : q.tmod ((N : Int) - 1) = q % ((N : Int) - 1) := Int.tmod_eq_emod_of_nonneg hb
  rw [e]
  have l1 := Int.emod_nonneg q (show (N : Int) - 1 ≠ 0 by omega)
  have l2 := Int.emod_lt_of_pos q (show 0 < (N : Int) - 1 by omega)
  refine ⟨(1 + q % ((N : Int) - 1)).toNat, ?_, by omega, by omega⟩
  unfold wrap64
  omega
theorem wrap8 (x : Int) : IntKind.i8.wrap x = (x + 128) % 256 - 128 := by
  simp [IntKind.wrap, IntKind.bits, IntKind.signed]
  omega
theorem AC.kept {w : World} {g N c b gi li ci k : Nat} {A : List Int} {xs : List Value} {x : Value} (h : AC w g N c A) (hr : w.ownsRow b 3 1 (.slice (some ⟨gi, 0, none⟩) li ci) li xs) : AC (w.setCell ⟨gi, k, none⟩ x) g N c A :=
  ⟨h.1, h.2.1, own_grown (v := .slice (some ⟨gi, 0, none⟩) li ci) h.2.2 (World.ownsRow.stored hr k x).2 (fun q h1 h2 => own_apart hr h.2.2 (by decide) q h2 h1)⟩
theorem AC.beside {w : World} {g N c g2 N2 c2 k : Nat} {A A2 : List Int} {x : Int} (h : AC w g N c A) (h2 : AC w g2 N2 c2 A2) (hne : g ≠ g2) : AC (w.setCell ⟨g2, k, none⟩ (.int .i8 x)) g N c A :=
  ⟨h.1, h.2.1, own_grown h.2.2 (h2.grown k x) (fun q h1 h2 => by simp only [Value.ownBlock, Option.some.injEq] at h1 h2; omega)⟩
theorem CR.cellIn {w : World} {base i k l ci : Nat} {v : Value} {ai : Option Addr} {C : List (List Int)} {us : List Value} (h : CR w base v C us) (hi : i < us.length) (hu : us[i] = .slice ai l ci) (hk : k < l) :
    ∃ gi b, ai = some ⟨gi, 0, none⟩ ∧ w.cell? ⟨gi, k, none⟩ = some (.int .i64 ((C.getD i []).getD k 0)) ∧ w.frozen? ⟨gi, k, none⟩ = false ∧ w.ownsRow b 3 1 (.slice (some ⟨gi, 0, none⟩) l ci) l (nums .i64 (C.getD i [])) := by
  obtain ⟨b, hr⟩ := h.els i hi
  rw [hu] at hr
  have hl : (C.getD i []).length = l := by
    obtain ⟨a', c', e, -⟩ := own_val hr
    simp only [Value.slice.injEq] at e
    exact e.2.1.symm
  rw [hl] at hr
  obtain ⟨gi, cap, e⟩ := own_some hr (by omega)
  simp only [Value.slice.injEq, true_and] at e
  obtain ⟨rfl, rfl⟩ := e
  refine ⟨gi, b, rfl, ?_, World.ownsRow.frozenAt hr k, hr⟩
  rw [hr.cellAt k (by omega), nums_at _ _ _ (by omega)]
theorem turn_val {v : Nat} {B X : List Int} {m : Int} (hv : v < B.length) (hm : -1 ≤ m ∧ m ≤ 127) (h : ovr (B.set v m) X) : -1 ≤ X.getD v 0 ∧ X.getD v 0 ≤ 127 := by
  have e := h.2 v
  rw [set_get _ _ _ _ hv, if_pos rfl] at e
  by_cases h0 : m = 0
  · have := e.2 h0; omega
  · have := e.1 h0; omega
theorem tA_set {v : Nat} {B : List Int} (m : Int) (hv : v < B.length) : tA v (B.set v m) = B.set v (-m) := by
  unfold tA
  rw [set_get _ _ _ _ hv, if_pos rfl, List.set_set]
theorem unit_turned {v : Nat} {M : List (List Int)} {B : List Int} {m : Int} (hv : v < B.length) {X : List Int} {cf : Bool} (h : unit M (B.set v m) = (X, cf)) : unit (M.map (tn v)) (B.set v (-m)) = (tA v X, cf) := by
  have := unit_turn (L := M) (N := B.length) hv (B.set v m) (by simp)
  rw [tA_set m hv, h] at this
  exact this
theorem evl_turned {v : Nat} {M : List (List Int)} {B : List Int} {m : Int} (hv : v < B.length) : evl (M.map (tn v)) (B.set v (-m)) = evl M (B.set v m) := by
  rw [← tA_set m hv]
  exact evl_turn (by simpa using hv) M
theorem byte_get {A : List Int} (h : ∀ x ∈ A, -128 ≤ x ∧ x ≤ 127) (i : Nat) : -128 ≤ A.getD i 0 ∧ A.getD i 0 ≤ 127 := by
  by_cases hi : i < A.length
  · rw [getD_lt hi]; exact h _ (List.getElem_mem hi)
  · rw [List.getD_eq_getElem?_getD, List.getElem?_eq_none (by omega)]; decide
set_option maxRecDepth 100000 in
set_option maxHeartbeats 16000000 in
theorem turned_any (v : Value) (L : List (List Int)) (u : Value) (A : List Int) (z0 : Int) (w : World) (h : Args w v u L A) (ha8 : ∀ x ∈ A, -128 ≤ x ∧ x ≤ 127) (_ : -9223372036854775808 ≤ z0 ∧ z0 ≤ 9223372036854775807) : Calls Try.prog 8 #[v, u, .int .i64 z0] w (RetV (.bool true) w) := by
  have FW := mkHid (fun w' (hb : Below w.heap.size w w') => few_args h hb)
  have hs := mkHid (few_small A h.fit)
  have hM := fewL_len L
  have hM20 : ∀ c ∈ fewL L, c.length ≤ 20 := fun c hc => (fewL_fit h.fit c hc).2
  have hB50 := take_len A
  have H8 := mkHid (byte_get (A := A.take 50) (fun x hx => ha8 x (List.mem_of_mem_take hx)))
  have HM := mkHid (fun k hk => fewL_fit h.fit ((fewL L).getD k []) (by rw [getD_lt hk]; exact List.getElem_mem hk))
  clear h ha8
  generalize fewL L = M at *
  generalize A.take 50 = B at *
  have FA := mkHid (fun w' v' u' hv' hu' => few_again_apart (w := w') (v := v') (u := u') (L := M) (A := B) hv' hu' hM hM20 hB50)
  clear hM20
  obtain ⟨N0, hN0⟩ : ∃ N0, B.length = N0 := ⟨_, rfl⟩
  have HBN := mkHid hN0
  rw [hN0] at hB50
  clear hN0
  by_cases hN2 : N0 < 2
  · have hN2' : (N0 : Int) < 2 := by omega
    go_enter Try.func8, Try.ntmps8
    go_wp2_with (first
      | (go_at_call 12; ((with_reducible refine (shown_any _).mono ?_)); rintro e w1 ⟨rfl, hb1⟩; have HB1 := mkHid hb1; clear hb1)
      | (revert HB1; intro HB1; (go_at_call 13; ((with_reducible refine (FW.out _ HB1.out).mono ?_)); rintro e w2 ⟨v2, us2, g, N, c2, rfl, hNN, hn2, hl2, hg2, ha2, hb2⟩; obtain rfl : N0 = N := (hNN.trans HBN.out).symm; clear hNN; have HB2 := mkHid (bon HB1.out hb2); clear hb2 ha2 hl2)))
    go_ret
    exact ⟨rfl, HB2.out⟩
  · have hN2' : ¬ (N0 : Int) < 2 := by omega
    have hN1 : ¬ (N0 : Int) - 1 = 0 := by omega
    obtain ⟨vn, hvn, hv1, hvN⟩ := turned_n z0 N0 (by omega) hB50
    have HVB : Hid (vn < B.length) := by rw [HBN.out]; exact hvN
    go_enter Try.func8, Try.ntmps8
    go_wp2_with (first
      | (go_at_call 12; ((with_reducible refine (shown_any _).mono ?_)); rintro e w1 ⟨rfl, hb1⟩; have HB1 := mkHid hb1; clear hb1)
      | (revert HB2; intro HB2; (go_at_call 13; ((with_reducible refine (FA.out _ _ _ HLr.out HA2.out.rk).mono ?_)); rintro e w3 ⟨v3, us3, g3, N3, c3, rfl, hN3, hl3, hg3, ha3, hb3, hap⟩; obtain rfl : N0 = N3 := (hN3.trans HBN.out).symm; clear hN3; have HL3 := mkHid hl3; have HA3 := mkHid ha3; have HD3 := mkHid hb3; have HAP := mkHid hap; clear hb3 ha3 hl3 hap; obtain ⟨a3, c3r, rfl, -⟩ := own_val HL3.out.row))
      | (revert HB1; intro HB1; (go_at_call 13; ((with_reducible refine (FW.out _ HB1.out).mono ?_)); rintro e w2 ⟨v2, us2, g, N, c2, rfl, hNN, hn2, hl2, hg2, ha2, hb2⟩; obtain rfl : N0 = N := (hNN.trans HBN.out).symm; clear hNN; have HLc0 := mkHid hl2; have HLr := mkHid hl2.rr; have HA2 := mkHid ha2; have HB2 := mkHid (bon HB1.out hb2); have hgw := Nat.le_trans HB1.out.size hg2; clear hb2 ha2 hl2)))
    clear hvn hN1
    obtain ⟨base2, HLc⟩ : ∃ b, Hid (CR w2 b v2 M us2) := ⟨_, HLc0⟩
    clear HLc0 FW FA
    have hgsz := HA2.out.lt
    have HG3 : Hid (g ≠ g3) := fun e => by omega
    have HUL := HL3.out.len
    have OS := mkHid (OC.start vn M)
    have OL := mkHid (fun C (h : OC vn M M.length C) => h.last)
    obtain ⟨n, hn⟩ : ∃ n, M.length = n := ⟨_, rfl⟩
    have HNM := mkHid hn
    rw [hn] at hM HM HUL OL ⊢
    have HL3' := HL3.out
    rw [hn] at HL3'
    have HL4 := mkHid HL3'
    clear hn HL3 HL3'
    have HUL2 := mkHid HUL
    clear HUL
    go_loopw [10] (fun i w' => ∃ (p : Nat) (x : Int) (C : List (List Int)), p ≤ n ∧ i = .int .i64 x ∧ x = p ∧ Hid (CR w' w2.heap.size (.slice a3 n c3r) C us3) ∧ Hid (OC vn M p C) ∧ Hid (AC w' g3 N0 c3 B) ∧ Hid (Below w2.heap.size w2 w')) (fun i _ => (n - intOf i).toNat)
    case atStart => exact ⟨0, 0, M, Nat.zero_le _, rfl, rfl, HL4, OS, HA3, HD3⟩
    case round =>
      clear HA3 HD3 OS
      obtain ⟨p, x, C, hp, rfl, hxp, HC, HO, HA3, HD⟩ := hrel
      obtain rfl : x = (p : Int) := hxp
      by_cases hlp : p < n
      · have hpu : p < us3.length := by rw [HUL2.out]; exact hlp
        obtain ⟨b0, k0⟩ := HL4.out.els p hpu
        obtain ⟨ai, ci, eu, hlc⟩ := own_val k0
        have h20 := (HM.out p hlp).2
        have HFT := mkHid (HM.out p hlp).1.get
        have HIC := mkHid HO.out.inner
        have HKE := mkHid (fun k C (h : IC vn M p k C) hk hz => h.keep (k := k) hk hz)
        have HTU := mkHid (fun k C (h : IC vn M p k C) hk hz => h.turn (k := k) (by rw [HNM.out]; exact hlp) hk hz)
        have HOU := mkHid (fun C (h : IC vn M p (M.getD p []).length C) => h.outer)
        have HGT := mkHid (fun k C (h : IC vn M p k C) (hk : k < (M.getD p []).length) => show (C.getD p []).getD k 0 = (M.getD p []).getD k 0 by rw [h.2.1, tk_get vn _ k hk])
        have hlp' : (p : Int) < (n : Int) := by omega
        have EU := mkHid eu
        clear k0 eu HM HL4 HO OL
        generalize M.getD p [] = R at *
        obtain ⟨l, hl⟩ : ∃ l, R.length = l := ⟨_, rfl⟩
        rw [hl] at h20 HFT HKE HTU HOU HGT EU hlc
        clear hl
        obtain ⟨fr, hfr⟩ : ∃ f : Nat → Int, f = fun j => R.getD j 0 := ⟨_, rfl⟩
        have er : ∀ j, R.getD j 0 = fr j := fun j => by rw [hfr]
        simp only [er] at HFT HKE HTU HGT
        clear er hfr
        go_wp2
        go_loopw [11] (fun i w' => ∃ (k : Nat) (x : Int) (C : List (List Int)), k ≤ l ∧ i = .int .i64 x ∧ x = k ∧ Hid (CR w' w2.heap.size (.slice a3 n c3r) C us3) ∧ Hid (IC vn M p k C) ∧ Hid (AC w' g3 N0 c3 B) ∧ Hid (Below w2.heap.size w2 w')) (fun i _ => (l - intOf i).toNat)
        case atStart => exact ⟨0, 0, C, Nat.zero_le _, rfl, rfl, HC, HIC, HA3, HD⟩
        case round =>
          clear HC HIC HA3 HD
          obtain ⟨k, y, C, hk, rfl, hyk, HC, HIC, HA3, HD⟩ := hrel
          obtain rfl : y = (k : Int) := hyk
          have hrow := HC.out.row
          rw [HIC.out.1, HNM.out] at hrow
          obtain ⟨gr, capr, er⟩ := own_some hrow (by omega)
          simp only [Value.slice.injEq, true_and] at er
          obtain ⟨rfl, rfl⟩ := er
          have c1 := hrow.cellAt p (by omega)
          rw [List.getElem?_eq_getElem hpu, EU.out] at c1
          clear hrow
          by_cases hlk : k < l
          · obtain ⟨gi, bi, rfl, c2', fz, hri⟩ := HC.out.cellIn hpu EU.out hlk
            rw [HGT.out k C HIC.out hlk] at c2'
            obtain ⟨f1, f2⟩ := HFT.out k hlk
            have KE := mkHid (HKE.out k C HIC.out hlk)
            have TU := mkHid (HTU.out k C HIC.out hlk)
            have hgi := HAP.out.1 p hpu gi (by rw [EU.out]; rfl)
            have hlk' : (k : Int) < (l : Int) := by omega
            have HRI := mkHid hri
            have HNEG : Hid (gr ≠ gi) := fun e => by
              obtain ⟨x1, k1⟩ := own_kind hri rfl
              obtain ⟨x2, k2⟩ := own_kind HC.out.row rfl
              rw [e, k1] at k2
              simp at k2
            have C2 := mkHid c2'
            have FZ := mkHid fz
            clear hri HFT HKE HTU HOU HGT
            generalize fr k = q at *
            by_cases hq1 : q = (vn : Int)
            · subst hq1
              have HJ := mkHid (TU.out (by omega))
              have hwr : IntKind.i64.wrap (-(vn : Int)) = (-(vn : Int)) := by rw [IntKind.wrap_i64]; omega
              go_wp2_with fail
              (try dsimp only [List.append])
              refine wp_region_held_drew (S := fun w' => w'.cell? ⟨gr, p, none⟩ = some (.slice (some ⟨gi, 0, none⟩) l ci)) (by kernel_rfl) c1 (fun hHeld => ?_)
              have hb0 : Below wr.heap.size wr wr.drew := bdrew (Below.refl _ _)
              have HCV := mkHid (HC.out.later hb0)
              have HAV := mkHid (HA3.out.later hb0)
              have HDV := mkHid (bon HD.out hb0)
              have HRV := mkHid (own_keep HRI.out hb0)
              have c2v : wr.drew.cell? ⟨gi, k, none⟩ = some (.int .i64 (vn : Int)) := C2.out
              have fzv : wr.drew.frozen? ⟨gi, k, none⟩ = false := FZ.out
              clear hb0 C2 FZ c2' fz
              generalize wr.drew = V at *
              have PUT := mkHid (HCV.out.put (k := k) (x := (-(vn : Int))) HAP.out hpu EU.out)
              have AK := mkHid (HAV.out.kept (k := k) (x := .int .i64 (-(vn : Int))) HRV.out)
              have BK : Hid (Below w2.heap.size w2 (V.setCell ⟨gi, k, none⟩ (.int .i64 (-(vn : Int))))) := Below.setCell (p := ⟨gi, k, none⟩) HDV.out hgi _
              have k14 : (V.setCell ⟨gi, k, none⟩ (.int .i64 (-(vn : Int)))).cell? ⟨gr, p, none⟩ = some (.slice (some ⟨gi, 0, none⟩) l ci) := by
                rw [World.cell?_of_block (w := V) (a := ⟨gr, p, none⟩) (Below.heap_setCell V ⟨gi, k, none⟩ _ gr HNEG.out)]; exact hHeld
              refine wpAnyH_take (i := 0) (v := ?_) rfl (by kernel_rfl) (by kernel_rfl) (by kernel_rfl) (fun _ _ _ h => h) (Or.inl ⟨by kernel_rfl, ?_⟩) (by assumption) ?_
              rotate_left
              · (intro w hSw; (try dsimp only at hSw); go_simp; try with_reducible rfl)
              simp only [Act.put, List.getElem_toArray, List.getElem_cons_zero, List.setIfInBounds_toArray, List.set_cons_zero, List.set_cons_succ]
              refine wpAnyH_take (i := 1) (v := ?_) rfl (by kernel_rfl) (by kernel_rfl) (by kernel_rfl) (fun _ _ _ h => h) (Or.inl ⟨by kernel_rfl, ?_⟩) (by assumption) ?_
              rotate_left
              · (intro w hSw; (try dsimp only at hSw); go_simp; try with_reducible rfl)
              simp only [Act.put, List.getElem_toArray, List.getElem_cons_succ, List.getElem_cons_zero, List.setIfInBounds_toArray, List.set_cons_zero, List.set_cons_succ]
              refine wpAnyH_take (i := 2) (v := ?_) rfl (by kernel_rfl) (by kernel_rfl) (by kernel_rfl) (fun _ _ _ h => h) (Or.inl ⟨by kernel_rfl, ?_⟩) (by assumption) ?_
              rotate_left
              · (intro w hSw; (try dsimp only at hSw); go_simp; try with_reducible rfl)
              simp only [Act.put, List.getElem_toArray, List.getElem_cons_succ, List.getElem_cons_zero, List.setIfInBounds_toArray, List.set_cons_zero, List.set_cons_succ]
              refine wpAnyH_take (i := 3) (v := ?_) rfl (by kernel_rfl) (by kernel_rfl) (by kernel_rfl) (fun _ _ _ h => h) (Or.inl ⟨by kernel_rfl, ?_⟩) (by assumption) ?_
              rotate_left
              · (intro w hSw; (try dsimp only at hSw); go_simp; try with_reducible rfl)
              simp only [Act.put, List.getElem_toArray, List.getElem_cons_succ, List.getElem_cons_zero, List.setIfInBounds_toArray, List.set_cons_zero, List.set_cons_succ]
              refine wpAnyH_take (i := 4) (v := ?_) rfl (by kernel_rfl) (by kernel_rfl) (by kernel_rfl) (fun _ _ _ h => h) (Or.inl ⟨by kernel_rfl, ?_⟩) (by assumption) ?_
              rotate_left
              · (intro w hSw; (try dsimp only at hSw); go_simp; try with_reducible rfl)
              simp only [Act.put, List.getElem_toArray, List.getElem_cons_succ, List.getElem_cons_zero, List.setIfInBounds_toArray, List.set_cons_zero, List.set_cons_succ]
              refine wpAnyH_take (i := 5) (v := ?_) rfl (by kernel_rfl) (by kernel_rfl) (by kernel_rfl) (fun _ _ _ h => h) (Or.inl ⟨by kernel_rfl, ?_⟩) (by assumption) ?_
              rotate_left
              · (intro w hSw; (try dsimp only at hSw); go_simp; try with_reducible rfl)
              simp only [Act.put, List.getElem_toArray, List.getElem_cons_succ, List.getElem_cons_zero, List.setIfInBounds_toArray, List.set_cons_zero, List.set_cons_succ]
              refine wpAnyH_take (i := 6) (v := ?_) rfl (by kernel_rfl) (by kernel_rfl) (by kernel_rfl) (fun _ _ _ h => h) (Or.inl ⟨by kernel_rfl, ?_⟩) (by assumption) ?_
              rotate_left
              · (intro w hSw; (try dsimp only at hSw); go_simp; try with_reducible rfl)
              simp only [Act.put, List.getElem_toArray, List.getElem_cons_succ, List.getElem_cons_zero, List.setIfInBounds_toArray, List.set_cons_zero, List.set_cons_succ]
              refine wpAnyH_take (i := 7) (v := ?_) rfl (by kernel_rfl) (by kernel_rfl) (by kernel_rfl) (fun _ _ _ h => h) (Or.inl ⟨by kernel_rfl, ?_⟩) (by assumption) ?_
              rotate_left
              · (intro w hSw; (try dsimp only at hSw); go_simp; try with_reducible rfl)
              simp only [Act.put, List.getElem_toArray, List.getElem_cons_succ, List.getElem_cons_zero, List.setIfInBounds_toArray, List.set_cons_zero, List.set_cons_succ]
              refine wpAnyH_take (i := 8) (v := ?_) rfl (by kernel_rfl) (by kernel_rfl) (by kernel_rfl) (fun _ _ _ h => h) (Or.inl ⟨by kernel_rfl, ?_⟩) (by assumption) ?_
              rotate_left
              · (intro w hSw; (try dsimp only at hSw); go_simp; try with_reducible rfl)
              simp only [Act.put, List.getElem_toArray, List.getElem_cons_succ, List.getElem_cons_zero, List.setIfInBounds_toArray, List.set_cons_zero, List.set_cons_succ]
              refine wpAnyH_take (i := 9) (v := ?_) rfl (by kernel_rfl) (by kernel_rfl) (by kernel_rfl) (fun _ _ _ h => h) (Or.inl ⟨by kernel_rfl, ?_⟩) (by assumption) ?_
              rotate_left
              · (intro w hSw; (try dsimp only at hSw); go_simp; try with_reducible rfl)
              simp only [Act.put, List.getElem_toArray, List.getElem_cons_succ, List.getElem_cons_zero, List.setIfInBounds_toArray, List.set_cons_zero, List.set_cons_succ]
              refine wpAnyH_take (i := 10) (v := ?_) rfl (by kernel_rfl) (by kernel_rfl) (by kernel_rfl) (fun _ _ _ h => h) (Or.inl ⟨by kernel_rfl, ?_⟩) (by assumption) ?_
              rotate_left
              · (intro w hSw; (try dsimp only at hSw); go_simp; try with_reducible rfl)
              simp only [Act.put, List.getElem_toArray, List.getElem_cons_succ, List.getElem_cons_zero, List.setIfInBounds_toArray, List.set_cons_zero, List.set_cons_succ]
              refine wpAnyH_ready (rs := [11]) (by kernel_rfl) (by simp) ?_
              refine AllReadyH.cons rfl (fun K hK => ?_) AllReadyH.nil
              go_simp
              refine hK.out _ _ hHeld (fun hHeld => ?_)
              clear hK
              refine wpAnyH_take (i := 12) (v := ?_) rfl (by kernel_rfl) (by kernel_rfl) (by kernel_rfl) (fun _ _ _ h => h) (Or.inl ⟨by kernel_rfl, ?_⟩) (by assumption) ?_
              rotate_left
              · (intro w hSw; (try dsimp only at hSw); go_simp; try with_reducible rfl)
              simp only [Act.put, List.getElem_toArray, List.getElem_cons_succ, List.getElem_cons_zero, List.setIfInBounds_toArray, List.set_cons_zero, List.set_cons_succ]
              (try rw [hwr])
              refine wpAnyH_take (i := 13) (v := ?_) rfl (by kernel_rfl) (by kernel_rfl) (by kernel_rfl) (fun _ _ _ h => h) (Or.inl ⟨by kernel_rfl, ?_⟩) (by assumption) ?_
              rotate_left
              · (intro w hSw; (try dsimp only at hSw); go_simp; try with_reducible rfl)
              simp only [Act.put, List.getElem_toArray, List.getElem_cons_succ, List.getElem_cons_zero, List.setIfInBounds_toArray, List.set_cons_zero, List.set_cons_succ]
              refine wpAnyH_ready (rs := [14]) (by kernel_rfl) (by simp) ?_
              refine AllReadyH.cons rfl (fun K hK => ?_) AllReadyH.nil
              go_simp
              refine hK.out _ _ k14 (fun hHeld => ?_)
              clear hK
              refine wpAnyH_done (by kernel_rfl) ?_ _
              go_wp2
              go_roundw
              case rel => exact ⟨k + 1, _, _, by omega, rfl, by omega, PUT, HJ, AK, BK⟩
              case measure => simp [intOf]; omega
            · have hq1' : (q == (vn : Int)) = false := by simpa using hq1
              by_cases hq2 : q = -(vn : Int)
              · subst hq2
                have HJ0 := TU.out (by omega)
                rw [Int.neg_neg] at HJ0
                have HJ := mkHid HJ0
                clear HJ0
                have hwr : IntKind.i64.wrap ((vn : Int)) = (vn : Int) := by rw [IntKind.wrap_i64]; omega
                go_wp2_with fail
                (try dsimp only [List.append])
                refine wp_region_held_drew (S := fun w' => w'.cell? ⟨gr, p, none⟩ = some (.slice (some ⟨gi, 0, none⟩) l ci)) (by kernel_rfl) c1 (fun hHeld => ?_)
                have hb0 : Below wr.heap.size wr wr.drew := bdrew (Below.refl _ _)
                have HCV := mkHid (HC.out.later hb0)
                have HAV := mkHid (HA3.out.later hb0)
                have HDV := mkHid (bon HD.out hb0)
                have HRV := mkHid (own_keep HRI.out hb0)
                have c2v : wr.drew.cell? ⟨gi, k, none⟩ = some (.int .i64 (-(vn : Int))) := C2.out
                have fzv : wr.drew.frozen? ⟨gi, k, none⟩ = false := FZ.out
                clear hb0 C2 FZ c2' fz
                generalize wr.drew = V at *
                have PUT := mkHid (HCV.out.put (k := k) (x := (vn : Int)) HAP.out hpu EU.out)
                have AK := mkHid (HAV.out.kept (k := k) (x := .int .i64 (vn : Int)) HRV.out)
                have BK : Hid (Below w2.heap.size w2 (V.setCell ⟨gi, k, none⟩ (.int .i64 (vn : Int)))) := Below.setCell (p := ⟨gi, k, none⟩) HDV.out hgi _
                have k14 : (V.setCell ⟨gi, k, none⟩ (.int .i64 (vn : Int))).cell? ⟨gr, p, none⟩ = some (.slice (some ⟨gi, 0, none⟩) l ci) := by
                  rw [World.cell?_of_block (w := V) (a := ⟨gr, p, none⟩) (Below.heap_setCell V ⟨gi, k, none⟩ _ gr HNEG.out)]; exact hHeld
                refine wpAnyH_take (i := 0) (v := ?_) rfl (by kernel_rfl) (by kernel_rfl) (by kernel_rfl) (fun _ _ _ h => h) (Or.inl ⟨by kernel_rfl, ?_⟩) (by assumption) ?_
                rotate_left
                · (intro w hSw; (try dsimp only at hSw); go_simp; try with_reducible rfl)
                simp only [Act.put, List.getElem_toArray, List.getElem_cons_zero, List.setIfInBounds_toArray, List.set_cons_zero, List.set_cons_succ]
                refine wpAnyH_take (i := 1) (v := ?_) rfl (by kernel_rfl) (by kernel_rfl) (by kernel_rfl) (fun _ _ _ h => h) (Or.inl ⟨by kernel_rfl, ?_⟩) (by assumption) ?_
                rotate_left
                · (intro w hSw; (try dsimp only at hSw); go_simp; try with_reducible rfl)
                simp only [Act.put, List.getElem_toArray, List.getElem_cons_succ, List.getElem_cons_zero, List.setIfInBounds_toArray, List.set_cons_zero, List.set_cons_succ]
                refine wpAnyH_take (i := 2) (v := ?_) rfl (by kernel_rfl) (by kernel_rfl) (by kernel_rfl) (fun _ _ _ h => h) (Or.inl ⟨by kernel_rfl, ?_⟩) (by assumption) ?_
                rotate_left
                · (intro w hSw; (try dsimp only at hSw); go_simp; try with_reducible rfl)
                simp only [Act.put, List.getElem_toArray, List.getElem_cons_succ, List.getElem_cons_zero, List.setIfInBounds_toArray, List.set_cons_zero, List.set_cons_succ]
                refine wpAnyH_take (i := 3) (v := ?_) rfl (by kernel_rfl) (by kernel_rfl) (by kernel_rfl) (fun _ _ _ h => h) (Or.inl ⟨by kernel_rfl, ?_⟩) (by assumption) ?_
                rotate_left
                · (intro w hSw; (try dsimp only at hSw); go_simp; try with_reducible rfl)
                simp only [Act.put, List.getElem_toArray, List.getElem_cons_succ, List.getElem_cons_zero, List.setIfInBounds_toArray, List.set_cons_zero, List.set_cons_succ]
                refine wpAnyH_take (i := 4) (v := ?_) rfl (by kernel_rfl) (by kernel_rfl) (by kernel_rfl) (fun _ _ _ h => h) (Or.inl ⟨by kernel_rfl, ?_⟩) (by assumption) ?_
                rotate_left
                · (intro w hSw; (try dsimp only at hSw); go_simp; try with_reducible rfl)
                simp only [Act.put, List.getElem_toArray, List.getElem_cons_succ, List.getElem_cons_zero, List.setIfInBounds_toArray, List.set_cons_zero, List.set_cons_succ]
                refine wpAnyH_take (i := 5) (v := ?_) rfl (by kernel_rfl) (by kernel_rfl) (by kernel_rfl) (fun _ _ _ h => h) (Or.inl ⟨by kernel_rfl, ?_⟩) (by assumption) ?_
                rotate_left
                · (intro w hSw; (try dsimp only at hSw); go_simp; try with_reducible rfl)
                simp only [Act.put, List.getElem_toArray, List.getElem_cons_succ, List.getElem_cons_zero, List.setIfInBounds_toArray, List.set_cons_zero, List.set_cons_succ]
                refine wpAnyH_take (i := 6) (v := ?_) rfl (by kernel_rfl) (by kernel_rfl) (by kernel_rfl) (fun _ _ _ h => h) (Or.inl ⟨by kernel_rfl, ?_⟩) (by assumption) ?_
                rotate_left
                · (intro w hSw; (try dsimp only at hSw); go_simp; try with_reducible rfl)
                simp only [Act.put, List.getElem_toArray, List.getElem_cons_succ, List.getElem_cons_zero, List.setIfInBounds_toArray, List.set_cons_zero, List.set_cons_succ]
                refine wpAnyH_take (i := 7) (v := ?_) rfl (by kernel_rfl) (by kernel_rfl) (by kernel_rfl) (fun _ _ _ h => h) (Or.inl ⟨by kernel_rfl, ?_⟩) (by assumption) ?_
                rotate_left
                · (intro w hSw; (try dsimp only at hSw); go_simp; try with_reducible rfl)
                simp only [Act.put, List.getElem_toArray, List.getElem_cons_succ, List.getElem_cons_zero, List.setIfInBounds_toArray, List.set_cons_zero, List.set_cons_succ]
                refine wpAnyH_take (i := 8) (v := ?_) rfl (by kernel_rfl) (by kernel_rfl) (by kernel_rfl) (fun _ _ _ h => h) (Or.inl ⟨by kernel_rfl, ?_⟩) (by assumption) ?_
                rotate_left
                · (intro w hSw; (try dsimp only at hSw); go_simp; try with_reducible rfl)
                simp only [Act.put, List.getElem_toArray, List.getElem_cons_succ, List.getElem_cons_zero, List.setIfInBounds_toArray, List.set_cons_zero, List.set_cons_succ]
                refine wpAnyH_take (i := 9) (v := ?_) rfl (by kernel_rfl) (by kernel_rfl) (by kernel_rfl) (fun _ _ _ h => h) (Or.inl ⟨by kernel_rfl, ?_⟩) (by assumption) ?_
                rotate_left
                · (intro w hSw; (try dsimp only at hSw); go_simp; try with_reducible rfl)
                simp only [Act.put, List.getElem_toArray, List.getElem_cons_succ, List.getElem_cons_zero, List.setIfInBounds_toArray, List.set_cons_zero, List.set_cons_succ]
                refine wpAnyH_take (i := 10) (v := ?_) rfl (by kernel_rfl) (by kernel_rfl) (by kernel_rfl) (fun _ _ _ h => h) (Or.inl ⟨by kernel_rfl, ?_⟩) (by assumption) ?_
                rotate_left
                · (intro w hSw; (try dsimp only at hSw); go_simp; try with_reducible rfl)
                simp only [Act.put, List.getElem_toArray, List.getElem_cons_succ, List.getElem_cons_zero, List.setIfInBounds_toArray, List.set_cons_zero, List.set_cons_succ]
                refine wpAnyH_ready (rs := [11]) (by kernel_rfl) (by simp) ?_
                refine AllReadyH.cons rfl (fun K hK => ?_) AllReadyH.nil
                go_simp
                refine hK.out _ _ hHeld (fun hHeld => ?_)
                clear hK
                refine wpAnyH_take (i := 12) (v := ?_) rfl (by kernel_rfl) (by kernel_rfl) (by kernel_rfl) (fun _ _ _ h => h) (Or.inl ⟨by kernel_rfl, ?_⟩) (by assumption) ?_
                rotate_left
                · (intro w hSw; (try dsimp only at hSw); go_simp; try with_reducible rfl)
                simp only [Act.put, List.getElem_toArray, List.getElem_cons_succ, List.getElem_cons_zero, List.setIfInBounds_toArray, List.set_cons_zero, List.set_cons_succ]
                (try rw [hwr])
                refine wpAnyH_take (i := 13) (v := ?_) rfl (by kernel_rfl) (by kernel_rfl) (by kernel_rfl) (fun _ _ _ h => h) (Or.inl ⟨by kernel_rfl, ?_⟩) (by assumption) ?_
                rotate_left
                · (intro w hSw; (try dsimp only at hSw); go_simp; try with_reducible rfl)
                simp only [Act.put, List.getElem_toArray, List.getElem_cons_succ, List.getElem_cons_zero, List.setIfInBounds_toArray, List.set_cons_zero, List.set_cons_succ]
                refine wpAnyH_ready (rs := [14]) (by kernel_rfl) (by simp) ?_
                refine AllReadyH.cons rfl (fun K hK => ?_) AllReadyH.nil
                go_simp
                refine hK.out _ _ k14 (fun hHeld => ?_)
                clear hK
                refine wpAnyH_done (by kernel_rfl) ?_ _
                go_wp2
                go_roundw
                case rel => exact ⟨k + 1, _, _, by omega, rfl, by omega, PUT, HJ, AK, BK⟩
                case measure => simp [intOf]; omega
              · have hq2' : (q == -(vn : Int)) = false := by simpa using hq2
                have HJ := mkHid (KE.out (by omega))
                go_wp2
                go_roundw
                case rel => exact ⟨k + 1, _, C, by omega, rfl, by omega, HC, HJ, HA3, HD⟩
                case measure => simp [intOf]; omega
          · obtain rfl : k = l := by omega
            have hlk' : ¬ (k : Int) < (k : Int) := by omega
            have HJ := mkHid (HOU.out C HIC.out)
            go_wp2
            go_roundw
            case rel => exact ⟨p + 1, _, C, by omega, rfl, by omega, HC, HJ, HA3, HD⟩
            case measure => simp [intOf]; omega
      · obtain rfl : p = n := by omega
        have hlp' : ¬ (p : Int) < (p : Int) := by omega
        obtain rfl := OL.out C HO.out
        have hb8 := H8.out vn
        have HA2w := mkHid (HA2.out.later HD.out)
        have HLw := mkHid (HLc.out.later HD.out)
        have HWB := mkHid (bon HB2.out HD.out)
        have HGW3 : Hid (w.heap.size ≤ g3) := Nat.le_trans HB2.out.size hg3
        have c1 := HA3.out.cell vn hvN
        have c2x := HA3.out.frozen vn
        have hb250 : N0 ≤ 50 := hB50
        clear HM HL4 HO OL HD HAP
        generalize hbe : B.getD vn 0 = be at *
        have HBE := mkHid hbe
        clear hbe
        by_cases hbm : be < -1
        · have hmx : max be (-1 : Int) = -1 := by omega
          have NEGR : IntKind.i8.wrap (1 : Int) = (1 : Int) := by rw [wrap8]; omega
          have A1 := mkHid (HA3.out.set vn (1 : Int))
          have A2 := mkHid (HA2w.out.beside (k := vn) (x := (1 : Int)) HA3.out HG3.out)
          have L1 := mkHid (HLw.out.stored HA3.out vn (1 : Int))
          have M1 := mkHid (HC.out.stored HA3.out vn (1 : Int))
          have B1w := mkHid (Below.setCell (p := ⟨g3, vn, none⟩) HWB.out HGW3.out (.int .i8 (1 : Int)))
          have d3 := A2.out.cell vn hvN
          rw [HBE.out] at d3
          have d4 := A2.out.frozen vn
          have A3 := mkHid (A2.out.set vn (-1 : Int))
          have A4 := mkHid (A1.out.beside (k := vn) (x := (-1 : Int)) A2.out (fun e => HG3.out e.symm))
          have L2 := mkHid (L1.out.stored A2.out vn (-1 : Int))
          have M2 := mkHid (M1.out.stored A2.out vn (-1 : Int))
          have B2w := mkHid (Below.setCell (p := ⟨g, vn, none⟩) B1w.out hgw (.int .i8 (-1 : Int)))
          obtain ⟨X, cf, hx⟩ : ∃ X cf, unit M (B.set vn (-1 : Int)) = (X, cf) := ⟨_, _, rfl⟩
          have hy := unit_turned HVB.out hx
          have hxo : ovr (B.set vn (-1 : Int)) X := by
            have := unit_ovr (L := M) (B.set vn (-1 : Int))
            rw [hx] at this
            exact this
          have hXl : X.length = N0 := by have := unit_len M (B.set vn (-1 : Int)); rw [hx, List.length_set, HBN.out] at this; exact this
          have hrange := turn_val HVB.out (by omega) hxo
          obtain ⟨ev, hev⟩ : ∃ r, evl M (B.set vn (-1 : Int)) = r := ⟨_, rfl⟩
          have hev2 := evl_turned (M := M) (m := (-1 : Int)) HVB.out
          rw [hev] at hev2
          rw [show -(-1 : Int) = 1 from rfl] at hy hev2
          have hl1 : (B.set vn (-1 : Int)).length ≤ 1000 := by rw [List.length_set, HBN.out]; omega
          have hl2 : (B.set vn (1 : Int)).length ≤ 1000 := by rw [List.length_set, HBN.out]; omega
          have HS1 := mkHid (hs.out.of hl1)
          have HS2 := mkHid (tn_small (v := vn) hs.out hl2 (by omega))
          have U1 := mkHid (fun w' v' u' hv' hu' => unit_is (w := w') (v := v') (u := u') HS1.out hx hv' hu')
          have U2 := mkHid (fun w' v' u' hv' hu' => unit_is (w := w') (v := v') (u := u') HS2.out hy hv' hu')
          have E1 := mkHid (fun w' v' u' hv' hu' => eval_is (w := w') (v := v') (u := u') HS1.out hev hv' hu')
          have E2 := mkHid (fun w' v' u' hv' hu' => eval_is (w := w') (v := v') (u := u') HS2.out hev2 hv' hu')
          have S1 := mkHid (fun w' v' u' hv' hu' => same_self X v' u' w' hv' hu' (by rw [hXl]; omega))
          have hvX : vn < X.length := by rw [hXl]; exact hvN
          have hta := tA_tA hvX
          have hge := tA_get hvX vn
          rw [if_pos rfl] at hge
          unfold tA at hta
          obtain ⟨Y, hY⟩ : ∃ Y, tA vn X = Y := ⟨_, rfl⟩
          have hta2 : Y.set vn (-(Y.getD vn 0)) = X := by rw [← hY]; unfold tA; exact hta
          rw [hY] at hge hy
          have U2' : Hid (∀ w' v' u', RR w' v' (M.map (tn vn)) → RK .i8 w' u' (B.set vn (1 : Int)) → Calls Try.prog 14 #[v', u'] w' fun e w'' => ∃ g N, e = .returned (.tuple #[.slice (some ⟨g, 0, none⟩) N N, .bool cf]) ∧ N = (B.set vn (1 : Int)).length ∧ w'.heap.size ≤ g ∧ AR w'' g N Y ∧ Below w'.heap.size w' w'') := fun w' v' u' hv' hu' => unit_is (w := w') (v := v') (u := u') HS2.out hy hv' hu'
          have HTA := mkHid hta2
          obtain ⟨et, het⟩ : ∃ et, Y.getD vn 0 = et := ⟨_, rfl⟩
          rw [het] at hge hta2
          have HTA2 := mkHid hta2
          have HET := mkHid het
          have het1 : -127 ≤ et := by omega
          have het2 : et ≤ 1 := by omega
          have NEGE : IntKind.i8.wrap (-et) = -et := by rw [wrap8]; omega
          have HLN1 : Hid ((B.set vn (-1 : Int)).length = N0) := by rw [List.length_set]; exact HBN
          have HLN2 : Hid ((B.set vn (1 : Int)).length = N0) := by rw [List.length_set]; exact HBN
          have q1 : (cf == cf) = true := by simp
          have q2 : (ev == ev) = true := by simp
          have hvn1 : (vn : Int) < (N0 : Int) := by omega
          have hvn2 : ¬ (N0 : Int) ≤ (vn : Int) := by omega
          clear hx hy hxo hev hev2 hl1 hl2 hta hta2 hY hge U2 hXl hvX hrange het HS1 HS2 HVB
          generalize M.map (tn vn) = TM at *
          go_wp2_with (first
            | (revert HB21b; intro HB21b; (go_at_call 17; ((with_reducible refine (E2.out _ _ _ (M2.out.later (bon HD21b.out HD21c.out)).rr (A4.out.later (bon HD21b.out HD21c.out)).rk).mono ?_)); rintro e w9 ⟨rfl, hb9⟩; have HB99 := mkHid (bon (bon HB21b.out HD21c.out) hb9); clear hb9))
            | (revert HB21; intro HB21; (go_at_call 17; ((with_reducible refine (E1.out _ _ _ (L2.out.later (bon HD21.out HDs.out)).rr (A3.out.later (bon HD21.out HDs.out)).rk).mono ?_)); rintro e w8 ⟨rfl, hb8⟩; have HB21b := mkHid (bon HB21.out HDs.out); have HD21b := mkHid (bon HD21.out HDs.out); have HD21c := mkHid hb8; clear hb8))
            | (revert HB18; intro HB18; (go_at_call 16; ((with_reducible refine (S1.out _ _ _ HX21.out.rk HY21.out.rk).mono ?_)); rintro e w7 ⟨rfl, hb7⟩; have HB21 := mkHid HB18.out; have HD21 := mkHid HD18.out; have HDs := mkHid hb7; clear hb7))
            | (revert HB17; intro HB17; (go_at_call 14; ((with_reducible refine (U2'.out _ _ _ (M2.out.later HD17.out).rr (A4.out.later HD17.out).rk).mono ?_)); rintro e W18 ⟨g8, N8, rfl, hN8, hg8, ha8, hb8⟩; obtain rfl : N0 = N8 := HLN2.out.symm.trans hN8.symm; clear hN8; have c8 := ha8.cell vn hvN; rw [HET.out] at c8; have f8 := ha8.frozen vn; have hy21 := ha8.set vn (-et); rw [HTA2.out] at hy21; have HY21 := mkHid hy21; have hbs : Below W17.heap.size W17 (W18.setCell ⟨g8, vn, none⟩ (.int .i8 (-et))) := Below.setCell (p := ⟨g8, vn, none⟩) hb8 hg8 _; have HX21 := mkHid (HX17.out.later hbs); have HB18 := mkHid (bon HB17.out hbs); have HD18 := mkHid (bon HD17.out hbs); clear hb8 ha8 hy21 hbs))
            | (go_at_call 14; ((with_reducible refine (U1.out _ _ _ L2.out.rr A3.out.rk).mono ?_)); rintro e W17 ⟨g7, N7, rfl, hN7, hg7, ha7, hb7⟩; obtain rfl : N0 = N7 := HLN1.out.symm.trans hN7.symm; clear hN7; have HX17 := mkHid ha7; have HB17 := mkHid (bon B2w.out hb7); have HD17 := mkHid hb7; clear hb7 ha7))
          go_ret
          exact ⟨rfl, HB99.out⟩
        · have hmx : max be (-1 : Int) = be := by omega
          have NEGR : IntKind.i8.wrap (-be) = (-be) := by rw [wrap8]; omega
          have A1 := mkHid (HA3.out.set vn (-be))
          have A2 := mkHid (HA2w.out.beside (k := vn) (x := (-be)) HA3.out HG3.out)
          have L1 := mkHid (HLw.out.stored HA3.out vn (-be))
          have M1 := mkHid (HC.out.stored HA3.out vn (-be))
          have B1w := mkHid (Below.setCell (p := ⟨g3, vn, none⟩) HWB.out HGW3.out (.int .i8 (-be)))
          have d3 := A2.out.cell vn hvN
          rw [HBE.out] at d3
          have d4 := A2.out.frozen vn
          have A3 := mkHid (A2.out.set vn be)
          have A4 := mkHid (A1.out.beside (k := vn) (x := be) A2.out (fun e => HG3.out e.symm))
          have L2 := mkHid (L1.out.stored A2.out vn be)
          have M2 := mkHid (M1.out.stored A2.out vn be)
          have B2w := mkHid (Below.setCell (p := ⟨g, vn, none⟩) B1w.out hgw (.int .i8 be))
          obtain ⟨X, cf, hx⟩ : ∃ X cf, unit M (B.set vn be) = (X, cf) := ⟨_, _, rfl⟩
          have hy := unit_turned HVB.out hx
          have hxo : ovr (B.set vn be) X := by
            have := unit_ovr (L := M) (B.set vn be)
            rw [hx] at this
            exact this
          have hXl : X.length = N0 := by have := unit_len M (B.set vn be); rw [hx, List.length_set, HBN.out] at this; exact this
          have hrange := turn_val HVB.out (by omega) hxo
          obtain ⟨ev, hev⟩ : ∃ r, evl M (B.set vn be) = r := ⟨_, rfl⟩
          have hev2 := evl_turned (M := M) (m := be) HVB.out
          rw [hev] at hev2
          skip
          have hl1 : (B.set vn be).length ≤ 1000 := by rw [List.length_set, HBN.out]; omega
          have hl2 : (B.set vn (-be)).length ≤ 1000 := by rw [List.length_set, HBN.out]; omega
          have HS1 := mkHid (hs.out.of hl1)
          have HS2 := mkHid (tn_small (v := vn) hs.out hl2 (by omega))
          have U1 := mkHid (fun w' v' u' hv' hu' => unit_is (w := w') (v := v') (u := u') HS1.out hx hv' hu')
          have U2 := mkHid (fun w' v' u' hv' hu' => unit_is (w := w') (v := v') (u := u') HS2.out hy hv' hu')
          have E1 := mkHid (fun w' v' u' hv' hu' => eval_is (w := w') (v := v') (u := u') HS1.out hev hv' hu')
          have E2 := mkHid (fun w' v' u' hv' hu' => eval_is (w := w') (v := v') (u := u') HS2.out hev2 hv' hu')
          have S1 := mkHid (fun w' v' u' hv' hu' => same_self X v' u' w' hv' hu' (by rw [hXl]; omega))
          have hvX : vn < X.length := by rw [hXl]; exact hvN
          have hta := tA_tA hvX
          have hge := tA_get hvX vn
          rw [if_pos rfl] at hge
          unfold tA at hta
          obtain ⟨Y, hY⟩ : ∃ Y, tA vn X = Y := ⟨_, rfl⟩
          have hta2 : Y.set vn (-(Y.getD vn 0)) = X := by rw [← hY]; unfold tA; exact hta
          rw [hY] at hge hy
          have U2' : Hid (∀ w' v' u', RR w' v' (M.map (tn vn)) → RK .i8 w' u' (B.set vn (-be)) → Calls Try.prog 14 #[v', u'] w' fun e w'' => ∃ g N, e = .returned (.tuple #[.slice (some ⟨g, 0, none⟩) N N, .bool cf]) ∧ N = (B.set vn (-be)).length ∧ w'.heap.size ≤ g ∧ AR w'' g N Y ∧ Below w'.heap.size w' w'') := fun w' v' u' hv' hu' => unit_is (w := w') (v := v') (u := u') HS2.out hy hv' hu'
          have HTA := mkHid hta2
          obtain ⟨et, het⟩ : ∃ et, Y.getD vn 0 = et := ⟨_, rfl⟩
          rw [het] at hge hta2
          have HTA2 := mkHid hta2
          have HET := mkHid het
          have het1 : -127 ≤ et := by omega
          have het2 : et ≤ 1 := by omega
          have NEGE : IntKind.i8.wrap (-et) = -et := by rw [wrap8]; omega
          have HLN1 : Hid ((B.set vn be).length = N0) := by rw [List.length_set]; exact HBN
          have HLN2 : Hid ((B.set vn (-be)).length = N0) := by rw [List.length_set]; exact HBN
          have q1 : (cf == cf) = true := by simp
          have q2 : (ev == ev) = true := by simp
          have hvn1 : (vn : Int) < (N0 : Int) := by omega
          have hvn2 : ¬ (N0 : Int) ≤ (vn : Int) := by omega
          clear hx hy hxo hev hev2 hl1 hl2 hta hta2 hY hge U2 hXl hvX hrange het HS1 HS2 HVB
          generalize M.map (tn vn) = TM at *
          go_wp2_with (first
            | (revert HB21b; intro HB21b; (go_at_call 17; ((with_reducible refine (E2.out _ _ _ (M2.out.later (bon HD21b.out HD21c.out)).rr (A4.out.later (bon HD21b.out HD21c.out)).rk).mono ?_)); rintro e w9 ⟨rfl, hb9⟩; have HB99 := mkHid (bon (bon HB21b.out HD21c.out) hb9); clear hb9))
            | (revert HB21; intro HB21; (go_at_call 17; ((with_reducible refine (E1.out _ _ _ (L2.out.later (bon HD21.out HDs.out)).rr (A3.out.later (bon HD21.out HDs.out)).rk).mono ?_)); rintro e w8 ⟨rfl, hb8⟩; have HB21b := mkHid (bon HB21.out HDs.out); have HD21b := mkHid (bon HD21.out HDs.out); have HD21c := mkHid hb8; clear hb8))
            | (revert HB18; intro HB18; (go_at_call 16; ((with_reducible refine (S1.out _ _ _ HX21.out.rk HY21.out.rk).mono ?_)); rintro e w7 ⟨rfl, hb7⟩; have HB21 := mkHid HB18.out; have HD21 := mkHid HD18.out; have HDs := mkHid hb7; clear hb7))
            | (revert HB17; intro HB17; (go_at_call 14; ((with_reducible refine (U2'.out _ _ _ (M2.out.later HD17.out).rr (A4.out.later HD17.out).rk).mono ?_)); rintro e W18 ⟨g8, N8, rfl, hN8, hg8, ha8, hb8⟩; obtain rfl : N0 = N8 := HLN2.out.symm.trans hN8.symm; clear hN8; have c8 := ha8.cell vn hvN; rw [HET.out] at c8; have f8 := ha8.frozen vn; have hy21 := ha8.set vn (-et); rw [HTA2.out] at hy21; have HY21 := mkHid hy21; have hbs : Below W17.heap.size W17 (W18.setCell ⟨g8, vn, none⟩ (.int .i8 (-et))) := Below.setCell (p := ⟨g8, vn, none⟩) hb8 hg8 _; have HX21 := mkHid (HX17.out.later hbs); have HB18 := mkHid (bon HB17.out hbs); have HD18 := mkHid (bon HD17.out hbs); clear hb8 ha8 hy21 hbs))
            | (go_at_call 14; ((with_reducible refine (U1.out _ _ _ L2.out.rr A3.out.rk).mono ?_)); rintro e W17 ⟨g7, N7, rfl, hN7, hg7, ha7, hb7⟩; obtain rfl : N0 = N7 := HLN1.out.symm.trans hN7.symm; clear hN7; have HX17 := mkHid ha7; have HB17 := mkHid (bon B2w.out hb7); have HD17 := mkHid hb7; clear hb7 ha7))
          go_ret
          exact ⟨rfl, HB99.out⟩
end Go.Proofs.Ytilhamnibdjfaaa
