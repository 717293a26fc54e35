/-
  What SubstValues's proof stands on, part 8: TmT, SbP, SbQ, EvA, EvB.
-/
import Derived.Test.YtdfebacjbapahaaGreatDoorSubstValuesK07
import Derived.Test.YtdfebacjbapahaaGreatDoorSubstValuesK05
import Derived.Test.YtdfebacjbapahaaGreatDoorSubstValuesK04
import Derived.Test.YtdfebacjbapahaaGreatDoorSubstValuesK01
import Derived.Test.YtdfebacjbapahaaGreatDoorSubstValuesK02
import Derived.Laws.AppendOwn
import Derived.Laws.AppendOwnNone
import Derived.Laws.OwnMore
import Derived.Deep.AppendLies
namespace Go.Proofs.YtdfebacjbapahaaGreatDoor
section
open Go.RowKit

theorem deeps_take (l : List Tm) (k : Nat) (h : k < l.length) : Tm.deeps (l.take (k + 1)) = max (Tm.deeps (l.take k)) l[k].deep := by
  induction l generalizing k with
  | nil => simp at h
  | cons a l ih =>
    cases k with
    | zero => simp [Tm.deeps]
    | succ k =>
      simp only [List.take_succ_cons, Tm.deeps, List.getElem_cons_succ]
      rw [ih k (by simpa using h)]; omega

set_option maxRecDepth 100000 in
set_option maxHeartbeats 2000000 in
theorem rdeep_any : ∀ (t : Tm) (m : Nat) (w : World), 1 ≤ m → m ≤ 101 → TIn w w.heap.size t →
    Calls Tryz.prog 46 #[t.val, .int .i64 (m : Int)] w fun e w' => e = .returned (.int .i64 (min m t.deep : Nat)) ∧ Below w.heap.size w w' := by
  intro t
  induction t using Tm.ind with
  | h t ih =>
    intro m w hm1 hm2 ht
    have IH := mkHid ih
    clear ih
    have hlt := ht.nums.2.2.2
    unfold maxLen at hlt
    have HT := mkHid ht
    clear ht
    have B0 := bel_alloc w (boxT t)
    have F1 := box_four w t
    have hd1 : 1 ≤ t.deep := by rw [Tm.deep_eq]; omega
    have HD := mkHid (Tm.deep_eq t)
    have hW2 : w.alloc (.cells #[.int .i64 t.op, .string t.nm, .int .i64 t.n, .slice t.a t.ks.length t.c] 24) = w.alloc (boxT t) := rfl
    generalize w.alloc (boxT t) = W2 at *
    unfold Tm.val
    by_cases h1 : m = 1
    · subst h1
      have e1 : Hid (min 1 t.deep = 1) := by show _ = _; omega
      rw [e1.out]
      clear e1
      go_enter Tryz.func46, Tryz.ntmps46
      go_wp2
      go_ret
      exact ⟨rfl, B0⟩
    · have e1 : ((m : Int) == 1) = false := by rw [beq_eq_false_iff_ne]; omega
      obtain ⟨x0, x1, x2, x3⟩ := id F1
      simp only [Nat.zero_add] at x1 x2 x3
      generalize hn' : t.ks.length = n at *
      have HN := mkHid hn'
      clear hn'
      have hn : n ≤ 9223372036854775807 := by omega
      generalize hR' : min m t.deep = R
      have HR := mkHid hR'
      clear hR'
      go_enter Tryz.func46, Tryz.ntmps46
      go_wp2
      clear x0 x1 x2 x3 hW2
      go_loopw [5, 6] (fun d i w' => ∃ (k : Nat) (x y : Int) (dd : Nat), i = .int .i64 x ∧ x = k ∧ k ≤ n ∧ d = .int .i64 y ∧ y = dd ∧ dd ≤ 100 ∧ Hid (dd = min (m - 1) (Tm.deeps (t.ks.take k))) ∧ Below W2.heap.size W2 w') (fun _ i _ => (n - intOf i).toNat)
      case atStart => exact ⟨0, 0, 0, 0, rfl, rfl, Nat.zero_le _, rfl, rfl, by omega, by show (0 : Nat) = min _ (Tm.deeps []); simp [Tm.deeps], Below.refl _ _⟩
      case round =>
        obtain ⟨k, x, y, dd, rfl, hxk, hk, rfl, hyd, hd100, hdd, hb⟩ := hrel
        obtain rfl : x = (k : Int) := hxk
        obtain rfl : y = (dd : Int) := hyd
        have BB := bon B0 hb
        have x3 := (F1.later hb).2.2.2
        simp only [Nat.zero_add] at x3
        rw [HN.out] at x3
        by_cases hlt2 : k < n
        · have hk1 : k < t.ks.length := by rw [HN.out]; exact hlt2
          obtain ⟨kin1, b1, o1, ha1, hB1, kf1⟩ := HT.out.kid k hk1
          have C := mkHid (IH.out t.ks[k] (List.getElem_mem _) (m - 1) wr (by omega) (by omega) (kin1.later BB))
          have q1 := kf1.keep BB hB1
          have HS := mkHid (deeps_take t.ks k hk1)
          rw [ha1] at x3
          clear kf1 kin1 ha1 IH
          generalize t.ks[k] = p at *
          clear hk1
          obtain ⟨q10, q11, q12, q13⟩ := q1
          unfold Tm.val at C
          have em : ((m - 1 : Nat) : Int) = (m : Int) - 1 := by omega
          rw [em] at C
          clear em
          generalize hpd : min (m - 1) p.deep = pd at *
          have HPD := mkHid hpd
          have hpd100 : pd ≤ 100 := by omega
          clear hpd
          go_wp2_with fail
          ((with_reducible refine C.out.mono ?_)); rintro e w5 ⟨rfl, hb5⟩
          have B5 := bon hb hb5
          go_wp2
          go_roundw
          case rel => exact ⟨k + 1, _, _, max dd pd, rfl, by omega, by omega, rfl, by omega, by omega, (by show _ = _; rw [HS.out, hdd.out, ← HPD.out]; omega), B5⟩
          case measure => simp [intOf]; omega
        · have hRd : (dd : Int) + 1 = (R : Int) := by
            have h1 := hdd.out
            rw [List.take_of_length_le (by rw [HN.out]; omega)] at h1
            have h2 := HR.out
            have h3 := HD.out
            omega
          have HRD := mkHid hRd
          clear hRd hdd
          go_wp2
          go_ret
          exact ⟨ret_int HRD.out, BB⟩
theorem rDeep_any (t : Tm) (w : World) (ht : TIn w w.heap.size t) :
    Calls Tryz.prog 30 #[t.val] w fun e w' => e = .returned (.int .i64 (min 101 t.deep : Nat)) ∧ Below w.heap.size w w' := by
  have B0 := bel_alloc w (boxT t)
  have C := mkHid (rdeep_any t 101 _ (by omega) (by omega) (ht.later B0))
  obtain ⟨x0, x1, x2, x3⟩ := box_four w t
  simp only [Nat.zero_add] at x1 x2 x3
  have hW2 : w.alloc (.cells #[.int .i64 t.op, .string t.nm, .int .i64 t.n, .slice t.a t.ks.length t.c] 24) = w.alloc (boxT t) := rfl
  generalize w.alloc (boxT t) = W2 at *
  unfold Tm.val at C ⊢
  rw [show ((101 : Nat) : Int) = 101 from rfl] at C
  generalize min 101 t.deep = md at *
  clear ht
  go_enter Tryz.func30, Tryz.ntmps30
  go_wp2_with fail
  ((with_reducible refine C.out.mono ?_)); rintro e w5 ⟨rfl, hb5⟩
  go_wp2
  go_ret
  exact ⟨rfl, bon B0 hb5⟩
set_option maxRecDepth 100000 in
set_option maxHeartbeats 2000000 in
theorem rSame_any (t u : Tm) (w : World) (ht : TIn w w.heap.size t) (hu : TIn w w.heap.size u) :
    Calls Tryz.prog 13 #[t.val, u.val] w fun e w' => e = .returned (.bool (decide (t.deep ≤ 100) && decide (u.deep ≤ 100) && eqT t u)) ∧ Below w.heap.size w w' := by
  have B0 : Below w.heap.size w ((w.alloc (boxT t)).alloc (boxT u)) := bal (bal (Below.refl _ _) _) _
  have F1 : Four ((w.alloc (boxT t)).alloc (boxT u)) w.heap.size 0 t := (box_four w t).later (bel_alloc _ _)
  have F2 : Four ((w.alloc (boxT t)).alloc (boxT u)) (w.heap.size + 1) 0 u := by have := box_four (w.alloc (boxT t)) u; simpa using this
  have HT := mkHid (ht.later B0)
  have HU := mkHid (hu.later B0)
  have DT := mkHid (fun w' (h : TIn w' w'.heap.size t) => rDeep_any t w' h)
  have DU := mkHid (fun w' (h : TIn w' w'.heap.size u) => rDeep_any u w' h)
  have SM := mkHid (fun w' (h : TIn w' w'.heap.size t) (h' : TIn w' w'.heap.size u) => rsame_any t u w' h h')
  have hW2 : (w.alloc (.cells #[.int .i64 t.op, .string t.nm, .int .i64 t.n, .slice t.a t.ks.length t.c] 24)).alloc (.cells #[.int .i64 u.op, .string u.nm, .int .i64 u.n, .slice u.a u.ks.length u.c] 24) = (w.alloc (boxT t)).alloc (boxT u) := rfl
  generalize (w.alloc (boxT t)).alloc (boxT u) = W2 at *
  clear ht hu
  generalize eqT t u = R at *
  obtain ⟨x0, x1, x2, x3⟩ := id F1
  simp only [Nat.zero_add] at x1 x2 x3
  unfold Tm.val at DT DU SM ⊢
  by_cases h1 : t.deep ≤ 100
  · have q1 : decide (((min 101 t.deep : Nat) : Int) ≤ 100) = true := decide_eq_true (by omega)
    have d1 : decide (t.deep ≤ 100) = true := decide_eq_true h1
    rw [d1]
    generalize min 101 t.deep = mt at *
    clear h1 d1
    by_cases h2 : u.deep ≤ 100
    · have q2 : decide (((min 101 u.deep : Nat) : Int) ≤ 100) = true := decide_eq_true (by omega)
      have d2 : decide (u.deep ≤ 100) = true := decide_eq_true h2
      rw [d2]
      generalize min 101 u.deep = mu at *
      clear h2 d2
      go_enter Tryz.func13, Tryz.ntmps13
      go_wp2_with fail
      ((with_reducible refine (DT.out _ HT.out).mono ?_)); rintro e w3 ⟨rfl, hb3⟩
      clear x0 x1 x2 x3 hW2 DT
      obtain ⟨y0, y1, y2, y3⟩ := F2.later hb3
      simp only [Nat.zero_add] at y1 y2 y3
      go_wp2_with fail
      ((with_reducible refine (DU.out _ (HU.out.later hb3)).mono ?_)); rintro e w4 ⟨rfl, hb4⟩
      clear y0 y1 y2 y3 DU
      obtain ⟨x0, x1, x2, x3⟩ := F1.later (bon hb3 hb4)
      obtain ⟨y0, y1, y2, y3⟩ := F2.later (bon hb3 hb4)
      simp only [Nat.zero_add] at x1 x2 x3 y1 y2 y3
      go_wp2_with fail
      ((with_reducible refine (SM.out _ (HT.out.later (bon hb3 hb4)) (HU.out.later (bon hb3 hb4))).mono ?_)); rintro e w5 ⟨rfl, hb5⟩
      go_wp2
      go_ret
      exact ⟨rfl, bon B0 (bon (bon hb3 hb4) hb5)⟩
    · have q2 : decide (((min 101 u.deep : Nat) : Int) ≤ 100) = false := decide_eq_false (by omega)
      have d2 : decide (u.deep ≤ 100) = false := decide_eq_false h2
      rw [d2]
      generalize min 101 u.deep = mu at *
      clear h2 d2
      go_enter Tryz.func13, Tryz.ntmps13
      go_wp2_with fail
      ((with_reducible refine (DT.out _ HT.out).mono ?_)); rintro e w3 ⟨rfl, hb3⟩
      clear x0 x1 x2 x3 hW2 DT
      obtain ⟨y0, y1, y2, y3⟩ := F2.later hb3
      simp only [Nat.zero_add] at y1 y2 y3
      go_wp2_with fail
      ((with_reducible refine (DU.out _ (HU.out.later hb3)).mono ?_)); rintro e w4 ⟨rfl, hb4⟩
      go_wp2
      go_ret
      exact ⟨rfl, bon B0 (bon hb3 hb4)⟩
  · have q1 : decide (((min 101 t.deep : Nat) : Int) ≤ 100) = false := decide_eq_false (by omega)
    have d1 : decide (t.deep ≤ 100) = false := decide_eq_false h1
    rw [d1]
    generalize min 101 t.deep = mt at *
    clear h1 d1
    go_enter Tryz.func13, Tryz.ntmps13
    go_wp2_with fail
    ((with_reducible refine (DT.out _ HT.out).mono ?_)); rintro e w3 ⟨rfl, hb3⟩
    go_wp2
    go_ret
    exact ⟨rfl, bon B0 hb3⟩
end
section
open Go.RowKit

/-! what is put does not look at places -/
def erA (x : As) : As := (x.1, x.2.er)
theorem gE_from : ∀ (l : List As) (e : Nat), (l.map erA).foldl (fun e x => if errR x.2 = 0 then e else errR x.2) e = l.foldl (fun e x => if errR x.2 = 0 then e else errR x.2) e
  | [], _ => rfl
  | y :: l, e => by
    rw [List.map_cons, List.foldl_cons, List.foldl_cons, gE_from l]
    simp only [erA, er_errR]
theorem gE_er (l : List As) : gE (l.map erA) = gE l := gE_from l 0
theorem er_srtR (t : Tm) : srtR t.er = srtR t := by unfold srtR fullB; rw [er_size, er_deep, er_srt]
theorem gF_erfrom : ∀ (l : List As) (F G : ByteArray → Int → Option Tm), (∀ n s, F n s = (G n s).map Tm.er) → ∀ n s, ((l.map erA).foldl (fun F x => if errR x.2 = 0 then putT F x else F) F) n s = ((l.foldl (fun F x => if errR x.2 = 0 then putT F x else F) G) n s).map Tm.er
  | [], _, _, h, n, s => h n s
  | y :: l, F, G, h, n, s => by
    rw [List.map_cons, List.foldl_cons, List.foldl_cons]
    refine gF_erfrom l _ _ (fun n s => ?_) n s
    show (if errR y.2.er = 0 then putT F (erA y) else F) n s = _
    rw [er_errR]
    split
    · unfold putT erA
      dsimp only
      rw [er_srtR]
      split
      · rfl
      · exact h n s
    · exact h n s
theorem gF_er (l : List As) (n : ByteArray) (s : Int) : gF (l.map erA) n s = (gF l n s).map Tm.er := gF_erfrom l (fun _ _ => none) (fun _ _ => none) (fun _ _ => rfl) n s
theorem rp_congr {F G : ByteArray → Int → Option Tm} (h : ∀ n s, F n s = (G n s).map Tm.er) : ∀ t : Tm, rp F t = rp G t := by
  intro t
  induction t using Tm.ind with
  | h t ih =>
    by_cases hn : nsN t.op = 0
    · rw [rp_part hn, rp_part hn]
      congr 1
      exact List.map_congr_left ih
    · rw [rp_name hn, rp_name hn, h]
      cases G t.nm (nsN t.op : Int) with
      | none => rfl
      | some x => exact er_er x
theorem putO_er (t : Tm) (l : List As) : putO t.er (l.map erA) = putO t l := by
  unfold putO
  rw [← List.map_reverse, gE_er, er_errR, rp_congr (gF_er l.reverse), rp_er]
theorem freeB_er (t : Tm) (s : ByteArray) : freeB t.er s = freeB t s := by
  unfold freeB
  rw [er_errR, er_vars]
theorem eqTs_iff' : ∀ l l' : List Tm, (∀ k ∈ l, ∀ b : Tm, eqT k b = true ↔ k.er = b.er) → (eqTs l l' = true ↔ l.map Tm.er = l'.map Tm.er)
  | [], [], _ => by simp [eqTs]
  | [], _ :: _, _ => by simp [eqTs]
  | _ :: _, [], _ => by simp [eqTs]
  | a :: l, b :: l', h => by
    simp only [eqTs, Bool.and_eq_true, List.map_cons, List.cons.injEq]
    rw [h a (by simp) b, eqTs_iff' l l' (fun k hk => h k (by simp [hk]))]
theorem eqT_iff' : ∀ a b : Tm, eqT a b = true ↔ a.er = b.er := by
  intro a
  induction a using Tm.ind with
  | h a ih =>
    intro b
    rw [eqT_eq, er_eq, er_eq b]
    simp only [Bool.and_eq_true, beq_iff_eq, Tm.node.injEq, true_and, eqTs_iff' _ _ ih, ByteArray.toList_eq]
    constructor
    · rintro ⟨⟨⟨h1, h2⟩, h3⟩, h4⟩
      exact ⟨h1, Go.WideShapes.bytes_inj h2, h3, h4⟩
    · rintro ⟨h1, h2, h3, h4⟩
      exact ⟨⟨⟨h1, by rw [h2]⟩, h3⟩, h4⟩
theorem s_leaf {w : World} {B : Nat} {op n : Int} {nm : ByteArray} (h1 : fitB op = true) (h2 : fitB n = true) (h3 : nm.size ≤ maxLen) : TIn w B (.node op nm n none 0 []) :=
  .mk _ h1 h2 h3 (Nat.le_refl _) (Nat.zero_le _) (fun j hj => absurd hj (by simp [Tm.ks])) (fun k hk => absurd hk (by simp [Tm.ks]))
theorem s_two {w : World} {B g : Nat} {op : Int} {x y : Tm} (ho : fitB op = true) (hf : Four w g 0 x) (hf' : Four w g 4 y) (hx : TIn w B x) (hy : TIn w B y) (hg : g < B) : TIn w B (q2 op g x y) := by
  refine .mk _ ho (by show fitB 0 = true; decide) (by show (0 : Nat) ≤ _; omega) (by show (2 : Nat) ≤ 2; omega) (by show (2 : Nat) ≤ maxLen; decide) (fun j hj => ?_) (fun k hk => ?_)
  · have : j = 0 ∨ j = 1 := by simp [q2, Tm.ks] at hj; omega
    rcases this with rfl | rfl
    · exact ⟨g, 0, rfl, hg, hf⟩
    · exact ⟨g, 0, rfl, hg, hf'⟩
  · simp only [q2, Tm.ks, List.mem_cons, List.not_mem_nil, or_false] at hk
    rcases hk with rfl | rfl
    · exact hx
    · exact hy
/-! the terms of 'shown' -/
def xT : Tm := .node 2 ⟨#[120]⟩ 0 none 0 []
def yT : Tm := .node 2 ⟨#[121]⟩ 0 none 0 []
def n1T : Tm := .node 1 ⟨#[]⟩ 1 none 0 []
def sumD : Tm := .node 4 ⟨#[]⟩ 0 none 0 [yT, n1T]
theorem sh_put1 : putO xT [(⟨#[120]⟩, sumD), (⟨#[121]⟩, xT)] = (sumD, 0) := by kernel_rfl
theorem sh_put2 : putO xT [(⟨#[120]⟩, q0 16)] = (xT, 0) := by kernel_rfl
theorem sh_free1 : freeB sumD ⟨#[121]⟩ = true := by decide +kernel
theorem sh_free2 : freeB sumD ⟨#[120]⟩ = false := by decide +kernel
theorem dec0 : Lib.decDigits 0 = [48] := by unfold Lib.decDigits; rfl
theorem chN_x1 : chN ⟨#[120]⟩ 1 = ⟨#[120, 95, 48]⟩ := by
  unfold chN hdN
  rw [if_neg (by decide), dec0]
  decide +kernel
theorem sh_fresh1 : frS [xT] ⟨#[120]⟩ = ⟨#[120, 95, 48]⟩ := by
  unfold frS
  rw [if_pos (by decide +kernel)]
  rw [frN_at (k := 1) (by omega) (by rw [chN_x1]; decide +kernel) (fun j hj => by obtain rfl : j = 0 := (by omega); decide +kernel), chN_x1]
theorem sh_fresh2 : frS [xT] ⟨#[121]⟩ = ⟨#[121]⟩ := by
  unfold frS
  rw [if_pos (by decide +kernel)]
  rw [frN_at (k := 0) (by omega) (by decide +kernel) (fun j hj => absurd hj (by omega))]
  rfl
/-- the world of the first Put -/
def sW (w : World) : World := ((((w.alloc (.cells #[.int .i64 2, .string ⟨#[120]⟩, .int .i64 0, .slice none 0 0] 24)).alloc (.cells #[.int .i64 2, .string ⟨#[121]⟩, .int .i64 0, .slice none 0 0] 24)).alloc (.cells #[.int .i64 2, .string ⟨#[121]⟩, .int .i64 0, .slice none 0 0, .int .i64 1, .string ⟨#[]⟩, .int .i64 1, .slice none 0 0] 24)).alloc (.cells #[.int .i64 4, .string ⟨#[]⟩, .int .i64 0, .slice (some ⟨w.heap.size + 1 + 1, 0, none⟩) 2 2] 24)).alloc (.cells #[.string ⟨#[120]⟩, .int .i64 4, .string ⟨#[]⟩, .int .i64 0, .slice (some ⟨w.heap.size + 1 + 1, 0, none⟩) 2 2, .string ⟨#[121]⟩, .int .i64 2, .string ⟨#[120]⟩, .int .i64 0, .slice none 0 0] 41)
def sumT (w : World) : Tm := q2 4 (w.heap.size + 1 + 1) yT n1T
theorem sW_facts (w : World) : Below w.heap.size w (sW w) ∧ Four (sW w) w.heap.size 0 xT ∧ Four (sW w) (w.heap.size + 1 + 1 + 1) 0 (sumT w) ∧ TIn (sW w) (sW w).heap.size (sumT w) ∧ SbRow (sW w).heap.size (sW w) (.slice (some ⟨w.heap.size + 1 + 1 + 1 + 1, 0, none⟩) 2 2) [(⟨#[120]⟩, sumT w), (⟨#[121]⟩, xT)] := by
  refine ⟨bal (bal (bal (bal (bal (Below.refl _ _) _) _) _) _) _, ?_, ?_, s_two (by decide) ?_ ?_ (s_leaf (by decide) (by decide) (by decide)) (s_leaf (by decide) (by decide) (by decide)) ?_, ?_⟩
  · simp [sW, Four, go_sem, xT, Tm.op, Tm.nm, Tm.n, Tm.a, Tm.ks, Tm.c]
  · simp [sW, Four, go_sem, sumT, q2, Tm.op, Tm.nm, Tm.n, Tm.a, Tm.ks, Tm.c]
  · simp [sW, Four, go_sem, yT, Tm.op, Tm.nm, Tm.n, Tm.a, Tm.ks, Tm.c]
  · simp [sW, Four, go_sem, n1T, Tm.op, Tm.nm, Tm.n, Tm.a, Tm.ks, Tm.c]
  · simp [sW] <;> omega
  · refine ⟨_, 2, rfl, fun j hj => ?_⟩
    match j, hj with
    | 0, _ => exact ⟨w.heap.size + 1 + 1 + 1 + 1, 0, rfl, by simp [sW], by simp [Five5, sW, go_sem, sumT, q2, Tm.op, Tm.nm, Tm.n, Tm.a, Tm.ks, Tm.c]⟩
    | 1, _ => exact ⟨w.heap.size + 1 + 1 + 1 + 1, 0, rfl, by simp [sW], by simp [Five5, sW, go_sem, xT, Tm.op, Tm.nm, Tm.n, Tm.a, Tm.ks, Tm.c]⟩
theorem one_row (w : World) (nm : ByteArray) (t : Tm) : SbRow (w.alloc (.cells #[.string nm, .int .i64 t.op, .string t.nm, .int .i64 t.n, .slice t.a t.ks.length t.c] 41)).heap.size (w.alloc (.cells #[.string nm, .int .i64 t.op, .string t.nm, .int .i64 t.n, .slice t.a t.ks.length t.c] 41)) (.slice (some ⟨w.heap.size, 0, none⟩) 1 1) [(nm, t)] := by
  refine ⟨_, 1, rfl, fun j hj => ?_⟩
  match j, hj with
  | 0, _ => exact ⟨w.heap.size, 0, rfl, by simp, by simp [Five5, go_sem]⟩
theorem one_ts (w : World) (t : Tm) : SbTs (w.alloc (boxT t)) (.slice (some ⟨w.heap.size, 0, none⟩) 1 1) [t] := by
  refine ⟨_, 1, rfl, fun j hj => ?_⟩
  match j, hj with
  | 0, _ => exact ⟨w.heap.size, 0, rfl, by simp, by simp [Four, boxT, go_sem]⟩
theorem x_in (w : World) (B : Nat) : TIn w B xT := s_leaf (by decide) (by decide) (by decide)
theorem sh_p2 (t1 : Tm) (w2 : World) (hS : Shps w2) : Calls Tryz.prog 11 #[.agg #[.int .i64 2, .string ⟨#[120]⟩, .int .i64 0, .slice none 0 0], .slice (some ⟨w2.heap.size + 1, 0, none⟩) 1 1] ((w2.alloc (.cells #[.int .i64 t1.op, .string t1.nm, .int .i64 t1.n, .slice t1.a t1.ks.length t1.c] 24)).alloc (.cells #[.string ⟨#[120]⟩, .int .i64 16, .string ⟨#[]⟩, .int .i64 0, .slice none 0 0] 41)) (fun e w' => ∃ u : Tm, e = .returned (.tuple #[u.val, .int .i64 0]) ∧ u.er = xT ∧ TIn w' w'.heap.size u ∧ Below (w2.alloc (.cells #[.int .i64 t1.op, .string t1.nm, .int .i64 t1.n, .slice t1.a t1.ks.length t1.c] 24)).heap.size (w2.alloc (.cells #[.int .i64 t1.op, .string t1.nm, .int .i64 t1.n, .slice t1.a t1.ks.length t1.c] 24)) w') := by
  have b1 := bel_alloc w2 (boxT t1)
  have b2 := bal b1 (.cells #[.string ⟨#[120]⟩, .int .i64 16, .string ⟨#[]⟩, .int .i64 0, .slice none 0 0] 41)
  have hr : SbRow ((w2.alloc (boxT t1)).alloc (.cells #[.string ⟨#[120]⟩, .int .i64 16, .string ⟨#[]⟩, .int .i64 0, .slice none 0 0] 41)).heap.size ((w2.alloc (boxT t1)).alloc (.cells #[.string ⟨#[120]⟩, .int .i64 16, .string ⟨#[]⟩, .int .i64 0, .slice none 0 0] 41)) (.slice (some ⟨w2.heap.size + 1, 0, none⟩) 1 1) [(⟨#[120]⟩, q0 16)] := by
    have := one_row (w2.alloc (boxT t1)) ⟨#[120]⟩ (q0 16)
    rw [show (w2.alloc (boxT t1)).heap.size = w2.heap.size + 1 by simp] at this
    exact this
  have h := sput_any xT [(⟨#[120]⟩, q0 16)] (.slice (some ⟨w2.heap.size + 1, 0, none⟩) 1 1) ((w2.alloc (boxT t1)).alloc (.cells #[.string ⟨#[120]⟩, .int .i64 16, .string ⟨#[]⟩, .int .i64 0, .slice none 0 0] 41)) (x_in _ _) hr (by simp) (fun x hx => by
    rw [List.mem_singleton.1 hx]
    exact ⟨s_leaf (by decide) (by decide) (by decide), by show (1 : Nat) ≤ maxLen; decide⟩) (hS.later b2)
  refine Calls.mono h ?_
  rintro e w' ⟨u, rfl, h1, h2, h3⟩
  rw [sh_put2] at h1 ⊢
  have b3 := bel_alloc (w2.alloc (boxT t1)) (.cells #[.string ⟨#[120]⟩, .int .i64 16, .string ⟨#[]⟩, .int .i64 0, .slice none 0 0] 41)
  exact ⟨u, rfl, h1, h2, b3.trans (h3.mono b3.size)⟩
theorem sh_fr (w9 : World) (nm r : ByteArray) (hr : frS [xT] nm = r) (hn : nm.size ≤ maxLen) (hS : Shps w9) : Calls Tryz.prog 15 #[.slice (some ⟨w9.heap.size, 0, none⟩) 1 1, .string nm] (w9.alloc (.cells #[.int .i64 2, .string ⟨#[120]⟩, .int .i64 0, .slice none 0 0] 24)) (fun e w' => e = .returned (.string r) ∧ Below w9.heap.size w9 w') := by
  have b1 := bel_alloc w9 (boxT xT)
  have h := fresh_any [xT] (.slice (some ⟨w9.heap.size, 0, none⟩) 1 1) nm (w9.alloc (boxT xT)) (one_ts w9 xT) (by simp) (fun t ht => by rw [List.mem_singleton.1 ht]; exact x_in _ _) (hS.later b1) hn
  rw [hr] at h
  refine Calls.mono h ?_
  rintro e w' ⟨rfl, h3⟩
  exact ⟨rfl, b1.trans (h3.mono b1.size)⟩
set_option maxRecDepth 100000 in
set_option maxHeartbeats 8000000 in
theorem sshown_any (w : World) (hS : Shps w) : Calls Tryz.prog 4 #[] w (RetB true w) := by
  obtain ⟨B0, FX, FQ, IQ, HR⟩ := sW_facts w
  have S0 := hS.later B0
  have hW : sW w = sW w := rfl
  conv at hW => lhs; unfold sW
  have C1 := mkHid (sput_any xT [(⟨#[120]⟩, sumT w), (⟨#[121]⟩, xT)] _ (sW w) (x_in _ _) HR (by simp) (fun x hx => by
    simp only [List.mem_cons, List.not_mem_nil, or_false] at hx
    rcases hx with rfl | rfl
    · exact ⟨IQ, by show (1 : Nat) ≤ maxLen; decide⟩
    · exact ⟨x_in _ _, by show (1 : Nat) ≤ maxLen; decide⟩) S0)
  have hp1 : putO xT [(⟨#[120]⟩, sumT w), (⟨#[121]⟩, xT)] = (sumD, 0) := by
    rw [← putO_er]; exact sh_put1
  have hsum : (sumT w).er = sumD := rfl
  unfold SPutP at C1
  rw [hp1] at C1
  have hvx : xT.val = .agg #[.int .i64 2, .string ⟨#[120]⟩, .int .i64 0, .slice none 0 0] := rfl
  have hvs : (sumT w).val = .agg #[.int .i64 4, .string ⟨#[]⟩, .int .i64 0, .slice (some ⟨w.heap.size + 1 + 1, 0, none⟩) 2 2] := rfl
  have HFX := mkHid FX
  have HFQ := mkHid FQ
  have HIQ := mkHid IQ
  have HS := mkHid S0
  have HB0 := mkHid B0
  have HSUM := mkHid hsum
  have HVS := mkHid hvs
  have HVX := mkHid hvx
  rw [hvx] at C1
  clear hp1 HR FX FQ IQ S0 hS B0 hsum
  generalize hst : sumT w = st at *
  have HST := mkHid hst
  clear hst hvs hvx
  generalize sW w = W at *
  go_enter Tryz.func4, Tryz.ntmps4
  go_wp2_with fail
  ((with_reducible refine C1.out.mono ?_)); rintro e w2 ⟨t1, rfl, ht1, hi1, hb2⟩
  clear C1 hW
  have HX2 := mkHid (HFX.out.later hb2)
  have HQ2 := mkHid (HFQ.out.later hb2)
  have HI2 := mkHid (HIQ.out.later hb2)
  have HS2 := mkHid (HS.out.later hb2)
  have HB2 := mkHid (bon HB0.out hb2)
  have HT1 := mkHid ht1
  have HI1 := mkHid hi1
  obtain ⟨x0, x1, x2, x3⟩ := HX2.out
  simp only [xT, Tm.op, Tm.nm, Tm.n, Tm.a, Tm.ks, Tm.c, List.length_nil, Nat.zero_add] at x0 x1 x2 x3
  have C2 := mkHid (sh_p2 t1 w2 HS2.out)
  have F1 := box_four w2 t1
  have HF1 := mkHid F1
  have bt := bel_alloc w2 (boxT t1)
  have y0 : (w2.alloc (.cells #[.int .i64 t1.op, .string t1.nm, .int .i64 t1.n, .slice t1.a t1.ks.length t1.c] 24)).cell? ⟨w.heap.size, 0, none⟩ = some (.int .i64 2) := cell_later bt x0
  have y1 : (w2.alloc (.cells #[.int .i64 t1.op, .string t1.nm, .int .i64 t1.n, .slice t1.a t1.ks.length t1.c] 24)).cell? ⟨w.heap.size, 1, none⟩ = some (.string ⟨#[120]⟩) := cell_later bt x1
  have y2 : (w2.alloc (.cells #[.int .i64 t1.op, .string t1.nm, .int .i64 t1.n, .slice t1.a t1.ks.length t1.c] 24)).cell? ⟨w.heap.size, 2, none⟩ = some (.int .i64 0) := cell_later bt x2
  have y3 : (w2.alloc (.cells #[.int .i64 t1.op, .string t1.nm, .int .i64 t1.n, .slice t1.a t1.ks.length t1.c] 24)).cell? ⟨w.heap.size, 3, none⟩ = some (.slice none 0 0) := cell_later bt x3
  clear HFX HFQ HIQ HS HB0 ht1 hi1 hb2 F1 bt x0 x1 x2 x3
  unfold Tm.val
  go_wp2_with fail
  ((with_reducible refine C2.out.mono ?_)); rintro e w4 ⟨u, rfl, hu, hiu, hb4⟩
  clear C2 y0 y1 y2 y3
  have hb24 : Below w2.heap.size w2 w4 := (bel_alloc w2 (boxT t1)).trans (hb4.mono (bel_alloc w2 (boxT t1)).size)
  have b5 := bel_alloc w4 (boxT u)
  have b25 := bon hb24 b5
  have hF1 : Four (w4.alloc (boxT u)) w2.heap.size 0 t1 := ((box_four w2 t1).later hb4).later b5
  have hFu := box_four w4 u
  have HX5 := mkHid (HX2.out.later b25)
  have HQ5 := mkHid (HQ2.out.later b25)
  have HI5 := mkHid (HI2.out.later b25)
  have HS5 := mkHid (HS2.out.later b25)
  have HB5 := mkHid (bon HB2.out b25)
  have HT5 := mkHid (HI1.out.later b25)
  have HU5 := mkHid (hiu.later b5)
  have e1 : eqT t1 st = true := (eqT_iff' t1 st).2 (by rw [HT1.out, HSUM.out])
  have e2 : eqT u xT = true := (eqT_iff' u xT).2 (by rw [hu]; rfl)
  have d1 : t1.deep ≤ 100 := by rw [← er_deep, HT1.out]; decide +kernel
  have d2 : st.deep ≤ 100 := by rw [← er_deep, HSUM.out]; decide +kernel
  have d3 : u.deep ≤ 100 := by rw [← er_deep, hu]; decide +kernel
  have d4 : xT.deep ≤ 100 := by decide +kernel
  have C3 := mkHid (rSame_any t1 st (w4.alloc (boxT u)) HT5.out HI5.out)
  rw [e1, decide_eq_true d1, decide_eq_true d2] at C3
  have C4 := mkHid (fun (w6 : World) (hb : Below (w4.alloc (boxT u)).heap.size (w4.alloc (boxT u)) w6) => rSame_any u xT w6 (HU5.out.later hb) (x_in _ _))
  rw [e2, decide_eq_true d3, decide_eq_true d4, HVX.out] at C4
  have C5 := mkHid (fun (w6 : World) (hb : Below (w4.alloc (boxT u)).heap.size (w4.alloc (boxT u)) w6) => free_any st ⟨#[121]⟩ w6 (HI5.out.later hb) (HS5.out.later hb))
  have C6 := mkHid (fun (w6 : World) (hb : Below (w4.alloc (boxT u)).heap.size (w4.alloc (boxT u)) w6) => free_any st ⟨#[120]⟩ w6 (HI5.out.later hb) (HS5.out.later hb))
  have f5 : freeB st ⟨#[121]⟩ = true := by rw [← freeB_er, HSUM.out]; exact sh_free1
  have f6 : freeB st ⟨#[120]⟩ = false := by rw [← freeB_er, HSUM.out]; exact sh_free2
  rw [f5] at C5
  rw [f6] at C6
  have C7 := mkHid (fun (w6 : World) (hb : Below (w4.alloc (boxT u)).heap.size (w4.alloc (boxT u)) w6) => sh_fr w6 ⟨#[120]⟩ ⟨#[120, 95, 48]⟩ sh_fresh1 (by decide) (HS5.out.later hb))
  have C8 := mkHid (fun (w6 : World) (hb : Below (w4.alloc (boxT u)).heap.size (w4.alloc (boxT u)) w6) => sh_fr w6 ⟨#[121]⟩ ⟨#[121]⟩ sh_fresh2 (by decide) (HS5.out.later hb))
  have hW5 : w4.alloc (.cells #[.int .i64 u.op, .string u.nm, .int .i64 u.n, .slice u.a u.ks.length u.c] 24) = w4.alloc (boxT u) := rfl
  have HF15 := mkHid hF1
  have HFU := mkHid hFu
  obtain ⟨a0, a1, a2, a3⟩ := hF1
  obtain ⟨q0', q1', q2', q3'⟩ := HQ5.out
  simp only [Nat.zero_add] at a1 a2 a3 q1' q2' q3'
  clear e1 e2 d1 d2 d3 d4 f5 f6 hb24 b5 b25 hFu hu hiu hb4 HX2 HQ2 HI2 HS2 HB2 HI1 HT1 HSUM HF1
  generalize w4.alloc (boxT u) = W5 at *
  unfold Tm.val at C3 C4 C5 C6 ⊢
  go_wp2_with fail
  ((with_reducible refine C3.out.mono ?_)); rintro e w6 ⟨rfl, hb6⟩
  clear C3 hW5 a0 a1 a2 a3 q0' q1' q2' q3'
  obtain ⟨a0, a1, a2, a3⟩ := HFU.out.later hb6
  obtain ⟨x0, x1, x2, x3⟩ := HX5.out.later hb6
  simp only [xT, Tm.op, Tm.nm, Tm.n, Tm.a, Tm.ks, Tm.c, List.length_nil, Nat.zero_add] at x0 x1 x2 x3
  simp only [Nat.zero_add] at a1 a2 a3
  have HB6 := mkHid hb6
  clear hb6
  go_wp2_with fail
  ((with_reducible refine (C4.out _ HB6.out).mono ?_)); rintro e w7 ⟨rfl, hb7⟩
  clear C4 a0 a1 a2 a3 x0 x1 x2 x3
  have HB7 := mkHid (bon HB6.out hb7)
  clear hb7
  obtain ⟨q0', q1', q2', q3'⟩ := HQ5.out.later HB7.out
  simp only [Nat.zero_add] at q1' q2' q3'
  go_wp2_with fail
  ((with_reducible refine (C5.out _ HB7.out).mono ?_)); rintro e w8 ⟨rfl, hb8⟩
  clear C5 q0' q1' q2' q3'
  have HB8 := mkHid (bon HB7.out hb8)
  clear hb8
  obtain ⟨q0', q1', q2', q3'⟩ := HQ5.out.later HB8.out
  simp only [Nat.zero_add] at q1' q2' q3'
  go_wp2_with fail
  ((with_reducible refine (C6.out _ HB8.out).mono ?_)); rintro e w9 ⟨rfl, hb9⟩
  clear C6 q0' q1' q2' q3'
  have HB9 := mkHid (bon HB8.out hb9)
  clear hb9
  obtain ⟨x0, x1, x2, x3⟩ := HX5.out.later HB9.out
  simp only [xT, Tm.op, Tm.nm, Tm.n, Tm.a, Tm.ks, Tm.c, List.length_nil, Nat.zero_add] at x0 x1 x2 x3
  go_wp2_with fail
  ((with_reducible refine (C7.out _ HB9.out).mono ?_)); rintro e w10 ⟨rfl, hb10⟩
  clear C7 x0 x1 x2 x3
  have HB10 := mkHid (bon HB9.out hb10)
  clear hb10
  obtain ⟨x0, x1, x2, x3⟩ := HX5.out.later HB10.out
  simp only [xT, Tm.op, Tm.nm, Tm.n, Tm.a, Tm.ks, Tm.c, List.length_nil, Nat.zero_add] at x0 x1 x2 x3
  go_wp2_with fail
  ((with_reducible refine (C8.out _ HB10.out).mono ?_)); rintro e w11 ⟨rfl, hb11⟩
  clear C8 x0 x1 x2 x3
  go_wp2
  go_ret
  exact ⟨rfl, bon HB5.out (bon HB10.out hb11)⟩
end
section
open Go.RowKit

/-- a right term of at most two hundred, twenty deep -/
def smallB (t : Tm) : Bool := decide (errR t = 0) && (decide (t.size ≤ 200) && decide (t.deep ≤ 20))
theorem smallB_is {t : Tm} : smallB t = true ↔ errR t = 0 ∧ t.size ≤ 200 ∧ t.deep ≤ 20 := by unfold smallB; simp
set_option maxRecDepth 100000 in
set_option maxHeartbeats 4000000 in
theorem small_any (t : Tm) (w : World) (hin : TIn w w.heap.size t) (hS : Shps w) : Calls Tryz.prog 5 #[t.val] w (RetB (smallB t) w) := by
  have B0 := bel_alloc w (boxT t)
  have F1 := box_four w t
  have hW : w.alloc (.cells #[.int .i64 t.op, .string t.nm, .int .i64 t.n, .slice t.a t.ks.length t.c] 24) = w.alloc (boxT t) := rfl
  have C1 := mkHid (sort_any t _ (hin.later B0) (hS.later B0))
  have HIN := mkHid (hin.later B0)
  have HF := mkHid F1
  clear hin hS
  have HB0 := mkHid B0
  unfold RetB smallB
  by_cases he : errR t = 0
  · obtain ⟨z1, z2, -, -⟩ := errR_fine he
    rw [he] at C1
    rw [decide_eq_true he]
    have C2 := mkHid (fun (w1 : World) (hb : Below (w.alloc (boxT t)).heap.size (w.alloc (boxT t)) w1) => size_any t w1 (HIN.out.later hb))
    have C3 := mkHid (fun (w1 : World) (hb : Below (w.alloc (boxT t)).heap.size (w.alloc (boxT t)) w1) => deep_small t w1 (HIN.out.later hb) z1)
    rw [show min 2001 t.size = t.size by omega] at C2
    rw [show min 101 t.deep = t.deep by omega] at C3
    generalize w.alloc (boxT t) = W at *
    obtain ⟨f0, f1, f2, f3⟩ := F1
    simp only [Nat.zero_add] at f1 f2 f3
    unfold Tm.val at *
    by_cases h1 : t.size ≤ 200
    · have h1' : (t.size : Int) ≤ 200 := by omega
      rw [decide_eq_true h1]
      by_cases h2 : t.deep ≤ 20
      · have h2' : (t.deep : Int) ≤ 20 := by omega
        rw [decide_eq_true h2]
        go_enter Tryz.func5, Tryz.ntmps5
        go_wp2_with (first
          | (go_at_call 16; ((with_reducible refine C1.out.mono ?_)); rintro e w1 ⟨rfl, hb1⟩; have k0 := cell_later hb1 f0; have k1 := cell_later hb1 f1; have k2 := cell_later hb1 f2; have k3 := cell_later hb1 f3)
          | (go_at_call 17; ((with_reducible refine (C2.out _ hb1).mono ?_)); rintro e w2 ⟨rfl, hb2⟩; have l0 := cell_later hb2 k0; have l1 := cell_later hb2 k1; have l2 := cell_later hb2 k2; have l3 := cell_later hb2 k3)
          | (go_at_call 18; ((with_reducible refine (C3.out _ (bon hb1 hb2)).mono ?_)); rintro e w3 ⟨rfl, hb3⟩))
        go_ret
        exact ⟨rfl, bon HB0.out (bon hb1 (bon hb2 hb3))⟩
      · have h2' : ¬ (t.deep : Int) ≤ 20 := by omega
        rw [decide_eq_false h2]
        go_enter Tryz.func5, Tryz.ntmps5
        go_wp2_with (first
          | (go_at_call 16; ((with_reducible refine C1.out.mono ?_)); rintro e w1 ⟨rfl, hb1⟩; have k0 := cell_later hb1 f0; have k1 := cell_later hb1 f1; have k2 := cell_later hb1 f2; have k3 := cell_later hb1 f3)
          | (go_at_call 17; ((with_reducible refine (C2.out _ hb1).mono ?_)); rintro e w2 ⟨rfl, hb2⟩; have l0 := cell_later hb2 k0; have l1 := cell_later hb2 k1; have l2 := cell_later hb2 k2; have l3 := cell_later hb2 k3)
          | (go_at_call 18; ((with_reducible refine (C3.out _ (bon hb1 hb2)).mono ?_)); rintro e w3 ⟨rfl, hb3⟩))
        go_ret
        exact ⟨by show Ending.returned (Value.bool (decide ((t.deep : Int) ≤ 20))) = _; rw [decide_eq_false (by omega)]; rfl, bon HB0.out (bon hb1 (bon hb2 hb3))⟩
    · have h1' : ¬ (t.size : Int) ≤ 200 := by omega
      rw [decide_eq_false h1]
      clear C3
      go_enter Tryz.func5, Tryz.ntmps5
      go_wp2_with (first
        | (go_at_call 16; ((with_reducible refine C1.out.mono ?_)); rintro e w1 ⟨rfl, hb1⟩; have k0 := cell_later hb1 f0; have k1 := cell_later hb1 f1; have k2 := cell_later hb1 f2; have k3 := cell_later hb1 f3)
        | (go_at_call 17; ((with_reducible refine (C2.out _ hb1).mono ?_)); rintro e w2 ⟨rfl, hb2⟩))
      go_ret
      exact ⟨rfl, bon HB0.out (bon hb1 hb2)⟩
  · have hne : ((errR t : Int) == 0) = false := by simp; omega
    rw [decide_eq_false he]
    generalize errR t = er at *
    generalize srtR t = sr at *
    clear he
    generalize w.alloc (boxT t) = W at *
    obtain ⟨f0, f1, f2, f3⟩ := F1
    simp only [Nat.zero_add] at f1 f2 f3
    unfold Tm.val at *
    go_enter Tryz.func5, Tryz.ntmps5
    go_wp2_with (go_at_call 16; ((with_reducible refine C1.out.mono ?_)); rintro e w1 ⟨rfl, hb1⟩)
    go_ret
    exact ⟨rfl, bon HB0.out hb1⟩
/-- ErrFull, or none -/
theorem errR_full {t : Tm} (h : t.srt ≠ 0) : errR t = 0 ∨ errR t = 7 := by
  unfold errR
  split
  · exact .inr rfl
  · exact .inl rfl
theorem gF_one (nm : ByteArray) (a : Tm) (h : errR a = 0) (n : ByteArray) (s : Int) : gF [(nm, a)].reverse n s = if n = nm ∧ s = (srtR a : Int) then some a else none := by
  show (if errR a = 0 then putT (fun _ _ => none) (nm, a) else (fun _ _ => none)) n s = _
  rw [if_pos h]; rfl
theorem gF_two (n1 n2 : ByteArray) (a b : Tm) (h : errR a = 0) (h' : errR b = 0) (n : ByteArray) (s : Int) : gF [(n1, a), (n2, b)].reverse n s = if n = n1 ∧ s = (srtR a : Int) then some a else if n = n2 ∧ s = (srtR b : Int) then some b else none := by
  show (if errR a = 0 then putT (if errR b = 0 then putT (fun _ _ => none) (n2, b) else (fun _ _ => none)) (n1, a) else (if errR b = 0 then putT (fun _ _ => none) (n2, b) else (fun _ _ => none))) n s = _
  rw [if_pos h, if_pos h']; rfl
theorem gE_one (nm : ByteArray) (a : Tm) (h : errR a = 0) : gE [(nm, a)].reverse = 0 := by
  show (if errR a = 0 then 0 else errR a) = 0
  rw [if_pos h]
theorem gE_two (n1 n2 : ByteArray) (a b : Tm) (h : errR a = 0) (h' : errR b = 0) : gE [(n1, a), (n2, b)].reverse = 0 := by
  show (if errR a = 0 then (if errR b = 0 then 0 else errR b) else errR a) = 0
  rw [if_pos h, if_pos h']
theorem putO_ok {t : Tm} {l : List As} (h : errR t = 0) (h' : gE l.reverse = 0) : putO t l = if errR (rp (gF l.reverse) t) ≠ 0 then (zT, errR (rp (gF l.reverse) t)) else (rp (gF l.reverse) t, 0) := by
  unfold putO
  rw [if_neg (by rw [h]; simp), if_neg (by rw [h']; simp)]
end
section
open Go.RowKit

/-- a value: its sort, number, truth, and the set: where it stands, its room, and what is in it -/
structure Vl where
  sort : Int
  n : Int
  b : Bool
  a : Option Addr
  c : Nat
  s : List Bool
/-- a named value -/
structure Nd where
  nm : ByteArray
  v : Vl
/-- a world -/
structure Wd where
  nodes : Int
  a : Option Addr
  c : Nat
  l : List Nd
def Vl.val (v : Vl) : Value := .agg #[.int .i64 v.sort, .int .i64 v.n, .bool v.b, .slice v.a v.s.length v.c]
def Wd.val (W : Wd) : Value := .agg #[.int .i64 W.nodes, .slice W.a W.l.length W.c]
/-- bools lie in memory, in a block below B -/
def BIn (w : World) (B : Nat) (a : Option Addr) (l : List Bool) : Prop :=
  ∀ j (h : j < l.length), ∃ b o, a = some ⟨b, o, none⟩ ∧ b < B ∧ w.cell? ⟨b, o + j, none⟩ = some (.bool l[j])
structure VIn (w : World) (B : Nat) (v : Vl) : Prop where
  s : fitB v.sort = true
  n : fitB v.n = true
  c : v.s.length ≤ v.c
  m : v.c ≤ maxLen
  i : BIn w B v.a v.s
/-- the five cells of a named value -/
def NdAt (w : World) (b o : Nat) (x : Nd) : Prop :=
  w.cell? ⟨b, o, none⟩ = some (.string x.nm) ∧ w.cell? ⟨b, o + 1, none⟩ = some (.int .i64 x.v.sort) ∧ w.cell? ⟨b, o + 2, none⟩ = some (.int .i64 x.v.n) ∧ w.cell? ⟨b, o + 3, none⟩ = some (.bool x.v.b) ∧ w.cell? ⟨b, o + 4, none⟩ = some (.slice x.v.a x.v.s.length x.v.c)
structure WIn (w : World) (B : Nat) (W : Wd) : Prop where
  nd : fitB W.nodes = true
  c : W.l.length ≤ W.c
  m : W.c ≤ maxLen
  at_ : ∀ j (h : j < W.l.length), ∃ b o, W.a = some ⟨b, o, none⟩ ∧ b < B ∧ NdAt w b (o + j * 5) W.l[j]
  vs : ∀ x ∈ W.l, x.nm.size ≤ maxLen ∧ VIn w B x.v

theorem BIn.keep {w w' : World} {B : Nat} {a : Option Addr} {l : List Bool} (h : BIn w B a l) (hb : Below B w w') : BIn w' B a l := fun j hj => by
  obtain ⟨b, o, h1, h2, h3⟩ := h j hj
  exact ⟨b, o, h1, h2, by rw [hb.cell (p := ⟨b, o + j, none⟩) h2]; exact h3⟩
theorem BIn.mono {w : World} {B B' : Nat} {a : Option Addr} {l : List Bool} (h : BIn w B a l) (hB : B ≤ B') : BIn w B' a l := fun j hj => by
  obtain ⟨b, o, h1, h2, h3⟩ := h j hj
  exact ⟨b, o, h1, by omega, h3⟩
theorem VIn.keep {w w' : World} {B : Nat} {v : Vl} (h : VIn w B v) (hb : Below B w w') : VIn w' B v := ⟨h.s, h.n, h.c, h.m, h.i.keep hb⟩
theorem VIn.mono {w : World} {B B' : Nat} {v : Vl} (h : VIn w B v) (hB : B ≤ B') : VIn w B' v := ⟨h.s, h.n, h.c, h.m, h.i.mono hB⟩
theorem NdAt.keep {w w' : World} {b o B : Nat} {x : Nd} (h : NdAt w b o x) (hb : Below B w w') (hB : b < B) : NdAt w' b o x := by
  unfold NdAt at *
  rw [hb.cell (p := ⟨b, o, none⟩) hB, hb.cell (p := ⟨b, o + 1, none⟩) hB, hb.cell (p := ⟨b, o + 2, none⟩) hB, hb.cell (p := ⟨b, o + 3, none⟩) hB, hb.cell (p := ⟨b, o + 4, none⟩) hB]
  exact h
theorem WIn.keep {w w' : World} {B : Nat} {W : Wd} (h : WIn w B W) (hb : Below B w w') : WIn w' B W :=
  ⟨h.nd, h.c, h.m, fun j hj => by
    obtain ⟨b, o, h1, h2, h3⟩ := h.at_ j hj
    exact ⟨b, o, h1, h2, h3.keep hb h2⟩, fun x hx => ⟨(h.vs x hx).1, (h.vs x hx).2.keep hb⟩⟩
theorem WIn.mono {w : World} {B B' : Nat} {W : Wd} (h : WIn w B W) (hB : B ≤ B') : WIn w B' W :=
  ⟨h.nd, h.c, h.m, fun j hj => by
    obtain ⟨b, o, h1, h2, h3⟩ := h.at_ j hj
    exact ⟨b, o, h1, by omega, h3⟩, fun x hx => ⟨(h.vs x hx).1, (h.vs x hx).2.mono hB⟩⟩
theorem WIn.later {w w' : World} {W : Wd} (h : WIn w w.heap.size W) (hb : Below w.heap.size w w') : WIn w' w'.heap.size W := (h.keep hb).mono hb.size
theorem VIn.later {w w' : World} {v : Vl} (h : VIn w w.heap.size v) (hb : Below w.heap.size w w') : VIn w' w'.heap.size v := (h.keep hb).mono hb.size

/-- two cells of a world in a box -/
def TwoW (w : World) (b : Nat) (W : Wd) : Prop := w.cell? ⟨b, 0, none⟩ = some (.int .i64 W.nodes) ∧ w.cell? ⟨b, 1, none⟩ = some (.slice W.a W.l.length W.c)
theorem TwoW.later {w w' : World} {b : Nat} {W : Wd} (h : TwoW w b W) (hb : Below w.heap.size w w') : TwoW w' b W := ⟨cell_later hb h.1, cell_later hb h.2⟩
def boxP (W : Wd) : Obj := .cells #[.int .i64 W.nodes, .slice W.a W.l.length W.c] 55
def boxW (W : Wd) : Obj := .cells #[.int .i64 W.nodes, .slice W.a W.l.length W.c] 28
theorem boxP_two (w : World) (W : Wd) : TwoW (w.alloc (boxP W)) w.heap.size W := by simp [TwoW, boxP, go_sem]
theorem boxW_two (w : World) (W : Wd) : TwoW (w.alloc (boxW W)) w.heap.size W := by simp [TwoW, boxW, go_sem]
def boxN (x : Nd) : Obj := .cells #[.string x.nm, .int .i64 x.v.sort, .int .i64 x.v.n, .bool x.v.b, .slice x.v.a x.v.s.length x.v.c] 57
theorem boxN_five (w : World) (x : Nd) : NdAt (w.alloc (boxN x)) w.heap.size 0 x := by simp [NdAt, boxN, go_sem]

/-- is it this name, of this sort? -/
def hitN (nm : ByteArray) (s : Int) (x : Nd) : Bool := (x.v.sort == s) && (x.nm.toList == nm.toList)
/-- the first place from k on -/
def findN (nm : ByteArray) (s : Int) : List Nd → Nat → Int
  | [], _ => -1
  | x :: l, k => if hitN nm s x then k else findN nm s l (k + 1)
theorem findN_drop (nm : ByteArray) (s : Int) (l : List Nd) (k : Nat) (h : k < l.length) : findN nm s (l.drop k) k = if hitN nm s l[k] then (k : Int) else findN nm s (l.drop (k + 1)) (k + 1) := by
  rw [List.drop_eq_getElem_cons h]; rfl

set_option maxHeartbeats 1000000 in
set_option maxRecDepth 100000 in
theorem find_any (W : Wd) (nm : ByteArray) (s : Int) (w : World) (hin : WIn w w.heap.size W) :
    Calls Tryz.prog 20 #[W.val, .string nm, .int .i64 s] w fun e w' => e = .returned (.int .i64 (findN nm s W.l 0)) ∧ Below w.heap.size w w' := by
  have hlc := hin.c
  have hcm := hin.m
  unfold maxLen at hcm
  have HIN := mkHid hin
  have hB0 := bel_alloc w (boxP W)
  have TW := boxP_two w W
  clear hin
  have hn : W.l.length ≤ 9223372036854775807 := by omega
  generalize hR : findN nm s W.l 0 = R
  have HR : Hid (findN nm s (W.l.drop 0) 0 = R) := hR
  clear hR
  generalize hn' : W.l.length = n at *
  have HN := mkHid hn'
  clear hn' hlc hcm
  have hW : w.alloc (.cells #[.int .i64 W.nodes, .slice W.a n W.c] 55) = w.alloc (boxP W) := by unfold boxP; rw [HN.out]
  generalize w.alloc (boxP W) = W0 at *
  unfold Wd.val
  obtain ⟨a0, a1⟩ := TW
  rw [HN.out] at a1 ⊢
  go_enter Tryz.func20, Tryz.ntmps20
  go_wp2
  clear a0 a1 hW
  go_loopw [13] (fun i w' => ∃ (k : Nat) (x : Int), i = .int .i64 x ∧ x = k ∧ k ≤ n ∧ Below W0.heap.size W0 w' ∧ Hid (findN nm s (W.l.drop k) k = R)) (fun i _ => (n - intOf i).toNat)
  case atStart => exact ⟨0, 0, rfl, rfl, Nat.zero_le _, Below.refl _ _, HR⟩
  case round =>
    obtain ⟨k, x, rfl, hxk, hk, hb, hal⟩ := hrel
    obtain rfl : x = (k : Int) := hxk
    clear HR
    by_cases hlt : k < n
    · have hk' : k < W.l.length := by rw [HN.out]; exact hlt
      have hbw : Below w.heap.size w wr := bon hB0 hb
      obtain ⟨b, o, ha, hbB, kf⟩ := HIN.out.at_ k hk'
      have kf' := kf.keep hbw hbB
      have hsu := hal.out
      rw [findN_drop nm s W.l k hk'] at hsu
      have HSU := mkHid hsu
      rw [ha]
      clear ha kf hsu hal
      generalize W.l[k] = q at *
      clear hk'
      obtain ⟨g0, g1, g2, g3, g4⟩ := kf'
      have hb2 := bon hb (bel_alloc wr (boxN q))
      obtain ⟨f0, f1, f2, f3, f4⟩ := boxN_five wr q
      simp only [Nat.zero_add] at f1 f2 f3 f4
      have hW2 : wr.alloc (.cells #[.string q.nm, .int .i64 q.v.sort, .int .i64 q.v.n, .bool q.v.b, .slice q.v.a q.v.s.length q.v.c] 57) = wr.alloc (boxN q) := rfl
      generalize wr.alloc (boxN q) = W2 at *
      have hBW := bon hB0 hb2
      cases h1 : (q.v.sort == s)
      · have hh : hitN nm s q = false := by unfold hitN; rw [h1]; rfl
        rw [hh] at HSU
        go_wp2
        go_roundw
        case rel => exact ⟨k + 1, _, rfl, by omega, by omega, hb2, by simpa using HSU⟩
        case measure => simp [intOf]; omega
      · cases h2 : (q.nm.toList == nm.toList)
        · have hh : hitN nm s q = false := by unfold hitN; rw [h1, h2]; rfl
          rw [hh] at HSU
          go_wp2
          go_roundw
          case rel => exact ⟨k + 1, _, rfl, by omega, by omega, hb2, by simpa using HSU⟩
          case measure => simp [intOf]; omega
        · have hh : hitN nm s q = true := by unfold hitN; rw [h1, h2]; rfl
          rw [hh] at HSU
          have hR : R = (k : Int) := by have := HSU.out; simpa using this.symm
          subst hR
          clear HSU
          go_wp2
          go_ret
          exact ⟨rfl, hBW⟩
    · have hR : R = -1 := by
        have := hal.out
        rw [List.drop_eq_nil_of_le (by rw [HN.out]; omega)] at this
        exact this.symm
      subst hR
      clear hal
      go_wp2
      go_ret
      exact ⟨rfl, bon hB0 hb⟩
end
section
open Go.RowKit

def bls (l : List Bool) : List Value := l.map Value.bool
theorem bls_len (l : List Bool) : (bls l).length = l.length := by simp [bls]
theorem bls_get (l : List Bool) (j : Nat) (h : j < l.length) : (bls l)[j]? = some (.bool l[j]) := by simp [bls, h]
theorem bls_one (l : List Bool) : ∀ u ∈ bls l, u.oneCell' = true := by
  intro u hu
  simp only [bls, List.mem_map] at hu
  obtain ⟨b, -, rfl⟩ := hu
  rfl
/-- a row of bools of one's own -/
abbrev Own (w : World) (base : Nat) (a : Option Addr) (c : Nat) (l : List Bool) : Prop := w.ownsRow base 4 1 (.slice a l.length c) l.length (bls l)
theorem Own.cap {w : World} {base c : Nat} {a : Option Addr} {l : List Bool} (h : Own w base a c l) : l.length ≤ c ∧ c ≤ maxLen := by
  rcases h.2 with ⟨e, h0⟩ | ⟨g, cap, cur, e, -, -, hc, hm, -, -⟩
  · simp only [Value.slice.injEq] at e
    exact ⟨by omega, by rw [e.2.2]; unfold maxLen; omega⟩
  · simp only [Value.slice.injEq, true_and] at e
    obtain ⟨-, rfl⟩ := e
    exact ⟨hc, hm⟩
theorem Own.some {w : World} {base c : Nat} {a : Option Addr} {l : List Bool} (h : Own w base a c l) (hl : 0 < l.length) : ∃ g, a = some ⟨g, 0, none⟩ ∧ base ≤ g ∧ g < w.heap.size := by
  obtain ⟨g, cap, hv, hb, hlt⟩ := World.ownsRow.form h hl
  simp only [Value.slice.injEq, true_and] at hv
  exact ⟨g, hv.1, hb, hlt⟩
theorem Own.bin {w : World} {base c : Nat} {a : Option Addr} {l : List Bool} (h : Own w base a c l) : BIn w w.heap.size a l := fun j hj => by
  obtain ⟨g, rfl, hb, hlt⟩ := Own.some h (by omega)
  refine ⟨g, 0, rfl, hlt, ?_⟩
  rw [Nat.zero_add, World.ownsRow.cellAt h j (by omega)]
  exact bls_get l j hj
theorem add_off (b o j : Nat) : (⟨b, o, none⟩ : Addr).add j = ⟨b, o + j, none⟩ := by
  unfold Addr.add; split <;> simp_all

def zeroV : Value := .agg #[.int .i64 0, .int .i64 0, .bool false, .slice none 0 0]
/-- the cells of a value in a box that may be written -/
def FourV (w : World) (b : Nat) (x y z u : Value) : Prop := w.cell? ⟨b, 0, none⟩ = some x ∧ w.cell? ⟨b, 1, none⟩ = some y ∧ w.cell? ⟨b, 2, none⟩ = some z ∧ w.cell? ⟨b, 3, none⟩ = some u ∧ w.frozen? ⟨b, 0, none⟩ = false ∧ w.frozen? ⟨b, 1, none⟩ = false ∧ w.frozen? ⟨b, 2, none⟩ = false ∧ w.frozen? ⟨b, 3, none⟩ = false
theorem FourV.later {w w1 : World} {b : Nat} {x y z u : Value} (h : FourV w b x y z u) (hb : Below w.heap.size w w1) : FourV w1 b x y z u :=
  ⟨cell_later hb h.1, cell_later hb h.2.1, cell_later hb h.2.2.1, cell_later hb h.2.2.2.1, frozen_later hb h.1 h.2.2.2.2.1, frozen_later hb h.2.1 h.2.2.2.2.2.1, frozen_later hb h.2.2.1 h.2.2.2.2.2.2.1, frozen_later hb h.2.2.2.1 h.2.2.2.2.2.2.2⟩

theorem grown_below {w w' : World} {r : Option Nat} (hg : w.grownBy w' r) (hr : ∀ g, r = some g → w.heap.size ≤ g) : Below w.heap.size w w' :=
  ⟨hg.os, hg.tape, hg.output, hg.size, fun k hk => hg.block k hk (fun e => by have := hr k e.symm; omega)⟩
theorem own_put {w : World} {base e s n : Nat} {v : Value} {xs : List Value} (h : w.ownsRow base e s v n xs) {p : Addr} (hp : p.block < base) (u : Value) : (w.setCell p u).ownsRow base e s v n xs := by
  refine ⟨h.1, ?_⟩
  rcases h.2 with h0 | ⟨g, cap, cur, hv, hbg, hg, hr⟩
  · exact .inl h0
  · exact .inr ⟨g, cap, cur, hv, hbg, by rw [Below.heap_setCell w p u g (by omega)]; exact hg, hr⟩
theorem own_base {w : World} {base base' e s n : Nat} {v : Value} {xs : List Value} (h : w.ownsRow base e s v n xs) (hb : base' ≤ base) : w.ownsRow base' e s v n xs := by
  refine ⟨h.1, ?_⟩
  rcases h.2 with h0 | ⟨g, cap, cur, hv, hbg, hr⟩
  · exact .inl h0
  · exact .inr ⟨g, cap, cur, hv, by omega, hr⟩
theorem bool_info : (Tryz.prog.info? 4).map (fun i => (i.zero, i.size, i.bytes)) = some (some (.bool false), 1, 1) := by kernel_rfl
theorem bool_parts : ∃ i, Tryz.prog.info? 4 = some i ∧ i.zero = some (.bool false) ∧ i.size = 1 ∧ i.bytes = 1 := by
  obtain ⟨i, hi, he⟩ := Option.map_eq_some_iff.1 bool_info
  simp only [Prod.mk.injEq] at he
  exact ⟨i, hi, he.1, he.2.1, he.2.2⟩
/-- a copy of a value: the same, its set in memory of its own -/
def Copy (v : Vl) (w : World) (e : Ending) (w' : World) : Prop :=
  ∃ a c, e = .returned (.agg #[.int .i64 v.sort, .int .i64 v.n, .bool v.b, .slice a v.s.length c]) ∧ Own w' w.heap.size a c v.s ∧ Below w.heap.size w w'
set_option maxRecDepth 100000 in
set_option maxHeartbeats 1000000 in
theorem copied_any (v : Vl) (w : World) (hin : VIn w w.heap.size v) (hl : v.s.length ≤ 140737488355328) :
    Calls Tryz.prog 26 #[v.val] w (Copy v w) := by
  obtain ⟨i0, hi0, hz0, hz1, hz2⟩ := bool_parts
  have HIN := mkHid hin.i
  have hm := Nat.le_trans hin.c hin.m
  unfold maxLen at hm
  have hc0 : BIn w w.heap.size v.a v.s := hin.i
  clear hin
  obtain ⟨so, nn, bb, aa, cc, ss⟩ := v
  unfold Vl.val
  simp only at HIN hm hl hc0 ⊢
  cases ss with
  | nil =>
    cases aa
    all_goals
      go_enter Tryz.func26, Tryz.ntmps26
      go_wp2
      refine bodyPost_ret (v := .agg #[.int .i64 so, .int .i64 nn, .bool bb, .slice none 0 0]) (by simp [results, Tryz.results26, go_sem]) rfl ⟨none, 0, rfl, World.ownsRow_nil _ _ _ _, ?_⟩
      (repeat (first | exact Below.refl _ _ | (refine bset ?_ (by simp <;> omega) _) | refine bdrew ?_ | refine bal ?_ _))
  | cons x ss =>
    obtain ⟨b, o, rfl, hb, -⟩ := hc0 0 (by simp)
    clear hc0
    have HC := mkHid (fun (w' : World) (hb' : Below w.heap.size w w') => HIN.out.keep hb')
    generalize hls : x :: ss = ls at *
    have HLS := mkHid hls
    clear hls
    generalize hn' : ls.length = n at *
    have HN := mkHid hn'
    clear hn'
    have hw2 : Below w.heap.size w ((w.alloc (.cells #[.int .i64 so, .int .i64 nn, .bool bb, .slice (some ⟨b, o, none⟩) n cc] 36)).alloc (.cells #[.int .i64 0, .int .i64 0, .bool false, .slice none 0 0] 36)) := bal (bal (Below.refl _ _) _) _
    have hcells := mkHid (HC.out _ hw2)
    have hF1 : FourV ((w.alloc (.cells #[.int .i64 so, .int .i64 nn, .bool bb, .slice (some ⟨b, o, none⟩) n cc] 36)).alloc (.cells #[.int .i64 0, .int .i64 0, .bool false, .slice none 0 0] 36)) w.heap.size (.int .i64 so) (.int .i64 nn) (.bool bb) (.slice (some ⟨b, o, none⟩) n cc) := by simp [FourV, go_sem]
    have hF2 : FourV ((w.alloc (.cells #[.int .i64 so, .int .i64 nn, .bool bb, .slice (some ⟨b, o, none⟩) n cc] 36)).alloc (.cells #[.int .i64 0, .int .i64 0, .bool false, .slice none 0 0] 36)) (w.heap.size + 1) (.int .i64 0) (.int .i64 0) (.bool false) (.slice none 0 0) := by simp [FourV, go_sem]
    have hsz : ((w.alloc (.cells #[.int .i64 so, .int .i64 nn, .bool bb, .slice (some ⟨b, o, none⟩) n cc] 36)).alloc (.cells #[.int .i64 0, .int .i64 0, .bool false, .slice none 0 0] 36)).heap.size = w.heap.size + 1 + 1 := by simp
    have hn1 : 0 < 0 + n := by rw [← HN.out, ← HLS.out]; simp
    generalize hW2 : (w.alloc (.cells #[.int .i64 so, .int .i64 nn, .bool bb, .slice (some ⟨b, o, none⟩) n cc] 36)).alloc (.cells #[.int .i64 0, .int .i64 0, .bool false, .slice none 0 0] 36) = W2 at *
    obtain ⟨a0, a1, a2, a3, a4, a5, a6, a7⟩ := id hF1
    obtain ⟨d0, d1, d2, d3, d4, d5, d6, d7⟩ := id hF2
    have HSZ := mkHid hsz
    clear hsz
    go_enter Tryz.func26, Tryz.ntmps26
    go_wp2_with (at_builtin
                 refine wpList_append_own _ rfl (.const (.slice none 0 0)) (.tmp 4) _ rfl (w.heap.size + 1 + 1) 4 i0 _ 1 1 Tryz.underlying34 hi0 hz0 hz1 hz2 rfl (by omega) (.slice none 0 0) 0 [] rfl (World.ownsRow_nil _ _ _ _) ⟨b, o, none⟩ n cc (bls ls) rfl (by rw [bls_len, HN.out]; omega) (fun j u hu => by
                   obtain ⟨hj, rfl⟩ := List.getElem?_eq_some_iff.1 hu
                   rw [bls_len] at hj
                   obtain ⟨b', o', e, -, h3⟩ := hcells.out j hj
                   cases e
                   rw [add_off, h3]
                   simp [bls]) (bls_one _) (by simp only [maxLen]; omega) (by omega) (by rw [HSZ.out]; exact Nat.le_refl _) ?_
                 intro v' w' ho hg _
                 obtain ⟨g, cp, rfl, hgb, hgl⟩ := World.ownsRow.form ho hn1
                 have hbw := grown_below hg (fun g h => by simp [Value.ownBlock] at h)
                 obtain ⟨x0, x1, x2, x3, x4, x5, x6, x7⟩ := hF1.later hbw
                 obtain ⟨y0, y1, y2, y3, y4, y5, y6, y7⟩ := hF2.later hbw
                 clear a0 a1 a2 a3 a4 a5 a6 a7 d0 d1 d2 d3 d4 d5 d6 d7 hW2)
    have BW := bon hw2 hbw
    refine bodyPost_ret (v := .agg #[.int .i64 so, .int .i64 nn, .bool bb, .slice (some ⟨g, 0, none⟩) n cp]) (by simp [results, Tryz.results26, go_sem, y0, y1, y2, y3]) rfl ⟨some ⟨g, 0, none⟩, cp, by rw [HN.out], ?_, ?_⟩
    · unfold Own
      rw [HN.out]
      refine own_base (base := w.heap.size + 1 + 1) ?_ (by omega)
      rw [Nat.zero_add, List.nil_append] at ho
      repeat (refine own_put ?_ (by simp <;> omega) _)
      exact ho
    · (repeat (first | exact BW | (refine bset ?_ (by simp <;> omega) _)))

/-- the first value of a name and a sort -/
def look (W : Wd) (nm : ByteArray) (s : Int) : Option Vl := (W.l.find? (hitN nm s)).map Nd.v
theorem findN_some {nm : ByteArray} {s : Int} {l : List Nd} {k : Nat} (h : findN nm s l k ≠ -1) : ∃ i, ∃ hi : i < l.length, findN nm s l k = (k : Int) + i ∧ l.find? (hitN nm s) = some l[i] := by
  induction l generalizing k with
  | nil => exact absurd rfl h
  | cons x l ih =>
    unfold findN at h ⊢
    by_cases hx : hitN nm s x = true
    · rw [if_pos hx]
      exact ⟨0, by simp, by omega, by simp [List.find?, hx]⟩
    · rw [if_neg hx] at h ⊢
      obtain ⟨i, hi, e, hf⟩ := ih h
      exact ⟨i + 1, by simpa using hi, by rw [e]; omega, by simp [List.find?, hx, hf]⟩
theorem findN_none {nm : ByteArray} {s : Int} {l : List Nd} {k : Nat} (h : findN nm s l k = -1) : l.find? (hitN nm s) = none := by
  induction l generalizing k with
  | nil => rfl
  | cons x l ih =>
    unfold findN at h
    by_cases hx : hitN nm s x = true
    · rw [if_pos hx] at h; omega
    · rw [if_neg hx] at h
      simp [List.find?, hx, ih h]

set_option maxRecDepth 100000 in
set_option maxHeartbeats 1000000 in
theorem get_none (W : Wd) (nm : ByteArray) (s : Int) (w : World) (hin : WIn w w.heap.size W) (h : look W nm s = none) :
    Calls Tryz.prog 73 #[W.val, .string nm, .int .i64 s] w fun e w' => e = .returned (.tuple #[zeroV, .bool false]) ∧ Below w.heap.size w w' := by
  have hf : findN nm s W.l 0 = -1 := by
    by_cases k : findN nm s W.l 0 = -1
    · exact k
    · obtain ⟨i, hi, -, e⟩ := findN_some k
      unfold look at h; rw [e] at h; cases h
  have hw2 : Below w.heap.size w (((w.alloc (boxW W)).alloc (.cells #[.int .i64 0, .int .i64 0, .bool false, .slice none 0 0] 36)).alloc (boxP W)) := bal (bal (bal (Below.refl _ _) _) _) _
  have FC := mkHid (find_any W nm s _ (hin.later hw2))
  rw [hf] at FC
  have hF2 : FourV (((w.alloc (boxW W)).alloc (.cells #[.int .i64 0, .int .i64 0, .bool false, .slice none 0 0] 36)).alloc (boxP W)) (w.heap.size + 1) (.int .i64 0) (.int .i64 0) (.bool false) (.slice none 0 0) := by simp [FourV, go_sem]
  have TWP : TwoW (((w.alloc (boxW W)).alloc (.cells #[.int .i64 0, .int .i64 0, .bool false, .slice none 0 0] 36)).alloc (boxP W)) (w.heap.size + 1 + 1) W := by simp [TwoW, boxP, go_sem]
  clear hf hin h
  unfold Wd.val at *
  generalize hW2 : ((w.alloc (boxW W)).alloc (.cells #[.int .i64 0, .int .i64 0, .bool false, .slice none 0 0] 36)).alloc (boxP W) = W2 at *
  unfold boxW boxP at hW2
  obtain ⟨p0, p1⟩ := id TWP
  obtain ⟨d0, d1, d2, d3, d4, d5, d6, d7⟩ := id hF2
  go_enter Tryz.func73, Tryz.ntmps73
  go_wp2_with fail
  ((with_reducible refine FC.out.mono ?_)); rintro e w3 ⟨rfl, hb3⟩
  clear d0 d1 d2 d3 d4 d5 d6 d7 hW2 p0 p1
  obtain ⟨d0, d1, d2, d3, d4, d5, d6, d7⟩ := hF2.later hb3
  go_wp2
  have BW := bon hw2 hb3
  refine bodyPost_ret (v := .tuple #[zeroV, .bool false]) (by simp [results, Tryz.results73, go_sem, d0, d1, d2, d3, zeroV]) rfl ⟨rfl, ?_⟩
  (repeat (first | exact BW | (refine bset ?_ (by simp <;> omega) _)))

theorem look_mem {W : Wd} {nm : ByteArray} {s : Int} {v : Vl} (h : look W nm s = some v) : ∃ i, ∃ hi : i < W.l.length, findN nm s W.l 0 = (i : Int) ∧ W.l[i].v = v := by
  by_cases k : findN nm s W.l 0 = -1
  · unfold look at h; rw [findN_none k] at h; cases h
  · obtain ⟨i, hi, e, hf⟩ := findN_some k
    refine ⟨i, hi, by rw [e]; omega, ?_⟩
    unfold look at h
    rw [hf] at h
    simpa using h

set_option maxRecDepth 100000 in
set_option maxHeartbeats 1000000 in
theorem get_some (W : Wd) (nm : ByteArray) (s : Int) (v : Vl) (w : World) (hin : WIn w w.heap.size W) (h : look W nm s = some v) (hl : v.s.length ≤ 140737488355328) :
    Calls Tryz.prog 73 #[W.val, .string nm, .int .i64 s] w fun e w' => ∃ a c, e = .returned (.tuple #[.agg #[.int .i64 v.sort, .int .i64 v.n, .bool v.b, .slice a v.s.length c], .bool true]) ∧ Own w' w.heap.size a c v.s ∧ Below w.heap.size w w' := by
  obtain ⟨i, hi, hf, hv⟩ := look_mem h
  have hn : W.l.length ≤ 9223372036854775807 := by have := hin.c; have := hin.m; unfold maxLen at this; omega
  have hw2 : Below w.heap.size w (((w.alloc (boxW W)).alloc (.cells #[.int .i64 0, .int .i64 0, .bool false, .slice none 0 0] 36)).alloc (boxP W)) := bal (bal (bal (Below.refl _ _) _) _) _
  have FC := mkHid (find_any W nm s _ (hin.later hw2))
  rw [hf] at FC
  have hF2 : FourV (((w.alloc (boxW W)).alloc (.cells #[.int .i64 0, .int .i64 0, .bool false, .slice none 0 0] 36)).alloc (boxP W)) (w.heap.size + 1) (.int .i64 0) (.int .i64 0) (.bool false) (.slice none 0 0) := by simp [FourV, go_sem]
  have TWP : TwoW (((w.alloc (boxW W)).alloc (.cells #[.int .i64 0, .int .i64 0, .bool false, .slice none 0 0] 36)).alloc (boxP W)) (w.heap.size + 1 + 1) W := by simp [TwoW, boxP, go_sem]
  have HIN := mkHid (hin.later hw2)
  have hX : w.heap.size + 1 < (((w.alloc (boxW W)).alloc (.cells #[.int .i64 0, .int .i64 0, .bool false, .slice none 0 0] 36)).alloc (boxP W)).heap.size := by simp <;> omega
  clear hf hin h
  have hi2 : (i : Int) < (W.l.length : Int) := by omega
  generalize hW2 : ((w.alloc (boxW W)).alloc (.cells #[.int .i64 0, .int .i64 0, .bool false, .slice none 0 0] 36)).alloc (boxP W) = W2 at *
  have HV := mkHid hv
  obtain ⟨b, o, ha, hbB, nd⟩ := HIN.out.at_ i hi
  have hvi := (HIN.out.vs _ (List.getElem_mem hi)).2
  rw [hv] at hvi
  generalize W.l[i] = q at *
  obtain rfl : q.v = v := hv
  unfold boxW boxP at hW2
  obtain ⟨wn, wa, wc, wl⟩ := W
  simp only at ha
  subst ha
  unfold Wd.val at *
  simp only at FC hW2 HIN hi hn hi2 TWP ⊢
  generalize hlen : wl.length = n at *
  have HLN := mkHid hlen
  clear hlen HV
  obtain ⟨p0, p1⟩ := id TWP
  simp only at p0 p1
  rw [HLN.out] at p1
  obtain ⟨d0, d1, d2, d3, d4, d5, d6, d7⟩ := id hF2
  go_enter Tryz.func73, Tryz.ntmps73
  go_wp2_with fail
  ((with_reducible refine FC.out.mono ?_)); rintro e w3 ⟨rfl, hb3⟩
  clear d0 d1 d2 d3 d4 d5 d6 d7 hW2 FC p0 p1
  have hF3 := hF2.later hb3
  obtain ⟨d0, d1, d2, d3, d4, d5, d6, d7⟩ := hF3
  have t1 := (TWP.later hb3).2
  simp only at t1
  rw [HLN.out] at t1
  obtain ⟨n0, n1, n2, n3, n4⟩ := nd.keep hb3 hbB
  have CC := mkHid (copied_any q.v w3 (hvi.later hb3) hl)
  unfold Vl.val at CC
  clear nd hvi
  go_wp2_with fail
  ((with_reducible refine CC.out.mono ?_)); rintro e w4 ⟨a, c, rfl, ho, hb4⟩
  clear d0 d1 d2 d3 d4 d5 d6 d7 t1 n0 n1 n2 n3 n4 CC
  obtain ⟨d0, d1, d2, d3, d4, d5, d6, d7⟩ := hF2.later (bon hb3 hb4)
  go_wp2
  have BW := bon (bon hw2 hb3) hb4
  have hz3 := hb3.size
  refine bodyPost_ret (v := .tuple #[.agg #[.int .i64 q.v.sort, .int .i64 q.v.n, .bool q.v.b, .slice a q.v.s.length c], .bool true]) (by simp [results, Tryz.results73, go_sem, d0, d1, d2, d3]) rfl ⟨a, c, rfl, ?_, ?_⟩
  · refine own_base (base := w3.heap.size) ?_ (by omega)
    repeat (refine own_put ?_ (by simp; omega) _)
    exact ho
  · (repeat (first | exact BW | (refine bset ?_ (by simp <;> omega) _)))
end
end Go.Proofs.YtdfebacjbapahaaGreatDoor
