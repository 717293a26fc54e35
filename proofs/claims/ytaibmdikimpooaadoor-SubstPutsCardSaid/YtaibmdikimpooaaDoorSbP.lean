/-
  What package ashlarlaw05's 'shown' answers.
-/
import Derived.Test.YtaibmdikimpooaaDoorSbJ
import Derived.Test.YtaibmdikimpooaaDoorSbO
import Derived.Test.YtaibmdikimpooaaDoorTmT
import Derived.Test.YtaibmdikimpooaaDoorNmA
namespace Go.Proofs.YtaibmdikimpooaaDoor
open Go.RowKit

/-! what is put does not look at places -/
def erA (x : As) : As := (x.1, x.2.er)
theorem gE_from : ∀ (l : List As) (e : Nat), (l.map erA).foldl (fun e x => if errR x.2 = 0 then e else errR x.2) e = l.foldl (fun e x => if errR x.2 = 0 then e else errR x.2) e
  | [], _ => rfl
  | y :: l, e => by
    rw [List.map_cons, List.foldl_cons, List.foldl_cons, gE_from l]
    simp only [erA, er_errR]
theorem gE_er (l : List As) : gE (l.map erA) = gE l := gE_from l 0
theorem er_srtR (t : Tm) : srtR t.er = srtR t := by unfold srtR fullB; rw [er_size, er_deep, er_srt]
theorem gF_erfrom : ∀ (l : List As) (F G : ByteArray → Int → Option Tm), (∀ n s, F n s = (G n s).map Tm.er) → ∀ n s, ((l.map erA).foldl (fun F x => if errR x.2 = 0 then putT F x else F) F) n s = ((l.foldl (fun F x => if errR x.2 = 0 then putT F x else F) G) n s).map Tm.er
  | [], _, _, h, n, s => h n s
  | y :: l, F, G, h, n, s => by
    rw [List.map_cons, List.foldl_cons, List.foldl_cons]
    refine gF_erfrom l _ _ (fun n s => ?_) n s
    show (if errR y.2.er = 0 then putT F (erA y) else F) n s = _
    rw [er_errR]
    split
    · unfold putT erA
      dsimp only
      rw [er_srtR]
      split
      · rfl
      · exact h n s
    · exact h n s
theorem gF_er (l : List As) (n : ByteArray) (s : Int) : gF (l.map erA) n s = (gF l n s).map Tm.er := gF_erfrom l (fun _ _ => none) (fun _ _ => none) (fun _ _ => rfl) n s
theorem rp_congr {F G : ByteArray → Int → Option Tm} (h : ∀ n s, F n s = (G n s).map Tm.er) : ∀ t : Tm, rp F t = rp G t := by
  intro t
  induction t using Tm.ind with
  | h t ih =>
    by_cases hn : nsN t.op = 0
    · rw [rp_part hn, rp_part hn]
      congr 1
      exact List.map_congr_left ih
    · rw [rp_name hn, rp_name hn, h]
      cases G t.nm (nsN t.op : Int) with
      | none => rfl
      | some x => exact er_er x
theorem putO_er (t : Tm) (l : List As) : putO t.er (l.map erA) = putO t l := by
  unfold putO
  rw [← List.map_reverse, gE_er, er_errR, rp_congr (gF_er l.reverse), rp_er]
theorem freeB_er (t : Tm) (s : ByteArray) : freeB t.er s = freeB t s := by
  unfold freeB
  rw [er_errR, er_vars]
theorem eqTs_iff' : ∀ l l' : List Tm, (∀ k ∈ l, ∀ b : Tm, eqT k b = true ↔ k.er = b.er) → (eqTs l l' = true ↔ l.map Tm.er = l'.map Tm.er)
  | [], [], _ => by simp [eqTs]
  | [], _ :: _, _ => by simp [eqTs]
  | _ :: _, [], _ => by simp [eqTs]
  | a :: l, b :: l', h => by
    simp only [eqTs, Bool.and_eq_true, List.map_cons, List.cons.injEq]
    rw [h a (by simp) b, eqTs_iff' l l' (fun k hk => h k (by simp [hk]))]
theorem eqT_iff' : ∀ a b : Tm, eqT a b = true ↔ a.er = b.er := by
  intro a
  induction a using Tm.ind with
  | h a ih =>
    intro b
    rw [eqT_eq, er_eq, er_eq b]
    simp only [Bool.and_eq_true, beq_iff_eq, Tm.node.injEq, true_and, eqTs_iff' _ _ ih, ByteArray.toList_eq]
    constructor
    · rintro ⟨⟨⟨h1, h2⟩, h3⟩, h4⟩
      exact ⟨h1, Go.WideShapes.bytes_inj h2, h3, h4⟩
    · rintro ⟨h1, h2, h3, h4⟩
      exact ⟨⟨⟨h1, by rw [h2]⟩, h3⟩, h4⟩
theorem s_leaf {w : World} {B : Nat} {op n : Int} {nm : ByteArray} (h1 : fitB op = true) (h2 : fitB n = true) (h3 : nm.size ≤ maxLen) : TIn w B (.node op nm n none 0 []) :=
  .mk _ h1 h2 h3 (Nat.le_refl _) (Nat.zero_le _) (fun j hj => absurd hj (by simp [Tm.ks])) (fun k hk => absurd hk (by simp [Tm.ks]))
theorem s_two {w : World} {B g : Nat} {op : Int} {x y : Tm} (ho : fitB op = true) (hf : Four w g 0 x) (hf' : Four w g 4 y) (hx : TIn w B x) (hy : TIn w B y) (hg : g < B) : TIn w B (q2 op g x y) := by
  refine .mk _ ho (by show fitB 0 = true; decide) (by show (0 : Nat) ≤ _; omega) (by show (2 : Nat) ≤ 2; omega) (by show (2 : Nat) ≤ maxLen; decide) (fun j hj => ?_) (fun k hk => ?_)
  · have : j = 0 ∨ j = 1 := by simp [q2, Tm.ks] at hj; omega
    rcases this with rfl | rfl
    · exact ⟨g, 0, rfl, hg, hf⟩
    · exact ⟨g, 0, rfl, hg, hf'⟩
  · simp only [q2, Tm.ks, List.mem_cons, List.not_mem_nil, or_false] at hk
    rcases hk with rfl | rfl
    · exact hx
    · exact hy
/-! the terms of 'shown' -/
def xT : Tm := .node 2 ⟨#[120]⟩ 0 none 0 []
def yT : Tm := .node 2 ⟨#[121]⟩ 0 none 0 []
def n1T : Tm := .node 1 ⟨#[]⟩ 1 none 0 []
def sumD : Tm := .node 4 ⟨#[]⟩ 0 none 0 [yT, n1T]
theorem sh_put1 : putO xT [(⟨#[120]⟩, sumD), (⟨#[121]⟩, xT)] = (sumD, 0) := by kernel_rfl
theorem sh_put2 : putO xT [(⟨#[120]⟩, q0 16)] = (xT, 0) := by kernel_rfl
theorem sh_free1 : freeB sumD ⟨#[121]⟩ = true := by decide +kernel
theorem sh_free2 : freeB sumD ⟨#[120]⟩ = false := by decide +kernel
theorem dec0 : Lib.decDigits 0 = [48] := by unfold Lib.decDigits; rfl
theorem chN_x1 : chN ⟨#[120]⟩ 1 = ⟨#[120, 95, 48]⟩ := by
  unfold chN hdN
  rw [if_neg (by decide), dec0]
  decide +kernel
theorem sh_fresh1 : frS [xT] ⟨#[120]⟩ = ⟨#[120, 95, 48]⟩ := by
  unfold frS
  rw [if_pos (by decide +kernel)]
  rw [frN_at (k := 1) (by omega) (by rw [chN_x1]; decide +kernel) (fun j hj => by obtain rfl : j = 0 := (by omega); decide +kernel), chN_x1]
theorem sh_fresh2 : frS [xT] ⟨#[121]⟩ = ⟨#[121]⟩ := by
  unfold frS
  rw [if_pos (by decide +kernel)]
  rw [frN_at (k := 0) (by omega) (by decide +kernel) (fun j hj => absurd hj (by omega))]
  rfl
/-- the world of the first Put -/
def sW (w : World) : World := ((((w.alloc (.cells #[.int .i64 2, .string ⟨#[120]⟩, .int .i64 0, .slice none 0 0] 24)).alloc (.cells #[.int .i64 2, .string ⟨#[121]⟩, .int .i64 0, .slice none 0 0] 24)).alloc (.cells #[.int .i64 2, .string ⟨#[121]⟩, .int .i64 0, .slice none 0 0, .int .i64 1, .string ⟨#[]⟩, .int .i64 1, .slice none 0 0] 24)).alloc (.cells #[.int .i64 4, .string ⟨#[]⟩, .int .i64 0, .slice (some ⟨w.heap.size + 1 + 1, 0, none⟩) 2 2] 24)).alloc (.cells #[.string ⟨#[120]⟩, .int .i64 4, .string ⟨#[]⟩, .int .i64 0, .slice (some ⟨w.heap.size + 1 + 1, 0, none⟩) 2 2, .string ⟨#[121]⟩, .int .i64 2, .string ⟨#[120]⟩, .int .i64 0, .slice none 0 0] 38)
def sumT (w : World) : Tm := q2 4 (w.heap.size + 1 + 1) yT n1T
theorem sW_facts (w : World) : Below w.heap.size w (sW w) ∧ Four (sW w) w.heap.size 0 xT ∧ Four (sW w) (w.heap.size + 1 + 1 + 1) 0 (sumT w) ∧ TIn (sW w) (sW w).heap.size (sumT w) ∧ SbRow (sW w).heap.size (sW w) (.slice (some ⟨w.heap.size + 1 + 1 + 1 + 1, 0, none⟩) 2 2) [(⟨#[120]⟩, sumT w), (⟨#[121]⟩, xT)] := by
  refine ⟨bal (bal (bal (bal (bal (Below.refl _ _) _) _) _) _) _, ?_, ?_, s_two (by decide) ?_ ?_ (s_leaf (by decide) (by decide) (by decide)) (s_leaf (by decide) (by decide) (by decide)) ?_, ?_⟩
  · simp [sW, Four, go_sem, xT, Tm.op, Tm.nm, Tm.n, Tm.a, Tm.ks, Tm.c]
  · simp [sW, Four, go_sem, sumT, q2, Tm.op, Tm.nm, Tm.n, Tm.a, Tm.ks, Tm.c]
  · simp [sW, Four, go_sem, yT, Tm.op, Tm.nm, Tm.n, Tm.a, Tm.ks, Tm.c]
  · simp [sW, Four, go_sem, n1T, Tm.op, Tm.nm, Tm.n, Tm.a, Tm.ks, Tm.c]
  · simp [sW] <;> omega
  · refine ⟨_, 2, rfl, fun j hj => ?_⟩
    match j, hj with
    | 0, _ => exact ⟨w.heap.size + 1 + 1 + 1 + 1, 0, rfl, by simp [sW], by simp [Five5, sW, go_sem, sumT, q2, Tm.op, Tm.nm, Tm.n, Tm.a, Tm.ks, Tm.c]⟩
    | 1, _ => exact ⟨w.heap.size + 1 + 1 + 1 + 1, 0, rfl, by simp [sW], by simp [Five5, sW, go_sem, xT, Tm.op, Tm.nm, Tm.n, Tm.a, Tm.ks, Tm.c]⟩
theorem one_row (w : World) (nm : ByteArray) (t : Tm) : SbRow (w.alloc (.cells #[.string nm, .int .i64 t.op, .string t.nm, .int .i64 t.n, .slice t.a t.ks.length t.c] 38)).heap.size (w.alloc (.cells #[.string nm, .int .i64 t.op, .string t.nm, .int .i64 t.n, .slice t.a t.ks.length t.c] 38)) (.slice (some ⟨w.heap.size, 0, none⟩) 1 1) [(nm, t)] := by
  refine ⟨_, 1, rfl, fun j hj => ?_⟩
  match j, hj with
  | 0, _ => exact ⟨w.heap.size, 0, rfl, by simp, by simp [Five5, go_sem]⟩
theorem one_ts (w : World) (t : Tm) : SbTs (w.alloc (boxT t)) (.slice (some ⟨w.heap.size, 0, none⟩) 1 1) [t] := by
  refine ⟨_, 1, rfl, fun j hj => ?_⟩
  match j, hj with
  | 0, _ => exact ⟨w.heap.size, 0, rfl, by simp, by simp [Four, boxT, go_sem]⟩
theorem x_in (w : World) (B : Nat) : TIn w B xT := s_leaf (by decide) (by decide) (by decide)
theorem sh_p2 (t1 : Tm) (w2 : World) (hS : Shps w2) : Calls Tryd.prog 22 #[.agg #[.int .i64 2, .string ⟨#[120]⟩, .int .i64 0, .slice none 0 0], .slice (some ⟨w2.heap.size + 1, 0, none⟩) 1 1] ((w2.alloc (.cells #[.int .i64 t1.op, .string t1.nm, .int .i64 t1.n, .slice t1.a t1.ks.length t1.c] 24)).alloc (.cells #[.string ⟨#[120]⟩, .int .i64 16, .string ⟨#[]⟩, .int .i64 0, .slice none 0 0] 38)) (fun e w' => ∃ u : Tm, e = .returned (.tuple #[u.val, .int .i64 0]) ∧ u.er = xT ∧ TIn w' w'.heap.size u ∧ Below (w2.alloc (.cells #[.int .i64 t1.op, .string t1.nm, .int .i64 t1.n, .slice t1.a t1.ks.length t1.c] 24)).heap.size (w2.alloc (.cells #[.int .i64 t1.op, .string t1.nm, .int .i64 t1.n, .slice t1.a t1.ks.length t1.c] 24)) w') := by
  have b1 := bel_alloc w2 (boxT t1)
  have b2 := bal b1 (.cells #[.string ⟨#[120]⟩, .int .i64 16, .string ⟨#[]⟩, .int .i64 0, .slice none 0 0] 38)
  have hr : SbRow ((w2.alloc (boxT t1)).alloc (.cells #[.string ⟨#[120]⟩, .int .i64 16, .string ⟨#[]⟩, .int .i64 0, .slice none 0 0] 38)).heap.size ((w2.alloc (boxT t1)).alloc (.cells #[.string ⟨#[120]⟩, .int .i64 16, .string ⟨#[]⟩, .int .i64 0, .slice none 0 0] 38)) (.slice (some ⟨w2.heap.size + 1, 0, none⟩) 1 1) [(⟨#[120]⟩, q0 16)] := by
    have := one_row (w2.alloc (boxT t1)) ⟨#[120]⟩ (q0 16)
    rw [show (w2.alloc (boxT t1)).heap.size = w2.heap.size + 1 by simp] at this
    exact this
  have h := sput_any xT [(⟨#[120]⟩, q0 16)] (.slice (some ⟨w2.heap.size + 1, 0, none⟩) 1 1) ((w2.alloc (boxT t1)).alloc (.cells #[.string ⟨#[120]⟩, .int .i64 16, .string ⟨#[]⟩, .int .i64 0, .slice none 0 0] 38)) (x_in _ _) hr (by simp) (fun x hx => by
    rw [List.mem_singleton.1 hx]
    exact ⟨s_leaf (by decide) (by decide) (by decide), by show (1 : Nat) ≤ maxLen; decide⟩) (hS.later b2)
  refine Calls.mono h ?_
  rintro e w' ⟨u, rfl, h1, h2, h3⟩
  rw [sh_put2] at h1 ⊢
  have b3 := bel_alloc (w2.alloc (boxT t1)) (.cells #[.string ⟨#[120]⟩, .int .i64 16, .string ⟨#[]⟩, .int .i64 0, .slice none 0 0] 38)
  exact ⟨u, rfl, h1, h2, b3.trans (h3.mono b3.size)⟩
theorem sh_fr (w9 : World) (nm r : ByteArray) (hr : frS [xT] nm = r) (hn : nm.size ≤ maxLen) (hS : Shps w9) : Calls Tryd.prog 26 #[.slice (some ⟨w9.heap.size, 0, none⟩) 1 1, .string nm] (w9.alloc (.cells #[.int .i64 2, .string ⟨#[120]⟩, .int .i64 0, .slice none 0 0] 24)) (fun e w' => e = .returned (.string r) ∧ Below w9.heap.size w9 w') := by
  have b1 := bel_alloc w9 (boxT xT)
  have h := fresh_any [xT] (.slice (some ⟨w9.heap.size, 0, none⟩) 1 1) nm (w9.alloc (boxT xT)) (one_ts w9 xT) (by simp) (fun t ht => by rw [List.mem_singleton.1 ht]; exact x_in _ _) (hS.later b1) hn
  rw [hr] at h
  refine Calls.mono h ?_
  rintro e w' ⟨rfl, h3⟩
  exact ⟨rfl, b1.trans (h3.mono b1.size)⟩
set_option maxRecDepth 100000 in
set_option maxHeartbeats 8000000 in
theorem sshown_any (w : World) (hS : Shps w) : Calls Tryd.prog 20 #[] w (RetB true w) := by
  obtain ⟨B0, FX, FQ, IQ, HR⟩ := sW_facts w
  have S0 := hS.later B0
  have hW : sW w = sW w := rfl
  conv at hW => lhs; unfold sW
  have C1 := mkHid (sput_any xT [(⟨#[120]⟩, sumT w), (⟨#[121]⟩, xT)] _ (sW w) (x_in _ _) HR (by simp) (fun x hx => by
    simp only [List.mem_cons, List.not_mem_nil, or_false] at hx
    rcases hx with rfl | rfl
    · exact ⟨IQ, by show (1 : Nat) ≤ maxLen; decide⟩
    · exact ⟨x_in _ _, by show (1 : Nat) ≤ maxLen; decide⟩) S0)
  have hp1 : putO xT [(⟨#[120]⟩, sumT w), (⟨#[121]⟩, xT)] = (sumD, 0) := by
    rw [← putO_er]; exact sh_put1
  have hsum : (sumT w).er = sumD := rfl
  unfold SPutP at C1
  rw [hp1] at C1
  have hvx : xT.val = .agg #[.int .i64 2, .string ⟨#[120]⟩, .int .i64 0, .slice none 0 0] := rfl
  have hvs : (sumT w).val = .agg #[.int .i64 4, .string ⟨#[]⟩, .int .i64 0, .slice (some ⟨w.heap.size + 1 + 1, 0, none⟩) 2 2] := rfl
  have HFX := mkHid FX
  have HFQ := mkHid FQ
  have HIQ := mkHid IQ
  have HS := mkHid S0
  have HB0 := mkHid B0
  have HSUM := mkHid hsum
  have HVS := mkHid hvs
  have HVX := mkHid hvx
  rw [hvx] at C1
  clear hp1 HR FX FQ IQ S0 hS B0 hsum
  generalize hst : sumT w = st at *
  have HST := mkHid hst
  clear hst hvs hvx
  generalize sW w = W at *
  go_enter Tryd.func20, Tryd.ntmps20
  go_wp2_with fail
  ((with_reducible refine C1.out.mono ?_)); rintro e w2 ⟨t1, rfl, ht1, hi1, hb2⟩
  clear C1 hW
  have HX2 := mkHid (HFX.out.later hb2)
  have HQ2 := mkHid (HFQ.out.later hb2)
  have HI2 := mkHid (HIQ.out.later hb2)
  have HS2 := mkHid (HS.out.later hb2)
  have HB2 := mkHid (bon HB0.out hb2)
  have HT1 := mkHid ht1
  have HI1 := mkHid hi1
  obtain ⟨x0, x1, x2, x3⟩ := HX2.out
  simp only [xT, Tm.op, Tm.nm, Tm.n, Tm.a, Tm.ks, Tm.c, List.length_nil, Nat.zero_add] at x0 x1 x2 x3
  have C2 := mkHid (sh_p2 t1 w2 HS2.out)
  have F1 := box_four w2 t1
  have HF1 := mkHid F1
  have bt := bel_alloc w2 (boxT t1)
  have y0 : (w2.alloc (.cells #[.int .i64 t1.op, .string t1.nm, .int .i64 t1.n, .slice t1.a t1.ks.length t1.c] 24)).cell? ⟨w.heap.size, 0, none⟩ = some (.int .i64 2) := cell_later bt x0
  have y1 : (w2.alloc (.cells #[.int .i64 t1.op, .string t1.nm, .int .i64 t1.n, .slice t1.a t1.ks.length t1.c] 24)).cell? ⟨w.heap.size, 1, none⟩ = some (.string ⟨#[120]⟩) := cell_later bt x1
  have y2 : (w2.alloc (.cells #[.int .i64 t1.op, .string t1.nm, .int .i64 t1.n, .slice t1.a t1.ks.length t1.c] 24)).cell? ⟨w.heap.size, 2, none⟩ = some (.int .i64 0) := cell_later bt x2
  have y3 : (w2.alloc (.cells #[.int .i64 t1.op, .string t1.nm, .int .i64 t1.n, .slice t1.a t1.ks.length t1.c] 24)).cell? ⟨w.heap.size, 3, none⟩ = some (.slice none 0 0) := cell_later bt x3
  clear HFX HFQ HIQ HS HB0 ht1 hi1 hb2 F1 bt x0 x1 x2 x3
  unfold Tm.val
  go_wp2_with fail
  ((with_reducible refine C2.out.mono ?_)); rintro e w4 ⟨u, rfl, hu, hiu, hb4⟩
  clear C2 y0 y1 y2 y3
  have hb24 : Below w2.heap.size w2 w4 := (bel_alloc w2 (boxT t1)).trans (hb4.mono (bel_alloc w2 (boxT t1)).size)
  have b5 := bel_alloc w4 (boxT u)
  have b25 := bon hb24 b5
  have hF1 : Four (w4.alloc (boxT u)) w2.heap.size 0 t1 := ((box_four w2 t1).later hb4).later b5
  have hFu := box_four w4 u
  have HX5 := mkHid (HX2.out.later b25)
  have HQ5 := mkHid (HQ2.out.later b25)
  have HI5 := mkHid (HI2.out.later b25)
  have HS5 := mkHid (HS2.out.later b25)
  have HB5 := mkHid (bon HB2.out b25)
  have HT5 := mkHid (HI1.out.later b25)
  have HU5 := mkHid (hiu.later b5)
  have e1 : eqT t1 st = true := (eqT_iff' t1 st).2 (by rw [HT1.out, HSUM.out])
  have e2 : eqT u xT = true := (eqT_iff' u xT).2 (by rw [hu]; rfl)
  have d1 : t1.deep ≤ 100 := by rw [← er_deep, HT1.out]; decide +kernel
  have d2 : st.deep ≤ 100 := by rw [← er_deep, HSUM.out]; decide +kernel
  have d3 : u.deep ≤ 100 := by rw [← er_deep, hu]; decide +kernel
  have d4 : xT.deep ≤ 100 := by decide +kernel
  have C3 := mkHid (rSame_any t1 st (w4.alloc (boxT u)) HT5.out HI5.out)
  rw [e1, decide_eq_true d1, decide_eq_true d2] at C3
  have C4 := mkHid (fun (w6 : World) (hb : Below (w4.alloc (boxT u)).heap.size (w4.alloc (boxT u)) w6) => rSame_any u xT w6 (HU5.out.later hb) (x_in _ _))
  rw [e2, decide_eq_true d3, decide_eq_true d4, HVX.out] at C4
  have C5 := mkHid (fun (w6 : World) (hb : Below (w4.alloc (boxT u)).heap.size (w4.alloc (boxT u)) w6) => free_any st ⟨#[121]⟩ w6 (HI5.out.later hb) (HS5.out.later hb))
  have C6 := mkHid (fun (w6 : World) (hb : Below (w4.alloc (boxT u)).heap.size (w4.alloc (boxT u)) w6) => free_any st ⟨#[120]⟩ w6 (HI5.out.later hb) (HS5.out.later hb))
  have f5 : freeB st ⟨#[121]⟩ = true := by rw [← freeB_er, HSUM.out]; exact sh_free1
  have f6 : freeB st ⟨#[120]⟩ = false := by rw [← freeB_er, HSUM.out]; exact sh_free2
  rw [f5] at C5
  rw [f6] at C6
  have C7 := mkHid (fun (w6 : World) (hb : Below (w4.alloc (boxT u)).heap.size (w4.alloc (boxT u)) w6) => sh_fr w6 ⟨#[120]⟩ ⟨#[120, 95, 48]⟩ sh_fresh1 (by decide) (HS5.out.later hb))
  have C8 := mkHid (fun (w6 : World) (hb : Below (w4.alloc (boxT u)).heap.size (w4.alloc (boxT u)) w6) => sh_fr w6 ⟨#[121]⟩ ⟨#[121]⟩ sh_fresh2 (by decide) (HS5.out.later hb))
  have hW5 : w4.alloc (.cells #[.int .i64 u.op, .string u.nm, .int .i64 u.n, .slice u.a u.ks.length u.c] 24) = w4.alloc (boxT u) := rfl
  have HF15 := mkHid hF1
  have HFU := mkHid hFu
  obtain ⟨a0, a1, a2, a3⟩ := hF1
  obtain ⟨q0', q1', q2', q3'⟩ := HQ5.out
  simp only [Nat.zero_add] at a1 a2 a3 q1' q2' q3'
  clear e1 e2 d1 d2 d3 d4 f5 f6 hb24 b5 b25 hFu hu hiu hb4 HX2 HQ2 HI2 HS2 HB2 HI1 HT1 HSUM HF1
  generalize w4.alloc (boxT u) = W5 at *
  unfold Tm.val at C3 C4 C5 C6 ⊢
  go_wp2_with fail
  ((with_reducible refine C3.out.mono ?_)); rintro e w6 ⟨rfl, hb6⟩
  clear C3 hW5 a0 a1 a2 a3 q0' q1' q2' q3'
  obtain ⟨a0, a1, a2, a3⟩ := HFU.out.later hb6
  obtain ⟨x0, x1, x2, x3⟩ := HX5.out.later hb6
  simp only [xT, Tm.op, Tm.nm, Tm.n, Tm.a, Tm.ks, Tm.c, List.length_nil, Nat.zero_add] at x0 x1 x2 x3
  simp only [Nat.zero_add] at a1 a2 a3
  have HB6 := mkHid hb6
  clear hb6
  go_wp2_with fail
  ((with_reducible refine (C4.out _ HB6.out).mono ?_)); rintro e w7 ⟨rfl, hb7⟩
  clear C4 a0 a1 a2 a3 x0 x1 x2 x3
  have HB7 := mkHid (bon HB6.out hb7)
  clear hb7
  obtain ⟨q0', q1', q2', q3'⟩ := HQ5.out.later HB7.out
  simp only [Nat.zero_add] at q1' q2' q3'
  go_wp2_with fail
  ((with_reducible refine (C5.out _ HB7.out).mono ?_)); rintro e w8 ⟨rfl, hb8⟩
  clear C5 q0' q1' q2' q3'
  have HB8 := mkHid (bon HB7.out hb8)
  clear hb8
  obtain ⟨q0', q1', q2', q3'⟩ := HQ5.out.later HB8.out
  simp only [Nat.zero_add] at q1' q2' q3'
  go_wp2_with fail
  ((with_reducible refine (C6.out _ HB8.out).mono ?_)); rintro e w9 ⟨rfl, hb9⟩
  clear C6 q0' q1' q2' q3'
  have HB9 := mkHid (bon HB8.out hb9)
  clear hb9
  obtain ⟨x0, x1, x2, x3⟩ := HX5.out.later HB9.out
  simp only [xT, Tm.op, Tm.nm, Tm.n, Tm.a, Tm.ks, Tm.c, List.length_nil, Nat.zero_add] at x0 x1 x2 x3
  go_wp2_with fail
  ((with_reducible refine (C7.out _ HB9.out).mono ?_)); rintro e w10 ⟨rfl, hb10⟩
  clear C7 x0 x1 x2 x3
  have HB10 := mkHid (bon HB9.out hb10)
  clear hb10
  obtain ⟨x0, x1, x2, x3⟩ := HX5.out.later HB10.out
  simp only [xT, Tm.op, Tm.nm, Tm.n, Tm.a, Tm.ks, Tm.c, List.length_nil, Nat.zero_add] at x0 x1 x2 x3
  go_wp2_with fail
  ((with_reducible refine (C8.out _ HB10.out).mono ?_)); rintro e w11 ⟨rfl, hb11⟩
  clear C8 x0 x1 x2 x3
  go_wp2
  go_ret
  exact ⟨rfl, bon HB5.out (bon HB10.out hb11)⟩
end Go.Proofs.YtaibmdikimpooaaDoor
