/-
  What the laws' 'shown' and 'joined' answer.
-/
import Derived.Test.YtaiachmolkjedaaDoorCnK
import Derived.StillTailTactics
namespace Go.Proofs.YtaiachmolkjedaaDoor
open Go.RowKit

theorem atss_er : ∀ (ks l : List Tm), (∀ k ∈ ks, ∀ l, ats k.er l = ats k l) → atss (ks.map Tm.er) l = atss ks l
  | [], _, _ => rfl
  | k :: ks, l, h => by simp only [List.map_cons, atss]; rw [h k (by simp), atss_er ks _ (fun k hk => h k (by simp [hk]))]
theorem ats_er : ∀ (t : Tm) (l : List Tm), ats t.er l = ats t l := by
  intro t
  induction t using Tm.ind with
  | h t ih =>
    intro l
    obtain ⟨h1, -, -, h4⟩ := er_op t
    rw [ats_eq, ats_eq t, h1, h4, atss_er t.ks l ih, has_er l (er_er t), er_er]
theorem hlps_er : ∀ ks : List Tm, (∀ k ∈ ks, hlp k.er = hlp k) → hlps (ks.map Tm.er) = hlps ks
  | [], _ => rfl
  | k :: ks, h => by simp only [List.map_cons, hlps]; rw [h k (by simp), hlps_er ks (fun k hk => h k (by simp [hk]))]
theorem hlp_er : ∀ t : Tm, hlp t.er = hlp t := by
  intro t
  induction t using Tm.ind with
  | h t ih =>
    obtain ⟨h1, -, -, h4⟩ := er_op t
    rw [hlp_eq, hlp_eq t, h1, h4, hlps_er t.ks ih]
theorem lits_er (L : List Tm) : ∀ (ks : List Tm) (m : Nat), (∀ k ∈ ks, ∀ m, lit L k.er m = lit L k m) → lits L (ks.map Tm.er) m = lits L ks m
  | [], _, _ => rfl
  | k :: ks, m, h => by simp only [List.map_cons, lits]; rw [h k (by simp), hlp_er, lits_er L ks _ (fun k hk => h k (by simp [hk]))]
theorem lit_er (L : List Tm) : ∀ (t : Tm) (m : Nat), lit L t.er m = lit L t m := by
  intro t
  induction t using Tm.ind with
  | h t ih =>
    intro m
    obtain ⟨h1, -, -, h4⟩ := er_op t
    rw [lit_eq, lit_eq L t, h1, h4, lits_er L t.ks m ih, hlps_er t.ks (fun k _ => hlp_er k), fnd_er L (er_er t)]
theorem clss_er (L : List Tm) : ∀ (ks : List Tm) (m : Nat), (∀ k ∈ ks, ∀ m, cls L k.er m = cls L k m) → clss L (ks.map Tm.er) m = clss L ks m
  | [], _, _ => rfl
  | k :: ks, m, h => by simp only [List.map_cons, clss]; rw [h k (by simp), hlp_er, clss_er L ks _ (fun k hk => h k (by simp [hk]))]
theorem cls_er (L : List Tm) : ∀ (t : Tm) (m : Nat), cls L t.er m = cls L t m := by
  intro t
  induction t using Tm.ind with
  | h t ih =>
    intro m
    obtain ⟨h1, -, -, h4⟩ := er_op t
    rw [cls_eq, cls_eq L t, h1, h4, clss_er L t.ks m ih, lits_er L t.ks m (fun k _ m => lit_er L k m), hlps_er t.ks (fun k _ => hlp_er k)]
theorem cE_er (t : Tm) : cE t.er = cE t := by unfold cE; rw [er_errR, er_srt]
theorem cA_er (t : Tm) : cA t.er = cA t := by unfold cA; rw [cE_er, ats_er]
theorem cN_er (t : Tm) : cN t.er = cN t := by unfold cN; rw [cE_er, ats_er, hlp_er]
theorem cC_er (t : Tm) : cC t.er = cC t := by unfold cC; rw [cE_er, ats_er, cls_er, lit_er]
theorem q1_in' {w : World} {B g : Nat} {op : Int} {x : Tm} (ho : fitB op = true) (hf : Four w g 0 x) (hx : TIn w B x) (hg : g < B) : TIn w B (q1 op g x) := by
  refine .mk _ ho (by show fitB 0 = true; decide) (by show (0 : Nat) ≤ _; omega) (by show (1 : Nat) ≤ 1; omega) (by show (1 : Nat) ≤ maxLen; decide) (fun j hj => ?_) (fun k hk => ?_)
  · have : j = 0 := by simp [q1, Tm.ks] at hj; omega
    subst this
    exact ⟨g, 0, rfl, hg, hf⟩
  · simp only [q1, Tm.ks, List.mem_singleton] at hk
    subst hk; exact hx
theorem q2_in' {w : World} {B g : Nat} {op : Int} {x y : Tm} (ho : fitB op = true) (hf : Four w g 0 x) (hf' : Four w g 4 y) (hx : TIn w B x) (hy : TIn w B y) (hg : g < B) : TIn w B (q2 op g x y) := by
  refine .mk _ ho (by show fitB 0 = true; decide) (by show (0 : Nat) ≤ _; omega) (by show (2 : Nat) ≤ 2; omega) (by show (2 : Nat) ≤ maxLen; decide) (fun j hj => ?_) (fun k hk => ?_)
  · have : j = 0 ∨ j = 1 := by simp [q2, Tm.ks] at hj; omega
    rcases this with rfl | rfl
    · exact ⟨g, 0, rfl, hg, hf⟩
    · exact ⟨g, 0, rfl, hg, hf'⟩
  · simp only [q2, Tm.ks, List.mem_cons, List.not_mem_nil, or_false] at hk
    rcases hk with rfl | rfl
    · exact hx
    · exact hy
theorem leaf_in {w : World} {B : Nat} {op n : Int} {nm : ByteArray} (h1 : fitB op = true) (h2 : fitB n = true) (h3 : nm.size ≤ maxLen) : TIn w B (.node op nm n none 0 []) :=
  .mk _ h1 h2 h3 (Nat.le_refl _) (Nat.zero_le _) (fun j hj => absurd hj (by simp [Tm.ks])) (fun k hk => absurd hk (by simp [Tm.ks]))
/-- the variable a -/
def va1 : Tm := .node 15 ⟨#[97]⟩ 0 none 0 []
def saD : Tm := mkT 19 [va1, mkT 18 [va1]]
theorem sa_facts : cE saD = 0 ∧ cN saD = 2 ∧ (cA saD).length = 1 ∧ cC saD = [[-2, 1], [-2, -1], [2, -1, 1], [2]] := by decide +kernel
theorem sn_facts : cE (q0 1) = 3 := by decide +kernel
/-- terms as 'shown' makes them -/
def shW (w : World) : World := ((w.alloc (boxT va1)).alloc (boxT va1)).alloc (.cells #[.int .i64 va1.op, .string va1.nm, .int .i64 va1.n, .slice va1.a va1.ks.length va1.c, .int .i64 18, .string ⟨#[]⟩, .int .i64 0, .slice (some ⟨w.heap.size + 1, 0, none⟩) 1 1] 24)
def shT (w : World) : Tm := q2 19 (w.heap.size + 1 + 1) va1 (q1 18 (w.heap.size + 1) va1)
theorem sh_facts (w : World) : Below w.heap.size w (shW w) ∧ TIn (shW w) (shW w).heap.size (shT w) ∧ (shT w).er = saD := by
  have hv : ∀ B, TIn (shW w) B va1 := fun B => leaf_in (by decide) (by decide) (by decide)
  refine ⟨bal (bal (bal (Below.refl _ _) _) _) _, q2_in' (by decide) ?_ ?_ (hv _) (q1_in' (by decide) ?_ (hv _) ?_) ?_, rfl⟩
  · simp [shW, Four, go_sem]
  · simp [shW, Four, go_sem, q1, Tm.op, Tm.nm, Tm.n, Tm.a, Tm.ks, Tm.c]
  · simp [shW, Four, go_sem, boxT]
  · simp [shW] <;> omega
  · simp [shW]
theorem lit_rr (w : World) : RR (((((w.alloc (.cells #[.int .i64 (-2), .int .i64 1] 3)).alloc (.cells #[.int .i64 (-2), .int .i64 (-1)] 3)).alloc (.cells #[.int .i64 2, .int .i64 (-1), .int .i64 1] 3)).alloc (.cells #[.int .i64 2] 3)).alloc (.cells #[.slice (some ⟨w.heap.size, 0, none⟩) 2 2, .slice (some ⟨w.heap.size + 1, 0, none⟩) 2 2, .slice (some ⟨w.heap.size + 1 + 1, 0, none⟩) 3 3, .slice (some ⟨w.heap.size + 1 + 1 + 1, 0, none⟩) 1 1] 54)) (.slice (some ⟨w.heap.size + 1 + 1 + 1 + 1, 0, none⟩) 4 4) [[-2, 1], [-2, -1], [2, -1, 1], [2]] := by
  refine ⟨_, 4, rfl, by decide, by decide, fun i hi => ?_⟩
  match i, hi with
  | 0, _ => exact ⟨w.heap.size + 1 + 1 + 1 + 1, 0, _, rfl, by simp, by simp [go_sem], _, 2, rfl, by simp, fun k hk => match k, hk with
    | 0, _ => ⟨w.heap.size, 0, rfl, by simp <;> omega, by simp [go_sem]⟩
    | 1, _ => ⟨w.heap.size, 0, rfl, by simp <;> omega, by simp [go_sem]⟩⟩
  | 1, _ => exact ⟨w.heap.size + 1 + 1 + 1 + 1, 0, _, rfl, by simp, by simp [go_sem], _, 2, rfl, by simp, fun k hk => match k, hk with
    | 0, _ => ⟨w.heap.size + 1, 0, rfl, by simp <;> omega, by simp [go_sem]⟩
    | 1, _ => ⟨w.heap.size + 1, 0, rfl, by simp <;> omega, by simp [go_sem]⟩⟩
  | 2, _ => exact ⟨w.heap.size + 1 + 1 + 1 + 1, 0, _, rfl, by simp, by simp [go_sem], _, 3, rfl, by simp, fun k hk => match k, hk with
    | 0, _ => ⟨w.heap.size + 1 + 1, 0, rfl, by simp <;> omega, by simp [go_sem]⟩
    | 1, _ => ⟨w.heap.size + 1 + 1, 0, rfl, by simp <;> omega, by simp [go_sem]⟩
    | 2, _ => ⟨w.heap.size + 1 + 1, 0, rfl, by simp <;> omega, by simp [go_sem]⟩⟩
  | 3, _ => exact ⟨w.heap.size + 1 + 1 + 1 + 1, 0, _, rfl, by simp, by simp [go_sem], _, 1, rfl, by simp, fun k hk => match k, hk with
    | 0, _ => ⟨w.heap.size + 1 + 1 + 1, 0, rfl, by simp <;> omega, by simp [go_sem]⟩⟩
theorem cdef_short (op h : Int) (ls : List Int) : ∀ c ∈ cdef op h ls, c.length ≤ ls.length + 2 := by
  have hn : (neg0 ls).length = ls.length := by cases ls <;> rfl
  intro c hc
  unfold cdef at hc
  split at hc
  · rcases List.mem_append.1 hc with hc | hc
    · obtain ⟨y, -, rfl⟩ := List.mem_map.1 hc
      simp
    · rw [List.mem_singleton] at hc; subst hc; simp
  · split at hc
    · rcases List.mem_append.1 hc with hc | hc
      · obtain ⟨y, -, rfl⟩ := List.mem_map.1 hc
        simp
      · rw [List.mem_singleton] at hc; subst hc; simp [hn]
    · rcases List.mem_append.1 hc with hc | hc
      · obtain ⟨y, -, rfl⟩ := List.mem_map.1 hc
        simp
      · rw [List.mem_singleton] at hc; subst hc; simp
theorem clss_short (L : List Tm) : ∀ (ks : List Tm) (m : Nat), (∀ k ∈ ks, ∀ m, ∀ c ∈ cls L k m, c.length ≤ k.size + 2) → ∀ c ∈ clss L ks m, c.length ≤ Tm.sizes ks + 2
  | [], _, _, c, hc => by simp [clss] at hc
  | k :: ks, m, h, c, hc => by
    simp only [clss, List.mem_append] at hc
    simp only [Tm.sizes]
    rcases hc with hc | hc
    · have := h k (by simp) m c hc; omega
    · have := clss_short L ks _ (fun k hk => h k (by simp [hk])) c hc; omega
theorem cls_short (L : List Tm) : ∀ (t : Tm) (m : Nat), ∀ c ∈ cls L t m, c.length ≤ t.size + 2 := by
  intro t
  induction t using Tm.ind with
  | h t ih =>
    intro m c hc
    have hz := Tm.size_eq t
    have hk := len_sizes t.ks
    rw [cls_eq] at hc
    split at hc
    · rcases List.mem_append.1 hc with hc | hc
      · have := clss_short L t.ks m ih c hc; omega
      · split at hc
        · simp at hc
        · have := cdef_short _ _ _ c hc
          rw [lits_len] at this; omega
    · simp at hc
theorem cC_short (t : Tm) : (cC t).length ≤ 100000 ∧ ∀ c ∈ cC t, c.length ≤ 100000 := by
  by_cases h : cE t = 0
  · have hz := (cE_small h).1
    have hj := jcl_le t
    refine ⟨by rw [cC_len h]; omega, fun c hc => ?_⟩
    unfold cC at hc
    rw [if_pos h] at hc
    rcases List.mem_append.1 hc with hc | hc
    · have := cls_short _ t _ c hc; omega
    · rw [List.mem_singleton] at hc; subst hc; simp
  · unfold cC; rw [if_neg h]; simp
set_option maxRecDepth 100000 in
set_option maxHeartbeats 4000000 in
theorem shown_any (w : World) (hS : Shps w) : Calls Tryd.prog 32 #[] w (RetV (.bool true) w) := by
  obtain ⟨B0, I0, E0⟩ := sh_facts w
  have S0 := hS.later B0
  have C1 := mkHid (clauses_any (shT w) (shW w) I0 S0)
  have hW : shW w = shW w := rfl
  conv at hW => lhs; unfold shW
  simp only [boxT, va1, Tm.op, Tm.nm, Tm.n, Tm.a, Tm.ks, Tm.c, List.length_nil] at hW
  have k1 : cE (shT w) = 0 := by rw [← cE_er, E0]; exact sa_facts.1
  have k2 : cN (shT w) = 2 := by rw [← cN_er, E0]; exact sa_facts.2.1
  have k3 : (cA (shT w)).length = 1 := by rw [← cA_er, E0]; exact sa_facts.2.2.1
  have k4 : cC (shT w) = [[-2, 1], [-2, -1], [2, -1, 1], [2]] := by rw [← cC_er, E0]; exact sa_facts.2.2.2
  have C2 := mkHid (fun (w2 : World) (h : Shps w2) => clauses_any (q0 1) w2 (leaf_in (by decide) (by decide) (by decide)) h)
  unfold ClaP at C1 C2
  rw [k1, k2] at C1
  rw [sn_facts] at C2
  have K3 := mkHid k3
  have K4 := mkHid k4
  have HS := mkHid S0
  have hv : (shT w).val = .agg #[.int .i64 19, .string ⟨#[]⟩, .int .i64 0, .slice (some ⟨w.heap.size + 1 + 1, 0, none⟩) 2 2] := rfl
  have hq : (q0 1).val = .agg #[.int .i64 1, .string ⟨#[]⟩, .int .i64 0, .slice none 0 0] := rfl
  rw [hv] at C1
  rw [hq] at C2
  clear k1 k2 k3 k4 I0 S0 hS hv hq
  generalize shW w = W at *
  go_enter Tryd.func32, Tryd.ntmps32
  go_wp2_with fail
  ((with_reducible refine C1.out.mono ?_)); rintro e w2 ⟨vC, vA, A, us, F, base, rfl, hb2, -, hFb, hFw, hC, hA, hl⟩
  have HC := mkHid (hC.rr (cC_short _).1 (cC_short _).2)
  have hAl : A.length = 1 := by have := congrArg List.length hl; rw [List.length_map, K3.out] at this; exact this
  obtain ⟨a, c, rfl, -, -, -⟩ := hA
  rw [hAl]
  rw [K4.out] at HC
  replace C2 := mkHid (C2.out w2 (HS.out.later hb2))
  have HB2 := mkHid (bon B0 hb2)
  clear C1 hC hl hW hFb hFw hAl HS hb2
  go_wp2_with fail
  ((with_reducible refine C2.out.mono ?_)); rintro e w3 ⟨vC2, vA2, A2, us2, F2, base2, rfl, hb3, -, -, -, -, -, -⟩
  have C3 := mkHid (same_any [[-2, 1], [-2, -1], [2, -1, 1], [2]] [[-2, 1], [-2, -1], [2, -1, 1], [2]] vC _ _ (HC.out.later (hb3.trans (Below.mono (bal (bal (bal (bal (bal (Below.refl w3.heap.size w3) _) _) _) _) _) hb3.size))) (lit_rr w3))
  rw [decide_eq_true rfl] at C3
  have HB3 := mkHid (bon HB2.out hb3)
  clear C2 hb3
  go_wp2_with (go_at_call 38; ((with_reducible refine C3.out.mono ?_)); rintro e w4 ⟨rfl, hb4⟩)
  go_ret
  exact ⟨rfl, bon HB3.out (Below.trans (bal (bal (bal (bal (bal (Below.refl _ _) _) _) _) _) _) (hb4.mono (by simp only [World.size_alloc]; omega)))⟩
end Go.Proofs.YtaiachmolkjedaaDoor
