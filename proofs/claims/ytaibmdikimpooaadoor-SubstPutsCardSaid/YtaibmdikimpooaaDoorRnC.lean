/-
  The document's 'with' of any term, and 'Names'.
-/
import Derived.Test.YtaibmdikimpooaaDoorRnB
namespace Go.Proofs.YtaibmdikimpooaaDoor
open Go.RowKit

theorem nr_form {w : World} {v : Value} {L : List Nm} (h : NR w v L) : (v = .slice none 0 0 ∧ L = []) ∨ ∃ g o c, v = .slice (some ⟨g, o, none⟩) L.length c := by
  obtain ⟨a, c, rfl, h1, h2, h4, -⟩ := h
  cases a with
  | none =>
    obtain rfl := h2 rfl
    have : L = [] := List.length_eq_zero_iff.1 (by omega)
    subst this
    exact .inl ⟨rfl, rfl⟩
  | some ad =>
    obtain ⟨g, o, rfl⟩ := h4 ad rfl
    exact .inr ⟨g, o, c, rfl⟩
set_option maxRecDepth 100000 in
set_option maxHeartbeats 4000000 in
theorem rwith_any : ∀ (t : Tm) (L : List Nm) (v : Value) (w : World), t.srt ≠ 0 → TIn w w.heap.size t → NR w v L → L.length + t.vars.length ≤ 2000 → Calls Tryd.prog 40 #[v, t.val] w (WithP (insAll L t.vars) w) := by
  intro t
  induction t using Tm.ind with
  | h t ih =>
    intro L v w hs ht hL hlen
    cases hv : varB t.op
    · have hlt := ht.nums.2.2.2
      unfold maxLen at hlt
      have HVS := mkHid (vars_part hs hv)
      rw [HVS.out] at hlen
      have HST : Hid (∀ k ∈ t.ks, k.srt ≠ 0) := (srt_ops hs).2
      have IH : Hid (∀ k ∈ t.ks, ∀ (L : List Nm) (v : Value) (w : World), k.srt ≠ 0 → TIn w w.heap.size k → NR w v L → L.length + k.vars.length ≤ 2000 → Calls Tryd.prog 40 #[v, k.val] w (WithP (insAll L k.vars) w)) := ih
      have B0 := bel_alloc w (boxT t)
      have F1 := box_four w t
      have HT := mkHid ht
      have HL := mkHid (hL.later B0)
      have hW2 : w.alloc (.cells #[.int .i64 t.op, .string t.nm, .int .i64 t.n, .slice t.a t.ks.length t.c] 24) = w.alloc (boxT t) := rfl
      have CV := mkHid (var_any t.op (w.alloc (boxT t)))
      rw [hv] at CV
      have HLEN := mkHid hlen
      rw [HVS.out]
      clear ih ht hL hs hlen HVS
      generalize w.alloc (boxT t) = W2 at *
      obtain ⟨x0, x1, x2, x3⟩ := id F1
      simp only [Nat.zero_add] at x1 x2 x3
      generalize hn' : t.ks.length = n at *
      have HN := mkHid hn'
      clear hn'
      have hn : n ≤ 9223372036854775807 := by omega
      unfold Tm.val
      rw [HN.out]
      go_enter Tryd.func40, Tryd.ntmps40
      go_wp2_with fail
      ((with_reducible refine CV.out.mono ?_)); rintro e w1 ⟨rfl, rfl⟩
      clear CV
      go_wp2
      clear x0 x1 x2 x3 hW2
      go_loopw [0, 7] (fun d i w' => ∃ (k : Nat) (x : Int), i = .int .i64 x ∧ x = k ∧ k ≤ n ∧ Hid (NR w' d (insAll L (Tm.varss (t.ks.take k)))) ∧ Below W2.heap.size W2 w') (fun _ i _ => (n - intOf i).toNat)
      case atStart => exact ⟨0, 0, rfl, rfl, Nat.zero_le _, HL.out, Below.refl _ _⟩
      case round =>
        obtain ⟨k, x, rfl, hxk, hk, HR, hb⟩ := hrel
        obtain rfl : x = (k : Int) := hxk
        have BB := bon B0 hb
        have x3 := (F1.later hb).2.2.2
        simp only [Nat.zero_add] at x3
        rw [HN.out] at x3
        by_cases hlt2 : k < n
        · have hk1 : k < t.ks.length := by rw [HN.out]; exact hlt2
          obtain ⟨kin1, b1, o1, ha1, hB1, kf1⟩ := HT.out.kid k hk1
          have HS := mkHid (take_succ_varss t.ks k hk1)
          have h1 := HLEN.out
          have h2 := varss_take t.ks (k + 1)
          rw [HS.out, List.length_append] at h2
          have h3 := insAll_len (Tm.varss (t.ks.take k)) L
          have C := mkHid (IH.out t.ks[k] (List.getElem_mem _) _ _ wr (HST.out _ (List.getElem_mem _)) (kin1.later BB) HR.out (by omega))
          have q1 := kf1.keep BB hB1
          rw [ha1] at x3
          have HST1 : Hid (insAll (insAll L (Tm.varss (t.ks.take k))) t.ks[k].vars = insAll L (Tm.varss (t.ks.take (k + 1)))) := by rw [HS.out, insAll_app]; exact mkHid rfl
          rw [HST1.out] at C
          clear kf1 kin1 ha1 IH h1 h2 h3 HS HST1 HR
          generalize t.ks[k] = p at *
          clear hk1
          obtain ⟨q10, q11, q12, q13⟩ := q1
          unfold Tm.val at C
          go_wp2_with fail
          ((with_reducible refine C.out.mono ?_)); rintro e w5 ⟨v5, rfl, hr5, hb5⟩
          have B5 := bon hb hb5
          have HR5 := mkHid hr5
          clear C q10 q11 q12 q13 hr5
          go_wp2
          go_roundw
          case rel => exact ⟨k + 1, _, rfl, by omega, by omega, HR5, B5⟩
          case measure => simp [intOf]; omega
        · have HR2 := HR.out
          rw [List.take_of_length_le (by rw [HN.out]; omega)] at HR2
          have HR3 := mkHid HR2
          clear HR HR2
          go_wp2
          go_ret
          exact ⟨_, rfl, HR3.out, BB⟩
    · have hl : L.length ≤ 2000 := by omega
      rw [vars_var hs hv]
      show Calls Tryd.prog 40 #[v, t.val] w (WithP (insN L (t.nm, t.op)) w)
      rcases nr_form hL with ⟨rfl, rfl⟩ | ⟨g, o, c, rfl⟩
      · exact with_nil t.op t.nm t.n t.a t.ks.length t.c hv w hL hl
      · exact with_some t.op t.nm t.n t.a t.ks.length t.c hv L g o c w hL hl
/-- what Names of the document answers -/
def rNm (t : Tm) : List Nm := if errR t = 0 then insAll [] t.vars else []
theorem rNm_mem {t : Tm} (h : errR t = 0) (x : Nm) : x ∈ rNm t ↔ x ∈ t.vars := by
  unfold rNm
  rw [if_pos h, insAll_mem]
  simp
theorem rNm_len (t : Tm) : (rNm t).length ≤ 2000 := by
  unfold rNm
  split
  · rename_i h
    have h1 := insAll_len t.vars []
    have h2 := vars_le t
    have h3 := (errR_zero h).1
    simp only [List.length_nil] at h1
    omega
  · simp
set_option maxRecDepth 100000 in
set_option maxHeartbeats 4000000 in
theorem rNames_any (t : Tm) (w : World) (ht : TIn w w.heap.size t) : Calls Tryd.prog 15 #[t.val] w (WithP (rNm t) w) := by
  have B0 := bel_alloc w (boxT t)
  have F1 := box_four w t
  have HT := mkHid (ht.later B0)
  have hW2 : w.alloc (.cells #[.int .i64 t.op, .string t.nm, .int .i64 t.n, .slice t.a t.ks.length t.c] 24) = w.alloc (boxT t) := rfl
  have HB0 := mkHid B0
  clear B0 ht
  generalize w.alloc (boxT t) = W2 at *
  have CS := mkHid (rSort_any t W2 HT.out)
  have CW : Hid (∀ w', Below W2.heap.size W2 w' → errR t = 0 → Calls Tryd.prog 40 #[.slice none 0 0, t.val] w' (WithP (rNm t) w')) := fun w' hb he => by
    have h := rwith_any t [] _ w' (errR_zero he).2.2.1 (HT.out.later hb) (nr_nil w') (by have h2 := vars_le t; have h3 := (errR_zero he).1; simp only [List.length_nil]; omega)
    unfold rNm
    rw [if_pos he]
    exact h
  unfold Tm.val at CS CW ⊢
  obtain ⟨x0, x1, x2, x3⟩ := id F1
  simp only [Nat.zero_add] at x1 x2 x3
  go_enter Tryd.func15, Tryd.ntmps15
  go_wp2_with fail
  ((with_reducible refine CS.out.mono ?_)); rintro e w3 ⟨rfl, hb3⟩
  clear CS x0 x1 x2 x3 hW2
  obtain ⟨x0, x1, x2, x3⟩ := F1.later hb3
  simp only [Nat.zero_add] at x1 x2 x3
  have HB3 := mkHid (bon HB0.out hb3)
  by_cases he : errR t = 0
  · have C := mkHid (CW.out w3 hb3 he)
    clear CW
    rw [he]
    go_wp2_with fail
    ((with_reducible refine C.out.mono ?_)); rintro e w5 ⟨v5, rfl, hr5, hb5⟩
    have HR5 := mkHid hr5
    have HB5 := mkHid (bon HB3.out hb5)
    clear C x0 x1 x2 x3 hr5 hb5
    go_wp2
    go_ret
    exact ⟨_, rfl, HR5.out, HB5.out⟩
  · have he2 : ((errR t : Nat) : Int) ≠ 0 := by omega
    have he3 : ¬ ((errR t : Nat) : Int) = 0 := he2
    have HRN : Hid (rNm t = []) := by unfold rNm; rw [if_neg he]; exact mkHid rfl
    clear CW
    generalize errR t = er at *
    go_wp2
    go_ret
    exact ⟨.slice none 0 0, rfl, by rw [HRN.out]; exact nr_nil _, HB3.out⟩
end Go.Proofs.YtaibmdikimpooaaDoor
