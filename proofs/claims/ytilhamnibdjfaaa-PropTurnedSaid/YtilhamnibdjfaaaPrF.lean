/-
  What the document's True, Open, Holds and opens answer.
-/
import Derived.Test.YtilhamnibdjfaaaPrE
namespace Go.Proofs.Ytilhamnibdjfaaa
open Go.RowKit

/-- has a clause a true literal? -/
def tr (A R : List Int) : Bool := R.any (fun x => decide (wh A x = 1))
/-- its open literals, each once -/
def opStep (A : List Int) (out : List Int) (x : Int) : List Int := if wh A x = 0 ∧ x ∉ out then out ++ [x] else out
def opn (A R : List Int) : List Int := R.foldl (opStep A) []
theorem opn_mem {A : List Int} : ∀ {R out : List Int} {y : Int}, y ∈ R.foldl (opStep A) out ↔ y ∈ out ∨ (y ∈ R ∧ wh A y = 0) := by
  intro R
  induction R with
  | nil => intro out y; simp
  | cons z R ih =>
    intro out y
    rw [List.foldl_cons, ih]
    unfold opStep
    by_cases h : wh A z = 0 ∧ z ∉ out
    · rw [if_pos h]
      simp only [List.mem_append, List.mem_cons, List.not_mem_nil, or_false]
      constructor
      · rintro ((h1 | rfl) | ⟨h1, h2⟩)
        · exact .inl h1
        · exact .inr ⟨.inl rfl, h.1⟩
        · exact .inr ⟨.inr h1, h2⟩
      · rintro (h1 | ⟨rfl | h1, h2⟩)
        · exact .inl (.inl h1)
        · exact .inl (.inr rfl)
        · exact .inr ⟨h1, h2⟩
    · rw [if_neg h]
      simp only [List.mem_cons]
      constructor
      · rintro (h1 | ⟨h1, h2⟩)
        · exact .inl h1
        · exact .inr ⟨.inr h1, h2⟩
      · rintro (h1 | ⟨rfl | h1, h2⟩)
        · exact .inl h1
        · by_cases h3 : y ∈ out
          · exact .inl h3
          · exact absurd ⟨h2, h3⟩ h
        · exact .inr ⟨h1, h2⟩
theorem opn_nodup {A : List Int} : ∀ {R out : List Int}, out.Nodup → (R.foldl (opStep A) out).Nodup := by
  intro R
  induction R with
  | nil => intro out h; exact h
  | cons z R ih =>
    intro out h
    rw [List.foldl_cons]
    refine ih ?_
    unfold opStep
    by_cases h' : wh A z = 0 ∧ z ∉ out
    · rw [if_pos h', List.nodup_append]
      refine ⟨h, by simp, fun a ha b hb => ?_⟩
      rw [List.mem_singleton] at hb
      rintro rfl
      exact h'.2 (hb ▸ ha)
    · rw [if_neg h']; exact h
theorem opn_len {A : List Int} : ∀ {R out : List Int}, (R.foldl (opStep A) out).length ≤ out.length + R.length := by
  intro R
  induction R with
  | nil => intro out; simp
  | cons z R ih =>
    intro out
    rw [List.foldl_cons]
    refine Nat.le_trans ih ?_
    unfold opStep
    split <;> simp <;> omega
theorem tr_iff {A R : List Int} : tr A R = true ↔ ∃ x ∈ R, wh A x = 1 := by simp [tr]
/-- what the document takes first is what is asked for -/
theorem next_none {A R : List Int} (h : ask A R = none) : tr A R = true ∨ 2 ≤ (opn A R).length := by
  rcases ask_none.1 h with h | ⟨x, hx, y, hy, hne, e1, e2⟩
  · exact .inl (tr_iff.2 h)
  · right
    have h1 : x ∈ opn A R := opn_mem.2 (.inr ⟨hx, e1⟩)
    have h2 : y ∈ opn A R := opn_mem.2 (.inr ⟨hy, e2⟩)
    match hl : opn A R with
    | [] => rw [hl] at h1; cases h1
    | [z] =>
      rw [hl] at h1 h2
      exact absurd ((List.mem_singleton.1 h1).trans (List.mem_singleton.1 h2).symm) hne
    | _ :: _ :: _ => simp
theorem next_some {A R : List Int} {r : Int} (h : ask A R = some r) : tr A R = false ∧ opn A R = if r = 0 then [] else [r] := by
  obtain ⟨h1, h2, h3⟩ := ask_some h
  refine ⟨?_, ?_⟩
  · cases e : tr A R with
    | false => rfl
    | true => obtain ⟨x, hx, e1⟩ := tr_iff.1 e; exact absurd e1 (h2 x hx)
  · have hall : ∀ y ∈ opn A R, y = r := fun y hy => by
      rcases opn_mem.1 hy with hy | ⟨hy, e⟩
      · cases hy
      · exact h3 y hy e
    have hz : ∀ y ∈ opn A R, y ≠ 0 := fun y hy => by
      rcases opn_mem.1 hy with hy | ⟨hy, e⟩
      · cases hy
      · exact (wh_zero (A := A) (x := y) (by omega)).1
    have hnd : (opn A R).Nodup := opn_nodup List.nodup_nil
    by_cases hr : r = 0
    · rw [if_pos hr]
      apply List.eq_nil_iff_forall_not_mem.2
      intro y hy
      exact hz y hy ((hall y hy).trans hr)
    · rw [if_neg hr]
      have hm : r ∈ opn A R := by
        rcases h1 with h1 | ⟨h1, e⟩
        · exact absurd h1 hr
        · exact opn_mem.2 (.inr ⟨h1, e⟩)
      match hl : opn A R with
      | [] => rw [hl] at hm; cases hm
      | [z] => rw [hl] at hall; rw [hall z (by simp)]
      | z :: z' :: q =>
        rw [hl] at hall hnd
        have e1 := hall z (by simp)
        have e2 := hall z' (by simp)
        simp only [List.nodup_cons, List.mem_cons, not_or] at hnd
        exact absurd (e1.trans e2.symm) hnd.1.1
theorem rd_of {A : List Int} {u : Value} {w : World} (hu : RK .i8 w u A) : ∃ a c, u = .slice a A.length c ∧ A.length ≤ c ∧ Hid (∀ j, j < A.length → ∃ b o, a = some ⟨b, o, none⟩ ∧ w.cell? ⟨b, o + j, none⟩ = some (.int .i8 (A.getD j 0))) := by
  obtain ⟨a, c, rfl, hc, -, hr⟩ := hu
  exact ⟨a, c, rfl, hc, hr⟩
theorem wh_pos {A : List Int} {y : Nat} (h0 : 0 < y) (h1 : y < A.length) : decide (wh A (y : Int) = 1) = decide (0 < A.getD y 0) ∧ decide (wh A (y : Int) = 0) = (A.getD y 0 == 0) := by
  have e : ((y : Int)).natAbs = y := by omega
  unfold wh
  rw [e, if_neg (by omega)]
  have t : (0 : Int) < (y : Int) := by omega
  generalize A.getD y 0 = v
  by_cases hz : v = 0
  · rw [if_pos hz, hz]; decide
  · rw [if_neg hz]
    by_cases hp : 0 < v
    · rw [if_pos (propext ⟨fun _ => t, fun _ => hp⟩)]; simp [hp, hz]
    · rw [if_neg (fun e => hp (e.mpr t))]; simp [hp, hz]
theorem wh_neg {A : List Int} {y : Nat} (h0 : 0 < y) (h1 : y < A.length) : decide (wh A (-(y : Int)) = 1) = decide (A.getD y 0 < 0) ∧ decide (wh A (-(y : Int)) = 0) = (A.getD y 0 == 0) := by
  have e : (-(y : Int)).natAbs = y := by omega
  unfold wh
  rw [e, if_neg (by omega)]
  have t : ¬ (0 : Int) < -(y : Int) := by omega
  generalize A.getD y 0 = v
  by_cases hz : v = 0
  · rw [if_pos hz, hz]; decide
  · rw [if_neg hz]
    by_cases hp : 0 < v
    · rw [if_neg (fun e => t (e.mp hp))]
      have : ¬ v < 0 := by omega
      simp [this, hz]
    · rw [if_pos (propext ⟨fun h => absurd h hp, fun h => absurd h t⟩)]
      have : v < 0 := by omega
      simp [this, hz]
theorem wh_out {A : List Int} {x : Int} (h : x = 0 ∨ A.length ≤ x.natAbs) : decide (wh A x = 1) = false ∧ decide (wh A x = 0) = false := by
  unfold wh
  rw [if_pos (by omega)]
  decide
set_option maxRecDepth 100000 in
set_option maxHeartbeats 4000000 in
theorem rtrue_any (x : Int) (A : List Int) (u : Value) (w : World) (hu : RK .i8 w u A) (hl : A.length ≤ 1000) (h1 : -9223372036854775808 ≤ x) (h2 : x ≤ 9223372036854775807) :
    Calls Try.prog 26 #[u, .int .i64 x] w (RetV (.bool (decide (wh A x = 1))) w) := by
  obtain ⟨a, c, rfl, hc, HR⟩ := rd_of hu
  clear hu
  by_cases h0 : x = 0 ∨ A.length ≤ x.natAbs
  · rw [(wh_out h0).1]
    clear HR
    generalize A.length = n at *
    by_cases hm : x = -9223372036854775808
    · subst hm
      have hw : wrap64 9223372036854775808 = -9223372036854775808 := by decide +kernel
      clear h0
      go_enter Try.func26, Try.ntmps26
      go_wp2
      go_ret
      exact ⟨rfl, Below.refl _ _⟩
    · by_cases hx : 0 < x
      · have hx2 : ¬ x < (n : Int) := by omega
        have hx3 : ¬ x < 0 := by omega
        clear h0
        go_enter Try.func26, Try.ntmps26
        go_wp2
        go_ret
        exact ⟨rfl, Below.refl _ _⟩
      · by_cases hx2 : x < 0
        · have hx4 : ¬ -x < (n : Int) := by omega
          clear h0
          go_enter Try.func26, Try.ntmps26
          go_wp2
          go_ret
          exact ⟨rfl, Below.refl _ _⟩
        · obtain rfl : x = 0 := by omega
          clear h0
          go_enter Try.func26, Try.ntmps26
          go_wp2
          go_ret
          exact ⟨rfl, Below.refl _ _⟩
  · obtain ⟨y, hy⟩ : ∃ y, x.natAbs = y := ⟨_, rfl⟩
    have hy1 : 0 < y := by omega
    have hy2 : y < A.length := by omega
    obtain ⟨b, o, rfl, e1⟩ := HR.out y hy2
    have hy3 : (y : Int) < (A.length : Int) := by omega
    have hy4 : (0 : Int) < (y : Int) := by omega
    by_cases hx : 0 < x
    · obtain rfl : x = (y : Int) := by omega
      rw [(wh_pos hy1 hy2).1]
      clear HR h0 hy
      generalize A.getD y 0 = v at *
      generalize A.length = n at *
      go_enter Try.func26, Try.ntmps26
      go_wp2
      go_ret
      exact ⟨rfl, Below.refl _ _⟩
    · obtain rfl : x = -(y : Int) := by omega
      rw [(wh_neg hy1 hy2).1]
      have hx1 : -(y : Int) < 0 := by omega
      have hx2 : -1000000 < -(y : Int) := by omega
      clear HR h0 hy
      generalize A.getD y 0 = v at *
      generalize A.length = n at *
      go_enter Try.func26, Try.ntmps26
      go_wp2
      go_ret
      exact ⟨rfl, Below.refl _ _⟩
set_option maxRecDepth 100000 in
set_option maxHeartbeats 4000000 in
theorem ropen_any (x : Int) (A : List Int) (u : Value) (w : World) (hu : RK .i8 w u A) (hl : A.length ≤ 1000) (h1 : -9223372036854775808 ≤ x) (h2 : x ≤ 9223372036854775807) :
    Calls Try.prog 19 #[u, .int .i64 x] w (RetV (.bool (decide (wh A x = 0))) w) := by
  obtain ⟨a, c, rfl, hc, HR⟩ := rd_of hu
  clear hu
  by_cases h0 : x = 0 ∨ A.length ≤ x.natAbs
  · rw [(wh_out h0).2]
    clear HR
    generalize A.length = n at *
    by_cases hm : x = -9223372036854775808
    · subst hm
      have hw : wrap64 9223372036854775808 = -9223372036854775808 := by decide +kernel
      clear h0
      go_enter Try.func19, Try.ntmps19
      go_wp2
      go_ret
      exact ⟨rfl, Below.refl _ _⟩
    · by_cases hx : 0 < x
      · have hx2 : ¬ x < (n : Int) := by omega
        have hx3 : ¬ x < 0 := by omega
        clear h0
        go_enter Try.func19, Try.ntmps19
        go_wp2
        go_ret
        exact ⟨rfl, Below.refl _ _⟩
      · by_cases hx2 : x < 0
        · have hx4 : ¬ -x < (n : Int) := by omega
          clear h0
          go_enter Try.func19, Try.ntmps19
          go_wp2
          go_ret
          exact ⟨rfl, Below.refl _ _⟩
        · obtain rfl : x = 0 := by omega
          clear h0
          go_enter Try.func19, Try.ntmps19
          go_wp2
          go_ret
          exact ⟨rfl, Below.refl _ _⟩
  · obtain ⟨y, hy⟩ : ∃ y, x.natAbs = y := ⟨_, rfl⟩
    have hy1 : 0 < y := by omega
    have hy2 : y < A.length := by omega
    obtain ⟨b, o, rfl, e1⟩ := HR.out y hy2
    have hy3 : (y : Int) < (A.length : Int) := by omega
    have hy4 : (0 : Int) < (y : Int) := by omega
    by_cases hx : 0 < x
    · obtain rfl : x = (y : Int) := by omega
      rw [(wh_pos hy1 hy2).2]
      clear HR h0 hy
      generalize A.getD y 0 = v at *
      generalize A.length = n at *
      go_enter Try.func19, Try.ntmps19
      go_wp2
      go_ret
      exact ⟨rfl, Below.refl _ _⟩
    · obtain rfl : x = -(y : Int) := by omega
      rw [(wh_neg hy1 hy2).2]
      have hx1 : -(y : Int) < 0 := by omega
      have hx2 : -1000000 < -(y : Int) := by omega
      clear HR h0 hy
      generalize A.getD y 0 = v at *
      generalize A.length = n at *
      go_enter Try.func19, Try.ntmps19
      go_wp2
      go_ret
      exact ⟨rfl, Below.refl _ _⟩
end Go.Proofs.Ytilhamnibdjfaaa
