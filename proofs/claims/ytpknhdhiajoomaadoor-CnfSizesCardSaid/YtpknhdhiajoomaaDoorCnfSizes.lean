/-
  CnfSizes, walked: it returns true.
-/
import Derived.Test.YtpknhdhiajoomaaDoorCnL
namespace Go.Proofs.YtpknhdhiajoomaaDoor
open Go.RowKit

theorem joined_any : ∀ t : Tm, t.srt = 4 → ∀ w : World, TIn w w.heap.size t → t.size ≤ 2000 → Calls Tryd.prog 44 #[t.val] w (RetV (.tuple #[.int .i64 (jcl t : Int), .int .i64 (hlp t : Int)]) w) := by
  have kid : ∀ (t : Tm), ∀ k ∈ t.ks, k.size ≤ t.size := by
    intro t k hk
    have h1 := Tm.size_eq t
    have : ∀ l : List Tm, k ∈ l → k.size ≤ Tm.sizes l := by
      intro l
      induction l with
      | nil => intro h; simp at h
      | cons a l ih =>
        intro h
        simp only [Tm.sizes]
        rcases List.mem_cons.1 h with rfl | h
        · omega
        · have := ih h; omega
    have := this t.ks hk
    omega
  refine cnf_ind (fun t h hj w hin hz => joined_leaf t w hj) (fun t u h ho hk hu ih w hin hz => ?_) (fun t h hj hn hop h0 h2 hks ih w hin hz => ?_)
  · have hj : jnB t.op = true := by rw [ho]; rfl
    have h1 := jcl_le t
    have h3 := hlp_le t
    refine joined18 t w hin ho (by rw [hk]; simp) (by omega) (by rw [jcl_eq, if_pos hj, if_pos ho]) (by rw [hlp_eq, if_pos hj, if_pos ho]) (fun k hk' w hw => ?_)
    have e : k = u := by rw [hk] at hk'; simpa using hk'
    subst e
    exact ih w hw (Nat.le_trans (kid t k hk') hz)
  · have h1 := jcl_le t
    have h3 := hlp_le t
    have hkl : t.ks.length ≤ 2000 := by
      have := len_sizes t.ks
      have := Tm.size_eq t
      omega
    have e1 : jcl t = t.ks.length + 1 + jcls t.ks := by rw [jcl_eq, if_pos hj, if_neg hn]
    have e2 : hlp t = 1 + hlps t.ks := by rw [hlp_eq, if_pos hj, if_neg hn]
    have IH : ∀ k ∈ t.ks, ∀ w : World, TIn w w.heap.size k → Calls Tryd.prog 44 #[k.val] w (RetV (.tuple #[.int .i64 (jcl k : Int), .int .i64 (hlp k : Int)]) w) := fun k hk w hw => ih k hk w hw (Nat.le_trans (kid t k hk) hz)
    rcases hop with ho | ho | ho | ho | ho
    · exact joined16 t w hin ho hkl (by omega) (by rw [e1, h0 (.inl ho)]; rfl) e2 IH
    · exact joined17 t w hin ho hkl (by omega) (by rw [e1, h0 (.inr ho)]; rfl) e2 IH
    · exact joined19 t w hin ho hkl (by omega) e1 e2 IH
    · exact joined20 t w hin ho hkl (by omega) e1 e2 IH
    · refine joined21 t w hin ho hkl (by omega) ?_ e2 IH
      obtain ⟨u, v, hk⟩ := h2 ho
      rw [e1, hk]; rfl
set_option maxRecDepth 100000 in
set_option maxHeartbeats 4000000 in
theorem sizes_any (t : Tm) (w : World) (ht : TIn w w.heap.size t) (hS : Shps w) : Calls Tryd.prog 13 #[t.val] w (RetV (.bool true) w) := by
  have B0 := bel_alloc w (boxT t)
  have F1 := box_four w t
  have CH := mkHid (shown_any (w.alloc (boxT t)) (hS.later B0))
  have HS := mkHid (hS.later B0)
  have HT := mkHid (ht.later B0)
  have hW2 : w.alloc (.cells #[.int .i64 t.op, .string t.nm, .int .i64 t.n, .slice t.a t.ks.length t.c] 24) = w.alloc (boxT t) := rfl
  generalize w.alloc (boxT t) = W1 at *
  unfold Tm.val
  clear hS ht
  have HF1 := mkHid F1
  clear F1
  go_enter Tryd.func13, Tryd.ntmps13
  go_wp2_with fail
  ((with_reducible refine CH.out.mono ?_)); rintro e w2 ⟨rfl, hb2⟩
  clear CH hW2
  obtain ⟨x0, x1, x2, x3⟩ := HF1.out.later hb2
  simp only [Nat.zero_add] at x1 x2 x3
  have C1 := mkHid (clauses_any t w2 (HT.out.later hb2) (HS.out.later hb2))
  unfold Tm.val at C1
  have B2 := bon B0 hb2
  clear B0
  go_wp2_with fail
  ((with_reducible refine C1.out.mono ?_)); rintro e w3 ⟨vC, vA, A, us, F, base, rfl, hb3, -, -, -, hC, hA, hl⟩
  clear C1 x0 x1 x2 x3
  have hRR := hC.rr (cC_short t).1 (cC_short t).2
  obtain ⟨aC, cc, rfl, -, -, -⟩ := hRR
  obtain ⟨aA, ca, rfl, -, -, -⟩ := hA
  clear hC
  by_cases hE : cE t = 0
  · have hcl := cC_len hE
    have hcn : cN t = A.length + hlp t := by
      have := congrArg List.length hl
      rw [List.length_map] at this
      rw [this]; unfold cN cA; rw [if_pos hE, if_pos hE]
    have hz := cE_small hE
    have hj := jcl_le t
    have hh := hlp_le t
    have hat : A.length ≤ 2000 := by
      have := cN_le t
      have e := congrArg List.length hl
      rw [List.length_map] at e
      unfold cA at e
      rw [if_pos hE] at e
      have := ats_le t []
      simp at this
      omega
    have C2 := mkHid (joined_any t hz.2.2 w3 ((HT.out.later hb2).later hb3) hz.1)
    rw [hE, hcl, hcn]
    obtain ⟨x0, x1, x2, x3⟩ := HF1.out.later (bon hb2 hb3)
    simp only [Nat.zero_add] at x1 x2 x3
    have B3 := bon B2 hb3
    have hz1 := hz.1
    clear hcl hcn hz hl hb2 hb3 hE
    unfold Tm.val at C2
    generalize jcl t = J at *
    generalize hlp t = H at *
    generalize A.length = al at *
    go_wp2_with (go_at_call 44; ((with_reducible refine C2.out.mono ?_)); rintro e w4 ⟨rfl, hb4⟩)
    go_ret
    exact ⟨by simp, bon B3 hb4⟩
  · have hne : ((cE t : Int) != 0) = true := by rw [bne_iff_ne]; omega
    have B3 := bon B2 hb3
    clear hb2 hb3 hE hl
    generalize cE t = er at *
    generalize (cC t).length = cl at *
    generalize cN t = nn at *
    generalize A.length = al at *
    go_wp2
    go_ret
    exact ⟨rfl, B3⟩
end Go.Proofs.YtpknhdhiajoomaaDoor
