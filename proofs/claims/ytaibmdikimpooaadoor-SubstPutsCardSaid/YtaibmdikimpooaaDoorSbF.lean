/-
  What is put: nothing where nothing is there; twice; sorts stay.
-/
import Derived.Test.YtaibmdikimpooaaDoorSbG
namespace Go.Proofs.YtaibmdikimpooaaDoor
open Go.RowKit

/-- what is put does not look at places -/
theorem rp_er (F : ByteArray → Int → Option Tm) (t : Tm) : rp F t.er = rp F t := by
  induction t using Tm.ind with
  | h t ih =>
    obtain ⟨h1, h2, h3, h4⟩ := er_op t
    by_cases hs : nsN t.op = 0
    · rw [rp_part (by rw [h1]; exact hs), rp_part hs, h1, h2, h3, h4, List.map_map]
      congr 1
      exact List.map_congr_left (fun k hk => ih k hk)
    · rw [rp_name (by rw [h1]; exact hs), rp_name hs, h1, h2]
      cases F t.nm (nsN t.op : Int) with
      | none =>
        show t.er.er = t.er
        rw [er_eq t.er, h1, h2, h3, h4, List.map_map]
        conv => rhs; rw [er_eq t]
        congr 1
        refine List.map_congr_left (fun k _ => ?_)
        show k.er.er = k.er
        have e2 : ∀ q : Tm, q.er.er = q.er := by
          intro q
          induction q using Tm.ind with
          | h q ihq =>
            obtain ⟨q1, q2, q3, q4⟩ := er_op q
            rw [er_eq q.er, q1, q2, q3, q4, List.map_map]
            conv => rhs; rw [er_eq q]
            congr 1
            exact List.map_congr_left (fun k hk => ihq k hk)
        exact e2 k
      | some x => rfl
/-- where at each name either nothing is put, or the name itself, the term stays -/
theorem rp_same {F : ByteArray → Int → Option Tm} : ∀ t : Tm, t.srt ≠ 0 → (∀ x ∈ t.vars, ∀ y, F x.1 (nsN x.2 : Int) = some y → y.er = .node x.2 x.1 0 none 0 []) → rp F t = t.er := by
  intro t
  induction t using Tm.ind with
  | h t ih =>
    intro h hF
    by_cases hs : nsN t.op = 0
    · rw [rp_part hs, er_eq]
      congr 1
      refine List.map_congr_left (fun k hk => ih k hk ((srt_ops h).2 k hk) (fun x hx => hF x ?_))
      rw [vars_eq, List.mem_append]
      exact .inr (nvarss_mem.2 ⟨k, hk, hx⟩)
    · rw [rp_name hs]
      cases hy : F t.nm (nsN t.op : Int) with
      | none => rfl
      | some y =>
        show y.er = t.er
        obtain ⟨hks, ho⟩ := name_none h hs
        have hn : (shRow t.op.toNat).name = true := by
          rcases ho with e | e | e | e <;> rw [e] <;> rfl
        have hm : (t.nm, t.op) ∈ t.vars := by rw [vars_eq, hn]; simp
        rw [hF _ hm y hy, er_eq, hks]
        have h0 : t.n = 0 := by
          rw [srt_eq] at h
          unfold sortOf at h
          have hr : 1 ≤ t.op ∧ t.op ≤ 28 := (srt_ops (by rw [srt_eq]; exact h)).1
          rw [if_pos hr] at h
          by_cases hb : (namedB (shRow t.op.toNat) t.nm && ((shRow t.op.toNat).number || decide (t.n = 0)) && holdsB (shRow t.op.toNat) (t.ks.map Tm.srt)) = true
          · simp only [Bool.and_eq_true, Bool.or_eq_true, decide_eq_true_eq] at hb
            rcases hb.1.2 with e | e
            · exfalso
              have : (shRow t.op.toNat).number = false := by rcases ho with e | e | e | e <;> rw [e] <;> rfl
              rw [this] at e; cases e
            · exact e
          · rw [if_neg hb] at h; exact absurd rfl h
        rw [h0]; rfl
/-- what is put twice is what is put at once -/
theorem rp_rp {F G H : ByteArray → Int → Option Tm} (h1 : ∀ nm s a, F nm s = some a → ∃ g, H nm s = some g ∧ g.er = rp G a) (h2 : ∀ nm s, F nm s = none → H nm s = G nm s) : ∀ t : Tm, rp G (rp F t) = rp H t := by
  intro t
  induction t using Tm.ind with
  | h t ih =>
    by_cases hs : nsN t.op = 0
    · rw [rp_part hs, rp_part hs, rp_part (by exact hs)]
      show Tm.node t.op t.nm t.n none 0 ((t.ks.map (rp F)).map (rp G)) = _
      rw [List.map_map]
      congr 1
      exact List.map_congr_left (fun k hk => ih k hk)
    · rw [rp_name hs, rp_name hs]
      cases hF : F t.nm (nsN t.op : Int) with
      | none =>
        rw [h2 _ _ hF]
        show rp G t.er = _
        rw [rp_er, rp_name hs]
      | some a =>
        obtain ⟨g, hg, e⟩ := h1 _ _ _ hF
        rw [hg]
        show rp G a.er = g.er
        rw [rp_er, e]
/-- sorts stay, if what is put is of the name's sort -/
theorem rp_srt {F : ByteArray → Int → Option Tm} (hF : ∀ nm (s : Nat) x, F nm (s : Int) = some x → x.srt = s) : ∀ t : Tm, t.srt ≠ 0 → (rp F t).srt = t.srt := by
  intro t
  induction t using Tm.ind with
  | h t ih =>
    intro h
    by_cases hs : nsN t.op = 0
    · rw [rp_part hs, srt_eq, srt_eq t]
      show sortOf t.op t.nm t.n ((t.ks.map (rp F)).map Tm.srt) = _
      rw [List.map_map]
      congr 1
      exact List.map_congr_left (fun k hk => ih k hk ((srt_ops h).2 k hk))
    · rw [rp_name hs]
      cases hy : F t.nm (nsN t.op : Int) with
      | none => exact er_srt t
      | some x =>
        show x.er.srt = _
        rw [er_srt, hF _ _ _ hy]
        obtain ⟨j, hj, j1, j2, e, -⟩ := nsrt_form h
        have hr := nsN_row j (by omega) j1
        rw [← hj] at hr
        rw [e, hr]
        split
        · rfl
        · rename_i hn
          rw [if_neg hn] at hr
          exact absurd hr hs
end Go.Proofs.YtaibmdikimpooaaDoor
