/-
  What bools become has the same value in any world, or is none where they are none.
-/
import Derived.Test.YtlobffjgkhcjbaaDoorNmM
import Derived.Test.YtlobffjgkhcjbaaDoorNmEv
import Derived.Test.YtlobffjgkhcjbaaDoorEvM
namespace Go.Proofs.YtlobffjgkhcjbaaDoor
open Go.RowKit Go.Shelf

/-- both are none, or both are bools, the same, or turned -/
def Agr (b : Bool) (x y : Except Int Vv) : Prop := (∃ e e', x = .error e ∧ y = .error e') ∨ ∃ p, x = .ok (.b p) ∧ y = .ok (.b (p ^^ b))
theorem res_i {W : Wd} {r : Except Int Vv} (h : Res W 1 r) : (∃ e, r = .error e) ∨ ∃ n, r = .ok (.i n) := by
  cases r with
  | error e => exact .inl ⟨e, rfl⟩
  | ok v => obtain ⟨n, rfl, -⟩ := Ty.i h; exact .inr ⟨n, rfl⟩
theorem res_s {W : Wd} {r : Except Int Vv} (h : Res W 2 r) : (∃ e, r = .error e) ∨ ∃ l, r = .ok (.s l) ∧ l.length = W.nodes.toNat := by
  cases r with
  | error e => exact .inl ⟨e, rfl⟩
  | ok v => obtain ⟨n, rfl, h⟩ := Ty.s h; exact .inr ⟨n, rfl, h⟩
theorem res_d {W : Wd} {r : Except Int Vv} (h : Res W 3 r) : (∃ e, r = .error e) ∨ ∃ n : Int, r = .ok (.d n) ∧ 0 ≤ n ∧ n < W.nodes := by
  cases r with
  | error e => exact .inl ⟨e, rfl⟩
  | ok v => obtain ⟨n, rfl, h⟩ := Ty.d h; exact .inr ⟨n, rfl, h⟩
theorem res_b {W : Wd} {r : Except Int Vv} (h : Res W 4 r) : (∃ e, r = .error e) ∨ ∃ p, r = .ok (.b p) := by
  cases r with
  | error e => exact .inl ⟨e, rfl⟩
  | ok v => obtain ⟨p, rfl⟩ := Ty.b h; exact .inr ⟨p, rfl⟩
theorem agr_self {W : Wd} {r : Except Int Vv} (h : Res W 4 r) : Agr false r r := by
  rcases res_b h with ⟨e, rfl⟩ | ⟨p, rfl⟩
  · exact .inl ⟨e, e, rfl, rfl⟩
  · exact .inr ⟨p, rfl, by rw [Bool.xor_false]⟩
theorem agr_not {W : Wd} {b : Bool} {x : Except Int Vv} {u : Tm} (h : Agr b x (ev W u)) : Agr (!b) x (ev W (notT u)) := by
  rcases h with ⟨e, e', h1, h2⟩ | ⟨p, h1, h2⟩
  · exact .inl ⟨e, e', h1, ev1e rfl h2⟩
  · refine .inr ⟨p, h1, ?_⟩
    rw [show ev W (notT u) = app W 18 ⟨#[]⟩ 0 [.b (p ^^ b)] from ev1 rfl h2]
    show Except.ok (Vv.b (!(p ^^ b))) = _
    cases p <;> cases b <;> rfl
theorem sub_cons (a b : Bool) (x y : List Bool) : subB (a :: x) (b :: y) = ((!a || b) && subB x y) := by
  unfold subB
  rw [List.length_cons, List.range_succ_eq_map, List.all_cons, List.all_map]
  rfl
theorem cnt_cons' (a : Bool) (l : List Bool) : cntB (a :: l) = (if a then 1 else 0) + cntB l := by
  cases a <;> simp [cntB, Nat.add_comm]
theorem cnt_sub : ∀ x y : List Bool, x.length = y.length → decide (((cntB (List.zipWith (fun a b => a && !b) x y) : Nat) : Int) ≤ 0) = subB x y
  | [], [], _ => rfl
  | a :: x, b :: y, h => by
    have ih := cnt_sub x y (by simpa using h)
    rw [sub_cons, ← ih, List.zipWith_cons_cons, cnt_cons']
    cases a <;> cases b <;> simp <;> omega
  | [], _ :: _, h => by simp at h
  | _ :: _, [], h => by simp at h
theorem one_get (N k j : Nat) (hk : k < N) : (oneS N k).getD j false = decide (j = k) := by
  unfold oneS
  rw [List.getD_eq_getElem?_getD, List.getElem?_set]
  by_cases h : k = j
  · subst h; simp [hk]
  · have h' : ¬ j = k := fun e => h e.symm
    simp only [h, if_false, h', decide_false]
    rw [List.getElem?_replicate]
    split <;> rfl
theorem sub_one (N k : Nat) (l : List Bool) (hk : k < N) : subB (oneS N k) l = l.getD k false := by
  unfold subB
  rw [oneS_len]
  cases h : l.getD k false with
  | true =>
    rw [List.all_eq_true]
    intro j _
    rw [one_get N k j hk]
    by_cases e : j = k
    · subst e; rw [h]; simp
    · simp [e]
  | false =>
    refine range_all_le hk ?_
    rw [one_get N k k hk, h]; simp
theorem ev_ins {W : Wd} {u v : Tm} {x y : List Bool} (hu : ev W u = .ok (.s x)) (hv : ev W v = .ok (.s y)) (h : x.length = y.length) : ev W (insT u v) = .ok (.b (subB x y)) := by
  have e1 : ev W (mkT 13 [u, v]) = .ok (.s (List.zipWith (fun a b => a && !b) x y)) := ev2 rfl hu hv
  have e2 : ev W (mkT 3 [mkT 13 [u, v]]) = .ok (.i (cntB (List.zipWith (fun a b => a && !b) x y))) := ev1 rfl e1
  have e3 : ev W numT = .ok (.i 0) := ev0 rfl
  have e4 : ev W (insT u v) = .ok (.b (decide (((cntB (List.zipWith (fun a b => a && !b) x y) : Nat) : Int) ≤ 0))) := ev2 rfl e2 e3
  rw [e4, cnt_sub x y h]
theorem ev_ins0 {W : Wd} {u v : Tm} {e : Int} (hu : ev W u = .error e) : ev W (insT u v) = .error e := ev2e0 rfl (ev1e rfl (ev2e0 rfl hu))
theorem ev_ins1 {W : Wd} {u v : Tm} {e : Int} {x : Vv} (hu : ev W u = .ok x) (hv : ev W v = .error e) : ev W (insT u v) = .error e := ev2e0 rfl (ev1e rfl (ev2e1 rfl hu hv))
theorem ev_two {W : Wd} {op : Int} {u v : Tm} {p q : Bool} (hu : ev W u = .ok (.b p)) (hv : ev W v = .ok (.b q)) : ev W (mkT op [u, v]) = app W op.toNat ⟨#[]⟩ 0 [.b p, .b q] := ev2 rfl hu hv
theorem ev_le {W : Wd} {u v : Tm} {m n : Int} (hu : ev W u = .ok (.i m)) (hv : ev W v = .ok (.i n)) : ev W (leT u v) = .ok (.b (decide (m ≤ n))) := ev2 rfl hu hv
theorem evs_agr {W : Wd} (b : Bool) : ∀ ks : List Tm, (∀ k ∈ ks, Agr b (ev W k) (ev W (nn k b))) →
    (∃ e e', evs W ks = .error e ∧ evs W (ks.map (fun k => nn k b)) = .error e') ∨ ∃ l : List Bool, evs W ks = .ok (l.map Vv.b) ∧ evs W (ks.map (fun k => nn k b)) = .ok ((l.map (fun p => p ^^ b)).map Vv.b)
  | [], _ => .inr ⟨[], rfl, rfl⟩
  | k :: ks, h => by
    rcases h k (by simp) with ⟨e, e', h1, h2⟩ | ⟨p, h1, h2⟩
    · exact .inl ⟨e, e', by simp only [evs, h1], by simp only [List.map_cons, evs, h2]⟩
    · rcases evs_agr b ks (fun q hq => h q (by simp [hq])) with ⟨e, e', h3, h4⟩ | ⟨l, h3, h4⟩
      · exact .inl ⟨e, e', by simp only [evs, h1, h3], by simp only [List.map_cons, evs, h2, h4]⟩
      · exact .inr ⟨p :: l, by simp only [evs, h1, h3, List.map_cons], by simp only [List.map_cons, evs, h2, h4]⟩
theorem any_not (l : List Bool) : (l.map (fun p => p ^^ true)).any id = !(l.all id) := by
  induction l with
  | nil => rfl
  | cons a l ih => rw [List.map_cons, List.any_cons, List.all_cons, ih]; cases a <;> simp
theorem all_not (l : List Bool) : (l.map (fun p => p ^^ true)).all id = !(l.any id) := by
  induction l with
  | nil => rfl
  | cons a l ih => rw [List.map_cons, List.all_cons, List.any_cons, ih]; cases a <;> simp
theorem map_false (l : List Bool) : l.map (fun p => p ^^ false) = l := by simp
set_option maxHeartbeats 1000000 in
/-- what a bool becomes has its value, or that turned, in any world -/
theorem nn_ev {W : Wd} (hR : Rt W) {w : World} {B : Nat} : ∀ t : Tm, t.srt = 4 → TIn w B t → ∀ b, Agr b (ev W t) (ev W (nn t b)) := by
  refine bool_ind ?_ ?_ ?_ ?_ ?_ ?_ ?_ ?_ ?_ ?_ ?_ ?_ ?_ ?_
  · intro t h ho _ hin b
    have hr := ev_ty hR t hin (by omega)
    rw [h] at hr
    rw [nn15 ho]
    have a := agr_self hr
    conv at a => arg 3; rw [← er_ev]
    cases b
    · exact a
    · exact agr_not a
  · intro t h ho hk hb hin b
    have e : ev W t = .ok (.b true) := by rw [ev0 hk, ho]; rfl
    rw [nn16 ho, e]
    cases b
    · exact .inr ⟨true, rfl, by rw [if_neg (by decide), er_ev, e]; rfl⟩
    · exact .inr ⟨true, rfl, by rw [if_pos rfl]; exact ev0 rfl⟩
  · intro t h ho hk hb hin b
    have e : ev W t = .ok (.b false) := by rw [ev0 hk, ho]; rfl
    rw [nn17 ho, e]
    cases b
    · exact .inr ⟨false, rfl, by rw [if_neg (by decide), er_ev, e]; rfl⟩
    · exact .inr ⟨false, rfl, by rw [if_pos rfl]; exact ev0 rfl⟩
  · intro t u h ho hk _ hu ih hin b
    rw [nn18 ho hk]
    rcases ih (kid_in hin (by simp [hk])) (!b) with ⟨e, e', h1, h2⟩ | ⟨p, h1, h2⟩
    · exact .inl ⟨e, e', ev1e hk h1, h2⟩
    · refine .inr ⟨!p, ?_, ?_⟩
      · rw [ev1 hk h1, ho]; rfl
      · rw [h2]; cases p <;> cases b <;> rfl
  · intro t h ho _ _ ih hin b
    rw [nn19 ho]
    rcases evs_agr b t.ks (fun k hk => ih k hk (kid_in hin hk) b) with ⟨e, e', h1, h2⟩ | ⟨l, h1, h2⟩
    · exact .inl ⟨e, e', evMe h1, evMe h2⟩
    · refine .inr ⟨l.all id, ?_, ?_⟩
      · rw [evM h1, ho]
        show Except.ok (Vv.b ((l.map Vv.b).all Vv.bit)) = _
        rw [bits_all]
      · rw [evM (t := mkT (if b = true then 20 else 19) _) h2]
        cases b
        · show Except.ok (Vv.b (((l.map (fun p => p ^^ false)).map Vv.b).all Vv.bit)) = _
          rw [bits_all, map_false, Bool.xor_false]
        · show Except.ok (Vv.b (((l.map (fun p => p ^^ true)).map Vv.b).any Vv.bit)) = _
          rw [bits_any, any_not, Bool.xor_true]
  · intro t h ho _ _ ih hin b
    rw [nn20 ho]
    rcases evs_agr b t.ks (fun k hk => ih k hk (kid_in hin hk) b) with ⟨e, e', h1, h2⟩ | ⟨l, h1, h2⟩
    · exact .inl ⟨e, e', evMe h1, evMe h2⟩
    · refine .inr ⟨l.any id, ?_, ?_⟩
      · rw [evM h1, ho]
        show Except.ok (Vv.b ((l.map Vv.b).any Vv.bit)) = _
        rw [bits_any]
      · rw [evM (t := mkT (if b = true then 19 else 20) _) h2]
        cases b
        · show Except.ok (Vv.b (((l.map (fun p => p ^^ false)).map Vv.b).any Vv.bit)) = _
          rw [bits_any, map_false, Bool.xor_false]
        · show Except.ok (Vv.b (((l.map (fun p => p ^^ true)).map Vv.b).all Vv.bit)) = _
          rw [bits_all, all_not, Bool.xor_true]
  · intro t u v h ho hk _ hu hv ihu ihv hin b
    rw [nn21 ho hk]
    rcases ihu (kid_in hin (by simp [hk])) (!b) with ⟨e, e', h1, h2⟩ | ⟨p, h1, h2⟩
    · exact .inl ⟨e, e', ev2e0 hk h1, ev2e0 rfl h2⟩
    · rcases ihv (kid_in hin (by simp [hk])) b with ⟨e, e', h3, h4⟩ | ⟨q, h3, h4⟩
      · exact .inl ⟨e, e', ev2e1 hk h1 h3, ev2e1 rfl h2 h4⟩
      · refine .inr ⟨!p || q, ?_, ?_⟩
        · rw [ev2 hk h1 h3, ho]; rfl
        · rw [ev_two h2 h4]
          cases b <;> cases p <;> cases q <;> rfl
  · intro t u v h ho hk _ hu hv hin b
    have hr := ev_ty hR t hin (by omega)
    rw [h] at hr
    rw [nn22 ho]
    have a := agr_self hr
    conv at a => arg 3; rw [← er_ev]
    cases b
    · exact a
    · exact agr_not a
  · intro t u v h ho hk hu hv hin b
    have ru := ev_ty hR u (kid_in hin (by simp [hk])) (by omega)
    have rv := ev_ty hR v (kid_in hin (by simp [hk])) (by omega)
    rw [hu] at ru; rw [hv] at rv
    rw [nn23 ho hk]
    have a : Agr true (ev W t) (ev W (leT v.er u.er)) := by
      rcases res_i ru with ⟨e, h1⟩ | ⟨m, h1⟩
      · rcases res_i rv with ⟨e', h2⟩ | ⟨n, h2⟩
        · exact .inl ⟨e, e', ev2e0 hk h1, ev2e0 rfl (by rw [er_ev]; exact h2)⟩
        · exact .inl ⟨e, e, ev2e0 hk h1, ev2e1 rfl (by rw [er_ev]; exact h2) (by rw [er_ev]; exact h1)⟩
      · rcases res_i rv with ⟨e', h2⟩ | ⟨n, h2⟩
        · exact .inl ⟨e', e', ev2e1 hk h1 h2, ev2e0 rfl (by rw [er_ev]; exact h2)⟩
        · refine .inr ⟨decide (m < n), ?_, ?_⟩
          · rw [ev2 hk h1 h2, ho]; rfl
          · rw [ev_le (by rw [er_ev]; exact h2) (by rw [er_ev]; exact h1)]
            congr 2
            by_cases hmn : m < n
            · rw [decide_eq_true hmn, decide_eq_false (by omega)]; rfl
            · rw [decide_eq_false hmn, decide_eq_true (by omega)]; rfl
    cases b
    · exact agr_not a
    · exact a
  · intro t u v h ho hk hu hv hin b
    have ru := ev_ty hR u (kid_in hin (by simp [hk])) (by omega)
    have rv := ev_ty hR v (kid_in hin (by simp [hk])) (by omega)
    rw [hu] at ru; rw [hv] at rv
    rw [nn24 ho hk]
    rcases res_i ru with ⟨e, h1⟩ | ⟨m, h1⟩
    · refine .inl ⟨e, ?_⟩
      have h1' : ev W u.er = .error e := by rw [er_ev]; exact h1
      cases b
      · exact ⟨e, ev2e0 hk h1, ev2e0 rfl (ev2e0 rfl h1')⟩
      · exact ⟨e, ev2e0 hk h1, ev2e0 rfl (ev1e rfl (ev2e0 rfl h1'))⟩
    · have h1' : ev W u.er = .ok (.i m) := by rw [er_ev]; exact h1
      rcases res_i rv with ⟨e', h2⟩ | ⟨n, h2⟩
      · have h2' : ev W v.er = .error e' := by rw [er_ev]; exact h2
        refine .inl ⟨e', e', ev2e1 hk h1 h2, ?_⟩
        cases b
        · exact ev2e0 rfl (ev2e1 rfl h1' h2')
        · exact ev2e0 rfl (ev1e rfl (ev2e1 rfl h1' h2'))
      · have h2' : ev W v.er = .ok (.i n) := by rw [er_ev]; exact h2
        have l1 := ev_le h1' h2'
        have l2 := ev_le h2' h1'
        have n1 : ev W (notT (leT u.er v.er)) = .ok (.b (!decide (m ≤ n))) := ev1 rfl l1
        have n2 : ev W (notT (leT v.er u.er)) = .ok (.b (!decide (n ≤ m))) := ev1 rfl l2
        refine .inr ⟨m == n, by rw [ev2 hk h1 h2, ho]; rfl, ?_⟩
        have hd : (m == n) = (decide (m ≤ n) && decide (n ≤ m)) := by
          rw [Bool.eq_iff_iff]; simp; omega
        rw [hd]
        cases b
        · rw [if_neg (by decide), ev_two l1 l2]
          show Except.ok (Vv.b (([Vv.b (decide (m ≤ n)), Vv.b (decide (n ≤ m))]).all Vv.bit)) = _
          simp [Vv.bit]
        · rw [if_pos rfl, ev_two n1 n2]
          show Except.ok (Vv.b (([Vv.b (!decide (m ≤ n)), Vv.b (!decide (n ≤ m))]).any Vv.bit)) = _
          simp [Vv.bit]
  · intro t u v h ho hk hu hv hin b
    have ru := ev_ty hR u (kid_in hin (by simp [hk])) (by omega)
    have rv := ev_ty hR v (kid_in hin (by simp [hk])) (by omega)
    rw [hu] at ru; rw [hv] at rv
    rw [nn25 ho hk]
    have a : Agr false (ev W t) (ev W (insT (oneT u.er) v.er)) := by
      rcases res_d ru with ⟨e, h1⟩ | ⟨m, h1, hm0, hm1⟩
      · exact .inl ⟨e, e, ev2e0 hk h1, ev_ins0 (ev1e rfl (by rw [er_ev]; exact h1))⟩
      · have o1 : ev W (oneT u.er) = .ok (.s (oneS W.nodes.toNat m.toNat)) := ev1 rfl (by rw [er_ev]; exact h1)
        rcases res_s rv with ⟨e', h2⟩ | ⟨y, h2, hy⟩
        · exact .inl ⟨e', e', ev2e1 hk h1 h2, ev_ins1 o1 (by rw [er_ev]; exact h2)⟩
        · refine .inr ⟨y.getD m.toNat false, by rw [ev2 hk h1 h2, ho]; rfl, ?_⟩
          rw [ev_ins o1 (by rw [er_ev]; exact h2) (by rw [oneS_len, hy]), sub_one _ _ _ (by omega), Bool.xor_false]
    cases b
    · exact a
    · exact agr_not a
  · intro t u v h ho hk hu hv hin b
    have ru := ev_ty hR u (kid_in hin (by simp [hk])) (by omega)
    have rv := ev_ty hR v (kid_in hin (by simp [hk])) (by omega)
    rw [hu] at ru; rw [hv] at rv
    rw [nn26 ho hk]
    have a : Agr false (ev W t) (ev W (insT u.er v.er)) := by
      rcases res_s ru with ⟨e, h1⟩ | ⟨x, h1, hx⟩
      · exact .inl ⟨e, e, ev2e0 hk h1, ev_ins0 (by rw [er_ev]; exact h1)⟩
      · rcases res_s rv with ⟨e', h2⟩ | ⟨y, h2, hy⟩
        · exact .inl ⟨e', e', ev2e1 hk h1 h2, ev_ins1 (by rw [er_ev]; exact h1) (by rw [er_ev]; exact h2)⟩
        · refine .inr ⟨subB x y, by rw [ev2 hk h1 h2, ho]; rfl, ?_⟩
          rw [ev_ins (by rw [er_ev]; exact h1) (by rw [er_ev]; exact h2) (by rw [hx, hy]), Bool.xor_false]
    cases b
    · exact a
    · exact agr_not a
  · intro t u v h ho hk hu hv hin b
    have ru := ev_ty hR u (kid_in hin (by simp [hk])) (by omega)
    have rv := ev_ty hR v (kid_in hin (by simp [hk])) (by omega)
    rw [hu] at ru; rw [hv] at rv
    rw [nn27 ho hk]
    rcases res_s ru with ⟨e, h1⟩ | ⟨x, h1, hx⟩
    · refine .inl ⟨e, ?_⟩
      have h1' : ev W u.er = .error e := by rw [er_ev]; exact h1
      cases b
      · exact ⟨e, ev2e0 hk h1, ev2e0 rfl (ev_ins0 h1')⟩
      · exact ⟨e, ev2e0 hk h1, ev2e0 rfl (ev1e rfl (ev_ins0 h1'))⟩
    · have h1' : ev W u.er = .ok (.s x) := by rw [er_ev]; exact h1
      rcases res_s rv with ⟨e', h2⟩ | ⟨y, h2, hy⟩
      · have h2' : ev W v.er = .error e' := by rw [er_ev]; exact h2
        refine .inl ⟨e', e', ev2e1 hk h1 h2, ?_⟩
        cases b
        · exact ev2e0 rfl (ev_ins1 h1' h2')
        · exact ev2e0 rfl (ev1e rfl (ev_ins1 h1' h2'))
      · have h2' : ev W v.er = .ok (.s y) := by rw [er_ev]; exact h2
        have l1 := ev_ins h1' h2' (by rw [hx, hy])
        have l2 := ev_ins h2' h1' (by rw [hx, hy])
        have n1 : ev W (notT (insT u.er v.er)) = .ok (.b (!subB x y)) := ev1 rfl l1
        have n2 : ev W (notT (insT v.er u.er)) = .ok (.b (!subB y x)) := ev1 rfl l2
        refine .inr ⟨subB x y && subB y x, by rw [ev2 hk h1 h2, ho]; rfl, ?_⟩
        cases b
        · rw [if_neg (by decide), ev_two l1 l2]
          show Except.ok (Vv.b (([Vv.b (subB x y), Vv.b (subB y x)]).all Vv.bit)) = _
          simp [Vv.bit]
        · rw [if_pos rfl, ev_two n1 n2]
          show Except.ok (Vv.b (([Vv.b (!subB x y), Vv.b (!subB y x)]).any Vv.bit)) = _
          simp [Vv.bit]
  · intro t u v h ho hk hu hv hin b
    have ru := ev_ty hR u (kid_in hin (by simp [hk])) (by omega)
    have rv := ev_ty hR v (kid_in hin (by simp [hk])) (by omega)
    rw [hu] at ru; rw [hv] at rv
    rw [nn28 ho hk]
    have a : Agr false (ev W t) (ev W (insT (oneT u.er) (oneT v.er))) := by
      rcases res_d ru with ⟨e, h1⟩ | ⟨m, h1, hm0, hm1⟩
      · exact .inl ⟨e, e, ev2e0 hk h1, ev_ins0 (ev1e rfl (by rw [er_ev]; exact h1))⟩
      · have o1 : ev W (oneT u.er) = .ok (.s (oneS W.nodes.toNat m.toNat)) := ev1 rfl (by rw [er_ev]; exact h1)
        rcases res_d rv with ⟨e', h2⟩ | ⟨n, h2, hn0, hn1⟩
        · exact .inl ⟨e', e', ev2e1 hk h1 h2, ev_ins1 o1 (ev1e rfl (by rw [er_ev]; exact h2))⟩
        · have o2 : ev W (oneT v.er) = .ok (.s (oneS W.nodes.toNat n.toNat)) := ev1 rfl (by rw [er_ev]; exact h2)
          refine .inr ⟨m == n, by rw [ev2 hk h1 h2, ho]; rfl, ?_⟩
          rw [ev_ins o1 o2 (by rw [oneS_len, oneS_len]), sub_one _ _ _ (by omega), one_get _ _ _ (by omega), Bool.xor_false]
          congr 2
          rw [Bool.eq_iff_iff]; simp; omega
    cases b
    · exact a
    · exact agr_not a
end Go.Proofs.YtlobffjgkhcjbaaDoor
