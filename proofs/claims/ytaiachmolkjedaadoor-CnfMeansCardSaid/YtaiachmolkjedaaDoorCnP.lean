/-
  What clauses of a formula say of other variables than atoms': each has one value alone; then the last one is true just if the term is.
-/
import Derived.Test.YtaiachmolkjedaaDoorCnM
namespace Go.Proofs.YtaiachmolkjedaaDoor
open Go.RowKit

mutual
/-- what each variable beside atoms is: the operation, and the literals of its parts -/
def dfs (L : List Tm) : Tm → Nat → List (Int × List Int)
  | .node op _ _ _ _ ks, m => if jnB op then dfss L ks m ++ (if op = 18 then [] else [(op, lits L ks m)]) else []
def dfss (L : List Tm) : List Tm → Nat → List (Int × List Int)
  | [], _ => []
  | t :: ts, m => dfs L t m ++ dfss L ts (m + hlp t)
end
theorem dfs_eq (L : List Tm) (t : Tm) (m : Nat) : dfs L t m = if jnB t.op then dfss L t.ks m ++ (if t.op = 18 then [] else [(t.op, lits L t.ks m)]) else [] := by
  cases t; rw [dfs]; rfl
theorem dfss_len (L : List Tm) : ∀ (ks : List Tm) (m : Nat), (∀ k ∈ ks, ∀ m, (dfs L k m).length = hlp k) → (dfss L ks m).length = hlps ks
  | [], _, _ => rfl
  | a :: l, m, h => by
    simp only [dfss, hlps, List.length_append]
    rw [h a (by simp), dfss_len L l _ (fun k hk => h k (by simp [hk]))]
theorem dfs_len (L : List Tm) : ∀ (t : Tm) (m : Nat), (dfs L t m).length = hlp t := by
  intro t
  induction t using Tm.ind with
  | h t ih =>
    intro m
    rw [dfs_eq, hlp_eq]
    split
    · rw [List.length_append, dfss_len L t.ks m ih]
      split
      · simp
      · simp; omega
    · rfl
/-- their clauses, in order -/
def cat : Nat → List (Int × List Int) → List (List Int)
  | _, [] => []
  | m, d :: r => cdef d.1 ((m + 1 : Nat) : Int) d.2 ++ cat (m + 1) r
theorem cat_append (a b : List (Int × List Int)) (m : Nat) : cat m (a ++ b) = cat m a ++ cat (m + a.length) b := by
  induction a generalizing m with
  | nil => simp [cat]
  | cons d a ih =>
    simp only [List.cons_append, cat, ih, List.append_assoc, List.length_cons]
    rw [show m + 1 + a.length = m + (a.length + 1) by omega]
theorem cls_cat (L : List Tm) : ∀ (t : Tm) (m : Nat), cls L t m = cat m (dfs L t m) := by
  intro t
  induction t using Tm.ind with
  | h t ih =>
    intro m
    have hs : ∀ (ks : List Tm) (m : Nat), (∀ k ∈ ks, ∀ m, cls L k m = cat m (dfs L k m)) → clss L ks m = cat m (dfss L ks m) := by
      intro ks
      induction ks with
      | nil => intro _ _; rfl
      | cons a l ihl =>
        intro m h
        simp only [clss, dfss]
        rw [cat_append, h a (by simp), ihl _ (fun k hk => h k (by simp [hk])), dfs_len]
    rw [cls_eq, dfs_eq]
    split
    · rw [hs t.ks m ih, cat_append, dfss_len L t.ks m (fun k _ m => dfs_len L k m)]
      split
      · simp [cat]
      · simp only [cat, List.append_nil]
    · rfl
/-- is a literal true? a clause? -/
def lv (a : Nat → Bool) (x : Int) : Bool := (decide (0 < x) && a x.natAbs) || (decide (x < 0) && !a x.natAbs)
def cl (a : Nat → Bool) (c : List Int) : Bool := c.any (lv a)
theorem lv_pos (a : Nat → Bool) {h : Nat} (hh : 1 ≤ h) : lv a (h : Int) = a h := by
  unfold lv
  rw [decide_eq_true (by omega : (0 : Int) < h), decide_eq_false (by omega : ¬ (h : Int) < 0), Int.natAbs_natCast]; simp
theorem lv_neg (a : Nat → Bool) {x : Int} (hx : x ≠ 0) : lv a (-x) = !lv a x := by
  unfold lv
  rw [Int.natAbs_neg]
  rcases Int.lt_or_gt_of_ne hx with h | h
  · rw [decide_eq_true (by omega : 0 < -x), decide_eq_false (by omega : ¬ -x < 0), decide_eq_false (by omega : ¬ 0 < x), decide_eq_true h]; simp
  · rw [decide_eq_false (by omega : ¬ 0 < -x), decide_eq_true (by omega : -x < 0), decide_eq_true h, decide_eq_false (by omega : ¬ x < 0)]; simp
theorem lv_congr {a b : Nat → Bool} {x : Int} (h : a x.natAbs = b x.natAbs) : lv a x = lv b x := by unfold lv; rw [h]
/-- what a variable must be -/
def dval (a : Nat → Bool) (op : Int) (ls : List Int) : Bool :=
  if op = 16 ∨ op = 19 then ls.all (lv a) else if op = 21 then (neg0 ls).any (lv a) else ls.any (lv a)
theorem neg0_lb {n : Nat} {ls : List Int} (hl : ∀ x ∈ ls, lb x n) : ∀ x ∈ neg0 ls, lb x n := by
  intro x hx
  cases ls with
  | nil => simp [neg0] at hx
  | cons y ys =>
    simp only [neg0, List.mem_cons] at hx
    rcases hx with rfl | hx
    · exact (hl y (by simp)).neg
    · exact hl x (by simp [hx])
theorem dval_congr {a b : Nat → Bool} {op : Int} {n : Nat} {ls : List Int} (hl : ∀ x ∈ ls, lb x n) (h : ∀ i, i ≤ n → a i = b i) : dval a op ls = dval b op ls := by
  have e : ∀ l : List Int, (∀ x ∈ l, lb x n) → ∀ x ∈ l, lv a x = lv b x := fun l hl x hx => lv_congr (h _ (hl x hx).2)
  have e1 : ∀ l : List Int, (∀ x ∈ l, lb x n) → l.any (lv a) = l.any (lv b) := by
    intro l hl
    induction l with
    | nil => rfl
    | cons y l ih => rw [List.any_cons, List.any_cons, e (y :: l) hl y (by simp), ih (fun x hx => hl x (by simp [hx]))]
  have e2 : ∀ l : List Int, (∀ x ∈ l, lb x n) → l.all (lv a) = l.all (lv b) := by
    intro l hl
    induction l with
    | nil => rfl
    | cons y l ih => rw [List.all_cons, List.all_cons, e (y :: l) hl y (by simp), ih (fun x hx => hl x (by simp [hx]))]
  unfold dval
  rw [e1 ls hl, e2 ls hl, e1 _ (neg0_lb hl)]
theorem or_true (a : Nat → Bool) {h : Nat} (hh : 1 ≤ h) (ls : List Int) (hl : ∀ x ∈ ls, x ≠ 0) : ((ls.map (fun l => [(h : Int), -l]) ++ [(-(h : Int)) :: ls]).all (cl a) = true) ↔ a h = ls.any (lv a) := by
  have h1 : (ls.map (fun l => [(h : Int), -l])).all (cl a) = (a h || ls.all (fun l => !lv a l)) := by
    induction ls with
    | nil => simp
    | cons y l ih =>
      rw [List.map_cons, List.all_cons, ih (fun x hx => hl x (by simp [hx])), List.all_cons]
      unfold cl
      simp only [List.any_cons, List.any_nil, Bool.or_false]
      rw [lv_pos a hh, lv_neg a (hl y (by simp))]
      cases a h <;> simp
  have h2 : cl a ((-(h : Int)) :: ls) = (!a h || ls.any (lv a)) := by
    unfold cl
    rw [List.any_cons, lv_neg a (by omega), lv_pos a hh]
  have h3 : ls.all (fun l => !lv a l) = !ls.any (lv a) := by
    rw [List.not_any_eq_all_not]
  rw [List.all_append, h1, List.all_cons, List.all_nil, h2, h3]
  cases a h <;> cases ls.any (lv a) <;> simp
theorem and_true' (a : Nat → Bool) {h : Nat} (hh : 1 ≤ h) (ls : List Int) (hl : ∀ x ∈ ls, x ≠ 0) : ((ls.map (fun l => [-(h : Int), l]) ++ [(h : Int) :: ls.map (fun l => -l)]).all (cl a) = true) ↔ a h = ls.all (lv a) := by
  have h1 : (ls.map (fun l => [-(h : Int), l])).all (cl a) = (!a h || ls.all (lv a)) := by
    induction ls with
    | nil => simp
    | cons y l ih =>
      rw [List.map_cons, List.all_cons, ih (fun x hx => hl x (by simp [hx])), List.all_cons]
      unfold cl
      simp only [List.any_cons, List.any_nil, Bool.or_false]
      rw [lv_neg a (by omega), lv_pos a hh]
      cases a h <;> simp
  have h2 : cl a ((h : Int) :: ls.map (fun l => -l)) = (a h || !ls.all (lv a)) := by
    unfold cl
    rw [List.any_cons, lv_pos a hh, List.any_map, List.not_all_eq_any_not]
    congr 1
    induction ls with
    | nil => rfl
    | cons y l ih =>
      rw [List.any_cons, List.any_cons, ih (fun x hx => hl x (by simp [hx]))]
      · show (lv a (-y) || _) = _
        rw [lv_neg a (hl y (by simp))]
      · have := h1; rw [List.map_cons, List.all_cons] at this
        clear this
        have aux : ∀ l : List Int, (∀ x ∈ l, x ≠ 0) → (l.map (fun l => [-(h : Int), l])).all (cl a) = (!a h || l.all (lv a)) := by
          intro l hl
          induction l with
          | nil => simp
          | cons y l ih =>
            rw [List.map_cons, List.all_cons, ih (fun x hx => hl x (by simp [hx])), List.all_cons]
            unfold cl
            simp only [List.any_cons, List.any_nil, Bool.or_false]
            rw [lv_neg a (by omega), lv_pos a hh]
            cases a h <;> simp
        exact aux l (fun x hx => hl x (by simp [hx]))
  rw [List.all_append, h1, List.all_cons, List.all_nil, h2]
  cases a h <;> cases ls.all (lv a) <;> simp
theorem cdef_true (a : Nat → Bool) (op : Int) {h n : Nat} (hh : 1 ≤ h) (ls : List Int) (hl : ∀ x ∈ ls, lb x n) : ((cdef op (h : Int) ls).all (cl a) = true) ↔ a h = dval a op ls := by
  have h0 : ∀ x ∈ ls, x ≠ 0 := fun x hx => (hl x hx).1
  unfold cdef dval
  split
  · exact and_true' a hh ls h0
  · split
    · exact or_true a hh _ (fun x hx => (neg0_lb hl x hx).1)
    · exact or_true a hh ls h0
/-- are all clauses true that have no later variable? -/
def ltr (v : Nat) (c : List Int) : Bool := c.any (fun x => decide (v < x.natAbs))
def kn (a : Nat → Bool) (v : Nat) (cs : List (List Int)) : Bool := cs.all (fun c => ltr v c || cl a c)
def Sat (a : Nat → Bool) (v : Nat) : Nat → List (Int × List Int) → Prop
  | _, [] => True
  | m, d :: r => (m + 1 ≤ v → a (m + 1) = dval a d.1 d.2) ∧ Sat a v (m + 1) r
def Good : Nat → List (Int × List Int) → Prop
  | _, [] => True
  | m, d :: r => (∀ x ∈ d.2, lb x m) ∧ Good (m + 1) r
theorem Sat.append {a : Nat → Bool} {v : Nat} (x y : List (Int × List Int)) (m : Nat) : Sat a v m (x ++ y) ↔ Sat a v m x ∧ Sat a v (m + x.length) y := by
  induction x generalizing m with
  | nil => simp [Sat]
  | cons d x ih =>
    simp only [List.cons_append, Sat, ih, List.length_cons]
    rw [show m + 1 + x.length = m + (x.length + 1) by omega, and_assoc]
theorem Good.append (x y : List (Int × List Int)) (m : Nat) : Good m (x ++ y) ↔ Good m x ∧ Good (m + x.length) y := by
  induction x generalizing m with
  | nil => simp [Good]
  | cons d x ih =>
    simp only [List.cons_append, Good, ih, List.length_cons]
    rw [show m + 1 + x.length = m + (x.length + 1) by omega, and_assoc]
theorem Sat.high {a : Nat → Bool} {v : Nat} : ∀ (ds : List (Int × List Int)) (m : Nat), v ≤ m → Sat a v m ds
  | [], _, _ => trivial
  | _ :: r, m, h => ⟨fun h' => by omega, Sat.high r (m + 1) (by omega)⟩
theorem cdef_own {op : Int} {h : Nat} {ls : List Int} : ∀ c ∈ cdef op (h : Int) ls, ∃ x ∈ c, x.natAbs = h := by
  intro c hc
  have e1 : ((h : Int)).natAbs = h := by omega
  have e2 : (-(h : Int)).natAbs = h := by omega
  unfold cdef at hc
  split at hc
  · rcases List.mem_append.1 hc with hc | hc
    · obtain ⟨y, -, rfl⟩ := List.mem_map.1 hc
      exact ⟨_, by simp, e2⟩
    · rw [List.mem_singleton] at hc; subst hc
      exact ⟨_, by simp, e1⟩
  · split at hc
    · rcases List.mem_append.1 hc with hc | hc
      · obtain ⟨y, -, rfl⟩ := List.mem_map.1 hc
        exact ⟨_, by simp, e1⟩
      · rw [List.mem_singleton] at hc; subst hc
        exact ⟨_, by simp, e2⟩
    · rcases List.mem_append.1 hc with hc | hc
      · obtain ⟨y, -, rfl⟩ := List.mem_map.1 hc
        exact ⟨_, by simp, e1⟩
      · rw [List.mem_singleton] at hc; subst hc
        exact ⟨_, by simp, e2⟩
theorem kn_low {a : Nat → Bool} {v n : Nat} {cs : List (List Int)} (h : ∀ c ∈ cs, ∀ x ∈ c, lb x n) (hn : n ≤ v) : kn a v cs = cs.all (cl a) := by
  unfold kn
  induction cs with
  | nil => rfl
  | cons c cs ih =>
    rw [List.all_cons, List.all_cons, ih (fun c hc => h c (by simp [hc]))]
    have : ltr v c = false := by
      unfold ltr
      rw [List.any_eq_false]
      intro x hx
      have := (h c (by simp) x hx).2
      simp; omega
    rw [this, Bool.false_or]
theorem kn_high {a : Nat → Bool} {v : Nat} {cs : List (List Int)} (h : ∀ c ∈ cs, ∃ x ∈ c, v < x.natAbs) : kn a v cs = true := by
  unfold kn
  rw [List.all_eq_true]
  intro c hc
  obtain ⟨x, hx, hv⟩ := h c hc
  have : ltr v c = true := by
    unfold ltr
    rw [List.any_eq_true]
    exact ⟨x, hx, by simpa using hv⟩
  rw [this, Bool.true_or]
theorem kn_append (a : Nat → Bool) (v : Nat) (x y : List (List Int)) : kn a v (x ++ y) = (kn a v x && kn a v y) := by unfold kn; rw [List.all_append]
theorem kn_iff (a : Nat → Bool) (v : Nat) : ∀ (ds : List (Int × List Int)) (m : Nat), Good m ds → (kn a v (cat m ds) = true ↔ Sat a v m ds)
  | [], _, _ => by simp [kn, cat, Sat]
  | d :: r, m, h => by
    have ih := kn_iff a v r (m + 1) h.2
    simp only [cat, Sat]
    rw [kn_append, Bool.and_eq_true, ih]
    by_cases hv : m + 1 ≤ v
    · rw [kn_low (n := m + 1) (cdef_lb (by omega) (Nat.le_refl _) (fun x hx => (h.1 x hx).mono (by omega))) hv, cdef_true a d.1 (by omega) d.2 h.1]
      exact ⟨fun h => ⟨fun _ => h.1, h.2⟩, fun h => ⟨h.1 hv, h.2⟩⟩
    · rw [kn_high (fun c hc => by
        obtain ⟨x, hx, e⟩ := cdef_own c hc
        exact ⟨x, hx, by omega⟩)]
      exact ⟨fun h => ⟨fun h' => absurd h' hv, h.2⟩, fun h => ⟨rfl, h.2⟩⟩
theorem Sat.step {a : Nat → Bool} {v : Nat} : ∀ (ds : List (Int × List Int)) (m : Nat), Good m ds → m < v → v ≤ m + ds.length → Sat a (v - 1) m ds →
    ∃ b : Bool, ∀ a' : Nat → Bool, (∀ i, i ≠ v → a' i = a i) → (Sat a' v m ds ↔ a' v = b)
  | [], m, _, h1, h2, _ => by simp at h2; omega
  | d :: r, m, hg, h1, h2, hs => by
    by_cases e : v = m + 1
    · subst e
      refine ⟨dval a d.1 d.2, fun a' ha => ?_⟩
      have hd : dval a' d.1 d.2 = dval a d.1 d.2 := dval_congr hg.1 (fun i hi => ha i (by omega))
      constructor
      · intro h
        rw [← hd]
        exact h.1 (Nat.le_refl _)
      · intro h
        exact ⟨fun _ => by rw [hd]; exact h, Sat.high _ _ (Nat.le_refl _)⟩
    · obtain ⟨b, hb⟩ := Sat.step r (m + 1) hg.2 (by omega) (by simp only [List.length_cons] at h2; omega) hs.2
      refine ⟨b, fun a' ha => ?_⟩
      have hd : dval a' d.1 d.2 = dval a d.1 d.2 := dval_congr hg.1 (fun i hi => ha i (by omega))
      rw [← hb a' ha]
      constructor
      · intro h; exact h.2
      · intro h
        exact ⟨fun _ => by rw [hd, ha (m + 1) (by omega)]; exact hs.1 (by omega), h⟩
theorem Good.dfss {L : List Tm} : ∀ (ks : List Tm) (m : Nat), (∀ k ∈ ks, ∀ m, L.length ≤ m → Good m (dfs L k m)) → L.length ≤ m → Good m (dfss L ks m)
  | [], _, _, _ => trivial
  | a :: l, m, h, hm => by
    simp only [Go.Proofs.YtaiachmolkjedaaDoor.dfss]
    rw [Good.append, dfs_len]
    exact ⟨h a (by simp) m hm, Good.dfss l _ (fun k hk => h k (by simp [hk])) (by omega)⟩
theorem Good.dfs {L : List Tm} : ∀ t : Tm, t.srt = 4 → cov L t = true → ∀ m, L.length ≤ m → Good m (dfs L t m) := by
  refine cnf_ind (fun t h hj _ m _ => ?_) (fun t u h ho hk hu ih hc m hm => ?_) (fun t h hj hn _ _ _ hks ih hc m hm => ?_)
  · rw [dfs_eq, if_neg (by rw [hj]; simp)]; trivial
  · have hj : jnB t.op = true := by rw [ho]; rfl
    rw [cov_eq, if_pos hj, hk] at hc
    rw [dfs_eq, if_pos hj, if_pos ho, hk]
    simp only [covs, Bool.and_true] at hc
    simp only [Go.Proofs.YtaiachmolkjedaaDoor.dfss, List.append_nil]
    exact ih hc m hm
  · rw [cov_eq, if_pos hj, covs_all] at hc
    rw [dfs_eq, if_pos hj, if_neg hn, Good.append, dfss_len L t.ks m (fun k _ m => dfs_len L k m)]
    exact ⟨Good.dfss t.ks m (fun k hk m hm => ih k hk (hc k hk) m hm) hm, lits_lb L t.ks m (fun k hk m hm => lit_lb k (hks k hk) (hc k hk) m hm) hm, trivial⟩
mutual
/-- is a term true, if so are its atoms? -/
def tru (bit : Nat → Bool) (L : List Tm) : Tm → Bool
  | .node op nm n a c ks => if op = 16 then true else if op = 17 then false else if op = 18 then !((trus bit L ks).headD false) else if op = 21 then (match trus bit L ks with | [x, y] => !x || y | _ => false) else if op = 19 then (trus bit L ks).all id else if op = 20 then (trus bit L ks).any id else bit (fnd L (.node op nm n a c ks))
def trus (bit : Nat → Bool) (L : List Tm) : List Tm → List Bool
  | [] => []
  | t :: ts => tru bit L t :: trus bit L ts
end
theorem tru_eq (bit : Nat → Bool) (L : List Tm) (t : Tm) : tru bit L t = if t.op = 16 then true else if t.op = 17 then false else if t.op = 18 then !((trus bit L t.ks).headD false) else if t.op = 21 then (match trus bit L t.ks with | [x, y] => !x || y | _ => false) else if t.op = 19 then (trus bit L t.ks).all id else if t.op = 20 then (trus bit L t.ks).any id else bit (fnd L t) := by
  cases t; rw [tru]; rfl
theorem trus_map (bit : Nat → Bool) (L : List Tm) : ∀ ks : List Tm, trus bit L ks = ks.map (tru bit L)
  | [] => rfl
  | k :: ks => by simp only [trus, List.map_cons, trus_map bit L ks]
theorem lits_tru {bit a : Nat → Bool} {L : List Tm} {v : Nat} : ∀ (ks : List Tm) (m : Nat), (∀ k ∈ ks, ∀ m, L.length ≤ m → m + hlp k ≤ v → Sat a v m (dfs L k m) → lv a (lit L k m) = tru bit L k) → L.length ≤ m → m + hlps ks ≤ v → Sat a v m (dfss L ks m) → (lits L ks m).map (lv a) = trus bit L ks
  | [], _, _, _, _, _ => rfl
  | k :: ks, m, h, hm, hv, hs => by
    simp only [dfss, hlps] at hs hv
    rw [Sat.append, dfs_len] at hs
    simp only [lits, trus, List.map_cons]
    rw [h k (by simp) m hm (by omega) hs.1, lits_tru ks (m + hlp k) (fun k hk => h k (by simp [hk])) (by omega) (by omega) hs.2]
theorem lit_tru {bit a : Nat → Bool} {L : List Tm} {v : Nat} (hbit : ∀ i, i < L.length → a (i + 1) = bit i) : ∀ t : Tm, t.srt = 4 → cov L t = true → ∀ m, L.length ≤ m → m + hlp t ≤ v → Sat a v m (dfs L t m) → lv a (lit L t m) = tru bit L t := by
  refine cnf_ind (fun t h hj hc m hm _ _ => ?_) (fun t u h ho hk hu ih hc m hm hv hs => ?_) (fun t h hj hn hop h0 h2 hks ih hc m hm hv hs => ?_)
  · rw [cov_eq, if_neg (by rw [hj]; simp), has_iff] at hc
    rw [lit_eq, if_neg (by rw [hj]; simp), lv_pos a (by omega), hbit _ hc, tru_eq]
    unfold jnB at hj
    simp only [Bool.and_eq_false_iff, decide_eq_false_iff_not] at hj
    rw [if_neg (by omega), if_neg (by omega), if_neg (by omega), if_neg (by omega), if_neg (by omega), if_neg (by omega)]
  · have hj : jnB t.op = true := by rw [ho]; rfl
    have hc' := hc
    rw [cov_eq, if_pos hj, hk] at hc
    simp only [covs, Bool.and_true] at hc
    rw [dfs_eq, if_pos hj, if_pos ho, hk] at hs
    simp only [dfss, List.append_nil] at hs
    rw [hlp_eq, if_pos hj, if_pos ho, hk] at hv
    simp only [hlps] at hv
    have hl := (lit_lb u hu hc m hm).1
    rw [lit_eq, if_pos hj, if_pos ho, hk, tru_eq, if_neg (by omega), if_neg (by omega), if_pos ho, hk]
    simp only [lits, trus, List.headD_cons]
    rw [lv_neg a hl, ih hc m hm (by omega) hs]
  · rw [cov_eq, if_pos hj, covs_all] at hc
    rw [hlp_eq, if_pos hj, if_neg hn] at hv
    rw [dfs_eq, if_pos hj, if_neg hn, Sat.append, dfss_len L t.ks m (fun k _ m => dfs_len L k m)] at hs
    obtain ⟨hs1, hs2, -⟩ := hs
    have e := lits_tru t.ks m (fun k hk m hm hv hs => ih k hk (hc k hk) m hm hv hs) hm (by omega) hs1
    have ev := hs2 (by omega)
    simp only at ev
    rw [lit_eq, if_pos hj, if_neg hn, lv_pos a (by omega), ev, tru_eq, ← e]
    have a1 : ∀ l : List Int, l.all (lv a) = (l.map (lv a)).all id := fun l => by rw [List.all_map]; rfl
    have a2 : ∀ l : List Int, l.any (lv a) = (l.map (lv a)).any id := fun l => by rw [List.any_map]; rfl
    unfold dval
    rcases hop with ho | ho | ho | ho | ho
    · rw [if_pos (.inl ho), if_pos ho, h0 (.inl ho)]; rfl
    · rw [if_neg (by omega), if_neg (by omega), if_neg (by omega), if_pos ho, h0 (.inr ho)]; rfl
    · rw [if_pos (.inr ho), if_neg (by omega), if_neg (by omega), if_neg (by omega), if_neg (by omega), if_pos ho, a1]
    · rw [if_neg (by omega), if_neg (by omega), if_neg (by omega), if_neg (by omega), if_neg (by omega), if_neg (by omega), if_neg (by omega), if_pos ho, a2]
    · obtain ⟨x, y, hk⟩ := h2 ho
      have hx := (lit_lb x (hks x (by rw [hk]; simp)) (hc x (by rw [hk]; simp)) m hm).1
      rw [if_neg (by omega), if_pos ho, if_neg (by omega), if_neg (by omega), if_neg (by omega), if_pos ho, hk]
      simp only [lits, neg0, List.any_cons, List.any_nil, Bool.or_false, List.map_cons, List.map_nil]
      rw [lv_neg a hx]
theorem kn_all {a : Nat → Bool} {v n : Nat} {cs : List (List Int)} (h : ∀ c ∈ cs, ∀ x ∈ c, lb x n) (hn : n ≤ v) (hk : kn a v cs = true) : ∀ c ∈ cs, cl a c = true := by
  rw [kn_low h hn] at hk
  exact List.all_eq_true.1 hk
end Go.Proofs.YtaiachmolkjedaaDoor
