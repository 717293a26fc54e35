/-
  Clauses of a formula, plainly: atoms, how many other variables, literals, clauses.
-/
import Derived.Test.YtaiachmolkjedaaDoorNmE
import Derived.Test.YtaiachmolkjedaaDoorTmS
import Derived.Test.YtaiachmolkjedaaDoorTmI
namespace Go.Proofs.YtaiachmolkjedaaDoor
open Go.RowKit

theorem eqTs_iff : ∀ l l' : List Tm, (∀ k ∈ l, ∀ b : Tm, eqT k b = true ↔ k.er = b.er) → (eqTs l l' = true ↔ l.map Tm.er = l'.map Tm.er)
  | [], [], _ => by simp [eqTs]
  | [], _ :: _, _ => by simp [eqTs]
  | _ :: _, [], _ => by simp [eqTs]
  | a :: l, b :: l', h => by
    simp only [eqTs, Bool.and_eq_true, List.map_cons, List.cons.injEq]
    rw [h a (by simp) b, eqTs_iff l l' (fun k hk => h k (by simp [hk]))]
theorem eqT_iff : ∀ a b : Tm, eqT a b = true ↔ a.er = b.er := by
  intro a
  induction a using Tm.ind with
  | h a ih =>
    intro b
    rw [eqT_eq, er_eq, er_eq b]
    simp only [Bool.and_eq_true, beq_iff_eq, Tm.node.injEq, true_and, eqTs_iff _ _ ih, ByteArray.toList_eq]
    constructor
    · rintro ⟨⟨⟨h1, h2⟩, h3⟩, h4⟩
      exact ⟨h1, Go.WideShapes.bytes_inj h2, h3, h4⟩
    · rintro ⟨h1, h2, h3, h4⟩
      exact ⟨⟨⟨h1, by rw [h2]⟩, h3⟩, h4⟩
theorem eqT_congr {a a' b b' : Tm} (h : a.er = a'.er) (h' : b.er = b'.er) : eqT a b = eqT a' b' := by
  rw [Bool.eq_iff_iff, eqT_iff, eqT_iff, h, h']
theorem sms_eqTs (l : Nat) : ∀ ks ks' : List Tm, (∀ k ∈ ks, ∀ b : Tm, k.deep + l ≤ 101 → Tm.sm l k b = eqT k b) → Tm.deeps ks + l ≤ 101 → Tm.sms l ks ks' = eqTs ks ks'
  | [], [], _, _ => by simp [eqTs, Tm.sms]
  | [], _ :: _, _, _ => by simp [eqTs, Tm.sms]
  | _ :: _, [], _, _ => by simp [eqTs, Tm.sms]
  | a :: r, b :: r', h, hd => by
    simp only [Tm.deeps] at hd
    simp only [eqTs, Tm.sms]
    rw [h a (by simp) b (by omega), sms_eqTs l r r' (fun k hk => h k (by simp [hk])) (by omega)]
theorem sm_eqT : ∀ (a b : Tm) (l : Nat), a.deep + l ≤ 101 → Tm.sm l a b = eqT a b := by
  intro a
  induction a using Tm.ind with
  | h a ih =>
    intro b l hd
    have h1 := Tm.deep_eq a
    rw [sm_eq, eqT_eq, decide_eq_true (show l ≤ 100 by omega), sms_eqTs (l + 1) a.ks b.ks (fun k hk b h => ih k hk b (l + 1) h) (by omega)]
    have e1 : (a.nm.toList == b.nm.toList) = decide (a.nm = b.nm) := by
      rw [Bool.eq_iff_iff]
      simp only [beq_iff_eq, decide_eq_true_eq, ByteArray.toList_eq]
      exact ⟨fun h => Go.WideShapes.bytes_inj h, fun h => by rw [h]⟩
    have e2 : (a.op == b.op) = decide (a.op = b.op) := rfl
    have e3 : (a.n == b.n) = decide (a.n = b.n) := rfl
    rw [e1, e2, e3, Bool.true_and]

/-- does an operation join bools? -/
def jnB (op : Int) : Bool := decide (16 ≤ op) && decide (op ≤ 21)
/-- where an atom stands in a row -/
def fnd (l : List Tm) (t : Tm) : Nat := l.findIdx (fun x => eqT x t)
def has (l : List Tm) (t : Tm) : Bool := l.any (fun x => eqT x t)
theorem has_iff (l : List Tm) (t : Tm) : has l t = true ↔ fnd l t < l.length := by
  unfold has fnd
  rw [List.findIdx_lt_length, List.any_eq_true]
theorem has_false {l : List Tm} {t : Tm} (h : has l t = false) : fnd l t = l.length := by
  have h1 : ¬ fnd l t < l.length := by rw [← has_iff, h]; simp
  have h2 : fnd l t ≤ l.length := List.findIdx_le_length
  omega
theorem has_map (l : List Tm) (t : Tm) : has (l.map Tm.er) t = has l t := by
  unfold has
  rw [List.any_map]
  congr 1
  funext x
  exact eqT_congr (er_er x) rfl
theorem fnd_map (l : List Tm) (t : Tm) : fnd (l.map Tm.er) t = fnd l t := by
  unfold fnd
  rw [List.findIdx_map]
  congr 1
  funext x
  exact eqT_congr (er_er x) rfl
theorem has_er (l : List Tm) {t u : Tm} (h : t.er = u.er) : has l t = has l u := by
  unfold has
  congr 1
  funext x
  exact eqT_congr rfl h
theorem fnd_er (l : List Tm) {t u : Tm} (h : t.er = u.er) : fnd l t = fnd l u := by
  unfold fnd
  congr 1
  funext x
  exact eqT_congr rfl h
theorem has_append (l r : List Tm) (t : Tm) : has (l ++ r) t = (has l t || has r t) := by unfold has; rw [List.any_append]
theorem fnd_append {l : List Tm} {t : Tm} (r : List Tm) (h : has l t = true) : fnd (l ++ r) t = fnd l t := by
  have h1 := (has_iff l t).1 h
  unfold fnd at *
  rw [List.findIdx_append, if_pos h1]
mutual
/-- the atoms of a term, behind some -/
def ats : Tm → List Tm → List Tm
  | .node op nm n a c ks, l => if jnB op then atss ks l else if has l (.node op nm n a c ks) then l else l ++ [(Tm.node op nm n a c ks).er]
def atss : List Tm → List Tm → List Tm
  | [], l => l
  | t :: ts, l => atss ts (ats t l)
end
mutual
/-- how many variables beside atoms -/
def hlp : Tm → Nat
  | .node op _ _ _ _ ks => if jnB op then (if op = 18 then 0 else 1) + hlps ks else 0
def hlps : List Tm → Nat
  | [] => 0
  | t :: ts => hlp t + hlps ts
end
mutual
/-- the literal of a term, if so many variables are ahead -/
def lit (L : List Tm) : Tm → Nat → Int
  | .node op nm n a c ks, m => if jnB op then (if op = 18 then -((lits L ks m).headD 0) else ((m + hlps ks + 1 : Nat) : Int)) else ((fnd L (.node op nm n a c ks) + 1 : Nat) : Int)
def lits (L : List Tm) : List Tm → Nat → List Int
  | [], _ => []
  | t :: ts, m => lit L t m :: lits L ts (m + hlp t)
end
/-- the first one turned -/
def neg0 : List Int → List Int
  | [] => []
  | x :: xs => (-x) :: xs
/-- the clauses that say what the variable h is -/
def cdef (op : Int) (h : Int) (ls : List Int) : List (List Int) :=
  if op = 16 ∨ op = 19 then ls.map (fun l => [-h, l]) ++ [h :: ls.map (fun l => -l)]
  else if op = 21 then (neg0 ls).map (fun l => [h, -l]) ++ [(-h) :: neg0 ls]
  else ls.map (fun l => [h, -l]) ++ [(-h) :: ls]
mutual
/-- the clauses of a term -/
def cls (L : List Tm) : Tm → Nat → List (List Int)
  | .node op _ _ _ _ ks, m => if jnB op then clss L ks m ++ (if op = 18 then [] else cdef op ((m + hlps ks + 1 : Nat) : Int) (lits L ks m)) else []
def clss (L : List Tm) : List Tm → Nat → List (List Int)
  | [], _ => []
  | t :: ts, m => cls L t m ++ clss L ts (m + hlp t)
end
mutual
/-- do all atoms of a term stand in a row? -/
def cov (L : List Tm) : Tm → Bool
  | .node op nm n a c ks => if jnB op then covs L ks else has L (.node op nm n a c ks)
def covs (L : List Tm) : List Tm → Bool
  | [] => true
  | t :: ts => cov L t && covs L ts
end
theorem ats_eq (t : Tm) (l : List Tm) : ats t l = if jnB t.op then atss t.ks l else if has l t then l else l ++ [t.er] := by
  cases t; rw [ats]; rfl
theorem hlp_eq (t : Tm) : hlp t = if jnB t.op then (if t.op = 18 then 0 else 1) + hlps t.ks else 0 := by
  cases t; rw [hlp]; rfl
theorem lit_eq (L : List Tm) (t : Tm) (m : Nat) : lit L t m = if jnB t.op then (if t.op = 18 then -((lits L t.ks m).headD 0) else ((m + hlps t.ks + 1 : Nat) : Int)) else ((fnd L t + 1 : Nat) : Int) := by
  cases t; rw [lit]; rfl
theorem cls_eq (L : List Tm) (t : Tm) (m : Nat) : cls L t m = if jnB t.op then clss L t.ks m ++ (if t.op = 18 then [] else cdef t.op ((m + hlps t.ks + 1 : Nat) : Int) (lits L t.ks m)) else [] := by
  cases t; rw [cls]; rfl
theorem cov_eq (L : List Tm) (t : Tm) : cov L t = if jnB t.op then covs L t.ks else has L t := by
  cases t; rw [cov]; rfl
theorem covs_all (L : List Tm) : ∀ ks : List Tm, covs L ks = true ↔ ∀ k ∈ ks, cov L k = true
  | [] => by simp [covs]
  | k :: ks => by simp [covs, covs_all L ks]
theorem atss_append (a b l : List Tm) : atss (a ++ b) l = atss b (atss a l) := by
  induction a generalizing l with
  | nil => rfl
  | cons t a ih => simp only [List.cons_append, atss]; exact ih _
theorem hlps_append (a b : List Tm) : hlps (a ++ b) = hlps a + hlps b := by
  induction a with
  | nil => simp [hlps]
  | cons t a ih => simp only [List.cons_append, hlps, ih]; omega
theorem lits_append (L a b : List Tm) (m : Nat) : lits L (a ++ b) m = lits L a m ++ lits L b (m + hlps a) := by
  induction a generalizing m with
  | nil => simp [lits, hlps]
  | cons t a ih => simp only [List.cons_append, lits, hlps, ih, Nat.add_assoc]
theorem clss_append (L a b : List Tm) (m : Nat) : clss L (a ++ b) m = clss L a m ++ clss L b (m + hlps a) := by
  induction a generalizing m with
  | nil => simp [clss, hlps]
  | cons t a ih => simp only [List.cons_append, clss, hlps, ih, Nat.add_assoc, List.append_assoc]
theorem lits_len (L : List Tm) : ∀ (ks : List Tm) (m : Nat), (lits L ks m).length = ks.length
  | [], _ => rfl
  | k :: ks, m => by simp only [lits, List.length_cons, lits_len L ks]
theorem take1 {ks : List Tm} {k : Nat} (h : k < ks.length) : ks.take (k + 1) = ks.take k ++ [ks[k]] := List.take_succ_eq_append_getElem h
theorem atss_take {ks : List Tm} {k : Nat} (h : k < ks.length) (l : List Tm) : atss (ks.take (k + 1)) l = ats ks[k] (atss (ks.take k) l) := by rw [take1 h, atss_append]; rfl
theorem hlps_take {ks : List Tm} {k : Nat} (h : k < ks.length) : hlps (ks.take (k + 1)) = hlps (ks.take k) + hlp ks[k] := by rw [take1 h, hlps_append]; simp [hlps]
theorem lits_take (L : List Tm) {ks : List Tm} {k : Nat} (h : k < ks.length) (m : Nat) : lits L (ks.take (k + 1)) m = lits L (ks.take k) m ++ [lit L ks[k] (m + hlps (ks.take k))] := by rw [take1 h, lits_append]; simp [lits]
theorem clss_take (L : List Tm) {ks : List Tm} {k : Nat} (h : k < ks.length) (m : Nat) : clss L (ks.take (k + 1)) m = clss L (ks.take k) m ++ cls L ks[k] (m + hlps (ks.take k)) := by rw [take1 h, clss_append]; simp [clss]
theorem hlps_take_le (ks : List Tm) (k : Nat) : hlps (ks.take k) ≤ hlps ks := by
  have := congrArg hlps (List.take_append_drop k ks)
  rw [hlps_append] at this
  omega
theorem hlp_le : ∀ t : Tm, hlp t ≤ t.size := by
  intro t
  induction t using Tm.ind with
  | h t ih =>
    have hs : ∀ l : List Tm, (∀ k ∈ l, hlp k ≤ k.size) → hlps l ≤ Tm.sizes l := by
      intro l
      induction l with
      | nil => intro _; simp [hlps]
      | cons a l ihl =>
        intro h
        have h1 := h a (by simp)
        have h2 := ihl (fun k hk => h k (by simp [hk]))
        simp only [hlps, Tm.sizes]; omega
    have := hs t.ks ih
    rw [hlp_eq, Tm.size_eq]
    split
    · split <;> omega
    · omega
theorem atss_le : ∀ (l r : List Tm), (∀ k ∈ l, ∀ r : List Tm, (ats k r).length ≤ r.length + k.size) → (atss l r).length ≤ r.length + Tm.sizes l
  | [], r, _ => by simp [atss, Tm.sizes]
  | a :: l, r, h => by
    have h1 := h a (by simp) r
    have h2 := atss_le l (ats a r) (fun k hk => h k (by simp [hk]))
    simp only [atss, Tm.sizes]; omega
theorem ats_le : ∀ (t : Tm) (r : List Tm), (ats t r).length ≤ r.length + t.size := by
  intro t
  induction t using Tm.ind with
  | h t ih =>
    intro r
    have := atss_le t.ks r ih
    have h1 := Tm.size_eq t
    rw [ats_eq]
    split
    · omega
    · split
      · omega
      · simp; omega
theorem cov_append {L : List Tm} (r : List Tm) : ∀ t : Tm, cov L t = true → cov (L ++ r) t = true := by
  intro t
  induction t using Tm.ind with
  | h t ih =>
    intro h
    rw [cov_eq] at *
    split
    · rename_i hj
      rw [hj] at h
      simp only [if_true] at h
      exact (covs_all _ _).2 fun k hk => ih k hk ((covs_all _ _).1 h k hk)
    · rename_i hj
      rw [if_neg hj] at h
      rw [has_append, h]; rfl
theorem ats_more : ∀ (t : Tm) (l : List Tm), ∃ r, ats t l = l ++ r := by
  intro t
  induction t using Tm.ind with
  | h t ih =>
    intro l
    have hs : ∀ (ks l : List Tm), (∀ k ∈ ks, ∀ l : List Tm, ∃ r, ats k l = l ++ r) → ∃ r, atss ks l = l ++ r := by
      intro ks
      induction ks with
      | nil => intro l _; exact ⟨[], by simp [atss]⟩
      | cons a ks ihl =>
        intro l h
        obtain ⟨r, hr⟩ := h a (by simp) l
        obtain ⟨r', hr'⟩ := ihl (l ++ r) (fun k hk => h k (by simp [hk]))
        exact ⟨r ++ r', by simp only [atss]; rw [hr, hr', List.append_assoc]⟩
    rw [ats_eq]
    split
    · exact hs t.ks l ih
    · split
      · exact ⟨[], by simp⟩
      · exact ⟨_, rfl⟩
theorem atss_more : ∀ (ks l : List Tm), ∃ r, atss ks l = l ++ r
  | [], l => ⟨[], by simp [atss]⟩
  | t :: ts, l => by
    obtain ⟨r, hr⟩ := ats_more t l
    obtain ⟨r', hr'⟩ := atss_more ts (l ++ r)
    exact ⟨r ++ r', by simp only [atss]; rw [hr, hr', List.append_assoc]⟩
theorem cov_ats : ∀ (t : Tm) (l : List Tm), cov (ats t l) t = true := by
  intro t
  induction t using Tm.ind with
  | h t ih =>
    intro l
    have hs : ∀ (ks l : List Tm), (∀ k ∈ ks, ∀ l : List Tm, cov (ats k l) k = true) → covs (atss ks l) ks = true := by
      intro ks
      induction ks with
      | nil => intro l _; rfl
      | cons a ks ihl =>
        intro l h
        obtain ⟨r, hr⟩ := atss_more ks (ats a l)
        simp only [atss, covs, Bool.and_eq_true]
        exact ⟨by rw [hr]; exact cov_append r a (h a (by simp) l), ihl _ (fun k hk => h k (by simp [hk]))⟩
    rw [cov_eq, ats_eq]
    split
    · exact hs t.ks l ih
    · split
      · assumption
      · rw [has_append, Bool.or_eq_true]
        right
        unfold has
        simp only [List.any_cons, List.any_nil, Bool.or_false]
        rw [eqT_iff, er_er]
theorem ats_cov : ∀ (t : Tm) (l : List Tm), cov l t = true → ats t l = l := by
  intro t
  induction t using Tm.ind with
  | h t ih =>
    intro l h
    have hs : ∀ (ks : List Tm), (∀ k ∈ ks, ∀ l : List Tm, cov l k = true → ats k l = l) → covs l ks = true → atss ks l = l := by
      intro ks
      induction ks with
      | nil => intro _ _; rfl
      | cons a ks ihl =>
        intro h hc
        simp only [covs, Bool.and_eq_true] at hc
        simp only [atss]
        rw [h a (by simp) l hc.1]
        exact ihl (fun k hk => h k (by simp [hk])) hc.2
    rw [cov_eq] at h
    rw [ats_eq]
    split
    · rename_i hj
      rw [hj] at h
      exact hs t.ks ih (by simpa using h)
    · rename_i hj
      rw [if_neg hj] at h
      rw [if_pos h]
/-- how many clauses -/
theorem cdef_len (op h : Int) (ls : List Int) : (cdef op h ls).length = ls.length + 1 := by
  unfold cdef
  have : (neg0 ls).length = ls.length := by cases ls <;> rfl
  split
  · simp
  · split <;> simp [this]
end Go.Proofs.YtaiachmolkjedaaDoor
