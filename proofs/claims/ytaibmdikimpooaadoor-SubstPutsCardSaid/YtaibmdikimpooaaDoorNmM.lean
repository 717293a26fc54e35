/-
  What bools become, by the table, as plain functions, and what is so of it.
-/
import Derived.Test.YtaibmdikimpooaaDoorNmE
import Derived.Test.YtaibmdikimpooaaDoorNmA
namespace Go.Proofs.YtaibmdikimpooaaDoor
open Go.RowKit

def g0 (l : List Tm) : Tm := l.getD 0 numT
def g1 (l : List Tm) : Tm := l.getD 1 numT
/-- N, of the operation, the term without places, its parts without places, and what they become -/
def nnU (op : Int) (e : Tm) (ks N D : List Tm) : Tm :=
  if op = 18 then g0 D
  else if op = 19 then mkT 19 N
  else if op = 20 then mkT 20 N
  else if op = 21 then mkT 20 [g0 D, g1 N]
  else if op = 23 then notT (leT (g1 ks) (g0 ks))
  else if op = 24 then mkT 19 [leT (g0 ks) (g1 ks), leT (g1 ks) (g0 ks)]
  else if op = 26 then insT (g0 ks) (g1 ks)
  else if op = 25 then insT (oneT (g0 ks)) (g1 ks)
  else if op = 28 then insT (oneT (g0 ks)) (oneT (g1 ks))
  else if op = 27 then mkT 19 [insT (g0 ks) (g1 ks), insT (g1 ks) (g0 ks)]
  else e
/-- D -/
def nnD (op : Int) (e : Tm) (ks N D : List Tm) : Tm :=
  if op = 16 then mkT 17 []
  else if op = 17 then mkT 16 []
  else if op = 18 then g0 N
  else if op = 19 then mkT 20 D
  else if op = 20 then mkT 19 D
  else if op = 21 then mkT 19 [g0 N, g1 D]
  else if op = 23 then leT (g1 ks) (g0 ks)
  else if op = 24 then mkT 20 [notT (leT (g0 ks) (g1 ks)), notT (leT (g1 ks) (g0 ks))]
  else if op = 27 then mkT 20 [notT (insT (g0 ks) (g1 ks)), notT (insT (g1 ks) (g0 ks))]
  else notT (nnU op e ks N D)
def nnS (b : Bool) (op : Int) (e : Tm) (ks N D : List Tm) : Tm := if b = true then nnD op e ks N D else nnU op e ks N D
mutual
/-- what a bool becomes: N for false, D for true -/
def nn : Tm → Bool → Tm
  | .node op nm n _ _ ks, b => nnS b op (.node op nm n none 0 (Tm.ers ks)) (Tm.ers ks) (nns ks false) (nns ks true)
def nns : List Tm → Bool → List Tm
  | [], _ => []
  | t :: ts, b => nn t b :: nns ts b
end
theorem nns_map (b : Bool) : ∀ ks : List Tm, nns ks b = ks.map (fun k => nn k b)
  | [] => rfl
  | k :: ks => by simp only [nns, nns_map b ks, List.map_cons]
theorem nn_eq (t : Tm) (b : Bool) : nn t b = nnS b t.op t.er (t.ks.map Tm.er) (t.ks.map (fun k => nn k false)) (t.ks.map (fun k => nn k true)) := by
  cases t with
  | node op nm n a c ks => rw [nn, nns_map, nns_map, ers_map, er_eq]; rfl
theorem nn_er (t : Tm) : ∀ b, nn t.er b = nn t b := by
  induction t using Tm.ind with
  | h t ih =>
    intro b
    obtain ⟨h1, h2, h3, h4⟩ := er_op t
    rw [nn_eq, nn_eq t, h1, h4, er_er, List.map_map, List.map_map, List.map_map]
    have e1 : t.ks.map ((fun k => nn k false) ∘ Tm.er) = t.ks.map (fun k => nn k false) := List.map_congr_left (fun k hk => ih k hk false)
    have e2 : t.ks.map ((fun k => nn k true) ∘ Tm.er) = t.ks.map (fun k => nn k true) := List.map_congr_left (fun k hk => ih k hk true)
    have e3 : t.ks.map (Tm.er ∘ Tm.er) = t.ks.map Tm.er := List.map_congr_left (fun k _ => er_er k)
    rw [e1, e2, e3]

/-- a right term without a name and a number -/
theorem bare {t : Tm} (j : Nat) (h : t.srt ≠ 0) (ho : t.op = (j : Int)) (hn : (shRow j).name = false) (hb : (shRow j).number = false) : t.nm = ⟨#[]⟩ ∧ t.n = 0 := by
  rw [srt_eq] at h
  unfold sortOf at h
  have hj : t.op.toNat = j := by omega
  rw [hj] at h
  by_cases h1 : 1 ≤ t.op ∧ t.op ≤ 28
  · rw [if_pos h1] at h
    by_cases h2 : (namedB (shRow j) t.nm && ((shRow j).number || decide (t.n = 0)) && holdsB (shRow j) (t.ks.map Tm.srt)) = true
    · simp only [Bool.and_eq_true, hb, Bool.false_or, decide_eq_true_eq] at h2
      refine ⟨?_, h2.1.2⟩
      have h3 := h2.1.1
      unfold namedB at h3
      rw [hn] at h3
      simp only [Bool.false_eq_true, if_false] at h3
      have h4 : t.nm.toList = [] := List.isEmpty_iff.1 h3
      rw [ByteArray.toList_eq] at h4
      exact ByteArray.ext (Array.toList_eq_nil_iff.1 h4)
    · rw [if_neg h2] at h; exact absurd rfl h
  · rw [if_neg h1] at h; exact absurd rfl h

/-- the forms of right bools -/
theorem bool_ind {P : Tm → Prop}
    (h15 : ∀ t : Tm, t.srt = 4 → t.op = 15 → t.ks = [] → P t)
    (h16 : ∀ t : Tm, t.srt = 4 → t.op = 16 → t.ks = [] → t.nm = ⟨#[]⟩ ∧ t.n = 0 → P t)
    (h17 : ∀ t : Tm, t.srt = 4 → t.op = 17 → t.ks = [] → t.nm = ⟨#[]⟩ ∧ t.n = 0 → P t)
    (h18 : ∀ t u : Tm, t.srt = 4 → t.op = 18 → t.ks = [u] → t.nm = ⟨#[]⟩ ∧ t.n = 0 → u.srt = 4 → P u → P t)
    (h19 : ∀ t : Tm, t.srt = 4 → t.op = 19 → t.nm = ⟨#[]⟩ ∧ t.n = 0 → (∀ k ∈ t.ks, k.srt = 4) → (∀ k ∈ t.ks, P k) → P t)
    (h20 : ∀ t : Tm, t.srt = 4 → t.op = 20 → t.nm = ⟨#[]⟩ ∧ t.n = 0 → (∀ k ∈ t.ks, k.srt = 4) → (∀ k ∈ t.ks, P k) → P t)
    (h21 : ∀ t u v : Tm, t.srt = 4 → t.op = 21 → t.ks = [u, v] → t.nm = ⟨#[]⟩ ∧ t.n = 0 → u.srt = 4 → v.srt = 4 → P u → P v → P t)
    (h22 : ∀ t u v : Tm, t.srt = 4 → t.op = 22 → t.ks = [u, v] → t.nm = ⟨#[]⟩ ∧ t.n = 0 → u.srt = 1 → v.srt = 1 → P t)
    (h23 : ∀ t u v : Tm, t.srt = 4 → t.op = 23 → t.ks = [u, v] → u.srt = 1 → v.srt = 1 → P t)
    (h24 : ∀ t u v : Tm, t.srt = 4 → t.op = 24 → t.ks = [u, v] → u.srt = 1 → v.srt = 1 → P t)
    (h25 : ∀ t u v : Tm, t.srt = 4 → t.op = 25 → t.ks = [u, v] → u.srt = 3 → v.srt = 2 → P t)
    (h26 : ∀ t u v : Tm, t.srt = 4 → t.op = 26 → t.ks = [u, v] → u.srt = 2 → v.srt = 2 → P t)
    (h27 : ∀ t u v : Tm, t.srt = 4 → t.op = 27 → t.ks = [u, v] → u.srt = 2 → v.srt = 2 → P t)
    (h28 : ∀ t u v : Tm, t.srt = 4 → t.op = 28 → t.ks = [u, v] → u.srt = 3 → v.srt = 3 → P t) : ∀ t : Tm, t.srt = 4 → P t := by
  intro t
  induction t using Tm.ind with
  | h t ih =>
    intro h
    have hne : t.srt ≠ 0 := fun e => by rw [h] at e; exact absurd e (by decide)
    obtain ⟨j, hj, j1, j2, hs, -, -⟩ := nsrt_form hne
    have hsj : (shRow j).sort = 4 := hs.symm.trans h
    have hj15 : 15 ≤ j := by
      have : ∀ i : Nat, i < 29 → (shRow i).sort = 4 → 15 ≤ i := by decide
      exact this j (Nat.lt_succ_of_le j2) hsj
    obtain rfl | rfl | rfl | rfl | rfl | rfl | rfl | rfl | rfl | rfl | rfl | rfl | rfl | rfl : j = 15 ∨ j = 16 ∨ j = 17 ∨ j = 18 ∨ j = 19 ∨ j = 20 ∨ j = 21 ∨ j = 22 ∨ j = 23 ∨ j = 24 ∨ j = 25 ∨ j = 26 ∨ j = 27 ∨ j = 28 := by
      have : ∀ i : Nat, i < 29 → 15 ≤ i → i = 15 ∨ i = 16 ∨ i = 17 ∨ i = 18 ∨ i = 19 ∨ i = 20 ∨ i = 21 ∨ i = 22 ∨ i = 23 ∨ i = 24 ∨ i = 25 ∨ i = 26 ∨ i = 27 ∨ i = 28 := by decide
      exact this j (Nat.lt_succ_of_le j2) hj15
    · exact h15 t h hj (nform0 15 hne hj rfl rfl).1
    · exact h16 t h hj (nform0 16 hne hj rfl rfl).1 (bare 16 hne hj rfl rfl)
    · exact h17 t h hj (nform0 17 hne hj rfl rfl).1 (bare 17 hne hj rfl rfl)
    · obtain ⟨u, hk, hu, -⟩ := nform1 18 hne hj rfl rfl
      exact h18 t u h hj hk (bare 18 hne hj rfl rfl) hu (ih u (by simp [hk]) hu)
    · obtain ⟨hk, -⟩ := nformM 19 hne hj rfl
      exact h19 t h hj (bare 19 hne hj rfl rfl) hk (fun k hk' => ih k hk' (hk k hk'))
    · obtain ⟨hk, -⟩ := nformM 20 hne hj rfl
      exact h20 t h hj (bare 20 hne hj rfl rfl) hk (fun k hk' => ih k hk' (hk k hk'))
    · obtain ⟨u, v, hk, hu, hv, -⟩ := nform2 21 hne hj rfl rfl
      exact h21 t u v h hj hk (bare 21 hne hj rfl rfl) hu hv (ih u (by simp [hk]) hu) (ih v (by simp [hk]) hv)
    · obtain ⟨u, v, hk, hu, hv, -⟩ := nform2 22 hne hj rfl rfl
      exact h22 t u v h hj hk (bare 22 hne hj rfl rfl) hu hv
    · obtain ⟨u, v, hk, hu, hv, -⟩ := nform2 23 hne hj rfl rfl
      exact h23 t u v h hj hk hu hv
    · obtain ⟨u, v, hk, hu, hv, -⟩ := nform2 24 hne hj rfl rfl
      exact h24 t u v h hj hk hu hv
    · obtain ⟨u, v, hk, hu, hv, -⟩ := nform2 25 hne hj rfl rfl
      exact h25 t u v h hj hk hu hv
    · obtain ⟨u, v, hk, hu, hv, -⟩ := nform2 26 hne hj rfl rfl
      exact h26 t u v h hj hk hu hv
    · obtain ⟨u, v, hk, hu, hv, -⟩ := nform2 27 hne hj rfl rfl
      exact h27 t u v h hj hk hu hv
    · obtain ⟨u, v, hk, hu, hv, -⟩ := nform2 28 hne hj rfl rfl
      exact h28 t u v h hj hk hu hv

/- what is made, form by form -/
theorem nn15 {t : Tm} (ho : t.op = 15) (b : Bool) : nn t b = if b = true then notT t.er else t.er := by rw [nn_eq, ho]; cases b <;> rfl
theorem nn16 {t : Tm} (ho : t.op = 16) (b : Bool) : nn t b = if b = true then mkT 17 [] else t.er := by rw [nn_eq, ho]; cases b <;> rfl
theorem nn17 {t : Tm} (ho : t.op = 17) (b : Bool) : nn t b = if b = true then mkT 16 [] else t.er := by rw [nn_eq, ho]; cases b <;> rfl
theorem nn18 {t u : Tm} (ho : t.op = 18) (hk : t.ks = [u]) (b : Bool) : nn t b = nn u (!b) := by rw [nn_eq, ho, hk]; cases b <;> rfl
theorem nn19 {t : Tm} (ho : t.op = 19) (b : Bool) : nn t b = mkT (if b = true then 20 else 19) (t.ks.map (fun k => nn k b)) := by rw [nn_eq, ho]; cases b <;> rfl
theorem nn20 {t : Tm} (ho : t.op = 20) (b : Bool) : nn t b = mkT (if b = true then 19 else 20) (t.ks.map (fun k => nn k b)) := by rw [nn_eq, ho]; cases b <;> rfl
theorem nn21 {t u v : Tm} (ho : t.op = 21) (hk : t.ks = [u, v]) (b : Bool) : nn t b = mkT (if b = true then 19 else 20) [nn u (!b), nn v b] := by rw [nn_eq, ho, hk]; cases b <;> rfl
theorem nn22 {t : Tm} (ho : t.op = 22) (b : Bool) : nn t b = if b = true then notT t.er else t.er := by rw [nn_eq, ho]; cases b <;> rfl
theorem nn23 {t u v : Tm} (ho : t.op = 23) (hk : t.ks = [u, v]) (b : Bool) : nn t b = if b = true then leT v.er u.er else notT (leT v.er u.er) := by rw [nn_eq, ho, hk]; cases b <;> rfl
theorem nn24 {t u v : Tm} (ho : t.op = 24) (hk : t.ks = [u, v]) (b : Bool) : nn t b = if b = true then mkT 20 [notT (leT u.er v.er), notT (leT v.er u.er)] else mkT 19 [leT u.er v.er, leT v.er u.er] := by rw [nn_eq, ho, hk]; cases b <;> rfl
theorem nn25 {t u v : Tm} (ho : t.op = 25) (hk : t.ks = [u, v]) (b : Bool) : nn t b = if b = true then notT (insT (oneT u.er) v.er) else insT (oneT u.er) v.er := by rw [nn_eq, ho, hk]; cases b <;> rfl
theorem nn26 {t u v : Tm} (ho : t.op = 26) (hk : t.ks = [u, v]) (b : Bool) : nn t b = if b = true then notT (insT u.er v.er) else insT u.er v.er := by rw [nn_eq, ho, hk]; cases b <;> rfl
theorem nn27 {t u v : Tm} (ho : t.op = 27) (hk : t.ks = [u, v]) (b : Bool) : nn t b = if b = true then mkT 20 [notT (insT u.er v.er), notT (insT v.er u.er)] else mkT 19 [insT u.er v.er, insT v.er u.er] := by rw [nn_eq, ho, hk]; cases b <;> rfl
theorem nn28 {t u v : Tm} (ho : t.op = 28) (hk : t.ks = [u, v]) (b : Bool) : nn t b = if b = true then notT (insT (oneT u.er) (oneT v.er)) else insT (oneT u.er) (oneT v.er) := by rw [nn_eq, ho, hk]; cases b <;> rfl
theorem nn_not (u : Tm) (b : Bool) : nn (notT u) b = nn u (!b) := nn18 rfl rfl b
theorem nn_and (l : List Tm) (b : Bool) : nn (mkT 19 l) b = mkT (if b = true then 20 else 19) (l.map (fun k => nn k b)) := nn19 rfl b
theorem nn_or (l : List Tm) (b : Bool) : nn (mkT 20 l) b = mkT (if b = true then 19 else 20) (l.map (fun k => nn k b)) := nn20 rfl b
theorem er_le (u v : Tm) : (leT u v).er = leT u.er v.er := er_mk 22 _
theorem er_ins (u v : Tm) : (insT u v).er = insT u.er v.er := by
  unfold insT
  rw [er_le, er_mk, List.map_cons, er_mk]
  rfl
theorem er_one (u : Tm) : (oneT u).er = oneT u.er := er_mk 10 _
theorem nn_le (u v : Tm) (b : Bool) : nn (leT u v) b = if b = true then notT (leT u.er v.er) else leT u.er v.er := by rw [nn22 rfl, er_le]
theorem nn_ins (u v : Tm) (b : Bool) : nn (insT u v) b = if b = true then notT (insT u.er v.er) else insT u.er v.er := by rw [nn22 rfl, er_ins]
theorem nn_tru (b : Bool) : nn (mkT 16 []) b = if b = true then mkT 17 [] else mkT 16 [] := nn16 rfl b
theorem nn_fal (b : Bool) : nn (mkT 17 []) b = if b = true then mkT 16 [] else mkT 17 [] := nn17 rfl b
theorem bare_er {t : Tm} (h : t.nm = ⟨#[]⟩ ∧ t.n = 0) : t.er = mkT t.op (t.ks.map Tm.er) := by rw [er_eq, h.1, h.2]; rfl

/-- made again, it is what it was, or turned -/
theorem nn_nn : ∀ t : Tm, t.srt = 4 → ∀ b c, nn (nn t b) c = nn t (b ^^ c) := by
  refine bool_ind ?_ ?_ ?_ ?_ ?_ ?_ ?_ ?_ ?_ ?_ ?_ ?_ ?_ ?_
  · intro t _ ho _ b c
    rw [nn15 ho b]
    cases b
    · rw [if_neg (by decide), nn_er, Bool.false_xor]
    · rw [if_pos rfl, nn_not, nn_er, Bool.true_xor]
  · intro t _ ho hk hb b c
    have e := bare_er hb
    rw [ho, hk] at e
    rw [nn16 ho b, nn16 ho, e]
    cases b <;> cases c <;> simp [nn_tru, nn_fal]
  · intro t _ ho hk hb b c
    have e := bare_er hb
    rw [ho, hk] at e
    rw [nn17 ho b, nn17 ho, e]
    cases b <;> cases c <;> simp [nn_tru, nn_fal]
  · intro t u _ ho hk _ _ ih b c
    rw [nn18 ho hk, nn18 ho hk, ih]
    cases b <;> cases c <;> rfl
  · intro t _ ho _ _ ih b c
    rw [nn19 ho b, nn19 ho]
    have e : ∀ c, (t.ks.map (fun k => nn k b)).map (fun k => nn k c) = t.ks.map (fun k => nn k (b ^^ c)) := fun c => by
      rw [List.map_map]; exact List.map_congr_left (fun k hk => ih k hk b c)
    cases b
    · rw [if_neg (by decide), nn_and, e, Bool.false_xor]
    · rw [if_pos rfl, nn_or, e]; cases c <;> rfl
  · intro t _ ho _ _ ih b c
    rw [nn20 ho b, nn20 ho]
    have e : ∀ c, (t.ks.map (fun k => nn k b)).map (fun k => nn k c) = t.ks.map (fun k => nn k (b ^^ c)) := fun c => by
      rw [List.map_map]; exact List.map_congr_left (fun k hk => ih k hk b c)
    cases b
    · rw [if_neg (by decide), nn_or, e, Bool.false_xor]
    · rw [if_pos rfl, nn_and, e]; cases c <;> rfl
  · intro t u v _ ho hk _ _ _ ihu ihv b c
    rw [nn21 ho hk b, nn21 ho hk]
    cases b
    · rw [if_neg (by decide), nn_or]; simp only [List.map_cons, List.map_nil, ihu, ihv]; cases c <;> rfl
    · rw [if_pos rfl, nn_and]; simp only [List.map_cons, List.map_nil, ihu, ihv]; cases c <;> rfl
  · intro t u v _ ho _ _ _ _ b c
    rw [nn22 ho b]
    cases b
    · rw [if_neg (by decide), nn_er, Bool.false_xor]
    · rw [if_pos rfl, nn_not, nn_er, Bool.true_xor]
  · intro t u v _ ho hk _ _ b c
    rw [nn23 ho hk b, nn23 ho hk]
    cases b <;> cases c <;> simp [nn_not, nn_le, er_er]
  · intro t u v _ ho hk _ _ b c
    rw [nn24 ho hk b, nn24 ho hk]
    cases b <;> cases c <;> simp [nn_and, nn_or, nn_not, nn_le, er_er]
  · intro t u v _ ho hk _ _ b c
    rw [nn25 ho hk b, nn25 ho hk]
    cases b <;> cases c <;> simp [nn_not, nn_ins, er_er, er_one]
  · intro t u v _ ho hk _ _ b c
    rw [nn26 ho hk b, nn26 ho hk]
    cases b <;> cases c <;> simp [nn_not, nn_ins, er_er]
  · intro t u v _ ho hk _ _ b c
    rw [nn27 ho hk b, nn27 ho hk]
    cases b <;> cases c <;> simp [nn_and, nn_or, nn_not, nn_ins, er_er]
  · intro t u v _ ho hk _ _ b c
    rw [nn28 ho hk b, nn28 ho hk]
    cases b <;> cases c <;> simp [nn_not, nn_ins, er_er, er_one]

/- sorts -/
theorem mk_srt (op : Int) (l : List Tm) : (mkT op l).srt = sortOf op ⟨#[]⟩ 0 (l.map Tm.srt) := by rw [srt_eq]; rfl
theorem not_srt {u : Tm} (h : u.srt = 4) : (notT u).srt = 4 := by unfold notT; rw [mk_srt]; simp only [List.map_cons, List.map_nil, h]; kernel_rfl
theorem le_srt {u v : Tm} (h : u.srt = 1) (h' : v.srt = 1) : (leT u v).srt = 4 := by unfold leT; rw [mk_srt]; simp only [List.map_cons, List.map_nil, h, h']; kernel_rfl
theorem one_srt {u : Tm} (h : u.srt = 3) : (oneT u).srt = 2 := by unfold oneT; rw [mk_srt]; simp only [List.map_cons, List.map_nil, h]; kernel_rfl
theorem ins_srt {u v : Tm} (h : u.srt = 2) (h' : v.srt = 2) : (insT u v).srt = 4 := by
  have e : (mkT 13 [u, v]).srt = 2 := by rw [mk_srt]; simp only [List.map_cons, List.map_nil, h, h']; kernel_rfl
  have e' : (mkT 3 [mkT 13 [u, v]]).srt = 1 := by rw [mk_srt]; simp only [List.map_cons, List.map_nil, e]; kernel_rfl
  exact le_srt e' (by unfold numT; rw [mk_srt]; kernel_rfl)
theorem many_srt {op : Int} (ho : op = 19 ∨ op = 20) {l : List Tm} (h : ∀ k ∈ l, k.srt = 4) : (mkT op l).srt = 4 := by
  have hh : holdsB (shRow 19) (l.map Tm.srt) = true := by
    refine holdsB_all (.inl rfl) ?_
    rw [List.all_eq_true]
    intro i hi
    rw [List.mem_range, List.length_map] at hi
    rw [getD_map_srt l i hi, h _ (List.getElem_mem _)]
    rfl
  rw [mk_srt]
  rcases ho with rfl | rfl
  · show (if namedB (shRow 19) ⟨#[]⟩ && ((shRow 19).number || decide ((0 : Int) = 0)) && holdsB (shRow 19) (l.map Tm.srt) then (shRow 19).sort else 0) = 4
    rw [hh]; kernel_rfl
  · show (if namedB (shRow 19) ⟨#[]⟩ && ((shRow 19).number || decide ((0 : Int) = 0)) && holdsB (shRow 19) (l.map Tm.srt) then (shRow 19).sort else 0) = 4
    rw [hh]; kernel_rfl
theorem nn_srt : ∀ t : Tm, t.srt = 4 → ∀ b, (nn t b).srt = 4 := by
  refine bool_ind ?_ ?_ ?_ ?_ ?_ ?_ ?_ ?_ ?_ ?_ ?_ ?_ ?_ ?_
  · intro t h ho _ b
    rw [nn15 ho b]
    cases b
    · rw [if_neg (by decide), er_srt]; exact h
    · rw [if_pos rfl]; exact not_srt (by rw [er_srt]; exact h)
  · intro t h ho _ _ b
    rw [nn16 ho b]
    cases b
    · rw [if_neg (by decide), er_srt]; exact h
    · rw [if_pos rfl, mk_srt]; kernel_rfl
  · intro t h ho _ _ b
    rw [nn17 ho b]
    cases b
    · rw [if_neg (by decide), er_srt]; exact h
    · rw [if_pos rfl, mk_srt]; kernel_rfl
  · intro t u _ ho hk _ _ ih b
    rw [nn18 ho hk]; exact ih _
  · intro t _ ho _ _ ih b
    rw [nn19 ho]
    refine many_srt (by cases b <;> simp) (fun k hk => ?_)
    obtain ⟨q, hq, rfl⟩ := List.mem_map.1 hk
    exact ih q hq b
  · intro t _ ho _ _ ih b
    rw [nn20 ho]
    refine many_srt (by cases b <;> simp) (fun k hk => ?_)
    obtain ⟨q, hq, rfl⟩ := List.mem_map.1 hk
    exact ih q hq b
  · intro t u v _ ho hk _ _ _ ihu ihv b
    rw [nn21 ho hk]
    refine many_srt (by cases b <;> simp) (fun k hk => ?_)
    simp only [List.mem_cons, List.not_mem_nil, or_false] at hk
    rcases hk with rfl | rfl
    · exact ihu _
    · exact ihv _
  · intro t u v h ho _ _ _ _ b
    rw [nn22 ho b]
    cases b
    · rw [if_neg (by decide), er_srt]; exact h
    · rw [if_pos rfl]; exact not_srt (by rw [er_srt]; exact h)
  · intro t u v _ ho hk hu hv b
    have e : (leT v.er u.er).srt = 4 := le_srt (by rw [er_srt]; exact hv) (by rw [er_srt]; exact hu)
    rw [nn23 ho hk]
    cases b
    · exact not_srt e
    · exact e
  · intro t u v _ ho hk hu hv b
    have e : (leT v.er u.er).srt = 4 := le_srt (by rw [er_srt]; exact hv) (by rw [er_srt]; exact hu)
    have e' : (leT u.er v.er).srt = 4 := le_srt (by rw [er_srt]; exact hu) (by rw [er_srt]; exact hv)
    rw [nn24 ho hk]
    cases b
    · refine many_srt (.inl rfl) (fun k hk => ?_)
      simp only [List.mem_cons, List.not_mem_nil, or_false] at hk
      rcases hk with rfl | rfl
      · exact e'
      · exact e
    · refine many_srt (.inr rfl) (fun k hk => ?_)
      simp only [List.mem_cons, List.not_mem_nil, or_false] at hk
      rcases hk with rfl | rfl
      · exact not_srt e'
      · exact not_srt e
  · intro t u v _ ho hk hu hv b
    have e : (insT (oneT u.er) v.er).srt = 4 := ins_srt (one_srt (by rw [er_srt]; exact hu)) (by rw [er_srt]; exact hv)
    rw [nn25 ho hk]
    cases b
    · exact e
    · exact not_srt e
  · intro t u v _ ho hk hu hv b
    have e : (insT u.er v.er).srt = 4 := ins_srt (by rw [er_srt]; exact hu) (by rw [er_srt]; exact hv)
    rw [nn26 ho hk]
    cases b
    · exact e
    · exact not_srt e
  · intro t u v _ ho hk hu hv b
    have e : (insT u.er v.er).srt = 4 := ins_srt (by rw [er_srt]; exact hu) (by rw [er_srt]; exact hv)
    have e' : (insT v.er u.er).srt = 4 := ins_srt (by rw [er_srt]; exact hv) (by rw [er_srt]; exact hu)
    rw [nn27 ho hk]
    cases b
    · refine many_srt (.inl rfl) (fun k hk => ?_)
      simp only [List.mem_cons, List.not_mem_nil, or_false] at hk
      rcases hk with rfl | rfl
      · exact e
      · exact e'
    · refine many_srt (.inr rfl) (fun k hk => ?_)
      simp only [List.mem_cons, List.not_mem_nil, or_false] at hk
      rcases hk with rfl | rfl
      · exact not_srt e
      · exact not_srt e'
  · intro t u v _ ho hk hu hv b
    have e : (insT (oneT u.er) (oneT v.er)).srt = 4 := ins_srt (one_srt (by rw [er_srt]; exact hu)) (one_srt (by rw [er_srt]; exact hv))
    rw [nn28 ho hk]
    cases b
    · exact e
    · exact not_srt e

/- depth -/
theorem deeps_map_le {f : Tm → Tm} : ∀ {ks : List Tm}, (∀ k ∈ ks, (f k).deep ≤ k.deep + 4) → Tm.deeps (ks.map f) ≤ Tm.deeps ks + 4
  | [], _ => Nat.zero_le _
  | k :: ks, h => by
    have h1 := h k (by simp)
    have h2 := deeps_map_le (ks := ks) (fun q hq => h q (by simp [hq]))
    simp only [List.map_cons, Tm.deeps]
    omega
theorem mk_deep (op : Int) (l : List Tm) : (mkT op l).deep = 1 + Tm.deeps l := Tm.deep_eq _
theorem nn_deep : ∀ t : Tm, t.srt = 4 → ∀ b, (nn t b).deep ≤ t.deep + 4 := by
  refine bool_ind ?_ ?_ ?_ ?_ ?_ ?_ ?_ ?_ ?_ ?_ ?_ ?_ ?_ ?_
  · intro t h ho _ b
    rw [nn15 ho b]
    cases b <;> simp [notT, mk_deep, Tm.deeps, er_deep] <;> omega
  · intro t h ho _ _ b
    rw [nn16 ho b]
    cases b <;> simp [mk_deep, Tm.deeps, er_deep] <;> omega
  · intro t h ho _ _ b
    rw [nn17 ho b]
    cases b <;> simp [mk_deep, Tm.deeps, er_deep] <;> omega
  · intro t u _ ho hk _ _ ih b
    rw [nn18 ho hk, Tm.deep_eq t, hk]
    have := ih (!b)
    simp only [Tm.deeps]; omega
  · intro t _ ho _ _ ih b
    rw [nn19 ho, Tm.deep_eq t, mk_deep]
    have := deeps_map_le (f := fun k => nn k b) (fun k hk => ih k hk b)
    omega
  · intro t _ ho _ _ ih b
    rw [nn20 ho, Tm.deep_eq t, mk_deep]
    have := deeps_map_le (f := fun k => nn k b) (fun k hk => ih k hk b)
    omega
  · intro t u v _ ho hk _ _ _ ihu ihv b
    rw [nn21 ho hk, Tm.deep_eq t, mk_deep, hk]
    have := ihu (!b)
    have := ihv b
    simp only [Tm.deeps]; omega
  · intro t u v h ho _ _ _ _ b
    rw [nn22 ho b]
    cases b <;> simp [notT, mk_deep, Tm.deeps, er_deep] <;> omega
  · intro t u v _ ho hk _ _ b
    rw [nn23 ho hk, Tm.deep_eq t, hk]
    cases b <;> simp [notT, leT, mk_deep, Tm.deeps, er_deep] <;> omega
  · intro t u v _ ho hk _ _ b
    rw [nn24 ho hk, Tm.deep_eq t, hk]
    cases b <;> simp [notT, leT, mk_deep, Tm.deeps, er_deep] <;> omega
  · intro t u v _ ho hk _ _ b
    rw [nn25 ho hk, Tm.deep_eq t, hk]
    cases b <;> simp [notT, leT, insT, oneT, numT, mk_deep, Tm.deeps, er_deep] <;> omega
  · intro t u v _ ho hk _ _ b
    rw [nn26 ho hk, Tm.deep_eq t, hk]
    cases b <;> simp [notT, leT, insT, numT, mk_deep, Tm.deeps, er_deep] <;> omega
  · intro t u v _ ho hk _ _ b
    rw [nn27 ho hk, Tm.deep_eq t, hk]
    cases b <;> simp [notT, leT, insT, numT, mk_deep, Tm.deeps, er_deep] <;> omega
  · intro t u v _ ho hk _ _ b
    rw [nn28 ho hk, Tm.deep_eq t, hk]
    cases b <;> simp [notT, leT, insT, oneT, numT, mk_deep, Tm.deeps, er_deep] <;> omega

/- names -/
theorem mk_vars (op : Int) (l : List Tm) (h : (shRow op.toNat).name = false) : (mkT op l).vars = Tm.varss l := by rw [vars_eq]; show (if (shRow op.toNat).name then _ else _) ++ _ = _; rw [h]; rfl
theorem not_vars (u : Tm) : (notT u).vars = u.vars := by unfold notT; rw [mk_vars 18 _ rfl]; simp [Tm.varss]
theorem one_vars (u : Tm) : (oneT u).vars = u.vars := by unfold oneT; rw [mk_vars 10 _ rfl]; simp [Tm.varss]
theorem le_vars (u v : Tm) : (leT u v).vars = u.vars ++ v.vars := by unfold leT; rw [mk_vars 22 _ rfl]; simp [Tm.varss]
theorem ins_vars (u v : Tm) : (insT u v).vars = u.vars ++ v.vars := by
  unfold insT; rw [le_vars, mk_vars 3 _ rfl]; simp only [Tm.varss]; rw [mk_vars 13 _ rfl]; unfold numT; rw [mk_vars 1 _ rfl]; simp [Tm.varss]
theorem nn_vars (x : ByteArray × Int) : ∀ t : Tm, t.srt = 4 → ∀ b, x ∈ (nn t b).vars ↔ x ∈ t.vars := by
  have two : ∀ {t u v : Tm} (j : Nat), t.op = (j : Int) → (shRow j).name = false → t.ks = [u, v] → t.vars = u.vars ++ v.vars := by
    intro t u v j ho hn hk
    rw [vars_eq, hk]
    have : t.op.toNat = j := by omega
    rw [this, hn]; simp [Tm.varss]
  have all : ∀ {t : Tm} (j : Nat), t.op = (j : Int) → (shRow j).name = false → t.vars = Tm.varss t.ks := by
    intro t j ho hn
    rw [vars_eq]
    have : t.op.toNat = j := by omega
    rw [this, hn]; rfl
  have many : ∀ (ks : List Tm) (b : Bool), (∀ k ∈ ks, ∀ b, x ∈ (nn k b).vars ↔ x ∈ k.vars) → (x ∈ Tm.varss (ks.map (fun k => nn k b)) ↔ x ∈ Tm.varss ks) := by
    intro ks b ih
    rw [nvarss_mem, nvarss_mem]
    constructor
    · rintro ⟨k, hk, hx⟩
      obtain ⟨q, hq, rfl⟩ := List.mem_map.1 hk
      exact ⟨q, hq, (ih q hq b).1 hx⟩
    · rintro ⟨k, hk, hx⟩
      exact ⟨_, List.mem_map.2 ⟨k, hk, rfl⟩, (ih k hk b).2 hx⟩
  refine bool_ind ?_ ?_ ?_ ?_ ?_ ?_ ?_ ?_ ?_ ?_ ?_ ?_ ?_ ?_
  · intro t h ho _ b
    rw [nn15 ho b]
    cases b <;> simp [not_vars, er_vars]
  · intro t h ho hk _ b
    rw [nn16 ho b, all 16 ho rfl, hk]
    cases b <;> simp [er_vars, all 16 ho rfl, hk, Tm.varss, mk_vars 17 _ rfl]
  · intro t h ho hk _ b
    rw [nn17 ho b, all 17 ho rfl, hk]
    cases b <;> simp [er_vars, all 17 ho rfl, hk, Tm.varss, mk_vars 16 _ rfl]
  · intro t u _ ho hk _ _ ih b
    rw [nn18 ho hk, all 18 ho rfl, hk, ih]; simp [Tm.varss]
  · intro t _ ho _ _ ih b
    rw [nn19 ho, all 19 ho rfl, mk_vars _ _ (by cases b <;> rfl), many t.ks b ih]
  · intro t _ ho _ _ ih b
    rw [nn20 ho, all 20 ho rfl, mk_vars _ _ (by cases b <;> rfl), many t.ks b ih]
  · intro t u v _ ho hk _ _ _ ihu ihv b
    rw [nn21 ho hk, two 21 ho rfl hk, mk_vars _ _ (by cases b <;> rfl)]
    simp [Tm.varss, ihu, ihv]
  · intro t u v h ho _ _ _ _ b
    rw [nn22 ho b]
    cases b <;> simp [not_vars, er_vars]
  · intro t u v _ ho hk _ _ b
    rw [nn23 ho hk, two 23 ho rfl hk]
    cases b <;> simp [not_vars, le_vars, er_vars, or_comm]
  · intro t u v _ ho hk _ _ b
    rw [nn24 ho hk, two 24 ho rfl hk]
    cases b <;> simp [not_vars, le_vars, er_vars, mk_vars 19 _ rfl, mk_vars 20 _ rfl, Tm.varss] <;> grind
  · intro t u v _ ho hk _ _ b
    rw [nn25 ho hk, two 25 ho rfl hk]
    cases b <;> simp [not_vars, ins_vars, one_vars, er_vars]
  · intro t u v _ ho hk _ _ b
    rw [nn26 ho hk, two 26 ho rfl hk]
    cases b <;> simp [not_vars, ins_vars, er_vars]
  · intro t u v _ ho hk _ _ b
    rw [nn27 ho hk, two 27 ho rfl hk]
    cases b <;> simp [not_vars, ins_vars, er_vars, mk_vars 19 _ rfl, mk_vars 20 _ rfl, Tm.varss] <;> grind
  · intro t u v _ ho hk _ _ b
    rw [nn28 ho hk, two 28 ho rfl hk]
    cases b <;> simp [not_vars, ins_vars, one_vars, er_vars]

/- few operations -/
mutual
def plB : Tm → Bool
  | .node op _ _ _ _ ks => if op = 15 ∨ op = 22 ∨ op = 16 ∨ op = 17 then true else if op = 18 then decide ((g0 ks).op = 15) || decide ((g0 ks).op = 22) else if op = 19 ∨ op = 20 then plBs ks else false
def plBs : List Tm → Bool
  | [] => true
  | t :: ts => plB t && plBs ts
end
theorem plBs_all : ∀ ks : List Tm, plBs ks = ks.all plB
  | [] => rfl
  | k :: ks => by simp only [plBs, plBs_all ks, List.all_cons]
theorem plB_eq (t : Tm) : plB t = if t.op = 15 ∨ t.op = 22 ∨ t.op = 16 ∨ t.op = 17 then true else if t.op = 18 then decide ((g0 t.ks).op = 15) || decide ((g0 t.ks).op = 22) else if t.op = 19 ∨ t.op = 20 then t.ks.all plB else false := by
  cases t with
  | node op nm n a c ks => rw [plB, plBs_all]; rfl
theorem g0_er (ks : List Tm) : (g0 (ks.map Tm.er)).op = (g0 ks).op := by
  cases ks with
  | nil => rfl
  | cons k ks => exact (er_op k).1
theorem plB_er (t : Tm) : plB t.er = plB t := by
  induction t using Tm.ind with
  | h t ih =>
    obtain ⟨h1, -, -, h4⟩ := er_op t
    have e : (t.ks.map Tm.er).all plB = t.ks.all plB := by
      rw [List.all_map]
      rw [Bool.eq_iff_iff, List.all_eq_true, List.all_eq_true]
      exact ⟨fun h k hk => by rw [← ih k hk]; exact h k hk, fun h k hk => by show plB k.er = true; rw [ih k hk]; exact h k hk⟩
    rw [plB_eq, plB_eq t, h1, h4, g0_er, e]
theorem pl_mk (op : Int) (ho : op = 19 ∨ op = 20) (l : List Tm) (h : ∀ k ∈ l, plB k = true) : plB (mkT op l) = true := by
  rw [plB_eq]
  show (if op = 15 ∨ op = 22 ∨ op = 16 ∨ op = 17 then true else if op = 18 then _ else if op = 19 ∨ op = 20 then l.all plB else false) = true
  rw [if_neg (by omega), if_neg (by omega), if_pos ho, List.all_eq_true]
  exact h
theorem pl_le (u v : Tm) : plB (leT u v) = true := by rw [plB_eq]; rfl
theorem pl_ins (u v : Tm) : plB (insT u v) = true := pl_le _ _
theorem pl_not {u : Tm} (h : u.op = 15 ∨ u.op = 22) : plB (notT u) = true := by
  rw [plB_eq]
  show (decide (u.op = 15) || decide (u.op = 22)) = true
  simpa using h
theorem nn_pl : ∀ t : Tm, t.srt = 4 → ∀ b, plB (nn t b) = true := by
  have two : ∀ (op : Int) (u v : Tm), op = 19 ∨ op = 20 → plB u = true → plB v = true → plB (mkT op [u, v]) = true := fun op u v ho hu hv => pl_mk op ho _ (fun k hk => by
    simp only [List.mem_cons, List.not_mem_nil, or_false] at hk
    rcases hk with rfl | rfl
    · exact hu
    · exact hv)
  have lf : ∀ t : Tm, t.op = 15 ∨ t.op = 22 ∨ t.op = 16 ∨ t.op = 17 → plB t = true := fun t h => by rw [plB_eq, if_pos h]
  refine bool_ind ?_ ?_ ?_ ?_ ?_ ?_ ?_ ?_ ?_ ?_ ?_ ?_ ?_ ?_
  · intro t h ho _ b
    rw [nn15 ho b]
    cases b
    · exact lf _ (by rw [if_neg (by decide), (er_op t).1]; exact .inl ho)
    · exact pl_not (by rw [(er_op t).1]; exact .inl ho)
  · intro t h ho hk _ b
    rw [nn16 ho b]
    cases b
    · exact lf _ (by rw [if_neg (by decide), (er_op t).1]; exact .inr (.inr (.inl ho)))
    · exact lf _ (.inr (.inr (.inr rfl)))
  · intro t h ho hk _ b
    rw [nn17 ho b]
    cases b
    · exact lf _ (by rw [if_neg (by decide), (er_op t).1]; exact .inr (.inr (.inr ho)))
    · exact lf _ (.inr (.inr (.inl rfl)))
  · intro t u _ ho hk _ _ ih b
    rw [nn18 ho hk]; exact ih _
  · intro t _ ho _ _ ih b
    rw [nn19 ho]
    refine pl_mk _ (by cases b <;> simp) _ (fun k hk => ?_)
    obtain ⟨q, hq, rfl⟩ := List.mem_map.1 hk
    exact ih q hq b
  · intro t _ ho _ _ ih b
    rw [nn20 ho]
    refine pl_mk _ (by cases b <;> simp) _ (fun k hk => ?_)
    obtain ⟨q, hq, rfl⟩ := List.mem_map.1 hk
    exact ih q hq b
  · intro t u v _ ho hk _ _ _ ihu ihv b
    rw [nn21 ho hk]
    exact two _ _ _ (by cases b <;> simp) (ihu _) (ihv _)
  · intro t u v h ho _ _ _ _ b
    rw [nn22 ho b]
    cases b
    · exact lf _ (by rw [if_neg (by decide), (er_op t).1]; exact .inr (.inl ho))
    · exact pl_not (by rw [(er_op t).1]; exact .inr ho)
  · intro t u v _ ho hk _ _ b
    rw [nn23 ho hk]
    cases b
    · exact pl_not (.inr rfl)
    · exact pl_le _ _
  · intro t u v _ ho hk _ _ b
    rw [nn24 ho hk]
    cases b
    · exact two _ _ _ (.inl rfl) (pl_le _ _) (pl_le _ _)
    · exact two _ _ _ (.inr rfl) (pl_not (.inr rfl)) (pl_not (.inr rfl))
  · intro t u v _ ho hk _ _ b
    rw [nn25 ho hk]
    cases b
    · exact pl_ins _ _
    · exact pl_not (.inr rfl)
  · intro t u v _ ho hk _ _ b
    rw [nn26 ho hk]
    cases b
    · exact pl_ins _ _
    · exact pl_not (.inr rfl)
  · intro t u v _ ho hk _ _ b
    rw [nn27 ho hk]
    cases b
    · exact two _ _ _ (.inl rfl) (pl_ins _ _) (pl_ins _ _)
    · exact two _ _ _ (.inr rfl) (pl_not (.inr rfl)) (pl_not (.inr rfl))
  · intro t u v _ ho hk _ _ b
    rw [nn28 ho hk]
    cases b
    · exact pl_ins _ _
    · exact pl_not (.inr rfl)
/-- what has few operations stays -/
theorem pl_nn : ∀ t : Tm, t.srt = 4 → plB t = true → nn t false = t.er := by
  refine bool_ind ?_ ?_ ?_ ?_ ?_ ?_ ?_ ?_ ?_ ?_ ?_ ?_ ?_ ?_
  · intro t _ ho _ _; rw [nn15 ho]; rfl
  · intro t _ ho _ _ _; rw [nn16 ho]; rfl
  · intro t _ ho _ _ _; rw [nn17 ho]; rfl
  · intro t u _ ho hk hb hu _ hp
    rw [plB_eq, ho, hk] at hp
    have hp : (decide (u.op = 15) || decide (u.op = 22)) = true := hp
    simp only [Bool.or_eq_true, decide_eq_true_eq] at hp
    rw [nn18 ho hk, bare_er hb, ho, hk]
    rcases hp with e | e
    · rw [nn15 e]; rfl
    · rw [nn22 e]; rfl
  · intro t _ ho hb _ ih hp
    rw [plB_eq, ho] at hp
    have hp : t.ks.all plB = true := hp
    rw [List.all_eq_true] at hp
    rw [nn19 ho, bare_er hb, ho]
    have e : t.ks.map (fun k => nn k false) = t.ks.map Tm.er := List.map_congr_left (fun k hk => ih k hk (hp k hk))
    rw [e]; rfl
  · intro t _ ho hb _ ih hp
    rw [plB_eq, ho] at hp
    have hp : t.ks.all plB = true := hp
    rw [List.all_eq_true] at hp
    rw [nn20 ho, bare_er hb, ho]
    have e : t.ks.map (fun k => nn k false) = t.ks.map Tm.er := List.map_congr_left (fun k hk => ih k hk (hp k hk))
    rw [e]; rfl
  · intro t u v _ ho _ _ _ _ _ _ hp; rw [plB_eq, ho] at hp; exact Bool.noConfusion (show false = true from hp)
  · intro t u v _ ho _ _ _ _ _; rw [nn22 ho]; rfl
  · intro t u v _ ho _ _ _ hp; rw [plB_eq, ho] at hp; exact Bool.noConfusion (show false = true from hp)
  · intro t u v _ ho _ _ _ hp; rw [plB_eq, ho] at hp; exact Bool.noConfusion (show false = true from hp)
  · intro t u v _ ho _ _ _ hp; rw [plB_eq, ho] at hp; exact Bool.noConfusion (show false = true from hp)
  · intro t u v _ ho _ _ _ hp; rw [plB_eq, ho] at hp; exact Bool.noConfusion (show false = true from hp)
  · intro t u v _ ho _ _ _ hp; rw [plB_eq, ho] at hp; exact Bool.noConfusion (show false = true from hp)
  · intro t u v _ ho _ _ _ hp; rw [plB_eq, ho] at hp; exact Bool.noConfusion (show false = true from hp)
end Go.Proofs.YtaibmdikimpooaaDoor
