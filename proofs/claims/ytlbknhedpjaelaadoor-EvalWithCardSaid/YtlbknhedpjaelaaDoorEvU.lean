/-
  Rows of named values: which are the same, what is put into one; rows of one's own, each set a row of its own.
-/
import Derived.Test.YtlbknhedpjaelaaDoorEvB
import Derived.Deep.AppendLies
namespace Go.Proofs.YtlbknhedpjaelaaDoor
open Go.RowKit

/-- the same value, wherever its set stands -/
def SameV (v u : Vl) : Prop := v.sort = u.sort ∧ v.n = u.n ∧ v.b = u.b ∧ v.s = u.s
theorem SameV.refl (v : Vl) : SameV v v := ⟨rfl, rfl, rfl, rfl⟩
theorem SameV.symm {v u : Vl} (h : SameV v u) : SameV u v := ⟨h.1.symm, h.2.1.symm, h.2.2.1.symm, h.2.2.2.symm⟩
theorem SameV.trans {v u x : Vl} (h : SameV v u) (h' : SameV u x) : SameV v x := ⟨h.1.trans h'.1, h.2.1.trans h'.2.1, h.2.2.1.trans h'.2.2.1, h.2.2.2.trans h'.2.2.2⟩
inductive SameO : Option Vl → Option Vl → Prop
  | no : SameO none none
  | yes {v u : Vl} : SameV v u → SameO (some v) (some u)
theorem SameO.refl (o : Option Vl) : SameO o o := by cases o <;> first | exact .no | exact .yes (SameV.refl _)
theorem SameO.symm {o p : Option Vl} (h : SameO o p) : SameO p o := by cases h <;> first | exact .no | exact .yes (SameV.symm (by assumption))
theorem SameO.trans {o p q : Option Vl} (h : SameO o p) (h' : SameO p q) : SameO o q := by
  cases h with
  | no => exact h'
  | yes h => cases h' with
    | yes h' => exact .yes (h.trans h')
theorem SameO.none {o : Option Vl} (h : SameO o none) : o = none := by cases h; rfl
theorem findN_low {nm : ByteArray} {s : Int} {l : List Nd} {k : Nat} : findN nm s l k = -1 ∨ (k : Int) ≤ findN nm s l k := by
  induction l generalizing k with
  | nil => exact .inl rfl
  | cons x l ih =>
    unfold findN
    split
    · exact .inr (Int.le_refl _)
    · rcases ih (k := k + 1) with h | h
      · exact .inl h
      · exact .inr (by omega)
theorem findN_iff {nm : ByteArray} {s : Int} : ∀ {l : List Nd} {k j : Nat} (hj : j < l.length), (findN nm s l k = ((k + j : Nat) : Int) ↔ hitN nm s l[j] = true ∧ ∀ i (hi : i < j), hitN nm s l[i] = false)
  | [], _, _, hj => by simp at hj
  | x :: l, k, 0, hj => by
    unfold findN
    by_cases hx : hitN nm s x = true
    · simp [hx]
    · rw [if_neg hx]
      have := findN_low (nm := nm) (s := s) (l := l) (k := k + 1)
      simp only [List.getElem_cons_zero]
      constructor
      · intro h; omega
      · intro h; exact absurd h.1 hx
  | x :: l, k, j + 1, hj => by
    unfold findN
    by_cases hx : hitN nm s x = true
    · rw [if_pos hx]
      constructor
      · intro h; omega
      · intro h
        have := h.2 0 (by omega)
        simp only [List.getElem_cons_zero] at this
        rw [hx] at this; cases this
    · rw [if_neg hx, show k + (j + 1) = k + 1 + j by omega, findN_iff (l := l) (k := k + 1) (j := j) (by simpa using hj)]
      simp only [List.getElem_cons_succ]
      constructor
      · rintro ⟨h1, h2⟩
        refine ⟨h1, fun i hi => ?_⟩
        cases i with
        | zero => simpa using hx
        | succ i => simpa using h2 i (by omega)
      · rintro ⟨h1, h2⟩
        refine ⟨h1, fun i hi => ?_⟩
        have := h2 (i + 1) (by omega)
        simpa using this
theorem hit_self (x : Nd) : hitN x.nm x.v.sort x = true := by simp [hitN]
theorem hit_key {nm : ByteArray} {s : Int} {x y : Nd} (h1 : x.nm.toList = y.nm.toList) (h2 : x.v.sort = y.v.sort) : hitN nm s x = hitN nm s y := by
  unfold hitN; rw [h1, h2]

/-- the same name and value, wherever its set stands -/
def SameN (x y : Nd) : Prop := x.nm = y.nm ∧ SameV x.v y.v
theorem SameN.refl (x : Nd) : SameN x x := ⟨rfl, SameV.refl _⟩
/-- row by row -/
def SameL (l m : List Nd) : Prop := l.length = m.length ∧ ∀ i (h : i < l.length) (h' : i < m.length), SameN l[i] m[i]
theorem SameL.refl (l : List Nd) : SameL l l := ⟨rfl, fun _ _ _ => SameN.refl _⟩
theorem SameL.find {l m : List Nd} (h : SameL l m) (nm : ByteArray) (s : Int) : SameO ((l.find? (hitN nm s)).map Nd.v) ((m.find? (hitN nm s)).map Nd.v) := by
  obtain ⟨h1, h2⟩ := h
  induction l generalizing m with
  | nil => cases m with
    | nil => exact .no
    | cons y m => simp at h1
  | cons x l ih => cases m with
    | nil => simp at h1
    | cons y m =>
      have h0 := h2 0 (by simp) (by simp)
      simp only [List.getElem_cons_zero] at h0
      have e : hitN nm s x = hitN nm s y := hit_key (by rw [h0.1]) h0.2.1
      simp only [List.find?]
      rw [e]
      cases hitN nm s y
      · exact ih (by simpa using h1) (fun i hi hi' => by have := h2 (i + 1) (by simpa using hi) (by simpa using hi'); simpa using this)
      · exact .yes h0.2
/-- a row with a value put into it -/
def putN (y : Nd) : List Nd → List Nd
  | [] => [y]
  | x :: l => if hitN y.nm y.v.sort x then y :: l else x :: putN y l
theorem putN_no {y : Nd} : ∀ {l : List Nd} {k : Nat}, findN y.nm y.v.sort l k = -1 → putN y l = l ++ [y]
  | [], _, _ => rfl
  | x :: l, k, h => by
    unfold findN at h
    by_cases hx : hitN y.nm y.v.sort x = true
    · rw [if_pos hx] at h; omega
    · rw [if_neg hx] at h
      simp only [putN, if_neg hx, putN_no h, List.cons_append]
theorem putN_yes {y : Nd} : ∀ {l : List Nd} {k j : Nat}, findN y.nm y.v.sort l k = ((k + j : Nat) : Int) → putN y l = l.set j y
  | [], k, j, h => by simp only [findN] at h; omega
  | x :: l, k, j, h => by
    unfold findN at h
    by_cases hx : hitN y.nm y.v.sort x = true
    · rw [if_pos hx] at h
      obtain rfl : j = 0 := by omega
      simp only [putN, if_pos hx, List.set_cons_zero]
    · rw [if_neg hx] at h
      have hl := findN_low (nm := y.nm) (s := y.v.sort) (l := l) (k := k + 1)
      obtain ⟨i, rfl⟩ : ∃ i, j = i + 1 := ⟨j - 1, by omega⟩
      simp only [putN, if_neg hx, List.set_cons_succ]
      rw [putN_yes (l := l) (k := k + 1) (j := i) (by rw [h]; congr 1; omega)]
theorem putN_self (y : Nd) : ∀ l : List Nd, (putN y l).find? (hitN y.nm y.v.sort) = some y
  | [] => by simp [putN, hit_self]
  | x :: l => by
    by_cases hx : hitN y.nm y.v.sort x = true
    · simp only [putN, if_pos hx, List.find?, hit_self]
    · simp only [putN, if_neg hx, List.find?]
      rw [putN_self y l]
      simp [hx]
theorem putN_other {y : Nd} {nm : ByteArray} {s : Int} (hy : hitN nm s y = false) : ∀ l : List Nd, (putN y l).find? (hitN nm s) = l.find? (hitN nm s)
  | [] => by simp [putN, List.find?, hy]
  | x :: l => by
    by_cases hx : hitN y.nm y.v.sort x = true
    · have e : hitN nm s x = hitN nm s y := by
        unfold hitN at hx ⊢
        simp only [Bool.and_eq_true, beq_iff_eq] at hx
        rw [hx.1, hx.2]
      simp only [putN, if_pos hx, List.find?, hy, e]
    · simp only [putN, if_neg hx, List.find?]
      rw [putN_other hy l]
theorem own_lat {w w' : World} {base e s n : Nat} {v : Value} {xs : List Value} (h : w.ownsRow base e s v n xs) (hb : Below w.heap.size w w') : w'.ownsRow base e s v n xs := by
  refine ⟨h.1, ?_⟩
  rcases h.2 with h0 | ⟨g, cap, cur, hv, hbg, hg, hr⟩
  · exact .inl h0
  · exact .inr ⟨g, cap, cur, hv, hbg, by rw [hb.block g (Array.getElem?_eq_some_iff.1 hg).1]; exact hg, hr⟩
/-- a store into a block of another kind -/
theorem own_putk {w : World} {base e s n T : Nat} {v : Value} {xs : List Value} (h : w.ownsRow base e s v n xs) {p : Addr} {c : Array Value} {fz : Nat × Nat} (hp : w.heap[p.block]? = some (.cells c T fz)) (hne : T ≠ e) (u : Value) : (w.setCell p u).ownsRow base e s v n xs := by
  refine ⟨h.1, ?_⟩
  rcases h.2 with h0 | ⟨g, cap, cur, hv, hbg, hg, hr⟩
  · exact .inl h0
  · refine .inr ⟨g, cap, cur, hv, hbg, ?_, hr⟩
    rw [Below.heap_setCell w p u g (by rintro rfl; rw [hp] at hg; simp at hg; exact hne hg.2.1)]
    exact hg
/-- the five cells of a named value -/
def nd5 (x : Nd) : List Value := [.string x.nm, .int .i64 x.v.sort, .int .i64 x.v.n, .bool x.v.b, .slice x.v.a x.v.s.length x.v.c]
def nds (l : List Nd) : List Value := l.flatMap nd5
theorem nds_append (l r : List Nd) : nds (l ++ r) = nds l ++ nds r := by simp [nds]
theorem nds_one (x : Nd) : nds [x] = nd5 x := by simp [nds]
theorem nds_len (l : List Nd) : (nds l).length = l.length * 5 := by
  induction l with
  | nil => rfl
  | cons x l ih => simp only [nds, List.flatMap_cons, List.length_append] at *; rw [ih]; simp [nd5]; omega
theorem nd5_one (x : Nd) : ∀ u ∈ nd5 x, u.oneCell' = true := by
  intro u hu
  unfold nd5 at hu
  simp at hu
  rcases hu with rfl | rfl | rfl | rfl | rfl <;> rfl
theorem nds_get (m : List Nd) (k i : Nat) (hk : k < m.length) (hi : i < 5) : (nds m)[k * 5 + i]? = (nd5 m[k])[i]? := by
  induction m generalizing k with
  | nil => simp at hk
  | cons x m ih =>
    have e : nds (x :: m) = nd5 x ++ nds m := rfl
    rw [e]
    cases k with
    | zero => simp only [Nat.zero_mul, Nat.zero_add]; rw [List.getElem?_append_left (by simp [nd5]; omega)]; rfl
    | succ k =>
      rw [List.getElem?_append_right (by simp [nd5]; omega)]
      have : (k + 1) * 5 + i - (nd5 x).length = k * 5 + i := by simp [nd5]; omega
      rw [this, ih k (by simpa using hk)]
      rfl
theorem nds_set (m : List Nd) (k : Nat) (y : Nd) (hk : k < m.length) : nds (m.set k y) = ((((((nds m).set (k * 5) (.string y.nm)).set (k * 5 + 1) (.int .i64 y.v.sort)).set (k * 5 + 2) (.int .i64 y.v.n)).set (k * 5 + 3) (.bool y.v.b)).set (k * 5 + 4) (.slice y.v.a y.v.s.length y.v.c)) := by
  induction m generalizing k with
  | nil => simp at hk
  | cons x m ih =>
    have e : nds (x :: m) = nd5 x ++ nds m := rfl
    cases k with
    | zero => simp [nds, nd5]
    | succ k =>
      have hl : (nd5 x).length = 5 := rfl
      rw [List.set_cons_succ]
      have e2 : nds (x :: m.set k y) = nd5 x ++ nds (m.set k y) := rfl
      rw [e2, ih k (by simpa using hk), e]
      have r : ∀ (a b : List Value) (i : Nat) (v : Value), a.length = 5 → (a ++ b).set ((k + 1) * 5 + i) v = a ++ b.set (k * 5 + i) v := by
        intro a b i v ha
        rw [List.set_append_right _ _ (by omega)]
        congr 2
        omega
      have r0 : ∀ (a b : List Value) (v : Value), a.length = 5 → (a ++ b).set ((k + 1) * 5) v = a ++ b.set (k * 5) v := fun a b v ha => r a b 0 v ha
      rw [r0 _ _ _ hl, r _ _ 1 _ hl, r _ _ 2 _ hl, r _ _ 3 _ hl, r _ _ 4 _ hl]
theorem nd_info : (Tryd.prog.info? 48).map (fun i => (i.zero, i.size, i.bytes)) = some (some (.agg #[.string ⟨#[]⟩, .int .i64 0, .int .i64 0, .bool false, .slice none 0 0]), 5, 64) := by kernel_rfl
theorem nd_parts : ∃ i, Tryd.prog.info? 48 = some i ∧ i.zero = some (.agg #[.string ⟨#[]⟩, .int .i64 0, .int .i64 0, .bool false, .slice none 0 0]) ∧ i.size = 5 ∧ i.bytes = 64 := by
  obtain ⟨i, hi, he⟩ := Option.map_eq_some_iff.1 nd_info
  simp only [Prod.mk.injEq] at he
  exact ⟨i, hi, he.1, he.2.1, he.2.2⟩
theorem own_kind {w : World} {B e s n g : Nat} {v : Value} {xs : List Value} (h : w.ownsRow B e s v n xs) (hg : v.ownBlock = some g) : ∃ c, w.heap[g]? = some (.cells c e (0, 0)) := by
  rcases h.2 with ⟨rfl, -⟩ | ⟨g', cap, cur, rfl, -, hgg, -⟩
  · simp [Value.ownBlock] at hg
  · simp only [Value.ownBlock, Option.some.injEq] at hg
    subst hg
    exact ⟨cur, hgg⟩
/-- rows of two kinds stand apart -/
theorem own_apart {w : World} {B B' e e' s s' n n' : Nat} {v u : Value} {xs ys : List Value} (h : w.ownsRow B e s v n xs) (h' : w.ownsRow B' e' s' u n' ys) (hne : e ≠ e') : v.ownBlock = none ∨ v.ownBlock ≠ u.ownBlock := by
  cases hv : v.ownBlock with
  | none => exact .inl rfl
  | some g =>
    refine .inr fun hu => ?_
    obtain ⟨c, h1⟩ := own_kind h hv
    obtain ⟨c', h2⟩ := own_kind h' hu.symm
    rw [h1] at h2
    simp at h2
    exact hne h2.2
/-- a row of named values -/
structure NRow (w : World) (base : Nat) (v : Value) (l : List Nd) : Prop where
  row : w.ownsRow base 48 5 v l.length (nds l)
  own : ∀ x ∈ l, Own w base x.v.a x.v.c x.v.s
  fit : ∀ x ∈ l, x.nm.size ≤ maxLen ∧ fitB x.v.sort = true ∧ fitB x.v.n = true
theorem NRow.later {w w' : World} {base : Nat} {v : Value} {l : List Nd} (h : NRow w base v l) (hb : Below w.heap.size w w') : NRow w' base v l := ⟨own_lat h.row hb, fun x hx => own_lat (h.own x hx) hb, h.fit⟩
theorem NRow.put {w : World} {base : Nat} {v : Value} {l : List Nd} (h : NRow w base v l) {p : Addr} (hp : p.block < base) (u : Value) : NRow (w.setCell p u) base v l := ⟨own_put h.row hp u, fun x hx => own_put (h.own x hx) hp u, h.fit⟩
theorem NRow.putk {w : World} {base T : Nat} {v : Value} {l : List Nd} (h : NRow w base v l) {p : Addr} {c : Array Value} {fz : Nat × Nat} (hp : w.heap[p.block]? = some (.cells c T fz)) (h1 : T ≠ 48) (h2 : T ≠ 4) (u : Value) : NRow (w.setCell p u) base v l := ⟨own_putk h.row hp h1 u, fun x hx => own_putk (h.own x hx) hp h2 u, h.fit⟩
theorem NRow.base {w : World} {base base' : Nat} {v : Value} {l : List Nd} (h : NRow w base v l) (hb : base' ≤ base) : NRow w base' v l := ⟨own_base h.row hb, fun x hx => own_base (h.own x hx) hb, h.fit⟩
/-- behind an append -/
theorem NRow.grown {w w' : World} {base : Nat} {v v' : Value} {l : List Nd} {y : Nd} (h : NRow w base v l) (hr : w'.ownsRow base 48 5 v' (l.length + 1) (nds l ++ nd5 y)) (hg : w.grownBy w' v.ownBlock) (hy : Own w base y.v.a y.v.c y.v.s) (hf : y.nm.size ≤ maxLen ∧ fitB y.v.sort = true ∧ fitB y.v.n = true) : NRow w' base v' (l ++ [y]) := by
  have hk : ∀ x : Nd, Own w base x.v.a x.v.c x.v.s → Own w' base x.v.a x.v.c x.v.s := fun x hx => hx.kept hg (own_apart hx h.row (by decide))
  refine ⟨?_, fun x hx => ?_, fun x hx => ?_⟩
  · rw [List.length_append, nds_append, nds_one]
    exact hr
  · rcases List.mem_append.1 hx with hx | hx
    · exact hk x (h.own x hx)
    · rw [List.mem_singleton.1 hx]; exact hk y hy
  · rcases List.mem_append.1 hx with hx | hx
    · exact h.fit x hx
    · rw [List.mem_singleton.1 hx]; exact hf
/-- behind a store of a whole -/
theorem NRow.store {w : World} {base g n cap : Nat} {l : List Nd} (h : NRow w base (.slice (some ⟨g, 0, none⟩) n cap) l) (hn : l.length = n) (k : Nat) (hk : k < n) (y : Nd) (hy : Own w base y.v.a y.v.c y.v.s) (hf : y.nm.size ≤ maxLen ∧ fitB y.v.sort = true ∧ fitB y.v.n = true) :
    NRow (((((w.setCell ⟨g, k * 5, none⟩ (.string y.nm)).setCell ⟨g, k * 5 + 1, none⟩ (.int .i64 y.v.sort)).setCell ⟨g, k * 5 + 2, none⟩ (.int .i64 y.v.n)).setCell ⟨g, k * 5 + 3, none⟩ (.bool y.v.b)).setCell ⟨g, k * 5 + 4, none⟩ (.slice y.v.a y.v.s.length y.v.c)) base (.slice (some ⟨g, 0, none⟩) n cap) (l.set k y) := by
  have hr := h.row
  rw [hn] at hr
  have hset : ∀ (w1 : World) (o : Nat) (u : Value) (z : Nd), (∃ c, w1.heap[g]? = some (.cells c 48 (0, 0))) → Own w1 base z.v.a z.v.c z.v.s → Own (w1.setCell ⟨g, o, none⟩ u) base z.v.a z.v.c z.v.s := by
    intro w1 o u z ⟨c, hc⟩ hz
    refine ⟨hz.1, ?_⟩
    rcases hz.2 with h0 | ⟨g', cp, cur, e, hb, hgg, rest⟩
    · exact .inl h0
    · refine .inr ⟨g', cp, cur, e, hb, ?_, rest⟩
      rw [Below.heap_setCell w1 ⟨g, o, none⟩ u g' (by rintro rfl; rw [hc] at hgg; simp at hgg)]
      exact hgg
  have r0 := hr
  have r1 := (r0.stored (k * 5) (.string y.nm)).1
  have r2 := (r1.stored (k * 5 + 1) (.int .i64 y.v.sort)).1
  have r3 := (r2.stored (k * 5 + 2) (.int .i64 y.v.n)).1
  have r4 := (r3.stored (k * 5 + 3) (.bool y.v.b)).1
  have r5 := (r4.stored (k * 5 + 4) (.slice y.v.a y.v.s.length y.v.c)).1
  have hall : ∀ z : Nd, Own w base z.v.a z.v.c z.v.s → Own (((((w.setCell ⟨g, k * 5, none⟩ (.string y.nm)).setCell ⟨g, k * 5 + 1, none⟩ (.int .i64 y.v.sort)).setCell ⟨g, k * 5 + 2, none⟩ (.int .i64 y.v.n)).setCell ⟨g, k * 5 + 3, none⟩ (.bool y.v.b)).setCell ⟨g, k * 5 + 4, none⟩ (.slice y.v.a y.v.s.length y.v.c)) base z.v.a z.v.c z.v.s := fun z hz =>
    hset _ _ _ z (own_kind r4 rfl) (hset _ _ _ z (own_kind r3 rfl) (hset _ _ _ z (own_kind r2 rfl) (hset _ _ _ z (own_kind r1 rfl) (hset _ _ _ z (own_kind r0 rfl) hz))))
  refine ⟨?_, fun x hx => ?_, fun x hx => ?_⟩
  · rw [List.length_set, hn, nds_set l k y (by omega)]
    exact r5
  · rcases List.mem_or_eq_of_mem_set hx with hx | rfl
    · exact hall x (h.own x hx)
    · exact hall _ hy
  · rcases List.mem_or_eq_of_mem_set hx with hx | rfl
    · exact h.fit x hx
    · exact hf
theorem NRow.at_ {w : World} {base g n cap : Nat} {l : List Nd} (h : NRow w base (.slice (some ⟨g, 0, none⟩) n cap) l) (hn : l.length = n) (k : Nat) (hk : k < l.length) : NdAt w g (k * 5) l[k] := by
  have hr := h.row
  rw [hn] at hr
  have c : ∀ i, i < 5 → w.cell? ⟨g, k * 5 + i, none⟩ = (nd5 l[k])[i]? := fun i hi => by
    rw [hr.cellAt (k * 5 + i) (by omega), nds_get l k i hk hi]
  exact ⟨c 0 (by omega), c 1 (by omega), c 2 (by omega), c 3 (by omega), c 4 (by omega)⟩
/-- such a row is that of a world -/
theorem NRow.win {w : World} {base : Nat} {a : Option Addr} {c : Nat} {l : List Nd} (h : NRow w base (.slice a l.length c) l) {nodes : Int} (hnd : fitB nodes = true) : WIn w w.heap.size ⟨nodes, a, c, l⟩ := by
  have hv : ∀ x ∈ l, x.nm.size ≤ maxLen ∧ VIn w w.heap.size x.v := fun x hx => by
    obtain ⟨f1, f2, f3⟩ := h.fit x hx
    have o := h.own x hx
    exact ⟨f1, f2, f3, o.cap.1, o.cap.2, o.bin⟩
  rcases h.row.2 with ⟨e, h0⟩ | ⟨g, cap, cur, e, hb, hg, hc, hm, -⟩
  · simp only [Value.slice.injEq] at e
    obtain ⟨rfl, -, rfl⟩ := e
    exact ⟨hnd, by show l.length ≤ 0; omega, by show 0 ≤ maxLen; omega, fun j hj => by have : j < l.length := hj; omega, hv⟩
  · simp only [Value.slice.injEq, true_and] at e
    obtain ⟨rfl, rfl⟩ := e
    refine ⟨hnd, hc, hm, fun j hj => ⟨g, 0, rfl, (Array.getElem?_eq_some_iff.1 hg).1, ?_⟩, hv⟩
    have := h.at_ rfl j hj
    rw [Nat.zero_add]; exact this
/-- the box of a world -/
def BoxC (w : World) (C : Nat) (nodes : Int) (v : Value) : Prop := w.heap[C]? = some (.cells #[.int .i64 nodes, v] 38 (0, 0))
theorem BoxC.lt {w : World} {C : Nat} {nodes : Int} {v : Value} (h : BoxC w C nodes v) : C < w.heap.size := (Array.getElem?_eq_some_iff.1 h).1
theorem BoxC.later {w w' : World} {C : Nat} {nodes : Int} {v : Value} (h : BoxC w C nodes v) (hb : Below w.heap.size w w') : BoxC w' C nodes v := by
  unfold BoxC; rw [hb.block C h.lt]; exact h
theorem BoxC.cells {w : World} {C : Nat} {nodes : Int} {v : Value} (h : BoxC w C nodes v) : w.cell? ⟨C, 0, none⟩ = some (.int .i64 nodes) ∧ w.cell? ⟨C, 1, none⟩ = some v ∧ w.frozen? ⟨C, 0, none⟩ = false ∧ w.frozen? ⟨C, 1, none⟩ = false := by
  unfold BoxC at h
  refine ⟨by rw [cell_of_row w C 0 _ _ _ h]; rfl, by rw [cell_of_row w C 1 _ _ _ h]; rfl, ?_, ?_⟩
  · simp [World.frozen?, h]
  · simp [World.frozen?, h]
theorem BoxC.set1 {w : World} {C : Nat} {nodes : Int} {v : Value} (h : BoxC w C nodes v) (u : Value) : BoxC (w.setCell ⟨C, 1, none⟩ u) C nodes u := by
  unfold BoxC at *
  simp only [World.setCell, Array.getElem?_modify, if_pos, h]
  simp
theorem BoxC.grown {w w' : World} {C base : Nat} {nodes : Int} {v u : Value} {l : List Nd} (h : BoxC w C nodes v) (hr : NRow w base u l) (hg : w.grownBy w' u.ownBlock) : BoxC w' C nodes v := by
  have hlt := h.lt
  unfold BoxC at *
  rw [hg.block C hlt (fun e => by
    obtain ⟨c, hc⟩ := own_kind hr.row e.symm
    rw [h] at hc
    simp at hc)]
  exact h
end Go.Proofs.YtlbknhedpjaelaaDoor
