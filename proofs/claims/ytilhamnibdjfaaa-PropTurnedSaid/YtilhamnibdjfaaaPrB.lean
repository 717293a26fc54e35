/-
  Rows of numbers, and rows of rows: how they lie in memory.
-/
import Derived.Test.YtilhamnibdjfaaaRows
import Derived.Test.YtilhamnibdjfaaaPrA
import Derived.WalkKit
import Derived.WalkSpells
import Derived.WalkLawsBesides
import Derived.BigQuiet
import Derived.Deep.QuietTactic
import Derived.Deep.RegionHeld2
import Derived.Deep.RegionHeld3
import Derived.Deep.AppendLies
import Derived.StillTailTactics
import Derived.WalkSmall
import Derived.WalkMore
import Derived.ScopeJumps
import Derived.ProofKit
import Derived.OpenShut
import Derived.OwnWalk
import Derived.OneCell
import Derived.Laws.OwnMore
import Derived.Laws.CopyRow
import Derived.Laws.MakeOwn
import Derived.IntWalk
import Derived.Below
namespace Go.Proofs.Ytilhamnibdjfaaa
open Go.RowKit

theorem ret_int {k : IntKind} {a b : Int} (h : a = b) : Ending.returned (.int k a) = .returned (.int k b) := by rw [h]
theorem ret_bool {a b : Bool} (h : a = b) : Ending.returned (.bool a) = .returned (.bool b) := by rw [h]
theorem mkHid {p : Prop} (h : p) : Hid p := h
theorem bon {w a b : World} (h : Below w.heap.size w a) (hb : Below a.heap.size a b) : Below w.heap.size w b := h.trans (hb.mono h.size)
theorem bal {w a : World} (h : Below w.heap.size w a) (o : Obj) : Below w.heap.size w (a.alloc o) := h.alloc h.size o
theorem bset {w a : World} (h : Below w.heap.size w a) {p : Addr} (hp : w.heap.size ≤ p.block) (u : Value) : Below w.heap.size w (a.setCell p u) := h.setCell hp u
theorem bdrew {w a : World} (h : Below w.heap.size w a) : Below w.heap.size w a.drew := h.drew
theorem bel_alloc (w : World) (o : Obj) : Below w.heap.size w (w.alloc o) := bal (Below.refl _ _) o
theorem cell_later {w w1 : World} (hb : Below w.heap.size w w1) {a : Addr} {v : Value} (h : w.cell? a = some v) : w1.cell? a = some v := by
  rw [hb.cell (World.block_lt_of_cell? _ _ h)]; exact h
theorem cell_grown {w w' : World} {b i : Nat} {x v : Value} (h : w.grownBy w' v.ownBlock) (hc : w.cell? ⟨b, i, none⟩ = some x) (hv : some b ≠ v.ownBlock) : w'.cell? ⟨b, i, none⟩ = some x := by
  rw [World.cell?_of_block (w := w) (h.block b (World.block_lt_of_cell? _ _ hc) hv)]; exact hc
theorem own_lt {w : World} {base e s n k : Nat} {v : Value} {xs : List Value} (h : w.ownsRow base e s v n xs) (hk : v.ownBlock = some k) : base ≤ k ∧ k < w.heap.size := by
  rcases h.2 with ⟨rfl, -⟩ | ⟨g, cap, cur, rfl, hb, hg, -⟩
  · simp [Value.ownBlock] at hk
  · simp only [Value.ownBlock, Option.some.injEq] at hk
    subst hk
    exact ⟨hb, (Array.getElem?_eq_some_iff.1 hg).1⟩
theorem own_some {w : World} {base e size n : Nat} {v : Value} {xs : List Value} (h : w.ownsRow base e size v n xs) (hn : 0 < n) : ∃ g cap, v = .slice (some ⟨g, 0, none⟩) n cap := by
  rcases h.2 with ⟨-, h0⟩ | ⟨g, cap, cur, e, -⟩
  · omega
  · exact ⟨g, cap, e⟩
theorem own_val {w : World} {base e s n : Nat} {v : Value} {xs : List Value} (h : w.ownsRow base e s v n xs) : ∃ a c, v = .slice a n c ∧ n ≤ c ∧ (a = none → c = 0) := by
  rcases h.2 with ⟨rfl, rfl⟩ | ⟨g, cap, cur, rfl, -, -, h1, -⟩
  · exact ⟨none, 0, rfl, Nat.le_refl _, fun _ => rfl⟩
  · exact ⟨_, cap, rfl, h1, fun h => by cases h⟩
theorem own_keep {w w' : World} {base e s n : Nat} {v : Value} {xs : List Value} (h : w.ownsRow base e s v n xs) (hb : Below w.heap.size w w') : w'.ownsRow base e s v n xs := by
  refine ⟨h.1, ?_⟩
  rcases h.2 with h0 | ⟨g, cap, cur, hv, hbg, hg, hr⟩
  · exact .inl h0
  · exact .inr ⟨g, cap, cur, hv, hbg, by rw [hb.block g (Array.getElem?_eq_some_iff.1 hg).1]; exact hg, hr⟩
theorem own_grown {w w' : World} {base e s n : Nat} {u v : Value} {xs : List Value} (h : w.ownsRow base e s u n xs) (hg : w.grownBy w' v.ownBlock) (hne : ∀ k, u.ownBlock = some k → v.ownBlock ≠ some k) : w'.ownsRow base e s u n xs := by
  refine ⟨h.1, ?_⟩
  rcases h.2 with h0 | ⟨g, cap, cur, rfl, hbg, hg', hr⟩
  · exact .inl h0
  · exact .inr ⟨g, cap, cur, rfl, hbg, by rw [hg.block g (Array.getElem?_eq_some_iff.1 hg').1 (fun e => hne g rfl e.symm)]; exact hg', hr⟩
theorem own_base {w : World} {base base' e s n : Nat} {v : Value} {xs : List Value} (h : w.ownsRow base e s v n xs) (hb : base' ≤ base) : w.ownsRow base' e s v n xs :=
  ⟨h.1, h.2.imp id fun ⟨g, cap, cur, h1, h2, h3⟩ => ⟨g, cap, cur, h1, Nat.le_trans hb h2, h3⟩⟩
theorem own_kind {w : World} {B e s n k : Nat} {v : Value} {xs : List Value} (h : w.ownsRow B e s v n xs) (hv : v.ownBlock = some k) : ∃ cur, w.heap[k]? = some (.cells cur e (0, 0)) := by
  rcases h.2 with ⟨rfl, -⟩ | ⟨g, cap, cur, rfl, -, hg, -⟩
  · simp [Value.ownBlock] at hv
  · simp only [Value.ownBlock, Option.some.injEq] at hv
    subst hv
    exact ⟨cur, hg⟩
theorem own_apart {w : World} {B B' e e' s s' n n' : Nat} {v u : Value} {xs ys : List Value} (h : w.ownsRow B e s v n xs) (h' : w.ownsRow B' e' s' u n' ys) (hne : e ≠ e') : ∀ k, v.ownBlock = some k → u.ownBlock ≠ some k := by
  intro k hv hu
  obtain ⟨c, h1⟩ := own_kind h hv
  obtain ⟨c', h2⟩ := own_kind h' hu
  rw [h1] at h2
  simp at h2
  exact hne h2.2
theorem below_grown {w w' : World} {B : Nat} {v : Value} (hg : w.grownBy w' v.ownBlock) (hv : ∀ k, v.ownBlock = some k → B ≤ k) (hB : B ≤ w.heap.size) : Below B w w' :=
  ⟨hg.os, hg.tape, hg.output, hg.size, fun k hk => hg.block k (by omega) (fun e => by have := hv k e.symm; omega)⟩

/-- numbers as values -/
def nums (k : IntKind) (c : List Int) : List Value := c.map (Value.int k)
theorem nums_len (k : IntKind) (c : List Int) : (nums k c).length = c.length := by simp [nums]
theorem nums_one (k : IntKind) (c : List Int) : ∀ u ∈ nums k c, u.oneCell' = true := by
  intro u hu
  obtain ⟨x, -, rfl⟩ := List.mem_map.1 hu
  rfl
theorem nums_append (k : IntKind) (a b : List Int) : nums k (a ++ b) = nums k a ++ nums k b := by simp [nums]
theorem nums_at (k : IntKind) (c : List Int) (j : Nat) (h : j < c.length) : (nums k c)[j]? = some (.int k (c.getD j 0)) := by simp [nums, h]
theorem nums_set (k : IntKind) (c : List Int) (j : Nat) (x : Int) : (nums k c).set j (.int k x) = nums k (c.set j x) := by simp [nums, List.map_set]

/-- a row of numbers that can be read, wherever it lies -/
def RK (k : IntKind) (w : World) (r : Value) (R : List Int) : Prop :=
  ∃ a c, r = .slice a R.length c ∧ R.length ≤ c ∧ (a = none → c = 0) ∧ ∀ j, j < R.length → ∃ b o, a = some ⟨b, o, none⟩ ∧ w.cell? ⟨b, o + j, none⟩ = some (.int k (R.getD j 0))
/-- a row of rows -/
def RR (w : World) (v : Value) (C : List (List Int)) : Prop :=
  ∃ a c, v = .slice a C.length c ∧ C.length ≤ c ∧ (a = none → c = 0) ∧ ∀ i, i < C.length → ∃ b o r, a = some ⟨b, o, none⟩ ∧ w.cell? ⟨b, o + i, none⟩ = some r ∧ RK .i64 w r (C.getD i [])
theorem RK.later {k : IntKind} {w w' : World} {r : Value} {R : List Int} (h : RK k w r R) (hb : Below w.heap.size w w') : RK k w' r R := by
  obtain ⟨a, c, e, hl, h0, h⟩ := h
  refine ⟨a, c, e, hl, h0, fun j hj => ?_⟩
  obtain ⟨b, o, ea, hc⟩ := h j hj
  exact ⟨b, o, ea, cell_later hb hc⟩
theorem RR.later {w w' : World} {v : Value} {C : List (List Int)} (h : RR w v C) (hb : Below w.heap.size w w') : RR w' v C := by
  obtain ⟨a, c, e, hl, h0, h⟩ := h
  refine ⟨a, c, e, hl, h0, fun i hi => ?_⟩
  obtain ⟨b, o, r, ea, hr, hi⟩ := h i hi
  exact ⟨b, o, r, ea, cell_later hb hr, hi.later hb⟩
theorem RK.of_own {k : IntKind} {w : World} {base e : Nat} {r : Value} {R : List Int} (h : w.ownsRow base e 1 r R.length (nums k R)) : RK k w r R := by
  obtain ⟨a, c, e, hc, h0⟩ := own_val h
  refine ⟨a, c, e, hc, h0, fun j hj => ?_⟩
  obtain ⟨g, cap, e'⟩ := own_some h (by omega)
  rw [e] at e'
  simp only [Value.slice.injEq, true_and] at e'
  obtain ⟨rfl, rfl⟩ := e'
  subst e
  refine ⟨g, 0, rfl, ?_⟩
  rw [Nat.zero_add, h.cellAt j (by omega), nums_at k R j hj]
/-- rows of one's own -/
structure CR (w : World) (base : Nat) (v : Value) (C : List (List Int)) (us : List Value) : Prop where
  row : w.ownsRow base 35 1 v C.length us
  len : us.length = C.length
  els : ∀ i (h : i < us.length), ∃ base', w.ownsRow base' 3 1 us[i] (C.getD i []).length (nums .i64 (C.getD i []))
theorem CR.later {w w' : World} {base : Nat} {v : Value} {C : List (List Int)} {us : List Value} (h : CR w base v C us) (hb : Below w.heap.size w w') : CR w' base v C us :=
  ⟨own_keep h.row hb, h.len, fun i h1 => by obtain ⟨b, k⟩ := h.els i h1; exact ⟨b, own_keep k hb⟩⟩
theorem CR.nil (w : World) (base : Nat) : CR w base (.slice none 0 0) [] [] := ⟨⟨rfl, .inl ⟨rfl, rfl⟩⟩, rfl, fun i h => absurd h (by simp)⟩
theorem CR.rr {w : World} {base : Nat} {v : Value} {C : List (List Int)} {us : List Value} (h : CR w base v C us) : RR w v C := by
  obtain ⟨a, c, e, hc, h0⟩ := own_val h.row
  refine ⟨a, c, e, hc, h0, fun i hi => ?_⟩
  obtain ⟨g, cap, e'⟩ := own_some h.row (by omega)
  rw [e] at e'
  simp only [Value.slice.injEq, true_and] at e'
  obtain ⟨rfl, rfl⟩ := e'
  have hi' : i < us.length := by rw [h.len]; exact hi
  have hr := h.row
  rw [e] at hr
  obtain ⟨b, k⟩ := h.els i hi'
  refine ⟨g, 0, us[i], rfl, ?_, RK.of_own k⟩
  rw [Nat.zero_add, hr.cellAt i (by omega), List.getElem?_eq_getElem hi']
/-- one row more -/
theorem CR.snoc {w w' : World} {base B' : Nat} {v u v' : Value} {C : List (List Int)} {us : List Value} {R : List Int} (h : CR w base v C us) (hu : w.ownsRow B' 3 1 u R.length (nums .i64 R))
    (hr : w'.ownsRow base 35 1 v' (C.length + 1) (us ++ [u])) (hg : w.grownBy w' v.ownBlock) : CR w' base v' (C ++ [R]) (us ++ [u]) := by
  refine ⟨by simpa using hr, by simp [h.len], fun i hi => ?_⟩
  by_cases hlt : i < us.length
  · obtain ⟨b, k⟩ := h.els i hlt
    have e1 : (C ++ [R]).getD i [] = C.getD i [] := by
      have : i < C.length := by rw [← h.len]; exact hlt
      simp [List.getD_eq_getElem?_getD, List.getElem?_append_left this]
    rw [e1, List.getElem_append_left hlt]
    exact ⟨b, own_grown k hg (own_apart k h.row (by decide))⟩
  · have e : i = C.length := by simp [h.len] at hi hlt; omega
    subst e
    have e1 : (C ++ [R]).getD C.length [] = R := by simp [List.getD_eq_getElem?_getD]
    rw [e1, List.getElem_append_right (by omega)]
    have e2 : C.length - us.length = 0 := by rw [h.len]; omega
    simp only [e2, List.getElem_cons_zero]
    exact ⟨B', own_grown hu hg (own_apart hu h.row (by decide))⟩
theorem info_parts {P : Program} {t : TypeId} {z : Option Value} {s b : Nat} (h : (P.info? t).map (fun i => (i.zero, i.size, i.bytes)) = some (z, s, b)) : ∃ i, P.info? t = some i ∧ i.zero = z ∧ i.size = s ∧ i.bytes = b := by
  cases e : P.info? t with
  | none => rw [e] at h; simp at h
  | some i => rw [e] at h; simp at h; exact ⟨i, rfl, h.1, h.2.1, h.2.2⟩
theorem int_parts : ∃ i, Try.prog.info? 3 = some i ∧ i.zero = some (.int .i64 0) ∧ i.size = 1 ∧ i.bytes = 8 := info_parts (by kernel_rfl)
theorem i8_parts : ∃ i, Try.prog.info? 30 = some i ∧ i.zero = some (.int .i8 0) ∧ i.size = 1 ∧ i.bytes = 1 := info_parts (by kernel_rfl)
theorem sl_parts : ∃ i, Try.prog.info? 35 = some i ∧ i.zero = some (.slice none 0 0) ∧ i.size = 1 ∧ i.bytes = 24 := info_parts (by kernel_rfl)
/-- the first n cells of a row that can be read, as what an append reads -/
theorem RK.reads {k : IntKind} {w : World} {ad : Addr} {c : Nat} {R : List Int} (h : RK k w (.slice (some ad) R.length c) R) (n : Nat) (hn : n ≤ R.length) : ∀ j u, (nums k (R.take n))[j]? = some u → w.cell? (ad.add j) = some u := by
  obtain ⟨a', c', e, hl, -, h⟩ := h
  simp only [Value.slice.injEq, true_and] at e
  obtain ⟨rfl, rfl⟩ := e
  intro j u hu
  have hj : j < n := by
    have := (List.getElem?_eq_some_iff.1 hu).1
    rw [nums_len, List.length_take] at this; omega
  obtain ⟨b, o, e, hc⟩ := h j (by omega)
  simp only [Option.some.injEq] at e
  subst e
  rw [Go.WideShapes.add_plain, hc, ← hu, nums_at k _ j (by rw [List.length_take]; omega)]
  simp only [List.getD_eq_getElem?_getD]
  rw [List.getElem?_take_of_lt hj]
theorem RK.none_nil {k : IntKind} {w : World} {c : Nat} {R : List Int} (h : RK k w (.slice none R.length c) R) : R = [] ∧ c = 0 := by
  obtain ⟨a', c', e, hl, h0, h⟩ := h
  simp only [Value.slice.injEq, true_and] at e
  obtain ⟨rfl, rfl⟩ := e
  refine ⟨?_, h0 rfl⟩
  by_cases hR : R.length = 0
  · exact List.length_eq_zero_iff.1 hR
  · obtain ⟨b, o, e, -⟩ := h 0 (by omega)
    cases e
/-- an append of numbers that can be read to a row of one's own; of none of them too -/
theorem run_nums (k : IntKind) {e ts : TypeId} {i0 : TypeInfo} {by' : Nat} (hu : Try.prog.underlying ts = some (.slice e)) (hi0 : Try.prog.info? e = some i0) (hz0 : i0.zero = some (.int k 0)) (hz1 : i0.size = 1) (hz2 : i0.bytes = by')
    {w : World} {base : Nat} {v : Value} {n : Nat} {xs : List Value} {a : Option Addr} {c m c2 : Nat} {R : List Int} (hown : w.ownsRow base e 1 v n xs) (hr : RK k w (.slice a R.length c) R) (hm : m ≤ R.length) (hm1 : n + m ≤ 100000) (hby : by' ≤ 1000) (hb : base ≤ w.heap.size) (h2 : a = none → c2 = 0) :
    ∃ v' w', (Builtin.append_ #[ts, ts] ts #[v, .slice a m c2]).run Try.prog w = .ok v' w' ∧ w'.ownsRow base e 1 v' (n + m) (xs ++ nums k (R.take m)) ∧ w.grownBy w' v.ownBlock ∧ (v'.ownBlock = v.ownBlock ∨ v'.ownBlock = some w.heap.size) := by
  cases a with
  | none =>
    obtain ⟨rfl, rfl⟩ := hr.none_nil
    obtain rfl := h2 rfl
    obtain rfl : m = 0 := by simpa using hm
    refine ⟨v, w, run_append_owned_none w base ts ts e i0 1 hu hi0 v n xs hown, ?_, ⟨rfl, rfl, rfl, Nat.le_refl _, fun _ _ _ => rfl⟩, .inl rfl⟩
    simpa [nums] using hown
  | some ad =>
    have hle : (nums k (R.take m)).length = m := by rw [nums_len, List.length_take]; omega
    have hby2 : (n + m) * by' ≤ 140737488355328 := Nat.le_trans (Nat.mul_le_mul hm1 hby) (by decide)
    obtain ⟨v', w', h1, h2, h3, -, h5⟩ := run_append_own_at (P := Try.prog) w base ts ts e i0 _ 1 by' hu hi0 hz0 hz1 hz2 rfl (by omega) v n xs hown ad m c2 (nums k (R.take m)) (by rw [hle]; omega) (hr.reads m hm) (nums_one k _) (by unfold maxLen; omega) hby2 hb
    exact ⟨v', w', h1, h2, h3, h5⟩
end Go.Proofs.Ytilhamnibdjfaaa
