/-
  Rows of clauses: how they lie in memory, and how one is added ('add' of package cnf).
-/
import Derived.Test.YtaiachmolkjedaaDoorCnF
namespace Go.Proofs.YtaiachmolkjedaaDoor
open Go.RowKit

def ints (c : List Int) : List Value := c.map (Value.int .i64)
theorem ints_len (c : List Int) : (ints c).length = c.length := by simp [ints]
theorem ints_one (c : List Int) : ∀ u ∈ ints c, u.oneCell' = true := by
  intro u hu
  obtain ⟨x, -, rfl⟩ := List.mem_map.1 hu
  rfl
theorem ints_append (a b : List Int) : ints (a ++ b) = ints a ++ ints b := by simp [ints]
theorem ints_at (c : List Int) (j : Nat) (h : j < c.length) : (ints c)[j]? = some (.int .i64 c[j]) := by simp [ints, h]
/-- a row of numbers that can be read -/
def IL (w : World) (r : Value) (R : List Int) : Prop := (r = .slice none 0 0 ∧ R = []) ∨ ∃ ad c, r = .slice (some ad) R.length c ∧ ∀ j u, (ints R)[j]? = some u → w.cell? (ad.add j) = some u
theorem IL.later {w w' : World} {r : Value} {R : List Int} (h : IL w r R) (hb : Below w.heap.size w w') : IL w' r R := by
  rcases h with h | ⟨ad, c, e, h⟩
  · exact .inl h
  · exact .inr ⟨ad, c, e, fun j u hu => cell_later hb (h j u hu)⟩
theorem IL.gr {S : Nat → Prop} {w w' : World} {v v' r : Value} {R : List Int} (h : IL w r R) (hG : Gr S w v w' v') (hr : ∀ k, r.ownBlock = some k → ¬ S k ∧ v.ownBlock ≠ some k) : IL w' r R := by
  rcases h with h | ⟨ad, c, e, h⟩
  · exact .inl h
  · refine .inr ⟨ad, c, e, fun j u hu => ?_⟩
    have hk : (ad.add j).block = ad.block := by unfold Addr.add; split <;> rfl
    subst e
    obtain ⟨h1, h2⟩ := hr ad.block rfl
    exact hG.cell (h j u hu) (by rw [hk]; exact h1) (by rw [hk]; exact fun e => h2 e.symm)
theorem own_il {w : World} {base : Nat} {v : Value} {R : List Int} (h : w.ownsRow base 3 1 v R.length (ints R)) : IL w v R := by
  rcases h.2 with ⟨rfl, h0⟩ | ⟨g, cap, cur, rfl, -⟩
  · exact .inl ⟨rfl, List.length_eq_zero_iff.1 h0⟩
  · refine .inr ⟨⟨g, 0, none⟩, cap, rfl, fun j u hu => ?_⟩
    have hj : j < R.length := by rw [← ints_len]; exact (List.getElem?_eq_some_iff.1 hu).1
    have hadd : (⟨g, 0, none⟩ : Addr).add j = ⟨g, j, none⟩ := by
      unfold Addr.add
      split
      · rename_i h0; rw [h0]
      · simp
    rw [hadd, h.cellAt j (by omega)]; exact hu
theorem int_info : (Tryd.prog.info? 3).map (fun i => (i.zero, i.size, i.bytes)) = some (some (.int .i64 0), 1, 8) := by kernel_rfl
theorem sl_info : (Tryd.prog.info? 54).map (fun i => (i.zero, i.size, i.bytes)) = some (some (.slice none 0 0), 1, 24) := by kernel_rfl
theorem int_parts : ∃ i, Tryd.prog.info? 3 = some i ∧ i.zero = some (.int .i64 0) ∧ i.size = 1 ∧ i.bytes = 8 := by
  obtain ⟨i, hi, he⟩ := Option.map_eq_some_iff.1 int_info
  simp only [Prod.mk.injEq] at he
  exact ⟨i, hi, he.1, he.2.1, he.2.2⟩
theorem sl_parts : ∃ i, Tryd.prog.info? 54 = some i ∧ i.zero = some (.slice none 0 0) ∧ i.size = 1 ∧ i.bytes = 24 := by
  obtain ⟨i, hi, he⟩ := Option.map_eq_some_iff.1 sl_info
  simp only [Prod.mk.injEq] at he
  exact ⟨i, hi, he.1, he.2.1, he.2.2⟩
/-- an append of numbers that can be read to a row of one's own -/
theorem run_ints {w : World} {base : Nat} {v r : Value} {n : Nat} {xs : List Value} {R : List Int} (hown : w.ownsRow base 3 1 v n xs) (hr : IL w r R) (hm : n + R.length ≤ 100000) (hb : base ≤ w.heap.size) :
    ∃ v' w', (Builtin.append_ #[54, 54] 54 #[v, r]).run Tryd.prog w = .ok v' w' ∧ w'.ownsRow base 3 1 v' (n + R.length) (xs ++ ints R) ∧ w.grownBy w' v.ownBlock := by
  obtain ⟨i0, hi0, hz0, hz1, hz2⟩ := int_parts
  rcases hr with ⟨rfl, rfl⟩ | ⟨ad, c, rfl, hc⟩
  · refine ⟨v, w, run_append_owned_none w base 54 54 3 i0 1 Tryd.underlying54 hi0 v n xs hown, ?_, ⟨rfl, rfl, rfl, Nat.le_refl _, fun _ _ _ => rfl⟩⟩
    simpa [ints] using hown
  · obtain ⟨v', w', h1, h2, h3, -, -⟩ := run_append_own_at (P := Tryd.prog) w base 54 54 3 i0 _ 1 8 Tryd.underlying54 hi0 hz0 hz1 hz2 rfl (by omega) v n xs hown ad R.length c (ints R) (by rw [ints_len]; omega) hc (ints_one R) (by unfold maxLen; omega) (by omega) hb
    exact ⟨v', w', h1, h2, h3⟩
theorem step_ints {ops : Array Oper} {o : Oper} {a : Act} {w : World} {K : Act → World → Prop} {Q : Exit → Act → World → Prop} {E : Prop} (hgd : o.guard = none) (s x : Operand) (hty : o.type = 54)
    (ho : o.op = .call { callee := .builtin .append, args := #[s, x], argTypes := #[54, 54] }) {base : Nat} {v r : Value} {n : Nat} {xs : List Value} {R : List Int} (hs : a.eval s = v) (hx : a.eval x = r) (hown : w.ownsRow base 3 1 v n xs) (hr : IL w r R) (hm : n + R.length ≤ 100000) (hb : base ≤ w.heap.size)
    (h : ∀ v' w', w'.ownsRow base 3 1 v' (n + R.length) (xs ++ ints R) → w.grownBy w' v.ownBlock → K (a.put o.dst v') w') :
    if Region.wanted o (yielded ops a.tmps) = true then Oper.wp Tryd.prog o a w K Q else E := by
  have hw : Region.wanted o (yielded ops a.tmps) = true := by simp [Region.wanted, hgd]
  rw [if_pos hw]
  obtain ⟨v', w', hrun, h2, h3⟩ := run_ints hown hr hm hb
  unfold Oper.wp execOp
  simp only [ho, hty, resolve, invoke, builtin, Sem.run_bind, Sem.run_pure, Result.andThen_ok, List.map_toArray, List.map_cons, List.map_nil, hs, hx, hrun]
  exact h v' w' h2 h3
theorem own_kind' {w : World} {B e s n k : Nat} {v : Value} {xs : List Value} (h : w.ownsRow B e s v n xs) (hv : v.ownBlock = some k) : ∃ cur, w.heap[k]? = some (.cells cur e (0, 0)) := by
  rcases h.2 with ⟨rfl, -⟩ | ⟨g, cap, cur, rfl, -, hg, -⟩
  · simp [Value.ownBlock] at hv
  · simp only [Value.ownBlock, Option.some.injEq] at hv
    subst hv
    exact ⟨cur, hg⟩
theorem own_apart' {w : World} {B B' e e' s s' n n' : Nat} {v u : Value} {xs ys : List Value} (h : w.ownsRow B e s v n xs) (h' : w.ownsRow B' e' s' u n' ys) (hne : e ≠ e') : ∀ k, v.ownBlock = some k → u.ownBlock ≠ some k := by
  intro k hv hu
  obtain ⟨c, h1⟩ := own_kind' h hv
  obtain ⟨c', h2⟩ := own_kind' h' hu
  rw [h1] at h2
  simp at h2
  exact hne h2.2
/-- rows of clauses -/
structure CRows (w : World) (base : Nat) (v : Value) (C : List (List Int)) (us : List Value) : Prop where
  row : w.ownsRow base 54 1 v C.length us
  len : us.length = C.length
  els : ∀ i (h : i < C.length) (h' : i < us.length), w.ownsRow base 3 1 us[i] C[i].length (ints C[i])
theorem CRows.later {w w' : World} {base : Nat} {v : Value} {C : List (List Int)} {us : List Value} (h : CRows w base v C us) (hb : Below w.heap.size w w') : CRows w' base v C us :=
  ⟨own_lat' h.row hb, h.len, fun i h1 h2 => own_lat' (h.els i h1 h2) hb⟩
theorem CRows.nil (w : World) (base : Nat) : CRows w base (.slice none 0 0) [] [] := ⟨⟨rfl, .inl ⟨rfl, rfl⟩⟩, rfl, fun i h => absurd h (by simp)⟩
/-- a formula in its box -/
structure FBox (w : World) (F : Nat) (va : Value) (n : Int) (v : Value) : Prop where
  c0 : w.cell? ⟨F, 0, none⟩ = some va
  c1 : w.cell? ⟨F, 1, none⟩ = some (.int .i64 n)
  c2 : w.cell? ⟨F, 2, none⟩ = some v
  f1 : w.frozen? ⟨F, 1, none⟩ = false
  f2 : w.frozen? ⟨F, 2, none⟩ = false
theorem FBox.later {w w' : World} {F : Nat} {va v : Value} {n : Int} (h : FBox w F va n v) (hb : Below w.heap.size w w') : FBox w' F va n v :=
  ⟨cell_later hb h.c0, cell_later hb h.c1, cell_later hb h.c2, frozen_later hb h.c1 h.f1, frozen_later hb h.c2 h.f2⟩
theorem FBox.block {w w' : World} {F : Nat} {va v : Value} {n : Int} (h : FBox w F va n v) (e : w'.heap[F]? = w.heap[F]?) : FBox w' F va n v := by
  have ec : ∀ i, w'.cell? ⟨F, i, none⟩ = w.cell? ⟨F, i, none⟩ := fun i => World.cell?_of_block (w := w) e
  have ef : ∀ i, w'.frozen? ⟨F, i, none⟩ = w.frozen? ⟨F, i, none⟩ := fun i => World.frozen?_of_block (w := w) e
  exact ⟨by rw [ec]; exact h.c0, by rw [ec]; exact h.c1, by rw [ec]; exact h.c2, by rw [ef]; exact h.f1, by rw [ef]; exact h.f2⟩
theorem FBox.set2 {w : World} {F : Nat} {va v : Value} {n : Int} (h : FBox w F va n v) (u : Value) : FBox (w.setCell ⟨F, 2, none⟩ u) F va n u := by
  obtain ⟨h0, h1, h2, h3, h4⟩ := h
  refine ⟨?_, ?_, ?_, ?_, ?_⟩ <;> simp [go_sem, h0, h1, h2, h3, h4]
theorem FBox.set1 {w : World} {F : Nat} {va v : Value} {n m : Int} (h : FBox w F va n v) : FBox (w.setCell ⟨F, 1, none⟩ (.int .i64 m)) F va m v := by
  obtain ⟨h0, h1, h2, h3, h4⟩ := h
  refine ⟨?_, ?_, ?_, ?_, ?_⟩ <;> simp [go_sem, h0, h1, h2, h3, h4]
/-- what has become of a formula's clauses: nothing else that was there has turned, but what stands in blocks of S -/
structure DI (S : Nat → Prop) (F base : Nat) (va : Value) (n : Int) (w : World) (v : Value) (us : List Value) (w' : World) (v' : Value) (C' : List (List Int)) (us1 : List Value) : Prop where
  gr : Gr S w v w' v'
  box : FBox w' F va n v'
  rows : CRows w' base v' C' (us ++ us1)
  new : ∀ u ∈ us1, ∀ k, u.ownBlock = some k → w.heap.size ≤ k
theorem DI.trans {S : Nat → Prop} {F base : Nat} {va v v' v'' : Value} {n n' : Int} {w w' w'' : World} {us us1 us2 : List Value} {C' C'' : List (List Int)} (h : DI S F base va n w v us w' v' C' us1) (h' : DI S F base va n' w' v' (us ++ us1) w'' v'' C'' us2) : DI S F base va n' w v us w'' v'' C'' (us1 ++ us2) :=
  ⟨h.gr.trans h'.gr, h'.box, by rw [← List.append_assoc]; exact h'.rows, fun u hu k hk => by
    rcases List.mem_append.1 hu with hu | hu
    · exact h.new u hu k hk
    · exact Nat.le_trans h.gr.size (h'.new u hu k hk)⟩
theorem DI.mono {S S' : Nat → Prop} {F base : Nat} {va v v' : Value} {n : Int} {w w' : World} {us us1 : List Value} {C' : List (List Int)} (h : DI S F base va n w v us w' v' C' us1) (hs : ∀ k, S k → S' k) : DI S' F base va n w v us w' v' C' us1 :=
  ⟨h.gr.mono hs, h.box, h.rows, h.new⟩
theorem DI.later {S : Nat → Prop} {F base : Nat} {va v v' : Value} {n : Int} {w w' w'' : World} {us us1 : List Value} {C' : List (List Int)} (h : DI S F base va n w v us w' v' C' us1) (hb : Below w'.heap.size w' w'') : DI S F base va n w v us w'' v' C' us1 :=
  ⟨h.gr.later hb, h.box.later hb, h.rows.later hb, h.new⟩
theorem DI.first {S : Nat → Prop} {F base : Nat} {va v v' : Value} {n : Int} {w w0 w' : World} {us us1 : List Value} {C' : List (List Int)} (hb : Below w.heap.size w w0) (h : DI S F base va n w0 v us w' v' C' us1) : DI S F base va n w v us w' v' C' us1 :=
  ⟨(Gr.of hb).trans h.gr, h.box, h.rows, fun u hu k hk => Nat.le_trans hb.size (h.new u hu k hk)⟩
theorem DI.refl {S : Nat → Prop} {F base : Nat} {va v : Value} {n : Int} {w : World} {us : List Value} {C : List (List Int)} (hf : FBox w F va n v) (hC : CRows w base v C us) : DI S F base va n w v us w v C [] :=
  ⟨Gr.refl _ _ _, hf, by simpa using hC, fun u hu => (by cases hu)⟩
/-- what 'add' does: a clause more -/
def AddP (F base : Nat) (va : Value) (n : Int) (v : Value) (C : List (List Int)) (us : List Value) (c : List Int) (w : World) (e : Ending) (w' : World) : Prop :=
  e = .returned (.tuple #[]) ∧ ∃ v' us1, DI (· = F) F base va n w v us w' v' (C ++ [c]) us1
theorem add_fin {w V8 V9 w10 w11 : World} {F base g cap : Nat} {va v u : Value} {n x : Int} {C : List (List Int)} {us : List Value} {R : List Int} (hF : F < base) (hbw : base ≤ w.heap.size) (hC : CRows w base v C us) (hf : FBox w F va n v) (hb8 : Below w.heap.size w V8)
    (hu : V8.ownsRow w.heap.size 3 1 u (1 + R.length) (ints [x] ++ ints R)) (hb9 : Below V8.heap.size V8 V9) (ho : w10.ownsRow base 54 1 (.slice (some ⟨g, 0, none⟩) (C.length + 1) cap) (C.length + 1) (us ++ [u])) (hg : V9.grownBy w10 v.ownBlock) (hgg : v.ownBlock = some g ∨ g = V9.heap.size)
    (h11 : w11 = w10.setCell ⟨F, 2, none⟩ (.slice (some ⟨g, 0, none⟩) (C.length + 1) cap)) : AddP F base va n v C us (x :: R) w (.returned (.tuple #[])) w11 := by
  subst h11
  have hb := bon hb8 hb9
  have G1 : Gr (· = F) V9 v w10 (.slice (some ⟨g, 0, none⟩) (C.length + 1) cap) := Gr.grown hg hgg
  have hFv : v.ownBlock ≠ some F := fun e => by have : base ≤ F := (own_lt hC.row e).1; omega
  have hF1 : F < w.heap.size := by omega
  have G2 : Gr (· = F) V9 v (w10.setCell ⟨F, 2, none⟩ (.slice (some ⟨g, 0, none⟩) (C.length + 1) cap)) (.slice (some ⟨g, 0, none⟩) (C.length + 1) cap) := G1.set (p := ⟨F, 2, none⟩) rfl _
  have C9 := hC.later hb
  have U9 := own_lat' hu hb9
  have uw : u.ownBlock ≠ some F := fun e => by have : w.heap.size ≤ F := (own_lt hu e).1; omega
  refine ⟨rfl, _, [u], (Gr.of hb).trans G2, ((hf.later hb).block (hg.block F (by have := hb.size; omega) (fun e => hFv e.symm))).set2 _, ⟨?_, ?_, fun i h1 h2 => ?_⟩, fun u' hu' k hk => by
    rw [List.mem_singleton.1 hu'] at hk
    exact (own_lt hu hk).1⟩
  · have := own_far' (p := ⟨F, 2, none⟩) ho hF (.slice (some ⟨g, 0, none⟩) (C.length + 1) cap)
    simpa using this
  · simp [hC.len]
  · by_cases hi : i < C.length
    · have hi' : i < us.length := by rw [hC.len]; exact hi
      rw [List.getElem_append_left hi', List.getElem_append_left hi]
      refine own_gr G2 (C9.els i hi hi') (fun k hk => ⟨fun e => ?_, own_apart' (C9.els i hi hi') C9.row (by decide) k hk⟩)
      have e' : k = F := e
      have : base ≤ k := (own_lt (C9.els i hi hi') hk).1
      omega
    · have e : i = C.length := by simp at h1; omega
      subst e
      rw [List.getElem_append_right (by rw [hC.len]; exact Nat.le_refl _), List.getElem_append_right (Nat.le_refl _)]
      simp only [hC.len, Nat.sub_self, List.getElem_cons_zero]
      have := own_gr G2 U9 (fun k hk => ⟨fun e => uw (by rw [hk]; exact congrArg some e), own_apart' U9 C9.row (by decide) k hk⟩)
      have e2 : ints (x :: R) = ints [x] ++ ints R := rfl
      rw [Nat.add_comm 1 R.length] at this
      rw [e2, List.length_cons]
      exact ⟨this.1, this.2.imp id (fun ⟨g, cap, cur, h1, h2, h3⟩ => ⟨g, cap, cur, h1, Nat.le_trans hbw h2, h3⟩)⟩
theorem below_own {a w w' : World} {B n c : Nat} (h : Below a.heap.size a w) (hB : a.heap.size ≤ B) (hg : w.grownBy w' (Value.slice (some ⟨B, 0, none⟩) n c).ownBlock) : Below a.heap.size a w' :=
  ⟨hg.os.trans h.os, hg.tape.trans h.tape, hg.output.trans h.output, Nat.le_trans h.size hg.size, fun k hk => (hg.block k (Nat.lt_of_lt_of_le hk h.size) (by simp only [Value.ownBlock, ne_eq, Option.some.injEq]; omega)).trans (h.block k hk)⟩
theorem cell_grown0 {w w' : World} {b i B n c : Nat} {x : Value} (hc : w.cell? ⟨b, i, none⟩ = some x) (hg : w.grownBy w' (Value.slice (some ⟨B, 0, none⟩) n c).ownBlock) (hb : b < B) : w'.cell? ⟨b, i, none⟩ = some x :=
  cell_grown (v := .slice (some ⟨B, 0, none⟩) n c) hg hc (by simp only [Value.ownBlock, ne_eq, Option.some.injEq]; omega)
theorem own_val {w : World} {base e s n : Nat} {v : Value} {xs : List Value} (h : w.ownsRow base e s v n xs) : ∃ a c, v = .slice a n c := by
  rcases h.2 with ⟨rfl, rfl⟩ | ⟨g, cap, cur, rfl, -⟩
  · exact ⟨none, 0, rfl⟩
  · exact ⟨_, cap, rfl⟩
theorem one_cell (w : World) (x : Value) (t : TypeId) : ∀ i u, [x][i]? = some u → (w.alloc (.cells #[x] t)).cell? ((⟨w.heap.size, 0, none⟩ : Addr).add i) = some u := by
  intro i u h
  match i, h with
  | 0, h => simpa [go_sem, Addr.add] using h
  | i + 1, h => simp at h
set_option maxHeartbeats 4000000 in
set_option maxRecDepth 100000 in
theorem add_any (F base : Nat) (va v r : Value) (n x : Int) (C : List (List Int)) (us : List Value) (R : List Int) (w : World) (hF : F < base) (hbw : base ≤ w.heap.size) (hC : CRows w base v C us) (hf : FBox w F va n v) (hr : IL w r R) (hl1 : C.length ≤ 50000) (hl2 : R.length ≤ 50000) :
    Calls Tryd.prog 64 #[.pointer (some ⟨F, 0, none⟩), .int .i64 x, r] w (AddP F base va n v C us (x :: R) w) := by
  obtain ⟨i0, hi0, hz0, hz1, hz2⟩ := sl_parts
  have c2 := hf.c2
  have HC := mkHid hC
  have HF := mkHid hf
  have HR := mkHid hr
  clear hC hf hr
  go_enter Tryd.func64, Tryd.ntmps64
  go_wp2_with fail
  (try dsimp only [List.append])
  refine wp_region_held_drew (S := fun _ => True) (by kernel_rfl) trivial (fun hHeld => ?_)
  have hb0 : Below w.heap.size w w.drew := bdrew (Below.refl w.heap.size w)
  have c2d : w.drew.cell? ⟨F, 2, none⟩ = some v := c2
  have HR0 := mkHid (HR.out.later hb0)
  have HB0 := mkHid hb0
  have hsV : w.heap.size ≤ w.drew.heap.size := hb0.size
  clear c2 hb0
  generalize w.drew = V at *
  refine wpAnyH_take (i := 0) (v := ?_) rfl (by kernel_rfl) (by kernel_rfl) (by kernel_rfl) (fun _ _ _ h => h) (Or.inl ⟨by kernel_rfl, ?_⟩) (by assumption) ?_
  rotate_left
  · (intro w hSw; (try dsimp only at hSw); go_simp; try with_reducible rfl)
  simp only [Act.put, List.getElem_toArray, List.getElem_cons_zero, List.setIfInBounds_toArray, List.set_cons_zero, List.set_cons_succ]
  refine wpAnyH_take (i := 1) (v := ?_) rfl (by kernel_rfl) (by kernel_rfl) (by kernel_rfl) (fun _ _ _ h => h) (Or.inl ⟨by kernel_rfl, ?_⟩) (by assumption) ?_
  rotate_left
  · (intro w hSw; (try dsimp only at hSw); go_simp; try with_reducible rfl)
  simp only [Act.put, List.getElem_toArray, List.getElem_cons_succ, List.getElem_cons_zero, List.setIfInBounds_toArray, List.set_cons_zero, List.set_cons_succ]
  refine wpAnyH_take (i := 2) (v := ?_) rfl (by kernel_rfl) (by kernel_rfl) (by kernel_rfl) (fun _ _ _ h => h) (Or.inl ⟨by kernel_rfl, ?_⟩) (by assumption) ?_
  rotate_left
  · (intro w hSw; (try dsimp only at hSw); go_simp; try with_reducible rfl)
  simp only [Act.put, List.getElem_toArray, List.getElem_cons_succ, List.getElem_cons_zero, List.setIfInBounds_toArray, List.set_cons_zero, List.set_cons_succ]
  refine wpAnyH_take (i := 3) (v := ?_) rfl (by kernel_rfl) (by kernel_rfl) (by kernel_rfl) (fun _ _ _ h => h) (Or.inl ⟨by kernel_rfl, ?_⟩) (by assumption) ?_
  rotate_left
  · (intro w hSw; (try dsimp only at hSw); go_simp; try with_reducible rfl)
  simp only [Act.put, List.getElem_toArray, List.getElem_cons_succ, List.getElem_cons_zero, List.setIfInBounds_toArray, List.set_cons_zero, List.set_cons_succ]
  refine wpAnyH_take (i := 5) (v := ?_) rfl (by kernel_rfl) (by kernel_rfl) (by kernel_rfl) (fun _ _ _ h => h) (Or.inl ⟨by kernel_rfl, ?_⟩) (by assumption) ?_
  rotate_left
  · (intro w hSw; (try dsimp only at hSw); go_simp; try with_reducible rfl)
  simp only [Act.put, List.getElem_toArray, List.getElem_cons_succ, List.getElem_cons_zero, List.setIfInBounds_toArray, List.set_cons_zero, List.set_cons_succ]
  refine wpAnyH_take (i := 7) (v := ?_) rfl (by kernel_rfl) (by kernel_rfl) (by kernel_rfl) (fun _ _ _ h => h) (Or.inl ⟨by kernel_rfl, ?_⟩) (by assumption) ?_
  rotate_left
  · (intro w hSw; (try dsimp only at hSw); go_simp; try with_reducible rfl)
  simp only [Act.put, List.getElem_toArray, List.getElem_cons_succ, List.getElem_cons_zero, List.setIfInBounds_toArray, List.set_cons_zero, List.set_cons_succ]
  refine wpAnyH_ready (rs := [4, 6]) (by kernel_rfl) (by simp) ?_
  refine AllReadyH.cons rfl (fun K hK => ?_) ?_
  · have oc := c2d
    go_simp
    refine hK.out _ _ trivial (fun hHeld => ?_)
    clear hK oc
    refine wpAnyH_ready (rs := [6]) (by kernel_rfl) (by simp) ?_
    refine AllReadyH.cons rfl (fun K hK => ?_) AllReadyH.nil
    go_simp
    refine hK.out _ _ trivial (fun hHeld => ?_)
    clear hK
    have b6 := bel_alloc V (.cells #[.int .i64 x] 3)
    have O6 := mkHid (World.ownsRow_lit (base := w.heap.size) (size := 1) (e := 3) V #[.int .i64 x] 1 hsV (by decide) rfl)
    have HR6 := mkHid (HR0.out.later b6)
    have HB6 := mkHid (bon HB0.out b6)
    have C2 := mkHid (cell_later b6 c2d)
    have G6 : w.heap.size ≤ (V.alloc (.cells #[.int .i64 x] 3)).heap.size := HB6.out.size
    clear b6
    generalize V.alloc (.cells #[.int .i64 x] 3) = W6 at *
    refine wpAnyH_ready (rs := [8]) (by kernel_rfl) (by simp) ?_
    refine AllReadyH.cons rfl (fun K hK => ?_) AllReadyH.nil
    refine step_ints (by rfl) _ _ (by rfl) (by rfl) (R := R) (by rfl) (by rfl) O6.out HR6.out (by omega) G6 (fun v8 w8 ho8 hg8 => ?_)
    refine hK.out _ _ trivial (fun hHeld => ?_)
    clear hK
    have HB8 : Hid (Below w.heap.size w w8) := below_own HB6.out hsV hg8
    replace C2 := mkHid (cell_grown0 C2.out hg8 (by omega))
    have HO8 := mkHid ho8
    clear ho8 hg8
    obtain ⟨a8, c8, rfl⟩ := own_val HO8.out
    refine wpAnyH_ready (rs := [9]) (by kernel_rfl) (by simp) ?_
    refine AllReadyH.cons rfl (fun K hK => ?_) AllReadyH.nil
    go_simp
    refine hK.out _ _ trivial (fun hHeld => ?_)
    clear hK
    have b9 := bel_alloc w8 (.cells #[.slice a8 (1 + R.length) c8] 54)
    have N9 := mkHid (one_cell w8 (.slice a8 (1 + R.length) c8) 54)
    replace C2 := mkHid (cell_later b9 C2.out)
    have HB9 := mkHid b9
    have HC9 := mkHid (HC.out.later (bon HB8.out b9))
    have G9 : base ≤ (w8.alloc (.cells #[.slice a8 (1 + R.length) c8] 54)).heap.size := Nat.le_trans hbw (bon HB8.out b9).size
    clear b9
    generalize w8.alloc (.cells #[.slice a8 (1 + R.length) c8] 54) = W9 at *
    refine wpAnyH_ready (rs := [10]) (by kernel_rfl) (by simp) ?_
    refine AllReadyH.cons rfl (fun K hK => ?_) AllReadyH.nil
    refine step_append_lies _ (by rfl) _ _ _ (by rfl) base 54 i0 _ 1 24 Tryd.underlying47 hi0 hz0 hz1 hz2 rfl (by omega) v C.length us (by rfl) HC9.out.row ⟨_, 0, none⟩ 1 1 [.slice a8 (1 + R.length) c8] (by rfl) rfl N9.out (by simp; rfl) (by omega) (by unfold maxLen; omega) (by omega) G9 W9.heap.size rfl (fun g cap w10 ho10 hg10 hgg10 hlt10 => ?_)
    refine hK.out _ _ trivial (fun hHeld => ?_)
    clear hK
    have fF := HF.out.later (bon HB8.out HB9.out)
    have hFv : some F ≠ v.ownBlock := fun e => by have : base ≤ F := (own_lt HC9.out.row e.symm).1; omega
    have d0 := cell_grown hg10 fF.c2 hFv
    have d1 := frozen_grown hg10 fF.c2 fF.f2 hFv
    have HQ := mkHid (fun (w11 : World) h => add_fin (w11 := w11) hF hbw HC.out HF.out HB8.out HO8.out HB9.out ho10 hg10 hgg10 h)
    clear ho10 hg10 hgg10 fF
    refine wpAnyH_take (i := 11) (v := ?_) rfl (by kernel_rfl) (by kernel_rfl) (by kernel_rfl) (fun _ _ _ h => h) (Or.inl ⟨by kernel_rfl, ?_⟩) (by assumption) ?_
    rotate_left
    · (intro w hSw; (try dsimp only at hSw); go_simp; try with_reducible rfl)
    simp only [Act.put, List.getElem_toArray, List.getElem_cons_succ, List.getElem_cons_zero, List.setIfInBounds_toArray, List.set_cons_zero, List.set_cons_succ]
    refine wpAnyH_take (i := 12) (v := ?_) rfl (by kernel_rfl) (by kernel_rfl) (by kernel_rfl) (fun _ _ _ h => h) (Or.inl ⟨by kernel_rfl, ?_⟩) (by assumption) ?_
    rotate_left
    · (intro w hSw; (try dsimp only at hSw); go_simp; try with_reducible rfl)
    simp only [Act.put, List.getElem_toArray, List.getElem_cons_succ, List.getElem_cons_zero, List.setIfInBounds_toArray, List.set_cons_zero, List.set_cons_succ]
    refine wpAnyH_ready (rs := [13]) (by kernel_rfl) (by simp) ?_
    refine AllReadyH.cons rfl (fun K hK => ?_) AllReadyH.nil
    go_simp
    refine hK.out _ _ trivial (fun hHeld => ?_)
    clear hK
    refine wpAnyH_done (by kernel_rfl) ?_ _
    go_wp2
    go_end0
    exact HQ.out _ rfl
  refine AllReadyH.cons rfl (fun K hK => ?_) AllReadyH.nil
  go_simp
  refine hK.out _ _ trivial (fun hHeld => ?_)
  clear hK
  have b6 := bel_alloc V (.cells #[.int .i64 x] 3)
  have O6 := mkHid (World.ownsRow_lit (base := w.heap.size) (size := 1) (e := 3) V #[.int .i64 x] 1 hsV (by decide) rfl)
  have HR6 := mkHid (HR0.out.later b6)
  have HB6 := mkHid (bon HB0.out b6)
  have C2 := mkHid (cell_later b6 c2d)
  have G6 : w.heap.size ≤ (V.alloc (.cells #[.int .i64 x] 3)).heap.size := HB6.out.size
  clear b6
  generalize V.alloc (.cells #[.int .i64 x] 3) = W6 at *
  refine wpAnyH_ready (rs := [4, 8]) (by kernel_rfl) (by simp) ?_
  refine AllReadyH.cons rfl (fun K hK => ?_) ?_
  · have oc := C2.out
    go_simp
    refine hK.out _ _ trivial (fun hHeld => ?_)
    clear hK oc
    refine wpAnyH_ready (rs := [8]) (by kernel_rfl) (by simp) ?_
    refine AllReadyH.cons rfl (fun K hK => ?_) AllReadyH.nil
    refine step_ints (by rfl) _ _ (by rfl) (by rfl) (R := R) (by rfl) (by rfl) O6.out HR6.out (by omega) G6 (fun v8 w8 ho8 hg8 => ?_)
    refine hK.out _ _ trivial (fun hHeld => ?_)
    clear hK
    have HB8 : Hid (Below w.heap.size w w8) := below_own HB6.out hsV hg8
    replace C2 := mkHid (cell_grown0 C2.out hg8 (by omega))
    have HO8 := mkHid ho8
    clear ho8 hg8
    obtain ⟨a8, c8, rfl⟩ := own_val HO8.out
    refine wpAnyH_ready (rs := [9]) (by kernel_rfl) (by simp) ?_
    refine AllReadyH.cons rfl (fun K hK => ?_) AllReadyH.nil
    go_simp
    refine hK.out _ _ trivial (fun hHeld => ?_)
    clear hK
    have b9 := bel_alloc w8 (.cells #[.slice a8 (1 + R.length) c8] 54)
    have N9 := mkHid (one_cell w8 (.slice a8 (1 + R.length) c8) 54)
    replace C2 := mkHid (cell_later b9 C2.out)
    have HB9 := mkHid b9
    have HC9 := mkHid (HC.out.later (bon HB8.out b9))
    have G9 : base ≤ (w8.alloc (.cells #[.slice a8 (1 + R.length) c8] 54)).heap.size := Nat.le_trans hbw (bon HB8.out b9).size
    clear b9
    generalize w8.alloc (.cells #[.slice a8 (1 + R.length) c8] 54) = W9 at *
    refine wpAnyH_ready (rs := [10]) (by kernel_rfl) (by simp) ?_
    refine AllReadyH.cons rfl (fun K hK => ?_) AllReadyH.nil
    refine step_append_lies _ (by rfl) _ _ _ (by rfl) base 54 i0 _ 1 24 Tryd.underlying47 hi0 hz0 hz1 hz2 rfl (by omega) v C.length us (by rfl) HC9.out.row ⟨_, 0, none⟩ 1 1 [.slice a8 (1 + R.length) c8] (by rfl) rfl N9.out (by simp; rfl) (by omega) (by unfold maxLen; omega) (by omega) G9 W9.heap.size rfl (fun g cap w10 ho10 hg10 hgg10 hlt10 => ?_)
    refine hK.out _ _ trivial (fun hHeld => ?_)
    clear hK
    have fF := HF.out.later (bon HB8.out HB9.out)
    have hFv : some F ≠ v.ownBlock := fun e => by have : base ≤ F := (own_lt HC9.out.row e.symm).1; omega
    have d0 := cell_grown hg10 fF.c2 hFv
    have d1 := frozen_grown hg10 fF.c2 fF.f2 hFv
    have HQ := mkHid (fun (w11 : World) h => add_fin (w11 := w11) hF hbw HC.out HF.out HB8.out HO8.out HB9.out ho10 hg10 hgg10 h)
    clear ho10 hg10 hgg10 fF
    refine wpAnyH_take (i := 11) (v := ?_) rfl (by kernel_rfl) (by kernel_rfl) (by kernel_rfl) (fun _ _ _ h => h) (Or.inl ⟨by kernel_rfl, ?_⟩) (by assumption) ?_
    rotate_left
    · (intro w hSw; (try dsimp only at hSw); go_simp; try with_reducible rfl)
    simp only [Act.put, List.getElem_toArray, List.getElem_cons_succ, List.getElem_cons_zero, List.setIfInBounds_toArray, List.set_cons_zero, List.set_cons_succ]
    refine wpAnyH_take (i := 12) (v := ?_) rfl (by kernel_rfl) (by kernel_rfl) (by kernel_rfl) (fun _ _ _ h => h) (Or.inl ⟨by kernel_rfl, ?_⟩) (by assumption) ?_
    rotate_left
    · (intro w hSw; (try dsimp only at hSw); go_simp; try with_reducible rfl)
    simp only [Act.put, List.getElem_toArray, List.getElem_cons_succ, List.getElem_cons_zero, List.setIfInBounds_toArray, List.set_cons_zero, List.set_cons_succ]
    refine wpAnyH_ready (rs := [13]) (by kernel_rfl) (by simp) ?_
    refine AllReadyH.cons rfl (fun K hK => ?_) AllReadyH.nil
    go_simp
    refine hK.out _ _ trivial (fun hHeld => ?_)
    clear hK
    refine wpAnyH_done (by kernel_rfl) ?_ _
    go_wp2
    go_end0
    exact HQ.out _ rfl
  refine AllReadyH.cons rfl (fun K hK => ?_) AllReadyH.nil
  refine step_ints (by rfl) _ _ (by rfl) (by rfl) (R := R) (by rfl) (by rfl) O6.out HR6.out (by omega) G6 (fun v8 w8 ho8 hg8 => ?_)
  refine hK.out _ _ trivial (fun hHeld => ?_)
  clear hK
  have HB8 : Hid (Below w.heap.size w w8) := below_own HB6.out hsV hg8
  replace C2 := mkHid (cell_grown0 C2.out hg8 (by omega))
  have HO8 := mkHid ho8
  clear ho8 hg8
  obtain ⟨a8, c8, rfl⟩ := own_val HO8.out
  refine wpAnyH_ready (rs := [4, 9]) (by kernel_rfl) (by simp) ?_
  refine AllReadyH.cons rfl (fun K hK => ?_) ?_
  · have oc := C2.out
    go_simp
    refine hK.out _ _ trivial (fun hHeld => ?_)
    clear hK oc
    refine wpAnyH_ready (rs := [9]) (by kernel_rfl) (by simp) ?_
    refine AllReadyH.cons rfl (fun K hK => ?_) AllReadyH.nil
    go_simp
    refine hK.out _ _ trivial (fun hHeld => ?_)
    clear hK
    have b9 := bel_alloc w8 (.cells #[.slice a8 (1 + R.length) c8] 54)
    have N9 := mkHid (one_cell w8 (.slice a8 (1 + R.length) c8) 54)
    replace C2 := mkHid (cell_later b9 C2.out)
    have HB9 := mkHid b9
    have HC9 := mkHid (HC.out.later (bon HB8.out b9))
    have G9 : base ≤ (w8.alloc (.cells #[.slice a8 (1 + R.length) c8] 54)).heap.size := Nat.le_trans hbw (bon HB8.out b9).size
    clear b9
    generalize w8.alloc (.cells #[.slice a8 (1 + R.length) c8] 54) = W9 at *
    refine wpAnyH_ready (rs := [10]) (by kernel_rfl) (by simp) ?_
    refine AllReadyH.cons rfl (fun K hK => ?_) AllReadyH.nil
    refine step_append_lies _ (by rfl) _ _ _ (by rfl) base 54 i0 _ 1 24 Tryd.underlying47 hi0 hz0 hz1 hz2 rfl (by omega) v C.length us (by rfl) HC9.out.row ⟨_, 0, none⟩ 1 1 [.slice a8 (1 + R.length) c8] (by rfl) rfl N9.out (by simp; rfl) (by omega) (by unfold maxLen; omega) (by omega) G9 W9.heap.size rfl (fun g cap w10 ho10 hg10 hgg10 hlt10 => ?_)
    refine hK.out _ _ trivial (fun hHeld => ?_)
    clear hK
    have fF := HF.out.later (bon HB8.out HB9.out)
    have hFv : some F ≠ v.ownBlock := fun e => by have : base ≤ F := (own_lt HC9.out.row e.symm).1; omega
    have d0 := cell_grown hg10 fF.c2 hFv
    have d1 := frozen_grown hg10 fF.c2 fF.f2 hFv
    have HQ := mkHid (fun (w11 : World) h => add_fin (w11 := w11) hF hbw HC.out HF.out HB8.out HO8.out HB9.out ho10 hg10 hgg10 h)
    clear ho10 hg10 hgg10 fF
    refine wpAnyH_take (i := 11) (v := ?_) rfl (by kernel_rfl) (by kernel_rfl) (by kernel_rfl) (fun _ _ _ h => h) (Or.inl ⟨by kernel_rfl, ?_⟩) (by assumption) ?_
    rotate_left
    · (intro w hSw; (try dsimp only at hSw); go_simp; try with_reducible rfl)
    simp only [Act.put, List.getElem_toArray, List.getElem_cons_succ, List.getElem_cons_zero, List.setIfInBounds_toArray, List.set_cons_zero, List.set_cons_succ]
    refine wpAnyH_take (i := 12) (v := ?_) rfl (by kernel_rfl) (by kernel_rfl) (by kernel_rfl) (fun _ _ _ h => h) (Or.inl ⟨by kernel_rfl, ?_⟩) (by assumption) ?_
    rotate_left
    · (intro w hSw; (try dsimp only at hSw); go_simp; try with_reducible rfl)
    simp only [Act.put, List.getElem_toArray, List.getElem_cons_succ, List.getElem_cons_zero, List.setIfInBounds_toArray, List.set_cons_zero, List.set_cons_succ]
    refine wpAnyH_ready (rs := [13]) (by kernel_rfl) (by simp) ?_
    refine AllReadyH.cons rfl (fun K hK => ?_) AllReadyH.nil
    go_simp
    refine hK.out _ _ trivial (fun hHeld => ?_)
    clear hK
    refine wpAnyH_done (by kernel_rfl) ?_ _
    go_wp2
    go_end0
    exact HQ.out _ rfl
  refine AllReadyH.cons rfl (fun K hK => ?_) AllReadyH.nil
  go_simp
  refine hK.out _ _ trivial (fun hHeld => ?_)
  clear hK
  have b9 := bel_alloc w8 (.cells #[.slice a8 (1 + R.length) c8] 54)
  have N9 := mkHid (one_cell w8 (.slice a8 (1 + R.length) c8) 54)
  replace C2 := mkHid (cell_later b9 C2.out)
  have HB9 := mkHid b9
  have HC9 := mkHid (HC.out.later (bon HB8.out b9))
  have G9 : base ≤ (w8.alloc (.cells #[.slice a8 (1 + R.length) c8] 54)).heap.size := Nat.le_trans hbw (bon HB8.out b9).size
  clear b9
  generalize w8.alloc (.cells #[.slice a8 (1 + R.length) c8] 54) = W9 at *
  refine wpAnyH_ready (rs := [4]) (by kernel_rfl) (by simp) ?_
  refine AllReadyH.cons rfl (fun K hK => ?_) AllReadyH.nil
  have oc := C2.out
  go_simp
  refine hK.out _ _ trivial (fun hHeld => ?_)
  clear hK oc
  refine wpAnyH_ready (rs := [10]) (by kernel_rfl) (by simp) ?_
  refine AllReadyH.cons rfl (fun K hK => ?_) AllReadyH.nil
  refine step_append_lies _ (by rfl) _ _ _ (by rfl) base 54 i0 _ 1 24 Tryd.underlying47 hi0 hz0 hz1 hz2 rfl (by omega) v C.length us (by rfl) HC9.out.row ⟨_, 0, none⟩ 1 1 [.slice a8 (1 + R.length) c8] (by rfl) rfl N9.out (by simp; rfl) (by omega) (by unfold maxLen; omega) (by omega) G9 W9.heap.size rfl (fun g cap w10 ho10 hg10 hgg10 hlt10 => ?_)
  refine hK.out _ _ trivial (fun hHeld => ?_)
  clear hK
  have fF := HF.out.later (bon HB8.out HB9.out)
  have hFv : some F ≠ v.ownBlock := fun e => by have : base ≤ F := (own_lt HC9.out.row e.symm).1; omega
  have d0 := cell_grown hg10 fF.c2 hFv
  have d1 := frozen_grown hg10 fF.c2 fF.f2 hFv
  have HQ := mkHid (fun (w11 : World) h => add_fin (w11 := w11) hF hbw HC.out HF.out HB8.out HO8.out HB9.out ho10 hg10 hgg10 h)
  clear ho10 hg10 hgg10 fF
  refine wpAnyH_take (i := 11) (v := ?_) rfl (by kernel_rfl) (by kernel_rfl) (by kernel_rfl) (fun _ _ _ h => h) (Or.inl ⟨by kernel_rfl, ?_⟩) (by assumption) ?_
  rotate_left
  · (intro w hSw; (try dsimp only at hSw); go_simp; try with_reducible rfl)
  simp only [Act.put, List.getElem_toArray, List.getElem_cons_succ, List.getElem_cons_zero, List.setIfInBounds_toArray, List.set_cons_zero, List.set_cons_succ]
  refine wpAnyH_take (i := 12) (v := ?_) rfl (by kernel_rfl) (by kernel_rfl) (by kernel_rfl) (fun _ _ _ h => h) (Or.inl ⟨by kernel_rfl, ?_⟩) (by assumption) ?_
  rotate_left
  · (intro w hSw; (try dsimp only at hSw); go_simp; try with_reducible rfl)
  simp only [Act.put, List.getElem_toArray, List.getElem_cons_succ, List.getElem_cons_zero, List.setIfInBounds_toArray, List.set_cons_zero, List.set_cons_succ]
  refine wpAnyH_ready (rs := [13]) (by kernel_rfl) (by simp) ?_
  refine AllReadyH.cons rfl (fun K hK => ?_) AllReadyH.nil
  go_simp
  refine hK.out _ _ trivial (fun hHeld => ?_)
  clear hK
  refine wpAnyH_done (by kernel_rfl) ?_ _
  go_wp2
  go_end0
  exact HQ.out _ rfl
end Go.Proofs.YtaiachmolkjedaaDoor
