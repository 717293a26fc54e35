/-
  The closure that gathers atoms: package cnf's 'gathered'.
-/
import Derived.Test.YtaiachmolkjedaaDoorCnC
import Derived.Test.YtaiachmolkjedaaDoorCnE
import Derived.Deep.RegionHeld2
namespace Go.Proofs.YtaiachmolkjedaaDoor
open Go.RowKit

theorem Gr.setOwn {S : Nat → Prop} {a w : World} {v v' : Value} (h : Gr S a v w v') {p : Addr} (hp : v.ownBlock = some p.block ∨ a.heap.size ≤ p.block) (u : Value) : Gr S a v (w.setCell p u) v' :=
  ⟨h.os, h.tape, h.output, by simpa [World.setCell] using h.size, fun k hk hs hv => by
    rw [Below.heap_setCell w p u k (by
      rintro rfl
      rcases hp with e | e
      · exact hv e.symm
      · omega)]; exact h.block k hk hs hv, h.own⟩
/-- a row of atoms, in a box -/
structure ARow (w : World) (base nb : Nat) (v : Value) (L : List Tm) : Prop where
  box : Single w nb v
  own : w.ownsRow base 24 4 v L.length (L.flatMap tm4)
  els : ∀ x ∈ L, TIn w w.heap.size x ∧ TAw nb x ∧ x.size ≤ 2000 ∧ x.deep ≤ 100
  aw : ∀ x ∈ L, ∀ g, v.ownBlock = some g → TAw g x
theorem ARow.later {w w' : World} {base nb : Nat} {v : Value} {L : List Tm} (h : ARow w base nb v L) (hb : Below w.heap.size w w') : ARow w' base nb v L :=
  ⟨⟨cell_later hb h.box.1, frozen_later hb h.box.1 h.box.2⟩, own_lat' h.own hb, fun x hx => ⟨(h.els x hx).1.later hb, (h.els x hx).2⟩, h.aw⟩
theorem ARow.row {w : World} {base nb : Nat} {v : Value} {L : List Tm} (h : ARow w base nb v L) (hl : L.length ≤ 2000) : Row4 w v L := by
  obtain ⟨a, cap, e, hc, hm⟩ := own_is h.own
  refine ⟨a, cap, e, by unfold maxLen; omega, fun j hj => ?_⟩
  obtain ⟨g, cap', e'⟩ := own_some h.own (by omega)
  rw [e] at e'
  simp only [Value.slice.injEq, true_and] at e'
  obtain ⟨rfl, rfl⟩ := e'
  have ho := h.own
  rw [e] at ho
  refine ⟨g, 0, rfl, (own_lt ho rfl).2, ?_⟩
  rw [Nat.zero_add]
  exact own_four ho j hj
/-- an atom more -/
theorem ARow.put {W w9 : World} {base nb g n cap : Nat} {v : Value} {L : List Tm} {z : Tm} (h : ARow W base nb v L) (hG : Gr (· = nb) W v w9 (.slice (some ⟨g, 0, none⟩) n cap)) (hs : Single w9 nb (.slice (some ⟨g, 0, none⟩) n cap)) (hn : n = L.length + 1)
    (ho : w9.ownsRow base 24 4 (.slice (some ⟨g, 0, none⟩) n cap) n ((L ++ [z]).flatMap tm4)) (hgg : v.ownBlock = some g ∨ g = W.heap.size) (hz : TIn W W.heap.size z ∧ TAw nb z ∧ z.size ≤ 2000 ∧ z.deep ≤ 100) (hzg : ∀ g, v.ownBlock = some g → TAw g z) : ARow w9 base nb (.slice (some ⟨g, 0, none⟩) n cap) (L ++ [z]) := by
  have E : ∀ x ∈ L ++ [z], (TIn W W.heap.size x ∧ TAw nb x ∧ x.size ≤ 2000 ∧ x.deep ≤ 100) ∧ ∀ g, v.ownBlock = some g → TAw g x := fun x hx => by
    rcases List.mem_append.1 hx with hx | hx
    · exact ⟨h.els x hx, h.aw x hx⟩
    · rw [List.mem_singleton.1 hx]; exact ⟨hz, hzg⟩
  refine ⟨hs, by rw [List.length_append, List.length_singleton, ← hn]; exact ho, fun x hx => ?_, fun x hx g' hg' => ?_⟩
  · obtain ⟨⟨h1, h2, h3, h4⟩, h5⟩ := E x hx
    exact ⟨(hG.tin h1 (fun k e => by have e' : k = nb := e; rw [e']; exact h2) h5).mono hG.size, h2, h3, h4⟩
  · obtain ⟨⟨h1, h2, h3, h4⟩, h5⟩ := E x hx
    simp only [Value.ownBlock, Option.some.injEq] at hg'
    subst hg'
    rcases hgg with e | e
    · exact h5 _ e
    · rw [e]; exact h1.aw (Nat.le_refl _)
/-- four cells written into the last element of a row of terms -/
theorem own_last {w : World} {base g n cap : Nat} {L : List Tm} {y z : Tm} (ho : w.ownsRow base 24 4 (.slice (some ⟨g, 0, none⟩) n cap) n (L.flatMap tm4 ++ tm4 y)) :
    ((((w.setCell ⟨g, L.length * 4, none⟩ (.int .i64 z.op)).setCell ⟨g, L.length * 4 + 1, none⟩ (.string z.nm)).setCell ⟨g, L.length * 4 + 2, none⟩ (.int .i64 z.n)).setCell ⟨g, L.length * 4 + 3, none⟩ (.slice z.a z.ks.length z.c)).ownsRow base 24 4 (.slice (some ⟨g, 0, none⟩) n cap) n ((L ++ [z]).flatMap tm4) := by
  have r1 := (ho.stored (L.length * 4) (.int .i64 z.op)).1
  have r2 := (r1.stored (L.length * 4 + 1) (.string z.nm)).1
  have r3 := (r2.stored (L.length * 4 + 2) (.int .i64 z.n)).1
  have r4 := (r3.stored (L.length * 4 + 3) (.slice z.a z.ks.length z.c)).1
  have e4 := set4_row (L.flatMap tm4) [] (.int .i64 y.op) (.string y.nm) (.int .i64 y.n) (.slice y.a y.ks.length y.c) (.int .i64 z.op) (.string z.nm) (.int .i64 z.n) (.slice z.a z.ks.length z.c) (L.length * 4) (tm4_len L)
  simp only [List.append_nil] at e4
  have e5 : (L ++ [z]).flatMap tm4 = L.flatMap tm4 ++ [.int .i64 z.op, .string z.nm, .int .i64 z.n, .slice z.a z.ks.length z.c] := by simp [tm4]
  have e6 : L.flatMap tm4 ++ tm4 y = L.flatMap tm4 ++ [.int .i64 y.op, .string y.nm, .int .i64 y.n, .slice y.a y.ks.length y.c] := rfl
  rw [e6, e4] at r4
  rw [e5]
  exact r4
theorem own_there {w : World} {base g n cap : Nat} {xs : List Value} (ho : w.ownsRow base 24 4 (.slice (some ⟨g, 0, none⟩) n cap) n xs) (i : Nat) (hi : i < n * 4) : ∃ u, w.cell? ⟨g, i, none⟩ = some u ∧ w.frozen? ⟨g, i, none⟩ = false :=
  ⟨_, (ho.cellAt i (by omega)).trans (List.getElem?_eq_getElem (by rw [ho.1]; exact hi)), ho.frozenAt i⟩
theorem zero_cells (w : World) : ∀ i u, (tm4 (q0 0))[i]? = some u → (w.alloc (.cells #[.int .i64 0, .string ⟨#[]⟩, .int .i64 0, .slice none 0 0] 24)).cell? ((⟨w.heap.size, 0, none⟩ : Addr).add i) = some u := by
  intro i u h
  unfold tm4 q0 at h
  match i, h with
  | 0, h => simpa [go_sem, Addr.add, Tm.op] using h
  | 1, h => simpa [go_sem, Addr.add, Tm.nm] using h
  | 2, h => simpa [go_sem, Addr.add, Tm.n] using h
  | 3, h => simpa [go_sem, Addr.add, Tm.a, Tm.ks, Tm.c] using h
  | i + 4, h => simp at h
theorem tm4_one' (z : Tm) : ∀ u ∈ tm4 z, u.oneCell' = true := by
  intro u hu
  simp only [tm4, List.mem_cons, List.not_mem_nil, or_false] at hu
  rcases hu with rfl | rfl | rfl | rfl <;> rfl
theorem keep4 {w w' : World} {b : Nat} {v0 v1 v2 v3 : Value} (h : w.cell? ⟨b, 0, none⟩ = some v0 ∧ w.cell? ⟨b, 1, none⟩ = some v1 ∧ w.cell? ⟨b, 2, none⟩ = some v2 ∧ w.cell? ⟨b, 3, none⟩ = some v3) (hb : w'.heap[b]? = w.heap[b]?) :
    w'.cell? ⟨b, 0, none⟩ = some v0 ∧ w'.cell? ⟨b, 1, none⟩ = some v1 ∧ w'.cell? ⟨b, 2, none⟩ = some v2 ∧ w'.cell? ⟨b, 3, none⟩ = some v3 := by
  have e : ∀ i, w'.cell? ⟨b, i, none⟩ = w.cell? ⟨b, i, none⟩ := fun i => World.cell?_of_block (w := w) hb
  rw [e, e, e, e]; exact h
theorem later_block {w w' : World} {b i : Nat} {x : Value} (hb : Below w.heap.size w w') (h : w.cell? ⟨b, i, none⟩ = some x) : w'.heap[b]? = w.heap[b]? := hb.block b (World.block_lt_of_cell? _ _ h)
theorem cell_grown {w w' : World} {b i : Nat} {x v : Value} (h : w.grownBy w' v.ownBlock) (hc : w.cell? ⟨b, i, none⟩ = some x) (hv : some b ≠ v.ownBlock) : w'.cell? ⟨b, i, none⟩ = some x := by
  rw [World.cell?_of_block (w := w) (h.block b (World.block_lt_of_cell? _ _ hc) hv)]; exact hc
theorem frozen_grown {w w' : World} {b i : Nat} {x v : Value} (h : w.grownBy w' v.ownBlock) (hc : w.cell? ⟨b, i, none⟩ = some x) (hf : w.frozen? ⟨b, i, none⟩ = false) (hv : some b ≠ v.ownBlock) : w'.frozen? ⟨b, i, none⟩ = false := by
  rw [World.frozen?_of_block (w := w) (h.block b (World.block_lt_of_cell? _ _ hc) hv)]; exact hf
/-- four cells written -/
def st4 (w : World) (g o : Nat) (z : Tm) : World := (((w.setCell ⟨g, o, none⟩ (.int .i64 z.op)).setCell ⟨g, o + 1, none⟩ (.string z.nm)).setCell ⟨g, o + 2, none⟩ (.int .i64 z.n)).setCell ⟨g, o + 3, none⟩ (.slice z.a z.ks.length z.c)
/-- four cells of another block -/
theorem st4_block {w : World} {b g o0 o1 o2 o3 : Nat} {u0 u1 u2 u3 : Value} (h : b ≠ g) : ((((w.setCell ⟨g, o0, none⟩ u0).setCell ⟨g, o1, none⟩ u1).setCell ⟨g, o2, none⟩ u2).setCell ⟨g, o3, none⟩ u3).heap[b]? = w.heap[b]? := by
  rw [Below.heap_setCell _ ⟨g, _, none⟩ _ _ h, Below.heap_setCell _ ⟨g, _, none⟩ _ _ h, Below.heap_setCell _ ⟨g, _, none⟩ _ _ h, Below.heap_setCell _ ⟨g, _, none⟩ _ _ h]
theorem st4_far {w : World} {b g o : Nat} {z : Tm} (h : b ≠ g) : (st4 w g o z).heap[b]? = w.heap[b]? := st4_block h
theorem Gr.st4 {S : Nat → Prop} {a w : World} {v v' : Value} {g o : Nat} {z : Tm} (h : Gr S a v w v') (hp : v.ownBlock = some g ∨ a.heap.size ≤ g) : Gr S a v (st4 w g o z) v' := by
  have h1 := h.setOwn (p := ⟨g, o, none⟩) hp (.int .i64 z.op)
  have h2 := h1.setOwn (p := ⟨g, o + 1, none⟩) hp (.string z.nm)
  have h3 := h2.setOwn (p := ⟨g, o + 2, none⟩) hp (.int .i64 z.n)
  exact h3.setOwn (p := ⟨g, o + 3, none⟩) hp (.slice z.a z.ks.length z.c)
theorem single_block {w w' : World} {b : Nat} {x : Value} (h : w'.heap[b]? = w.heap[b]?) (hs : Single w b x) : Single w' b x :=
  ⟨by rw [World.cell?_of_block (w := w) (a := ⟨b, 0, none⟩) h]; exact hs.1, by rw [World.frozen?_of_block (w := w) (a := ⟨b, 0, none⟩) h]; exact hs.2⟩
theorem step_fin {W w7 w9 : World} {base nb g cap : Nat} {v : Value} {L : List Tm} {z : Tm} (hA : ARow W base nb v L) (hz : TIn W W.heap.size z ∧ TAw nb z ∧ z.size ≤ 2000 ∧ z.deep ≤ 100) (hzg : ∀ g, v.ownBlock = some g → TAw g z) (hnb : nb < base) (hng : nb ≠ g)
    (hs : Single w7 nb v) (ho : w7.ownsRow base 24 4 (.slice (some ⟨g, 0, none⟩) (L.length + 1) cap) (L.length + 1) (L.flatMap tm4 ++ tm4 (q0 0))) (hg : W.grownBy w7 v.ownBlock) (hgg : v.ownBlock = some g ∨ g = W.heap.size)
    (h9 : w9 = (st4 w7 g (L.length * 4) z).setCell ⟨nb, 0, none⟩ (.slice (some ⟨g, 0, none⟩) (L.length + 1) cap)) : Gr (· = nb) W v w9 (.slice (some ⟨g, 0, none⟩) (L.length + 1) cap) ∧ ARow w9 base nb (.slice (some ⟨g, 0, none⟩) (L.length + 1) cap) (L ++ [z]) := by
  have hp : v.ownBlock = some g ∨ W.heap.size ≤ g := hgg.imp id (fun e => by omega)
  have G1 : Gr (· = nb) W v w7 (.slice (some ⟨g, 0, none⟩) (L.length + 1) cap) := Gr.grown hg hgg
  have G2 := G1.st4 (o := L.length * 4) (z := z) hp
  have O2 : (st4 w7 g (L.length * 4) z).ownsRow base 24 4 (.slice (some ⟨g, 0, none⟩) (L.length + 1) cap) (L.length + 1) ((L ++ [z]).flatMap tm4) := own_last ho
  have S2 : Single (st4 w7 g (L.length * 4) z) nb v := single_block (st4_far hng) hs
  generalize st4 w7 g (L.length * 4) z = w8 at *
  subst h9
  have G3 : Gr (· = nb) W v (w8.setCell ⟨nb, 0, none⟩ (.slice (some ⟨g, 0, none⟩) (L.length + 1) cap)) (.slice (some ⟨g, 0, none⟩) (L.length + 1) cap) := G2.set (p := ⟨nb, 0, none⟩) rfl _
  exact ⟨G3, hA.put G3 (single_set S2 _) rfl (own_far' (p := ⟨nb, 0, none⟩) O2 hnb _) hgg hz hzg⟩
theorem set_comm {w : World} {p q : Addr} {u x : Value} (h : p.block ≠ q.block) : (w.setCell p u).setCell q x = (w.setCell q x).setCell p u := by
  have hh : ((w.setCell p u).setCell q x).heap = ((w.setCell q x).setCell p u).heap := by
    apply Array.ext
    · simp [World.setCell]
    · intro i h1 h2
      simp only [World.setCell, Array.getElem_modify]
      by_cases e1 : p.block = i
      · by_cases e2 : q.block = i
        · exact absurd (e1.trans e2.symm) h
        · simp [e1, e2]
      · by_cases e2 : q.block = i
        · simp [e1, e2]
        · simp [e1, e2]
  have e : ∀ (W : World) (p : Addr) (u : Value), W.setCell p u = { W with heap := (W.setCell p u).heap } := fun _ _ _ => rfl
  rw [e (w.setCell p u), e (w.setCell q x), hh]
  rfl
theorem st4_comm {w : World} {g o nb : Nat} {z : Tm} {x : Value} (h : nb ≠ g) : st4 (w.setCell ⟨nb, 0, none⟩ x) g o z = (st4 w g o z).setCell ⟨nb, 0, none⟩ x := by
  unfold st4
  rw [set_comm (p := ⟨nb, 0, none⟩) (q := ⟨g, o, none⟩) h, set_comm (p := ⟨nb, 0, none⟩) (q := ⟨g, o + 1, none⟩) h, set_comm (p := ⟨nb, 0, none⟩) (q := ⟨g, o + 2, none⟩) h, set_comm (p := ⟨nb, 0, none⟩) (q := ⟨g, o + 3, none⟩) h]
/-- what the closure does -/
def MetP (t : Tm) (base nb : Nat) (L : List Tm) (v : Value) (w : World) (e : Ending) (w' : World) : Prop :=
  e = .returned (.tuple #[]) ∧ ∃ v' L', Gr (· = nb) w v w' v' ∧ ARow w' base nb v' L' ∧ L'.map Tm.er = ats t (L.map Tm.er)
theorem met_fin {w W w9 : World} {base nb : Nat} {v v' : Value} {L : List Tm} {t z : Tm} (hb : Below w.heap.size w W) (h : Gr (· = nb) W v w9 v' ∧ ARow w9 base nb v' (L ++ [z])) (hj : jnB t.op = false) (hh : has L t = false) (hz : z.er = t.er) : MetP t base nb L v w (.returned (.tuple #[])) w9 := by
  refine ⟨rfl, v', L ++ [z], (Gr.of hb).trans h.1, h.2, ?_⟩
  rw [ats_eq, if_neg (by rw [hj]; simp), if_neg (by rw [has_map, hh]; simp)]
  simp [hz]
def metF (nb fb : Nat) : Value := .func (.func 84) #[] #[.pointer (some ⟨fb, 0, none⟩), .pointer (some ⟨nb, 0, none⟩)]
set_option maxHeartbeats 4000000 in
set_option maxRecDepth 100000 in
theorem meet_new (t : Tm) (base nb fb : Nat) (L : List Tm) (v : Value) (w : World) (hin : TIn w w.heap.size t) (hnb : nb < base) (hbw : base ≤ w.heap.size) (hA : ARow w base nb v L) (hlen : L.length + t.size ≤ 2000) (hdeep : t.deep ≤ 100) (hj : jnB t.op = false) (hh : has L t = false) :
    Calls Tryd.prog 84 #[t.val, .pointer (some ⟨fb, 0, none⟩), .pointer (some ⟨nb, 0, none⟩)] w (MetP t base nb L v w) := by
  have hb1 := bel_alloc w (boxT t)
  have f4 := box_four w t
  have hW : w.alloc (.cells #[.int .i64 t.op, .string t.nm, .int .i64 t.n, .slice t.a t.ks.length t.c] 24) = w.alloc (boxT t) := rfl
  have hsW : (w.alloc (boxT t)).heap.size = w.heap.size + 1 := by simp
  have hz := size_pos t
  obtain ⟨a0, c0, rfl, -, -⟩ := own_is hA.own
  obtain ⟨i0, hi0, hz0, hz1, hz2⟩ := tm_parts
  have hpl : plc L t = -1 := by unfold plc; rw [if_neg (by rw [hh]; simp)]
  have HPC := mkHid (place_any L t _ (w.alloc (boxT t)) (((hA.later hb1).row (by omega))) (fun x hx => by obtain ⟨h1, -, h2, h3⟩ := (hA.later hb1).els x hx; exact ⟨h1, h2, h3⟩) (hin.later hb1))
  rw [hpl] at HPC
  have HDF := mkHid (fun w => defined_any t.op w)
  have hd : dfB t.op = false := by unfold dfB; rw [hj]; rfl
  rw [hd] at HDF
  have h18 : (t.op == 18) = false := by
    rw [beq_eq_false_iff_ne]; intro e; rw [e] at hj; exact absurd hj (by decide)
  have HV : Hid (∀ g, (Value.slice a0 L.length c0).ownBlock = some g → g < w.heap.size) := fun g e => (own_lt hA.own e).2
  replace hA := hA.later hb1
  have hbx := hA.box.1
  have hXn : w.heap.size ≠ nb := by omega
  have HIN := mkHid hin
  have HA := mkHid hA
  have HB := mkHid hb1
  have HJ := mkHid hj
  have HH := mkHid hh
  have F4' := f4
  clear hin hA hd hj hh hpl
  generalize w.alloc (boxT t) = W at *
  obtain ⟨f0, f1, f2, f3⟩ := f4
  simp only [Nat.zero_add] at f1 f2 f3
  unfold Tm.val at *
  go_enter Tryd.func84, Tryd.ntmps84
  go_wp2_with (first
    | (go_at_call 85; ((with_reducible refine (HDF.out _).mono ?_)); rintro e w1 ⟨rfl, rfl⟩)
    | (go_at_call 86; ((with_reducible refine HPC.out.mono ?_)); rintro e w2 ⟨rfl, hb2⟩))
  have F4 := mkHid (keep4 ⟨f0, f1, f2, f3⟩ (later_block hb2 f0))
  clear f0 f1 f2 f3 hbx HPC HDF F4'
  obtain ⟨f0, f1, f2, f3⟩ := F4.out
  replace HA := mkHid (HA.out.later hb2)
  replace HB := mkHid (bon HB.out hb2)
  clear hb2 hb1 hW
  go_wp2_with fail
  (try dsimp only [List.append])
  refine wp_region_held_drew (S := fun w' => w'.cell? ⟨w.heap.size, 0, none⟩ = some (.int .i64 t.op) ∧ w'.cell? ⟨w.heap.size, 1, none⟩ = some (.string t.nm) ∧ w'.cell? ⟨w.heap.size, 2, none⟩ = some (.int .i64 t.n) ∧ w'.cell? ⟨w.heap.size, 3, none⟩ = some (.slice t.a t.ks.length t.c)) (by kernel_rfl) F4.out (fun hHeld => ?_)
  clear f0 f1 f2 f3
  refine wpAnyH_take (i := 1) (v := ?_) rfl (by kernel_rfl) (by kernel_rfl) (by kernel_rfl) (fun _ _ _ h => h) (Or.inl ⟨by kernel_rfl, ?_⟩) (by assumption) ?_
  rotate_left
  · (intro w hSw; (try dsimp only at hSw); go_simp; try with_reducible rfl)
  simp only [Act.put, List.getElem_toArray, List.getElem_cons_succ, List.getElem_cons_zero, List.setIfInBounds_toArray, List.set_cons_zero, List.set_cons_succ]
  replace HA := mkHid (HA.out.later (bdrew (Below.refl w2.heap.size w2)))
  have P0 := mkHid (fun (w' : World) (h : Below w2.heap.size w2 w') => ccopied_any t w' (HIN.out.later (bon HB.out h)) (by omega))
  have hX : w.heap.size < w2.heap.size := World.block_lt_of_cell? _ _ F4.out.1
  have BV := mkHid (bdrew (Below.refl w2.heap.size w2))
  generalize w2.drew = V at *
  refine wpAnyH_ready (rs := [0, 2, 4]) (by kernel_rfl) (by simp) ?_
  refine AllReadyH.cons rfl (fun K hK => ?_) ?_
  · have oc := HA.out.box.1
    go_simp
    refine hK.out _ _ (by assumption) (fun hHeld => ?_)
    clear hK oc
    refine wpAnyH_take (i := 3) (v := ?_) rfl (by kernel_rfl) (by kernel_rfl) (by kernel_rfl) (fun _ _ _ h => h) (Or.inl ⟨by kernel_rfl, ?_⟩) (by assumption) ?_
    rotate_left
    · (intro w hSw; (try dsimp only at hSw); go_simp; try with_reducible rfl)
    simp only [Act.put, List.getElem_toArray, List.getElem_cons_succ, List.getElem_cons_zero, List.setIfInBounds_toArray, List.set_cons_zero, List.set_cons_succ]
    refine wpAnyH_ready (rs := [2, 4]) (by kernel_rfl) (by simp) ?_
    refine AllReadyH.cons rfl (fun K hK => ?_) ?_
    · have P := mkHid (P0.out V BV.out)
      unfold Tm.val at P
      go_simp
      go_wp2_with (go_at_call 87; ((with_reducible refine P.out.mono ?_)); rintro e w5 ⟨z, rfl, ze, zt, zf, hb5⟩)
      refine hK.out _ _ (keep4 (by assumption) (later_block hb5 (And.left (by assumption)))) (fun hHeld => ?_)
      clear hK P
      have HZE := mkHid ze
      have HZT := mkHid zt
      have HZN : Hid (TAw nb z) := zf.awR (by have := BV.out.size; omega)
      have HZG : Hid (∀ g, (Value.slice a0 L.length c0).ownBlock = some g → TAw g z) := fun g hg => zf.awR (own_lt HA.out.own hg).2
      replace HA := mkHid (HA.out.later hb5)
      replace BV := mkHid (bon BV.out hb5)
      clear ze zt zf hb5
      unfold Tm.val
      refine wpAnyH_ready (rs := [4]) (by kernel_rfl) (by simp) ?_
      refine AllReadyH.cons rfl (fun K hK => ?_) AllReadyH.nil
      go_simp
      have b6 := bel_alloc w5 (.cells #[.int .i64 0, .string ⟨#[]⟩, .int .i64 0, .slice none 0 0] 24)
      refine hK.out _ _ (keep4 (by assumption) (later_block b6 (And.left (by assumption)))) (fun hHeld => ?_)
      clear hK
      have N6 := mkHid (zero_cells w5)
      generalize w5.alloc (.cells #[.int .i64 0, .string ⟨#[]⟩, .int .i64 0, .slice none 0 0] 24) = W6 at *
      replace HA := mkHid (HA.out.later b6)
      replace BV := mkHid (bon BV.out b6)
      replace HZT := mkHid (HZT.out.later b6)
      clear b6
      have HG6 : base ≤ W6.heap.size := Nat.le_trans (Nat.le_trans hbw HB.out.size) BV.out.size
      have hwW : w.heap.size < W6.heap.size := Nat.lt_of_lt_of_le hX BV.out.size
      have hnbW : nb < W6.heap.size := World.block_lt_of_cell? _ _ HA.out.box.1
      refine wpAnyH_ready (rs := [5]) (by kernel_rfl) (by simp) ?_
      refine AllReadyH.cons rfl (fun K hK => ?_) AllReadyH.nil
      refine step_append_lies _ (by rfl) _ _ _ (by rfl) base 24 i0 _ 4 56 Tryd.underlying22 hi0 hz0 hz1 hz2 rfl (by omega) (.slice a0 L.length c0) L.length (L.flatMap tm4) (by rfl) HA.out.own ⟨_, 0, none⟩ 1 1 (tm4 (q0 0)) (by rfl) rfl N6.out (tm4_one' _) (by omega) (by unfold maxLen; omega) (by omega) HG6 W6.heap.size rfl (fun g cap w7 ho7 hg7 hgg7 hlt7 => ?_)
      have hXg : w.heap.size ≠ g := by
        rcases hgg7 with e | e
        · have := HV.out g e; omega
        · omega
      have hng : nb ≠ g := by
        rcases hgg7 with e | e
        · have : base ≤ g := (own_lt HA.out.own e).1; omega
        · omega
      have hvn : some nb ≠ (Value.slice a0 L.length c0).ownBlock := fun e => by have := (own_lt HA.out.own e.symm).1; omega
      refine hK.out _ _ (keep4 (by assumption) (hg7.block _ hwW (fun e => by have := HV.out _ e.symm; omega))) (fun hHeld => ?_)
      clear hK
      have d0 := cell_grown hg7 HA.out.box.1 hvn
      have d1 := frozen_grown hg7 HA.out.box.1 HA.out.box.2 hvn
      obtain ⟨c0, k0, l0⟩ := own_there ho7 (L.length * 4) (by omega)
      obtain ⟨c1, k1, l1⟩ := own_there ho7 (L.length * 4 + 1) (by omega)
      obtain ⟨c2, k2, l2⟩ := own_there ho7 (L.length * 4 + 2) (by omega)
      obtain ⟨c3, k3, l3⟩ := own_there ho7 (L.length * 4 + 3) (by omega)
      have HQ := mkHid (fun (w9 : World) (h9 : w9 = (st4 w7 g (L.length * 4) z).setCell ⟨nb, 0, none⟩ (.slice (some ⟨g, 0, none⟩) (L.length + 1) cap)) => step_fin HA.out ⟨HZT.out, HZN.out, by have e := congrArg Tm.size HZE.out; rw [er_size, er_size] at e; omega, by have e := congrArg Tm.deep HZE.out; rw [er_deep, er_deep] at e; omega⟩ HZG.out hnb hng ⟨d0, d1⟩ ho7 hg7 hgg7 h9)
      clear ho7 hg7 hgg7
      have hll : (L.length : Int) < (L.length : Int) + 1 := by omega
      refine wpAnyH_take (i := 6) (v := ?_) rfl (by kernel_rfl) (by kernel_rfl) (by kernel_rfl) (fun _ _ _ h => h) (Or.inl ⟨by kernel_rfl, ?_⟩) (by assumption) ?_
      rotate_left
      · (intro w hSw; (try dsimp only at hSw); go_simp; try with_reducible rfl)
      simp only [Act.put, List.getElem_toArray, List.getElem_cons_succ, List.getElem_cons_zero, List.setIfInBounds_toArray, List.set_cons_zero, List.set_cons_succ]
      refine wpAnyH_ready (rs := [7, 8]) (by kernel_rfl) (by simp) ?_
      refine AllReadyH.cons rfl (fun K hK => ?_) ?_
      · go_simp
        refine hK.out _ _ (keep4 (by assumption) (st4_block hXg)) (fun hHeld => ?_)
        clear hK
        refine wpAnyH_ready (rs := [8]) (by kernel_rfl) (by simp) ?_
        refine AllReadyH.cons rfl (fun K hK => ?_) AllReadyH.nil
        go_simp
        refine hK.out _ _ (keep4 (by assumption) (Below.heap_setCell _ ⟨nb, 0, none⟩ _ _ hXn)) (fun hHeld => ?_)
        clear hK
        refine wpAnyH_done (by kernel_rfl) ?_ _
        go_wp2
        go_end0
        exact met_fin (bon HB.out BV.out) (HQ.out _ rfl) HJ.out HH.out HZE.out
      refine AllReadyH.cons rfl (fun K hK => ?_) AllReadyH.nil
      go_simp
      refine hK.out _ _ (keep4 (by assumption) (Below.heap_setCell _ ⟨nb, 0, none⟩ _ _ hXn)) (fun hHeld => ?_)
      clear hK
      refine wpAnyH_ready (rs := [7]) (by kernel_rfl) (by simp) ?_
      refine AllReadyH.cons rfl (fun K hK => ?_) AllReadyH.nil
      go_simp
      refine hK.out _ _ (keep4 (by assumption) (st4_block hXg)) (fun hHeld => ?_)
      clear hK
      refine wpAnyH_done (by kernel_rfl) ?_ _
      go_wp2
      go_end0
      exact met_fin (bon HB.out BV.out) (HQ.out _ (st4_comm hng)) HJ.out HH.out HZE.out
    refine AllReadyH.cons rfl (fun K hK => ?_) AllReadyH.nil
    go_simp
    have b6 := bel_alloc V (.cells #[.int .i64 0, .string ⟨#[]⟩, .int .i64 0, .slice none 0 0] 24)
    refine hK.out _ _ (keep4 (by assumption) (later_block b6 (And.left (by assumption)))) (fun hHeld => ?_)
    clear hK
    have N6 := mkHid (zero_cells V)
    generalize V.alloc (.cells #[.int .i64 0, .string ⟨#[]⟩, .int .i64 0, .slice none 0 0] 24) = W6 at *
    replace HA := mkHid (HA.out.later b6)
    replace BV := mkHid (bon BV.out b6)
    clear b6
    refine wpAnyH_ready (rs := [2]) (by kernel_rfl) (by simp) ?_
    refine AllReadyH.cons rfl (fun K hK => ?_) AllReadyH.nil
    have P := mkHid (P0.out W6 BV.out)
    unfold Tm.val at P
    go_simp
    go_wp2_with (go_at_call 87; ((with_reducible refine P.out.mono ?_)); rintro e w5 ⟨z, rfl, ze, zt, zf, hb5⟩)
    refine hK.out _ _ (keep4 (by assumption) (later_block hb5 (And.left (by assumption)))) (fun hHeld => ?_)
    clear hK P
    have HZE := mkHid ze
    have HZT := mkHid zt
    have HZN : Hid (TAw nb z) := zf.awR (by have := BV.out.size; omega)
    have HZG : Hid (∀ g, (Value.slice a0 L.length c0).ownBlock = some g → TAw g z) := fun g hg => zf.awR (own_lt HA.out.own hg).2
    replace HA := mkHid (HA.out.later hb5)
    replace N6 := mkHid (fun i u h => cell_later hb5 (N6.out i u h))
    replace BV := mkHid (bon BV.out hb5)
    clear ze zt zf hb5
    unfold Tm.val
    have HG6 : base ≤ w5.heap.size := Nat.le_trans (Nat.le_trans hbw HB.out.size) BV.out.size
    have hwW : w.heap.size < w5.heap.size := Nat.lt_of_lt_of_le hX BV.out.size
    have hnbW : nb < w5.heap.size := World.block_lt_of_cell? _ _ HA.out.box.1
    refine wpAnyH_ready (rs := [5]) (by kernel_rfl) (by simp) ?_
    refine AllReadyH.cons rfl (fun K hK => ?_) AllReadyH.nil
    refine step_append_lies _ (by rfl) _ _ _ (by rfl) base 24 i0 _ 4 56 Tryd.underlying22 hi0 hz0 hz1 hz2 rfl (by omega) (.slice a0 L.length c0) L.length (L.flatMap tm4) (by rfl) HA.out.own ⟨_, 0, none⟩ 1 1 (tm4 (q0 0)) (by rfl) rfl N6.out (tm4_one' _) (by omega) (by unfold maxLen; omega) (by omega) HG6 w5.heap.size rfl (fun g cap w7 ho7 hg7 hgg7 hlt7 => ?_)
    have hXg : w.heap.size ≠ g := by
      rcases hgg7 with e | e
      · have := HV.out g e; omega
      · omega
    have hng : nb ≠ g := by
      rcases hgg7 with e | e
      · have : base ≤ g := (own_lt HA.out.own e).1; omega
      · omega
    have hvn : some nb ≠ (Value.slice a0 L.length c0).ownBlock := fun e => by have := (own_lt HA.out.own e.symm).1; omega
    refine hK.out _ _ (keep4 (by assumption) (hg7.block _ hwW (fun e => by have := HV.out _ e.symm; omega))) (fun hHeld => ?_)
    clear hK
    have d0 := cell_grown hg7 HA.out.box.1 hvn
    have d1 := frozen_grown hg7 HA.out.box.1 HA.out.box.2 hvn
    obtain ⟨c0, k0, l0⟩ := own_there ho7 (L.length * 4) (by omega)
    obtain ⟨c1, k1, l1⟩ := own_there ho7 (L.length * 4 + 1) (by omega)
    obtain ⟨c2, k2, l2⟩ := own_there ho7 (L.length * 4 + 2) (by omega)
    obtain ⟨c3, k3, l3⟩ := own_there ho7 (L.length * 4 + 3) (by omega)
    have HQ := mkHid (fun (w9 : World) (h9 : w9 = (st4 w7 g (L.length * 4) z).setCell ⟨nb, 0, none⟩ (.slice (some ⟨g, 0, none⟩) (L.length + 1) cap)) => step_fin HA.out ⟨HZT.out, HZN.out, by have e := congrArg Tm.size HZE.out; rw [er_size, er_size] at e; omega, by have e := congrArg Tm.deep HZE.out; rw [er_deep, er_deep] at e; omega⟩ HZG.out hnb hng ⟨d0, d1⟩ ho7 hg7 hgg7 h9)
    clear ho7 hg7 hgg7
    have hll : (L.length : Int) < (L.length : Int) + 1 := by omega
    refine wpAnyH_take (i := 6) (v := ?_) rfl (by kernel_rfl) (by kernel_rfl) (by kernel_rfl) (fun _ _ _ h => h) (Or.inl ⟨by kernel_rfl, ?_⟩) (by assumption) ?_
    rotate_left
    · (intro w hSw; (try dsimp only at hSw); go_simp; try with_reducible rfl)
    simp only [Act.put, List.getElem_toArray, List.getElem_cons_succ, List.getElem_cons_zero, List.setIfInBounds_toArray, List.set_cons_zero, List.set_cons_succ]
    refine wpAnyH_ready (rs := [7, 8]) (by kernel_rfl) (by simp) ?_
    refine AllReadyH.cons rfl (fun K hK => ?_) ?_
    · go_simp
      refine hK.out _ _ (keep4 (by assumption) (st4_block hXg)) (fun hHeld => ?_)
      clear hK
      refine wpAnyH_ready (rs := [8]) (by kernel_rfl) (by simp) ?_
      refine AllReadyH.cons rfl (fun K hK => ?_) AllReadyH.nil
      go_simp
      refine hK.out _ _ (keep4 (by assumption) (Below.heap_setCell _ ⟨nb, 0, none⟩ _ _ hXn)) (fun hHeld => ?_)
      clear hK
      refine wpAnyH_done (by kernel_rfl) ?_ _
      go_wp2
      go_end0
      exact met_fin (bon HB.out BV.out) (HQ.out _ rfl) HJ.out HH.out HZE.out
    refine AllReadyH.cons rfl (fun K hK => ?_) AllReadyH.nil
    go_simp
    refine hK.out _ _ (keep4 (by assumption) (Below.heap_setCell _ ⟨nb, 0, none⟩ _ _ hXn)) (fun hHeld => ?_)
    clear hK
    refine wpAnyH_ready (rs := [7]) (by kernel_rfl) (by simp) ?_
    refine AllReadyH.cons rfl (fun K hK => ?_) AllReadyH.nil
    go_simp
    refine hK.out _ _ (keep4 (by assumption) (st4_block hXg)) (fun hHeld => ?_)
    clear hK
    refine wpAnyH_done (by kernel_rfl) ?_ _
    go_wp2
    go_end0
    exact met_fin (bon HB.out BV.out) (HQ.out _ (st4_comm hng)) HJ.out HH.out HZE.out
  refine AllReadyH.cons rfl (fun K hK => ?_) ?_
  · have P := mkHid (P0.out V BV.out)
    unfold Tm.val at P
    go_simp
    go_wp2_with (go_at_call 87; ((with_reducible refine P.out.mono ?_)); rintro e w5 ⟨z, rfl, ze, zt, zf, hb5⟩)
    refine hK.out _ _ (keep4 (by assumption) (later_block hb5 (And.left (by assumption)))) (fun hHeld => ?_)
    clear hK P
    have HZE := mkHid ze
    have HZT := mkHid zt
    have HZN : Hid (TAw nb z) := zf.awR (by have := BV.out.size; omega)
    have HZG : Hid (∀ g, (Value.slice a0 L.length c0).ownBlock = some g → TAw g z) := fun g hg => zf.awR (own_lt HA.out.own hg).2
    replace HA := mkHid (HA.out.later hb5)
    replace BV := mkHid (bon BV.out hb5)
    clear ze zt zf hb5
    unfold Tm.val
    refine wpAnyH_ready (rs := [0, 4]) (by kernel_rfl) (by simp) ?_
    refine AllReadyH.cons rfl (fun K hK => ?_) ?_
    · have oc := HA.out.box.1
      go_simp
      refine hK.out _ _ (by assumption) (fun hHeld => ?_)
      clear hK oc
      refine wpAnyH_take (i := 3) (v := ?_) rfl (by kernel_rfl) (by kernel_rfl) (by kernel_rfl) (fun _ _ _ h => h) (Or.inl ⟨by kernel_rfl, ?_⟩) (by assumption) ?_
      rotate_left
      · (intro w hSw; (try dsimp only at hSw); go_simp; try with_reducible rfl)
      simp only [Act.put, List.getElem_toArray, List.getElem_cons_succ, List.getElem_cons_zero, List.setIfInBounds_toArray, List.set_cons_zero, List.set_cons_succ]
      refine wpAnyH_ready (rs := [4]) (by kernel_rfl) (by simp) ?_
      refine AllReadyH.cons rfl (fun K hK => ?_) AllReadyH.nil
      go_simp
      have b6 := bel_alloc w5 (.cells #[.int .i64 0, .string ⟨#[]⟩, .int .i64 0, .slice none 0 0] 24)
      refine hK.out _ _ (keep4 (by assumption) (later_block b6 (And.left (by assumption)))) (fun hHeld => ?_)
      clear hK
      have N6 := mkHid (zero_cells w5)
      generalize w5.alloc (.cells #[.int .i64 0, .string ⟨#[]⟩, .int .i64 0, .slice none 0 0] 24) = W6 at *
      replace HA := mkHid (HA.out.later b6)
      replace BV := mkHid (bon BV.out b6)
      replace HZT := mkHid (HZT.out.later b6)
      clear b6
      have HG6 : base ≤ W6.heap.size := Nat.le_trans (Nat.le_trans hbw HB.out.size) BV.out.size
      have hwW : w.heap.size < W6.heap.size := Nat.lt_of_lt_of_le hX BV.out.size
      have hnbW : nb < W6.heap.size := World.block_lt_of_cell? _ _ HA.out.box.1
      refine wpAnyH_ready (rs := [5]) (by kernel_rfl) (by simp) ?_
      refine AllReadyH.cons rfl (fun K hK => ?_) AllReadyH.nil
      refine step_append_lies _ (by rfl) _ _ _ (by rfl) base 24 i0 _ 4 56 Tryd.underlying22 hi0 hz0 hz1 hz2 rfl (by omega) (.slice a0 L.length c0) L.length (L.flatMap tm4) (by rfl) HA.out.own ⟨_, 0, none⟩ 1 1 (tm4 (q0 0)) (by rfl) rfl N6.out (tm4_one' _) (by omega) (by unfold maxLen; omega) (by omega) HG6 W6.heap.size rfl (fun g cap w7 ho7 hg7 hgg7 hlt7 => ?_)
      have hXg : w.heap.size ≠ g := by
        rcases hgg7 with e | e
        · have := HV.out g e; omega
        · omega
      have hng : nb ≠ g := by
        rcases hgg7 with e | e
        · have : base ≤ g := (own_lt HA.out.own e).1; omega
        · omega
      have hvn : some nb ≠ (Value.slice a0 L.length c0).ownBlock := fun e => by have := (own_lt HA.out.own e.symm).1; omega
      refine hK.out _ _ (keep4 (by assumption) (hg7.block _ hwW (fun e => by have := HV.out _ e.symm; omega))) (fun hHeld => ?_)
      clear hK
      have d0 := cell_grown hg7 HA.out.box.1 hvn
      have d1 := frozen_grown hg7 HA.out.box.1 HA.out.box.2 hvn
      obtain ⟨c0, k0, l0⟩ := own_there ho7 (L.length * 4) (by omega)
      obtain ⟨c1, k1, l1⟩ := own_there ho7 (L.length * 4 + 1) (by omega)
      obtain ⟨c2, k2, l2⟩ := own_there ho7 (L.length * 4 + 2) (by omega)
      obtain ⟨c3, k3, l3⟩ := own_there ho7 (L.length * 4 + 3) (by omega)
      have HQ := mkHid (fun (w9 : World) (h9 : w9 = (st4 w7 g (L.length * 4) z).setCell ⟨nb, 0, none⟩ (.slice (some ⟨g, 0, none⟩) (L.length + 1) cap)) => step_fin HA.out ⟨HZT.out, HZN.out, by have e := congrArg Tm.size HZE.out; rw [er_size, er_size] at e; omega, by have e := congrArg Tm.deep HZE.out; rw [er_deep, er_deep] at e; omega⟩ HZG.out hnb hng ⟨d0, d1⟩ ho7 hg7 hgg7 h9)
      clear ho7 hg7 hgg7
      have hll : (L.length : Int) < (L.length : Int) + 1 := by omega
      refine wpAnyH_take (i := 6) (v := ?_) rfl (by kernel_rfl) (by kernel_rfl) (by kernel_rfl) (fun _ _ _ h => h) (Or.inl ⟨by kernel_rfl, ?_⟩) (by assumption) ?_
      rotate_left
      · (intro w hSw; (try dsimp only at hSw); go_simp; try with_reducible rfl)
      simp only [Act.put, List.getElem_toArray, List.getElem_cons_succ, List.getElem_cons_zero, List.setIfInBounds_toArray, List.set_cons_zero, List.set_cons_succ]
      refine wpAnyH_ready (rs := [7, 8]) (by kernel_rfl) (by simp) ?_
      refine AllReadyH.cons rfl (fun K hK => ?_) ?_
      · go_simp
        refine hK.out _ _ (keep4 (by assumption) (st4_block hXg)) (fun hHeld => ?_)
        clear hK
        refine wpAnyH_ready (rs := [8]) (by kernel_rfl) (by simp) ?_
        refine AllReadyH.cons rfl (fun K hK => ?_) AllReadyH.nil
        go_simp
        refine hK.out _ _ (keep4 (by assumption) (Below.heap_setCell _ ⟨nb, 0, none⟩ _ _ hXn)) (fun hHeld => ?_)
        clear hK
        refine wpAnyH_done (by kernel_rfl) ?_ _
        go_wp2
        go_end0
        exact met_fin (bon HB.out BV.out) (HQ.out _ rfl) HJ.out HH.out HZE.out
      refine AllReadyH.cons rfl (fun K hK => ?_) AllReadyH.nil
      go_simp
      refine hK.out _ _ (keep4 (by assumption) (Below.heap_setCell _ ⟨nb, 0, none⟩ _ _ hXn)) (fun hHeld => ?_)
      clear hK
      refine wpAnyH_ready (rs := [7]) (by kernel_rfl) (by simp) ?_
      refine AllReadyH.cons rfl (fun K hK => ?_) AllReadyH.nil
      go_simp
      refine hK.out _ _ (keep4 (by assumption) (st4_block hXg)) (fun hHeld => ?_)
      clear hK
      refine wpAnyH_done (by kernel_rfl) ?_ _
      go_wp2
      go_end0
      exact met_fin (bon HB.out BV.out) (HQ.out _ (st4_comm hng)) HJ.out HH.out HZE.out
    refine AllReadyH.cons rfl (fun K hK => ?_) AllReadyH.nil
    go_simp
    have b6 := bel_alloc w5 (.cells #[.int .i64 0, .string ⟨#[]⟩, .int .i64 0, .slice none 0 0] 24)
    refine hK.out _ _ (keep4 (by assumption) (later_block b6 (And.left (by assumption)))) (fun hHeld => ?_)
    clear hK
    have N6 := mkHid (zero_cells w5)
    generalize w5.alloc (.cells #[.int .i64 0, .string ⟨#[]⟩, .int .i64 0, .slice none 0 0] 24) = W6 at *
    replace HA := mkHid (HA.out.later b6)
    replace BV := mkHid (bon BV.out b6)
    replace HZT := mkHid (HZT.out.later b6)
    clear b6
    refine wpAnyH_ready (rs := [0]) (by kernel_rfl) (by simp) ?_
    refine AllReadyH.cons rfl (fun K hK => ?_) AllReadyH.nil
    have oc := HA.out.box.1
    go_simp
    refine hK.out _ _ (by assumption) (fun hHeld => ?_)
    clear hK oc
    refine wpAnyH_take (i := 3) (v := ?_) rfl (by kernel_rfl) (by kernel_rfl) (by kernel_rfl) (fun _ _ _ h => h) (Or.inl ⟨by kernel_rfl, ?_⟩) (by assumption) ?_
    rotate_left
    · (intro w hSw; (try dsimp only at hSw); go_simp; try with_reducible rfl)
    simp only [Act.put, List.getElem_toArray, List.getElem_cons_succ, List.getElem_cons_zero, List.setIfInBounds_toArray, List.set_cons_zero, List.set_cons_succ]
    have HG6 : base ≤ W6.heap.size := Nat.le_trans (Nat.le_trans hbw HB.out.size) BV.out.size
    have hwW : w.heap.size < W6.heap.size := Nat.lt_of_lt_of_le hX BV.out.size
    have hnbW : nb < W6.heap.size := World.block_lt_of_cell? _ _ HA.out.box.1
    refine wpAnyH_ready (rs := [5]) (by kernel_rfl) (by simp) ?_
    refine AllReadyH.cons rfl (fun K hK => ?_) AllReadyH.nil
    refine step_append_lies _ (by rfl) _ _ _ (by rfl) base 24 i0 _ 4 56 Tryd.underlying22 hi0 hz0 hz1 hz2 rfl (by omega) (.slice a0 L.length c0) L.length (L.flatMap tm4) (by rfl) HA.out.own ⟨_, 0, none⟩ 1 1 (tm4 (q0 0)) (by rfl) rfl N6.out (tm4_one' _) (by omega) (by unfold maxLen; omega) (by omega) HG6 W6.heap.size rfl (fun g cap w7 ho7 hg7 hgg7 hlt7 => ?_)
    have hXg : w.heap.size ≠ g := by
      rcases hgg7 with e | e
      · have := HV.out g e; omega
      · omega
    have hng : nb ≠ g := by
      rcases hgg7 with e | e
      · have : base ≤ g := (own_lt HA.out.own e).1; omega
      · omega
    have hvn : some nb ≠ (Value.slice a0 L.length c0).ownBlock := fun e => by have := (own_lt HA.out.own e.symm).1; omega
    refine hK.out _ _ (keep4 (by assumption) (hg7.block _ hwW (fun e => by have := HV.out _ e.symm; omega))) (fun hHeld => ?_)
    clear hK
    have d0 := cell_grown hg7 HA.out.box.1 hvn
    have d1 := frozen_grown hg7 HA.out.box.1 HA.out.box.2 hvn
    obtain ⟨c0, k0, l0⟩ := own_there ho7 (L.length * 4) (by omega)
    obtain ⟨c1, k1, l1⟩ := own_there ho7 (L.length * 4 + 1) (by omega)
    obtain ⟨c2, k2, l2⟩ := own_there ho7 (L.length * 4 + 2) (by omega)
    obtain ⟨c3, k3, l3⟩ := own_there ho7 (L.length * 4 + 3) (by omega)
    have HQ := mkHid (fun (w9 : World) (h9 : w9 = (st4 w7 g (L.length * 4) z).setCell ⟨nb, 0, none⟩ (.slice (some ⟨g, 0, none⟩) (L.length + 1) cap)) => step_fin HA.out ⟨HZT.out, HZN.out, by have e := congrArg Tm.size HZE.out; rw [er_size, er_size] at e; omega, by have e := congrArg Tm.deep HZE.out; rw [er_deep, er_deep] at e; omega⟩ HZG.out hnb hng ⟨d0, d1⟩ ho7 hg7 hgg7 h9)
    clear ho7 hg7 hgg7
    have hll : (L.length : Int) < (L.length : Int) + 1 := by omega
    refine wpAnyH_take (i := 6) (v := ?_) rfl (by kernel_rfl) (by kernel_rfl) (by kernel_rfl) (fun _ _ _ h => h) (Or.inl ⟨by kernel_rfl, ?_⟩) (by assumption) ?_
    rotate_left
    · (intro w hSw; (try dsimp only at hSw); go_simp; try with_reducible rfl)
    simp only [Act.put, List.getElem_toArray, List.getElem_cons_succ, List.getElem_cons_zero, List.setIfInBounds_toArray, List.set_cons_zero, List.set_cons_succ]
    refine wpAnyH_ready (rs := [7, 8]) (by kernel_rfl) (by simp) ?_
    refine AllReadyH.cons rfl (fun K hK => ?_) ?_
    · go_simp
      refine hK.out _ _ (keep4 (by assumption) (st4_block hXg)) (fun hHeld => ?_)
      clear hK
      refine wpAnyH_ready (rs := [8]) (by kernel_rfl) (by simp) ?_
      refine AllReadyH.cons rfl (fun K hK => ?_) AllReadyH.nil
      go_simp
      refine hK.out _ _ (keep4 (by assumption) (Below.heap_setCell _ ⟨nb, 0, none⟩ _ _ hXn)) (fun hHeld => ?_)
      clear hK
      refine wpAnyH_done (by kernel_rfl) ?_ _
      go_wp2
      go_end0
      exact met_fin (bon HB.out BV.out) (HQ.out _ rfl) HJ.out HH.out HZE.out
    refine AllReadyH.cons rfl (fun K hK => ?_) AllReadyH.nil
    go_simp
    refine hK.out _ _ (keep4 (by assumption) (Below.heap_setCell _ ⟨nb, 0, none⟩ _ _ hXn)) (fun hHeld => ?_)
    clear hK
    refine wpAnyH_ready (rs := [7]) (by kernel_rfl) (by simp) ?_
    refine AllReadyH.cons rfl (fun K hK => ?_) AllReadyH.nil
    go_simp
    refine hK.out _ _ (keep4 (by assumption) (st4_block hXg)) (fun hHeld => ?_)
    clear hK
    refine wpAnyH_done (by kernel_rfl) ?_ _
    go_wp2
    go_end0
    exact met_fin (bon HB.out BV.out) (HQ.out _ (st4_comm hng)) HJ.out HH.out HZE.out
  refine AllReadyH.cons rfl (fun K hK => ?_) AllReadyH.nil
  go_simp
  have b6 := bel_alloc V (.cells #[.int .i64 0, .string ⟨#[]⟩, .int .i64 0, .slice none 0 0] 24)
  refine hK.out _ _ (keep4 (by assumption) (later_block b6 (And.left (by assumption)))) (fun hHeld => ?_)
  clear hK
  have N6 := mkHid (zero_cells V)
  generalize V.alloc (.cells #[.int .i64 0, .string ⟨#[]⟩, .int .i64 0, .slice none 0 0] 24) = W6 at *
  replace HA := mkHid (HA.out.later b6)
  replace BV := mkHid (bon BV.out b6)
  clear b6
  refine wpAnyH_ready (rs := [0, 2]) (by kernel_rfl) (by simp) ?_
  refine AllReadyH.cons rfl (fun K hK => ?_) ?_
  · have oc := HA.out.box.1
    go_simp
    refine hK.out _ _ (by assumption) (fun hHeld => ?_)
    clear hK oc
    refine wpAnyH_take (i := 3) (v := ?_) rfl (by kernel_rfl) (by kernel_rfl) (by kernel_rfl) (fun _ _ _ h => h) (Or.inl ⟨by kernel_rfl, ?_⟩) (by assumption) ?_
    rotate_left
    · (intro w hSw; (try dsimp only at hSw); go_simp; try with_reducible rfl)
    simp only [Act.put, List.getElem_toArray, List.getElem_cons_succ, List.getElem_cons_zero, List.setIfInBounds_toArray, List.set_cons_zero, List.set_cons_succ]
    refine wpAnyH_ready (rs := [2]) (by kernel_rfl) (by simp) ?_
    refine AllReadyH.cons rfl (fun K hK => ?_) AllReadyH.nil
    have P := mkHid (P0.out W6 BV.out)
    unfold Tm.val at P
    go_simp
    go_wp2_with (go_at_call 87; ((with_reducible refine P.out.mono ?_)); rintro e w5 ⟨z, rfl, ze, zt, zf, hb5⟩)
    refine hK.out _ _ (keep4 (by assumption) (later_block hb5 (And.left (by assumption)))) (fun hHeld => ?_)
    clear hK P
    have HZE := mkHid ze
    have HZT := mkHid zt
    have HZN : Hid (TAw nb z) := zf.awR (by have := BV.out.size; omega)
    have HZG : Hid (∀ g, (Value.slice a0 L.length c0).ownBlock = some g → TAw g z) := fun g hg => zf.awR (own_lt HA.out.own hg).2
    replace HA := mkHid (HA.out.later hb5)
    replace N6 := mkHid (fun i u h => cell_later hb5 (N6.out i u h))
    replace BV := mkHid (bon BV.out hb5)
    clear ze zt zf hb5
    unfold Tm.val
    have HG6 : base ≤ w5.heap.size := Nat.le_trans (Nat.le_trans hbw HB.out.size) BV.out.size
    have hwW : w.heap.size < w5.heap.size := Nat.lt_of_lt_of_le hX BV.out.size
    have hnbW : nb < w5.heap.size := World.block_lt_of_cell? _ _ HA.out.box.1
    refine wpAnyH_ready (rs := [5]) (by kernel_rfl) (by simp) ?_
    refine AllReadyH.cons rfl (fun K hK => ?_) AllReadyH.nil
    refine step_append_lies _ (by rfl) _ _ _ (by rfl) base 24 i0 _ 4 56 Tryd.underlying22 hi0 hz0 hz1 hz2 rfl (by omega) (.slice a0 L.length c0) L.length (L.flatMap tm4) (by rfl) HA.out.own ⟨_, 0, none⟩ 1 1 (tm4 (q0 0)) (by rfl) rfl N6.out (tm4_one' _) (by omega) (by unfold maxLen; omega) (by omega) HG6 w5.heap.size rfl (fun g cap w7 ho7 hg7 hgg7 hlt7 => ?_)
    have hXg : w.heap.size ≠ g := by
      rcases hgg7 with e | e
      · have := HV.out g e; omega
      · omega
    have hng : nb ≠ g := by
      rcases hgg7 with e | e
      · have : base ≤ g := (own_lt HA.out.own e).1; omega
      · omega
    have hvn : some nb ≠ (Value.slice a0 L.length c0).ownBlock := fun e => by have := (own_lt HA.out.own e.symm).1; omega
    refine hK.out _ _ (keep4 (by assumption) (hg7.block _ hwW (fun e => by have := HV.out _ e.symm; omega))) (fun hHeld => ?_)
    clear hK
    have d0 := cell_grown hg7 HA.out.box.1 hvn
    have d1 := frozen_grown hg7 HA.out.box.1 HA.out.box.2 hvn
    obtain ⟨c0, k0, l0⟩ := own_there ho7 (L.length * 4) (by omega)
    obtain ⟨c1, k1, l1⟩ := own_there ho7 (L.length * 4 + 1) (by omega)
    obtain ⟨c2, k2, l2⟩ := own_there ho7 (L.length * 4 + 2) (by omega)
    obtain ⟨c3, k3, l3⟩ := own_there ho7 (L.length * 4 + 3) (by omega)
    have HQ := mkHid (fun (w9 : World) (h9 : w9 = (st4 w7 g (L.length * 4) z).setCell ⟨nb, 0, none⟩ (.slice (some ⟨g, 0, none⟩) (L.length + 1) cap)) => step_fin HA.out ⟨HZT.out, HZN.out, by have e := congrArg Tm.size HZE.out; rw [er_size, er_size] at e; omega, by have e := congrArg Tm.deep HZE.out; rw [er_deep, er_deep] at e; omega⟩ HZG.out hnb hng ⟨d0, d1⟩ ho7 hg7 hgg7 h9)
    clear ho7 hg7 hgg7
    have hll : (L.length : Int) < (L.length : Int) + 1 := by omega
    refine wpAnyH_take (i := 6) (v := ?_) rfl (by kernel_rfl) (by kernel_rfl) (by kernel_rfl) (fun _ _ _ h => h) (Or.inl ⟨by kernel_rfl, ?_⟩) (by assumption) ?_
    rotate_left
    · (intro w hSw; (try dsimp only at hSw); go_simp; try with_reducible rfl)
    simp only [Act.put, List.getElem_toArray, List.getElem_cons_succ, List.getElem_cons_zero, List.setIfInBounds_toArray, List.set_cons_zero, List.set_cons_succ]
    refine wpAnyH_ready (rs := [7, 8]) (by kernel_rfl) (by simp) ?_
    refine AllReadyH.cons rfl (fun K hK => ?_) ?_
    · go_simp
      refine hK.out _ _ (keep4 (by assumption) (st4_block hXg)) (fun hHeld => ?_)
      clear hK
      refine wpAnyH_ready (rs := [8]) (by kernel_rfl) (by simp) ?_
      refine AllReadyH.cons rfl (fun K hK => ?_) AllReadyH.nil
      go_simp
      refine hK.out _ _ (keep4 (by assumption) (Below.heap_setCell _ ⟨nb, 0, none⟩ _ _ hXn)) (fun hHeld => ?_)
      clear hK
      refine wpAnyH_done (by kernel_rfl) ?_ _
      go_wp2
      go_end0
      exact met_fin (bon HB.out BV.out) (HQ.out _ rfl) HJ.out HH.out HZE.out
    refine AllReadyH.cons rfl (fun K hK => ?_) AllReadyH.nil
    go_simp
    refine hK.out _ _ (keep4 (by assumption) (Below.heap_setCell _ ⟨nb, 0, none⟩ _ _ hXn)) (fun hHeld => ?_)
    clear hK
    refine wpAnyH_ready (rs := [7]) (by kernel_rfl) (by simp) ?_
    refine AllReadyH.cons rfl (fun K hK => ?_) AllReadyH.nil
    go_simp
    refine hK.out _ _ (keep4 (by assumption) (st4_block hXg)) (fun hHeld => ?_)
    clear hK
    refine wpAnyH_done (by kernel_rfl) ?_ _
    go_wp2
    go_end0
    exact met_fin (bon HB.out BV.out) (HQ.out _ (st4_comm hng)) HJ.out HH.out HZE.out
  refine AllReadyH.cons rfl (fun K hK => ?_) AllReadyH.nil
  have P := mkHid (P0.out W6 BV.out)
  unfold Tm.val at P
  go_simp
  go_wp2_with (go_at_call 87; ((with_reducible refine P.out.mono ?_)); rintro e w5 ⟨z, rfl, ze, zt, zf, hb5⟩)
  refine hK.out _ _ (keep4 (by assumption) (later_block hb5 (And.left (by assumption)))) (fun hHeld => ?_)
  clear hK P
  have HZE := mkHid ze
  have HZT := mkHid zt
  have HZN : Hid (TAw nb z) := zf.awR (by have := BV.out.size; omega)
  have HZG : Hid (∀ g, (Value.slice a0 L.length c0).ownBlock = some g → TAw g z) := fun g hg => zf.awR (own_lt HA.out.own hg).2
  replace HA := mkHid (HA.out.later hb5)
  replace N6 := mkHid (fun i u h => cell_later hb5 (N6.out i u h))
  replace BV := mkHid (bon BV.out hb5)
  clear ze zt zf hb5
  unfold Tm.val
  refine wpAnyH_ready (rs := [0]) (by kernel_rfl) (by simp) ?_
  refine AllReadyH.cons rfl (fun K hK => ?_) AllReadyH.nil
  have oc := HA.out.box.1
  go_simp
  refine hK.out _ _ (by assumption) (fun hHeld => ?_)
  clear hK oc
  refine wpAnyH_take (i := 3) (v := ?_) rfl (by kernel_rfl) (by kernel_rfl) (by kernel_rfl) (fun _ _ _ h => h) (Or.inl ⟨by kernel_rfl, ?_⟩) (by assumption) ?_
  rotate_left
  · (intro w hSw; (try dsimp only at hSw); go_simp; try with_reducible rfl)
  simp only [Act.put, List.getElem_toArray, List.getElem_cons_succ, List.getElem_cons_zero, List.setIfInBounds_toArray, List.set_cons_zero, List.set_cons_succ]
  have HG6 : base ≤ w5.heap.size := Nat.le_trans (Nat.le_trans hbw HB.out.size) BV.out.size
  have hwW : w.heap.size < w5.heap.size := Nat.lt_of_lt_of_le hX BV.out.size
  have hnbW : nb < w5.heap.size := World.block_lt_of_cell? _ _ HA.out.box.1
  refine wpAnyH_ready (rs := [5]) (by kernel_rfl) (by simp) ?_
  refine AllReadyH.cons rfl (fun K hK => ?_) AllReadyH.nil
  refine step_append_lies _ (by rfl) _ _ _ (by rfl) base 24 i0 _ 4 56 Tryd.underlying22 hi0 hz0 hz1 hz2 rfl (by omega) (.slice a0 L.length c0) L.length (L.flatMap tm4) (by rfl) HA.out.own ⟨_, 0, none⟩ 1 1 (tm4 (q0 0)) (by rfl) rfl N6.out (tm4_one' _) (by omega) (by unfold maxLen; omega) (by omega) HG6 w5.heap.size rfl (fun g cap w7 ho7 hg7 hgg7 hlt7 => ?_)
  have hXg : w.heap.size ≠ g := by
    rcases hgg7 with e | e
    · have := HV.out g e; omega
    · omega
  have hng : nb ≠ g := by
    rcases hgg7 with e | e
    · have : base ≤ g := (own_lt HA.out.own e).1; omega
    · omega
  have hvn : some nb ≠ (Value.slice a0 L.length c0).ownBlock := fun e => by have := (own_lt HA.out.own e.symm).1; omega
  refine hK.out _ _ (keep4 (by assumption) (hg7.block _ hwW (fun e => by have := HV.out _ e.symm; omega))) (fun hHeld => ?_)
  clear hK
  have d0 := cell_grown hg7 HA.out.box.1 hvn
  have d1 := frozen_grown hg7 HA.out.box.1 HA.out.box.2 hvn
  obtain ⟨c0, k0, l0⟩ := own_there ho7 (L.length * 4) (by omega)
  obtain ⟨c1, k1, l1⟩ := own_there ho7 (L.length * 4 + 1) (by omega)
  obtain ⟨c2, k2, l2⟩ := own_there ho7 (L.length * 4 + 2) (by omega)
  obtain ⟨c3, k3, l3⟩ := own_there ho7 (L.length * 4 + 3) (by omega)
  have HQ := mkHid (fun (w9 : World) (h9 : w9 = (st4 w7 g (L.length * 4) z).setCell ⟨nb, 0, none⟩ (.slice (some ⟨g, 0, none⟩) (L.length + 1) cap)) => step_fin HA.out ⟨HZT.out, HZN.out, by have e := congrArg Tm.size HZE.out; rw [er_size, er_size] at e; omega, by have e := congrArg Tm.deep HZE.out; rw [er_deep, er_deep] at e; omega⟩ HZG.out hnb hng ⟨d0, d1⟩ ho7 hg7 hgg7 h9)
  clear ho7 hg7 hgg7
  have hll : (L.length : Int) < (L.length : Int) + 1 := by omega
  refine wpAnyH_take (i := 6) (v := ?_) rfl (by kernel_rfl) (by kernel_rfl) (by kernel_rfl) (fun _ _ _ h => h) (Or.inl ⟨by kernel_rfl, ?_⟩) (by assumption) ?_
  rotate_left
  · (intro w hSw; (try dsimp only at hSw); go_simp; try with_reducible rfl)
  simp only [Act.put, List.getElem_toArray, List.getElem_cons_succ, List.getElem_cons_zero, List.setIfInBounds_toArray, List.set_cons_zero, List.set_cons_succ]
  refine wpAnyH_ready (rs := [7, 8]) (by kernel_rfl) (by simp) ?_
  refine AllReadyH.cons rfl (fun K hK => ?_) ?_
  · go_simp
    refine hK.out _ _ (keep4 (by assumption) (st4_block hXg)) (fun hHeld => ?_)
    clear hK
    refine wpAnyH_ready (rs := [8]) (by kernel_rfl) (by simp) ?_
    refine AllReadyH.cons rfl (fun K hK => ?_) AllReadyH.nil
    go_simp
    refine hK.out _ _ (keep4 (by assumption) (Below.heap_setCell _ ⟨nb, 0, none⟩ _ _ hXn)) (fun hHeld => ?_)
    clear hK
    refine wpAnyH_done (by kernel_rfl) ?_ _
    go_wp2
    go_end0
    exact met_fin (bon HB.out BV.out) (HQ.out _ rfl) HJ.out HH.out HZE.out
  refine AllReadyH.cons rfl (fun K hK => ?_) AllReadyH.nil
  go_simp
  refine hK.out _ _ (keep4 (by assumption) (Below.heap_setCell _ ⟨nb, 0, none⟩ _ _ hXn)) (fun hHeld => ?_)
  clear hK
  refine wpAnyH_ready (rs := [7]) (by kernel_rfl) (by simp) ?_
  refine AllReadyH.cons rfl (fun K hK => ?_) AllReadyH.nil
  go_simp
  refine hK.out _ _ (keep4 (by assumption) (st4_block hXg)) (fun hHeld => ?_)
  clear hK
  refine wpAnyH_done (by kernel_rfl) ?_ _
  go_wp2
  go_end0
  exact met_fin (bon HB.out BV.out) (HQ.out _ (st4_comm hng)) HJ.out HH.out HZE.out
set_option maxHeartbeats 4000000 in
set_option maxRecDepth 100000 in
theorem meet_old (t : Tm) (base nb fb : Nat) (L : List Tm) (v : Value) (w : World) (hin : TIn w w.heap.size t) (hA : ARow w base nb v L) (hlen : L.length + t.size ≤ 2000) (hj : jnB t.op = false) (hh : has L t = true) :
    Calls Tryd.prog 84 #[t.val, .pointer (some ⟨fb, 0, none⟩), .pointer (some ⟨nb, 0, none⟩)] w (MetP t base nb L v w) := by
  have hb1 := bel_alloc w (boxT t)
  have f4 := box_four w t
  have hW : w.alloc (.cells #[.int .i64 t.op, .string t.nm, .int .i64 t.n, .slice t.a t.ks.length t.c] 24) = w.alloc (boxT t) := rfl
  have hsW : (w.alloc (boxT t)).heap.size = w.heap.size + 1 := by simp
  have hz := size_pos t
  have hpl : plc L t = (fnd L t : Int) := by unfold plc; rw [if_pos hh]
  have HPC := mkHid (place_any L t v (w.alloc (boxT t)) (((hA.later hb1).row (by omega))) (fun x hx => by obtain ⟨h1, -, h2, h3⟩ := (hA.later hb1).els x hx; exact ⟨h1, h2, h3⟩) (hin.later hb1))
  rw [hpl] at HPC
  have HDF := mkHid (fun w => defined_any t.op w)
  have hd : dfB t.op = false := by unfold dfB; rw [hj]; rfl
  rw [hd] at HDF
  have h18 : (t.op == 18) = false := by
    rw [beq_eq_false_iff_ne]; intro e; rw [e] at hj; exact absurd hj (by decide)
  have HA0 := mkHid hA
  replace hA := hA.later hb1
  have hbx := hA.box.1
  have hfl : ¬ ((fnd L t : Nat) : Int) < 0 := by omega
  have HR : Hid (L.map Tm.er = ats t (L.map Tm.er)) := by
    show _ = _
    rw [ats_eq, if_neg (by rw [hj]; simp), if_pos (by rw [has_map, hh])]
  have HB := mkHid hb1
  clear hin hA hd hj hh hpl
  generalize fnd L t = fn at *
  generalize w.alloc (boxT t) = W at *
  obtain ⟨f0, f1, f2, f3⟩ := f4
  simp only [Nat.zero_add] at f1 f2 f3
  unfold Tm.val at *
  go_enter Tryd.func84, Tryd.ntmps84
  go_wp2_with (first
    | (go_at_call 85; ((with_reducible refine (HDF.out _).mono ?_)); rintro e w1 ⟨rfl, rfl⟩)
    | (go_at_call 86; ((with_reducible refine HPC.out.mono ?_)); rintro e w2 ⟨rfl, hb2⟩))
  go_end0
  exact ⟨rfl, v, L, Gr.of (bon HB.out hb2), HA0.out.later (bon HB.out hb2), HR.out⟩
set_option maxHeartbeats 4000000 in
set_option maxRecDepth 100000 in
theorem meet_not (t : Tm) (base nb fb : Nat) (L : List Tm) (v : Value) (w : World) (B : Nat) (hin : TIn w B t) (hB1 : B ≤ nb) (hB2 : B ≤ base) (n1 : nb ≠ fb) (hnb : nb < base) (hfb : fb < base) (hbw : base ≤ w.heap.size) (hA : ARow w base nb v L) (hcl : w.cell? ⟨fb, 0, none⟩ = some (metF nb fb)) (hlen : L.length + t.size ≤ 2000) (hdeep : t.deep ≤ 100) (h18 : t.op = 18) (ih : ∀ k ∈ t.ks, ∀ (L : List Tm) (v : Value) (w : World), TIn w B k → base ≤ w.heap.size → ARow w base nb v L → w.cell? ⟨fb, 0, none⟩ = some (metF nb fb) → L.length + k.size ≤ 2000 → k.deep ≤ 100 → Calls Tryd.prog 84 #[k.val, .pointer (some ⟨fb, 0, none⟩), .pointer (some ⟨nb, 0, none⟩)] w (MetP k base nb L v w)) :
    Calls Tryd.prog 84 #[t.val, .pointer (some ⟨fb, 0, none⟩), .pointer (some ⟨nb, 0, none⟩)] w (MetP t base nb L v w) := by
  have hb1 := bel_alloc w (boxT t)
  have f4 := box_four w t
  have hW : w.alloc (.cells #[.int .i64 t.op, .string t.nm, .int .i64 t.n, .slice t.a t.ks.length t.c] 24) = w.alloc (boxT t) := rfl
  have hsW : (w.alloc (boxT t)).heap.size = w.heap.size + 1 := by simp
  have hj : jnB t.op = true := by rw [h18]; rfl
  have hsz := Tm.size_eq t
  have hdp := Tm.deep_eq t
  have HV : Hid (∀ g, v.ownBlock = some g → base ≤ g ∧ g < w.heap.size) := fun g e => own_lt hA.own e
  have IH := mkHid ih
  have HIN := mkHid hin
  have HB := mkHid hb1
  have HE : Hid (ats t (L.map Tm.er) = atss t.ks (L.map Tm.er)) := by
    show _ = _
    rw [ats_eq, if_pos hj]
  have hkl : t.ks.length ≤ 2000 := by
    have := len_sizes t.ks
    omega
  have HA0 := mkHid (hA.later hb1)
  have cl := cell_later hb1 hcl
  unfold metF at cl
  clear hin hA hcl hj ih
  generalize w.alloc (boxT t) = W at *
  have F4 := mkHid f4
  obtain ⟨f0, f1, f2, f3⟩ := f4
  simp only [Nat.zero_add] at f1 f2 f3
  unfold Tm.val
  rw [h18] at *
  clear h18
  obtain ⟨n, hn⟩ : ∃ n, t.ks.length = n := ⟨_, rfl⟩
  have HN := mkHid hn
  rw [hn] at hkl f3 hW ⊢
  clear hn
  have hn9 : n ≤ 9223372036854775807 := by omega
  go_enter Tryd.func84, Tryd.ntmps84
  go_wp2
  have HC0 := mkHid cl
  clear f0 f1 f2 f3 hW cl
  go_loopw [17] (fun i w' => ∃ (k : Nat) (x : Int) (v' : Value) (L' : List Tm), i = .int .i64 x ∧ x = k ∧ k ≤ n ∧ Hid (Gr (· = nb) W v w' v') ∧ Hid (ARow w' base nb v' L') ∧ Hid (L'.map Tm.er = atss (t.ks.take k) (L.map Tm.er))) (fun i _ => (n - intOf i).toNat)
  case atStart => exact ⟨0, 0, v, L, rfl, rfl, Nat.zero_le _, mkHid (Gr.refl _ _ _), HA0, mkHid (by rw [List.take_zero]; rfl)⟩
  case round =>
    obtain ⟨k, x, v1, L1, rfl, hxk, hk, HG, HA, HL⟩ := hrel
    obtain rfl : x = (k : Int) := hxk
    by_cases hlt : k < n
    · have hk' : k < t.ks.length := by rw [HN.out]; exact hlt
      have hbB : B ≤ W.heap.size := Nat.le_trans (Nat.le_trans hB2 hbw) HB.out.size
      have bB : Below B W wr := HG.out.below (fun q e => by have e' : q = nb := e; omega) (fun q e => by have := HV.out q e; omega) hbB
      have bB0 : Below B w wr := (HB.out.mono (Nat.le_trans hB2 hbw)).trans bB
      have szW := HG.out.size
      have szw := HB.out.size
      obtain ⟨kin, b, o, ha, hbl, kf⟩ := HIN.out.kid k hk'
      have kin' := kin.keep bB0
      have kf' := kf.keep bB0 hbl
      have hXv : some w.heap.size ≠ v.ownBlock := fun e => by have := HV.out _ e.symm; omega
      have f4' := HG.out.four F4.out (by show ¬ w.heap.size = nb; omega) hXv
      have cl' := HG.out.cell HC0.out (by show ¬ fb = nb; omega) (fun e => by have := HV.out _ e.symm; simp only at this; omega)
      have hb2 := bel_alloc wr (boxT t.ks[k])
      have g4 := box_four wr t.ks[k]
      have hle := sizes_take_le t.ks (k + 1)
      rw [take_succ_sizes t.ks k hk'] at hle
      have hll : L1.length ≤ L.length + Tm.sizes (t.ks.take k) := by
        have e := congrArg List.length HL.out
        rw [List.length_map] at e
        have := atss_le (t.ks.take k) (L.map Tm.er) (fun k _ r => ats_le k r)
        rw [List.length_map] at this
        omega
      have hdk := deep_mem (List.getElem_mem hk')
      have HC := mkHid (IH.out t.ks[k] (List.getElem_mem _) L1 v1 (wr.alloc (boxT t.ks[k])) (kin'.keep (hb2.mono (by omega))) (by have := hb2.size; omega) (HA.out.later hb2) (cell_later hb2 cl') (by omega) (by omega))
      have HT := mkHid (atss_take hk' (L.map Tm.er))
      have hW2 : wr.alloc (.cells #[.int .i64 t.ks[k].op, .string t.ks[k].nm, .int .i64 t.ks[k].n, .slice t.ks[k].a t.ks[k].ks.length t.ks[k].c] 24) = wr.alloc (boxT t.ks[k]) := rfl
      have cl := cell_later hb2 cl'
      have HG2 := mkHid (HG.out.later hb2)
      rw [ha]
      clear ha kin kf kin' hle hll hdk cl' f4' hXv bB bB0 hbB szW szw hbl
      generalize t.ks[k] = q at *
      clear hk'
      obtain ⟨g0, g1, g2, g3⟩ := kf'
      obtain ⟨f0, f1, f2, f3⟩ := g4
      simp only [Nat.zero_add] at f1 f2 f3
      generalize wr.alloc (boxT q) = W2 at *
      unfold Tm.val at HC
      clear hb2
      have hk2 : (k : Int) < (n : Int) := by omega
      go_wp2_with (go_at_call 84; ((with_reducible refine HC.out.mono ?_)); rintro e w1 ⟨rfl, v2, L2, hg2, ha2, hl2⟩)
      have HG3 := mkHid (HG2.out.trans hg2)
      have HA3 := mkHid ha2
      have HL3 : Hid (L2.map Tm.er = atss (t.ks.take (k + 1)) (L.map Tm.er)) := by
        show _ = _
        rw [HT.out, ← HL.out, hl2]
      clear hg2 ha2 hl2
      go_roundw
      case rel => exact ⟨k + 1, _, v2, L2, rfl, by omega, by omega, HG3, HA3, HL3⟩
      case measure => simp [intOf]; omega
    · obtain rfl : k = n := by omega
      have HF : Hid (MetP t base nb L v w (.returned (.tuple #[])) wr) := by
        refine ⟨rfl, v1, L1, (Gr.of HB.out).trans HG.out, HA.out, ?_⟩
        rw [HE.out, HL.out, List.take_of_length_le (by rw [HN.out]; omega)]
      go_wp2
      go_end0
      exact HF.out
set_option maxHeartbeats 4000000 in
set_option maxRecDepth 100000 in
theorem meet_def (t : Tm) (base nb fb : Nat) (L : List Tm) (v : Value) (w : World) (B : Nat) (hin : TIn w B t) (hB1 : B ≤ nb) (hB2 : B ≤ base) (n1 : nb ≠ fb) (hnb : nb < base) (hfb : fb < base) (hbw : base ≤ w.heap.size) (hA : ARow w base nb v L) (hcl : w.cell? ⟨fb, 0, none⟩ = some (metF nb fb)) (hlen : L.length + t.size ≤ 2000) (hdeep : t.deep ≤ 100) (hd : dfB t.op = true) (ih : ∀ k ∈ t.ks, ∀ (L : List Tm) (v : Value) (w : World), TIn w B k → base ≤ w.heap.size → ARow w base nb v L → w.cell? ⟨fb, 0, none⟩ = some (metF nb fb) → L.length + k.size ≤ 2000 → k.deep ≤ 100 → Calls Tryd.prog 84 #[k.val, .pointer (some ⟨fb, 0, none⟩), .pointer (some ⟨nb, 0, none⟩)] w (MetP k base nb L v w)) :
    Calls Tryd.prog 84 #[t.val, .pointer (some ⟨fb, 0, none⟩), .pointer (some ⟨nb, 0, none⟩)] w (MetP t base nb L v w) := by
  have hb1 := bel_alloc w (boxT t)
  have f4 := box_four w t
  have hW : w.alloc (.cells #[.int .i64 t.op, .string t.nm, .int .i64 t.n, .slice t.a t.ks.length t.c] 24) = w.alloc (boxT t) := rfl
  have hsW : (w.alloc (boxT t)).heap.size = w.heap.size + 1 := by simp
  have hj : jnB t.op = true := by unfold dfB at hd; simp only [Bool.and_eq_true] at hd; exact hd.1
  have h18b : (t.op == 18) = false := by
    rw [beq_eq_false_iff_ne]; intro e; rw [e] at hd; exact absurd hd (by decide)
  have HDF := mkHid (fun w => defined_any t.op w)
  rw [hd] at HDF
  clear hd
  have hsz := Tm.size_eq t
  have hdp := Tm.deep_eq t
  have HV : Hid (∀ g, v.ownBlock = some g → base ≤ g ∧ g < w.heap.size) := fun g e => own_lt hA.own e
  have IH := mkHid ih
  have HIN := mkHid hin
  have HB := mkHid hb1
  have HE : Hid (ats t (L.map Tm.er) = atss t.ks (L.map Tm.er)) := by
    show _ = _
    rw [ats_eq, if_pos hj]
  have hkl : t.ks.length ≤ 2000 := by
    have := len_sizes t.ks
    omega
  have HA0 := mkHid (hA.later hb1)
  have cl := cell_later hb1 hcl
  unfold metF at cl
  clear hin hA hcl hj ih
  generalize w.alloc (boxT t) = W at *
  have F4 := mkHid f4
  obtain ⟨f0, f1, f2, f3⟩ := f4
  simp only [Nat.zero_add] at f1 f2 f3
  unfold Tm.val
  obtain ⟨n, hn⟩ : ∃ n, t.ks.length = n := ⟨_, rfl⟩
  have HN := mkHid hn
  rw [hn] at hkl f3 hW ⊢
  clear hn
  have hn9 : n ≤ 9223372036854775807 := by omega
  go_enter Tryd.func84, Tryd.ntmps84
  go_wp2_with (go_at_call 85; ((with_reducible refine (HDF.out _).mono ?_)); rintro e w1 ⟨rfl, hw1⟩; subst w1)
  have HC0 := mkHid cl
  clear f0 f1 f2 f3 hW cl
  go_loopw [17] (fun i w' => ∃ (k : Nat) (x : Int) (v' : Value) (L' : List Tm), i = .int .i64 x ∧ x = k ∧ k ≤ n ∧ Hid (Gr (· = nb) W v w' v') ∧ Hid (ARow w' base nb v' L') ∧ Hid (L'.map Tm.er = atss (t.ks.take k) (L.map Tm.er))) (fun i _ => (n - intOf i).toNat)
  case atStart => exact ⟨0, 0, v, L, rfl, rfl, Nat.zero_le _, mkHid (Gr.refl _ _ _), HA0, mkHid (by rw [List.take_zero]; rfl)⟩
  case round =>
    obtain ⟨k, x, v1, L1, rfl, hxk, hk, HG, HA, HL⟩ := hrel
    obtain rfl : x = (k : Int) := hxk
    by_cases hlt : k < n
    · have hk' : k < t.ks.length := by rw [HN.out]; exact hlt
      have hbB : B ≤ W.heap.size := Nat.le_trans (Nat.le_trans hB2 hbw) HB.out.size
      have bB : Below B W wr := HG.out.below (fun q e => by have e' : q = nb := e; omega) (fun q e => by have := HV.out q e; omega) hbB
      have bB0 : Below B w wr := (HB.out.mono (Nat.le_trans hB2 hbw)).trans bB
      have szW := HG.out.size
      have szw := HB.out.size
      obtain ⟨kin, b, o, ha, hbl, kf⟩ := HIN.out.kid k hk'
      have kin' := kin.keep bB0
      have kf' := kf.keep bB0 hbl
      have hXv : some w.heap.size ≠ v.ownBlock := fun e => by have := HV.out _ e.symm; omega
      have f4' := HG.out.four F4.out (by show ¬ w.heap.size = nb; omega) hXv
      have cl' := HG.out.cell HC0.out (by show ¬ fb = nb; omega) (fun e => by have := HV.out _ e.symm; simp only at this; omega)
      have hb2 := bel_alloc wr (boxT t.ks[k])
      have g4 := box_four wr t.ks[k]
      have hle := sizes_take_le t.ks (k + 1)
      rw [take_succ_sizes t.ks k hk'] at hle
      have hll : L1.length ≤ L.length + Tm.sizes (t.ks.take k) := by
        have e := congrArg List.length HL.out
        rw [List.length_map] at e
        have := atss_le (t.ks.take k) (L.map Tm.er) (fun k _ r => ats_le k r)
        rw [List.length_map] at this
        omega
      have hdk := deep_mem (List.getElem_mem hk')
      have HC := mkHid (IH.out t.ks[k] (List.getElem_mem _) L1 v1 (wr.alloc (boxT t.ks[k])) (kin'.keep (hb2.mono (by omega))) (by have := hb2.size; omega) (HA.out.later hb2) (cell_later hb2 cl') (by omega) (by omega))
      have HT := mkHid (atss_take hk' (L.map Tm.er))
      have hW2 : wr.alloc (.cells #[.int .i64 t.ks[k].op, .string t.ks[k].nm, .int .i64 t.ks[k].n, .slice t.ks[k].a t.ks[k].ks.length t.ks[k].c] 24) = wr.alloc (boxT t.ks[k]) := rfl
      have cl := cell_later hb2 cl'
      have HG2 := mkHid (HG.out.later hb2)
      rw [ha]
      clear ha kin kf kin' hle hll hdk cl' f4' hXv bB bB0 hbB szW szw hbl
      generalize t.ks[k] = q at *
      clear hk'
      obtain ⟨g0, g1, g2, g3⟩ := kf'
      obtain ⟨f0, f1, f2, f3⟩ := g4
      simp only [Nat.zero_add] at f1 f2 f3
      generalize wr.alloc (boxT q) = W2 at *
      unfold Tm.val at HC
      clear hb2
      have hk2 : (k : Int) < (n : Int) := by omega
      go_wp2_with (go_at_call 84; ((with_reducible refine HC.out.mono ?_)); rintro e w1 ⟨rfl, v2, L2, hg2, ha2, hl2⟩)
      have HG3 := mkHid (HG2.out.trans hg2)
      have HA3 := mkHid ha2
      have HL3 : Hid (L2.map Tm.er = atss (t.ks.take (k + 1)) (L.map Tm.er)) := by
        show _ = _
        rw [HT.out, ← HL.out, hl2]
      clear hg2 ha2 hl2
      go_roundw
      case rel => exact ⟨k + 1, _, v2, L2, rfl, by omega, by omega, HG3, HA3, HL3⟩
      case measure => simp [intOf]; omega
    · obtain rfl : k = n := by omega
      have HF : Hid (MetP t base nb L v w (.returned (.tuple #[])) wr) := by
        refine ⟨rfl, v1, L1, (Gr.of HB.out).trans HG.out, HA.out, ?_⟩
        rw [HE.out, HL.out, List.take_of_length_le (by rw [HN.out]; omega)]
      go_wp2
      go_end0
      exact HF.out
theorem meet_any (t : Tm) : ∀ (B base nb fb : Nat) (L : List Tm) (v : Value) (w : World), TIn w B t → B ≤ nb → B ≤ base → nb ≠ fb → nb < base → fb < base → base ≤ w.heap.size → ARow w base nb v L → w.cell? ⟨fb, 0, none⟩ = some (metF nb fb) → L.length + t.size ≤ 2000 → t.deep ≤ 100 →
    Calls Tryd.prog 84 #[t.val, .pointer (some ⟨fb, 0, none⟩), .pointer (some ⟨nb, 0, none⟩)] w (MetP t base nb L v w) := by
  induction t using Tm.ind with
  | h t ih =>
  intro B base nb fb L v w hin hB1 hB2 n1 hnb hfb hbw hA hcl hlen hdeep
  have hin' : TIn w w.heap.size t := hin.mono (by omega)
  cases hj : jnB t.op with
  | false =>
    cases hh : has L t with
    | false => exact meet_new t base nb fb L v w hin' hnb hbw hA hlen hdeep hj hh
    | true => exact meet_old t base nb fb L v w hin' hA hlen hj hh
  | true =>
    have IH : ∀ k ∈ t.ks, ∀ (L : List Tm) (v : Value) (w : World), TIn w B k → base ≤ w.heap.size → ARow w base nb v L → w.cell? ⟨fb, 0, none⟩ = some (metF nb fb) → L.length + k.size ≤ 2000 → k.deep ≤ 100 → Calls Tryd.prog 84 #[k.val, .pointer (some ⟨fb, 0, none⟩), .pointer (some ⟨nb, 0, none⟩)] w (MetP k base nb L v w) :=
      fun k hk L v w h1 h2 h3 h4 h5 h6 => ih k hk B base nb fb L v w h1 hB1 hB2 n1 hnb hfb h2 h3 h4 h5 h6
    by_cases h18 : t.op = 18
    · exact meet_not t base nb fb L v w B hin hB1 hB2 n1 hnb hfb hbw hA hcl hlen hdeep h18 IH
    · have hd : dfB t.op = true := by unfold dfB; rw [hj, decide_eq_false h18]; rfl
      exact meet_def t base nb fb L v w B hin hB1 hB2 n1 hnb hfb hbw hA hcl hlen hdeep hd IH
end Go.Proofs.YtaiachmolkjedaaDoor
