/-
  A term whose parts are added one by one: what lies in memory meanwhile.
-/
import Derived.Test.YtlobffjgkhcjbaaDoorNrA
import Derived.Deep.AppendLies
namespace Go.Proofs.YtlobffjgkhcjbaaDoor
open Go.RowKit

theorem TIn.but {w w' : World} {B s : Nat} {t : Tm} (h : TIn w B t) (hf : TAw s t) (hb : But s w w') : TIn w' B t := by
  induction t using Tm.ind with
  | h t ih =>
    cases h with
    | mk _ ho hn hs hc hm hk hi =>
      cases hf with
      | mk _ h' hk' =>
        refine .mk t ho hn hs hc hm (fun j hj => ?_) (fun k hk'' => ih k hk'' (hi k hk'') (hk' k hk''))
        obtain ⟨b, o, ha, hbl, f⟩ := hk j hj
        have hne : b ≠ s := h' (List.length_pos_iff.1 (by omega)) _ ha
        exact ⟨b, o, ha, hbl, hb.four f hne⟩
theorem FourV'.but {w w' : World} {b s : Nat} {x y z u : Value} (h : FourV' w b x y z u) (hb : But s w w') (hne : b ≠ s) : FourV' w' b x y z u :=
  ⟨hb.cell h.1 hne, hb.cell h.2.1 hne, hb.cell h.2.2.1 hne, hb.cell h.2.2.2.1 hne, hb.frozen h.1 hne h.2.2.2.2.1, hb.frozen h.2.1 hne h.2.2.2.2.2.1, hb.frozen h.2.2.1 hne h.2.2.2.2.2.2.1, hb.frozen h.2.2.2.1 hne h.2.2.2.2.2.2.2⟩
theorem FourV'.put3 {w : World} {b : Nat} {x y z u : Value} (h : FourV' w b x y z u) (v : Value) : FourV' (w.setCell ⟨b, 3, none⟩ v) b x y z v := by
  obtain ⟨h0, h1, h2, h3, f0, f1, f2, f3⟩ := h
  refine ⟨?_, ?_, ?_, ?_, ?_, ?_, ?_, ?_⟩ <;> simp [go_sem, h0, h1, h2, h3, f0, f1, f2, f3]
theorem own_lat {w w' : World} {base e s n : Nat} {v : Value} {xs : List Value} (h : w.ownsRow base e s v n xs) (hb : Below w.heap.size w w') : w'.ownsRow base e s v n xs := by
  refine ⟨h.1, ?_⟩
  rcases h.2 with h0 | ⟨g, cap, cur, hv, hbg, hg, hr⟩
  · exact .inl h0
  · exact .inr ⟨g, cap, cur, hv, hbg, by rw [hb.block g (Array.getElem?_eq_some_iff.1 hg).1]; exact hg, hr⟩
theorem own_far {w : World} {base e s n : Nat} {v : Value} {xs : List Value} {p : Addr} (h : w.ownsRow base e s v n xs) (hp : p.block < base) (u : Value) : (w.setCell p u).ownsRow base e s v n xs := by
  refine ⟨h.1, ?_⟩
  rcases h.2 with h0 | ⟨g, cap, cur, hv, hbg, hg, hr⟩
  · exact .inl h0
  · exact .inr ⟨g, cap, cur, hv, hbg, by rw [Below.heap_setCell w p u g (by omega)]; exact hg, hr⟩
structure UpR (w : World) (t : Tm) (op : Int) (l : List Tm) (v : Value) (w' : World) : Prop where
  bel : Below w.heap.size w w'
  bt : Four w' w.heap.size 0 t
  fr : FourV' w' (w.heap.size + 1) (.int .i64 0) (.string ⟨#[]⟩) (.int .i64 0) (.slice none 0 0)
  ob : FourV' w' (w.heap.size + 1 + 1) (.int .i64 op) (.string ⟨#[]⟩) (.int .i64 0) v
  own : w'.ownsRow (w.heap.size + 1 + 1 + 1) 24 4 v l.length (l.flatMap tm4)
  els : ∀ x ∈ l, Mk w t w' x
  awo : ∀ x ∈ l, TAw (w.heap.size + 1 + 1) x
  awg : ∀ x ∈ l, ∀ g, v.ownBlock = some g → TAw g x
theorem UpR.later {w w' w'' : World} {t : Tm} {op : Int} {l : List Tm} {v : Value} (h : UpR w t op l v w') (hb : Below w'.heap.size w' w'') : UpR w t op l v w'' :=
  ⟨h.bel.trans (hb.mono h.bel.size), h.bt.later hb, h.fr.later hb, h.ob.later hb, own_lat h.own hb, fun x hx => (h.els x hx).later hb, h.awo, h.awg⟩
theorem UpR.step {w W w7 : World} {t z : Tm} {op : Int} {l : List Tm} {v : Value} {g cap : Nat} (h : UpR w t op l v W) (hz : Mk w t W z) (hzo : TAw (w.heap.size + 1 + 1) z) (hzg : ∀ g, v.ownBlock = some g → TAw g z)
    (ho : w7.ownsRow (w.heap.size + 1 + 1 + 1) 24 4 (.slice (some ⟨g, 0, none⟩) (l.length + 1) cap) (l.length + 1) (l.flatMap tm4 ++ tm4 z)) (hg : W.grownBy w7 v.ownBlock) (hgg : v.ownBlock = some g ∨ g = W.heap.size) :
    UpR w t op (l ++ [z]) (.slice (some ⟨g, 0, none⟩) (l.length + 1) cap) (w7.setCell ⟨w.heap.size + 1 + 1, 3, none⟩ (.slice (some ⟨g, 0, none⟩) (l.length + 1) cap)) := by
  have hO : w.heap.size + 1 + 1 < W.heap.size := World.block_lt_of_cell? _ _ h.ob.1
  obtain ⟨s, hs1, hs2⟩ : ∃ s, w.heap.size + 1 + 1 + 1 ≤ s ∧ ((v.ownBlock = none ∧ s = W.heap.size) ∨ v.ownBlock = some s) := by
    rcases h.own.2 with ⟨rfl, -⟩ | ⟨g0, c0, cur, rfl, hb, -⟩
    · exact ⟨W.heap.size, by omega, .inl ⟨rfl, rfl⟩⟩
    · exact ⟨g0, hb, .inr rfl⟩
  have hB : But s W w7 := ⟨hg.os, hg.tape, hg.output, hg.size, fun k hk hne => hg.block k hk (fun e => by
    rcases hs2 with ⟨h1, -⟩ | h1
    · rw [h1] at e; cases e
    · rw [h1] at e; exact hne (Option.some.inj e))⟩
  have aws : ∀ x ∈ l ++ [z], TAw s x := fun x hx => by
    rcases List.mem_append.1 hx with hx | hx
    · rcases hs2 with ⟨-, h2⟩ | h2
      · rw [h2]; exact (h.els x hx).tin.aw (Nat.le_refl _)
      · exact h.awg x hx s h2
    · rw [List.mem_singleton.1 hx]
      rcases hs2 with ⟨-, h2⟩ | h2
      · rw [h2]; exact hz.tin.aw (Nat.le_refl _)
      · exact hzg s h2
  have mks : ∀ x ∈ l ++ [z], Mk w t W x ∧ TAw (w.heap.size + 1 + 1) x := fun x hx => by
    rcases List.mem_append.1 hx with hx | hx
    · exact ⟨h.els x hx, h.awo x hx⟩
    · rw [List.mem_singleton.1 hx]; exact ⟨hz, hzo⟩
  have hset : But (w.heap.size + 1 + 1) w7 (w7.setCell ⟨w.heap.size + 1 + 1, 3, none⟩ (.slice (some ⟨g, 0, none⟩) (l.length + 1) cap)) := (But.refl _ _).set (p := ⟨w.heap.size + 1 + 1, 3, none⟩) (.inl rfl) _
  have hsz : (w7.setCell ⟨w.heap.size + 1 + 1, 3, none⟩ (.slice (some ⟨g, 0, none⟩) (l.length + 1) cap)).heap.size = w7.heap.size := by simp
  refine ⟨bset (h.bel.trans (hB.below (by omega) h.bel.size)) (p := ⟨w.heap.size + 1 + 1, 3, none⟩) (by show w.heap.size ≤ w.heap.size + 1 + 1; omega) _, hset.four (hB.four h.bt (by omega)) (by omega), (h.fr.but hB (by omega)).but hset (by omega), (h.ob.but hB (by omega)).put3 _, ?_, fun x hx => ?_, fun x hx => (mks x hx).2, fun x hx g' hg' => ?_⟩
  · rw [List.length_append, List.flatMap_append]
    have := own_far (p := ⟨w.heap.size + 1 + 1, 3, none⟩) ho (by show w.heap.size + 1 + 1 < _; omega) (.slice (some ⟨g, 0, none⟩) (l.length + 1) cap)
    simpa using this
  · obtain ⟨m, a⟩ := mks x hx
    refine ⟨?_, m.own, m.aw⟩
    rw [hsz]
    exact ((m.tin.but (aws x hx) hB).mono hg.size).setAw (p := ⟨w.heap.size + 1 + 1, 3, none⟩) a _
  · have hg' : some g = some g' := hg'
    obtain rfl := Option.some.inj hg'
    rcases hgg with e | e
    · rcases List.mem_append.1 hx with hx | hx
      · exact h.awg x hx g e
      · rw [List.mem_singleton.1 hx]; exact hzg g e
    · rw [e]; exact (mks x hx).1.tin.aw (Nat.le_refl _)
theorem UpR.but {w W w7 : World} {t : Tm} {op : Int} {l : List Tm} {v : Value} (h : UpR w t op l v W) (hg : W.grownBy w7 v.ownBlock) : ∃ s, w.heap.size + 1 + 1 + 1 ≤ s ∧ But s W w7 := by
  have hO : w.heap.size + 1 + 1 < W.heap.size := World.block_lt_of_cell? _ _ h.ob.1
  obtain ⟨s, hs1, hs2⟩ : ∃ s, w.heap.size + 1 + 1 + 1 ≤ s ∧ ((v.ownBlock = none ∧ s = W.heap.size) ∨ v.ownBlock = some s) := by
    rcases h.own.2 with ⟨rfl, -⟩ | ⟨g0, c0, cur, rfl, hb, -⟩
    · exact ⟨W.heap.size, by omega, .inl ⟨rfl, rfl⟩⟩
    · exact ⟨g0, hb, .inr rfl⟩
  exact ⟨s, hs1, ⟨hg.os, hg.tape, hg.output, hg.size, fun k hk hne => hg.block k hk (fun e => by
    rcases hs2 with ⟨h1, -⟩ | h1
    · rw [h1] at e; cases e
    · rw [h1] at e; exact hne (Option.some.inj e))⟩⟩
theorem UpR.gl {w W : World} {t : Tm} {op : Int} {l : List Tm} {v : Value} (h : UpR w t op l v W) {g : Nat} (hg : v.ownBlock = some g) : g < W.heap.size ∧ w.heap.size ≤ g := by
  rcases h.own.2 with ⟨rfl, -⟩ | ⟨g0, c0, cur, rfl, hb, hh, -⟩
  · cases hg
  · obtain rfl := Option.some.inj hg
    exact ⟨(Array.getElem?_eq_some_iff.1 hh).1, by simp only; omega⟩
theorem tm4_cells (w : World) (z : Tm) : ∀ i u, (tm4 z)[i]? = some u → (w.alloc (.cells #[.int .i64 z.op, .string z.nm, .int .i64 z.n, .slice z.a z.ks.length z.c] 24)).cell? ((⟨w.heap.size, 0, none⟩ : Addr).add i) = some u := by
  intro i u h
  unfold tm4 at h
  match i, h with
  | 0, h => simpa [go_sem, Addr.add] using h
  | 1, h => simpa [go_sem, Addr.add] using h
  | 2, h => simpa [go_sem, Addr.add] using h
  | 3, h => simpa [go_sem, Addr.add] using h
  | i + 4, h => simp at h
theorem tm4_one (z : Tm) : ∀ u ∈ tm4 z, u.oneCell' = true := by
  intro u hu
  simp only [tm4, List.mem_cons, List.not_mem_nil, or_false] at hu
  rcases hu with rfl | rfl | rfl | rfl <;> rfl
end Go.Proofs.YtlobffjgkhcjbaaDoor
