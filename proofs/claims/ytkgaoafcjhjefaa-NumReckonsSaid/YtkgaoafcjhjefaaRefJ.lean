/-
  What 'Over' does.
-/
import Derived.Test.YtkgaoafcjhjefaaRefI
import Derived.OneCell
import Derived.Deep.AppendLies
namespace Go.Proofs.Ytkgaoafcjhjefaa
open Go.RowKit Go.Shelf

theorem own_later {w w' : World} {base e n : Nat} {v : Value} {xs : List Value} (h : w.ownsRow base e 1 v n xs) (hb : Below w.heap.size w w') : w'.ownsRow base e 1 v n xs := by
  refine ⟨h.1, ?_⟩
  rcases h.2 with h0 | ⟨g, cap, cur, hv, hbase, hg, rest⟩
  · exact Or.inl h0
  · have hlt : g < w.heap.size := by
      rcases Nat.lt_or_ge g w.heap.size with h1 | h1
      · exact h1
      · rw [Array.getElem?_eq_none h1] at hg; cases hg
    exact Or.inr ⟨g, cap, cur, hv, hbase, (hb.block g hlt).trans hg, rest⟩
theorem Num.far {w : World} {s : Bool} {A : Option Addr} {n c : Nat} {z : Int} (h : Num w (.agg #[.bool s, .slice A n c]) z) {q : Addr} (hne : ∀ p, A = some p → q.block ≠ p.block) (u : Value) : Num (w.setCell q u) (.agg #[.bool s, .slice A n c]) z := by
  obtain ⟨A', c', ds, e, hl, hL, rest⟩ := h
  refine ⟨A', c', ds, e, hl, ?_, rest⟩
  injection e with e
  have e2 : Value.slice A n c = Value.slice A' ds.length c' := by
    have := congrArg (fun a => a[1]?) e
    simpa using this
  injection e2 with ea
  subst ea
  rcases hL with h0 | ⟨g, rfl, hg, hc⟩
  · exact Or.inl h0
  · refine Or.inr ⟨g, rfl, by simpa using hg, fun j hj => ?_⟩
    rw [World.cell?_of_block (w := w) (Below.heap_setCell w q u g (fun e => hne _ rfl e.symm))]
    exact hc j hj
structure QS (w0 : World) (A B : Option Addr) (n m c d G X : Nat) (qs : List Int) (A7 : Option Addr) (n7 c7 : Nat) (R : Int) (w : World) : Prop where
  own : w.ownsRow (w0.heap.size + 4) 3 1 (.slice (some ⟨G, 0, none⟩) n n) n (qs.map (Value.int .i64))
  a1 : w.cell? ⟨w0.heap.size, 1, none⟩ = some (.slice A n c)
  b1 : w.cell? ⟨w0.heap.size + 1, 1, none⟩ = some (.slice B m d)
  r4 : Two w (w0.heap.size + 1 + 1) (.bool false) (.slice none 0 0)
  r5 : Two w (w0.heap.size + 1 + 1 + 1) (.bool false) (.slice none 0 0)
  r7 : Two w X (.bool false) (.slice A7 n7 c7)
  num : Num w (.agg #[.bool false, .slice A7 n7 c7]) R
  far : ∀ p, A7 = some p → X < p.block
  gx : G < X
  bel : Below w0.heap.size w0 w
theorem QS.gb {w0 : World} {A B : Option Addr} {n m c d G X : Nat} {qs : List Int} {A7 : Option Addr} {n7 c7 : Nat} {R : Int} {w : World} (h : QS w0 A B n m c d G X qs A7 n7 c7 R w) : w0.heap.size + 4 ≤ G := (h.own.lt G rfl).1
theorem QS.later {w0 : World} {A B : Option Addr} {n m c d G X : Nat} {qs : List Int} {A7 : Option Addr} {n7 c7 : Nat} {R : Int} {w w' : World} (h : QS w0 A B n m c d G X qs A7 n7 c7 R w) (hb : Below w.heap.size w w') : QS w0 A B n m c d G X qs A7 n7 c7 R w' where
  own := own_later h.own hb
  a1 := cell_later hb h.a1
  b1 := cell_later hb h.b1
  r4 := Two.later hb h.r4
  r5 := Two.later hb h.r5
  r7 := Two.later hb h.r7
  num := h.num.later hb
  far := h.far
  gx := h.gx
  bel := bon h.bel hb
theorem QS.store7 {w0 : World} {A B : Option Addr} {n m c d G X : Nat} {qs : List Int} {A7 : Option Addr} {n7 c7 : Nat} {R : Int} {w : World} (h : QS w0 A B n m c d G X qs A7 n7 c7 R w)
    {A8 : Option Addr} {n8 c8 : Nat} {R8 : Int} (hn : Num w (.agg #[.bool false, .slice A8 n8 c8]) R8) (hf : ∀ p, A8 = some p → X < p.block) :
    QS w0 A B n m c d G X qs A8 n8 c8 R8 ((w.setCell ⟨X, 0, none⟩ (.bool false)).setCell ⟨X, 1, none⟩ (.slice A8 n8 c8)) := by
  have hG := h.gb
  have hgx := h.gx
  refine ⟨?_, ?_, ?_, ?_, ?_, Two.set_same h.r7 _ _, hn.set h.r7.1 _ _, hf, hgx, bset (bset h.bel (by simp; omega) _) (by simp; omega) _⟩
  · exact ownsRow_setCell_other (ownsRow_setCell_other h.own (by simp [Value.ownBlock]; omega) _) (by simp [Value.ownBlock]; omega) _
  · rw [cell_far2 _ _ _ _ _ (by simp; omega)]; exact h.a1
  · rw [cell_far2 _ _ _ _ _ (by simp; omega)]; exact h.b1
  · exact Two.set_other h.r4 (by omega) _ _
  · exact Two.set_other h.r5 (by omega) _ _
theorem QS.storeQ {w0 : World} {A B : Option Addr} {n m c d G X : Nat} {qs : List Int} {A7 : Option Addr} {n7 c7 : Nat} {R : Int} {w : World} (h : QS w0 A B n m c d G X qs A7 n7 c7 R w) (i : Nat) (v : Int) :
    QS w0 A B n m c d G X (qs.set i v) A7 n7 c7 R (w.setCell ⟨G, i, none⟩ (.int .i64 v)) := by
  have hst := h.own.stored i (.int .i64 v)
  rw [map_set_int] at hst
  have hG := h.gb
  have hgx := h.gx
  refine ⟨hst.1, ?_, ?_, two_far h.r4 (by omega) _ _, two_far h.r5 (by omega) _ _, two_far h.r7 (by omega) _ _, h.num.far (fun p hp => by have := h.far p hp; simp; omega) _, h.far, hgx, bset h.bel (by simp; omega) _⟩
  · rw [World.cell?_of_block (w := w) (Below.heap_setCell w ⟨G, i, none⟩ _ w0.heap.size (by simp; omega))]; exact h.a1
  · rw [World.cell?_of_block (w := w) (Below.heap_setCell w ⟨G, i, none⟩ _ (w0.heap.size + 1) (by simp; omega))]; exact h.b1
theorem QS.drew {w0 : World} {A B : Option Addr} {n m c d G X : Nat} {qs : List Int} {A7 : Option Addr} {n7 c7 : Nat} {R : Int} {w : World} (h : QS w0 A B n m c d G X qs A7 n7 c7 R w) : QS w0 A B n m c d G X qs A7 n7 c7 R w.drew := h.later (Below.refl _ _).drew
end Go.Proofs.Ytkgaoafcjhjefaa
