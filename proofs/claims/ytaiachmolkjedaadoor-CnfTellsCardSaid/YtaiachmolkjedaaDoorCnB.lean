/-
  Rows that grow, and what stays while they do.
-/
import Derived.Test.YtaiachmolkjedaaDoorCnA
import Derived.Test.YtaiachmolkjedaaDoorNmA
import Derived.Deep.AppendLies
namespace Go.Proofs.YtaiachmolkjedaaDoor
open Go.RowKit

/-- nothing that was there has turned, but blocks in S, and the row that v is; v' is that row, or a new one -/
structure Gr (S : Nat → Prop) (w : World) (v : Value) (w' : World) (v' : Value) : Prop where
  os : w'.os = w.os
  tape : w'.tape = w.tape
  output : w'.output = w.output
  size : w.heap.size ≤ w'.heap.size
  block : ∀ k, k < w.heap.size → ¬ S k → some k ≠ v.ownBlock → w'.heap[k]? = w.heap[k]?
  own : ∀ k, v'.ownBlock = some k → v.ownBlock = some k ∨ w.heap.size ≤ k
theorem Gr.refl (S : Nat → Prop) (w : World) (v : Value) : Gr S w v w v := ⟨rfl, rfl, rfl, Nat.le_refl _, fun _ _ _ _ => rfl, fun _ h => .inl h⟩
theorem Gr.trans {S : Nat → Prop} {a b c : World} {v v' v'' : Value} (h : Gr S a v b v') (k : Gr S b v' c v'') : Gr S a v c v'' := by
  refine ⟨k.os.trans h.os, k.tape.trans h.tape, k.output.trans h.output, Nat.le_trans h.size k.size, fun i hi hs hv => ?_, fun i hi => ?_⟩
  · refine (k.block i (Nat.lt_of_lt_of_le hi h.size) hs (fun e => ?_)).trans (h.block i hi hs hv)
    rcases h.own i e.symm with e' | e'
    · exact hv e'.symm
    · omega
  · rcases k.own i hi with e | e
    · exact h.own i e
    · exact .inr (Nat.le_trans h.size e)
theorem Gr.mono {S S' : Nat → Prop} {a b : World} {v v' : Value} (h : Gr S a v b v') (hs : ∀ k, S k → S' k) : Gr S' a v b v' :=
  ⟨h.os, h.tape, h.output, h.size, fun k hk hn => h.block k hk (fun e => hn (hs k e)), h.own⟩
theorem Gr.of {S : Nat → Prop} {w w' : World} {v : Value} (h : Below w.heap.size w w') : Gr S w v w' v :=
  ⟨h.os, h.tape, h.output, h.size, fun k hk _ _ => h.block k hk, fun _ e => .inl e⟩
theorem Gr.later {S : Nat → Prop} {a w w' : World} {v v' : Value} (h : Gr S a v w v') (hb : Below w.heap.size w w') : Gr S a v w' v' := h.trans (Gr.of hb)
theorem Gr.set {S : Nat → Prop} {a w : World} {v v' : Value} (h : Gr S a v w v') {p : Addr} (hp : S p.block) (u : Value) : Gr S a v (w.setCell p u) v' :=
  ⟨h.os, h.tape, h.output, by simpa [World.setCell] using h.size, fun k hk hs hv => by
    rw [Below.heap_setCell w p u k (by rintro rfl; exact hs hp)]; exact h.block k hk hs hv, h.own⟩
theorem Gr.setNew {S : Nat → Prop} {a w : World} {v v' : Value} (h : Gr S a v w v') {p : Addr} (hp : a.heap.size ≤ p.block) (u : Value) : Gr S a v (w.setCell p u) v' :=
  ⟨h.os, h.tape, h.output, by simpa [World.setCell] using h.size, fun k hk hs hv => by
    rw [Below.heap_setCell w p u k (by omega)]; exact h.block k hk hs hv, h.own⟩
theorem Gr.drew {S : Nat → Prop} {a w : World} {v v' : Value} (h : Gr S a v w v') : Gr S a v w.drew v' := ⟨h.os, h.tape, h.output, h.size, h.block, h.own⟩
theorem Gr.grown {S : Nat → Prop} {w w' : World} {v : Value} {g n cap : Nat} (h : w.grownBy w' v.ownBlock) (hg : v.ownBlock = some g ∨ g = w.heap.size) : Gr S w v w' (.slice (some ⟨g, 0, none⟩) n cap) :=
  ⟨h.os, h.tape, h.output, h.size, fun k hk _ hv => h.block k hk hv, fun k e => by
    simp only [Value.ownBlock, Option.some.injEq] at e
    subst e
    rcases hg with e | e
    · exact .inl e
    · exact .inr (Nat.le_of_eq e.symm)⟩
theorem Gr.below {S : Nat → Prop} {B : Nat} {w w' : World} {v v' : Value} (h : Gr S w v w' v') (hs : ∀ k, S k → B ≤ k) (hv : ∀ k, v.ownBlock = some k → B ≤ k) (hB : B ≤ w.heap.size) : Below B w w' :=
  ⟨h.os, h.tape, h.output, h.size, fun k hk => h.block k (by omega) (fun e => by have := hs k e; omega) (fun e => by have := hv k e.symm; omega)⟩
theorem Gr.cell {S : Nat → Prop} {w w' : World} {v v' : Value} (h : Gr S w v w' v') {p : Addr} {x : Value} (hc : w.cell? p = some x) (hs : ¬ S p.block) (hv : some p.block ≠ v.ownBlock) : w'.cell? p = some x := by
  have := World.cell?_of_block (w := w) (h.block p.block (World.block_lt_of_cell? _ _ hc) hs hv)
  rw [this]; exact hc
theorem Gr.frozen {S : Nat → Prop} {w w' : World} {v v' : Value} (h : Gr S w v w' v') {p : Addr} {x : Value} (hc : w.cell? p = some x) (hf : w.frozen? p = false) (hs : ¬ S p.block) (hv : some p.block ≠ v.ownBlock) : w'.frozen? p = false := by
  have := World.frozen?_of_block (w := w) (h.block p.block (World.block_lt_of_cell? _ _ hc) hs hv)
  rw [this]; exact hf
theorem Gr.single {S : Nat → Prop} {w w' : World} {v v' x : Value} {b : Nat} (h : Gr S w v w' v') (hc : Single w b x) (hs : ¬ S b) (hv : some b ≠ v.ownBlock) : Single w' b x :=
  ⟨h.cell hc.1 hs hv, h.frozen hc.1 hc.2 hs hv⟩
theorem Gr.four {S : Nat → Prop} {w w' : World} {v v' : Value} {b o : Nat} {t : Tm} (h : Gr S w v w' v') (hc : Four w b o t) (hs : ¬ S b) (hv : some b ≠ v.ownBlock) : Four w' b o t :=
  ⟨h.cell hc.1 hs hv, h.cell hc.2.1 hs hv, h.cell hc.2.2.1 hs hv, h.cell hc.2.2.2 hs hv⟩
/-- a term keeps as it lies where its blocks are not touched -/
theorem Gr.tin {S : Nat → Prop} {w w' : World} {v v' : Value} {B : Nat} (h : Gr S w v w' v') : ∀ {t : Tm}, TIn w B t → (∀ k, S k → TAw k t) → (∀ k, v.ownBlock = some k → TAw k t) → TIn w' B t := by
  intro t
  induction t using Tm.ind with
  | h t ih =>
    intro hi hs hv
    cases hi with
    | mk _ ho hn hsz hc hm hk hi =>
      refine .mk t ho hn hsz hc hm (fun j hj => ?_) (fun k hk' => ih k hk' (hi k hk') (fun q hq => (hs q hq).kid hk') (fun q hq => (hv q hq).kid hk'))
      obtain ⟨b, o, ha, hb, f⟩ := hk j hj
      have hne : t.ks ≠ [] := List.length_pos_iff.1 (by omega)
      refine ⟨b, o, ha, hb, h.four f (fun e => ?_) (fun e => ?_)⟩
      · cases hs b e with
        | mk _ h' _ => exact h' hne _ ha rfl
      · cases hv b e.symm with
        | mk _ h' _ => exact h' hne _ ha rfl
theorem own_gr {S : Nat → Prop} {w w' : World} {v v' u : Value} {base e s n : Nat} {xs : List Value} (h : Gr S w v w' v') (ho : w.ownsRow base e s u n xs) (hs : ∀ k, u.ownBlock = some k → ¬ S k ∧ v.ownBlock ≠ some k) : w'.ownsRow base e s u n xs := by
  refine ⟨ho.1, ?_⟩
  rcases ho.2 with h0 | ⟨g, cap, cur, rfl, hb, hg, hr⟩
  · exact .inl h0
  · refine .inr ⟨g, cap, cur, rfl, hb, ?_, hr⟩
    obtain ⟨h1, h2⟩ := hs g rfl
    rw [h.block g (Array.getElem?_eq_some_iff.1 hg).1 h1 (fun e => h2 e.symm)]; exact hg
theorem own_lat' {w w' : World} {base e s n : Nat} {v : Value} {xs : List Value} (h : w.ownsRow base e s v n xs) (hb : Below w.heap.size w w') : w'.ownsRow base e s v n xs :=
  own_gr (S := fun _ => False) (Gr.of (v := .slice none 0 0) hb) h (fun k _ => ⟨id, by simp [Value.ownBlock]⟩)
theorem own_lt {w : World} {base e s n k : Nat} {v : Value} {xs : List Value} (h : w.ownsRow base e s v n xs) (hk : v.ownBlock = some k) : base ≤ k ∧ k < w.heap.size := by
  rcases h.2 with ⟨rfl, -⟩ | ⟨g, cap, cur, rfl, hb, hg, -⟩
  · simp [Value.ownBlock] at hk
  · simp only [Value.ownBlock, Option.some.injEq] at hk
    subst hk
    exact ⟨hb, (Array.getElem?_eq_some_iff.1 hg).1⟩
theorem own_is {w : World} {base e s n : Nat} {v : Value} {xs : List Value} (h : w.ownsRow base e s v n xs) : ∃ a cap, v = .slice a n cap ∧ n ≤ cap ∧ cap ≤ maxLen := by
  rcases h.2 with ⟨rfl, rfl⟩ | ⟨g, cap, cur, rfl, hb, hg, h1, h2, -⟩
  · exact ⟨none, 0, rfl, by omega, by unfold maxLen; omega⟩
  · exact ⟨_, _, rfl, h1, h2⟩
end Go.Proofs.YtaiachmolkjedaaDoor
