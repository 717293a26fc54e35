/-
  A term whose parts are added one by one: what lies in memory meanwhile (whatever its operation, name and number).
  The document's 'put'.
-/
import Derived.Test.YtaibmdikimpooaaDoorNmA
import Derived.Deep.AppendLies
import Derived.Test.YtaibmdikimpooaaDoorRnC
import Derived.Test.YtaibmdikimpooaaDoorSbI
import Derived.Test.YtaibmdikimpooaaDoorSbP
import Derived.BigRegion
namespace Go.Proofs.YtaibmdikimpooaaDoor
section
open Go.RowKit

theorem TIn.but {w w' : World} {B s : Nat} {t : Tm} (h : TIn w B t) (hf : TAw s t) (hb : But s w w') : TIn w' B t := by
  induction t using Tm.ind with
  | h t ih =>
    cases h with
    | mk _ ho hn hs hc hm hk hi =>
      cases hf with
      | mk _ h' hk' =>
        refine .mk t ho hn hs hc hm (fun j hj => ?_) (fun k hk'' => ih k hk'' (hi k hk'') (hk' k hk''))
        obtain ⟨b, o, ha, hbl, f⟩ := hk j hj
        have hne : b ≠ s := h' (List.length_pos_iff.1 (by omega)) _ ha
        exact ⟨b, o, ha, hbl, hb.four f hne⟩
theorem FourV'.but {w w' : World} {b s : Nat} {x y z u : Value} (h : FourV' w b x y z u) (hb : But s w w') (hne : b ≠ s) : FourV' w' b x y z u :=
  ⟨hb.cell h.1 hne, hb.cell h.2.1 hne, hb.cell h.2.2.1 hne, hb.cell h.2.2.2.1 hne, hb.frozen h.1 hne h.2.2.2.2.1, hb.frozen h.2.1 hne h.2.2.2.2.2.1, hb.frozen h.2.2.1 hne h.2.2.2.2.2.2.1, hb.frozen h.2.2.2.1 hne h.2.2.2.2.2.2.2⟩
theorem FourV'.put3 {w : World} {b : Nat} {x y z u : Value} (h : FourV' w b x y z u) (v : Value) : FourV' (w.setCell ⟨b, 3, none⟩ v) b x y z v := by
  obtain ⟨h0, h1, h2, h3, f0, f1, f2, f3⟩ := h
  refine ⟨?_, ?_, ?_, ?_, ?_, ?_, ?_, ?_⟩ <;> simp [go_sem, h0, h1, h2, h3, f0, f1, f2, f3]
theorem own_lat {w w' : World} {base e s n : Nat} {v : Value} {xs : List Value} (h : w.ownsRow base e s v n xs) (hb : Below w.heap.size w w') : w'.ownsRow base e s v n xs := by
  refine ⟨h.1, ?_⟩
  rcases h.2 with h0 | ⟨g, cap, cur, hv, hbg, hg, hr⟩
  · exact .inl h0
  · exact .inr ⟨g, cap, cur, hv, hbg, by rw [hb.block g (Array.getElem?_eq_some_iff.1 hg).1]; exact hg, hr⟩
theorem own_far {w : World} {base e s n : Nat} {v : Value} {xs : List Value} {p : Addr} (h : w.ownsRow base e s v n xs) (hp : p.block < base) (u : Value) : (w.setCell p u).ownsRow base e s v n xs := by
  refine ⟨h.1, ?_⟩
  rcases h.2 with h0 | ⟨g, cap, cur, hv, hbg, hg, hr⟩
  · exact .inl h0
  · exact .inr ⟨g, cap, cur, hv, hbg, by rw [Below.heap_setCell w p u g (by omega)]; exact hg, hr⟩
/-- a part: it lies in memory, and keeps away from the blocks from B on that were there -/
structure Pa (w : World) (B : Nat) (w' : World) (x : Tm) : Prop where
  tin : TIn w' w'.heap.size x
  aw : ∀ R, B ≤ R → R < w.heap.size + 1 + 1 + 1 → TAw R x
theorem Pa.later {w w' w'' : World} {B : Nat} {x : Tm} (h : Pa w B w' x) (hb : Below w'.heap.size w' w'') : Pa w B w'' x := ⟨h.tin.later hb, h.aw⟩
structure PuR (w : World) (B : Nat) (t : Tm) (op : Int) (nm : ByteArray) (n : Int) (l : List Tm) (v : Value) (w' : World) : Prop where
  bel : Below w.heap.size w w'
  bt : Four w' w.heap.size 0 t
  fr : FourV' w' (w.heap.size + 1) (.int .i64 0) (.string ⟨#[]⟩) (.int .i64 0) (.slice none 0 0)
  ob : FourV' w' (w.heap.size + 1 + 1) (.int .i64 op) (.string nm) (.int .i64 n) v
  own : w'.ownsRow (w.heap.size + 1 + 1 + 1) 24 4 v l.length (l.flatMap tm4)
  els : ∀ x ∈ l, Pa w B w' x
  awg : ∀ x ∈ l, ∀ g, v.ownBlock = some g → TAw g x
theorem PuR.later {w w' w'' : World} {B : Nat} {t : Tm} {op : Int} {nm : ByteArray} {n : Int} {l : List Tm} {v : Value} (h : PuR w B t op nm n l v w') (hb : Below w'.heap.size w' w'') : PuR w B t op nm n l v w'' :=
  ⟨h.bel.trans (hb.mono h.bel.size), h.bt.later hb, h.fr.later hb, h.ob.later hb, own_lat h.own hb, fun x hx => (h.els x hx).later hb, h.awg⟩
theorem PuR.but {w W w7 : World} {B : Nat} {t : Tm} {op : Int} {nm : ByteArray} {n : Int} {l : List Tm} {v : Value} (h : PuR w B t op nm n l v W) (hg : W.grownBy w7 v.ownBlock) : ∃ s, w.heap.size + 1 + 1 + 1 ≤ s ∧ But s W w7 ∧ ((v.ownBlock = none ∧ s = W.heap.size) ∨ v.ownBlock = some s) := by
  have hO : w.heap.size + 1 + 1 < W.heap.size := World.block_lt_of_cell? _ _ h.ob.1
  obtain ⟨s, hs1, hs2⟩ : ∃ s, w.heap.size + 1 + 1 + 1 ≤ s ∧ ((v.ownBlock = none ∧ s = W.heap.size) ∨ v.ownBlock = some s) := by
    rcases h.own.2 with ⟨rfl, -⟩ | ⟨g0, c0, cur, rfl, hb, -⟩
    · exact ⟨W.heap.size, by omega, .inl ⟨rfl, rfl⟩⟩
    · exact ⟨g0, hb, .inr rfl⟩
  exact ⟨s, hs1, ⟨hg.os, hg.tape, hg.output, hg.size, fun k hk hne => hg.block k hk (fun e => by
    rcases hs2 with ⟨h1, -⟩ | h1
    · rw [h1] at e; cases e
    · rw [h1] at e; exact hne (Option.some.inj e))⟩, hs2⟩
theorem PuR.step {w W w7 : World} {B : Nat} {t z : Tm} {op : Int} {nm : ByteArray} {n : Int} {l : List Tm} {v : Value} {g cap : Nat} (h : PuR w B t op nm n l v W) (hB0 : B ≤ w.heap.size) (hz : Pa w B W z) (hzg : ∀ g, v.ownBlock = some g → TAw g z)
    (ho : w7.ownsRow (w.heap.size + 1 + 1 + 1) 24 4 (.slice (some ⟨g, 0, none⟩) (l.length + 1) cap) (l.length + 1) (l.flatMap tm4 ++ tm4 z)) (hg : W.grownBy w7 v.ownBlock) (hgg : v.ownBlock = some g ∨ g = W.heap.size) :
    PuR w B t op nm n (l ++ [z]) (.slice (some ⟨g, 0, none⟩) (l.length + 1) cap) (w7.setCell ⟨w.heap.size + 1 + 1, 3, none⟩ (.slice (some ⟨g, 0, none⟩) (l.length + 1) cap)) := by
  have hO : w.heap.size + 1 + 1 < W.heap.size := World.block_lt_of_cell? _ _ h.ob.1
  obtain ⟨s, hs1, hB, hs2⟩ := h.but hg
  have aws : ∀ x ∈ l ++ [z], TAw s x := fun x hx => by
    rcases List.mem_append.1 hx with hx | hx
    · rcases hs2 with ⟨-, h2⟩ | h2
      · rw [h2]; exact (h.els x hx).tin.aw (Nat.le_refl _)
      · exact h.awg x hx s h2
    · rw [List.mem_singleton.1 hx]
      rcases hs2 with ⟨-, h2⟩ | h2
      · rw [h2]; exact hz.tin.aw (Nat.le_refl _)
      · exact hzg s h2
  have mks : ∀ x ∈ l ++ [z], Pa w B W x := fun x hx => by
    rcases List.mem_append.1 hx with hx | hx
    · exact h.els x hx
    · rw [List.mem_singleton.1 hx]; exact hz
  have hset : But (w.heap.size + 1 + 1) w7 (w7.setCell ⟨w.heap.size + 1 + 1, 3, none⟩ (.slice (some ⟨g, 0, none⟩) (l.length + 1) cap)) := (But.refl _ _).set (p := ⟨w.heap.size + 1 + 1, 3, none⟩) (.inl rfl) _
  have hsz : (w7.setCell ⟨w.heap.size + 1 + 1, 3, none⟩ (.slice (some ⟨g, 0, none⟩) (l.length + 1) cap)).heap.size = w7.heap.size := by simp
  refine ⟨bset (h.bel.trans (hB.below (by omega) h.bel.size)) (p := ⟨w.heap.size + 1 + 1, 3, none⟩) (by show w.heap.size ≤ w.heap.size + 1 + 1; omega) _, hset.four (hB.four h.bt (by omega)) (by omega), (h.fr.but hB (by omega)).but hset (by omega), (h.ob.but hB (by omega)).put3 _, ?_, fun x hx => ?_, fun x hx g' hg' => ?_⟩
  · rw [List.length_append, List.flatMap_append]
    have := own_far (p := ⟨w.heap.size + 1 + 1, 3, none⟩) ho (by show w.heap.size + 1 + 1 < _; omega) (.slice (some ⟨g, 0, none⟩) (l.length + 1) cap)
    simpa using this
  · have m := mks x hx
    refine ⟨?_, m.aw⟩
    rw [hsz]
    exact ((m.tin.but (aws x hx) hB).mono hg.size).setAw (p := ⟨w.heap.size + 1 + 1, 3, none⟩) (m.aw (w.heap.size + 1 + 1) (by omega) (by omega)) _
  · have hg' : some g = some g' := hg'
    obtain rfl := Option.some.inj hg'
    rcases hgg with e | e
    · rcases List.mem_append.1 hx with hx | hx
      · exact h.awg x hx g e
      · rw [List.mem_singleton.1 hx]; exact hzg g e
    · rw [e]; exact (mks x hx).tin.aw (Nat.le_refl _)
theorem PuR.gl {w W : World} {B : Nat} {t : Tm} {op : Int} {nm : ByteArray} {n : Int} {l : List Tm} {v : Value} (h : PuR w B t op nm n l v W) {g : Nat} (hg : v.ownBlock = some g) : g < W.heap.size ∧ w.heap.size ≤ g := by
  rcases h.own.2 with ⟨rfl, -⟩ | ⟨g0, c0, cur, rfl, hb, hh, -⟩
  · cases hg
  · obtain rfl := Option.some.inj hg
    exact ⟨(Array.getElem?_eq_some_iff.1 hh).1, by simp only; omega⟩
theorem tm4_cells (w : World) (z : Tm) : ∀ i u, (tm4 z)[i]? = some u → (w.alloc (.cells #[.int .i64 z.op, .string z.nm, .int .i64 z.n, .slice z.a z.ks.length z.c] 24)).cell? ((⟨w.heap.size, 0, none⟩ : Addr).add i) = some u := by
  intro i u h
  unfold tm4 at h
  match i, h with
  | 0, h => simpa [go_sem, Addr.add] using h
  | 1, h => simpa [go_sem, Addr.add] using h
  | 2, h => simpa [go_sem, Addr.add] using h
  | 3, h => simpa [go_sem, Addr.add] using h
  | i + 4, h => simp at h
theorem tm4_one (z : Tm) : ∀ u ∈ tm4 z, u.oneCell' = true := by
  intro u hu
  simp only [tm4, List.mem_cons, List.not_mem_nil, or_false] at hu
  rcases hu with rfl | rfl | rfl | rfl <;> rfl
theorem keep5 {w w' : World} {p0 p1 p2 p3 p4 : Addr} {v0 v1 v2 v3 v4 : Value} (h : w.cell? p0 = some v0 ∧ w.cell? p1 = some v1 ∧ w.cell? p2 = some v2 ∧ w.cell? p3 = some v3 ∧ w.cell? p4 = some v4) (hb : Below w.heap.size w w') :
    w'.cell? p0 = some v0 ∧ w'.cell? p1 = some v1 ∧ w'.cell? p2 = some v2 ∧ w'.cell? p3 = some v3 ∧ w'.cell? p4 = some v4 := by
  obtain ⟨x0, x1, x2, x3, x4⟩ := h
  exact ⟨cell_later hb x0, cell_later hb x1, cell_later hb x2, cell_later hb x3, cell_later hb x4⟩
theorem keep5B {w w' : World} {s : Nat} {p0 p1 p2 p3 p4 : Addr} {v0 v1 v2 v3 v4 : Value} (h : w.cell? p0 = some v0 ∧ w.cell? p1 = some v1 ∧ w.cell? p2 = some v2 ∧ w.cell? p3 = some v3 ∧ w.cell? p4 = some v4) (hb : But s w w') (n0 : p0.block ≠ s) (n1 : p1.block ≠ s) (n2 : p2.block ≠ s) (n3 : p3.block ≠ s) (n4 : p4.block ≠ s) :
    w'.cell? p0 = some v0 ∧ w'.cell? p1 = some v1 ∧ w'.cell? p2 = some v2 ∧ w'.cell? p3 = some v3 ∧ w'.cell? p4 = some v4 := by
  obtain ⟨x0, x1, x2, x3, x4⟩ := h
  exact ⟨hb.cell x0 n0, hb.cell x1 n1, hb.cell x2 n2, hb.cell x3 n3, hb.cell x4 n4⟩
/-- what has been made of it -/
theorem PuR.mk_row {w W : World} {B : Nat} {t : Tm} {op : Int} {nm : ByteArray} {tn : Int} {l : List Tm} {A : Option Addr} {c n : Nat} (h : PuR w B t op nm tn l (.slice A n c) W) (ho : fitB op = true) (htn : fitB tn = true) (hnm : nm.size ≤ maxLen) (hn : n = l.length) : Pa w B W (.node op nm tn A c l) := by
  subst hn
  have hfm : ∀ (l : List Tm) (j : Nat) (hj : j < l.length) (i : Nat), i < 4 → (l.flatMap tm4)[j * 4 + i]? = (tm4 l[j])[i]? := by
    intro l
    induction l with
    | nil => intro j hj; simp at hj
    | cons x l ih =>
      intro j hj i hi
      rw [List.flatMap_cons]
      cases j with
      | zero => rw [List.getElem?_append_left (by show 0 * 4 + i < 4; omega), Nat.zero_mul, Nat.zero_add]; rfl
      | succ j =>
        rw [List.getElem?_append_right (by show 4 ≤ (j + 1) * 4 + i; omega)]
        have e : (j + 1) * 4 + i - (tm4 x).length = j * 4 + i := by show (j + 1) * 4 + i - 4 = _; omega
        rw [e, ih j (by simpa using hj) i hi]
        rfl
  have hb : ∀ R, R < w.heap.size + 1 + 1 + 1 → ∀ p, A = some p → p.block ≠ R := fun R hR p hp => by
    rcases h.own.2 with ⟨e, -⟩ | ⟨g, cap, cur, e, hb, -⟩
    · simp only [Value.slice.injEq] at e
      rw [e.1] at hp; cases hp
    · simp only [Value.slice.injEq] at e
      rw [e.1] at hp
      obtain rfl := Option.some.inj hp
      show g ≠ R
      omega
  have hc : l.length ≤ c ∧ c ≤ maxLen := by
    rcases h.own.2 with ⟨e, h0⟩ | ⟨g, cap, cur, e, -, -, h1, h2, -⟩
    · simp only [Value.slice.injEq] at e
      obtain ⟨-, -, rfl⟩ := e
      exact ⟨by omega, by decide⟩
    · simp only [Value.slice.injEq] at e
      obtain ⟨-, -, rfl⟩ := e
      exact ⟨h1, h2⟩
  refine ⟨.mk _ ho htn hnm hc.1 hc.2 (fun j hj => ?_) (fun x hx => (h.els x hx).tin), fun R hR hT => .mk _ (fun _ => hb R hT) (fun x hx => (h.els x hx).aw R hR hT)⟩
  have hj : j < l.length := hj
  rcases h.own.2 with ⟨e, h0⟩ | ⟨g, cap, cur, e, hbg, hh, h1, h2, hcs, htk⟩
  · omega
  · simp only [Value.slice.injEq] at e
    obtain ⟨rfl, -, rfl⟩ := e
    have hown := h.own
    have cl : ∀ i, i < 4 → W.cell? ⟨g, j * 4 + i, none⟩ = (tm4 l[j])[i]? := fun i hi => by rw [hown.cellAt (j * 4 + i) (by omega), hfm l j hj i hi]
    exact ⟨g, 0, rfl, (Array.getElem?_eq_some_iff.1 hh).1, by rw [Nat.zero_add]; exact ⟨cl 0 (by omega), cl 1 (by omega), cl 2 (by omega), cl 3 (by omega)⟩⟩
end
section
open Go.RowKit

theorem size_al2 (w : World) (o : Obj) : (w.alloc o).heap.size = w.heap.size + 1 := by simp [go_sem]
/-- the first assignment of this name and sort -/
def rF (l : List As) (nm : ByteArray) (s : Int) : Option Tm := (l.find? (fun x => decide (x.1 = nm ∧ (srtR x.2 : Int) = s))).map (·.2)
theorem rF_snoc (l : List As) (x : As) : gF (l ++ [x]) = if errR x.2 = 0 then putT (gF l) x else gF l := by unfold gF; rw [List.foldl_append]; rfl
theorem rF_gF : ∀ (l : List As), (∀ x ∈ l, errR x.2 = 0) → ∀ nm s, rF l nm s = gF l.reverse nm s
  | [], _, nm, s => rfl
  | x :: l, h, nm, s => by
    rw [List.reverse_cons, rF_snoc, if_pos (h x (by simp))]
    unfold putT
    by_cases hx : nm = x.1 ∧ s = (srtR x.2 : Int)
    · rw [if_pos hx]
      unfold rF
      rw [List.find?_cons_of_pos (by simp [hx.1, hx.2])]
      rfl
    · rw [if_neg hx, ← rF_gF l (fun y hy => h y (by simp [hy])) nm s]
      unfold rF
      rw [List.find?_cons_of_neg (by simp only [decide_eq_true_eq]; rintro ⟨e, e'⟩; exact hx ⟨e.symm, e'.symm⟩)]
theorem rF_at {l : List As} {nm : ByteArray} {s : Int} {k : Nat} (hk : k < l.length) (h0 : ∀ j (h : j < l.length), j < k → ¬ (l[j].1 = nm ∧ (srtR l[j].2 : Int) = s)) (h1 : l[k].1 = nm ∧ (srtR l[k].2 : Int) = s) : rF l nm s = some l[k].2 := by
  unfold rF
  induction l generalizing k with
  | nil => simp at hk
  | cons x l ih =>
    cases k with
    | zero =>
      rw [List.find?_cons_of_pos (by simpa using h1)]
      rfl
    | succ k =>
      rw [List.find?_cons_of_neg (by simp only [decide_eq_true_eq]; exact h0 0 (Nat.succ_pos _) (by omega))]
      exact ih (k := k) (by simpa using hk) (fun j h hj => h0 (j + 1) (by simpa using h) (by omega)) h1
theorem rF_none {l : List As} {nm : ByteArray} {s : Int} (h0 : ∀ j (h : j < l.length), ¬ (l[j].1 = nm ∧ (srtR l[j].2 : Int) = s)) : rF l nm s = none := by
  unfold rF
  rw [List.find?_eq_none.2 (fun x hx => ?_)]
  · rfl
  · obtain ⟨j, hj, rfl⟩ := List.mem_iff_getElem.1 hx
    simpa using h0 j hj
/-- what 'put' answers -/
def RpP (F : ByteArray → Int → Option Tm) (B : Nat) (t : Tm) (w : World) (e : Ending) (w' : World) : Prop := ∃ z : Tm, e = .returned z.val ∧ z.er = rp F t ∧ TIn w' w'.heap.size z ∧ (∀ R, B ≤ R → R < w.heap.size → TAw R z) ∧ Below w.heap.size w w'
/-- the answer's box is written -/
theorem rp_fin {F : ByteArray → Int → Option Tm} {B : Nat} {w wN : World} {t x : Tm} (M : Pa w B wN x) (hB : B ≤ w.heap.size) (BW : Below w.heap.size w wN) (he : x.er = rp F t) :
    RpP F B t w (.returned x.val) ((((wN.setCell ⟨w.heap.size + 1, 0, none⟩ (.int .i64 x.op)).setCell ⟨w.heap.size + 1, 1, none⟩ (.string x.nm)).setCell ⟨w.heap.size + 1, 2, none⟩ (.int .i64 x.n)).setCell ⟨w.heap.size + 1, 3, none⟩ (.slice x.a x.ks.length x.c)) := by
  have hsz : ((((wN.setCell ⟨w.heap.size + 1, 0, none⟩ (.int .i64 x.op)).setCell ⟨w.heap.size + 1, 1, none⟩ (.string x.nm)).setCell ⟨w.heap.size + 1, 2, none⟩ (.int .i64 x.n)).setCell ⟨w.heap.size + 1, 3, none⟩ (.slice x.a x.ks.length x.c)).heap.size = wN.heap.size := by simp
  have ow : TAw (w.heap.size + 1) x := M.aw _ (by omega) (by omega)
  refine ⟨x, rfl, he, ?_, fun R h1 h2 => M.aw R h1 (by omega), ?_⟩
  · rw [hsz]
    exact (((M.tin.setAw (p := ⟨w.heap.size + 1, 0, none⟩) ow _).setAw (p := ⟨w.heap.size + 1, 1, none⟩) ow _).setAw (p := ⟨w.heap.size + 1, 2, none⟩) ow _).setAw (p := ⟨w.heap.size + 1, 3, none⟩) ow _
  · exact bset (bset (bset (bset BW (by show w.heap.size ≤ w.heap.size + 1; omega) _) (by show w.heap.size ≤ w.heap.size + 1; omega) _) (by show w.heap.size ≤ w.heap.size + 1; omega) _) (by show w.heap.size ≤ w.heap.size + 1; omega) _
set_option maxRecDepth 100000 in
set_option maxHeartbeats 8000000 in
theorem rput_part (l0 : List As) (sv : Value) (op : Int) (nm : ByteArray) (n : Int) (a : Option Addr) (c : Nat) (ks : List Tm) (hop : varB op = false) (hns : nsN op = 0) (hlen : ks.length ≤ 2000) (B : Nat)
    (Ck : ∀ k ∈ ks, ∀ w' : World, B ≤ w'.heap.size → TIn w' B k → SbRow B w' sv l0 → (∀ x ∈ l0, TIn w' B x.2) → Calls Tryd.prog 49 #[k.val, sv] w' (RpP (rF l0) B k w')) (w : World) (hB : B ≤ w.heap.size) (ht : TIn w B (.node op nm n a c ks)) (hsv : SbRow B w sv l0) (hli : ∀ x ∈ l0, TIn w B x.2) :
    Calls Tryd.prog 49 #[(Tm.node op nm n a c ks).val, sv] w (RpP (rF l0) B (.node op nm n a c ks) w) := by
  have HT := mkHid ht
  have HFT : Hid (rp (rF l0) (.node op nm n a c ks) = .node op nm n none 0 (ks.map (rp (rF l0)))) := rp_part (t := .node op nm n a c ks) hns
  have HB0 := mkHid hB
  have HSV := mkHid hsv
  have HLI := mkHid hli
  obtain ⟨hfo, hfn, hfz, -, -⟩ := ht.nums
  have HFO := mkHid hfo
  have HFN := mkHid hfn
  have HFZ := mkHid hfz
  obtain ⟨la, lc, hsve, -⟩ := hsv
  have HSVE := mkHid hsve
  have hb2 : Below w.heap.size w ((w.alloc (.cells #[.int .i64 op, .string nm, .int .i64 n, .slice a ks.length c] 24)).alloc (.cells #[.int .i64 0, .string ⟨#[]⟩, .int .i64 0, .slice none 0 0] 24)) := bal (bal (Below.refl _ _) _) _
  have TT : ((w.alloc (.cells #[.int .i64 op, .string nm, .int .i64 n, .slice a ks.length c] 24)).alloc (.cells #[.int .i64 0, .string ⟨#[]⟩, .int .i64 0, .slice none 0 0] 24)).cell? ⟨w.heap.size, 0, none⟩ = some (.int .i64 op) ∧ ((w.alloc (.cells #[.int .i64 op, .string nm, .int .i64 n, .slice a ks.length c] 24)).alloc (.cells #[.int .i64 0, .string ⟨#[]⟩, .int .i64 0, .slice none 0 0] 24)).cell? ⟨w.heap.size, 1, none⟩ = some (.string nm) ∧ ((w.alloc (.cells #[.int .i64 op, .string nm, .int .i64 n, .slice a ks.length c] 24)).alloc (.cells #[.int .i64 0, .string ⟨#[]⟩, .int .i64 0, .slice none 0 0] 24)).cell? ⟨w.heap.size, 2, none⟩ = some (.int .i64 n) ∧ ((w.alloc (.cells #[.int .i64 op, .string nm, .int .i64 n, .slice a ks.length c] 24)).alloc (.cells #[.int .i64 0, .string ⟨#[]⟩, .int .i64 0, .slice none 0 0] 24)).cell? ⟨w.heap.size, 3, none⟩ = some (.slice a ks.length c) := by simp [go_sem]
  have FR0 : FourV' ((w.alloc (.cells #[.int .i64 op, .string nm, .int .i64 n, .slice a ks.length c] 24)).alloc (.cells #[.int .i64 0, .string ⟨#[]⟩, .int .i64 0, .slice none 0 0] 24)) (w.heap.size + 1) (.int .i64 0) (.string ⟨#[]⟩) (.int .i64 0) (.slice none 0 0) := by simp [FourV', go_sem]
  have hX2 : w.heap.size + 1 < ((w.alloc (.cells #[.int .i64 op, .string nm, .int .i64 n, .slice a ks.length c] 24)).alloc (.cells #[.int .i64 0, .string ⟨#[]⟩, .int .i64 0, .slice none 0 0] 24)).heap.size := by simp
  generalize hW2 : ((w.alloc (.cells #[.int .i64 op, .string nm, .int .i64 n, .slice a ks.length c] 24)).alloc (.cells #[.int .i64 0, .string ⟨#[]⟩, .int .i64 0, .slice none 0 0] 24)) = W2 at *
  unfold Tm.val
  simp only [Tm.op, Tm.nm, Tm.n, Tm.a, Tm.ks, Tm.c]
  obtain ⟨u0, u1, u2, u3⟩ := TT
  have FR := mkHid FR0
  have SZ := hX2
  have BW := hb2
  have CV := mkHid (var_any op W2)
  rw [hop] at CV
  clear FR0 hX2 hb2 ht hli hfo hfn hfz hB
  have b3 := bel_alloc W2 (.cells #[.int .i64 op, .string nm, .int .i64 n, .slice none 0 0] 24)
  have hX2 : W2.heap.size = w.heap.size + 1 + 1 := by rw [← hW2]; simp
  have OB0 : FourV' (W2.alloc (.cells #[.int .i64 op, .string nm, .int .i64 n, .slice none 0 0] 24)) (w.heap.size + 1 + 1) (.int .i64 op) (.string nm) (.int .i64 n) (.slice none 0 0) := by rw [← hX2]; simp [FourV', go_sem]
  have R0 : PuR w B (.node op nm n a c ks) op nm n [] (.slice none 0 0) (W2.alloc (.cells #[.int .i64 op, .string nm, .int .i64 n, .slice none 0 0] 24)) := by
    refine ⟨bon BW b3, ?_, FR.out.later b3, OB0, ⟨rfl, .inl ⟨rfl, rfl⟩⟩, fun x hx => (by cases hx), fun x hx => (by cases hx)⟩
    exact ⟨cell_later b3 u0, by rw [Nat.zero_add]; exact cell_later b3 u1, by rw [Nat.zero_add]; exact cell_later b3 u2, by rw [Nat.zero_add]; exact cell_later b3 u3⟩
  have HCK := mkHid Ck
  have HR0 := mkHid R0
  clear R0 OB0 Ck
  have hlen9 : ks.length ≤ 9223372036854775807 := by omega
  have hsz2 : Hid (W2.heap.size = w.heap.size + 1 + 1) := hX2
  clear b3 hX2
  obtain ⟨i0, hi0, hz0, hz1, hz2⟩ := tm_parts
  rw [hsve]
  clear hsve
  go_enter Tryd.func49, Tryd.ntmps49
  go_wp2_with fail
  ((with_reducible refine CV.out.mono ?_)); rintro e w1 ⟨rfl, rfl⟩
  clear CV
  go_wp2
  clear hW2 u0 u1 u2 u3
  generalize W2.alloc (.cells #[.int .i64 op, .string nm, .int .i64 n, .slice none 0 0] 24) = W3 at *
  rw [hsz2.out]
  generalize hn' : ks.length = m at *
  have HM := mkHid hn'
  clear hn'
  go_loopw [12] (fun i w' => ∃ (k : Nat) (x : Int) (l : List Tm) (v : Value), i = .int .i64 x ∧ x = k ∧ k ≤ m ∧ l.length = k ∧ PuR w B (.node op nm n a c ks) op nm n l v w' ∧ l.map Tm.er = (ks.take k).map (rp (rF l0))) (fun i _ => (m - intOf i).toNat)
  case atStart => exact ⟨0, 0, [], _, rfl, rfl, Nat.zero_le _, rfl, HR0.out, by simp⟩
  case round =>
    obtain ⟨k, x, l, v, rfl, hxk, hk, hll, R, hl⟩ := hrel
    obtain rfl : x = (k : Int) := hxk
    have HR := mkHid R
    have u3 := R.bt.2.2.2
    simp only [Nat.zero_add, Tm.a, Tm.ks, Tm.c] at u3
    rw [HM.out] at u3
    by_cases hlt : k < m
    · have hk' : k < ks.length := by rw [HM.out]; exact hlt
      obtain ⟨kin1, b, o, ha1, hbl, kf1⟩ := HT.out.kid k hk'
      have ha : a = some ⟨b, o, none⟩ := ha1
      have HQM : Hid (ks[k] ∈ ks) := List.getElem_mem _
      have HTK := mkHid (List.take_succ_eq_append_getElem hk')
      have kf : Four w b (o + k * 4) ks[k] := kf1
      have kin : TIn w B ks[k] := kin1
      clear kin1 kf1 ha1
      have hbl : b < w.heap.size := Nat.lt_of_lt_of_le hbl HB0.out
      have kf' := kf.keep R.bel hbl
      generalize ks[k] = q at *
      obtain ⟨q0, q1, q2, q3⟩ := kf'
      rw [ha] at u3
      have HQI := mkHid kin
      have hk2 : (k : Int) < (m : Int) := by omega
      have HHA := mkHid ha
      clear ha kin kf R hk'
      go_wp2_with fail
      (try dsimp only [List.append])
      refine wp_region_held_drew (S := fun w' => w'.cell? ⟨w.heap.size, 3, none⟩ = some (.slice (some ⟨b, o, none⟩) m c) ∧ w'.cell? ⟨b, o + k * 4, none⟩ = some (.int .i64 q.op) ∧ w'.cell? ⟨b, o + k * 4 + 1, none⟩ = some (.string q.nm) ∧ w'.cell? ⟨b, o + k * 4 + 2, none⟩ = some (.int .i64 q.n) ∧ w'.cell? ⟨b, o + k * 4 + 3, none⟩ = some (.slice q.a q.ks.length q.c)) (by kernel_rfl) ⟨u3, q0, q1, q2, q3⟩ (fun hHeld => ?_)
      replace HR := mkHid (HR.out.later (bdrew (Below.refl wr.heap.size wr)))
      clear u3 q0 q1 q2 q3
      generalize wr.drew = V at *
      refine wpAnyH_take (i := 0) (v := ?_) rfl (by kernel_rfl) (by kernel_rfl) (by kernel_rfl) (fun _ _ _ h => h) (Or.inl ⟨by kernel_rfl, ?_⟩) (by assumption) ?_
      rotate_left
      · (intro w hSw; (try dsimp only at hSw); go_simp; try with_reducible rfl)
      simp only [Act.put, List.getElem_toArray, List.getElem_cons_zero, List.setIfInBounds_toArray, List.set_cons_zero, List.set_cons_succ]
      refine wpAnyH_take (i := 2) (v := ?_) rfl (by kernel_rfl) (by kernel_rfl) (by kernel_rfl) (fun _ _ _ h => h) (Or.inl ⟨by kernel_rfl, ?_⟩) (by assumption) ?_
      rotate_left
      · (intro w hSw; (try dsimp only at hSw); go_simp; try with_reducible rfl)
      simp only [Act.put, List.getElem_toArray, List.getElem_cons_succ, List.getElem_cons_zero, List.setIfInBounds_toArray, List.set_cons_zero, List.set_cons_succ]
      refine wpAnyH_take (i := 3) (v := ?_) rfl (by kernel_rfl) (by kernel_rfl) (by kernel_rfl) (fun _ _ _ h => h) (Or.inl ⟨by kernel_rfl, ?_⟩) (by assumption) ?_
      rotate_left
      · (intro w hSw; (try dsimp only at hSw); go_simp; try with_reducible rfl)
      simp only [Act.put, List.getElem_toArray, List.getElem_cons_succ, List.getElem_cons_zero, List.setIfInBounds_toArray, List.set_cons_zero, List.set_cons_succ]
      refine wpAnyH_take (i := 4) (v := ?_) rfl (by kernel_rfl) (by kernel_rfl) (by kernel_rfl) (fun _ _ _ h => h) (Or.inl ⟨by kernel_rfl, ?_⟩) (by assumption) ?_
      rotate_left
      · (intro w hSw; (try dsimp only at hSw); go_simp; try with_reducible rfl)
      simp only [Act.put, List.getElem_toArray, List.getElem_cons_succ, List.getElem_cons_zero, List.setIfInBounds_toArray, List.set_cons_zero, List.set_cons_succ]
      refine wpAnyH_take (i := 5) (v := ?_) rfl (by kernel_rfl) (by kernel_rfl) (by kernel_rfl) (fun _ _ _ h => h) (Or.inl ⟨by kernel_rfl, ?_⟩) (by assumption) ?_
      rotate_left
      · (intro w hSw; (try dsimp only at hSw); go_simp; try with_reducible rfl)
      simp only [Act.put, List.getElem_toArray, List.getElem_cons_succ, List.getElem_cons_zero, List.setIfInBounds_toArray, List.set_cons_zero, List.set_cons_succ]
      refine wpAnyH_take (i := 6) (v := ?_) rfl (by kernel_rfl) (by kernel_rfl) (by kernel_rfl) (fun _ _ _ h => h) (Or.inl ⟨by kernel_rfl, ?_⟩) (by assumption) ?_
      rotate_left
      · (intro w hSw; (try dsimp only at hSw); go_simp; try with_reducible rfl)
      simp only [Act.put, List.getElem_toArray, List.getElem_cons_succ, List.getElem_cons_zero, List.setIfInBounds_toArray, List.set_cons_zero, List.set_cons_succ]
      refine wpAnyH_take (i := 7) (v := ?_) rfl (by kernel_rfl) (by kernel_rfl) (by kernel_rfl) (fun _ _ _ h => h) (Or.inl ⟨by kernel_rfl, ?_⟩) (by assumption) ?_
      rotate_left
      · (intro w hSw; (try dsimp only at hSw); go_simp; try with_reducible rfl)
      simp only [Act.put, List.getElem_toArray, List.getElem_cons_succ, List.getElem_cons_zero, List.setIfInBounds_toArray, List.set_cons_zero, List.set_cons_succ]
      have hVW : w.heap.size ≤ V.heap.size := HR.out.bel.size
      have hbV : Below B w V := HR.out.bel.mono HB0.out
      have SZ0 : w.heap.size + 1 < V.heap.size := World.block_lt_of_cell? _ _ HR.out.fr.1
      have P := mkHid (HCK.out q HQM.out V (Nat.le_trans HB0.out hVW) (HQI.out.keep hbV) (SbRow.keep hbV HSV.out) (fun x hx => (HLI.out x hx).keep hbV))
      rw [HSVE.out] at P
      unfold Tm.val at P
      clear hbV hVW
      refine wpAnyH_ready (rs := [1, 8]) (by kernel_rfl) (by simp) ?_
      refine AllReadyH.cons rfl (fun K hK => ?_) ?_
      · have oc := HR.out.ob.2.2.2.1
        go_simp
        refine hK.out _ _ (by assumption) (fun hHeld => ?_)
        clear hK oc
        refine wpAnyH_ready (rs := [8]) (by kernel_rfl) (by simp) ?_
        refine AllReadyH.cons rfl (fun K hK => ?_) AllReadyH.nil
        go_simp
        go_wp2_with (go_at_call 49; ((with_reducible refine P.out.mono ?_)); rintro e w5 ⟨z, rfl, ze, zt, zw, hb5⟩)
        refine hK.out _ _ (keep5 (by assumption) hb5) (fun hHeld => ?_)
        clear hK P
        have HZ := mkHid (show Pa w B w5 z from ⟨zt, fun R h1 h2 => zw R h1 (by have := World.block_lt_of_cell? _ _ HR.out.ob.1; first | omega | (simp only at this; omega) | (simp only [size_al2] at *; omega) | (simp only [size_al2]; omega))⟩)
        have HZE := mkHid ze
        have HZG : Hid (∀ g, v.ownBlock = some g → TAw g z) := fun g hg => zw g (Nat.le_trans HB0.out (HR.out.gl hg).2) (by have := (HR.out.gl hg).1; first | omega | (simp only [size_al2] at *; omega) | (simp only [size_al2]; omega))
        replace HR := mkHid (HR.out.later hb5)
        clear ze zt zw
        unfold Tm.val
        refine wpAnyH_ready (rs := [9]) (by kernel_rfl) (by simp) ?_
        refine AllReadyH.cons rfl (fun K hK => ?_) AllReadyH.nil
        go_simp
        have b6 := bel_alloc w5 (.cells #[.int .i64 z.op, .string z.nm, .int .i64 z.n, .slice z.a z.ks.length z.c] 24)
        refine hK.out _ _ (keep5 (by assumption) b6) (fun hHeld => ?_)
        clear hK
        have N6 := mkHid (tm4_cells w5 z)
        have G6 : w.heap.size + 1 + 1 + 1 ≤ (w5.alloc (.cells #[.int .i64 z.op, .string z.nm, .int .i64 z.n, .slice z.a z.ks.length z.c] 24)).heap.size := by have := World.block_lt_of_cell? _ _ HR.out.ob.1; simp only at this; rw [World.size_alloc]; omega
        generalize w5.alloc (.cells #[.int .i64 z.op, .string z.nm, .int .i64 z.n, .slice z.a z.ks.length z.c] 24) = W6 at *
        replace HR := mkHid (HR.out.later b6)
        replace HZ := mkHid (HZ.out.later b6)
        refine wpAnyH_ready (rs := [10]) (by kernel_rfl) (by simp) ?_
        refine AllReadyH.cons rfl (fun K hK => ?_) AllReadyH.nil
        refine step_append_lies _ (by rfl) _ _ _ (by rfl) (w.heap.size + 1 + 1 + 1) 24 i0 _ 4 56 Tryd.underlying22 hi0 hz0 hz1 hz2 rfl (by omega) v l.length (l.flatMap tm4) (by rfl) HR.out.own ⟨w5.heap.size, 0, none⟩ 1 1 (tm4 z) (by rfl) rfl N6.out (tm4_one z) (by omega) (by unfold maxLen; omega) (by omega) G6 W6.heap.size rfl (fun g cap w7 ho7 hg7 hgg7 hlt7 => ?_)
        obtain ⟨s, hs, hB, -⟩ := HR.out.but hg7
        refine hK.out _ _ (keep5B (by assumption) hB (by show w.heap.size ≠ s; omega) (by show b ≠ s; omega) (by show b ≠ s; omega) (by show b ≠ s; omega) (by show b ≠ s; omega)) (fun hHeld => ?_)
        clear hK
        obtain ⟨-, -, -, e3, -, -, -, e7⟩ := HR.out.ob.but hB (by omega)
        have HN := mkHid (HR.out.step HB0.out HZ.out HZG.out ho7 hg7 hgg7)
        rw [hll] at HN
        have hB2 : But (w.heap.size + 1 + 1) w7 (w7.setCell ⟨w.heap.size + 1 + 1, 3, none⟩ (.slice (some ⟨g, 0, none⟩) (k + 1) cap)) := (But.refl _ _).set (p := ⟨w.heap.size + 1 + 1, 3, none⟩) (.inl rfl) _
        rw [hll]
        clear ho7 hg7 hgg7 hlt7
        refine wpAnyH_take (i := 11) (v := ?_) rfl (by kernel_rfl) (by kernel_rfl) (by kernel_rfl) (fun _ _ _ h => h) (Or.inl ⟨by kernel_rfl, ?_⟩) (by assumption) ?_
        rotate_left
        · (intro w hSw; (try dsimp only at hSw); go_simp; try with_reducible rfl)
        simp only [Act.put, List.getElem_toArray, List.getElem_cons_succ, List.getElem_cons_zero, List.setIfInBounds_toArray, List.set_cons_zero, List.set_cons_succ]
        refine wpAnyH_ready (rs := [12]) (by kernel_rfl) (by simp) ?_
        refine AllReadyH.cons rfl (fun K hK => ?_) AllReadyH.nil
        go_simp
        refine hK.out _ _ (keep5B (by assumption) hB2 (by show w.heap.size ≠ w.heap.size + 1 + 1; omega) (by show b ≠ w.heap.size + 1 + 1; omega) (by show b ≠ w.heap.size + 1 + 1; omega) (by show b ≠ w.heap.size + 1 + 1; omega) (by show b ≠ w.heap.size + 1 + 1; omega)) (fun hHeld => ?_)
        clear hK hHeld e3 e7
        refine wpAnyH_done (by kernel_rfl) ?_ _
        go_wp2
        go_roundw
        case rel => exact ⟨k + 1, _, l ++ [z], _, rfl, by omega, by omega, by simp [hll], HN.out, by rw [HTK.out, List.map_append, List.map_append, hl]; simp [HZE.out]⟩
        case measure => simp [intOf]; omega
      refine AllReadyH.cons rfl (fun K hK => ?_) AllReadyH.nil
      go_simp
      go_wp2_with (go_at_call 49; ((with_reducible refine P.out.mono ?_)); rintro e w5 ⟨z, rfl, ze, zt, zw, hb5⟩)
      refine hK.out _ _ (keep5 (by assumption) hb5) (fun hHeld => ?_)
      clear hK P
      have HZ := mkHid (show Pa w B w5 z from ⟨zt, fun R h1 h2 => zw R h1 (by have := World.block_lt_of_cell? _ _ HR.out.ob.1; first | omega | (simp only at this; omega) | (simp only [size_al2] at *; omega) | (simp only [size_al2]; omega))⟩)
      have HZE := mkHid ze
      have HZG : Hid (∀ g, v.ownBlock = some g → TAw g z) := fun g hg => zw g (Nat.le_trans HB0.out (HR.out.gl hg).2) (by have := (HR.out.gl hg).1; first | omega | (simp only [size_al2] at *; omega) | (simp only [size_al2]; omega))
      replace HR := mkHid (HR.out.later hb5)
      clear ze zt zw
      unfold Tm.val
      refine wpAnyH_ready (rs := [1, 9]) (by kernel_rfl) (by simp) ?_
      refine AllReadyH.cons rfl (fun K hK => ?_) ?_
      · have oc := HR.out.ob.2.2.2.1
        go_simp
        refine hK.out _ _ (by assumption) (fun hHeld => ?_)
        clear hK oc
        refine wpAnyH_ready (rs := [9]) (by kernel_rfl) (by simp) ?_
        refine AllReadyH.cons rfl (fun K hK => ?_) AllReadyH.nil
        go_simp
        have b6 := bel_alloc w5 (.cells #[.int .i64 z.op, .string z.nm, .int .i64 z.n, .slice z.a z.ks.length z.c] 24)
        refine hK.out _ _ (keep5 (by assumption) b6) (fun hHeld => ?_)
        clear hK
        have N6 := mkHid (tm4_cells w5 z)
        have G6 : w.heap.size + 1 + 1 + 1 ≤ (w5.alloc (.cells #[.int .i64 z.op, .string z.nm, .int .i64 z.n, .slice z.a z.ks.length z.c] 24)).heap.size := by have := World.block_lt_of_cell? _ _ HR.out.ob.1; simp only at this; rw [World.size_alloc]; omega
        generalize w5.alloc (.cells #[.int .i64 z.op, .string z.nm, .int .i64 z.n, .slice z.a z.ks.length z.c] 24) = W6 at *
        replace HR := mkHid (HR.out.later b6)
        replace HZ := mkHid (HZ.out.later b6)
        refine wpAnyH_ready (rs := [10]) (by kernel_rfl) (by simp) ?_
        refine AllReadyH.cons rfl (fun K hK => ?_) AllReadyH.nil
        refine step_append_lies _ (by rfl) _ _ _ (by rfl) (w.heap.size + 1 + 1 + 1) 24 i0 _ 4 56 Tryd.underlying22 hi0 hz0 hz1 hz2 rfl (by omega) v l.length (l.flatMap tm4) (by rfl) HR.out.own ⟨w5.heap.size, 0, none⟩ 1 1 (tm4 z) (by rfl) rfl N6.out (tm4_one z) (by omega) (by unfold maxLen; omega) (by omega) G6 W6.heap.size rfl (fun g cap w7 ho7 hg7 hgg7 hlt7 => ?_)
        obtain ⟨s, hs, hB, -⟩ := HR.out.but hg7
        refine hK.out _ _ (keep5B (by assumption) hB (by show w.heap.size ≠ s; omega) (by show b ≠ s; omega) (by show b ≠ s; omega) (by show b ≠ s; omega) (by show b ≠ s; omega)) (fun hHeld => ?_)
        clear hK
        obtain ⟨-, -, -, e3, -, -, -, e7⟩ := HR.out.ob.but hB (by omega)
        have HN := mkHid (HR.out.step HB0.out HZ.out HZG.out ho7 hg7 hgg7)
        rw [hll] at HN
        have hB2 : But (w.heap.size + 1 + 1) w7 (w7.setCell ⟨w.heap.size + 1 + 1, 3, none⟩ (.slice (some ⟨g, 0, none⟩) (k + 1) cap)) := (But.refl _ _).set (p := ⟨w.heap.size + 1 + 1, 3, none⟩) (.inl rfl) _
        rw [hll]
        clear ho7 hg7 hgg7 hlt7
        refine wpAnyH_take (i := 11) (v := ?_) rfl (by kernel_rfl) (by kernel_rfl) (by kernel_rfl) (fun _ _ _ h => h) (Or.inl ⟨by kernel_rfl, ?_⟩) (by assumption) ?_
        rotate_left
        · (intro w hSw; (try dsimp only at hSw); go_simp; try with_reducible rfl)
        simp only [Act.put, List.getElem_toArray, List.getElem_cons_succ, List.getElem_cons_zero, List.setIfInBounds_toArray, List.set_cons_zero, List.set_cons_succ]
        refine wpAnyH_ready (rs := [12]) (by kernel_rfl) (by simp) ?_
        refine AllReadyH.cons rfl (fun K hK => ?_) AllReadyH.nil
        go_simp
        refine hK.out _ _ (keep5B (by assumption) hB2 (by show w.heap.size ≠ w.heap.size + 1 + 1; omega) (by show b ≠ w.heap.size + 1 + 1; omega) (by show b ≠ w.heap.size + 1 + 1; omega) (by show b ≠ w.heap.size + 1 + 1; omega) (by show b ≠ w.heap.size + 1 + 1; omega)) (fun hHeld => ?_)
        clear hK hHeld e3 e7
        refine wpAnyH_done (by kernel_rfl) ?_ _
        go_wp2
        go_roundw
        case rel => exact ⟨k + 1, _, l ++ [z], _, rfl, by omega, by omega, by simp [hll], HN.out, by rw [HTK.out, List.map_append, List.map_append, hl]; simp [HZE.out]⟩
        case measure => simp [intOf]; omega
      refine AllReadyH.cons rfl (fun K hK => ?_) AllReadyH.nil
      go_simp
      have b6 := bel_alloc w5 (.cells #[.int .i64 z.op, .string z.nm, .int .i64 z.n, .slice z.a z.ks.length z.c] 24)
      refine hK.out _ _ (keep5 (by assumption) b6) (fun hHeld => ?_)
      clear hK
      have N6 := mkHid (tm4_cells w5 z)
      have G6 : w.heap.size + 1 + 1 + 1 ≤ (w5.alloc (.cells #[.int .i64 z.op, .string z.nm, .int .i64 z.n, .slice z.a z.ks.length z.c] 24)).heap.size := by have := World.block_lt_of_cell? _ _ HR.out.ob.1; simp only at this; rw [World.size_alloc]; omega
      generalize w5.alloc (.cells #[.int .i64 z.op, .string z.nm, .int .i64 z.n, .slice z.a z.ks.length z.c] 24) = W6 at *
      replace HR := mkHid (HR.out.later b6)
      replace HZ := mkHid (HZ.out.later b6)
      refine wpAnyH_ready (rs := [1]) (by kernel_rfl) (by simp) ?_
      refine AllReadyH.cons rfl (fun K hK => ?_) AllReadyH.nil
      have oc := HR.out.ob.2.2.2.1
      go_simp
      refine hK.out _ _ (by assumption) (fun hHeld => ?_)
      clear hK oc
      refine wpAnyH_ready (rs := [10]) (by kernel_rfl) (by simp) ?_
      refine AllReadyH.cons rfl (fun K hK => ?_) AllReadyH.nil
      refine step_append_lies _ (by rfl) _ _ _ (by rfl) (w.heap.size + 1 + 1 + 1) 24 i0 _ 4 56 Tryd.underlying22 hi0 hz0 hz1 hz2 rfl (by omega) v l.length (l.flatMap tm4) (by rfl) HR.out.own ⟨w5.heap.size, 0, none⟩ 1 1 (tm4 z) (by rfl) rfl N6.out (tm4_one z) (by omega) (by unfold maxLen; omega) (by omega) G6 W6.heap.size rfl (fun g cap w7 ho7 hg7 hgg7 hlt7 => ?_)
      obtain ⟨s, hs, hB, -⟩ := HR.out.but hg7
      refine hK.out _ _ (keep5B (by assumption) hB (by show w.heap.size ≠ s; omega) (by show b ≠ s; omega) (by show b ≠ s; omega) (by show b ≠ s; omega) (by show b ≠ s; omega)) (fun hHeld => ?_)
      clear hK
      obtain ⟨-, -, -, e3, -, -, -, e7⟩ := HR.out.ob.but hB (by omega)
      have HN := mkHid (HR.out.step HB0.out HZ.out HZG.out ho7 hg7 hgg7)
      rw [hll] at HN
      have hB2 : But (w.heap.size + 1 + 1) w7 (w7.setCell ⟨w.heap.size + 1 + 1, 3, none⟩ (.slice (some ⟨g, 0, none⟩) (k + 1) cap)) := (But.refl _ _).set (p := ⟨w.heap.size + 1 + 1, 3, none⟩) (.inl rfl) _
      rw [hll]
      clear ho7 hg7 hgg7 hlt7
      refine wpAnyH_take (i := 11) (v := ?_) rfl (by kernel_rfl) (by kernel_rfl) (by kernel_rfl) (fun _ _ _ h => h) (Or.inl ⟨by kernel_rfl, ?_⟩) (by assumption) ?_
      rotate_left
      · (intro w hSw; (try dsimp only at hSw); go_simp; try with_reducible rfl)
      simp only [Act.put, List.getElem_toArray, List.getElem_cons_succ, List.getElem_cons_zero, List.setIfInBounds_toArray, List.set_cons_zero, List.set_cons_succ]
      refine wpAnyH_ready (rs := [12]) (by kernel_rfl) (by simp) ?_
      refine AllReadyH.cons rfl (fun K hK => ?_) AllReadyH.nil
      go_simp
      refine hK.out _ _ (keep5B (by assumption) hB2 (by show w.heap.size ≠ w.heap.size + 1 + 1; omega) (by show b ≠ w.heap.size + 1 + 1; omega) (by show b ≠ w.heap.size + 1 + 1; omega) (by show b ≠ w.heap.size + 1 + 1; omega) (by show b ≠ w.heap.size + 1 + 1; omega)) (fun hHeld => ?_)
      clear hK hHeld e3 e7
      refine wpAnyH_done (by kernel_rfl) ?_ _
      go_wp2
      go_roundw
      case rel => exact ⟨k + 1, _, l ++ [z], _, rfl, by omega, by omega, by simp [hll], HN.out, by rw [HTK.out, List.map_append, List.map_append, hl]; simp [HZE.out]⟩
      case measure => simp [intOf]; omega
    · obtain rfl : k = m := by omega
      have hkk : ks.take k = ks := List.take_of_length_le (by rw [HM.out]; omega)
      rw [hkk] at hl
      obtain ⟨A0, c0, rfl⟩ : ∃ A c, v = .slice A k c := by
        obtain ⟨A, c, e⟩ := own_slice HR.out.own
        exact ⟨A, c, by rw [e, hll]⟩
      obtain ⟨o0, o1, o2, o3, -⟩ := HR.out.ob
      obtain ⟨m0, m1, m2, m3, f0, f1, f2, f3⟩ := HR.out.fr
      have MR : Pa w B wr (.node op nm n A0 c0 l) := PuR.mk_row HR.out HFO.out HFN.out HFZ.out hll.symm
      have FI := rp_fin (F := rF l0) (t := .node op nm n a c ks) MR HB0.out HR.out.bel (by rw [HFT.out, er_eq]; exact congrArg (Tm.node op nm n none 0) hl)
      simp only [Tm.val, Tm.op, Tm.nm, Tm.n, Tm.a, Tm.ks, Tm.c, hll] at FI
      have HFI := mkHid FI
      clear FI MR hl
      go_wp2
      exact bodyPost_ret (v := .agg #[.int .i64 op, .string nm, .int .i64 n, .slice A0 k c0]) (by simp [results, Tryd.results49, go_sem, m0, m1, m2, m3]) rfl HFI.out
end
end Go.Proofs.YtaibmdikimpooaaDoor
