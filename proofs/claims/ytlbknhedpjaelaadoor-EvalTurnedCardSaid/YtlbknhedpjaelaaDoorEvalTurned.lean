/-
  What EvalTurned does: it returns true, whatever the term, the world and the two numbers are.
-/
import Derived.Test.YtlbknhedpjaelaaDoorEvN
import Derived.Test.YtlbknhedpjaelaaDoorEvQ
import Derived.Test.YtlbknhedpjaelaaDoorEvT
import Derived.Test.YtlbknhedpjaelaaDoorEvV
import Derived.Deep.AppendLies
import Derived.BigRegion
import Derived.Deep.RegionHeld2
import Derived.Deep.DeepCutAuto
import Derived.Deep.CutBlock
namespace Go.Proofs.YtlbknhedpjaelaaDoor
open Go.RowKit Go.Shelf

/-- what lies in memory while EvalTurned runs -/
structure SA (X : Nat) (t : Tm) (W : Wd) (w : World) : Prop where
  bt : Four w X 0 t
  bw : TwoW w (X + 1) W
  tin : TIn w w.heap.size t
  win : WIn w w.heap.size W
  s : Shps w
theorem SA.later {X : Nat} {t : Tm} {W : Wd} {w w' : World} (h : SA X t W w) (hb : Below w.heap.size w w') : SA X t W w' := ⟨h.bt.later hb, h.bw.later hb, h.tin.later hb, h.win.later hb, h.s.later hb⟩
theorem SA.start {t : Tm} {W : Wd} {w : World} (ht : TIn w w.heap.size t) (hW : WIn w w.heap.size W) (hS : Shps w) : SA w.heap.size t W ((w.alloc (boxT t)).alloc (boxW W)) := by
  have hb : Below w.heap.size w ((w.alloc (boxT t)).alloc (boxW W)) := bal (bal (Below.refl _ _) _) _
  refine ⟨(box_four w t).later (bel_alloc _ _), ?_, ht.later hb, hW.later hb, hS.later hb⟩
  have := boxW_two (w.alloc (boxT t)) W
  simpa using this
theorem mask16 (x : Int) : ∃ m : Nat, bits BinOp.and IntKind.i64 x 65535 = (m : Int) ∧ m < 65536 := by
  have hlt : ((BitVec.ofInt 64 x) &&& (BitVec.ofInt 64 65535)).toNat < 65536 := by
    rw [BitVec.toNat_and]
    exact Nat.lt_of_le_of_lt Nat.and_le_right (by decide)
  refine ⟨((BitVec.ofInt 64 x) &&& (BitVec.ofInt 64 65535)).toNat, ?_, hlt⟩
  simp only [bits]
  show IntKind.i64.wrap (((BitVec.ofInt 64 x) &&& (BitVec.ofInt 64 65535)).toNat : Int) = _
  rw [IntKind.wrap_i64]
  omega
theorem place_any (x : Int) {N : Int} (h : 1 ≤ N) : ∃ I : Nat, (bits BinOp.and IntKind.i64 x 65535).tmod N = (I : Int) ∧ I < N.toNat := by
  obtain ⟨m, e, -⟩ := mask16 x
  obtain ⟨k, rfl⟩ := Int.eq_ofNat_of_zero_le (show 0 ≤ N by omega)
  refine ⟨m % k, by rw [e]; rfl, ?_⟩
  have := Nat.mod_lt m (show 0 < k by omega)
  simpa using this
/-- the same name, and the value turned -/
def TurnN (i k : Nat) (x y : Nd) : Prop := x.nm = y.nm ∧ TurnV i k x.v y.v
def TurnL (i k : Nat) (m l : List Nd) : Prop := m.length = l.length ∧ ∀ j (h : j < m.length) (h' : j < l.length), TurnN i k m[j] l[j]
theorem TurnL.snoc {i k : Nat} {l m : List Nd} {x y : Nd} (h : TurnL i k l m) (hx : TurnN i k x y) : TurnL i k (l ++ [x]) (m ++ [y]) := by
  obtain ⟨h1, h2⟩ := h
  refine ⟨by simp [h1], fun j hj hj' => ?_⟩
  by_cases hk : j < l.length
  · rw [List.getElem_append_left hk, List.getElem_append_left (by omega)]
    exact h2 j hk (by omega)
  · have : j = l.length := by simp at hj; omega
    subst this
    rw [List.getElem_append_right (by omega), List.getElem_append_right (by omega)]
    simpa [h1] using hx
theorem TurnL.find {i k : Nat} {l m : List Nd} (h : TurnL i k l m) (nm : ByteArray) (s : Int) : TurnO i k ((l.find? (hitN nm s)).map Nd.v) ((m.find? (hitN nm s)).map Nd.v) := by
  obtain ⟨h1, h2⟩ := h
  induction l generalizing m with
  | nil => cases m with
    | nil => exact .no
    | cons y m => simp at h1
  | cons x l ih => cases m with
    | nil => simp at h1
    | cons y m =>
      have h0 := h2 0 (by simp) (by simp)
      simp only [List.getElem_cons_zero] at h0
      have e : hitN nm s x = hitN nm s y := hit_key (by rw [h0.1]) h0.2.1
      simp only [List.find?]
      rw [e]
      cases hitN nm s y
      · exact ih (by simpa using h1) (fun i hi hi' => by have := h2 (i + 1) (by simpa using hi) (by simpa using hi'); simpa using this)
      · exact .yes h0.2
theorem holds_turn {N : Int} {i k : Nat} {v u : Vl} (hi : i < N.toNat) (hk : k < N.toNat) (h : TurnV i k v u) (hv : holdsV N v = true) : holdsV N u = true := by
  obtain ⟨h1, h2, h3, h4⟩ := h
  unfold holdsV at hv ⊢
  rw [← h1, ← h2, h3, h4]
  by_cases e1 : v.sort = 1
  · simp only [e1] at hv ⊢; simpa using hv
  · by_cases e2 : v.sort = 2
    · simp only [e2] at hv ⊢; simpa [swp_len] using hv
    · by_cases e3 : v.sort = 3
      · simp only [e3] at hv ⊢
        simp at hv ⊢
        have := sw_lt hi hk (show v.n.toNat < N.toNat by omega)
        exact ⟨⟨by omega, hv.1.2⟩, hv.2⟩
      · by_cases e4 : v.sort = 4
        · simp only [e4] at hv ⊢; simpa using hv
        · simp [e1, e2, e3, e4] at hv
theorem holds_none {N : Int} {v : Vl} (h : holdsV N v = true) (h2 : v.sort ≠ 2) : v.s = [] := by
  unfold holdsV at h
  by_cases e1 : v.sort = 1
  · rw [if_pos e1] at h; simp at h; exact h.2
  · rw [if_neg e1, if_neg h2] at h
    by_cases e3 : v.sort = 3
    · rw [if_pos e3] at h; simp at h; exact h.2
    · rw [if_neg e3] at h
      by_cases e4 : v.sort = 4
      · rw [if_pos e4] at h; simp at h; exact h.2
      · rw [if_neg e4] at h; cases h
theorem holds_two {N : Int} {v : Vl} (h : holdsV N v = true) (h2 : v.sort = 2) : (v.s.length : Int) = N := by
  unfold holdsV at h
  rw [if_neg (by omega), if_pos h2] at h
  simp at h
  exact h.2
/-- the box of a value -/
def BoxY (w : World) (Y : Nat) (u : Vl) : Prop := w.heap[Y]? = some (.cells #[.int .i64 u.sort, .int .i64 u.n, .bool u.b, .slice u.a u.s.length u.c] 41 (0, 0))
theorem BoxY.lt {w : World} {Y : Nat} {u : Vl} (h : BoxY w Y u) : Y < w.heap.size := (Array.getElem?_eq_some_iff.1 h).1
theorem BoxY.cells {w : World} {Y : Nat} {u : Vl} (h : BoxY w Y u) : FourV w Y (.int .i64 u.sort) (.int .i64 u.n) (.bool u.b) (.slice u.a u.s.length u.c) := by
  unfold BoxY at h
  refine ⟨by rw [cell_of_row w Y 0 _ _ _ h]; rfl, by rw [cell_of_row w Y 1 _ _ _ h]; rfl, by rw [cell_of_row w Y 2 _ _ _ h]; rfl, by rw [cell_of_row w Y 3 _ _ _ h]; rfl, ?_, ?_, ?_, ?_⟩
  all_goals simp [World.frozen?, h]
theorem BoxY.set1 {w : World} {Y : Nat} {u : Vl} (h : BoxY w Y u) (n : Int) : BoxY (w.setCell ⟨Y, 1, none⟩ (.int .i64 n)) Y ⟨u.sort, n, u.b, u.a, u.c, u.s⟩ := by
  unfold BoxY at *
  simp only [World.setCell, Array.getElem?_modify, if_pos, h]
  simp
theorem BoxY.set3 {w : World} {Y : Nat} {u : Vl} (h : BoxY w Y u) (a : Option Addr) (c : Nat) (s : List Bool) : BoxY (w.setCell ⟨Y, 3, none⟩ (.slice a s.length c)) Y ⟨u.sort, u.n, u.b, a, c, s⟩ := by
  unfold BoxY at *
  simp only [World.setCell, Array.getElem?_modify, if_pos, h]
  simp
theorem BoxY.same {w w' : World} {Y : Nat} {u : Vl} (h : BoxY w Y u) (hb : w'.heap[Y]? = w.heap[Y]?) : BoxY w' Y u := by unfold BoxY; rw [hb]; exact h
theorem WC.but {w5 w w' : World} {nodes : Int} {C Y : Nat} {r : Value} {l : List Nd} {u : Vl} (h : WC w5 nodes C r l w) (hb : But Y w w') (hY : w5.heap.size ≤ Y) (hk : BoxY w Y u) : WC w5 nodes C r l w' := by
  have keep : ∀ {e s n : Nat} {v : Value} {xs : List Value}, e ≠ 41 → w.ownsRow w5.heap.size e s v n xs → w'.ownsRow w5.heap.size e s v n xs := by
    intro e s n v xs he ho
    refine ⟨ho.1, ?_⟩
    rcases ho.2 with h0 | ⟨g, cap, cur, hv, hbg, hg, hr⟩
    · exact .inl h0
    · refine .inr ⟨g, cap, cur, hv, hbg, ?_, hr⟩
      rw [hb.block g (Array.getElem?_eq_some_iff.1 hg).1 (by
        rintro rfl
        unfold BoxY at hk
        rw [hk] at hg
        simp at hg
        exact he hg.2.symm)]
      exact hg
  refine ⟨?_, h.cge, ?_, ⟨keep (by decide) h.nr.row, fun x hx => keep (by decide) (h.nr.own x hx), h.nr.fit⟩⟩
  · have hs := h.bel.size
    exact h.bel.trans (hb.below hY hs)
  · have hbc := h.bc
    unfold BoxC at hbc ⊢
    rw [hb.block C h.bc.lt (by
      rintro rfl
      unfold BoxY at hk
      rw [hk] at hbc
      simp at hbc)]
    exact hbc
theorem six_keep {w w' : World} {X b o Y : Nat} {x0 x1 y0 y1 y2 y3 : Value} (h : w.cell? ⟨X, 1, none⟩ = some x0 ∧ w.cell? ⟨b, o, none⟩ = some x1 ∧ w.cell? ⟨Y, 0, none⟩ = some y0 ∧ w.cell? ⟨Y, 1, none⟩ = some y1 ∧ w.cell? ⟨Y, 2, none⟩ = some y2 ∧ w.cell? ⟨Y, 3, none⟩ = some y3) (h1 : w'.heap[X]? = w.heap[X]?) (h2 : w'.heap[b]? = w.heap[b]?) (h3 : w'.heap[Y]? = w.heap[Y]?) :
    w'.cell? ⟨X, 1, none⟩ = some x0 ∧ w'.cell? ⟨b, o, none⟩ = some x1 ∧ w'.cell? ⟨Y, 0, none⟩ = some y0 ∧ w'.cell? ⟨Y, 1, none⟩ = some y1 ∧ w'.cell? ⟨Y, 2, none⟩ = some y2 ∧ w'.cell? ⟨Y, 3, none⟩ = some y3 := by
  have e : ∀ B q, w'.heap[B]? = w.heap[B]? → w'.cell? ⟨B, q, none⟩ = w.cell? ⟨B, q, none⟩ := fun B q hb => World.cell?_of_block (w := w) hb
  rw [e X _ h1, e b _ h2, e Y _ h3, e Y _ h3, e Y _ h3, e Y _ h3]
  exact h
theorem store_keep {w : World} {g I K Y : Nat} {u : Bool} {x : Value} (h : w.cell? ⟨Y, 3, none⟩ = some x ∧ w.cell? ⟨g, K, none⟩ = some (.bool u)) (hne : Y ≠ g) : (w.setCell ⟨g, I, none⟩ (.bool u)).cell? ⟨Y, 3, none⟩ = some x ∧ (w.setCell ⟨g, I, none⟩ (.bool u)).cell? ⟨g, K, none⟩ = some (.bool u) := by
  refine ⟨by rw [World.cell?_of_block (w := w) (Below.heap_setCell w ⟨g, I, none⟩ _ Y hne)]; exact h.1, ?_⟩
  by_cases e : I = K
  · subst e; exact World.cell?_setCell_same _ _ _ h.2
  · rw [World.cell?_setCell_other _ _ _ _ (by intro h'; simp only [Addr.mk.injEq] at h'; exact e h'.2.1)]; exact h.2
/-- an answer of Eval, whatever it is -/
def AnsE (so nn : Int) (bb : Bool) (l : List Bool) (k : Int) (w : World) (e : Ending) (w' : World) : Prop := ∃ a c, e = .returned (.tuple #[.agg #[.int .i64 so, .int .i64 nn, .bool bb, .slice a l.length c], .int .i64 k]) ∧ BIn w' w'.heap.size a l ∧ l.length ≤ maxLen ∧ Below w.heap.size w w'
def rSo : Except Int Vv → Int | .ok v => v.sort | .error _ => 0
def rNn : Except Int Vv → Int | .ok v => v.n | .error _ => 0
def rBb : Except Int Vv → Bool | .ok v => v.bb | .error _ => false
def rLl : Except Int Vv → List Bool | .ok v => v.l | .error _ => []
def rKk : Except Int Vv → Int | .ok _ => 0 | .error k => k
theorem ansE {r : Except Int Vv} {w : World} {e : Ending} {w' : World} (h : EvalP r w e w') : AnsE (rSo r) (rNn r) (rBb r) (rLl r) (rKk r) w e w' := by
  cases r with
  | ok v =>
    obtain ⟨a, c, he, ho, hb⟩ := h
    exact ⟨a, c, he, ho.bin, Nat.le_trans ho.cap.1 ho.cap.2, hb⟩
  | error k =>
    obtain ⟨he, hb⟩ := h
    exact ⟨none, 0, he, (fun j hj => by simp [rLl] at hj), Nat.zero_le _, hb⟩
theorem right_turn {W V : Wd} {i k : Nat} (hr : rightB W = true) (hn : V.nodes = W.nodes) (hT : TurnL i k W.l V.l) (hi : i < W.nodes.toNat) (hk : k < W.nodes.toNat) : rightB V = true := by
  obtain ⟨⟨a1, a2, a3⟩, h1, h2⟩ := (right_iff W).1 hr
  obtain ⟨e, hs⟩ := hT
  rw [right_iff]
  refine ⟨⟨by omega, by omega, by omega⟩, fun j hj => ?_, fun j hj m hm => ?_⟩
  · obtain ⟨b1, b2⟩ := hs j (by omega) hj
    obtain ⟨c1, c2⟩ := h1 j (by omega)
    exact ⟨by rw [← b1]; exact c1, by rw [hn]; exact holds_turn hi hk b2 c2⟩
  · obtain ⟨b1, b2⟩ := hs j (by omega) hj
    obtain ⟨c1, c2⟩ := hs m (by omega) (by omega)
    rw [← b1, ← b2.1, ← hit_key (by rw [c1]) c2.1]
    exact h2 j (by omega) m hm
theorem eval_turn {W V : Wd} {i k : Nat} {w : World} {B : Nat} {t : Tm} (hW : WIn w B W) (ht : TIn w B t) (hr : rightB W = true) (hn : V.nodes = W.nodes) (hT : TurnL i k W.l V.l) (hi : i < W.nodes.toNat) (hk : k < W.nodes.toNat) (he : errR t = 0) (hs : srtR t = 1 ∨ srtR t = 4) : evalR V t = evalR W t := by
  have hR := right_rt hr hW
  obtain ⟨-, -, h0, e⟩ := errR_zero he
  rw [e] at hs
  have hev := ev_turn hR hn hi hk (fun nm s => hT.find nm s) t ht h0
  have hty := ev_ty hR t ht h0
  unfold evalR
  rw [if_pos he, if_pos he, if_pos hr, if_pos (right_turn hr hn hT hi hk), hev]
  cases h : ev W t with
  | error x => rfl
  | ok v =>
    rw [h] at hty
    have hty : Ty W t.srt v := hty
    rcases hs with h1 | h1
    · rw [h1] at hty; obtain ⟨x, rfl, -⟩ := Ty.i hty; rfl
    · rw [h1] at hty; obtain ⟨x, rfl⟩ := Ty.b hty; rfl
/-- while EvalTurned goes through the names -/
def TI (w5 : World) (W : Wd) (I K C k : Nat) (w : World) : Prop := ∃ (r : Value) (l : List Nd), WC w5 W.nodes C r l w ∧ TurnL I K (W.l.take k) l
set_option maxRecDepth 100000 in
set_option maxHeartbeats 8000000 in
theorem turned_core (t : Tm) (W : Wd) (x y : Int) (w : World) (ht : TIn w w.heap.size t) (hW : WIn w w.heap.size W) (hS : Shps w) (he : errR t = 0) (hs14 : srtR t = 1 ∨ srtR t = 4) (hr : rightB W = true) :
    Calls Tryd.prog 7 #[t.val, W.val, .int .i64 x, .int .i64 y] w (RetB true w) := by
  obtain ⟨i0, hi0, hz0, hz1, hz2⟩ := nd_parts
  have S0 := SA.start ht hW hS
  have B0 : Below w.heap.size w ((w.alloc (boxT t)).alloc (boxW W)) := bal (bal (Below.refl _ _) _) _
  have SC := mkHid (shownE _ S0.s)
  have ST := mkHid (fun w' (h : SA w.heap.size t W w') => sort_any t w' h.tin h.s)
  have RT := mkHid (fun w' (h : SA w.heap.size t W w') => right_any W w' h.win)
  have hW2 : (w.alloc (.cells #[.int .i64 t.op, .string t.nm, .int .i64 t.n, .slice t.a t.ks.length t.c] 24)).alloc (.cells #[.int .i64 W.nodes, .slice W.a W.l.length W.c] 38) = (w.alloc (boxT t)).alloc (boxW W) := rfl
  have hRt := right_rt hr hW
  have hlo := hRt.lo
  have hhi := hRt.hi
  have HE := mkHid he
  rw [he] at ST
  rw [hr] at RT
  generalize (w.alloc (boxT t)).alloc (boxW W) = W2 at *
  unfold Tm.val at ST ⊢
  unfold Wd.val at RT ⊢
  clear ht hW hS
  generalize hsr : srtR t = sr at *
  have d14 : ((sr : Int) != 1) = false ∨ (((sr : Int) != 1) = true ∧ ((sr : Int) != 4) = false) := by
    rcases hs14 with rfl | rfl
    · exact .inl rfl
    · exact .inr ⟨rfl, rfl⟩
  have HSR := mkHid hsr
  have H14 := mkHid hs14
  have HRT := mkHid hRt
  have HR := mkHid hr
  clear hs14 hsr hRt hr he
  have hz : (W.nodes == 0) = false := by rw [beq_eq_false_iff_ne]; omega
  go_enter Tryd.func7, Tryd.ntmps7
  go_wp2_with fail
  ((with_reducible refine SC.out.mono ?_)); rintro e w3 ⟨rfl, hb3⟩
  clear SC hW2
  have S3 := S0.later hb3
  have B3 := bon B0 hb3
  obtain ⟨u0, u1, u2, u3⟩ := S3.bt
  simp only [Nat.zero_add] at u1 u2 u3
  go_wp2_with fail
  ((with_reducible refine (ST.out _ S3).mono ?_)); rintro e w4 ⟨rfl, hb4⟩
  have S4 := S3.later hb4
  have B4 := bon B3 hb4
  clear u0 u1 u2 u3 S3 ST S0
  go_upto_region 3 with fail
  go_cut [40] (fun s wx => s = .bool false ∧ Below w4.heap.size w4 wx)
  case first =>
    obtain ⟨p0, p1⟩ := S4.bw
    rcases d14 with d1 | ⟨d1, d4⟩
    all_goals
      go_wp2_with fail
      ((with_reducible refine (RT.out _ S4).mono ?_)); rintro e w5 ⟨rfl, hb5⟩
      go_wp2
      go_meet
      exact ⟨rfl, hb5⟩
  case rest =>
    obtain ⟨rfl, hb5⟩ := hcut
    have S5 := S4.later hb5
    have B5 := bon B4 hb5
    clear S4 RT d14 hb5
    obtain ⟨p0, p1⟩ := S5.bw
    obtain ⟨I, hI, hIN⟩ := place_any x hlo
    obtain ⟨K, hK, hKN⟩ := place_any y hlo
    have C0 : WC wc W.nodes wc.heap.size (.slice none 0 0) [] (wc.alloc (.cells #[.int .i64 W.nodes, .slice none 0 0] 38)) := ⟨bel_alloc _ _, Nat.le_refl _, heap_alloc_new wc _, ⟨World.ownsRow_nil _ _ _ _, fun x hx => (by cases hx), fun x hx => (by cases hx)⟩⟩
    have T0 : TI wc W I K wc.heap.size 0 (wc.alloc (.cells #[.int .i64 W.nodes, .slice none 0 0] 38)) := ⟨_, _, C0, by simp [TurnL]⟩
    have hl : W.l.length ≤ 64 := by
      have := ((right_iff W).1 HR.out).1.2.2
      exact this
    clear C0
    generalize hn' : W.l.length = n at *
    have HN := mkHid hn'
    clear hn'
    go_wp2_with fail
    clear p0 p1 hI hK
    generalize wc.alloc (.cells #[.int .i64 W.nodes, .slice none 0 0] 38) = W6 at *
    go_loopw [13] (fun i w' => ∃ (k : Nat) (x : Int), i = .int .i64 x ∧ x = k ∧ k ≤ n ∧ TI wc W I K wc.heap.size k w') (fun i _ => (n - intOf i).toNat)
    case atStart => exact ⟨0, 0, rfl, rfl, Nat.zero_le _, T0⟩
    case round =>
      clear T0
      obtain ⟨k, x, rfl, hxk, hk, r, l, c, turn⟩ := hrel
      obtain rfl : x = (k : Int) := hxk
      have hll : l.length = k := by rw [← turn.1, List.length_take, HN.out]; omega
      have S6 := S5.later c.bel
      obtain ⟨p0, p1⟩ := S6.bw
      rw [HN.out] at p1
      by_cases hlt : k < n
      · have hk' : k < W.l.length := by rw [HN.out]; exact hlt
        obtain ⟨b, o, ha, hbB, nd⟩ := S5.win.at_ k hk'
        have nd' := nd.keep c.bel hbB
        obtain ⟨hnq, vq⟩ := S5.win.vs _ (List.getElem_mem hk')
        have vq' := (vq.keep c.bel).mono c.bel.size
        obtain ⟨hqv, -⟩ := HRT.out.hv _ (List.getElem_mem hk')
        have HT := mkHid (List.take_succ_eq_append_getElem hk')
        generalize W.l[k] = q at *
        rw [ha] at p1 ⊢
        clear ha nd vq hk'
        obtain ⟨g0, g1, g2, g3, g4⟩ := nd'
        have bN := bel_alloc wr (boxVl q.v)
        have c5 := c.later bN
        have FY : FourV (wr.alloc (boxVl q.v)) wr.heap.size (.int .i64 q.v.sort) (.int .i64 q.v.n) (.bool q.v.b) (.slice q.v.a q.v.s.length q.v.c) := by simp [FourV, boxVl, go_sem]
        have hW7 : wr.alloc (.cells #[.int .i64 q.v.sort, .int .i64 q.v.n, .bool q.v.b, .slice q.v.a q.v.s.length q.v.c] 41) = wr.alloc (boxVl q.v) := rfl
        have hp1 := cell_later bN p1
        have hg0 := cell_later bN g0
        have hYk : (wr.alloc (boxVl q.v)).heap[wr.heap.size]? = some (boxVl q.v) := heap_alloc_new wr _
        have VI5 := vq'.later bN
        have hsz : (wr.alloc (boxVl q.v)).heap.size = wr.heap.size + 1 := by simp
        generalize wr.alloc (boxVl q.v) = W7 at *
        obtain ⟨y0, y1, y2, y3, y4, y5, y6, y7⟩ := id FY
        have HC5 := mkHid c5
        have HSZ := mkHid hsz
        have HYK : Hid (BoxY W7 wr.heap.size q.v) := hYk
        have hYge : wc.heap.size ≤ wr.heap.size := c.bel.size
        have hXw : w.heap.size + 1 < wc.heap.size := World.block_lt_of_cell? _ _ S5.bw.1
        have hXY : (⟨w.heap.size + 1, 1, none⟩ : Addr).block ≠ wr.heap.size := by show w.heap.size + 1 ≠ wr.heap.size; omega
        have hbY : (⟨b, o + k * 5, none⟩ : Addr).block ≠ wr.heap.size := by show b ≠ wr.heap.size; omega
        have hXC : w.heap.size + 1 ≠ (⟨wc.heap.size, 1, none⟩ : Addr).block := by show w.heap.size + 1 ≠ wc.heap.size; omega
        have hbC : b ≠ (⟨wc.heap.size, 1, none⟩ : Addr).block := by show b ≠ wc.heap.size; omega
        have hYC : wr.heap.size ≠ (⟨wc.heap.size, 1, none⟩ : Addr).block := by show wr.heap.size ≠ wc.heap.size; have := c.bc.lt; omega
        have hYl : wr.heap.size < W7.heap.size := by omega
        clear c5 c hsz vq'
        by_cases hs2 : q.v.sort = 2
        · have h2 : (q.v.sort == 2) = true := by rw [hs2]; rfl
          have h3 : (q.v.sort == 3) = false := by rw [hs2]; rfl
          have hlen := holds_two hqv hs2
          have hIs : I < q.v.s.length := by omega
          have hKs : K < q.v.s.length := by omega
          obtain ⟨j0, hj0, hj1, hj2, hj3⟩ := bool_parts
          obtain ⟨qb, qo, hqa, -, -⟩ := VI5.i 0 (by omega)
          have HBI := mkHid (show BIn (W7.alloc (.cells #[] 4)) W7.heap.size q.v.a q.v.s from VI5.i.keep (bel_alloc _ _))
          have HTV := mkHid (show ∀ a c, TurnV I K q.v ⟨q.v.sort, q.v.n, q.v.b, a, c, swp I K q.v.s⟩ from fun a c => ⟨rfl, rfl, by rw [if_neg (by omega)], by rw [if_pos hs2]⟩)
          have OW0 := mkHid (show (W7.alloc (.cells #[] 4)).ownsRow W7.heap.size 4 1 (.slice (some ⟨W7.heap.size, 0, none⟩) 0 0) 0 [] from World.ownsRow_lit W7 #[] 0 (Nat.le_refl _) (by decide) rfl)
          have HFU := mkHid (show ∀ u : Vl, u.sort = q.v.sort → u.n = q.v.n → ((⟨q.nm, u⟩ : Nd).nm.size ≤ maxLen ∧ fitB u.sort = true ∧ fitB u.n = true) from fun u e1 e2 => ⟨hnq, by rw [e1]; exact VI5.s, by rw [e2]; exact VI5.n⟩)
          rw [hqa] at y3 hW7 g4
          have HQA := mkHid hqa
          clear hqa hqv hs2
          generalize hls : q.v.s = ls at *
          have HLS := mkHid hls
          clear hls
          have hlb : ls.length ≤ 64 := by omega
          clear hlen
          generalize hnn : ls.length = nn at *
          have HNN := mkHid hnn
          clear hnn
          have hI2 : (I : Int) < (nn : Int) := by omega
          have hK2 : (K : Int) < (nn : Int) := by omega
          have hI0 : (0 : Int) ≤ (I : Int) := by omega
          have hK0 : (0 : Int) ≤ (K : Int) := by omega
          have hn1 : 0 < 0 + nn := by omega
          go_wp2_with (at_builtin
                       refine wpList_append_own _ rfl (.tmp 68) (.tmp 70) _ rfl W7.heap.size 4 j0 _ 1 1 Tryd.underlying39 hj0 hj1 hj2 hj3 rfl (by omega) (.slice (some ⟨W7.heap.size, 0, none⟩) 0 0) 0 [] rfl ?_ ⟨qb, qo, none⟩ nn q.v.c (bls ls) rfl ?_ ?_ (bls_one _) ?_ ?_ ?_ ?_
                       · exact OW0.out
                       · rw [bls_len, HNN.out]; omega
                       · intro j u hu
                         obtain ⟨hj, rfl⟩ := List.getElem?_eq_some_iff.1 hu
                         rw [bls_len] at hj
                         obtain ⟨b', o', e, -, h3'⟩ := HBI.out j hj
                         rw [HQA.out] at e
                         cases e
                         rw [add_off, h3']
                         simp [bls]
                       · simp only [maxLen]; omega
                       · omega
                       · rw [World.size_alloc]; omega
                       intro v8 w8 ho8 hg8 _
                       obtain ⟨g8, cp8, rfl, hgb8, hgl8⟩ := World.ownsRow.form ho8 hn1
                       have hYb : w8.heap[wr.heap.size]? = W7.heap[wr.heap.size]? := (hg8.block _ (by rw [World.size_alloc]; omega) (by simp only [Value.ownBlock, ne_eq, Option.some.injEq]; omega)).trans (Below.heap_alloc _ _ _ hYl)
                       obtain ⟨z0, z1, z2, z3, z4, z5, z6, z7⟩ := (HYK.out.same hYb).cells
                       have ho8' : w8.ownsRow W7.heap.size 4 1 (.slice (some ⟨g8, 0, none⟩) nn cp8) nn (bls ls) := by rw [Nat.zero_add, List.nil_append] at ho8; exact ho8
                       obtain ⟨sI, hsI⟩ : ∃ s, s = ls.getD I false := ⟨_, rfl⟩
                       obtain ⟨sK, hsK⟩ : ∃ s, s = ls.getD K false := ⟨_, rfl⟩
                       have HSI := mkHid hsI
                       have HSK := mkHid hsK
                       have cI : w8.cell? ⟨g8, I, none⟩ = some (.bool sI) := by rw [hsI, ho8'.cellAt I (by omega), bls_get ls I (by rw [HNN.out]; omega)]; simp [List.getD_eq_getElem?_getD, HNN.out, hIs]
                       have cK : w8.cell? ⟨g8, K, none⟩ = some (.bool sK) := by rw [hsK, ho8'.cellAt K (by omega), bls_get ls K (by rw [HNN.out]; omega)]; simp [List.getD_eq_getElem?_getD, HNN.out, hKs]
                       have fI := ho8'.frozenAt I
                       have fK := ho8'.frozenAt K
                       have hgY : ¬ g8 = wr.heap.size := by omega
                       have hYg : ¬ wr.heap.size = g8 := by omega
                       clear y0 y1 y2 y3 y4 y5 y6 y7 hsI hsK)
          have B8 : But wr.heap.size W7 (w8.setCell ⟨wr.heap.size, 3, none⟩ (.slice (some ⟨g8, 0, none⟩) nn cp8)) := by
            have b0 : But wr.heap.size W7 w8 := ⟨hg8.os, hg8.tape, hg8.output, by have := hg8.size; rw [World.size_alloc] at this; omega, fun j hj _ => (hg8.block j (by rw [World.size_alloc]; omega) (by simp only [Value.ownBlock, ne_eq, Option.some.injEq]; omega)).trans (Below.heap_alloc _ _ _ hj)⟩
            exact b0.set (p := ⟨wr.heap.size, 3, none⟩) (.inl rfl) _
          have YB8 : BoxY (w8.setCell ⟨wr.heap.size, 3, none⟩ (.slice (some ⟨g8, 0, none⟩) nn cp8)) wr.heap.size ⟨q.v.sort, q.v.n, q.v.b, some ⟨g8, 0, none⟩, cp8, ls⟩ := by
            have := (HYK.out.same hYb).set3 (some ⟨g8, 0, none⟩) cp8 ls
            rw [HNN.out] at this
            exact this
          have OW8 : (w8.setCell ⟨wr.heap.size, 3, none⟩ (.slice (some ⟨g8, 0, none⟩) nn cp8)).ownsRow W7.heap.size 4 1 (.slice (some ⟨g8, 0, none⟩) nn cp8) nn (bls ls) := own_put ho8' (by show wr.heap.size < W7.heap.size; exact hYl) _
          have cK8 : (w8.setCell ⟨wr.heap.size, 3, none⟩ (.slice (some ⟨g8, 0, none⟩) nn cp8)).cell? ⟨g8, K, none⟩ = some (.bool sK) := by
            rw [World.cell?_of_block (w := w8) (Below.heap_setCell w8 ⟨wr.heap.size, 3, none⟩ _ g8 hgY)]; exact cK
          have cI8 : (w8.setCell ⟨wr.heap.size, 3, none⟩ (.slice (some ⟨g8, 0, none⟩) nn cp8)).cell? ⟨g8, I, none⟩ = some (.bool sI) := by
            rw [World.cell?_of_block (w := w8) (Below.heap_setCell w8 ⟨wr.heap.size, 3, none⟩ _ g8 hgY)]; exact cI
          clear z0 z1 z2 z3 z4 z5 z6 z7 cI cK fI fK ho8' ho8 hg8 hYb HBI OW0
          generalize w8.setCell ⟨wr.heap.size, 3, none⟩ (.slice (some ⟨g8, 0, none⟩) nn cp8) = V8 at *
          have fI8 := OW8.frozenAt I
          have e3 : V8.cell? ⟨wr.heap.size, 3, none⟩ = some (.slice (some ⟨g8, 0, none⟩) nn cp8) := by have := YB8.cells.2.2.2.1; rw [HNN.out] at this; exact this
          have OW9 := (OW8.stored I (.bool sK)).1.drew
          have SK9 := store_keep (I := I) ⟨e3, cK8⟩ hYg
          have YB9 : BoxY (V8.setCell ⟨g8, I, none⟩ (.bool sK)).drew wr.heap.size ⟨q.v.sort, q.v.n, q.v.b, some ⟨g8, 0, none⟩, cp8, ls⟩ := YB8.same (Below.heap_setCell V8 ⟨g8, I, none⟩ _ _ hYg)
          have B9 : But wr.heap.size W7 (V8.setCell ⟨g8, I, none⟩ (.bool sK)).drew := (B8.set (p := ⟨g8, I, none⟩) (.inr hgb8) _).drew
          have HOW9 := mkHid OW9
          clear B8 YB8 OW9
          refine wp_region_held_drew (S := fun w' => w'.cell? ⟨wr.heap.size, 3, none⟩ = some (.slice (some ⟨g8, 0, none⟩) nn cp8) ∧ w'.cell? ⟨g8, K, none⟩ = some (.bool sK)) (by kernel_rfl) ⟨e3, cK8⟩ (fun hHeld => ?_)
          refine wpAnyH_take (i := 0) (v := ?_) rfl (by kernel_rfl) (by kernel_rfl) (by kernel_rfl) (fun _ _ _ h => h) (Or.inl ⟨by kernel_rfl, ?_⟩) (by assumption) ?_
          rotate_left
          · (intro w hSw; (try dsimp only at hSw); go_simp; try with_reducible rfl)
          simp only [Act.put, List.getElem_toArray, List.getElem_cons_zero, List.setIfInBounds_toArray, List.set_cons_zero, List.set_cons_succ]
          refine wpAnyH_take (i := 1) (v := ?_) rfl (by kernel_rfl) (by kernel_rfl) (by kernel_rfl) (fun _ _ _ h => h) (Or.inl ⟨by kernel_rfl, ?_⟩) (by assumption) ?_
          rotate_left
          · (intro w hSw; (try dsimp only at hSw); go_simp; try with_reducible rfl)
          simp only [Act.put, List.getElem_toArray, List.getElem_cons_succ, List.getElem_cons_zero, List.setIfInBounds_toArray, List.set_cons_zero, List.set_cons_succ]
          refine wpAnyH_take (i := 2) (v := ?_) rfl (by kernel_rfl) (by kernel_rfl) (by kernel_rfl) (fun _ _ _ h => h) (Or.inl ⟨by kernel_rfl, ?_⟩) (by assumption) ?_
          rotate_left
          · (intro w hSw; (try dsimp only at hSw); go_simp; try with_reducible rfl)
          simp only [Act.put, List.getElem_toArray, List.getElem_cons_succ, List.getElem_cons_zero, List.setIfInBounds_toArray, List.set_cons_zero, List.set_cons_succ]
          refine wpAnyH_take (i := 3) (v := ?_) rfl (by kernel_rfl) (by kernel_rfl) (by kernel_rfl) (fun _ _ _ h => h) (Or.inl ⟨by kernel_rfl, ?_⟩) (by assumption) ?_
          rotate_left
          · (intro w hSw; (try dsimp only at hSw); go_simp; try with_reducible rfl)
          simp only [Act.put, List.getElem_toArray, List.getElem_cons_succ, List.getElem_cons_zero, List.setIfInBounds_toArray, List.set_cons_zero, List.set_cons_succ]
          refine wpAnyH_take (i := 4) (v := ?_) rfl (by kernel_rfl) (by kernel_rfl) (by kernel_rfl) (fun _ _ _ h => h) (Or.inl ⟨by kernel_rfl, ?_⟩) (by assumption) ?_
          rotate_left
          · (intro w hSw; (try dsimp only at hSw); go_simp; try with_reducible rfl)
          simp only [Act.put, List.getElem_toArray, List.getElem_cons_succ, List.getElem_cons_zero, List.setIfInBounds_toArray, List.set_cons_zero, List.set_cons_succ]
          refine wpAnyH_take (i := 5) (v := ?_) rfl (by kernel_rfl) (by kernel_rfl) (by kernel_rfl) (fun _ _ _ h => h) (Or.inl ⟨by kernel_rfl, ?_⟩) (by assumption) ?_
          rotate_left
          · (intro w hSw; (try dsimp only at hSw); go_simp; try with_reducible rfl)
          simp only [Act.put, List.getElem_toArray, List.getElem_cons_succ, List.getElem_cons_zero, List.setIfInBounds_toArray, List.set_cons_zero, List.set_cons_succ]
          refine wpAnyH_take (i := 6) (v := ?_) rfl (by kernel_rfl) (by kernel_rfl) (by kernel_rfl) (fun _ _ _ h => h) (Or.inl ⟨by kernel_rfl, ?_⟩) (by assumption) ?_
          rotate_left
          · (intro w hSw; (try dsimp only at hSw); go_simp; try with_reducible rfl)
          simp only [Act.put, List.getElem_toArray, List.getElem_cons_succ, List.getElem_cons_zero, List.setIfInBounds_toArray, List.set_cons_zero, List.set_cons_succ]
          refine wpAnyH_take (i := 7) (v := ?_) rfl (by kernel_rfl) (by kernel_rfl) (by kernel_rfl) (fun _ _ _ h => h) (Or.inl ⟨by kernel_rfl, ?_⟩) (by assumption) ?_
          rotate_left
          · (intro w hSw; (try dsimp only at hSw); go_simp; try with_reducible rfl)
          simp only [Act.put, List.getElem_toArray, List.getElem_cons_succ, List.getElem_cons_zero, List.setIfInBounds_toArray, List.set_cons_zero, List.set_cons_succ]
          refine wpAnyH_take (i := 8) (v := ?_) rfl (by kernel_rfl) (by kernel_rfl) (by kernel_rfl) (fun _ _ _ h => h) (Or.inl ⟨by kernel_rfl, ?_⟩) (by assumption) ?_
          rotate_left
          · (intro w hSw; (try dsimp only at hSw); go_simp; try with_reducible rfl)
          simp only [Act.put, List.getElem_toArray, List.getElem_cons_succ, List.getElem_cons_zero, List.setIfInBounds_toArray, List.set_cons_zero, List.set_cons_succ]
          refine wpAnyH_ready (rs := [9]) (by kernel_rfl) (by simp) ?_
          refine AllReadyH.cons rfl (fun KK hKK => ?_) AllReadyH.nil
          go_simp
          refine hKK.out _ _ (SK9) (fun hHeld => ?_)
          clear hKK KK
          refine wpAnyH_done (by kernel_rfl) ?_ _
          clear hHeld
          have e39 : (V8.setCell ⟨g8, I, none⟩ (.bool sK)).drew.cell? ⟨wr.heap.size, 3, none⟩ = some (.slice (some ⟨g8, 0, none⟩) nn cp8) := SK9.1
          have cK9 : (V8.setCell ⟨g8, I, none⟩ (.bool sK)).drew.cell? ⟨g8, K, none⟩ = some (.bool sK) := SK9.2
          obtain ⟨z0, z1, z2, -⟩ := YB9.cells
          clear e3 cK8 cI8 fI8 SK9 OW8
          generalize (V8.setCell ⟨g8, I, none⟩ (.bool sK)).drew = V9 at *
          have fK9 := HOW9.out.frozenAt K
          obtain ⟨u, hu⟩ : ∃ u : Vl, u = ⟨q.v.sort, q.v.n, q.v.b, some ⟨g8, 0, none⟩, cp8, swp I K ls⟩ := ⟨_, rfl⟩
          have YB10 : BoxY (V9.setCell ⟨g8, K, none⟩ (.bool sI)) wr.heap.size u := by
            have := YB9.same (Below.heap_setCell V9 ⟨g8, K, none⟩ (.bool sI) _ hYg)
            rw [hu]
            unfold BoxY at this ⊢
            rw [this]
            simp only [swp_len]
          have B10 : But wr.heap.size W7 (V9.setCell ⟨g8, K, none⟩ (.bool sI)) := B9.set (p := ⟨g8, K, none⟩) (.inr hgb8) _
          have O10 : Own (V9.setCell ⟨g8, K, none⟩ (.bool sI)) wc.heap.size u.a u.c u.s := by
            have h := (HOW9.out.stored K (.bool sI)).1
            rw [bls_set, bls_set] at h
            rw [hu]
            have e : (ls.set I sK).set K sI = swp I K ls := by unfold swp; rw [HSI.out, HSK.out]
            rw [e] at h
            show World.ownsRow _ _ _ _ (.slice (some ⟨g8, 0, none⟩) (swp I K ls).length cp8) (swp I K ls).length (bls (swp I K ls))
            rw [swp_len, HNN.out]
            exact own_base h (by omega)
          have HTN : Hid (TurnN I K q ⟨q.nm, u⟩) := by
            rw [hu]
            exact ⟨rfl, HTV.out _ _⟩
          have HFU : Hid ((⟨q.nm, u⟩ : Nd).nm.size ≤ maxLen ∧ fitB u.sort = true ∧ fitB u.n = true) := HFU.out u (by rw [hu]) (by rw [hu])
          have HUS : Hid (u.sort = q.v.sort) := by rw [hu]; rfl
          clear hu B9 YB9 HTV
          go_wp2_with fail
          have B9 := B10
          have YB9 := YB10
          have O9' := O10
          clear B10 YB10 O10 e39 cK9 fK9 z0 z1 z2
          generalize V9.setCell ⟨g8, K, none⟩ (.bool sI) = W9 at *
          clear g0 g1 g2 g3 g4 p0 p1 hW7
          have c9 := HC5.out.but B9 hYge HYK.out
          have C9A := mkHid (c9.later (bon (bdrew (Below.refl W9.heap.size W9)) (bel_alloc W9.drew (.cells #[.string q.nm, .int .i64 u.sort, .int .i64 u.n, .bool u.b, .slice u.a u.s.length u.c] 48))))
          have OR9 : Hid ((W9.drew.alloc (.cells #[.string q.nm, .int .i64 u.sort, .int .i64 u.n, .bool u.b, .slice u.a u.s.length u.c] 48)).ownsRow wc.heap.size 48 5 r k (nds l)) := by have := C9A.out.nr.row; rw [hll] at this; exact this
          have CN9 := mkHid (cells_nd W9.drew ⟨q.nm, u⟩)
          have O9 : Hid (Own (W9.drew.alloc (.cells #[.string q.nm, .int .i64 u.sort, .int .i64 u.n, .bool u.b, .slice u.a u.s.length u.c] 48)) wc.heap.size u.a u.c u.s) := (World.ownsRow.drew O9').alloc _
          have hz9 : wc.heap.size ≤ (W9.drew.alloc (.cells #[.string q.nm, .int .i64 u.sort, .int .i64 u.n, .bool u.b, .slice u.a u.s.length u.c] 48)).heap.size := C9A.out.bel.size
          have cp1 : W9.cell? ⟨w.heap.size + 1, 1, none⟩ = some (.slice (some ⟨b, o, none⟩) n W.c) := B9.cell hp1 hXY
          have cg0 : W9.cell? ⟨b, o + k * 5, none⟩ = some (.string q.nm) := B9.cell hg0 hbY
          obtain ⟨e0, e1, e2, e3, -⟩ := YB9.cells
          have x1 := c9.bc.cells.2.1
          have x1d : W9.drew.cell? ⟨wc.heap.size, 1, none⟩ = some r := x1
          have hC9 : wc.heap.size < W9.heap.size := c9.bc.lt
          have hX9 : w.heap.size + 1 < W9.heap.size := World.block_lt_of_cell? _ _ cp1
          have hb9 : b < W9.heap.size := World.block_lt_of_cell? _ _ cg0
          have hY9 : wr.heap.size < W9.heap.size := YB9.lt
          have kA : (W9.drew.alloc (.cells #[.string q.nm, .int .i64 u.sort, .int .i64 u.n, .bool u.b, .slice u.a u.s.length u.c] 48)).cell? ⟨w.heap.size + 1, 1, none⟩ = some (.slice (some ⟨b, o, none⟩) n W.c) ∧ (W9.drew.alloc (.cells #[.string q.nm, .int .i64 u.sort, .int .i64 u.n, .bool u.b, .slice u.a u.s.length u.c] 48)).cell? ⟨b, o + k * 5, none⟩ = some (.string q.nm) ∧ (W9.drew.alloc (.cells #[.string q.nm, .int .i64 u.sort, .int .i64 u.n, .bool u.b, .slice u.a u.s.length u.c] 48)).cell? ⟨wr.heap.size, 0, none⟩ = some (.int .i64 u.sort) ∧ (W9.drew.alloc (.cells #[.string q.nm, .int .i64 u.sort, .int .i64 u.n, .bool u.b, .slice u.a u.s.length u.c] 48)).cell? ⟨wr.heap.size, 1, none⟩ = some (.int .i64 u.n) ∧ (W9.drew.alloc (.cells #[.string q.nm, .int .i64 u.sort, .int .i64 u.n, .bool u.b, .slice u.a u.s.length u.c] 48)).cell? ⟨wr.heap.size, 2, none⟩ = some (.bool u.b) ∧ (W9.drew.alloc (.cells #[.string q.nm, .int .i64 u.sort, .int .i64 u.n, .bool u.b, .slice u.a u.s.length u.c] 48)).cell? ⟨wr.heap.size, 3, none⟩ = some (.slice u.a u.s.length u.c) := six_keep (w := W9) ⟨cp1, cg0, e0, e1, e2, e3⟩ (Below.heap_alloc W9.drew (.cells #[.string q.nm, .int .i64 u.sort, .int .i64 u.n, .bool u.b, .slice u.a u.s.length u.c] 48) _ hX9) (Below.heap_alloc W9.drew (.cells #[.string q.nm, .int .i64 u.sort, .int .i64 u.n, .bool u.b, .slice u.a u.s.length u.c] 48) _ hb9) (Below.heap_alloc W9.drew (.cells #[.string q.nm, .int .i64 u.sort, .int .i64 u.n, .bool u.b, .slice u.a u.s.length u.c] 48) _ hY9)
          have KS7 := mkHid (fun w7 (hg : (W9.drew.alloc (.cells #[.string q.nm, .int .i64 u.sort, .int .i64 u.n, .bool u.b, .slice u.a u.s.length u.c] 48)).grownBy w7 r.ownBlock) => six_keep (w' := w7) kA (hg.block _ (World.block_lt_of_cell? _ _ kA.1) (fun e => by have := (C9A.out.nr.row.lt _ e.symm).1; omega)) (hg.block _ (World.block_lt_of_cell? _ _ kA.2.1) (fun e => by have := (C9A.out.nr.row.lt _ e.symm).1; omega)) (hg.block _ (World.block_lt_of_cell? _ _ kA.2.2.1) (fun e => by
            obtain ⟨cc, hcc⟩ := own_kind C9A.out.nr.row e.symm
            have hy9 : (W9.drew.alloc (.cells #[.string q.nm, .int .i64 u.sort, .int .i64 u.n, .bool u.b, .slice u.a u.s.length u.c] 48)).heap[wr.heap.size]? = some (.cells #[.int .i64 u.sort, .int .i64 u.n, .bool u.b, .slice u.a u.s.length u.c] 41 (0, 0)) := (Below.heap_alloc W9.drew (.cells #[.string q.nm, .int .i64 u.sort, .int .i64 u.n, .bool u.b, .slice u.a u.s.length u.c] 48) _ hY9).trans YB9
            rw [hy9] at hcc
            simp at hcc)))
          clear c9 O9' B9 YB9 HC5 HYK FY
          go_wp2_with fail
          refine wp_region_held_drew (S := fun w' => w'.cell? ⟨w.heap.size + 1, 1, none⟩ = some (.slice (some ⟨b, o, none⟩) n W.c) ∧ w'.cell? ⟨b, o + k * 5, none⟩ = some (.string q.nm) ∧ w'.cell? ⟨wr.heap.size, 0, none⟩ = some (.int .i64 u.sort) ∧ w'.cell? ⟨wr.heap.size, 1, none⟩ = some (.int .i64 u.n) ∧ w'.cell? ⟨wr.heap.size, 2, none⟩ = some (.bool u.b) ∧ w'.cell? ⟨wr.heap.size, 3, none⟩ = some (.slice u.a u.s.length u.c)) (by kernel_rfl) ⟨cp1, cg0, e0, e1, e2, e3⟩ (fun hHeld => ?_)
          refine wpAnyH_take (i := 0) (v := ?_) rfl (by kernel_rfl) (by kernel_rfl) (by kernel_rfl) (fun _ _ _ h => h) (Or.inl ⟨by kernel_rfl, ?_⟩) (by assumption) ?_
          rotate_left
          · (intro w hSw; (try dsimp only at hSw); go_simp; try with_reducible rfl)
          simp only [Act.put, List.getElem_toArray, List.getElem_cons_zero, List.setIfInBounds_toArray, List.set_cons_zero, List.set_cons_succ]
          refine wpAnyH_take (i := 2) (v := ?_) rfl (by kernel_rfl) (by kernel_rfl) (by kernel_rfl) (fun _ _ _ h => h) (Or.inl ⟨by kernel_rfl, ?_⟩) (by assumption) ?_
          rotate_left
          · (intro w hSw; (try dsimp only at hSw); go_simp; try with_reducible rfl)
          simp only [Act.put, List.getElem_toArray, List.getElem_cons_succ, List.getElem_cons_zero, List.setIfInBounds_toArray, List.set_cons_zero, List.set_cons_succ]
          refine wpAnyH_take (i := 3) (v := ?_) rfl (by kernel_rfl) (by kernel_rfl) (by kernel_rfl) (fun _ _ _ h => h) (Or.inl ⟨by kernel_rfl, ?_⟩) (by assumption) ?_
          rotate_left
          · (intro w hSw; (try dsimp only at hSw); go_simp; try with_reducible rfl)
          simp only [Act.put, List.getElem_toArray, List.getElem_cons_succ, List.getElem_cons_zero, List.setIfInBounds_toArray, List.set_cons_zero, List.set_cons_succ]
          refine wpAnyH_take (i := 4) (v := ?_) rfl (by kernel_rfl) (by kernel_rfl) (by kernel_rfl) (fun _ _ _ h => h) (Or.inl ⟨by kernel_rfl, ?_⟩) (by assumption) ?_
          rotate_left
          · (intro w hSw; (try dsimp only at hSw); go_simp; try with_reducible rfl)
          simp only [Act.put, List.getElem_toArray, List.getElem_cons_succ, List.getElem_cons_zero, List.setIfInBounds_toArray, List.set_cons_zero, List.set_cons_succ]
          refine wpAnyH_take (i := 5) (v := ?_) rfl (by kernel_rfl) (by kernel_rfl) (by kernel_rfl) (fun _ _ _ h => h) (Or.inl ⟨by kernel_rfl, ?_⟩) (by assumption) ?_
          rotate_left
          · (intro w hSw; (try dsimp only at hSw); go_simp; try with_reducible rfl)
          simp only [Act.put, List.getElem_toArray, List.getElem_cons_succ, List.getElem_cons_zero, List.setIfInBounds_toArray, List.set_cons_zero, List.set_cons_succ]
          refine wpAnyH_take (i := 6) (v := ?_) rfl (by kernel_rfl) (by kernel_rfl) (by kernel_rfl) (fun _ _ _ h => h) (Or.inl ⟨by kernel_rfl, ?_⟩) (by assumption) ?_
          rotate_left
          · (intro w hSw; (try dsimp only at hSw); go_simp; try with_reducible rfl)
          simp only [Act.put, List.getElem_toArray, List.getElem_cons_succ, List.getElem_cons_zero, List.setIfInBounds_toArray, List.set_cons_zero, List.set_cons_succ]
          refine wpAnyH_take (i := 7) (v := ?_) rfl (by kernel_rfl) (by kernel_rfl) (by kernel_rfl) (fun _ _ _ h => h) (Or.inl ⟨by kernel_rfl, ?_⟩) (by assumption) ?_
          rotate_left
          · (intro w hSw; (try dsimp only at hSw); go_simp; try with_reducible rfl)
          simp only [Act.put, List.getElem_toArray, List.getElem_cons_succ, List.getElem_cons_zero, List.setIfInBounds_toArray, List.set_cons_zero, List.set_cons_succ]
          refine wpAnyH_take (i := 8) (v := ?_) rfl (by kernel_rfl) (by kernel_rfl) (by kernel_rfl) (fun _ _ _ h => h) (Or.inl ⟨by kernel_rfl, ?_⟩) (by assumption) ?_
          rotate_left
          · (intro w hSw; (try dsimp only at hSw); go_simp; try with_reducible rfl)
          simp only [Act.put, List.getElem_toArray, List.getElem_cons_succ, List.getElem_cons_zero, List.setIfInBounds_toArray, List.set_cons_zero, List.set_cons_succ]
          refine wpAnyH_take (i := 9) (v := ?_) rfl (by kernel_rfl) (by kernel_rfl) (by kernel_rfl) (fun _ _ _ h => h) (Or.inl ⟨by kernel_rfl, ?_⟩) (by assumption) ?_
          rotate_left
          · (intro w hSw; (try dsimp only at hSw); go_simp; try with_reducible rfl)
          simp only [Act.put, List.getElem_toArray, List.getElem_cons_succ, List.getElem_cons_zero, List.setIfInBounds_toArray, List.set_cons_zero, List.set_cons_succ]
          refine wpAnyH_ready (rs := [1, 10]) (by kernel_rfl) (by simp) ?_
          refine AllReadyH.cons rfl (fun KK hKK => ?_) (AllReadyH.cons rfl (fun KK hKK => ?_) AllReadyH.nil)
          · go_simp
            refine hKK.out _ _ (by assumption) (fun hHeld => ?_)
            clear hKK KK
            refine wpAnyH_ready (rs := [10]) (by kernel_rfl) (by simp) ?_
            refine AllReadyH.cons rfl (fun KK hKK => ?_) AllReadyH.nil
            go_simp
            refine hKK.out _ _ (kA) (fun hHeld => ?_)
            clear hKK KK
            refine wpAnyH_ready (rs := [11]) (by kernel_rfl) (by simp) ?_
            refine AllReadyH.cons rfl (fun KK hKK => ?_) AllReadyH.nil
            refine step_append_lies _ (by rfl) _ _ _ (by rfl) wc.heap.size 48 i0 _ 5 64 Tryd.underlying36 hi0 hz0 hz1 hz2 rfl (by omega) r k (nds l) (by rfl) ?_ ⟨W9.heap.size, 0, none⟩ 1 1 (nd5 ⟨q.nm, u⟩) (by rfl) rfl ?_ (nd5_one _) (by omega) ?_ ?_ ?_ (W9.heap.size + 1) ?_ ?_
            · exact OR9.out
            · exact CN9.out
            · simp only [maxLen]; omega
            · omega
            · exact hz9
            · simp
            intro g7 cap7 w7 hown7 hgrow7 hat7 hlt7
            have kS7 := KS7.out w7 hgrow7
            obtain ⟨-, z1, -, z3⟩ := (C9A.out.bc.grown C9A.out.nr hgrow7).cells
            refine hKK.out _ _ (kS7) (fun hHeld => ?_)
            clear hKK KK
            refine wpAnyH_take (i := 12) (v := ?_) rfl (by kernel_rfl) (by kernel_rfl) (by kernel_rfl) (fun _ _ _ h => h) (Or.inl ⟨by kernel_rfl, ?_⟩) (by assumption) ?_
            rotate_left
            · (intro w hSw; (try dsimp only at hSw); go_simp; try with_reducible rfl)
            simp only [Act.put, List.getElem_toArray, List.getElem_cons_succ, List.getElem_cons_zero, List.setIfInBounds_toArray, List.set_cons_zero, List.set_cons_succ]
            refine wpAnyH_ready (rs := [13]) (by kernel_rfl) (by simp) ?_
            refine AllReadyH.cons rfl (fun KK hKK => ?_) AllReadyH.nil
            go_simp
            refine hKK.out _ _ (six_keep kS7 (Below.heap_setCell _ _ _ _ hXC) (Below.heap_setCell _ _ _ _ hbC) (Below.heap_setCell _ _ _ _ hYC)) (fun hHeld => ?_)
            clear hKK KK
            refine wpAnyH_done (by kernel_rfl) ?_ _
            have c10 := C9A.out.grown (y := ⟨q.nm, u⟩) (r' := .slice (some ⟨g7, 0, none⟩) (k + 1) cap7) (by rw [hll]; exact hown7) hgrow7 O9.out HFU.out
            have HC10 := mkHid c10
            clear c10 z1 z3 kS7 hgrow7 hown7 hlt7 hat7 hHeld
            generalize w7.setCell ⟨wc.heap.size, 1, none⟩ (.slice (some ⟨g7, 0, none⟩) (k + 1) cap7) = w8 at *
            go_wp2
            go_roundw
            case rel => exact ⟨k + 1, _, rfl, by omega, by omega, _, _, HC10.out, by rw [HT.out]; exact turn.snoc HTN.out⟩
            case measure => simp [intOf]; omega
          · go_simp
            refine hKK.out _ _ (kA) (fun hHeld => ?_)
            clear hKK KK
            refine wpAnyH_ready (rs := [1]) (by kernel_rfl) (by simp) ?_
            refine AllReadyH.cons rfl (fun KK hKK => ?_) AllReadyH.nil
            go_simp
            refine hKK.out _ _ (by assumption) (fun hHeld => ?_)
            clear hKK KK
            refine wpAnyH_ready (rs := [11]) (by kernel_rfl) (by simp) ?_
            refine AllReadyH.cons rfl (fun KK hKK => ?_) AllReadyH.nil
            refine step_append_lies _ (by rfl) _ _ _ (by rfl) wc.heap.size 48 i0 _ 5 64 Tryd.underlying36 hi0 hz0 hz1 hz2 rfl (by omega) r k (nds l) (by rfl) ?_ ⟨W9.heap.size, 0, none⟩ 1 1 (nd5 ⟨q.nm, u⟩) (by rfl) rfl ?_ (nd5_one _) (by omega) ?_ ?_ ?_ (W9.heap.size + 1) ?_ ?_
            · exact OR9.out
            · exact CN9.out
            · simp only [maxLen]; omega
            · omega
            · exact hz9
            · simp
            intro g7 cap7 w7 hown7 hgrow7 hat7 hlt7
            have kS7 := KS7.out w7 hgrow7
            obtain ⟨-, z1, -, z3⟩ := (C9A.out.bc.grown C9A.out.nr hgrow7).cells
            refine hKK.out _ _ (kS7) (fun hHeld => ?_)
            clear hKK KK
            refine wpAnyH_take (i := 12) (v := ?_) rfl (by kernel_rfl) (by kernel_rfl) (by kernel_rfl) (fun _ _ _ h => h) (Or.inl ⟨by kernel_rfl, ?_⟩) (by assumption) ?_
            rotate_left
            · (intro w hSw; (try dsimp only at hSw); go_simp; try with_reducible rfl)
            simp only [Act.put, List.getElem_toArray, List.getElem_cons_succ, List.getElem_cons_zero, List.setIfInBounds_toArray, List.set_cons_zero, List.set_cons_succ]
            refine wpAnyH_ready (rs := [13]) (by kernel_rfl) (by simp) ?_
            refine AllReadyH.cons rfl (fun KK hKK => ?_) AllReadyH.nil
            go_simp
            refine hKK.out _ _ (six_keep kS7 (Below.heap_setCell _ _ _ _ hXC) (Below.heap_setCell _ _ _ _ hbC) (Below.heap_setCell _ _ _ _ hYC)) (fun hHeld => ?_)
            clear hKK KK
            refine wpAnyH_done (by kernel_rfl) ?_ _
            have c10 := C9A.out.grown (y := ⟨q.nm, u⟩) (r' := .slice (some ⟨g7, 0, none⟩) (k + 1) cap7) (by rw [hll]; exact hown7) hgrow7 O9.out HFU.out
            have HC10 := mkHid c10
            clear c10 z1 z3 kS7 hgrow7 hown7 hlt7 hat7 hHeld
            generalize w7.setCell ⟨wc.heap.size, 1, none⟩ (.slice (some ⟨g7, 0, none⟩) (k + 1) cap7) = w8 at *
            go_wp2
            go_roundw
            case rel => exact ⟨k + 1, _, rfl, by omega, by omega, _, _, HC10.out, by rw [HT.out]; exact turn.snoc HTN.out⟩
            case measure => simp [intOf]; omega
        · have h2 : (q.v.sort == 2) = false := by rw [beq_eq_false_iff_ne]; exact hs2
          have hs0 : q.v.s = [] := holds_none hqv hs2
          have HS0 := mkHid hs0
          rw [hs0] at y3 hW7 g4
          simp only [List.length_nil] at y3 hW7 g4
          clear hs0
          obtain ⟨qa, hqa⟩ : ∃ qa, q.v.a = qa := ⟨_, rfl⟩
          rw [hqa] at y3 hW7 g4
          clear hqa
          by_cases hs3 : q.v.sort = 3
          · have h3 : (q.v.sort == 3) = true := by rw [hs3]; rfl
            have hn0 : 0 ≤ q.v.n ∧ q.v.n < W.nodes := by
              have := hqv
              unfold holdsV at this
              rw [if_neg (by omega), if_neg hs2, if_pos hs3] at this
              simp at this
              exact this.1.1
            by_cases hnI : q.v.n = (I : Int)
            · have hb1 : (q.v.n == (I : Int)) = true := by rw [hnI]; simp
              have hsw : (K : Int) = ((sw I K q.v.n.toNat : Nat) : Int) := by unfold sw; rw [if_pos (by omega)]
              have turnN : TurnV I K q.v ⟨q.v.sort, (K : Int), q.v.b, some ⟨W7.heap.size, 0, none⟩, 0, []⟩ := ⟨rfl, rfl, by rw [if_pos hs3]; exact hsw, by rw [if_neg hs2]; exact HS0.out.symm⟩
              have HTN := mkHid (show TurnN I K q ⟨q.nm, ⟨q.v.sort, (K : Int), q.v.b, some ⟨W7.heap.size, 0, none⟩, 0, []⟩⟩ from ⟨rfl, turnN⟩)
              have B9 : But wr.heap.size W7 (((W7.setCell ⟨wr.heap.size, 3, none⟩ (.slice (some ⟨W7.heap.size, 0, none⟩) 0 0)).setCell ⟨wr.heap.size, 1, none⟩ (.int .i64 (K : Int))).alloc (.cells #[] 4)) := (((But.refl wr.heap.size W7).set (p := ⟨wr.heap.size, 3, none⟩) (.inl rfl) _).set (p := ⟨wr.heap.size, 1, none⟩) (.inl rfl) _).alloc _
              have YB9 : BoxY (((W7.setCell ⟨wr.heap.size, 3, none⟩ (.slice (some ⟨W7.heap.size, 0, none⟩) 0 0)).setCell ⟨wr.heap.size, 1, none⟩ (.int .i64 (K : Int))).alloc (.cells #[] 4)) wr.heap.size ⟨q.v.sort, (K : Int), q.v.b, some ⟨W7.heap.size, 0, none⟩, 0, []⟩ := ((HYK.out.set3 (some ⟨W7.heap.size, 0, none⟩) 0 []).set1 _).same (Below.heap_alloc _ _ _ (by simpa using hYl))
              have O9' : Own (((W7.setCell ⟨wr.heap.size, 3, none⟩ (.slice (some ⟨W7.heap.size, 0, none⟩) 0 0)).setCell ⟨wr.heap.size, 1, none⟩ (.int .i64 (K : Int))).alloc (.cells #[] 4)) wc.heap.size (some ⟨W7.heap.size, 0, none⟩) 0 [] := by
                have := World.ownsRow_lit (base := wc.heap.size) (e := 4) (size := 1) ((W7.setCell ⟨wr.heap.size, 3, none⟩ (.slice (some ⟨W7.heap.size, 0, none⟩) 0 0)).setCell ⟨wr.heap.size, 1, none⟩ (.int .i64 (K : Int))) #[] 0 (by simp; omega) (by decide) rfl
                simpa [Own, bls] using this
              have HFU := mkHid (show q.nm.size ≤ maxLen ∧ fitB q.v.sort = true ∧ fitB (K : Int) = true from ⟨hnq, VI5.s, by rw [fitB_iff]; omega⟩)
              clear hs3 hsw hn0 hnI  turnN hqv
              cases qa
              all_goals
                go_wp2_with fail
                generalize hu : (⟨q.v.sort, (K : Int), q.v.b, some ⟨W7.heap.size, 0, none⟩, 0, []⟩ : Vl) = u at *
                generalize (((W7.setCell ⟨wr.heap.size, 3, none⟩ (.slice (some ⟨W7.heap.size, 0, none⟩) 0 0)).setCell ⟨wr.heap.size, 1, none⟩ (.int .i64 (K : Int))).alloc (.cells #[] 4)) = W9 at *
                have HFU : Hid ((⟨q.nm, u⟩ : Nd).nm.size ≤ maxLen ∧ fitB u.sort = true ∧ fitB u.n = true) := by rw [← hu]; exact HFU
                have O9' : Own W9 wc.heap.size u.a u.c u.s := by rw [← hu]; exact O9'
                clear hu y0 y1 y2 y3 y4 y5 y6 y7 g0 g1 g2 g3 g4 p0 p1 hW7
                have c9 := HC5.out.but B9 hYge HYK.out
                have C9A := mkHid (c9.later (bon (bdrew (Below.refl W9.heap.size W9)) (bel_alloc W9.drew (.cells #[.string q.nm, .int .i64 u.sort, .int .i64 u.n, .bool u.b, .slice u.a u.s.length u.c] 48))))
                have OR9 : Hid ((W9.drew.alloc (.cells #[.string q.nm, .int .i64 u.sort, .int .i64 u.n, .bool u.b, .slice u.a u.s.length u.c] 48)).ownsRow wc.heap.size 48 5 r k (nds l)) := by have := C9A.out.nr.row; rw [hll] at this; exact this
                have CN9 := mkHid (cells_nd W9.drew ⟨q.nm, u⟩)
                have O9 : Hid (Own (W9.drew.alloc (.cells #[.string q.nm, .int .i64 u.sort, .int .i64 u.n, .bool u.b, .slice u.a u.s.length u.c] 48)) wc.heap.size u.a u.c u.s) := (World.ownsRow.drew O9').alloc _
                have hz9 : wc.heap.size ≤ (W9.drew.alloc (.cells #[.string q.nm, .int .i64 u.sort, .int .i64 u.n, .bool u.b, .slice u.a u.s.length u.c] 48)).heap.size := C9A.out.bel.size
                have cp1 : W9.cell? ⟨w.heap.size + 1, 1, none⟩ = some (.slice (some ⟨b, o, none⟩) n W.c) := B9.cell hp1 hXY
                have cg0 : W9.cell? ⟨b, o + k * 5, none⟩ = some (.string q.nm) := B9.cell hg0 hbY
                obtain ⟨e0, e1, e2, e3, -⟩ := YB9.cells
                have x1 := c9.bc.cells.2.1
                have x1d : W9.drew.cell? ⟨wc.heap.size, 1, none⟩ = some r := x1
                have hC9 : wc.heap.size < W9.heap.size := c9.bc.lt
                have hX9 : w.heap.size + 1 < W9.heap.size := World.block_lt_of_cell? _ _ cp1
                have hb9 : b < W9.heap.size := World.block_lt_of_cell? _ _ cg0
                have hY9 : wr.heap.size < W9.heap.size := YB9.lt
                have kA : (W9.drew.alloc (.cells #[.string q.nm, .int .i64 u.sort, .int .i64 u.n, .bool u.b, .slice u.a u.s.length u.c] 48)).cell? ⟨w.heap.size + 1, 1, none⟩ = some (.slice (some ⟨b, o, none⟩) n W.c) ∧ (W9.drew.alloc (.cells #[.string q.nm, .int .i64 u.sort, .int .i64 u.n, .bool u.b, .slice u.a u.s.length u.c] 48)).cell? ⟨b, o + k * 5, none⟩ = some (.string q.nm) ∧ (W9.drew.alloc (.cells #[.string q.nm, .int .i64 u.sort, .int .i64 u.n, .bool u.b, .slice u.a u.s.length u.c] 48)).cell? ⟨wr.heap.size, 0, none⟩ = some (.int .i64 u.sort) ∧ (W9.drew.alloc (.cells #[.string q.nm, .int .i64 u.sort, .int .i64 u.n, .bool u.b, .slice u.a u.s.length u.c] 48)).cell? ⟨wr.heap.size, 1, none⟩ = some (.int .i64 u.n) ∧ (W9.drew.alloc (.cells #[.string q.nm, .int .i64 u.sort, .int .i64 u.n, .bool u.b, .slice u.a u.s.length u.c] 48)).cell? ⟨wr.heap.size, 2, none⟩ = some (.bool u.b) ∧ (W9.drew.alloc (.cells #[.string q.nm, .int .i64 u.sort, .int .i64 u.n, .bool u.b, .slice u.a u.s.length u.c] 48)).cell? ⟨wr.heap.size, 3, none⟩ = some (.slice u.a u.s.length u.c) := six_keep (w := W9) ⟨cp1, cg0, e0, e1, e2, e3⟩ (Below.heap_alloc W9.drew (.cells #[.string q.nm, .int .i64 u.sort, .int .i64 u.n, .bool u.b, .slice u.a u.s.length u.c] 48) _ hX9) (Below.heap_alloc W9.drew (.cells #[.string q.nm, .int .i64 u.sort, .int .i64 u.n, .bool u.b, .slice u.a u.s.length u.c] 48) _ hb9) (Below.heap_alloc W9.drew (.cells #[.string q.nm, .int .i64 u.sort, .int .i64 u.n, .bool u.b, .slice u.a u.s.length u.c] 48) _ hY9)
                have KS7 := mkHid (fun w7 (hg : (W9.drew.alloc (.cells #[.string q.nm, .int .i64 u.sort, .int .i64 u.n, .bool u.b, .slice u.a u.s.length u.c] 48)).grownBy w7 r.ownBlock) => six_keep (w' := w7) kA (hg.block _ (World.block_lt_of_cell? _ _ kA.1) (fun e => by have := (C9A.out.nr.row.lt _ e.symm).1; omega)) (hg.block _ (World.block_lt_of_cell? _ _ kA.2.1) (fun e => by have := (C9A.out.nr.row.lt _ e.symm).1; omega)) (hg.block _ (World.block_lt_of_cell? _ _ kA.2.2.1) (fun e => by
                  obtain ⟨cc, hcc⟩ := own_kind C9A.out.nr.row e.symm
                  have hy9 : (W9.drew.alloc (.cells #[.string q.nm, .int .i64 u.sort, .int .i64 u.n, .bool u.b, .slice u.a u.s.length u.c] 48)).heap[wr.heap.size]? = some (.cells #[.int .i64 u.sort, .int .i64 u.n, .bool u.b, .slice u.a u.s.length u.c] 41 (0, 0)) := (Below.heap_alloc W9.drew (.cells #[.string q.nm, .int .i64 u.sort, .int .i64 u.n, .bool u.b, .slice u.a u.s.length u.c] 48) _ hY9).trans YB9
                  rw [hy9] at hcc
                  simp at hcc)))
                clear c9 O9' B9 YB9 HC5 HYK FY
                go_wp2_with fail
                refine wp_region_held_drew (S := fun w' => w'.cell? ⟨w.heap.size + 1, 1, none⟩ = some (.slice (some ⟨b, o, none⟩) n W.c) ∧ w'.cell? ⟨b, o + k * 5, none⟩ = some (.string q.nm) ∧ w'.cell? ⟨wr.heap.size, 0, none⟩ = some (.int .i64 u.sort) ∧ w'.cell? ⟨wr.heap.size, 1, none⟩ = some (.int .i64 u.n) ∧ w'.cell? ⟨wr.heap.size, 2, none⟩ = some (.bool u.b) ∧ w'.cell? ⟨wr.heap.size, 3, none⟩ = some (.slice u.a u.s.length u.c)) (by kernel_rfl) ⟨cp1, cg0, e0, e1, e2, e3⟩ (fun hHeld => ?_)
                refine wpAnyH_take (i := 0) (v := ?_) rfl (by kernel_rfl) (by kernel_rfl) (by kernel_rfl) (fun _ _ _ h => h) (Or.inl ⟨by kernel_rfl, ?_⟩) (by assumption) ?_
                rotate_left
                · (intro w hSw; (try dsimp only at hSw); go_simp; try with_reducible rfl)
                simp only [Act.put, List.getElem_toArray, List.getElem_cons_zero, List.setIfInBounds_toArray, List.set_cons_zero, List.set_cons_succ]
                refine wpAnyH_take (i := 2) (v := ?_) rfl (by kernel_rfl) (by kernel_rfl) (by kernel_rfl) (fun _ _ _ h => h) (Or.inl ⟨by kernel_rfl, ?_⟩) (by assumption) ?_
                rotate_left
                · (intro w hSw; (try dsimp only at hSw); go_simp; try with_reducible rfl)
                simp only [Act.put, List.getElem_toArray, List.getElem_cons_succ, List.getElem_cons_zero, List.setIfInBounds_toArray, List.set_cons_zero, List.set_cons_succ]
                refine wpAnyH_take (i := 3) (v := ?_) rfl (by kernel_rfl) (by kernel_rfl) (by kernel_rfl) (fun _ _ _ h => h) (Or.inl ⟨by kernel_rfl, ?_⟩) (by assumption) ?_
                rotate_left
                · (intro w hSw; (try dsimp only at hSw); go_simp; try with_reducible rfl)
                simp only [Act.put, List.getElem_toArray, List.getElem_cons_succ, List.getElem_cons_zero, List.setIfInBounds_toArray, List.set_cons_zero, List.set_cons_succ]
                refine wpAnyH_take (i := 4) (v := ?_) rfl (by kernel_rfl) (by kernel_rfl) (by kernel_rfl) (fun _ _ _ h => h) (Or.inl ⟨by kernel_rfl, ?_⟩) (by assumption) ?_
                rotate_left
                · (intro w hSw; (try dsimp only at hSw); go_simp; try with_reducible rfl)
                simp only [Act.put, List.getElem_toArray, List.getElem_cons_succ, List.getElem_cons_zero, List.setIfInBounds_toArray, List.set_cons_zero, List.set_cons_succ]
                refine wpAnyH_take (i := 5) (v := ?_) rfl (by kernel_rfl) (by kernel_rfl) (by kernel_rfl) (fun _ _ _ h => h) (Or.inl ⟨by kernel_rfl, ?_⟩) (by assumption) ?_
                rotate_left
                · (intro w hSw; (try dsimp only at hSw); go_simp; try with_reducible rfl)
                simp only [Act.put, List.getElem_toArray, List.getElem_cons_succ, List.getElem_cons_zero, List.setIfInBounds_toArray, List.set_cons_zero, List.set_cons_succ]
                refine wpAnyH_take (i := 6) (v := ?_) rfl (by kernel_rfl) (by kernel_rfl) (by kernel_rfl) (fun _ _ _ h => h) (Or.inl ⟨by kernel_rfl, ?_⟩) (by assumption) ?_
                rotate_left
                · (intro w hSw; (try dsimp only at hSw); go_simp; try with_reducible rfl)
                simp only [Act.put, List.getElem_toArray, List.getElem_cons_succ, List.getElem_cons_zero, List.setIfInBounds_toArray, List.set_cons_zero, List.set_cons_succ]
                refine wpAnyH_take (i := 7) (v := ?_) rfl (by kernel_rfl) (by kernel_rfl) (by kernel_rfl) (fun _ _ _ h => h) (Or.inl ⟨by kernel_rfl, ?_⟩) (by assumption) ?_
                rotate_left
                · (intro w hSw; (try dsimp only at hSw); go_simp; try with_reducible rfl)
                simp only [Act.put, List.getElem_toArray, List.getElem_cons_succ, List.getElem_cons_zero, List.setIfInBounds_toArray, List.set_cons_zero, List.set_cons_succ]
                refine wpAnyH_take (i := 8) (v := ?_) rfl (by kernel_rfl) (by kernel_rfl) (by kernel_rfl) (fun _ _ _ h => h) (Or.inl ⟨by kernel_rfl, ?_⟩) (by assumption) ?_
                rotate_left
                · (intro w hSw; (try dsimp only at hSw); go_simp; try with_reducible rfl)
                simp only [Act.put, List.getElem_toArray, List.getElem_cons_succ, List.getElem_cons_zero, List.setIfInBounds_toArray, List.set_cons_zero, List.set_cons_succ]
                refine wpAnyH_take (i := 9) (v := ?_) rfl (by kernel_rfl) (by kernel_rfl) (by kernel_rfl) (fun _ _ _ h => h) (Or.inl ⟨by kernel_rfl, ?_⟩) (by assumption) ?_
                rotate_left
                · (intro w hSw; (try dsimp only at hSw); go_simp; try with_reducible rfl)
                simp only [Act.put, List.getElem_toArray, List.getElem_cons_succ, List.getElem_cons_zero, List.setIfInBounds_toArray, List.set_cons_zero, List.set_cons_succ]
                refine wpAnyH_ready (rs := [1, 10]) (by kernel_rfl) (by simp) ?_
                refine AllReadyH.cons rfl (fun KK hKK => ?_) (AllReadyH.cons rfl (fun KK hKK => ?_) AllReadyH.nil)
                · go_simp
                  refine hKK.out _ _ (by assumption) (fun hHeld => ?_)
                  clear hKK KK
                  refine wpAnyH_ready (rs := [10]) (by kernel_rfl) (by simp) ?_
                  refine AllReadyH.cons rfl (fun KK hKK => ?_) AllReadyH.nil
                  go_simp
                  refine hKK.out _ _ (kA) (fun hHeld => ?_)
                  clear hKK KK
                  refine wpAnyH_ready (rs := [11]) (by kernel_rfl) (by simp) ?_
                  refine AllReadyH.cons rfl (fun KK hKK => ?_) AllReadyH.nil
                  refine step_append_lies _ (by rfl) _ _ _ (by rfl) wc.heap.size 48 i0 _ 5 64 Tryd.underlying36 hi0 hz0 hz1 hz2 rfl (by omega) r k (nds l) (by rfl) ?_ ⟨W9.heap.size, 0, none⟩ 1 1 (nd5 ⟨q.nm, u⟩) (by rfl) rfl ?_ (nd5_one _) (by omega) ?_ ?_ ?_ (W9.heap.size + 1) ?_ ?_
                  · exact OR9.out
                  · exact CN9.out
                  · simp only [maxLen]; omega
                  · omega
                  · exact hz9
                  · simp
                  intro g7 cap7 w7 hown7 hgrow7 hat7 hlt7
                  have kS7 := KS7.out w7 hgrow7
                  obtain ⟨-, z1, -, z3⟩ := (C9A.out.bc.grown C9A.out.nr hgrow7).cells
                  refine hKK.out _ _ (kS7) (fun hHeld => ?_)
                  clear hKK KK
                  refine wpAnyH_take (i := 12) (v := ?_) rfl (by kernel_rfl) (by kernel_rfl) (by kernel_rfl) (fun _ _ _ h => h) (Or.inl ⟨by kernel_rfl, ?_⟩) (by assumption) ?_
                  rotate_left
                  · (intro w hSw; (try dsimp only at hSw); go_simp; try with_reducible rfl)
                  simp only [Act.put, List.getElem_toArray, List.getElem_cons_succ, List.getElem_cons_zero, List.setIfInBounds_toArray, List.set_cons_zero, List.set_cons_succ]
                  refine wpAnyH_ready (rs := [13]) (by kernel_rfl) (by simp) ?_
                  refine AllReadyH.cons rfl (fun KK hKK => ?_) AllReadyH.nil
                  go_simp
                  refine hKK.out _ _ (six_keep kS7 (Below.heap_setCell _ _ _ _ hXC) (Below.heap_setCell _ _ _ _ hbC) (Below.heap_setCell _ _ _ _ hYC)) (fun hHeld => ?_)
                  clear hKK KK
                  refine wpAnyH_done (by kernel_rfl) ?_ _
                  have c10 := C9A.out.grown (y := ⟨q.nm, u⟩) (r' := .slice (some ⟨g7, 0, none⟩) (k + 1) cap7) (by rw [hll]; exact hown7) hgrow7 O9.out HFU.out
                  have HC10 := mkHid c10
                  clear c10 z1 z3 kS7 hgrow7 hown7 hlt7 hat7 hHeld
                  generalize w7.setCell ⟨wc.heap.size, 1, none⟩ (.slice (some ⟨g7, 0, none⟩) (k + 1) cap7) = w8 at *
                  go_wp2
                  go_roundw
                  case rel => exact ⟨k + 1, _, rfl, by omega, by omega, _, _, HC10.out, by rw [HT.out]; exact turn.snoc HTN.out⟩
                  case measure => simp [intOf]; omega
                · go_simp
                  refine hKK.out _ _ (kA) (fun hHeld => ?_)
                  clear hKK KK
                  refine wpAnyH_ready (rs := [1]) (by kernel_rfl) (by simp) ?_
                  refine AllReadyH.cons rfl (fun KK hKK => ?_) AllReadyH.nil
                  go_simp
                  refine hKK.out _ _ (by assumption) (fun hHeld => ?_)
                  clear hKK KK
                  refine wpAnyH_ready (rs := [11]) (by kernel_rfl) (by simp) ?_
                  refine AllReadyH.cons rfl (fun KK hKK => ?_) AllReadyH.nil
                  refine step_append_lies _ (by rfl) _ _ _ (by rfl) wc.heap.size 48 i0 _ 5 64 Tryd.underlying36 hi0 hz0 hz1 hz2 rfl (by omega) r k (nds l) (by rfl) ?_ ⟨W9.heap.size, 0, none⟩ 1 1 (nd5 ⟨q.nm, u⟩) (by rfl) rfl ?_ (nd5_one _) (by omega) ?_ ?_ ?_ (W9.heap.size + 1) ?_ ?_
                  · exact OR9.out
                  · exact CN9.out
                  · simp only [maxLen]; omega
                  · omega
                  · exact hz9
                  · simp
                  intro g7 cap7 w7 hown7 hgrow7 hat7 hlt7
                  have kS7 := KS7.out w7 hgrow7
                  obtain ⟨-, z1, -, z3⟩ := (C9A.out.bc.grown C9A.out.nr hgrow7).cells
                  refine hKK.out _ _ (kS7) (fun hHeld => ?_)
                  clear hKK KK
                  refine wpAnyH_take (i := 12) (v := ?_) rfl (by kernel_rfl) (by kernel_rfl) (by kernel_rfl) (fun _ _ _ h => h) (Or.inl ⟨by kernel_rfl, ?_⟩) (by assumption) ?_
                  rotate_left
                  · (intro w hSw; (try dsimp only at hSw); go_simp; try with_reducible rfl)
                  simp only [Act.put, List.getElem_toArray, List.getElem_cons_succ, List.getElem_cons_zero, List.setIfInBounds_toArray, List.set_cons_zero, List.set_cons_succ]
                  refine wpAnyH_ready (rs := [13]) (by kernel_rfl) (by simp) ?_
                  refine AllReadyH.cons rfl (fun KK hKK => ?_) AllReadyH.nil
                  go_simp
                  refine hKK.out _ _ (six_keep kS7 (Below.heap_setCell _ _ _ _ hXC) (Below.heap_setCell _ _ _ _ hbC) (Below.heap_setCell _ _ _ _ hYC)) (fun hHeld => ?_)
                  clear hKK KK
                  refine wpAnyH_done (by kernel_rfl) ?_ _
                  have c10 := C9A.out.grown (y := ⟨q.nm, u⟩) (r' := .slice (some ⟨g7, 0, none⟩) (k + 1) cap7) (by rw [hll]; exact hown7) hgrow7 O9.out HFU.out
                  have HC10 := mkHid c10
                  clear c10 z1 z3 kS7 hgrow7 hown7 hlt7 hat7 hHeld
                  generalize w7.setCell ⟨wc.heap.size, 1, none⟩ (.slice (some ⟨g7, 0, none⟩) (k + 1) cap7) = w8 at *
                  go_wp2
                  go_roundw
                  case rel => exact ⟨k + 1, _, rfl, by omega, by omega, _, _, HC10.out, by rw [HT.out]; exact turn.snoc HTN.out⟩
                  case measure => simp [intOf]; omega
            · have hb1 : (q.v.n == (I : Int)) = false := by rw [beq_eq_false_iff_ne]; exact hnI
              by_cases hnK : q.v.n = (K : Int)
              · have hb2 : (q.v.n == (K : Int)) = true := by rw [hnK]; simp
                have hsw : (I : Int) = ((sw I K q.v.n.toNat : Nat) : Int) := by unfold sw; rw [if_neg (by omega), if_pos (by omega)]
                have turnN : TurnV I K q.v ⟨q.v.sort, (I : Int), q.v.b, some ⟨W7.heap.size, 0, none⟩, 0, []⟩ := ⟨rfl, rfl, by rw [if_pos hs3]; exact hsw, by rw [if_neg hs2]; exact HS0.out.symm⟩
                have HTN := mkHid (show TurnN I K q ⟨q.nm, ⟨q.v.sort, (I : Int), q.v.b, some ⟨W7.heap.size, 0, none⟩, 0, []⟩⟩ from ⟨rfl, turnN⟩)
                have B9 : But wr.heap.size W7 (((W7.setCell ⟨wr.heap.size, 3, none⟩ (.slice (some ⟨W7.heap.size, 0, none⟩) 0 0)).setCell ⟨wr.heap.size, 1, none⟩ (.int .i64 (I : Int))).alloc (.cells #[] 4)) := (((But.refl wr.heap.size W7).set (p := ⟨wr.heap.size, 3, none⟩) (.inl rfl) _).set (p := ⟨wr.heap.size, 1, none⟩) (.inl rfl) _).alloc _
                have YB9 : BoxY (((W7.setCell ⟨wr.heap.size, 3, none⟩ (.slice (some ⟨W7.heap.size, 0, none⟩) 0 0)).setCell ⟨wr.heap.size, 1, none⟩ (.int .i64 (I : Int))).alloc (.cells #[] 4)) wr.heap.size ⟨q.v.sort, (I : Int), q.v.b, some ⟨W7.heap.size, 0, none⟩, 0, []⟩ := ((HYK.out.set3 (some ⟨W7.heap.size, 0, none⟩) 0 []).set1 _).same (Below.heap_alloc _ _ _ (by simpa using hYl))
                have O9' : Own (((W7.setCell ⟨wr.heap.size, 3, none⟩ (.slice (some ⟨W7.heap.size, 0, none⟩) 0 0)).setCell ⟨wr.heap.size, 1, none⟩ (.int .i64 (I : Int))).alloc (.cells #[] 4)) wc.heap.size (some ⟨W7.heap.size, 0, none⟩) 0 [] := by
                  have := World.ownsRow_lit (base := wc.heap.size) (e := 4) (size := 1) ((W7.setCell ⟨wr.heap.size, 3, none⟩ (.slice (some ⟨W7.heap.size, 0, none⟩) 0 0)).setCell ⟨wr.heap.size, 1, none⟩ (.int .i64 (I : Int))) #[] 0 (by simp; omega) (by decide) rfl
                  simpa [Own, bls] using this
                have HFU := mkHid (show q.nm.size ≤ maxLen ∧ fitB q.v.sort = true ∧ fitB (I : Int) = true from ⟨hnq, VI5.s, by rw [fitB_iff]; omega⟩)
                clear hs3 hsw hn0 hnI hnK turnN hqv
                cases qa
                all_goals
                  go_wp2_with fail
                  generalize hu : (⟨q.v.sort, (I : Int), q.v.b, some ⟨W7.heap.size, 0, none⟩, 0, []⟩ : Vl) = u at *
                  generalize (((W7.setCell ⟨wr.heap.size, 3, none⟩ (.slice (some ⟨W7.heap.size, 0, none⟩) 0 0)).setCell ⟨wr.heap.size, 1, none⟩ (.int .i64 (I : Int))).alloc (.cells #[] 4)) = W9 at *
                  have HFU : Hid ((⟨q.nm, u⟩ : Nd).nm.size ≤ maxLen ∧ fitB u.sort = true ∧ fitB u.n = true) := by rw [← hu]; exact HFU
                  have O9' : Own W9 wc.heap.size u.a u.c u.s := by rw [← hu]; exact O9'
                  clear hu y0 y1 y2 y3 y4 y5 y6 y7 g0 g1 g2 g3 g4 p0 p1 hW7
                  have c9 := HC5.out.but B9 hYge HYK.out
                  have C9A := mkHid (c9.later (bon (bdrew (Below.refl W9.heap.size W9)) (bel_alloc W9.drew (.cells #[.string q.nm, .int .i64 u.sort, .int .i64 u.n, .bool u.b, .slice u.a u.s.length u.c] 48))))
                  have OR9 : Hid ((W9.drew.alloc (.cells #[.string q.nm, .int .i64 u.sort, .int .i64 u.n, .bool u.b, .slice u.a u.s.length u.c] 48)).ownsRow wc.heap.size 48 5 r k (nds l)) := by have := C9A.out.nr.row; rw [hll] at this; exact this
                  have CN9 := mkHid (cells_nd W9.drew ⟨q.nm, u⟩)
                  have O9 : Hid (Own (W9.drew.alloc (.cells #[.string q.nm, .int .i64 u.sort, .int .i64 u.n, .bool u.b, .slice u.a u.s.length u.c] 48)) wc.heap.size u.a u.c u.s) := (World.ownsRow.drew O9').alloc _
                  have hz9 : wc.heap.size ≤ (W9.drew.alloc (.cells #[.string q.nm, .int .i64 u.sort, .int .i64 u.n, .bool u.b, .slice u.a u.s.length u.c] 48)).heap.size := C9A.out.bel.size
                  have cp1 : W9.cell? ⟨w.heap.size + 1, 1, none⟩ = some (.slice (some ⟨b, o, none⟩) n W.c) := B9.cell hp1 hXY
                  have cg0 : W9.cell? ⟨b, o + k * 5, none⟩ = some (.string q.nm) := B9.cell hg0 hbY
                  obtain ⟨e0, e1, e2, e3, -⟩ := YB9.cells
                  have x1 := c9.bc.cells.2.1
                  have x1d : W9.drew.cell? ⟨wc.heap.size, 1, none⟩ = some r := x1
                  have hC9 : wc.heap.size < W9.heap.size := c9.bc.lt
                  have hX9 : w.heap.size + 1 < W9.heap.size := World.block_lt_of_cell? _ _ cp1
                  have hb9 : b < W9.heap.size := World.block_lt_of_cell? _ _ cg0
                  have hY9 : wr.heap.size < W9.heap.size := YB9.lt
                  have kA : (W9.drew.alloc (.cells #[.string q.nm, .int .i64 u.sort, .int .i64 u.n, .bool u.b, .slice u.a u.s.length u.c] 48)).cell? ⟨w.heap.size + 1, 1, none⟩ = some (.slice (some ⟨b, o, none⟩) n W.c) ∧ (W9.drew.alloc (.cells #[.string q.nm, .int .i64 u.sort, .int .i64 u.n, .bool u.b, .slice u.a u.s.length u.c] 48)).cell? ⟨b, o + k * 5, none⟩ = some (.string q.nm) ∧ (W9.drew.alloc (.cells #[.string q.nm, .int .i64 u.sort, .int .i64 u.n, .bool u.b, .slice u.a u.s.length u.c] 48)).cell? ⟨wr.heap.size, 0, none⟩ = some (.int .i64 u.sort) ∧ (W9.drew.alloc (.cells #[.string q.nm, .int .i64 u.sort, .int .i64 u.n, .bool u.b, .slice u.a u.s.length u.c] 48)).cell? ⟨wr.heap.size, 1, none⟩ = some (.int .i64 u.n) ∧ (W9.drew.alloc (.cells #[.string q.nm, .int .i64 u.sort, .int .i64 u.n, .bool u.b, .slice u.a u.s.length u.c] 48)).cell? ⟨wr.heap.size, 2, none⟩ = some (.bool u.b) ∧ (W9.drew.alloc (.cells #[.string q.nm, .int .i64 u.sort, .int .i64 u.n, .bool u.b, .slice u.a u.s.length u.c] 48)).cell? ⟨wr.heap.size, 3, none⟩ = some (.slice u.a u.s.length u.c) := six_keep (w := W9) ⟨cp1, cg0, e0, e1, e2, e3⟩ (Below.heap_alloc W9.drew (.cells #[.string q.nm, .int .i64 u.sort, .int .i64 u.n, .bool u.b, .slice u.a u.s.length u.c] 48) _ hX9) (Below.heap_alloc W9.drew (.cells #[.string q.nm, .int .i64 u.sort, .int .i64 u.n, .bool u.b, .slice u.a u.s.length u.c] 48) _ hb9) (Below.heap_alloc W9.drew (.cells #[.string q.nm, .int .i64 u.sort, .int .i64 u.n, .bool u.b, .slice u.a u.s.length u.c] 48) _ hY9)
                  have KS7 := mkHid (fun w7 (hg : (W9.drew.alloc (.cells #[.string q.nm, .int .i64 u.sort, .int .i64 u.n, .bool u.b, .slice u.a u.s.length u.c] 48)).grownBy w7 r.ownBlock) => six_keep (w' := w7) kA (hg.block _ (World.block_lt_of_cell? _ _ kA.1) (fun e => by have := (C9A.out.nr.row.lt _ e.symm).1; omega)) (hg.block _ (World.block_lt_of_cell? _ _ kA.2.1) (fun e => by have := (C9A.out.nr.row.lt _ e.symm).1; omega)) (hg.block _ (World.block_lt_of_cell? _ _ kA.2.2.1) (fun e => by
                    obtain ⟨cc, hcc⟩ := own_kind C9A.out.nr.row e.symm
                    have hy9 : (W9.drew.alloc (.cells #[.string q.nm, .int .i64 u.sort, .int .i64 u.n, .bool u.b, .slice u.a u.s.length u.c] 48)).heap[wr.heap.size]? = some (.cells #[.int .i64 u.sort, .int .i64 u.n, .bool u.b, .slice u.a u.s.length u.c] 41 (0, 0)) := (Below.heap_alloc W9.drew (.cells #[.string q.nm, .int .i64 u.sort, .int .i64 u.n, .bool u.b, .slice u.a u.s.length u.c] 48) _ hY9).trans YB9
                    rw [hy9] at hcc
                    simp at hcc)))
                  clear c9 O9' B9 YB9 HC5 HYK FY
                  go_wp2_with fail
                  refine wp_region_held_drew (S := fun w' => w'.cell? ⟨w.heap.size + 1, 1, none⟩ = some (.slice (some ⟨b, o, none⟩) n W.c) ∧ w'.cell? ⟨b, o + k * 5, none⟩ = some (.string q.nm) ∧ w'.cell? ⟨wr.heap.size, 0, none⟩ = some (.int .i64 u.sort) ∧ w'.cell? ⟨wr.heap.size, 1, none⟩ = some (.int .i64 u.n) ∧ w'.cell? ⟨wr.heap.size, 2, none⟩ = some (.bool u.b) ∧ w'.cell? ⟨wr.heap.size, 3, none⟩ = some (.slice u.a u.s.length u.c)) (by kernel_rfl) ⟨cp1, cg0, e0, e1, e2, e3⟩ (fun hHeld => ?_)
                  refine wpAnyH_take (i := 0) (v := ?_) rfl (by kernel_rfl) (by kernel_rfl) (by kernel_rfl) (fun _ _ _ h => h) (Or.inl ⟨by kernel_rfl, ?_⟩) (by assumption) ?_
                  rotate_left
                  · (intro w hSw; (try dsimp only at hSw); go_simp; try with_reducible rfl)
                  simp only [Act.put, List.getElem_toArray, List.getElem_cons_zero, List.setIfInBounds_toArray, List.set_cons_zero, List.set_cons_succ]
                  refine wpAnyH_take (i := 2) (v := ?_) rfl (by kernel_rfl) (by kernel_rfl) (by kernel_rfl) (fun _ _ _ h => h) (Or.inl ⟨by kernel_rfl, ?_⟩) (by assumption) ?_
                  rotate_left
                  · (intro w hSw; (try dsimp only at hSw); go_simp; try with_reducible rfl)
                  simp only [Act.put, List.getElem_toArray, List.getElem_cons_succ, List.getElem_cons_zero, List.setIfInBounds_toArray, List.set_cons_zero, List.set_cons_succ]
                  refine wpAnyH_take (i := 3) (v := ?_) rfl (by kernel_rfl) (by kernel_rfl) (by kernel_rfl) (fun _ _ _ h => h) (Or.inl ⟨by kernel_rfl, ?_⟩) (by assumption) ?_
                  rotate_left
                  · (intro w hSw; (try dsimp only at hSw); go_simp; try with_reducible rfl)
                  simp only [Act.put, List.getElem_toArray, List.getElem_cons_succ, List.getElem_cons_zero, List.setIfInBounds_toArray, List.set_cons_zero, List.set_cons_succ]
                  refine wpAnyH_take (i := 4) (v := ?_) rfl (by kernel_rfl) (by kernel_rfl) (by kernel_rfl) (fun _ _ _ h => h) (Or.inl ⟨by kernel_rfl, ?_⟩) (by assumption) ?_
                  rotate_left
                  · (intro w hSw; (try dsimp only at hSw); go_simp; try with_reducible rfl)
                  simp only [Act.put, List.getElem_toArray, List.getElem_cons_succ, List.getElem_cons_zero, List.setIfInBounds_toArray, List.set_cons_zero, List.set_cons_succ]
                  refine wpAnyH_take (i := 5) (v := ?_) rfl (by kernel_rfl) (by kernel_rfl) (by kernel_rfl) (fun _ _ _ h => h) (Or.inl ⟨by kernel_rfl, ?_⟩) (by assumption) ?_
                  rotate_left
                  · (intro w hSw; (try dsimp only at hSw); go_simp; try with_reducible rfl)
                  simp only [Act.put, List.getElem_toArray, List.getElem_cons_succ, List.getElem_cons_zero, List.setIfInBounds_toArray, List.set_cons_zero, List.set_cons_succ]
                  refine wpAnyH_take (i := 6) (v := ?_) rfl (by kernel_rfl) (by kernel_rfl) (by kernel_rfl) (fun _ _ _ h => h) (Or.inl ⟨by kernel_rfl, ?_⟩) (by assumption) ?_
                  rotate_left
                  · (intro w hSw; (try dsimp only at hSw); go_simp; try with_reducible rfl)
                  simp only [Act.put, List.getElem_toArray, List.getElem_cons_succ, List.getElem_cons_zero, List.setIfInBounds_toArray, List.set_cons_zero, List.set_cons_succ]
                  refine wpAnyH_take (i := 7) (v := ?_) rfl (by kernel_rfl) (by kernel_rfl) (by kernel_rfl) (fun _ _ _ h => h) (Or.inl ⟨by kernel_rfl, ?_⟩) (by assumption) ?_
                  rotate_left
                  · (intro w hSw; (try dsimp only at hSw); go_simp; try with_reducible rfl)
                  simp only [Act.put, List.getElem_toArray, List.getElem_cons_succ, List.getElem_cons_zero, List.setIfInBounds_toArray, List.set_cons_zero, List.set_cons_succ]
                  refine wpAnyH_take (i := 8) (v := ?_) rfl (by kernel_rfl) (by kernel_rfl) (by kernel_rfl) (fun _ _ _ h => h) (Or.inl ⟨by kernel_rfl, ?_⟩) (by assumption) ?_
                  rotate_left
                  · (intro w hSw; (try dsimp only at hSw); go_simp; try with_reducible rfl)
                  simp only [Act.put, List.getElem_toArray, List.getElem_cons_succ, List.getElem_cons_zero, List.setIfInBounds_toArray, List.set_cons_zero, List.set_cons_succ]
                  refine wpAnyH_take (i := 9) (v := ?_) rfl (by kernel_rfl) (by kernel_rfl) (by kernel_rfl) (fun _ _ _ h => h) (Or.inl ⟨by kernel_rfl, ?_⟩) (by assumption) ?_
                  rotate_left
                  · (intro w hSw; (try dsimp only at hSw); go_simp; try with_reducible rfl)
                  simp only [Act.put, List.getElem_toArray, List.getElem_cons_succ, List.getElem_cons_zero, List.setIfInBounds_toArray, List.set_cons_zero, List.set_cons_succ]
                  refine wpAnyH_ready (rs := [1, 10]) (by kernel_rfl) (by simp) ?_
                  refine AllReadyH.cons rfl (fun KK hKK => ?_) (AllReadyH.cons rfl (fun KK hKK => ?_) AllReadyH.nil)
                  · go_simp
                    refine hKK.out _ _ (by assumption) (fun hHeld => ?_)
                    clear hKK KK
                    refine wpAnyH_ready (rs := [10]) (by kernel_rfl) (by simp) ?_
                    refine AllReadyH.cons rfl (fun KK hKK => ?_) AllReadyH.nil
                    go_simp
                    refine hKK.out _ _ (kA) (fun hHeld => ?_)
                    clear hKK KK
                    refine wpAnyH_ready (rs := [11]) (by kernel_rfl) (by simp) ?_
                    refine AllReadyH.cons rfl (fun KK hKK => ?_) AllReadyH.nil
                    refine step_append_lies _ (by rfl) _ _ _ (by rfl) wc.heap.size 48 i0 _ 5 64 Tryd.underlying36 hi0 hz0 hz1 hz2 rfl (by omega) r k (nds l) (by rfl) ?_ ⟨W9.heap.size, 0, none⟩ 1 1 (nd5 ⟨q.nm, u⟩) (by rfl) rfl ?_ (nd5_one _) (by omega) ?_ ?_ ?_ (W9.heap.size + 1) ?_ ?_
                    · exact OR9.out
                    · exact CN9.out
                    · simp only [maxLen]; omega
                    · omega
                    · exact hz9
                    · simp
                    intro g7 cap7 w7 hown7 hgrow7 hat7 hlt7
                    have kS7 := KS7.out w7 hgrow7
                    obtain ⟨-, z1, -, z3⟩ := (C9A.out.bc.grown C9A.out.nr hgrow7).cells
                    refine hKK.out _ _ (kS7) (fun hHeld => ?_)
                    clear hKK KK
                    refine wpAnyH_take (i := 12) (v := ?_) rfl (by kernel_rfl) (by kernel_rfl) (by kernel_rfl) (fun _ _ _ h => h) (Or.inl ⟨by kernel_rfl, ?_⟩) (by assumption) ?_
                    rotate_left
                    · (intro w hSw; (try dsimp only at hSw); go_simp; try with_reducible rfl)
                    simp only [Act.put, List.getElem_toArray, List.getElem_cons_succ, List.getElem_cons_zero, List.setIfInBounds_toArray, List.set_cons_zero, List.set_cons_succ]
                    refine wpAnyH_ready (rs := [13]) (by kernel_rfl) (by simp) ?_
                    refine AllReadyH.cons rfl (fun KK hKK => ?_) AllReadyH.nil
                    go_simp
                    refine hKK.out _ _ (six_keep kS7 (Below.heap_setCell _ _ _ _ hXC) (Below.heap_setCell _ _ _ _ hbC) (Below.heap_setCell _ _ _ _ hYC)) (fun hHeld => ?_)
                    clear hKK KK
                    refine wpAnyH_done (by kernel_rfl) ?_ _
                    have c10 := C9A.out.grown (y := ⟨q.nm, u⟩) (r' := .slice (some ⟨g7, 0, none⟩) (k + 1) cap7) (by rw [hll]; exact hown7) hgrow7 O9.out HFU.out
                    have HC10 := mkHid c10
                    clear c10 z1 z3 kS7 hgrow7 hown7 hlt7 hat7 hHeld
                    generalize w7.setCell ⟨wc.heap.size, 1, none⟩ (.slice (some ⟨g7, 0, none⟩) (k + 1) cap7) = w8 at *
                    go_wp2
                    go_roundw
                    case rel => exact ⟨k + 1, _, rfl, by omega, by omega, _, _, HC10.out, by rw [HT.out]; exact turn.snoc HTN.out⟩
                    case measure => simp [intOf]; omega
                  · go_simp
                    refine hKK.out _ _ (kA) (fun hHeld => ?_)
                    clear hKK KK
                    refine wpAnyH_ready (rs := [1]) (by kernel_rfl) (by simp) ?_
                    refine AllReadyH.cons rfl (fun KK hKK => ?_) AllReadyH.nil
                    go_simp
                    refine hKK.out _ _ (by assumption) (fun hHeld => ?_)
                    clear hKK KK
                    refine wpAnyH_ready (rs := [11]) (by kernel_rfl) (by simp) ?_
                    refine AllReadyH.cons rfl (fun KK hKK => ?_) AllReadyH.nil
                    refine step_append_lies _ (by rfl) _ _ _ (by rfl) wc.heap.size 48 i0 _ 5 64 Tryd.underlying36 hi0 hz0 hz1 hz2 rfl (by omega) r k (nds l) (by rfl) ?_ ⟨W9.heap.size, 0, none⟩ 1 1 (nd5 ⟨q.nm, u⟩) (by rfl) rfl ?_ (nd5_one _) (by omega) ?_ ?_ ?_ (W9.heap.size + 1) ?_ ?_
                    · exact OR9.out
                    · exact CN9.out
                    · simp only [maxLen]; omega
                    · omega
                    · exact hz9
                    · simp
                    intro g7 cap7 w7 hown7 hgrow7 hat7 hlt7
                    have kS7 := KS7.out w7 hgrow7
                    obtain ⟨-, z1, -, z3⟩ := (C9A.out.bc.grown C9A.out.nr hgrow7).cells
                    refine hKK.out _ _ (kS7) (fun hHeld => ?_)
                    clear hKK KK
                    refine wpAnyH_take (i := 12) (v := ?_) rfl (by kernel_rfl) (by kernel_rfl) (by kernel_rfl) (fun _ _ _ h => h) (Or.inl ⟨by kernel_rfl, ?_⟩) (by assumption) ?_
                    rotate_left
                    · (intro w hSw; (try dsimp only at hSw); go_simp; try with_reducible rfl)
                    simp only [Act.put, List.getElem_toArray, List.getElem_cons_succ, List.getElem_cons_zero, List.setIfInBounds_toArray, List.set_cons_zero, List.set_cons_succ]
                    refine wpAnyH_ready (rs := [13]) (by kernel_rfl) (by simp) ?_
                    refine AllReadyH.cons rfl (fun KK hKK => ?_) AllReadyH.nil
                    go_simp
                    refine hKK.out _ _ (six_keep kS7 (Below.heap_setCell _ _ _ _ hXC) (Below.heap_setCell _ _ _ _ hbC) (Below.heap_setCell _ _ _ _ hYC)) (fun hHeld => ?_)
                    clear hKK KK
                    refine wpAnyH_done (by kernel_rfl) ?_ _
                    have c10 := C9A.out.grown (y := ⟨q.nm, u⟩) (r' := .slice (some ⟨g7, 0, none⟩) (k + 1) cap7) (by rw [hll]; exact hown7) hgrow7 O9.out HFU.out
                    have HC10 := mkHid c10
                    clear c10 z1 z3 kS7 hgrow7 hown7 hlt7 hat7 hHeld
                    generalize w7.setCell ⟨wc.heap.size, 1, none⟩ (.slice (some ⟨g7, 0, none⟩) (k + 1) cap7) = w8 at *
                    go_wp2
                    go_roundw
                    case rel => exact ⟨k + 1, _, rfl, by omega, by omega, _, _, HC10.out, by rw [HT.out]; exact turn.snoc HTN.out⟩
                    case measure => simp [intOf]; omega
              · have hb2 : (q.v.n == (K : Int)) = false := by rw [beq_eq_false_iff_ne]; exact hnK
                have hsw : q.v.n = ((sw I K q.v.n.toNat : Nat) : Int) := by unfold sw; rw [if_neg (by omega), if_neg (by omega)]; omega
                have turnN : TurnV I K q.v ⟨q.v.sort, q.v.n, q.v.b, some ⟨W7.heap.size, 0, none⟩, 0, []⟩ := ⟨rfl, rfl, by rw [if_pos hs3]; exact hsw, by rw [if_neg hs2]; exact HS0.out.symm⟩
                have HTN := mkHid (show TurnN I K q ⟨q.nm, ⟨q.v.sort, q.v.n, q.v.b, some ⟨W7.heap.size, 0, none⟩, 0, []⟩⟩ from ⟨rfl, turnN⟩)
                have B9 : But wr.heap.size W7 ((W7.setCell ⟨wr.heap.size, 3, none⟩ (.slice (some ⟨W7.heap.size, 0, none⟩) 0 0)).alloc (.cells #[] 4)) := ((But.refl wr.heap.size W7).set (p := ⟨wr.heap.size, 3, none⟩) (.inl rfl) _).alloc _
                have YB9 : BoxY ((W7.setCell ⟨wr.heap.size, 3, none⟩ (.slice (some ⟨W7.heap.size, 0, none⟩) 0 0)).alloc (.cells #[] 4)) wr.heap.size ⟨q.v.sort, q.v.n, q.v.b, some ⟨W7.heap.size, 0, none⟩, 0, []⟩ := (HYK.out.set3 (some ⟨W7.heap.size, 0, none⟩) 0 []).same (Below.heap_alloc _ _ _ (by simpa using hYl))
                have O9' : Own ((W7.setCell ⟨wr.heap.size, 3, none⟩ (.slice (some ⟨W7.heap.size, 0, none⟩) 0 0)).alloc (.cells #[] 4)) wc.heap.size (some ⟨W7.heap.size, 0, none⟩) 0 [] := by
                  have := World.ownsRow_lit (base := wc.heap.size) (e := 4) (size := 1) (W7.setCell ⟨wr.heap.size, 3, none⟩ (.slice (some ⟨W7.heap.size, 0, none⟩) 0 0)) #[] 0 (by simp; omega) (by decide) rfl
                  simpa [Own, bls] using this
                have HFU := mkHid (show q.nm.size ≤ maxLen ∧ fitB q.v.sort = true ∧ fitB q.v.n = true from ⟨hnq, VI5.s, VI5.n⟩)
                clear hs3 hsw hn0 hnI hnK turnN hqv
                cases qa
                all_goals
                  go_wp2_with fail
                  generalize hu : (⟨q.v.sort, q.v.n, q.v.b, some ⟨W7.heap.size, 0, none⟩, 0, []⟩ : Vl) = u at *
                  generalize ((W7.setCell ⟨wr.heap.size, 3, none⟩ (.slice (some ⟨W7.heap.size, 0, none⟩) 0 0)).alloc (.cells #[] 4)) = W9 at *
                  have HFU : Hid ((⟨q.nm, u⟩ : Nd).nm.size ≤ maxLen ∧ fitB u.sort = true ∧ fitB u.n = true) := by rw [← hu]; exact HFU
                  have O9' : Own W9 wc.heap.size u.a u.c u.s := by rw [← hu]; exact O9'
                  clear hu y0 y1 y2 y3 y4 y5 y6 y7 g0 g1 g2 g3 g4 p0 p1 hW7
                  have c9 := HC5.out.but B9 hYge HYK.out
                  have C9A := mkHid (c9.later (bon (bdrew (Below.refl W9.heap.size W9)) (bel_alloc W9.drew (.cells #[.string q.nm, .int .i64 u.sort, .int .i64 u.n, .bool u.b, .slice u.a u.s.length u.c] 48))))
                  have OR9 : Hid ((W9.drew.alloc (.cells #[.string q.nm, .int .i64 u.sort, .int .i64 u.n, .bool u.b, .slice u.a u.s.length u.c] 48)).ownsRow wc.heap.size 48 5 r k (nds l)) := by have := C9A.out.nr.row; rw [hll] at this; exact this
                  have CN9 := mkHid (cells_nd W9.drew ⟨q.nm, u⟩)
                  have O9 : Hid (Own (W9.drew.alloc (.cells #[.string q.nm, .int .i64 u.sort, .int .i64 u.n, .bool u.b, .slice u.a u.s.length u.c] 48)) wc.heap.size u.a u.c u.s) := (World.ownsRow.drew O9').alloc _
                  have hz9 : wc.heap.size ≤ (W9.drew.alloc (.cells #[.string q.nm, .int .i64 u.sort, .int .i64 u.n, .bool u.b, .slice u.a u.s.length u.c] 48)).heap.size := C9A.out.bel.size
                  have cp1 : W9.cell? ⟨w.heap.size + 1, 1, none⟩ = some (.slice (some ⟨b, o, none⟩) n W.c) := B9.cell hp1 hXY
                  have cg0 : W9.cell? ⟨b, o + k * 5, none⟩ = some (.string q.nm) := B9.cell hg0 hbY
                  obtain ⟨e0, e1, e2, e3, -⟩ := YB9.cells
                  have x1 := c9.bc.cells.2.1
                  have x1d : W9.drew.cell? ⟨wc.heap.size, 1, none⟩ = some r := x1
                  have hC9 : wc.heap.size < W9.heap.size := c9.bc.lt
                  have hX9 : w.heap.size + 1 < W9.heap.size := World.block_lt_of_cell? _ _ cp1
                  have hb9 : b < W9.heap.size := World.block_lt_of_cell? _ _ cg0
                  have hY9 : wr.heap.size < W9.heap.size := YB9.lt
                  have kA : (W9.drew.alloc (.cells #[.string q.nm, .int .i64 u.sort, .int .i64 u.n, .bool u.b, .slice u.a u.s.length u.c] 48)).cell? ⟨w.heap.size + 1, 1, none⟩ = some (.slice (some ⟨b, o, none⟩) n W.c) ∧ (W9.drew.alloc (.cells #[.string q.nm, .int .i64 u.sort, .int .i64 u.n, .bool u.b, .slice u.a u.s.length u.c] 48)).cell? ⟨b, o + k * 5, none⟩ = some (.string q.nm) ∧ (W9.drew.alloc (.cells #[.string q.nm, .int .i64 u.sort, .int .i64 u.n, .bool u.b, .slice u.a u.s.length u.c] 48)).cell? ⟨wr.heap.size, 0, none⟩ = some (.int .i64 u.sort) ∧ (W9.drew.alloc (.cells #[.string q.nm, .int .i64 u.sort, .int .i64 u.n, .bool u.b, .slice u.a u.s.length u.c] 48)).cell? ⟨wr.heap.size, 1, none⟩ = some (.int .i64 u.n) ∧ (W9.drew.alloc (.cells #[.string q.nm, .int .i64 u.sort, .int .i64 u.n, .bool u.b, .slice u.a u.s.length u.c] 48)).cell? ⟨wr.heap.size, 2, none⟩ = some (.bool u.b) ∧ (W9.drew.alloc (.cells #[.string q.nm, .int .i64 u.sort, .int .i64 u.n, .bool u.b, .slice u.a u.s.length u.c] 48)).cell? ⟨wr.heap.size, 3, none⟩ = some (.slice u.a u.s.length u.c) := six_keep (w := W9) ⟨cp1, cg0, e0, e1, e2, e3⟩ (Below.heap_alloc W9.drew (.cells #[.string q.nm, .int .i64 u.sort, .int .i64 u.n, .bool u.b, .slice u.a u.s.length u.c] 48) _ hX9) (Below.heap_alloc W9.drew (.cells #[.string q.nm, .int .i64 u.sort, .int .i64 u.n, .bool u.b, .slice u.a u.s.length u.c] 48) _ hb9) (Below.heap_alloc W9.drew (.cells #[.string q.nm, .int .i64 u.sort, .int .i64 u.n, .bool u.b, .slice u.a u.s.length u.c] 48) _ hY9)
                  have KS7 := mkHid (fun w7 (hg : (W9.drew.alloc (.cells #[.string q.nm, .int .i64 u.sort, .int .i64 u.n, .bool u.b, .slice u.a u.s.length u.c] 48)).grownBy w7 r.ownBlock) => six_keep (w' := w7) kA (hg.block _ (World.block_lt_of_cell? _ _ kA.1) (fun e => by have := (C9A.out.nr.row.lt _ e.symm).1; omega)) (hg.block _ (World.block_lt_of_cell? _ _ kA.2.1) (fun e => by have := (C9A.out.nr.row.lt _ e.symm).1; omega)) (hg.block _ (World.block_lt_of_cell? _ _ kA.2.2.1) (fun e => by
                    obtain ⟨cc, hcc⟩ := own_kind C9A.out.nr.row e.symm
                    have hy9 : (W9.drew.alloc (.cells #[.string q.nm, .int .i64 u.sort, .int .i64 u.n, .bool u.b, .slice u.a u.s.length u.c] 48)).heap[wr.heap.size]? = some (.cells #[.int .i64 u.sort, .int .i64 u.n, .bool u.b, .slice u.a u.s.length u.c] 41 (0, 0)) := (Below.heap_alloc W9.drew (.cells #[.string q.nm, .int .i64 u.sort, .int .i64 u.n, .bool u.b, .slice u.a u.s.length u.c] 48) _ hY9).trans YB9
                    rw [hy9] at hcc
                    simp at hcc)))
                  clear c9 O9' B9 YB9 HC5 HYK FY
                  go_wp2_with fail
                  refine wp_region_held_drew (S := fun w' => w'.cell? ⟨w.heap.size + 1, 1, none⟩ = some (.slice (some ⟨b, o, none⟩) n W.c) ∧ w'.cell? ⟨b, o + k * 5, none⟩ = some (.string q.nm) ∧ w'.cell? ⟨wr.heap.size, 0, none⟩ = some (.int .i64 u.sort) ∧ w'.cell? ⟨wr.heap.size, 1, none⟩ = some (.int .i64 u.n) ∧ w'.cell? ⟨wr.heap.size, 2, none⟩ = some (.bool u.b) ∧ w'.cell? ⟨wr.heap.size, 3, none⟩ = some (.slice u.a u.s.length u.c)) (by kernel_rfl) ⟨cp1, cg0, e0, e1, e2, e3⟩ (fun hHeld => ?_)
                  refine wpAnyH_take (i := 0) (v := ?_) rfl (by kernel_rfl) (by kernel_rfl) (by kernel_rfl) (fun _ _ _ h => h) (Or.inl ⟨by kernel_rfl, ?_⟩) (by assumption) ?_
                  rotate_left
                  · (intro w hSw; (try dsimp only at hSw); go_simp; try with_reducible rfl)
                  simp only [Act.put, List.getElem_toArray, List.getElem_cons_zero, List.setIfInBounds_toArray, List.set_cons_zero, List.set_cons_succ]
                  refine wpAnyH_take (i := 2) (v := ?_) rfl (by kernel_rfl) (by kernel_rfl) (by kernel_rfl) (fun _ _ _ h => h) (Or.inl ⟨by kernel_rfl, ?_⟩) (by assumption) ?_
                  rotate_left
                  · (intro w hSw; (try dsimp only at hSw); go_simp; try with_reducible rfl)
                  simp only [Act.put, List.getElem_toArray, List.getElem_cons_succ, List.getElem_cons_zero, List.setIfInBounds_toArray, List.set_cons_zero, List.set_cons_succ]
                  refine wpAnyH_take (i := 3) (v := ?_) rfl (by kernel_rfl) (by kernel_rfl) (by kernel_rfl) (fun _ _ _ h => h) (Or.inl ⟨by kernel_rfl, ?_⟩) (by assumption) ?_
                  rotate_left
                  · (intro w hSw; (try dsimp only at hSw); go_simp; try with_reducible rfl)
                  simp only [Act.put, List.getElem_toArray, List.getElem_cons_succ, List.getElem_cons_zero, List.setIfInBounds_toArray, List.set_cons_zero, List.set_cons_succ]
                  refine wpAnyH_take (i := 4) (v := ?_) rfl (by kernel_rfl) (by kernel_rfl) (by kernel_rfl) (fun _ _ _ h => h) (Or.inl ⟨by kernel_rfl, ?_⟩) (by assumption) ?_
                  rotate_left
                  · (intro w hSw; (try dsimp only at hSw); go_simp; try with_reducible rfl)
                  simp only [Act.put, List.getElem_toArray, List.getElem_cons_succ, List.getElem_cons_zero, List.setIfInBounds_toArray, List.set_cons_zero, List.set_cons_succ]
                  refine wpAnyH_take (i := 5) (v := ?_) rfl (by kernel_rfl) (by kernel_rfl) (by kernel_rfl) (fun _ _ _ h => h) (Or.inl ⟨by kernel_rfl, ?_⟩) (by assumption) ?_
                  rotate_left
                  · (intro w hSw; (try dsimp only at hSw); go_simp; try with_reducible rfl)
                  simp only [Act.put, List.getElem_toArray, List.getElem_cons_succ, List.getElem_cons_zero, List.setIfInBounds_toArray, List.set_cons_zero, List.set_cons_succ]
                  refine wpAnyH_take (i := 6) (v := ?_) rfl (by kernel_rfl) (by kernel_rfl) (by kernel_rfl) (fun _ _ _ h => h) (Or.inl ⟨by kernel_rfl, ?_⟩) (by assumption) ?_
                  rotate_left
                  · (intro w hSw; (try dsimp only at hSw); go_simp; try with_reducible rfl)
                  simp only [Act.put, List.getElem_toArray, List.getElem_cons_succ, List.getElem_cons_zero, List.setIfInBounds_toArray, List.set_cons_zero, List.set_cons_succ]
                  refine wpAnyH_take (i := 7) (v := ?_) rfl (by kernel_rfl) (by kernel_rfl) (by kernel_rfl) (fun _ _ _ h => h) (Or.inl ⟨by kernel_rfl, ?_⟩) (by assumption) ?_
                  rotate_left
                  · (intro w hSw; (try dsimp only at hSw); go_simp; try with_reducible rfl)
                  simp only [Act.put, List.getElem_toArray, List.getElem_cons_succ, List.getElem_cons_zero, List.setIfInBounds_toArray, List.set_cons_zero, List.set_cons_succ]
                  refine wpAnyH_take (i := 8) (v := ?_) rfl (by kernel_rfl) (by kernel_rfl) (by kernel_rfl) (fun _ _ _ h => h) (Or.inl ⟨by kernel_rfl, ?_⟩) (by assumption) ?_
                  rotate_left
                  · (intro w hSw; (try dsimp only at hSw); go_simp; try with_reducible rfl)
                  simp only [Act.put, List.getElem_toArray, List.getElem_cons_succ, List.getElem_cons_zero, List.setIfInBounds_toArray, List.set_cons_zero, List.set_cons_succ]
                  refine wpAnyH_take (i := 9) (v := ?_) rfl (by kernel_rfl) (by kernel_rfl) (by kernel_rfl) (fun _ _ _ h => h) (Or.inl ⟨by kernel_rfl, ?_⟩) (by assumption) ?_
                  rotate_left
                  · (intro w hSw; (try dsimp only at hSw); go_simp; try with_reducible rfl)
                  simp only [Act.put, List.getElem_toArray, List.getElem_cons_succ, List.getElem_cons_zero, List.setIfInBounds_toArray, List.set_cons_zero, List.set_cons_succ]
                  refine wpAnyH_ready (rs := [1, 10]) (by kernel_rfl) (by simp) ?_
                  refine AllReadyH.cons rfl (fun KK hKK => ?_) (AllReadyH.cons rfl (fun KK hKK => ?_) AllReadyH.nil)
                  · go_simp
                    refine hKK.out _ _ (by assumption) (fun hHeld => ?_)
                    clear hKK KK
                    refine wpAnyH_ready (rs := [10]) (by kernel_rfl) (by simp) ?_
                    refine AllReadyH.cons rfl (fun KK hKK => ?_) AllReadyH.nil
                    go_simp
                    refine hKK.out _ _ (kA) (fun hHeld => ?_)
                    clear hKK KK
                    refine wpAnyH_ready (rs := [11]) (by kernel_rfl) (by simp) ?_
                    refine AllReadyH.cons rfl (fun KK hKK => ?_) AllReadyH.nil
                    refine step_append_lies _ (by rfl) _ _ _ (by rfl) wc.heap.size 48 i0 _ 5 64 Tryd.underlying36 hi0 hz0 hz1 hz2 rfl (by omega) r k (nds l) (by rfl) ?_ ⟨W9.heap.size, 0, none⟩ 1 1 (nd5 ⟨q.nm, u⟩) (by rfl) rfl ?_ (nd5_one _) (by omega) ?_ ?_ ?_ (W9.heap.size + 1) ?_ ?_
                    · exact OR9.out
                    · exact CN9.out
                    · simp only [maxLen]; omega
                    · omega
                    · exact hz9
                    · simp
                    intro g7 cap7 w7 hown7 hgrow7 hat7 hlt7
                    have kS7 := KS7.out w7 hgrow7
                    obtain ⟨-, z1, -, z3⟩ := (C9A.out.bc.grown C9A.out.nr hgrow7).cells
                    refine hKK.out _ _ (kS7) (fun hHeld => ?_)
                    clear hKK KK
                    refine wpAnyH_take (i := 12) (v := ?_) rfl (by kernel_rfl) (by kernel_rfl) (by kernel_rfl) (fun _ _ _ h => h) (Or.inl ⟨by kernel_rfl, ?_⟩) (by assumption) ?_
                    rotate_left
                    · (intro w hSw; (try dsimp only at hSw); go_simp; try with_reducible rfl)
                    simp only [Act.put, List.getElem_toArray, List.getElem_cons_succ, List.getElem_cons_zero, List.setIfInBounds_toArray, List.set_cons_zero, List.set_cons_succ]
                    refine wpAnyH_ready (rs := [13]) (by kernel_rfl) (by simp) ?_
                    refine AllReadyH.cons rfl (fun KK hKK => ?_) AllReadyH.nil
                    go_simp
                    refine hKK.out _ _ (six_keep kS7 (Below.heap_setCell _ _ _ _ hXC) (Below.heap_setCell _ _ _ _ hbC) (Below.heap_setCell _ _ _ _ hYC)) (fun hHeld => ?_)
                    clear hKK KK
                    refine wpAnyH_done (by kernel_rfl) ?_ _
                    have c10 := C9A.out.grown (y := ⟨q.nm, u⟩) (r' := .slice (some ⟨g7, 0, none⟩) (k + 1) cap7) (by rw [hll]; exact hown7) hgrow7 O9.out HFU.out
                    have HC10 := mkHid c10
                    clear c10 z1 z3 kS7 hgrow7 hown7 hlt7 hat7 hHeld
                    generalize w7.setCell ⟨wc.heap.size, 1, none⟩ (.slice (some ⟨g7, 0, none⟩) (k + 1) cap7) = w8 at *
                    go_wp2
                    go_roundw
                    case rel => exact ⟨k + 1, _, rfl, by omega, by omega, _, _, HC10.out, by rw [HT.out]; exact turn.snoc HTN.out⟩
                    case measure => simp [intOf]; omega
                  · go_simp
                    refine hKK.out _ _ (kA) (fun hHeld => ?_)
                    clear hKK KK
                    refine wpAnyH_ready (rs := [1]) (by kernel_rfl) (by simp) ?_
                    refine AllReadyH.cons rfl (fun KK hKK => ?_) AllReadyH.nil
                    go_simp
                    refine hKK.out _ _ (by assumption) (fun hHeld => ?_)
                    clear hKK KK
                    refine wpAnyH_ready (rs := [11]) (by kernel_rfl) (by simp) ?_
                    refine AllReadyH.cons rfl (fun KK hKK => ?_) AllReadyH.nil
                    refine step_append_lies _ (by rfl) _ _ _ (by rfl) wc.heap.size 48 i0 _ 5 64 Tryd.underlying36 hi0 hz0 hz1 hz2 rfl (by omega) r k (nds l) (by rfl) ?_ ⟨W9.heap.size, 0, none⟩ 1 1 (nd5 ⟨q.nm, u⟩) (by rfl) rfl ?_ (nd5_one _) (by omega) ?_ ?_ ?_ (W9.heap.size + 1) ?_ ?_
                    · exact OR9.out
                    · exact CN9.out
                    · simp only [maxLen]; omega
                    · omega
                    · exact hz9
                    · simp
                    intro g7 cap7 w7 hown7 hgrow7 hat7 hlt7
                    have kS7 := KS7.out w7 hgrow7
                    obtain ⟨-, z1, -, z3⟩ := (C9A.out.bc.grown C9A.out.nr hgrow7).cells
                    refine hKK.out _ _ (kS7) (fun hHeld => ?_)
                    clear hKK KK
                    refine wpAnyH_take (i := 12) (v := ?_) rfl (by kernel_rfl) (by kernel_rfl) (by kernel_rfl) (fun _ _ _ h => h) (Or.inl ⟨by kernel_rfl, ?_⟩) (by assumption) ?_
                    rotate_left
                    · (intro w hSw; (try dsimp only at hSw); go_simp; try with_reducible rfl)
                    simp only [Act.put, List.getElem_toArray, List.getElem_cons_succ, List.getElem_cons_zero, List.setIfInBounds_toArray, List.set_cons_zero, List.set_cons_succ]
                    refine wpAnyH_ready (rs := [13]) (by kernel_rfl) (by simp) ?_
                    refine AllReadyH.cons rfl (fun KK hKK => ?_) AllReadyH.nil
                    go_simp
                    refine hKK.out _ _ (six_keep kS7 (Below.heap_setCell _ _ _ _ hXC) (Below.heap_setCell _ _ _ _ hbC) (Below.heap_setCell _ _ _ _ hYC)) (fun hHeld => ?_)
                    clear hKK KK
                    refine wpAnyH_done (by kernel_rfl) ?_ _
                    have c10 := C9A.out.grown (y := ⟨q.nm, u⟩) (r' := .slice (some ⟨g7, 0, none⟩) (k + 1) cap7) (by rw [hll]; exact hown7) hgrow7 O9.out HFU.out
                    have HC10 := mkHid c10
                    clear c10 z1 z3 kS7 hgrow7 hown7 hlt7 hat7 hHeld
                    generalize w7.setCell ⟨wc.heap.size, 1, none⟩ (.slice (some ⟨g7, 0, none⟩) (k + 1) cap7) = w8 at *
                    go_wp2
                    go_roundw
                    case rel => exact ⟨k + 1, _, rfl, by omega, by omega, _, _, HC10.out, by rw [HT.out]; exact turn.snoc HTN.out⟩
                    case measure => simp [intOf]; omega
          · have h3 : (q.v.sort == 3) = false := by rw [beq_eq_false_iff_ne]; exact hs3
            have turnN : TurnV I K q.v ⟨q.v.sort, q.v.n, q.v.b, some ⟨W7.heap.size, 0, none⟩, 0, []⟩ := ⟨rfl, rfl, by rw [if_neg hs3], by rw [if_neg hs2]; exact HS0.out.symm⟩
            have HTN := mkHid (show TurnN I K q ⟨q.nm, ⟨q.v.sort, q.v.n, q.v.b, some ⟨W7.heap.size, 0, none⟩, 0, []⟩⟩ from ⟨rfl, turnN⟩)
            have B9 : But wr.heap.size W7 ((W7.setCell ⟨wr.heap.size, 3, none⟩ (.slice (some ⟨W7.heap.size, 0, none⟩) 0 0)).alloc (.cells #[] 4)) := ((But.refl wr.heap.size W7).set (p := ⟨wr.heap.size, 3, none⟩) (.inl rfl) _).alloc _
            have YB9 : BoxY ((W7.setCell ⟨wr.heap.size, 3, none⟩ (.slice (some ⟨W7.heap.size, 0, none⟩) 0 0)).alloc (.cells #[] 4)) wr.heap.size ⟨q.v.sort, q.v.n, q.v.b, some ⟨W7.heap.size, 0, none⟩, 0, []⟩ := (HYK.out.set3 (some ⟨W7.heap.size, 0, none⟩) 0 []).same (Below.heap_alloc _ _ _ (by simpa using hYl))
            have O9' : Own ((W7.setCell ⟨wr.heap.size, 3, none⟩ (.slice (some ⟨W7.heap.size, 0, none⟩) 0 0)).alloc (.cells #[] 4)) wc.heap.size (some ⟨W7.heap.size, 0, none⟩) 0 [] := by
              have := World.ownsRow_lit (base := wc.heap.size) (e := 4) (size := 1) (W7.setCell ⟨wr.heap.size, 3, none⟩ (.slice (some ⟨W7.heap.size, 0, none⟩) 0 0)) #[] 0 (by simp; omega) (by decide) rfl
              simpa [Own, bls] using this
            have HFU := mkHid (show q.nm.size ≤ maxLen ∧ fitB q.v.sort = true ∧ fitB q.v.n = true from ⟨hnq, VI5.s, VI5.n⟩)
            cases qa
            all_goals
              go_wp2_with fail
              generalize hu : (⟨q.v.sort, q.v.n, q.v.b, some ⟨W7.heap.size, 0, none⟩, 0, []⟩ : Vl) = u at *
              generalize (W7.setCell ⟨wr.heap.size, 3, none⟩ (.slice (some ⟨W7.heap.size, 0, none⟩) 0 0)).alloc (.cells #[] 4) = W9 at *
              have HFU : Hid ((⟨q.nm, u⟩ : Nd).nm.size ≤ maxLen ∧ fitB u.sort = true ∧ fitB u.n = true) := by rw [← hu]; exact HFU
              have O9' : Own W9 wc.heap.size u.a u.c u.s := by rw [← hu]; exact O9'
              clear hu turnN y0 y1 y2 y3 y4 y5 y6 y7 g0 g1 g2 g3 g4 p0 p1 hW7
              have c9 := HC5.out.but B9 hYge HYK.out
              have C9A := mkHid (c9.later (bon (bdrew (Below.refl W9.heap.size W9)) (bel_alloc W9.drew (.cells #[.string q.nm, .int .i64 u.sort, .int .i64 u.n, .bool u.b, .slice u.a u.s.length u.c] 48))))
              have OR9 : Hid ((W9.drew.alloc (.cells #[.string q.nm, .int .i64 u.sort, .int .i64 u.n, .bool u.b, .slice u.a u.s.length u.c] 48)).ownsRow wc.heap.size 48 5 r k (nds l)) := by have := C9A.out.nr.row; rw [hll] at this; exact this
              have CN9 := mkHid (cells_nd W9.drew ⟨q.nm, u⟩)
              have O9 : Hid (Own (W9.drew.alloc (.cells #[.string q.nm, .int .i64 u.sort, .int .i64 u.n, .bool u.b, .slice u.a u.s.length u.c] 48)) wc.heap.size u.a u.c u.s) := (World.ownsRow.drew O9').alloc _
              have hz9 : wc.heap.size ≤ (W9.drew.alloc (.cells #[.string q.nm, .int .i64 u.sort, .int .i64 u.n, .bool u.b, .slice u.a u.s.length u.c] 48)).heap.size := C9A.out.bel.size
              have cp1 : W9.cell? ⟨w.heap.size + 1, 1, none⟩ = some (.slice (some ⟨b, o, none⟩) n W.c) := B9.cell hp1 hXY
              have cg0 : W9.cell? ⟨b, o + k * 5, none⟩ = some (.string q.nm) := B9.cell hg0 hbY
              obtain ⟨e0, e1, e2, e3, -⟩ := YB9.cells
              have x1 := c9.bc.cells.2.1
              have x1d : W9.drew.cell? ⟨wc.heap.size, 1, none⟩ = some r := x1
              have hC9 : wc.heap.size < W9.heap.size := c9.bc.lt
              have hX9 : w.heap.size + 1 < W9.heap.size := World.block_lt_of_cell? _ _ cp1
              have hb9 : b < W9.heap.size := World.block_lt_of_cell? _ _ cg0
              have hY9 : wr.heap.size < W9.heap.size := YB9.lt
              have kA : (W9.drew.alloc (.cells #[.string q.nm, .int .i64 u.sort, .int .i64 u.n, .bool u.b, .slice u.a u.s.length u.c] 48)).cell? ⟨w.heap.size + 1, 1, none⟩ = some (.slice (some ⟨b, o, none⟩) n W.c) ∧ (W9.drew.alloc (.cells #[.string q.nm, .int .i64 u.sort, .int .i64 u.n, .bool u.b, .slice u.a u.s.length u.c] 48)).cell? ⟨b, o + k * 5, none⟩ = some (.string q.nm) ∧ (W9.drew.alloc (.cells #[.string q.nm, .int .i64 u.sort, .int .i64 u.n, .bool u.b, .slice u.a u.s.length u.c] 48)).cell? ⟨wr.heap.size, 0, none⟩ = some (.int .i64 u.sort) ∧ (W9.drew.alloc (.cells #[.string q.nm, .int .i64 u.sort, .int .i64 u.n, .bool u.b, .slice u.a u.s.length u.c] 48)).cell? ⟨wr.heap.size, 1, none⟩ = some (.int .i64 u.n) ∧ (W9.drew.alloc (.cells #[.string q.nm, .int .i64 u.sort, .int .i64 u.n, .bool u.b, .slice u.a u.s.length u.c] 48)).cell? ⟨wr.heap.size, 2, none⟩ = some (.bool u.b) ∧ (W9.drew.alloc (.cells #[.string q.nm, .int .i64 u.sort, .int .i64 u.n, .bool u.b, .slice u.a u.s.length u.c] 48)).cell? ⟨wr.heap.size, 3, none⟩ = some (.slice u.a u.s.length u.c) := six_keep (w := W9) ⟨cp1, cg0, e0, e1, e2, e3⟩ (Below.heap_alloc W9.drew (.cells #[.string q.nm, .int .i64 u.sort, .int .i64 u.n, .bool u.b, .slice u.a u.s.length u.c] 48) _ hX9) (Below.heap_alloc W9.drew (.cells #[.string q.nm, .int .i64 u.sort, .int .i64 u.n, .bool u.b, .slice u.a u.s.length u.c] 48) _ hb9) (Below.heap_alloc W9.drew (.cells #[.string q.nm, .int .i64 u.sort, .int .i64 u.n, .bool u.b, .slice u.a u.s.length u.c] 48) _ hY9)
              have KS7 := mkHid (fun w7 (hg : (W9.drew.alloc (.cells #[.string q.nm, .int .i64 u.sort, .int .i64 u.n, .bool u.b, .slice u.a u.s.length u.c] 48)).grownBy w7 r.ownBlock) => six_keep (w' := w7) kA (hg.block _ (World.block_lt_of_cell? _ _ kA.1) (fun e => by have := (C9A.out.nr.row.lt _ e.symm).1; omega)) (hg.block _ (World.block_lt_of_cell? _ _ kA.2.1) (fun e => by have := (C9A.out.nr.row.lt _ e.symm).1; omega)) (hg.block _ (World.block_lt_of_cell? _ _ kA.2.2.1) (fun e => by
                obtain ⟨cc, hcc⟩ := own_kind C9A.out.nr.row e.symm
                have hy9 : (W9.drew.alloc (.cells #[.string q.nm, .int .i64 u.sort, .int .i64 u.n, .bool u.b, .slice u.a u.s.length u.c] 48)).heap[wr.heap.size]? = some (.cells #[.int .i64 u.sort, .int .i64 u.n, .bool u.b, .slice u.a u.s.length u.c] 41 (0, 0)) := (Below.heap_alloc W9.drew (.cells #[.string q.nm, .int .i64 u.sort, .int .i64 u.n, .bool u.b, .slice u.a u.s.length u.c] 48) _ hY9).trans YB9
                rw [hy9] at hcc
                simp at hcc)))
              clear c9 O9' B9 YB9 HC5 HYK FY
              go_wp2_with fail
              refine wp_region_held_drew (S := fun w' => w'.cell? ⟨w.heap.size + 1, 1, none⟩ = some (.slice (some ⟨b, o, none⟩) n W.c) ∧ w'.cell? ⟨b, o + k * 5, none⟩ = some (.string q.nm) ∧ w'.cell? ⟨wr.heap.size, 0, none⟩ = some (.int .i64 u.sort) ∧ w'.cell? ⟨wr.heap.size, 1, none⟩ = some (.int .i64 u.n) ∧ w'.cell? ⟨wr.heap.size, 2, none⟩ = some (.bool u.b) ∧ w'.cell? ⟨wr.heap.size, 3, none⟩ = some (.slice u.a u.s.length u.c)) (by kernel_rfl) ⟨cp1, cg0, e0, e1, e2, e3⟩ (fun hHeld => ?_)
              refine wpAnyH_take (i := 0) (v := ?_) rfl (by kernel_rfl) (by kernel_rfl) (by kernel_rfl) (fun _ _ _ h => h) (Or.inl ⟨by kernel_rfl, ?_⟩) (by assumption) ?_
              rotate_left
              · (intro w hSw; (try dsimp only at hSw); go_simp; try with_reducible rfl)
              simp only [Act.put, List.getElem_toArray, List.getElem_cons_zero, List.setIfInBounds_toArray, List.set_cons_zero, List.set_cons_succ]
              refine wpAnyH_take (i := 2) (v := ?_) rfl (by kernel_rfl) (by kernel_rfl) (by kernel_rfl) (fun _ _ _ h => h) (Or.inl ⟨by kernel_rfl, ?_⟩) (by assumption) ?_
              rotate_left
              · (intro w hSw; (try dsimp only at hSw); go_simp; try with_reducible rfl)
              simp only [Act.put, List.getElem_toArray, List.getElem_cons_succ, List.getElem_cons_zero, List.setIfInBounds_toArray, List.set_cons_zero, List.set_cons_succ]
              refine wpAnyH_take (i := 3) (v := ?_) rfl (by kernel_rfl) (by kernel_rfl) (by kernel_rfl) (fun _ _ _ h => h) (Or.inl ⟨by kernel_rfl, ?_⟩) (by assumption) ?_
              rotate_left
              · (intro w hSw; (try dsimp only at hSw); go_simp; try with_reducible rfl)
              simp only [Act.put, List.getElem_toArray, List.getElem_cons_succ, List.getElem_cons_zero, List.setIfInBounds_toArray, List.set_cons_zero, List.set_cons_succ]
              refine wpAnyH_take (i := 4) (v := ?_) rfl (by kernel_rfl) (by kernel_rfl) (by kernel_rfl) (fun _ _ _ h => h) (Or.inl ⟨by kernel_rfl, ?_⟩) (by assumption) ?_
              rotate_left
              · (intro w hSw; (try dsimp only at hSw); go_simp; try with_reducible rfl)
              simp only [Act.put, List.getElem_toArray, List.getElem_cons_succ, List.getElem_cons_zero, List.setIfInBounds_toArray, List.set_cons_zero, List.set_cons_succ]
              refine wpAnyH_take (i := 5) (v := ?_) rfl (by kernel_rfl) (by kernel_rfl) (by kernel_rfl) (fun _ _ _ h => h) (Or.inl ⟨by kernel_rfl, ?_⟩) (by assumption) ?_
              rotate_left
              · (intro w hSw; (try dsimp only at hSw); go_simp; try with_reducible rfl)
              simp only [Act.put, List.getElem_toArray, List.getElem_cons_succ, List.getElem_cons_zero, List.setIfInBounds_toArray, List.set_cons_zero, List.set_cons_succ]
              refine wpAnyH_take (i := 6) (v := ?_) rfl (by kernel_rfl) (by kernel_rfl) (by kernel_rfl) (fun _ _ _ h => h) (Or.inl ⟨by kernel_rfl, ?_⟩) (by assumption) ?_
              rotate_left
              · (intro w hSw; (try dsimp only at hSw); go_simp; try with_reducible rfl)
              simp only [Act.put, List.getElem_toArray, List.getElem_cons_succ, List.getElem_cons_zero, List.setIfInBounds_toArray, List.set_cons_zero, List.set_cons_succ]
              refine wpAnyH_take (i := 7) (v := ?_) rfl (by kernel_rfl) (by kernel_rfl) (by kernel_rfl) (fun _ _ _ h => h) (Or.inl ⟨by kernel_rfl, ?_⟩) (by assumption) ?_
              rotate_left
              · (intro w hSw; (try dsimp only at hSw); go_simp; try with_reducible rfl)
              simp only [Act.put, List.getElem_toArray, List.getElem_cons_succ, List.getElem_cons_zero, List.setIfInBounds_toArray, List.set_cons_zero, List.set_cons_succ]
              refine wpAnyH_take (i := 8) (v := ?_) rfl (by kernel_rfl) (by kernel_rfl) (by kernel_rfl) (fun _ _ _ h => h) (Or.inl ⟨by kernel_rfl, ?_⟩) (by assumption) ?_
              rotate_left
              · (intro w hSw; (try dsimp only at hSw); go_simp; try with_reducible rfl)
              simp only [Act.put, List.getElem_toArray, List.getElem_cons_succ, List.getElem_cons_zero, List.setIfInBounds_toArray, List.set_cons_zero, List.set_cons_succ]
              refine wpAnyH_take (i := 9) (v := ?_) rfl (by kernel_rfl) (by kernel_rfl) (by kernel_rfl) (fun _ _ _ h => h) (Or.inl ⟨by kernel_rfl, ?_⟩) (by assumption) ?_
              rotate_left
              · (intro w hSw; (try dsimp only at hSw); go_simp; try with_reducible rfl)
              simp only [Act.put, List.getElem_toArray, List.getElem_cons_succ, List.getElem_cons_zero, List.setIfInBounds_toArray, List.set_cons_zero, List.set_cons_succ]
              refine wpAnyH_ready (rs := [1, 10]) (by kernel_rfl) (by simp) ?_
              refine AllReadyH.cons rfl (fun KK hKK => ?_) (AllReadyH.cons rfl (fun KK hKK => ?_) AllReadyH.nil)
              · go_simp
                refine hKK.out _ _ (by assumption) (fun hHeld => ?_)
                clear hKK KK
                refine wpAnyH_ready (rs := [10]) (by kernel_rfl) (by simp) ?_
                refine AllReadyH.cons rfl (fun KK hKK => ?_) AllReadyH.nil
                go_simp
                refine hKK.out _ _ (kA) (fun hHeld => ?_)
                clear hKK KK
                refine wpAnyH_ready (rs := [11]) (by kernel_rfl) (by simp) ?_
                refine AllReadyH.cons rfl (fun KK hKK => ?_) AllReadyH.nil
                refine step_append_lies _ (by rfl) _ _ _ (by rfl) wc.heap.size 48 i0 _ 5 64 Tryd.underlying36 hi0 hz0 hz1 hz2 rfl (by omega) r k (nds l) (by rfl) ?_ ⟨W9.heap.size, 0, none⟩ 1 1 (nd5 ⟨q.nm, u⟩) (by rfl) rfl ?_ (nd5_one _) (by omega) ?_ ?_ ?_ (W9.heap.size + 1) ?_ ?_
                · exact OR9.out
                · exact CN9.out
                · simp only [maxLen]; omega
                · omega
                · exact hz9
                · simp
                intro g7 cap7 w7 hown7 hgrow7 hat7 hlt7
                have kS7 := KS7.out w7 hgrow7
                obtain ⟨-, z1, -, z3⟩ := (C9A.out.bc.grown C9A.out.nr hgrow7).cells
                refine hKK.out _ _ (kS7) (fun hHeld => ?_)
                clear hKK KK
                refine wpAnyH_take (i := 12) (v := ?_) rfl (by kernel_rfl) (by kernel_rfl) (by kernel_rfl) (fun _ _ _ h => h) (Or.inl ⟨by kernel_rfl, ?_⟩) (by assumption) ?_
                rotate_left
                · (intro w hSw; (try dsimp only at hSw); go_simp; try with_reducible rfl)
                simp only [Act.put, List.getElem_toArray, List.getElem_cons_succ, List.getElem_cons_zero, List.setIfInBounds_toArray, List.set_cons_zero, List.set_cons_succ]
                refine wpAnyH_ready (rs := [13]) (by kernel_rfl) (by simp) ?_
                refine AllReadyH.cons rfl (fun KK hKK => ?_) AllReadyH.nil
                go_simp
                refine hKK.out _ _ (six_keep kS7 (Below.heap_setCell _ _ _ _ hXC) (Below.heap_setCell _ _ _ _ hbC) (Below.heap_setCell _ _ _ _ hYC)) (fun hHeld => ?_)
                clear hKK KK
                refine wpAnyH_done (by kernel_rfl) ?_ _
                have c10 := C9A.out.grown (y := ⟨q.nm, u⟩) (r' := .slice (some ⟨g7, 0, none⟩) (k + 1) cap7) (by rw [hll]; exact hown7) hgrow7 O9.out HFU.out
                have HC10 := mkHid c10
                clear c10 z1 z3 kS7 hgrow7 hown7 hlt7 hat7 hHeld
                generalize w7.setCell ⟨wc.heap.size, 1, none⟩ (.slice (some ⟨g7, 0, none⟩) (k + 1) cap7) = w8 at *
                go_wp2
                go_roundw
                case rel => exact ⟨k + 1, _, rfl, by omega, by omega, _, _, HC10.out, by rw [HT.out]; exact turn.snoc HTN.out⟩
                case measure => simp [intOf]; omega
              · go_simp
                refine hKK.out _ _ (kA) (fun hHeld => ?_)
                clear hKK KK
                refine wpAnyH_ready (rs := [1]) (by kernel_rfl) (by simp) ?_
                refine AllReadyH.cons rfl (fun KK hKK => ?_) AllReadyH.nil
                go_simp
                refine hKK.out _ _ (by assumption) (fun hHeld => ?_)
                clear hKK KK
                refine wpAnyH_ready (rs := [11]) (by kernel_rfl) (by simp) ?_
                refine AllReadyH.cons rfl (fun KK hKK => ?_) AllReadyH.nil
                refine step_append_lies _ (by rfl) _ _ _ (by rfl) wc.heap.size 48 i0 _ 5 64 Tryd.underlying36 hi0 hz0 hz1 hz2 rfl (by omega) r k (nds l) (by rfl) ?_ ⟨W9.heap.size, 0, none⟩ 1 1 (nd5 ⟨q.nm, u⟩) (by rfl) rfl ?_ (nd5_one _) (by omega) ?_ ?_ ?_ (W9.heap.size + 1) ?_ ?_
                · exact OR9.out
                · exact CN9.out
                · simp only [maxLen]; omega
                · omega
                · exact hz9
                · simp
                intro g7 cap7 w7 hown7 hgrow7 hat7 hlt7
                have kS7 := KS7.out w7 hgrow7
                obtain ⟨-, z1, -, z3⟩ := (C9A.out.bc.grown C9A.out.nr hgrow7).cells
                refine hKK.out _ _ (kS7) (fun hHeld => ?_)
                clear hKK KK
                refine wpAnyH_take (i := 12) (v := ?_) rfl (by kernel_rfl) (by kernel_rfl) (by kernel_rfl) (fun _ _ _ h => h) (Or.inl ⟨by kernel_rfl, ?_⟩) (by assumption) ?_
                rotate_left
                · (intro w hSw; (try dsimp only at hSw); go_simp; try with_reducible rfl)
                simp only [Act.put, List.getElem_toArray, List.getElem_cons_succ, List.getElem_cons_zero, List.setIfInBounds_toArray, List.set_cons_zero, List.set_cons_succ]
                refine wpAnyH_ready (rs := [13]) (by kernel_rfl) (by simp) ?_
                refine AllReadyH.cons rfl (fun KK hKK => ?_) AllReadyH.nil
                go_simp
                refine hKK.out _ _ (six_keep kS7 (Below.heap_setCell _ _ _ _ hXC) (Below.heap_setCell _ _ _ _ hbC) (Below.heap_setCell _ _ _ _ hYC)) (fun hHeld => ?_)
                clear hKK KK
                refine wpAnyH_done (by kernel_rfl) ?_ _
                have c10 := C9A.out.grown (y := ⟨q.nm, u⟩) (r' := .slice (some ⟨g7, 0, none⟩) (k + 1) cap7) (by rw [hll]; exact hown7) hgrow7 O9.out HFU.out
                have HC10 := mkHid c10
                clear c10 z1 z3 kS7 hgrow7 hown7 hlt7 hat7 hHeld
                generalize w7.setCell ⟨wc.heap.size, 1, none⟩ (.slice (some ⟨g7, 0, none⟩) (k + 1) cap7) = w8 at *
                go_wp2
                go_roundw
                case rel => exact ⟨k + 1, _, rfl, by omega, by omega, _, _, HC10.out, by rw [HT.out]; exact turn.snoc HTN.out⟩
                case measure => simp [intOf]; omega
      · obtain rfl : k = n := by omega
        have TL : TurnL I K W.l l := by
          have := turn
          rw [List.take_of_length_le (by rw [HN.out]; omega)] at this
          exact this
        obtain ⟨A, cc, rfl⟩ := own_slice c.nr.row
        rw [hll] at c
        have SR := S5.later c.bel
        have BR := bon B5 c.bel
        have VI : WIn wr wr.heap.size ⟨W.nodes, A, cc, l⟩ := by
          have h := c.nr
          rw [← hll] at h
          exact h.win S5.win.nd
        have TU : TwoW wr wc.heap.size ⟨W.nodes, A, cc, l⟩ := by
          refine ⟨c.bc.cells.1, ?_⟩
          show wr.cell? _ = some (.slice A l.length cc)
          rw [hll]; exact c.bc.cells.2.1
        have hEq : evalR ⟨W.nodes, A, cc, l⟩ t = evalR W t := eval_turn SR.win SR.tin HR.out rfl TL hIN hKN HE.out (by rw [HSR.out]; exact H14.out)
        have E1 := mkHid (fun w' (h : SA w.heap.size t W w') => (eval_any W t w' h.win h.tin h.s).mono fun e w'' h => ansE h)
        have E2 := mkHid (fun w' (h : SA w.heap.size t W w') (hv : WIn w' w'.heap.size ⟨W.nodes, A, cc, l⟩) => (eval_any ⟨W.nodes, A, cc, l⟩ t w' hv h.tin h.s).mono fun e w'' h => ansE h)
        rw [hEq] at E2
        unfold Tm.val at E1 E2
        unfold Wd.val at E1 E2
        simp only at E2
        rw [HN.out] at E1
        rw [hll] at E2
        generalize rSo (evalR W t) = so at *
        generalize rNn (evalR W t) = nn at *
        generalize rBb (evalR W t) = bb at *
        generalize rLl (evalR W t) = ll at *
        generalize rKk (evalR W t) = kk at *
        have HV := mkHid (show ∀ w' : World, Below wr.heap.size wr w' → TwoW w' wc.heap.size ⟨W.nodes, A, cc, l⟩ ∧ WIn w' w'.heap.size ⟨W.nodes, A, cc, l⟩ ∧ SA w.heap.size t W w' from fun w' hb => ⟨TU.later hb, VI.later hb, SR.later hb⟩)
        clear hEq TL turn c VI TU S6
        obtain ⟨u0, u1, u2, u3⟩ := SR.bt
        simp only [Nat.zero_add] at u1 u2 u3
        go_wp2_with fail
        ((with_reducible refine (E1.out _ SR).mono ?_)); rintro e w9 ⟨a9, c9, rfl, bi9, hl9, hb9⟩
        clear u0 u1 u2 u3 p0 p1 E1
        have b10 := bon hb9 (bel_alloc w9 (.cells #[.int .i64 so, .int .i64 nn, .bool bb, .slice a9 ll.length c9] 41))
        have B10 := bon BR b10
        obtain ⟨TU10, VI10, S10⟩ := HV.out _ b10
        have V10 : FourV (w9.alloc (.cells #[.int .i64 so, .int .i64 nn, .bool bb, .slice a9 ll.length c9] 41)) w9.heap.size (.int .i64 so) (.int .i64 nn) (.bool bb) (.slice a9 ll.length c9) := by simp [FourV, go_sem]
        have BI10 : BIn (w9.alloc (.cells #[.int .i64 so, .int .i64 nn, .bool bb, .slice a9 ll.length c9] 41)) (w9.alloc (.cells #[.int .i64 so, .int .i64 nn, .bool bb, .slice a9 ll.length c9] 41)).heap.size a9 ll := (bi9.keep (bel_alloc _ _)).mono (by simp)
        clear bi9 b10 hb9
        generalize hW10 : w9.alloc (.cells #[.int .i64 so, .int .i64 nn, .bool bb, .slice a9 ll.length c9] 41) = W10 at *
        obtain ⟨u0, u1, u2, u3⟩ := S10.bt
        obtain ⟨p0, p1⟩ := TU10
        simp only at p1
        rw [hll] at p1
        simp only [Nat.zero_add] at u1 u2 u3
        go_wp2_with fail
        ((with_reducible refine (E2.out _ S10 VI10).mono ?_)); rintro e w11 ⟨a11, c11, rfl, bi11, -, hb11⟩
        clear u0 u1 u2 u3 p0 p1 E2 hW10
        have b12 := bon hb11 (bel_alloc w11 (.cells #[.int .i64 so, .int .i64 nn, .bool bb, .slice a11 ll.length c11] 41))
        have B12 := bon B10 b12
        have V12 := V10.later b12
        have BI12 := (BI10.keep b12).mono b12.size
        have X12 : FourV (w11.alloc (.cells #[.int .i64 so, .int .i64 nn, .bool bb, .slice a11 ll.length c11] 41)) w11.heap.size (.int .i64 so) (.int .i64 nn) (.bool bb) (.slice a11 ll.length c11) := by simp [FourV, go_sem]
        have BX12 : BIn (w11.alloc (.cells #[.int .i64 so, .int .i64 nn, .bool bb, .slice a11 ll.length c11] 41)) (w11.alloc (.cells #[.int .i64 so, .int .i64 nn, .bool bb, .slice a11 ll.length c11] 41)).heap.size a11 ll := (bi11.keep (bel_alloc _ _)).mono (by simp)
        clear bi11 b12 S10 B10 VI10 hb11 V10 BI10
        generalize hW12 : w11.alloc (.cells #[.int .i64 so, .int .i64 nn, .bool bb, .slice a11 ll.length c11] 41) = W12 at *
        obtain ⟨x0, x1, x2, x3, -⟩ := V12
        obtain ⟨z0, z1, z2, z3, -⟩ := X12
        have SM := mkHid (same_true so nn bb a9 a11 c9 c11 ll W12 BI12 BX12 (by unfold maxLen at hl9; omega))
        have hkk : (kk == kk) = true := by simp
        go_wp2_with fail
        ((with_reducible refine SM.out.mono ?_)); rintro e w14 ⟨rfl, hb14⟩
        have B14 := bon B12 hb14
        go_wp2
        go_ret
        exact ⟨rfl, B14⟩
set_option maxRecDepth 100000 in
set_option maxHeartbeats 4000000 in
theorem turned1 (t : Tm) (W : Wd) (x y : Int) (w : World) (ht : TIn w w.heap.size t) (hW : WIn w w.heap.size W) (hS : Shps w) (he : errR t ≠ 0) :
    Calls Tryd.prog 7 #[t.val, W.val, .int .i64 x, .int .i64 y] w (RetB true w) := by
  have S0 := SA.start ht hW hS
  have B0 : Below w.heap.size w ((w.alloc (boxT t)).alloc (boxW W)) := bal (bal (Below.refl _ _) _) _
  have SC := mkHid (shownE _ S0.s)
  have ST := mkHid (fun w' (h : SA w.heap.size t W w') => sort_any t w' h.tin h.s)
  have hne : ((errR t : Int) != 0) = true := by rw [bne_iff_ne]; omega
  clear he
  generalize errR t = e1 at *
  generalize srtR t = r1 at *
  have hW2 : (w.alloc (.cells #[.int .i64 t.op, .string t.nm, .int .i64 t.n, .slice t.a t.ks.length t.c] 24)).alloc (.cells #[.int .i64 W.nodes, .slice W.a W.l.length W.c] 38) = (w.alloc (boxT t)).alloc (boxW W) := rfl
  generalize (w.alloc (boxT t)).alloc (boxW W) = W2 at *
  unfold Tm.val at ST ⊢
  unfold Wd.val at ⊢
  clear ht hW hS
  go_enter Tryd.func7, Tryd.ntmps7
  go_wp2_with fail
  ((with_reducible refine SC.out.mono ?_)); rintro e w3 ⟨rfl, hb3⟩
  clear SC hW2
  have S3 := S0.later hb3
  have B3 := bon B0 hb3
  obtain ⟨u0, u1, u2, u3⟩ := S3.bt
  simp only [Nat.zero_add] at u1 u2 u3
  go_wp2_with fail
  ((with_reducible refine (ST.out _ S3).mono ?_)); rintro e w4 ⟨rfl, hb4⟩
  have B4 := bon B3 hb4
  go_wp2
  go_ret
  exact ⟨rfl, B4⟩
set_option maxRecDepth 100000 in
set_option maxHeartbeats 4000000 in
theorem turned2 (t : Tm) (W : Wd) (x y : Int) (w : World) (ht : TIn w w.heap.size t) (hW : WIn w w.heap.size W) (hS : Shps w) (he : errR t = 0) (h1 : srtR t ≠ 1) (h4 : srtR t ≠ 4) :
    Calls Tryd.prog 7 #[t.val, W.val, .int .i64 x, .int .i64 y] w (RetB true w) := by
  have S0 := SA.start ht hW hS
  have B0 : Below w.heap.size w ((w.alloc (boxT t)).alloc (boxW W)) := bal (bal (Below.refl _ _) _) _
  have SC := mkHid (shownE _ S0.s)
  have ST := mkHid (fun w' (h : SA w.heap.size t W w') => sort_any t w' h.tin h.s)
  have d1 : ((srtR t : Int) != 1) = true := by rw [bne_iff_ne]; omega
  have d4 : ((srtR t : Int) != 4) = true := by rw [bne_iff_ne]; omega
  rw [he] at ST
  clear he h1 h4
  generalize srtR t = r1 at *
  have hW2 : (w.alloc (.cells #[.int .i64 t.op, .string t.nm, .int .i64 t.n, .slice t.a t.ks.length t.c] 24)).alloc (.cells #[.int .i64 W.nodes, .slice W.a W.l.length W.c] 38) = (w.alloc (boxT t)).alloc (boxW W) := rfl
  generalize (w.alloc (boxT t)).alloc (boxW W) = W2 at *
  unfold Tm.val at ST ⊢
  unfold Wd.val at ⊢
  clear ht hW hS
  go_enter Tryd.func7, Tryd.ntmps7
  go_wp2_with fail
  ((with_reducible refine SC.out.mono ?_)); rintro e w3 ⟨rfl, hb3⟩
  clear SC hW2
  have S3 := S0.later hb3
  have B3 := bon B0 hb3
  obtain ⟨u0, u1, u2, u3⟩ := S3.bt
  simp only [Nat.zero_add] at u1 u2 u3
  go_wp2_with fail
  ((with_reducible refine (ST.out _ S3).mono ?_)); rintro e w4 ⟨rfl, hb4⟩
  have B4 := bon B3 hb4
  go_wp2
  go_ret
  exact ⟨rfl, B4⟩
set_option maxRecDepth 100000 in
set_option maxHeartbeats 4000000 in
theorem turned3 (t : Tm) (W : Wd) (x y : Int) (w : World) (ht : TIn w w.heap.size t) (hW : WIn w w.heap.size W) (hS : Shps w) (he : errR t = 0) (hs14 : srtR t = 1 ∨ srtR t = 4) (hr : rightB W = false) :
    Calls Tryd.prog 7 #[t.val, W.val, .int .i64 x, .int .i64 y] w (RetB true w) := by
  have S0 := SA.start ht hW hS
  have B0 : Below w.heap.size w ((w.alloc (boxT t)).alloc (boxW W)) := bal (bal (Below.refl _ _) _) _
  have SC := mkHid (shownE _ S0.s)
  have ST := mkHid (fun w' (h : SA w.heap.size t W w') => sort_any t w' h.tin h.s)
  have RT := mkHid (fun w' (h : SA w.heap.size t W w') => right_any W w' h.win)
  have d14 : ((srtR t : Int) != 1) = false ∨ (((srtR t : Int) != 1) = true ∧ ((srtR t : Int) != 4) = false) := by
    rcases hs14 with e | e
    · rw [e]; exact .inl rfl
    · rw [e]; exact .inr ⟨rfl, rfl⟩
  rw [he] at ST
  rw [hr] at RT
  clear he hs14 hr
  generalize srtR t = r1 at *
  have hW2 : (w.alloc (.cells #[.int .i64 t.op, .string t.nm, .int .i64 t.n, .slice t.a t.ks.length t.c] 24)).alloc (.cells #[.int .i64 W.nodes, .slice W.a W.l.length W.c] 38) = (w.alloc (boxT t)).alloc (boxW W) := rfl
  generalize (w.alloc (boxT t)).alloc (boxW W) = W2 at *
  unfold Tm.val at ST ⊢
  unfold Wd.val at RT ⊢
  clear ht hW hS
  go_enter Tryd.func7, Tryd.ntmps7
  go_wp2_with fail
  ((with_reducible refine SC.out.mono ?_)); rintro e w3 ⟨rfl, hb3⟩
  clear SC hW2
  have S3 := S0.later hb3
  have B3 := bon B0 hb3
  obtain ⟨u0, u1, u2, u3⟩ := S3.bt
  simp only [Nat.zero_add] at u1 u2 u3
  go_wp2_with fail
  ((with_reducible refine (ST.out _ S3).mono ?_)); rintro e w4 ⟨rfl, hb4⟩
  have B4 := bon B3 hb4
  have S4 := S3.later hb4
  clear u0 u1 u2 u3 S3 ST S0
  obtain ⟨p0, p1⟩ := S4.bw
  rcases d14 with d1 | ⟨d1, d4⟩
  all_goals
    go_wp2_with fail
    ((with_reducible refine (RT.out _ S4).mono ?_)); rintro e w5 ⟨rfl, hb5⟩
    have B5 := bon B4 hb5
    go_wp2
    go_ret
    exact ⟨rfl, B5⟩
theorem lturned_any (t : Tm) (W : Wd) (x y : Int) (w : World) (ht : TIn w w.heap.size t) (hW : WIn w w.heap.size W) (_hx : fitB x = true) (_hy : fitB y = true) (hS : Shps w) :
    Calls Tryd.prog 7 #[t.val, W.val, .int .i64 x, .int .i64 y] w (RetB true w) := by
  by_cases he : errR t = 0
  · by_cases h1 : srtR t = 1 ∨ srtR t = 4
    · cases hr : rightB W
      · exact turned3 t W x y w ht hW hS he h1 hr
      · exact turned_core t W x y w ht hW hS he h1 hr
    · exact turned2 t W x y w ht hW hS he (fun e => h1 (.inl e)) (fun e => h1 (.inr e))
  · exact turned1 t W x y w ht hW hS he
end Go.Proofs.YtlbknhedpjaelaaDoor
