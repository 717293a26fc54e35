/-
  What SubstValues's proof stands on, part 3: SbD, TmI, TmJ.
-/
import Derived.Test.YtdfebacjbapahaaGreatDoorSubstValuesK02
import Derived.OwnWalk
import Derived.Laws.OwnMore
import Derived.IntWalk
namespace Go.Proofs.YtdfebacjbapahaaGreatDoor
section
open Go.RowKit Go.Maps

/-- the sort of names of an operation -/
def nsN (op : Int) : Nat := if op = 2 then 1 else if op = 7 then 2 else if op = 14 then 3 else if op = 15 then 4 else 0
theorem nameSort_any (op : Int) (w : World) : Calls Tryz.prog 45 #[.int .i64 op] w (RetI (nsN op) w) := by
  unfold nsN
  by_cases h1 : op = 2
  · subst h1
    go_enter Tryz.func45, Tryz.ntmps45
    go_wp2
    go_ret
    exact ⟨rfl, Below.refl _ _⟩
  · rw [if_neg h1]
    have d1 : (op == 2) = false := by rw [beq_eq_false_iff_ne]; exact h1
    by_cases h2 : op = 7
    · subst h2
      go_enter Tryz.func45, Tryz.ntmps45
      go_wp2
      go_ret
      exact ⟨rfl, Below.refl _ _⟩
    · rw [if_neg h2]
      have d2 : (op == 7) = false := by rw [beq_eq_false_iff_ne]; exact h2
      by_cases h3 : op = 14
      · subst h3
        go_enter Tryz.func45, Tryz.ntmps45
        go_wp2
        go_ret
        exact ⟨rfl, Below.refl _ _⟩
      · rw [if_neg h3]
        have d3 : (op == 14) = false := by rw [beq_eq_false_iff_ne]; exact h3
        by_cases h4 : op = 15
        · subst h4
          go_enter Tryz.func45, Tryz.ntmps45
          go_wp2
          go_ret
          exact ⟨rfl, Below.refl _ _⟩
        · rw [if_neg h4]
          have d4 : (op == 15) = false := by rw [beq_eq_false_iff_ne]; exact h4
          clear h1 h2 h3 h4
          go_enter Tryz.func45, Tryz.ntmps45
          go_wp2
          go_ret
          exact ⟨rfl, Below.refl _ _⟩
theorem nsN_le (op : Int) : nsN op ≤ 4 := by unfold nsN; repeat (split <;> try omega)
mutual
/-- a term with what F has at its names, without places -/
def rp (F : ByteArray → Int → Option Tm) : Tm → Tm
  | .node op nm n _ _ ks => if nsN op = 0 then .node op nm n none 0 (rps F ks) else match F nm (nsN op) with
    | some x => x.er
    | none => .node op nm n none 0 (Tm.ers ks)
def rps (F : ByteArray → Int → Option Tm) : List Tm → List Tm
  | [] => []
  | t :: ts => rp F t :: rps F ts
end
theorem rps_map (F : ByteArray → Int → Option Tm) : ∀ ks : List Tm, rps F ks = ks.map (rp F)
  | [] => rfl
  | k :: ks => by simp only [rps, rps_map F ks, List.map_cons]
theorem rp_part {F : ByteArray → Int → Option Tm} {t : Tm} (h : nsN t.op = 0) : rp F t = .node t.op t.nm t.n none 0 (t.ks.map (rp F)) := by
  cases t with
  | node op nm n a c ks =>
    have h : nsN op = 0 := h
    rw [rp, if_pos h, rps_map]; rfl
theorem rp_name {F : ByteArray → Int → Option Tm} {t : Tm} (h : nsN t.op ≠ 0) : rp F t = (match F t.nm (nsN t.op) with | some x => x.er | none => t.er) := by
  cases t with
  | node op nm n a c ks =>
    have h : nsN op ≠ 0 := h
    rw [rp, if_neg h]
    show _ = (match F nm (nsN op) with | some x => x.er | none => Tm.er (.node op nm n a c ks))
    rw [er_eq]
    simp only [Tm.op, Tm.nm, Tm.n, Tm.ks, ers_map]
/-- all that it is made of stands below B0, or from block lo on -/
inductive TB (B0 lo : Nat) : Tm → Prop
  | mk (t : Tm) (h : t.ks ≠ [] → ∀ p, t.a = some p → p.block < B0 ∨ lo ≤ p.block) (hk : ∀ k ∈ t.ks, TB B0 lo k) : TB B0 lo t
theorem TB.mono {B0 lo lo' : Nat} (hl : lo' ≤ lo) {t : Tm} (h : TB B0 lo t) : TB B0 lo' t := by
  induction t using Tm.ind with
  | h t ih =>
    cases h with
    | mk _ h hk => exact .mk t (fun hn p hp => (h hn p hp).imp id (fun e => Nat.le_trans hl e)) (fun k hk' => ih k hk' (hk k hk'))
theorem TB.of_in {w : World} {B0 lo : Nat} {t : Tm} (h : TIn w B0 t) : TB B0 lo t := by
  induction t using Tm.ind with
  | h t ih =>
    cases h with
    | mk _ ho hn hs hc hm hk hi =>
      refine .mk t (fun hne p hp => ?_) (fun k hk' => ih k hk' (hi k hk'))
      obtain ⟨b, o, ha, hb, -⟩ := hk 0 (by cases hks : t.ks with | nil => exact absurd hks hne | cons => simp)
      rw [ha] at hp
      cases hp
      exact .inl hb
theorem TIn.setMid {w : World} {B B0 lo : Nat} {t : Tm} {p : Addr} (h : TIn w B t) (hf : TB B0 lo t) (h0 : B0 ≤ p.block) (hp : p.block < lo) (u : Value) : TIn (w.setCell p u) B t := by
  induction t using Tm.ind with
  | h t ih =>
    cases h with
    | mk _ ho hn hs hc hm hk hi =>
      cases hf with
      | mk _ h' hk' =>
        refine .mk t ho hn hs hc hm (fun j hj => ?_) (fun k hk'' => ih k hk'' (hi k hk'') (hk' k hk''))
        obtain ⟨b, o, ha, hb, f⟩ := hk j hj
        have hlo := h' (by intro e; rw [e] at hj; simp at hj) _ ha
        simp only at hlo
        refine ⟨b, o, ha, hb, ?_⟩
        have e : ∀ q, (w.setCell p u).cell? ⟨b, q, none⟩ = w.cell? ⟨b, q, none⟩ := fun q => World.cell?_of_block (w := w) (Below.heap_setCell w p u b (by omega))
        unfold Four
        rw [e, e, e, e]
        exact f
/-- the parts that are done: the row in block R, its first parts -/
structure CQ (B0 : Nat) (W3 : World) (R n : Nat) (l : List Tm) (w : World) : Prop where
  but : But R W3 w
  row : ∃ xs : List Value, w.ownsRow R 24 4 (.slice (some ⟨R, 0, none⟩) n n) n xs ∧ ∀ m (hm : m < l.length) i, i < 4 → xs[m * 4 + i]? = (tm4 l[m])[i]?
  tin : ∀ x ∈ l, TIn w w.heap.size x
  fr : ∀ x ∈ l, TB B0 W3.heap.size x
theorem CQ.later {W3 w w' : World} {B0 R n : Nat} {l : List Tm} (h : CQ B0 W3 R n l w) (hb : Below w.heap.size w w') : CQ B0 W3 R n l w' := by
  obtain ⟨xs, ho, hx⟩ := h.row
  refine ⟨h.but.trans (But.of hb), ⟨xs, ?_, hx⟩, fun x hx => (h.tin x hx).later hb, h.fr⟩
  refine ⟨ho.1, ?_⟩
  rcases ho.2 with h0 | ⟨g, cap, cur, hv, hbg, hg, hr⟩
  · exact .inl h0
  · exact .inr ⟨g, cap, cur, hv, hbg, by rw [hb.block g (Array.getElem?_eq_some_iff.1 hg).1]; exact hg, hr⟩
theorem CQ.four {W3 w : World} {B0 R n : Nat} {l : List Tm} (h : CQ B0 W3 R n l w) (hl : l.length ≤ n) (m : Nat) (hm : m < l.length) : Four w R (m * 4) l[m] := by
  obtain ⟨xs, ho, hx⟩ := h.row
  have c : ∀ i, i < 4 → w.cell? ⟨R, m * 4 + i, none⟩ = (tm4 l[m])[i]? := fun i hi => by rw [ho.cellAt (m * 4 + i) (by omega), hx m hm i hi]
  exact ⟨c 0 (by omega), c 1 (by omega), c 2 (by omega), c 3 (by omega)⟩
theorem CQ.there {W3 w : World} {B0 R n : Nat} {l : List Tm} (h : CQ B0 W3 R n l w) (k : Nat) (hk : k < n * 4) : ∃ u, w.cell? ⟨R, k, none⟩ = some u ∧ w.frozen? ⟨R, k, none⟩ = false := by
  obtain ⟨xs, ho, -⟩ := h.row
  refine ⟨xs[k]'(by rw [ho.1]; exact hk), ?_, ho.frozenAt k⟩
  rw [ho.cellAt k hk]
  exact List.getElem?_eq_getElem _
theorem CQ.store {W3 w : World} {B0 R n : Nat} {l : List Tm} (h : CQ B0 W3 R n l w) (hl : l.length < n) (hB : B0 ≤ R) (hR : R < W3.heap.size) {x : Tm} (hx : TIn w w.heap.size x) (hf : TB B0 W3.heap.size x) :
    CQ B0 W3 R n (l ++ [x]) ((((w.setCell ⟨R, l.length * 4, none⟩ (.int .i64 x.op)).setCell ⟨R, l.length * 4 + 1, none⟩ (.string x.nm)).setCell ⟨R, l.length * 4 + 2, none⟩ (.int .i64 x.n)).setCell ⟨R, l.length * 4 + 3, none⟩ (.slice x.a x.ks.length x.c)) := by
  obtain ⟨xs, ho, hxs⟩ := h.row
  have r1 := (ho.stored (l.length * 4) (.int .i64 x.op)).1
  have r2 := (r1.stored (l.length * 4 + 1) (.string x.nm)).1
  have r3 := (r2.stored (l.length * 4 + 2) (.int .i64 x.n)).1
  have r4 := (r3.stored (l.length * 4 + 3) (.slice x.a x.ks.length x.c)).1
  have hlen : xs.length = n * 4 := ho.1
  have set4 : ∀ y : Tm, TIn w w.heap.size y → TB B0 W3.heap.size y → TIn ((((w.setCell ⟨R, l.length * 4, none⟩ (.int .i64 x.op)).setCell ⟨R, l.length * 4 + 1, none⟩ (.string x.nm)).setCell ⟨R, l.length * 4 + 2, none⟩ (.int .i64 x.n)).setCell ⟨R, l.length * 4 + 3, none⟩ (.slice x.a x.ks.length x.c)) w.heap.size y := fun y hy hfy =>
    (((hy.setMid hfy (p := ⟨R, _, none⟩) hB hR _).setMid hfy (p := ⟨R, _, none⟩) hB hR _).setMid hfy (p := ⟨R, _, none⟩) hB hR _).setMid hfy (p := ⟨R, _, none⟩) hB hR _
  refine ⟨(((h.but.set (p := ⟨R, _, none⟩) (.inl rfl) _).set (p := ⟨R, _, none⟩) (.inl rfl) _).set (p := ⟨R, _, none⟩) (.inl rfl) _).set (p := ⟨R, _, none⟩) (.inl rfl) _, ⟨_, r4, fun m hm i hi => ?_⟩, fun y hy => ?_, fun y hy => ?_⟩
  · simp only [List.getElem?_set, List.length_set]
    by_cases hml : m < l.length
    · rw [if_neg (by omega), if_neg (by omega), if_neg (by omega), if_neg (by omega), hxs m hml i hi, List.getElem_append_left hml]
    · have hml : m = l.length := by simp at hm; omega
      subst hml
      rw [List.getElem_append_right (by omega)]
      simp only [Nat.sub_self, List.getElem_cons_zero]
      match i, hi with
      | 0, _ => rw [if_neg (by omega), if_neg (by omega), if_neg (by omega), if_pos (by omega), if_pos (by omega)]; rfl
      | 1, _ => rw [if_neg (by omega), if_neg (by omega), if_pos (by omega), if_pos (by omega)]; rfl
      | 2, _ => rw [if_neg (by omega), if_pos (by omega), if_pos (by omega)]; rfl
      | 3, _ => rw [if_pos (by omega), if_pos (by omega)]; rfl
  · have hs : ((((w.setCell ⟨R, l.length * 4, none⟩ (.int .i64 x.op)).setCell ⟨R, l.length * 4 + 1, none⟩ (.string x.nm)).setCell ⟨R, l.length * 4 + 2, none⟩ (.int .i64 x.n)).setCell ⟨R, l.length * 4 + 3, none⟩ (.slice x.a x.ks.length x.c)).heap.size = w.heap.size := by simp
    rw [hs]
    rcases List.mem_append.1 hy with hy | hy
    · exact set4 y (h.tin y hy) (h.fr y hy)
    · rw [List.mem_singleton.1 hy]; exact set4 x hx hf
  · rcases List.mem_append.1 hy with hy | hy
    · exact h.fr y hy
    · rw [List.mem_singleton.1 hy]; exact hf
theorem CQ.start {w : World} {B0 : Nat} {cs : Array Value} {n : Nat} (hc : cs.size = n * 4) (hn : n ≤ 2000) : CQ B0 (w.alloc (.cells cs 24)) w.heap.size n [] (w.alloc (.cells cs 24)) :=
  ⟨But.refl _ _, ⟨_, World.ownsRow_lit w cs n (Nat.le_refl _) (by unfold maxLen; omega) hc, fun m hm => by simp at hm⟩, fun x hx => (by cases hx), fun x hx => (by cases hx)⟩
theorem PMap.later {w w' : World} {b n : Nat} {f : ByteArray → Int → Option Value} (h : PMap w b n f) (hb : Below w.heap.size w w') : PMap w' b n f := by
  obtain ⟨D, ⟨es, clock, he, hr⟩, hf⟩ := h
  refine ⟨D, ⟨es, clock, ?_, hr⟩, hf⟩
  rw [hb.block b (Array.getElem?_eq_some_iff.1 he).1]
  exact he
/-- what replace answers -/
def RepT (F : ByteArray → Int → Option Tm) (B0 : Nat) (t : Tm) (w : World) (e : Ending) (w' : World) : Prop := ∃ x : Tm, e = .returned x.val ∧ x.er = rp F t ∧ TIn w' w'.heap.size x ∧ TB B0 w.heap.size x ∧ Below w.heap.size w w'
/-- the map and its terms -/
structure MF (F : ByteArray → Int → Option Tm) (b n B0 : Nat) (w : World) : Prop where
  m : PMap w b n (fun nm s => (F nm s).map Tm.val)
  t : ∀ nm s x, F nm s = some x → TIn w B0 x
  b : b < B0
  B : B0 ≤ w.heap.size
theorem MF.keep {F : ByteArray → Int → Option Tm} {b n B0 : Nat} {w w' : World} (h : MF F b n B0 w) (hb : Below B0 w w') (hs : w.heap.size ≤ w'.heap.size) : MF F b n B0 w' := by
  refine ⟨?_, fun nm s x hx => (h.t nm s x hx).keep hb, h.b, Nat.le_trans h.B hs⟩
  obtain ⟨D, ⟨es, clock, he, hr⟩, hf⟩ := h.m
  refine ⟨D, ⟨es, clock, ?_, hr⟩, hf⟩
  rw [hb.block b h.b]
  exact he
theorem MF.later {F : ByteArray → Int → Option Tm} {b n B0 : Nat} {w w' : World} (h : MF F b n B0 w) (hb : Below w.heap.size w w') : MF F b n B0 w' := h.keep (hb.mono h.B) hb.size
set_option maxRecDepth 100000 in
set_option maxHeartbeats 4000000 in
theorem replace_name (F : ByteArray → Int → Option Tm) (b n B0 : Nat) (t : Tm) (w : World) (hin : TIn w B0 t) (hM : MF F b n B0 w) (hs : nsN t.op ≠ 0) :
    Calls Tryz.prog 28 #[t.val, .map (some b)] w (RepT F B0 t w) := by
  have hb2 : Below w.heap.size w (cpW t w) := bal (bal (Below.refl _ _) _) _
  have F2 : Four (cpW t w) w.heap.size 0 t := (box_four w t).later (bel_alloc _ _)
  have FR : FourV' (cpW t w) (w.heap.size + 1) (.int .i64 0) (.string ⟨#[]⟩) (.int .i64 0) (.slice none 0 0) := by simp [FourV', cpW, boxT, go_sem]
  have NS := mkHid (nameSort_any t.op (cpW t w))
  have hle := nsN_le t.op
  have hne : ((nsN t.op : Int) != 0) = true := by rw [bne_iff_ne]; omega
  have hM2 := hM.later hb2
  have hnm := hin.nums.2.2.1
  have HIN := mkHid hin
  have HM := mkHid hM
  have HS := mkHid hs
  have hfit : fitB (nsN t.op : Int) = true := by rw [fitB_iff]; omega
  have HRP := mkHid (rp_name (F := F) hs)
  have hW2 : (w.alloc (.cells #[.int .i64 t.op, .string t.nm, .int .i64 t.n, .slice t.a t.ks.length t.c] 24)).alloc (.cells #[.int .i64 0, .string ⟨#[]⟩, .int .i64 0, .slice none 0 0] 24) = cpW t w := rfl
  clear hin hM hs
  generalize cpW t w = W2 at *
  unfold Tm.val
  obtain ⟨a0, a1, a2, a3⟩ := id F2
  simp only [Nat.zero_add] at a1 a2 a3
  generalize nsN t.op = s at *
  go_enter Tryz.func28, Tryz.ntmps28
  go_wp2_with fail
  ((with_reducible refine NS.out.mono ?_)); rintro e w3 ⟨rfl, hb3⟩
  clear a0 a1 a2 a3 hW2 NS
  have B3 := bon hb2 hb3
  have M3 := hM2.later hb3
  have hlk := M3.m.look hnm hfit
  unfold tgt at hlk
  obtain ⟨a0, a1, a2, a3⟩ := F2.later hb3
  simp only [Nat.zero_add] at a1 a2 a3
  obtain ⟨r0, r1, r2, r3, r4, r5, r6, r7⟩ := FR.later hb3
  have l0 := World.block_lt_of_cell? _ _ a0
  have l1 := World.block_lt_of_cell? _ _ r0
  simp only at l0 l1
  have hne1 : ¬ w.heap.size = w3.heap.size := by omega
  cases hF : F t.nm (s : Int) with
  | none =>
    rw [hF] at hlk HRP
    simp only [Option.map_none, Option.getD_none, Option.isSome_none, zeroT] at hlk
    go_wp2
    have hbel : Below w.heap.size w (((((w3.setCell ⟨w.heap.size + 1, 0, none⟩ (.int .i64 t.op)).setCell ⟨w.heap.size + 1, 1, none⟩ (.string t.nm)).setCell ⟨w.heap.size + 1, 2, none⟩ (.int .i64 t.n)).setCell ⟨w.heap.size + 1, 3, none⟩ (.slice t.a t.ks.length t.c)).alloc (.cells #[.int .i64 0, .string ⟨#[]⟩, .int .i64 0, .slice none 0 0] 24)) := bal (bset (bset (bset (bset B3 (by show w.heap.size ≤ w.heap.size + 1; omega) _) (by show w.heap.size ≤ w.heap.size + 1; omega) _) (by show w.heap.size ≤ w.heap.size + 1; omega) _) (by show w.heap.size ≤ w.heap.size + 1; omega) _) _
    refine bodyPost_ret (v := .agg #[.int .i64 t.op, .string t.nm, .int .i64 t.n, .slice t.a t.ks.length t.c]) (by simp [results, Tryz.results28, go_sem, r0, r1, r2, r3, l1]) rfl ⟨t, rfl, HRP.out.symm, ?_, TB.of_in HIN.out, hbel⟩
    exact (TIn.keep HIN.out (hbel.mono HM.out.B)).mono (Nat.le_trans HM.out.B hbel.size)
  | some x =>
    rw [hF] at hlk HRP
    simp only [Option.map_some, Option.getD_some, Option.isSome_some, Tm.val] at hlk
    have hx := HM.out.t _ _ _ hF
    go_wp2
    have hbel : Below w.heap.size w (((((w3.setCell ⟨w.heap.size + 1, 0, none⟩ (.int .i64 x.op)).setCell ⟨w.heap.size + 1, 1, none⟩ (.string x.nm)).setCell ⟨w.heap.size + 1, 2, none⟩ (.int .i64 x.n)).setCell ⟨w.heap.size + 1, 3, none⟩ (.slice x.a x.ks.length x.c)).alloc (.cells #[.int .i64 x.op, .string x.nm, .int .i64 x.n, .slice x.a x.ks.length x.c] 24)) := bal (bset (bset (bset (bset B3 (by show w.heap.size ≤ w.heap.size + 1; omega) _) (by show w.heap.size ≤ w.heap.size + 1; omega) _) (by show w.heap.size ≤ w.heap.size + 1; omega) _) (by show w.heap.size ≤ w.heap.size + 1; omega) _) _
    refine bodyPost_ret (v := .agg #[.int .i64 x.op, .string x.nm, .int .i64 x.n, .slice x.a x.ks.length x.c]) (by simp [results, Tryz.results28, go_sem, r0, r1, r2, r3, l1]) rfl ⟨x, rfl, HRP.out.symm, ?_, TB.of_in hx, hbel⟩
    exact (TIn.keep hx (hbel.mono HM.out.B)).mono (Nat.le_trans HM.out.B hbel.size)
set_option maxRecDepth 100000 in
set_option maxHeartbeats 4000000 in
theorem replace_any (F : ByteArray → Int → Option Tm) (b n0 B0 : Nat) (t : Tm) : ∀ w : World, TIn w B0 t → MF F b n0 B0 w → t.size ≤ 2000 → Calls Tryz.prog 28 #[t.val, .map (some b)] w (RepT F B0 t w) := by
  induction t using Tm.ind with
  | h t ih =>
  intro w hin hM hz
  by_cases hs : nsN t.op = 0
  · have hsz := Tm.size_eq t
    have hkl : t.ks.length ≤ 2000 := by
      have := len_sizes t.ks
      omega
    obtain ⟨cs, hcs, hmk⟩ := made_terms t.ks.length hkl
    have hb2 : Below w.heap.size w (cpW t w) := bal (bal (Below.refl _ _) _) _
    have F2 : Four (cpW t w) w.heap.size 0 t := (box_four w t).later (bel_alloc _ _)
    have f2 : (cpW t w).frozen? ⟨w.heap.size, 3, none⟩ = false := by simp [cpW, boxT, go_sem]
    have FR : FourV' (cpW t w) (w.heap.size + 1) (.int .i64 0) (.string ⟨#[]⟩) (.int .i64 0) (.slice none 0 0) := by simp [FourV', cpW, boxT, go_sem]
    have hX2 : (cpW t w).heap.size = w.heap.size + 1 + 1 := by simp [cpW]
    have NS := mkHid (nameSort_any t.op (cpW t w))
    rw [hs] at NS
    have HRP := mkHid (rp_part (F := F) hs)
    have HIN := mkHid hin
    have IH := mkHid ih
    have HZ := mkHid hz
    have HCS := mkHid hcs
    have HX2 := mkHid hX2
    have HM := mkHid hM
    have hW2 : (w.alloc (.cells #[.int .i64 t.op, .string t.nm, .int .i64 t.n, .slice t.a t.ks.length t.c] 24)).alloc (.cells #[.int .i64 0, .string ⟨#[]⟩, .int .i64 0, .slice none 0 0] 24) = cpW t w := rfl
    clear hin ih hz hcs hX2 hs hM
    generalize cpW t w = W2 at *
    unfold Tm.val
    generalize hn' : t.ks.length = n at *
    have HN := mkHid hn'
    clear hn'
    have hn9 : n ≤ 9223372036854775807 := by omega
    obtain ⟨a0, a1, a2, a3⟩ := id F2
    simp only [Nat.zero_add] at a1 a2 a3
    rw [HN.out] at a3
    go_enter Tryz.func28, Tryz.ntmps28
    go_wp2_with fail
    ((with_reducible refine NS.out.mono ?_)); rintro e w3 ⟨rfl, hb3⟩
    clear a0 a1 a2 a3 hW2 NS
    have C0 := CQ.start (B0 := B0) (w := w3) HCS.out hkl
    have b3 := bon hb3 (bel_alloc w3 (.cells cs 24))
    have F3 := F2.later b3
    have f3 := frozen_later b3 F2.2.2.2 (by rw [Nat.zero_add]; exact f2)
    have FR3 := FR.later b3
    have BB3 := bon hb2 b3
    have a3' := (F2.later hb3).2.2.2
    simp only [Nat.zero_add] at a3'
    rw [HN.out] at a3'
    have hRl : w3.heap.size < (w3.alloc (.cells cs 24)).heap.size := by simp
    have hRX : w.heap.size + 1 < w3.heap.size := by have := hb3.size; rw [HX2.out] at this; omega
    clear F2 f2 FR hb2 b3 hb3
    generalize hW3 : w3.alloc (.cells cs 24) = W3 at *
    obtain ⟨a0, a1, a2, a3⟩ := id F3
    simp only [Nat.zero_add] at a1 a2 a3 f3
    rw [HN.out] at a3
    generalize hRR : w3.heap.size = R at *
    have HF3 := mkHid F3
    have HFR3 := mkHid FR3
    have hBR : B0 ≤ R := by have := HM.out.B; omega
    go_wp2
    clear a0 a1 a2 a3 a3' hW3 hmk
    go_loopw [35] (fun i w' => ∃ (k : Nat) (x : Int), i = .int .i64 x ∧ x = k ∧ k ≤ n ∧ ∃ l, CQ B0 W3 R n l w' ∧ l.map Tm.er = (t.ks.take k).map (rp F)) (fun i _ => (n - intOf i).toNat)
    case atStart => exact ⟨0, 0, rfl, rfl, Nat.zero_le _, [], C0, by simp⟩
    case round =>
      clear C0
      obtain ⟨k, x, rfl, hxk, hk, l, c, hl⟩ := hrel
      obtain rfl : x = (k : Int) := hxk
      have hll : l.length = k := by have := congrArg List.length hl; simpa [HN.out, Nat.min_eq_left hk] using this
      by_cases hlt : k < n
      · have hk' : k < t.ks.length := by rw [HN.out]; exact hlt
        obtain ⟨kin, b, o, ha, hbB, kf⟩ := HIN.out.kid k hk'
        have bW : Below w.heap.size w wr := BB3.trans (c.but.below (by omega) (by omega))
        have kf' := kf.keep (bW.mono HM.out.B) hbB
        have kin' := kin.keep (bW.mono HM.out.B)
        have hks : t.ks[k].size ≤ 2000 := by
          have h1 := sizes_take_le t.ks (k + 1)
          rw [take_succ_sizes t.ks k hk'] at h1
          have := HZ.out
          omega
        have HC := mkHid (IH.out t.ks[k] (List.getElem_mem _) (wr.alloc (boxT t.ks[k])) (kin'.keep ((bel_alloc _ _).mono (Nat.le_trans HM.out.B bW.size))) (HM.out.later (bon bW (bel_alloc _ _))) hks)
        have HT := mkHid (List.take_succ_eq_append_getElem hk')
        generalize t.ks[k] = q at *
        rw [ha]
        clear ha kin kf kin' hk' hks
        obtain ⟨g0, g1, g2, g3⟩ := kf'
        have F4 := box_four wr q
        have bN := bel_alloc wr (boxT q)
        have HCN := mkHid (c.later bN)
        have hW5 : wr.alloc (.cells #[.int .i64 q.op, .string q.nm, .int .i64 q.n, .slice q.a q.ks.length q.c] 24) = wr.alloc (boxT q) := rfl
        have hzr : W3.heap.size ≤ (wr.alloc (boxT q)).heap.size := Nat.le_trans c.but.size bN.size
        unfold Tm.val at HC
        generalize wr.alloc (boxT q) = W5 at *
        obtain ⟨f0, f1, f2, f3'⟩ := F4
        simp only [Nat.zero_add] at f1 f2 f3'
        have hk2 : (k : Int) < (n : Int) := by omega
        go_wp2_with fail
        ((with_reducible refine HC.out.mono ?_)); rintro e w6 ⟨z, rfl, hz1, hz2, hz3, hb6⟩
        clear g0 g1 g2 g3 f0 f1 f2 f3' hW5 HC
        have c6 := HCN.out.later hb6
        have hz3' := hz3.mono hzr
        obtain ⟨e0, t0, s0⟩ := c6.there (k * 4) (by omega)
        obtain ⟨e1, t1, s1⟩ := c6.there (k * 4 + 1) (by omega)
        obtain ⟨e2, t2, s2⟩ := c6.there (k * 4 + 2) (by omega)
        obtain ⟨e3, t3, s3⟩ := c6.there (k * 4 + 3) (by omega)
        have c7 := c6.store (by omega) hBR hRl hz2 hz3'
        rw [hll] at c7
        have HC7 := mkHid c7
        clear c6 c7 c
        unfold Tm.val
        go_wp2
        go_roundw
        case rel => exact ⟨k + 1, _, rfl, by omega, by omega, _, HC7.out, by rw [HT.out, List.map_append, List.map_append, hl]; simp [hz1]⟩
        case measure => simp [intOf]; omega
      · obtain rfl : k = n := by omega
        have HL : Hid (l.map Tm.er = t.ks.map (rp F)) := by
          show _ = _
          rw [hl, List.take_of_length_le (by rw [HN.out]; omega)]
        have HC := mkHid c
        have cell : ∀ {p : Addr} {v : Value}, W3.cell? p = some v → p.block ≠ R → wr.cell? p = some v := fun h hp => c.but.cell h hp
        have hXR : w.heap.size ≠ R := by omega
        have hX1R : w.heap.size + 1 ≠ R := by omega
        obtain ⟨u0, u1, u2, u3⟩ := HF3.out
        simp only [Nat.zero_add] at u1 u2 u3
        rw [HN.out] at u3
        have v0 := cell u0 hXR
        have v1 := cell u1 hXR
        have v2 := cell u2 hXR
        have v3 := cell u3 hXR
        have v4 := c.but.frozen u3 hXR f3
        obtain ⟨r0, r1, r2, r3, r4, r5, r6, r7⟩ := HFR3.out
        have m0 := cell r0 hX1R
        have m1 := cell r1 hX1R
        have m2 := cell r2 hX1R
        have m3 := cell r3 hX1R
        have m4 := c.but.frozen r0 hX1R r4
        have m5 := c.but.frozen r1 hX1R r5
        have m6 := c.but.frozen r2 hX1R r6
        have m7 := c.but.frozen r3 hX1R r7
        have bW : Below w.heap.size w wr := BB3.trans (c.but.below (by omega) (by omega))
        clear cell u0 u1 u2 u3 r0 r1 r2 r3 r4 r5 r6 r7 hl c
        go_wp2
        have hX3l : w.heap.size < W3.heap.size := by omega
        have hX4l : w.heap.size + 1 < W3.heap.size := by omega
        have hsz5 : (((((wr.setCell ⟨w.heap.size, 3, none⟩ (.slice (some ⟨R, 0, none⟩) k k)).setCell ⟨w.heap.size + 1, 0, none⟩ (.int .i64 t.op)).setCell ⟨w.heap.size + 1, 1, none⟩ (.string t.nm)).setCell ⟨w.heap.size + 1, 2, none⟩ (.int .i64 t.n)).setCell ⟨w.heap.size + 1, 3, none⟩ (.slice (some ⟨R, 0, none⟩) k k)).heap.size = wr.heap.size := by simp
        have hblk : (((((wr.setCell ⟨w.heap.size, 3, none⟩ (.slice (some ⟨R, 0, none⟩) k k)).setCell ⟨w.heap.size + 1, 0, none⟩ (.int .i64 t.op)).setCell ⟨w.heap.size + 1, 1, none⟩ (.string t.nm)).setCell ⟨w.heap.size + 1, 2, none⟩ (.int .i64 t.n)).setCell ⟨w.heap.size + 1, 3, none⟩ (.slice (some ⟨R, 0, none⟩) k k)).heap[R]? = wr.heap[R]? := by
          rw [Below.heap_setCell _ ⟨w.heap.size + 1, 3, none⟩ _ R (fun e => hX1R e.symm), Below.heap_setCell _ ⟨w.heap.size + 1, 2, none⟩ _ R (fun e => hX1R e.symm), Below.heap_setCell _ ⟨w.heap.size + 1, 1, none⟩ _ R (fun e => hX1R e.symm), Below.heap_setCell _ ⟨w.heap.size + 1, 0, none⟩ _ R (fun e => hX1R e.symm), Below.heap_setCell _ ⟨w.heap.size, 3, none⟩ _ R (fun e => hXR e.symm)]
        have htin : ∀ y ∈ l, TIn (((((wr.setCell ⟨w.heap.size, 3, none⟩ (.slice (some ⟨R, 0, none⟩) k k)).setCell ⟨w.heap.size + 1, 0, none⟩ (.int .i64 t.op)).setCell ⟨w.heap.size + 1, 1, none⟩ (.string t.nm)).setCell ⟨w.heap.size + 1, 2, none⟩ (.int .i64 t.n)).setCell ⟨w.heap.size + 1, 3, none⟩ (.slice (some ⟨R, 0, none⟩) k k)) wr.heap.size y := fun y hy =>
          (((((HC.out.tin y hy).setMid (HC.out.fr y hy) (p := ⟨w.heap.size, 3, none⟩) HM.out.B hX3l _).setMid (HC.out.fr y hy) (p := ⟨w.heap.size + 1, 0, none⟩) (Nat.le_succ_of_le HM.out.B) hX4l _).setMid (HC.out.fr y hy) (p := ⟨w.heap.size + 1, 1, none⟩) (Nat.le_succ_of_le HM.out.B) hX4l _).setMid (HC.out.fr y hy) (p := ⟨w.heap.size + 1, 2, none⟩) (Nat.le_succ_of_le HM.out.B) hX4l _).setMid (HC.out.fr y hy) (p := ⟨w.heap.size + 1, 3, none⟩) (Nat.le_succ_of_le HM.out.B) hX4l _
        have hbel : Below w.heap.size w (((((wr.setCell ⟨w.heap.size, 3, none⟩ (.slice (some ⟨R, 0, none⟩) k k)).setCell ⟨w.heap.size + 1, 0, none⟩ (.int .i64 t.op)).setCell ⟨w.heap.size + 1, 1, none⟩ (.string t.nm)).setCell ⟨w.heap.size + 1, 2, none⟩ (.int .i64 t.n)).setCell ⟨w.heap.size + 1, 3, none⟩ (.slice (some ⟨R, 0, none⟩) k k)) := bset (bset (bset (bset (bset bW (by show w.heap.size ≤ w.heap.size; omega) _) (by show w.heap.size ≤ w.heap.size + 1; omega) _) (by show w.heap.size ≤ w.heap.size + 1; omega) _) (by show w.heap.size ≤ w.heap.size + 1; omega) _) (by show w.heap.size ≤ w.heap.size + 1; omega) _
        obtain ⟨ho, hn, hs, -, -⟩ := HIN.out.nums
        have hRw : R < wr.heap.size := Nat.lt_of_lt_of_le hRl HC.out.but.size
        refine bodyPost_ret (v := .agg #[.int .i64 t.op, .string t.nm, .int .i64 t.n, .slice (some ⟨R, 0, none⟩) k k]) (by simp [results, Tryz.results28, go_sem, m0, m1, m2, m3]) rfl ⟨.node t.op t.nm t.n (some ⟨R, 0, none⟩) k l, ?_, ?_, ?_, ?_, hbel⟩
        · simp only [Tm.val, Tm.op, Tm.nm, Tm.n, Tm.a, Tm.ks, Tm.c, hll]
        · rw [er_eq, HRP.out]
          simp only [Tm.op, Tm.nm, Tm.n, Tm.ks, HL.out]
        · rw [hsz5]
          refine .mk _ ho hn hs (by show l.length ≤ k; omega) (by show k ≤ maxLen; unfold maxLen; omega) (fun j hj => ⟨R, 0, rfl, hRw, ?_⟩) htin
          have f := HC.out.four (by omega) j hj
          have e : ∀ q, (((((wr.setCell ⟨w.heap.size, 3, none⟩ (.slice (some ⟨R, 0, none⟩) k k)).setCell ⟨w.heap.size + 1, 0, none⟩ (.int .i64 t.op)).setCell ⟨w.heap.size + 1, 1, none⟩ (.string t.nm)).setCell ⟨w.heap.size + 1, 2, none⟩ (.int .i64 t.n)).setCell ⟨w.heap.size + 1, 3, none⟩ (.slice (some ⟨R, 0, none⟩) k k)).cell? ⟨R, q, none⟩ = wr.cell? ⟨R, q, none⟩ := fun q => World.cell?_of_block (w := wr) hblk
          rw [Nat.zero_add]
          unfold Four
          rw [e, e, e, e]
          exact f
        · refine .mk _ (fun _ p hp => ?_) (fun y hy => (HC.out.fr y hy).mono (by omega))
          simp only [Tm.a, Option.some.injEq] at hp
          subst hp
          right
          show w.heap.size ≤ R
          omega
  · exact replace_name F b n0 B0 t w hin hM hs
end
section
open Go.RowKit

mutual
def Tm.sm : Nat → Tm → Tm → Bool
  | l, .node o s n _ _ ks, u => decide (l ≤ 100) && decide (o = u.op) && decide (s = u.nm) && decide (n = u.n) && Tm.sms (l + 1) ks u.ks
def Tm.sms : Nat → List Tm → List Tm → Bool
  | _, [], [] => true
  | l, t :: ts, u :: us => Tm.sm l t u && Tm.sms l ts us
  | _, [], _ :: _ => false
  | _, _ :: _, [] => false
end
theorem sm_eq (l : Nat) (t u : Tm) : Tm.sm l t u = (decide (l ≤ 100) && decide (t.op = u.op) && decide (t.nm = u.nm) && decide (t.n = u.n) && Tm.sms (l + 1) t.ks u.ks) := by
  cases t with
  | node => rw [Tm.sm]; rfl
theorem sms_len {l : Nat} {ts us : List Tm} (h : Tm.sms l ts us = true) : ts.length = us.length := by
  induction ts generalizing us with
  | nil => cases us with
    | nil => rfl
    | cons u us => simp [Tm.sms] at h
  | cons t ts ih => cases us with
    | nil => simp [Tm.sms] at h
    | cons u us =>
      simp only [Tm.sms, Bool.and_eq_true] at h
      simp [ih h.2]
theorem sms_get {l : Nat} {ts us : List Tm} (h : Tm.sms l ts us = true) (k : Nat) (h1 : k < ts.length) (h2 : k < us.length) : Tm.sm l ts[k] us[k] = true := by
  induction ts generalizing us k with
  | nil => simp at h1
  | cons t ts ih => cases us with
    | nil => simp at h2
    | cons u us =>
      simp only [Tm.sms, Bool.and_eq_true] at h
      cases k with
      | zero => simpa using h.1
      | succ k => simpa using ih h.2 k (by simpa using h1) (by simpa using h2)
theorem sms_all {l : Nat} {ts us : List Tm} (hl : ts.length = us.length) (h : ∀ k (h1 : k < ts.length) (h2 : k < us.length), Tm.sm l ts[k] us[k] = true) : Tm.sms l ts us = true := by
  induction ts generalizing us with
  | nil => cases us with
    | nil => simp [Tm.sms]
    | cons u us => simp at hl
  | cons t ts ih => cases us with
    | nil => simp at hl
    | cons u us =>
      simp only [Tm.sms, Bool.and_eq_true]
      exact ⟨h 0 (by simp) (by simp), ih (by simpa using hl) (fun k h1 h2 => h (k + 1) (by simpa using h1) (by simpa using h2))⟩
theorem deep_mem {ks : List Tm} {k : Tm} (h : k ∈ ks) : k.deep ≤ Tm.deeps ks := by
  induction ks with
  | nil => simp at h
  | cons t ts ih =>
    simp only [Tm.deeps]
    rcases List.mem_cons.1 h with rfl | h
    · omega
    · have := ih h; omega
theorem sm_refl (t : Tm) : ∀ l, l + t.deep ≤ 101 → Tm.sm l t t = true := by
  induction t using Tm.ind with
  | h t ih =>
    intro l hl
    rw [Tm.deep_eq] at hl
    rw [sm_eq]
    have : Tm.sms (l + 1) t.ks t.ks = true := sms_all rfl (fun k h1 h2 => ih _ (List.getElem_mem _) _ (by have := deep_mem (List.getElem_mem h1); omega))
    rw [this]
    simp; omega
end
section
open Go.RowKit

/-- the five cells of a name that stands for itself -/
def asg (x : ByteArray × Int) : List Value := [.string x.1, .int .i64 x.2, .string x.1, .int .i64 0, .slice none 0 0]
def asgs (l : List (ByteArray × Int)) : List Value := l.flatMap asg
theorem asgs_append (l r : List (ByteArray × Int)) : asgs (l ++ r) = asgs l ++ asgs r := by simp [asgs]
theorem asgs_one (x : ByteArray × Int) : asgs [x] = asg x := by simp [asgs]
theorem asgs_len (l : List (ByteArray × Int)) : (asgs l).length = l.length * 5 := by
  induction l with
  | nil => rfl
  | cons x l ih => simp only [asgs, List.flatMap_cons, List.length_append] at *; rw [ih]; simp [asg]; omega
mutual
def Tm.vars : Tm → List (ByteArray × Int)
  | .node op nm _ _ _ ks => (if (shRow op.toNat).name then [(nm, op)] else []) ++ Tm.varss ks
def Tm.varss : List Tm → List (ByteArray × Int)
  | [] => []
  | t :: ts => Tm.vars t ++ Tm.varss ts
end
theorem vars_eq (t : Tm) : t.vars = (if (shRow t.op.toNat).name then [(t.nm, t.op)] else []) ++ Tm.varss t.ks := by
  cases t with
  | node => rw [Tm.vars]; rfl
theorem take_succ_varss (ks : List Tm) (k : Nat) (h : k < ks.length) : Tm.varss (ks.take (k + 1)) = Tm.varss (ks.take k) ++ (ks[k]).vars := by
  induction ks generalizing k with
  | nil => simp at h
  | cons t ts ih =>
    cases k with
    | zero => simp [Tm.varss]
    | succ k => simp only [List.take_succ_cons, Tm.varss, List.getElem_cons_succ, List.append_assoc]; rw [ih k (by simpa using h)]
theorem vars_le (t : Tm) : t.vars.length ≤ t.size := by
  induction t using Tm.ind with
  | h t ih =>
    have hs : ∀ l : List Tm, (∀ k ∈ l, k.vars.length ≤ k.size) → (Tm.varss l).length ≤ Tm.sizes l := by
      intro l
      induction l with
      | nil => intro _; simp [Tm.varss]
      | cons a l ihl =>
        intro h
        have h1 := h a (by simp)
        have h2 := ihl (fun k hk => h k (by simp [hk]))
        simp only [Tm.varss, Tm.sizes, List.length_append]; omega
    have := hs t.ks ih
    rw [vars_eq, Tm.size_eq, List.length_append]
    split <;> simp <;> omega
def okRow (r : Sh) : Bool := (!r.many || decide (1 ≤ r.p0)) && (r.many || ((decide (r.count = 0) || decide (1 ≤ r.p0)) && (decide (r.count ≤ 1) || decide (1 ≤ r.p1))))
theorem shRow_ok : ∀ j, j < 29 → 1 ≤ j → okRow (shRow j) = true := by decide
theorem srt_ops {t : Tm} (h : t.srt ≠ 0) : (1 ≤ t.op ∧ t.op ≤ 28) ∧ ∀ k ∈ t.ks, k.srt ≠ 0 := by
  rw [srt_eq] at h
  unfold sortOf at h
  split at h
  · rename_i ho
    refine ⟨ho, ?_⟩
    split at h
    · rename_i hb
      simp only [Bool.and_eq_true] at hb
      have hh := hb.2
      unfold holdsB at hh
      rw [Bool.and_eq_true] at hh
      intro k hk h0
      obtain ⟨i, hi, rfl⟩ := List.mem_iff_getElem.1 hk
      have h1 := List.all_eq_true.1 hh.2 i (List.mem_range.2 (by simpa using hi))
      have h2 := of_decide_eq_true h1
      rw [getD_map_srt _ _ hi, h0] at h2
      have hw := shRow_ok t.op.toNat (by omega) (by omega)
      unfold Sh.want at h2
      cases hm : (shRow t.op.toNat).many
      · have hl : t.ks.length = (shRow t.op.toNat).count := by simpa [hm] using hh.1
        have hc := (shRow_all t.op.toNat (by omega)).1
        simp only [okRow, hm, Bool.not_false, Bool.true_or, Bool.false_or, Bool.true_and, Bool.and_eq_true, Bool.or_eq_true, decide_eq_true_eq] at hw
        rw [hm] at h2
        simp only [Bool.false_eq_true, if_false] at h2
        by_cases hi0 : i = 0
        · rw [if_pos hi0] at h2; omega
        · rw [if_neg hi0] at h2; omega
      · rw [hm] at h2
        simp only [okRow, hm, Bool.not_true, Bool.true_or, Bool.false_or, Bool.and_true, decide_eq_true_eq] at hw
        simp only [if_true] at h2
        omega
    · simp at h
  · simp at h

/-- a block is no row of names -/
def NotRow (w : World) (k : Nat) : Prop := ∀ cur fz, w.heap[k]? ≠ some (.cells cur 41 fz)
/-- nothing that was there has turned, but what stands in block s, and rows of names from block B on -/
structure Gth (s B : Nat) (w w' : World) : Prop where
  os : w'.os = w.os
  tape : w'.tape = w.tape
  output : w'.output = w.output
  size : w.heap.size ≤ w'.heap.size
  block : ∀ k, k < w.heap.size → k ≠ s → (k < B ∨ NotRow w k) → w'.heap[k]? = w.heap[k]?
theorem Gth.refl (s B : Nat) (w : World) : Gth s B w w := ⟨rfl, rfl, rfl, Nat.le_refl _, fun _ _ _ _ => rfl⟩
theorem NotRow.of_eq {w w' : World} {k : Nat} (h : NotRow w k) (e : w'.heap[k]? = w.heap[k]?) : NotRow w' k := fun cur fz => by rw [e]; exact h cur fz
theorem Gth.trans {s B : Nat} {a b c : World} (h : Gth s B a b) (k : Gth s B b c) : Gth s B a c := by
  refine ⟨k.os.trans h.os, k.tape.trans h.tape, k.output.trans h.output, Nat.le_trans h.size k.size, fun i hi hs hv => ?_⟩
  have e := h.block i hi hs hv
  rw [k.block i (Nat.lt_of_lt_of_le hi h.size) hs (hv.imp id fun hn => hn.of_eq e), e]
theorem Gth.of {s B : Nat} {w w' : World} (h : Below w.heap.size w w') : Gth s B w w' := ⟨h.os, h.tape, h.output, h.size, fun k hk _ _ => h.block k hk⟩
theorem Gth.set {s B : Nat} {a w : World} (h : Gth s B a w) {p : Addr} (hp : p.block = s) (u : Value) : Gth s B a (w.setCell p u) :=
  ⟨h.os, h.tape, h.output, by simpa [World.setCell] using h.size, fun k hk hs hv => by
    rw [Below.heap_setCell w p u k (by omega)]; exact h.block k hk hs hv⟩
theorem Gth.drew {s B : Nat} {a w : World} (h : Gth s B a w) : Gth s B a w.drew := ⟨h.os, h.tape, h.output, h.size, h.block⟩
theorem Gth.notRow {s B k : Nat} {w w' : World} (h : Gth s B w w') (hk : k < w.heap.size) (hs : k ≠ s) (hn : NotRow w k) : NotRow w' k := hn.of_eq (h.block k hk hs (.inr hn))
theorem Gth.cell {s B : Nat} {w w' : World} (h : Gth s B w w') {p : Addr} {x : Value} (hc : w.cell? p = some x) (hp : p.block ≠ s) (hv : NotRow w p.block) : w'.cell? p = some x := by
  have := World.cell?_of_block (w := w) (h.block p.block (World.block_lt_of_cell? _ _ hc) hp (.inr hv))
  rw [this]; exact hc
theorem Gth.below {s B : Nat} {w w' : World} (h : Gth s B w w') (hs : B ≤ s) (hB : B ≤ w.heap.size) : Below B w w' :=
  ⟨h.os, h.tape, h.output, h.size, fun k hk => h.block k (by omega) (by omega) (.inl hk)⟩
theorem Gth.four {s B : Nat} {w w' : World} {b o : Nat} {t : Tm} (h : Gth s B w w') (hc : Four w b o t) (hp : b ≠ s) (hv : NotRow w b) : Four w' b o t :=
  ⟨h.cell hc.1 hp hv, h.cell hc.2.1 hp hv, h.cell hc.2.2.1 hp hv, h.cell hc.2.2.2 hp hv⟩
theorem Gth.grown {s B base size n : Nat} {v : Value} {xs : List Value} {w w' : World} (hown : w.ownsRow base 41 size v n xs) (hB : B ≤ base) (h : w.grownBy w' v.ownBlock) : Gth s B w w' :=
  ⟨h.os, h.tape, h.output, h.size, fun k hk _ hv => h.block k hk (fun e => by
    have h1 := (hown.lt k e.symm).1
    rcases hv with hv | hv
    · omega
    · rcases hown.2 with ⟨rfl, -⟩ | ⟨g, cap, cur, rfl, -, hg, -⟩
      · cases e
      · simp only [Value.ownBlock, Option.some.injEq] at e
        subst e
        exact hv cur (0, 0) hg)⟩
theorem notRow_box (w : World) (t : Tm) : NotRow (w.alloc (boxT t)) w.heap.size := by
  intro cur fz
  show (w.heap.push (boxT t))[w.heap.size]? ≠ _
  simp [boxT]
theorem asg_info : (Tryz.prog.info? 41).map (fun i => (i.zero, i.size, i.bytes)) = some (some (.agg #[.string ⟨#[]⟩, .int .i64 0, .string ⟨#[]⟩, .int .i64 0, .slice none 0 0]), 5, 72) := by kernel_rfl

/-- the closure of Names -/
def gthF (nb fb : Nat) : Value := .func (.func 47) #[] #[.pointer (some ⟨nb, 0, none⟩), .pointer (some ⟨fb, 0, none⟩)]
structure GthR (w0 : World) (B base X nb fb : Nat) (t : Tm) (l : List (ByteArray × Int)) (w : World) : Prop where
  gth : Gth nb B w0 w
  four : Four w X 0 t
  nr : NotRow w X
  nf : NotRow w fb
  nn : NotRow w nb
  row : ∃ v : Value, Single w nb v ∧ w.ownsRow base 41 5 v l.length (asgs l)
  cl : w.cell? ⟨fb, 0, none⟩ = some (gthF nb fb)
theorem varss_le (l : List Tm) : (Tm.varss l).length ≤ Tm.sizes l := by
  induction l with
  | nil => simp [Tm.varss]
  | cons a l ih =>
    have h1 := vars_le a
    simp only [Tm.varss, Tm.sizes, List.length_append]; omega
theorem Shps.keep {w w' : World} {B : Nat} (h : Shps w) (hB : 0 < B) (hb : Below B w w') : Shps w' := fun j hj => by
  have h1 := h j hj
  unfold Seven at *
  rw [hb.cell (p := ⟨_, _, none⟩) hB, hb.cell (p := ⟨_, _, none⟩) hB, hb.cell (p := ⟨_, _, none⟩) hB, hb.cell (p := ⟨_, _, none⟩) hB, hb.cell (p := ⟨_, _, none⟩) hB, hb.cell (p := ⟨_, _, none⟩) hB, hb.cell (p := ⟨_, _, none⟩) hB]
  exact h1
theorem four_lt {w : World} {b o : Nat} {t : Tm} (h : Four w b o t) : b < w.heap.size := World.block_lt_of_cell? _ _ h.1
/-- a block that is no row stays none, also where its cell is written -/
theorem notRow_set {w : World} {k : Nat} (h : NotRow w k) (p : Addr) (u : Value) : NotRow (w.setCell p u) k := by
  intro cur fz e
  by_cases hk : k = p.block
  · subst hk
    simp only [World.setCell, Array.getElem?_modify, if_pos] at e
    cases hh : w.heap[p.block]? with
    | none => rw [hh] at e; simp at e
    | some o =>
      rw [hh] at e
      cases o with
      | cells c t' f => 
        simp at e
        obtain ⟨-, rfl, rfl⟩ := e
        exact h c f hh
      | _ => simp at e
  · rw [Below.heap_setCell w p u k hk] at e
    exact h cur fz e
theorem own_set {w : World} {base n nb : Nat} {v : Value} {xs : List Value} (h : w.ownsRow base 41 5 v n xs) (hn : NotRow w nb) (u : Value) : (w.setCell ⟨nb, 0, none⟩ u).ownsRow base 41 5 v n xs := by
  obtain ⟨h1, h2⟩ := h
  refine ⟨h1, ?_⟩
  rcases h2 with h2 | ⟨g, cap, cur, e, hb, hg, hr⟩
  · exact .inl h2
  · refine .inr ⟨g, cap, cur, e, hb, ?_, hr⟩
    rw [Below.heap_setCell w ⟨nb, 0, none⟩ u g (by rintro rfl; exact hn cur (0, 0) hg)]
    exact hg

theorem cells_five (w : World) (nm : ByteArray) (j : Int) : ∀ i u, (asg (nm, j))[i]? = some u → (w.alloc (.cells #[.string nm, .int .i64 j, .string nm, .int .i64 0, .slice none 0 0] 41)).cell? ((⟨w.heap.size, 0, none⟩ : Addr).add i) = some u := by
  intro i u hu
  unfold asg at hu
  match i, hu with
  | 0, hu => simp at hu; subst hu; simp [Addr.add, go_sem]
  | 1, hu => simp at hu; subst hu; simp [Addr.add, go_sem]
  | 2, hu => simp at hu; subst hu; simp [Addr.add, go_sem]
  | 3, hu => simp at hu; subst hu; simp [Addr.add, go_sem]
  | 4, hu => simp at hu; subst hu; simp [Addr.add, go_sem]
  | i + 5, hu => simp at hu
theorem asg_one (x : ByteArray × Int) : ∀ u ∈ asg x, u.oneCell' = true := by
  intro u hu
  unfold asg at hu
  simp at hu
  rcases hu with rfl | rfl | rfl | rfl | rfl <;> rfl
theorem cell_set_far {w : World} {b i c : Nat} {x : Value} (h : w.cell? ⟨b, i, none⟩ = some x) (hne : b ≠ c) (u : Value) : (w.setCell ⟨c, 0, none⟩ u).cell? ⟨b, i, none⟩ = some x := by
  rw [World.cell?_of_block (w := w) (Below.heap_setCell w ⟨c, 0, none⟩ u b hne)]; exact h
theorem own_some {w : World} {base e size n : Nat} {v : Value} {xs : List Value} (h : w.ownsRow base e size v n xs) (hn : 0 < n) : ∃ g cap, v = .slice (some ⟨g, 0, none⟩) n cap := by
  rcases h.2 with ⟨-, h0⟩ | ⟨g, cap, cur, e, -⟩
  · omega
  · exact ⟨g, cap, e⟩
theorem own_block {w : World} {base n nb : Nat} {v : Value} {xs : List Value} (h : w.ownsRow base 41 5 v n xs) (hn : NotRow w nb) : some nb ≠ v.ownBlock := by
  rcases h.2 with ⟨rfl, -⟩ | ⟨g, cap, cur, rfl, -, hg, -⟩
  · simp [Value.ownBlock]
  · simp only [Value.ownBlock, ne_eq, Option.some.injEq]
    rintro rfl
    exact hn cur (0, 0) hg
theorem grown_single {w w' : World} {base n nb : Nat} {v x : Value} {xs : List Value} (h : w.ownsRow base 41 5 v n xs) (hn : NotRow w nb) (hg : w.grownBy w' v.ownBlock) (hs : Single w nb x) : Single w' nb x := by
  have e := hg.block nb (World.block_lt_of_cell? _ _ hs.1) (own_block h hn)
  exact ⟨by rw [World.cell?_of_block (w := w) e]; exact hs.1, by rw [World.frozen?_of_block (w := w) e]; exact hs.2⟩
theorem GthR.after {w0 W w1 : World} {B base X nb fb n : Nat} {t : Tm} {l : List (ByteArray × Int)} {v : Value} {xs : List Value} {o : Obj} (h : GthR w0 B base X nb fb t l W) (hov : W.ownsRow base 41 5 v n xs) (hbb : B ≤ base) (hg : (W.alloc o).grownBy w1 v.ownBlock) (hXn : X ≠ nb) (hfn : fb ≠ nb) : Gth nb B w0 w1 ∧ Four w1 X 0 t ∧ NotRow w1 X ∧ NotRow w1 fb ∧ NotRow w1 nb ∧ w1.cell? ⟨fb, 0, none⟩ = some (gthF nb fb) := by
  have g1 : Gth nb B W (W.alloc o) := Gth.of (bel_alloc W o)
  have g2 : Gth nb B (W.alloc o) w1 := Gth.grown (hov.alloc o) hbb hg
  have g3 := g1.trans g2
  have hX := four_lt h.four
  obtain ⟨v0, sv, -⟩ := h.row
  have hnb := World.block_lt_of_cell? _ _ sv.1
  have hnn : NotRow (W.alloc o) nb := h.nn.of_eq (Below.heap_alloc _ _ _ hnb)
  refine ⟨h.gth.trans g3, g3.four h.four hXn h.nr, g3.notRow hX hXn h.nr, g3.notRow (World.block_lt_of_cell? _ _ h.cl) hfn h.nf, ?_, g3.cell h.cl hfn h.nf⟩
  exact hnn.of_eq (hg.block nb (by rw [World.size_alloc]; exact Nat.lt_succ_of_lt hnb) (own_block (hov.alloc o) hnn))

set_option maxHeartbeats 4000000 in
set_option maxRecDepth 100000 in
theorem gather_any (t : Tm) : ∀ (B base nb fb : Nat) (l : List (ByteArray × Int)) (v : Value) (w : World), TIn w B t → Shps w → 0 < B → t.srt ≠ 0 → B ≤ nb → B ≤ fb → nb ≠ fb → B ≤ base → NotRow w nb → NotRow w fb → base ≤ w.heap.size →
    Single w nb v → w.ownsRow base 41 5 v l.length (asgs l) → w.cell? ⟨fb, 0, none⟩ = some (gthF nb fb) → l.length + t.size ≤ 2000 →
    Calls Tryz.prog 47 #[t.val, .pointer (some ⟨nb, 0, none⟩), .pointer (some ⟨fb, 0, none⟩)] w fun e w' => e = .returned (.tuple #[]) ∧ (Gth nb B w w' ∧ NotRow w' nb) ∧ ∃ v' : Value, Single w' nb v' ∧ w'.ownsRow base 41 5 v' (l ++ t.vars).length (asgs (l ++ t.vars)) := by
  induction t using Tm.ind with
  | h t ih =>
  intro B base nb fb l v w hin hS hg0 hs0 h1 h2 n1 hbb hnn hnf hbw hsv hov hcl hlen
  obtain ⟨i0, hi0, hz0, hz1, hz2⟩ := info_parts asg_info
  have hnb : nb < w.heap.size := World.block_lt_of_cell? _ _ hsv.1
  have hfb : fb < w.heap.size := World.block_lt_of_cell? _ _ hcl
  have hBw : B ≤ w.heap.size := by omega
  obtain ⟨hops, hks⟩ := srt_ops hs0
  have IH := mkHid ih
  have HKS := mkHid hks
  have hsz := Tm.size_eq t
  clear ih hks hs0
  obtain ⟨j, hj⟩ := Int.eq_ofNat_of_zero_le (show 0 ≤ t.op by omega)
  have j1 : 1 ≤ j := by omega
  have j2 : j ≤ 28 := by omega
  have j3 : (j : Int) < 29 := by omega
  have j4 : (0 : Int) ≤ (j : Int) := by omega
  have j5 : j < 29 := by omega
  have hb1 := bel_alloc w (boxT t)
  have c7 := ((hS j j5).later hb1).2.1
  have hv := vars_eq t
  rw [hj, Int.toNat_natCast] at hv
  have HIN := mkHid hin
  have HS := mkHid hS
  obtain ⟨-, -, -, hlc, hcm⟩ := hin.nums
  unfold maxLen at hcm
  have f4 := box_four w t
  have hcl1 := cell_later hb1 hcl
  have hnr := notRow_box w t
  have hsv1 := single_alloc hsv (boxT t)
  have hov1 := hov.alloc (boxT t)
  have hnn1 : NotRow (w.alloc (boxT t)) nb := hnn.of_eq (Below.heap_alloc _ _ _ hnb)
  have hnf1 : NotRow (w.alloc (boxT t)) fb := hnf.of_eq (Below.heap_alloc _ _ _ hfb)
  have hG1 : Gth nb B w (w.alloc (boxT t)) := Gth.of hb1
  have hW : w.alloc (.cells #[.int .i64 (j : Int), .string t.nm, .int .i64 t.n, .slice t.a t.ks.length t.c] 24) = w.alloc (boxT t) := by rw [← hj]; rfl
  have hXn : w.heap.size ≠ nb := by omega
  have hsW : (w.alloc (boxT t)).heap.size = w.heap.size + 1 := by simp
  have R1 : GthR w B base w.heap.size nb fb t l (w.alloc (boxT t)) := ⟨hG1, f4, hnr, hnf1, hnn1, ⟨v, hsv1, hov1⟩, hcl1⟩
  have hn : t.ks.length ≤ 9223372036854775807 := by omega
  clear hin hS hsv hov hcl hnn hnf hb1 hG1
  unfold Tm.val
  rw [hj]
  rw [Four, hj] at f4
  generalize hn' : t.ks.length = n at *
  have HN := mkHid hn'
  clear hn'
  generalize hX : w.heap.size = X at *
  generalize w.alloc (boxT t) = W at *
  obtain ⟨a0, a1, a2, a3⟩ := f4
  simp only [Nat.zero_add] at a1 a2 a3
  cases hnm : (shRow j).name
  · rw [hnm] at c7 hv
    have HV : Hid (l ++ t.vars = l ++ Tm.varss t.ks) := by show _ = _; rw [hv]; rfl
    obtain ⟨l1, hl1⟩ : ∃ l1, l1 = l := ⟨l, rfl⟩
    have R0 : GthR w B base X nb fb t l1 W := by rw [hl1]; exact R1
    have HV : Hid (l ++ t.vars = l1 ++ Tm.varss t.ks) := by rw [hl1]; exact HV
    have hlen1 : l1.length + Tm.sizes t.ks ≤ 2000 := by rw [hl1]; omega
    clear hv hnm R1 hl1 hj hops
    go_enter Tryz.func47, Tryz.ntmps47
    go_wp2
    clear a0 a1 a2 a3 c7 hW
    go_loopw [25] (fun i w' => ∃ (k : Nat) (x : Int), i = .int .i64 x ∧ x = k ∧ k ≤ n ∧ GthR w B base X nb fb t (l1 ++ Tm.varss (t.ks.take k)) w') (fun i _ => (n - intOf i).toNat)
    case atStart => exact ⟨0, 0, rfl, rfl, Nat.zero_le _, by rw [List.take_zero, Tm.varss, List.append_nil]; exact R0⟩
    case round =>
      clear R0
      obtain ⟨k, x, rfl, hxk, hk, R⟩ := hrel
      obtain rfl : x = (k : Int) := hxk
      by_cases hlt : k < n
      · have hk' : k < t.ks.length := by rw [HN.out]; exact hlt
        have gs : X ≤ wr.heap.size := hX ▸ R.gth.size
        have bB : Below B w wr := R.gth.below h1 (by omega)
        obtain ⟨kin, b, o, ha, hbB, kf⟩ := HIN.out.kid k hk'
        have kin' := kin.keep bB
        have kf' := kf.keep bB hbB
        obtain ⟨v, sv, ov⟩ := R.row
        have hb2 := bel_alloc wr (boxT t.ks[k])
        have f4 := box_four wr t.ks[k]
        have hle := sizes_take_le t.ks (k + 1)
        rw [take_succ_sizes t.ks k hk'] at hle
        have hvl : (Tm.varss (t.ks.take k)).length ≤ Tm.sizes (t.ks.take k) := varss_le _
        have HC := mkHid (IH.out t.ks[k] (List.getElem_mem _) B base nb fb (l1 ++ Tm.varss (t.ks.take k)) v (wr.alloc (boxT t.ks[k])) (kin'.keep (hb2.mono (Nat.le_trans hBw gs))) ((HS.out.keep hg0 bB).later hb2) hg0 (HKS.out _ (List.getElem_mem _)) h1 h2 n1 hbb (R.nn.of_eq (Below.heap_alloc _ _ _ (Nat.lt_of_lt_of_le hnb gs))) (R.nf.of_eq (Below.heap_alloc _ _ _ (Nat.lt_of_lt_of_le hfb gs))) (by simp; omega) (single_alloc sv _) (ov.alloc _) (cell_later hb2 R.cl) (by rw [List.length_append]; omega))
        have HT := mkHid (take_succ_varss t.ks k hk')
        have hW2 : wr.alloc (.cells #[.int .i64 t.ks[k].op, .string t.ks[k].nm, .int .i64 t.ks[k].n, .slice t.ks[k].a t.ks[k].ks.length t.ks[k].c] 24) = wr.alloc (boxT t.ks[k]) := rfl
        have cl := cell_later hb2 R.cl
        unfold gthF at cl
        rw [ha]
        clear ha kin kf IH kin' sv ov HS HKS hle hvl
        generalize t.ks[k] = q at *
        clear hk'
        obtain ⟨g0, g1, g2, g3⟩ := kf'
        obtain ⟨f0, f1, f2, f3⟩ := f4
        simp only [Nat.zero_add] at f1 f2 f3
        have HG2 : Hid (Gth nb B wr (wr.alloc (boxT q))) := Gth.of hb2
        generalize wr.alloc (boxT q) = W2 at *
        unfold Tm.val at HC
        have RD : Hid (GthR w B base X nb fb t (l1 ++ Tm.varss (t.ks.take k)) wr) := R
        clear R hb2
        go_wp2_with (go_at_call 47; ((with_reducible refine HC.out.mono ?_)); rintro e w1 ⟨rfl, ⟨gt1, gt1n⟩, ⟨v1, sv1, ov1⟩⟩)
        go_roundw
        case rel =>
          have R := RD.out
          have G1 := (HG2.out.trans gt1)
          have hXw := four_lt R.four
          refine ⟨k + 1, _, rfl, by omega, by omega, ⟨R.gth.trans G1, G1.four R.four hXn R.nr, G1.notRow hXw hXn R.nr, G1.notRow (World.block_lt_of_cell? _ _ R.cl) (fun e => n1 e.symm) R.nf, gt1n, ⟨v1, sv1, by rw [HT.out, ← List.append_assoc]; exact ov1⟩, G1.cell R.cl (by simpa using fun e => n1 e.symm) R.nf⟩⟩
        case measure => simp [intOf]; omega
      · obtain ⟨v, sv, ov⟩ := R.row
        have e : l ++ t.vars = l1 ++ Tm.varss (t.ks.take k) := by rw [HV.out, List.take_of_length_le (by rw [HN.out]; omega)]
        have E := mkHid e
        clear e
        go_wp2
        go_end0
        exact ⟨rfl, ⟨R.gth, R.nn⟩, v, sv, by rw [E.out]; exact ov⟩
  · rw [hnm] at c7 hv
    have HV : Hid (l ++ t.vars = (l ++ [(t.nm, t.op)]) ++ Tm.varss t.ks) := by show _ = _; rw [hv, hj, List.append_assoc]; rfl
    have hlen1 : (l ++ [(t.nm, t.op)]).length + Tm.sizes t.ks ≤ 2000 := by rw [List.length_append]; simp only [List.length_cons, List.length_nil]; omega
    have RH := mkHid R1
    have HJ := mkHid hj
    have s0 := hsv1.1
    have HSV := mkHid hsv1
    have HOV := mkHid hov1
    have hl2 : l.length ≤ 2000 := by omega
    have hsW2 : base ≤ W.heap.size := by omega
    have hsW3 : nb < W.heap.size := by omega
    clear hsW
    clear hv hnm R1 hj hops hsv1 hov1
    go_enter Tryz.func47, Tryz.ntmps47
    go_wp2_with (at_builtin
                 refine wpList_append_own _ rfl (.tmp 11) (.tmp 20) _ rfl base 41 i0 _ 5 72 Tryz.underlying25 hi0 hz0 hz1 hz2 rfl (by omega) v l.length (asgs l) rfl (HOV.out.alloc _) ⟨W.heap.size, 0, none⟩ 1 1 (asg (t.nm, (j : Int))) rfl rfl (cells_five _ _ _) (asg_one _) (by simp only [maxLen]; omega) (by omega) (by simp; omega) ?_
                 intro v1 w1 hown1 hg1 hv1
                 obtain ⟨g1, cap1, rfl⟩ := own_some hown1 (by omega)
                 have sv1 := grown_single (HOV.out.alloc _) (hnn1.of_eq (Below.heap_alloc _ _ _ (by omega))) hg1 (single_alloc HSV.out _)
                 have s1 := sv1.1
                 have s2 := sv1.2
                 obtain ⟨b1, b2, b3, b4, b5, b6⟩ := RH.out.after HOV.out hbb hg1 hXn (fun e => n1 e.symm)
                 have b7 := b2.2.2.2
                 rw [HN.out] at b7
                 simp only [Nat.zero_add] at b7
                 have b8 := cell_set_far b7 hXn (.slice (some ⟨g1, 0, none⟩) (l.length + 1) cap1))
    have R0 : GthR w B base X nb fb t (l ++ [(t.nm, t.op)]) (w1.setCell ⟨nb, 0, none⟩ (.slice (some ⟨g1, 0, none⟩) (l.length + 1) cap1)) := by
      refine ⟨b1.set rfl _, ⟨cell_set_far b2.1 hXn _, cell_set_far b2.2.1 hXn _, cell_set_far b2.2.2.1 hXn _, cell_set_far b2.2.2.2 hXn _⟩, notRow_set b3 _ _, notRow_set b4 _ _, notRow_set b5 _ _, ⟨_, single_set sv1 _, ?_⟩, cell_set_far b6 (fun e => n1 e.symm) _⟩
      have e1 : (l ++ [(t.nm, t.op)]).length = l.length + 1 := by simp
      rw [e1, asgs_append, asgs_one, HJ.out]
      exact own_set hown1 b5 _
    clear s0 s1 s2 b1 b2 b3 b4 b5 b6 b7 b8 a0 a1 a2 a3 c7 hW HSV HOV RH hg1 hown1 sv1 hv1 hsW2 hsW3
    obtain ⟨l1, hl1⟩ : ∃ l1, l1 = l ++ [(t.nm, t.op)] := ⟨_, rfl⟩
    rw [← hl1] at R0 HV hlen1
    clear hl1
    go_loopw [25] (fun i w' => ∃ (k : Nat) (x : Int), i = .int .i64 x ∧ x = k ∧ k ≤ n ∧ GthR w B base X nb fb t (l1 ++ Tm.varss (t.ks.take k)) w') (fun i _ => (n - intOf i).toNat)
    case atStart => exact ⟨0, 0, rfl, rfl, Nat.zero_le _, by rw [List.take_zero, Tm.varss, List.append_nil]; exact R0⟩
    case round =>
      clear R0
      obtain ⟨k, x, rfl, hxk, hk, R⟩ := hrel
      obtain rfl : x = (k : Int) := hxk
      by_cases hlt : k < n
      · have hk' : k < t.ks.length := by rw [HN.out]; exact hlt
        have gs : X ≤ wr.heap.size := hX ▸ R.gth.size
        have bB : Below B w wr := R.gth.below h1 (by omega)
        obtain ⟨kin, b, o, ha, hbB, kf⟩ := HIN.out.kid k hk'
        have kin' := kin.keep bB
        have kf' := kf.keep bB hbB
        obtain ⟨v, sv, ov⟩ := R.row
        have hb2 := bel_alloc wr (boxT t.ks[k])
        have f4 := box_four wr t.ks[k]
        have hle := sizes_take_le t.ks (k + 1)
        rw [take_succ_sizes t.ks k hk'] at hle
        have hvl : (Tm.varss (t.ks.take k)).length ≤ Tm.sizes (t.ks.take k) := varss_le _
        have HC := mkHid (IH.out t.ks[k] (List.getElem_mem _) B base nb fb (l1 ++ Tm.varss (t.ks.take k)) v (wr.alloc (boxT t.ks[k])) (kin'.keep (hb2.mono (Nat.le_trans hBw gs))) ((HS.out.keep hg0 bB).later hb2) hg0 (HKS.out _ (List.getElem_mem _)) h1 h2 n1 hbb (R.nn.of_eq (Below.heap_alloc _ _ _ (Nat.lt_of_lt_of_le hnb gs))) (R.nf.of_eq (Below.heap_alloc _ _ _ (Nat.lt_of_lt_of_le hfb gs))) (by simp; omega) (single_alloc sv _) (ov.alloc _) (cell_later hb2 R.cl) (by rw [List.length_append]; omega))
        have HT := mkHid (take_succ_varss t.ks k hk')
        have hW2 : wr.alloc (.cells #[.int .i64 t.ks[k].op, .string t.ks[k].nm, .int .i64 t.ks[k].n, .slice t.ks[k].a t.ks[k].ks.length t.ks[k].c] 24) = wr.alloc (boxT t.ks[k]) := rfl
        have cl := cell_later hb2 R.cl
        unfold gthF at cl
        rw [ha]
        clear ha kin kf IH kin' sv ov HS HKS hle hvl
        generalize t.ks[k] = q at *
        clear hk'
        obtain ⟨g0, g1, g2, g3⟩ := kf'
        obtain ⟨f0, f1, f2, f3⟩ := f4
        simp only [Nat.zero_add] at f1 f2 f3
        have HG2 : Hid (Gth nb B wr (wr.alloc (boxT q))) := Gth.of hb2
        generalize wr.alloc (boxT q) = W2 at *
        unfold Tm.val at HC
        have RD : Hid (GthR w B base X nb fb t (l1 ++ Tm.varss (t.ks.take k)) wr) := R
        clear R hb2
        go_wp2_with (go_at_call 47; ((with_reducible refine HC.out.mono ?_)); rintro e w1 ⟨rfl, ⟨gt1, gt1n⟩, ⟨v1, sv1, ov1⟩⟩)
        go_roundw
        case rel =>
          have R := RD.out
          have G1 := (HG2.out.trans gt1)
          have hXw := four_lt R.four
          refine ⟨k + 1, _, rfl, by omega, by omega, ⟨R.gth.trans G1, G1.four R.four hXn R.nr, G1.notRow hXw hXn R.nr, G1.notRow (World.block_lt_of_cell? _ _ R.cl) (fun e => n1 e.symm) R.nf, gt1n, ⟨v1, sv1, by rw [HT.out, ← List.append_assoc]; exact ov1⟩, G1.cell R.cl (by simpa using fun e => n1 e.symm) R.nf⟩⟩
        case measure => simp [intOf]; omega
      · obtain ⟨v, sv, ov⟩ := R.row
        have e : l ++ t.vars = l1 ++ Tm.varss (t.ks.take k) := by rw [HV.out, List.take_of_length_le (by rw [HN.out]; omega)]
        have E := mkHid e
        clear e
        go_wp2
        go_end0
        exact ⟨rfl, ⟨R.gth, R.nn⟩, v, sv, by rw [E.out]; exact ov⟩
end
end Go.Proofs.YtdfebacjbapahaaGreatDoor
