/-
  What 'replace' of package subst does: a term with what the map has at its names.
-/
import Derived.Test.YtaibmdikimpooaaDoorSbC
import Derived.Test.YtaibmdikimpooaaDoorSbR
namespace Go.Proofs.YtaibmdikimpooaaDoor
open Go.RowKit Go.Maps

/-- the sort of names of an operation -/
def nsN (op : Int) : Nat := if op = 2 then 1 else if op = 7 then 2 else if op = 14 then 3 else if op = 15 then 4 else 0
theorem nameSort_any (op : Int) (w : World) : Calls Tryd.prog 62 #[.int .i64 op] w (RetI (nsN op) w) := by
  unfold nsN
  by_cases h1 : op = 2
  · subst h1
    go_enter Tryd.func62, Tryd.ntmps62
    go_wp2
    go_ret
    exact ⟨rfl, Below.refl _ _⟩
  · rw [if_neg h1]
    have d1 : (op == 2) = false := by rw [beq_eq_false_iff_ne]; exact h1
    by_cases h2 : op = 7
    · subst h2
      go_enter Tryd.func62, Tryd.ntmps62
      go_wp2
      go_ret
      exact ⟨rfl, Below.refl _ _⟩
    · rw [if_neg h2]
      have d2 : (op == 7) = false := by rw [beq_eq_false_iff_ne]; exact h2
      by_cases h3 : op = 14
      · subst h3
        go_enter Tryd.func62, Tryd.ntmps62
        go_wp2
        go_ret
        exact ⟨rfl, Below.refl _ _⟩
      · rw [if_neg h3]
        have d3 : (op == 14) = false := by rw [beq_eq_false_iff_ne]; exact h3
        by_cases h4 : op = 15
        · subst h4
          go_enter Tryd.func62, Tryd.ntmps62
          go_wp2
          go_ret
          exact ⟨rfl, Below.refl _ _⟩
        · rw [if_neg h4]
          have d4 : (op == 15) = false := by rw [beq_eq_false_iff_ne]; exact h4
          clear h1 h2 h3 h4
          go_enter Tryd.func62, Tryd.ntmps62
          go_wp2
          go_ret
          exact ⟨rfl, Below.refl _ _⟩
theorem nsN_le (op : Int) : nsN op ≤ 4 := by unfold nsN; repeat (split <;> try omega)
mutual
/-- a term with what F has at its names, without places -/
def rp (F : ByteArray → Int → Option Tm) : Tm → Tm
  | .node op nm n _ _ ks => if nsN op = 0 then .node op nm n none 0 (rps F ks) else match F nm (nsN op) with
    | some x => x.er
    | none => .node op nm n none 0 (Tm.ers ks)
def rps (F : ByteArray → Int → Option Tm) : List Tm → List Tm
  | [] => []
  | t :: ts => rp F t :: rps F ts
end
theorem rps_map (F : ByteArray → Int → Option Tm) : ∀ ks : List Tm, rps F ks = ks.map (rp F)
  | [] => rfl
  | k :: ks => by simp only [rps, rps_map F ks, List.map_cons]
theorem rp_part {F : ByteArray → Int → Option Tm} {t : Tm} (h : nsN t.op = 0) : rp F t = .node t.op t.nm t.n none 0 (t.ks.map (rp F)) := by
  cases t with
  | node op nm n a c ks =>
    have h : nsN op = 0 := h
    rw [rp, if_pos h, rps_map]; rfl
theorem rp_name {F : ByteArray → Int → Option Tm} {t : Tm} (h : nsN t.op ≠ 0) : rp F t = (match F t.nm (nsN t.op) with | some x => x.er | none => t.er) := by
  cases t with
  | node op nm n a c ks =>
    have h : nsN op ≠ 0 := h
    rw [rp, if_neg h]
    show _ = (match F nm (nsN op) with | some x => x.er | none => Tm.er (.node op nm n a c ks))
    rw [er_eq]
    simp only [Tm.op, Tm.nm, Tm.n, Tm.ks, ers_map]
/-- all that it is made of stands below B0, or from block lo on -/
inductive TB (B0 lo : Nat) : Tm → Prop
  | mk (t : Tm) (h : t.ks ≠ [] → ∀ p, t.a = some p → p.block < B0 ∨ lo ≤ p.block) (hk : ∀ k ∈ t.ks, TB B0 lo k) : TB B0 lo t
theorem TB.mono {B0 lo lo' : Nat} (hl : lo' ≤ lo) {t : Tm} (h : TB B0 lo t) : TB B0 lo' t := by
  induction t using Tm.ind with
  | h t ih =>
    cases h with
    | mk _ h hk => exact .mk t (fun hn p hp => (h hn p hp).imp id (fun e => Nat.le_trans hl e)) (fun k hk' => ih k hk' (hk k hk'))
theorem TB.of_in {w : World} {B0 lo : Nat} {t : Tm} (h : TIn w B0 t) : TB B0 lo t := by
  induction t using Tm.ind with
  | h t ih =>
    cases h with
    | mk _ ho hn hs hc hm hk hi =>
      refine .mk t (fun hne p hp => ?_) (fun k hk' => ih k hk' (hi k hk'))
      obtain ⟨b, o, ha, hb, -⟩ := hk 0 (by cases hks : t.ks with | nil => exact absurd hks hne | cons => simp)
      rw [ha] at hp
      cases hp
      exact .inl hb
theorem TIn.setMid {w : World} {B B0 lo : Nat} {t : Tm} {p : Addr} (h : TIn w B t) (hf : TB B0 lo t) (h0 : B0 ≤ p.block) (hp : p.block < lo) (u : Value) : TIn (w.setCell p u) B t := by
  induction t using Tm.ind with
  | h t ih =>
    cases h with
    | mk _ ho hn hs hc hm hk hi =>
      cases hf with
      | mk _ h' hk' =>
        refine .mk t ho hn hs hc hm (fun j hj => ?_) (fun k hk'' => ih k hk'' (hi k hk'') (hk' k hk''))
        obtain ⟨b, o, ha, hb, f⟩ := hk j hj
        have hlo := h' (by intro e; rw [e] at hj; simp at hj) _ ha
        simp only at hlo
        refine ⟨b, o, ha, hb, ?_⟩
        have e : ∀ q, (w.setCell p u).cell? ⟨b, q, none⟩ = w.cell? ⟨b, q, none⟩ := fun q => World.cell?_of_block (w := w) (Below.heap_setCell w p u b (by omega))
        unfold Four
        rw [e, e, e, e]
        exact f
/-- the parts that are done: the row in block R, its first parts -/
structure CQ (B0 : Nat) (W3 : World) (R n : Nat) (l : List Tm) (w : World) : Prop where
  but : But R W3 w
  row : ∃ xs : List Value, w.ownsRow R 24 4 (.slice (some ⟨R, 0, none⟩) n n) n xs ∧ ∀ m (hm : m < l.length) i, i < 4 → xs[m * 4 + i]? = (tm4 l[m])[i]?
  tin : ∀ x ∈ l, TIn w w.heap.size x
  fr : ∀ x ∈ l, TB B0 W3.heap.size x
theorem CQ.later {W3 w w' : World} {B0 R n : Nat} {l : List Tm} (h : CQ B0 W3 R n l w) (hb : Below w.heap.size w w') : CQ B0 W3 R n l w' := by
  obtain ⟨xs, ho, hx⟩ := h.row
  refine ⟨h.but.trans (But.of hb), ⟨xs, ?_, hx⟩, fun x hx => (h.tin x hx).later hb, h.fr⟩
  refine ⟨ho.1, ?_⟩
  rcases ho.2 with h0 | ⟨g, cap, cur, hv, hbg, hg, hr⟩
  · exact .inl h0
  · exact .inr ⟨g, cap, cur, hv, hbg, by rw [hb.block g (Array.getElem?_eq_some_iff.1 hg).1]; exact hg, hr⟩
theorem CQ.four {W3 w : World} {B0 R n : Nat} {l : List Tm} (h : CQ B0 W3 R n l w) (hl : l.length ≤ n) (m : Nat) (hm : m < l.length) : Four w R (m * 4) l[m] := by
  obtain ⟨xs, ho, hx⟩ := h.row
  have c : ∀ i, i < 4 → w.cell? ⟨R, m * 4 + i, none⟩ = (tm4 l[m])[i]? := fun i hi => by rw [ho.cellAt (m * 4 + i) (by omega), hx m hm i hi]
  exact ⟨c 0 (by omega), c 1 (by omega), c 2 (by omega), c 3 (by omega)⟩
theorem CQ.there {W3 w : World} {B0 R n : Nat} {l : List Tm} (h : CQ B0 W3 R n l w) (k : Nat) (hk : k < n * 4) : ∃ u, w.cell? ⟨R, k, none⟩ = some u ∧ w.frozen? ⟨R, k, none⟩ = false := by
  obtain ⟨xs, ho, -⟩ := h.row
  refine ⟨xs[k]'(by rw [ho.1]; exact hk), ?_, ho.frozenAt k⟩
  rw [ho.cellAt k hk]
  exact List.getElem?_eq_getElem _
theorem CQ.store {W3 w : World} {B0 R n : Nat} {l : List Tm} (h : CQ B0 W3 R n l w) (hl : l.length < n) (hB : B0 ≤ R) (hR : R < W3.heap.size) {x : Tm} (hx : TIn w w.heap.size x) (hf : TB B0 W3.heap.size x) :
    CQ B0 W3 R n (l ++ [x]) ((((w.setCell ⟨R, l.length * 4, none⟩ (.int .i64 x.op)).setCell ⟨R, l.length * 4 + 1, none⟩ (.string x.nm)).setCell ⟨R, l.length * 4 + 2, none⟩ (.int .i64 x.n)).setCell ⟨R, l.length * 4 + 3, none⟩ (.slice x.a x.ks.length x.c)) := by
  obtain ⟨xs, ho, hxs⟩ := h.row
  have r1 := (ho.stored (l.length * 4) (.int .i64 x.op)).1
  have r2 := (r1.stored (l.length * 4 + 1) (.string x.nm)).1
  have r3 := (r2.stored (l.length * 4 + 2) (.int .i64 x.n)).1
  have r4 := (r3.stored (l.length * 4 + 3) (.slice x.a x.ks.length x.c)).1
  have hlen : xs.length = n * 4 := ho.1
  have set4 : ∀ y : Tm, TIn w w.heap.size y → TB B0 W3.heap.size y → TIn ((((w.setCell ⟨R, l.length * 4, none⟩ (.int .i64 x.op)).setCell ⟨R, l.length * 4 + 1, none⟩ (.string x.nm)).setCell ⟨R, l.length * 4 + 2, none⟩ (.int .i64 x.n)).setCell ⟨R, l.length * 4 + 3, none⟩ (.slice x.a x.ks.length x.c)) w.heap.size y := fun y hy hfy =>
    (((hy.setMid hfy (p := ⟨R, _, none⟩) hB hR _).setMid hfy (p := ⟨R, _, none⟩) hB hR _).setMid hfy (p := ⟨R, _, none⟩) hB hR _).setMid hfy (p := ⟨R, _, none⟩) hB hR _
  refine ⟨(((h.but.set (p := ⟨R, _, none⟩) (.inl rfl) _).set (p := ⟨R, _, none⟩) (.inl rfl) _).set (p := ⟨R, _, none⟩) (.inl rfl) _).set (p := ⟨R, _, none⟩) (.inl rfl) _, ⟨_, r4, fun m hm i hi => ?_⟩, fun y hy => ?_, fun y hy => ?_⟩
  · simp only [List.getElem?_set, List.length_set]
    by_cases hml : m < l.length
    · rw [if_neg (by omega), if_neg (by omega), if_neg (by omega), if_neg (by omega), hxs m hml i hi, List.getElem_append_left hml]
    · have hml : m = l.length := by simp at hm; omega
      subst hml
      rw [List.getElem_append_right (by omega)]
      simp only [Nat.sub_self, List.getElem_cons_zero]
      match i, hi with
      | 0, _ => rw [if_neg (by omega), if_neg (by omega), if_neg (by omega), if_pos (by omega), if_pos (by omega)]; rfl
      | 1, _ => rw [if_neg (by omega), if_neg (by omega), if_pos (by omega), if_pos (by omega)]; rfl
      | 2, _ => rw [if_neg (by omega), if_pos (by omega), if_pos (by omega)]; rfl
      | 3, _ => rw [if_pos (by omega), if_pos (by omega)]; rfl
  · have hs : ((((w.setCell ⟨R, l.length * 4, none⟩ (.int .i64 x.op)).setCell ⟨R, l.length * 4 + 1, none⟩ (.string x.nm)).setCell ⟨R, l.length * 4 + 2, none⟩ (.int .i64 x.n)).setCell ⟨R, l.length * 4 + 3, none⟩ (.slice x.a x.ks.length x.c)).heap.size = w.heap.size := by simp
    rw [hs]
    rcases List.mem_append.1 hy with hy | hy
    · exact set4 y (h.tin y hy) (h.fr y hy)
    · rw [List.mem_singleton.1 hy]; exact set4 x hx hf
  · rcases List.mem_append.1 hy with hy | hy
    · exact h.fr y hy
    · rw [List.mem_singleton.1 hy]; exact hf
theorem CQ.start {w : World} {B0 : Nat} {cs : Array Value} {n : Nat} (hc : cs.size = n * 4) (hn : n ≤ 2000) : CQ B0 (w.alloc (.cells cs 24)) w.heap.size n [] (w.alloc (.cells cs 24)) :=
  ⟨But.refl _ _, ⟨_, World.ownsRow_lit w cs n (Nat.le_refl _) (by unfold maxLen; omega) hc, fun m hm => by simp at hm⟩, fun x hx => (by cases hx), fun x hx => (by cases hx)⟩
theorem PMap.later {w w' : World} {b n : Nat} {f : ByteArray → Int → Option Value} (h : PMap w b n f) (hb : Below w.heap.size w w') : PMap w' b n f := by
  obtain ⟨D, ⟨es, clock, he, hr⟩, hf⟩ := h
  refine ⟨D, ⟨es, clock, ?_, hr⟩, hf⟩
  rw [hb.block b (Array.getElem?_eq_some_iff.1 he).1]
  exact he
/-- what replace answers -/
def RepT (F : ByteArray → Int → Option Tm) (B0 : Nat) (t : Tm) (w : World) (e : Ending) (w' : World) : Prop := ∃ x : Tm, e = .returned x.val ∧ x.er = rp F t ∧ TIn w' w'.heap.size x ∧ TB B0 w.heap.size x ∧ Below w.heap.size w w'
/-- the map and its terms -/
structure MF (F : ByteArray → Int → Option Tm) (b n B0 : Nat) (w : World) : Prop where
  m : PMap w b n (fun nm s => (F nm s).map Tm.val)
  t : ∀ nm s x, F nm s = some x → TIn w B0 x
  b : b < B0
  B : B0 ≤ w.heap.size
theorem MF.keep {F : ByteArray → Int → Option Tm} {b n B0 : Nat} {w w' : World} (h : MF F b n B0 w) (hb : Below B0 w w') (hs : w.heap.size ≤ w'.heap.size) : MF F b n B0 w' := by
  refine ⟨?_, fun nm s x hx => (h.t nm s x hx).keep hb, h.b, Nat.le_trans h.B hs⟩
  obtain ⟨D, ⟨es, clock, he, hr⟩, hf⟩ := h.m
  refine ⟨D, ⟨es, clock, ?_, hr⟩, hf⟩
  rw [hb.block b h.b]
  exact he
theorem MF.later {F : ByteArray → Int → Option Tm} {b n B0 : Nat} {w w' : World} (h : MF F b n B0 w) (hb : Below w.heap.size w w') : MF F b n B0 w' := h.keep (hb.mono h.B) hb.size
set_option maxRecDepth 100000 in
set_option maxHeartbeats 4000000 in
theorem replace_name (F : ByteArray → Int → Option Tm) (b n B0 : Nat) (t : Tm) (w : World) (hin : TIn w B0 t) (hM : MF F b n B0 w) (hs : nsN t.op ≠ 0) :
    Calls Tryd.prog 47 #[t.val, .map (some b)] w (RepT F B0 t w) := by
  have hb2 : Below w.heap.size w (cpW t w) := bal (bal (Below.refl _ _) _) _
  have F2 : Four (cpW t w) w.heap.size 0 t := (box_four w t).later (bel_alloc _ _)
  have FR : FourV' (cpW t w) (w.heap.size + 1) (.int .i64 0) (.string ⟨#[]⟩) (.int .i64 0) (.slice none 0 0) := by simp [FourV', cpW, boxT, go_sem]
  have NS := mkHid (nameSort_any t.op (cpW t w))
  have hle := nsN_le t.op
  have hne : ((nsN t.op : Int) != 0) = true := by rw [bne_iff_ne]; omega
  have hM2 := hM.later hb2
  have hnm := hin.nums.2.2.1
  have HIN := mkHid hin
  have HM := mkHid hM
  have HS := mkHid hs
  have hfit : fitB (nsN t.op : Int) = true := by rw [fitB_iff]; omega
  have HRP := mkHid (rp_name (F := F) hs)
  have hW2 : (w.alloc (.cells #[.int .i64 t.op, .string t.nm, .int .i64 t.n, .slice t.a t.ks.length t.c] 24)).alloc (.cells #[.int .i64 0, .string ⟨#[]⟩, .int .i64 0, .slice none 0 0] 24) = cpW t w := rfl
  clear hin hM hs
  generalize cpW t w = W2 at *
  unfold Tm.val
  obtain ⟨a0, a1, a2, a3⟩ := id F2
  simp only [Nat.zero_add] at a1 a2 a3
  generalize nsN t.op = s at *
  go_enter Tryd.func47, Tryd.ntmps47
  go_wp2_with fail
  ((with_reducible refine NS.out.mono ?_)); rintro e w3 ⟨rfl, hb3⟩
  clear a0 a1 a2 a3 hW2 NS
  have B3 := bon hb2 hb3
  have M3 := hM2.later hb3
  have hlk := M3.m.look hnm hfit
  unfold tgt at hlk
  obtain ⟨a0, a1, a2, a3⟩ := F2.later hb3
  simp only [Nat.zero_add] at a1 a2 a3
  obtain ⟨r0, r1, r2, r3, r4, r5, r6, r7⟩ := FR.later hb3
  have l0 := World.block_lt_of_cell? _ _ a0
  have l1 := World.block_lt_of_cell? _ _ r0
  simp only at l0 l1
  have hne1 : ¬ w.heap.size = w3.heap.size := by omega
  cases hF : F t.nm (s : Int) with
  | none =>
    rw [hF] at hlk HRP
    simp only [Option.map_none, Option.getD_none, Option.isSome_none, zeroT] at hlk
    go_wp2
    have hbel : Below w.heap.size w (((((w3.setCell ⟨w.heap.size + 1, 0, none⟩ (.int .i64 t.op)).setCell ⟨w.heap.size + 1, 1, none⟩ (.string t.nm)).setCell ⟨w.heap.size + 1, 2, none⟩ (.int .i64 t.n)).setCell ⟨w.heap.size + 1, 3, none⟩ (.slice t.a t.ks.length t.c)).alloc (.cells #[.int .i64 0, .string ⟨#[]⟩, .int .i64 0, .slice none 0 0] 24)) := bal (bset (bset (bset (bset B3 (by show w.heap.size ≤ w.heap.size + 1; omega) _) (by show w.heap.size ≤ w.heap.size + 1; omega) _) (by show w.heap.size ≤ w.heap.size + 1; omega) _) (by show w.heap.size ≤ w.heap.size + 1; omega) _) _
    refine bodyPost_ret (v := .agg #[.int .i64 t.op, .string t.nm, .int .i64 t.n, .slice t.a t.ks.length t.c]) (by simp [results, Tryd.results47, go_sem, r0, r1, r2, r3, l1]) rfl ⟨t, rfl, HRP.out.symm, ?_, TB.of_in HIN.out, hbel⟩
    exact (TIn.keep HIN.out (hbel.mono HM.out.B)).mono (Nat.le_trans HM.out.B hbel.size)
  | some x =>
    rw [hF] at hlk HRP
    simp only [Option.map_some, Option.getD_some, Option.isSome_some, Tm.val] at hlk
    have hx := HM.out.t _ _ _ hF
    go_wp2
    have hbel : Below w.heap.size w (((((w3.setCell ⟨w.heap.size + 1, 0, none⟩ (.int .i64 x.op)).setCell ⟨w.heap.size + 1, 1, none⟩ (.string x.nm)).setCell ⟨w.heap.size + 1, 2, none⟩ (.int .i64 x.n)).setCell ⟨w.heap.size + 1, 3, none⟩ (.slice x.a x.ks.length x.c)).alloc (.cells #[.int .i64 x.op, .string x.nm, .int .i64 x.n, .slice x.a x.ks.length x.c] 24)) := bal (bset (bset (bset (bset B3 (by show w.heap.size ≤ w.heap.size + 1; omega) _) (by show w.heap.size ≤ w.heap.size + 1; omega) _) (by show w.heap.size ≤ w.heap.size + 1; omega) _) (by show w.heap.size ≤ w.heap.size + 1; omega) _) _
    refine bodyPost_ret (v := .agg #[.int .i64 x.op, .string x.nm, .int .i64 x.n, .slice x.a x.ks.length x.c]) (by simp [results, Tryd.results47, go_sem, r0, r1, r2, r3, l1]) rfl ⟨x, rfl, HRP.out.symm, ?_, TB.of_in hx, hbel⟩
    exact (TIn.keep hx (hbel.mono HM.out.B)).mono (Nat.le_trans HM.out.B hbel.size)
set_option maxRecDepth 100000 in
set_option maxHeartbeats 4000000 in
theorem replace_any (F : ByteArray → Int → Option Tm) (b n0 B0 : Nat) (t : Tm) : ∀ w : World, TIn w B0 t → MF F b n0 B0 w → t.size ≤ 2000 → Calls Tryd.prog 47 #[t.val, .map (some b)] w (RepT F B0 t w) := by
  induction t using Tm.ind with
  | h t ih =>
  intro w hin hM hz
  by_cases hs : nsN t.op = 0
  · have hsz := Tm.size_eq t
    have hkl : t.ks.length ≤ 2000 := by
      have := len_sizes t.ks
      omega
    obtain ⟨cs, hcs, hmk⟩ := made_terms t.ks.length hkl
    have hb2 : Below w.heap.size w (cpW t w) := bal (bal (Below.refl _ _) _) _
    have F2 : Four (cpW t w) w.heap.size 0 t := (box_four w t).later (bel_alloc _ _)
    have f2 : (cpW t w).frozen? ⟨w.heap.size, 3, none⟩ = false := by simp [cpW, boxT, go_sem]
    have FR : FourV' (cpW t w) (w.heap.size + 1) (.int .i64 0) (.string ⟨#[]⟩) (.int .i64 0) (.slice none 0 0) := by simp [FourV', cpW, boxT, go_sem]
    have hX2 : (cpW t w).heap.size = w.heap.size + 1 + 1 := by simp [cpW]
    have NS := mkHid (nameSort_any t.op (cpW t w))
    rw [hs] at NS
    have HRP := mkHid (rp_part (F := F) hs)
    have HIN := mkHid hin
    have IH := mkHid ih
    have HZ := mkHid hz
    have HCS := mkHid hcs
    have HX2 := mkHid hX2
    have HM := mkHid hM
    have hW2 : (w.alloc (.cells #[.int .i64 t.op, .string t.nm, .int .i64 t.n, .slice t.a t.ks.length t.c] 24)).alloc (.cells #[.int .i64 0, .string ⟨#[]⟩, .int .i64 0, .slice none 0 0] 24) = cpW t w := rfl
    clear hin ih hz hcs hX2 hs hM
    generalize cpW t w = W2 at *
    unfold Tm.val
    generalize hn' : t.ks.length = n at *
    have HN := mkHid hn'
    clear hn'
    have hn9 : n ≤ 9223372036854775807 := by omega
    obtain ⟨a0, a1, a2, a3⟩ := id F2
    simp only [Nat.zero_add] at a1 a2 a3
    rw [HN.out] at a3
    go_enter Tryd.func47, Tryd.ntmps47
    go_wp2_with fail
    ((with_reducible refine NS.out.mono ?_)); rintro e w3 ⟨rfl, hb3⟩
    clear a0 a1 a2 a3 hW2 NS
    have C0 := CQ.start (B0 := B0) (w := w3) HCS.out hkl
    have b3 := bon hb3 (bel_alloc w3 (.cells cs 24))
    have F3 := F2.later b3
    have f3 := frozen_later b3 F2.2.2.2 (by rw [Nat.zero_add]; exact f2)
    have FR3 := FR.later b3
    have BB3 := bon hb2 b3
    have a3' := (F2.later hb3).2.2.2
    simp only [Nat.zero_add] at a3'
    rw [HN.out] at a3'
    have hRl : w3.heap.size < (w3.alloc (.cells cs 24)).heap.size := by simp
    have hRX : w.heap.size + 1 < w3.heap.size := by have := hb3.size; rw [HX2.out] at this; omega
    clear F2 f2 FR hb2 b3 hb3
    generalize hW3 : w3.alloc (.cells cs 24) = W3 at *
    obtain ⟨a0, a1, a2, a3⟩ := id F3
    simp only [Nat.zero_add] at a1 a2 a3 f3
    rw [HN.out] at a3
    generalize hRR : w3.heap.size = R at *
    have HF3 := mkHid F3
    have HFR3 := mkHid FR3
    have hBR : B0 ≤ R := by have := HM.out.B; omega
    go_wp2
    clear a0 a1 a2 a3 a3' hW3 hmk
    go_loopw [35] (fun i w' => ∃ (k : Nat) (x : Int), i = .int .i64 x ∧ x = k ∧ k ≤ n ∧ ∃ l, CQ B0 W3 R n l w' ∧ l.map Tm.er = (t.ks.take k).map (rp F)) (fun i _ => (n - intOf i).toNat)
    case atStart => exact ⟨0, 0, rfl, rfl, Nat.zero_le _, [], C0, by simp⟩
    case round =>
      clear C0
      obtain ⟨k, x, rfl, hxk, hk, l, c, hl⟩ := hrel
      obtain rfl : x = (k : Int) := hxk
      have hll : l.length = k := by have := congrArg List.length hl; simpa [HN.out, Nat.min_eq_left hk] using this
      by_cases hlt : k < n
      · have hk' : k < t.ks.length := by rw [HN.out]; exact hlt
        obtain ⟨kin, b, o, ha, hbB, kf⟩ := HIN.out.kid k hk'
        have bW : Below w.heap.size w wr := BB3.trans (c.but.below (by omega) (by omega))
        have kf' := kf.keep (bW.mono HM.out.B) hbB
        have kin' := kin.keep (bW.mono HM.out.B)
        have hks : t.ks[k].size ≤ 2000 := by
          have h1 := sizes_take_le t.ks (k + 1)
          rw [take_succ_sizes t.ks k hk'] at h1
          have := HZ.out
          omega
        have HC := mkHid (IH.out t.ks[k] (List.getElem_mem _) (wr.alloc (boxT t.ks[k])) (kin'.keep ((bel_alloc _ _).mono (Nat.le_trans HM.out.B bW.size))) (HM.out.later (bon bW (bel_alloc _ _))) hks)
        have HT := mkHid (List.take_succ_eq_append_getElem hk')
        generalize t.ks[k] = q at *
        rw [ha]
        clear ha kin kf kin' hk' hks
        obtain ⟨g0, g1, g2, g3⟩ := kf'
        have F4 := box_four wr q
        have bN := bel_alloc wr (boxT q)
        have HCN := mkHid (c.later bN)
        have hW5 : wr.alloc (.cells #[.int .i64 q.op, .string q.nm, .int .i64 q.n, .slice q.a q.ks.length q.c] 24) = wr.alloc (boxT q) := rfl
        have hzr : W3.heap.size ≤ (wr.alloc (boxT q)).heap.size := Nat.le_trans c.but.size bN.size
        unfold Tm.val at HC
        generalize wr.alloc (boxT q) = W5 at *
        obtain ⟨f0, f1, f2, f3'⟩ := F4
        simp only [Nat.zero_add] at f1 f2 f3'
        have hk2 : (k : Int) < (n : Int) := by omega
        go_wp2_with fail
        ((with_reducible refine HC.out.mono ?_)); rintro e w6 ⟨z, rfl, hz1, hz2, hz3, hb6⟩
        clear g0 g1 g2 g3 f0 f1 f2 f3' hW5 HC
        have c6 := HCN.out.later hb6
        have hz3' := hz3.mono hzr
        obtain ⟨e0, t0, s0⟩ := c6.there (k * 4) (by omega)
        obtain ⟨e1, t1, s1⟩ := c6.there (k * 4 + 1) (by omega)
        obtain ⟨e2, t2, s2⟩ := c6.there (k * 4 + 2) (by omega)
        obtain ⟨e3, t3, s3⟩ := c6.there (k * 4 + 3) (by omega)
        have c7 := c6.store (by omega) hBR hRl hz2 hz3'
        rw [hll] at c7
        have HC7 := mkHid c7
        clear c6 c7 c
        unfold Tm.val
        go_wp2
        go_roundw
        case rel => exact ⟨k + 1, _, rfl, by omega, by omega, _, HC7.out, by rw [HT.out, List.map_append, List.map_append, hl]; simp [hz1]⟩
        case measure => simp [intOf]; omega
      · obtain rfl : k = n := by omega
        have HL : Hid (l.map Tm.er = t.ks.map (rp F)) := by
          show _ = _
          rw [hl, List.take_of_length_le (by rw [HN.out]; omega)]
        have HC := mkHid c
        have cell : ∀ {p : Addr} {v : Value}, W3.cell? p = some v → p.block ≠ R → wr.cell? p = some v := fun h hp => c.but.cell h hp
        have hXR : w.heap.size ≠ R := by omega
        have hX1R : w.heap.size + 1 ≠ R := by omega
        obtain ⟨u0, u1, u2, u3⟩ := HF3.out
        simp only [Nat.zero_add] at u1 u2 u3
        rw [HN.out] at u3
        have v0 := cell u0 hXR
        have v1 := cell u1 hXR
        have v2 := cell u2 hXR
        have v3 := cell u3 hXR
        have v4 := c.but.frozen u3 hXR f3
        obtain ⟨r0, r1, r2, r3, r4, r5, r6, r7⟩ := HFR3.out
        have m0 := cell r0 hX1R
        have m1 := cell r1 hX1R
        have m2 := cell r2 hX1R
        have m3 := cell r3 hX1R
        have m4 := c.but.frozen r0 hX1R r4
        have m5 := c.but.frozen r1 hX1R r5
        have m6 := c.but.frozen r2 hX1R r6
        have m7 := c.but.frozen r3 hX1R r7
        have bW : Below w.heap.size w wr := BB3.trans (c.but.below (by omega) (by omega))
        clear cell u0 u1 u2 u3 r0 r1 r2 r3 r4 r5 r6 r7 hl c
        go_wp2
        have hX3l : w.heap.size < W3.heap.size := by omega
        have hX4l : w.heap.size + 1 < W3.heap.size := by omega
        have hsz5 : (((((wr.setCell ⟨w.heap.size, 3, none⟩ (.slice (some ⟨R, 0, none⟩) k k)).setCell ⟨w.heap.size + 1, 0, none⟩ (.int .i64 t.op)).setCell ⟨w.heap.size + 1, 1, none⟩ (.string t.nm)).setCell ⟨w.heap.size + 1, 2, none⟩ (.int .i64 t.n)).setCell ⟨w.heap.size + 1, 3, none⟩ (.slice (some ⟨R, 0, none⟩) k k)).heap.size = wr.heap.size := by simp
        have hblk : (((((wr.setCell ⟨w.heap.size, 3, none⟩ (.slice (some ⟨R, 0, none⟩) k k)).setCell ⟨w.heap.size + 1, 0, none⟩ (.int .i64 t.op)).setCell ⟨w.heap.size + 1, 1, none⟩ (.string t.nm)).setCell ⟨w.heap.size + 1, 2, none⟩ (.int .i64 t.n)).setCell ⟨w.heap.size + 1, 3, none⟩ (.slice (some ⟨R, 0, none⟩) k k)).heap[R]? = wr.heap[R]? := by
          rw [Below.heap_setCell _ ⟨w.heap.size + 1, 3, none⟩ _ R (fun e => hX1R e.symm), Below.heap_setCell _ ⟨w.heap.size + 1, 2, none⟩ _ R (fun e => hX1R e.symm), Below.heap_setCell _ ⟨w.heap.size + 1, 1, none⟩ _ R (fun e => hX1R e.symm), Below.heap_setCell _ ⟨w.heap.size + 1, 0, none⟩ _ R (fun e => hX1R e.symm), Below.heap_setCell _ ⟨w.heap.size, 3, none⟩ _ R (fun e => hXR e.symm)]
        have htin : ∀ y ∈ l, TIn (((((wr.setCell ⟨w.heap.size, 3, none⟩ (.slice (some ⟨R, 0, none⟩) k k)).setCell ⟨w.heap.size + 1, 0, none⟩ (.int .i64 t.op)).setCell ⟨w.heap.size + 1, 1, none⟩ (.string t.nm)).setCell ⟨w.heap.size + 1, 2, none⟩ (.int .i64 t.n)).setCell ⟨w.heap.size + 1, 3, none⟩ (.slice (some ⟨R, 0, none⟩) k k)) wr.heap.size y := fun y hy =>
          (((((HC.out.tin y hy).setMid (HC.out.fr y hy) (p := ⟨w.heap.size, 3, none⟩) HM.out.B hX3l _).setMid (HC.out.fr y hy) (p := ⟨w.heap.size + 1, 0, none⟩) (Nat.le_succ_of_le HM.out.B) hX4l _).setMid (HC.out.fr y hy) (p := ⟨w.heap.size + 1, 1, none⟩) (Nat.le_succ_of_le HM.out.B) hX4l _).setMid (HC.out.fr y hy) (p := ⟨w.heap.size + 1, 2, none⟩) (Nat.le_succ_of_le HM.out.B) hX4l _).setMid (HC.out.fr y hy) (p := ⟨w.heap.size + 1, 3, none⟩) (Nat.le_succ_of_le HM.out.B) hX4l _
        have hbel : Below w.heap.size w (((((wr.setCell ⟨w.heap.size, 3, none⟩ (.slice (some ⟨R, 0, none⟩) k k)).setCell ⟨w.heap.size + 1, 0, none⟩ (.int .i64 t.op)).setCell ⟨w.heap.size + 1, 1, none⟩ (.string t.nm)).setCell ⟨w.heap.size + 1, 2, none⟩ (.int .i64 t.n)).setCell ⟨w.heap.size + 1, 3, none⟩ (.slice (some ⟨R, 0, none⟩) k k)) := bset (bset (bset (bset (bset bW (by show w.heap.size ≤ w.heap.size; omega) _) (by show w.heap.size ≤ w.heap.size + 1; omega) _) (by show w.heap.size ≤ w.heap.size + 1; omega) _) (by show w.heap.size ≤ w.heap.size + 1; omega) _) (by show w.heap.size ≤ w.heap.size + 1; omega) _
        obtain ⟨ho, hn, hs, -, -⟩ := HIN.out.nums
        have hRw : R < wr.heap.size := Nat.lt_of_lt_of_le hRl HC.out.but.size
        refine bodyPost_ret (v := .agg #[.int .i64 t.op, .string t.nm, .int .i64 t.n, .slice (some ⟨R, 0, none⟩) k k]) (by simp [results, Tryd.results47, go_sem, m0, m1, m2, m3]) rfl ⟨.node t.op t.nm t.n (some ⟨R, 0, none⟩) k l, ?_, ?_, ?_, ?_, hbel⟩
        · simp only [Tm.val, Tm.op, Tm.nm, Tm.n, Tm.a, Tm.ks, Tm.c, hll]
        · rw [er_eq, HRP.out]
          simp only [Tm.op, Tm.nm, Tm.n, Tm.ks, HL.out]
        · rw [hsz5]
          refine .mk _ ho hn hs (by show l.length ≤ k; omega) (by show k ≤ maxLen; unfold maxLen; omega) (fun j hj => ⟨R, 0, rfl, hRw, ?_⟩) htin
          have f := HC.out.four (by omega) j hj
          have e : ∀ q, (((((wr.setCell ⟨w.heap.size, 3, none⟩ (.slice (some ⟨R, 0, none⟩) k k)).setCell ⟨w.heap.size + 1, 0, none⟩ (.int .i64 t.op)).setCell ⟨w.heap.size + 1, 1, none⟩ (.string t.nm)).setCell ⟨w.heap.size + 1, 2, none⟩ (.int .i64 t.n)).setCell ⟨w.heap.size + 1, 3, none⟩ (.slice (some ⟨R, 0, none⟩) k k)).cell? ⟨R, q, none⟩ = wr.cell? ⟨R, q, none⟩ := fun q => World.cell?_of_block (w := wr) hblk
          rw [Nat.zero_add]
          unfold Four
          rw [e, e, e, e]
          exact f
        · refine .mk _ (fun _ p hp => ?_) (fun y hy => (HC.out.fr y hy).mono (by omega))
          simp only [Tm.a, Option.some.injEq] at hp
          subst hp
          right
          show w.heap.size ≤ R
          omega
  · exact replace_name F b n0 B0 t w hin hM hs
end Go.Proofs.YtaibmdikimpooaaDoor
