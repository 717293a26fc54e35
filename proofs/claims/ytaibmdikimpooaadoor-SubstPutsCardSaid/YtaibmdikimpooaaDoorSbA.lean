/-
  Terms without their places; a copy of a term: what 'copied' of package subst does.
-/
import Derived.Test.YtaibmdikimpooaaDoorTmH
import Derived.Laws.OwnMore
import Derived.Laws.MakeOwn
namespace Go.Proofs.YtaibmdikimpooaaDoor
open Go.RowKit

mutual
/-- a term without its places -/
def Tm.er : Tm → Tm
  | .node op nm n _ _ ks => .node op nm n none 0 (Tm.ers ks)
def Tm.ers : List Tm → List Tm
  | [] => []
  | t :: ts => Tm.er t :: Tm.ers ts
end
theorem ers_map : ∀ ks : List Tm, Tm.ers ks = ks.map Tm.er
  | [] => rfl
  | k :: ks => by simp only [Tm.ers, ers_map ks, List.map_cons]
theorem er_eq (t : Tm) : t.er = .node t.op t.nm t.n none 0 (t.ks.map Tm.er) := by
  cases t with
  | node op nm n a c ks => rw [Tm.er, ers_map]; rfl
/-- all that it is made of stands from block lo on -/
inductive TFr (lo : Nat) : Tm → Prop
  | mk (t : Tm) (h : ∀ p, t.a = some p → lo ≤ p.block) (hk : ∀ k ∈ t.ks, TFr lo k) : TFr lo t
theorem TFr.mono {lo lo' : Nat} (hl : lo' ≤ lo) {t : Tm} (h : TFr lo t) : TFr lo' t := by
  induction t using Tm.ind with
  | h t ih =>
    cases h with
    | mk _ h hk => exact .mk t (fun p hp => Nat.le_trans hl (h p hp)) (fun k hk' => ih k hk' (hk k hk'))
theorem TIn.setFar {w : World} {B lo : Nat} {t : Tm} {p : Addr} (h : TIn w B t) (hf : TFr lo t) (hp : p.block < lo) (u : Value) : TIn (w.setCell p u) B t := by
  induction t using Tm.ind with
  | h t ih =>
    cases h with
    | mk _ ho hn hs hc hm hk hi =>
      cases hf with
      | mk _ h' hk' =>
        refine .mk t ho hn hs hc hm (fun j hj => ?_) (fun k hk'' => ih k hk'' (hi k hk'') (hk' k hk''))
        obtain ⟨b, o, ha, hb, f⟩ := hk j hj
        have hlo : lo ≤ b := h' _ ha
        refine ⟨b, o, ha, hb, ?_⟩
        have e : ∀ q, (w.setCell p u).cell? ⟨b, q, none⟩ = w.cell? ⟨b, q, none⟩ := fun q => World.cell?_of_block (w := w) (Below.heap_setCell w p u b (by omega))
        unfold Four
        rw [e, e, e, e]
        exact f
/-- the four cells of a term -/
def tm4 (t : Tm) : List Value := [.int .i64 t.op, .string t.nm, .int .i64 t.n, .slice t.a t.ks.length t.c]
theorem tm_info : (Tryd.prog.info? 24).map (fun i => (i.zero, i.size, i.bytes)) = some (some (.agg #[.int .i64 0, .string ⟨#[]⟩, .int .i64 0, .slice none 0 0]), 4, 56) := by kernel_rfl
theorem tm_parts : ∃ i, Tryd.prog.info? 24 = some i ∧ i.zero = some (.agg #[.int .i64 0, .string ⟨#[]⟩, .int .i64 0, .slice none 0 0]) ∧ i.size = 4 ∧ i.bytes = 56 := by
  obtain ⟨i, hi, he⟩ := Option.map_eq_some_iff.1 tm_info
  simp only [Prod.mk.injEq] at he
  exact ⟨i, hi, he.1, he.2.1, he.2.2⟩
theorem made_terms (n : Nat) (h : n ≤ 2000) : ∃ cs : Array Value, cs.size = n * 4 ∧ ∀ w : World, (Instr.makeSlice 22 (.int .i64 (n : Int)) (.int .i64 (n : Int))).run Tryd.prog w = .ok (.slice (some ⟨w.heap.size, 0, none⟩) n n) (w.alloc (.cells cs 24)) := by
  obtain ⟨i0, hi0, hz0, hz1, hz2⟩ := tm_parts
  refine ⟨madeCells #[.int .i64 0, .string ⟨#[]⟩, .int .i64 0, .slice none 0 0] (n * 4), size_madeCells _ _, fun w => ?_⟩
  have hr := run_make (P := Tryd.prog) w 22 24 i0 _ Tryd.underlying22 hi0 hz0 .i64 .i64 (n : Int) (n : Int) (by omega) (Int.le_refl _) (by rw [hz2]; omega) (by omega)
  rw [hr, hz1, Int.toNat_natCast]
  rfl
/-- the parts that are done: the row in block R, its first parts -/
structure CP (W3 : World) (R n : Nat) (l : List Tm) (w : World) : Prop where
  but : But R W3 w
  row : ∃ xs : List Value, w.ownsRow R 24 4 (.slice (some ⟨R, 0, none⟩) n n) n xs ∧ ∀ m (hm : m < l.length) i, i < 4 → xs[m * 4 + i]? = (tm4 l[m])[i]?
  tin : ∀ x ∈ l, TIn w w.heap.size x
  fr : ∀ x ∈ l, TFr W3.heap.size x
theorem CP.later {W3 w w' : World} {R n : Nat} {l : List Tm} (h : CP W3 R n l w) (hb : Below w.heap.size w w') : CP W3 R n l w' := by
  obtain ⟨xs, ho, hx⟩ := h.row
  refine ⟨h.but.trans (But.of hb), ⟨xs, ?_, hx⟩, fun x hx => (h.tin x hx).later hb, h.fr⟩
  refine ⟨ho.1, ?_⟩
  rcases ho.2 with h0 | ⟨g, cap, cur, hv, hbg, hg, hr⟩
  · exact .inl h0
  · exact .inr ⟨g, cap, cur, hv, hbg, by rw [hb.block g (Array.getElem?_eq_some_iff.1 hg).1]; exact hg, hr⟩
theorem CP.four {W3 w : World} {R n : Nat} {l : List Tm} (h : CP W3 R n l w) (hl : l.length ≤ n) (m : Nat) (hm : m < l.length) : Four w R (m * 4) l[m] := by
  obtain ⟨xs, ho, hx⟩ := h.row
  have c : ∀ i, i < 4 → w.cell? ⟨R, m * 4 + i, none⟩ = (tm4 l[m])[i]? := fun i hi => by rw [ho.cellAt (m * 4 + i) (by omega), hx m hm i hi]
  exact ⟨c 0 (by omega), c 1 (by omega), c 2 (by omega), c 3 (by omega)⟩
theorem CP.there {W3 w : World} {R n : Nat} {l : List Tm} (h : CP W3 R n l w) (k : Nat) (hk : k < n * 4) : ∃ u, w.cell? ⟨R, k, none⟩ = some u ∧ w.frozen? ⟨R, k, none⟩ = false := by
  obtain ⟨xs, ho, -⟩ := h.row
  refine ⟨xs[k]'(by rw [ho.1]; exact hk), ?_, ho.frozenAt k⟩
  rw [ho.cellAt k hk]
  exact List.getElem?_eq_getElem _
theorem CP.store {W3 w : World} {R n : Nat} {l : List Tm} (h : CP W3 R n l w) (hl : l.length < n) (hR : R < W3.heap.size) {x : Tm} (hx : TIn w w.heap.size x) (hf : TFr W3.heap.size x) :
    CP W3 R n (l ++ [x]) ((((w.setCell ⟨R, l.length * 4, none⟩ (.int .i64 x.op)).setCell ⟨R, l.length * 4 + 1, none⟩ (.string x.nm)).setCell ⟨R, l.length * 4 + 2, none⟩ (.int .i64 x.n)).setCell ⟨R, l.length * 4 + 3, none⟩ (.slice x.a x.ks.length x.c)) := by
  obtain ⟨xs, ho, hxs⟩ := h.row
  have r1 := (ho.stored (l.length * 4) (.int .i64 x.op)).1
  have r2 := (r1.stored (l.length * 4 + 1) (.string x.nm)).1
  have r3 := (r2.stored (l.length * 4 + 2) (.int .i64 x.n)).1
  have r4 := (r3.stored (l.length * 4 + 3) (.slice x.a x.ks.length x.c)).1
  have hlen : xs.length = n * 4 := ho.1
  have set4 : ∀ y : Tm, TIn w w.heap.size y → TFr W3.heap.size y → TIn ((((w.setCell ⟨R, l.length * 4, none⟩ (.int .i64 x.op)).setCell ⟨R, l.length * 4 + 1, none⟩ (.string x.nm)).setCell ⟨R, l.length * 4 + 2, none⟩ (.int .i64 x.n)).setCell ⟨R, l.length * 4 + 3, none⟩ (.slice x.a x.ks.length x.c)) w.heap.size y := fun y hy hfy =>
    (((hy.setFar hfy (p := ⟨R, _, none⟩) hR _).setFar hfy (p := ⟨R, _, none⟩) hR _).setFar hfy (p := ⟨R, _, none⟩) hR _).setFar hfy (p := ⟨R, _, none⟩) hR _
  refine ⟨(((h.but.set (p := ⟨R, _, none⟩) (.inl rfl) _).set (p := ⟨R, _, none⟩) (.inl rfl) _).set (p := ⟨R, _, none⟩) (.inl rfl) _).set (p := ⟨R, _, none⟩) (.inl rfl) _, ⟨_, r4, fun m hm i hi => ?_⟩, fun y hy => ?_, fun y hy => ?_⟩
  · simp only [List.getElem?_set, List.length_set]
    by_cases hml : m < l.length
    · rw [if_neg (by omega), if_neg (by omega), if_neg (by omega), if_neg (by omega), hxs m hml i hi, List.getElem_append_left hml]
    · have hml : m = l.length := by simp at hm; omega
      subst hml
      rw [List.getElem_append_right (by omega)]
      simp only [Nat.sub_self, List.getElem_cons_zero]
      match i, hi with
      | 0, _ => rw [if_neg (by omega), if_neg (by omega), if_neg (by omega), if_pos (by omega), if_pos (by omega)]; rfl
      | 1, _ => rw [if_neg (by omega), if_neg (by omega), if_pos (by omega), if_pos (by omega)]; rfl
      | 2, _ => rw [if_neg (by omega), if_pos (by omega), if_pos (by omega)]; rfl
      | 3, _ => rw [if_pos (by omega), if_pos (by omega)]; rfl
  · have hs : ((((w.setCell ⟨R, l.length * 4, none⟩ (.int .i64 x.op)).setCell ⟨R, l.length * 4 + 1, none⟩ (.string x.nm)).setCell ⟨R, l.length * 4 + 2, none⟩ (.int .i64 x.n)).setCell ⟨R, l.length * 4 + 3, none⟩ (.slice x.a x.ks.length x.c)).heap.size = w.heap.size := by simp
    rw [hs]
    rcases List.mem_append.1 hy with hy | hy
    · exact set4 y (h.tin y hy) (h.fr y hy)
    · rw [List.mem_singleton.1 hy]; exact set4 x hx hf
  · rcases List.mem_append.1 hy with hy | hy
    · exact h.fr y hy
    · rw [List.mem_singleton.1 hy]; exact hf
theorem CP.start {w : World} {cs : Array Value} {n : Nat} (hc : cs.size = n * 4) (hn : n ≤ 2000) : CP (w.alloc (.cells cs 24)) w.heap.size n [] (w.alloc (.cells cs 24)) :=
  ⟨But.refl _ _, ⟨_, World.ownsRow_lit w cs n (Nat.le_refl _) (by unfold maxLen; omega) hc, fun m hm => by simp at hm⟩, fun x hx => (by cases hx), fun x hx => (by cases hx)⟩
theorem len_sizes : ∀ l : List Tm, l.length ≤ Tm.sizes l
  | [] => Nat.zero_le _
  | t :: ts => by
    have := len_sizes ts
    have h1 := Tm.size_eq t
    simp only [List.length_cons, Tm.sizes]
    omega
/-- four cells that may be written -/
def FourV' (w : World) (b : Nat) (x y z u : Value) : Prop := w.cell? ⟨b, 0, none⟩ = some x ∧ w.cell? ⟨b, 1, none⟩ = some y ∧ w.cell? ⟨b, 2, none⟩ = some z ∧ w.cell? ⟨b, 3, none⟩ = some u ∧ w.frozen? ⟨b, 0, none⟩ = false ∧ w.frozen? ⟨b, 1, none⟩ = false ∧ w.frozen? ⟨b, 2, none⟩ = false ∧ w.frozen? ⟨b, 3, none⟩ = false
theorem FourV'.later {w w1 : World} {b : Nat} {x y z u : Value} (h : FourV' w b x y z u) (hb : Below w.heap.size w w1) : FourV' w1 b x y z u :=
  ⟨cell_later hb h.1, cell_later hb h.2.1, cell_later hb h.2.2.1, cell_later hb h.2.2.2.1, frozen_later hb h.1 h.2.2.2.2.1, frozen_later hb h.2.1 h.2.2.2.2.2.1, frozen_later hb h.2.2.1 h.2.2.2.2.2.2.1, frozen_later hb h.2.2.2.1 h.2.2.2.2.2.2.2⟩
/-- a copy of a term: the same without its places, all of it new -/
def CopyT (t : Tm) (w : World) (e : Ending) (w' : World) : Prop := ∃ x : Tm, e = .returned x.val ∧ x.er = t.er ∧ TIn w' w'.heap.size x ∧ TFr w.heap.size x ∧ Below w.heap.size w w'
def cpW (t : Tm) (w : World) : World := (w.alloc (boxT t)).alloc (.cells #[.int .i64 0, .string ⟨#[]⟩, .int .i64 0, .slice none 0 0] 24)
set_option maxRecDepth 100000 in
set_option maxHeartbeats 4000000 in
theorem scopied_any (t : Tm) : ∀ w : World, TIn w w.heap.size t → t.size ≤ 2000 → Calls Tryd.prog 48 #[t.val] w (CopyT t w) := by
  induction t using Tm.ind with
  | h t ih =>
  intro w hin hz
  have hsz := Tm.size_eq t
  have hkl : t.ks.length ≤ 2000 := by
    have := len_sizes t.ks
    omega
  obtain ⟨cs, hcs, hmk⟩ := made_terms t.ks.length hkl
  have hb2 : Below w.heap.size w (cpW t w) := bal (bal (Below.refl _ _) _) _
  have F2 : Four (cpW t w) w.heap.size 0 t := (box_four w t).later (bel_alloc _ _)
  have f2 : (cpW t w).frozen? ⟨w.heap.size, 3, none⟩ = false := by simp [cpW, boxT, go_sem]
  have FR : FourV' (cpW t w) (w.heap.size + 1) (.int .i64 0) (.string ⟨#[]⟩) (.int .i64 0) (.slice none 0 0) := by simp [FourV', cpW, boxT, go_sem]
  have hX2 : (cpW t w).heap.size = w.heap.size + 1 + 1 := by simp [cpW]
  have HIN := mkHid hin
  have IH := mkHid ih
  have HZ := mkHid hz
  have HCS := mkHid hcs
  have HX2 := mkHid hX2
  have hW2 : (w.alloc (.cells #[.int .i64 t.op, .string t.nm, .int .i64 t.n, .slice t.a t.ks.length t.c] 24)).alloc (.cells #[.int .i64 0, .string ⟨#[]⟩, .int .i64 0, .slice none 0 0] 24) = cpW t w := rfl
  clear hin ih hz hcs hX2
  generalize cpW t w = W2 at *
  unfold Tm.val
  generalize hn' : t.ks.length = n at *
  have HN := mkHid hn'
  clear hn'
  have hn9 : n ≤ 9223372036854775807 := by omega
  have C0 := CP.start (w := W2) HCS.out hkl
  have b3 := bel_alloc W2 (.cells cs 24)
  have F3 := F2.later b3
  have f3 := frozen_later b3 F2.2.2.2 (by rw [Nat.zero_add]; exact f2)
  have FR3 := FR.later b3
  have BB3 := bon hb2 b3
  have hX3 : (W2.alloc (.cells cs 24)).heap.size = w.heap.size + 1 + 1 + 1 := by rw [World.size_alloc, HX2.out]
  have HX3 := mkHid hX3
  have hR : W2.heap.size = w.heap.size + 1 + 1 := HX2.out
  have HR := mkHid hR
  have a3' := F2.2.2.2
  simp only [Nat.zero_add] at a3'
  rw [HN.out] at a3'
  clear hX3 hR F2 f2 FR hb2 b3
  generalize hW3 : W2.alloc (.cells cs 24) = W3 at *
  obtain ⟨a0, a1, a2, a3⟩ := id F3
  simp only [Nat.zero_add] at a1 a2 a3 f3
  rw [HN.out] at a3
  generalize hRR : W2.heap.size = R at *
  have HF3 := mkHid F3
  have HFR3 := mkHid FR3
  have hRl : R < W3.heap.size := by rw [HX3.out, HR.out]; omega
  go_enter Tryd.func48, Tryd.ntmps48
  go_wp2
  clear a0 a1 a2 a3 a3' hW3 hW2 hmk
  go_loopw [13] (fun i w' => ∃ (k : Nat) (x : Int), i = .int .i64 x ∧ x = k ∧ k ≤ n ∧ ∃ l, CP W3 R n l w' ∧ l.map Tm.er = (t.ks.take k).map Tm.er) (fun i _ => (n - intOf i).toNat)
  case atStart => exact ⟨0, 0, rfl, rfl, Nat.zero_le _, [], C0, by simp⟩
  case round =>
    clear C0
    obtain ⟨k, x, rfl, hxk, hk, l, c, hl⟩ := hrel
    obtain rfl : x = (k : Int) := hxk
    have hll : l.length = k := by have := congrArg List.length hl; simpa [HN.out, Nat.min_eq_left hk] using this
    by_cases hlt : k < n
    · have hk' : k < t.ks.length := by rw [HN.out]; exact hlt
      obtain ⟨kin, b, o, ha, hbB, kf⟩ := HIN.out.kid k hk'
      have bW : Below w.heap.size w wr := BB3.trans (c.but.below (by rw [HR.out]; omega) (by rw [HX3.out]; omega))
      have kf' := kf.keep bW hbB
      have kin' := (kin.keep bW).mono bW.size
      have hks : t.ks[k].size ≤ 2000 := by
        have h1 := sizes_take_le t.ks (k + 1)
        rw [take_succ_sizes t.ks k hk'] at h1
        have := HZ.out
        omega
      have HC := mkHid (IH.out t.ks[k] (List.getElem_mem _) (wr.alloc (boxT t.ks[k])) (kin'.later (bel_alloc _ _)) hks)
      have HT := mkHid (List.take_succ_eq_append_getElem hk')
      generalize t.ks[k] = q at *
      rw [ha]
      clear ha kin kf kin' hk' hks
      obtain ⟨g0, g1, g2, g3⟩ := kf'
      have F4 := box_four wr q
      have bN := bel_alloc wr (boxT q)
      have HCN := mkHid (c.later bN)
      have hW5 : wr.alloc (.cells #[.int .i64 q.op, .string q.nm, .int .i64 q.n, .slice q.a q.ks.length q.c] 24) = wr.alloc (boxT q) := rfl
      have hzr : W3.heap.size ≤ (wr.alloc (boxT q)).heap.size := Nat.le_trans c.but.size bN.size
      unfold Tm.val at HC
      generalize wr.alloc (boxT q) = W5 at *
      obtain ⟨f0, f1, f2, f3'⟩ := F4
      simp only [Nat.zero_add] at f1 f2 f3'
      have hk2 : (k : Int) < (n : Int) := by omega
      go_wp2_with fail
      ((with_reducible refine HC.out.mono ?_)); rintro e w6 ⟨z, rfl, hz1, hz2, hz3, hb6⟩
      clear g0 g1 g2 g3 f0 f1 f2 f3' hW5 HC
      have c6 := HCN.out.later hb6
      have hz3' := hz3.mono hzr
      obtain ⟨e0, t0, s0⟩ := c6.there (k * 4) (by omega)
      obtain ⟨e1, t1, s1⟩ := c6.there (k * 4 + 1) (by omega)
      obtain ⟨e2, t2, s2⟩ := c6.there (k * 4 + 2) (by omega)
      obtain ⟨e3, t3, s3⟩ := c6.there (k * 4 + 3) (by omega)
      have c7 := c6.store (by omega) hRl hz2 hz3'
      rw [hll] at c7
      have HC7 := mkHid c7
      clear c6 c7 c
      unfold Tm.val
      go_wp2
      go_roundw
      case rel => exact ⟨k + 1, _, rfl, by omega, by omega, _, HC7.out, by rw [HT.out, List.map_append, List.map_append, hl]; simp [hz1]⟩
      case measure => simp [intOf]; omega
    · obtain rfl : k = n := by omega
      have HL : Hid (l.map Tm.er = t.ks.map Tm.er) := by
        show _ = _
        rw [hl, List.take_of_length_le (by rw [HN.out]; omega)]
      have HC := mkHid c
      have cell : ∀ {p : Addr} {v : Value}, W3.cell? p = some v → p.block ≠ R → wr.cell? p = some v := fun h hp => c.but.cell h hp
      have hXR : w.heap.size ≠ R := by rw [HR.out]; omega
      have hX1R : w.heap.size + 1 ≠ R := by rw [HR.out]; omega
      obtain ⟨u0, u1, u2, u3⟩ := HF3.out
      simp only [Nat.zero_add] at u1 u2 u3
      rw [HN.out] at u3
      have v0 := cell u0 hXR
      have v1 := cell u1 hXR
      have v2 := cell u2 hXR
      have v3 := cell u3 hXR
      have v4 := c.but.frozen u3 hXR f3
      obtain ⟨r0, r1, r2, r3, r4, r5, r6, r7⟩ := HFR3.out
      have m0 := cell r0 hX1R
      have m1 := cell r1 hX1R
      have m2 := cell r2 hX1R
      have m3 := cell r3 hX1R
      have m4 := c.but.frozen r0 hX1R r4
      have m5 := c.but.frozen r1 hX1R r5
      have m6 := c.but.frozen r2 hX1R r6
      have m7 := c.but.frozen r3 hX1R r7
      have bW : Below w.heap.size w wr := BB3.trans (c.but.below (by rw [HR.out]; omega) (by rw [HX3.out]; omega))
      clear cell u0 u1 u2 u3 r0 r1 r2 r3 r4 r5 r6 r7 hl c
      go_wp2
      have hX3l : w.heap.size < W3.heap.size := by rw [HX3.out]; omega
      have hX4l : w.heap.size + 1 < W3.heap.size := by rw [HX3.out]; omega
      have hsz5 : (((((wr.setCell ⟨w.heap.size, 3, none⟩ (.slice (some ⟨R, 0, none⟩) k k)).setCell ⟨w.heap.size + 1, 0, none⟩ (.int .i64 t.op)).setCell ⟨w.heap.size + 1, 1, none⟩ (.string t.nm)).setCell ⟨w.heap.size + 1, 2, none⟩ (.int .i64 t.n)).setCell ⟨w.heap.size + 1, 3, none⟩ (.slice (some ⟨R, 0, none⟩) k k)).heap.size = wr.heap.size := by simp
      have hblk : (((((wr.setCell ⟨w.heap.size, 3, none⟩ (.slice (some ⟨R, 0, none⟩) k k)).setCell ⟨w.heap.size + 1, 0, none⟩ (.int .i64 t.op)).setCell ⟨w.heap.size + 1, 1, none⟩ (.string t.nm)).setCell ⟨w.heap.size + 1, 2, none⟩ (.int .i64 t.n)).setCell ⟨w.heap.size + 1, 3, none⟩ (.slice (some ⟨R, 0, none⟩) k k)).heap[R]? = wr.heap[R]? := by
        rw [Below.heap_setCell _ ⟨w.heap.size + 1, 3, none⟩ _ R (fun e => hX1R e.symm), Below.heap_setCell _ ⟨w.heap.size + 1, 2, none⟩ _ R (fun e => hX1R e.symm), Below.heap_setCell _ ⟨w.heap.size + 1, 1, none⟩ _ R (fun e => hX1R e.symm), Below.heap_setCell _ ⟨w.heap.size + 1, 0, none⟩ _ R (fun e => hX1R e.symm), Below.heap_setCell _ ⟨w.heap.size, 3, none⟩ _ R (fun e => hXR e.symm)]
      have htin : ∀ y ∈ l, TIn (((((wr.setCell ⟨w.heap.size, 3, none⟩ (.slice (some ⟨R, 0, none⟩) k k)).setCell ⟨w.heap.size + 1, 0, none⟩ (.int .i64 t.op)).setCell ⟨w.heap.size + 1, 1, none⟩ (.string t.nm)).setCell ⟨w.heap.size + 1, 2, none⟩ (.int .i64 t.n)).setCell ⟨w.heap.size + 1, 3, none⟩ (.slice (some ⟨R, 0, none⟩) k k)) wr.heap.size y := fun y hy =>
        (((((HC.out.tin y hy).setFar (HC.out.fr y hy) (p := ⟨w.heap.size, 3, none⟩) hX3l _).setFar (HC.out.fr y hy) (p := ⟨w.heap.size + 1, 0, none⟩) hX4l _).setFar (HC.out.fr y hy) (p := ⟨w.heap.size + 1, 1, none⟩) hX4l _).setFar (HC.out.fr y hy) (p := ⟨w.heap.size + 1, 2, none⟩) hX4l _).setFar (HC.out.fr y hy) (p := ⟨w.heap.size + 1, 3, none⟩) hX4l _
      have hbel : Below w.heap.size w (((((wr.setCell ⟨w.heap.size, 3, none⟩ (.slice (some ⟨R, 0, none⟩) k k)).setCell ⟨w.heap.size + 1, 0, none⟩ (.int .i64 t.op)).setCell ⟨w.heap.size + 1, 1, none⟩ (.string t.nm)).setCell ⟨w.heap.size + 1, 2, none⟩ (.int .i64 t.n)).setCell ⟨w.heap.size + 1, 3, none⟩ (.slice (some ⟨R, 0, none⟩) k k)) := bset (bset (bset (bset (bset bW (by show w.heap.size ≤ w.heap.size; omega) _) (by show w.heap.size ≤ w.heap.size + 1; omega) _) (by show w.heap.size ≤ w.heap.size + 1; omega) _) (by show w.heap.size ≤ w.heap.size + 1; omega) _) (by show w.heap.size ≤ w.heap.size + 1; omega) _
      obtain ⟨ho, hn, hs, -, -⟩ := HIN.out.nums
      have hRw : R < wr.heap.size := Nat.lt_of_lt_of_le hRl HC.out.but.size
      refine bodyPost_ret (v := .agg #[.int .i64 t.op, .string t.nm, .int .i64 t.n, .slice (some ⟨R, 0, none⟩) k k]) (by simp [results, Tryd.results48, go_sem, m0, m1, m2, m3]) rfl ⟨.node t.op t.nm t.n (some ⟨R, 0, none⟩) k l, ?_, ?_, ?_, ?_, hbel⟩
      · simp only [Tm.val, Tm.op, Tm.nm, Tm.n, Tm.a, Tm.ks, Tm.c, hll]
      · rw [er_eq, er_eq t]
        simp only [Tm.op, Tm.nm, Tm.n, Tm.ks, HL.out]
      · rw [hsz5]
        refine .mk _ ho hn hs (by show l.length ≤ k; omega) (by show k ≤ maxLen; unfold maxLen; omega) (fun j hj => ⟨R, 0, rfl, hRw, ?_⟩) htin
        have f := HC.out.four (by omega) j hj
        have e : ∀ q, (((((wr.setCell ⟨w.heap.size, 3, none⟩ (.slice (some ⟨R, 0, none⟩) k k)).setCell ⟨w.heap.size + 1, 0, none⟩ (.int .i64 t.op)).setCell ⟨w.heap.size + 1, 1, none⟩ (.string t.nm)).setCell ⟨w.heap.size + 1, 2, none⟩ (.int .i64 t.n)).setCell ⟨w.heap.size + 1, 3, none⟩ (.slice (some ⟨R, 0, none⟩) k k)).cell? ⟨R, q, none⟩ = wr.cell? ⟨R, q, none⟩ := fun q => World.cell?_of_block (w := wr) hblk
        rw [Nat.zero_add]
        unfold Four
        rw [e, e, e, e]
        exact f
      · refine .mk _ (fun p hp => ?_) (fun y hy => (HC.out.fr y hy).mono (by rw [HX3.out]; omega))
        simp only [Tm.a, Option.some.injEq] at hp
        subst hp
        show w.heap.size ≤ R
        rw [HR.out]; omega
end Go.Proofs.YtaibmdikimpooaaDoor
