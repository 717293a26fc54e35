/-
  The shapes of operations, and what 'sortWithin' answers.
-/
import Derived.Test.YtaibmdikimpooaaDoorTmF
namespace Go.Proofs.YtaibmdikimpooaaDoor
open Go.RowKit

/-- what a term of one operation must be made of -/
structure Sh where
  sort : Nat
  name : Bool
  number : Bool
  many : Bool
  count : Nat
  p0 : Nat
  p1 : Nat
def shRows : List Sh := [
  ⟨0, false, false, false, 0, 0, 0⟩,
  ⟨1, false, true, false, 0, 0, 0⟩,
  ⟨1, true, false, false, 0, 0, 0⟩,
  ⟨1, false, false, false, 1, 2, 0⟩,
  ⟨1, false, false, false, 2, 1, 1⟩,
  ⟨1, false, false, false, 2, 1, 1⟩,
  ⟨1, false, true, false, 1, 1, 0⟩,
  ⟨2, true, false, false, 0, 0, 0⟩,
  ⟨2, false, false, false, 0, 0, 0⟩,
  ⟨2, false, false, false, 0, 0, 0⟩,
  ⟨2, false, false, false, 1, 3, 0⟩,
  ⟨2, false, false, false, 2, 2, 2⟩,
  ⟨2, false, false, false, 2, 2, 2⟩,
  ⟨2, false, false, false, 2, 2, 2⟩,
  ⟨3, true, false, false, 0, 0, 0⟩,
  ⟨4, true, false, false, 0, 0, 0⟩,
  ⟨4, false, false, false, 0, 0, 0⟩,
  ⟨4, false, false, false, 0, 0, 0⟩,
  ⟨4, false, false, false, 1, 4, 0⟩,
  ⟨4, false, false, true, 0, 4, 0⟩,
  ⟨4, false, false, true, 0, 4, 0⟩,
  ⟨4, false, false, false, 2, 4, 4⟩,
  ⟨4, false, false, false, 2, 1, 1⟩,
  ⟨4, false, false, false, 2, 1, 1⟩,
  ⟨4, false, false, false, 2, 1, 1⟩,
  ⟨4, false, false, false, 2, 3, 2⟩,
  ⟨4, false, false, false, 2, 2, 2⟩,
  ⟨4, false, false, false, 2, 2, 2⟩,
  ⟨4, false, false, false, 2, 3, 3⟩]
def noSh : Sh := ⟨0, false, false, false, 0, 0, 0⟩
def shRow (j : Nat) : Sh := shRows.getD j noSh
def Sh.val (r : Sh) : Value := .agg #[.int .i64 r.sort, .bool r.name, .bool r.number, .bool r.many, .int .i64 r.count, .int .i64 r.p0, .int .i64 r.p1]
def Sh.want (r : Sh) (i : Nat) : Nat := if r.many then r.p0 else if i = 0 then r.p0 else r.p1
/-- the seven cells of a shape -/
def Seven (w : World) (b o : Nat) (r : Sh) : Prop :=
  w.cell? ⟨b, o, none⟩ = some (.int .i64 r.sort) ∧ w.cell? ⟨b, o + 1, none⟩ = some (.bool r.name) ∧ w.cell? ⟨b, o + 2, none⟩ = some (.bool r.number) ∧ w.cell? ⟨b, o + 3, none⟩ = some (.bool r.many) ∧
  w.cell? ⟨b, o + 4, none⟩ = some (.int .i64 r.count) ∧ w.cell? ⟨b, o + 5, none⟩ = some (.int .i64 r.p0) ∧ w.cell? ⟨b, o + 6, none⟩ = some (.int .i64 r.p1)
theorem Seven.later {w w' : World} {b o : Nat} {r : Sh} (h : Seven w b o r) (hb : Below w.heap.size w w') : Seven w' b o r :=
  ⟨cell_later hb h.1, cell_later hb h.2.1, cell_later hb h.2.2.1, cell_later hb h.2.2.2.1, cell_later hb h.2.2.2.2.1, cell_later hb h.2.2.2.2.2.1, cell_later hb h.2.2.2.2.2.2⟩
/-- the table of shapes lies where the program's variable lies -/
def Shps (w : World) : Prop := ∀ j, j < 29 → Seven w 0 (j * 7) (shRow j)
theorem Shps.later {w w' : World} (h : Shps w) (hb : Below w.heap.size w w') : Shps w' := fun j hj => (h j hj).later hb
theorem shRow_all : ∀ j, j < 29 → (shRow j).count ≤ 2 ∧ (shRow j).sort ≤ 4 ∧ (1 ≤ j → 1 ≤ (shRow j).sort) ∧ (shRow j).p0 ≤ 4 ∧ (shRow j).p1 ≤ 4 := by decide

def holdsB (r : Sh) (l : List Nat) : Bool := (r.many || decide (l.length = r.count)) && (List.range l.length).all (fun i => decide (l.getD i 0 = r.want i))
def namedB (r : Sh) (s : ByteArray) : Bool := if r.name then nameB s else s.toList.isEmpty
def sortOf (op : Int) (nm : ByteArray) (n : Int) (l : List Nat) : Nat :=
  if 1 ≤ op ∧ op ≤ 28 then
    (if namedB (shRow op.toNat) nm && ((shRow op.toNat).number || decide (n = 0)) && holdsB (shRow op.toNat) l then (shRow op.toNat).sort else 0)
  else 0
mutual
def Tm.srt : Tm → Nat
  | .node op nm n _ _ ks => sortOf op nm n (Tm.srts ks)
def Tm.srts : List Tm → List Nat
  | [] => []
  | t :: ts => Tm.srt t :: Tm.srts ts
end
theorem srts_map (ks : List Tm) : Tm.srts ks = ks.map Tm.srt := by
  induction ks with
  | nil => simp [Tm.srts]
  | cons t ts ih => simp [Tm.srts, ih]
theorem srt_eq (t : Tm) : t.srt = sortOf t.op t.nm t.n (t.ks.map Tm.srt) := by
  rw [← srts_map]; cases t; simp [Tm.srt, Tm.op, Tm.nm, Tm.n, Tm.ks]
theorem srt_le (t : Tm) : t.srt ≤ 4 := by
  rw [srt_eq]; unfold sortOf
  split
  · split
    · exact (shRow_all _ (by omega)).2.1
    · omega
  · omega

set_option maxRecDepth 100000 in
set_option maxHeartbeats 1000000 in
theorem named_any (r : Sh) (s : ByteArray) (w : World) (hs : s.size ≤ maxLen) :
    Calls Tryd.prog 52 #[r.val, .string s] w fun e w' => e = .returned (.bool (namedB r s)) ∧ Below w.heap.size w w' := by
  have NM := mkHid (fun w => name_any s w hs)
  obtain ⟨sort, name, number, many, count, p0, p1⟩ := r
  unfold Sh.val
  cases name
  · have e : namedB ⟨sort, false, number, many, count, p0, p1⟩ s = s.toList.isEmpty := rfl
    rw [e]
    clear e
    unfold maxLen at hs
    go_enter Tryd.func52, Tryd.ntmps52
    go_wp2
    go_ret
    exact ⟨rfl, bal (Below.refl _ _) _⟩
  · have e : namedB ⟨sort, true, number, many, count, p0, p1⟩ s = nameB s := rfl
    rw [e]
    clear e
    generalize nameB s = b at *
    go_enter Tryd.func52, Tryd.ntmps52
    go_wp2_with (go_at_call 18; refine (NM.out _).mono ?_; rintro e w1 ⟨rfl, rfl⟩)
    go_ret
    exact ⟨rfl, bal (Below.refl _ _) _⟩

theorem seven_box (w : World) (r : Sh) : Seven (w.alloc (.cells #[.int .i64 r.sort, .bool r.name, .bool r.number, .bool r.many, .int .i64 r.count, .int .i64 r.p0, .int .i64 r.p1] 54)) w.heap.size 0 r := by simp [Seven, go_sem]
theorem holdsB_len {r : Sh} {l : List Nat} (hm : r.many = false) (hl : l.length ≠ r.count) : holdsB r l = false := by
  simp [holdsB, hm, hl]
theorem holdsB_at {r : Sh} {l : List Nat} {k : Nat} (hk : k < l.length) (h : l.getD k 0 ≠ r.want k) : holdsB r l = false := by
  unfold holdsB
  rw [Bool.and_eq_false_iff]; right
  rw [Bool.eq_false_iff]; intro ha
  exact h (of_decide_eq_true (List.all_eq_true.1 ha k (List.mem_range.2 hk)))
theorem holdsB_all {r : Sh} {l : List Nat} (hm : r.many = true ∨ l.length = r.count) (h : (List.range l.length).all (fun i => decide (l.getD i 0 = r.want i)) = true) : holdsB r l = true := by
  unfold holdsB
  rw [h]
  rcases hm with hm | hm <;> simp [hm]
theorem getD_map_srt (ks : List Tm) (k : Nat) (h : k < ks.length) : (ks.map Tm.srt).getD k 0 = (ks[k]).srt := by
  simp [List.getD, List.getElem?_map, List.getElem?_eq_getElem h]

set_option maxRecDepth 100000 in
set_option maxHeartbeats 4000000 in
theorem holds_any (r : Sh) (t : Tm) (w : World) (hin : TIn w w.heap.size t) (hS : Shps w) (hc : r.count ≤ 2) (h0 : r.p0 ≤ 4) (h1 : r.p1 ≤ 4)
    (ih : Hid (∀ k ∈ t.ks, ∀ w : World, TIn w w.heap.size k → Shps w → Calls Tryd.prog 28 #[k.val] w fun e w' => e = .returned (.int .i64 k.srt) ∧ Below w.heap.size w w')) :
    Calls Tryd.prog 53 #[r.val, .slice t.a t.ks.length t.c] w fun e w' => e = .returned (.bool (holdsB r (t.ks.map Tm.srt))) ∧ Below w.heap.size w w' := by
  have HL : Hid ((t.ks.map Tm.srt).length = t.ks.length) := by show _ = _; simp
  generalize hR : holdsB r (t.ks.map Tm.srt) = R
  have HR := mkHid hR
  clear hR
  have HIN := mkHid hin
  obtain ⟨-, -, -, hlc, hcm⟩ := hin.nums
  unfold maxLen at hcm
  have HS := mkHid hS
  have B7 := seven_box w r
  have hB0 := bel_alloc w (.cells #[.int .i64 r.sort, .bool r.name, .bool r.number, .bool r.many, .int .i64 r.count, .int .i64 r.p0, .int .i64 r.p1] 54)
  clear hin hS
  have hn : t.ks.length ≤ 9223372036854775807 := by omega
  generalize hn' : t.ks.length = n at *
  have HN := mkHid hn'
  clear hn'
  have W7 := mkHid (fun (wr : World) (hb : Below (w.alloc (.cells #[.int .i64 r.sort, .bool r.name, .bool r.number, .bool r.many, .int .i64 r.count, .int .i64 r.p0, .int .i64 r.p1] 54)).heap.size (w.alloc (.cells #[.int .i64 r.sort, .bool r.name, .bool r.number, .bool r.many, .int .i64 r.count, .int .i64 r.p0, .int .i64 r.p1] 54)) wr) => B7.later hb)
  generalize hW : w.alloc (.cells #[.int .i64 r.sort, .bool r.name, .bool r.number, .bool r.many, .int .i64 r.count, .int .i64 r.p0, .int .i64 r.p1] 54) = W at *
  generalize hX : w.heap.size = X at *
  have wnt : ∀ k, r.want k ≤ 4 := fun k => by unfold Sh.want; split; · exact h0
                                              · split; · exact h0
                                                · exact h1
  have HW := mkHid wnt
  clear wnt h0 h1
  unfold Sh.val
  obtain ⟨a0, a1, a2, a3, a4, a5, a6⟩ := B7
  simp only [Nat.zero_add] at a1 a2 a3 a4 a5 a6
  cases hm : r.many
  · rw [hm] at a3 hW
    by_cases hnc : n = r.count
    · have hn2 : n ≤ 2 := by omega
      have hne : ((n : Int) != (r.count : Int)) = false := by rw [hnc]; simp
      have HC := mkHid hnc
      have HMM := mkHid hm
      clear hnc hm
      go_enter Tryd.func53, Tryd.ntmps53
      go_wp2
      clear a0 a1 a2 a3 a4 a5 a6 hW
      go_loopw [20] (fun i w' => ∃ (k : Nat) (x : Int), i = .int .i64 x ∧ x = k ∧ k ≤ n ∧ Below W.heap.size W w' ∧ (List.range k).all (fun i => decide ((t.ks.map Tm.srt).getD i 0 = r.want i)) = true) (fun i _ => (n - intOf i).toNat)
      case atStart => exact ⟨0, 0, rfl, rfl, Nat.zero_le _, Below.refl _ _, rfl⟩
      case round =>
        obtain ⟨k, x, rfl, hxk, hk, hb, hal⟩ := hrel
        obtain rfl : x = (k : Int) := hxk
        have HA := mkHid hal
        clear hal
        by_cases hlt : k < n
        · have hk' : k < t.ks.length := by rw [HN.out]; exact hlt
          have hsu := range_all_succ (fun i => decide ((t.ks.map Tm.srt).getD i 0 = r.want i)) k
          rw [HA.out, Bool.true_and, getD_map_srt t.ks k hk'] at hsu
          have HSU := mkHid hsu
          have hbw : Below X w wr := hX ▸ (hB0.trans (hb.mono (hX ▸ hB0.size)))
          obtain ⟨kin, b, o, ha, hbB, kf⟩ := HIN.out.kid k hk'
          have kin' := (kin.keep hbw).mono (hX ▸ hbw.size)
          have kf' := kf.keep hbw hbB
          have HI := mkHid (ih.out t.ks[k] (List.getElem_mem _))
          have HAT := mkHid (fun h => holdsB_at (r := r) (l := t.ks.map Tm.srt) (k := k) (by rw [HL.out]; exact hlt) (by rw [getD_map_srt t.ks k hk']; exact h))
          rw [ha]
          clear ha kin kf hsu ih
          generalize t.ks[k] = q at *
          clear hk'
          obtain ⟨g0, g1, g2, g3⟩ := kf'
          have s7 := W7.out wr hb
          have hb2 := bel_alloc wr (boxT q)
          have f4 := box_four wr q
          obtain ⟨f0, f1, f2, f3⟩ := f4
          obtain ⟨c0, c1, c2, c3, c4, c5, c6⟩ := s7.later hb2
          simp only [Nat.zero_add] at f1 f2 f3 c1 c2 c3 c4 c5 c6
          have HC := mkHid (HI.out (wr.alloc (boxT q)) (kin'.later hb2) ((HS.out.later (hX.symm ▸ hbw)).later hb2))
          have hB2 := bon hb hb2
          have hW2 : wr.alloc (.cells #[.int .i64 q.op, .string q.nm, .int .i64 q.n, .slice q.a q.ks.length q.c] 24) = wr.alloc (boxT q) := rfl
          have hq4 := srt_le q
          have hw4 := HW.out k
          have c7 : (wr.alloc (boxT q)).cell? ⟨X, 5 + k, none⟩ = some (.int .i64 (r.want k)) := by
            have : r.want k = if k = 0 then r.p0 else r.p1 := by unfold Sh.want; rw [HMM.out]; rfl
            rw [this]
            rcases (show k = 0 ∨ k = 1 by omega) with rfl | rfl
            · exact c5
            · exact c6
          have hk2 : k < 2 := by omega
          have hk3 : (k : Int) < 2 := by omega
          generalize wr.alloc (boxT q) = W2 at *
          unfold Tm.val at HC
          generalize r.want k = wa at *
          rw [HMM.out] at c3
          clear hb2 kin' s7 HS HIN HI
          by_cases heq : q.srt = wa
          · have hne2 : ((q.srt : Int) != (wa : Int)) = false := by rw [heq]; simp
            rw [decide_eq_true heq] at HSU
            clear heq HAT
            go_wp2_with (go_at_call 28; ((with_reducible refine HC.out.mono ?_)); rintro e w3 ⟨rfl, hb3⟩)
            go_roundw
            case rel => exact ⟨k + 1, _, rfl, by omega, by omega, bon hB2 hb3, HSU.out⟩
            case measure => simp [intOf]; omega
          · have hne2 : ((q.srt : Int) != (wa : Int)) = true := by rw [bne_iff_ne]; omega
            have hRf : R = false := by rw [← HR.out]; exact HAT.out heq
            subst hRf
            clear heq HAT HSU HR
            go_wp2_with (go_at_call 28; ((with_reducible refine HC.out.mono ?_)); rintro e w3 ⟨rfl, hb3⟩)
            go_ret
            have hB3 := bon hB2 hb3
            exact ⟨rfl, hX ▸ (hB0.trans (hB3.mono (hX ▸ hB0.size)))⟩
        · have hRt : R = true := by
            rw [← HR.out]
            refine holdsB_all (.inr (by rw [HL.out]; exact HC.out)) ?_
            rw [HL.out, show n = k by omega]
            exact HA.out
          subst hRt
          clear HR
          go_wp2
          go_ret
          exact ⟨rfl, hX ▸ (hB0.trans (hb.mono (hX ▸ hB0.size)))⟩
    · have hne : ((n : Int) != (r.count : Int)) = true := by rw [bne_iff_ne]; omega
      have hRf : R = false := by rw [← HR.out]; exact holdsB_len hm (by rw [HL.out]; exact hnc)
      subst hRf
      clear HR hm hnc
      go_enter Tryd.func53, Tryd.ntmps53
      go_wp2
      go_ret
      exact ⟨rfl, hX ▸ hB0⟩
  · rw [hm] at a3 hW
    have HMM := mkHid hm
    clear hm
    go_enter Tryd.func53, Tryd.ntmps53
    go_wp2
    clear a0 a1 a2 a3 a4 a5 a6 hW
    go_loopw [20] (fun i w' => ∃ (k : Nat) (x : Int), i = .int .i64 x ∧ x = k ∧ k ≤ n ∧ Below W.heap.size W w' ∧ (List.range k).all (fun i => decide ((t.ks.map Tm.srt).getD i 0 = r.want i)) = true) (fun i _ => (n - intOf i).toNat)
    case atStart => exact ⟨0, 0, rfl, rfl, Nat.zero_le _, Below.refl _ _, rfl⟩
    case round =>
      obtain ⟨k, x, rfl, hxk, hk, hb, hal⟩ := hrel
      obtain rfl : x = (k : Int) := hxk
      have HA := mkHid hal
      clear hal
      by_cases hlt : k < n
      · have hk' : k < t.ks.length := by rw [HN.out]; exact hlt
        have hsu := range_all_succ (fun i => decide ((t.ks.map Tm.srt).getD i 0 = r.want i)) k
        rw [HA.out, Bool.true_and, getD_map_srt t.ks k hk'] at hsu
        have HSU := mkHid hsu
        have hbw : Below X w wr := hX ▸ (hB0.trans (hb.mono (hX ▸ hB0.size)))
        obtain ⟨kin, b, o, ha, hbB, kf⟩ := HIN.out.kid k hk'
        have kin' := (kin.keep hbw).mono (hX ▸ hbw.size)
        have kf' := kf.keep hbw hbB
        have HI := mkHid (ih.out t.ks[k] (List.getElem_mem _))
        have HAT := mkHid (fun h => holdsB_at (r := r) (l := t.ks.map Tm.srt) (k := k) (by rw [HL.out]; exact hlt) (by rw [getD_map_srt t.ks k hk']; exact h))
        rw [ha]
        clear ha kin kf hsu ih
        generalize t.ks[k] = q at *
        clear hk'
        obtain ⟨g0, g1, g2, g3⟩ := kf'
        have s7 := W7.out wr hb
        have hb2 := bel_alloc wr (boxT q)
        have f4 := box_four wr q
        obtain ⟨f0, f1, f2, f3⟩ := f4
        obtain ⟨c0, c1, c2, c3, c4, c5, c6⟩ := s7.later hb2
        simp only [Nat.zero_add] at f1 f2 f3 c1 c2 c3 c4 c5 c6
        have HC := mkHid (HI.out (wr.alloc (boxT q)) (kin'.later hb2) ((HS.out.later (hX.symm ▸ hbw)).later hb2))
        have hB2 := bon hb hb2
        have hW2 : wr.alloc (.cells #[.int .i64 q.op, .string q.nm, .int .i64 q.n, .slice q.a q.ks.length q.c] 24) = wr.alloc (boxT q) := rfl
        have hq4 := srt_le q
        have hw4 := HW.out k
        have c7 : r.p0 = r.want k := by unfold Sh.want; rw [HMM.out]; rfl
        rw [c7] at c5
        clear c7
        generalize wr.alloc (boxT q) = W2 at *
        unfold Tm.val at HC
        generalize r.want k = wa at *
        rw [HMM.out] at c3
        clear hb2 kin' s7 HS HIN HI
        by_cases heq : q.srt = wa
        · have hne2 : ((q.srt : Int) != (wa : Int)) = false := by rw [heq]; simp
          rw [decide_eq_true heq] at HSU
          clear heq HAT
          go_wp2_with (go_at_call 28; ((with_reducible refine HC.out.mono ?_)); rintro e w3 ⟨rfl, hb3⟩)
          go_roundw
          case rel => exact ⟨k + 1, _, rfl, by omega, by omega, bon hB2 hb3, HSU.out⟩
          case measure => simp [intOf]; omega
        · have hne2 : ((q.srt : Int) != (wa : Int)) = true := by rw [bne_iff_ne]; omega
          have hRf : R = false := by rw [← HR.out]; exact HAT.out heq
          subst hRf
          clear heq HAT HSU HR
          go_wp2_with (go_at_call 28; ((with_reducible refine HC.out.mono ?_)); rintro e w3 ⟨rfl, hb3⟩)
          go_ret
          have hB3 := bon hB2 hb3
          exact ⟨rfl, hX ▸ (hB0.trans (hB3.mono (hX ▸ hB0.size)))⟩
      · have hRt : R = true := by
          rw [← HR.out]
          refine holdsB_all (.inl HMM.out) ?_
          rw [HL.out, show n = k by omega]
          exact HA.out
        subst hRt
        clear HR
        go_wp2
        go_ret
        exact ⟨rfl, hX ▸ (hB0.trans (hb.mono (hX ▸ hB0.size)))⟩
end Go.Proofs.YtaibmdikimpooaaDoor
