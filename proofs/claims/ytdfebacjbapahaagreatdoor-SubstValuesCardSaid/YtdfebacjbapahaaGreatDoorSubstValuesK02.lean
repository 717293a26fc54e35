/-
  What SubstValues's proof stands on, part 2: TmG, TmH, SbA, SbC, SbR.
-/
import Derived.Test.YtdfebacjbapahaaGreatDoorSubstValuesK01
import Derived.Laws.OwnMore
import Derived.Laws.MakeOwn
import Derived.Maps.OwnSet
import Derived.Maps.Views
import Derived.DeepKeys4
namespace Go.Proofs.YtdfebacjbapahaaGreatDoor
section
open Go.RowKit

/-- what a term of one operation must be made of -/
structure Sh where
  sort : Nat
  name : Bool
  number : Bool
  many : Bool
  count : Nat
  p0 : Nat
  p1 : Nat
def shRows : List Sh := [
  ⟨0, false, false, false, 0, 0, 0⟩,
  ⟨1, false, true, false, 0, 0, 0⟩,
  ⟨1, true, false, false, 0, 0, 0⟩,
  ⟨1, false, false, false, 1, 2, 0⟩,
  ⟨1, false, false, false, 2, 1, 1⟩,
  ⟨1, false, false, false, 2, 1, 1⟩,
  ⟨1, false, true, false, 1, 1, 0⟩,
  ⟨2, true, false, false, 0, 0, 0⟩,
  ⟨2, false, false, false, 0, 0, 0⟩,
  ⟨2, false, false, false, 0, 0, 0⟩,
  ⟨2, false, false, false, 1, 3, 0⟩,
  ⟨2, false, false, false, 2, 2, 2⟩,
  ⟨2, false, false, false, 2, 2, 2⟩,
  ⟨2, false, false, false, 2, 2, 2⟩,
  ⟨3, true, false, false, 0, 0, 0⟩,
  ⟨4, true, false, false, 0, 0, 0⟩,
  ⟨4, false, false, false, 0, 0, 0⟩,
  ⟨4, false, false, false, 0, 0, 0⟩,
  ⟨4, false, false, false, 1, 4, 0⟩,
  ⟨4, false, false, true, 0, 4, 0⟩,
  ⟨4, false, false, true, 0, 4, 0⟩,
  ⟨4, false, false, false, 2, 4, 4⟩,
  ⟨4, false, false, false, 2, 1, 1⟩,
  ⟨4, false, false, false, 2, 1, 1⟩,
  ⟨4, false, false, false, 2, 1, 1⟩,
  ⟨4, false, false, false, 2, 3, 2⟩,
  ⟨4, false, false, false, 2, 2, 2⟩,
  ⟨4, false, false, false, 2, 2, 2⟩,
  ⟨4, false, false, false, 2, 3, 3⟩]
def noSh : Sh := ⟨0, false, false, false, 0, 0, 0⟩
def shRow (j : Nat) : Sh := shRows.getD j noSh
def Sh.val (r : Sh) : Value := .agg #[.int .i64 r.sort, .bool r.name, .bool r.number, .bool r.many, .int .i64 r.count, .int .i64 r.p0, .int .i64 r.p1]
def Sh.want (r : Sh) (i : Nat) : Nat := if r.many then r.p0 else if i = 0 then r.p0 else r.p1
/-- the seven cells of a shape -/
def Seven (w : World) (b o : Nat) (r : Sh) : Prop :=
  w.cell? ⟨b, o, none⟩ = some (.int .i64 r.sort) ∧ w.cell? ⟨b, o + 1, none⟩ = some (.bool r.name) ∧ w.cell? ⟨b, o + 2, none⟩ = some (.bool r.number) ∧ w.cell? ⟨b, o + 3, none⟩ = some (.bool r.many) ∧
  w.cell? ⟨b, o + 4, none⟩ = some (.int .i64 r.count) ∧ w.cell? ⟨b, o + 5, none⟩ = some (.int .i64 r.p0) ∧ w.cell? ⟨b, o + 6, none⟩ = some (.int .i64 r.p1)
theorem Seven.later {w w' : World} {b o : Nat} {r : Sh} (h : Seven w b o r) (hb : Below w.heap.size w w') : Seven w' b o r :=
  ⟨cell_later hb h.1, cell_later hb h.2.1, cell_later hb h.2.2.1, cell_later hb h.2.2.2.1, cell_later hb h.2.2.2.2.1, cell_later hb h.2.2.2.2.2.1, cell_later hb h.2.2.2.2.2.2⟩
/-- the table of shapes lies where the program's variable lies -/
def Shps (w : World) : Prop := ∀ j, j < 29 → Seven w 0 (j * 7) (shRow j)
theorem Shps.later {w w' : World} (h : Shps w) (hb : Below w.heap.size w w') : Shps w' := fun j hj => (h j hj).later hb
theorem shRow_all : ∀ j, j < 29 → (shRow j).count ≤ 2 ∧ (shRow j).sort ≤ 4 ∧ (1 ≤ j → 1 ≤ (shRow j).sort) ∧ (shRow j).p0 ≤ 4 ∧ (shRow j).p1 ≤ 4 := by decide

def holdsB (r : Sh) (l : List Nat) : Bool := (r.many || decide (l.length = r.count)) && (List.range l.length).all (fun i => decide (l.getD i 0 = r.want i))
def namedB (r : Sh) (s : ByteArray) : Bool := if r.name then nameB s else s.toList.isEmpty
def sortOf (op : Int) (nm : ByteArray) (n : Int) (l : List Nat) : Nat :=
  if 1 ≤ op ∧ op ≤ 28 then
    (if namedB (shRow op.toNat) nm && ((shRow op.toNat).number || decide (n = 0)) && holdsB (shRow op.toNat) l then (shRow op.toNat).sort else 0)
  else 0
mutual
def Tm.srt : Tm → Nat
  | .node op nm n _ _ ks => sortOf op nm n (Tm.srts ks)
def Tm.srts : List Tm → List Nat
  | [] => []
  | t :: ts => Tm.srt t :: Tm.srts ts
end
theorem srts_map (ks : List Tm) : Tm.srts ks = ks.map Tm.srt := by
  induction ks with
  | nil => simp [Tm.srts]
  | cons t ts ih => simp [Tm.srts, ih]
theorem srt_eq (t : Tm) : t.srt = sortOf t.op t.nm t.n (t.ks.map Tm.srt) := by
  rw [← srts_map]; cases t; simp [Tm.srt, Tm.op, Tm.nm, Tm.n, Tm.ks]
theorem srt_le (t : Tm) : t.srt ≤ 4 := by
  rw [srt_eq]; unfold sortOf
  split
  · split
    · exact (shRow_all _ (by omega)).2.1
    · omega
  · omega

set_option maxRecDepth 100000 in
set_option maxHeartbeats 1000000 in
theorem named_any (r : Sh) (s : ByteArray) (w : World) (hs : s.size ≤ maxLen) :
    Calls Tryz.prog 54 #[r.val, .string s] w fun e w' => e = .returned (.bool (namedB r s)) ∧ Below w.heap.size w w' := by
  have NM := mkHid (fun w => name_any s w hs)
  obtain ⟨sort, name, number, many, count, p0, p1⟩ := r
  unfold Sh.val
  cases name
  · have e : namedB ⟨sort, false, number, many, count, p0, p1⟩ s = s.toList.isEmpty := rfl
    rw [e]
    clear e
    unfold maxLen at hs
    go_enter Tryz.func54, Tryz.ntmps54
    go_wp2
    go_ret
    exact ⟨rfl, bal (Below.refl _ _) _⟩
  · have e : namedB ⟨sort, true, number, many, count, p0, p1⟩ s = nameB s := rfl
    rw [e]
    clear e
    generalize nameB s = b at *
    go_enter Tryz.func54, Tryz.ntmps54
    go_wp2_with (go_at_call 9; refine (NM.out _).mono ?_; rintro e w1 ⟨rfl, rfl⟩)
    go_ret
    exact ⟨rfl, bal (Below.refl _ _) _⟩

theorem seven_box (w : World) (r : Sh) : Seven (w.alloc (.cells #[.int .i64 r.sort, .bool r.name, .bool r.number, .bool r.many, .int .i64 r.count, .int .i64 r.p0, .int .i64 r.p1] 95)) w.heap.size 0 r := by simp [Seven, go_sem]
theorem holdsB_len {r : Sh} {l : List Nat} (hm : r.many = false) (hl : l.length ≠ r.count) : holdsB r l = false := by
  simp [holdsB, hm, hl]
theorem holdsB_at {r : Sh} {l : List Nat} {k : Nat} (hk : k < l.length) (h : l.getD k 0 ≠ r.want k) : holdsB r l = false := by
  unfold holdsB
  rw [Bool.and_eq_false_iff]; right
  rw [Bool.eq_false_iff]; intro ha
  exact h (of_decide_eq_true (List.all_eq_true.1 ha k (List.mem_range.2 hk)))
theorem holdsB_all {r : Sh} {l : List Nat} (hm : r.many = true ∨ l.length = r.count) (h : (List.range l.length).all (fun i => decide (l.getD i 0 = r.want i)) = true) : holdsB r l = true := by
  unfold holdsB
  rw [h]
  rcases hm with hm | hm <;> simp [hm]
theorem getD_map_srt (ks : List Tm) (k : Nat) (h : k < ks.length) : (ks.map Tm.srt).getD k 0 = (ks[k]).srt := by
  simp [List.getD, List.getElem?_map, List.getElem?_eq_getElem h]

set_option maxRecDepth 100000 in
set_option maxHeartbeats 4000000 in
theorem holds_any (r : Sh) (t : Tm) (w : World) (hin : TIn w w.heap.size t) (hS : Shps w) (hc : r.count ≤ 2) (h0 : r.p0 ≤ 4) (h1 : r.p1 ≤ 4)
    (ih : Hid (∀ k ∈ t.ks, ∀ w : World, TIn w w.heap.size k → Shps w → Calls Tryz.prog 35 #[k.val] w fun e w' => e = .returned (.int .i64 k.srt) ∧ Below w.heap.size w w')) :
    Calls Tryz.prog 55 #[r.val, .slice t.a t.ks.length t.c] w fun e w' => e = .returned (.bool (holdsB r (t.ks.map Tm.srt))) ∧ Below w.heap.size w w' := by
  have HL : Hid ((t.ks.map Tm.srt).length = t.ks.length) := by show _ = _; simp
  generalize hR : holdsB r (t.ks.map Tm.srt) = R
  have HR := mkHid hR
  clear hR
  have HIN := mkHid hin
  obtain ⟨-, -, -, hlc, hcm⟩ := hin.nums
  unfold maxLen at hcm
  have HS := mkHid hS
  have B7 := seven_box w r
  have hB0 := bel_alloc w (.cells #[.int .i64 r.sort, .bool r.name, .bool r.number, .bool r.many, .int .i64 r.count, .int .i64 r.p0, .int .i64 r.p1] 95)
  clear hin hS
  have hn : t.ks.length ≤ 9223372036854775807 := by omega
  generalize hn' : t.ks.length = n at *
  have HN := mkHid hn'
  clear hn'
  have W7 := mkHid (fun (wr : World) (hb : Below (w.alloc (.cells #[.int .i64 r.sort, .bool r.name, .bool r.number, .bool r.many, .int .i64 r.count, .int .i64 r.p0, .int .i64 r.p1] 95)).heap.size (w.alloc (.cells #[.int .i64 r.sort, .bool r.name, .bool r.number, .bool r.many, .int .i64 r.count, .int .i64 r.p0, .int .i64 r.p1] 95)) wr) => B7.later hb)
  generalize hW : w.alloc (.cells #[.int .i64 r.sort, .bool r.name, .bool r.number, .bool r.many, .int .i64 r.count, .int .i64 r.p0, .int .i64 r.p1] 95) = W at *
  generalize hX : w.heap.size = X at *
  have wnt : ∀ k, r.want k ≤ 4 := fun k => by unfold Sh.want; split; · exact h0
                                              · split; · exact h0
                                                · exact h1
  have HW := mkHid wnt
  clear wnt h0 h1
  unfold Sh.val
  obtain ⟨a0, a1, a2, a3, a4, a5, a6⟩ := B7
  simp only [Nat.zero_add] at a1 a2 a3 a4 a5 a6
  cases hm : r.many
  · rw [hm] at a3 hW
    by_cases hnc : n = r.count
    · have hn2 : n ≤ 2 := by omega
      have hne : ((n : Int) != (r.count : Int)) = false := by rw [hnc]; simp
      have HC := mkHid hnc
      have HMM := mkHid hm
      clear hnc hm
      go_enter Tryz.func55, Tryz.ntmps55
      go_wp2
      clear a0 a1 a2 a3 a4 a5 a6 hW
      go_loopw [20] (fun i w' => ∃ (k : Nat) (x : Int), i = .int .i64 x ∧ x = k ∧ k ≤ n ∧ Below W.heap.size W w' ∧ (List.range k).all (fun i => decide ((t.ks.map Tm.srt).getD i 0 = r.want i)) = true) (fun i _ => (n - intOf i).toNat)
      case atStart => exact ⟨0, 0, rfl, rfl, Nat.zero_le _, Below.refl _ _, rfl⟩
      case round =>
        obtain ⟨k, x, rfl, hxk, hk, hb, hal⟩ := hrel
        obtain rfl : x = (k : Int) := hxk
        have HA := mkHid hal
        clear hal
        by_cases hlt : k < n
        · have hk' : k < t.ks.length := by rw [HN.out]; exact hlt
          have hsu := range_all_succ (fun i => decide ((t.ks.map Tm.srt).getD i 0 = r.want i)) k
          rw [HA.out, Bool.true_and, getD_map_srt t.ks k hk'] at hsu
          have HSU := mkHid hsu
          have hbw : Below X w wr := hX ▸ (hB0.trans (hb.mono (hX ▸ hB0.size)))
          obtain ⟨kin, b, o, ha, hbB, kf⟩ := HIN.out.kid k hk'
          have kin' := (kin.keep hbw).mono (hX ▸ hbw.size)
          have kf' := kf.keep hbw hbB
          have HI := mkHid (ih.out t.ks[k] (List.getElem_mem _))
          have HAT := mkHid (fun h => holdsB_at (r := r) (l := t.ks.map Tm.srt) (k := k) (by rw [HL.out]; exact hlt) (by rw [getD_map_srt t.ks k hk']; exact h))
          rw [ha]
          clear ha kin kf hsu ih
          generalize t.ks[k] = q at *
          clear hk'
          obtain ⟨g0, g1, g2, g3⟩ := kf'
          have s7 := W7.out wr hb
          have hb2 := bel_alloc wr (boxT q)
          have f4 := box_four wr q
          obtain ⟨f0, f1, f2, f3⟩ := f4
          obtain ⟨c0, c1, c2, c3, c4, c5, c6⟩ := s7.later hb2
          simp only [Nat.zero_add] at f1 f2 f3 c1 c2 c3 c4 c5 c6
          have HC := mkHid (HI.out (wr.alloc (boxT q)) (kin'.later hb2) ((HS.out.later (hX.symm ▸ hbw)).later hb2))
          have hB2 := bon hb hb2
          have hW2 : wr.alloc (.cells #[.int .i64 q.op, .string q.nm, .int .i64 q.n, .slice q.a q.ks.length q.c] 24) = wr.alloc (boxT q) := rfl
          have hq4 := srt_le q
          have hw4 := HW.out k
          have c7 : (wr.alloc (boxT q)).cell? ⟨X, 5 + k, none⟩ = some (.int .i64 (r.want k)) := by
            have : r.want k = if k = 0 then r.p0 else r.p1 := by unfold Sh.want; rw [HMM.out]; rfl
            rw [this]
            rcases (show k = 0 ∨ k = 1 by omega) with rfl | rfl
            · exact c5
            · exact c6
          have hk2 : k < 2 := by omega
          have hk3 : (k : Int) < 2 := by omega
          generalize wr.alloc (boxT q) = W2 at *
          unfold Tm.val at HC
          generalize r.want k = wa at *
          rw [HMM.out] at c3
          clear hb2 kin' s7 HS HIN HI
          by_cases heq : q.srt = wa
          · have hne2 : ((q.srt : Int) != (wa : Int)) = false := by rw [heq]; simp
            rw [decide_eq_true heq] at HSU
            clear heq HAT
            go_wp2_with (go_at_call 35; ((with_reducible refine HC.out.mono ?_)); rintro e w3 ⟨rfl, hb3⟩)
            go_roundw
            case rel => exact ⟨k + 1, _, rfl, by omega, by omega, bon hB2 hb3, HSU.out⟩
            case measure => simp [intOf]; omega
          · have hne2 : ((q.srt : Int) != (wa : Int)) = true := by rw [bne_iff_ne]; omega
            have hRf : R = false := by rw [← HR.out]; exact HAT.out heq
            subst hRf
            clear heq HAT HSU HR
            go_wp2_with (go_at_call 35; ((with_reducible refine HC.out.mono ?_)); rintro e w3 ⟨rfl, hb3⟩)
            go_ret
            have hB3 := bon hB2 hb3
            exact ⟨rfl, hX ▸ (hB0.trans (hB3.mono (hX ▸ hB0.size)))⟩
        · have hRt : R = true := by
            rw [← HR.out]
            refine holdsB_all (.inr (by rw [HL.out]; exact HC.out)) ?_
            rw [HL.out, show n = k by omega]
            exact HA.out
          subst hRt
          clear HR
          go_wp2
          go_ret
          exact ⟨rfl, hX ▸ (hB0.trans (hb.mono (hX ▸ hB0.size)))⟩
    · have hne : ((n : Int) != (r.count : Int)) = true := by rw [bne_iff_ne]; omega
      have hRf : R = false := by rw [← HR.out]; exact holdsB_len hm (by rw [HL.out]; exact hnc)
      subst hRf
      clear HR hm hnc
      go_enter Tryz.func55, Tryz.ntmps55
      go_wp2
      go_ret
      exact ⟨rfl, hX ▸ hB0⟩
  · rw [hm] at a3 hW
    have HMM := mkHid hm
    clear hm
    go_enter Tryz.func55, Tryz.ntmps55
    go_wp2
    clear a0 a1 a2 a3 a4 a5 a6 hW
    go_loopw [20] (fun i w' => ∃ (k : Nat) (x : Int), i = .int .i64 x ∧ x = k ∧ k ≤ n ∧ Below W.heap.size W w' ∧ (List.range k).all (fun i => decide ((t.ks.map Tm.srt).getD i 0 = r.want i)) = true) (fun i _ => (n - intOf i).toNat)
    case atStart => exact ⟨0, 0, rfl, rfl, Nat.zero_le _, Below.refl _ _, rfl⟩
    case round =>
      obtain ⟨k, x, rfl, hxk, hk, hb, hal⟩ := hrel
      obtain rfl : x = (k : Int) := hxk
      have HA := mkHid hal
      clear hal
      by_cases hlt : k < n
      · have hk' : k < t.ks.length := by rw [HN.out]; exact hlt
        have hsu := range_all_succ (fun i => decide ((t.ks.map Tm.srt).getD i 0 = r.want i)) k
        rw [HA.out, Bool.true_and, getD_map_srt t.ks k hk'] at hsu
        have HSU := mkHid hsu
        have hbw : Below X w wr := hX ▸ (hB0.trans (hb.mono (hX ▸ hB0.size)))
        obtain ⟨kin, b, o, ha, hbB, kf⟩ := HIN.out.kid k hk'
        have kin' := (kin.keep hbw).mono (hX ▸ hbw.size)
        have kf' := kf.keep hbw hbB
        have HI := mkHid (ih.out t.ks[k] (List.getElem_mem _))
        have HAT := mkHid (fun h => holdsB_at (r := r) (l := t.ks.map Tm.srt) (k := k) (by rw [HL.out]; exact hlt) (by rw [getD_map_srt t.ks k hk']; exact h))
        rw [ha]
        clear ha kin kf hsu ih
        generalize t.ks[k] = q at *
        clear hk'
        obtain ⟨g0, g1, g2, g3⟩ := kf'
        have s7 := W7.out wr hb
        have hb2 := bel_alloc wr (boxT q)
        have f4 := box_four wr q
        obtain ⟨f0, f1, f2, f3⟩ := f4
        obtain ⟨c0, c1, c2, c3, c4, c5, c6⟩ := s7.later hb2
        simp only [Nat.zero_add] at f1 f2 f3 c1 c2 c3 c4 c5 c6
        have HC := mkHid (HI.out (wr.alloc (boxT q)) (kin'.later hb2) ((HS.out.later (hX.symm ▸ hbw)).later hb2))
        have hB2 := bon hb hb2
        have hW2 : wr.alloc (.cells #[.int .i64 q.op, .string q.nm, .int .i64 q.n, .slice q.a q.ks.length q.c] 24) = wr.alloc (boxT q) := rfl
        have hq4 := srt_le q
        have hw4 := HW.out k
        have c7 : r.p0 = r.want k := by unfold Sh.want; rw [HMM.out]; rfl
        rw [c7] at c5
        clear c7
        generalize wr.alloc (boxT q) = W2 at *
        unfold Tm.val at HC
        generalize r.want k = wa at *
        rw [HMM.out] at c3
        clear hb2 kin' s7 HS HIN HI
        by_cases heq : q.srt = wa
        · have hne2 : ((q.srt : Int) != (wa : Int)) = false := by rw [heq]; simp
          rw [decide_eq_true heq] at HSU
          clear heq HAT
          go_wp2_with (go_at_call 35; ((with_reducible refine HC.out.mono ?_)); rintro e w3 ⟨rfl, hb3⟩)
          go_roundw
          case rel => exact ⟨k + 1, _, rfl, by omega, by omega, bon hB2 hb3, HSU.out⟩
          case measure => simp [intOf]; omega
        · have hne2 : ((q.srt : Int) != (wa : Int)) = true := by rw [bne_iff_ne]; omega
          have hRf : R = false := by rw [← HR.out]; exact HAT.out heq
          subst hRf
          clear heq HAT HSU HR
          go_wp2_with (go_at_call 35; ((with_reducible refine HC.out.mono ?_)); rintro e w3 ⟨rfl, hb3⟩)
          go_ret
          have hB3 := bon hB2 hb3
          exact ⟨rfl, hX ▸ (hB0.trans (hB3.mono (hX ▸ hB0.size)))⟩
      · have hRt : R = true := by
          rw [← HR.out]
          refine holdsB_all (.inl HMM.out) ?_
          rw [HL.out, show n = k by omega]
          exact HA.out
        subst hRt
        clear HR
        go_wp2
        go_ret
        exact ⟨rfl, hX ▸ (hB0.trans (hb.mono (hX ▸ hB0.size)))⟩
end
section
open Go.RowKit

theorem sortOf_low {op : Int} {nm : ByteArray} {n : Int} {l : List Nat} (h : ¬ (1 ≤ op ∧ op ≤ 28)) : sortOf op nm n l = 0 := by unfold sortOf; rw [if_neg h]
theorem sortOf_in {j : Nat} {nm : ByteArray} {n : Int} {l : List Nat} (h1 : 1 ≤ j) (h2 : j ≤ 28) : sortOf (j : Int) nm n l = if namedB (shRow j) nm && ((shRow j).number || decide (n = 0)) && holdsB (shRow j) l then (shRow j).sort else 0 := by
  unfold sortOf; rw [if_pos (by omega), Int.toNat_natCast]
theorem Four.later {w w' : World} {b o : Nat} {t : Tm} (h : Four w b o t) (hb : Below w.heap.size w w') : Four w' b o t :=
  ⟨cell_later hb h.1, cell_later hb h.2.1, cell_later hb h.2.2.1, cell_later hb h.2.2.2⟩

theorem Four_later' {w w' : World} {b o : Nat} {x y z u : Value} (h : w.cell? ⟨b, o, none⟩ = some x ∧ w.cell? ⟨b, o + 1, none⟩ = some y ∧ w.cell? ⟨b, o + 2, none⟩ = some z ∧ w.cell? ⟨b, o + 3, none⟩ = some u) (hb : Below w.heap.size w w') :
    w'.cell? ⟨b, o, none⟩ = some x ∧ w'.cell? ⟨b, o + 1, none⟩ = some y ∧ w'.cell? ⟨b, o + 2, none⟩ = some z ∧ w'.cell? ⟨b, o + 3, none⟩ = some u :=
  ⟨cell_later hb h.1, cell_later hb h.2.1, cell_later hb h.2.2.1, cell_later hb h.2.2.2⟩

set_option maxRecDepth 100000 in
set_option maxHeartbeats 4000000 in
theorem sortWithin_any (t : Tm) : ∀ (w : World), TIn w w.heap.size t → Shps w → Calls Tryz.prog 35 #[t.val] w fun e w' => e = .returned (.int .i64 t.srt) ∧ Below w.heap.size w w' := by
  induction t using Tm.ind with
  | h t ih =>
  intro w hin hS
  have IH := mkHid ih
  clear ih
  rw [srt_eq]
  by_cases hop : 1 ≤ t.op ∧ t.op ≤ 28
  · obtain ⟨j, hj⟩ := Int.eq_ofNat_of_zero_le (show 0 ≤ t.op by omega)
    have j1 : 1 ≤ j := by omega
    have j2 : j ≤ 28 := by omega
    have j3 : (j : Int) ≤ 28 := by omega
    have j4 : 1 ≤ (j : Int) := by omega
    rw [hj, sortOf_in j1 j2]
    obtain ⟨hc2, -, -, hp0, hp1⟩ := shRow_all j (by omega)
    have hR := hS j (by omega)
    generalize shRow j = r at *
    have hb1 := bel_alloc w (boxT t)
    have f4 := box_four w t
    have HN := mkHid (fun w => named_any r t.nm w hin.nums.2.2.1)
    have HH := mkHid (fun w h1 h2 => holds_any r t w h1 h2 hc2 hp0 hp1 IH)
    have r1 := hR.later hb1
    have hb2 := bel_alloc (w.alloc (boxT t)) (.cells #[.int .i64 r.sort, .bool r.name, .bool r.number, .bool r.many, .int .i64 r.count, .int .i64 r.p0, .int .i64 r.p1] 95)
    have s7 := seven_box (w.alloc (boxT t)) r
    have f5 := f4.later hb2
    have B2 := bon hb1 hb2
    have hin2 := hin.later B2
    have hS2 := hS.later B2
    have hW : w.alloc (.cells #[.int .i64 (j : Int), .string t.nm, .int .i64 t.n, .slice t.a t.ks.length t.c] 24) = w.alloc (boxT t) := by rw [← hj]; rfl
    clear hin hS hR hc2 hp0 hp1 hop
    unfold Tm.val
    rw [hj]
    rw [Four, hj] at f4 f5
    generalize w.alloc (boxT t) = W at *
    generalize hW2 : W.alloc (.cells #[.int .i64 r.sort, .bool r.name, .bool r.number, .bool r.many, .int .i64 r.count, .int .i64 r.p0, .int .i64 r.p1] 95) = W2 at *
    obtain ⟨a0, a1, a2, a3⟩ := f4
    obtain ⟨c0, c1, c2, c3, c4, c5, c6⟩ := r1
    simp only [Nat.zero_add] at a1 a2 a3
    have HF5 := mkHid f5
    have HS7 := mkHid s7
    obtain ⟨b0, b1, b2, b3⟩ := f5
    obtain ⟨d0, d1, d2, d3, d4, d5, d6⟩ := s7
    simp only [Nat.zero_add] at b1 b2 b3 d1 d2 d3 d4 d5 d6
    have HI2 := mkHid hin2
    have HS2 := mkHid hS2
    clear IH hj hin2 hS2
    generalize hR : (if namedB r t.nm && (r.number || decide (t.n = 0)) && holdsB r (t.ks.map Tm.srt) then r.sort else 0) = R
    have HR := mkHid hR
    clear hR
    have HNN : Hid (namedB r t.nm = namedB r t.nm) := rfl
    generalize hnb : namedB r t.nm = nb at *
    have HNB := mkHid hnb
    clear hnb HNN
    generalize hhb : holdsB r (t.ks.map Tm.srt) = hb at *
    clear hhb
    unfold Sh.val at HN HH
    go_enter Tryz.func35, Tryz.ntmps35
    go_wp2_with fail
    ((with_reducible refine (HN.out _).mono ?_)); rintro e w3 ⟨rfl, hb3⟩
    have f6 := Four_later' HF5.out hb3
    have s8 := HS7.out.later hb3
    clear a0 a1 a2 a3 b0 b1 b2 b3 c0 c1 c2 c3 c4 c5 c6 d0 d1 d2 d3 d4 d5 d6 HF5 HS7 HN hW hW2
    obtain ⟨b0, b1, b2, b3⟩ := f6
    obtain ⟨d0, d1, d2, d3, d4, d5, d6⟩ := s8
    simp only [Nat.zero_add] at b1 b2 b3 d1 d2 d3 d4 d5 d6
    have HC := mkHid (HH.out w3 (HI2.out.later hb3) (HS2.out.later hb3))
    have B3 := bon B2 hb3
    clear HH HI2 HS2 hb3 B2 hb1 hb2
    cases nb
    · have e : R = 0 := by rw [← HR.out]; simp
      subst e
      clear HR
      go_wp2
      go_ret
      exact ⟨rfl, B3⟩
    · have fin : (r.number = true ∨ r.number = false ∧ t.n = 0) ∨ (r.number = false ∧ t.n ≠ 0) := by
        cases r.number
        · by_cases h : t.n = 0
          · exact .inl (.inr ⟨rfl, h⟩)
          · exact .inr ⟨rfl, h⟩
        · exact .inl (.inl rfl)
      rcases fin with fin | ⟨fin, h0⟩
      · have e : R = if hb then r.sort else 0 := by
          rw [← HR.out]
          rcases fin with h | ⟨h, h'⟩
          · simp [h]
          · simp [h, h']
        have HE := mkHid e
        clear HR e
        rcases fin with h | ⟨h, h'⟩
        · rw [h] at d2 HC
          cases hb
          · obtain rfl : R = 0 := HE.out
            clear HE h
            go_wp2_with (go_at_call 55; ((with_reducible refine HC.out.mono ?_)); rintro e w4 ⟨rfl, hb4⟩)
            go_ret
            exact ⟨rfl, bon B3 hb4⟩
          · obtain rfl : R = r.sort := HE.out
            clear HE h
            go_wp2_with (go_at_call 55; ((with_reducible refine HC.out.mono ?_)); rintro e w4 ⟨rfl, hb4⟩; have q0 := cell_later hb4 d0)
            go_ret
            exact ⟨rfl, bon B3 hb4⟩
        · rw [h] at d2 HC
          rw [h'] at b2
          cases hb
          · obtain rfl : R = 0 := HE.out
            clear HE h h'
            go_wp2_with (go_at_call 55; ((with_reducible refine HC.out.mono ?_)); rintro e w4 ⟨rfl, hb4⟩)
            go_ret
            exact ⟨rfl, bon B3 hb4⟩
          · obtain rfl : R = r.sort := HE.out
            clear HE h h'
            go_wp2_with (go_at_call 55; ((with_reducible refine HC.out.mono ?_)); rintro e w4 ⟨rfl, hb4⟩; have q0 := cell_later hb4 d0)
            go_ret
            exact ⟨rfl, bon B3 hb4⟩
      · have e : R = 0 := by
          rw [← HR.out]; simp [fin, h0]
        have hne : (t.n != 0) = true := by rw [bne_iff_ne]; exact h0
        subst e
        rw [fin] at d2
        clear HR fin h0
        go_wp2
        go_ret
        exact ⟨rfl, B3⟩
  · rw [sortOf_low hop]
    have hb1 := bel_alloc w (boxT t)
    have f4 := box_four w t
    have hW : w.alloc (.cells #[.int .i64 t.op, .string t.nm, .int .i64 t.n, .slice t.a t.ks.length t.c] 24) = w.alloc (boxT t) := rfl
    unfold Tm.val
    generalize w.alloc (boxT t) = W at *
    obtain ⟨a0, a1, a2, a3⟩ := f4
    simp only [Nat.zero_add] at a1 a2 a3
    by_cases h1 : t.op < 1
    · have h2 : decide (t.op < 1) = true := decide_eq_true h1
      clear hop IH
      go_enter Tryz.func35, Tryz.ntmps35
      go_wp2
      go_ret
      exact ⟨rfl, hb1⟩
    · have h2 : decide (t.op < 1) = false := decide_eq_false h1
      have h3 : decide (28 < t.op) = true := decide_eq_true (by omega)
      clear hop IH
      go_enter Tryz.func35, Tryz.ntmps35
      go_wp2
      go_ret
      exact ⟨rfl, hb1⟩

def fullB (t : Tm) : Bool := decide (2000 < t.size) || decide (100 < t.deep)
def srtR (t : Tm) : Nat := if fullB t then 0 else t.srt
def errR (t : Tm) : Nat := if fullB t then 7 else if t.srt = 0 then 3 else 0

set_option maxRecDepth 100000 in
set_option maxHeartbeats 2000000 in
theorem sort_any (t : Tm) (w : World) (hin : TIn w w.heap.size t) (hS : Shps w) :
    Calls Tryz.prog 16 #[t.val] w fun e w' => e = .returned (.tuple #[.int .i64 (srtR t), .int .i64 (errR t)]) ∧ Below w.heap.size w w' := by
  have hb1 := bel_alloc w (boxT t)
  have f4 := box_four w t
  have SZ := mkHid (size_any t _ (hin.later hb1))
  have HI1 := mkHid (hin.later hb1)
  have HS1 := mkHid (hS.later hb1)
  have hW : w.alloc (.cells #[.int .i64 t.op, .string t.nm, .int .i64 t.n, .slice t.a t.ks.length t.c] 24) = w.alloc (boxT t) := rfl
  have DP := mkHid (fun w h hz => deep_small t w h hz)
  have SW := mkHid (sortWithin_any t)
  clear hin hS
  by_cases hz : t.size ≤ 2000
  · rw [show min 2001 t.size = t.size by omega] at SZ
    have e0 : fullB t = decide (100 < t.deep) := by simp [fullB]; omega
    have DQ := mkHid (fun w h => DP.out w h hz)
    have hz1 : ¬ (2000 : Int) < (t.size : Int) := by omega
    have hz2 : decide ((2000 : Int) < (t.size : Int)) = false := decide_eq_false hz1
    by_cases hd : t.deep ≤ 100
    · rw [show min 101 t.deep = t.deep by omega] at DQ
      have e1 : srtR t = t.srt := by unfold srtR; rw [e0, decide_eq_false (by omega)]; rfl
      have e2 : errR t = if t.srt = 0 then 3 else 0 := by unfold errR; rw [e0, decide_eq_false (by omega)]; rfl
      rw [e1, e2]
      have hd2 : decide ((100 : Int) < (t.deep : Int)) = false := decide_eq_false (by omega)
      clear e0 e1 e2 DP
      have fin : ∀ (R : Nat), (if t.srt = 0 then 3 else 0) = R → Calls Tryz.prog 16 #[t.val] w fun e w' => e = .returned (.tuple #[.int .i64 t.srt, .int .i64 R]) ∧ Below w.heap.size w w' := by
        intro R hR
        unfold Tm.val at *
        generalize t.size = z at *
        generalize t.deep = d at *
        have HR := mkHid hR
        clear hR
        generalize hs : t.srt = s at *
        clear hs
        generalize w.alloc (boxT t) = W at *
        have HF := mkHid f4
        obtain ⟨a0, a1, a2, a3⟩ := f4
        simp only [Nat.zero_add] at a1 a2 a3
        go_enter Tryz.func16, Tryz.ntmps16
        go_wp2_with fail
        ((with_reducible refine SZ.out.mono ?_)); rintro e w2 ⟨rfl, hb2⟩
        have f5 := HF.out.later hb2
        have HF2 := mkHid f5
        clear a0 a1 a2 a3 hW
        obtain ⟨a0, a1, a2, a3⟩ := f5
        simp only [Nat.zero_add] at a1 a2 a3
        go_wp2_with fail
        ((with_reducible refine (DQ.out _ (HI1.out.later hb2)).mono ?_)); rintro e w3 ⟨rfl, hb3⟩
        have f6 := HF2.out.later hb3
        clear a0 a1 a2 a3
        obtain ⟨a0, a1, a2, a3⟩ := f6
        simp only [Nat.zero_add] at a1 a2 a3
        have b3 := bon hb2 hb3
        go_wp2_with fail
        ((with_reducible refine (SW.out _ (HI1.out.later b3) (HS1.out.later b3)).mono ?_)); rintro e w4 ⟨rfl, hb4⟩
        have B4 := bon (bon hb1 b3) hb4
        by_cases h0 : s = 0
        · subst h0
          obtain rfl : R = 3 := HR.out.symm
          go_wp2
          go_ret2
          exact ⟨rfl, B4⟩
        · have h1 : ((s : Int) == 0) = false := beq_eq_false_iff_ne.2 (by omega)
          have e : R = 0 := by rw [← HR.out, if_neg h0]
          subst e
          clear HR h0
          go_wp2
          go_ret2
          exact ⟨rfl, B4⟩
      exact fin _ rfl
    · rw [show min 101 t.deep = 101 by omega] at DQ
      have e1 : srtR t = 0 := by unfold srtR; rw [e0, decide_eq_true (by omega)]; rfl
      have e2 : errR t = 7 := by unfold errR; rw [e0, decide_eq_true (by omega)]; rfl
      rw [e1, e2]
      clear e0 e1 e2 DP
      unfold Tm.val at *
      generalize t.size = z at *
      generalize w.alloc (boxT t) = W at *
      have HF := mkHid f4
      obtain ⟨a0, a1, a2, a3⟩ := f4
      simp only [Nat.zero_add] at a1 a2 a3
      go_enter Tryz.func16, Tryz.ntmps16
      go_wp2_with fail
      ((with_reducible refine SZ.out.mono ?_)); rintro e w2 ⟨rfl, hb2⟩
      have f5 := HF.out.later hb2
      clear a0 a1 a2 a3 hW
      obtain ⟨a0, a1, a2, a3⟩ := f5
      simp only [Nat.zero_add] at a1 a2 a3
      go_wp2_with fail
      ((with_reducible refine (DQ.out _ (HI1.out.later hb2)).mono ?_)); rintro e w3 ⟨rfl, hb3⟩
      go_wp2
      go_ret2
      exact ⟨rfl, bon (bon hb1 hb2) hb3⟩
  · rw [show min 2001 t.size = 2001 by omega] at SZ
    have e1 : srtR t = 0 := by unfold srtR fullB; rw [decide_eq_true (by omega)]; rfl
    have e2 : errR t = 7 := by unfold errR fullB; rw [decide_eq_true (by omega)]; rfl
    rw [e1, e2]
    clear e1 e2
    unfold Tm.val at *
    generalize w.alloc (boxT t) = W at *
    obtain ⟨a0, a1, a2, a3⟩ := f4
    simp only [Nat.zero_add] at a1 a2 a3
    go_enter Tryz.func16, Tryz.ntmps16
    go_wp2_with fail
    ((with_reducible refine SZ.out.mono ?_)); rintro e w2 ⟨rfl, hb2⟩
    go_wp2
    go_ret2
    exact ⟨rfl, bon hb1 hb2⟩
end
section
open Go.RowKit

mutual
/-- a term without its places -/
def Tm.er : Tm → Tm
  | .node op nm n _ _ ks => .node op nm n none 0 (Tm.ers ks)
def Tm.ers : List Tm → List Tm
  | [] => []
  | t :: ts => Tm.er t :: Tm.ers ts
end
theorem ers_map : ∀ ks : List Tm, Tm.ers ks = ks.map Tm.er
  | [] => rfl
  | k :: ks => by simp only [Tm.ers, ers_map ks, List.map_cons]
theorem er_eq (t : Tm) : t.er = .node t.op t.nm t.n none 0 (t.ks.map Tm.er) := by
  cases t with
  | node op nm n a c ks => rw [Tm.er, ers_map]; rfl
/-- all that it is made of stands from block lo on -/
inductive TFr (lo : Nat) : Tm → Prop
  | mk (t : Tm) (h : ∀ p, t.a = some p → lo ≤ p.block) (hk : ∀ k ∈ t.ks, TFr lo k) : TFr lo t
theorem TFr.mono {lo lo' : Nat} (hl : lo' ≤ lo) {t : Tm} (h : TFr lo t) : TFr lo' t := by
  induction t using Tm.ind with
  | h t ih =>
    cases h with
    | mk _ h hk => exact .mk t (fun p hp => Nat.le_trans hl (h p hp)) (fun k hk' => ih k hk' (hk k hk'))
theorem TIn.setFar {w : World} {B lo : Nat} {t : Tm} {p : Addr} (h : TIn w B t) (hf : TFr lo t) (hp : p.block < lo) (u : Value) : TIn (w.setCell p u) B t := by
  induction t using Tm.ind with
  | h t ih =>
    cases h with
    | mk _ ho hn hs hc hm hk hi =>
      cases hf with
      | mk _ h' hk' =>
        refine .mk t ho hn hs hc hm (fun j hj => ?_) (fun k hk'' => ih k hk'' (hi k hk'') (hk' k hk''))
        obtain ⟨b, o, ha, hb, f⟩ := hk j hj
        have hlo : lo ≤ b := h' _ ha
        refine ⟨b, o, ha, hb, ?_⟩
        have e : ∀ q, (w.setCell p u).cell? ⟨b, q, none⟩ = w.cell? ⟨b, q, none⟩ := fun q => World.cell?_of_block (w := w) (Below.heap_setCell w p u b (by omega))
        unfold Four
        rw [e, e, e, e]
        exact f
/-- the four cells of a term -/
def tm4 (t : Tm) : List Value := [.int .i64 t.op, .string t.nm, .int .i64 t.n, .slice t.a t.ks.length t.c]
theorem tm_info : (Tryz.prog.info? 24).map (fun i => (i.zero, i.size, i.bytes)) = some (some (.agg #[.int .i64 0, .string ⟨#[]⟩, .int .i64 0, .slice none 0 0]), 4, 56) := by kernel_rfl
theorem tm_parts : ∃ i, Tryz.prog.info? 24 = some i ∧ i.zero = some (.agg #[.int .i64 0, .string ⟨#[]⟩, .int .i64 0, .slice none 0 0]) ∧ i.size = 4 ∧ i.bytes = 56 := by
  obtain ⟨i, hi, he⟩ := Option.map_eq_some_iff.1 tm_info
  simp only [Prod.mk.injEq] at he
  exact ⟨i, hi, he.1, he.2.1, he.2.2⟩
theorem made_terms (n : Nat) (h : n ≤ 2000) : ∃ cs : Array Value, cs.size = n * 4 ∧ ∀ w : World, (Instr.makeSlice 22 (.int .i64 (n : Int)) (.int .i64 (n : Int))).run Tryz.prog w = .ok (.slice (some ⟨w.heap.size, 0, none⟩) n n) (w.alloc (.cells cs 24)) := by
  obtain ⟨i0, hi0, hz0, hz1, hz2⟩ := tm_parts
  refine ⟨madeCells #[.int .i64 0, .string ⟨#[]⟩, .int .i64 0, .slice none 0 0] (n * 4), size_madeCells _ _, fun w => ?_⟩
  have hr := run_make (P := Tryz.prog) w 22 24 i0 _ Tryz.underlying22 hi0 hz0 .i64 .i64 (n : Int) (n : Int) (by omega) (Int.le_refl _) (by rw [hz2]; omega) (by omega)
  rw [hr, hz1, Int.toNat_natCast]
  rfl
/-- the parts that are done: the row in block R, its first parts -/
structure CP (W3 : World) (R n : Nat) (l : List Tm) (w : World) : Prop where
  but : But R W3 w
  row : ∃ xs : List Value, w.ownsRow R 24 4 (.slice (some ⟨R, 0, none⟩) n n) n xs ∧ ∀ m (hm : m < l.length) i, i < 4 → xs[m * 4 + i]? = (tm4 l[m])[i]?
  tin : ∀ x ∈ l, TIn w w.heap.size x
  fr : ∀ x ∈ l, TFr W3.heap.size x
theorem CP.later {W3 w w' : World} {R n : Nat} {l : List Tm} (h : CP W3 R n l w) (hb : Below w.heap.size w w') : CP W3 R n l w' := by
  obtain ⟨xs, ho, hx⟩ := h.row
  refine ⟨h.but.trans (But.of hb), ⟨xs, ?_, hx⟩, fun x hx => (h.tin x hx).later hb, h.fr⟩
  refine ⟨ho.1, ?_⟩
  rcases ho.2 with h0 | ⟨g, cap, cur, hv, hbg, hg, hr⟩
  · exact .inl h0
  · exact .inr ⟨g, cap, cur, hv, hbg, by rw [hb.block g (Array.getElem?_eq_some_iff.1 hg).1]; exact hg, hr⟩
theorem CP.four {W3 w : World} {R n : Nat} {l : List Tm} (h : CP W3 R n l w) (hl : l.length ≤ n) (m : Nat) (hm : m < l.length) : Four w R (m * 4) l[m] := by
  obtain ⟨xs, ho, hx⟩ := h.row
  have c : ∀ i, i < 4 → w.cell? ⟨R, m * 4 + i, none⟩ = (tm4 l[m])[i]? := fun i hi => by rw [ho.cellAt (m * 4 + i) (by omega), hx m hm i hi]
  exact ⟨c 0 (by omega), c 1 (by omega), c 2 (by omega), c 3 (by omega)⟩
theorem CP.there {W3 w : World} {R n : Nat} {l : List Tm} (h : CP W3 R n l w) (k : Nat) (hk : k < n * 4) : ∃ u, w.cell? ⟨R, k, none⟩ = some u ∧ w.frozen? ⟨R, k, none⟩ = false := by
  obtain ⟨xs, ho, -⟩ := h.row
  refine ⟨xs[k]'(by rw [ho.1]; exact hk), ?_, ho.frozenAt k⟩
  rw [ho.cellAt k hk]
  exact List.getElem?_eq_getElem _
theorem CP.store {W3 w : World} {R n : Nat} {l : List Tm} (h : CP W3 R n l w) (hl : l.length < n) (hR : R < W3.heap.size) {x : Tm} (hx : TIn w w.heap.size x) (hf : TFr W3.heap.size x) :
    CP W3 R n (l ++ [x]) ((((w.setCell ⟨R, l.length * 4, none⟩ (.int .i64 x.op)).setCell ⟨R, l.length * 4 + 1, none⟩ (.string x.nm)).setCell ⟨R, l.length * 4 + 2, none⟩ (.int .i64 x.n)).setCell ⟨R, l.length * 4 + 3, none⟩ (.slice x.a x.ks.length x.c)) := by
  obtain ⟨xs, ho, hxs⟩ := h.row
  have r1 := (ho.stored (l.length * 4) (.int .i64 x.op)).1
  have r2 := (r1.stored (l.length * 4 + 1) (.string x.nm)).1
  have r3 := (r2.stored (l.length * 4 + 2) (.int .i64 x.n)).1
  have r4 := (r3.stored (l.length * 4 + 3) (.slice x.a x.ks.length x.c)).1
  have hlen : xs.length = n * 4 := ho.1
  have set4 : ∀ y : Tm, TIn w w.heap.size y → TFr W3.heap.size y → TIn ((((w.setCell ⟨R, l.length * 4, none⟩ (.int .i64 x.op)).setCell ⟨R, l.length * 4 + 1, none⟩ (.string x.nm)).setCell ⟨R, l.length * 4 + 2, none⟩ (.int .i64 x.n)).setCell ⟨R, l.length * 4 + 3, none⟩ (.slice x.a x.ks.length x.c)) w.heap.size y := fun y hy hfy =>
    (((hy.setFar hfy (p := ⟨R, _, none⟩) hR _).setFar hfy (p := ⟨R, _, none⟩) hR _).setFar hfy (p := ⟨R, _, none⟩) hR _).setFar hfy (p := ⟨R, _, none⟩) hR _
  refine ⟨(((h.but.set (p := ⟨R, _, none⟩) (.inl rfl) _).set (p := ⟨R, _, none⟩) (.inl rfl) _).set (p := ⟨R, _, none⟩) (.inl rfl) _).set (p := ⟨R, _, none⟩) (.inl rfl) _, ⟨_, r4, fun m hm i hi => ?_⟩, fun y hy => ?_, fun y hy => ?_⟩
  · simp only [List.getElem?_set, List.length_set]
    by_cases hml : m < l.length
    · rw [if_neg (by omega), if_neg (by omega), if_neg (by omega), if_neg (by omega), hxs m hml i hi, List.getElem_append_left hml]
    · have hml : m = l.length := by simp at hm; omega
      subst hml
      rw [List.getElem_append_right (by omega)]
      simp only [Nat.sub_self, List.getElem_cons_zero]
      match i, hi with
      | 0, _ => rw [if_neg (by omega), if_neg (by omega), if_neg (by omega), if_pos (by omega), if_pos (by omega)]; rfl
      | 1, _ => rw [if_neg (by omega), if_neg (by omega), if_pos (by omega), if_pos (by omega)]; rfl
      | 2, _ => rw [if_neg (by omega), if_pos (by omega), if_pos (by omega)]; rfl
      | 3, _ => rw [if_pos (by omega), if_pos (by omega)]; rfl
  · have hs : ((((w.setCell ⟨R, l.length * 4, none⟩ (.int .i64 x.op)).setCell ⟨R, l.length * 4 + 1, none⟩ (.string x.nm)).setCell ⟨R, l.length * 4 + 2, none⟩ (.int .i64 x.n)).setCell ⟨R, l.length * 4 + 3, none⟩ (.slice x.a x.ks.length x.c)).heap.size = w.heap.size := by simp
    rw [hs]
    rcases List.mem_append.1 hy with hy | hy
    · exact set4 y (h.tin y hy) (h.fr y hy)
    · rw [List.mem_singleton.1 hy]; exact set4 x hx hf
  · rcases List.mem_append.1 hy with hy | hy
    · exact h.fr y hy
    · rw [List.mem_singleton.1 hy]; exact hf
theorem CP.start {w : World} {cs : Array Value} {n : Nat} (hc : cs.size = n * 4) (hn : n ≤ 2000) : CP (w.alloc (.cells cs 24)) w.heap.size n [] (w.alloc (.cells cs 24)) :=
  ⟨But.refl _ _, ⟨_, World.ownsRow_lit w cs n (Nat.le_refl _) (by unfold maxLen; omega) hc, fun m hm => by simp at hm⟩, fun x hx => (by cases hx), fun x hx => (by cases hx)⟩
theorem len_sizes : ∀ l : List Tm, l.length ≤ Tm.sizes l
  | [] => Nat.zero_le _
  | t :: ts => by
    have := len_sizes ts
    have h1 := Tm.size_eq t
    simp only [List.length_cons, Tm.sizes]
    omega
/-- four cells that may be written -/
def FourV' (w : World) (b : Nat) (x y z u : Value) : Prop := w.cell? ⟨b, 0, none⟩ = some x ∧ w.cell? ⟨b, 1, none⟩ = some y ∧ w.cell? ⟨b, 2, none⟩ = some z ∧ w.cell? ⟨b, 3, none⟩ = some u ∧ w.frozen? ⟨b, 0, none⟩ = false ∧ w.frozen? ⟨b, 1, none⟩ = false ∧ w.frozen? ⟨b, 2, none⟩ = false ∧ w.frozen? ⟨b, 3, none⟩ = false
theorem FourV'.later {w w1 : World} {b : Nat} {x y z u : Value} (h : FourV' w b x y z u) (hb : Below w.heap.size w w1) : FourV' w1 b x y z u :=
  ⟨cell_later hb h.1, cell_later hb h.2.1, cell_later hb h.2.2.1, cell_later hb h.2.2.2.1, frozen_later hb h.1 h.2.2.2.2.1, frozen_later hb h.2.1 h.2.2.2.2.2.1, frozen_later hb h.2.2.1 h.2.2.2.2.2.2.1, frozen_later hb h.2.2.2.1 h.2.2.2.2.2.2.2⟩
/-- a copy of a term: the same without its places, all of it new -/
def CopyT (t : Tm) (w : World) (e : Ending) (w' : World) : Prop := ∃ x : Tm, e = .returned x.val ∧ x.er = t.er ∧ TIn w' w'.heap.size x ∧ TFr w.heap.size x ∧ Below w.heap.size w w'
def cpW (t : Tm) (w : World) : World := (w.alloc (boxT t)).alloc (.cells #[.int .i64 0, .string ⟨#[]⟩, .int .i64 0, .slice none 0 0] 24)
set_option maxRecDepth 100000 in
set_option maxHeartbeats 4000000 in
theorem scopied_any (t : Tm) : ∀ w : World, TIn w w.heap.size t → t.size ≤ 2000 → Calls Tryz.prog 29 #[t.val] w (CopyT t w) := by
  induction t using Tm.ind with
  | h t ih =>
  intro w hin hz
  have hsz := Tm.size_eq t
  have hkl : t.ks.length ≤ 2000 := by
    have := len_sizes t.ks
    omega
  obtain ⟨cs, hcs, hmk⟩ := made_terms t.ks.length hkl
  have hb2 : Below w.heap.size w (cpW t w) := bal (bal (Below.refl _ _) _) _
  have F2 : Four (cpW t w) w.heap.size 0 t := (box_four w t).later (bel_alloc _ _)
  have f2 : (cpW t w).frozen? ⟨w.heap.size, 3, none⟩ = false := by simp [cpW, boxT, go_sem]
  have FR : FourV' (cpW t w) (w.heap.size + 1) (.int .i64 0) (.string ⟨#[]⟩) (.int .i64 0) (.slice none 0 0) := by simp [FourV', cpW, boxT, go_sem]
  have hX2 : (cpW t w).heap.size = w.heap.size + 1 + 1 := by simp [cpW]
  have HIN := mkHid hin
  have IH := mkHid ih
  have HZ := mkHid hz
  have HCS := mkHid hcs
  have HX2 := mkHid hX2
  have hW2 : (w.alloc (.cells #[.int .i64 t.op, .string t.nm, .int .i64 t.n, .slice t.a t.ks.length t.c] 24)).alloc (.cells #[.int .i64 0, .string ⟨#[]⟩, .int .i64 0, .slice none 0 0] 24) = cpW t w := rfl
  clear hin ih hz hcs hX2
  generalize cpW t w = W2 at *
  unfold Tm.val
  generalize hn' : t.ks.length = n at *
  have HN := mkHid hn'
  clear hn'
  have hn9 : n ≤ 9223372036854775807 := by omega
  have C0 := CP.start (w := W2) HCS.out hkl
  have b3 := bel_alloc W2 (.cells cs 24)
  have F3 := F2.later b3
  have f3 := frozen_later b3 F2.2.2.2 (by rw [Nat.zero_add]; exact f2)
  have FR3 := FR.later b3
  have BB3 := bon hb2 b3
  have hX3 : (W2.alloc (.cells cs 24)).heap.size = w.heap.size + 1 + 1 + 1 := by rw [World.size_alloc, HX2.out]
  have HX3 := mkHid hX3
  have hR : W2.heap.size = w.heap.size + 1 + 1 := HX2.out
  have HR := mkHid hR
  have a3' := F2.2.2.2
  simp only [Nat.zero_add] at a3'
  rw [HN.out] at a3'
  clear hX3 hR F2 f2 FR hb2 b3
  generalize hW3 : W2.alloc (.cells cs 24) = W3 at *
  obtain ⟨a0, a1, a2, a3⟩ := id F3
  simp only [Nat.zero_add] at a1 a2 a3 f3
  rw [HN.out] at a3
  generalize hRR : W2.heap.size = R at *
  have HF3 := mkHid F3
  have HFR3 := mkHid FR3
  have hRl : R < W3.heap.size := by rw [HX3.out, HR.out]; omega
  go_enter Tryz.func29, Tryz.ntmps29
  go_wp2
  clear a0 a1 a2 a3 a3' hW3 hW2 hmk
  go_loopw [13] (fun i w' => ∃ (k : Nat) (x : Int), i = .int .i64 x ∧ x = k ∧ k ≤ n ∧ ∃ l, CP W3 R n l w' ∧ l.map Tm.er = (t.ks.take k).map Tm.er) (fun i _ => (n - intOf i).toNat)
  case atStart => exact ⟨0, 0, rfl, rfl, Nat.zero_le _, [], C0, by simp⟩
  case round =>
    clear C0
    obtain ⟨k, x, rfl, hxk, hk, l, c, hl⟩ := hrel
    obtain rfl : x = (k : Int) := hxk
    have hll : l.length = k := by have := congrArg List.length hl; simpa [HN.out, Nat.min_eq_left hk] using this
    by_cases hlt : k < n
    · have hk' : k < t.ks.length := by rw [HN.out]; exact hlt
      obtain ⟨kin, b, o, ha, hbB, kf⟩ := HIN.out.kid k hk'
      have bW : Below w.heap.size w wr := BB3.trans (c.but.below (by rw [HR.out]; omega) (by rw [HX3.out]; omega))
      have kf' := kf.keep bW hbB
      have kin' := (kin.keep bW).mono bW.size
      have hks : t.ks[k].size ≤ 2000 := by
        have h1 := sizes_take_le t.ks (k + 1)
        rw [take_succ_sizes t.ks k hk'] at h1
        have := HZ.out
        omega
      have HC := mkHid (IH.out t.ks[k] (List.getElem_mem _) (wr.alloc (boxT t.ks[k])) (kin'.later (bel_alloc _ _)) hks)
      have HT := mkHid (List.take_succ_eq_append_getElem hk')
      generalize t.ks[k] = q at *
      rw [ha]
      clear ha kin kf kin' hk' hks
      obtain ⟨g0, g1, g2, g3⟩ := kf'
      have F4 := box_four wr q
      have bN := bel_alloc wr (boxT q)
      have HCN := mkHid (c.later bN)
      have hW5 : wr.alloc (.cells #[.int .i64 q.op, .string q.nm, .int .i64 q.n, .slice q.a q.ks.length q.c] 24) = wr.alloc (boxT q) := rfl
      have hzr : W3.heap.size ≤ (wr.alloc (boxT q)).heap.size := Nat.le_trans c.but.size bN.size
      unfold Tm.val at HC
      generalize wr.alloc (boxT q) = W5 at *
      obtain ⟨f0, f1, f2, f3'⟩ := F4
      simp only [Nat.zero_add] at f1 f2 f3'
      have hk2 : (k : Int) < (n : Int) := by omega
      go_wp2_with fail
      ((with_reducible refine HC.out.mono ?_)); rintro e w6 ⟨z, rfl, hz1, hz2, hz3, hb6⟩
      clear g0 g1 g2 g3 f0 f1 f2 f3' hW5 HC
      have c6 := HCN.out.later hb6
      have hz3' := hz3.mono hzr
      obtain ⟨e0, t0, s0⟩ := c6.there (k * 4) (by omega)
      obtain ⟨e1, t1, s1⟩ := c6.there (k * 4 + 1) (by omega)
      obtain ⟨e2, t2, s2⟩ := c6.there (k * 4 + 2) (by omega)
      obtain ⟨e3, t3, s3⟩ := c6.there (k * 4 + 3) (by omega)
      have c7 := c6.store (by omega) hRl hz2 hz3'
      rw [hll] at c7
      have HC7 := mkHid c7
      clear c6 c7 c
      unfold Tm.val
      go_wp2
      go_roundw
      case rel => exact ⟨k + 1, _, rfl, by omega, by omega, _, HC7.out, by rw [HT.out, List.map_append, List.map_append, hl]; simp [hz1]⟩
      case measure => simp [intOf]; omega
    · obtain rfl : k = n := by omega
      have HL : Hid (l.map Tm.er = t.ks.map Tm.er) := by
        show _ = _
        rw [hl, List.take_of_length_le (by rw [HN.out]; omega)]
      have HC := mkHid c
      have cell : ∀ {p : Addr} {v : Value}, W3.cell? p = some v → p.block ≠ R → wr.cell? p = some v := fun h hp => c.but.cell h hp
      have hXR : w.heap.size ≠ R := by rw [HR.out]; omega
      have hX1R : w.heap.size + 1 ≠ R := by rw [HR.out]; omega
      obtain ⟨u0, u1, u2, u3⟩ := HF3.out
      simp only [Nat.zero_add] at u1 u2 u3
      rw [HN.out] at u3
      have v0 := cell u0 hXR
      have v1 := cell u1 hXR
      have v2 := cell u2 hXR
      have v3 := cell u3 hXR
      have v4 := c.but.frozen u3 hXR f3
      obtain ⟨r0, r1, r2, r3, r4, r5, r6, r7⟩ := HFR3.out
      have m0 := cell r0 hX1R
      have m1 := cell r1 hX1R
      have m2 := cell r2 hX1R
      have m3 := cell r3 hX1R
      have m4 := c.but.frozen r0 hX1R r4
      have m5 := c.but.frozen r1 hX1R r5
      have m6 := c.but.frozen r2 hX1R r6
      have m7 := c.but.frozen r3 hX1R r7
      have bW : Below w.heap.size w wr := BB3.trans (c.but.below (by rw [HR.out]; omega) (by rw [HX3.out]; omega))
      clear cell u0 u1 u2 u3 r0 r1 r2 r3 r4 r5 r6 r7 hl c
      go_wp2
      have hX3l : w.heap.size < W3.heap.size := by rw [HX3.out]; omega
      have hX4l : w.heap.size + 1 < W3.heap.size := by rw [HX3.out]; omega
      have hsz5 : (((((wr.setCell ⟨w.heap.size, 3, none⟩ (.slice (some ⟨R, 0, none⟩) k k)).setCell ⟨w.heap.size + 1, 0, none⟩ (.int .i64 t.op)).setCell ⟨w.heap.size + 1, 1, none⟩ (.string t.nm)).setCell ⟨w.heap.size + 1, 2, none⟩ (.int .i64 t.n)).setCell ⟨w.heap.size + 1, 3, none⟩ (.slice (some ⟨R, 0, none⟩) k k)).heap.size = wr.heap.size := by simp
      have hblk : (((((wr.setCell ⟨w.heap.size, 3, none⟩ (.slice (some ⟨R, 0, none⟩) k k)).setCell ⟨w.heap.size + 1, 0, none⟩ (.int .i64 t.op)).setCell ⟨w.heap.size + 1, 1, none⟩ (.string t.nm)).setCell ⟨w.heap.size + 1, 2, none⟩ (.int .i64 t.n)).setCell ⟨w.heap.size + 1, 3, none⟩ (.slice (some ⟨R, 0, none⟩) k k)).heap[R]? = wr.heap[R]? := by
        rw [Below.heap_setCell _ ⟨w.heap.size + 1, 3, none⟩ _ R (fun e => hX1R e.symm), Below.heap_setCell _ ⟨w.heap.size + 1, 2, none⟩ _ R (fun e => hX1R e.symm), Below.heap_setCell _ ⟨w.heap.size + 1, 1, none⟩ _ R (fun e => hX1R e.symm), Below.heap_setCell _ ⟨w.heap.size + 1, 0, none⟩ _ R (fun e => hX1R e.symm), Below.heap_setCell _ ⟨w.heap.size, 3, none⟩ _ R (fun e => hXR e.symm)]
      have htin : ∀ y ∈ l, TIn (((((wr.setCell ⟨w.heap.size, 3, none⟩ (.slice (some ⟨R, 0, none⟩) k k)).setCell ⟨w.heap.size + 1, 0, none⟩ (.int .i64 t.op)).setCell ⟨w.heap.size + 1, 1, none⟩ (.string t.nm)).setCell ⟨w.heap.size + 1, 2, none⟩ (.int .i64 t.n)).setCell ⟨w.heap.size + 1, 3, none⟩ (.slice (some ⟨R, 0, none⟩) k k)) wr.heap.size y := fun y hy =>
        (((((HC.out.tin y hy).setFar (HC.out.fr y hy) (p := ⟨w.heap.size, 3, none⟩) hX3l _).setFar (HC.out.fr y hy) (p := ⟨w.heap.size + 1, 0, none⟩) hX4l _).setFar (HC.out.fr y hy) (p := ⟨w.heap.size + 1, 1, none⟩) hX4l _).setFar (HC.out.fr y hy) (p := ⟨w.heap.size + 1, 2, none⟩) hX4l _).setFar (HC.out.fr y hy) (p := ⟨w.heap.size + 1, 3, none⟩) hX4l _
      have hbel : Below w.heap.size w (((((wr.setCell ⟨w.heap.size, 3, none⟩ (.slice (some ⟨R, 0, none⟩) k k)).setCell ⟨w.heap.size + 1, 0, none⟩ (.int .i64 t.op)).setCell ⟨w.heap.size + 1, 1, none⟩ (.string t.nm)).setCell ⟨w.heap.size + 1, 2, none⟩ (.int .i64 t.n)).setCell ⟨w.heap.size + 1, 3, none⟩ (.slice (some ⟨R, 0, none⟩) k k)) := bset (bset (bset (bset (bset bW (by show w.heap.size ≤ w.heap.size; omega) _) (by show w.heap.size ≤ w.heap.size + 1; omega) _) (by show w.heap.size ≤ w.heap.size + 1; omega) _) (by show w.heap.size ≤ w.heap.size + 1; omega) _) (by show w.heap.size ≤ w.heap.size + 1; omega) _
      obtain ⟨ho, hn, hs, -, -⟩ := HIN.out.nums
      have hRw : R < wr.heap.size := Nat.lt_of_lt_of_le hRl HC.out.but.size
      refine bodyPost_ret (v := .agg #[.int .i64 t.op, .string t.nm, .int .i64 t.n, .slice (some ⟨R, 0, none⟩) k k]) (by simp [results, Tryz.results29, go_sem, m0, m1, m2, m3]) rfl ⟨.node t.op t.nm t.n (some ⟨R, 0, none⟩) k l, ?_, ?_, ?_, ?_, hbel⟩
      · simp only [Tm.val, Tm.op, Tm.nm, Tm.n, Tm.a, Tm.ks, Tm.c, hll]
      · rw [er_eq, er_eq t]
        simp only [Tm.op, Tm.nm, Tm.n, Tm.ks, HL.out]
      · rw [hsz5]
        refine .mk _ ho hn hs (by show l.length ≤ k; omega) (by show k ≤ maxLen; unfold maxLen; omega) (fun j hj => ⟨R, 0, rfl, hRw, ?_⟩) htin
        have f := HC.out.four (by omega) j hj
        have e : ∀ q, (((((wr.setCell ⟨w.heap.size, 3, none⟩ (.slice (some ⟨R, 0, none⟩) k k)).setCell ⟨w.heap.size + 1, 0, none⟩ (.int .i64 t.op)).setCell ⟨w.heap.size + 1, 1, none⟩ (.string t.nm)).setCell ⟨w.heap.size + 1, 2, none⟩ (.int .i64 t.n)).setCell ⟨w.heap.size + 1, 3, none⟩ (.slice (some ⟨R, 0, none⟩) k k)).cell? ⟨R, q, none⟩ = wr.cell? ⟨R, q, none⟩ := fun q => World.cell?_of_block (w := wr) hblk
        rw [Nat.zero_add]
        unfold Four
        rw [e, e, e, e]
        exact f
      · refine .mk _ (fun p hp => ?_) (fun y hy => (HC.out.fr y hy).mono (by rw [HX3.out]; omega))
        simp only [Tm.a, Option.some.injEq] at hp
        subst hp
        show w.heap.size ≤ R
        rw [HR.out]; omega
end
section
open Go.RowKit Go.Maps

theorem tgt_keyed : Maps.Keyed Tryz.prog 89 := Maps.Keyed.of_law (deep_law_laid (by kernel_rfl) (m := 5) (by decide) (of_decide_eq_true (by kernel_rfl)) (by kernel_rfl) (by kernel_rfl))
/-- a place where something can be put -/
def tgt (nm : ByteArray) (s : Int) : Value := .agg #[.string nm, .int .i64 s]
theorem tgt_type : Tryz.prog.keyType 89 = true := by kernel_rfl
theorem tgt_cells : Tryz.prog.cellsOf 89 = 2 ∧ Tryz.prog.cellsOf 9 = 1 ∧ Tryz.prog.cellsOf 3 = 1 := ⟨by kernel_rfl, by kernel_rfl, by kernel_rfl⟩
theorem tgt_size : ∃ m, Tryz.prog.types.size = m + 2 := ⟨Tryz.prog.types.size - 2, by kernel_rfl⟩
theorem tgt_key (nm : ByteArray) (s : Int) (hn : nm.size ≤ maxLen) (hs : fitB s = true) : ∃ kl, keyOf Tryz.prog 89 (tgt nm s) = some kl := by
  obtain ⟨m, hm⟩ := tgt_size
  obtain ⟨c1, c2, c3⟩ := tgt_cells
  have hw : (Lit.int .i64 s).wf = true := by
    rw [fitB_iff] at hs
    have h1 : IntKind.i64.min = -9223372036854775808 := by decide
    have h2 : IntKind.i64.max = 9223372036854775807 := by decide
    simp only [Lit.wf, h1, h2, Bool.and_eq_true, decide_eq_true_eq]
    omega
  have hform : (tgt nm s).formed Tryz.prog 89 = true := by
    simp [tgt, Value.formed, Tryz.underlying89, c1]
  refine ⟨.string (keyBytes [.string nm.data.toList, .int .i64 s]), ?_⟩
  unfold keyOf
  rw [Tryz.underlying89]
  simp only [tgt_type, hform, Bool.and_self, if_true, hm]
  simp [Program.keyLits, Tryz.underlying89, Tryz.underlying9, Tryz.underlying3, tgt, Value.cells, c1, c2, c3, hn, hw]
/-- an element of the map is told by itself -/
def RV (v : Value) : Option (DataW Value × List MemPlace) := some (.held v, [])
def zeroT : Value := .agg #[.int .i64 0, .string ⟨#[]⟩, .int .i64 0, .slice none 0 0]
theorem zeroT_run (w : World) : (zeroValue 24).run Tryz.prog w = .ok zeroT w := by
  obtain ⟨i0, hi0, hz0, -⟩ := tm_parts
  simp [zeroValue, typeInfo, hi0, hz0, zeroT, go_sem]
/-- block b is the map f -/
def PMap (w : World) (b n : Nat) (f : ByteArray → Int → Option Value) : Prop :=
  ∃ D : DataW Value, w.ownsMap Tryz.prog 89 RV b n D ∧ ∀ nm s kl, keyOf Tryz.prog 89 (tgt nm s) = some kl →
    (f nm s = none → has D kl = false ∧ ∀ z, D.atKey kl z = z) ∧ ∀ v, f nm s = some v → has D kl = true ∧ ∀ z, D.atKey kl z = .held v
set_option maxRecDepth 100000 in
theorem PMap.look {w : World} {b n : Nat} {f : ByteArray → Int → Option Value} (h : PMap w b n f) {nm : ByteArray} {s : Int} (hn : nm.size ≤ maxLen) (hs : fitB s = true) :
    (Instr.lookup 65 (.map (some b)) (tgt nm s) true).run Tryz.prog w = .ok (.tuple #[(f nm s).getD zeroT, .bool (f nm s).isSome]) w := by
  obtain ⟨D, hD, hf⟩ := h
  obtain ⟨kl, hk⟩ := tgt_key nm s hn hs
  obtain ⟨v, ps, hr, hv⟩ := hD.look_ok tgt_keyed Tryz.underlying65 (zeroT_run w) (zd := .held zeroT) (zp := []) rfl hk
  obtain ⟨h1, h2⟩ := hf nm s kl hk
  rw [hr]
  simp only [RV, Option.some.injEq, Prod.mk.injEq] at hv
  cases hfn : f nm s with
  | none =>
    obtain ⟨e1, e2⟩ := h1 hfn
    rw [e2] at hv
    have hv1 := hv.1
    injection hv1 with hv1
    simp only [e1, hv1, Option.getD_none, Option.isSome_none]
  | some x =>
    obtain ⟨e1, e2⟩ := h2 x hfn
    rw [e2] at hv
    have hv1 := hv.1
    injection hv1 with hv1
    simp only [e1, hv1, Option.getD_some, Option.isSome_some]
theorem PMap.made (w : World) : PMap (w.alloc (.map #[] 0)) w.heap.size 0 (fun _ _ => none) :=
  ⟨.map [], World.ownsMap_made w _ _ _, fun nm s kl _ => ⟨fun _ => ⟨rfl, fun z => rfl⟩, fun v h => by cases h⟩⟩
/-- one more is put -/
def putF (f : ByteArray → Int → Option Value) (nm : ByteArray) (s : Int) (v : Value) : ByteArray → Int → Option Value := fun n' s' => if n' = nm ∧ s' = s then some v else f n' s'
theorem PMap.put {w' : World} {b n : Nat} {f : ByteArray → Int → Option Value} {D : DataW Value} {nm : ByteArray} {s : Int} {kl : Lit} {v : Value} (hm : IsMap D) (hf : ∀ nm s kl, keyOf Tryz.prog 89 (tgt nm s) = some kl →
    (f nm s = none → has D kl = false ∧ ∀ z, D.atKey kl z = z) ∧ ∀ v, f nm s = some v → has D kl = true ∧ ∀ z, D.atKey kl z = .held v) (hk : keyOf Tryz.prog 89 (tgt nm s) = some kl)
    (hD : w'.ownsMap Tryz.prog 89 RV b (n + 1) (D.put kl (.held v))) : PMap w' b (n + 1) (putF f nm s v) := by
  refine ⟨_, hD, fun n' s' kl' hk' => ?_⟩
  by_cases e : n' = nm ∧ s' = s
  · obtain ⟨rfl, rfl⟩ := e
    rw [hk] at hk'
    cases hk'
    have hp : putF f n' s' v n' s' = some v := by simp [putF]
    rw [hp]
    refine ⟨fun h => (by cases h), fun x hx => ?_⟩
    cases hx
    exact ⟨has_put_same hm (tgt_keyed.key hk) _, fun z => atKey_put_same hm (tgt_keyed.key hk) _ _⟩
  · have hne : kl' ≠ kl := by
      rintro rfl
      have := tgt_keyed.inj hk hk'
      unfold tgt at this
      simp at this
      exact e ⟨this.1.symm, this.2.symm⟩
    have hp : putF f nm s v n' s' = f n' s' := by unfold putF; rw [if_neg e]
    rw [hp, has_put_other hne]
    obtain ⟨h1, h2⟩ := hf n' s' kl' hk'
    exact ⟨fun h => ⟨(h1 h).1, fun z => by rw [atKey_put_other hne]; exact (h1 h).2 z⟩, fun x hx => ⟨(h2 x hx).1, fun z => by rw [atKey_put_other hne]; exact (h2 x hx).2 z⟩⟩
end
section
open Go.RowKit

def RetI (n : Int) (w : World) (e : Ending) (w' : World) : Prop := e = .returned (.int .i64 n) ∧ Below w.heap.size w w'
def RetB (b : Bool) (w : World) (e : Ending) (w' : World) : Prop := e = .returned (.bool b) ∧ Below w.heap.size w w'
end
end Go.Proofs.YtdfebacjbapahaaGreatDoor
