/-
  The names that are tried for a fresh one: what subst.choices hands on.
-/
import Derived.Test.YtaibmdikimpooaaDoorSbK
namespace Go.Proofs.YtaibmdikimpooaaDoor
open Go.RowKit Go.Shelf
attribute [local go_sem] Oper.semAt_some

/-- a name's beginning, with a line under it; what is tried -/
def hdN (nm : ByteArray) : ByteArray := nm.extract 0 (min nm.size 13) ++ ⟨#[95]⟩
def chN (nm : ByteArray) (j : Nat) : ByteArray := if j = 0 then nm else hdN nm ++ ⟨(Lib.decDigits (j - 1)).toArray⟩
theorem dec_len : ∀ j : Nat, j < 100 → (Lib.decDigits j).length ≤ 2 := by
  intro j hj
  unfold Lib.decDigits
  split
  · simp
  · unfold Lib.decDigits
    rw [dif_pos (by omega)]
    simp
theorem hdN_size (nm : ByteArray) : (hdN nm).size ≤ 14 := by
  unfold hdN
  rw [ByteArray.size_append, ByteArray.size_extract]
  have : (⟨#[95]⟩ : ByteArray).size = 1 := rfl
  omega
theorem chN_size {nm : ByteArray} (h : nm.size ≤ 16) {j : Nat} (hj : j < 101) : (chN nm j).size ≤ 100 := by
  unfold chN
  split
  · omega
  · have h1 := hdN_size nm
    have h2 := dec_len (j - 1) (by omega)
    have h3 : (⟨(Lib.decDigits (j - 1)).toArray⟩ : ByteArray).size = (Lib.decDigits (j - 1)).length := by simp [ByteArray.size]
    rw [ByteArray.size_append, h3]
    omega
abbrev St := { s : ByteArray // s.size ≤ 100 }
def chS (nm : ByteArray) (hn : nm.size ≤ 16) (j : Nat) : St := if h : (chN nm j).size ≤ 100 then ⟨chN nm j, h⟩ else ⟨nm, by omega⟩
theorem chS_is {nm : ByteArray} (hn : nm.size ≤ 16) {j : Nat} (hj : j < 101) : (chS nm hn j).1 = chN nm j := by
  unfold chS
  rw [dif_pos (chN_size hn hj)]
/-- what a round keeps: what lay below, and a box -/
def StK (n₀ Bs : Nat) (W W' : World) : Prop := Below n₀ W W' ∧ ∀ v, Boxed W Bs 9 v → Boxed W' Bs 9 v
theorem stK_t {n₀ Bs : Nat} {A B C : World} (h : StK n₀ Bs A B) (k : StK n₀ Bs B C) : StK n₀ Bs A C := ⟨h.1.trans k.1, fun v hv => k.2 v (h.2 v hv)⟩
theorem stK_refl (n₀ Bs : Nat) (W : World) : StK n₀ Bs W W := ⟨Below.refl _ _, fun _ h => h⟩
theorem stK_b {n₀ Bs : Nat} {w : World} (hn : n₀ ≤ w.heap.size) (W : World) (l : Nat) (o o' : Obj) (hl : w.heap.size ≤ l) (h : W.heap[l]? = some o) (hc : o.isCells = false) (hw : o.isWalk = false) : StK n₀ Bs W (W.putObj l o') :=
  ⟨belowK_b hn W l o o' hl h hc hw, fun v hv => boxed_own Bs 9 (fun (_ : Unit) => v) () W (W.putObj l o') (some l) hv (grownBy_putObj' W l o') (fun r e => by cases e; exact ⟨o, h, hc⟩)⟩
set_option maxRecDepth 100000 in
set_option maxHeartbeats 2000000 in
theorem choi1_in (n : Nat) (hn : 1 ≤ n) (l Bs n₀ : Nat) (nm : ByteArray) (hnm : nm.size ≤ 16) (J Jx : List St → World → Prop)
    (hY : ∀ pre x W, J pre W → pre.length < 101 → YieldAt Fence.wide (n - 1) Tryd.prog l #[.string x.1] W fun e W' =>
      (e = .returned (.bool true) ∧ J (pre ++ [x]) W' ∧ StK n₀ Bs W W') ∨ (e = .returned (.bool false) ∧ Jx (pre ++ [x]) W'))
    (W : World) (hBs : Boxed W Bs 9 (.string nm)) (h0 : J [] W) :
    CallsIn Fence.wide n Tryd.prog 63 #[.func (.yield l) #[] #[], .pointer (some ⟨Bs, 0, none⟩)] W fun e W' => (∃ v, e = .returned v) ∧
      ((∃ ys, ys = upto (chS nm hnm) 101 ∧ J ys W') ∨ (∃ pre, (∃ k, k ≤ 101 ∧ pre = upto (chS nm hnm) k) ∧ Jx pre W')) := by
  refine callsIn_of_wp Tryd.func63 rfl trivial ?_ rfl
  simp only [Tryd.ntmps63, List.size_toArray, List.length_cons, List.length_nil, Nat.reduceAdd, Nat.reduceSub, Array.replicate_succ, Array.replicate_zero, List.push_toArray, List.append_toArray, List.nil_append, List.cons_append]
  have cB := hBs.cell
  have e1 : upto (chS nm hnm) 1 = [] ++ [(⟨nm, by omega⟩ : St)] := by
    rw [upto_succ]
    have : chS nm hnm 0 = ⟨nm, by omega⟩ := Subtype.ext ((chS_is hnm (by omega)).trans (by simp [chN]))
    rw [this]; rfl
  have hmn : min (nm.size : Int) 13 = ((min nm.size 13 : Nat) : Int) := by omega
  have hm0 : (0 : Int) ≤ ((min nm.size 13 : Nat) : Int) := by omega
  have hm1 : ((min nm.size 13 : Nat) : Int) ≤ (nm.size : Int) := by omega
  obtain ⟨fn, tmps, assign, body, hy, hR⟩ := hY [] (⟨nm, by omega⟩ : St) W h0 (by simp)
  dsimp only at hy
  rw [← e1] at hR
  gi_wp2
  clear cB hy
  refine hR.mono ?_
  clear hR
  rintro e W1 (⟨rfl, hJ1, hk1⟩ | ⟨rfl, hJx1⟩)
  · have cB := (hk1.2 _ hBs).cell
    gi_wp2
    clear cB
    gi_loopw [15] (fun i wr => ∃ (k : Nat) (x : Int), k ≤ 100 ∧ i = .int .i64 x ∧ x = k ∧ J (upto (chS nm hnm) (k + 1)) wr ∧ StK n₀ Bs W wr)
      (fun i _ => (100 - intOf i).toNat)
    case atStart => exact ⟨0, 0, by omega, rfl, rfl, hJ1, hk1⟩
    case round =>
      obtain ⟨k, x, hk, rfl, hx, hJs, hnx⟩ := hrel
      obtain rfl : x = (k : Int) := hx
      by_cases hlt : k < 100
      · obtain ⟨fn, tmps, assign, body, hy, hR⟩ := hY _ (chS nm hnm (k + 1)) wr hJs (by rw [upto_length]; omega)
        have hch : chN nm (k + 1) = nm.extract 0 (min nm.size 13) ++ ⟨#[95]⟩ ++ ⟨(Lib.decDigits k).toArray⟩ := by
          unfold chN hdN
          rw [if_neg (by omega)]; rfl
        rw [chS_is hnm (by omega), hch] at hy
        rw [← upto_succ] at hR
        have HIT := mkHid (itoa_num k hlt wr)
        have hsa : ∀ w : World, (Op.stringOp .add (nm.extract 0 (min nm.size 13) ++ ⟨#[95]⟩) ⟨(Lib.decDigits k).toArray⟩).run Tryd.prog w = .ok (.string (nm.extract 0 (min nm.size 13) ++ ⟨#[95]⟩ ++ ⟨(Lib.decDigits k).toArray⟩)) w := fun w => run_string_add_sum w _ _ (by
          have h1 := hdN_size nm
          unfold hdN at h1
          have h2 := dec_len k hlt
          have h3 : (⟨(Lib.decDigits k).toArray⟩ : ByteArray).size = (Lib.decDigits k).length := by simp [ByteArray.size]
          omega)
        have hk1' : (k : Int) < 100 := by omega
        gi_wp2_with (refine ⟨trivial, ?_⟩; gi_at_call 64; refine (callsIn_wide.2 HIT.out).mono ?_; rintro e w8 ⟨rfl, rfl⟩)
        clear hy
        refine hR.mono ?_
        rintro e W3 (⟨rfl, hJ3, hk3⟩ | ⟨rfl, hJx3⟩)
        · gi_wp2
          go_roundw
          case rel => exact ⟨k + 1, _, by omega, rfl, by omega, hJ3, stK_t hnx hk3⟩
          case measure => simp [intOf]; omega
        · gi_wp2
          refine bodyPost_ret (results_none rfl _ _ _) rfl ?_
          exact ⟨⟨_, rfl⟩, .inr ⟨_, ⟨k + 1 + 1, by omega, rfl⟩, hJx3⟩⟩
      · obtain rfl : k = 100 := by omega
        gi_wp2
        go_end0
        exact ⟨⟨_, rfl⟩, .inl ⟨_, rfl, hJs⟩⟩
  · gi_wp2
    refine bodyPost_ret (results_none rfl _ _ _) rfl ?_
    exact ⟨⟨_, rfl⟩, .inr ⟨_, ⟨1, by omega, rfl⟩, hJx1⟩⟩
set_option maxHeartbeats 1000000 in
theorem choi_in (n : Nat) (nm : ByteArray) (w : World) :
    CallsIn Fence.wide n Tryd.prog 51 #[.string nm] w fun e w' => e = .returned (.func (.func 63) #[] #[.pointer (some ⟨w.heap.size, 0, none⟩)]) ∧ w' = w.alloc (.cells #[.string nm] 9) := by
  refine callsIn_of_wp Tryd.func51 rfl trivial ?_ rfl
  simp only [Tryd.ntmps51, List.size_toArray, List.length_cons, List.length_nil, Nat.reduceAdd, Nat.reduceSub, Array.replicate_succ, Array.replicate_zero, List.push_toArray, List.append_toArray, List.nil_append, List.cons_append]
  gi_wp2
  go_ret
  exact ⟨rfl, rfl⟩
/-- what choices hands on -/
theorem choi_stops (n : Nat) (hn : 1 ≤ n) (Bs n₀ : Nat) (nm : ByteArray) (hnm : nm.size ≤ 16) (w : World) (hc : Boxed w Bs 9 (.string nm)) :
    SeqStopsK Fence.wide n Tryd.prog 63 #[.pointer (some ⟨Bs, 0, none⟩)] (fun x : St => #[Value.string x.1]) (StK n₀ Bs) (fun ys => ys = upto (chS nm hnm) 101) (fun pre => ∃ k, k ≤ 101 ∧ pre = upto (chS nm hnm) k) 101 w := fun l J Jx W hW _ _ hY h0 =>
  choi1_in n hn l Bs n₀ nm hnm J Jx hY W ((hW.block Bs hc.lt).trans hc) h0
end Go.Proofs.YtaibmdikimpooaaDoor
