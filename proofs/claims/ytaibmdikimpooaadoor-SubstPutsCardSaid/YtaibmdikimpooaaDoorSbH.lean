/-
  slices.Backward over a row of assignments: what it hands on, and in which order.
-/
import Derived.RangeFuncNested
import Derived.RangeFuncBound
import Derived.RangeFuncCalls
import Derived.RangeFuncLeaves
import Derived.RangeFuncBox
import Derived.RangeFuncWrites
import Derived.Shelf.Abstract
import Derived.Shelf.RegionOpen
import Derived.WalkKit
import Derived.OwnWalkIn
import Derived.TacticsInMore
import Derived.LoopNIn
import Derived.LoopIn
import Derived.Maps.OwnIn
import Derived.Test.YtaibmdikimpooaaDoorSbF
namespace Go.Proofs.YtaibmdikimpooaaDoor
open Go.RowKit Go.Shelf
attribute [local go_sem] Oper.semAt_some

/-- an assignment: a name and a term; its value; its five cells -/
abbrev As := ByteArray × Tm
def asV (x : As) : Value := .agg #[.string x.1, .int .i64 x.2.op, .string x.2.nm, .int .i64 x.2.n, .slice x.2.a x.2.ks.length x.2.c]
def Five5 (w : World) (b o : Nat) (x : As) : Prop := w.cell? ⟨b, o, none⟩ = some (.string x.1) ∧ w.cell? ⟨b, o + 1, none⟩ = some (.int .i64 x.2.op) ∧ w.cell? ⟨b, o + 1 + 1, none⟩ = some (.string x.2.nm) ∧ w.cell? ⟨b, o + 1 + 2, none⟩ = some (.int .i64 x.2.n) ∧ w.cell? ⟨b, o + 1 + 3, none⟩ = some (.slice x.2.a x.2.ks.length x.2.c)
theorem Five5.keep {n : Nat} {w w' : World} {b o : Nat} {x : As} (h : Five5 w b o x) (hb : Below n w w') (hn : b < n) : Five5 w' b o x := by
  obtain ⟨h0, h1, h2, h3, h4⟩ := h
  have k : ∀ i, w'.cell? ⟨b, i, none⟩ = w.cell? ⟨b, i, none⟩ := fun i => hb.cell (p := ⟨b, i, none⟩) hn
  exact ⟨by rw [k]; exact h0, by rw [k]; exact h1, by rw [k]; exact h2, by rw [k]; exact h3, by rw [k]; exact h4⟩
/-- what has come when k rounds are over -/
def upto {α : Type} (f : Nat → α) (k : Nat) : List α := (List.range k).map f
theorem upto_succ {α : Type} (f : Nat → α) (k : Nat) : upto f (k + 1) = upto f k ++ [f k] := by simp [upto, List.range_succ]
theorem upto_length {α : Type} (f : Nat → α) (k : Nat) : (upto f k).length = k := by simp [upto]
/-- what a round keeps: what lay below, and the box of the row -/
def SbK (n₀ Bs : Nat) (W W' : World) : Prop := Below n₀ W W' ∧ ∀ v, Boxed W Bs 31 v → Boxed W' Bs 31 v
theorem sbK_t {n₀ Bs : Nat} {A B C : World} (h : SbK n₀ Bs A B) (k : SbK n₀ Bs B C) : SbK n₀ Bs A C := ⟨h.1.trans k.1, fun v hv => k.2 v (h.2 v hv)⟩
theorem sbK_refl (n₀ Bs : Nat) (W : World) : SbK n₀ Bs W W := ⟨Below.refl _ _, fun _ h => h⟩
theorem sbK_b {n₀ Bs : Nat} {w : World} (hn : n₀ ≤ w.heap.size) (W : World) (l : Nat) (o o' : Obj) (hl : w.heap.size ≤ l) (h : W.heap[l]? = some o) (hc : o.isCells = false) (hw : o.isWalk = false) : SbK n₀ Bs W (W.putObj l o') :=
  ⟨belowK_b hn W l o o' hl h hc hw, fun v hv => boxed_own Bs 31 (fun (_ : Unit) => v) () W (W.putObj l o') (some l) hv (grownBy_putObj' W l o') (fun r e => by cases e; exact ⟨o, h, hc⟩)⟩
section
variable {P : As → Prop}
set_option maxRecDepth 100000 in
set_option maxHeartbeats 2000000 in
theorem sback1_in (F : Fence) (n : Nat) (h7 : F.fn 77) (hro : F.round = none) (hn : 1 ≤ n) (l Bs n₀ b off len cap : Nat) (f : Nat → { x : As // P x }) (hlen : len ≤ 1000000) (hb : b < n₀) (J Jx : List (Nat × { x : As // P x }) → World → Prop)
    (hY : ∀ pre x W, J pre W → pre.length < len → YieldAt F (n - 1) Tryd.prog l #[.int .i64 (x.1 : Int), asV x.2.1] W fun e W' =>
      (e = .returned (.bool true) ∧ J (pre ++ [x]) W' ∧ SbK n₀ Bs W W') ∨ (e = .returned (.bool false) ∧ Jx (pre ++ [x]) W'))
    (W : World) (hBs : Boxed W Bs 31 (.slice (some ⟨b, off, none⟩) len cap)) (hc : ∀ j, j < len → Five5 W b (off + j * 5) (f j).1) (h0 : J [] W) :
    CallsIn F n Tryd.prog 77 #[.func (.yield l) #[] #[], .pointer (some ⟨Bs, 0, none⟩)] W fun e W' => (∃ v, e = .returned v) ∧
      ((∃ ys, ys = upto (fun j => (len - 1 - j, f (len - 1 - j))) len ∧ J ys W') ∨ (∃ pre, (∃ k, k ≤ len ∧ pre = upto (fun j => (len - 1 - j, f (len - 1 - j))) k) ∧ Jx pre W')) := by
  refine callsIn_of_wp Tryd.func77 rfl h7 ?_ hro
  simp only [Tryd.ntmps77, List.size_toArray, List.length_cons, List.length_nil, Nat.reduceAdd, Nat.reduceSub, Array.replicate_succ, Array.replicate_zero, List.push_toArray, List.append_toArray, List.nil_append, List.cons_append]
  have cB := hBs.cell
  have hw0 : -9223372036854775808 ≤ (len : Int) - 1 := by omega
  have hw1 : (len : Int) - 1 ≤ 9223372036854775807 := by omega
  gi_wp2
  clear cB
  gi_loopw [3] (fun i wr => ∃ (k : Nat) (x : Int), k ≤ len ∧ i = .int .i64 x ∧ x = (len : Int) - 1 - k ∧ J (upto (fun j => (len - 1 - j, f (len - 1 - j))) k) wr ∧ SbK n₀ Bs W wr)
    (fun i _ => (intOf i + 1).toNat)
  case atStart => exact ⟨0, _, Nat.zero_le _, rfl, by omega, h0, sbK_refl _ _ _⟩
  case round =>
    obtain ⟨k, x, hk, rfl, hx, hJs, hnx⟩ := hrel
    have cB := (hnx.2 _ hBs).cell
    by_cases hlt : k < len
    · obtain ⟨m, hm, hmk⟩ : ∃ m : Nat, x = (m : Int) ∧ m + k + 1 = len := ⟨len - 1 - k, by omega, by omega⟩
      subst hm
      have hcx := (hc m (by omega)).keep hnx.1 hb
      obtain ⟨fn, tmps, assign, body, hy, hR⟩ := hY _ (m, f m) wr hJs (by rw [upto_length]; exact hlt)
      have he : upto (fun j => (len - 1 - j, f (len - 1 - j))) (k + 1) = upto (fun j => (len - 1 - j, f (len - 1 - j))) k ++ [(m, f m)] := by
        rw [upto_succ]
        have : len - 1 - k = m := by omega
        rw [this]
      rw [← he] at hR
      dsimp only at hy
      unfold asV at hy
      obtain ⟨c0, c1, c2, c3, c4⟩ := hcx
      have hm1 : (0 : Int) ≤ (m : Int) := by omega
      have hm2 : (m : Int) < (len : Int) := by omega
      have hm3 : -9223372036854775808 ≤ (m : Int) - 1 := by omega
      have hm4 : (m : Int) - 1 ≤ 9223372036854775807 := by omega
      clear hx
      generalize hz : (f m).1 = z at *
      gi_wp2
      refine hR.mono ?_
      rintro e W3 (⟨rfl, hJ3, hk3⟩ | ⟨rfl, hJx3⟩)
      · gi_wp2
        go_roundw
        case rel => exact ⟨k + 1, _, by omega, rfl, by omega, hJ3, sbK_t hnx hk3⟩
        case measure => simp [intOf]
      · gi_wp2
        refine bodyPost_ret (results_none rfl _ _ _) rfl ?_
        exact ⟨⟨_, rfl⟩, .inr ⟨_, ⟨k + 1, by omega, rfl⟩, hJx3⟩⟩
    · obtain rfl : k = len := by omega
      have hx2 : ¬ 0 ≤ x := by omega
      gi_wp2
      go_end0
      exact ⟨⟨_, rfl⟩, .inl hJs⟩
set_option maxRecDepth 100000 in
set_option maxHeartbeats 2000000 in
theorem sback0_in (F : Fence) (n : Nat) (h7 : F.fn 77) (hro : F.round = none) (l Bs : Nat) (a : Option Addr) (cap : Nat) (J : List (Nat × { x : As // P x }) → World → Prop)
    (W : World) (hBs : Boxed W Bs 31 (.slice a 0 cap)) (h0 : J [] W) :
    CallsIn F n Tryd.prog 77 #[.func (.yield l) #[] #[], .pointer (some ⟨Bs, 0, none⟩)] W fun e W' => (∃ v, e = .returned v) ∧ J [] W' := by
  refine callsIn_of_wp Tryd.func77 rfl h7 ?_ hro
  simp only [Tryd.ntmps77, List.size_toArray, List.length_cons, List.length_nil, Nat.reduceAdd, Nat.reduceSub, Array.replicate_succ, Array.replicate_zero, List.push_toArray, List.append_toArray, List.nil_append, List.cons_append]
  have cB := hBs.cell
  gi_wp2
  clear cB
  gi_loopw [3] (fun i wr => i = .int .i64 (-1) ∧ J [] wr) (fun _ _ => 0)
  case atStart => exact ⟨rfl, h0⟩
  case round =>
    obtain ⟨rfl, hJs⟩ := hrel
    gi_wp2
    go_end0
    exact ⟨⟨_, rfl⟩, hJs⟩
set_option maxHeartbeats 1000000 in
/-- slices.Backward: the row is boxed, the function captures the box -/
theorem sback_in (F : Fence) (n : Nat) (h5 : F.fn 61) (hro : F.round = none) (a : Option Addr) (len cap : Nat) (w : World) :
    CallsIn F n Tryd.prog 61 #[.slice a len cap] w fun e w' => e = .returned (.func (.func 77) #[] #[.pointer (some ⟨w.heap.size, 0, none⟩)]) ∧ w' = w.alloc (.cells #[.slice a len cap] 31) := by
  refine callsIn_of_wp Tryd.func61 rfl h5 ?_ hro
  simp only [Tryd.ntmps61, List.size_toArray, List.length_cons, List.length_nil, Nat.reduceAdd, Nat.reduceSub, Array.replicate_succ, Array.replicate_zero, List.push_toArray, List.append_toArray, List.nil_append, List.cons_append]
  gi_wp2
  go_ret
  exact ⟨rfl, rfl⟩
/-- a row of assignments that can be read -/
def SbRow (n₀ : Nat) (W : World) (sv : Value) (l : List As) : Prop := ∃ a c, sv = .slice a l.length c ∧ ∀ j (h : j < l.length), ∃ b o, a = some ⟨b, o, none⟩ ∧ b < n₀ ∧ Five5 W b (o + j * 5) l[j]
theorem SbRow.keep {n₀ : Nat} {A B : World} (hb : Below n₀ A B) {sv : Value} {l : List As} (h : SbRow n₀ A sv l) : SbRow n₀ B sv l := by
  obtain ⟨a, c, e, h⟩ := h
  refine ⟨a, c, e, fun j hj => ?_⟩
  obtain ⟨b, o, ea, hl, hf⟩ := h j hj
  exact ⟨b, o, ea, hl, hf.keep hb hl⟩
theorem back_all {β : Type} (z : β) (zs : List β) : (upto (fun j => ((zs.length - 1 - j : Nat), zs[zs.length - 1 - j]?.getD z)) zs.length).map Prod.snd = zs.reverse := by
  apply List.ext_getElem
  · simp [upto]
  · intro i h1 h2
    have hi : i < zs.length := by simpa using h2
    have hj : zs.length - 1 - i < zs.length := by omega
    simp [upto, hj]
/-- slices.Backward hands on all, from behind -/
theorem sback_stops (F : Fence) (n : Nat) (h7 : F.fn 77) (hro : F.round = none) (hn : 1 ≤ n) (Bs n₀ : Nat) (sv : Value) (zs : List { x : As // P x }) (hlen : zs.length ≤ 1000000) (w : World) (hn₀ : n₀ ≤ w.heap.size)
    (hc : Boxed w Bs 31 sv) (hI : SbRow n₀ w sv (zs.map Subtype.val)) :
    SeqStopsK F n Tryd.prog 77 #[.pointer (some ⟨Bs, 0, none⟩)] (fun x : Nat × { x : As // P x } => #[Value.int .i64 (x.1 : Int), asV x.2.1]) (SbK n₀ Bs) (fun ys => ys.map Prod.snd = zs.reverse) (fun _ => True) zs.length w := fun l J Jx W hW _ _ hY h0 => by
  have hc' : Boxed W Bs 31 sv := (hW.block Bs hc.lt).trans hc
  obtain ⟨a, c, rfl, hr⟩ := hI.keep (hW.mono hn₀)
  rw [List.length_map] at hc' hc
  cases zs with
  | nil => exact (sback0_in F n h7 hro l Bs a c J W hc' h0).mono fun e W' ⟨he, hj⟩ => ⟨he, .inl ⟨_, rfl, hj⟩⟩
  | cons z zs =>
    obtain ⟨b, o, rfl, hb, -⟩ := hr 0 (by simp)
    refine (sback1_in F n h7 hro hn l Bs n₀ b o (z :: zs).length c (fun j => (z :: zs)[j]?.getD z) hlen hb J Jx hY W hc' (fun j hj => ?_) h0).mono ?_
    · obtain ⟨b', o', e, -, hf⟩ := hr j (by simpa using hj)
      simp only [Option.some.injEq, Addr.mk.injEq, and_true] at e
      obtain ⟨rfl, rfl⟩ := e
      rw [List.getElem_map] at hf
      rw [List.getElem?_eq_getElem hj]
      exact hf
    · rintro e W' ⟨he, ⟨ys, rfl, hj⟩ | ⟨pre, -, hj⟩⟩
      · exact ⟨he, .inl ⟨_, back_all z (z :: zs), hj⟩⟩
      · exact ⟨he, .inr ⟨_, trivial, hj⟩⟩
end
end Go.Proofs.YtaibmdikimpooaaDoor
