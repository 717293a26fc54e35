/-
  What SubstValues's proof stands on, part 5: SbH, SbI, SbJ, SbK, SbL, TmK, TmL.
-/
import Derived.RangeFuncNested
import Derived.RangeFuncBound
import Derived.RangeFuncCalls
import Derived.RangeFuncLeaves
import Derived.RangeFuncBox
import Derived.RangeFuncWrites
import Derived.Shelf.Abstract
import Derived.Shelf.RegionOpen
import Derived.WalkKit
import Derived.OwnWalkIn
import Derived.TacticsInMore
import Derived.LoopNIn
import Derived.LoopIn
import Derived.Maps.OwnIn
import Derived.Test.YtdfebacjbapahaaGreatDoorSubstValuesK04
import Derived.Sort.QuietIn
import Derived.Lib.Walk
import Derived.Lib.ItoaNum
import Derived.Lib.Strings
import Derived.Lib.ItoaWalk
import Derived.Lib.LaidTab
import Derived.Lib.Hide
import Derived.Shelf.Strconv.Itoa0
import Derived.Test.YtdfebacjbapahaaGreatDoorSubstValuesK03
namespace Go.Proofs.YtdfebacjbapahaaGreatDoor
section
open Go.RowKit Go.Shelf
attribute [local go_sem] Oper.semAt_some

/-- an assignment: a name and a term; its value; its five cells -/
abbrev As := ByteArray × Tm
def asV (x : As) : Value := .agg #[.string x.1, .int .i64 x.2.op, .string x.2.nm, .int .i64 x.2.n, .slice x.2.a x.2.ks.length x.2.c]
def Five5 (w : World) (b o : Nat) (x : As) : Prop := w.cell? ⟨b, o, none⟩ = some (.string x.1) ∧ w.cell? ⟨b, o + 1, none⟩ = some (.int .i64 x.2.op) ∧ w.cell? ⟨b, o + 1 + 1, none⟩ = some (.string x.2.nm) ∧ w.cell? ⟨b, o + 1 + 2, none⟩ = some (.int .i64 x.2.n) ∧ w.cell? ⟨b, o + 1 + 3, none⟩ = some (.slice x.2.a x.2.ks.length x.2.c)
theorem Five5.keep {n : Nat} {w w' : World} {b o : Nat} {x : As} (h : Five5 w b o x) (hb : Below n w w') (hn : b < n) : Five5 w' b o x := by
  obtain ⟨h0, h1, h2, h3, h4⟩ := h
  have k : ∀ i, w'.cell? ⟨b, i, none⟩ = w.cell? ⟨b, i, none⟩ := fun i => hb.cell (p := ⟨b, i, none⟩) hn
  exact ⟨by rw [k]; exact h0, by rw [k]; exact h1, by rw [k]; exact h2, by rw [k]; exact h3, by rw [k]; exact h4⟩
/-- what has come when k rounds are over -/
def upto {α : Type} (f : Nat → α) (k : Nat) : List α := (List.range k).map f
theorem upto_succ {α : Type} (f : Nat → α) (k : Nat) : upto f (k + 1) = upto f k ++ [f k] := by simp [upto, List.range_succ]
theorem upto_length {α : Type} (f : Nat → α) (k : Nat) : (upto f k).length = k := by simp [upto]
/-- what a round keeps: what lay below, and the box of the row -/
def SbK (n₀ Bs : Nat) (W W' : World) : Prop := Below n₀ W W' ∧ ∀ v, Boxed W Bs 25 v → Boxed W' Bs 25 v
theorem sbK_t {n₀ Bs : Nat} {A B C : World} (h : SbK n₀ Bs A B) (k : SbK n₀ Bs B C) : SbK n₀ Bs A C := ⟨h.1.trans k.1, fun v hv => k.2 v (h.2 v hv)⟩
theorem sbK_refl (n₀ Bs : Nat) (W : World) : SbK n₀ Bs W W := ⟨Below.refl _ _, fun _ h => h⟩
theorem sbK_b {n₀ Bs : Nat} {w : World} (hn : n₀ ≤ w.heap.size) (W : World) (l : Nat) (o o' : Obj) (hl : w.heap.size ≤ l) (h : W.heap[l]? = some o) (hc : o.isCells = false) (hw : o.isWalk = false) : SbK n₀ Bs W (W.putObj l o') :=
  ⟨belowK_b hn W l o o' hl h hc hw, fun v hv => boxed_own Bs 25 (fun (_ : Unit) => v) () W (W.putObj l o') (some l) hv (grownBy_putObj' W l o') (fun r e => by cases e; exact ⟨o, h, hc⟩)⟩
section
variable {P : As → Prop}
set_option maxRecDepth 100000 in
set_option maxHeartbeats 2000000 in
theorem sback1_in (F : Fence) (n : Nat) (h7 : F.fn 66) (hro : F.round = none) (hn : 1 ≤ n) (l Bs n₀ b off len cap : Nat) (f : Nat → { x : As // P x }) (hlen : len ≤ 1000000) (hb : b < n₀) (J Jx : List (Nat × { x : As // P x }) → World → Prop)
    (hY : ∀ pre x W, J pre W → pre.length < len → YieldAt F (n - 1) Tryz.prog l #[.int .i64 (x.1 : Int), asV x.2.1] W fun e W' =>
      (e = .returned (.bool true) ∧ J (pre ++ [x]) W' ∧ SbK n₀ Bs W W') ∨ (e = .returned (.bool false) ∧ Jx (pre ++ [x]) W'))
    (W : World) (hBs : Boxed W Bs 25 (.slice (some ⟨b, off, none⟩) len cap)) (hc : ∀ j, j < len → Five5 W b (off + j * 5) (f j).1) (h0 : J [] W) :
    CallsIn F n Tryz.prog 66 #[.func (.yield l) #[] #[], .pointer (some ⟨Bs, 0, none⟩)] W fun e W' => (∃ v, e = .returned v) ∧
      ((∃ ys, ys = upto (fun j => (len - 1 - j, f (len - 1 - j))) len ∧ J ys W') ∨ (∃ pre, (∃ k, k ≤ len ∧ pre = upto (fun j => (len - 1 - j, f (len - 1 - j))) k) ∧ Jx pre W')) := by
  refine callsIn_of_wp Tryz.func66 rfl h7 ?_ hro
  simp only [Tryz.ntmps66, List.size_toArray, List.length_cons, List.length_nil, Nat.reduceAdd, Nat.reduceSub, Array.replicate_succ, Array.replicate_zero, List.push_toArray, List.append_toArray, List.nil_append, List.cons_append]
  have cB := hBs.cell
  have hw0 : -9223372036854775808 ≤ (len : Int) - 1 := by omega
  have hw1 : (len : Int) - 1 ≤ 9223372036854775807 := by omega
  gi_wp2
  clear cB
  gi_loopw [3] (fun i wr => ∃ (k : Nat) (x : Int), k ≤ len ∧ i = .int .i64 x ∧ x = (len : Int) - 1 - k ∧ J (upto (fun j => (len - 1 - j, f (len - 1 - j))) k) wr ∧ SbK n₀ Bs W wr)
    (fun i _ => (intOf i + 1).toNat)
  case atStart => exact ⟨0, _, Nat.zero_le _, rfl, by omega, h0, sbK_refl _ _ _⟩
  case round =>
    obtain ⟨k, x, hk, rfl, hx, hJs, hnx⟩ := hrel
    have cB := (hnx.2 _ hBs).cell
    by_cases hlt : k < len
    · obtain ⟨m, hm, hmk⟩ : ∃ m : Nat, x = (m : Int) ∧ m + k + 1 = len := ⟨len - 1 - k, by omega, by omega⟩
      subst hm
      have hcx := (hc m (by omega)).keep hnx.1 hb
      obtain ⟨fn, tmps, assign, body, hy, hR⟩ := hY _ (m, f m) wr hJs (by rw [upto_length]; exact hlt)
      have he : upto (fun j => (len - 1 - j, f (len - 1 - j))) (k + 1) = upto (fun j => (len - 1 - j, f (len - 1 - j))) k ++ [(m, f m)] := by
        rw [upto_succ]
        have : len - 1 - k = m := by omega
        rw [this]
      rw [← he] at hR
      dsimp only at hy
      unfold asV at hy
      obtain ⟨c0, c1, c2, c3, c4⟩ := hcx
      have hm1 : (0 : Int) ≤ (m : Int) := by omega
      have hm2 : (m : Int) < (len : Int) := by omega
      have hm3 : -9223372036854775808 ≤ (m : Int) - 1 := by omega
      have hm4 : (m : Int) - 1 ≤ 9223372036854775807 := by omega
      clear hx
      generalize hz : (f m).1 = z at *
      gi_wp2
      refine hR.mono ?_
      rintro e W3 (⟨rfl, hJ3, hk3⟩ | ⟨rfl, hJx3⟩)
      · gi_wp2
        go_roundw
        case rel => exact ⟨k + 1, _, by omega, rfl, by omega, hJ3, sbK_t hnx hk3⟩
        case measure => simp [intOf]
      · gi_wp2
        refine bodyPost_ret (results_none rfl _ _ _) rfl ?_
        exact ⟨⟨_, rfl⟩, .inr ⟨_, ⟨k + 1, by omega, rfl⟩, hJx3⟩⟩
    · obtain rfl : k = len := by omega
      have hx2 : ¬ 0 ≤ x := by omega
      gi_wp2
      go_end0
      exact ⟨⟨_, rfl⟩, .inl hJs⟩
set_option maxRecDepth 100000 in
set_option maxHeartbeats 2000000 in
theorem sback0_in (F : Fence) (n : Nat) (h7 : F.fn 66) (hro : F.round = none) (l Bs : Nat) (a : Option Addr) (cap : Nat) (J : List (Nat × { x : As // P x }) → World → Prop)
    (W : World) (hBs : Boxed W Bs 25 (.slice a 0 cap)) (h0 : J [] W) :
    CallsIn F n Tryz.prog 66 #[.func (.yield l) #[] #[], .pointer (some ⟨Bs, 0, none⟩)] W fun e W' => (∃ v, e = .returned v) ∧ J [] W' := by
  refine callsIn_of_wp Tryz.func66 rfl h7 ?_ hro
  simp only [Tryz.ntmps66, List.size_toArray, List.length_cons, List.length_nil, Nat.reduceAdd, Nat.reduceSub, Array.replicate_succ, Array.replicate_zero, List.push_toArray, List.append_toArray, List.nil_append, List.cons_append]
  have cB := hBs.cell
  gi_wp2
  clear cB
  gi_loopw [3] (fun i wr => i = .int .i64 (-1) ∧ J [] wr) (fun _ _ => 0)
  case atStart => exact ⟨rfl, h0⟩
  case round =>
    obtain ⟨rfl, hJs⟩ := hrel
    gi_wp2
    go_end0
    exact ⟨⟨_, rfl⟩, hJs⟩
set_option maxHeartbeats 1000000 in
/-- slices.Backward: the row is boxed, the function captures the box -/
theorem sback_in (F : Fence) (n : Nat) (h5 : F.fn 44) (hro : F.round = none) (a : Option Addr) (len cap : Nat) (w : World) :
    CallsIn F n Tryz.prog 44 #[.slice a len cap] w fun e w' => e = .returned (.func (.func 66) #[] #[.pointer (some ⟨w.heap.size, 0, none⟩)]) ∧ w' = w.alloc (.cells #[.slice a len cap] 25) := by
  refine callsIn_of_wp Tryz.func44 rfl h5 ?_ hro
  simp only [Tryz.ntmps44, List.size_toArray, List.length_cons, List.length_nil, Nat.reduceAdd, Nat.reduceSub, Array.replicate_succ, Array.replicate_zero, List.push_toArray, List.append_toArray, List.nil_append, List.cons_append]
  gi_wp2
  go_ret
  exact ⟨rfl, rfl⟩
/-- a row of assignments that can be read -/
def SbRow (n₀ : Nat) (W : World) (sv : Value) (l : List As) : Prop := ∃ a c, sv = .slice a l.length c ∧ ∀ j (h : j < l.length), ∃ b o, a = some ⟨b, o, none⟩ ∧ b < n₀ ∧ Five5 W b (o + j * 5) l[j]
theorem SbRow.keep {n₀ : Nat} {A B : World} (hb : Below n₀ A B) {sv : Value} {l : List As} (h : SbRow n₀ A sv l) : SbRow n₀ B sv l := by
  obtain ⟨a, c, e, h⟩ := h
  refine ⟨a, c, e, fun j hj => ?_⟩
  obtain ⟨b, o, ea, hl, hf⟩ := h j hj
  exact ⟨b, o, ea, hl, hf.keep hb hl⟩
theorem back_all {β : Type} (z : β) (zs : List β) : (upto (fun j => ((zs.length - 1 - j : Nat), zs[zs.length - 1 - j]?.getD z)) zs.length).map Prod.snd = zs.reverse := by
  apply List.ext_getElem
  · simp [upto]
  · intro i h1 h2
    have hi : i < zs.length := by simpa using h2
    have hj : zs.length - 1 - i < zs.length := by omega
    simp [upto, hj]
/-- slices.Backward hands on all, from behind -/
theorem sback_stops (F : Fence) (n : Nat) (h7 : F.fn 66) (hro : F.round = none) (hn : 1 ≤ n) (Bs n₀ : Nat) (sv : Value) (zs : List { x : As // P x }) (hlen : zs.length ≤ 1000000) (w : World) (hn₀ : n₀ ≤ w.heap.size)
    (hc : Boxed w Bs 25 sv) (hI : SbRow n₀ w sv (zs.map Subtype.val)) :
    SeqStopsK F n Tryz.prog 66 #[.pointer (some ⟨Bs, 0, none⟩)] (fun x : Nat × { x : As // P x } => #[Value.int .i64 (x.1 : Int), asV x.2.1]) (SbK n₀ Bs) (fun ys => ys.map Prod.snd = zs.reverse) (fun _ => True) zs.length w := fun l J Jx W hW _ _ hY h0 => by
  have hc' : Boxed W Bs 25 sv := (hW.block Bs hc.lt).trans hc
  obtain ⟨a, c, rfl, hr⟩ := hI.keep (hW.mono hn₀)
  rw [List.length_map] at hc' hc
  cases zs with
  | nil => exact (sback0_in F n h7 hro l Bs a c J W hc' h0).mono fun e W' ⟨he, hj⟩ => ⟨he, .inl ⟨_, rfl, hj⟩⟩
  | cons z zs =>
    obtain ⟨b, o, rfl, hb, -⟩ := hr 0 (by simp)
    refine (sback1_in F n h7 hro hn l Bs n₀ b o (z :: zs).length c (fun j => (z :: zs)[j]?.getD z) hlen hb J Jx hY W hc' (fun j hj => ?_) h0).mono ?_
    · obtain ⟨b', o', e, -, hf⟩ := hr j (by simpa using hj)
      simp only [Option.some.injEq, Addr.mk.injEq, and_true] at e
      obtain ⟨rfl, rfl⟩ := e
      rw [List.getElem_map] at hf
      rw [List.getElem?_eq_getElem hj]
      exact hf
    · rintro e W' ⟨he, ⟨ys, rfl, hj⟩ | ⟨pre, -, hj⟩⟩
      · exact ⟨he, .inl ⟨_, back_all z (z :: zs), hj⟩⟩
      · exact ⟨he, .inr ⟨_, trivial, hj⟩⟩
end
end
section
open Go.RowKit Go.Shelf
attribute [local go_sem] Oper.semAt_some

/-- what is put at a name of a sort, gathered in order; the last error -/
def putT (F : ByteArray → Int → Option Tm) (x : As) : ByteArray → Int → Option Tm := fun n s => if n = x.1 ∧ s = (srtR x.2 : Int) then some x.2 else F n s
def gF (l : List As) : ByteArray → Int → Option Tm := l.foldl (fun F x => if errR x.2 = 0 then putT F x else F) (fun _ _ => none)
def gE (l : List As) : Nat := l.foldl (fun e x => if errR x.2 = 0 then e else errR x.2) 0
theorem gF_snoc (l : List As) (x : As) : gF (l ++ [x]) = if errR x.2 = 0 then putT (gF l) x else gF l := by simp [gF]
theorem gE_snoc (l : List As) (x : As) : gE (l ++ [x]) = if errR x.2 = 0 then gE l else errR x.2 := by simp [gE]
theorem gF_val (l : List As) (x : As) (h : errR x.2 = 0) : (fun nm s => (gF (l ++ [x]) nm s).map Tm.val) = putF (fun nm s => (gF l nm s).map Tm.val) x.1 (srtR x.2 : Int) x.2.val := by
  funext nm s
  rw [gF_snoc, if_pos h]
  unfold putT putF
  split <;> rfl
/-- five cells in a box -/
def Box5 (W : World) (B : Nat) (x : As) : Prop := W.heap[B]? = some (.cells #[.string x.1, .int .i64 x.2.op, .string x.2.nm, .int .i64 x.2.n, .slice x.2.a x.2.ks.length x.2.c] 41 (0, 0))
theorem Box5.new (W : World) (x : As) : Box5 (W.alloc (.cells #[.string x.1, .int .i64 x.2.op, .string x.2.nm, .int .i64 x.2.n, .slice x.2.a x.2.ks.length x.2.c] 41)) W.heap.size x := World.alloc_heap_new W _
theorem Box5.cells {W : World} {B : Nat} {x : As} (h : Box5 W B x) : W.cell? ⟨B, 0, none⟩ = some (.string x.1) ∧ W.cell? ⟨B, 1, none⟩ = some (.int .i64 x.2.op) ∧ W.cell? ⟨B, 2, none⟩ = some (.string x.2.nm) ∧ W.cell? ⟨B, 3, none⟩ = some (.int .i64 x.2.n) ∧ W.cell? ⟨B, 4, none⟩ = some (.slice x.2.a x.2.ks.length x.2.c) := by
  refine ⟨?_, ?_, ?_, ?_, ?_⟩ <;> simp [World.cell?, show W.heap[B]? = _ from h]
theorem Box5.later {W W' : World} {B : Nat} {x : As} (h : Box5 W B x) (hb : Below W.heap.size W W') : Box5 W' B x := (hb.block B (Array.getElem?_eq_some_iff.1 h).1).trans h
theorem box5_own (B : Nat) (x : As) : Own (fun (_ : Unit) W => Box5 W B x) := fun s X Y row hs hg hr => by
  refine (hg.block B (Array.getElem?_eq_some_iff.1 hs).1 (fun e => ?_)).trans hs
  obtain ⟨o, ho, hc⟩ := hr B e.symm
  have hs' : X.heap[B]? = _ := hs
  rw [ho] at hs'
  cases hs'
  cases hc
theorem boxed_later {W W' : World} {B : Nat} {t : TypeId} {v : Value} (h : Boxed W B t v) (hb : Below W.heap.size W W') : Boxed W' B t v := (hb.block B h.lt).trans h
theorem PMap.kept {W W' : World} {b n : Nat} {f : ByteArray → Int → Option Value} {row : Option Nat} (h : PMap W b n f) (hg : W.grownBy W' row) (hne : some b ≠ row) : PMap W' b n f := by
  obtain ⟨D, hD, hf⟩ := h
  exact ⟨D, hD.kept hg (fun e => hne e), hf⟩
/-- the terms of a row of assignments are right to be read -/
def AsIn (w : World) (x : As) : Prop := TIn w w.heap.size x.2 ∧ x.1.size ≤ maxLen
/-- what gather answers -/
def SGatP (l : List As) (w : World) (e : Ending) (w' : World) : Prop := ∃ n, e = .returned (.tuple #[.map (some w.heap.size), .int .i64 (gE l.reverse : Int)]) ∧ PMap w' w.heap.size n (fun nm s => (gF l.reverse nm s).map Tm.val) ∧ Below w.heap.size w w'
set_option maxRecDepth 100000 in
set_option maxHeartbeats 4000000 in
theorem sgather_any (l : List As) (sv : Value) (w : World) (hI : SbRow w.heap.size w sv l) (hl : l.length ≤ 1000000) (hin : ∀ x ∈ l, AsIn w x) (hS : Shps w) : Calls Tryz.prog 27 #[sv] w (SGatP l w) := by
  obtain ⟨zs, rfl⟩ : ∃ zs : List { x : As // AsIn w x }, zs.map Subtype.val = l := ⟨l.attach.map (fun x => ⟨x.1, hin x.1 x.2⟩), by rw [List.map_map]; exact List.attach_map_subtype_val l⟩
  rw [List.length_map] at hl
  obtain ⟨a, c, e, hrow⟩ := id hI
  rw [List.length_map] at e
  subst e
  clear hrow hin
  have HS := mkHid hS
  have HI := mkHid hI
  have HLEN := mkHid hl
  clear hS hI hl
  refine (callsIn_wide (n := 20)).1 ?_
  have hmm := @run_makeMap Tryz.prog
  refine callsIn_of_wp_marks Tryz.func27 rfl trivial ?_ rfl
  simp only [Tryz.ntmps27, List.size_toArray, List.length_cons, List.length_nil, Nat.reduceAdd, Nat.reduceSub, Array.replicate_succ, Array.replicate_zero, List.push_toArray, List.append_toArray, List.nil_append, List.cons_append]
  gi_wp2_with (refine ⟨trivial, ?_⟩; gi_at_call 44; refine (sback_in Fence.wide _ trivial rfl _ _ _ _).mono ?_; rintro e w' ⟨rfl, rfl⟩)
  clear hmm
  have hP0 := PMap.made w
  have bM := ((Boxed.new (w.alloc (.map #[] 0)) 65 (.map (some w.heap.size))).alloc (.cells #[.int .i64 0] 37)).alloc (.cells #[.slice a zs.length c] 25)
  have bE := (Boxed.new ((w.alloc (.map #[] 0)).alloc (.cells #[.map (some w.heap.size)] 65)) 37 (.int .i64 0)).alloc (.cells #[.slice a zs.length c] 25)
  have bS := Boxed.new (((w.alloc (.map #[] 0)).alloc (.cells #[.map (some w.heap.size)] 65)).alloc (.cells #[.int .i64 0] 37)) 25 (.slice a zs.length c)
  simp only [World.size_alloc] at bM bE bS
  have hB0 : Below w.heap.size w ((((w.alloc (.map #[] 0)).alloc (.cells #[.map (some w.heap.size)] 65)).alloc (.cells #[.int .i64 0] 37)).alloc (.cells #[.slice a zs.length c] 25)) := bal (bal (bal (bal (Below.refl _ _) _) _) _) _
  have hP1 : PMap ((((w.alloc (.map #[] 0)).alloc (.cells #[.map (some w.heap.size)] 65)).alloc (.cells #[.int .i64 0] 37)).alloc (.cells #[.slice a zs.length c] 25)) w.heap.size 0 (fun _ _ => none) := hP0.later (bal (bal (bal (Below.refl _ _) _) _) _)
  have hsz : ((((w.alloc (.map #[] 0)).alloc (.cells #[.map (some w.heap.size)] 65)).alloc (.cells #[.int .i64 0] 37)).alloc (.cells #[.slice a zs.length c] 25)).heap.size = w.heap.size + 4 := by simp
  obtain ⟨W0, hW0⟩ : ∃ W0, ((((w.alloc (.map #[] 0)).alloc (.cells #[.map (some w.heap.size)] 65)).alloc (.cells #[.int .i64 0] 37)).alloc (.cells #[.slice a zs.length c] 25)) = W0 := ⟨_, rfl⟩
  rw [hW0] at bM bE bS hB0 hP1 hsz ⊢
  clear hW0 hP0
  refine wpIn_rangeFunc_ownH rfl (by omega) (gf := 66) (lb := #[.pointer (some ⟨w.heap.size + 1 + 1 + 1, 0, none⟩)]) rfl trivial (enters_of Tryz.func66 (by kernel_rfl) rfl)
    (sback_stops Fence.wide _ trivial rfl (by omega) (w.heap.size + 1 + 1 + 1) w.heap.size _ zs HLEN.out W0 (by omega) bS (HI.out.keep hB0)) sbK_t (sbK_b (by omega)) (Below.refl _ _) (fun _ => rfl)
    (fun pre W => ((Boxed W (w.heap.size + 1) 65 (.map (some w.heap.size)) ∧ Boxed W (w.heap.size + 1 + 1) 37 (.int .i64 (gE (pre.map (fun x => x.2.1)) : Int))) ∧ ∃ cnt, cnt ≤ pre.length ∧ PMap W w.heap.size cnt (fun nm s => (gF (pre.map (fun x => x.2.1)) nm s).map Tm.val)) ∧ Below w.heap.size w W)
    (fun _ _ _ => False)
    (OwnFrom.and (OwnFrom.and (OwnFrom.and (Own.from (boxed_own _ _ (fun _ => _)) _) (Own.from (boxed_own _ _ _) _)) (fun s A B row hs hg hr => by obtain ⟨cnt, h1, h2⟩ := hs; exact ⟨cnt, h1, h2.kept hg (fun e => by have := (hr _ e.symm).1; omega)⟩)) (ownFrom_below (Nat.le_refl _) (by omega)))
    (fun _ _ _ _ _ hs _ _ => hs)
    ⟨⟨⟨bM, bE⟩, 0, Nat.le_refl _, hP1⟩, hB0⟩
    (fun x a' W => ∃ Bx, w.heap.size + 1 + 1 < Bx ∧ Box5 W Bx x.2.1 ∧ a' = { tmps := #[.slice a zs.length c, undef, .map none, .int .i64 0, .pointer (some ⟨w.heap.size + 1, 0, none⟩), .pointer (some ⟨w.heap.size + 1 + 1, 0, none⟩), undef, .pointer (some ⟨Bx, 0, none⟩), undef, undef, .map (some w.heap.size), .slice a zs.length c, .func (.func 66) #[] #[.pointer (some ⟨w.heap.size + 1 + 1 + 1, 0, none⟩)], .int .i64 (x.1 : Int), asV x.2.1, undef, undef, undef, undef, undef, undef, undef, undef, undef, undef, undef, undef, undef, undef, undef, undef, undef, undef], defers := [] })
    (fun x a' _ X Y row hs hg hr => by obtain ⟨Bx, h1, h2, h3⟩ := hs; exact ⟨Bx, h1, box5_own Bx x.2.1 () X Y row h2 hg (fun r e => (hr r e).2), h3⟩)
    ?assign ?body ?done ?stop
  case assign =>
    rintro l pre x W K ⟨⟨⟨bM1, bE1⟩, cnt, hcnt, hP⟩, hB1⟩ hK
    have hle := hB1.size
    unfold asV at hK ⊢
    gi_wp2
    exact hK _ _ ((KeepsOthers.alloc _ _).from _) ⟨(Below.refl _ W).alloc hle _, fun v hv => hv.alloc _⟩ ⟨⟨⟨bM1.alloc _, bE1.alloc _⟩, cnt, hcnt, hP.later (bel_alloc W _)⟩, hB1.alloc hle _⟩ ⟨W.heap.size, bE1.lt, Box5.new W _, rfl⟩
  case body =>
    rintro l pre ⟨i, z, hz⟩ a' W hl ⟨r, hr⟩ ⟨⟨⟨bM1, bE1⟩, cnt, hcnt, hP⟩, hB1⟩ ⟨Bx, hBx, bX, rfl⟩ hlt
    dsimp only at bX ⊢
    obtain ⟨hz1, hz2⟩ := id hz
    have ST := mkHid (sort_any z.2 W (hz1.later hB1) (HS.out.later hB1))
    obtain ⟨x0, x1, x2, x3, x4⟩ := bX.cells
    have hle := hB1.size
    have hd : 1 ≤ 20 - 1 - 1 := by omega
    have HL : Hid (((pre ++ [(i, (⟨z, hz⟩ : { x : As // AsIn w x }))]).map (fun x => x.2.1)) = pre.map (fun x => x.2.1) ++ [z]) := by
      show _ = _
      rw [List.map_append]; rfl
    unfold asV
    unfold Tm.val at ST
    have HLT := mkHid hlt
    have HCN := mkHid hcnt
    have hcm : cnt < maxLen := by have := HLEN.out; unfold maxLen; omega
    clear hlt hcnt
    by_cases he : errR z.2 = 0
    · rw [he] at ST
      obtain ⟨kl, hkl⟩ := tgt_key z.1 (srtR z.2 : Int) hz2 (by
        have h1 := srt_le z.2
        have h2 : srtR z.2 ≤ 4 := by unfold srtR; split <;> omega
        rw [fitB_iff]; omega)
      gi_wp2_with (first
        | (refine ⟨trivial, ?_⟩; gi_at_call 16; refine (CallsIn.inRound l (callsIn_wide.2 ST.out)).mono ?_; rintro e w8 ⟨rfl, hb8⟩; obtain ⟨D, hD, hf⟩ := hP.later hb8; have bM8 := boxed_later bM1 hb8; have bE8 := boxed_later bE1 hb8; have bX8 := bX.later hb8; obtain ⟨y0, y1, y2, y3, y4⟩ := bX8.cells; have cM8 := bM8.cell)
        | (gi_at_mapUpdate; refine wpListIn_mapUpdate_own _ rfl _ _ _ 65 rfl 89 24 tgt_keyed Tryz.underlying65 RV w.heap.size cnt D rfl hD hcm _ _ kl rfl rfl hkl _ [] rfl ?_; intro w1 hown1 hgrow1))
      have hk8 : KeepsOthers W w8 := ⟨hb8.size, fun k o hk _ => (hb8.block k (Array.getElem?_eq_some_iff.1 hk).1).trans hk⟩
      have hB8 : Below w.heap.size w w8 := hB1.trans (hb8.mono hle)
      have hI2 : ((Boxed w1 (w.heap.size + 1) 65 (.map (some w.heap.size)) ∧ Boxed w1 (w.heap.size + 1 + 1) 37 (.int .i64 (gE ((pre ++ [(i, (⟨z, hz⟩ : { x : As // AsIn w x }))]).map (fun x => x.2.1)) : Int))) ∧ ∃ cnt, cnt ≤ (pre ++ [(i, (⟨z, hz⟩ : { x : As // AsIn w x }))]).length ∧ PMap w1 w.heap.size cnt (fun nm s => (gF ((pre ++ [(i, (⟨z, hz⟩ : { x : As // AsIn w x }))]).map (fun x => x.2.1)) nm s).map Tm.val)) ∧ Below w.heap.size w w1 := by
        rw [HL.out]
        refine ⟨⟨⟨bM8.kept hgrow1 (by simp), ?_⟩, cnt + 1, ?_, ?_⟩, hB8.grown hgrow1 hB8.size (fun k e => by cases e; exact Nat.le_refl _)⟩
        · rw [gE_snoc, if_pos he]; exact bE8.kept hgrow1 (by simp; omega)
        · have := HCN.out; simp only [List.length_append, List.length_singleton]; omega
        · rw [gF_val _ _ he]; exact PMap.put hD.isMap hf hkl hown1
      exact ⟨(hk8.from _).trans (KeepsFrom.of_grownBy hgrow1 (fun j e => by cases e; omega)), ⟨(hb8.mono hle).grown hgrow1 hB8.size (fun k e => by cases e; exact Nat.le_refl _), fun v hv => (boxed_later hv hb8).kept hgrow1 (by simp; omega)⟩, hI2⟩
    · have hne : ((errR z.2 : Int) != 0) = true := by rw [bne_iff_ne]; omega
      gi_wp2_with (refine ⟨trivial, ?_⟩; gi_at_call 16; refine (CallsIn.inRound l (callsIn_wide.2 ST.out)).mono ?_; rintro e w8 ⟨rfl, hb8⟩; have bM8 := boxed_later bM1 hb8; have bE8 := boxed_later bE1 hb8; have cE8 := bE8.cell; have fE8 := bE8.frozen)
      have hk8 : KeepsOthers W w8 := ⟨hb8.size, fun k o hk _ => (hb8.block k (Array.getElem?_eq_some_iff.1 hk).1).trans hk⟩
      have hB8 : Below w.heap.size w w8 := hB1.trans (hb8.mono hle)
      have hP8 := hP.later hb8
      have hI2 : ((Boxed (w8.setCell ⟨w.heap.size + 1 + 1, 0, none⟩ (.int .i64 (errR z.2 : Int))) (w.heap.size + 1) 65 (.map (some w.heap.size)) ∧ Boxed (w8.setCell ⟨w.heap.size + 1 + 1, 0, none⟩ (.int .i64 (errR z.2 : Int))) (w.heap.size + 1 + 1) 37 (.int .i64 (gE ((pre ++ [(i, (⟨z, hz⟩ : { x : As // AsIn w x }))]).map (fun x => x.2.1)) : Int))) ∧ ∃ cnt, cnt ≤ (pre ++ [(i, (⟨z, hz⟩ : { x : As // AsIn w x }))]).length ∧ PMap (w8.setCell ⟨w.heap.size + 1 + 1, 0, none⟩ (.int .i64 (errR z.2 : Int))) w.heap.size cnt (fun nm s => (gF ((pre ++ [(i, (⟨z, hz⟩ : { x : As // AsIn w x }))]).map (fun x => x.2.1)) nm s).map Tm.val)) ∧ Below w.heap.size w (w8.setCell ⟨w.heap.size + 1 + 1, 0, none⟩ (.int .i64 (errR z.2 : Int))) := by
        rw [HL.out]
        refine ⟨⟨⟨bM8.other (by omega) _, ?_⟩, cnt, ?_, ?_⟩, hB8.setCell (by show w.heap.size ≤ w.heap.size + 1 + 1; omega) _⟩
        · rw [gE_snoc, if_neg he]; exact bE8.set _
        · have := HCN.out; simp only [List.length_append, List.length_singleton]; omega
        · rw [gF_snoc, if_neg he]; exact hP8.kept (grownBy_setCell' w8 (w.heap.size + 1 + 1) _) (by simp; omega)
      exact ⟨(hk8.from _).trans ((KeepsOthers.setCell _ _ _).from _), ⟨(hb8.mono hle).setCell (by show w.heap.size ≤ w.heap.size + 1 + 1; omega) _, fun v hv => (boxed_later hv hb8).other (by omega) _⟩, hI2⟩
  case done =>
    rintro D ys W hD hys ⟨⟨⟨bM1, bE1⟩, cnt, hcnt, hP⟩, hB1⟩ hK
    have cM1 := bM1.cell
    have cE1 := bE1.cell
    gi_wp2
    gi_quiet (fail)
    gi_wp2
    have hbd : Below W.heap.size W (W.drewN nq) := below_drewN (Below.refl _ _) nq
    have hKd : (W.drewN nq).heap[D]? = some (.deferred (some [])) := (hbd.block D (Array.getElem?_eq_some_iff.1 hK).1).trans hK
    have hys2 : ys.map (fun x => x.2.1) = (zs.map Subtype.val).reverse := by
      have h1 := congrArg (List.map Subtype.val) hys
      rw [List.map_map, List.map_reverse] at h1
      exact h1
    have hPd := (hP.later hbd).kept (grownBy_putObj' (W.drewN nq) D (.deferred none)) (by simp; omega)
    rw [hys2] at hPd
    refine ⟨by simp, .inl ⟨_, _, rfl, run_takeDeferred hKd, ?_⟩⟩
    refine ⟨.tuple #[.map (some w.heap.size), .int .i64 (gE (ys.map (fun x => x.2.1)) : Int)], by simp [results, Tryz.results27, go_sem], cnt, by rw [hys2], hPd, ?_⟩
    exact (hB1.trans (hbd.mono hB1.size)).trans (belowK_b (w := w) (Nat.le_refl _) (W.drewN nq) D _ _ (by omega) hKd rfl rfl)
  case stop =>
    rintro D c pre W _ _ h _
    exact h.elim
end
section
open Go.RowKit

/-- no term -/
def zT : Tm := .node 0 ⟨#[]⟩ 0 none 0 []
theorem zT_in (w : World) (B : Nat) : TIn w B zT := .mk _ (by decide) (by decide) (by decide) (by decide) (by simp [zT, Tm.c]) (fun j h => by simp [zT, Tm.ks] at h) (fun k hk => by simp [zT, Tm.ks] at hk)
/-- what Put answers: the term, the error -/
def putO (t : Tm) (l : List As) : Tm × Nat :=
  if errR t ≠ 0 then (zT, errR t) else if gE l.reverse ≠ 0 then (zT, gE l.reverse) else if errR (rp (gF l.reverse) t) ≠ 0 then (zT, errR (rp (gF l.reverse) t)) else (rp (gF l.reverse) t, 0)
def SPutP (t : Tm) (l : List As) (w : World) (e : Ending) (w' : World) : Prop := ∃ x : Tm, e = .returned (.tuple #[x.val, .int .i64 ((putO t l).2 : Int)]) ∧ x.er = (putO t l).1 ∧ TIn w' w'.heap.size x ∧ Below w.heap.size w w'
theorem gF_from {nm : ByteArray} {s : Int} {x : Tm} : ∀ (l : List As) (F0 : ByteArray → Int → Option Tm), (l.foldl (fun F x => if errR x.2 = 0 then putT F x else F) F0) nm s = some x → F0 nm s = some x ∨ ∃ y ∈ l, y.2 = x ∧ errR x = 0 ∧ y.1 = nm ∧ s = (srtR x : Int)
  | [], F0, h => .inl h
  | y :: l, F0, h => by
    rw [List.foldl_cons] at h
    rcases gF_from l _ h with h | ⟨z, hz, r⟩
    · split at h
      · rename_i he
        unfold putT at h
        split at h
        · rename_i hh
          cases h
          exact .inr ⟨y, by simp, rfl, he, hh.1.symm, hh.2⟩
        · exact .inl h
      · exact .inl h
    · exact .inr ⟨z, by simp [hz], r⟩
theorem gF_mem {nm : ByteArray} {s : Int} {x : Tm} (l : List As) (h : gF l nm s = some x) : ∃ y ∈ l, y.2 = x ∧ errR x = 0 ∧ y.1 = nm ∧ s = (srtR x : Int) := by
  rcases gF_from l _ h with h | h
  · cases h
  · exact h
theorem errR_fine {t : Tm} (h : errR t = 0) : t.size ≤ 2000 ∧ t.deep ≤ 100 ∧ t.srt ≠ 0 ∧ srtR t = t.srt := by
  unfold errR at h
  split at h
  · cases h
  · rename_i hf
    split at h
    · cases h
    · rename_i hs
      unfold srtR
      rw [if_neg hf]
      unfold fullB at hf
      simp only [Bool.or_eq_true, decide_eq_true_eq, not_or] at hf
      refine ⟨by omega, by omega, hs, rfl⟩
theorem SbRow.later {w w' : World} {sv : Value} {l : List As} (h : SbRow w.heap.size w sv l) (hb : Below w.heap.size w w') : SbRow w'.heap.size w' sv l := by
  obtain ⟨a, c, e, h⟩ := h
  refine ⟨a, c, e, fun j hj => ?_⟩
  obtain ⟨b, o, ea, hl, hf⟩ := h j hj
  exact ⟨b, o, ea, Nat.lt_of_lt_of_le hl hb.size, hf.keep hb hl⟩
theorem AsIn.later {w w' : World} {x : As} (h : AsIn w x) (hb : Below w.heap.size w w') : AsIn w' x := ⟨h.1.later hb, h.2⟩
/-- what is told of an error -/
theorem SPutP.err {t : Tm} {l : List As} {w w' : World} {er : Nat} (h : putO t l = (zT, er)) (hb : Below w.heap.size w w') : SPutP t l w (.returned (.tuple #[.agg #[.int .i64 0, .string ⟨#[]⟩, .int .i64 0, .slice none 0 0], .int .i64 (er : Int)])) w' :=
  ⟨zT, by rw [h]; rfl, by rw [h]; rfl, zT_in _ _, hb⟩
/-- the world in which Put begins -/
def putW (t : Tm) (w : World) : World := (w.alloc (boxT t)).alloc (.cells #[.int .i64 0, .string ⟨#[]⟩, .int .i64 0, .slice none 0 0] 24)
set_option maxRecDepth 100000 in
set_option maxHeartbeats 4000000 in
theorem sput_any (t : Tm) (l : List As) (sv : Value) (w : World) (hin : TIn w w.heap.size t) (hI : SbRow w.heap.size w sv l) (hl : l.length ≤ 1000000) (hli : ∀ x ∈ l, AsIn w x) (hS : Shps w) : Calls Tryz.prog 11 #[t.val, sv] w (SPutP t l w) := by
  have hb2 : Below w.heap.size w (putW t w) := bal (bal (Below.refl _ _) _) _
  have F2 : Four (putW t w) w.heap.size 0 t := (box_four w t).later (bel_alloc _ _)
  have ST := mkHid (sort_any t (putW t w) (hin.later hb2) (hS.later hb2))
  have FR : FourV' (putW t w) (w.heap.size + 1) (.int .i64 0) (.string ⟨#[]⟩) (.int .i64 0) (.slice none 0 0) := by simp [FourV', putW, boxT, go_sem]
  have hW2 : (w.alloc (.cells #[.int .i64 t.op, .string t.nm, .int .i64 t.n, .slice t.a t.ks.length t.c] 24)).alloc (.cells #[.int .i64 0, .string ⟨#[]⟩, .int .i64 0, .slice none 0 0] 24) = putW t w := rfl
  have hX2 : (putW t w).heap.size = w.heap.size + 1 + 1 := by simp [putW]
  have HB2 := mkHid hb2
  have HIN := mkHid (hin.later hb2)
  have HS := mkHid (hS.later hb2)
  have HROW := mkHid (hI.later hb2)
  have HLI : Hid (∀ x ∈ l, AsIn (putW t w) x) := fun x hx => (hli x hx).later hb2
  have HLL := mkHid hl
  have HX2 := mkHid hX2
  clear hin hI hli hS hl hb2 hX2
  generalize putW t w = W2 at *
  have HF2 := mkHid F2
  have HFR := mkHid FR
  obtain ⟨f0, f1, f2, f3⟩ := F2
  simp only [Nat.zero_add] at f1 f2 f3
  unfold Tm.val at ST ⊢
  go_enter Tryz.func11, Tryz.ntmps11
  go_wp2_with fail
  ((with_reducible refine ST.out.mono ?_)); rintro e w3 ⟨rfl, hb3⟩
  clear f0 f1 f2 f3 ST hW2
  obtain ⟨f0, f1, f2, f3⟩ := HF2.out.later hb3
  simp only [Nat.zero_add] at f1 f2 f3
  have HB3 := mkHid (bon HB2.out hb3)
  have HIN3 := mkHid (HIN.out.later hb3)
  have HS3 := mkHid (HS.out.later hb3)
  have HFR3 := mkHid (HFR.out.later hb3)
  have HLI3 : Hid (∀ x ∈ l, AsIn w3 x) := fun x hx => (HLI.out x hx).later hb3
  have CG := mkHid (sgather_any l sv w3 (HROW.out.later hb3) HLL.out HLI3.out HS3.out)
  have HF3 := mkHid (HF2.out.later hb3)
  clear HIN HS HFR HROW HLI HF2 hb3 HB2 FR
  by_cases he : errR t = 0
  · rw [he]
    obtain ⟨z1, -, -, -⟩ := errR_fine he
    go_wp2_with fail
    ((with_reducible refine CG.out.mono ?_)); rintro e w4 ⟨n4, rfl, hP4, hb4⟩
    clear f0 f1 f2 f3 CG
    obtain ⟨f0, f1, f2, f3⟩ := HF3.out.later hb4
    simp only [Nat.zero_add] at f1 f2 f3
    have HB4 := mkHid (bon HB3.out hb4)
    have HIN4 := mkHid (HIN3.out.later hb4)
    have HS4 := mkHid (HS3.out.later hb4)
    have HFR4 := mkHid (HFR3.out.later hb4)
    have HLI4 : Hid (∀ x ∈ l, AsIn w4 x) := fun x hx => (HLI3.out x hx).later hb4
    by_cases hg : gE l.reverse = 0
    · rw [hg]
      have hsz : w3.heap.size < w4.heap.size := by
        obtain ⟨D, ⟨es, ck, hh, -⟩, -⟩ := hP4
        exact (Array.getElem?_eq_some_iff.1 hh).1
      have HM : Hid (MF (gF l.reverse) w3.heap.size n4 w4.heap.size w4) := ⟨hP4, fun nm s x hx => by
        obtain ⟨y, hy, rfl, -, -, -⟩ := gF_mem l.reverse hx
        exact (HLI4.out y (List.mem_reverse.1 hy)).1, hsz, Nat.le_refl _⟩
      have CR := mkHid (replace_any (gF l.reverse) w3.heap.size n4 w4.heap.size t w4 HIN4.out HM.out z1)
      unfold Tm.val at CR
      have HE := mkHid he
      have HG := mkHid hg
      clear hP4 hsz HM he hg HLI3 HLI4 HIN3 HS3 HFR3 HB3 hb4
      go_wp2_with fail
      ((with_reducible refine CR.out.mono ?_)); rintro e w5 ⟨x, rfl, hx1, hx2, -, hb5⟩
      clear CR f0 f1 f2 f3
      have hbx := bel_alloc w5 (boxT x)
      have hbx2 := bon hb5 hbx
      have CS := mkHid (sort_any x (w5.alloc (boxT x)) (hx2.later hbx) (HS4.out.later hbx2))
      have EX : errR x = errR (rp (gF l.reverse) t) := by rw [← er_errR, hx1]
      have HX1 := mkHid hx1
      have g4 := box_four w5 x
      have HB5 := mkHid (bon HB4.out hbx2)
      have HX5 := mkHid (hx2.later hbx)
      have HFR5 := mkHid (HFR4.out.later hbx2)
      have hWx : w5.alloc (.cells #[.int .i64 x.op, .string x.nm, .int .i64 x.n, .slice x.a x.ks.length x.c] 24) = w5.alloc (boxT x) := rfl
      rw [EX] at CS
      clear hx1 hx2 hb5 hbx hbx2 HS4 HFR4 HB4 HIN4
      generalize w5.alloc (boxT x) = W5 at *
      have HG4 := mkHid g4
      obtain ⟨f0, f1, f2, f3⟩ := g4
      simp only [Nat.zero_add] at f1 f2 f3
      unfold Tm.val at CS ⊢
      go_wp2_with fail
      ((with_reducible refine CS.out.mono ?_)); rintro e w6 ⟨rfl, hb6⟩
      clear f0 f1 f2 f3 CS hWx
      obtain ⟨f0, f1, f2, f3⟩ := HG4.out.later hb6
      simp only [Nat.zero_add] at f1 f2 f3
      have HB6 := mkHid (bon HB5.out hb6)
      have HX6 := mkHid (HX5.out.later hb6)
      have HFR6 := mkHid (HFR5.out.later hb6)
      clear hb6 HB5 HX5 HFR5 HG4
      by_cases hx : errR (rp (gF l.reverse) t) = 0
      · rw [hx]
        have hxe : errR x = 0 := by rw [EX]; exact hx
        have CC := mkHid (scopied_any x w6 HX6.out (errR_fine hxe).1)
        have HO : Hid (putO t l = (rp (gF l.reverse) t, 0)) := by
          show _ = _
          unfold putO
          rw [if_neg (by rw [HE.out]; simp), if_neg (by rw [HG.out]; simp), if_neg (by rw [hx]; simp)]
        unfold Tm.val at CC
        clear hx hxe EX HE HG
        go_wp2_with fail
        ((with_reducible refine CC.out.mono ?_)); rintro e w7 ⟨y, rfl, hy1, hy2, hyf, hb7⟩
        have HYF := mkHid hyf
        have hl6 : w.heap.size + 1 < w6.heap.size := World.block_lt_of_cell? _ _ HFR6.out.1
        have HL6 := mkHid hl6
        clear hyf hl6
        obtain ⟨r0, r1, r2, r3, r4, r5, r6, r7⟩ := HFR6.out.later hb7
        have HY1 := mkHid hy1
        have HY2 := mkHid hy2
        have HB7 := mkHid (bon HB6.out hb7)
        clear f0 f1 f2 f3 CC HFR6 hb7 hy1 hy2 HB6
        unfold Tm.val
        go_wp2
        refine bodyPost_ret (v := .tuple #[y.val, .int .i64 0]) (by simp [results, Tryz.results11, go_sem, r0, r1, r2, r3, Tm.val]) rfl ?_
        have hB : ∀ v0 v1 v2 v3, Below w.heap.size w ((((w7.setCell ⟨w.heap.size + 1, 0, none⟩ v0).setCell ⟨w.heap.size + 1, 1, none⟩ v1).setCell ⟨w.heap.size + 1, 2, none⟩ v2).setCell ⟨w.heap.size + 1, 3, none⟩ v3) := fun v0 v1 v2 v3 => bset (bset (bset (bset HB7.out (by simp) _) (by simp) _) (by simp) _) (by simp) _
        refine ⟨y, by rw [HO.out]; rfl, by rw [HY1.out, HX1.out, HO.out], ?_, hB _ _ _ _⟩
        have e : ∀ (W : World) p u, (W.setCell p u).heap.size = W.heap.size := fun W p u => by simp [World.setCell]
        rw [e, e, e, e]
        have hl := HL6.out
        exact (((HY2.out.setFar (p := ⟨w.heap.size + 1, 0, none⟩) HYF.out hl _).setFar (p := ⟨w.heap.size + 1, 1, none⟩) HYF.out hl _).setFar (p := ⟨w.heap.size + 1, 2, none⟩) HYF.out hl _).setFar (p := ⟨w.heap.size + 1, 3, none⟩) HYF.out hl _
      · have hne : ((errR (rp (gF l.reverse) t) : Int) != 0) = true := by rw [bne_iff_ne]; omega
        have HO : Hid (putO t l = (zT, errR (rp (gF l.reverse) t))) := by
          show _ = _
          unfold putO
          rw [if_neg (by rw [HE.out]; simp), if_neg (by rw [HG.out]; simp), if_pos hx]
        obtain ⟨r0, r1, r2, r3, r4, r5, r6, r7⟩ := HFR6.out
        clear hx EX HE HG f0 f1 f2 f3
        generalize errR (rp (gF l.reverse) t) = er at *
        go_wp2
        refine bodyPost_ret (v := .tuple #[.agg #[.int .i64 0, .string ⟨#[]⟩, .int .i64 0, .slice none 0 0], .int .i64 (er : Int)]) (by simp [results, Tryz.results11, go_sem, r0, r1, r2, r3]) rfl ?_
        exact SPutP.err HO.out (bset (bset (bset (bset HB6.out (by simp) _) (by simp) _) (by simp) _) (by simp) _)
    · have hne : ((gE l.reverse : Int) != 0) = true := by rw [bne_iff_ne]; omega
      have HO : Hid (putO t l = (zT, gE l.reverse)) := by
        show _ = _
        unfold putO
        rw [if_neg (by rw [he]; simp), if_pos hg]
      obtain ⟨r0, r1, r2, r3, r4, r5, r6, r7⟩ := HFR4.out
      clear hg he f0 f1 f2 f3
      generalize gE l.reverse = er at *
      go_wp2
      refine bodyPost_ret (v := .tuple #[.agg #[.int .i64 0, .string ⟨#[]⟩, .int .i64 0, .slice none 0 0], .int .i64 (er : Int)]) (by simp [results, Tryz.results11, go_sem, r0, r1, r2, r3]) rfl ?_
      exact SPutP.err HO.out (bset (bset (bset (bset HB4.out (by simp) _) (by simp) _) (by simp) _) (by simp) _)
  · have hne : ((errR t : Int) != 0) = true := by rw [bne_iff_ne]; omega
    have HO : Hid (putO t l = (zT, errR t)) := by
      show _ = _
      unfold putO
      rw [if_pos he]
    obtain ⟨r0, r1, r2, r3, r4, r5, r6, r7⟩ := HFR3.out
    clear he f0 f1 f2 f3 CG
    generalize errR t = er at *
    generalize srtR t = sr at *
    go_wp2
    refine bodyPost_ret (v := .tuple #[.agg #[.int .i64 0, .string ⟨#[]⟩, .int .i64 0, .slice none 0 0], .int .i64 (er : Int)]) (by simp [results, Tryz.results11, go_sem, r0, r1, r2, r3]) rfl ?_
    exact SPutP.err HO.out (bset (bset (bset (bset HB3.out (by simp) _) (by simp) _) (by simp) _) (by simp) _)
end
section
open Go.RowKit Go.Shelf Go.Lib

theorem ba_of {x : ByteArray} {l : List UInt8} (h : x.data.toList = l) : x = ⟨l.toArray⟩ := by
  subst h
  cases x
  simp
set_option maxHeartbeats 2000000 in
set_option maxRecDepth 100000 in
theorem small_num (i : Nat) (h : i < 100) (w : World) : Calls Tryz.prog 110 #[.int .i64 i] w fun e w' => e = .returned (.string ⟨(Lib.decDigits i).toArray⟩) ∧ w' = w := by
  go_enter Tryz.func110, Tryz.ntmps110
  go_name_bytes_deep 45 SM hSM
  have eSM : SM = Lib.smalls := by rw [← hSM]; decide +kernel
  subst eSM
  clear hSM
  go_name_bytes_deep 30 DG hDG
  have eDG : DG = Lib.digits36 := by rw [← hDG]; decide +kernel
  subst eDG
  clear hDG
  by_cases h10 : i < 10
  · have hsl : ∀ w, (Instr.slice 9 (.string Lib.digits36) (some (.int .i64 (i : Int))) (some (.int .i64 ((i : Int) + 1))) none).run Tryz.prog w = .ok (.string (Lib.digits36.extract i (i + 1))) w := fun w => by
      rw [run_slice_string w 9 Lib.digits36 .i64 .i64 _ _ Tryz.underlying9 (by omega) (by omega) (by rw [Lib.digits36_size]; omega), show ((i : Int)).toNat = i by omega, show ((i : Int) + 1).toNat = i + 1 by omega]
    go_wp2
    go_ret
    refine ⟨?_, rfl⟩
    show Ending.returned (Value.string (Lib.digits36.extract i (i + 1))) = _
    rw [ba_of (x := Lib.digits36.extract i (i + 1)) (l := Lib.decDigits i) (by rw [Lib.extract_data]; exact Lib.digits36_piece h10)]
  · have hsl : ∀ w, (Instr.slice 9 (.string Lib.smalls) (some (.int .i64 ((i : Int) * 2))) (some (.int .i64 ((i : Int) * 2 + 2))) none).run Tryz.prog w = .ok (.string (Lib.smalls.extract (i * 2) (i * 2 + 2))) w := fun w => by
      rw [run_slice_string w 9 Lib.smalls .i64 .i64 _ _ Tryz.underlying9 (by omega) (by omega) (by rw [Lib.smalls_size]; omega), show ((i : Int) * 2).toNat = i * 2 by omega, show ((i : Int) * 2 + 2).toNat = i * 2 + 2 by omega]
    go_wp2
    go_ret
    refine ⟨?_, rfl⟩
    show Ending.returned (Value.string (Lib.smalls.extract (i * 2) (i * 2 + 2))) = _
    rw [ba_of (x := Lib.smalls.extract (i * 2) (i * 2 + 2)) (l := Lib.decDigits i) (by rw [Lib.extract_data]; exact Lib.smalls_piece h10 h)]
set_option maxHeartbeats 2000000 in
set_option maxRecDepth 100000 in
theorem format_num (i : Nat) (h : i < 100) (w : World) : Calls Tryz.prog 95 #[.int .i64 i, .int .i64 10] w fun e w' => e = .returned (.string ⟨(Lib.decDigits i).toArray⟩) ∧ w' = w := by
  have hi : (i : Int) < 100 := by omega
  have h0 : (0 : Int) ≤ (i : Int) := by omega
  have C := mkHid (small_num i h w)
  go_enter Tryz.func95, Tryz.ntmps95
  go_wp2_with (go_at_call 110; ((with_reducible refine C.out.mono ?_)); rintro e w1 ⟨rfl, hw⟩; subst w1)
  go_ret
  exact ⟨rfl, rfl⟩
set_option maxHeartbeats 2000000 in
theorem itoa1_num (i : Nat) (h : i < 100) (w : World) : Calls Tryz.prog 72 #[.int .i64 i] w fun e w' => e = .returned (.string ⟨(Lib.decDigits i).toArray⟩) ∧ w' = w := by
  have C := mkHid (format_num i h w)
  go_enter Tryz.func72, Tryz.ntmps72
  go_wp2_with (go_at_call 95; ((with_reducible refine C.out.mono ?_)); rintro e w1 ⟨rfl, hw⟩; subst w1)
  go_ret
  exact ⟨rfl, rfl⟩
set_option maxHeartbeats 2000000 in
theorem itoa_num (i : Nat) (h : i < 100) (w : World) : Calls Tryz.prog 53 #[.int .i64 i] w fun e w' => e = .returned (.string ⟨(Lib.decDigits i).toArray⟩) ∧ w' = w := by
  have C := mkHid (itoa1_num i h w)
  go_enter Tryz.func53, Tryz.ntmps53
  go_wp2_with (go_at_call 72; ((with_reducible refine C.out.mono ?_)); rintro e w1 ⟨rfl, hw⟩; subst w1)
  go_ret
  exact ⟨rfl, rfl⟩
end
section
open Go.RowKit Go.Shelf
attribute [local go_sem] Oper.semAt_some

/-- a name's beginning, with a line under it; what is tried -/
def hdN (nm : ByteArray) : ByteArray := nm.extract 0 (min nm.size 13) ++ ⟨#[95]⟩
def chN (nm : ByteArray) (j : Nat) : ByteArray := if j = 0 then nm else hdN nm ++ ⟨(Lib.decDigits (j - 1)).toArray⟩
theorem dec_len : ∀ j : Nat, j < 100 → (Lib.decDigits j).length ≤ 2 := by
  intro j hj
  unfold Lib.decDigits
  split
  · simp
  · unfold Lib.decDigits
    rw [dif_pos (by omega)]
    simp
theorem hdN_size (nm : ByteArray) : (hdN nm).size ≤ 14 := by
  unfold hdN
  rw [ByteArray.size_append, ByteArray.size_extract]
  have : (⟨#[95]⟩ : ByteArray).size = 1 := rfl
  omega
theorem chN_size {nm : ByteArray} (h : nm.size ≤ 16) {j : Nat} (hj : j < 101) : (chN nm j).size ≤ 100 := by
  unfold chN
  split
  · omega
  · have h1 := hdN_size nm
    have h2 := dec_len (j - 1) (by omega)
    have h3 : (⟨(Lib.decDigits (j - 1)).toArray⟩ : ByteArray).size = (Lib.decDigits (j - 1)).length := by simp [ByteArray.size]
    rw [ByteArray.size_append, h3]
    omega
abbrev St := { s : ByteArray // s.size ≤ 100 }
def chS (nm : ByteArray) (hn : nm.size ≤ 16) (j : Nat) : St := if h : (chN nm j).size ≤ 100 then ⟨chN nm j, h⟩ else ⟨nm, by omega⟩
theorem chS_is {nm : ByteArray} (hn : nm.size ≤ 16) {j : Nat} (hj : j < 101) : (chS nm hn j).1 = chN nm j := by
  unfold chS
  rw [dif_pos (chN_size hn hj)]
/-- what a round keeps: what lay below, and a box -/
def StK (n₀ Bs : Nat) (W W' : World) : Prop := Below n₀ W W' ∧ ∀ v, Boxed W Bs 9 v → Boxed W' Bs 9 v
theorem stK_t {n₀ Bs : Nat} {A B C : World} (h : StK n₀ Bs A B) (k : StK n₀ Bs B C) : StK n₀ Bs A C := ⟨h.1.trans k.1, fun v hv => k.2 v (h.2 v hv)⟩
theorem stK_refl (n₀ Bs : Nat) (W : World) : StK n₀ Bs W W := ⟨Below.refl _ _, fun _ h => h⟩
theorem stK_b {n₀ Bs : Nat} {w : World} (hn : n₀ ≤ w.heap.size) (W : World) (l : Nat) (o o' : Obj) (hl : w.heap.size ≤ l) (h : W.heap[l]? = some o) (hc : o.isCells = false) (hw : o.isWalk = false) : StK n₀ Bs W (W.putObj l o') :=
  ⟨belowK_b hn W l o o' hl h hc hw, fun v hv => boxed_own Bs 9 (fun (_ : Unit) => v) () W (W.putObj l o') (some l) hv (grownBy_putObj' W l o') (fun r e => by cases e; exact ⟨o, h, hc⟩)⟩
set_option maxRecDepth 100000 in
set_option maxHeartbeats 2000000 in
theorem choi1_in (n : Nat) (hn : 1 ≤ n) (l Bs n₀ : Nat) (nm : ByteArray) (hnm : nm.size ≤ 16) (J Jx : List St → World → Prop)
    (hY : ∀ pre x W, J pre W → pre.length < 101 → YieldAt Fence.wide (n - 1) Tryz.prog l #[.string x.1] W fun e W' =>
      (e = .returned (.bool true) ∧ J (pre ++ [x]) W' ∧ StK n₀ Bs W W') ∨ (e = .returned (.bool false) ∧ Jx (pre ++ [x]) W'))
    (W : World) (hBs : Boxed W Bs 9 (.string nm)) (h0 : J [] W) :
    CallsIn Fence.wide n Tryz.prog 52 #[.func (.yield l) #[] #[], .pointer (some ⟨Bs, 0, none⟩)] W fun e W' => (∃ v, e = .returned v) ∧
      ((∃ ys, ys = upto (chS nm hnm) 101 ∧ J ys W') ∨ (∃ pre, (∃ k, k ≤ 101 ∧ pre = upto (chS nm hnm) k) ∧ Jx pre W')) := by
  refine callsIn_of_wp Tryz.func52 rfl trivial ?_ rfl
  simp only [Tryz.ntmps52, List.size_toArray, List.length_cons, List.length_nil, Nat.reduceAdd, Nat.reduceSub, Array.replicate_succ, Array.replicate_zero, List.push_toArray, List.append_toArray, List.nil_append, List.cons_append]
  have cB := hBs.cell
  have e1 : upto (chS nm hnm) 1 = [] ++ [(⟨nm, by omega⟩ : St)] := by
    rw [upto_succ]
    have : chS nm hnm 0 = ⟨nm, by omega⟩ := Subtype.ext ((chS_is hnm (by omega)).trans (by simp [chN]))
    rw [this]; rfl
  have hmn : min (nm.size : Int) 13 = ((min nm.size 13 : Nat) : Int) := by omega
  have hm0 : (0 : Int) ≤ ((min nm.size 13 : Nat) : Int) := by omega
  have hm1 : ((min nm.size 13 : Nat) : Int) ≤ (nm.size : Int) := by omega
  obtain ⟨fn, tmps, assign, body, hy, hR⟩ := hY [] (⟨nm, by omega⟩ : St) W h0 (by simp)
  dsimp only at hy
  rw [← e1] at hR
  gi_wp2
  clear cB hy
  refine hR.mono ?_
  clear hR
  rintro e W1 (⟨rfl, hJ1, hk1⟩ | ⟨rfl, hJx1⟩)
  · have cB := (hk1.2 _ hBs).cell
    gi_wp2
    clear cB
    gi_loopw [15] (fun i wr => ∃ (k : Nat) (x : Int), k ≤ 100 ∧ i = .int .i64 x ∧ x = k ∧ J (upto (chS nm hnm) (k + 1)) wr ∧ StK n₀ Bs W wr)
      (fun i _ => (100 - intOf i).toNat)
    case atStart => exact ⟨0, 0, by omega, rfl, rfl, hJ1, hk1⟩
    case round =>
      obtain ⟨k, x, hk, rfl, hx, hJs, hnx⟩ := hrel
      obtain rfl : x = (k : Int) := hx
      by_cases hlt : k < 100
      · obtain ⟨fn, tmps, assign, body, hy, hR⟩ := hY _ (chS nm hnm (k + 1)) wr hJs (by rw [upto_length]; omega)
        have hch : chN nm (k + 1) = nm.extract 0 (min nm.size 13) ++ ⟨#[95]⟩ ++ ⟨(Lib.decDigits k).toArray⟩ := by
          unfold chN hdN
          rw [if_neg (by omega)]; rfl
        rw [chS_is hnm (by omega), hch] at hy
        rw [← upto_succ] at hR
        have HIT := mkHid (itoa_num k hlt wr)
        have hsa : ∀ w : World, (Op.stringOp .add (nm.extract 0 (min nm.size 13) ++ ⟨#[95]⟩) ⟨(Lib.decDigits k).toArray⟩).run Tryz.prog w = .ok (.string (nm.extract 0 (min nm.size 13) ++ ⟨#[95]⟩ ++ ⟨(Lib.decDigits k).toArray⟩)) w := fun w => run_string_add_sum w _ _ (by
          have h1 := hdN_size nm
          unfold hdN at h1
          have h2 := dec_len k hlt
          have h3 : (⟨(Lib.decDigits k).toArray⟩ : ByteArray).size = (Lib.decDigits k).length := by simp [ByteArray.size]
          omega)
        have hk1' : (k : Int) < 100 := by omega
        gi_wp2_with (refine ⟨trivial, ?_⟩; gi_at_call 53; refine (callsIn_wide.2 HIT.out).mono ?_; rintro e w8 ⟨rfl, rfl⟩)
        clear hy
        refine hR.mono ?_
        rintro e W3 (⟨rfl, hJ3, hk3⟩ | ⟨rfl, hJx3⟩)
        · gi_wp2
          go_roundw
          case rel => exact ⟨k + 1, _, by omega, rfl, by omega, hJ3, stK_t hnx hk3⟩
          case measure => simp [intOf]; omega
        · gi_wp2
          refine bodyPost_ret (results_none rfl _ _ _) rfl ?_
          exact ⟨⟨_, rfl⟩, .inr ⟨_, ⟨k + 1 + 1, by omega, rfl⟩, hJx3⟩⟩
      · obtain rfl : k = 100 := by omega
        gi_wp2
        go_end0
        exact ⟨⟨_, rfl⟩, .inl ⟨_, rfl, hJs⟩⟩
  · gi_wp2
    refine bodyPost_ret (results_none rfl _ _ _) rfl ?_
    exact ⟨⟨_, rfl⟩, .inr ⟨_, ⟨1, by omega, rfl⟩, hJx1⟩⟩
set_option maxHeartbeats 1000000 in
theorem choi_in (n : Nat) (nm : ByteArray) (w : World) :
    CallsIn Fence.wide n Tryz.prog 34 #[.string nm] w fun e w' => e = .returned (.func (.func 52) #[] #[.pointer (some ⟨w.heap.size, 0, none⟩)]) ∧ w' = w.alloc (.cells #[.string nm] 9) := by
  refine callsIn_of_wp Tryz.func34 rfl trivial ?_ rfl
  simp only [Tryz.ntmps34, List.size_toArray, List.length_cons, List.length_nil, Nat.reduceAdd, Nat.reduceSub, Array.replicate_succ, Array.replicate_zero, List.push_toArray, List.append_toArray, List.nil_append, List.cons_append]
  gi_wp2
  go_ret
  exact ⟨rfl, rfl⟩
/-- what choices hands on -/
theorem choi_stops (n : Nat) (hn : 1 ≤ n) (Bs n₀ : Nat) (nm : ByteArray) (hnm : nm.size ≤ 16) (w : World) (hc : Boxed w Bs 9 (.string nm)) :
    SeqStopsK Fence.wide n Tryz.prog 52 #[.pointer (some ⟨Bs, 0, none⟩)] (fun x : St => #[Value.string x.1]) (StK n₀ Bs) (fun ys => ys = upto (chS nm hnm) 101) (fun pre => ∃ k, k ≤ 101 ∧ pre = upto (chS nm hnm) k) 101 w := fun l J Jx W hW _ _ hY h0 =>
  choi1_in n hn l Bs n₀ nm hnm J Jx hY W ((hW.block Bs hc.lt).trans hc) h0
end
section
open Go.RowKit

set_option maxHeartbeats 2000000 in
set_option maxRecDepth 100000 in
theorem len64_tiny (n : Nat) (h : n ≤ 1) (w : World) : Calls Tryz.prog 92 #[.int .u64 n] w fun e w' => (∃ l : Int, e = .returned (.int .i64 l)) ∧ w = w' := by
  rcases (show n = 0 ∨ n = 1 by omega) with rfl | rfl
  · show Calls Tryz.prog 92 #[.int .u64 0] w _
    go_enter Tryz.func92, Tryz.ntmps92
    go_wp2
    go_ret
    exact ⟨⟨_, rfl⟩, rfl⟩
  · show Calls Tryz.prog 92 #[.int .u64 1] w _
    go_enter Tryz.func92, Tryz.ntmps92
    go_wp2
    go_ret
    exact ⟨⟨_, rfl⟩, rfl⟩
set_option maxRecDepth 100000 in
set_option maxHeartbeats 2000000 in
theorem len_tiny (n : Nat) (h : n ≤ 1) (w : World) : Calls Tryz.prog 68 #[.int .u64 n] w fun e w' => (∃ l : Int, e = .returned (.int .i64 l)) ∧ w = w' := by
  have L := mkHid (len64_tiny n h)
  go_enter Tryz.func68, Tryz.ntmps68
  go_wp2_with (go_at_call 92; refine (L.out _).mono ?_; rintro e w1 ⟨⟨l, rfl⟩, rfl⟩)
  go_ret
  exact ⟨⟨_, rfl⟩, rfl⟩
set_option maxRecDepth 100000 in
set_option maxHeartbeats 2000000 in
theorem insertion_tiny (A : Option Addr) (n c : Nat) (g : Value) (h : n ≤ 1) (w : World) :
    Calls Tryz.prog 83 #[.slice A n c, .int .i64 0, .int .i64 n, g] w fun e w' => e = .returned (.tuple #[]) ∧ w = w' := by
  have hn : ¬ (1 : Int) < (n : Int) := by omega
  go_enter Tryz.func83, Tryz.ntmps83
  go_wp2
  go_loop [8, 9] (fun i _ => i = .int .i64 1) (fun _ _ => 0)
  case atStart => rfl
  case round =>
    subst hrel
    go_wp2
    go_end0
    exact ⟨rfl, rfl⟩
set_option maxHeartbeats 2000000 in
set_option maxRecDepth 100000 in
theorem pdq_tiny (A : Option Addr) (n c : Nat) (l : Int) (g : Value) (h : n ≤ 1) (w : World) :
    Calls Tryz.prog 67 #[.slice A n c, .int .i64 0, .int .i64 n, .int .i64 l, g] w fun e w' => e = .returned (.tuple #[]) ∧ w = w' := by
  have hn : (n : Int) ≤ 12 := by omega
  have I := mkHid (insertion_tiny A n c g h)
  go_enter Tryz.func67, Tryz.ntmps67
  go_wp2
  go_loop [1, 2] (fun a b => a = .int .i64 0 ∧ b = .int .i64 n) (fun _ _ => 0)
  case atStart => exact ⟨rfl, rfl⟩
  case round =>
    obtain ⟨rfl, rfl⟩ := hrel
    go_wp2_with (go_at_call 83; refine (I.out _).mono ?_; rintro e w1 ⟨rfl, rfl⟩)
    exact bodyPost_ret (v := .tuple #[]) (by simp [results, Tryz.results67]) rfl ⟨rfl, rfl⟩
set_option maxRecDepth 100000 in
set_option maxHeartbeats 2000000 in
theorem sort_tiny (A : Option Addr) (n c : Nat) (g : Value) (h : n ≤ 1) (w : World) :
    Calls Tryz.prog 48 #[.slice A n c, g] w fun e w' => e = .returned (.tuple #[]) ∧ w = w' := by
  have L := mkHid (len_tiny n h)
  have P := mkHid (fun l => pdq_tiny A n c l g h)
  have wr : IntKind.u64.wrap (n : Int) = n := by simp [IntKind.wrap, IntKind.bits, IntKind.signed]; omega
  go_enter Tryz.func48, Tryz.ntmps48
  go_wp2_with (first
    | (go_at_call 68; refine (L.out _).mono ?_; rintro e w1 ⟨⟨l, rfl⟩, rfl⟩)
    | (go_at_call 67; refine (P.out _ _).mono ?_; rintro e w1 ⟨rfl, rfl⟩))
  go_end0
  exact ⟨rfl, rfl⟩
set_option maxRecDepth 100000 in
set_option maxHeartbeats 2000000 in
theorem compact_tiny (A : Option Addr) (n c : Nat) (g : Value) (h : n ≤ 1) (w : World) :
    Calls Tryz.prog 50 #[.slice A n c, g] w fun e w' => e = .returned (.slice A n c) ∧ w = w' := by
  have hn : (n : Int) < 2 := by omega
  go_enter Tryz.func50, Tryz.ntmps50
  go_wp2
  go_ret
  exact ⟨rfl, rfl⟩
end
section
open Go.RowKit

theorem notRow_alloc {w : World} {k : Nat} (h : NotRow w k) (hk : k < w.heap.size) (o : Obj) : NotRow (w.alloc o) k := h.of_eq (Below.heap_alloc _ _ _ hk)
theorem notRow_new (w : World) (cs : Array Value) (t : TypeId) (ht : t ≠ 41) : NotRow (w.alloc (.cells cs t)) w.heap.size := by
  intro cur fz
  show (w.heap.push (.cells cs t))[w.heap.size]? ≠ _
  simp [ht]
/-- the world in which the closure of Names is called first; w2: behind Sort -/
def namW (w2 : World) : World :=
  ((w2.alloc (.cells #[.slice none 0 0] 25)).alloc (.cells #[.nilFunc] 76)).setCell ⟨w2.heap.size + 1, 0, none⟩ (gthF w2.heap.size (w2.heap.size + 1))
theorem namW_facts (w2 : World) : Below w2.heap.size w2 (namW w2) ∧ Single (namW w2) w2.heap.size (.slice none 0 0) ∧ (namW w2).cell? ⟨w2.heap.size + 1, 0, none⟩ = some (gthF w2.heap.size (w2.heap.size + 1)) ∧ NotRow (namW w2) w2.heap.size ∧ NotRow (namW w2) (w2.heap.size + 1) := by
  refine ⟨?_, ?_, ?_, ?_, ?_⟩
  · exact bset (bal (bal (Below.refl _ _) _) _) (by simp) _
  · simp [namW, Single, go_sem]
  · simp [namW, go_sem]
  · exact notRow_set (notRow_alloc (notRow_new _ _ _ (by decide)) (by simp) _) _ _
  · have := notRow_new (w2.alloc (.cells #[.slice none 0 0] 25)) #[.nilFunc] 76 (by decide)
    rw [World.size_alloc] at this
    exact notRow_set this _ _

set_option maxRecDepth 100000 in
set_option maxHeartbeats 2000000 in
theorem names_wrong (t : Tm) (w : World) (hin : TIn w w.heap.size t) (hS : Shps w) (he : errR t ≠ 0) :
    Calls Tryz.prog 32 #[t.val] w fun e w' => e = .returned (.slice none 0 0) ∧ Below w.heap.size w w' := by
  have hb1 := bel_alloc w (boxT t)
  have f4 := box_four w t
  have ST := mkHid (sort_any t _ (hin.later hb1) (hS.later hb1))
  have hW : w.alloc (.cells #[.int .i64 t.op, .string t.nm, .int .i64 t.n, .slice t.a t.ks.length t.c] 24) = w.alloc (boxT t) := rfl
  have hne : ((errR t : Int) != 0) = true := by rw [bne_iff_ne]; omega
  unfold Tm.val at *
  generalize w.alloc (boxT t) = W at *
  obtain ⟨a0, a1, a2, a3⟩ := f4
  simp only [Nat.zero_add] at a1 a2 a3
  generalize errR t = er at *
  clear he
  go_enter Tryz.func32, Tryz.ntmps32
  go_wp2_with fail
  ((with_reducible refine ST.out.mono ?_)); rintro e w2 ⟨rfl, hb2⟩
  go_wp2
  go_ret
  exact ⟨rfl, bon hb1 hb2⟩

theorem errR_zero {t : Tm} (h : errR t = 0) : t.size ≤ 2000 ∧ t.deep ≤ 100 ∧ t.srt ≠ 0 ∧ srtR t = t.srt := by
  unfold errR at h
  split at h
  · cases h
  · rename_i hf
    split at h
    · cases h
    · rename_i hs
      have : fullB t = false := by simpa using hf
      refine ⟨?_, ?_, hs, ?_⟩
      · simp [fullB] at this; omega
      · simp [fullB] at this; omega
      · unfold srtR; rw [this]; rfl

theorem own_slice {w : World} {base e size n : Nat} {v : Value} {xs : List Value} (h : w.ownsRow base e size v n xs) : ∃ A c, v = .slice A n c := by
  rcases h.2 with ⟨rfl, rfl⟩ | ⟨g, cap, cur, e, -⟩
  · exact ⟨none, 0, rfl⟩
  · exact ⟨_, _, e⟩
set_option maxRecDepth 100000 in
set_option maxHeartbeats 4000000 in
theorem names_few (t : Tm) (w : World) (hin : TIn w w.heap.size t) (hS : Shps w) (he : errR t = 0) (hv : t.vars.length ≤ 1) :
    Calls Tryz.prog 32 #[t.val] w fun e w' => (∃ v, e = .returned v ∧ w'.ownsRow w.heap.size 41 5 v t.vars.length (asgs t.vars)) ∧ Below w.heap.size w w' := by
  have hmf : ∀ (fn : Fn) (first cap : Array Value) (w : World), (Instr.makeFunc fn first cap).run Tryz.prog w = .ok (.func fn first cap) w := fun _ _ _ _ => rfl
  obtain ⟨hz, hd, hs0, hsr⟩ := errR_zero he
  have hb1 := bel_alloc w (boxT t)
  have f4 := box_four w t
  have ST := mkHid (sort_any t _ (hin.later hb1) (hS.later hb1))
  rw [he] at ST
  have hg0 : 0 < w.heap.size := World.block_lt_of_cell? _ _ (hS 0 (by omega)).1
  have hW : w.alloc (.cells #[.int .i64 t.op, .string t.nm, .int .i64 t.n, .slice t.a t.ks.length t.c] 24) = w.alloc (boxT t) := rfl
  have HIN := mkHid hin
  have HS := mkHid hS
  have HF := mkHid f4
  have hX1 : w.heap.size < (w.alloc (boxT t)).heap.size := by simp
  have HG := mkHid (fun B base nb fb v W => gather_any t B base nb fb [] v W)
  have TS := mkHid (fun A c g w => sort_tiny A t.vars.length c g hv w)
  have TC := mkHid (fun A c g w => compact_tiny A t.vars.length c g hv w)
  generalize hx : srtR t = sr at *
  generalize w.alloc (boxT t) = W at *
  have hval : t.val = .agg #[.int .i64 t.op, .string t.nm, .int .i64 t.n, .slice t.a t.ks.length t.c] := rfl
  have HVL := mkHid hval
  rw [hval]
  clear hval hx hin hS hd he
  obtain ⟨a0, a1, a2, a3⟩ := f4
  simp only [Nat.zero_add] at a1 a2 a3
  unfold Tm.val at ST
  go_enter Tryz.func32, Tryz.ntmps32
  go_wp2_with fail
  ((with_reducible refine ST.out.mono ?_)); rintro e w2 ⟨rfl, hb2⟩
  have B2 := bon hb1 hb2
  have f5 := HF.out.later hb2
  obtain ⟨n1, n2, n3, n4, n5⟩ := namW_facts w2
  have f6 := f5.later n1
  have B3 := bon B2 n1
  have G := mkHid (HG.out w.heap.size w.heap.size w2.heap.size (w2.heap.size + 1) (.slice none 0 0) (namW w2) (HIN.out.keep B3) (HS.out.later B3) hg0 hs0 B2.size (by have := B2.size; omega) (by omega) (Nat.le_refl _) n4 n5 B3.size n2 (World.ownsRow_nil _ _ _ _) n3 (by simp; omega))
  rw [List.nil_append, HVL.out] at G
  have hW2 : ((w2.alloc (.cells #[.slice none 0 0] 25)).alloc (.cells #[.nilFunc] 76)).setCell ⟨w2.heap.size + 1, 0, none⟩ (.func (.func 47) #[] #[.pointer (some ⟨w2.heap.size, 0, none⟩), .pointer (some ⟨w2.heap.size + 1, 0, none⟩)]) = namW w2 := rfl
  clear a0 a1 a2 a3 hW HF f5 HG ST HIN HS hs0 hg0 hz hsr
  unfold gthF at n3
  obtain ⟨m0, m1⟩ := n2
  obtain ⟨a0, a1, a2, a3⟩ := f6
  simp only [Nat.zero_add] at a1 a2 a3
  generalize namW w2 = W2 at *
  have hY : w.heap.size ≤ w2.heap.size := B2.size
  have n6 : Hid (Below w.heap.size w W2) := B3
  clear B3 B2 hb1 hb2 n1 n4 n5 m1
  go_wp2_with fail
  ((with_reducible refine G.out.mono ?_)); rintro e w3 ⟨rfl, ⟨gt3, -⟩, ⟨v3, ⟨s3, s4⟩, ov⟩⟩
  have B4 := n6.out.trans (gt3.below (B := w.heap.size) hY n6.out.size)
  obtain ⟨A, c, rfl⟩ := own_slice ov
  clear a0 a1 a2 a3 n3 m0 hW2 G gt3 s4 hmf HVL n6
  go_wp2_with (first
    | (go_at_call 48; refine (TS.out _ _ _ _).mono ?_; rintro e w4 ⟨rfl, rfl⟩)
    | (go_at_call 50; refine (TC.out _ _ _ _).mono ?_; rintro e w5 ⟨rfl, rfl⟩))
  go_ret
  exact ⟨⟨_, rfl, ov⟩, B4⟩
end
end Go.Proofs.YtdfebacjbapahaaGreatDoor
