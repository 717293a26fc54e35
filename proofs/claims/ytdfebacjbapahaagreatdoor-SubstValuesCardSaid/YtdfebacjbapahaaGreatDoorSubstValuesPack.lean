/-
  SubstValues: for every input the law returns true, and nothing that was there has turned. Conditions: the table of shapes is as the program's text lays it (tied to the text by the card).
-/
import Derived.Test.YtdfebacjbapahaaGreatDoorSubstValuesK21
import Derived.Test.YtdfebacjbapahaaGreatDoorSubstValuesK22
import Derived.Test.YtdfebacjbapahaaGreatDoorTie
import Derived.Test.YtdfebacjbapahaaGreatDoorCards
import Derived.SevenTiedAt
import Derived.Test.YtdfebacjbapahaaGreatDoorSubstValuesK01
import Derived.Test.YtdfebacjbapahaaGreatDoorSubstValuesK02
import Derived.Test.YtdfebacjbapahaaGreatDoorSubstValuesK03
import Derived.Test.YtdfebacjbapahaaGreatDoorSubstValuesK04
import Derived.Test.YtdfebacjbapahaaGreatDoorSubstValuesK05
import Derived.Test.YtdfebacjbapahaaGreatDoorSubstValuesK06
import Derived.Test.YtdfebacjbapahaaGreatDoorSubstValuesK07
import Derived.Test.YtdfebacjbapahaaGreatDoorSubstValuesK08
import Derived.Test.YtdfebacjbapahaaGreatDoorSubstValuesK09
import Derived.Test.YtdfebacjbapahaaGreatDoorSubstValuesK10
import Derived.Test.YtdfebacjbapahaaGreatDoorSubstValuesK11
import Derived.Test.YtdfebacjbapahaaGreatDoorSubstValuesK12
import Derived.Test.YtdfebacjbapahaaGreatDoorSubstValuesK13
import Derived.Test.YtdfebacjbapahaaGreatDoorSubstValuesK14
import Derived.Test.YtdfebacjbapahaaGreatDoorSubstValuesK15
import Derived.Test.YtdfebacjbapahaaGreatDoorSubstValuesK16
import Derived.Test.YtdfebacjbapahaaGreatDoorSubstValuesK17
import Derived.Test.YtdfebacjbapahaaGreatDoorSubstValuesK18
import Derived.Test.YtdfebacjbapahaaGreatDoorSubstValuesK19
import Derived.Test.YtdfebacjbapahaaGreatDoorSubstValuesK20
namespace Go.Proofs.YtdfebacjbapahaaGreatDoor.substValues
open Go.ChangeShapes Go.WideShapes Go.ChangeAt Go.RowKit

set_option maxRecDepth 100000 in
theorem lifted (os : Os) (started : os.Started) (H : Type) (enc : TypeId × Value → H) :
    ReturnsInHanded {} Tryz.checked os 3 .any (fun w args => (Rows.substValuesSpec.pre enc Tryz.prog Tryz.f3 [] false w args ∧ laidMetH Tryz.prog laidS w) ∧ sizedMet enc Tryz.prog Tryz.f3 (OpenSpec.ofChange Rows.substValuesSpec) false w args)
      (Rows.substValuesSpec.post enc Tryz.prog Tryz.f3 false true false false) := by
  refine returnsInHanded_of_change_and (C := Tryz.checked) (X := fun w _ => laidMetH Tryz.prog laidS w) (fun _ _ _ hh h => h.of_heap hh) own started (by kernel_rfl) Tryz.func3
    (ChangeSpec.witness_shaped (enc := enc) (C := Tryz.checked) (os := os) (X := fun w _ => laidMetH Tryz.prog laidS w) false (World.doorLaid Tryz.prog 400 os) #[.agg #[.int .i64 0, .string ⟨#[]⟩, .int .i64 0, .slice none 0 0], .slice none 0 0, .agg #[.int .i64 0, .slice none 0 0]] 8 rfl (World.shaped_of_RefB (by kernel_rfl) (by kernel_rfl)) (by kernel_rfl) (by kernel_rfl) (by kernel_rfl) (door_metS os _)) ?_
  intro W base args ds gs before hval0 hW _ _ hL _
  have hval : ∀ (j : Nat) t v, Tryz.f3.params[j]? = some t → args[j]? = some v → Value.okWide Tryz.prog W .any base t v := hval0
  have hW' := hW
  obtain ⟨p, q, hA0, hV, rfl, hfz, hnd⟩ := hW
  have hA : DataW.TrodAll enc Tryz.prog W 0 (fun _ => true) true Tryz.f3.params.toList args.toList ds p := hA0
  rw [Tryz.params3] at hA hval
  obtain ⟨v0, vs0, d0, ds0, p0, q0, hargs, rfl, rfl, h0, r0⟩ := trodAll_cons hA
  obtain ⟨v1, vs1, d1, ds1, p1, q1, rfl, rfl, rfl, h1, r1⟩ := trodAll_cons r0
  obtain ⟨v2, vs2, d2, ds2, p2, q2, rfl, rfl, rfl, h2, r2⟩ := trodAll_cons r1
  obtain ⟨rfl, rfl, rfl⟩ := trodAll_nil r2
  obtain rfl : args = #[v0, v1, v2] := by cases args; simp_all
  obtain ⟨rfl, rfl⟩ := trodVars_none hV
  have hS := of_laidS hL
  have k0 := h0
  have lt0 : ∀ x ∈ p0, x.block < W.heap.size := by obtain ⟨m, hm⟩ := k0; exact DataW.trod_lt m _ _ _ hm
  obtain ⟨T0, rfl, f0⟩ := term_in (hval 0 24 v0 rfl rfl) h0
  have k1 := h1
  have lt1 : ∀ x ∈ p1, x.block < W.heap.size := by obtain ⟨m, hm⟩ := k1; exact DataW.trod_lt m _ _ _ hm
  obtain ⟨s1, n1, c1, l1, rfl, b1, x1, e1, g1, f1⟩ := asgs_in (hval 1 25 v1 rfl rfl) h1
  have k2 := h2
  have lt2 : ∀ x ∈ p2, x.block < W.heap.size := by obtain ⟨m, hm⟩ := k2; exact DataW.trod_lt m _ _ _ hm
  obtain ⟨T2, rfl, f2⟩ := world_in (hval 2 28 v2 rfl rfl) h2
  clear hA0 hval0
  refine (values_row T0 s1 n1 c1 l1 T2 W f0 b1 x1 e1 g1 f1 f2 hS).mono fun e W' ⟨he, bel⟩ => ?_
  subst he
  exact ⟨_, rfl, _, _, _, [], _, [], hW', trodAll_mk1 (shut_bool Tryz.underlying4 _), (trodAll_cons_mk (Below.trod laidOutT (by kernel_rfl) (of_decide_eq_true (by kernel_rfl)) k0 bel lt0) (trodAll_cons_mk (Below.trod laidOutT (by kernel_rfl) (of_decide_eq_true (by kernel_rfl)) k1 bel lt1) (trodAll_cons_mk (Below.trod laidOutT (by kernel_rfl) (of_decide_eq_true (by kernel_rfl)) k2 bel lt2) trodAll_mk0))), rfl, bel.frame _, fun h => by cases h⟩

theorem over : Rows.SubstValuesSaid :=
  OpenClaim.holds_of_wide 3 Tryz.f3 rfl rfl rfl rfl rfl rfl rfl ⟨rfl, rfl, rfl, rfl, rfl⟩ rfl rfl rfl rfl rfl (by kernel_rfl) Tryz.func3 (by kernel_rfl)
    (of_decide_eq_true (by kernel_rfl)) (by unfold Func.isWrapper; first | (rw [if_pos (by decide +kernel)]; kernel_rfl) | (rw [if_neg (by decide +kernel)]; exact ⟨rfl, rfl⟩))
    (fun os started H enc _ => lifted os started H enc)

/-- THE STATEMENT -/
theorem proved : Rows.SubstValuesCardSaid :=
  Claim7.holds_tied_plain_at .later [] _ _ _ _
    over (fun _ h => by cases h) (by kernel_rfl) (fun _ h => by cases h) substValues_row_tie rfl ⟨rfl, rfl⟩ (by kernel_rfl) rfl
    (fun f fn hf hfn => by
      obtain rfl : f = 3 := Option.some.inj ((show Tryz.prog.funcNamed Rows.substValuesRow.func = some 3 by kernel_rfl).symm.trans hf) |>.symm
      obtain rfl : fn = Tryz.f3 := (Option.some.inj (Tryz.func3.symm.trans hfn)).symm
      exact ⟨by kernel_rfl, fun j t ht => by
        rw [Tryz.params3] at ht
        have hm : t ∈ [24, 25, 28] := by simpa using Array.mem_of_getElem? ht
        have hall : ([24, 25, 28].all fun u => !Tryz.prog.wantsStandIn u) = true := by kernel_rfl
        exact (show Tryz.prog.wantsStandIn t = false by simpa using List.all_eq_true.1 hall t hm)⟩)
    (by kernel_rfl)
end Go.Proofs.YtdfebacjbapahaaGreatDoor.substValues
