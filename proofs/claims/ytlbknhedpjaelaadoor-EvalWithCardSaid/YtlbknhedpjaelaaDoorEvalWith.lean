/-
  What EvalWith does: it returns true, whatever the world, the name, the value, the other name and the sort are.
-/
import Derived.Test.YtlbknhedpjaelaaDoorEvN
import Derived.Test.YtlbknhedpjaelaaDoorEvQ
import Derived.Test.YtlbknhedpjaelaaDoorEvS
import Derived.Test.YtlbknhedpjaelaaDoorEvV
import Derived.Deep.DeepCutAuto
import Derived.Deep.CutBlock
namespace Go.Proofs.YtlbknhedpjaelaaDoor
open Go.RowKit Go.Shelf

/-- what lies in memory while EvalWith runs -/
structure SW (X : Nat) (W : Wd) (v : Vl) (w : World) : Prop where
  bw : TwoW w X W
  bv : FourV w (X + 1) (.int .i64 v.sort) (.int .i64 v.n) (.bool v.b) (.slice v.a v.s.length v.c)
  win : WIn w w.heap.size W
  vin : VIn w w.heap.size v
  s : Shps w
theorem SW.later {X : Nat} {W : Wd} {v : Vl} {w w' : World} (h : SW X W v w) (hb : Below w.heap.size w w') : SW X W v w' := ⟨h.bw.later hb, h.bv.later hb, h.win.later hb, h.vin.later hb, h.s.later hb⟩
theorem SW.start {W : Wd} {v : Vl} {w : World} (hW : WIn w w.heap.size W) (hv : VIn w w.heap.size v) (hS : Shps w) : SW w.heap.size W v ((w.alloc (boxW W)).alloc (boxVl v)) := by
  have hb : Below w.heap.size w ((w.alloc (boxW W)).alloc (boxVl v)) := bal (bal (Below.refl _ _) _) _
  refine ⟨(boxW_two w W).later (bel_alloc _ _), ?_, hW.later hb, hv.later hb, hS.later hb⟩
  simp [FourV, boxW, boxVl, go_sem]
/-- an answer of Get -/
def gSo : Option Vl → Int | some v => v.sort | none => 0
def gNn : Option Vl → Int | some v => v.n | none => 0
def gBb : Option Vl → Bool | some v => v.b | none => false
def gLl : Option Vl → List Bool | some v => v.s | none => []
def AnsG (so nn : Int) (bb : Bool) (l : List Bool) (ok : Bool) (w : World) (e : Ending) (w' : World) : Prop := ∃ a c, e = .returned (.tuple #[.agg #[.int .i64 so, .int .i64 nn, .bool bb, .slice a l.length c], .bool ok]) ∧ BIn w' w'.heap.size a l ∧ l.length ≤ maxLen ∧ Below w.heap.size w w'
theorem get_u (W : Wd) (nm : ByteArray) (s : Int) (w : World) (hin : WIn w w.heap.size W) (hl : ∀ v, look W nm s = some v → v.s.length ≤ 140737488355328) :
    Calls Tryd.prog 29 #[W.val, .string nm, .int .i64 s] w (AnsG (gSo (look W nm s)) (gNn (look W nm s)) (gBb (look W nm s)) (gLl (look W nm s)) (look W nm s).isSome w) := by
  cases h : look W nm s with
  | none => exact (get_none W nm s w hin h).mono fun e w' ⟨he, hb⟩ => ⟨none, 0, he, (fun j hj => by simp [gLl] at hj), Nat.zero_le _, hb⟩
  | some v => exact (get_some W nm s v w hin h (hl v h)).mono fun e w' ⟨a, c, he, ho, hb⟩ => ⟨a, c, he, ho.bin, Nat.le_trans ho.cap.1 ho.cap.2, hb⟩
theorem sameO_facts {o p : Option Vl} (h : SameO o p) : gSo o = gSo p ∧ gNn o = gNn p ∧ gBb o = gBb p ∧ gLl o = gLl p ∧ o.isSome = p.isSome := by
  cases h with
  | no => exact ⟨rfl, rfl, rfl, rfl, rfl⟩
  | yes h => exact ⟨h.1, h.2.1, h.2.2.1, h.2.2.2, rfl⟩
theorem putN_len {y : Nd} : ∀ l : List Nd, (putN y l).length = l.length + (if (l.find? (hitN y.nm y.v.sort)).isSome then 0 else 1)
  | [] => rfl
  | x :: l => by
    by_cases hx : hitN y.nm y.v.sort x = true
    · simp [putN, hx, List.find?]
    · have := putN_len (y := y) l
      simp only [putN, if_neg hx, List.length_cons, this, List.find?]
      simp only [hx]
      omega
theorem rt_len {W : Wd} (hR : Rt W) : ∀ x ∈ W.l, x.v.s.length ≤ 64 := fun x hx => by
  have h2 := (hR.hv x hx).1
  have hi := hR.hi
  unfold holdsV at h2
  split at h2
  · simp at h2; rw [h2.2]; simp
  · split at h2
    · simp at h2; omega
    · split at h2
      · simp at h2; rw [h2.2]; simp
      · split at h2
        · simp at h2; rw [h2.2]; simp
        · cases h2
theorem look_len64 {W : Wd} (hR : Rt W) {nm : ByteArray} {s : Int} {v : Vl} (h : look W nm s = some v) : v.s.length ≤ 140737488355328 := by
  obtain ⟨i, hi, -, e⟩ := look_mem h
  have := rt_len hR _ (List.getElem_mem hi)
  rw [e] at this
  omega
/-- what With makes, as a fact -/
structure WU (X : Nat) (W : Wd) (v : Vl) (nm : ByteArray) (V : Wd) : Prop where
  nd : V.nodes = W.nodes
  same : SameL V.l (putN ⟨nm, v⟩ W.l)
theorem WU.self {X : Nat} {W V : Wd} {v : Vl} {nm : ByteArray} (h : WU X W v nm V) : SameO (look V nm v.sort) (some v) := by
  have h1 := h.same.find nm v.sort
  have h2 : (putN ⟨nm, v⟩ W.l).find? (hitN nm v.sort) = some ⟨nm, v⟩ := putN_self ⟨nm, v⟩ W.l
  rw [h2] at h1
  exact h1
theorem WU.other {X : Nat} {W V : Wd} {v : Vl} {nm ot : ByteArray} {so : Int} (h : WU X W v nm V) (hne : hitN ot so ⟨nm, v⟩ = false) : SameO (look V ot so) (look W ot so) := by
  have h1 := h.same.find ot so
  rw [putN_other hne] at h1
  exact h1
theorem WU.len {X : Nat} {W V : Wd} {v : Vl} {nm : ByteArray} (h : WU X W v nm V) : V.l.length = W.l.length + (if (look W nm v.sort).isSome then 0 else 1) := by
  rw [h.same.1, putN_len]
  unfold look
  cases W.l.find? (hitN nm v.sort) <;> rfl
set_option maxRecDepth 100000 in
set_option maxHeartbeats 4000000 in
theorem with_wrong (W : Wd) (nm : ByteArray) (v : Vl) (ot : ByteArray) (so : Int) (w : World) (hW : WIn w w.heap.size W) (hv : VIn w w.heap.size v) (hS : Shps w) (hr : rightB W = false) :
    Calls Tryd.prog 4 #[W.val, .string nm, v.val, .string ot, .int .i64 so] w (RetB true w) := by
  have S0 := SW.start hW hv hS
  have B0 : Below w.heap.size w ((w.alloc (boxW W)).alloc (boxVl v)) := bal (bal (Below.refl _ _) _) _
  have SC := mkHid (shownE _ S0.s)
  have RT := mkHid (fun w' (h : SW w.heap.size W v w') => right_any W w' h.win)
  rw [hr] at RT
  have hW2 : (w.alloc (.cells #[.int .i64 W.nodes, .slice W.a W.l.length W.c] 38)).alloc (.cells #[.int .i64 v.sort, .int .i64 v.n, .bool v.b, .slice v.a v.s.length v.c] 41) = (w.alloc (boxW W)).alloc (boxVl v) := rfl
  generalize (w.alloc (boxW W)).alloc (boxVl v) = W2 at *
  unfold Wd.val at RT ⊢
  unfold Vl.val at ⊢
  clear hW hv hS hr
  go_enter Tryd.func4, Tryd.ntmps4
  go_wp2_with fail
  ((with_reducible refine SC.out.mono ?_)); rintro e w3 ⟨rfl, hb3⟩
  clear SC hW2
  have S3 := S0.later hb3
  have B3 := bon B0 hb3
  obtain ⟨p0, p1⟩ := S3.bw
  go_wp2_with fail
  ((with_reducible refine (RT.out _ S3).mono ?_)); rintro e w4 ⟨rfl, hb4⟩
  have S4 := S3.later hb4
  have B4 := bon B3 hb4
  clear p0 p1 RT S3 S0 hb3 hb4
  go_wp2
  go_ret
  exact ⟨rfl, B4⟩
set_option maxRecDepth 100000 in
set_option maxHeartbeats 8000000 in
theorem with_core (W : Wd) (nm : ByteArray) (v : Vl) (ot : ByteArray) (so : Int) (w : World) (hW : WIn w w.heap.size W) (hnm : nm.size ≤ maxLen) (hv : VIn w w.heap.size v) (hvs : v.s.length ≤ 140737488355328) (hS : Shps w) (hr : rightB W = true) :
    Calls Tryd.prog 4 #[W.val, .string nm, v.val, .string ot, .int .i64 so] w (RetB true w) := by
  have S0 := SW.start hW hv hS
  have B0 : Below w.heap.size w ((w.alloc (boxW W)).alloc (boxVl v)) := bal (bal (Below.refl _ _) _) _
  have SC := mkHid (shownE _ S0.s)
  have RT := mkHid (fun w' (h : SW w.heap.size W v w') => right_any W w' h.win)
  rw [hr] at RT
  have hRt := right_rt hr hW
  have hl64 : W.l.length ≤ 64 := ((right_iff W).1 hr).1.2.2
  have WT := mkHid (fun w' (h : SW w.heap.size W v w') => with_any W nm v w' h.win h.vin hnm hl64 (rt_len hRt) hvs)
  have GW := mkHid (fun nm s w' (h : SW w.heap.size W v w') => get_u W nm s w' h.win (fun v h => look_len64 hRt h))
  have HRT := mkHid hRt
  have HVS := mkHid hvs
  clear hRt hvs hnm
  have hW2 : (w.alloc (.cells #[.int .i64 W.nodes, .slice W.a W.l.length W.c] 38)).alloc (.cells #[.int .i64 v.sort, .int .i64 v.n, .bool v.b, .slice v.a v.s.length v.c] 41) = (w.alloc (boxW W)).alloc (boxVl v) := rfl
  generalize (w.alloc (boxW W)).alloc (boxVl v) = W2 at *
  unfold Wd.val at RT WT GW ⊢
  unfold Vl.val at WT ⊢
  clear hW hv hS hr
  go_enter Tryd.func4, Tryd.ntmps4
  go_wp2_with fail
  ((with_reducible refine SC.out.mono ?_)); rintro e w3 ⟨rfl, hb3⟩
  clear SC hW2
  have S3 := S0.later hb3
  have B3 := bon B0 hb3
  obtain ⟨p0, p1⟩ := S3.bw
  go_wp2_with fail
  ((with_reducible refine (RT.out _ S3).mono ?_)); rintro e w4 ⟨rfl, hb4⟩
  have S4 := S3.later hb4
  have B4 := bon B3 hb4
  clear p0 p1 RT S3 S0 hb3 hb4
  obtain ⟨p0, p1⟩ := S4.bw
  obtain ⟨v0, v1, v2, v3, -⟩ := S4.bv
  go_wp2_with fail
  ((with_reducible refine (WT.out _ S4).mono ?_)); rintro e w5 ⟨V, rfl, hVn, hVs, hVr, hb5⟩
  clear p0 p1 v0 v1 v2 v3 WT
  have HU := mkHid (show WU w.heap.size W v nm V from ⟨hVn, hVs⟩)
  have b6 := bon hb5 (bel_alloc w5 (boxW V))
  have S6 := S4.later b6
  have B6 := bon B4 b6
  have D6 := b6
  have HS4 := mkHid S4
  have TU : TwoW (w5.alloc (boxW V)) w5.heap.size V := boxW_two w5 V
  have NR6 := hVr.later (bel_alloc w5 (boxW V))
  have VI : WIn (w5.alloc (boxW V)) (w5.alloc (boxW V)).heap.size V := NR6.win (by rw [hVn]; exact S4.win.nd)
  have hW6 : w5.alloc (.cells #[.int .i64 V.nodes, .slice V.a V.l.length V.c] 38) = w5.alloc (boxW V) := rfl
  have GV := mkHid (fun nm' s w' (hv : WIn w' w'.heap.size V) (hl : ∀ x, look V nm' s = some x → x.s.length ≤ 140737488355328) => get_u V nm' s w' hv hl)
  unfold Wd.val at GV
  have GV1 := mkHid (fun w' (hv : WIn w' w'.heap.size V) => GV.out nm v.sort w' hv (fun x hx => by
    have h1 := HU.out.self
    rw [hx] at h1
    cases h1 with
    | yes h => rw [h.2.2.2]; exact HVS.out))
  obtain ⟨e1, e2, e3, e4, e5⟩ := sameO_facts HU.out.self
  rw [e1, e2, e3, e4, e5] at GV1
  simp only [gSo, gNn, gBb, gLl, Option.isSome_some] at GV1
  have hnd : (V.nodes != W.nodes) = false := by rw [hVn]; simp
  have HNR := mkHid NR6
  have HVR := mkHid hVr
  have hbase : w4.heap.size ≤ w5.heap.size := hb5.size
  clear e1 e2 e3 e4 e5 hVn hVs hVr S4 B4 b6 hb5 NR6
  generalize w5.alloc (boxW V) = W6 at *
  obtain ⟨p0, p1⟩ := TU
  have v0 := S6.bv.1
  go_wp2_with fail
  ((with_reducible refine (GV1.out _ VI).mono ?_)); rintro e w7 ⟨a7, c7, rfl, bi7, hl7, hb7⟩
  have TU : TwoW W6 w5.heap.size V := ⟨p0, p1⟩
  clear p0 p1 v0 GV1 hW6
  have b8 := bon hb7 (bel_alloc w7 (.cells #[.int .i64 v.sort, .int .i64 v.n, .bool v.b, .slice a7 v.s.length c7] 41))
  have S8 := S6.later b8
  have B8 := bon B6 b8
  have D8 := bon D6 b8
  have TU8 := TU.later b8
  have VI8 := VI.later b8
  have NR8 := HNR.out.later b8
  have V8 : FourV (w7.alloc (.cells #[.int .i64 v.sort, .int .i64 v.n, .bool v.b, .slice a7 v.s.length c7] 41)) w7.heap.size (.int .i64 v.sort) (.int .i64 v.n) (.bool v.b) (.slice a7 v.s.length c7) := by simp [FourV, go_sem]
  have BI8 : BIn (w7.alloc (.cells #[.int .i64 v.sort, .int .i64 v.n, .bool v.b, .slice a7 v.s.length c7] 41)) (w7.alloc (.cells #[.int .i64 v.sort, .int .i64 v.n, .bool v.b, .slice a7 v.s.length c7] 41)).heap.size a7 v.s := (bi7.keep (bel_alloc _ _)).mono (by simp)
  clear bi7 b8 S6 B6 TU VI HNR hb7
  generalize hW8 : w7.alloc (.cells #[.int .i64 v.sort, .int .i64 v.n, .bool v.b, .slice a7 v.s.length c7] 41) = W8 at *
  have SM := mkHid (same_true v.sort v.n v.b a7 v.a c7 v.c v.s W8 BI8 S8.vin.i (by unfold maxLen at hl7; omega))
  have HNR8 := mkHid NR8
  clear NR8 BI8
  obtain ⟨x0, x1, x2, x3, -⟩ := V8
  obtain ⟨v0, v1, v2, v3, -⟩ := S8.bv
  go_wp2_with fail
  ((with_reducible refine SM.out.mono ?_)); rintro e w9 ⟨rfl, hb9⟩
  clear x0 x1 x2 x3 v0 v1 v2 v3 SM hW8
  have S10 := S8.later hb9
  have B10 := bon B8 hb9
  have D10 := bon D8 hb9
  have TU10 := TU8.later hb9
  have VI10 := VI8.later hb9
  have HNR10 := mkHid (HNR8.out.later hb9)
  clear S8 B8 TU8 VI8 HNR8 hb9
  obtain ⟨p0, p1⟩ := S10.bw
  obtain ⟨q0, q1⟩ := id TU10
  go_upto_region 8 with fail
  clear p0 p1 q0 q1
  go_cut [63] (fun s wx => s = .bool (!(hitN ot so ⟨nm, v⟩)) ∧ wx = w9)
  case first =>
    have v0 := S10.bv.1
    cases d1 : (ot.toList == nm.toList)
    · have hd : hitN ot so ⟨nm, v⟩ = false := by
        unfold hitN; rw [Bool.and_eq_false_iff]; right
        rw [beq_eq_false_iff_ne] at d1 ⊢; exact fun e => d1 e.symm
      go_wp2
      go_meet
      exact ⟨by rw [hd]; rfl, rfl⟩
    · cases d2 : (so == v.sort)
      · have hd : hitN ot so ⟨nm, v⟩ = false := by
          unfold hitN; rw [Bool.and_eq_false_iff]; left
          rw [beq_eq_false_iff_ne] at d2 ⊢; exact fun e => d2 e.symm
        have d3 : (so != v.sort) = true := by rw [bne_iff_ne]; rw [beq_eq_false_iff_ne] at d2; exact d2
        clear d2
        go_wp2
        go_meet
        exact ⟨by rw [hd]; rfl, rfl⟩
      · have hd : hitN ot so ⟨nm, v⟩ = true := by
          unfold hitN; rw [Bool.and_eq_true]
          rw [beq_iff_eq] at d1 d2
          exact ⟨by rw [d2]; simp, by rw [d1]; simp⟩
        have d3 : (so != v.sort) = false := by rw [beq_iff_eq] at d2; rw [d2]; simp
        clear d2
        go_wp2
        go_meet
        exact ⟨by rw [hd]; rfl, rfl⟩
  case rest =>
    obtain ⟨rfl, rfl⟩ := hcut
    go_upto_if 63 with fail
    go_cut [] (fun wx => Below wc.heap.size wc wx)
    case first =>
      cases hD : hitN ot so ⟨nm, v⟩
      · have E1 := mkHid (fun w' (hv : WIn w' w'.heap.size V) => GV.out ot so w' hv (fun x hx => by
          have h1 := HU.out.other hD
          rw [hx] at h1
          cases h2 : look W ot so with
          | none => rw [h2] at h1; cases h1
          | some y =>
            rw [h2] at h1
            cases h1 with
            | yes h => rw [h.2.2.2]; exact look_len64 HRT.out h2))
        obtain ⟨e1, e2, e3, e4, e5⟩ := sameO_facts (HU.out.other hD)
        rw [e1, e2, e3, e4, e5] at E1
        have E2 := mkHid (fun w' (h : SW w.heap.size W v w') => GW.out ot so w' h)
        clear e1 e2 e3 e4 e5
        generalize gSo (look W ot so) = xs at *
        generalize gNn (look W ot so) = xn at *
        generalize gBb (look W ot so) = xb at *
        generalize gLl (look W ot so) = xl at *
        generalize (look W ot so).isSome = xo at *
        have hxo : (xo != xo) = false := by simp
        obtain ⟨q0, q1⟩ := id TU10
        go_wp2_with fail
        ((with_reducible refine (E1.out _ VI10).mono ?_)); rintro e w11 ⟨a11, c11, rfl, bi11, hl11, hb11⟩
        have b12 := bon hb11 (bel_alloc w11 (.cells #[.int .i64 xs, .int .i64 xn, .bool xb, .slice a11 xl.length c11] 41))
        have S12 := S10.later b12
        have V12 : FourV (w11.alloc (.cells #[.int .i64 xs, .int .i64 xn, .bool xb, .slice a11 xl.length c11] 41)) w11.heap.size (.int .i64 xs) (.int .i64 xn) (.bool xb) (.slice a11 xl.length c11) := by simp [FourV, go_sem]
        have BI12 : BIn (w11.alloc (.cells #[.int .i64 xs, .int .i64 xn, .bool xb, .slice a11 xl.length c11] 41)) (w11.alloc (.cells #[.int .i64 xs, .int .i64 xn, .bool xb, .slice a11 xl.length c11] 41)).heap.size a11 xl := (bi11.keep (bel_alloc _ _)).mono (by simp)
        clear q0 q1 E1 bi11 hb11
        generalize hW12 : w11.alloc (.cells #[.int .i64 xs, .int .i64 xn, .bool xb, .slice a11 xl.length c11] 41) = W12 at *
        obtain ⟨p0, p1⟩ := S12.bw
        go_wp2_with fail
        ((with_reducible refine (E2.out _ S12).mono ?_)); rintro e w13 ⟨a13, c13, rfl, bi13, -, hb13⟩
        have b14 := bon hb13 (bel_alloc w13 (.cells #[.int .i64 xs, .int .i64 xn, .bool xb, .slice a13 xl.length c13] 41))
        have V14 := V12.later b14
        have BI14 := (BI12.keep b14).mono b14.size
        have X14 : FourV (w13.alloc (.cells #[.int .i64 xs, .int .i64 xn, .bool xb, .slice a13 xl.length c13] 41)) w13.heap.size (.int .i64 xs) (.int .i64 xn) (.bool xb) (.slice a13 xl.length c13) := by simp [FourV, go_sem]
        have BX14 : BIn (w13.alloc (.cells #[.int .i64 xs, .int .i64 xn, .bool xb, .slice a13 xl.length c13] 41)) (w13.alloc (.cells #[.int .i64 xs, .int .i64 xn, .bool xb, .slice a13 xl.length c13] 41)).heap.size a13 xl := (bi13.keep (bel_alloc _ _)).mono (by simp)
        clear p0 p1 E2 bi13 hb13 hW12 V12 BI12
        generalize hW14 : w13.alloc (.cells #[.int .i64 xs, .int .i64 xn, .bool xb, .slice a13 xl.length c13] 41) = W14 at *
        have SM := mkHid (same_true xs xn xb a11 a13 c11 c13 xl W14 BI14 BX14 (by unfold maxLen at hl11; omega))
        obtain ⟨x0, x1, x2, x3, -⟩ := V14
        obtain ⟨z0, z1, z2, z3, -⟩ := X14
        go_wp2_with fail
        ((with_reducible refine SM.out.mono ?_)); rintro e w15 ⟨rfl, hb15⟩
        go_wp2
        go_meet
        exact bon (bon b12 b14) hb15
      · go_wp2
        go_meet
        exact Below.refl _ _
    case rest =>
      have S11 := S10.later hcut
      have B11 := bon B10 hcut
      have D11 := bon D10 hcut
      have TU11 := TU10.later hcut
      have VI11 := VI10.later hcut
      have HNR11 := mkHid (HNR10.out.later hcut)
      have E3 := mkHid (fun w' (h : SW w.heap.size W v w') => GW.out nm v.sort w' h)
      have hVl := HU.out.len
      generalize gSo (look W nm v.sort) = xs at *
      generalize gNn (look W nm v.sort) = xn at *
      generalize gBb (look W nm v.sort) = xb at *
      generalize gLl (look W nm v.sort) = xl at *
      generalize (look W nm v.sort).isSome = had at *
      have hVp : 0 < V.l.length := by
        have := HU.out.same.1
        rw [this]
        cases W.l with
        | nil => simp [putN]
        | cons x l =>
          unfold putN
          split <;> simp
      clear S10 B10 D10 TU10 VI10 HNR10 hcut GV
      obtain ⟨p0, p1⟩ := S11.bw
      have v0 := S11.bv.1
      go_wp2_with fail
      ((with_reducible refine (E3.out _ S11).mono ?_)); rintro e w12 ⟨a12, c12, rfl, -, -, hb12⟩
      have b13 := bon hb12 (bel_alloc w12 (.cells #[.int .i64 xs, .int .i64 xn, .bool xb, .slice a12 xl.length c12] 41))
      have S13 := S11.later b13
      have B13 := bon B11 b13
      have D13 := bon D11 b13
      have TU13 := TU11.later b13
      have HNR13 := mkHid (HNR11.out.later b13)
      clear p0 p1 v0 E3 S11 B11 D11 TU11 VI11 HNR11 b13
      generalize hW13 : w12.alloc (.cells #[.int .i64 xs, .int .i64 xn, .bool xb, .slice a12 xl.length c12] 41) = W13 at *
      obtain ⟨p0, p1⟩ := S13.bw
      go_upto_if 99 with fail
      clear hW13
      go_cut [21] (fun s wx => s = .int .i64 (V.l.length : Int) ∧ wx = W13)
      case first =>
        have hwr : IntKind.i64.wrap ((W.l.length : Int) + 1) = (W.l.length : Int) + 1 := by rw [IntKind.wrap_i64]; omega
        cases had
        · simp only [Bool.false_eq_true, if_false] at hVl
          have hVi : (V.l.length : Int) = (W.l.length : Int) + 1 := by omega
          have HVi := mkHid hVi
          clear hVi hVl
          go_wp2
          go_meet
          exact ⟨by rw [HVi.out], rfl⟩
        · simp only [if_true, Nat.add_zero] at hVl
          have HVi := mkHid hVl
          clear hVl
          go_wp2
          go_meet
          exact ⟨by rw [HVi.out], rfl⟩
      case rest =>
        obtain ⟨rfl, rfl⟩ := hcut
        clear p0 p1
        have hnn : ((V.l.length : Int) != (V.l.length : Int)) = false := by simp
        have hgt : decide ((0 : Int) < (V.l.length : Int)) = true := decide_eq_true (by omega)
        have hW64 : W.l.length ≤ 9223372036854775807 := by omega
        clear hVl
        obtain ⟨g, cp, hVa, hgb, hgl⟩ := World.ownsRow.form HVR.out.row hVp
        simp only [Value.slice.injEq, true_and] at hVa
        obtain ⟨hVa, -⟩ := hVa
        have nd0 : NdAt wc g (0 * 5) V.l[0] := by
          have h := HNR13.out
          rw [hVa] at h
          exact h.at_ rfl 0 hVp
        have own5 := HVR.out.own _ (List.getElem_mem hVp)
        have own0 := HNR13.out.own _ (List.getElem_mem hVp)
        have apart := own_apart own5 HVR.out.row (by decide)
        obtain ⟨q0, q1⟩ := TU13
        obtain ⟨p0, p1⟩ := S13.bw
        rw [hVa] at q1 apart
        generalize V.l[0] = y0 at *
        obtain ⟨n0, n1, n2, n3, n4⟩ := nd0
        simp only [Nat.zero_mul, Nat.zero_add] at n0 n1 n2 n3 n4
        have hv1 : (0 : Int) < (V.l.length : Int) := by omega
        have HD13 := mkHid D13
        clear D13 HNR13 HVR hVa
        by_cases hy : y0.v.s.length = 0
        · have hd0 : ¬ 0 < y0.v.s.length := by omega
          clear hy own5 own0 apart
          go_wp2
          go_ret
          exact ⟨rfl, B13⟩
        · have hd0 : 0 < y0.v.s.length := by omega
          by_cases hw0 : W.l.length = 0
          · have hd1 : ¬ 0 < W.l.length := by omega
            clear hy own5 own0 apart hw0
            go_wp2
            go_ret
            exact ⟨rfl, B13⟩
          · have hd1 : 0 < W.l.length := by omega
            have hw1 : (0 : Int) < (W.l.length : Int) := by omega
            obtain ⟨b, o, ha, hbB, xd⟩ := HS4.out.win.at_ 0 (by omega)
            have xd' := xd.keep HD13.out hbB
            have xin := (HS4.out.win.vs _ (List.getElem_mem (by omega : 0 < W.l.length))).2
            generalize W.l[0] = x0 at *
            rw [ha] at p1 ⊢
            obtain ⟨m0, m1, m2, m3, m4⟩ := xd'
            simp only [Nat.zero_mul, Nat.add_zero] at m0 m1 m2 m3 m4
            clear ha xd hw0
            by_cases hx : x0.v.s.length = 0
            · have hd2 : ¬ 0 < x0.v.s.length := by omega
              clear hy own5 own0 apart hx
              go_wp2
              go_ret
              exact ⟨rfl, B13⟩
            · have hd2 : 0 < x0.v.s.length := by omega
              have hx1 : (0 : Int) < (x0.v.s.length : Int) := by omega
              have hy1 : (0 : Int) < (y0.v.s.length : Int) := by omega
              obtain ⟨zb, zo, hza, hzB, hzc⟩ := xin.i 0 (by omega)
              have hzc' : wc.cell? ⟨zb, zo, none⟩ = some (.bool x0.v.s[0]) := by rw [HD13.out.cell (p := ⟨zb, zo, none⟩) hzB]; exact hzc
              obtain ⟨h, hya, hhb, hhl⟩ := own5.some (by omega)
              rw [hza] at m4
              rw [hya] at n4 own0 apart
              have hy0 : wc.cell? ⟨h, 0, none⟩ = some (.bool y0.v.s[0]) := by
                rw [own0.cellAt 0 (by omega)]; exact bls_get _ 0 (by omega)
              have hyf := own0.frozenAt 0
              have hhg : ¬ h = g := by
                intro e
                rcases apart with h1 | h1
                · simp [Value.ownBlock] at h1
                · exact h1 (by simp [Value.ownBlock, e])
              have hgh : ¬ g = h := fun e => hhg e.symm
              have hX4 : w.heap.size < w4.heap.size := World.block_lt_of_cell? _ _ HS4.out.bw.1
              have hUh : ¬ w5.heap.size = h := by omega
              have hXh : ¬ w.heap.size = h := by omega
              have hbh : ¬ b = h := by omega
              have hzh : ¬ zb = h := by omega
              clear hy hx own5 own0 apart hza hzc xin hya
              generalize x0.v.s[0] = xv at *
              generalize y0.v.s[0] = yv at *
              have hxv : (xv == xv) = true := by simp
              go_wp2_with fail
              have SK : wc.cell? ⟨w5.heap.size, 1, none⟩ = some (.slice (some ⟨g, 0, none⟩) V.l.length V.c) ∧ wc.cell? ⟨g, 4, none⟩ = some (.slice (some ⟨h, 0, none⟩) y0.v.s.length y0.v.c) := ⟨q1, n4⟩
              have eb : ∀ k, ¬ k = h → (wc.setCell ⟨h, 0, none⟩ (.bool (!yv))).heap[k]? = wc.heap[k]? := fun k hk => Below.heap_setCell wc ⟨h, 0, none⟩ _ k hk
              have SK2 : (wc.setCell ⟨h, 0, none⟩ (.bool (!yv))).drew.cell? ⟨w5.heap.size, 1, none⟩ = some (.slice (some ⟨g, 0, none⟩) V.l.length V.c) ∧ (wc.setCell ⟨h, 0, none⟩ (.bool (!yv))).drew.cell? ⟨g, 4, none⟩ = some (.slice (some ⟨h, 0, none⟩) y0.v.s.length y0.v.c) :=
                ⟨(World.cell?_of_block (w := wc) (eb w5.heap.size hUh)).trans q1, (World.cell?_of_block (w := wc) (eb g hgh)).trans n4⟩
              have r1 : (wc.setCell ⟨h, 0, none⟩ (.bool (!yv))).drew.cell? ⟨w.heap.size, 1, none⟩ = some (.slice (some ⟨b, o, none⟩) W.l.length W.c) := (World.cell?_of_block (w := wc) (eb w.heap.size hXh)).trans p1
              have r2 : (wc.setCell ⟨h, 0, none⟩ (.bool (!yv))).drew.cell? ⟨b, o + 4, none⟩ = some (.slice (some ⟨zb, zo, none⟩) x0.v.s.length x0.v.c) := (World.cell?_of_block (w := wc) (eb b hbh)).trans m4
              have r3 : (wc.setCell ⟨h, 0, none⟩ (.bool (!yv))).drew.cell? ⟨zb, zo, none⟩ = some (.bool xv) := (World.cell?_of_block (w := wc) (eb zb hzh)).trans hzc'
              have B22 : Below w.heap.size w (wc.setCell ⟨h, 0, none⟩ (.bool (!yv))).drew := bdrew (bset B13 (by show w.heap.size ≤ h; omega) _)
              have EB := mkHid eb
              clear eb
              refine wp_region_held_drew (S := fun w' => w'.cell? ⟨w5.heap.size, 1, none⟩ = some (.slice (some ⟨g, 0, none⟩) V.l.length V.c) ∧ w'.cell? ⟨g, 4, none⟩ = some (.slice (some ⟨h, 0, none⟩) y0.v.s.length y0.v.c)) (by kernel_rfl) SK (fun hHeld => ?_)
              refine wpAnyH_take (i := 0) (v := ?_) rfl (by kernel_rfl) (by kernel_rfl) (by kernel_rfl) (fun _ _ _ h => h) (Or.inl ⟨by kernel_rfl, ?_⟩) (by assumption) ?_
              rotate_left
              · (intro w hSw; (try dsimp only at hSw); go_simp; try with_reducible rfl)
              simp only [Act.put, List.getElem_toArray, List.getElem_cons_zero, List.setIfInBounds_toArray, List.set_cons_zero, List.set_cons_succ]
              refine wpAnyH_take (i := 1) (v := ?_) rfl (by kernel_rfl) (by kernel_rfl) (by kernel_rfl) (fun _ _ _ h => h) (Or.inl ⟨by kernel_rfl, ?_⟩) (by assumption) ?_
              rotate_left
              · (intro w hSw; (try dsimp only at hSw); go_simp; try with_reducible rfl)
              simp only [Act.put, List.getElem_toArray, List.getElem_cons_succ, List.getElem_cons_zero, List.setIfInBounds_toArray, List.set_cons_zero, List.set_cons_succ]
              refine wpAnyH_take (i := 2) (v := ?_) rfl (by kernel_rfl) (by kernel_rfl) (by kernel_rfl) (fun _ _ _ h => h) (Or.inl ⟨by kernel_rfl, ?_⟩) (by assumption) ?_
              rotate_left
              · (intro w hSw; (try dsimp only at hSw); go_simp; try with_reducible rfl)
              simp only [Act.put, List.getElem_toArray, List.getElem_cons_succ, List.getElem_cons_zero, List.setIfInBounds_toArray, List.set_cons_zero, List.set_cons_succ]
              refine wpAnyH_take (i := 3) (v := ?_) rfl (by kernel_rfl) (by kernel_rfl) (by kernel_rfl) (fun _ _ _ h => h) (Or.inl ⟨by kernel_rfl, ?_⟩) (by assumption) ?_
              rotate_left
              · (intro w hSw; (try dsimp only at hSw); go_simp; try with_reducible rfl)
              simp only [Act.put, List.getElem_toArray, List.getElem_cons_succ, List.getElem_cons_zero, List.setIfInBounds_toArray, List.set_cons_zero, List.set_cons_succ]
              refine wpAnyH_take (i := 4) (v := ?_) rfl (by kernel_rfl) (by kernel_rfl) (by kernel_rfl) (fun _ _ _ h => h) (Or.inl ⟨by kernel_rfl, ?_⟩) (by assumption) ?_
              rotate_left
              · (intro w hSw; (try dsimp only at hSw); go_simp; try with_reducible rfl)
              simp only [Act.put, List.getElem_toArray, List.getElem_cons_succ, List.getElem_cons_zero, List.setIfInBounds_toArray, List.set_cons_zero, List.set_cons_succ]
              refine wpAnyH_take (i := 5) (v := ?_) rfl (by kernel_rfl) (by kernel_rfl) (by kernel_rfl) (fun _ _ _ h => h) (Or.inl ⟨by kernel_rfl, ?_⟩) (by assumption) ?_
              rotate_left
              · (intro w hSw; (try dsimp only at hSw); go_simp; try with_reducible rfl)
              simp only [Act.put, List.getElem_toArray, List.getElem_cons_succ, List.getElem_cons_zero, List.setIfInBounds_toArray, List.set_cons_zero, List.set_cons_succ]
              refine wpAnyH_take (i := 6) (v := ?_) rfl (by kernel_rfl) (by kernel_rfl) (by kernel_rfl) (fun _ _ _ h => h) (Or.inl ⟨by kernel_rfl, ?_⟩) (by assumption) ?_
              rotate_left
              · (intro w hSw; (try dsimp only at hSw); go_simp; try with_reducible rfl)
              simp only [Act.put, List.getElem_toArray, List.getElem_cons_succ, List.getElem_cons_zero, List.setIfInBounds_toArray, List.set_cons_zero, List.set_cons_succ]
              refine wpAnyH_take (i := 7) (v := ?_) rfl (by kernel_rfl) (by kernel_rfl) (by kernel_rfl) (fun _ _ _ h => h) (Or.inl ⟨by kernel_rfl, ?_⟩) (by assumption) ?_
              rotate_left
              · (intro w hSw; (try dsimp only at hSw); go_simp; try with_reducible rfl)
              simp only [Act.put, List.getElem_toArray, List.getElem_cons_succ, List.getElem_cons_zero, List.setIfInBounds_toArray, List.set_cons_zero, List.set_cons_succ]
              refine wpAnyH_take (i := 8) (v := ?_) rfl (by kernel_rfl) (by kernel_rfl) (by kernel_rfl) (fun _ _ _ h => h) (Or.inl ⟨by kernel_rfl, ?_⟩) (by assumption) ?_
              rotate_left
              · (intro w hSw; (try dsimp only at hSw); go_simp; try with_reducible rfl)
              simp only [Act.put, List.getElem_toArray, List.getElem_cons_succ, List.getElem_cons_zero, List.setIfInBounds_toArray, List.set_cons_zero, List.set_cons_succ]
              refine wpAnyH_take (i := 9) (v := ?_) rfl (by kernel_rfl) (by kernel_rfl) (by kernel_rfl) (fun _ _ _ h => h) (Or.inl ⟨by kernel_rfl, ?_⟩) (by assumption) ?_
              rotate_left
              · (intro w hSw; (try dsimp only at hSw); go_simp; try with_reducible rfl)
              simp only [Act.put, List.getElem_toArray, List.getElem_cons_succ, List.getElem_cons_zero, List.setIfInBounds_toArray, List.set_cons_zero, List.set_cons_succ]
              refine wpAnyH_take (i := 10) (v := ?_) rfl (by kernel_rfl) (by kernel_rfl) (by kernel_rfl) (fun _ _ _ h => h) (Or.inl ⟨by kernel_rfl, ?_⟩) (by assumption) ?_
              rotate_left
              · (intro w hSw; (try dsimp only at hSw); go_simp; try with_reducible rfl)
              simp only [Act.put, List.getElem_toArray, List.getElem_cons_succ, List.getElem_cons_zero, List.setIfInBounds_toArray, List.set_cons_zero, List.set_cons_succ]
              refine wpAnyH_take (i := 11) (v := ?_) rfl (by kernel_rfl) (by kernel_rfl) (by kernel_rfl) (fun _ _ _ h => h) (Or.inl ⟨by kernel_rfl, ?_⟩) (by assumption) ?_
              rotate_left
              · (intro w hSw; (try dsimp only at hSw); go_simp; try with_reducible rfl)
              simp only [Act.put, List.getElem_toArray, List.getElem_cons_succ, List.getElem_cons_zero, List.setIfInBounds_toArray, List.set_cons_zero, List.set_cons_succ]
              refine wpAnyH_take (i := 12) (v := ?_) rfl (by kernel_rfl) (by kernel_rfl) (by kernel_rfl) (fun _ _ _ h => h) (Or.inl ⟨by kernel_rfl, ?_⟩) (by assumption) ?_
              rotate_left
              · (intro w hSw; (try dsimp only at hSw); go_simp; try with_reducible rfl)
              simp only [Act.put, List.getElem_toArray, List.getElem_cons_succ, List.getElem_cons_zero, List.setIfInBounds_toArray, List.set_cons_zero, List.set_cons_succ]
              refine wpAnyH_ready (rs := [13]) (by kernel_rfl) (by simp) ?_
              refine AllReadyH.cons rfl (fun KK hKK => ?_) AllReadyH.nil
              go_simp
              refine hKK.out _ _ (SK) (fun hHeld => ?_)
              clear hKK KK
              refine wpAnyH_take (i := 14) (v := ?_) rfl (by kernel_rfl) (by kernel_rfl) (by kernel_rfl) (fun _ _ _ h => h) (Or.inl ⟨by kernel_rfl, ?_⟩) (by assumption) ?_
              rotate_left
              · (intro w hSw; (try dsimp only at hSw); go_simp; try with_reducible rfl)
              simp only [Act.put, List.getElem_toArray, List.getElem_cons_succ, List.getElem_cons_zero, List.setIfInBounds_toArray, List.set_cons_zero, List.set_cons_succ]
              refine wpAnyH_take (i := 15) (v := ?_) rfl (by kernel_rfl) (by kernel_rfl) (by kernel_rfl) (fun _ _ _ h => h) (Or.inl ⟨by kernel_rfl, ?_⟩) (by assumption) ?_
              rotate_left
              · (intro w hSw; (try dsimp only at hSw); go_simp; try with_reducible rfl)
              simp only [Act.put, List.getElem_toArray, List.getElem_cons_succ, List.getElem_cons_zero, List.setIfInBounds_toArray, List.set_cons_zero, List.set_cons_succ]
              refine wpAnyH_ready (rs := [16]) (by kernel_rfl) (by simp) ?_
              refine AllReadyH.cons rfl (fun KK hKK => ?_) AllReadyH.nil
              go_simp
              refine hKK.out _ _ (SK2) (fun hHeld => ?_)
              clear hKK KK
              refine wpAnyH_done (by kernel_rfl) ?_ _
              clear hHeld q0 q1 p0 p1 n0 n1 n2 n3 n4 m0 m1 m2 m3 m4 hzc' hy0 hyf SK SK2 B13
              generalize (wc.setCell ⟨h, 0, none⟩ (.bool (!yv))).drew = V22 at *
              go_wp2
              go_ret
              exact ⟨rfl, B22⟩
theorem lwith_any (W : Wd) (nm : ByteArray) (v : Vl) (ot : ByteArray) (so : Int) (w : World) (hW : WIn w w.heap.size W) (hnm : nm.size ≤ maxLen) (hv : VIn w w.heap.size v) (hvs : v.s.length ≤ 140737488355328) (hS : Shps w) :
    Calls Tryd.prog 4 #[W.val, .string nm, v.val, .string ot, .int .i64 so] w (RetB true w) := by
  cases hr : rightB W
  · exact with_wrong W nm v ot so w hW hv hS hr
  · exact with_core W nm v ot so w hW hnm hv hvs hS hr
end Go.Proofs.YtlbknhedpjaelaaDoor
