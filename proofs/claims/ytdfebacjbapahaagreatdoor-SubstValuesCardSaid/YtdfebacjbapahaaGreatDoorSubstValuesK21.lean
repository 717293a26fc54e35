/-
  What SubstValues's proof stands on, part 21: SubstValues, TmIn, SbIn, TmIn2.
-/
import Derived.Test.YtdfebacjbapahaaGreatDoorSubstValuesK20
import Derived.Deep.RegionHeld2
import Derived.Deep.DeepCutAuto
import Derived.Deep.CutBlock
import Derived.StillTailTactics
import Derived.Test.YtdfebacjbapahaaGreatDoorSubstValuesK01
import Derived.Test.YtdfebacjbapahaaGreatDoorSubstValuesK02
import Derived.ProofKit
import Derived.OpenShut
import Derived.LaidMore
import Derived.Stop.Joined
import Derived.Carry
import Derived.ChangeOld
import Derived.LaidSub
import Derived.Test.YtdfebacjbapahaaGreatDoorSubstValuesK05
namespace Go.Proofs.YtdfebacjbapahaaGreatDoor
section
open Go.RowKit

/-- what lies in memory: the term, the world -/
structure SV (X : Nat) (t : Tm) (W : Wd) (w : World) : Prop where
  bt : Four w X 0 t
  bw : TwoW w (X + 1) W
  tin : TIn w w.heap.size t
  win : WIn w w.heap.size W
  s : Shps w
theorem SV.later {X : Nat} {t : Tm} {W : Wd} {w w' : World} (h : SV X t W w) (hb : Below w.heap.size w w') : SV X t W w' := ⟨h.bt.later hb, h.bw.later hb, h.tin.later hb, h.win.later hb, h.s.later hb⟩
theorem SV.start {t : Tm} {W : Wd} {w : World} (ht : TIn w w.heap.size t) (hW : WIn w w.heap.size W) (hS : Shps w) : SV w.heap.size t W ((w.alloc (boxT t)).alloc (boxW W)) := by
  have hb : Below w.heap.size w ((w.alloc (boxT t)).alloc (boxW W)) := bal (bal (Below.refl _ _) _) _
  refine ⟨(box_four w t).later (bel_alloc _ _), ?_, ht.later hb, hW.later hb, hS.later hb⟩
  have := boxW_two (w.alloc (boxT t)) W
  simpa using this
/-- the world that is being made lies ahead of its box, or in memory made behind it -/
def UW (w : World) (b : Nat) (U : Wd) : Prop := fitB U.nodes = true ∧ b < w.heap.size ∧ (WIn w b U ∨ ∃ base, b < base ∧ base ≤ w.heap.size ∧ NRow w base (.slice U.a U.l.length U.c) U.l)
theorem UW.later {w w' : World} {b : Nat} {U : Wd} (h : UW w b U) (hb : Below w.heap.size w w') : UW w' b U := by
  obtain ⟨hf, hl, h⟩ := h
  refine ⟨hf, Nat.lt_of_lt_of_le hl hb.size, ?_⟩
  rcases h with h | ⟨base, h1, h2, h3⟩
  · exact .inl (h.keep (hb.mono (by omega)))
  · exact .inr ⟨base, h1, Nat.le_trans h2 hb.size, h3.later hb⟩
theorem UW.win {w : World} {b : Nat} {U : Wd} (h : UW w b U) : WIn w w.heap.size U := by
  obtain ⟨hf, hl, h⟩ := h
  rcases h with h | ⟨base, h1, h2, h3⟩
  · exact h.mono (by omega)
  · obtain ⟨nodes, a, c, l⟩ := U
    exact h3.win hf
theorem right_sets {W : Wd} {w : World} {B : Nat} (h : rightB W = true) (hin : WIn w B W) : ∀ x ∈ W.l, x.v.s.length ≤ 64 := fun x hx => by
  have hRt := right_rt h hin
  have h2 := (hRt.hv x hx).1
  have hi := hRt.hi
  unfold holdsV at h2
  split at h2
  · simp at h2; rw [h2.2]; simp
  · split at h2
    · simp at h2; omega
    · split at h2
      · simp at h2; rw [h2.2]; simp
      · split at h2
        · simp at h2; rw [h2.2]; simp
        · cases h2
theorem ty_fit {W : Wd} {s : Nat} {v : Vv} (hs : 1 ≤ s ∧ s ≤ 4) (hn : W.nodes ≤ 64) (h : Ty W s v) : fitB v.sort = true ∧ fitB v.n = true ∧ v.l.length ≤ 64 := by
  have hs4 : s = 1 ∨ s = 2 ∨ s = 3 ∨ s = 4 := by omega
  rcases hs4 with rfl | rfl | rfl | rfl
  · obtain ⟨n, rfl, h⟩ := h.i
    exact ⟨by show fitB 1 = true; decide, h, by show (0 : Nat) ≤ 64; omega⟩
  · obtain ⟨l, rfl, h⟩ := h.s
    exact ⟨by show fitB 2 = true; decide, by show fitB 0 = true; decide, by show l.length ≤ 64; omega⟩
  · obtain ⟨n, rfl, h1, h2⟩ := h.d
    exact ⟨by show fitB 3 = true; decide, by show fitB n = true; rw [fitB_iff]; omega, by show (0 : Nat) ≤ 64; omega⟩
  · obtain ⟨x, rfl⟩ := h.b
    exact ⟨by show fitB 4 = true; decide, by show fitB 0 = true; decide, by show (0 : Nat) ≤ 64; omega⟩
/-- an answer of Eval, its set in memory of its own -/
def AnsO (so nn : Int) (bb : Bool) (l : List Bool) (k : Int) (w : World) (e : Ending) (w' : World) : Prop := ∃ a c, e = .returned (.tuple #[.agg #[.int .i64 so, .int .i64 nn, .bool bb, .slice a l.length c], .int .i64 k]) ∧ Own w' w.heap.size a c l ∧ Below w.heap.size w w'
theorem ansO {r : Except Int Vv} {w : World} {e : Ending} {w' : World} (h : EvalP r w e w') : AnsO (rSo r) (rNn r) (rBb r) (rLl r) (rKk r) w e w' := by
  cases r with
  | ok v =>
    obtain ⟨a, c, he, ho, hb⟩ := h
    exact ⟨a, c, he, ho, hb⟩
  | error k =>
    obtain ⟨he, hb⟩ := h
    exact ⟨none, 0, he, ⟨rfl, .inl ⟨rfl, rfl⟩⟩, hb⟩
theorem cells6 {w w' : World} {p0 p1 p2 p3 p4 p5 : Addr} {v0 v1 v2 v3 v4 v5 : Value} (h : w.cell? p0 = some v0 ∧ w.cell? p1 = some v1 ∧ w.cell? p2 = some v2 ∧ w.cell? p3 = some v3 ∧ w.cell? p4 = some v4 ∧ w.cell? p5 = some v5) (hb : Below w.heap.size w w') :
    w'.cell? p0 = some v0 ∧ w'.cell? p1 = some v1 ∧ w'.cell? p2 = some v2 ∧ w'.cell? p3 = some v3 ∧ w'.cell? p4 = some v4 ∧ w'.cell? p5 = some v5 :=
  ⟨cell_later hb h.1, cell_later hb h.2.1, cell_later hb h.2.2.1, cell_later hb h.2.2.2.1, cell_later hb h.2.2.2.2.1, cell_later hb h.2.2.2.2.2⟩
theorem putN_len (y : Nd) : ∀ l : List Nd, (putN y l).length ≤ l.length + 1
  | [] => by simp [putN]
  | x :: l => by
    have := putN_len y l
    unfold putN
    split <;> simp <;> omega
theorem kk_zero {r : Except Int Vv} (h : ∀ k, r = .error k → k ≠ 0) : rKk r = 0 ↔ ∃ v, r = .ok v := by
  cases r with
  | ok v => exact ⟨fun _ => ⟨v, rfl⟩, fun _ => rfl⟩
  | error k => exact ⟨fun e => absurd e (h k rfl), fun ⟨v, e⟩ => by cases e⟩
set_option maxRecDepth 100000 in
set_option maxHeartbeats 16000000 in
theorem values_any (t : Tm) (l : List As) (a : Option Addr) (m len c : Nat) (W : Wd) (w : World) (hm : m = min len 10) (hl : l.length = m) (hcap : len ≤ c) (hcm : c ≤ maxLen) (ht : TIn w w.heap.size t) (hr : ∀ j (h : j < l.length), ∃ b o, a = some ⟨b, o, none⟩ ∧ b < w.heap.size ∧ Five5 w b (o + j * 5) l[j]) (hli : ∀ x ∈ l, AsIn w x) (hW : WIn w w.heap.size W) (hS : Shps w) :
    Calls Tryz.prog 3 #[t.val, .slice a len c, W.val] w (RetB true w) := by
  have S0 := SV.start ht hW hS
  have B0 : Below w.heap.size w ((w.alloc (boxT t)).alloc (boxW W)) := bal (bal (Below.refl _ _) _) _
  have hW2 : (w.alloc (.cells #[.int .i64 t.op, .string t.nm, .int .i64 t.n, .slice t.a t.ks.length t.c] 24)).alloc (.cells #[.int .i64 W.nodes, .slice W.a W.l.length W.c] 28) = (w.alloc (boxT t)).alloc (boxW W) := rfl
  have hX : ((w.alloc (boxT t)).alloc (boxW W)).heap.size = w.heap.size + 1 + 1 := by simp
  have HS0 := mkHid S0
  have HB0 := mkHid B0
  have HL := mkHid hl
  have HROW : Hid (∀ w', Below w.heap.size w w' → ∀ j (h : j < l.length), ∃ b o, a = some ⟨b, o, none⟩ ∧ b < w.heap.size ∧ Five5 w' b (o + j * 5) l[j]) := fun w' hb j h => by
    obtain ⟨b, o, e, hbl, hf⟩ := hr j h
    exact ⟨b, o, e, hbl, hf.keep hb hbl⟩
  have HLI := mkHid hli
  have hm10 : m ≤ 10 := by omega
  have hmc : m ≤ c := by omega
  have HF : Hid (∀ w', Below w.heap.size w w' → Calls Tryz.prog 6 #[.slice a len c] w' (FewA l a m c w')) := fun w' hb => fewA_any l a m len c w' hm hl hcap hcm (fun j h => by
    obtain ⟨b, o, e, hbl, hf⟩ := hr j h
    exact ⟨b, o, e, Nat.lt_of_lt_of_le hbl hb.size, hf.keep hb hbl⟩) (fun x hx => (hli x hx).later hb) (hS.later hb)
  clear S0 B0 ht hW hS hr hli hm hl hcap
  generalize (w.alloc (boxT t)).alloc (boxW W) = W1 at *
  have SC := mkHid (sshown_any W1 HS0.out.s)
  unfold Tm.val Wd.val
  go_enter Tryz.func3, Tryz.ntmps3
  go_wp2_with fail
  ((with_reducible refine SC.out.mono ?_)); rintro e w2 ⟨rfl, hb2⟩
  clear SC hW2
  have HB2 := mkHid hb2
  clear hb2
  have HS2 := mkHid (HS0.out.later HB2.out)
  have C1 := mkHid (small_any t w2 HS2.out.tin HS2.out.s)
  unfold Tm.val at C1
  obtain ⟨g0, g1, g2, g3⟩ := HS2.out.bt
  simp only [Nat.zero_add] at g1 g2 g3
  go_wp2_with fail
  ((with_reducible refine C1.out.mono ?_)); rintro e w3 ⟨rfl, hb3⟩
  clear C1 g0 g1 g2 g3 HS2
  have HB3 := mkHid (bon HB2.out hb3)
  clear hb3 HB2
  have C1 := mkHid (HF.out w3 (bon HB0.out HB3.out))
  clear HF
  unfold FewA at C1
  cases hal : allS l
  · rw [hal] at C1
    simp only [Bool.false_eq_true, if_false] at C1
    go_wp2_with fail
    ((with_reducible refine C1.out.mono ?_)); rintro e w4 ⟨rfl, hb4⟩
    cases hsm : smallB t
    · go_wp2
      go_ret
      exact ⟨rfl, bon HB0.out (bon HB3.out hb4)⟩
    · go_wp2
      go_ret
      exact ⟨rfl, bon HB0.out (bon HB3.out hb4)⟩
  · rw [hal] at C1
    simp only [if_true] at C1
    go_wp2_with fail
    ((with_reducible refine C1.out.mono ?_)); rintro e w4 ⟨rfl, hb4⟩
    clear C1
    have HB4 := mkHid (bon HB3.out hb4)
    clear hb4 HB3
    cases hsm : smallB t
    · go_wp2
      go_ret
      exact ⟨rfl, bon HB0.out HB4.out⟩
    · have HSM : Hid (∀ x ∈ l, errR x.2 = 0) := fun x hx => by
        unfold allS at hal
        exact (smallB_is.1 (List.all_eq_true.1 hal x hx)).1
      have HET : Hid (errR t = 0) := (smallB_is.1 hsm).1
      clear hal hsm
      have HS4 := mkHid (HS0.out.later HB4.out)
      have C1 := mkHid (right_any W w4 HS4.out.win)
      unfold Wd.val at C1
      obtain ⟨q0, q1⟩ := HS4.out.bw
      go_wp2_with fail
      ((with_reducible refine C1.out.mono ?_)); rintro e w5 ⟨rfl, hb5⟩
      clear C1 q0 q1 HS4
      have HB5 := mkHid (bon HB4.out hb5)
      clear hb5 HB4
      have HS5 := mkHid (HS0.out.later HB5.out)
      obtain ⟨q0, q1⟩ := HS5.out.bw
      have hwl : W.l.length ≤ 9223372036854775807 := by have := HS5.out.win.c; have := HS5.out.win.m; unfold maxLen at this; omega
      cases hrt : rightB W
      · go_wp2
        go_ret
        exact ⟨rfl, bon HB0.out HB5.out⟩
      · by_cases h40 : 40 < W.l.length
        · have h41 : (40 : Int) < (W.l.length : Int) := by omega
          go_wp2
          go_ret
          exact ⟨rfl, bon HB0.out HB5.out⟩
        · have h41 : ¬ (40 : Int) < (W.l.length : Int) := by omega
          have HRT := mkHid hrt
          have hRt := right_rt hrt HS5.out.win
          have HLO := mkHid hRt.lo
          have HHI := mkHid hRt.hi
          have HND := mkHid HS5.out.win.nd
          have b6 := bel_alloc w5 (boxW W)
          have HB6 := mkHid (bon HB5.out b6)
          have HTU : Hid (Two (w5.alloc (boxW W)) w5.heap.size (.int .i64 W.nodes) (.slice W.a W.l.length W.c)) := by
            show Two _ _ _ _
            simp [Two, boxW, go_sem]
          have HUW : Hid (UW (w5.alloc (boxW W)) w5.heap.size W) := ⟨HS5.out.win.nd, by simp, .inl (HS5.out.win.keep b6)⟩
          have hW6 : w5.alloc (.cells #[.int .i64 W.nodes, .slice W.a W.l.length W.c] 28) = w5.alloc (boxW W) := rfl
          have hU5 : W1.heap.size ≤ w5.heap.size := HB5.out.size
          clear hrt hRt b6
          generalize w5.alloc (boxW W) = w6 at *
          go_wp2
          clear hW6 HB5 HS5 q0 q1
          generalize w5.heap.size = Ub at *
          go_loopw [11] (fun s11 w' => ∃ (i : Nat) (x : Int) (U : Wd), s11 = .int .i64 x ∧ x = i ∧ i ≤ m ∧ Hid (PU W (l.drop i) U) ∧ Hid (Two w' Ub (.int .i64 U.nodes) (.slice U.a U.l.length U.c)) ∧ Hid (UW w' Ub U) ∧ Hid (Below W1.heap.size W1 w')) (fun s11 _ => (intOf s11).toNat)
          case atStart => exact ⟨m, _, W, rfl, rfl, Nat.le_refl _, by rw [List.drop_of_length_le (by rw [HL.out]; omega)]; exact PU.start HRT.out, HTU, HUW, HB6⟩
          case round =>
            obtain ⟨i, x, U, rfl, hxi, hi, HPU, HTU, HUW, HB⟩ := hrel
            obtain ⟨u0, u1, u2, u3⟩ := HTU.out
            have HBB := mkHid (bon HB0.out HB.out)
            by_cases hi0 : i = 0
            · subst hi0
              obtain rfl : x = 0 := hxi
              rw [List.drop_zero] at HPU
              have HWR := mkHid (HS0.out.later HB.out)
              have HSR : Hid (SbRow wr.heap.size wr (.slice a m c) l) := ⟨a, c, by rw [HL.out], fun j hj => by
                obtain ⟨b, o, e, hbl, hf⟩ := HROW.out wr HBB.out j hj
                exact ⟨b, o, e, Nat.lt_of_lt_of_le hbl HBB.out.size, hf⟩⟩
              have C1 := mkHid (sput_any t l (.slice a m c) wr HWR.out.tin HSR.out (by rw [HL.out]; omega) (fun x hx => (HLI.out x hx).later HBB.out) HWR.out.s)
              have HRP : Hid (errR (rp (gF l.reverse) t) = 0 ∨ errR (rp (gF l.reverse) t) = 7) := rp_right HET.out (fun nm s x hx => by
                obtain ⟨y, -, rfl, he, -, hs⟩ := gF_mem l.reverse hx
                have := (errR_fine he).2.2.2
                omega)
              have HPO : Hid (putO t l = if errR (rp (gF l.reverse) t) ≠ 0 then (zT, errR (rp (gF l.reverse) t)) else (rp (gF l.reverse) t, 0)) := putO_ok HET.out (gE_all HSM.out)
              clear HSR HROW HLI HSM
              unfold Tm.val at C1
              obtain ⟨g0, g1, g2, g3⟩ := HWR.out.bt
              simp only [Nat.zero_add] at g1 g2 g3
              clear u0 u1 u2 u3
              go_wp2_with fail
              ((with_reducible refine C1.out.mono ?_)); rintro e w7 ⟨p, rfl, hp1, hp2, hb7⟩
              clear C1 g0 g1 g2 g3
              have b8 := bel_alloc w7 (boxT p)
              have HB8 := mkHid (bon hb7 b8)
              have HFP := mkHid (box_four w7 p)
              have HP2 := mkHid (hp2.later b8)
              have HP1 := mkHid hp1
              have hW8 : w7.alloc (.cells #[.int .i64 p.op, .string p.nm, .int .i64 p.n, .slice p.a p.ks.length p.c] 24) = w7.alloc (boxT p) := rfl
              clear hp1 hp2 hb7 b8
              unfold Tm.val
              generalize w7.alloc (boxT p) = w8 at *
              rcases HRP.out with h0 | h7
              · rw [h0] at HPO
                simp only [ne_eq, not_true_eq_false, if_false] at HPO
                rw [HPO.out] at HP1 ⊢
                have HPE : Hid (errR p = 0) := by show _ = _; rw [← er_errR, HP1.out]; exact h0
                have HRE := mkHid (HPU.out.same HRT.out HET.out HPE.out HP1.out)
                have S8 := mkHid (HWR.out.later HB8.out)
                have HUW8 := mkHid (HUW.out.later HB8.out)
                have HTU8 := mkHid (two_later HB8.out HTU.out)
                have E1 := mkHid ((eval_any W p w8 S8.out.win HP2.out S8.out.s).mono fun e w'' h => ansE h)
                rw [HRE.out] at E1
                have E2 := mkHid (fun (w' : World) (hb : Below w8.heap.size w8 w') => (eval_any U t w' (HUW8.out.later hb).win (S8.out.later hb).tin (S8.out.later hb).s).mono fun e w'' h => ansE h)
                clear h0 HPO HRP HRE HPE HP1
                unfold Tm.val Wd.val at E1 E2
                generalize rSo (evalR U t) = so at *
                generalize rNn (evalR U t) = nn at *
                generalize rBb (evalR U t) = bb at *
                generalize rLl (evalR U t) = ll at *
                generalize rKk (evalR U t) = kk at *
                obtain ⟨f0, f1, f2, f3⟩ := HFP.out
                simp only [Nat.zero_add] at f1 f2 f3
                obtain ⟨q0, q1⟩ := S8.out.bw
                go_wp2_with fail
                ((with_reducible refine E1.out.mono ?_)); rintro e w9 ⟨a9, c9, rfl, bi9, hl9, hb9⟩
                clear f0 f1 f2 f3 q0 q1 E1 hW8
                have b10 := bon hb9 (bel_alloc w9 (.cells #[.int .i64 so, .int .i64 nn, .bool bb, .slice a9 ll.length c9] 36))
                have HB10 := mkHid b10
                have V10 : FourV (w9.alloc (.cells #[.int .i64 so, .int .i64 nn, .bool bb, .slice a9 ll.length c9] 36)) w9.heap.size (.int .i64 so) (.int .i64 nn) (.bool bb) (.slice a9 ll.length c9) := by simp [FourV, go_sem]
                have BI10 : BIn (w9.alloc (.cells #[.int .i64 so, .int .i64 nn, .bool bb, .slice a9 ll.length c9] 36)) (w9.alloc (.cells #[.int .i64 so, .int .i64 nn, .bool bb, .slice a9 ll.length c9] 36)).heap.size a9 ll := (bi9.keep (bel_alloc _ _)).mono (by simp)
                have HV10 := mkHid V10
                have HBI10 := mkHid BI10
                clear bi9 b10 hb9 V10 BI10
                generalize hW10 : w9.alloc (.cells #[.int .i64 so, .int .i64 nn, .bool bb, .slice a9 ll.length c9] 36) = W10 at *
                obtain ⟨g0, g1, g2, g3⟩ := (S8.out.later HB10.out).bt
                simp only [Nat.zero_add] at g1 g2 g3
                obtain ⟨u0, u1, u2, u3⟩ := two_later HB10.out HTU8.out
                go_wp2_with fail
                ((with_reducible refine (E2.out _ HB10.out).mono ?_)); rintro e w11 ⟨a11, c11, rfl, bi11, -, hb11⟩
                clear g0 g1 g2 g3 u0 u1 u2 u3 E2 hW10
                have b12 := bon hb11 (bel_alloc w11 (.cells #[.int .i64 so, .int .i64 nn, .bool bb, .slice a11 ll.length c11] 36))
                have HB12 := mkHid (bon HB10.out b12)
                have V12 := HV10.out.later b12
                have BI12 := (HBI10.out.keep b12).mono b12.size
                have X12 : FourV (w11.alloc (.cells #[.int .i64 so, .int .i64 nn, .bool bb, .slice a11 ll.length c11] 36)) w11.heap.size (.int .i64 so) (.int .i64 nn) (.bool bb) (.slice a11 ll.length c11) := by simp [FourV, go_sem]
                have BX12 : BIn (w11.alloc (.cells #[.int .i64 so, .int .i64 nn, .bool bb, .slice a11 ll.length c11] 36)) (w11.alloc (.cells #[.int .i64 so, .int .i64 nn, .bool bb, .slice a11 ll.length c11] 36)).heap.size a11 ll := (bi11.keep (bel_alloc _ _)).mono (by simp)
                clear bi11 b12 hb11 HV10 HBI10
                generalize hW12 : w11.alloc (.cells #[.int .i64 so, .int .i64 nn, .bool bb, .slice a11 ll.length c11] 36) = W12 at *
                obtain ⟨x0, x1, x2, x3, -⟩ := V12
                obtain ⟨y0, y1, y2, y3, -⟩ := X12
                have SM := mkHid (same_true so nn bb a9 a11 c9 c11 ll W12 BI12 BX12 (by unfold maxLen at hl9; omega))
                have hkk : (kk == kk) = true := by simp
                clear BI12 BX12
                go_wp2_with fail
                ((with_reducible refine SM.out.mono ?_)); rintro e w14 ⟨rfl, hb14⟩
                go_wp2
                go_ret
                exact ⟨rfl, bon HBB.out (bon HB8.out (bon HB12.out hb14))⟩
              · rw [h7] at HPO
                simp only [ne_eq, Nat.reduceEqDiff, not_false_eq_true, if_true] at HPO
                rw [HPO.out]
                go_wp2
                go_ret
                exact ⟨rfl, bon HBB.out HB8.out⟩
            · obtain ⟨j, rfl⟩ : ∃ j, i = j + 1 := ⟨i - 1, by omega⟩
              have hx0 : (0 : Int) < x := by omega
              have HXJ : Hid (x = (j : Int) + 1) := by show _ = _; omega
              clear hxi hi0
              have hjm : (j : Int) < (m : Int) := by omega
              have HJM := mkHid hjm
              have hjm2 : j < m := by omega
              have hj' : j < l.length := by rw [HL.out]; omega
              obtain ⟨b, o, rfl, hbl, -⟩ := HROW.out wr HBB.out j hj'
              have HFV : Hid (∀ w', Below wr.heap.size wr w' → Five5 w' b (o + j * 5) l[j]) := fun w' hb => by
                obtain ⟨b', o', e, -, hf⟩ := HROW.out w' (bon HBB.out hb) j hj'
                simp only [Option.some.injEq, Addr.mk.injEq, and_true] at e
                obtain ⟨rfl, rfl⟩ := e
                exact hf
              have HDR : Hid (l.drop j = l[j] :: l.drop (j + 1)) := List.drop_eq_getElem_cons hj'
              have HXI := mkHid (HLI.out _ (List.getElem_mem hj'))
              have HXE := mkHid (HSM.out _ (List.getElem_mem hj'))
              have HLD : Hid ((l.drop (j + 1)).length ≤ 10) := by show _ ≤ _; rw [List.length_drop, HL.out]; omega
              generalize l[j] = cur at *
              obtain ⟨xn, xt⟩ := cur
              simp only at HXI HXE
              clear hj' hbl
              generalize l.drop (j + 1) = ls at *
              have HWR := mkHid (HS0.out.later HB.out)
              have HTY : Hid (Res W xt.srt (ev W xt)) := by
                have hRt := right_rt HRT.out HWR.out.win
                exact ev_ty hRt xt (HXI.out.1.later HBB.out) (errR_fine HXE.out).2.2.1
              have HEV : Hid (evalR W xt = ev W xt) := by
                show _ = _
                unfold evalR
                rw [if_pos HXE.out, if_pos HRT.out]
              have EC := mkHid (fun (w' : World) (hb : Below wr.heap.size wr w') => (eval_any W xt w' (HWR.out.win.later hb) ((HXI.out.1.later HBB.out).later hb) (HWR.out.s.later hb)).mono fun e w'' h => ansO h)
              have HOK : Hid (rKk (evalR W xt) = 0 → ∃ vv, ev W xt = .ok vv ∧ Ty W xt.srt vv ∧ rSo (evalR W xt) = vv.sort ∧ rNn (evalR W xt) = vv.n ∧ rBb (evalR W xt) = vv.bb ∧ rLl (evalR W xt) = vv.l) := fun h0 => by
                have hty := HTY.out
                rw [HEV.out] at h0 ⊢
                cases hr : ev W xt with
                | ok v =>
                  rw [hr] at hty
                  exact ⟨v, rfl, hty, rfl, rfl, rfl, rfl⟩
                | error k =>
                  rw [hr] at hty h0
                  have hty : k = 4 ∨ k = 5 := hty
                  have h0 : k = 0 := h0
                  omega
              clear HTY HEV
              unfold Tm.val Wd.val at EC
              generalize rSo (evalR W xt) = so at *
              generalize rNn (evalR W xt) = nn at *
              generalize rBb (evalR W xt) = bb at *
              generalize rLl (evalR W xt) = ll at *
              generalize rKk (evalR W xt) = kk at *
              have HSF : Hid (∀ w', Below wr.heap.size wr w' → w'.cell? ⟨b, o + j * 5 + 1, none⟩ = some (.int .i64 xt.op) ∧ w'.cell? ⟨b, o + j * 5 + 1 + 1, none⟩ = some (.string xt.nm) ∧ w'.cell? ⟨b, o + j * 5 + 1 + 2, none⟩ = some (.int .i64 xt.n) ∧ w'.cell? ⟨b, o + j * 5 + 1 + 3, none⟩ = some (.slice xt.a xt.ks.length xt.c) ∧ w'.cell? ⟨w.heap.size + 1, 0, none⟩ = some (.int .i64 W.nodes) ∧ w'.cell? ⟨w.heap.size + 1, 1, none⟩ = some (.slice W.a W.l.length W.c)) := fun w' hb => by
                obtain ⟨c0, c1, c2, c3, c4⟩ := HFV.out w' hb
                obtain ⟨q0, q1⟩ := (HWR.out.later hb).bw
                exact ⟨c1, c2, c3, c4, q0, q1⟩
              have e1 : Below wr.heap.size wr wr.drew := bdrew (Below.refl _ _)
              have e2 : Below wr.heap.size wr (wr.alloc (.cells #[.int .i64 0, .int .i64 0, .bool false, .slice none 0 0] 36)).drew := bdrew (bal (Below.refl _ _) _)
              have FZ : FourV (wr.alloc (.cells #[.int .i64 0, .int .i64 0, .bool false, .slice none 0 0] 36)).drew wr.heap.size (.int .i64 0) (.int .i64 0) (.bool false) (.slice none 0 0) := by simp [FourV, go_sem]
              clear u0 u1 u2 u3
              go_wp2_with fail
              obtain rfl := HXJ.out
              have HX1 : Hid (IntKind.i64.wrap ((j : Int) + 1 - 1) = (j : Int)) := by
                show _ = _
                rw [show (j : Int) + 1 - 1 = (j : Int) by omega]
                exact IntWalk.i64_in _ (by omega)
              have HX2 : Hid (IntKind.i64.wrap (j : Int) = (j : Int)) := IntWalk.i64_in _ (by omega)
              clear hx0
              go_cut [12, 13] (fun s12 s13 wx => ∃ (blk : Nat) (aa : Option Addr) (cc : Nat), s12 = .pointer (some ⟨blk, 0, none⟩) ∧ s13 = .int .i64 kk ∧ FourV wx blk (.int .i64 so) (.int .i64 nn) (.bool bb) (.slice aa ll.length cc) ∧ BIn wx wx.heap.size aa ll ∧ ll.length ≤ cc ∧ cc ≤ maxLen ∧ Below wr.heap.size wr wx)
              case first =>
                have hx1 := HX1.out
                have hx2 := HX2.out
                have hx3 := HJM.out
                go_region_held2 (fun w' => w'.cell? ⟨b, o + j * 5 + 1, none⟩ = some (.int .i64 xt.op) ∧ w'.cell? ⟨b, o + j * 5 + 1 + 1, none⟩ = some (.string xt.nm) ∧ w'.cell? ⟨b, o + j * 5 + 1 + 2, none⟩ = some (.int .i64 xt.n) ∧ w'.cell? ⟨b, o + j * 5 + 1 + 3, none⟩ = some (.slice xt.a xt.ks.length xt.c) ∧ w'.cell? ⟨w.heap.size + 1, 0, none⟩ = some (.int .i64 W.nodes) ∧ w'.cell? ⟨w.heap.size + 1, 1, none⟩ = some (.slice W.a W.l.length W.c))
                  ((refine HSF.out _ ?_; first | assumption | exact bal (by assumption) _ | exact bset (bset (bset (bset hx7 (Nat.le_refl _) _) (Nat.le_refl _) _) (Nat.le_refl _) _) (Nat.le_refl _) _))
                  (first
                    | (go_at_call 8; ((with_reducible refine (EC.out _ e2).mono ?_)); rintro e w7 ⟨a7, c7, rfl, ho7, hb7⟩; have hx7 := bon e2 hb7; obtain ⟨z0, z1, z2, z3, z4, z5, z6, z7⟩ := FourV.later FZ hb7)
                    | (go_at_call 8; ((with_reducible refine (EC.out _ e1).mono ?_)); rintro e w7 ⟨a7, c7, rfl, ho7, hb7⟩; have hx7 := bon e1 hb7))
                all_goals
                  go_wp2_with fail
                  go_meet
                  first
                    | (refine ⟨wr.heap.size, a7, c7, rfl, rfl, ?_, ?_, ho7.cap.1, ho7.cap.2, bset (bset (bset (bset hx7 (Nat.le_refl _) _) (Nat.le_refl _) _) (Nat.le_refl _) _) (Nat.le_refl _) _⟩
                       · simp [FourV, go_sem, z0, z1, z2, z3, z4, z5, z6, z7]
                       · have hb9 : wr.heap.size < (wr.alloc (.cells #[.int .i64 0, .int .i64 0, .bool false, .slice none 0 0] 36)).drew.heap.size := World.block_lt_of_cell? _ _ FZ.1
                         exact Own.bin (own_put (own_put (own_put (own_put ho7 (p := ⟨wr.heap.size, 0, none⟩) hb9 _) (p := ⟨wr.heap.size, 1, none⟩) hb9 _) (p := ⟨wr.heap.size, 2, none⟩) hb9 _) (p := ⟨wr.heap.size, 3, none⟩) hb9 _))
                    | (refine ⟨w7.heap.size, a7, c7, rfl, rfl, ?_, ?_, ho7.cap.1, ho7.cap.2, bal hx7 _⟩
                       · simp [FourV, go_sem]
                       · exact (ho7.bin.keep (bel_alloc _ _)).mono (bel_alloc _ _).size)
              case rest =>
                obtain ⟨blk, aa, cc, rfl, rfl, hFB, hBI, hlc, hcc, hbx⟩ := hcut
                have HFB := mkHid hFB
                have HBI := mkHid hBI
                have HBX := mkHid hbx
                clear hFB hBI hbx e1 e2 FZ EC HSF
                have HBW := mkHid (bon HB.out HBX.out)
                by_cases hk0 : kk = 0
                · obtain ⟨vv, hev, hty, rfl, rfl, rfl, rfl⟩ := HOK.out hk0
                  subst hk0
                  have HEVV := mkHid hev
                  have HTYV := mkHid hty
                  clear HOK hev hty
                  have CN := mkHid (name_any xn wc HXI.out.2)
                  obtain ⟨c0, c1, c2, c3, c4⟩ := HFV.out wc HBX.out
                  simp only at c0
                  clear c1 c2 c3 c4
                  have hx1 := HX1.out
                  have hx2 := HX2.out
                  have hx3 := HJM.out
                  go_wp2_with fail
                  ((with_reducible refine CN.out.mono ?_)); rintro e w8 ⟨rfl, rfl⟩
                  clear CN
                  cases hnx : nameB xn
                  · go_wp2
                    go_ret
                    exact ⟨rfl, bon HB0.out HBW.out⟩
                  · have HNX := mkHid hnx
                    clear hnx
                    have HUC := mkHid (HUW.out.later HBX.out)
                    have HTC := mkHid (two_later HBX.out HTU.out)
                    obtain ⟨tf1, tf2, tf3⟩ := ty_fit ⟨by have := (errR_fine HXE.out).2.2.1; omega, srt_le xt⟩ HHI.out HTYV.out
                    have HVI : Hid (VIn wc wc.heap.size ⟨vv.sort, vv.n, vv.bb, aa, cc, vv.l⟩) := ⟨tf1, tf2, hlc, hcc, HBI.out⟩
                    have HLU : Hid (U.l.length ≤ 50) := by
                      have h1 := HPU.out.len
                      have h2 := HLD.out
                      show _ ≤ _
                      omega
                    have WT := mkHid (fun (w' : World) (hb : Below wc.heap.size wc w') => with_any U xn ⟨vv.sort, vv.n, vv.bb, aa, cc, vv.l⟩ w' (HUC.out.later hb).win (HVI.out.later hb) HXI.out.2 (by have := HLU.out; omega) (right_sets HPU.out.rt HUC.out.win) (by show vv.l.length ≤ _; omega))
                    unfold Wd.val Vl.val at WT
                    simp only at WT
                    have d0 : wc.drew.cell? ⟨b, o + j * 5, none⟩ = some (.string xn) := c0
                    obtain ⟨v0, v1, v2, v3, -⟩ := HFB.out
                    have d1 : wc.drew.cell? ⟨blk, 0, none⟩ = some (.int .i64 vv.sort) := v0
                    have d2 : wc.drew.cell? ⟨blk, 1, none⟩ = some (.int .i64 vv.n) := v1
                    have d3 : wc.drew.cell? ⟨blk, 2, none⟩ = some (.bool vv.bb) := v2
                    have d4 : wc.drew.cell? ⟨blk, 3, none⟩ = some (.slice aa vv.l.length cc) := v3
                    obtain ⟨u0, u1, u2, u3⟩ := HTC.out
                    have d5 : wc.drew.cell? ⟨Ub, 0, none⟩ = some (.int .i64 U.nodes) := u0
                    have d6 : wc.drew.cell? ⟨Ub, 1, none⟩ = some (.slice U.a U.l.length U.c) := u1
                    have HDW : Hid (Below wc.heap.size wc wc.drew) := bdrew (Below.refl _ _)
                    have CW := mkHid (WT.out _ HDW.out)
                    clear WT c0 v0 v1 v2 v3 u0 u1 u2 u3
                    go_wp2_with fail
                    refine wp_region_still_tail 8 (by kernel_rfl) (by kernel_rfl) ?_
                    change wpStill _ _ wc.drew (fun a' => wpList _ _ _ _ a' wc.drew) _ _
                    generalize wc.drew = wd at *
                    simp only [List.take_succ_cons, List.take_zero, List.drop_succ_cons, List.drop_zero]
                    have hx1 := HX1.out
                    have hx2 := HX2.out
                    have hx3 := HJM.out
                    repeat still_step
                    refine wpStill_nil ?_
                    have HTD := mkHid (two_later HDW.out HTC.out)
                    have HUD := mkHid (HUC.out.later HDW.out)
                    clear d0 d1 d2 d3 d4 d5 d6
                    go_wp2_with (go_at_call 10; ((with_reducible refine CW.out.mono ?_)); rintro e w9 ⟨V, rfl, hVn, hVs, hVr, hb9⟩; obtain ⟨u0, u1, u2, u3⟩ := two_later hb9 HTD.out)
                    have hUl : Ub < wd.heap.size := HUD.out.2.1
                    have HB9 := mkHid (bon HBW.out (bon HDW.out hb9))
                    have hPU : PU W (l.drop j) V := by
                      rw [HDR.out]
                      exact HPU.out.step HLO.out HXE.out HNX.out HEVV.out HTYV.out (v := ⟨vv.sort, vv.n, vv.bb, aa, cc, vv.l⟩) ⟨rfl, rfl, rfl, rfl⟩ (by have := HLU.out; omega) hVn hVs (by rw [hVs.1]; exact putN_len _ _)
                    have hTw : Two ((w9.setCell ⟨Ub, 0, none⟩ (.int .i64 U.nodes)).setCell ⟨Ub, 1, none⟩ (.slice V.a V.l.length V.c)) Ub (.int .i64 V.nodes) (.slice V.a V.l.length V.c) := by
                      rw [hVn]
                      simp [Two, go_sem, u0, u1, u2, u3]
                    have hUw : UW ((w9.setCell ⟨Ub, 0, none⟩ (.int .i64 U.nodes)).setCell ⟨Ub, 1, none⟩ (.slice V.a V.l.length V.c)) Ub V := by
                      have hs9 := hb9.size
                      have hsz : ((w9.setCell ⟨Ub, 0, none⟩ (.int .i64 U.nodes)).setCell ⟨Ub, 1, none⟩ (.slice V.a V.l.length V.c)).heap.size = w9.heap.size := by simp
                      refine ⟨by rw [hVn]; exact HUD.out.1, by rw [hsz]; omega, .inr ⟨wd.heap.size, hUl, by rw [hsz]; exact hs9, ?_⟩⟩
                      exact (hVr.put (p := ⟨Ub, 0, none⟩) hUl _).put (p := ⟨Ub, 1, none⟩) hUl _
                    have hbW : Below W1.heap.size W1 ((w9.setCell ⟨Ub, 0, none⟩ (.int .i64 U.nodes)).setCell ⟨Ub, 1, none⟩ (.slice V.a V.l.length V.c)) := bset (bset HB9.out (p := ⟨Ub, 0, none⟩) hU5 _) (p := ⟨Ub, 1, none⟩) hU5 _
                    go_roundw
                    case rel => exact ⟨j, _, V, rfl, rfl, by omega, hPU, hTw, hUw, hbW⟩
                    case measure => simp [intOf]
                · clear HOK
                  go_wp2
                  go_ret
                  exact ⟨rfl, bon HB0.out HBW.out⟩
theorem values_row (t : Tm) (a : Option Addr) (n c : Nat) (l : List As) (W : Wd) (w : World) (ht : TIn w w.heap.size t) (hcap : n ≤ c) (hcm : c ≤ maxLen) (hl : l.length = n) (hr : ∀ j (h : j < l.length), ∃ b o, a = some ⟨b, o, none⟩ ∧ b < w.heap.size ∧ Five5 w b (o + j * 5) l[j]) (hin : ∀ x ∈ l, AsIn w x) (hW : WIn w w.heap.size W) (hS : Shps w) : Calls Tryz.prog 3 #[t.val, .slice a n c, W.val] w (RetB true w) := by
  refine values_any t (l.take 10) a (min n 10) n c W w rfl (by rw [List.length_take, hl]; omega) hcap hcm ht (fun j h => ?_) (fun x hx => hin x (List.mem_of_mem_take hx)) hW hS
  rw [List.length_take] at h
  obtain ⟨b, o, e, hb, hf⟩ := hr j (by omega)
  exact ⟨b, o, e, hb, by rw [List.getElem_take]; exact hf⟩
end
section
open Go.ChangeShapes Go.WideShapes Go.ChangeAt Go.RowKit

theorem laidOutT : laidOutB Tryz.prog = true := by kernel_rfl
theorem cells24 : Tryz.prog.cellsOf 24 = 4 := by kernel_rfl
theorem cells3 : Tryz.prog.cellsOf 3 = 1 := by kernel_rfl
theorem cells9 : Tryz.prog.cellsOf 9 = 1 := by kernel_rfl
theorem cells2 : Tryz.prog.cellsOf 2 = 1 := by kernel_rfl
theorem cells4 : Tryz.prog.cellsOf 4 = 1 := by kernel_rfl
theorem cells22 : Tryz.prog.cellsOf 22 = 1 := by kernel_rfl
theorem cells48 : Tryz.prog.cellsOf 93 = 2 := by kernel_rfl
theorem cells50 : Tryz.prog.cellsOf 95 = 7 := by kernel_rfl
theorem cells51 : Tryz.prog.cellsOf 96 = 203 := by kernel_rfl
theorem fit_of {a : Int} (h : (Lit.int .i64 a).wf = true) : fitB a = true := by
  have := bounds_i64 h
  rw [fitB_iff]; omega
theorem pick_list {P : Nat → Tm → Prop} : ∀ n, (∀ i, i < n → ∃ T, P i T) → ∃ ks : List Tm, ks.length = n ∧ ∀ i (h : i < ks.length), P i ks[i]
  | 0, _ => ⟨[], rfl, fun i h => by simp at h⟩
  | n + 1, h => by
    obtain ⟨ks, hl, hk⟩ := pick_list n (fun i hi => h i (by omega))
    obtain ⟨T, hT⟩ := h n (by omega)
    refine ⟨ks ++ [T], by simp [hl], fun i hi => ?_⟩
    by_cases e : i < ks.length
    · rw [List.getElem_append_left e]; exact hk i e
    · have : i = n := by simp at hi; omega
      subst this
      rw [List.getElem_append_right (by omega)]
      simpa [hl] using hT

set_option maxRecDepth 100000 in
theorem term_open {H : Type} {enc : TypeId × Value → H} {W : World} : ∀ (fuel : Nat) (cs : List Value) (x : DataW H × List MemPlace),
    DataW.trod enc Tryz.prog W 0 (fun _ => true) true fuel 24 cs = some x → ∃ T : Tm, cs = [.int .i64 T.op, .string T.nm, .int .i64 T.n, .slice T.a T.ks.length T.c] ∧ TIn W W.heap.size T := by
  intro fuel
  induction fuel using Nat.strongRecOn with
  | ind fuel ih =>
    intro cs x h
    obtain ⟨xs, m, rfl, hx, hlen, hxs, hg⟩ := DataW.trod_struct Tryz.underlying24 h
    rw [cells24] at hlen
    match cs, hlen with
    | [c0, c1, c2, c3], _ =>
      have hx4 : xs.length = 4 := hxs
      match xs, hx4 with
      | [y0, y1, y2, y3], _ =>
        have g0 : DataW.trod enc Tryz.prog W 0 (fun _ => true) true m 3 (([c0, c1, c2, c3].drop 0).take (Tryz.prog.cellsOf 3)) = some y0 := hg 0 _ rfl
        rw [cells3] at g0
        change DataW.trod enc Tryz.prog W 0 (fun _ => true) true m 3 [c0] = some y0 at g0
        have g1 : DataW.trod enc Tryz.prog W 0 (fun _ => true) true m 9 (([c0, c1, c2, c3].drop 1).take (Tryz.prog.cellsOf 9)) = some y1 := hg 1 _ rfl
        rw [cells9] at g1
        change DataW.trod enc Tryz.prog W 0 (fun _ => true) true m 9 [c1] = some y1 at g1
        have g2 : DataW.trod enc Tryz.prog W 0 (fun _ => true) true m 2 (([c0, c1, c2, c3].drop 2).take (Tryz.prog.cellsOf 2)) = some y2 := hg 2 _ rfl
        rw [cells2] at g2
        change DataW.trod enc Tryz.prog W 0 (fun _ => true) true m 2 [c2] = some y2 at g2
        have g3 : DataW.trod enc Tryz.prog W 0 (fun _ => true) true m 22 (([c0, c1, c2, c3].drop 3).take (Tryz.prog.cellsOf 22)) = some y3 := hg 3 _ rfl
        rw [cells22] at g3
        change DataW.trod enc Tryz.prog W 0 (fun _ => true) true m 22 [c3] = some y3 at g3
        obtain ⟨op, e0, -, w0⟩ := DataW.trod_int Tryz.underlying3 g0
        obtain ⟨nm, e1, -, w1⟩ := DataW.trod_string Tryz.underlying9 g1
        obtain ⟨n, e2, -, w2⟩ := DataW.trod_int Tryz.underlying2 g2
        simp only [List.cons.injEq, and_true] at e0 e1 e2
        subst e0 e1 e2
        rcases DataW.trod_slice Tryz.underlying22 g3 with ⟨e3, -⟩ | ⟨a, len, cap, elems, rest, m', rfl, e3, -, -, hl, hm, hel, he, -, -⟩
        · simp only [List.cons.injEq, and_true] at e3
          subst e3
          exact ⟨.node op nm n none 0 [], rfl, .mk _ (fit_of w0) (fit_of w2) w1 (Nat.le_refl _) (Nat.zero_le _) (fun j hj => by simp [Tm.ks] at hj) (fun k hk => by simp [Tm.ks] at hk)⟩
        · simp only [List.cons.injEq, and_true] at e3
          subst e3
          rw [cells24] at he
          have key : ∀ i, i < len → ∃ T : Tm, TIn W W.heap.size T ∧ W.cell? ((a.add (i * 4)).add 0) = some (.int .i64 T.op) ∧ W.cell? ((a.add (i * 4)).add 1) = some (.string T.nm) ∧ W.cell? ((a.add (i * 4)).add 2) = some (.int .i64 T.n) ∧ W.cell? ((a.add (i * 4)).add 3) = some (.slice T.a T.ks.length T.c) := by
            intro i hi
            have h1 := he i hi
            rw [List.getElem?_eq_getElem (by omega)] at h1
            obtain ⟨cs', hc, ht⟩ := Option.bind_eq_some_iff.1 h1
            obtain ⟨-, -, hat⟩ := World.cells?_some hc
            obtain ⟨T, e, hT⟩ := ih m' (by omega) cs' _ ht
            subst e
            exact ⟨T, hT, by rw [hat 0 (by omega)]; rfl, by rw [hat 1 (by omega)]; rfl, by rw [hat 2 (by omega)]; rfl, by rw [hat 3 (by omega)]; rfl⟩
          obtain ⟨ks, hkl, hk⟩ := pick_list len key
          refine ⟨.node op nm n (some a) cap ks, by rw [← hkl]; rfl, .mk _ (fit_of w0) (fit_of w2) w1 (by show ks.length ≤ cap; omega) hm (fun j hj => ?_) (fun k hkk => ?_)⟩
          · obtain ⟨hT, k0, k1, k2, k3⟩ := hk j hj
            obtain ⟨b, o, spot⟩ := a
            have hspot : spot = none := by
              have hj' : j < ks.length := hj
              obtain ⟨-, q0, -⟩ := hk 0 (by omega)
              simpa [Addr.add] using World.cell?_spot q0
            subst hspot
            refine ⟨b, o, rfl, ?_, ?_⟩
            · have := World.block_lt_of_cell? _ _ k0
              simpa [Addr.add_lit] using this
            · simp only [Addr.add_lit, Nat.add_zero] at k0 k1 k2 k3
              exact ⟨k0, k1, k2, k3⟩
          · obtain ⟨j, hj, rfl⟩ := List.mem_iff_getElem.1 hkk
            exact (hk j hj).1
set_option maxRecDepth 100000 in
theorem term_in {H : Type} {enc : TypeId × Value → H} {W : World} {base : Nat} {v : Value} {d : DataW H} {ps : List MemPlace} (hv : Value.okWide Tryz.prog W .any base 24 v)
    (h : DataW.Trod enc Tryz.prog W 0 (fun _ => true) true 24 v d ps) : ∃ T : Tm, v = T.val ∧ TIn W W.heap.size T := by
  obtain ⟨cs, rfl, hsz⟩ := okWide_struct Tryz.underlying24 hv
  obtain ⟨fuel, hf⟩ := h
  obtain ⟨T, e, hT⟩ := term_open fuel _ _ hf
  refine ⟨T, ?_, hT⟩
  have e' : cs.toList = [.int .i64 T.op, .string T.nm, .int .i64 T.n, .slice T.a T.ks.length T.c] := e
  unfold Tm.val
  rw [← e']

/- the table -/
def shD {H : Type} (r : Sh) : DataW H := .agg [.lit (.int .i64 r.sort), .lit (.bool r.name), .lit (.bool r.number), .lit (.bool r.many), .lit (.int .i64 r.count), .agg [.lit (.int .i64 r.p0), .lit (.int .i64 r.p1)]]
set_option maxRecDepth 100000 in
theorem laid_rows {H : Type} : (Rows.laid_ashlar_term_shapes : DataW H) = .agg (shRows.map shD) := by rfl
set_option maxRecDepth 100000 in
theorem sh_open {H : Type} {enc : TypeId × Value → H} {W : World} {held : Bool} {fuel : Nat} {cs : List Value} {x : DataW H × List MemPlace} {r : Sh} (h : DataW.trod enc Tryz.prog W 0 (fun _ => true) held fuel 95 cs = some x) (hx : x.1 = shD r) :
    cs = [.int .i64 r.sort, .bool r.name, .bool r.number, .bool r.many, .int .i64 r.count, .int .i64 r.p0, .int .i64 r.p1] := by
  obtain ⟨xs, m, rfl, rfl, hlen, hxs, hg⟩ := DataW.trod_struct Tryz.underlying95 h
  rw [cells50] at hlen
  match cs, hlen with
  | [c0, c1, c2, c3, c4, c5, c6], _ =>
    have hx6 : xs.length = 6 := hxs
    match xs, hx6 with
    | [y0, y1, y2, y3, y4, y5], _ =>
      have g0 : DataW.trod enc Tryz.prog W 0 (fun _ => true) held m 3 (([c0, c1, c2, c3, c4, c5, c6].drop 0).take (Tryz.prog.cellsOf 3)) = some y0 := hg 0 _ rfl
      rw [cells3] at g0
      change DataW.trod enc Tryz.prog W 0 (fun _ => true) held m 3 [c0] = some y0 at g0
      have g1 : DataW.trod enc Tryz.prog W 0 (fun _ => true) held m 4 (([c0, c1, c2, c3, c4, c5, c6].drop 1).take (Tryz.prog.cellsOf 4)) = some y1 := hg 1 _ rfl
      rw [cells4] at g1
      change DataW.trod enc Tryz.prog W 0 (fun _ => true) held m 4 [c1] = some y1 at g1
      have g2 : DataW.trod enc Tryz.prog W 0 (fun _ => true) held m 4 (([c0, c1, c2, c3, c4, c5, c6].drop 2).take (Tryz.prog.cellsOf 4)) = some y2 := hg 2 _ rfl
      rw [cells4] at g2
      change DataW.trod enc Tryz.prog W 0 (fun _ => true) held m 4 [c2] = some y2 at g2
      have g3 : DataW.trod enc Tryz.prog W 0 (fun _ => true) held m 4 (([c0, c1, c2, c3, c4, c5, c6].drop 3).take (Tryz.prog.cellsOf 4)) = some y3 := hg 3 _ rfl
      rw [cells4] at g3
      change DataW.trod enc Tryz.prog W 0 (fun _ => true) held m 4 [c3] = some y3 at g3
      have g4 : DataW.trod enc Tryz.prog W 0 (fun _ => true) held m 3 (([c0, c1, c2, c3, c4, c5, c6].drop 4).take (Tryz.prog.cellsOf 3)) = some y4 := hg 4 _ rfl
      rw [cells3] at g4
      change DataW.trod enc Tryz.prog W 0 (fun _ => true) held m 3 [c4] = some y4 at g4
      have g5 : DataW.trod enc Tryz.prog W 0 (fun _ => true) held m 93 (([c0, c1, c2, c3, c4, c5, c6].drop 5).take (Tryz.prog.cellsOf 93)) = some y5 := hg 5 _ rfl
      rw [cells48] at g5
      change DataW.trod enc Tryz.prog W 0 (fun _ => true) held m 93 [c5, c6] = some y5 at g5
      obtain ⟨k0, e0, f0, -⟩ := DataW.trod_int Tryz.underlying3 g0
      obtain ⟨k1, e1, f1⟩ := DataW.trod_bool Tryz.underlying4 g1
      obtain ⟨k2, e2, f2⟩ := DataW.trod_bool Tryz.underlying4 g2
      obtain ⟨k3, e3, f3⟩ := DataW.trod_bool Tryz.underlying4 g3
      obtain ⟨k4, e4, f4, -⟩ := DataW.trod_int Tryz.underlying3 g4
      obtain ⟨zs, m5, rfl, f5, -, hz2, hz⟩ := DataW.trod_array Tryz.underlying93 g5
      match zs, hz2 with
      | [z0, z1], _ =>
        have q0 := hz 0 (by omega)
        have q1 := hz 1 (by omega)
        rw [cells3] at q0 q1
        change DataW.trod enc Tryz.prog W 0 (fun _ => true) held m5 3 [c5] = some z0 at q0
        change DataW.trod enc Tryz.prog W 0 (fun _ => true) held m5 3 [c6] = some z1 at q1
        obtain ⟨k5, e5, p5, -⟩ := DataW.trod_int Tryz.underlying3 q0
        obtain ⟨k6, e6, p6, -⟩ := DataW.trod_int Tryz.underlying3 q1
        subst f0 f1 f2 f3 f4 f5 p5 p6
        simp only [shD, List.map_cons, List.map_nil, DataW.agg.injEq, List.cons.injEq, DataW.lit.injEq, Lit.int.injEq, Lit.bool.injEq, and_true, true_and] at hx
        simp only [List.cons.injEq, and_true] at e0 e1 e2 e3 e4 e5 e6
        obtain ⟨rfl, rfl, rfl, rfl, rfl, rfl, rfl⟩ := hx
        subst e0 e1 e2 e3 e4 e5 e6
        rfl
def laidT : List (String × DataW Unit) := [("ashlar/term.shapes", Rows.laid_ashlar_term_shapes)]
theorem gShapes : Tryz.prog.globalNamed "ashlar/term.shapes" = some 0 := by kernel_rfl
theorem tShapes : (Tryz.prog.globals[0]?).map (·.type) = some 96 := by kernel_rfl
set_option maxRecDepth 100000 in
theorem of_laid {W : World} (h : laidMetH Tryz.prog laidT W) : Shps W := by
  rw [MakeChecks.laidMetH_plain _ _ _ (by kernel_rfl)] at h
  obtain ⟨ps, ⟨g0, t0, cs0, f0, p0, q0, hg0, ht0, hv0, hd0, _, _⟩, _, _⟩ := h
  obtain rfl := Option.some.inj (gShapes.symm.trans hg0)
  obtain rfl := Option.some.inj (tShapes.symm.trans ht0)
  obtain ⟨xs, m, rfl, hx, hlen, hn, hel⟩ := DataW.trod_array Tryz.underlying96 hd0
  rw [cells50] at hel
  simp only [Prod.mk.injEq] at hx
  have hx1 := hx.1
  rw [laid_rows] at hx1
  simp only [DataW.agg.injEq] at hx1
  intro j hj
  have h1 := hel j hj
  rw [List.getElem?_eq_getElem (by omega)] at h1
  have h2 : (xs[j]'(by omega)).1 = shD (shRow j) := by
    have : (xs.map (·.1))[j]? = (shRows.map shD)[j]? := by rw [hx1]
    rw [List.getElem?_map, List.getElem?_map, List.getElem?_eq_getElem (by omega), List.getElem?_eq_getElem (show j < shRows.length from hj)] at this
    have h3 := Option.some.inj this
    show (fun x : DataW Unit × List MemPlace => x.1) xs[j] = _
    rw [h3]
    congr 1
    unfold shRow
    rw [List.getD_eq_getElem?_getD, List.getElem?_eq_getElem (show j < shRows.length from hj)]
    rfl
  have h4 := sh_open h1 h2
  have hcell : ∀ i, i < 7 → W.cell? ⟨0, j * 7 + i, none⟩ = ((cs0.toList.drop (j * 7)).take 7)[i]? := by
    intro i hi
    rw [List.getElem?_take, if_pos hi, List.getElem?_drop]
    have := World.var?_cell hg0 hv0 (j * 7 + i)
    simpa using this
  rw [h4] at hcell
  exact ⟨hcell 0 (by omega), hcell 1 (by omega), hcell 2 (by omega), hcell 3 (by omega), hcell 4 (by omega), hcell 5 (by omega), hcell 6 (by omega)⟩
theorem own : ownKnob Tryz.prog.godebug = none := by kernel_rfl
set_option maxRecDepth 100000 in
theorem door_met (os : Os) (args : Array Value) : laidMetH Tryz.prog laidT ((World.doorLaid Tryz.prog 400 os).forCall (fun _ _ => 0) ⟨#[], args, []⟩).memory :=
  laidMetH_of_parts3 (fuel := 8) (laidMet_of_run' 8 (by kernel_rfl) (by kernel_rfl)) (by kernel_rfl) (by kernel_rfl)
end
section
def laidS : List (String × DataW Unit) := [("math/bits.deBruijn32tab", Rows.laid_math_bits_deBruijn32tab), ("math/bits.deBruijn64tab", Rows.laid_math_bits_deBruijn64tab), ("internal/strconv.uint64pow10", Rows.laid_internal_strconv_uint64pow10), ("ashlar/term.shapes", Rows.laid_ashlar_term_shapes)]
theorem laidS_shapes : laidS.filter (fun x => x.1 == "ashlar/term.shapes") = laidT := by
  simp only [laidS, laidT, List.filter_cons, List.filter_nil, show (("math/bits.deBruijn32tab" : String) == "ashlar/term.shapes") = false from by decide, show (("math/bits.deBruijn64tab" : String) == "ashlar/term.shapes") = false from by decide, show (("internal/strconv.uint64pow10" : String) == "ashlar/term.shapes") = false from by decide, beq_self_eq_true, if_true, Bool.false_eq_true, if_false]
theorem of_laidS {W : World} (h : laidMetH Tryz.prog laidS W) : Shps W :=
  of_laid (laidS_shapes ▸ h.filter (fun x => x.1 == "ashlar/term.shapes"))
set_option maxRecDepth 100000 in
theorem door_metS (os : Os) (args : Array Value) : laidMetH Tryz.prog laidS ((World.doorLaid Tryz.prog 400 os).forCall (fun _ _ => 0) ⟨#[], args, []⟩).memory :=
  laidMetH_of_parts3 (fuel := 8) (laidMet_of_run' 8 (by kernel_rfl) (by kernel_rfl)) (by kernel_rfl) (by kernel_rfl)
end
section
open Go.ChangeShapes Go.WideShapes Go.ChangeAt Go.RowKit

theorem pick_row {α : Type} {P : Nat → α → Prop} : ∀ n, (∀ i, i < n → ∃ T, P i T) → ∃ ks : List α, ks.length = n ∧ ∀ i (h : i < ks.length), P i ks[i]
  | 0, _ => ⟨[], rfl, fun i h => by simp at h⟩
  | n + 1, h => by
    obtain ⟨ks, hl, hk⟩ := pick_row n (fun i hi => h i (by omega))
    obtain ⟨T, hT⟩ := h n (by omega)
    refine ⟨ks ++ [T], by simp [hl], fun i hi => ?_⟩
    by_cases e : i < ks.length
    · rw [List.getElem_append_left e]; exact hk i e
    · have : i = n := by simp at hi; omega
      subst this
      rw [List.getElem_append_right (by omega)]
      simpa [hl] using hT
set_option maxRecDepth 100000 in
theorem terms_in {H : Type} {enc : TypeId × Value → H} {W : World} {base : Nat} {v : Value} {d : DataW H} {ps : List MemPlace} (hv : Value.okWide Tryz.prog W .any base 22 v)
    (h : DataW.Trod enc Tryz.prog W 0 (fun _ => true) true 22 v d ps) : ∃ (a : Option Addr) (len c : Nat) (ks : List Tm), v = .slice a len c ∧ len ≤ c ∧ c ≤ maxLen ∧ ks.length = len ∧ (∀ j (hj : j < ks.length), ∃ b o, a = some ⟨b, o, none⟩ ∧ b < W.heap.size ∧ Four W b (o + j * 4) ks[j]) ∧ ∀ k ∈ ks, TIn W W.heap.size k := by
  obtain ⟨a0, len0, cap0, rfl⟩ := okWide_slice Tryz.underlying22 hv
  obtain ⟨fuel, hf⟩ := h
  rcases DataW.trod_slice Tryz.underlying22 hf with ⟨e3, -⟩ | ⟨a, len, cap, elems, rest, m', rfl, e3, -, -, hl, hm, hel, he, -, -⟩
  · simp only [Value.cells, List.cons.injEq, and_true, Value.slice.injEq] at e3
    obtain ⟨rfl, rfl, rfl⟩ := e3
    exact ⟨none, 0, 0, [], rfl, Nat.le_refl _, Nat.zero_le _, rfl, fun j hj => absurd hj (by simp), fun k hk => absurd hk (by simp)⟩
  · simp only [Value.cells, List.cons.injEq, and_true, Value.slice.injEq] at e3
    obtain ⟨rfl, rfl, rfl⟩ := e3
    rw [cells24] at he
    have key : ∀ i, i < len0 → ∃ T : Tm, TIn W W.heap.size T ∧ W.cell? ((a.add (i * 4)).add 0) = some (.int .i64 T.op) ∧ W.cell? ((a.add (i * 4)).add 1) = some (.string T.nm) ∧ W.cell? ((a.add (i * 4)).add 2) = some (.int .i64 T.n) ∧ W.cell? ((a.add (i * 4)).add 3) = some (.slice T.a T.ks.length T.c) := by
      intro i hi
      have h1 := he i hi
      rw [List.getElem?_eq_getElem (by omega)] at h1
      obtain ⟨cs', hc, ht⟩ := Option.bind_eq_some_iff.1 h1
      obtain ⟨-, -, hat⟩ := World.cells?_some hc
      obtain ⟨T, e, hT⟩ := term_open m' _ _ ht
      subst e
      exact ⟨T, hT, by rw [hat 0 (by omega)]; rfl, by rw [hat 1 (by omega)]; rfl, by rw [hat 2 (by omega)]; rfl, by rw [hat 3 (by omega)]; rfl⟩
    obtain ⟨ks, hkl, hk⟩ := pick_row len0 key
    refine ⟨some a, len0, cap0, ks, rfl, hl, hm, hkl, fun j hj => ?_, fun k hkk => ?_⟩
    · obtain ⟨hT, k0, k1, k2, k3⟩ := hk j hj
      obtain ⟨b, o, spot⟩ := a
      have hspot : spot = none := by
        obtain ⟨-, q0, -⟩ := hk 0 (by omega)
        simpa [Addr.add] using World.cell?_spot q0
      subst hspot
      refine ⟨b, o, rfl, ?_, ?_⟩
      · have := World.block_lt_of_cell? _ _ k0
        simpa [Addr.add_lit] using this
      · simp only [Addr.add_lit, Nat.add_zero] at k0 k1 k2 k3
        exact ⟨k0, k1, k2, k3⟩
    · obtain ⟨j, hj, rfl⟩ := List.mem_iff_getElem.1 hkk
      exact (hk j hj).1
theorem cellsAs : Tryz.prog.cellsOf 41 = 5 := by kernel_rfl
set_option maxRecDepth 100000 in
theorem asgs_in {H : Type} {enc : TypeId × Value → H} {W : World} {base : Nat} {v : Value} {d : DataW H} {ps : List MemPlace} (hv : Value.okWide Tryz.prog W .any base 25 v)
    (h : DataW.Trod enc Tryz.prog W 0 (fun _ => true) true 25 v d ps) : ∃ (a : Option Addr) (len c : Nat) (l : List As), v = .slice a len c ∧ len ≤ c ∧ c ≤ maxLen ∧ l.length = len ∧ (∀ j (hj : j < l.length), ∃ b o, a = some ⟨b, o, none⟩ ∧ b < W.heap.size ∧ Five5 W b (o + j * 5) l[j]) ∧ ∀ x ∈ l, AsIn W x := by
  obtain ⟨a0, len0, cap0, rfl⟩ := okWide_slice Tryz.underlying25 hv
  obtain ⟨fuel, hf⟩ := h
  rcases DataW.trod_slice Tryz.underlying25 hf with ⟨e3, -⟩ | ⟨a, len, cap, elems, rest, m', rfl, e3, -, -, hl, hm, hel, he, -, -⟩
  · simp only [Value.cells, List.cons.injEq, and_true, Value.slice.injEq] at e3
    obtain ⟨rfl, rfl, rfl⟩ := e3
    exact ⟨none, 0, 0, [], rfl, Nat.le_refl _, Nat.zero_le _, rfl, fun j hj => absurd hj (by simp), fun k hk => absurd hk (by simp)⟩
  · simp only [Value.cells, List.cons.injEq, and_true, Value.slice.injEq] at e3
    obtain ⟨rfl, rfl, rfl⟩ := e3
    rw [cellsAs] at he
    have key : ∀ i, i < len0 → ∃ x : As, AsIn W x ∧ W.cell? ((a.add (i * 5)).add 0) = some (.string x.1) ∧ W.cell? ((a.add (i * 5)).add 1) = some (.int .i64 x.2.op) ∧ W.cell? ((a.add (i * 5)).add 2) = some (.string x.2.nm) ∧ W.cell? ((a.add (i * 5)).add 3) = some (.int .i64 x.2.n) ∧ W.cell? ((a.add (i * 5)).add 4) = some (.slice x.2.a x.2.ks.length x.2.c) := by
      intro i hi
      have h1 := he i hi
      rw [List.getElem?_eq_getElem (by omega)] at h1
      obtain ⟨cs', hc, ht⟩ := Option.bind_eq_some_iff.1 h1
      obtain ⟨-, -, hat⟩ := World.cells?_some hc
      obtain ⟨xs, m, -, hx, hlen, hxs, hg⟩ := DataW.trod_struct Tryz.underlying41 ht
      rw [cellsAs] at hlen
      match cs', hlen with
      | [c0, c1, c2, c3, c4], _ =>
        have hx2 : xs.length = 2 := hxs
        match xs, hx2 with
        | [y0, y1], _ =>
          have g0 : DataW.trod enc Tryz.prog W 0 (fun _ => true) true m 9 (([c0, c1, c2, c3, c4].drop 0).take (Tryz.prog.cellsOf 9)) = some y0 := hg 0 _ rfl
          rw [cells9] at g0
          change DataW.trod enc Tryz.prog W 0 (fun _ => true) true m 9 [c0] = some y0 at g0
          have g1 : DataW.trod enc Tryz.prog W 0 (fun _ => true) true m 24 (([c0, c1, c2, c3, c4].drop 1).take (Tryz.prog.cellsOf 24)) = some y1 := hg 1 _ rfl
          rw [cells24] at g1
          change DataW.trod enc Tryz.prog W 0 (fun _ => true) true m 24 [c1, c2, c3, c4] = some y1 at g1
          obtain ⟨nm, e0, -, w0⟩ := DataW.trod_string Tryz.underlying9 g0
          obtain ⟨T, e, hT⟩ := term_open m _ _ g1
          simp only [List.cons.injEq, and_true] at e0 e
          obtain ⟨rfl, rfl, rfl, rfl⟩ := e
          subst e0
          exact ⟨(nm, T), ⟨hT, w0⟩, by rw [hat 0 (by omega)]; rfl, by rw [hat 1 (by omega)]; rfl, by rw [hat 2 (by omega)]; rfl, by rw [hat 3 (by omega)]; rfl, by rw [hat 4 (by omega)]; rfl⟩
    obtain ⟨l, hkl, hk⟩ := pick_row len0 key
    refine ⟨some a, len0, cap0, l, rfl, hl, hm, hkl, fun j hj => ?_, fun k hkk => ?_⟩
    · obtain ⟨hT, k0, k1, k2, k3, k4⟩ := hk j hj
      obtain ⟨b, o, spot⟩ := a
      have hspot : spot = none := by
        obtain ⟨-, q0, -⟩ := hk 0 (by omega)
        simpa [Addr.add] using World.cell?_spot q0
      subst hspot
      refine ⟨b, o, rfl, ?_, ?_⟩
      · have := World.block_lt_of_cell? _ _ k0
        simpa [Addr.add_lit] using this
      · simp only [Addr.add_lit, Nat.add_zero] at k0 k1 k2 k3 k4
        exact ⟨k0, k1, k2, k3, k4⟩
    · obtain ⟨j, hj, rfl⟩ := List.mem_iff_getElem.1 hkk
      exact (hk j hj).1
end
end Go.Proofs.YtdfebacjbapahaaGreatDoor
