/-
  CnfMeans, walked: it returns true.
-/
import Derived.Test.YtaiachmolkjedaaDoorCnS
import Derived.Test.YtaiachmolkjedaaDoorCnT
namespace Go.Proofs.YtaiachmolkjedaaDoor
open Go.RowKit

theorem means_facts {t : Tm} {A : List Tm} (hE : cE t = 0) (hl : A.map Tm.er = cA t) : t.srt = 4 ∧ cov A t = true ∧ cN t = A.length + hlp t ∧ cC t = cat A.length (dfs A t A.length) ++ [[lit A t A.length]] ∧ Good A.length (dfs A t A.length) ∧ (dfs A t A.length).length = hlp t ∧ lb (lit A t A.length) (A.length + hlp t) := by
  have hl2 : A.map Tm.er = ats t [] := by rw [hl]; unfold cA; rw [if_pos hE]
  have hs := (cE_small hE).2.2
  have hc : cov A t = true := by
    rw [← cov_cong (fun t => has_map A t), hl2]
    exact cov_ats t []
  refine ⟨hs, hc, ?_, ?_, Good.dfs t hs hc _ (Nat.le_refl _), dfs_len A t _, lit_lb t hs hc _ (Nat.le_refl _)⟩
  · unfold cN; rw [if_pos hE, ← hl2, List.length_map]
  · unfold cC
    rw [if_pos hE, ← hl2, List.length_map, cls_cong (fun t => fnd_map A t), lit_cong (fun t => fnd_map A t), cls_cat]
theorem bv_set {bs : List Bool} {v : Nat} (x : Bool) (h : v < bs.length) : bv (bs.set v x) v = x := by
  unfold bv
  rw [List.getD_eq_getElem?_getD, List.getElem?_set]
  simp [h]
theorem bv_off {bs : List Bool} {v i : Nat} (x : Bool) (h : i ≠ v) : bv (bs.set v x) i = bv bs i := by
  unfold bv
  rw [List.getD_eq_getElem?_getD, List.getD_eq_getElem?_getD, List.getElem?_set, if_neg (fun e => h e.symm)]
theorem step_b {bs : List Bool} {v al : Nat} {ds : List (Int × List Int)} (hg : Good al ds) (h1 : al < v) (h2 : v ≤ al + ds.length) (hv : v < bs.length) (hs : Sat (bv bs) (v - 1) al ds) :
    ∃ b : Bool, (∀ x : Bool, kn (bv (bs.set v x)) v (cat al ds) = (x == b)) ∧ Sat (bv (bs.set v b)) v al ds := by
  obtain ⟨b, hb⟩ := Sat.step ds al hg h1 h2 hs
  refine ⟨b, fun x => ?_, (hb _ (fun i hi => bv_off b hi)).2 (bv_set b hv)⟩
  have h3 := kn_iff (bv (bs.set v x)) v ds al hg
  have h4 := hb (bv (bs.set v x)) (fun i hi => bv_off x hi)
  rw [h4, bv_set x hv] at h3
  rw [Bool.eq_iff_iff, h3]
  simp
/-- but for the place v the same -/
def OffV (v : Nat) (bs bs1 : List Bool) : Prop := ∀ y : Bool, bs1.set v y = bs.set v y
/-- how far the two ways were tried -/
def Tri (b : Bool) (k : Nat) (wy : Int) (vl : Bool) : Prop := (k = 0 ∧ wy = 0 ∧ vl = false) ∨ (k = 1 ∧ wy = (if b then 0 else 1) ∧ vl = false) ∨ (k = 2 ∧ wy = 1 ∧ vl = b)
theorem tri_step {b : Bool} {k : Nat} {wy : Int} {vl : Bool} (h : Tri b k wy vl) (hk : k < 2) : 0 ≤ wy ∧ wy ≤ 1 ∧ ((decide (k = 1) == b) = true → Tri b (k + 1) (wy + 1) (decide (k = 1))) ∧ ((decide (k = 1) == b) = false → Tri b (k + 1) wy vl) := by
  rcases h with ⟨rfl, rfl, rfl⟩ | ⟨rfl, rfl, rfl⟩ | ⟨rfl, -, -⟩
  · refine ⟨by omega, by omega, fun e => .inr (.inl ?_), fun e => .inr (.inl ?_)⟩ <;> cases b <;> simp_all
  · refine ⟨by cases b <;> simp, by cases b <;> simp, fun e => .inr (.inr ?_), fun e => .inr (.inr ?_)⟩ <;> cases b <;> simp_all
  · omega
theorem tri_end {b : Bool} {k : Nat} {wy : Int} {vl : Bool} (h : Tri b k wy vl) (hk : ¬ k < 2) : k = 2 ∧ wy = 1 ∧ vl = b := by
  rcases h with ⟨rfl, -, -⟩ | ⟨rfl, -, -⟩ | h
  · omega
  · omega
  · exact h
/-- the cells that the last test reads -/
def Means5 (w : World) (p : Addr) (r : Value) (b : Nat) (t : Tm) : Prop := w.cell? p = some r ∧ w.cell? ⟨b, 0, none⟩ = some (.int .i64 t.op) ∧ w.cell? ⟨b, 1, none⟩ = some (.string t.nm) ∧ w.cell? ⟨b, 2, none⟩ = some (.int .i64 t.n) ∧ w.cell? ⟨b, 3, none⟩ = some (.slice t.a t.ks.length t.c)
set_option maxRecDepth 100000 in
set_option maxHeartbeats 16000000 in
theorem means_any (t : Tm) (w : World) (ht : TIn w w.heap.size t) (hS : Shps w) : Calls Tryd.prog 8 #[t.val] w (RetV (.bool true) w) := by
  have B0 := bel_alloc w (boxT t)
  have F1 := box_four w t
  have CH := mkHid (shown_any (w.alloc (boxT t)) (hS.later B0))
  have HS := mkHid (hS.later B0)
  have HT := mkHid (ht.later B0)
  have hW2 : w.alloc (.cells #[.int .i64 t.op, .string t.nm, .int .i64 t.n, .slice t.a t.ks.length t.c] 24) = w.alloc (boxT t) := rfl
  generalize w.alloc (boxT t) = W1 at *
  unfold Tm.val
  clear hS ht
  have HF1 := mkHid F1
  clear F1
  go_enter Tryd.func8, Tryd.ntmps8
  go_wp2_with fail
  ((with_reducible refine CH.out.mono ?_)); rintro e w2 ⟨rfl, hb2⟩
  clear CH hW2
  obtain ⟨x0, x1, x2, x3⟩ := HF1.out.later hb2
  simp only [Nat.zero_add] at x1 x2 x3
  have C1 := mkHid (clauses_any t w2 (HT.out.later hb2) (HS.out.later hb2))
  unfold Tm.val at C1
  have B2 := bon B0 hb2
  clear B0
  go_wp2_with fail
  ((with_reducible refine C1.out.mono ?_)); rintro e w3 ⟨vC, vA, A, us, F, base, rfl, hb3, -, -, hFw, hC, hA, hl⟩
  clear C1 x0 x1 x2 x3
  have HRR := mkHid (hC.rr (cC_short t).1 (cC_short t).2)
  have HA := mkHid (hA.row hFw)
  have HAE := mkHid (hA.els hFw)
  obtain ⟨aA, ca, rfl, hAl, -, -⟩ := hA
  obtain ⟨aC, cc, rfl, -, hcc, -⟩ := HRR.out
  have HB3 := mkHid (bon B2 hb3)
  have HT3 := mkHid ((HT.out.later hb2).later hb3)
  have HF3 := mkHid (HF1.out.later (bon hb2 hb3))
  clear hC B2 hb2 hb3 hFw HT HS HF1
  by_cases hE : cE t = 0
  · have hlen := cC_len hE
    by_cases h6 : A.length ≤ 6
    · by_cases h60 : (cC t).length ≤ 60
      · obtain ⟨m1, m2, m3, m4, m5, m6, m7⟩ := means_facts hE hl
        have hz := cE_small hE
        have hcn := cN_le t
        rw [hE]
        have HM := mkHid (And.intro m1 (And.intro m2 (And.intro m4 (And.intro m5 (And.intro m6 m7)))))
        have hn4 : cN t ≤ 4000 := by omega
        obtain ⟨al, hal⟩ : ∃ al, A.length = al := ⟨_, rfl⟩
        have HAL := mkHid hal
        obtain ⟨nn, hnn⟩ : ∃ nn, cN t = nn := ⟨_, rfl⟩
        have HNC := mkHid hnn
        obtain ⟨cl, hcl⟩ : ∃ cl, (cC t).length = cl := ⟨_, rfl⟩
        have HCL := mkHid hcl
        have HNN : Hid (nn = al + hlp t) := by show _ = _; omega
        have hc1 : 1 ≤ cl := by omega
        have hc0 : ¬ cl = 0 := by omega
        have hc0' : ((cl : Int) == 0) = false := by simp; omega
        have hc0'' : ¬ (cl : Int) = 0 := by omega
        rw [hal] at h6 ⊢
        rw [hcl] at h60 hcc ⊢
        rw [hnn] at hn4 ⊢
        have HDD := mkHid hz.2.1
        clear m1 m2 m3 m4 m5 m6 m7 hz hcn hal hnn hcl hlen hAl hl hE
        have h6' : ¬ 6 < al := by omega
        have h60' : ¬ 60 < cl := by omega
        go_wp2_with fail
        obtain ⟨P, hP1, hP2⟩ : ∃ P : Nat, IntKind.u64.wrap (2 ^ al) = (P : Int) ∧ P ≤ 64 := by
          have hc : al = 0 ∨ al = 1 ∨ al = 2 ∨ al = 3 ∨ al = 4 ∨ al = 5 ∨ al = 6 := by omega
          rcases hc with rfl | rfl | rfl | rfl | rfl | rfl | rfl
          · exact ⟨1, by decide, by decide⟩
          · exact ⟨2, by decide, by decide⟩
          · exact ⟨4, by decide, by decide⟩
          · exact ⟨8, by decide, by decide⟩
          · exact ⟨16, by decide, by decide⟩
          · exact ⟨32, by decide, by decide⟩
          · exact ⟨64, by decide, by decide⟩
        obtain ⟨cm, rfl⟩ : ∃ cm, cl = cm + 1 := ⟨cl - 1, by omega⟩
        have hcm1 : cm ≤ cc := by omega
        have hcm2 : cm < cc := by omega
        have hnnal : al ≤ nn := by have := HNN.out; omega
        have HTK : Hid (RR w3 (.slice aC cm cc) (cat A.length (dfs A t A.length))) := by
          have h1 := HRR.out
          have e1 := HM.out.2.2.1
          rw [e1] at h1
          have h2 := RR.take (n := (cat A.length (dfs A t A.length)).length) h1 (by simp)
          have h3 : (cat A.length (dfs A t A.length)).length = cm := by
            have := HCL.out
            rw [e1] at this
            simp at this
            exact this
          rw [h3] at h2
          have h4 : List.take cm (cat A.length (dfs A t A.length) ++ [[lit A t A.length]]) = cat A.length (dfs A t A.length) := by
            rw [← h3]; simp
          rw [h4] at h2
          exact h2
        have HXX : Hid (∀ c ∈ cat A.length (dfs A t A.length), ∀ x ∈ c, x ≠ 0 ∧ x.natAbs < nn + 1) := fun c hc x hx => by
          have h1 := cC_lb t c (by rw [HM.out.2.2.1]; exact List.mem_append_left _ hc) x hx
          obtain ⟨h2, h3⟩ := h1
          exact ⟨h2, by rw [HNC.out] at h3; omega⟩
        clear hc0 hc0' hc0'' hc1 h60 h60' h6'
        go_loopw [8] (fun i w' => ∃ (s : Nat), i = .int .u64 (s : Int) ∧ s ≤ P ∧ Hid (Below w3.heap.size w3 w')) (fun i _ => (P - intOf i).toNat)
        case atStart => exact ⟨0, rfl, Nat.zero_le _, mkHid (Below.refl _ _)⟩
        case round =>
          obtain ⟨s, rfl, hs, BW⟩ := hrel
          by_cases hsP : s < P
          · have hsP2 : (s : Int) < (P : Int) := by omega
            obtain ⟨cs, hcs1, hcs2, hmk0⟩ := made_bools (nn + 1) (by omega)
            have hmk : ∀ w : World, (Instr.makeSlice 51 (.int .i64 ((nn : Int) + 1)) (.int .i64 ((nn : Int) + 1))).run Tryd.prog w = .ok (.slice (some ⟨w.heap.size, 0, none⟩) (nn + 1) (nn + 1)) (w.alloc (.cells cs 4)) := fun w => by
              have := hmk0 w
              rw [show (((nn + 1 : Nat) : Int)) = (nn : Int) + 1 by omega] at this
              exact this
            have hb6 := bel_alloc wr (.cells cs 4)
            have HR0 : BRow (wr.alloc (.cells cs 4)) wr.heap.size (nn + 1) (List.replicate (nn + 1) false) := by
              have := World.ownsRow_lit (base := wr.heap.size) (size := 1) (e := 4) wr cs (nn + 1) (Nat.le_refl _) (by unfold maxLen; omega) hcs1
              rw [hcs2] at this
              exact this
            have HBR0 := mkHid HR0
            have HB6 := mkHid (bon BW.out hb6)
            have hgs : w3.heap.size ≤ wr.heap.size := BW.out.size
            clear HR0 hcs1 hcs2 hmk0 hb6
            generalize hW6 : wr.alloc (.cells cs 4) = W6 at *
            generalize hg : wr.heap.size = g at *
            have hal9 : al ≤ 100 := by omega
            have HBT0 : ∀ w', But g W6 w' → Below w3.heap.size w3 w' := fun w' h => HB6.out.trans (h.below hgs HB6.out.size)
            have HBTW := mkHid HBT0
            clear HBT0
            go_wp2_with fail
            clear hmk hW6
            go_loopw [10] (fun i w' => ∃ (k : Nat) (x : Int) (bs : List Bool), i = .int .i64 x ∧ x = k ∧ k ≤ al ∧ Hid (But g W6 w') ∧ Hid (BRow w' g (nn + 1) bs) ∧ Hid (∀ i, i < k → bv bs (i + 1) = bitI (s : Int) i)) (fun i _ => (al - intOf i).toNat)
            case atStart => exact ⟨0, 0, _, rfl, rfl, Nat.zero_le _, mkHid (But.refl _ _), HBR0, mkHid (fun i h => by omega)⟩
            case round =>
              obtain ⟨k, y, bs, rfl, hyk, hk, HBT, HBR, HBI⟩ := hrel
              obtain rfl : y = (k : Int) := hyk
              by_cases hlt : k < al
              · have hk2 : (k : Int) < (al : Int) := by omega
                have hk3 : (k : Int) + 1 < (nn : Int) + 1 := by omega
                have hlb := HBR.out.len
                obtain ⟨u1, c1⟩ : ∃ u, wr.cell? ⟨g, k + 1, none⟩ = some u := ⟨_, HBR.out.cell (k + 1) (by omega)⟩
                have f1 := HBR.out.frozen (k + 1)
                have HS := mkHid (HBR.out.set (k + 1) (bits BinOp.and IntKind.u64 ((s : Int) / 2 ^ k) 1 == 1))
                have HBS := mkHid (HBT.out.set (p := ⟨g, k + 1, none⟩) (.inl rfl) (.bool (bits BinOp.and IntKind.u64 ((s : Int) / 2 ^ k) 1 == 1)))
                have HB2 : Hid (∀ i, i < k + 1 → bv (bs.set (k + 1) (bits BinOp.and IntKind.u64 ((s : Int) / 2 ^ k) 1 == 1)) (i + 1) = bitI (s : Int) i) := fun i hi => by
                  by_cases h : i = k
                  · subst h; exact bv_set _ (by omega)
                  · rw [bv_off _ (by omega)]; exact HBI.out i (by omega)
                clear hlb
                go_wp2
                go_roundw
                case rel => exact ⟨k + 1, _, _, rfl, by omega, by omega, HBS, HS, HB2⟩
                case measure => simp [intOf]; omega
              · obtain rfl : k = al := by omega
                go_wp2
                go_loopw [11] (fun i w' => ∃ (v : Nat) (x : Int) (bs : List Bool), i = .int .i64 x ∧ x = v ∧ k + 1 ≤ v ∧ v ≤ nn + 1 ∧ Hid (But g W6 w') ∧ Hid (BRow w' g (nn + 1) bs) ∧ Hid (∀ i, i < k → bv bs (i + 1) = bitI (s : Int) i) ∧ Hid (Sat (bv bs) (v - 1) A.length (dfs A t A.length))) (fun i _ => (nn + 1 - intOf i).toNat)
                case atStart => exact ⟨k + 1, _, bs, rfl, by omega, Nat.le_refl _, by omega, HBT, HBR, HBI, mkHid (Sat.high _ _ (by rw [HAL.out]; omega))⟩
                case round =>
                  clear HBT HBR HBI
                  obtain ⟨v, y4, bs, rfl, hyv, hv1, hv2, HBT, HBR, HBI, HSA⟩ := hrel
                  obtain rfl : y4 = (v : Int) := hyv
                  by_cases hvn : v ≤ nn
                  · have hvn2 : (v : Int) ≤ (nn : Int) := by omega
                    have hlb := HBR.out.len
                    obtain ⟨b, hb1, hb2⟩ := step_b HM.out.2.2.2.1 (by rw [HAL.out]; omega) (by rw [HM.out.2.2.2.2.1, HAL.out, ← HNN.out]; exact hvn) (by omega) HSA.out
                    have HSB := mkHid hb1
                    have HSN := mkHid hb2
                    have HLP : Hid (∀ c ∈ cat A.length (dfs A t A.length), ∀ x ∈ c, x ≠ 0 ∧ x.natAbs < nn + 1) := HXX.out
                    have HKN := mkHid (fun (w' : World) (bs' : List Bool) (hb : BRow w' g (nn + 1) bs') (hbt : Below w3.heap.size w3 w') => known_any g (nn + 1) v bs' (cat A.length (dfs A t A.length)) _ w' (HTK.out.later hbt) hb (by omega) HLP.out)
                    clear hb1 hb2
                    go_wp2
                    go_loopw [12, 13, 14] (fun p q i w' => ∃ (k4 : Nat) (x wy : Int) (vl : Bool) (bs1 : List Bool), i = .int .i64 x ∧ x = k4 ∧ p = .int .i64 wy ∧ q = .bool vl ∧ k4 ≤ 2 ∧ Hid (But g W6 w') ∧ Hid (BRow w' g (nn + 1) bs1) ∧ Hid (OffV v bs bs1) ∧ Hid (Tri b k4 wy vl)) (fun _ _ i _ => (2 - intOf i).toNat)
                    case atStart => exact ⟨0, 0, 0, false, bs, rfl, rfl, rfl, rfl, by omega, HBT, HBR, mkHid (fun _ => rfl), mkHid (.inl ⟨rfl, rfl, rfl⟩)⟩
                    case round =>
                      clear HBT HBR
                      obtain ⟨k4, y6, wy, vl, bs1, rfl, hy6, rfl, rfl, hk4, HBT, HBR, HSS, hcase⟩ := hrel
                      obtain rfl : y6 = (k4 : Int) := hy6
                      obtain ⟨u1, c1⟩ : ∃ u, wr.cell? ⟨g, v, none⟩ = some u := ⟨_, HBR.out.cell v (by rw [HBR.out.len]; omega)⟩
                      have f1 := HBR.out.frozen v
                      have hv9 : (v : Int) < (nn : Int) + 1 := by omega
                      by_cases hk5 : k4 < 2
                      · obtain ⟨hw0, hw1, T1, T0⟩ := tri_step hcase.out hk5
                        have hzz : ((k4 : Int) == 1) = decide (k4 = 1) := by rw [Bool.eq_iff_iff]; simp; omega
                        obtain ⟨z, hz⟩ : ∃ z : Bool, ((k4 : Int) == 1) = z := ⟨_, rfl⟩
                        rw [← hzz, hz] at T1 T0
                        obtain ⟨kb, hkb⟩ : ∃ kb : Bool, (z == b) = kb := ⟨_, rfl⟩
                        rw [hkb] at T1 T0
                        have HT1 := mkHid T1
                        have HT0 := mkHid T0
                        have HS := mkHid (HBR.out.set v z)
                        have HBS := mkHid (HBT.out.set (p := ⟨g, v, none⟩) (.inl rfl) (.bool z))
                        have HK := mkHid (HKN.out _ _ HS.out (HBTW.out _ HBS.out))
                        rw [HSS.out z, HSB.out z, hkb] at HK
                        have HCV : Hid ((wr.setCell ⟨g, v, none⟩ (.bool z)).cell? ⟨g, v, none⟩ = some (.bool z)) := by
                          have := HS.out.cell v (by rw [HS.out.len]; omega)
                          show _ = _
                          simpa using this
                        have HS2 : Hid (OffV v bs (bs1.set v z)) := fun y => by rw [List.set_set]; exact HSS.out y
                        have hk6 : (k4 : Int) < 2 := by omega
                        have hwa : wy + 1 ≤ 9223372036854775807 := by omega
                        have hwb : -9223372036854775808 ≤ wy + 1 := by omega
                        clear HSB HKN HLP hcase T1 T0 hzz hkb hk5 hw0 hw1 HSA HBI HSN HSS HTK HXX HBR HBT
                        clear hk4
                        cases kb
                        · go_wp2_with (go_at_call 34; ((with_reducible refine HK.out.mono ?_)); rintro e w8 ⟨rfl, hb8⟩; have cv3 := cell_later hb8 HCV.out)
                          go_roundw
                          case rel => (repeat apply Exists.intro); exact ⟨⟨k4 + 1, _, wy, vl, bs1.set v z, rfl, by omega, rfl, rfl, by omega, mkHid (HBS.out.trans (But.of hb8)), mkHid (HS.out.later hb8), HS2, mkHid (HT0.out (by first | rfl | trivial))⟩, rfl⟩
                          case measure => simp [intOf]; omega
                        · go_wp2_with (go_at_call 34; ((with_reducible refine HK.out.mono ?_)); rintro e w8 ⟨rfl, hb8⟩; have cv3 := cell_later hb8 HCV.out)
                          go_roundw
                          case rel => (repeat apply Exists.intro); exact ⟨⟨k4 + 1, _, wy + 1, z, bs1.set v z, rfl, by omega, rfl, rfl, by omega, mkHid (HBS.out.trans (But.of hb8)), mkHid (HS.out.later hb8), HS2, mkHid (HT1.out (by first | rfl | trivial))⟩, rfl⟩
                          case measure => simp [intOf]; omega
                      · obtain ⟨rfl, rfl, hvb⟩ := tri_end hcase.out hk5
                        obtain rfl : vl = b := hvb
                        clear hk5
                        have HS := mkHid (HBR.out.set v vl)
                        have HBS := mkHid (HBT.out.set (p := ⟨g, v, none⟩) (.inl rfl) (.bool vl))
                        have HBI2 : Hid (∀ i, i < k → bv (bs1.set v vl) (i + 1) = bitI (s : Int) i) := fun i hi => by
                          rw [HSS.out vl, bv_off _ (by omega)]; exact HBI.out i hi
                        have HSA2 : Hid (Sat (bv (bs1.set v vl)) (v + 1 - 1) A.length (dfs A t A.length)) := by
                          show Sat _ _ _ _
                          rw [HSS.out vl, Nat.add_sub_cancel]
                          exact HSN.out
                        clear HSN HBI HSA HSB HKN HLP hcase
                        go_wp2
                        go_roundw
                        case rel => exact ⟨v + 1, _, bs1.set v vl, rfl, by omega, by omega, by omega, HBS, HS, HBI2, HSA2⟩
                        case measure => simp [intOf]; omega
                  · obtain rfl : v = nn + 1 := by omega
                    have hsat := HSA.out
                    rw [Nat.add_sub_cancel] at hsat
                    have hkn : kn (bv bs) nn (cat A.length (dfs A t A.length)) = true := (kn_iff (bv bs) nn (dfs A t A.length) A.length HM.out.2.2.2.1).2 hsat
                    have hlt : lv (bv bs) (lit A t A.length) = tru (bitI (s : Int)) A t := lit_tru (fun i hi => HBI.out i (by rw [← HAL.out]; exact hi)) t HM.out.1 HM.out.2.1 A.length (Nat.le_refl _) (by rw [HAL.out, ← HNN.out]; exact Nat.le_refl _) hsat
                    have hwb := HBTW.out _ HBT.out
                    have HKN := mkHid (fun (w' : World) (hb : Below wr.heap.size wr w') => known_any g (nn + 1) nn bs (cat A.length (dfs A t A.length)) _ w' ((HTK.out.later hwb).later hb) (HBR.out.later hb) (by omega) HXX.out)
                    rw [hkn] at HKN
                    have hRL := HRR.out
                    obtain ⟨a', c', e', -, -, hRR2⟩ := hRL
                    simp only [Value.slice.injEq] at e'
                    obtain ⟨rfl, -, rfl⟩ := e'
                    have hcm : cm < (cC t).length := by rw [HCL.out]; omega
                    obtain ⟨b', o', r', rfl, -, hrc, hri⟩ := hRR2 cm hcm
                    have hlast : (cC t)[cm] = [lit A t A.length] := by
                      have e1 := HM.out.2.2.1
                      have h3 : (cat A.length (dfs A t A.length)).length = cm := by
                        have := HCL.out
                        rw [e1] at this
                        simp at this
                        exact this
                      have h4 : (cC t)[cm]? = some [lit A t A.length] := by rw [e1, List.getElem?_append_right (by omega), h3, Nat.sub_self]; rfl
                      rw [List.getElem?_eq_getElem hcm] at h4
                      exact Option.some.inj h4
                    rw [hlast] at hri
                    have hlb := HM.out.2.2.2.2.2
                    have HHD := mkHid (fun (w' : World) (hb : Below wr.heap.size wr w') => clholds_any g (nn + 1) bs [lit A t A.length] r' w' ((hri.later hwb).later hb) (HBR.out.later hb) (by omega) (fun x hx => by
                      rw [List.mem_singleton.1 hx]
                      refine ⟨hlb.1, ?_⟩
                      have h9 := hlb.2
                      have h8 := HNN.out
                      have h7 := HAL.out
                      omega))
                    rw [show cl (bv bs) [lit A t A.length] = lv (bv bs) (lit A t A.length) by simp [cl], hlt] at HHD
                    have HTR := mkHid (fun (w' : World) (hb : Below wr.heap.size wr w') => truth_any A _ (s : Int) (by rw [HAL.out]; exact h6) t HM.out.1 w' ((HA.out.later hwb).later hb) (fun x hx => ⟨((HAE.out x hx).1.later hwb).later hb, (HAE.out x hx).2.2⟩) ((HT3.out.later hwb).later hb) HDD.out HM.out.2.1)
                    rw [HAL.out] at HTR
                    obtain ⟨x0, x1, x2, x3⟩ := (HF3.out.later hwb)
                    simp only [Nat.zero_add] at x1 x2 x3
                    have n3 := cell_later hwb hrc
                    unfold Tm.val at HTR
                    have hs1 : IntKind.i64.wrap ((cm : Int) + 1 - 1) = (cm : Int) := by rw [IntKind.wrap_i64]; omega
                    have hs2 : wrap64 ((cm : Int) + 1 - 1) = (cm : Int) := by unfold wrap64; omega
                    have hs3 : IntKind.i64.wrap (cm : Int) = (cm : Int) := by rw [IntKind.wrap_i64]; omega
                    have hs4 : wrap64 (cm : Int) = (cm : Int) := by unfold wrap64; omega
                    have hcm3 : (cm : Int) < (cm : Int) + 1 := Int.lt_add_one_iff.2 (Int.le_refl _)
                    have hcm4 : (0 : Int) ≤ (cm : Int) := Int.natCast_nonneg cm
                    have hsP5 : s + 1 ≤ P := hsP
                    have HCO : Hid (∀ w', Below wr.heap.size wr w' → Means5 w' ⟨b', o' + cm, none⟩ r' w.heap.size t) := fun w' hb => ⟨cell_later hb n3, cell_later hb x0, cell_later hb x1, cell_later hb x2, cell_later hb x3⟩
                    clear hsat hkn hlt hRR2 hcm hri hlast hlb hrc HBT HBR HBI HSA HTK HXX
                    generalize tru (bitI (s : Int)) A t = tv at *
                    go_wp2_with fail
                    (try dsimp only [List.append])
                    refine wp_region_held_drew (S := fun w' => Means5 w' ⟨b', o' + cm, none⟩ r' w.heap.size t) (by kernel_rfl) (HCO.out _ (bdrew (Below.refl wr.heap.size wr))) (fun hHeld => ?_)
                    have HZ := mkHid (bdrew (Below.refl wr.heap.size wr))
                    clear n3 x0 x1 x2 x3
                    generalize wr.drew = V at *
                    refine wpAnyH_take (i := 0) (v := ?_) rfl (by kernel_rfl) (by kernel_rfl) (by kernel_rfl) (fun _ _ _ h => h) (Or.inl ⟨by kernel_rfl, ?_⟩) (by assumption) ?_
                    rotate_left
                    · (intro w hSw; clear hSw; go_simp; try with_reducible rfl)
                    simp only [Act.put, List.getElem_toArray, List.getElem_cons_zero, List.setIfInBounds_toArray, List.set_cons_zero, List.set_cons_succ]
                    refine wpAnyH_take (i := 1) (v := ?_) rfl (by kernel_rfl) (by kernel_rfl) (by kernel_rfl) (fun _ _ _ h => h) (Or.inl ⟨by kernel_rfl, ?_⟩) (by assumption) ?_
                    rotate_left
                    · (intro w hSw; clear hSw; go_simp; try with_reducible rfl)
                    simp only [Act.put, List.getElem_toArray, List.getElem_cons_succ, List.getElem_cons_zero, List.setIfInBounds_toArray, List.set_cons_zero, List.set_cons_succ]
                    refine wpAnyH_take (i := 2) (v := ?_) rfl (by kernel_rfl) (by kernel_rfl) (by kernel_rfl) (fun _ _ _ h => h) (Or.inl ⟨by kernel_rfl, ?_⟩) (by assumption) ?_
                    rotate_left
                    · (intro w hSw; clear hSw; go_simp; try with_reducible rfl)
                    simp only [Act.put, List.getElem_toArray, List.getElem_cons_succ, List.getElem_cons_zero, List.setIfInBounds_toArray, List.set_cons_zero, List.set_cons_succ]
                    refine wpAnyH_take (i := 3) (v := ?_) rfl (by kernel_rfl) (by kernel_rfl) (by kernel_rfl) (fun _ _ _ h => h) (Or.inl ⟨by kernel_rfl, ?_⟩) (by assumption) ?_
                    rotate_left
                    · (intro w hSw; clear hSw; go_simp; try with_reducible rfl)
                    simp only [Act.put, List.getElem_toArray, List.getElem_cons_succ, List.getElem_cons_zero, List.setIfInBounds_toArray, List.set_cons_zero, List.set_cons_succ]
                    refine wpAnyH_take (i := 4) (v := ?_) rfl (by kernel_rfl) (by kernel_rfl) (by kernel_rfl) (fun _ _ _ h => h) (Or.inl ⟨by kernel_rfl, ?_⟩) (by assumption) ?_
                    rotate_left
                    · (intro w hSw; clear hSw; go_simp; try with_reducible rfl)
                    simp only [Act.put, List.getElem_toArray, List.getElem_cons_succ, List.getElem_cons_zero, List.setIfInBounds_toArray, List.set_cons_zero, List.set_cons_succ]
                    refine wpAnyH_take (i := 5) (v := ?_) rfl (by kernel_rfl) (by kernel_rfl) (by kernel_rfl) (fun _ _ _ h => h) (Or.inl ⟨by kernel_rfl, ?_⟩) (by assumption) ?_
                    rotate_left
                    · (intro w hSw; clear hSw; go_simp; try with_reducible rfl)
                    simp only [Act.put, List.getElem_toArray, List.getElem_cons_succ, List.getElem_cons_zero, List.setIfInBounds_toArray, List.set_cons_zero, List.set_cons_succ]
                    refine wpAnyH_take (i := 6) (v := ?_) rfl (by kernel_rfl) (by kernel_rfl) (by kernel_rfl) (fun _ _ _ h => h) (Or.inl ⟨by kernel_rfl, ?_⟩) (by assumption) ?_
                    rotate_left
                    · (intro w hSw; clear hSw; go_simp; try with_reducible rfl)
                    simp only [Act.put, List.getElem_toArray, List.getElem_cons_succ, List.getElem_cons_zero, List.setIfInBounds_toArray, List.set_cons_zero, List.set_cons_succ]
                    refine wpAnyH_ready (rs := [7]) (by kernel_rfl) (by simp) ?_
                    refine AllReadyH.cons rfl (fun K hK => ?_) AllReadyH.nil
                    go_simp
                    go_wp2_with (go_at_call 34; ((with_reducible refine (HKN.out _ HZ.out).mono ?_)); rintro e w7 ⟨rfl, hb7⟩; have HZ7 := mkHid (bon HZ.out hb7))
                    refine hK.out _ _ (HCO.out _ HZ7.out) (fun hHeld => ?_)
                    clear hK
                    refine wpAnyH_take (i := 8) (v := ?_) rfl (by kernel_rfl) (by kernel_rfl) (by kernel_rfl) (fun _ _ _ h => h) (Or.inl ⟨by kernel_rfl, ?_⟩) (by assumption) ?_
                    rotate_left
                    · (intro w hSw; clear hSw; go_simp; try with_reducible rfl)
                    simp only [Act.put, List.getElem_toArray, List.getElem_cons_succ, List.getElem_cons_zero, List.setIfInBounds_toArray, List.set_cons_zero, List.set_cons_succ]
                    refine wpAnyH_take (i := 9) (v := ?_) rfl (by kernel_rfl) (by kernel_rfl) (by kernel_rfl) (fun _ _ _ h => h) (Or.inl ⟨by kernel_rfl, ?_⟩) (by assumption) ?_
                    rotate_left
                    · (intro w hSw; clear hSw; go_simp; try with_reducible rfl)
                    simp only [Act.put, List.getElem_toArray, List.getElem_cons_succ, List.getElem_cons_zero, List.setIfInBounds_toArray, List.set_cons_zero, List.set_cons_succ]
                    refine wpAnyH_take (i := 10) (v := ?_) rfl (by kernel_rfl) (by kernel_rfl) (by kernel_rfl) (fun _ _ _ h => h) (Or.inl ⟨by kernel_rfl, ?_⟩) (by assumption) ?_
                    rotate_left
                    · (intro w hSw; clear hSw; go_simp; try with_reducible rfl)
                    simp only [Act.put, List.getElem_toArray, List.getElem_cons_succ, List.getElem_cons_zero, List.setIfInBounds_toArray, List.set_cons_zero, List.set_cons_succ]
                    refine wpAnyH_take (i := 11) (v := ?_) rfl (by kernel_rfl) (by kernel_rfl) (by kernel_rfl) (fun _ _ _ h => h) (Or.inl ⟨by kernel_rfl, ?_⟩) (by assumption) ?_
                    rotate_left
                    · (intro w hSw; clear hSw; go_simp; try with_reducible rfl)
                    simp only [Act.put, List.getElem_toArray, List.getElem_cons_succ, List.getElem_cons_zero, List.setIfInBounds_toArray, List.set_cons_zero, List.set_cons_succ]
                    refine wpAnyH_take (i := 12) (v := ?_) rfl (by kernel_rfl) (by kernel_rfl) (by kernel_rfl) (fun _ _ _ h => h) (Or.inl ⟨by kernel_rfl, ?_⟩) (by assumption) ?_
                    rotate_left
                    · (intro w hSw; clear hSw; go_simp; try with_reducible rfl)
                    simp only [Act.put, List.getElem_toArray, List.getElem_cons_succ, List.getElem_cons_zero, List.setIfInBounds_toArray, List.set_cons_zero, List.set_cons_succ]
                    refine wpAnyH_take (i := 13) (v := ?_) rfl (by kernel_rfl) (by kernel_rfl) (by kernel_rfl) (fun _ _ _ h => h) (Or.inl ⟨by kernel_rfl, ?_⟩) (by assumption) ?_
                    rotate_left
                    · (intro w hSw; clear hSw; go_simp; try with_reducible rfl)
                    simp only [Act.put, List.getElem_toArray, List.getElem_cons_succ, List.getElem_cons_zero, List.setIfInBounds_toArray, List.set_cons_zero, List.set_cons_succ]
                    refine wpAnyH_take (i := 14) (v := ?_) rfl (by kernel_rfl) (by kernel_rfl) (by kernel_rfl) (fun _ _ _ h => h) (Or.inl ⟨by kernel_rfl, ?_⟩) (by assumption) ?_
                    rotate_left
                    · (intro w hSw; clear hSw; go_simp; try with_reducible rfl)
                    simp only [Act.put, List.getElem_toArray, List.getElem_cons_succ, List.getElem_cons_zero, List.setIfInBounds_toArray, List.set_cons_zero, List.set_cons_succ]
                    refine wpAnyH_take (i := 15) (v := ?_) rfl (by kernel_rfl) (by kernel_rfl) (by kernel_rfl) (fun _ _ _ h => h) (Or.inl ⟨by kernel_rfl, ?_⟩) (by assumption) ?_
                    rotate_left
                    · (intro w hSw; obtain ⟨s0, s1, s2, s3, s4⟩ := hSw; go_simp; try with_reducible rfl)
                    simp only [Act.put, List.getElem_toArray, List.getElem_cons_succ, List.getElem_cons_zero, List.setIfInBounds_toArray, List.set_cons_zero, List.set_cons_succ]
                    refine wpAnyH_take (i := 16) (v := ?_) rfl (by kernel_rfl) (by kernel_rfl) (by kernel_rfl) (fun _ _ _ h => h) (Or.inl ⟨by kernel_rfl, ?_⟩) (by assumption) ?_
                    rotate_left
                    · (intro w hSw; clear hSw; go_simp; try with_reducible rfl)
                    simp only [Act.put, List.getElem_toArray, List.getElem_cons_succ, List.getElem_cons_zero, List.setIfInBounds_toArray, List.set_cons_zero, List.set_cons_succ]
                    refine wpAnyH_take (i := 18) (v := ?_) rfl (by kernel_rfl) (by kernel_rfl) (by kernel_rfl) (fun _ _ _ h => h) (Or.inl ⟨by kernel_rfl, ?_⟩) (by assumption) ?_
                    rotate_left
                    · (intro w hSw; clear hSw; go_simp; try with_reducible rfl)
                    simp only [Act.put, List.getElem_toArray, List.getElem_cons_succ, List.getElem_cons_zero, List.setIfInBounds_toArray, List.set_cons_zero, List.set_cons_succ]
                    refine wpAnyH_take (i := 19) (v := ?_) rfl (by kernel_rfl) (by kernel_rfl) (by kernel_rfl) (fun _ _ _ h => h) (Or.inl ⟨by kernel_rfl, ?_⟩) (by assumption) ?_
                    rotate_left
                    · (intro w hSw; clear hSw; go_simp; try with_reducible rfl)
                    simp only [Act.put, List.getElem_toArray, List.getElem_cons_succ, List.getElem_cons_zero, List.setIfInBounds_toArray, List.set_cons_zero, List.set_cons_succ]
                    refine wpAnyH_take (i := 20) (v := ?_) rfl (by kernel_rfl) (by kernel_rfl) (by kernel_rfl) (fun _ _ _ h => h) (Or.inl ⟨by kernel_rfl, ?_⟩) (by assumption) ?_
                    rotate_left
                    · (intro w hSw; obtain ⟨s0, s1, s2, s3, s4⟩ := hSw; go_simp; try with_reducible rfl)
                    simp only [Act.put, List.getElem_toArray, List.getElem_cons_succ, List.getElem_cons_zero, List.setIfInBounds_toArray, List.set_cons_zero, List.set_cons_succ]
                    refine wpAnyH_ready (rs := [17]) (by kernel_rfl) (by simp) ?_
                    refine AllReadyH.cons rfl (fun K hK => ?_) AllReadyH.nil
                    go_simp
                    go_wp2_with (go_at_call 35; ((with_reducible refine (HHD.out _ HZ7.out).mono ?_)); rintro e w8 ⟨rfl, hb8⟩; have HZ8 := mkHid (bon HZ7.out hb8))
                    refine hK.out _ _ (HCO.out _ HZ8.out) (fun hHeld => ?_)
                    clear hK
                    refine wpAnyH_ready (rs := [21]) (by kernel_rfl) (by simp) ?_
                    refine AllReadyH.cons rfl (fun K hK => ?_) AllReadyH.nil
                    go_simp
                    go_wp2_with (go_at_call 36; ((with_reducible refine (HTR.out _ HZ8.out).mono ?_)); rintro e w9 ⟨rfl, hb9⟩; have HZ9 := mkHid (bon HZ8.out hb9))
                    refine hK.out _ _ (HCO.out _ HZ9.out) (fun hHeld => ?_)
                    clear hK
                    refine wpAnyH_take (i := 22) (v := ?_) rfl (by kernel_rfl) (by kernel_rfl) (by kernel_rfl) (fun _ _ _ h => h) (Or.inl ⟨by kernel_rfl, ?_⟩) (by assumption) ?_
                    rotate_left
                    · (intro w hSw; clear hSw; go_simp; try with_reducible rfl)
                    simp only [Act.put, List.getElem_toArray, List.getElem_cons_succ, List.getElem_cons_zero, List.setIfInBounds_toArray, List.set_cons_zero, List.set_cons_succ]
                    refine wpAnyH_take (i := 23) (v := ?_) rfl (by kernel_rfl) (by kernel_rfl) (by kernel_rfl) (fun _ _ _ h => h) (Or.inl ⟨by kernel_rfl, ?_⟩) (by assumption) ?_
                    rotate_left
                    · (intro w hSw; clear hSw; go_simp; try with_reducible rfl)
                    simp only [Act.put, List.getElem_toArray, List.getElem_cons_succ, List.getElem_cons_zero, List.setIfInBounds_toArray, List.set_cons_zero, List.set_cons_succ]
                    refine wpAnyH_done (by kernel_rfl) ?_ _
                    go_wp2
                    go_roundw
                    case rel => (repeat apply Exists.intro); exact ⟨⟨s + 1, by simp, hsP5, mkHid (bon hwb HZ9.out)⟩, rfl⟩
                    case measure => simp [intOf]; omega
          · have hsP2 : ¬ (s : Int) < (P : Int) := by omega
            have hsP3 : (P : Int) ≤ (s : Int) := by omega
            go_wp2
            go_ret
            exact ⟨rfl, bon HB3.out BW.out⟩
      · have hw : ¬ 6 < A.length := by omega
        have hw2 : 60 < (cC t).length := by omega
        rw [hE]
        have B3 := HB3.out
        clear hlen hE hl hAl hcc HRR HA HAE HT3 HF3
        generalize (cC t).length = cl at *
        generalize cN t = nn at *
        generalize A.length = al at *
        go_wp2
        go_ret
        exact ⟨rfl, B3⟩
    · have hw : 6 < A.length := by omega
      rw [hE]
      have B3 := HB3.out
      clear hlen hE hl hAl hcc HRR HA HAE HT3 HF3
      generalize (cC t).length = cl at *
      generalize cN t = nn at *
      generalize A.length = al at *
      go_wp2
      go_ret
      exact ⟨rfl, B3⟩
  · have hne : ((cE t : Int) != 0) = true := by rw [bne_iff_ne]; omega
    have B3 := HB3.out
    clear hE hl hAl hcc HRR HA HAE HT3 HF3
    generalize cE t = er at *
    generalize (cC t).length = cl at *
    generalize cN t = nn at *
    generalize A.length = al at *
    go_wp2
    go_ret
    exact ⟨rfl, B3⟩
end Go.Proofs.YtaiachmolkjedaaDoor
