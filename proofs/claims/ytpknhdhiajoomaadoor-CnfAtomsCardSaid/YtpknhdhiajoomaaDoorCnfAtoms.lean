/-
  CnfAtoms, walked: it returns true.
-/
import Derived.Test.YtpknhdhiajoomaaDoorCnQ
namespace Go.Proofs.YtpknhdhiajoomaaDoor
open Go.RowKit

def bls' (l : List Bool) : List Value := l.map Value.bool
theorem bool_info : (Tryd.prog.info? 4).map (fun i => (i.zero, i.size, i.bytes)) = some (some (.bool false), 1, 1) := by kernel_rfl
theorem made_bools (n : Nat) (h : n ≤ 100000) : ∃ cs : Array Value, cs.size = n * 1 ∧ cs.toList = bls' (List.replicate n false) ∧ ∀ w : World, (Instr.makeSlice 53 (.int .i64 (n : Int)) (.int .i64 (n : Int))).run Tryd.prog w = .ok (.slice (some ⟨w.heap.size, 0, none⟩) n n) (w.alloc (.cells cs 4)) := by
  obtain ⟨i0, hi, he⟩ := Option.map_eq_some_iff.1 bool_info
  simp only [Prod.mk.injEq] at he
  obtain ⟨hz0, hz1, hz2⟩ := he
  refine ⟨madeCells #[.bool false] (n * 1), size_madeCells _ _, ?_, fun w => ?_⟩
  · apply List.ext_getElem?
    intro j
    by_cases hj : j < n
    · simp [madeCells, bls', hj, Nat.mod_one]
    · simp [madeCells, bls', hj]
  · have hr := run_make (P := Tryd.prog) w 53 4 i0 _ Tryd.underlying53 hi hz0 .i64 .i64 (n : Int) (n : Int) (by omega) (Int.le_refl _) (by rw [hz2]; omega) (by omega)
    rw [hr, hz1, Int.toNat_natCast]
    rfl
/-- a row of bools of one's own -/
def BRow (w : World) (g n : Nat) (bs : List Bool) : Prop := w.ownsRow g 4 1 (.slice (some ⟨g, 0, none⟩) n n) n (bls' bs)
theorem BRow.len {w : World} {g n : Nat} {bs : List Bool} (h : BRow w g n bs) : bs.length = n := by have := h.1; simp [bls'] at this; omega
theorem BRow.cell {w : World} {g n : Nat} {bs : List Bool} (h : BRow w g n bs) (k : Nat) (hk : k < bs.length) : w.cell? ⟨g, k, none⟩ = some (.bool bs[k]) := by
  have h1 := h.len
  have h2 : w.cell? ⟨g, k, none⟩ = _ := World.ownsRow.cellAt h k (by omega)
  rw [h2]; simp [bls', hk]
theorem BRow.frozen {w : World} {g n : Nat} {bs : List Bool} (h : BRow w g n bs) (k : Nat) : w.frozen? ⟨g, k, none⟩ = false := World.ownsRow.frozenAt h k
theorem BRow.set {w : World} {g n : Nat} {bs : List Bool} (h : BRow w g n bs) (k : Nat) (x : Bool) : BRow (w.setCell ⟨g, k, none⟩ (.bool x)) g n (bs.set k x) := by
  have := (World.ownsRow.stored h k (.bool x)).1
  have e : (bls' bs).set k (.bool x) = bls' (bs.set k x) := by unfold bls'; rw [List.map_set]
  rw [e] at this
  exact this
theorem BRow.later {w w' : World} {g n : Nat} {bs : List Bool} (h : BRow w g n bs) (hb : Below w.heap.size w w') : BRow w' g n bs := own_lat' h hb
theorem fnd_self {A B : List Tm} (h : A.map Tm.er = B) (hd : Dis B) (k : Nat) (hk : k < A.length) : plc A A[k] = (k : Int) := by
  have hk' : k < B.length := by rw [← h, List.length_map]; exact hk
  have e : A[k].er = B[k] := by
    subst h
    simp
  have h1 : fnd A A[k] = k := by
    have h2 := hd k hk'
    rw [← e, fnd_er _ (er_er _), ← h, fnd_map] at h2
    exact h2
  unfold plc
  rw [if_pos ((has_iff A A[k]).2 (by rw [h1]; exact hk)), h1]
theorem getD_set {bs : List Bool} {i v : Nat} (h : bs.getD i false = true) : (bs.set v true).getD i false = true := by
  rw [List.getD_eq_getElem?_getD] at *
  rw [List.getElem?_set]
  split
  · split
    · rfl
    · rename_i h1 h2
      subst h1
      rw [List.getElem?_eq_none (by omega)] at h
      simp at h
  · exact h
theorem getD_new {bs : List Bool} {v v' : Nat} (h : v < bs.length) (e : v' = v) : (bs.set v true).getD v' false = true := by
  subst e
  rw [List.getD_eq_getElem?_getD, List.getElem?_set]
  simp [h]
set_option maxRecDepth 100000 in
set_option maxHeartbeats 8000000 in
theorem atoms_any (t : Tm) (w : World) (ht : TIn w w.heap.size t) (hS : Shps w) : Calls Tryd.prog 10 #[t.val] w (RetV (.bool true) w) := by
  have B0 := bel_alloc w (boxT t)
  have F1 := box_four w t
  have CH := mkHid (shown_any (w.alloc (boxT t)) (hS.later B0))
  have HS := mkHid (hS.later B0)
  have HT := mkHid (ht.later B0)
  have hW2 : w.alloc (.cells #[.int .i64 t.op, .string t.nm, .int .i64 t.n, .slice t.a t.ks.length t.c] 24) = w.alloc (boxT t) := rfl
  generalize w.alloc (boxT t) = W1 at *
  unfold Tm.val
  clear hS ht
  have HF1 := mkHid F1
  clear F1
  go_enter Tryd.func10, Tryd.ntmps10
  go_wp2_with fail
  ((with_reducible refine CH.out.mono ?_)); rintro e w2 ⟨rfl, hb2⟩
  clear CH hW2
  obtain ⟨x0, x1, x2, x3⟩ := HF1.out.later hb2
  simp only [Nat.zero_add] at x1 x2 x3
  have C1 := mkHid (clauses_any t w2 (HT.out.later hb2) (HS.out.later hb2))
  unfold Tm.val at C1
  have B2 := bon B0 hb2
  clear B0
  go_wp2_with fail
  ((with_reducible refine C1.out.mono ?_)); rintro e w3 ⟨vC, vA, A, us, F, base, rfl, hb3, -, -, hFw, hC, hA, hl⟩
  clear C1 x0 x1 x2 x3
  have HRR := mkHid (hC.rr (cC_short t).1 (cC_short t).2)
  have HA := mkHid (hA.row hFw)
  have HAE := mkHid (hA.els hFw)
  obtain ⟨aA, ca, rfl, hAl, -, -⟩ := hA
  have HB3 := mkHid (bon B2 hb3)
  have HL := mkHid hl
  clear hC hl B2 hb2 hb3 hFw HT HS HF1
  by_cases hE : cE t = 0
  · have HCA := mkHid (cA_atom hE)
    have HFS := mkHid (fun k hk => fnd_self HL.out (cA_dis t) k hk)
    have hcn := cN_le t
    have hz := (cE_small hE).1
    have hcs := (cC_short t).1
    have HLB := mkHid (cC_lb t)
    have HOC := mkHid (cC_occ hE)
    have HLE := mkHid (cC_len hE)
    have HLAST : Hid (∃ x r, cC t = r ++ [[x]]) := by
      show ∃ x r, cC t = r ++ [[x]]
      unfold cC; rw [if_pos hE]; exact ⟨_, _, rfl⟩
    rw [hE]
    obtain ⟨al, hal⟩ : ∃ al, A.length = al := ⟨_, rfl⟩
    have HAL := mkHid hal
    rw [hal] at hAl ⊢
    obtain ⟨nn, hnn⟩ : ∃ nn, cN t = nn := ⟨_, rfl⟩
    rw [hnn] at hcn HLB HOC ⊢
    have hn4 : nn ≤ 4000 := by omega
    clear hal hE hnn hcn hz
    have hal9 : al ≤ 9223372036854775807 := by omega
    have HRC := HRR.out
    obtain ⟨aC, cc, rfl, -, hcc, -⟩ := HRC
    generalize cC t = C at *
    obtain ⟨cl, hcl⟩ : ∃ cl, C.length = cl := ⟨_, rfl⟩
    have HCL := mkHid hcl
    rw [hcl] at hcs hcc ⊢
    clear hcl
    go_wp2_with fail
    go_loopw [8] (fun i w' => ∃ (k : Nat) (x : Int), i = .int .i64 x ∧ x = k ∧ k ≤ al ∧ Hid (Below w3.heap.size w3 w')) (fun i _ => (al - intOf i).toNat)
    case atStart => exact ⟨0, 0, rfl, rfl, Nat.zero_le _, mkHid (Below.refl _ _)⟩
    case round =>
      obtain ⟨k, y, rfl, hyk, hk, BW⟩ := hrel
      obtain rfl : y = (k : Int) := hyk
      by_cases hlt : k < al
      · have h1 : k < A.length := by rw [HAL.out]; exact hlt
        obtain ⟨a1', c1', ea, -, ha⟩ := HA.out
        simp only [Value.slice.injEq, true_and] at ea
        obtain ⟨rfl, rfl⟩ := ea
        obtain ⟨ba, oa, rfl, -, fa⟩ := ha k h1
        have fa := fa.later BW.out
        obtain ⟨ta, da1, da⟩ := HAE.out A[k] (List.getElem_mem _)
        have hmem : A[k].er ∈ cA t := by rw [← HL.out]; exact List.mem_map_of_mem (List.getElem_mem _)
        obtain ⟨j1, j2, j3⟩ := HCA.out _ hmem
        rw [er_srt] at j1
        rw [(er_op _).1] at j2
        rw [er_errR] at j3
        have j4 := (errR_okk j3).2.2.2
        rw [j1] at j4
        have CSO := mkHid (rSort_any A[k] wr (ta.later BW.out))
        rw [j4, j3] at CSO
        have hrow : Row4 wr (.slice (some ⟨ba, oa, none⟩) al ca) A := by have := HA.out.later BW.out; rw [HAL.out] at this; exact this
        have CF := mkHid (fun (w : World) (hb : Below wr.heap.size wr w) => find_any A A[k] _ w (hrow.later hb) (fun x hx => ⟨((HAE.out x hx).1.later BW.out).later hb, (HAE.out x hx).2.2⟩) ((ta.later BW.out).later hb) da)
        rw [HFS.out k h1] at CF
        unfold jnB at j2
        simp only [Bool.and_eq_false_iff, decide_eq_false_iff_not] at j2
        clear ha ta da da1 hmem j1 j3 j4 hrow
        generalize A[k] = xa at *
        clear h1
        obtain ⟨g0, g1, g2, g3⟩ := fa
        unfold Tm.val at CSO CF
        have hk2 : (k : Int) < (al : Int) := by omega
        have j5 : xa.op < 16 ∨ 21 < xa.op := by omega
        clear j2
        rcases j5 with j5 | j5
        · go_wp2_with (first
            | (go_at_call 16; ((with_reducible refine CSO.out.mono ?_)); rintro e w4 ⟨rfl, hb4⟩; have l0 := cell_later hb4 g0; have l1 := cell_later hb4 g1; have l2 := cell_later hb4 g2; have l3 := cell_later hb4 g3)
            | (go_at_call 43; ((with_reducible refine (CF.out _ hb4).mono ?_)); rintro e w5 ⟨rfl, hb5⟩))
          go_roundw
          case rel => exact ⟨k + 1, _, rfl, by omega, by omega, mkHid (bon (bon BW.out hb4) hb5)⟩
          case measure => simp [intOf]; omega
        · go_wp2_with (first
            | (go_at_call 16; ((with_reducible refine CSO.out.mono ?_)); rintro e w4 ⟨rfl, hb4⟩; have l0 := cell_later hb4 g0; have l1 := cell_later hb4 g1; have l2 := cell_later hb4 g2; have l3 := cell_later hb4 g3)
            | (go_at_call 43; ((with_reducible refine (CF.out _ hb4).mono ?_)); rintro e w5 ⟨rfl, hb5⟩))
          go_roundw
          case rel => exact ⟨k + 1, _, rfl, by omega, by omega, mkHid (bon (bon BW.out hb4) hb5)⟩
          case measure => simp [intOf]; omega
      · obtain rfl : k = al := by omega
        obtain ⟨cs, hcs1, hcs2, hmk0⟩ := made_bools (nn + 1) (by omega)
        have hmk : ∀ w : World, (Instr.makeSlice 53 (.int .i64 ((nn : Int) + 1)) (.int .i64 ((nn : Int) + 1))).run Tryd.prog w = .ok (.slice (some ⟨w.heap.size, 0, none⟩) (nn + 1) (nn + 1)) (w.alloc (.cells cs 4)) := fun w => by
          have := hmk0 w
          rw [show (((nn + 1 : Nat) : Int)) = (nn : Int) + 1 by omega] at this
          exact this
        have hb6 := bel_alloc wr (.cells cs 4)
        have HR0 : BRow (wr.alloc (.cells cs 4)) wr.heap.size (nn + 1) (List.replicate (nn + 1) false) := by
          have := World.ownsRow_lit (base := wr.heap.size) (size := 1) (e := 4) wr cs (nn + 1) (Nat.le_refl _) (by unfold maxLen; omega) hcs1
          rw [hcs2] at this
          exact this
        have HB0 := mkHid HR0
        have HRW := mkHid ((HRR.out.later BW.out).later hb6)
        have HBW := mkHid (bon (bon HB3.out BW.out) hb6)
        have hgs : wr.heap.size < (wr.alloc (.cells cs 4)).heap.size := by simp
        have HCO : Hid (∀ k (h : k < C.length), ∃ b o a1 c1, aC = some ⟨b, o, none⟩ ∧ b ≠ wr.heap.size ∧ (wr.alloc (.cells cs 4)).cell? ⟨b, o + k, none⟩ = some (.slice a1 C[k].length c1) ∧ C[k].length ≤ 100000 ∧ ∀ j (h' : j < C[k].length), ∃ b1 o1, a1 = some ⟨b1, o1, none⟩ ∧ b1 ≠ wr.heap.size ∧ (wr.alloc (.cells cs 4)).cell? ⟨b1, o1 + j, none⟩ = some (.int .i64 C[k][j])) := by
          intro k h
          obtain ⟨a', c', e', -, -, hh⟩ := HRR.out.later BW.out
          simp only [Value.slice.injEq] at e'
          obtain ⟨rfl, -, rfl⟩ := e'
          obtain ⟨b, o, r, e1, e2, e3, a1, c1, rfl, e4, e5⟩ := hh k h
          refine ⟨b, o, a1, c1, e1, by omega, cell_later hb6 e3, e4, fun j hj => ?_⟩
          obtain ⟨b1, o1, q1, q2, q3⟩ := e5 j hj
          exact ⟨b1, o1, q1, by omega, cell_later hb6 q3⟩
        clear HR0 hcs1 hcs2 hmk0 HA HAE HL HCA HFS hcc
        generalize hW6 : wr.alloc (.cells cs 4) = W6 at *
        have HB6 := mkHid hb6
        clear hb6
        have hgl : w.heap.size ≤ wr.heap.size := (bon HB3.out BW.out).size
        have hgs2 : w.heap.size ≤ W6.heap.size := HBW.out.size
        generalize hg : wr.heap.size = g at *
        go_wp2
        clear hmk hW6
        go_loopw [12] (fun i w' => ∃ (k : Nat) (x : Int) (bs : List Bool), i = .int .i64 x ∧ x = k ∧ k ≤ cl ∧ Hid (But g W6 w') ∧ Hid (BRow w' g (nn + 1) bs) ∧ Hid (∀ i (h : i < C.length), i < k → ∀ x ∈ C[i], bs.getD x.natAbs false = true)) (fun i _ => (cl - intOf i).toNat)
        case atStart => exact ⟨0, 0, _, rfl, rfl, Nat.zero_le _, mkHid (But.refl _ _), HB0, mkHid (fun i h h0 => by omega)⟩
        case round =>
          obtain ⟨k2, y2, bs, rfl, hy2, hk2, HBT, HBR, HP⟩ := hrel
          obtain rfl : y2 = (k2 : Int) := hy2
          by_cases hlt2 : k2 < cl
          · have hk' : k2 < C.length := by rw [HCL.out]; exact hlt2
            obtain ⟨b1, o1, a1, c1, rfl, hb1, e1, hpl, f1⟩ := HCO.out k2 hk'
            have HPE : Hid (∀ i (h : i < C.length), i = k2 → C[i] = C[k2]) := fun i h e => by subst e; rfl
            have HPL : Hid (∀ x ∈ C[k2], lb x nn) := fun x hx => HLB.out _ (List.getElem_mem _) x hx
            have F1 := mkHid f1
            have E1 := mkHid e1
            clear f1 e1
            generalize C[k2] = pp at *
            obtain ⟨m, hm⟩ : ∃ m, pp.length = m := ⟨_, rfl⟩
            have HM := mkHid hm
            rw [hm] at hpl E1
            clear hm hk'
            have hm9 : m ≤ 9223372036854775807 := by omega
            have hk3 : (k2 : Int) < (cl : Int) := by omega
            have g1 := HBT.out.cell E1.out hb1
            go_wp2
            clear g1
            go_loopw [13] (fun i w' => ∃ (j : Nat) (x : Int) (bs : List Bool), i = .int .i64 x ∧ x = j ∧ j ≤ m ∧ Hid (But g W6 w') ∧ Hid (BRow w' g (nn + 1) bs) ∧ Hid (∀ i (h : i < C.length), i < k2 → ∀ x ∈ C[i], bs.getD x.natAbs false = true) ∧ Hid (∀ x ∈ pp.take j, bs.getD x.natAbs false = true)) (fun i _ => (m - intOf i).toNat)
            case atStart => exact ⟨0, 0, bs, rfl, rfl, Nat.zero_le _, HBT, HBR, HP, mkHid (by simp)⟩
            case round =>
              clear HBT HBR HP
              obtain ⟨j, y3, bs, rfl, hy3, hj, HBT, HBR, HP, HQ⟩ := hrel
              obtain rfl : y3 = (j : Int) := hy3
              have g1 := HBT.out.cell E1.out hb1
              by_cases hlj : j < m
              · have hj' : j < pp.length := by rw [HM.out]; exact hlj
                obtain ⟨b3, o3, rfl, hb3, e3⟩ := F1.out j hj'
                have HTJ := mkHid (List.take_succ_eq_append_getElem hj')
                have hlb := HPL.out pp[j] (List.getElem_mem _)
                have g2 := HBT.out.cell e3 hb3
                generalize pp[j] = q at *
                clear hj' e3
                obtain ⟨hq0, hq1⟩ := hlb
                obtain ⟨vn, hvn⟩ : ∃ vn, q.natAbs = vn := ⟨_, rfl⟩
                have hj3 : (j : Int) < (m : Int) := by omega
                have hq : q = (vn : Int) ∨ q = -(vn : Int) := by omega
                have hv1 : 1 ≤ vn := by omega
                have hv2 : vn ≤ nn := by omega
                clear hq0 hq1 hvn
                rcases hq with rfl | rfl
                · skip
                  have h1 : -9223372036854775808 ≤ -(vn : Int) := by omega
                  have h2 : (vn : Int) ≤ 9223372036854775807 := by omega
                  have h3 : max (vn : Int) (-(vn : Int)) = (vn : Int) := by omega
                  have h4 : max (-(vn : Int)) (vn : Int) = (vn : Int) := by omega
                  have h5 : ¬ (vn : Int) < 1 := by omega
                  have h6 : ¬ (nn : Int) < (vn : Int) := by omega
                  have h7 : (vn : Int) < (nn : Int) + 1 := by omega
                  have hw1 : IntKind.i64.wrap (-(vn : Int)) = -(vn : Int) := by rw [IntKind.wrap_i64]; omega
                  have hw2 : IntKind.i64.wrap (vn : Int) = (vn : Int) := by rw [IntKind.wrap_i64]; omega
                  go_wp2_with fail
                  go_quiet (fail)
                  have bq := below_drewN (Below.refl wr.heap.size wr) nq
                  have HBT2 := mkHid (HBT.out.trans (But.of bq))
                  have HBR2 := mkHid (HBR.out.later bq)
                  have cv := HBR2.out.cell vn (by rw [HBR2.out.len]; omega)
                  have fv := HBR2.out.frozen vn
                  have HS := mkHid (HBR2.out.set vn true)
                  have HBS := mkHid (HBT2.out.set (p := ⟨g, vn, none⟩) (.inl rfl) (.bool true))
                  clear g1 g2 bq
                  generalize wr.drewN nq = V at *
                  go_wp2
                  go_roundw
                  case rel => exact ⟨j + 1, _, _, rfl, by omega, by omega, HBS, HS, mkHid (fun i h hi x hx => getD_set (HP.out i h hi x hx)), mkHid (by
                    rw [HTJ.out]
                    intro y hy
                    rcases List.mem_append.1 hy with hy | hy
                    · exact getD_set (HQ.out y hy)
                    · rw [List.mem_singleton.1 hy]
                      exact getD_new (by rw [HBR2.out.len]; omega) (by omega))⟩
                  case measure => simp [intOf]; omega
                · skip
                  have h1 : -9223372036854775808 ≤ -(vn : Int) := by omega
                  have h2 : (vn : Int) ≤ 9223372036854775807 := by omega
                  have h3 : max (vn : Int) (-(vn : Int)) = (vn : Int) := by omega
                  have h4 : max (-(vn : Int)) (vn : Int) = (vn : Int) := by omega
                  have h5 : ¬ (vn : Int) < 1 := by omega
                  have h6 : ¬ (nn : Int) < (vn : Int) := by omega
                  have h7 : (vn : Int) < (nn : Int) + 1 := by omega
                  have hw1 : IntKind.i64.wrap (-(vn : Int)) = -(vn : Int) := by rw [IntKind.wrap_i64]; omega
                  have hw2 : IntKind.i64.wrap (vn : Int) = (vn : Int) := by rw [IntKind.wrap_i64]; omega
                  go_wp2_with fail
                  go_quiet (fail)
                  have bq := below_drewN (Below.refl wr.heap.size wr) nq
                  have HBT2 := mkHid (HBT.out.trans (But.of bq))
                  have HBR2 := mkHid (HBR.out.later bq)
                  have cv := HBR2.out.cell vn (by rw [HBR2.out.len]; omega)
                  have fv := HBR2.out.frozen vn
                  have HS := mkHid (HBR2.out.set vn true)
                  have HBS := mkHid (HBT2.out.set (p := ⟨g, vn, none⟩) (.inl rfl) (.bool true))
                  clear g1 g2 bq
                  generalize wr.drewN nq = V at *
                  go_wp2
                  go_roundw
                  case rel => exact ⟨j + 1, _, _, rfl, by omega, by omega, HBS, HS, mkHid (fun i h hi x hx => getD_set (HP.out i h hi x hx)), mkHid (by
                    rw [HTJ.out]
                    intro y hy
                    rcases List.mem_append.1 hy with hy | hy
                    · exact getD_set (HQ.out y hy)
                    · rw [List.mem_singleton.1 hy]
                      exact getD_new (by rw [HBR2.out.len]; omega) (by omega))⟩
                  case measure => simp [intOf]; omega
              · obtain rfl : j = m := by omega
                have HT : Hid (∀ i (h : i < C.length), i < k2 + 1 → ∀ x ∈ C[i], bs.getD x.natAbs false = true) := by
                  intro i h hi x hx
                  by_cases h2 : i < k2
                  · exact HP.out i h h2 x hx
                  · rw [HPE.out i h (by omega)] at hx
                    exact HQ.out x (by rw [List.take_of_length_le (by rw [HM.out]; exact Nat.le_refl _)]; exact hx)
                go_wp2
                go_roundw
                case rel => exact ⟨k2 + 1, _, bs, rfl, by omega, by omega, HBT, HBR, HT⟩
                case measure => simp [intOf]; omega
          · obtain rfl : k2 = cl := by omega
            have HALL : Hid (∀ v, 1 ≤ v → v ≤ nn → bs.getD v false = true) := by
              intro v h1 h2
              obtain ⟨c, hc, x, hx, rfl⟩ := HOC.out v h1 h2
              obtain ⟨i, hi, rfl⟩ := List.getElem_of_mem hc
              exact HP.out i hi (by rw [← HCL.out]; exact hi) x hx
            clear HP
            have hwn : -9223372036854775808 ≤ (nn : Int) := by omega
            go_wp2
            go_loopw [15] (fun i w' => ∃ (k : Nat) (x : Int), i = .int .i64 x ∧ x = k ∧ 1 ≤ k ∧ k ≤ nn + 1 ∧ Hid (But g W6 w') ∧ Hid (BRow w' g (nn + 1) bs)) (fun i _ => (nn + 1 - intOf i).toNat)
            case atStart => exact ⟨1, 1, rfl, rfl, Nat.le_refl _, by omega, HBT, HBR⟩
            case round =>
              clear HBT HBR
              obtain ⟨k5, y5, rfl, hy5, hk5, hk6, HBT, HBR⟩ := hrel
              obtain rfl : y5 = (k5 : Int) := hy5
              by_cases hlt5 : k5 ≤ nn
              · have cv := HBR.out.cell k5 (by rw [HBR.out.len]; omega)
                have e5 : bs[k5]'(by rw [HBR.out.len]; omega) = true := by
                  have := HALL.out k5 hk5 hlt5
                  rw [List.getD_eq_getElem?_getD, List.getElem?_eq_getElem (by rw [HBR.out.len]; omega)] at this
                  simpa using this
                rw [e5] at cv
                clear e5
                have hk7 : (k5 : Int) ≤ (nn : Int) := by omega
                go_wp2
                go_roundw
                case rel => exact ⟨k5 + 1, _, rfl, by omega, by omega, by omega, HBT, HBR⟩
                case measure => simp [intOf]; omega
              · have hk7 : ¬ (k5 : Int) ≤ (nn : Int) := by omega
                have hcl1 : 1 ≤ k2 := by
                  have := HLE.out
                  rw [HCL.out] at this
                  omega
                have hfin : ∃ b o a1 c1, aC = some ⟨b, o, none⟩ ∧ wr.cell? ⟨b, o + (k2 - 1), none⟩ = some (.slice a1 1 c1) := by
                  obtain ⟨x, r, er⟩ := HLAST.out
                  have hcr : k2 = r.length + 1 := by
                    have := HCL.out
                    rw [er] at this
                    simp at this; omega
                  have hi : k2 - 1 < C.length := by rw [HCL.out]; omega
                  obtain ⟨b, o, a1, c1, e1, e2, e3, -, -⟩ := HCO.out (k2 - 1) hi
                  have e6 : C[k2 - 1] = [x] := by
                    simp only [er, hcr]
                    simp
                  rw [e6] at e3
                  exact ⟨b, o, a1, c1, e1, HBT.out.cell e3 e2⟩
                obtain ⟨b, o, a1, c1, rfl, e3⟩ := hfin
                obtain ⟨cm, rfl⟩ : ∃ cm, k2 = cm + 1 := ⟨k2 - 1, by omega⟩
                simp only [Nat.add_sub_cancel] at e3
                have hcm : (cm : Int) < (cm : Int) + 1 := by omega
                have hB := HBW.out.trans (HBT.out.below hgl hgs2)
                clear HALL HBT HBR HCO HLAST HLE HCL hcl1
                go_wp2
                go_ret
                exact ⟨by simp, hB⟩
  · have e1 : (cC t).length = 0 := by unfold cC; rw [if_neg hE]; rfl
    have e2 : A.length = 0 := by
      have := congrArg List.length HL.out
      rw [List.length_map] at this
      rw [this]; unfold cA; rw [if_neg hE]; rfl
    have e3 : cN t = 0 := by unfold cN; rw [if_neg hE]
    have hne : ((cE t : Int) != 0) = true := by rw [bne_iff_ne]; omega
    obtain ⟨aC, cc, rfl, -, -, -⟩ := HRR.out
    rw [e1, e2, e3]
    clear HRR hE HA HAE HL e1 e2 e3
    generalize cE t = er at *
    go_wp2
    go_ret
    exact ⟨by simp, HB3.out⟩
end Go.Proofs.YtpknhdhiajoomaaDoor
