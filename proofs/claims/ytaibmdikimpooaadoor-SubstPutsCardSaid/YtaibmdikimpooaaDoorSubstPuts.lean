/-
  SubstPuts, walked: it returns true.
-/
import Derived.Test.YtaibmdikimpooaaDoorRpD
import Derived.Test.YtaibmdikimpooaaDoorRpF
import Derived.Test.YtaibmdikimpooaaDoorSbP
import Derived.Test.YtaibmdikimpooaaDoorSbQ
import Derived.Deep.RegionHeld2
namespace Go.Proofs.YtaibmdikimpooaaDoor
open Go.RowKit

theorem wpList_run3 {ops : Array Oper} {rest : List Oper} {o : Oper} {a : Act} {w w' : World} {v r v' : Value} {Q : Exit → Act → World → Prop} {ts : TypeId} (hgd : o.guard = none) (s x : Operand) (hty : o.type = ts)
    (ho : o.op = .call { callee := .builtin .append, args := #[s, x], argTypes := #[ts, ts] }) (hs : a.eval s = v) (hx : a.eval x = r) (hrun : (Builtin.append_ #[ts, ts] ts #[v, r]).run Tryd.prog w = .ok v' w')
    (h : wpList Tryd.prog ops Q rest (a.put o.dst v') w') : wpList Tryd.prog ops Q (o :: rest) a w :=
  wpList_plain hgd fun _ hK => by
    unfold Oper.wp execOp
    simp only [ho, hty, resolve, invoke, builtin, Sem.run_bind, Sem.run_pure, Result.andThen_ok, List.map_toArray, List.map_cons, List.map_nil, hs, hx, hrun]
    exact hK _ _ h
theorem flat4_len (L : List Tm) : (L.flatMap tm4).length = L.length * 4 := by
  induction L with
  | nil => rfl
  | cons x l ih => rw [List.flatMap_cons, List.length_append, ih, List.length_cons]; show 4 + _ = _; omega
/-- an append of one term -/
theorem run_tm {w : World} {base : Nat} {v : Value} {K : List Tm} (x : Tm) (h : w.ownsRow base 24 4 v K.length (K.flatMap tm4)) (hl : K.length ≤ 1000) (hb : base ≤ w.heap.size) :
    ∃ v' w', (Builtin.append_ #[22, 22] 22 #[v, .slice (some ⟨w.heap.size, 0, none⟩) 1 1]).run Tryd.prog (w.alloc (.cells #[.int .i64 x.op, .string x.nm, .int .i64 x.n, .slice x.a x.ks.length x.c] 24)) = .ok v' w' ∧ w'.ownsRow base 24 4 v' (K ++ [x]).length ((K ++ [x]).flatMap tm4) ∧ Below base w w' := by
  obtain ⟨i0, hi0, hz0, hz1, hz2⟩ := tm_parts
  have b1 := bel_alloc w (.cells #[.int .i64 x.op, .string x.nm, .int .i64 x.n, .slice x.a x.ks.length x.c] 24)
  obtain ⟨v', w', e, k2, k3, -, -⟩ := run_append_own_at (P := Tryd.prog) (w.alloc (.cells #[.int .i64 x.op, .string x.nm, .int .i64 x.n, .slice x.a x.ks.length x.c] 24)) base 22 22 24 i0 _ 4 56 Tryd.underlying22 hi0 hz0 hz1 hz2 rfl (by omega) v K.length (K.flatMap tm4) (own_lat h b1) ⟨w.heap.size, 0, none⟩ 1 1 (tm4 x) rfl (tm4_cells w x) (tm4_one x) (by unfold maxLen; omega) (by omega) (Nat.le_trans hb b1.size)
  exact ⟨v', w', e, by rw [List.length_append, List.flatMap_append]; simpa using k2, (b1.mono hb).trans (below_gr k3 (fun k hk => (h.lt k hk).1) (Nat.le_trans hb b1.size))⟩
/-- a row of terms of one's own, as one that is read -/
theorem own_ts {w : World} {base : Nat} {v : Value} {L : List Tm} (h : w.ownsRow base 24 4 v L.length (L.flatMap tm4)) : SbTs w v L := by
  have hfm : ∀ (l : List Tm) (j : Nat) (hj : j < l.length) (i : Nat), i < 4 → (l.flatMap tm4)[j * 4 + i]? = (tm4 l[j])[i]? := by
    intro l
    induction l with
    | nil => intro j hj; simp at hj
    | cons x l ih =>
      intro j hj i hi
      rw [List.flatMap_cons]
      cases j with
      | zero => rw [List.getElem?_append_left (by show 0 * 4 + i < 4; omega), Nat.zero_mul, Nat.zero_add]; rfl
      | succ j =>
        rw [List.getElem?_append_right (by show 4 ≤ (j + 1) * 4 + i; omega)]
        have e : (j + 1) * 4 + i - (tm4 x).length = j * 4 + i := by show (j + 1) * 4 + i - 4 = _; omega
        rw [e, ih j (by simpa using hj) i hi]
        rfl
  rcases h.2 with ⟨e, h0⟩ | ⟨g, cap, cur, e, hbg, hh, h1, h2, hcs, htk⟩
  · have : L = [] := List.length_eq_zero_iff.1 h0
    subst this
    exact ⟨none, 0, e, fun j hj => absurd hj (by simp)⟩
  · subst e
    refine ⟨some ⟨g, 0, none⟩, cap, rfl, fun j hj => ?_⟩
    have cl : ∀ i, i < 4 → w.cell? ⟨g, j * 4 + i, none⟩ = (tm4 L[j])[i]? := fun i hi => by rw [h.cellAt (j * 4 + i) (by omega), hfm L j hj i hi]
    exact ⟨g, 0, rfl, (Array.getElem?_eq_some_iff.1 hh).1, by rw [Nat.zero_add]; exact ⟨cl 0 (by omega), cl 1 (by omega), cl 2 (by omega), cl 3 (by omega)⟩⟩
theorem putO_deep (t : Tm) (l : List As) : (putO t l).1.deep ≤ 100 := by
  have hz : zT.deep ≤ 100 := by decide
  unfold putO
  split
  · exact hz
  · split
    · exact hz
    · split
      · exact hz
      · rename_i h
        exact (errR_fine (by simpa using h)).2.1
set_option maxRecDepth 100000 in
set_option maxHeartbeats 16000000 in
theorem puts_any (t : Tm) (l : List As) (a : Option Addr) (m len c : Nat) (nm : ByteArray) (w : World) (hm : m = min len 10) (hl : l.length = m) (hcap : len ≤ c) (hcm : c ≤ maxLen) (ht : TIn w w.heap.size t) (hr : ∀ j (h : j < l.length), ∃ b o, a = some ⟨b, o, none⟩ ∧ b < w.heap.size ∧ Five5 w b (o + j * 5) l[j]) (hli : ∀ x ∈ l, AsIn w x) (hz : nm.size ≤ maxLen) (hS : Shps w) :
    Calls Tryd.prog 4 #[t.val, .slice a len c, .string nm] w (RetB true w) := by
  have B0 := bel_alloc w (boxT t)
  have hW : w.alloc (.cells #[.int .i64 t.op, .string t.nm, .int .i64 t.n, .slice t.a t.ks.length t.c] 24) = w.alloc (boxT t) := rfl
  have HFT := mkHid (box_four w t)
  have HB0 := mkHid B0
  have HT := mkHid ht
  have HS := mkHid hS
  have HZ := mkHid hz
  have HL := mkHid hl
  have HROW := mkHid hr
  have HLI := mkHid hli
  have hm10 : m ≤ 10 := by omega
  have hml : m ≤ len := by omega
  have hmin : min (len : Int) 10 = (m : Int) := by omega
  have hc9 : c ≤ 9223372036854775807 := by unfold maxLen at hcm; omega
  clear B0 ht hS hz hl hr hli hm
  generalize w.alloc (boxT t) = W at *
  have CS := mkHid (sshown_any W (HS.out.later HB0.out))
  unfold Tm.val
  go_enter Tryd.func4, Tryd.ntmps4
  go_wp2_with fail
  ((with_reducible refine CS.out.mono ?_)); rintro e w1 ⟨rfl, hb1⟩
  clear CS hW
  have HB1 := mkHid hb1
  clear hb1
  have HBB1 := mkHid (bon HB0.out HB1.out)
  have C1 := mkHid (sort_any t w1 (HT.out.later HBB1.out) (HS.out.later HBB1.out))
  unfold Tm.val at C1
  obtain ⟨g0, g1, g2, g3⟩ := HFT.out.later HB1.out
  simp only [Nat.zero_add] at g1 g2 g3
  go_wp2_with fail
  ((with_reducible refine C1.out.mono ?_)); rintro e w2 ⟨rfl, hb2⟩
  clear C1 g0 g1 g2 g3
  have HB2 := mkHid (bon HB1.out hb2)
  clear hb2 HBB1 HB1
  have HBB2 := mkHid (bon HB0.out HB2.out)
  have C1 := mkHid (small_any t w2 (HT.out.later HBB2.out) (HS.out.later HBB2.out))
  unfold Tm.val at C1
  obtain ⟨g0, g1, g2, g3⟩ := HFT.out.later HB2.out
  simp only [Nat.zero_add] at g1 g2 g3
  go_wp2_with fail
  ((with_reducible refine C1.out.mono ?_)); rintro e w3 ⟨rfl, hb3⟩
  clear C1 g0 g1 g2 g3
  have HB3 := mkHid (bon HB2.out hb3)
  clear hb3 HBB2 HB2
  by_cases he : errR t = 0
  · rw [he]
    by_cases hsm : smallB t = true
    · rw [hsm]
      go_wp2
      go_loopw [11, 12] (fun s11 s12 w' => ∃ (k : Nat) (x : Int), s12 = .int .i64 x ∧ x = k ∧ k ≤ m ∧ Hid (w'.ownsRow W.heap.size 24 4 s11 ((l.take k).map (·.2)).length (((l.take k).map (·.2)).flatMap tm4)) ∧ Hid (Below W.heap.size W w')) (fun _ s12 _ => (m - intOf s12).toNat)
      case atStart => exact ⟨0, 0, rfl, rfl, Nat.zero_le _, ⟨rfl, .inl ⟨rfl, rfl⟩⟩, HB3⟩
      case round =>
        obtain ⟨k, x, rfl, hxk, hk, HOW, HBW⟩ := hrel
        obtain rfl : x = (k : Int) := hxk
        by_cases hlt : k < m
        · have hk' : k < l.length := by rw [HL.out]; exact hlt
          have hlt' : (k : Int) < (m : Int) := by omega
          obtain ⟨b, o, rfl, hbl, hf⟩ := HROW.out k hk'
          have hbw : b < W.heap.size := Nat.lt_of_lt_of_le hbl HB0.out.size
          have HFV : Hid (∀ w', Below W.heap.size W w' → Five5 w' b (o + k * 5) l[k]) := fun w' hb => hf.keep (HB0.out.trans (hb.mono HB0.out.size)) hbl
          have HXI := mkHid (HLI.out _ (List.getElem_mem hk')).1
          have HTK : Hid ((l.take (k + 1)).map (·.2) = (l.take k).map (·.2) ++ [l[k].2]) := by rw [List.take_succ_eq_append_getElem hk', List.map_append]; exact mkHid rfl
          have hlk : ((l.take k).map (·.2)).length ≤ 10 := by rw [List.length_map, List.length_take]; omega
          clear hf hbl HROW HLI
          generalize l[k] = cur at *
          obtain ⟨xn, xt⟩ := cur
          simp only at HXI HTK
          generalize (l.take k).map (·.2) = K at *
          have HBB := mkHid (bon HB0.out HBW.out)
          have C1 := mkHid (sort_any xt wr (HXI.out.later HBB.out) (HS.out.later HBB.out))
          unfold Tm.val at C1
          obtain ⟨c0, c1, c2, c3, c4⟩ := HFV.out _ HBW.out
          go_wp2_with fail
          ((with_reducible refine C1.out.mono ?_)); rintro e w5 ⟨rfl, hb5⟩
          clear C1 c0 c1 c2 c3 c4
          have C2 := mkHid (small_any xt w5 (HXI.out.later (bon HBB.out hb5)) (HS.out.later (bon HBB.out hb5)))
          unfold Tm.val at C2
          obtain ⟨c0, c1, c2, c3, c4⟩ := HFV.out _ (bon HBW.out hb5)
          go_wp2_with fail
          ((with_reducible refine C2.out.mono ?_)); rintro e w7 ⟨rfl, hb7⟩
          clear C2 c0 c1 c2 c3 c4
          have HB7 : Hid (Below wr.heap.size wr w7) := bon hb5 hb7
          have HOW7 := mkHid (own_lat HOW.out HB7.out)
          have HCX : Hid (∀ w', Below wr.heap.size wr w' → Five5 w' b (o + k * 5) (xn, xt)) := fun w' hb => HFV.out _ (bon HBW.out hb)
          clear hb5 hb7 HFV
          by_cases he : errR xt = 0
          · rw [he]
            by_cases hsm : smallB xt = true
            · rw [hsm]
              obtain ⟨v9, w9, hrun, own9, b9⟩ := run_tm xt HOW7.out (by omega) (bon HBW.out HB7.out).size
              have HB9 : Hid (Below W.heap.size W w9) := (bon HBW.out HB7.out).trans b9
              have HOW9 := mkHid own9
              obtain ⟨c0, c1, c2, c3, c4⟩ := HCX.out _ HB7.out
              clear own9 b9 HOW7
              go_wp2_with (at_builtin
                           refine wpList_run3 rfl (.tmp 67) (.tmp 73) rfl rfl (by rfl) (by rfl) hrun ?_)
              go_roundw
              case rel => exact ⟨k + 1, _, rfl, by omega, by omega, by rw [HTK.out]; exact HOW9.out, HB9⟩
              case measure => simp [intOf]; omega
            · rw [show smallB xt = false by simpa using hsm]
              go_wp2
              go_ret
              exact ⟨rfl, bon HB0.out (bon HBW.out HB7.out)⟩
          · have he2 : ¬ (errR xt : Int) = 0 := by omega
            have he3 : ((errR xt : Int) == 0) = false := by rw [beq_eq_false_iff_ne]; exact he2
            generalize errR xt = ex at *
            generalize smallB xt = sx at *
            obtain ⟨v9, w9, hrun, own9, b9⟩ := run_tm xt HOW7.out (by omega) (bon HBW.out HB7.out).size
            have HB9 : Hid (Below W.heap.size W w9) := (bon HBW.out HB7.out).trans b9
            have HOW9 := mkHid own9
            obtain ⟨c0, c1, c2, c3, c4⟩ := HCX.out _ HB7.out
            clear own9 b9 HOW7
            go_wp2_with (at_builtin
                         refine wpList_run3 rfl (.tmp 67) (.tmp 73) rfl rfl (by rfl) (by rfl) hrun ?_)
            go_roundw
            case rel => exact ⟨k + 1, _, rfl, by omega, by omega, by rw [HTK.out]; exact HOW9.out, HB9⟩
            case measure => simp [intOf]; omega
        · obtain rfl : k = m := by omega
          have hown := HOW.out
          rw [List.take_of_length_le (by rw [HL.out]; omega)] at hown
          have HBB := mkHid (bon HB0.out HBW.out)
          have HTS := mkHid (own_ts hown)
          have HTL : Hid ((l.map (·.2)).length ≤ 1000) := by show _ ≤ _; rw [List.length_map, HL.out]; omega
          have HTI : Hid (∀ x ∈ l.map (·.2), TIn w w.heap.size x) := fun x hx => by
            obtain ⟨y, hy, rfl⟩ := List.mem_map.1 hx
            exact (HLI.out y hy).1
          have HSR : Hid (∀ w', Below W.heap.size W w' → SbRow w'.heap.size w' (.slice a k c) l) := fun w' hb => ⟨a, c, by rw [HL.out], fun j hj => by
            obtain ⟨b, o, e, hbl, hf⟩ := HROW.out j hj
            have hb2 := bon HB0.out hb
            exact ⟨b, o, e, Nat.lt_of_lt_of_le hbl hb2.size, hf.keep hb2 hbl⟩⟩
          have HLA : Hid (∀ w', Below W.heap.size W w' → ∀ x ∈ l, AsIn w' x) := fun w' hb x hx => (HLI.out x hx).later (bon HB0.out hb)
          have HDP := mkHid (putO_deep t l)
          have hl6 : l.length ≤ 1000000 := by rw [HL.out]; omega
          have C1 := mkHid (sput_any t l (.slice a k c) wr (HT.out.later HBB.out) (HSR.out _ HBW.out) hl6 (HLA.out _ HBW.out) (HS.out.later HBB.out))
          have C2 : Hid (∀ w', Below W.heap.size W w' → Calls Tryd.prog 23 #[t.val, .slice a k c] w' (SPutP t l w')) := fun w' hb => rPut_any t l (.slice a k c) w' (HT.out.later (bon HB0.out hb)) (HSR.out _ hb) hl6 (HLA.out _ hb)
          unfold Tm.val at C1 C2
          obtain ⟨g0, g1, g2, g3⟩ := HFT.out.later HBW.out
          simp only [Nat.zero_add] at g1 g2 g3
          clear hown hl6 HSR HLA HROW HOW
          go_wp2_with fail
          ((with_reducible refine C1.out.mono ?_)); rintro e w5 ⟨x, rfl, hx1, hx2, hb5⟩
          clear C1 g0 g1 g2 g3
          have b6 := bel_alloc w5 (boxT x)
          have HB6 := mkHid (bon HBW.out (bon hb5 b6))
          have HX1 := mkHid hx1
          have HX2 := mkHid (hx2.later b6)
          have HFX := mkHid (box_four w5 x)
          have HTS6 := mkHid (HTS.out.later (bon hb5 b6))
          have hW6 : w5.alloc (.cells #[.int .i64 x.op, .string x.nm, .int .i64 x.n, .slice x.a x.ks.length x.c] 24) = w5.alloc (boxT x) := rfl
          clear hx1 hx2 hb5 b6 HTS
          unfold Tm.val
          generalize w5.alloc (boxT x) = w6 at *
          have C3 := mkHid (C2.out _ HB6.out)
          clear C2
          obtain ⟨g0, g1, g2, g3⟩ := HFT.out.later HB6.out
          simp only [Nat.zero_add] at g1 g2 g3
          go_wp2_with fail
          ((with_reducible refine C3.out.mono ?_)); rintro e w7 ⟨y, rfl, hy1, hy2, hb7⟩
          clear C3 g0 g1 g2 g3 hW6
          have b8 := bel_alloc w7 (boxT y)
          have HB8 := mkHid (bon HB6.out (bon hb7 b8))
          have HBB8 := mkHid (bon HB0.out HB8.out)
          have HY1 := mkHid hy1
          have HY2 := mkHid (hy2.later b8)
          have HX8 := mkHid (HX2.out.later (bon hb7 b8))
          have HFX8 := mkHid (HFX.out.later (bon hb7 b8))
          have HFY := mkHid (box_four w7 y)
          have HTS8 := mkHid (HTS6.out.later (bon hb7 b8))
          have hW8 : w7.alloc (.cells #[.int .i64 y.op, .string y.nm, .int .i64 y.n, .slice y.a y.ks.length y.c] 24) = w7.alloc (boxT y) := rfl
          clear hy1 hy2 hb7 b8 HTS6 HX2 HFX
          unfold Tm.val
          generalize w7.alloc (boxT y) = w8 at *
          have HD1 : Hid (x.deep ≤ 100) := by show _ ≤ _; rw [← er_deep, HX1.out]; exact HDP.out
          have HD2 : Hid (y.deep ≤ 100) := by show _ ≤ _; rw [← er_deep, HY1.out]; exact HDP.out
          have CA := mkHid (fun (w' : World) (hb : Below w8.heap.size w8 w') => rSame_any x y w' (HX8.out.later hb) (HY2.out.later hb))
          rw [(eqT_iff' x y).2 (by rw [HX1.out, HY1.out]), decide_eq_true HD1.out, decide_eq_true HD2.out] at CA
          have CF1 := mkHid (fun (w' : World) (hb : Below w8.heap.size w8 w') => free_any t nm w' ((HT.out.later HBB8.out).later hb) ((HS.out.later HBB8.out).later hb))
          have CF2 := mkHid (fun (w' : World) (hb : Below w8.heap.size w8 w') => rFree_any t nm w' ((HT.out.later HBB8.out).later hb))
          have CR1 := mkHid (fun (w' : World) (hb : Below w8.heap.size w8 w') => fresh_any (l.map (·.2)) _ nm w' (HTS8.out.later hb) HTL.out (fun z hz => ((HTI.out z hz).later HBB8.out).later hb) ((HS.out.later HBB8.out).later hb) HZ.out)
          have CR2 := mkHid (fun (w' : World) (hb : Below w8.heap.size w8 w') => rFresh_any (l.map (·.2)) _ nm w' (HTS8.out.later hb) HTL.out (fun z hz => ((HTI.out z hz).later HBB8.out).later hb) HZ.out)
          unfold Tm.val at CA CF1 CF2
          have HS9 : Hid (∀ w', Below w8.heap.size w8 w' → w'.cell? ⟨w.heap.size, 0, none⟩ = some (.int .i64 t.op) ∧ w'.cell? ⟨w.heap.size, 1, none⟩ = some (.string t.nm) ∧ w'.cell? ⟨w.heap.size, 2, none⟩ = some (.int .i64 t.n) ∧ w'.cell? ⟨w.heap.size, 3, none⟩ = some (.slice t.a t.ks.length t.c) ∧ w'.cell? ⟨w5.heap.size, 0, none⟩ = some (.int .i64 x.op) ∧ w'.cell? ⟨w5.heap.size, 1, none⟩ = some (.string x.nm) ∧ w'.cell? ⟨w5.heap.size, 2, none⟩ = some (.int .i64 x.n) ∧ w'.cell? ⟨w5.heap.size, 3, none⟩ = some (.slice x.a x.ks.length x.c) ∧ w'.cell? ⟨w7.heap.size, 0, none⟩ = some (.int .i64 y.op) ∧ w'.cell? ⟨w7.heap.size, 1, none⟩ = some (.string y.nm) ∧ w'.cell? ⟨w7.heap.size, 2, none⟩ = some (.int .i64 y.n) ∧ w'.cell? ⟨w7.heap.size, 3, none⟩ = some (.slice y.a y.ks.length y.c)) := fun w' hb => by
            obtain ⟨k0, k1, k2, k3⟩ := HFT.out.later (bon HB8.out hb)
            obtain ⟨l0, l1, l2, l3⟩ := HFX8.out.later hb
            obtain ⟨m0, m1, m2, m3⟩ := HFY.out.later hb
            simp only [Nat.zero_add] at k1 k2 k3 l1 l2 l3 m1 m2 m3
            exact ⟨k0, k1, k2, k3, l0, l1, l2, l3, m0, m1, m2, m3⟩
          generalize freeB t nm = z at *
          generalize frS (l.map (·.2)) nm = fs at *
          generalize (putO t l).2 = er at *
          have hzz : (z == z) = true := by simp
          have hee : ((er : Int) == (er : Int)) = true := by simp
          have hff : (fs.toList == fs.toList) = true := by simp
          have e0 : Below w8.heap.size w8 w8.drew := bdrew (Below.refl _ _)
          clear HD1 HD2 HX1 HY1 HDP HTS8 HTL HTI HX8 HY2 HFX8 HFY HLI
          go_wp2_with fail
          clear hW8
          (try dsimp only [List.append])
          go_region_held2 (fun w' => w'.cell? ⟨w.heap.size, 0, none⟩ = some (.int .i64 t.op) ∧ w'.cell? ⟨w.heap.size, 1, none⟩ = some (.string t.nm) ∧ w'.cell? ⟨w.heap.size, 2, none⟩ = some (.int .i64 t.n) ∧ w'.cell? ⟨w.heap.size, 3, none⟩ = some (.slice t.a t.ks.length t.c) ∧ w'.cell? ⟨w5.heap.size, 0, none⟩ = some (.int .i64 x.op) ∧ w'.cell? ⟨w5.heap.size, 1, none⟩ = some (.string x.nm) ∧ w'.cell? ⟨w5.heap.size, 2, none⟩ = some (.int .i64 x.n) ∧ w'.cell? ⟨w5.heap.size, 3, none⟩ = some (.slice x.a x.ks.length x.c) ∧ w'.cell? ⟨w7.heap.size, 0, none⟩ = some (.int .i64 y.op) ∧ w'.cell? ⟨w7.heap.size, 1, none⟩ = some (.string y.nm) ∧ w'.cell? ⟨w7.heap.size, 2, none⟩ = some (.int .i64 y.n) ∧ w'.cell? ⟨w7.heap.size, 3, none⟩ = some (.slice y.a y.ks.length y.c))
            ((refine HS9.out _ ?_; first | assumption))
            (first
              | (go_at_call 17; ((with_reducible refine (CA.out _ e0).mono ?_)); rintro e v1 ⟨rfl, g1⟩; have j1 := bon e0 g1)
              | (go_at_call 24; ((with_reducible refine (CF1.out _ j1).mono ?_)); rintro e v2 ⟨rfl, g2⟩; have j2 := bon j1 g2)
              | (go_at_call 25; ((with_reducible refine (CF2.out _ j2).mono ?_)); rintro e v3 ⟨rfl, g3⟩; have j3 := bon j2 g3)
              | (go_at_call 25; ((with_reducible refine (CF2.out _ j1).mono ?_)); rintro e v2 ⟨rfl, g2⟩; have j2 := bon j1 g2)
              | (go_at_call 24; ((with_reducible refine (CF1.out _ j2).mono ?_)); rintro e v3 ⟨rfl, g3⟩; have j3 := bon j2 g3)
              | (go_at_call 26; ((with_reducible refine (CR1.out _ j3).mono ?_)); rintro e v4 ⟨rfl, g4⟩; have j4 := bon j3 g4)
              | (go_at_call 27; ((with_reducible refine (CR2.out _ j4).mono ?_)); rintro e v5 ⟨rfl, g5⟩; have j5 := bon j4 g5)
              | (go_at_call 27; ((with_reducible refine (CR2.out _ j3).mono ?_)); rintro e v4 ⟨rfl, g4⟩; have j4 := bon j3 g4)
              | (go_at_call 26; ((with_reducible refine (CR1.out _ j4).mono ?_)); rintro e v5 ⟨rfl, g5⟩; have j5 := bon j4 g5))
          all_goals
            first
              | go_ret
              | (go_wp2; go_ret)
            exact ⟨rfl, bon HBB8.out j5⟩
    · rw [show smallB t = false by simpa using hsm]
      go_wp2
      go_ret
      exact ⟨rfl, bon HB0.out HB3.out⟩
  · have he2 : ¬ (errR t : Int) = 0 := by omega
    have he3 : ((errR t : Int) == 0) = false := by rw [beq_eq_false_iff_ne]; exact he2
    generalize errR t = et at *
    generalize smallB t = st at *
    go_wp2
    go_loopw [11, 12] (fun s11 s12 w' => ∃ (k : Nat) (x : Int), s12 = .int .i64 x ∧ x = k ∧ k ≤ m ∧ Hid (w'.ownsRow W.heap.size 24 4 s11 ((l.take k).map (·.2)).length (((l.take k).map (·.2)).flatMap tm4)) ∧ Hid (Below W.heap.size W w')) (fun _ s12 _ => (m - intOf s12).toNat)
    case atStart => exact ⟨0, 0, rfl, rfl, Nat.zero_le _, ⟨rfl, .inl ⟨rfl, rfl⟩⟩, HB3⟩
    case round =>
      obtain ⟨k, x, rfl, hxk, hk, HOW, HBW⟩ := hrel
      obtain rfl : x = (k : Int) := hxk
      by_cases hlt : k < m
      · have hk' : k < l.length := by rw [HL.out]; exact hlt
        have hlt' : (k : Int) < (m : Int) := by omega
        obtain ⟨b, o, rfl, hbl, hf⟩ := HROW.out k hk'
        have hbw : b < W.heap.size := Nat.lt_of_lt_of_le hbl HB0.out.size
        have HFV : Hid (∀ w', Below W.heap.size W w' → Five5 w' b (o + k * 5) l[k]) := fun w' hb => hf.keep (HB0.out.trans (hb.mono HB0.out.size)) hbl
        have HXI := mkHid (HLI.out _ (List.getElem_mem hk')).1
        have HTK : Hid ((l.take (k + 1)).map (·.2) = (l.take k).map (·.2) ++ [l[k].2]) := by rw [List.take_succ_eq_append_getElem hk', List.map_append]; exact mkHid rfl
        have hlk : ((l.take k).map (·.2)).length ≤ 10 := by rw [List.length_map, List.length_take]; omega
        clear hf hbl HROW HLI
        generalize l[k] = cur at *
        obtain ⟨xn, xt⟩ := cur
        simp only at HXI HTK
        generalize (l.take k).map (·.2) = K at *
        have HBB := mkHid (bon HB0.out HBW.out)
        have C1 := mkHid (sort_any xt wr (HXI.out.later HBB.out) (HS.out.later HBB.out))
        unfold Tm.val at C1
        obtain ⟨c0, c1, c2, c3, c4⟩ := HFV.out _ HBW.out
        go_wp2_with fail
        ((with_reducible refine C1.out.mono ?_)); rintro e w5 ⟨rfl, hb5⟩
        clear C1 c0 c1 c2 c3 c4
        have C2 := mkHid (small_any xt w5 (HXI.out.later (bon HBB.out hb5)) (HS.out.later (bon HBB.out hb5)))
        unfold Tm.val at C2
        obtain ⟨c0, c1, c2, c3, c4⟩ := HFV.out _ (bon HBW.out hb5)
        go_wp2_with fail
        ((with_reducible refine C2.out.mono ?_)); rintro e w7 ⟨rfl, hb7⟩
        clear C2 c0 c1 c2 c3 c4
        have HB7 : Hid (Below wr.heap.size wr w7) := bon hb5 hb7
        have HOW7 := mkHid (own_lat HOW.out HB7.out)
        have HCX : Hid (∀ w', Below wr.heap.size wr w' → Five5 w' b (o + k * 5) (xn, xt)) := fun w' hb => HFV.out _ (bon HBW.out hb)
        clear hb5 hb7 HFV
        by_cases he : errR xt = 0
        · rw [he]
          by_cases hsm : smallB xt = true
          · rw [hsm]
            obtain ⟨v9, w9, hrun, own9, b9⟩ := run_tm xt HOW7.out (by omega) (bon HBW.out HB7.out).size
            have HB9 : Hid (Below W.heap.size W w9) := (bon HBW.out HB7.out).trans b9
            have HOW9 := mkHid own9
            obtain ⟨c0, c1, c2, c3, c4⟩ := HCX.out _ HB7.out
            clear own9 b9 HOW7
            go_wp2_with (at_builtin
                         refine wpList_run3 rfl (.tmp 67) (.tmp 73) rfl rfl (by rfl) (by rfl) hrun ?_)
            go_roundw
            case rel => exact ⟨k + 1, _, rfl, by omega, by omega, by rw [HTK.out]; exact HOW9.out, HB9⟩
            case measure => simp [intOf]; omega
          · rw [show smallB xt = false by simpa using hsm]
            go_wp2
            go_ret
            exact ⟨rfl, bon HB0.out (bon HBW.out HB7.out)⟩
        · have he2 : ¬ (errR xt : Int) = 0 := by omega
          have he3 : ((errR xt : Int) == 0) = false := by rw [beq_eq_false_iff_ne]; exact he2
          generalize errR xt = ex at *
          generalize smallB xt = sx at *
          obtain ⟨v9, w9, hrun, own9, b9⟩ := run_tm xt HOW7.out (by omega) (bon HBW.out HB7.out).size
          have HB9 : Hid (Below W.heap.size W w9) := (bon HBW.out HB7.out).trans b9
          have HOW9 := mkHid own9
          obtain ⟨c0, c1, c2, c3, c4⟩ := HCX.out _ HB7.out
          clear own9 b9 HOW7
          go_wp2_with (at_builtin
                       refine wpList_run3 rfl (.tmp 67) (.tmp 73) rfl rfl (by rfl) (by rfl) hrun ?_)
          go_roundw
          case rel => exact ⟨k + 1, _, rfl, by omega, by omega, by rw [HTK.out]; exact HOW9.out, HB9⟩
          case measure => simp [intOf]; omega
      · obtain rfl : k = m := by omega
        have hown := HOW.out
        rw [List.take_of_length_le (by rw [HL.out]; omega)] at hown
        have HBB := mkHid (bon HB0.out HBW.out)
        have HTS := mkHid (own_ts hown)
        have HTL : Hid ((l.map (·.2)).length ≤ 1000) := by show _ ≤ _; rw [List.length_map, HL.out]; omega
        have HTI : Hid (∀ x ∈ l.map (·.2), TIn w w.heap.size x) := fun x hx => by
          obtain ⟨y, hy, rfl⟩ := List.mem_map.1 hx
          exact (HLI.out y hy).1
        have HSR : Hid (∀ w', Below W.heap.size W w' → SbRow w'.heap.size w' (.slice a k c) l) := fun w' hb => ⟨a, c, by rw [HL.out], fun j hj => by
          obtain ⟨b, o, e, hbl, hf⟩ := HROW.out j hj
          have hb2 := bon HB0.out hb
          exact ⟨b, o, e, Nat.lt_of_lt_of_le hbl hb2.size, hf.keep hb2 hbl⟩⟩
        have HLA : Hid (∀ w', Below W.heap.size W w' → ∀ x ∈ l, AsIn w' x) := fun w' hb x hx => (HLI.out x hx).later (bon HB0.out hb)
        have HDP := mkHid (putO_deep t l)
        have hl6 : l.length ≤ 1000000 := by rw [HL.out]; omega
        have C1 := mkHid (sput_any t l (.slice a k c) wr (HT.out.later HBB.out) (HSR.out _ HBW.out) hl6 (HLA.out _ HBW.out) (HS.out.later HBB.out))
        have C2 : Hid (∀ w', Below W.heap.size W w' → Calls Tryd.prog 23 #[t.val, .slice a k c] w' (SPutP t l w')) := fun w' hb => rPut_any t l (.slice a k c) w' (HT.out.later (bon HB0.out hb)) (HSR.out _ hb) hl6 (HLA.out _ hb)
        unfold Tm.val at C1 C2
        obtain ⟨g0, g1, g2, g3⟩ := HFT.out.later HBW.out
        simp only [Nat.zero_add] at g1 g2 g3
        clear hown hl6 HSR HLA HROW HOW
        go_wp2_with fail
        ((with_reducible refine C1.out.mono ?_)); rintro e w5 ⟨x, rfl, hx1, hx2, hb5⟩
        clear C1 g0 g1 g2 g3
        have b6 := bel_alloc w5 (boxT x)
        have HB6 := mkHid (bon HBW.out (bon hb5 b6))
        have HX1 := mkHid hx1
        have HX2 := mkHid (hx2.later b6)
        have HFX := mkHid (box_four w5 x)
        have HTS6 := mkHid (HTS.out.later (bon hb5 b6))
        have hW6 : w5.alloc (.cells #[.int .i64 x.op, .string x.nm, .int .i64 x.n, .slice x.a x.ks.length x.c] 24) = w5.alloc (boxT x) := rfl
        clear hx1 hx2 hb5 b6 HTS
        unfold Tm.val
        generalize w5.alloc (boxT x) = w6 at *
        have C3 := mkHid (C2.out _ HB6.out)
        clear C2
        obtain ⟨g0, g1, g2, g3⟩ := HFT.out.later HB6.out
        simp only [Nat.zero_add] at g1 g2 g3
        go_wp2_with fail
        ((with_reducible refine C3.out.mono ?_)); rintro e w7 ⟨y, rfl, hy1, hy2, hb7⟩
        clear C3 g0 g1 g2 g3 hW6
        have b8 := bel_alloc w7 (boxT y)
        have HB8 := mkHid (bon HB6.out (bon hb7 b8))
        have HBB8 := mkHid (bon HB0.out HB8.out)
        have HY1 := mkHid hy1
        have HY2 := mkHid (hy2.later b8)
        have HX8 := mkHid (HX2.out.later (bon hb7 b8))
        have HFX8 := mkHid (HFX.out.later (bon hb7 b8))
        have HFY := mkHid (box_four w7 y)
        have HTS8 := mkHid (HTS6.out.later (bon hb7 b8))
        have hW8 : w7.alloc (.cells #[.int .i64 y.op, .string y.nm, .int .i64 y.n, .slice y.a y.ks.length y.c] 24) = w7.alloc (boxT y) := rfl
        clear hy1 hy2 hb7 b8 HTS6 HX2 HFX
        unfold Tm.val
        generalize w7.alloc (boxT y) = w8 at *
        have HD1 : Hid (x.deep ≤ 100) := by show _ ≤ _; rw [← er_deep, HX1.out]; exact HDP.out
        have HD2 : Hid (y.deep ≤ 100) := by show _ ≤ _; rw [← er_deep, HY1.out]; exact HDP.out
        have CA := mkHid (fun (w' : World) (hb : Below w8.heap.size w8 w') => rSame_any x y w' (HX8.out.later hb) (HY2.out.later hb))
        rw [(eqT_iff' x y).2 (by rw [HX1.out, HY1.out]), decide_eq_true HD1.out, decide_eq_true HD2.out] at CA
        have CF1 := mkHid (fun (w' : World) (hb : Below w8.heap.size w8 w') => free_any t nm w' ((HT.out.later HBB8.out).later hb) ((HS.out.later HBB8.out).later hb))
        have CF2 := mkHid (fun (w' : World) (hb : Below w8.heap.size w8 w') => rFree_any t nm w' ((HT.out.later HBB8.out).later hb))
        have CR1 := mkHid (fun (w' : World) (hb : Below w8.heap.size w8 w') => fresh_any (l.map (·.2)) _ nm w' (HTS8.out.later hb) HTL.out (fun z hz => ((HTI.out z hz).later HBB8.out).later hb) ((HS.out.later HBB8.out).later hb) HZ.out)
        have CR2 := mkHid (fun (w' : World) (hb : Below w8.heap.size w8 w') => rFresh_any (l.map (·.2)) _ nm w' (HTS8.out.later hb) HTL.out (fun z hz => ((HTI.out z hz).later HBB8.out).later hb) HZ.out)
        unfold Tm.val at CA CF1 CF2
        have HS9 : Hid (∀ w', Below w8.heap.size w8 w' → w'.cell? ⟨w.heap.size, 0, none⟩ = some (.int .i64 t.op) ∧ w'.cell? ⟨w.heap.size, 1, none⟩ = some (.string t.nm) ∧ w'.cell? ⟨w.heap.size, 2, none⟩ = some (.int .i64 t.n) ∧ w'.cell? ⟨w.heap.size, 3, none⟩ = some (.slice t.a t.ks.length t.c) ∧ w'.cell? ⟨w5.heap.size, 0, none⟩ = some (.int .i64 x.op) ∧ w'.cell? ⟨w5.heap.size, 1, none⟩ = some (.string x.nm) ∧ w'.cell? ⟨w5.heap.size, 2, none⟩ = some (.int .i64 x.n) ∧ w'.cell? ⟨w5.heap.size, 3, none⟩ = some (.slice x.a x.ks.length x.c) ∧ w'.cell? ⟨w7.heap.size, 0, none⟩ = some (.int .i64 y.op) ∧ w'.cell? ⟨w7.heap.size, 1, none⟩ = some (.string y.nm) ∧ w'.cell? ⟨w7.heap.size, 2, none⟩ = some (.int .i64 y.n) ∧ w'.cell? ⟨w7.heap.size, 3, none⟩ = some (.slice y.a y.ks.length y.c)) := fun w' hb => by
          obtain ⟨k0, k1, k2, k3⟩ := HFT.out.later (bon HB8.out hb)
          obtain ⟨l0, l1, l2, l3⟩ := HFX8.out.later hb
          obtain ⟨m0, m1, m2, m3⟩ := HFY.out.later hb
          simp only [Nat.zero_add] at k1 k2 k3 l1 l2 l3 m1 m2 m3
          exact ⟨k0, k1, k2, k3, l0, l1, l2, l3, m0, m1, m2, m3⟩
        generalize freeB t nm = z at *
        generalize frS (l.map (·.2)) nm = fs at *
        generalize (putO t l).2 = er at *
        have hzz : (z == z) = true := by simp
        have hee : ((er : Int) == (er : Int)) = true := by simp
        have hff : (fs.toList == fs.toList) = true := by simp
        have e0 : Below w8.heap.size w8 w8.drew := bdrew (Below.refl _ _)
        clear HD1 HD2 HX1 HY1 HDP HTS8 HTL HTI HX8 HY2 HFX8 HFY HLI
        go_wp2_with fail
        clear hW8
        (try dsimp only [List.append])
        go_region_held2 (fun w' => w'.cell? ⟨w.heap.size, 0, none⟩ = some (.int .i64 t.op) ∧ w'.cell? ⟨w.heap.size, 1, none⟩ = some (.string t.nm) ∧ w'.cell? ⟨w.heap.size, 2, none⟩ = some (.int .i64 t.n) ∧ w'.cell? ⟨w.heap.size, 3, none⟩ = some (.slice t.a t.ks.length t.c) ∧ w'.cell? ⟨w5.heap.size, 0, none⟩ = some (.int .i64 x.op) ∧ w'.cell? ⟨w5.heap.size, 1, none⟩ = some (.string x.nm) ∧ w'.cell? ⟨w5.heap.size, 2, none⟩ = some (.int .i64 x.n) ∧ w'.cell? ⟨w5.heap.size, 3, none⟩ = some (.slice x.a x.ks.length x.c) ∧ w'.cell? ⟨w7.heap.size, 0, none⟩ = some (.int .i64 y.op) ∧ w'.cell? ⟨w7.heap.size, 1, none⟩ = some (.string y.nm) ∧ w'.cell? ⟨w7.heap.size, 2, none⟩ = some (.int .i64 y.n) ∧ w'.cell? ⟨w7.heap.size, 3, none⟩ = some (.slice y.a y.ks.length y.c))
          ((refine HS9.out _ ?_; first | assumption))
          (first
            | (go_at_call 17; ((with_reducible refine (CA.out _ e0).mono ?_)); rintro e v1 ⟨rfl, g1⟩; have j1 := bon e0 g1)
            | (go_at_call 24; ((with_reducible refine (CF1.out _ j1).mono ?_)); rintro e v2 ⟨rfl, g2⟩; have j2 := bon j1 g2)
            | (go_at_call 25; ((with_reducible refine (CF2.out _ j2).mono ?_)); rintro e v3 ⟨rfl, g3⟩; have j3 := bon j2 g3)
            | (go_at_call 25; ((with_reducible refine (CF2.out _ j1).mono ?_)); rintro e v2 ⟨rfl, g2⟩; have j2 := bon j1 g2)
            | (go_at_call 24; ((with_reducible refine (CF1.out _ j2).mono ?_)); rintro e v3 ⟨rfl, g3⟩; have j3 := bon j2 g3)
            | (go_at_call 26; ((with_reducible refine (CR1.out _ j3).mono ?_)); rintro e v4 ⟨rfl, g4⟩; have j4 := bon j3 g4)
            | (go_at_call 27; ((with_reducible refine (CR2.out _ j4).mono ?_)); rintro e v5 ⟨rfl, g5⟩; have j5 := bon j4 g5)
            | (go_at_call 27; ((with_reducible refine (CR2.out _ j3).mono ?_)); rintro e v4 ⟨rfl, g4⟩; have j4 := bon j3 g4)
            | (go_at_call 26; ((with_reducible refine (CR1.out _ j4).mono ?_)); rintro e v5 ⟨rfl, g5⟩; have j5 := bon j4 g5))
        all_goals
          first
            | go_ret
            | (go_wp2; go_ret)
          exact ⟨rfl, bon HBB8.out j5⟩
theorem puts_row (t : Tm) (a : Option Addr) (n c : Nat) (l : List As) (nm : ByteArray) (w : World) (ht : TIn w w.heap.size t) (hcap : n ≤ c) (hcm : c ≤ maxLen) (hl : l.length = n) (hr : ∀ j (h : j < l.length), ∃ b o, a = some ⟨b, o, none⟩ ∧ b < w.heap.size ∧ Five5 w b (o + j * 5) l[j]) (hin : ∀ x ∈ l, AsIn w x) (hz : nm.size ≤ maxLen) (hS : Shps w) : Calls Tryd.prog 4 #[t.val, .slice a n c, .string nm] w (RetB true w) := by
  refine puts_any t (l.take 10) a (min n 10) n c nm w rfl (by rw [List.length_take, hl]; omega) hcap hcm ht (fun j h => ?_) (fun x hx => hin x (List.mem_of_mem_take hx)) hz hS
  rw [List.length_take] at h
  obtain ⟨b, o, e, hb, hf⟩ := hr j (by omega)
  exact ⟨b, o, e, hb, by rw [List.getElem_take]; exact hf⟩
end Go.Proofs.YtaibmdikimpooaaDoor
