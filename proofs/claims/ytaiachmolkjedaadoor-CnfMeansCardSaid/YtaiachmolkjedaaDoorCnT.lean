/-
  What the law's 'truth' answers.
-/
import Derived.Test.YtaiachmolkjedaaDoorCnQ
import Derived.Test.YtaiachmolkjedaaDoorCnP
namespace Go.Proofs.YtaiachmolkjedaaDoor
open Go.RowKit

/-- is an atom of this number true? -/
def bitI (i : Int) (f : Nat) : Bool := bits BinOp.and IntKind.u64 (i / 2 ^ f) 1 == 1
set_option maxRecDepth 100000 in
set_option maxHeartbeats 4000000 in
theorem truth_leaf (A : List Tm) (t : Tm) (va : Value) (is : Int) (w : World) (hr : Row4 w va A) (hL : ∀ x ∈ A, TIn w w.heap.size x ∧ x.deep ≤ 100) (hAl : A.length ≤ 6) (ht : TIn w w.heap.size t) (hd : t.deep ≤ 100) (hj : jnB t.op = false) (hc : has A t = true) :
    Calls Tryd.prog 36 #[va, .int .u64 is, t.val] w (RetV (.bool (tru (bitI is) A t)) w) := by
  have B0 := bel_alloc w (boxT t)
  have F1 := box_four w t
  have hW : w.alloc (.cells #[.int .i64 t.op, .string t.nm, .int .i64 t.n, .slice t.a t.ks.length t.c] 24) = w.alloc (boxT t) := rfl
  have hpl : plc A t = (fnd A t : Int) := by unfold plc; rw [if_pos hc]
  have hfn : fnd A t < 6 := Nat.lt_of_lt_of_le ((has_iff A t).1 hc) hAl
  have CF := mkHid (find_any A t va (w.alloc (boxT t)) (hr.later B0) (fun x hx => ⟨(hL x hx).1.later B0, (hL x hx).2⟩) (ht.later B0) hd)
  rw [hpl] at CF
  unfold jnB at hj
  simp only [Bool.and_eq_false_iff, decide_eq_false_iff_not] at hj
  have h1 : (t.op == 16) = false := by simp; omega
  have h2 : (t.op == 17) = false := by simp; omega
  have h3 : (t.op == 18) = false := by simp; omega
  have h4 : (t.op == 19) = false := by simp; omega
  have h5 : (t.op == 20) = false := by simp; omega
  have h6 : (t.op == 21) = false := by simp; omega
  have HT : Hid (tru (bitI is) A t = (bits BinOp.and IntKind.u64 (is / 2 ^ (fnd A t)) 1 == 1)) := by
    show _ = _
    rw [tru_eq, if_neg (by omega), if_neg (by omega), if_neg (by omega), if_neg (by omega), if_neg (by omega), if_neg (by omega)]
    rfl
  clear hj hr hL hc hpl
  generalize fnd A t = f at *
  generalize w.alloc (boxT t) = W at *
  obtain ⟨f0, f1, f2, f3⟩ := F1
  simp only [Nat.zero_add] at f1 f2 f3
  unfold Tm.val at *
  go_enter Tryd.func36, Tryd.ntmps36
  go_wp2_with (go_at_call 66; ((with_reducible refine CF.out.mono ?_)); rintro e w4 ⟨rfl, hb4⟩)
  go_ret
  exact ⟨by rw [HT.out]; rfl, bon B0 hb4⟩
set_option maxRecDepth 100000 in
set_option maxHeartbeats 4000000 in
theorem truth16 (A : List Tm) (t : Tm) (va : Value) (is : Int) (w : World) (ho : t.op = 16) : Calls Tryd.prog 36 #[va, .int .u64 is, t.val] w (RetV (.bool (tru (bitI is) A t)) w) := by
  have B0 := bel_alloc w (boxT t)
  have F1 := box_four w t
  have hW : w.alloc (.cells #[.int .i64 t.op, .string t.nm, .int .i64 t.n, .slice t.a t.ks.length t.c] 24) = w.alloc (boxT t) := rfl
  have HT : Hid (tru (bitI is) A t = true) := by
    show _ = _
    rw [tru_eq, ho]; rfl
  rw [ho] at hW
  rw [Four, ho] at F1
  unfold Tm.val
  rw [ho]
  generalize w.alloc (boxT t) = W at *
  obtain ⟨f0, f1, f2, f3⟩ := F1
  simp only [Nat.zero_add] at f1 f2 f3
  clear ho
  go_enter Tryd.func36, Tryd.ntmps36
  go_wp2
  go_ret
  exact ⟨by rw [HT.out]; rfl, B0⟩
set_option maxRecDepth 100000 in
set_option maxHeartbeats 4000000 in
theorem truth17 (A : List Tm) (t : Tm) (va : Value) (is : Int) (w : World) (ho : t.op = 17) : Calls Tryd.prog 36 #[va, .int .u64 is, t.val] w (RetV (.bool (tru (bitI is) A t)) w) := by
  have B0 := bel_alloc w (boxT t)
  have F1 := box_four w t
  have hW : w.alloc (.cells #[.int .i64 t.op, .string t.nm, .int .i64 t.n, .slice t.a t.ks.length t.c] 24) = w.alloc (boxT t) := rfl
  have HT : Hid (tru (bitI is) A t = false) := by
    show _ = _
    rw [tru_eq, ho]; rfl
  rw [ho] at hW
  rw [Four, ho] at F1
  unfold Tm.val
  rw [ho]
  generalize w.alloc (boxT t) = W at *
  obtain ⟨f0, f1, f2, f3⟩ := F1
  simp only [Nat.zero_add] at f1 f2 f3
  clear ho
  go_enter Tryd.func36, Tryd.ntmps36
  go_wp2
  go_ret
  exact ⟨by rw [HT.out]; rfl, B0⟩
set_option maxRecDepth 100000 in
set_option maxHeartbeats 4000000 in
theorem truth_not (A : List Tm) (t : Tm) (va : Value) (is : Int) (w : World) (hr : Row4 w va A) (hL : ∀ x ∈ A, TIn w w.heap.size x ∧ x.deep ≤ 100) (ht : TIn w w.heap.size t) (ho : t.op = 18) {u : Tm} (hk : t.ks = [u]) (ih : ∀ k ∈ t.ks, ∀ w : World, Row4 w va A → (∀ x ∈ A, TIn w w.heap.size x ∧ x.deep ≤ 100) → TIn w w.heap.size k → Calls Tryd.prog 36 #[va, .int .u64 is, k.val] w (RetV (.bool (tru (bitI is) A k)) w)) :
    Calls Tryd.prog 36 #[va, .int .u64 is, t.val] w (RetV (.bool (tru (bitI is) A t)) w) := by
  have B0 := bel_alloc w (boxT t)
  have F1 := box_four w t
  have hW : w.alloc (.cells #[.int .i64 t.op, .string t.nm, .int .i64 t.n, .slice t.a t.ks.length t.c] 24) = w.alloc (boxT t) := rfl
  have hkl : t.ks.length = 1 := by rw [hk]; rfl
  obtain ⟨kin, b, o, ha, hbl, kf⟩ := ht.kid 0 (by omega)
  have ek : t.ks[0]'(by omega) = u := by simp [hk]
  rw [ek] at kin kf
  have HC := mkHid (ih u (by rw [hk]; simp) (w.alloc (boxT t)) (hr.later B0) (fun x hx => ⟨(hL x hx).1.later B0, (hL x hx).2⟩) (kin.later B0))
  have HT : Hid (tru (bitI is) A t = !(tru (bitI is) A u)) := by
    show _ = _
    rw [tru_eq, if_neg (by omega), if_neg (by omega), if_pos ho, hk]; rfl
  have kf1 := kf.later B0
  rw [hkl, ho] at hW
  rw [Four, hkl, ho] at F1
  generalize tru (bitI is) A u = tu at *
  unfold Tm.val at *
  rw [hkl, ho]
  clear hr hL ht ih kin kf ek hk
  generalize w.alloc (boxT t) = W at *
  obtain ⟨f0, f1, f2, f3⟩ := F1
  obtain ⟨g0, g1, g2, g3⟩ := kf1
  simp only [Nat.zero_add, Nat.zero_mul, Nat.add_zero] at f1 f2 f3 g0 g1 g2 g3
  rw [ha] at hW f3 ⊢
  clear hkl ha ho
  go_enter Tryd.func36, Tryd.ntmps36
  go_wp2_with (go_at_call 36; ((with_reducible refine HC.out.mono ?_)); rintro e w4 ⟨rfl, hb4⟩)
  go_ret
  exact ⟨by rw [HT.out]; rfl, bon B0 hb4⟩
set_option maxRecDepth 100000 in
set_option maxHeartbeats 4000000 in
theorem truth_imp (A : List Tm) (t : Tm) (va : Value) (is : Int) (w : World) (hr : Row4 w va A) (hL : ∀ x ∈ A, TIn w w.heap.size x ∧ x.deep ≤ 100) (ht : TIn w w.heap.size t) (ho : t.op = 21) {u v : Tm} (hk : t.ks = [u, v]) (ih : ∀ k ∈ t.ks, ∀ w : World, Row4 w va A → (∀ x ∈ A, TIn w w.heap.size x ∧ x.deep ≤ 100) → TIn w w.heap.size k → Calls Tryd.prog 36 #[va, .int .u64 is, k.val] w (RetV (.bool (tru (bitI is) A k)) w)) :
    Calls Tryd.prog 36 #[va, .int .u64 is, t.val] w (RetV (.bool (tru (bitI is) A t)) w) := by
  have B0 := bel_alloc w (boxT t)
  have F1 := box_four w t
  have hW : w.alloc (.cells #[.int .i64 t.op, .string t.nm, .int .i64 t.n, .slice t.a t.ks.length t.c] 24) = w.alloc (boxT t) := rfl
  have hkl : t.ks.length = 2 := by rw [hk]; rfl
  obtain ⟨kin, b, o, ha, hbl, kf⟩ := ht.kid 0 (by omega)
  obtain ⟨kin2, b2, o2, ha2, hbl2, kf2⟩ := ht.kid 1 (by omega)
  rw [ha] at ha2
  simp only [Option.some.injEq, Addr.mk.injEq, and_true] at ha2
  obtain ⟨rfl, rfl⟩ := ha2
  have ek : t.ks[0]'(by omega) = u := by simp [hk]
  have ek2 : t.ks[1]'(by omega) = v := by simp [hk]
  rw [ek] at kin kf
  rw [ek2] at kin2 kf2
  have HC := mkHid (ih u (by rw [hk]; simp) (w.alloc (boxT t)) (hr.later B0) (fun x hx => ⟨(hL x hx).1.later B0, (hL x hx).2⟩) (kin.later B0))
  have HC2 := mkHid (fun (w' : World) (hb : Below (w.alloc (boxT t)).heap.size (w.alloc (boxT t)) w') => ih v (by rw [hk]; simp) w' ((hr.later B0).later hb) (fun x hx => ⟨((hL x hx).1.later B0).later hb, (hL x hx).2⟩) ((kin2.later B0).later hb))
  have HT : Hid (tru (bitI is) A t = (!(tru (bitI is) A u) || tru (bitI is) A v)) := by
    show _ = _
    rw [tru_eq, if_neg (by omega), if_neg (by omega), if_neg (by omega), if_pos ho, hk]; rfl
  have kf1 := kf.later B0
  have kf3 := kf2.later B0
  rw [hkl, ho] at hW
  rw [Four, hkl, ho] at F1
  generalize tru (bitI is) A u = tu at *
  generalize tru (bitI is) A v = tv at *
  unfold Tm.val at *
  rw [hkl, ho]
  clear hr hL ht ih kin kf ek hk kin2 kf2 ek2 hbl2
  generalize w.alloc (boxT t) = W at *
  obtain ⟨f0, f1, f2, f3⟩ := F1
  obtain ⟨g0, g1, g2, g3⟩ := kf1
  obtain ⟨l0, l1, l2, l3⟩ := kf3
  simp only [Nat.zero_add, Nat.zero_mul, Nat.one_mul, Nat.add_zero] at f1 f2 f3 g0 g1 g2 g3 l0 l1 l2 l3
  rw [ha] at hW f3 ⊢
  clear hkl ha ho
  cases tu
  · go_enter Tryd.func36, Tryd.ntmps36
    go_wp2_with (go_at_call 36; ((with_reducible refine HC.out.mono ?_)); rintro e w4 ⟨rfl, hb4⟩)
    go_ret
    exact ⟨by rw [HT.out]; rfl, bon B0 hb4⟩
  · go_enter Tryd.func36, Tryd.ntmps36
    go_wp2_with fail
    ((with_reducible refine HC.out.mono ?_)); rintro e w4 ⟨rfl, hb4⟩
    have f3' := cell_later hb4 f3
    have l0' := cell_later hb4 l0
    have l1' := cell_later hb4 l1
    have l2' := cell_later hb4 l2
    have l3' := cell_later hb4 l3
    have HC3 := mkHid (HC2.out w4 hb4)
    clear f0 f1 f2 f3 g0 g1 g2 g3 l0 l1 l2 l3 hW HC HC2
    go_wp2_with (go_at_call 36; ((with_reducible refine HC3.out.mono ?_)); rintro e w5 ⟨rfl, hb5⟩)
    go_ret
    exact ⟨by rw [HT.out]; cases tv <;> rfl, bon (bon B0 hb4) hb5⟩
set_option maxRecDepth 100000 in
set_option maxHeartbeats 4000000 in
theorem truth19 (A : List Tm) (t : Tm) (va : Value) (is : Int) (w : World) (hr : Row4 w va A) (hL : ∀ x ∈ A, TIn w w.heap.size x ∧ x.deep ≤ 100) (ht : TIn w w.heap.size t) (ho : t.op = 19)  (ih : ∀ k ∈ t.ks, ∀ w : World, Row4 w va A → (∀ x ∈ A, TIn w w.heap.size x ∧ x.deep ≤ 100) → TIn w w.heap.size k → Calls Tryd.prog 36 #[va, .int .u64 is, k.val] w (RetV (.bool (tru (bitI is) A k)) w)) :
    Calls Tryd.prog 36 #[va, .int .u64 is, t.val] w (RetV (.bool (tru (bitI is) A t)) w) := by
  have B0 := bel_alloc w (boxT t)
  have F1 := box_four w t
  have hW : w.alloc (.cells #[.int .i64 t.op, .string t.nm, .int .i64 t.n, .slice t.a t.ks.length t.c] 24) = w.alloc (boxT t) := rfl
  have HT : Hid (tru (bitI is) A t = (trus (bitI is) A t.ks).all id) := by
    show _ = _
    rw [tru_eq]
    rw [if_neg (by omega), if_neg (by omega), if_neg (by omega), if_neg (by omega), if_pos ho]
  have hlc := ht.nums.2.2.2
  unfold maxLen at hlc
  have HIN := mkHid ht
  have IH := mkHid ih
  have HR := mkHid (hr.later B0)
  have HLL : Hid (∀ x ∈ A, TIn (w.alloc (boxT t)) (w.alloc (boxT t)).heap.size x ∧ x.deep ≤ 100) := fun x hx => ⟨(hL x hx).1.later B0, (hL x hx).2⟩
  rw [ho] at hW
  rw [Four, ho] at F1
  unfold Tm.val
  rw [ho]
  obtain ⟨n, hn⟩ : ∃ n, t.ks.length = n := ⟨_, rfl⟩
  have HN := mkHid hn
  rw [hn] at hlc hW F1 ⊢
  clear hr hL ht ih ho hn
  have hn9 : n ≤ 9223372036854775807 := by omega
  generalize w.alloc (boxT t) = W at *
  have HF1 := mkHid F1
  have HB0 := mkHid B0
  obtain ⟨f0, f1, f2, f3⟩ := F1
  simp only [Nat.zero_add] at f1 f2 f3
  go_enter Tryd.func36, Tryd.ntmps36
  go_wp2
  clear f0 f1 f2 f3 hW
  go_loopw [7, 8] (fun q i w' => ∃ (k : Nat) (x : Int) (b : Bool), i = .int .i64 x ∧ x = k ∧ k ≤ n ∧ q = .bool b ∧ Hid (b = (trus (bitI is) A (t.ks.take k)).all id) ∧ Hid (Below W.heap.size W w')) (fun _ i _ => (n - intOf i).toNat)
  case atStart => exact ⟨0, 0, true, rfl, rfl, Nat.zero_le _, rfl, mkHid (by simp [trus]), mkHid (Below.refl _ _)⟩
  case round =>
    obtain ⟨k, x, bb, rfl, hxk, hk, rfl, HQ, BX⟩ := hrel
    obtain rfl : x = (k : Int) := hxk
    obtain ⟨x0, x1, x2, x3⟩ := HF1.out
    simp only [Nat.zero_add] at x1 x2 x3
    have y3 := cell_later BX.out x3
    clear x0 x1 x2 x3
    by_cases hlt : k < n
    · have hk' : k < t.ks.length := by rw [HN.out]; exact hlt
      obtain ⟨kin, b, o, ha, hbl, kf⟩ := HIN.out.kid k hk'
      have bw := bon HB0.out BX.out
      have kf' := kf.keep bw hbl
      have HC := mkHid (IH.out t.ks[k] (List.getElem_mem _) wr (HR.out.later BX.out) (fun x hx => ⟨(HLL.out x hx).1.later BX.out, (HLL.out x hx).2⟩) (kin.later bw))
      have HTK : Hid ((trus (bitI is) A (t.ks.take (k + 1))).all id = ((trus (bitI is) A (t.ks.take k)).all id && tru (bitI is) A t.ks[k])) := by
        show _ = _
        rw [trus_map, trus_map, List.take_succ_eq_append_getElem hk', List.map_append, List.all_append]
        simp
      rw [ha] at y3 ⊢
      clear ha kin kf bw
      generalize t.ks[k] = q at *
      clear hk'
      obtain ⟨g0, g1, g2, g3⟩ := kf'
      unfold Tm.val at HC
      have hk2 : (k : Int) < (n : Int) := by omega
      generalize tru (bitI is) A q = tq at *
      cases bb
      · have HB2 : Hid ((false : Bool) = (trus (bitI is) A (t.ks.take (k + 1))).all id) := by
          show _ = _
          rw [HTK.out, ← HQ.out]; rfl
        clear HQ
        go_wp2_with (go_at_call 36; ((with_reducible refine HC.out.mono ?_)); rintro e w4 ⟨rfl, hb4⟩)
        go_roundw
        case rel => exact ⟨k + 1, _, _, rfl, by omega, by omega, rfl, HB2, mkHid (bon BX.out hb4)⟩
        case measure => simp [intOf]; omega
      · have HB2 : Hid ((tq : Bool) = (trus (bitI is) A (t.ks.take (k + 1))).all id) := by
          show _ = _
          rw [HTK.out, ← HQ.out]; simp
        clear HQ
        go_wp2_with (go_at_call 36; ((with_reducible refine HC.out.mono ?_)); rintro e w4 ⟨rfl, hb4⟩)
        go_roundw
        case rel => exact ⟨k + 1, _, _, rfl, by omega, by omega, rfl, HB2, mkHid (bon BX.out hb4)⟩
        case measure => simp [intOf]; omega
    · have E : Hid (tru (bitI is) A t = bb) := by
        have := HQ.out
        rw [List.take_of_length_le (by rw [HN.out]; omega)] at this
        show _ = _
        rw [HT.out, this]
      go_wp2
      go_ret
      exact ⟨by rw [E.out]; rfl, bon HB0.out BX.out⟩
set_option maxRecDepth 100000 in
set_option maxHeartbeats 4000000 in
theorem truth20 (A : List Tm) (t : Tm) (va : Value) (is : Int) (w : World) (hr : Row4 w va A) (hL : ∀ x ∈ A, TIn w w.heap.size x ∧ x.deep ≤ 100) (ht : TIn w w.heap.size t) (ho : t.op = 20)  (ih : ∀ k ∈ t.ks, ∀ w : World, Row4 w va A → (∀ x ∈ A, TIn w w.heap.size x ∧ x.deep ≤ 100) → TIn w w.heap.size k → Calls Tryd.prog 36 #[va, .int .u64 is, k.val] w (RetV (.bool (tru (bitI is) A k)) w)) :
    Calls Tryd.prog 36 #[va, .int .u64 is, t.val] w (RetV (.bool (tru (bitI is) A t)) w) := by
  have B0 := bel_alloc w (boxT t)
  have F1 := box_four w t
  have hW : w.alloc (.cells #[.int .i64 t.op, .string t.nm, .int .i64 t.n, .slice t.a t.ks.length t.c] 24) = w.alloc (boxT t) := rfl
  have HT : Hid (tru (bitI is) A t = (trus (bitI is) A t.ks).any id) := by
    show _ = _
    rw [tru_eq]
    rw [if_neg (by omega), if_neg (by omega), if_neg (by omega), if_neg (by omega), if_neg (by omega), if_pos ho]
  have hlc := ht.nums.2.2.2
  unfold maxLen at hlc
  have HIN := mkHid ht
  have IH := mkHid ih
  have HR := mkHid (hr.later B0)
  have HLL : Hid (∀ x ∈ A, TIn (w.alloc (boxT t)) (w.alloc (boxT t)).heap.size x ∧ x.deep ≤ 100) := fun x hx => ⟨(hL x hx).1.later B0, (hL x hx).2⟩
  rw [ho] at hW
  rw [Four, ho] at F1
  unfold Tm.val
  rw [ho]
  obtain ⟨n, hn⟩ : ∃ n, t.ks.length = n := ⟨_, rfl⟩
  have HN := mkHid hn
  rw [hn] at hlc hW F1 ⊢
  clear hr hL ht ih ho hn
  have hn9 : n ≤ 9223372036854775807 := by omega
  generalize w.alloc (boxT t) = W at *
  have HF1 := mkHid F1
  have HB0 := mkHid B0
  obtain ⟨f0, f1, f2, f3⟩ := F1
  simp only [Nat.zero_add] at f1 f2 f3
  go_enter Tryd.func36, Tryd.ntmps36
  go_wp2
  clear f0 f1 f2 f3 hW
  go_loopw [10, 11] (fun q i w' => ∃ (k : Nat) (x : Int) (b : Bool), i = .int .i64 x ∧ x = k ∧ k ≤ n ∧ q = .bool b ∧ Hid (b = (trus (bitI is) A (t.ks.take k)).any id) ∧ Hid (Below W.heap.size W w')) (fun _ i _ => (n - intOf i).toNat)
  case atStart => exact ⟨0, 0, false, rfl, rfl, Nat.zero_le _, rfl, mkHid (by simp [trus]), mkHid (Below.refl _ _)⟩
  case round =>
    obtain ⟨k, x, bb, rfl, hxk, hk, rfl, HQ, BX⟩ := hrel
    obtain rfl : x = (k : Int) := hxk
    obtain ⟨x0, x1, x2, x3⟩ := HF1.out
    simp only [Nat.zero_add] at x1 x2 x3
    have y3 := cell_later BX.out x3
    clear x0 x1 x2 x3
    by_cases hlt : k < n
    · have hk' : k < t.ks.length := by rw [HN.out]; exact hlt
      obtain ⟨kin, b, o, ha, hbl, kf⟩ := HIN.out.kid k hk'
      have bw := bon HB0.out BX.out
      have kf' := kf.keep bw hbl
      have HC := mkHid (IH.out t.ks[k] (List.getElem_mem _) wr (HR.out.later BX.out) (fun x hx => ⟨(HLL.out x hx).1.later BX.out, (HLL.out x hx).2⟩) (kin.later bw))
      have HTK : Hid ((trus (bitI is) A (t.ks.take (k + 1))).any id = ((trus (bitI is) A (t.ks.take k)).any id || tru (bitI is) A t.ks[k])) := by
        show _ = _
        rw [trus_map, trus_map, List.take_succ_eq_append_getElem hk', List.map_append, List.any_append]
        simp
      rw [ha] at y3 ⊢
      clear ha kin kf bw
      generalize t.ks[k] = q at *
      clear hk'
      obtain ⟨g0, g1, g2, g3⟩ := kf'
      unfold Tm.val at HC
      have hk2 : (k : Int) < (n : Int) := by omega
      generalize tru (bitI is) A q = tq at *
      cases bb
      · have HB2 : Hid ((tq : Bool) = (trus (bitI is) A (t.ks.take (k + 1))).any id) := by
          show _ = _
          rw [HTK.out, ← HQ.out]; simp
        clear HQ
        go_wp2_with (go_at_call 36; ((with_reducible refine HC.out.mono ?_)); rintro e w4 ⟨rfl, hb4⟩)
        go_roundw
        case rel => exact ⟨k + 1, _, _, rfl, by omega, by omega, rfl, HB2, mkHid (bon BX.out hb4)⟩
        case measure => simp [intOf]; omega
      · have HB2 : Hid ((true : Bool) = (trus (bitI is) A (t.ks.take (k + 1))).any id) := by
          show _ = _
          rw [HTK.out, ← HQ.out]; rfl
        clear HQ
        go_wp2_with (go_at_call 36; ((with_reducible refine HC.out.mono ?_)); rintro e w4 ⟨rfl, hb4⟩)
        go_roundw
        case rel => exact ⟨k + 1, _, _, rfl, by omega, by omega, rfl, HB2, mkHid (bon BX.out hb4)⟩
        case measure => simp [intOf]; omega
    · have E : Hid (tru (bitI is) A t = bb) := by
        have := HQ.out
        rw [List.take_of_length_le (by rw [HN.out]; omega)] at this
        show _ = _
        rw [HT.out, this]
      go_wp2
      go_ret
      exact ⟨by rw [E.out]; rfl, bon HB0.out BX.out⟩
theorem truth_any (A : List Tm) (va : Value) (is : Int) (hAl : A.length ≤ 6) : ∀ t : Tm, t.srt = 4 → ∀ w : World, Row4 w va A → (∀ x ∈ A, TIn w w.heap.size x ∧ x.deep ≤ 100) → TIn w w.heap.size t → t.deep ≤ 100 → cov A t = true → Calls Tryd.prog 36 #[va, .int .u64 is, t.val] w (RetV (.bool (tru (bitI is) A t)) w) := by
  have kid : ∀ (t : Tm), ∀ k ∈ t.ks, k.deep ≤ t.deep := fun t k hk => by
    have := deep_mem hk
    have := Tm.deep_eq t
    omega
  refine cnf_ind (fun t h hj w hr hL ht hd hc => ?_) (fun t u h ho hk hu ih w hr hL ht hd hc => ?_) (fun t h hj hn hop h0 h2 hks ih w hr hL ht hd hc => ?_)
  · rw [cov_eq, if_neg (by rw [hj]; simp)] at hc
    exact truth_leaf A t va is w hr hL hAl ht hd hj hc
  · have hj : jnB t.op = true := by rw [ho]; rfl
    rw [cov_eq, if_pos hj, covs_all] at hc
    exact truth_not A t va is w hr hL ht ho hk (fun k hk' w hr hL hin => by
      have e : k = u := by rw [hk] at hk'; simpa using hk'
      subst e
      exact ih w hr hL hin (Nat.le_trans (kid t _ hk') hd) (hc _ hk'))
  · rw [cov_eq, if_pos hj, covs_all] at hc
    have IH : ∀ k ∈ t.ks, ∀ w : World, Row4 w va A → (∀ x ∈ A, TIn w w.heap.size x ∧ x.deep ≤ 100) → TIn w w.heap.size k → Calls Tryd.prog 36 #[va, .int .u64 is, k.val] w (RetV (.bool (tru (bitI is) A k)) w) :=
      fun k hk w hr hL hin => ih k hk w hr hL hin (Nat.le_trans (kid t k hk) hd) (hc k hk)
    rcases hop with ho | ho | ho | ho | ho
    · exact truth16 A t va is w ho
    · exact truth17 A t va is w ho
    · exact truth19 A t va is w hr hL ht ho IH
    · exact truth20 A t va is w hr hL ht ho IH
    · obtain ⟨u, v, hk⟩ := h2 ho
      exact truth_imp A t va is w hr hL ht ho hk IH
end Go.Proofs.YtaiachmolkjedaaDoor
