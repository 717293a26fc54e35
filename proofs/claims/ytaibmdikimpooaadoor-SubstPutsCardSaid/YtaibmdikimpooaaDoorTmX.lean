/-
  What the document's 'sorted' answers: a term's sort.
-/
import Derived.Test.YtaibmdikimpooaaDoorTmW
import Derived.Test.YtaibmdikimpooaaDoorTmV
import Derived.Test.YtaibmdikimpooaaDoorTmU
import Derived.Test.YtaibmdikimpooaaDoorTmT
import Derived.Test.YtaibmdikimpooaaDoorTmH
import Derived.Deep.DeepCutAuto
import Derived.Deep.CutBlock
namespace Go.Proofs.YtaibmdikimpooaaDoor
open Go.RowKit

def wantL (r : Sh) : List Int := if r.many then [-1] else ([(r.p0 : Int), (r.p1 : Int)]).take r.count
theorem dShape_row : ∀ j : Nat, j < 29 → 1 ≤ j → dShape (j : Int) = ((shRow j).sort, wantL (shRow j)) ∧ varB (j : Int) = (shRow j).name ∧ (shRow j).number = (decide (j = 1) || decide (j = 6)) := by decide
theorem loop_len (s : ByteArray) : ∀ (n i : Nat) (r : List UInt8), s.size - i = n → (ByteArray.toList.loop s i r).length = r.length + n
  | 0, i, r, h => by
    unfold ByteArray.toList.loop
    rw [if_neg (by omega)]; simp
  | n + 1, i, r, h => by
    unfold ByteArray.toList.loop
    rw [if_pos (by omega), loop_len s n (i + 1) _ (by omega)]
    simp; omega
theorem nameB_empty {s : ByteArray} (h : s.toList = []) : nameB s = false := by
  have : s.size = 0 := by
    have e := loop_len s s.size 0 [] (by omega)
    have h' : ByteArray.toList.loop s 0 [] = [] := h
    rw [h'] at e
    simpa using e.symm
  unfold nameB
  rw [decide_eq_false (by omega)]
  rfl
set_option maxRecDepth 100000 in
set_option maxHeartbeats 4000000 in
theorem sorted_out (t : Tm) (w : World) (hin : TIn w w.heap.size t) (h : ¬ (1 ≤ t.op ∧ t.op ≤ 28)) :
    Calls Tryd.prog 29 #[t.val] w fun e w' => e = .returned (.int .i64 t.srt) ∧ Below w.heap.size w w' := by
  have hs : t.srt = 0 := by rw [srt_eq]; exact sortOf_low h
  have hd : dShape t.op = (0, []) := by
    unfold dShape
    repeat rw [if_neg (by omega)]
  rw [hs]
  have hb1 := bel_alloc w (boxT t)
  have F1 := box_four w t
  have hW1 : w.alloc (.cells #[.int .i64 t.op, .string t.nm, .int .i64 t.n, .slice t.a t.ks.length t.c] 24) = w.alloc (boxT t) := rfl
  have SHc := mkHid (shape_any t.op (w.alloc (boxT t)))
  have NMc := mkHid (fun w' => rName_any t.nm w' hin.nums.2.2.1)
  have VRc := mkHid (fun w' => var_any t.op w')
  rw [hd] at SHc
  clear hin h hs hd
  generalize w.alloc (boxT t) = W1 at *
  unfold Tm.val
  obtain ⟨u0, u1, u2, u3⟩ := id F1
  simp only [Nat.zero_add] at u1 u2 u3
  go_enter Tryd.func29, Tryd.ntmps29
  go_wp2_with fail
  ((with_reducible refine SHc.out.mono ?_)); rintro e w2 ⟨a, c, rfl, hI, hb2⟩
  clear u0 u1 u2 u3 hW1 SHc
  have F2 := F1.later hb2
  have B2 := bon hb1 hb2
  obtain ⟨u0, u1, u2, u3⟩ := id F2
  simp only [Nat.zero_add] at u1 u2 u3
  go_wp2_with fail
  ((with_reducible refine (NMc.out _).mono ?_)); rintro e w3 ⟨rfl, rfl⟩
  go_wp2
  go_ret
  exact ⟨rfl, B2⟩
set_option maxRecDepth 100000 in
set_option maxHeartbeats 4000000 in
theorem sorted_named (t : Tm) (w : World) (hin : TIn w w.heap.size t) (j : Nat) (hj : t.op = (j : Int)) (j1 : 1 ≤ j) (j2 : j ≤ 28) (h : namedB (shRow j) t.nm = false) :
    Calls Tryd.prog 29 #[t.val] w fun e w' => e = .returned (.int .i64 t.srt) ∧ Below w.heap.size w w' := by
  have hs : t.srt = 0 := by rw [srt_eq, hj, sortOf_in j1 j2, h]; rfl
  obtain ⟨hd, hv, -⟩ := dShape_row j (by omega) j1
  have hp := (shRow_all j (by omega)).2.2.1 j1
  rw [hs]
  have hb1 := bel_alloc w (boxT t)
  have F1 := box_four w t
  have hW1 : w.alloc (.cells #[.int .i64 t.op, .string t.nm, .int .i64 t.n, .slice t.a t.ks.length t.c] 24) = w.alloc (boxT t) := rfl
  have SHc := mkHid (shape_any t.op (w.alloc (boxT t)))
  have NMc := mkHid (fun w' => rName_any t.nm w' hin.nums.2.2.1)
  have VRc := mkHid (fun w' => var_any t.op w')
  rw [← hj] at hd hv
  rw [hd] at SHc
  rw [hv] at VRc
  have hs0 : (((shRow j).sort : Int) == 0) = false := by rw [beq_eq_false_iff_ne]; omega
  unfold namedB at h
  generalize (shRow j).sort = so at *
  generalize (shRow j).name = vb at *
  generalize wantL (shRow j) = wl at *
  generalize nameB t.nm = nb at *
  clear hin hs hd hv hp hj
  generalize w.alloc (boxT t) = W1 at *
  unfold Tm.val
  obtain ⟨u0, u1, u2, u3⟩ := id F1
  simp only [Nat.zero_add] at u1 u2 u3
  go_enter Tryd.func29, Tryd.ntmps29
  go_wp2_with fail
  ((with_reducible refine SHc.out.mono ?_)); rintro e w2 ⟨a, c, rfl, hI, hb2⟩
  clear u0 u1 u2 u3 hW1 SHc
  have F2 := F1.later hb2
  have B2 := bon hb1 hb2
  obtain ⟨u0, u1, u2, u3⟩ := id F2
  simp only [Nat.zero_add] at u1 u2 u3
  go_wp2_with fail
  ((with_reducible refine (NMc.out _).mono ?_)); rintro e w3 ⟨rfl, rfl⟩
  cases vb
  · simp only [Bool.false_eq_true, if_false] at h
    cases nb
    · go_wp2_with (go_at_call 55; ((with_reducible refine (VRc.out _).mono ?_)); rintro e w4 ⟨rfl, rfl⟩)
      go_ret
      exact ⟨rfl, B2⟩
    · clear h
      go_wp2_with (go_at_call 55; ((with_reducible refine (VRc.out _).mono ?_)); rintro e w4 ⟨rfl, rfl⟩)
      go_ret
      exact ⟨rfl, B2⟩
  · simp only [if_true] at h
    subst h
    go_wp2_with (go_at_call 55; ((with_reducible refine (VRc.out _).mono ?_)); rintro e w4 ⟨rfl, rfl⟩)
    go_ret
    exact ⟨rfl, B2⟩
set_option maxRecDepth 100000 in
set_option maxHeartbeats 4000000 in
theorem sorted_num (t : Tm) (w : World) (hin : TIn w w.heap.size t) (j : Nat) (hj : t.op = (j : Int)) (j1 : 1 ≤ j) (j2 : j ≤ 28) (h : namedB (shRow j) t.nm = true) (hnum : (shRow j).number = false) (hn : t.n ≠ 0) :
    Calls Tryd.prog 29 #[t.val] w fun e w' => e = .returned (.int .i64 t.srt) ∧ Below w.heap.size w w' := by
  have hs : t.srt = 0 := by rw [srt_eq, hj, sortOf_in j1 j2, h, hnum]; simp [hn]
  obtain ⟨hd, hv, hm⟩ := dShape_row j (by omega) j1
  have hp := (shRow_all j (by omega)).2.2.1 j1
  rw [hs]
  have hb1 := bel_alloc w (boxT t)
  have F1 := box_four w t
  have hW1 : w.alloc (.cells #[.int .i64 t.op, .string t.nm, .int .i64 t.n, .slice t.a t.ks.length t.c] 24) = w.alloc (boxT t) := rfl
  have SHc := mkHid (shape_any t.op (w.alloc (boxT t)))
  have NMc := mkHid (fun w' => rName_any t.nm w' hin.nums.2.2.1)
  have VRc := mkHid (fun w' => var_any t.op w')
  rw [← hj] at hd hv
  rw [hd] at SHc
  rw [hv] at VRc
  have hs0 : (((shRow j).sort : Int) == 0) = false := by rw [beq_eq_false_iff_ne]; omega
  have hn0 : (t.n != 0) = true := by rw [bne_iff_ne]; exact hn
  rw [hnum] at hm
  have ho1 : (t.op != 1) = true := by
    rw [bne_iff_ne, hj]; intro e
    have : j = 1 := by omega
    subst this; simp at hm
  have ho6 : (t.op != 6) = true := by
    rw [bne_iff_ne, hj]; intro e
    have : j = 6 := by omega
    subst this; simp at hm
  unfold namedB at h
  have HE := mkHid (fun h : t.nm.toList.isEmpty = true => nameB_empty (s := t.nm) (by simpa using h))
  generalize (shRow j).sort = so at *
  generalize (shRow j).name = vb at *
  generalize wantL (shRow j) = wl at *
  generalize nameB t.nm = nb at *
  clear hin hs hd hv hp hj hm hn hnum
  generalize w.alloc (boxT t) = W1 at *
  unfold Tm.val
  obtain ⟨u0, u1, u2, u3⟩ := id F1
  simp only [Nat.zero_add] at u1 u2 u3
  go_enter Tryd.func29, Tryd.ntmps29
  go_wp2_with fail
  ((with_reducible refine SHc.out.mono ?_)); rintro e w2 ⟨a, c, rfl, hI, hb2⟩
  clear u0 u1 u2 u3 hW1 SHc
  have F2 := F1.later hb2
  have B2 := bon hb1 hb2
  obtain ⟨u0, u1, u2, u3⟩ := id F2
  simp only [Nat.zero_add] at u1 u2 u3
  go_wp2_with fail
  ((with_reducible refine (NMc.out _).mono ?_)); rintro e w3 ⟨rfl, rfl⟩
  cases vb
  · simp only [Bool.false_eq_true, if_false] at h
    have hb := HE.out h
    subst hb
    go_wp2_with (go_at_call 55; ((with_reducible refine (VRc.out _).mono ?_)); rintro e w4 ⟨rfl, rfl⟩)
    go_ret
    exact ⟨rfl, B2⟩
  · simp only [if_true] at h
    subst h
    go_wp2_with (go_at_call 55; ((with_reducible refine (VRc.out _).mono ?_)); rintro e w4 ⟨rfl, rfl⟩)
    go_ret
    exact ⟨rfl, B2⟩
theorem srt_pass {t : Tm} {j : Nat} (hj : t.op = (j : Int)) (j1 : 1 ≤ j) (j2 : j ≤ 28) (h : namedB (shRow j) t.nm = true) (hn : (shRow j).number = true ∨ t.n = 0) : t.srt = if holdsB (shRow j) (t.ks.map Tm.srt) then (shRow j).sort else 0 := by
  rw [srt_eq, hj, sortOf_in j1 j2, h]
  have e : ((shRow j).number || decide (t.n = 0)) = true := by
    rcases hn with e | e
    · rw [e]; rfl
    · rw [decide_eq_true e]; simp
  rw [e]; simp
theorem holds_bad {r : Sh} {ks : List Tm} {k : Nat} (hk : k < ks.length) (h : ks[k].srt ≠ r.want k) : holdsB r (ks.map Tm.srt) = false := by
  unfold holdsB
  rw [Bool.and_eq_false_iff]; right
  rw [List.all_eq_false]
  exact ⟨k, List.mem_range.2 (by simpa using hk), by simp [List.getD, hk, h]⟩
theorem holds_good {r : Sh} {ks : List Tm} (hc : r.many = true ∨ ks.length = r.count) (h : ∀ m (hm : m < ks.length), ks[m].srt = r.want m) : holdsB r (ks.map Tm.srt) = true := by
  unfold holdsB
  rw [Bool.and_eq_true]
  refine ⟨?_, ?_⟩
  · rcases hc with e | e
    · rw [e]; rfl
    · simp [e]
  · rw [List.all_eq_true]
    intro i hi
    have hi' : i < ks.length := by simpa using hi
    simp [List.getD, hi', h i hi']
theorem want_rows : ∀ j : Nat, j < 29 → 1 ≤ j → ((shRow j).many = true → (shRow j).p0 = 4) ∧ (shRow j).count ≤ 2 := by decide
set_option maxRecDepth 100000 in
set_option maxHeartbeats 8000000 in
theorem sorted_main (t : Tm) (ih : ∀ k ∈ t.ks, ∀ w : World, TIn w w.heap.size k → Calls Tryd.prog 29 #[k.val] w fun e w' => e = .returned (.int .i64 k.srt) ∧ Below w.heap.size w w') (w : World) (hin : TIn w w.heap.size t) (j : Nat) (hj : t.op = (j : Int)) (j1 : 1 ≤ j) (j2 : j ≤ 28) (h : namedB (shRow j) t.nm = true) (hnum : (shRow j).number = true ∨ t.n = 0) :
    Calls Tryd.prog 29 #[t.val] w fun e w' => e = .returned (.int .i64 t.srt) ∧ Below w.heap.size w w' := by
  have hs := srt_pass hj j1 j2 h hnum
  obtain ⟨hd, hv, hm⟩ := dShape_row j (by omega) j1
  have hp := (shRow_all j (by omega)).2.2.1 j1
  have hwr := want_rows j (by omega) j1
  have hb1 := bel_alloc w (boxT t)
  have F1 := box_four w t
  have hW1 : w.alloc (.cells #[.int .i64 t.op, .string t.nm, .int .i64 t.n, .slice t.a t.ks.length t.c] 24) = w.alloc (boxT t) := rfl
  have SHc := mkHid (shape_any t.op (w.alloc (boxT t)))
  have NMc := mkHid (fun w' => rName_any t.nm w' hin.nums.2.2.1)
  have VRc := mkHid (fun w' => var_any t.op w')
  rw [← hj] at hd hv
  rw [hd] at SHc
  rw [hv] at VRc
  have hs0 : (((shRow j).sort : Int) == 0) = false := by rw [beq_eq_false_iff_ne]; omega
  have hw3 : (t.n != 0) = false ∨ ((t.n != 0) = true ∧ ((t.op != 1) = false ∨ ((t.op != 1) = true ∧ (t.op != 6) = false))) := by
    by_cases e0 : t.n = 0
    · left; rw [e0]; rfl
    · right
      refine ⟨by rw [bne_iff_ne]; exact e0, ?_⟩
      have hnn : (shRow j).number = true := by rcases hnum with e | e; exact e; exact absurd e e0
      rw [hnn] at hm
      have : j = 1 ∨ j = 6 := by simpa using hm.symm
      rcases this with e | e
      · left; rw [hj, e]; rfl
      · right; rw [hj, e]; exact ⟨rfl, rfl⟩
  unfold namedB at h
  have HE := mkHid (fun h : t.nm.toList.isEmpty = true => nameB_empty (s := t.nm) (by simpa using h))
  have HIN := mkHid hin
  have IH := mkHid ih
  have HSR := mkHid hs
  have HWR := mkHid hwr
  have hn9 : t.ks.length ≤ 9223372036854775807 := by have := hin.nums.2.2.2.1; have := hin.nums.2.2.2.2; unfold maxLen at this; omega
  generalize hso : (shRow j).sort = so at *
  generalize hvb : (shRow j).name = vb at *
  generalize hwl : wantL (shRow j) = wl at *
  have HWLL := mkHid hwl
  generalize nameB t.nm = nb at *
  generalize t.srt = sr at *
  clear hin hs hd hv hp hj hm hnum ih hwr hso hvb hwl
  generalize w.alloc (boxT t) = W1 at *
  unfold Tm.val
  obtain ⟨u0, u1, u2, u3⟩ := id F1
  simp only [Nat.zero_add] at u1 u2 u3
  go_enter Tryd.func29, Tryd.ntmps29
  go_wp2_with fail
  ((with_reducible refine SHc.out.mono ?_)); rintro e w2 ⟨a, c, rfl, hI, hb2⟩
  clear u0 u1 u2 u3 hW1 SHc
  have F2 := F1.later hb2
  have B2 := bon hb1 hb2
  obtain ⟨u0, u1, u2, u3⟩ := id F2
  simp only [Nat.zero_add] at u1 u2 u3
  go_wp2_with fail
  ((with_reducible refine (NMc.out _).mono ?_)); rintro e w3 ⟨rfl, rfl⟩
  go_upto_region 3 with fail
  go_cut [52] (fun s wx => s = .bool false ∧ wx = w2)
  case first =>
    cases vb
    · simp only [Bool.false_eq_true, if_false] at h
      have hb := HE.out h
      subst hb
      rcases hw3 with e1 | ⟨e1, e2 | ⟨e2, e3⟩⟩
      all_goals
        go_wp2_with (go_at_call 55; ((with_reducible refine (VRc.out _).mono ?_)); rintro e w4 ⟨rfl, rfl⟩)
        go_meet
        exact ⟨rfl, rfl⟩
    · simp only [if_true] at h
      subst h
      rcases hw3 with e1 | ⟨e1, e2 | ⟨e2, e3⟩⟩
      all_goals
        go_wp2_with (go_at_call 55; ((with_reducible refine (VRc.out _).mono ?_)); rintro e w4 ⟨rfl, rfl⟩)
        go_meet
        exact ⟨rfl, rfl⟩
  case rest =>
    obtain ⟨rfl, rfl⟩ := hcut
    clear h hw3 HE VRc NMc hb1 F1 hb2
    have hB0 : sr ≠ sr ∨ True := .inr trivial
    clear hB0
    generalize hn' : t.ks.length = n at *
    have HN := mkHid hn'
    clear hn'
    cases hmb : (shRow j).many
    · have hct := HWR.out.2
      rcases (show (shRow j).count = 0 ∨ (shRow j).count = 1 ∨ (shRow j).count = 2 by omega) with hc0 | hc0 | hc0
      · have hwl : wl = [] := by
          have := HWLL.out
          unfold wantL at this
          rw [hmb, hc0] at this
          simpa using this.symm
        subst hwl
        by_cases hlen : n = 0
        · have hq : ((n : Int) != 0) = false := by rw [hlen]; rfl
          have HB : Hid (∀ k (hk : k < t.ks.length), t.ks[k].srt ≠ (shRow j).want k → sr = 0) := fun k hk e => by rw [HSR.out, holds_bad hk e]; rfl
          have HG : Hid ((∀ m (hm : m < t.ks.length), t.ks[m].srt = (shRow j).want m) → sr = so) := fun e => by rw [HSR.out, holds_good (.inr (by rw [HN.out, hlen, hc0])) e]; rfl
          have HWL : Hid (([] : List Int).length = n) := by rw [hlen]; rfl
          have HWI : Hid (∀ k (hk : k < n) (hk' : k < ([] : List Int).length), ([] : List Int)[k] = ((shRow j).want k : Int)) := fun k hk hk' => by
            unfold Sh.want
            rw [hmb]
            have : k < 0 := by omega
            match k, this with
            | _, h => exact absurd h (by omega)
          have HWT : Hid (∀ k, k < n → True) := fun _ _ => trivial
          have HLEN := mkHid hlen
          clear hlen
          go_wp2

          clear u0 u1 u2 u3
          simp only [List.length_nil]
          go_loopw [7] (fun i w' => ∃ (k : Nat) (x : Int), i = .int .i64 x ∧ x = k ∧ k ≤ n ∧ Below wc.heap.size wc w' ∧ Hid (∀ m (hm : m < t.ks.length), m < k → t.ks[m].srt = (shRow j).want m)) (fun i _ => (n - intOf i).toNat)
          case atStart => exact ⟨0, 0, rfl, rfl, Nat.zero_le _, Below.refl _ _, fun m _ hm => by omega⟩
          case round =>
            obtain ⟨k, x, rfl, hxk, hk, hb, hal⟩ := hrel
            obtain rfl : x = (k : Int) := hxk
            obtain ⟨u0, u1, u2, u3⟩ := F2.later hb
            simp only [Nat.zero_add] at u1 u2 u3
            rw [HN.out] at u3
            have BR := bon B2 hb
            by_cases hlt : k < n
            · exact absurd hlt (by rw [HLEN.out]; omega)
            · obtain rfl : k = n := by omega
              have HZ := mkHid (HG.out (fun m hm => hal.out m hm (by rw [← HN.out]; exact hm)))
              clear hal
              go_wp2
              go_ret
              exact ⟨by first | (rw [HZ.out]; done) | (rw [HZ.out]; rfl), BR⟩
        · have hq : ((n : Int) != 0) = true := by rw [bne_iff_ne]; omega
          have hz : sr = 0 := by
            rw [HSR.out]
            have : holdsB (shRow j) (t.ks.map Tm.srt) = false := by
              unfold holdsB
              rw [hmb, hc0]
              simp [HN.out, hlen]
            rw [this]; rfl
          have HZ := mkHid hz
          clear hz
          go_wp2
          go_ret
          exact ⟨by rw [HZ.out]; rfl, B2⟩
      · have hwl : wl = [((shRow j).p0 : Int)] := by
          have := HWLL.out
          unfold wantL at this
          rw [hmb, hc0] at this
          simpa using this.symm
        subst hwl
        obtain ⟨b0, o0, ha0, hl0, hd0⟩ := hI 0 (by simp)
        simp only [List.getElem_cons_zero, Nat.add_zero] at hd0
        have hp1 : (((shRow j).p0 : Int) == -1) = false := by rw [beq_eq_false_iff_ne]; omega
        subst ha0
        by_cases hlen : n = 1
        · have hq : ((n : Int) != 1) = false := by rw [hlen]; rfl
          have HB : Hid (∀ k (hk : k < t.ks.length), t.ks[k].srt ≠ (shRow j).want k → sr = 0) := fun k hk e => by rw [HSR.out, holds_bad hk e]; rfl
          have HG : Hid ((∀ m (hm : m < t.ks.length), t.ks[m].srt = (shRow j).want m) → sr = so) := fun e => by rw [HSR.out, holds_good (.inr (by rw [HN.out, hlen, hc0])) e]; rfl
          have HWL : Hid (([((shRow j).p0 : Int)] : List Int).length = n) := by rw [hlen]; rfl
          have HWI : Hid (∀ k (hk : k < n) (hk' : k < ([((shRow j).p0 : Int)] : List Int).length), ([((shRow j).p0 : Int)] : List Int)[k] = ((shRow j).want k : Int)) := fun k hk hk' => by
            unfold Sh.want
            rw [hmb]
            have : k < 1 := by omega
            match k, this with
            | 0, _ => rfl
          have HWT : Hid (∀ k, k < n → True) := fun _ _ => trivial
          have HLEN := mkHid hlen
          clear hlen
          go_wp2

          clear u0 u1 u2 u3
          simp only [List.length_cons, List.length_nil, Nat.zero_add]
          go_loopw [7] (fun i w' => ∃ (k : Nat) (x : Int), i = .int .i64 x ∧ x = k ∧ k ≤ n ∧ Below wc.heap.size wc w' ∧ Hid (∀ m (hm : m < t.ks.length), m < k → t.ks[m].srt = (shRow j).want m)) (fun i _ => (n - intOf i).toNat)
          case atStart => exact ⟨0, 0, rfl, rfl, Nat.zero_le _, Below.refl _ _, fun m _ hm => by omega⟩
          case round =>
            obtain ⟨k, x, rfl, hxk, hk, hb, hal⟩ := hrel
            obtain rfl : x = (k : Int) := hxk
            obtain ⟨u0, u1, u2, u3⟩ := F2.later hb
            simp only [Nat.zero_add] at u1 u2 u3
            rw [HN.out] at u3
            have BR := bon B2 hb
            by_cases hlt : k < n
            · have hk' : k < t.ks.length := by rw [HN.out]; exact hlt
              have bW : Below w.heap.size w wr := BR
              obtain ⟨kin, b', o', ha, hbB, kf⟩ := HIN.out.kid k hk'
              have kf' := kf.keep bW hbB
              have HC := mkHid (IH.out t.ks[k] (List.getElem_mem _) wr ((kin.keep bW).mono bW.size))
              have HW := mkHid (HWT.out k hlt)
              have HNX : Hid (t.ks[k].srt = (shRow j).want k → ∀ m (hm : m < t.ks.length), m < k + 1 → t.ks[m].srt = (shRow j).want m) := fun e m hm hmk => by
                by_cases e' : m = k
                · subst e'; exact e
                · exact hal.out m hm (by omega)
              have HBAD : Hid (t.ks[k].srt ≠ (shRow j).want k → sr = 0) := fun e => HB.out k hk' e
              obtain ⟨wb, wo, hwa, hwl, hwc⟩ := hI k (by rw [HWL.out]; exact hlt)
              have hwc' := cell_later hb hwc
              rw [HWI.out k hlt (by rw [HWL.out]; exact hlt)] at hwc'
              (first | subst hwa | cases hwa)
              have hk3 : (k : Int) < (n : Int) := by omega
              have hk4 : (k : Int) < 1 := by have := HLEN.out; omega
              have hk5 : k < 1 := by have := HLEN.out; omega
              rw [ha] at u3
              clear ha kin kf hal
              generalize t.ks[k] = q at *
              clear hk'
              obtain ⟨g0, g1, g2, g3⟩ := kf'
              unfold Tm.val at HC
              have hk2 : (k : Int) < (n : Int) := by omega
              generalize q.srt = is at *
              generalize (shRow j).want k = wt at *
              go_wp2_with fail
              ((with_reducible refine HC.out.mono ?_)); rintro e w5 ⟨rfl, hb5⟩
              clear g0 g1 g2 g3 u0 u1 u2 u3
              by_cases he : is = wt
              · subst he
                have hee : ((is : Int) != (is : Int)) = false := by simp
                have hwd := cell_later hb5 hwc'
                go_wp2
                go_roundw
                case rel => exact ⟨k + 1, _, rfl, by omega, by omega, bon hb hb5, HNX.out (by first | exact rfl | trivial)⟩
                case measure => simp [intOf]; omega
              · have HZ := mkHid (HBAD.out he)
                have hee : ((is : Int) != (wt : Int)) = true := by rw [bne_iff_ne]; omega
                have hwd := cell_later hb5 hwc'
                go_wp2
                go_ret
                exact ⟨by rw [HZ.out]; rfl, bon BR hb5⟩
            · obtain rfl : k = n := by omega
              have HZ := mkHid (HG.out (fun m hm => hal.out m hm (by rw [← HN.out]; exact hm)))
              clear hal
              go_wp2
              go_ret
              exact ⟨by first | (rw [HZ.out]; done) | (rw [HZ.out]; rfl), BR⟩
        · have hq : ((n : Int) != 1) = true := by rw [bne_iff_ne]; omega
          have hz : sr = 0 := by
            rw [HSR.out]
            have : holdsB (shRow j) (t.ks.map Tm.srt) = false := by
              unfold holdsB
              rw [hmb, hc0]
              simp [HN.out, hlen]
            rw [this]; rfl
          have HZ := mkHid hz
          clear hz
          go_wp2
          go_ret
          exact ⟨by rw [HZ.out]; rfl, B2⟩
      · have hwl : wl = [((shRow j).p0 : Int), ((shRow j).p1 : Int)] := by
          have := HWLL.out
          unfold wantL at this
          rw [hmb, hc0] at this
          simpa using this.symm
        subst hwl
        obtain ⟨b0, o0, ha0, hl0, hd0⟩ := hI 0 (by simp)
        subst ha0
        by_cases hlen : n = 2
        · have hq : ((n : Int) != 2) = false := by rw [hlen]; rfl
          have HB : Hid (∀ k (hk : k < t.ks.length), t.ks[k].srt ≠ (shRow j).want k → sr = 0) := fun k hk e => by rw [HSR.out, holds_bad hk e]; rfl
          have HG : Hid ((∀ m (hm : m < t.ks.length), t.ks[m].srt = (shRow j).want m) → sr = so) := fun e => by rw [HSR.out, holds_good (.inr (by rw [HN.out, hlen, hc0])) e]; rfl
          have HWL : Hid (([((shRow j).p0 : Int), ((shRow j).p1 : Int)] : List Int).length = n) := by rw [hlen]; rfl
          have HWI : Hid (∀ k (hk : k < n) (hk' : k < ([((shRow j).p0 : Int), ((shRow j).p1 : Int)] : List Int).length), ([((shRow j).p0 : Int), ((shRow j).p1 : Int)] : List Int)[k] = ((shRow j).want k : Int)) := fun k hk hk' => by
            unfold Sh.want
            rw [hmb]
            have : k < 2 := by omega
            match k, this with
            | 0, _ => rfl
            | 1, _ => rfl
          have HWT : Hid (∀ k, k < n → True) := fun _ _ => trivial
          have HLEN := mkHid hlen
          clear hlen
          go_wp2

          clear u0 u1 u2 u3
          simp only [List.length_cons, List.length_nil, Nat.zero_add, Nat.reduceAdd]
          go_loopw [7] (fun i w' => ∃ (k : Nat) (x : Int), i = .int .i64 x ∧ x = k ∧ k ≤ n ∧ Below wc.heap.size wc w' ∧ Hid (∀ m (hm : m < t.ks.length), m < k → t.ks[m].srt = (shRow j).want m)) (fun i _ => (n - intOf i).toNat)
          case atStart => exact ⟨0, 0, rfl, rfl, Nat.zero_le _, Below.refl _ _, fun m _ hm => by omega⟩
          case round =>
            obtain ⟨k, x, rfl, hxk, hk, hb, hal⟩ := hrel
            obtain rfl : x = (k : Int) := hxk
            obtain ⟨u0, u1, u2, u3⟩ := F2.later hb
            simp only [Nat.zero_add] at u1 u2 u3
            rw [HN.out] at u3
            have BR := bon B2 hb
            by_cases hlt : k < n
            · have hk' : k < t.ks.length := by rw [HN.out]; exact hlt
              have bW : Below w.heap.size w wr := BR
              obtain ⟨kin, b', o', ha, hbB, kf⟩ := HIN.out.kid k hk'
              have kf' := kf.keep bW hbB
              have HC := mkHid (IH.out t.ks[k] (List.getElem_mem _) wr ((kin.keep bW).mono bW.size))
              have HW := mkHid (HWT.out k hlt)
              have HNX : Hid (t.ks[k].srt = (shRow j).want k → ∀ m (hm : m < t.ks.length), m < k + 1 → t.ks[m].srt = (shRow j).want m) := fun e m hm hmk => by
                by_cases e' : m = k
                · subst e'; exact e
                · exact hal.out m hm (by omega)
              have HBAD : Hid (t.ks[k].srt ≠ (shRow j).want k → sr = 0) := fun e => HB.out k hk' e
              obtain ⟨wb, wo, hwa, hwl, hwc⟩ := hI k (by rw [HWL.out]; exact hlt)
              have hwc' := cell_later hb hwc
              rw [HWI.out k hlt (by rw [HWL.out]; exact hlt)] at hwc'
              (first | subst hwa | cases hwa)
              have hk3 : (k : Int) < (n : Int) := by omega
              have hk4 : (k : Int) < 2 := by have := HLEN.out; omega
              have hk5 : k < 2 := by have := HLEN.out; omega
              rw [ha] at u3
              clear ha kin kf hal
              generalize t.ks[k] = q at *
              clear hk'
              obtain ⟨g0, g1, g2, g3⟩ := kf'
              unfold Tm.val at HC
              have hk2 : (k : Int) < (n : Int) := by omega
              generalize q.srt = is at *
              generalize (shRow j).want k = wt at *
              go_wp2_with fail
              ((with_reducible refine HC.out.mono ?_)); rintro e w5 ⟨rfl, hb5⟩
              clear g0 g1 g2 g3 u0 u1 u2 u3
              by_cases he : is = wt
              · subst he
                have hee : ((is : Int) != (is : Int)) = false := by simp
                have hwd := cell_later hb5 hwc'
                go_wp2
                go_roundw
                case rel => exact ⟨k + 1, _, rfl, by omega, by omega, bon hb hb5, HNX.out (by first | exact rfl | trivial)⟩
                case measure => simp [intOf]; omega
              · have HZ := mkHid (HBAD.out he)
                have hee : ((is : Int) != (wt : Int)) = true := by rw [bne_iff_ne]; omega
                have hwd := cell_later hb5 hwc'
                go_wp2
                go_ret
                exact ⟨by rw [HZ.out]; rfl, bon BR hb5⟩
            · obtain rfl : k = n := by omega
              have HZ := mkHid (HG.out (fun m hm => hal.out m hm (by rw [← HN.out]; exact hm)))
              clear hal
              go_wp2
              go_ret
              exact ⟨by first | (rw [HZ.out]; done) | (rw [HZ.out]; rfl), BR⟩
        · have hq : ((n : Int) != 2) = true := by rw [bne_iff_ne]; omega
          have hz : sr = 0 := by
            rw [HSR.out]
            have : holdsB (shRow j) (t.ks.map Tm.srt) = false := by
              unfold holdsB
              rw [hmb, hc0]
              simp [HN.out, hlen]
            rw [this]; rfl
          have HZ := mkHid hz
          clear hz
          go_wp2
          go_ret
          exact ⟨by rw [HZ.out]; rfl, B2⟩
    · have hwl : wl = [-1] := by
        have := HWLL.out
        unfold wantL at this
        rw [hmb] at this
        simpa using this.symm
      subst hwl
      obtain ⟨b0, o0, ha0, hl0, hd0⟩ := hI 0 (by simp)
      simp only [List.getElem_cons_zero, Nat.add_zero] at hd0
      rw [ha0]
      have HB : Hid (∀ k (hk : k < t.ks.length), t.ks[k].srt ≠ (shRow j).want k → sr = 0) := fun k hk e => by rw [HSR.out, holds_bad hk e]; rfl
      have HG : Hid ((∀ m (hm : m < t.ks.length), t.ks[m].srt = (shRow j).want m) → sr = so) := fun e => by rw [HSR.out, holds_good (.inl hmb) e]; rfl
      have HWT : Hid (∀ k, k < n → (shRow j).want k = 4) := fun k _ => by unfold Sh.want; rw [hmb]; exact HWR.out.1 hmb
      go_wp2

      clear u0 u1 u2 u3
      simp only [List.length_cons, List.length_nil, Nat.zero_add]
      go_loopw [7] (fun i w' => ∃ (k : Nat) (x : Int), i = .int .i64 x ∧ x = k ∧ k ≤ n ∧ Below wc.heap.size wc w' ∧ Hid (∀ m (hm : m < t.ks.length), m < k → t.ks[m].srt = (shRow j).want m)) (fun i _ => (n - intOf i).toNat)
      case atStart => exact ⟨0, 0, rfl, rfl, Nat.zero_le _, Below.refl _ _, fun m _ hm => by omega⟩
      case round =>
        obtain ⟨k, x, rfl, hxk, hk, hb, hal⟩ := hrel
        obtain rfl : x = (k : Int) := hxk
        obtain ⟨u0, u1, u2, u3⟩ := F2.later hb
        simp only [Nat.zero_add] at u1 u2 u3
        rw [HN.out] at u3
        have BR := bon B2 hb
        by_cases hlt : k < n
        · have hk' : k < t.ks.length := by rw [HN.out]; exact hlt
          have bW : Below w.heap.size w wr := BR
          obtain ⟨kin, b', o', ha, hbB, kf⟩ := HIN.out.kid k hk'
          have kf' := kf.keep bW hbB
          have HC := mkHid (IH.out t.ks[k] (List.getElem_mem _) wr ((kin.keep bW).mono bW.size))
          have HW := mkHid (HWT.out k hlt)
          have HNX : Hid (t.ks[k].srt = (shRow j).want k → ∀ m (hm : m < t.ks.length), m < k + 1 → t.ks[m].srt = (shRow j).want m) := fun e m hm hmk => by
            by_cases e' : m = k
            · subst e'; exact e
            · exact hal.out m hm (by omega)
          have HBAD : Hid (t.ks[k].srt ≠ (shRow j).want k → sr = 0) := fun e => HB.out k hk' e
          rw [ha] at u3
          clear ha kin kf hal
          generalize t.ks[k] = q at *
          clear hk'
          obtain ⟨g0, g1, g2, g3⟩ := kf'
          unfold Tm.val at HC
          have hk2 : (k : Int) < (n : Int) := by omega
          generalize q.srt = is at *
          generalize (shRow j).want k = wt at *
          go_wp2_with fail
          ((with_reducible refine HC.out.mono ?_)); rintro e w5 ⟨rfl, hb5⟩
          clear g0 g1 g2 g3 u0 u1 u2 u3
          by_cases he : is = wt
          · subst he
            have hx := HW.out
            subst hx
            go_wp2
            go_roundw
            case rel => exact ⟨k + 1, _, rfl, by omega, by omega, bon hb hb5, HNX.out (by first | exact rfl | trivial)⟩
            case measure => simp [intOf]; omega
          · have HZ := mkHid (HBAD.out he)
            have hx := HW.out
            have hee : ((is : Int) != 4) = true := by rw [bne_iff_ne]; omega
            go_wp2
            go_ret
            exact ⟨by rw [HZ.out]; rfl, bon BR hb5⟩
        · obtain rfl : k = n := by omega
          have HZ := mkHid (HG.out (fun m hm => hal.out m hm (by rw [← HN.out]; exact hm)))
          clear hal
          go_wp2
          go_ret
          exact ⟨by first | (rw [HZ.out]; done) | (rw [HZ.out]; rfl), BR⟩
theorem rsorted_any : ∀ (t : Tm) (w : World), TIn w w.heap.size t → Calls Tryd.prog 29 #[t.val] w fun e w' => e = .returned (.int .i64 t.srt) ∧ Below w.heap.size w w' := by
  intro t
  induction t using Tm.ind with
  | h t ih =>
    intro w hin
    by_cases h1 : 1 ≤ t.op ∧ t.op ≤ 28
    · have hj : t.op = ((t.op.toNat : Nat) : Int) := by omega
      cases h2 : namedB (shRow t.op.toNat) t.nm with
      | false => exact sorted_named t w hin t.op.toNat hj (by omega) (by omega) h2
      | true =>
        by_cases h3 : (shRow t.op.toNat).number = true ∨ t.n = 0
        · exact sorted_main t ih w hin t.op.toNat hj (by omega) (by omega) h2 h3
        · have h4 : (shRow t.op.toNat).number = false := by
            cases e : (shRow t.op.toNat).number with
            | false => rfl
            | true => exact absurd (.inl e) h3
          exact sorted_num t w hin t.op.toNat hj (by omega) (by omega) h2 h4 (fun e => h3 (.inr e))
    · exact sorted_out t w hin h1
set_option maxRecDepth 100000 in
set_option maxHeartbeats 4000000 in
theorem rSort_any (t : Tm) (w : World) (hin : TIn w w.heap.size t) :
    Calls Tryd.prog 8 #[t.val] w fun e w' => e = .returned (.tuple #[.int .i64 (srtR t), .int .i64 (errR t)]) ∧ Below w.heap.size w w' := by
  have hb1 := bel_alloc w (boxT t)
  have F1 := box_four w t
  have hW1 : w.alloc (.cells #[.int .i64 t.op, .string t.nm, .int .i64 t.n, .slice t.a t.ks.length t.c] 24) = w.alloc (boxT t) := rfl
  have CZ := mkHid (rSize_any t (w.alloc (boxT t)) (hin.later hb1))
  generalize w.alloc (boxT t) = W1 at *
  have HIN := mkHid (hin.later hb1)
  have HF := mkHid F1
  obtain ⟨u0, u1, u2, u3⟩ := F1
  simp only [Nat.zero_add] at u1 u2 u3
  clear hin
  unfold Tm.val at CZ
  unfold Tm.val
  generalize hsr : srtR t = sr0
  generalize her : errR t = er0
  have HSR := mkHid hsr
  have HER := mkHid her
  clear hsr her
  by_cases hz : 2000 < t.size
  · have e1 : (2000 : Int) < ((min 2001 t.size : Nat) : Int) := by omega
    have hf : Hid (fullB t = true) := by show fullB t = true; unfold fullB; rw [decide_eq_true hz]; rfl
    have HS : Hid (sr0 = 0 ∧ er0 = 7) := by
      rw [← HSR.out, ← HER.out]
      constructor
      · unfold srtR; rw [hf.out]; rfl
      · unfold errR; rw [hf.out]; rfl
    clear hz hf
    generalize ((min 2001 t.size : Nat) : Int) = zv at *
    go_enter Tryd.func8, Tryd.ntmps8
    go_wp2_with fail
    ((with_reducible refine CZ.out.mono ?_)); rintro e w2 ⟨rfl, hb2⟩
    clear u0 u1 u2 u3 hW1 CZ
    go_wp2
    go_ret2
    exact ⟨by rw [HS.out.1, HS.out.2]; rfl, bon hb1 hb2⟩
  · have e1 : ¬ (2000 : Int) < ((min 2001 t.size : Nat) : Int) := by omega
    have HZ := mkHid hz
    clear hz
    generalize ((min 2001 t.size : Nat) : Int) = zv at *
    go_enter Tryd.func8, Tryd.ntmps8
    go_wp2_with fail
    ((with_reducible refine CZ.out.mono ?_)); rintro e w2 ⟨rfl, hb2⟩
    clear u0 u1 u2 u3 hW1 CZ
    obtain ⟨u0, u1, u2, u3⟩ := HF.out.later hb2
    simp only [Nat.zero_add] at u1 u2 u3
    have CD := mkHid (rDeep_any t w2 (HIN.out.later hb2))
    unfold Tm.val at CD
    by_cases hd : 100 < t.deep
    · have e2 : (100 : Int) < ((min 101 t.deep : Nat) : Int) := by omega
      have hf : Hid (fullB t = true) := by show fullB t = true; unfold fullB; rw [decide_eq_true hd]; simp
      have HS : Hid (sr0 = 0 ∧ er0 = 7) := by
        rw [← HSR.out, ← HER.out]
        constructor
        · unfold srtR; rw [hf.out]; rfl
        · unfold errR; rw [hf.out]; rfl
      clear hd hf
      generalize ((min 101 t.deep : Nat) : Int) = dv at *
      go_wp2_with fail
      ((with_reducible refine CD.out.mono ?_)); rintro e w3 ⟨rfl, hb3⟩
      clear u0 u1 u2 u3 CD
      go_wp2
      go_ret2
      exact ⟨by rw [HS.out.1, HS.out.2]; rfl, bon hb1 (bon hb2 hb3)⟩
    · have e2 : ¬ (100 : Int) < ((min 101 t.deep : Nat) : Int) := by omega
      have hf : Hid (fullB t = false) := by
        show fullB t = false
        unfold fullB; rw [decide_eq_false HZ.out, decide_eq_false hd]; rfl
      have HS : Hid (sr0 = t.srt ∧ er0 = if t.srt = 0 then 3 else 0) := by
        rw [← HSR.out, ← HER.out]
        constructor
        · unfold srtR; rw [hf.out]; rfl
        · unfold errR; rw [hf.out]; rfl
      clear hd hf
      generalize ((min 101 t.deep : Nat) : Int) = dv at *
      go_wp2_with fail
      ((with_reducible refine CD.out.mono ?_)); rintro e w3 ⟨rfl, hb3⟩
      clear u0 u1 u2 u3 CD
      have B3 := bon hb2 hb3
      obtain ⟨u0, u1, u2, u3⟩ := HF.out.later B3
      simp only [Nat.zero_add] at u1 u2 u3
      have CS := mkHid (rsorted_any t w3 (HIN.out.later B3))
      unfold Tm.val at CS
      by_cases h0 : t.srt = 0
      · rw [h0] at CS
        have HS2 : Hid (sr0 = 0 ∧ er0 = 3) := by
          have := HS.out
          rw [h0, if_pos rfl] at this
          exact this
        clear h0
        go_wp2_with fail
        ((with_reducible refine CS.out.mono ?_)); rintro e w4 ⟨rfl, hb4⟩
        clear u0 u1 u2 u3 CS
        go_wp2
        go_ret2
        exact ⟨by rw [HS2.out.1, HS2.out.2]; rfl, bon hb1 (bon B3 hb4)⟩
      · have e0 : (((t.srt : Nat) : Int) == 0) = false := by rw [beq_eq_false_iff_ne]; omega
        have e0p : ¬ ((t.srt : Nat) : Int) = 0 := by omega
        have HS2 : Hid (((sr0 : Nat) : Int) = ((t.srt : Nat) : Int) ∧ er0 = 0) := by
          have := HS.out
          rw [if_neg h0] at this
          exact ⟨by rw [this.1], this.2⟩
        clear h0 HS
        generalize ((t.srt : Nat) : Int) = sv at *
        go_wp2_with fail
        ((with_reducible refine CS.out.mono ?_)); rintro e w4 ⟨rfl, hb4⟩
        clear u0 u1 u2 u3 CS
        go_wp2
        go_ret2
        exact ⟨by rw [HS2.out.1, HS2.out.2]; rfl, bon hb1 (bon B3 hb4)⟩
end Go.Proofs.YtaibmdikimpooaaDoor
