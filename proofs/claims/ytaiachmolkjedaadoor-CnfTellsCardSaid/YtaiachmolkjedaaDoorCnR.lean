/-
  How rows of clauses grow by append; the document's Joins, Helpers, literal and turn.
-/
import Derived.Test.YtaiachmolkjedaaDoorCnQ
namespace Go.Proofs.YtaiachmolkjedaaDoor
open Go.RowKit

/-- a builtin append whose run is known, in a plain region -/
theorem wpList_run {ops : Array Oper} {rest : List Oper} {o : Oper} {a : Act} {w w' : World} {v r v' : Value} {Q : Exit → Act → World → Prop} {ts : TypeId} (hgd : o.guard = none) (s x : Operand) (hty : o.type = ts)
    (ho : o.op = .call { callee := .builtin .append, args := #[s, x], argTypes := #[ts, ts] }) (hs : a.eval s = v) (hx : a.eval x = r) (hrun : (Builtin.append_ #[ts, ts] ts #[v, r]).run Tryd.prog w = .ok v' w')
    (h : wpList Tryd.prog ops Q rest (a.put o.dst v') w') : wpList Tryd.prog ops Q (o :: rest) a w :=
  wpList_plain hgd fun _ hK => by
    unfold Oper.wp execOp
    simp only [ho, hty, resolve, invoke, builtin, Sem.run_bind, Sem.run_pure, Result.andThen_ok, List.map_toArray, List.map_cons, List.map_nil, hs, hx, hrun]
    exact hK _ _ h
/-- a builtin append whose run is known, at a step of a region that draws its order -/
theorem step_run {ops : Array Oper} {o : Oper} {a : Act} {w w' : World} {v r v' : Value} {K : Act → World → Prop} {Q : Exit → Act → World → Prop} {E : Prop} {ts : TypeId} (hgd : o.guard = none) (s x : Operand) (hty : o.type = ts)
    (ho : o.op = .call { callee := .builtin .append, args := #[s, x], argTypes := #[ts, ts] }) (hs : a.eval s = v) (hx : a.eval x = r) (hrun : (Builtin.append_ #[ts, ts] ts #[v, r]).run Tryd.prog w = .ok v' w')
    (h : K (a.put o.dst v') w') : if Region.wanted o (yielded ops a.tmps) = true then Oper.wp Tryd.prog o a w K Q else E := by
  have hw : Region.wanted o (yielded ops a.tmps) = true := by simp [Region.wanted, hgd]
  rw [if_pos hw]
  unfold Oper.wp execOp
  simp only [ho, hty, resolve, invoke, builtin, Sem.run_bind, Sem.run_pure, Result.andThen_ok, List.map_toArray, List.map_cons, List.map_nil, hs, hx, hrun]
  exact h
theorem size_alloc (w : World) (o : Obj) : (w.alloc o).heap.size = w.heap.size + 1 := by simp [go_sem]
theorem below_grown {w w' : World} {B : Nat} {v : Value} (hg : w.grownBy w' v.ownBlock) (hv : ∀ k, v.ownBlock = some k → B ≤ k) (hB : B ≤ w.heap.size) : Below B w w' :=
  ⟨hg.os, hg.tape, hg.output, hg.size, fun k hk => hg.block k (by omega) (fun e => by have := hv k e.symm; omega)⟩
theorem own_grown' {w w' : World} {base e s n : Nat} {u v : Value} {xs : List Value} (h : w.ownsRow base e s u n xs) (hg : w.grownBy w' v.ownBlock) (hne : ∀ k, u.ownBlock = some k → v.ownBlock ≠ some k) : w'.ownsRow base e s u n xs := by
  refine ⟨h.1, ?_⟩
  rcases h.2 with h0 | ⟨g, cap, cur, rfl, hbg, hg', hr⟩
  · exact .inl h0
  · exact .inr ⟨g, cap, cur, rfl, hbg, by rw [hg.block g (Array.getElem?_eq_some_iff.1 hg').1 (fun e => hne g rfl e.symm)]; exact hg', hr⟩
/-- a row of numbers as it is made -/
theorem own_lit {w : World} (R : List Int) (n : Nat) (cs : Array Value) (hn : R.length = n) (hm : n ≤ 100000) (hc : cs.toList = ints R) : (w.alloc (.cells cs 3)).ownsRow w.heap.size 3 1 (.slice (some ⟨w.heap.size, 0, none⟩) n n) R.length (ints R) := by
  subst hn
  have hs : cs.size = R.length * 1 := by rw [← Array.length_toList, hc, ints_len, Nat.mul_one]
  have := World.ownsRow_lit (base := w.heap.size) (size := 1) (e := 3) w cs R.length (Nat.le_refl _) (by unfold maxLen; omega) hs
  rwa [hc] at this
theorem CRows.base_le {w : World} {b b' : Nat} {v : Value} {C : List (List Int)} {us : List Value} (h : CRows w b v C us) (hb : b' ≤ b) : CRows w b' v C us :=
  ⟨own_base h.row hb, h.len, fun i h1 h2 => own_base (h.els i h1 h2) hb⟩
/-- one row more -/
theorem CRows.snoc {w w' : World} {base : Nat} {v u v' : Value} {C : List (List Int)} {us : List Value} {R : List Int} (h : CRows w base v C us) (hu : w.ownsRow base 3 1 u R.length (ints R))
    (hr : w'.ownsRow base 54 1 v' (C.length + 1) (us ++ [u])) (hg : w.grownBy w' v.ownBlock) : CRows w' base v' (C ++ [R]) (us ++ [u]) := by
  refine ⟨by simpa using hr, by simp [h.len], fun i hi hi' => ?_⟩
  by_cases hlt : i < us.length
  · have h1 : i < C.length := by rw [← h.len]; exact hlt
    rw [List.getElem_append_left hlt, List.getElem_append_left h1]
    exact own_grown' (h.els i h1 hlt) hg (own_apart' (h.els i h1 hlt) h.row (by decide))
  · have e : i = C.length := by simp [h.len] at hi' hlt; omega
    subst e
    rw [List.getElem_append_right (by omega), List.getElem_append_right (by omega)]
    simp only [h.len, Nat.sub_self, List.getElem_cons_zero]
    exact own_grown' hu hg (own_apart' hu h.row (by decide))
theorem CRows.one_cells {w : World} {base : Nat} {v : Value} {C : List (List Int)} {us : List Value} (h : CRows w base v C us) : ∀ u ∈ us, u.oneCell' = true := by
  intro u hu
  obtain ⟨i, hi, rfl⟩ := List.getElem_of_mem hu
  obtain ⟨a, c, e⟩ := own_val (h.els i (by rw [← h.len]; exact hi) hi)
  rw [e]; rfl
theorem CRows.joined {w w' : World} {base : Nat} {v v2 v' : Value} {C M : List (List Int)} {us us2 : List Value} (h : CRows w base v C us) (h2 : CRows w base v2 M us2) (hr : w'.ownsRow base 54 1 v' (C.length + M.length) (us ++ us2)) (hg : w.grownBy w' v.ownBlock) : CRows w' base v' (C ++ M) (us ++ us2) := by
  refine ⟨by simpa using hr, by simp [h.len, h2.len], fun i hi hi' => ?_⟩
  by_cases hlt : i < us.length
  · have h1 : i < C.length := by rw [← h.len]; exact hlt
    rw [List.getElem_append_left hlt, List.getElem_append_left h1]
    exact own_grown' (h.els i h1 hlt) hg (own_apart' (h.els i h1 hlt) h.row (by decide))
  · have h1 : ¬ i < C.length := by rw [← h.len]; exact hlt
    have hi2 : i - us.length < us2.length := by rw [List.length_append] at hi'; omega
    have hi3 : i - us.length < M.length := by rw [← h2.len]; exact hi2
    rw [List.getElem_append_right (by omega), List.getElem_append_right (by omega)]
    simp only [← h.len]
    exact own_grown' (h2.els _ hi3 hi2) hg (own_apart' (h2.els _ hi3 hi2) h.row (by decide))
/-- an append of one row -/
theorem run_row {w : World} {base : Nat} {v u : Value} {C : List (List Int)} {us : List Value} {R : List Int} {ad : Addr} (h : CRows w base v C us) (hu : w.ownsRow base 3 1 u R.length (ints R))
    (hc : ∀ j x, [u][j]? = some x → w.cell? (ad.add j) = some x) (hl : C.length ≤ 50000) (hb : base ≤ w.heap.size) :
    ∃ v' w', (Builtin.append_ #[47, 47] 47 #[v, .slice (some ad) 1 1]).run Tryd.prog w = .ok v' w' ∧ CRows w' base v' (C ++ [R]) (us ++ [u]) ∧ Below base w w' := by
  obtain ⟨i0, hi0, hz0, hz1, hz2⟩ := sl_parts
  obtain ⟨a, c, rfl⟩ := own_val hu
  obtain ⟨v', w', h1, h2, h3, -, -⟩ := run_append_own_at (P := Tryd.prog) w base 47 47 54 i0 _ 1 24 Tryd.underlying47 hi0 hz0 hz1 hz2 rfl (by omega) v C.length us h.row ad 1 1 [.slice a R.length c] rfl hc (fun u hu => by rw [List.mem_singleton.1 hu]; rfl) (by unfold maxLen; omega) (by omega) hb
  exact ⟨v', w', h1, h.snoc hu h2 h3, below_grown h3 (fun k hk => (own_lt h.row hk).1) hb⟩
/-- an append of rows -/
theorem run_rows {w : World} {base : Nat} {v v2 : Value} {C M : List (List Int)} {us us2 : List Value} (h : CRows w base v C us) (h2 : CRows w base v2 M us2) (hl : C.length + M.length ≤ 100000) (hb : base ≤ w.heap.size) :
    ∃ v' w', (Builtin.append_ #[47, 47] 47 #[v, v2]).run Tryd.prog w = .ok v' w' ∧ CRows w' base v' (C ++ M) (us ++ us2) ∧ Below base w w' := by
  obtain ⟨i0, hi0, hz0, hz1, hz2⟩ := sl_parts
  rcases h2.row.2 with ⟨rfl, h0⟩ | ⟨g, cap, cur, rfl, -⟩
  · have hM : M = [] := List.length_eq_zero_iff.1 h0
    subst hM
    have hu : us2 = [] := List.length_eq_zero_iff.1 h2.len
    subst hu
    refine ⟨v, w, run_append_owned_none w base 47 47 54 i0 1 Tryd.underlying47 hi0 v C.length us h.row, by simpa using h, Below.refl _ _⟩
  · have hcs : ∀ j x, us2[j]? = some x → w.cell? ((⟨g, 0, none⟩ : Addr).add j) = some x := fun j x hx => by
      have hj : j < us2.length := (List.getElem?_eq_some_iff.1 hx).1
      rw [Go.WideShapes.add_plain, Nat.zero_add, h2.row.cellAt j (by have := h2.len; omega)]; exact hx
    obtain ⟨v', w', e, k2, k3, -, -⟩ := run_append_own_at (P := Tryd.prog) w base 47 47 54 i0 _ 1 24 Tryd.underlying47 hi0 hz0 hz1 hz2 rfl (by omega) v C.length us h.row ⟨g, 0, none⟩ M.length cap us2 (by rw [h2.len]; omega) hcs h2.one_cells (by unfold maxLen; omega) (by omega) hb
    exact ⟨v', w', e, h.joined h2 k2 k3, below_grown k3 (fun k hk => (own_lt h.row hk).1) hb⟩
/-- an append of numbers -/
theorem run_more {w : World} {base : Nat} {v r : Value} {R Q : List Int} (hown : w.ownsRow base 3 1 v R.length (ints R)) (hr : IL w r Q) (hm : R.length + Q.length ≤ 100000) (hb : base ≤ w.heap.size) :
    ∃ v' w', (Builtin.append_ #[54, 54] 54 #[v, r]).run Tryd.prog w = .ok v' w' ∧ w'.ownsRow base 3 1 v' (R ++ Q).length (ints (R ++ Q)) ∧ Below base w w' := by
  obtain ⟨v', w', e, h1, h2⟩ := run_ints hown hr hm hb
  exact ⟨v', w', e, by rw [ints_append, List.length_append]; exact h1, below_grown h2 (fun k hk => (own_lt hown hk).1) hb⟩
/-- an append of one number -/
theorem run_one {w : World} {base : Nat} {v : Value} {R : List Int} (x : Int) (hown : w.ownsRow base 3 1 v R.length (ints R)) (hm : R.length ≤ 50000) (hb : base ≤ w.heap.size) :
    ∃ v' w', (Builtin.append_ #[54, 54] 54 #[v, .slice (some ⟨w.heap.size, 0, none⟩) 1 1]).run Tryd.prog (w.alloc (.cells #[.int .i64 x] 3)) = .ok v' w' ∧ w'.ownsRow base 3 1 v' (R ++ [x]).length (ints (R ++ [x])) ∧ Below base w w' := by
  have b1 := bel_alloc w (.cells #[.int .i64 x] 3)
  have hl := own_il (own_lit (w := w) [x] 1 #[.int .i64 x] rfl (by omega) rfl)
  obtain ⟨v', w', e, h1, h2⟩ := run_more (own_lat' hown b1) hl (by simp; omega) (Nat.le_trans hb b1.size)
  exact ⟨v', w', e, h1, (b1.mono hb).trans h2⟩
theorem kid_size {t k : Tm} (hk : k ∈ t.ks) : k.size ≤ t.size := by
  have h1 := Tm.size_eq t
  have : ∀ l : List Tm, k ∈ l → k.size ≤ Tm.sizes l := by
    intro l
    induction l with
    | nil => intro h; simp at h
    | cons a l ih =>
      intro h
      simp only [Tm.sizes]
      rcases List.mem_cons.1 h with rfl | h
      · omega
      · have := ih h; omega
  have := this t.ks hk
  omega
theorem kid_deep {t k : Tm} (hk : k ∈ t.ks) : k.deep ≤ t.deep := by
  have := deep_mem hk
  have := Tm.deep_eq t
  omega
set_option maxRecDepth 100000 in
set_option maxHeartbeats 4000000 in
theorem rjoins_any (op : Int) (w : World) : Calls Tryd.prog 89 #[.int .i64 op] w (RetV (.bool (jnB op)) w) := by
  unfold jnB
  by_cases h1 : 16 ≤ op
  · by_cases h2 : op ≤ 21
    · rw [decide_eq_true h1, decide_eq_true h2]
      go_enter Tryd.func89, Tryd.ntmps89
      go_wp2
      go_ret
      exact ⟨rfl, Below.refl _ _⟩
    · rw [decide_eq_true h1, decide_eq_false h2]
      go_enter Tryd.func89, Tryd.ntmps89
      go_wp2
      go_ret
      exact ⟨rfl, Below.refl _ _⟩
  · rw [decide_eq_false h1]
    go_enter Tryd.func89, Tryd.ntmps89
    go_wp2
    go_ret
    exact ⟨rfl, Below.refl _ _⟩
set_option maxRecDepth 100000 in
set_option maxHeartbeats 4000000 in
theorem rhelp_any : ∀ t : Tm, ∀ w : World, TIn w w.heap.size t → t.size ≤ 2000 → Calls Tryd.prog 70 #[t.val] w (RetV (.int .i64 (hlp t : Int)) w) := by
  intro t
  induction t using Tm.ind with
  | h t ih =>
  intro w hin hz
  have B0 := bel_alloc w (boxT t)
  have F1 := box_four w t
  have hW : w.alloc (.cells #[.int .i64 t.op, .string t.nm, .int .i64 t.n, .slice t.a t.ks.length t.c] 24) = w.alloc (boxT t) := rfl
  have CJ := mkHid (rjoins_any t.op (w.alloc (boxT t)))
  have HE := mkHid (hlp_eq t)
  have HLE := hlp_le t
  have HIN := mkHid hin
  have IH : Hid (∀ k ∈ t.ks, ∀ w : World, TIn w w.heap.size k → Calls Tryd.prog 70 #[k.val] w (RetV (.int .i64 (hlp k : Int)) w)) := fun k hk w hw => ih k hk w hw (Nat.le_trans (kid_size hk) hz)
  have hl : t.ks.length ≤ 2000 := by
    have := len_sizes t.ks
    have := Tm.size_eq t
    omega
  by_cases hj : jnB t.op = true
  · have HZ : Hid (hlps t.ks ≤ 2000) := by
      have := hlp_eq t
      rw [if_pos hj] at this
      show _ ≤ _
      omega
    rw [if_pos hj] at HE
    rw [hj] at CJ
    by_cases h18 : t.op = 18
    · rw [if_pos h18] at HE
      unfold Tm.val
      obtain ⟨n, hn⟩ : ∃ n, t.ks.length = n := ⟨_, rfl⟩
      have HN := mkHid hn
      rw [Four, hn] at F1
      rw [hn] at hl hW ⊢
      rw [h18] at hW F1 CJ ⊢
      clear hn hin ih hz HLE hj h18
      generalize w.alloc (boxT t) = W at *
      have HB0 := mkHid B0
      obtain ⟨f0, f1, f2, f3⟩ := F1
      simp only [Nat.zero_add] at f1 f2 f3
      have hn9 : n ≤ 9223372036854775807 := by omega
      go_enter Tryd.func70, Tryd.ntmps70
      go_wp2_with ((with_reducible refine CJ.out.mono ?_)); rintro e w1 ⟨rfl, hb1⟩; have k0 := cell_later hb1 f0; have HK3 := mkHid (cell_later hb1 f3); have HB1 := mkHid (bon HB0.out hb1)
      clear f1 f2 f3 hW CJ B0 HB0
      generalize W.heap.size = Ws at *
      go_wp2
      clear k0
      go_loopw [3, 4] (fun p i w' => ∃ (k : Nat) (x y : Int), i = .int .i64 x ∧ x = k ∧ k ≤ n ∧ p = .int .i64 y ∧ y = ((0 + hlps (t.ks.take k) : Nat) : Int) ∧ Hid (Below w.heap.size w w') ∧ Hid (Below w1.heap.size w1 w')) (fun _ i _ => (n - intOf i).toNat)
      case atStart => exact ⟨0, 0, _, rfl, rfl, Nat.zero_le _, rfl, by simp [hlps], HB1, mkHid (Below.refl _ _)⟩
      case round =>
        obtain ⟨k, x, y, rfl, hxk, hk, rfl, hy, BW, BX⟩ := hrel
        obtain rfl : x = (k : Int) := hxk
        have y3 := cell_later BX.out HK3.out
        by_cases hlt : k < n
        · have hk' : k < t.ks.length := by rw [HN.out]; exact hlt
          obtain ⟨kin, b, o, ha, hbl, kf⟩ := HIN.out.kid k hk'
          have kf' := kf.keep BW.out hbl
          have HC := mkHid (IH.out t.ks[k] (List.getElem_mem _) wr (kin.later BW.out))
          have e2 := hlps_take hk'
          have e4 := hlps_take_le t.ks (k + 1)
          rw [e2] at e4
          have HE2 := mkHid e2
          have hz := HZ.out
          rw [ha] at y3 ⊢
          clear ha kin kf e2
          generalize t.ks[k] = q at *
          clear hk'
          obtain ⟨g0, g1, g2, g3⟩ := kf'
          unfold Tm.val at HC
          have hk2 : (k : Int) < (n : Int) := by omega
          have b2 : y + (hlp q : Int) ≤ 9223372036854775807 := by omega
          have b4 : -9223372036854775808 ≤ y + (hlp q : Int) := by omega
          have b6 : y + (hlp q : Int) = ((0 + hlps (t.ks.take (k + 1)) : Nat) : Int) := by rw [HE2.out, hy]; omega
          have H6 := mkHid b6
          clear hy e4 hz b6
          go_wp2_with (go_at_call 70; ((with_reducible refine HC.out.mono ?_)); rintro e w4 ⟨rfl, hb4⟩)
          go_roundw
          case rel => exact ⟨k + 1, _, _, rfl, by omega, by omega, rfl, H6.out, mkHid (bon BW.out hb4), mkHid (bon BX.out hb4)⟩
          case measure => simp [intOf]; omega
        · obtain rfl : k = n := by omega
          have htk : t.ks.take k = t.ks := List.take_of_length_le (by rw [HN.out]; exact Nat.le_refl _)
          rw [htk] at hy
          have HY := mkHid hy
          clear hy htk
          go_wp2
          go_ret
          exact ⟨by rw [HY.out, HE.out]; rfl, BW.out⟩
    · rw [if_neg h18] at HE
      have h18' : (t.op == 18) = false := by simpa using h18
      unfold Tm.val
      obtain ⟨n, hn⟩ : ∃ n, t.ks.length = n := ⟨_, rfl⟩
      have HN := mkHid hn
      rw [Four, hn] at F1
      rw [hn] at hl hW ⊢
      clear hn hin ih hz HLE hj
      generalize w.alloc (boxT t) = W at *
      have HB0 := mkHid B0
      obtain ⟨f0, f1, f2, f3⟩ := F1
      simp only [Nat.zero_add] at f1 f2 f3
      have hn9 : n ≤ 9223372036854775807 := by omega
      go_enter Tryd.func70, Tryd.ntmps70
      go_wp2_with ((with_reducible refine CJ.out.mono ?_)); rintro e w1 ⟨rfl, hb1⟩; have k0 := cell_later hb1 f0; have HK3 := mkHid (cell_later hb1 f3); have HB1 := mkHid (bon HB0.out hb1)
      clear f1 f2 f3 hW CJ B0 HB0
      generalize W.heap.size = Ws at *
      go_wp2
      clear k0
      go_loopw [3, 4] (fun p i w' => ∃ (k : Nat) (x y : Int), i = .int .i64 x ∧ x = k ∧ k ≤ n ∧ p = .int .i64 y ∧ y = ((1 + hlps (t.ks.take k) : Nat) : Int) ∧ Hid (Below w.heap.size w w') ∧ Hid (Below w1.heap.size w1 w')) (fun _ i _ => (n - intOf i).toNat)
      case atStart => exact ⟨0, 0, _, rfl, rfl, Nat.zero_le _, rfl, by simp [hlps], HB1, mkHid (Below.refl _ _)⟩
      case round =>
        obtain ⟨k, x, y, rfl, hxk, hk, rfl, hy, BW, BX⟩ := hrel
        obtain rfl : x = (k : Int) := hxk
        have y3 := cell_later BX.out HK3.out
        by_cases hlt : k < n
        · have hk' : k < t.ks.length := by rw [HN.out]; exact hlt
          obtain ⟨kin, b, o, ha, hbl, kf⟩ := HIN.out.kid k hk'
          have kf' := kf.keep BW.out hbl
          have HC := mkHid (IH.out t.ks[k] (List.getElem_mem _) wr (kin.later BW.out))
          have e2 := hlps_take hk'
          have e4 := hlps_take_le t.ks (k + 1)
          rw [e2] at e4
          have HE2 := mkHid e2
          have hz := HZ.out
          rw [ha] at y3 ⊢
          clear ha kin kf e2
          generalize t.ks[k] = q at *
          clear hk'
          obtain ⟨g0, g1, g2, g3⟩ := kf'
          unfold Tm.val at HC
          have hk2 : (k : Int) < (n : Int) := by omega
          have b2 : y + (hlp q : Int) ≤ 9223372036854775807 := by omega
          have b4 : -9223372036854775808 ≤ y + (hlp q : Int) := by omega
          have b6 : y + (hlp q : Int) = ((1 + hlps (t.ks.take (k + 1)) : Nat) : Int) := by rw [HE2.out, hy]; omega
          have H6 := mkHid b6
          clear hy e4 hz b6
          go_wp2_with (go_at_call 70; ((with_reducible refine HC.out.mono ?_)); rintro e w4 ⟨rfl, hb4⟩)
          go_roundw
          case rel => exact ⟨k + 1, _, _, rfl, by omega, by omega, rfl, H6.out, mkHid (bon BW.out hb4), mkHid (bon BX.out hb4)⟩
          case measure => simp [intOf]; omega
        · obtain rfl : k = n := by omega
          have htk : t.ks.take k = t.ks := List.take_of_length_le (by rw [HN.out]; exact Nat.le_refl _)
          rw [htk] at hy
          have HY := mkHid hy
          clear hy htk
          go_wp2
          go_ret
          exact ⟨by rw [HY.out, HE.out]; rfl, BW.out⟩
  · rw [if_neg hj] at HE
    rw [show jnB t.op = false by simpa using hj] at CJ
    rw [HE.out]
    unfold Tm.val
    clear hin ih hz HLE hj hl
    generalize w.alloc (boxT t) = W at *
    obtain ⟨f0, f1, f2, f3⟩ := F1
    simp only [Nat.zero_add] at f1 f2 f3
    go_enter Tryd.func70, Tryd.ntmps70
    go_wp2_with (go_at_call 89; ((with_reducible refine CJ.out.mono ?_)); rintro e w1 ⟨rfl, hb1⟩)
    go_ret
    exact ⟨rfl, bon B0 hb1⟩
theorem plc_cov {L : List Tm} {t : Tm} (h : has L t = true) : plc L t = (fnd L t : Int) := by unfold plc; rw [if_pos h]
set_option maxRecDepth 100000 in
set_option maxHeartbeats 4000000 in
theorem rlit_leaf (L : List Tm) (va : Value) (hLl : L.length ≤ 2000) (m : Nat) (t : Tm) (hj : jnB t.op = false) (w : World) (hr : Row4 w va L) (hL : ∀ x ∈ L, TIn w w.heap.size x ∧ x.deep ≤ 100) (ht : TIn w w.heap.size t) (hd : t.deep ≤ 100) (hc : cov L t = true) :
    Calls Tryd.prog 69 #[va, t.val, .int .i64 (m : Int)] w (RetV (.int .i64 (lit L t m)) w) := by
  have B0 := bel_alloc w (boxT t)
  have F1 := box_four w t
  have hW : w.alloc (.cells #[.int .i64 t.op, .string t.nm, .int .i64 t.n, .slice t.a t.ks.length t.c] 24) = w.alloc (boxT t) := rfl
  have CJ := mkHid (rjoins_any t.op (w.alloc (boxT t)))
  rw [cov_eq, if_neg (by rw [hj]; simp)] at hc
  have CF := mkHid (fun w1 (hb : Below (w.alloc (boxT t)).heap.size (w.alloc (boxT t)) w1) => find_any L t va w1 (hr.later (bon B0 hb)) (fun x hx => ⟨(hL x hx).1.later (bon B0 hb), (hL x hx).2⟩) (ht.later (bon B0 hb)) hd)
  rw [plc_cov hc] at CF
  have h1 := (has_iff L t).1 hc
  rw [lit_eq, if_neg (by rw [hj]; simp)]
  rw [hj] at CJ
  have b1 : ((fnd L t : Nat) : Int) + 1 ≤ 9223372036854775807 := by omega
  clear hr hL ht hd hc hj h1 hLl
  generalize fnd L t = f at *
  generalize w.alloc (boxT t) = W at *
  have HB0 := mkHid B0
  obtain ⟨f0, f1, f2, f3⟩ := F1
  simp only [Nat.zero_add] at f1 f2 f3
  unfold Tm.val at *
  go_enter Tryd.func69, Tryd.ntmps69
  go_wp2_with (first
    | (go_at_call 89; ((with_reducible refine CJ.out.mono ?_)); rintro e w1 ⟨rfl, hb1⟩; have k0 := cell_later hb1 f0; have k1 := cell_later hb1 f1; have k2 := cell_later hb1 f2; have k3 := cell_later hb1 f3)
    | (go_at_call 66; ((with_reducible refine (CF.out _ hb1).mono ?_)); rintro e w2 ⟨rfl, hb2⟩))
  go_ret
  exact ⟨by simp, bon HB0.out (bon hb1 hb2)⟩
set_option maxRecDepth 100000 in
set_option maxHeartbeats 4000000 in
theorem rlit_not (L : List Tm) (va : Value) (m : Nat) (t u : Tm) (ho : t.op = 18) (hk : t.ks = [u]) (w : World) (ht : TIn w w.heap.size t) (hlb : (lit L u m).natAbs ≤ 100000)
    (ih : ∀ w' : World, Below w.heap.size w w' → Calls Tryd.prog 69 #[va, u.val, .int .i64 (m : Int)] w' (RetV (.int .i64 (lit L u m)) w')) :
    Calls Tryd.prog 69 #[va, t.val, .int .i64 (m : Int)] w (RetV (.int .i64 (lit L t m)) w) := by
  have B0 := bel_alloc w (boxT t)
  have F1 := box_four w t
  have hW : w.alloc (.cells #[.int .i64 t.op, .string t.nm, .int .i64 t.n, .slice t.a t.ks.length t.c] 24) = w.alloc (boxT t) := rfl
  have CJ := mkHid (rjoins_any t.op (w.alloc (boxT t)))
  have hj : jnB t.op = true := by rw [ho]; rfl
  rw [hj] at CJ
  have hE : lit L t m = -(lit L u m) := by rw [lit_eq, if_pos hj, if_pos ho, hk]; rfl
  rw [hE]
  have hk0 : 0 < t.ks.length := by rw [hk]; simp
  obtain ⟨kin, b, o, ha, hbl, kf⟩ := ht.kid 0 hk0
  have e0 : t.ks[0] = u := by simp [hk]
  rw [e0] at kf
  have hl1 : t.ks.length = 1 := by rw [hk]; rfl
  have CI := mkHid ih
  have KF := mkHid kf
  rw [Four, ho, ha, hl1] at F1
  rw [ho, ha, hl1] at hW
  rw [ho] at CJ
  unfold Tm.val
  rw [ho, ha, hl1]
  have b1 : -9223372036854775808 ≤ -(lit L u m) := by omega
  have b2 : -(lit L u m) ≤ 9223372036854775807 := by omega
  clear ih hE ht hlb kin e0 hl1 hk0 hk ha ho hj kf
  generalize lit L u m = z at *
  generalize w.alloc (boxT t) = W at *
  have HB0 := mkHid B0
  have HBL := mkHid hbl
  clear hbl B0
  obtain ⟨f0, f1, f2, f3⟩ := F1
  simp only [Nat.zero_add] at f1 f2 f3
  unfold Tm.val at CI
  go_enter Tryd.func69, Tryd.ntmps69
  go_wp2_with ((with_reducible refine CJ.out.mono ?_)); rintro e w1 ⟨rfl, hb1⟩; have k0 := cell_later hb1 f0; have k3 := cell_later hb1 f3; have HB1 := mkHid (bon HB0.out hb1); have kf' := KF.out.keep HB1.out HBL.out; obtain ⟨g0, g1, g2, g3⟩ := kf'; simp only [Nat.zero_mul, Nat.add_zero] at g0 g1 g2 g3
  clear f0 f1 f2 f3 hW CJ HB0 hb1
  generalize W.heap.size = Ws at *
  go_wp2_with (go_at_call 69; ((with_reducible refine (CI.out _ HB1.out).mono ?_)); rintro e w2 ⟨rfl, hb2⟩)
  go_ret
  exact ⟨by simp, bon HB1.out hb2⟩
set_option maxRecDepth 100000 in
set_option maxHeartbeats 4000000 in
theorem rlit_own (L : List Tm) (va : Value) (m : Nat) (hm : m ≤ 10000) (t : Tm) (hj : jnB t.op = true) (hn : t.op ≠ 18) (w : World) (ht : TIn w w.heap.size t) (hz : t.size ≤ 2000) :
    Calls Tryd.prog 69 #[va, t.val, .int .i64 (m : Int)] w (RetV (.int .i64 (lit L t m)) w) := by
  have B0 := bel_alloc w (boxT t)
  have F1 := box_four w t
  have hW : w.alloc (.cells #[.int .i64 t.op, .string t.nm, .int .i64 t.n, .slice t.a t.ks.length t.c] 24) = w.alloc (boxT t) := rfl
  have CJ := mkHid (rjoins_any t.op (w.alloc (boxT t)))
  rw [hj] at CJ
  have hE : lit L t m = (m : Int) + (hlp t : Int) := by rw [lit_eq, if_pos hj, if_neg hn, hlp_eq, if_pos hj, if_neg hn]; omega
  rw [hE]
  have CH := mkHid (fun w1 (hb : Below (w.alloc (boxT t)).heap.size (w.alloc (boxT t)) w1) => rhelp_any t w1 (ht.later (bon B0 hb)) hz)
  have hle := hlp_le t
  have b2 : (m : Int) + (hlp t : Int) ≤ 9223372036854775807 := by omega
  have b1 : -9223372036854775808 ≤ (m : Int) + (hlp t : Int) := by omega
  have hn' : (t.op == 18) = false := by simpa using hn
  clear hE ht hz hj hn hle
  generalize hlp t = z at *
  generalize w.alloc (boxT t) = W at *
  have HB0 := mkHid B0
  obtain ⟨f0, f1, f2, f3⟩ := F1
  simp only [Nat.zero_add] at f1 f2 f3
  unfold Tm.val at *
  go_enter Tryd.func69, Tryd.ntmps69
  go_wp2_with (first
    | (go_at_call 89; ((with_reducible refine CJ.out.mono ?_)); rintro e w1 ⟨rfl, hb1⟩; have k0 := cell_later hb1 f0; have k1 := cell_later hb1 f1; have k2 := cell_later hb1 f2; have k3 := cell_later hb1 f3)
    | (go_at_call 70; ((with_reducible refine (CH.out _ hb1).mono ?_)); rintro e w2 ⟨rfl, hb2⟩))
  go_ret
  exact ⟨by simp, bon HB0.out (bon hb1 hb2)⟩
/-- the document's literal -/
theorem rlit_any (L : List Tm) (va : Value) (hLl : L.length ≤ 2000) (m : Nat) (hm : m ≤ 10000) (hLm : L.length ≤ m) : ∀ t : Tm, t.srt = 4 → ∀ w : World, Row4 w va L → (∀ x ∈ L, TIn w w.heap.size x ∧ x.deep ≤ 100) → TIn w w.heap.size t → t.deep ≤ 100 → t.size ≤ 2000 → cov L t = true →
    Calls Tryd.prog 69 #[va, t.val, .int .i64 (m : Int)] w (RetV (.int .i64 (lit L t m)) w) := by
  refine cnf_ind (fun t h hj w hr hL ht hd hz hc => rlit_leaf L va hLl m t hj w hr hL ht hd hc) (fun t u h ho hk hu ih w hr hL ht hd hz hc => ?_) (fun t h hj hn _ _ _ _ _ w hr hL ht hd hz hc => rlit_own L va m hm t hj hn w ht hz)
  have hku : u ∈ t.ks := by rw [hk]; simp
  have hcu : cov L u = true := by
    rw [cov_eq, if_pos (by rw [ho]; rfl)] at hc
    exact (covs_all L t.ks).1 hc u hku
  have hlb := (lit_lb u hu hcu m hLm).2
  have h2 := hlp_le u
  have h3 := kid_size hku
  refine rlit_not L va m t u ho hk w ht (by omega) (fun w' hb => ?_)
  have hin : TIn w w.heap.size u := by
    obtain ⟨i, hi, e⟩ := List.getElem_of_mem hku
    have := (ht.kid i hi).1
    rw [e] at this
    exact this
  exact ih w' (hr.later hb) (fun x hx => ⟨(hL x hx).1.later hb, (hL x hx).2⟩) (hin.later hb) (by have := kid_deep hku; omega) (by omega) hcu
/-- a row of numbers made -/
def MkI (R : List Int) (w : World) (e : Ending) (w' : World) : Prop := ∃ v, e = .returned v ∧ Below w.heap.size w w' ∧ w'.ownsRow w.heap.size 3 1 v R.length (ints R)
set_option maxRecDepth 100000 in
set_option maxHeartbeats 4000000 in
theorem rturn_any (R : List Int) (v : Value) (w : World) (hr : RI w v R) (hl2 : R.length ≤ 3000) (hb : ∀ x ∈ R, x.natAbs ≤ 100000) : Calls Tryd.prog 90 #[v] w (MkI (R.map (fun x => -x)) w) := by
  obtain ⟨a, c, rfl, -, hr⟩ := hr
  have HR := mkHid hr
  have HBD := mkHid hb
  obtain ⟨n, hn⟩ : ∃ n, R.length = n := ⟨_, rfl⟩
  have HN := mkHid hn
  rw [hn] at hl2 ⊢
  clear hr hb hn
  have hn9 : n ≤ 9223372036854775807 := by omega
  have HB0 := mkHid (bel_alloc w (.cells #[] 3))
  have HO0 : Hid ((w.alloc (.cells #[] 3)).ownsRow w.heap.size 3 1 (.slice (some ⟨w.heap.size, 0, none⟩) 0 0) 0 (ints [])) := own_lit (w := w) [] 0 #[] rfl (by omega) rfl
  go_enter Tryd.func90, Tryd.ntmps90
  go_wp2
  go_loopw [3, 4] (fun p i w' => ∃ (k : Nat) (x : Int), i = .int .i64 x ∧ x = k ∧ k ≤ n ∧ Hid (Below w.heap.size w w') ∧ Hid (w'.ownsRow w.heap.size 3 1 p ((R.take k).map (fun x => -x)).length (ints ((R.take k).map (fun x => -x))))) (fun _ i _ => (n - intOf i).toNat)
  case atStart => exact ⟨0, 0, rfl, rfl, Nat.zero_le _, HB0, HO0⟩
  case round =>
    clear HB0 HO0
    obtain ⟨k, x, rfl, hxk, hk, BW, HO⟩ := hrel
    obtain rfl : x = (k : Int) := hxk
    by_cases hlt : k < n
    · have hk' : k < R.length := by rw [HN.out]; exact hlt
      obtain ⟨b, o, rfl, -, c0⟩ := HR.out k hk'
      have c1 := cell_later BW.out c0
      have hbx := HBD.out R[k] (List.getElem_mem _)
      have hk2 : (k : Int) < (n : Int) := by omega
      have e1 : (R.take (k + 1)).map (fun x => -x) = (R.take k).map (fun x => -x) ++ [-R[k]] := by rw [List.take_succ_eq_append_getElem hk', List.map_append]; rfl
      have e3 : ((R.take k).map (fun x => -x)).length ≤ k := by rw [List.length_map, List.length_take]; omega
      have HE1 := mkHid e1
      clear c0 HR HBD e1
      generalize R[k] = y at *
      clear hk'
      obtain ⟨v9, w9, hrun, ho9, hb9⟩ := run_one (-y) HO.out (by omega) BW.out.size
      rw [← HE1.out] at ho9
      have HO9 := mkHid ho9
      have HB9 := mkHid (BW.out.trans hb9)
      have b1 : -9223372036854775808 ≤ -y := by omega
      have b2 : -y ≤ 9223372036854775807 := by omega
      clear ho9 hb9 HE1 HO e3 hbx
      go_wp2_with (at_builtin
                   refine wpList_run rfl (.tmp 12) (.tmp 18) rfl rfl (by rfl) (by rfl) hrun ?_)
      go_roundw
      case rel => exact ⟨k + 1, _, rfl, by omega, by omega, HB9, HO9⟩
      case measure => simp [intOf]; omega
    · obtain rfl : k = n := by omega
      have htk : R.take k = R := List.take_of_length_le (by rw [HN.out]; exact Nat.le_refl _)
      rw [htk] at HO
      clear htk
      go_wp2
      go_ret
      exact ⟨_, rfl, BW.out, HO.out⟩
end Go.Proofs.YtaiachmolkjedaaDoor
