/-
  What 'Over' does.
-/
import Derived.Test.YtkgaoafcjhjefaaRefJ
import Derived.Deep.RegionLaw
namespace Go.Proofs.Ytkgaoafcjhjefaa
open Go.RowKit Go.Shelf

theorem len_le {ds : List Int} {L : Nat} (h : Digs ds) (t : Top ds) (hv : valD ds < 10 ^ L) : ds.length ≤ L := by
  by_cases h0 : ds = []
  · simp [h0]
  · have h1 := valD_low ds h t h0
    have h2 : (10 : Int) ^ (ds.length - 1) < 10 ^ L := by omega
    have h3 : (10 : Nat) ^ (ds.length - 1) < 10 ^ L := by exact_mod_cast h2
    have := (Nat.pow_lt_pow_iff_right (by decide : 1 < 10)).1 h3
    omega
theorem num_parts {w : World} {t : Bool} {A : Option Addr} {n c : Nat} {z : Int} (h : Num w (.agg #[.bool t, .slice A n c]) z) : t = decide (z < 0) ∧ n ≤ c ∧ ∃ ds, ds.length = n ∧ Lies w A ds ∧ Digs ds ∧ Top ds ∧ valD ds = z.natAbs := by
  obtain ⟨A', c', ds, e, hl, hL, hd, ht, hv⟩ := h
  injection e with e
  have e1 : Value.bool t = Value.bool (decide (z < 0)) := by
    have := congrArg (fun a => a[0]?) e
    simpa using this
  have e2 : Value.slice A n c = Value.slice A' ds.length c' := by
    have := congrArg (fun a => a[1]?) e
    simpa using this
  injection e1 with e1
  injection e2 with ea en ec
  subst ea en ec
  exact ⟨e1, hl, ds, rfl, hL, hd, ht, hv⟩
theorem news_int {w : World} {g : Nat} {ds : List Int} (h : ∀ j, j < ds.length → w.cell? ⟨g, j, none⟩ = some (.int .i64 (ds.getD j 0))) : ∀ j u, (ds.map (Value.int .i64))[j]? = some u → w.cell? ((⟨g, 0, none⟩ : Addr).add j) = some u := by
  intro j u hu
  by_cases hj : j < ds.length
  · have := h j hj
    simp [List.getElem?_map, List.getElem?_eq_getElem hj] at hu
    subst hu
    rw [List.getD, List.getElem?_eq_getElem hj] at this
    have e : (⟨g, 0, none⟩ : Addr).add j = ⟨g, j, none⟩ := by
      unfold Addr.add; by_cases h0 : j = 0
      · subst h0; rfl
      · simp [h0]
    rw [e]; exact this
  · simp [hj] at hu
/-- a digit put in front of a row, and cut -/
theorem cut_cons {w3 : World} {base gg cap : Nat} {fi R : Int} {ds : List Int} (ho : w3.ownsRow base 3 1 (.slice (some ⟨gg, 0, none⟩) (ds.length + 1) cap) (ds.length + 1) ([.int .i64 fi] ++ ds.map (Value.int .i64))) (hd : Digs ds) (hf : 0 ≤ fi ∧ fi ≤ 9) (hn : ds.length ≤ 200) (hv : valD ds = R.natAbs) (hR : 0 ≤ R) :
    Calls Try.prog 57 #[.agg #[.bool false, .slice (some ⟨gg, 0, none⟩) (ds.length + 1) cap]] w3 fun e w' => (∃ k, e = .returned (.agg #[.bool false, .slice (some ⟨gg, 0, none⟩) k cap]) ∧ Num w' (.agg #[.bool false, .slice (some ⟨gg, 0, none⟩) k cap]) (fi + 10 * R)) ∧ Below w3.heap.size w3 w' := by
  have ho' : w3.ownsRow base 3 1 (.slice (some ⟨gg, 0, none⟩) (ds.length + 1) cap) (ds.length + 1) ((fi :: ds).map (Value.int .i64)) := ho
  obtain ⟨A', c', e, hc, hl, -⟩ := row_at ho'
  injection e with ea _ ec
  subst ea ec
  have hD : Digs (fi :: ds) := by
    intro x hx
    rcases List.mem_cons.1 hx with rfl | hx
    · exact hf
    · exact hd x hx
  have hval : valD (fi :: ds) = fi + 10 * R := by rw [valD, hv]; omega
  have C := r_cut_at false (some ⟨gg, 0, none⟩) cap (fi :: ds) w3 hl hD hc (by simp; omega)
  rw [hval] at C
  refine C.mono ?_
  rintro e w' ⟨⟨t, k, rfl, hN⟩, hb⟩
  have ht := (num_parts hN).1
  have : t = false := by rw [ht]; exact decide_eq_false (by show ¬ fi + 10 * R < 0; omega)
  subst this
  exact ⟨⟨k, rfl, hN⟩, hb⟩
def cellInt : Option Value → Int
  | some (.int _ n) => n
  | _ => 0

/-- the world behind the boxes and the row of the quotient -/
theorem over_start {w w1 : World} {s t : Bool} {A B : Option Addr} {n m c d : Nat}
    (hown : w1.ownsRow (w.heap.size + 4) 3 1 (.slice (some ⟨((((w.alloc (.cells #[.bool s, .slice A n c] 25)).alloc (.cells #[.bool t, .slice B m d] 25)).alloc (.cells #[.bool false, .slice none 0 0] 25)).alloc (.cells #[.bool false, .slice none 0 0] 25)).heap.size, 0, none⟩) n n) n (madeCells (Value.int .i64 0).cells (n * 1)).toList)
    (hg0 : ((((w.alloc (.cells #[.bool s, .slice A n c] 25)).alloc (.cells #[.bool t, .slice B m d] 25)).alloc (.cells #[.bool false, .slice none 0 0] 25)).alloc (.cells #[.bool false, .slice none 0 0] 25)).grownBy w1 none) :
    QS w A B n m c d (w.heap.size + 1 + 1 + 1 + 1) w1.heap.size (List.replicate n 0) none 0 0 0 (w1.alloc (.cells #[.bool false, .slice none 0 0] 25)) := by
  rw [madeInts] at hown
  have own : w1.ownsRow (w.heap.size + 4) 3 1 (.slice (some ⟨w.heap.size + 1 + 1 + 1 + 1, 0, none⟩) n n) n ((List.replicate n (0 : Int)).map (Value.int .i64)) := by simpa using hown
  have hb0 := Below.grown (Below.refl (w.heap.size + 4) ((((w.alloc (.cells #[.bool s, .slice A n c] 25)).alloc (.cells #[.bool t, .slice B m d] 25)).alloc (.cells #[.bool false, .slice none 0 0] 25)).alloc (.cells #[.bool false, .slice none 0 0] 25))) hg0 (by simp) (fun k hk => by cases hk)
  have hsz := own.lt _ rfl
  have tw : ∀ b, b < w.heap.size + 4 → Two ((((w.alloc (.cells #[.bool s, .slice A n c] 25)).alloc (.cells #[.bool t, .slice B m d] 25)).alloc (.cells #[.bool false, .slice none 0 0] 25)).alloc (.cells #[.bool false, .slice none 0 0] 25)) b (.bool false) (.slice none 0 0) → Two (w1.alloc (.cells #[.bool false, .slice none 0 0] 25)) b (.bool false) (.slice none 0 0) := by
    intro b hlt h
    exact Two.later (bal (Below.refl _ _) _) (Two.keep h hb0 hlt)
  refine ⟨World.ownsRow.alloc own _, ?_, ?_, tw _ (by omega) (by simp [Two, go_sem]), tw _ (by omega) (by simp [Two, go_sem]), by simp [Two, go_sem], ?_, (fun p hp => by cases hp), hsz.2, bal ((bal (bal (bal (bal (Below.refl _ _) _) _) _) _).trans (hb0.mono (by omega))) _⟩
  · refine cell_later (bal (Below.refl _ _) _) ?_
    rw [hb0.cell (by simp)]; simp [go_sem]
  · refine cell_later (bal (Below.refl _ _) _) ?_
    rw [hb0.cell (by simp)]; simp [go_sem]
  · exact ⟨none, 0, [], rfl, by simp, Or.inl rfl, (fun d h => by simp at h), Or.inl rfl, by simp [valD]⟩

set_option maxHeartbeats 8000000 in
set_option maxRecDepth 100000 in
theorem over_core (s t : Bool) (A B : Option Addr) (c d : Nat) (xs ys : List Int) (w : World) (hx : Lies w A xs) (hy : Lies w B ys) (dx : Digs xs) (dy : Digs ys) (ty : Top ys) (nx : xs.length ≤ 100) (ny : ys.length ≤ 100) (hb : 0 < valD ys) :
    Calls Try.prog 60 #[.agg #[.bool s, .slice A xs.length c], .agg #[.bool t, .slice B ys.length d]] w fun e w' => (∃ v1 v2, e = .returned (.tuple #[v1, v2]) ∧ Num w' v1 (valD xs / valD ys) ∧ Num w' v2 (valD xs % valD ys)) ∧ Below w.heap.size w w' := by
  obtain ⟨i0, hi0, hz0, hz1, hz2⟩ := info_parts int_info
  have blt : valD ys < 10 ^ ys.length := dy.lt
  generalize hn : xs.length = n at *
  generalize hm : ys.length = m at *
  generalize hbv : valD ys = b at *
  go_enter Try.func60, Try.ntmps60
  go_wp2_with (at_make; refine wpList_make_full _ rfl _ _ 23 rfl (w.heap.size + 4) 3 i0 _ 1 Try.underlying23 hi0 hz0 hz1 _ _ _ _ n rfl rfl (by omega) (by omega) (by rw [hz2]; omega) (by simp only [maxLen]; omega) (by simp) ?_; intro w1 hown0 hg0; have hQ0 := over_start hown0 hg0; clear hown0 hg0; have qa := hQ0.a1)
  generalize w1.alloc (.cells #[.bool false, .slice none 0 0] 25) = w2 at *
  generalize w1.heap.size = X at *
  generalize hG : w.heap.size + 1 + 1 + 1 + 1 = G at *
  have HG := mkHid hG
  clear hG qa
  have O0 : Hid (OInv xs b n n (List.replicate n 0) 0) := by
    have := OInv.begin xs b hb
    rw [hn] at this; exact this
  have Ost : Hid (∀ i qs R, OInv xs b n (i + 1) qs R → OIn xs b n i qs R 0 (xs.getD i 0 + 10 * R)) := fun i qs R h => OIn.start dx h
  have Ostep : Hid (∀ i qs R0 q R, OInv xs b n (i + 1) qs R0 → OIn xs b n i qs R0 q R → b ≤ R → OIn xs b n i qs R0 (q + 1) (R - b)) := fun i qs R0 q R h0 h hR => OIn.step dx h0 h hR
  have Ofin : Hid (∀ i qs R0 q R, i < n → OInv xs b n (i + 1) qs R0 → OIn xs b n i qs R0 q R → R < b → OInv xs b n i (qs.set i q) R) := fun i qs R0 q R hi h0 h hR => OIn.fin hn hi h0 h hR
  have Oend : Hid (∀ qs R, OInv xs b n 0 qs R → Digs qs ∧ qs.length = n ∧ valD qs = valD xs / b ∧ R = valD xs % b) := fun qs R h => ⟨(h.finish hb).1, h.len, (h.finish hb).2⟩
  have Obd : Hid (∀ i qs R, OInv xs b n i qs R → 0 ≤ R ∧ R < b) := fun i qs R h => ⟨h.lo, h.hi⟩
  have Oset : Hid (∀ i qs R, OInv xs b n (i + 1) qs R → qs.set i 0 = qs) := by
    intro i qs R h
    have := h.low i (by omega)
    apply List.ext_getElem?
    intro j
    rw [List.getElem?_set]
    by_cases e : i = j
    · subst e
      by_cases hj : i < qs.length
      · rw [if_pos rfl, if_pos hj]
        rw [List.getD, List.getElem?_eq_getElem hj] at this
        rw [List.getElem?_eq_getElem hj]
        simp at this; rw [this]
      · rw [if_pos rfl, if_neg hj, List.getElem?_eq_none (by omega)]
    · rw [if_neg e]
  have Oib : Hid (∀ i qs R q R9, OInv xs b n (i + 1) qs R → OIn xs b n i qs R q R9 → 0 ≤ q ∧ q ≤ 9 ∧ 0 ≤ R9 ∧ R9 < 10 ^ 102) := by
    intro i qs R q R9 h0 h
    have h1 := h.val; have h2 := h0.hi; have h3 := h.q0
    have h4 := (dx.get i).2
    have h5 : 0 ≤ q * b := Int.mul_nonneg h3 (by omega)
    have h6 : (10 : Int) ^ m ≤ 10 ^ 100 := by
      have : (10 : Nat) ^ m ≤ 10 ^ 100 := Nat.pow_le_pow_right (by decide) ny
      exact_mod_cast this
    have h7 : (10 : Int) ^ 102 = 100 * 10 ^ 100 := by decide
    refine ⟨h3, h.q9, h.lo, by omega⟩
  have bf := mkHid (fun j => dx.get j)
  have rdA : Hid (∀ k : Nat, k < n → ∃ g, A = some ⟨g, 0, none⟩ ∧ ∀ w', Below w.heap.size w w' → w'.cell? ⟨g, k, none⟩ = some (.int .i64 (xs.getD k 0))) := by
    intro k hk
    rcases hx with rfl | ⟨g, rfl, hg, hc⟩
    · simp at hn; omega
    · exact ⟨g, rfl, fun w' hb => cell_later hb (hc k (by omega))⟩
  clear hx
  go_loopw [8] (fun q w' => ∃ (k : Nat) (x : Int) (qs : List Int) (A7 : Option Addr) (n7 c7 : Nat) (R : Int), k ≤ n ∧ q = .int .i64 x ∧ x + 1 = k ∧ Hid (OInv xs b n k qs R) ∧ QS w A B n m c d G X qs A7 n7 c7 R w') (fun q _ => (intOf q + 1).toNat)
  case atStart => exact ⟨n, _, _, none, 0, 0, 0, by omega, rfl, by omega, O0, hQ0⟩
  case round =>
    obtain ⟨k, x, qs, A7, n7, c7, R, hk, rfl, hxk, hO, hQ⟩ := hrel
    clear hQ0 O0
    rcases k with _ | i
    · obtain rfl : x = -1 := by omega
      clear hxk
      obtain ⟨q1, q2, q3, q4⟩ := Oend.out qs R hO.out
      have hQd := hQ.drew
      have hL := RowV.of_own hQd.own
      obtain ⟨A9, c9, e9, hc9, hl9⟩ := hL
      rw [q2] at e9 hc9
      injection e9 with e91 e92 e93
      subst e91 e93
      have C9 := r_cut_at false (some ⟨G, 0, none⟩) n qs wr.drew hl9 q1 (by omega) (by omega)
      rw [q2, q3] at C9
      have e : sg false (valD xs / b) = valD xs / b := rfl
      rw [e] at C9
      have H9 := mkHid C9
      have HR := mkHid q4
      have e7 := hQ.r7.2.1
      have e70 := hQ.r7.1
      have HQ := mkHid (fun w4 (hb4 : Below wr.drew.heap.size wr.drew w4) => hQd.later hb4)
      have HQ0 := mkHid hQ
      have gb := hQ.gb; have gx := hQ.gx
      have v1 : ¬ w.heap.size + 1 + 1 = X := by omega
      have v2 : ¬ X = w.heap.size + 1 + 1 := by omega
      have v3 : ¬ w.heap.size + 1 + 1 + 1 = X := by omega
      have v4 : ¬ X = w.heap.size + 1 + 1 + 1 := by omega
      clear C9 e q1 q2 q3 q4 hl9 hc9 hO Ost Ostep Ofin Obd Oset Oib Oend bf rdA hQ hQd dx dy hbv hm hy
      go_wp2_with fail
      go_region_law (first
        | (go_simp; go_at_call 57; refine H9.out.mono ?_; rintro e w4 ⟨⟨t4, k4, rfl, hN4⟩, hb4⟩; have hQ4 := HQ.out w4 hb4; have x0 := hQ4.r7.1; have x1 := hQ4.r7.2.1; have y0 := hQ4.r4.1; have y1 := hQ4.r4.2.1; have y2 := hQ4.r4.2.2.1; have y3 := hQ4.r4.2.2.2; have z0 := hQ4.r5.1; have z1 := hQ4.r5.2.1; have z2 := hQ4.r5.2.2.1; have z3 := hQ4.r5.2.2.2))
      all_goals
        have t5 := (Two.set_other hQ4.r5 (show w.heap.size + 1 + 1 ≠ w.heap.size + 1 + 1 + 1 by omega) (.bool t4) (.slice (some ⟨G, 0, none⟩) k4 n)).1
        have num2 := hQ4.num
        rw [HR.out] at num2
        have bel4 := hQ4.bel
        clear hQ4 HQ HQ0 H9 HR
        go_wp2
        refine bodyPost_ret (v := .tuple #[.agg #[.bool t4, .slice (some ⟨G, 0, none⟩) k4 n], .agg #[.bool false, .slice A7 n7 c7]]) (by simp [results, Try.results60, go_sem, y0, y1, z0, z1]) rfl ⟨⟨_, _, rfl, (hN4.set y0 _ _).set t5 _ _, (num2.set y0 _ _).set t5 _ _⟩, ?_⟩
        exact bset (bset (bset (bset bel4 (by simp; omega) _) (by simp; omega) _) (by simp; omega) _) (by simp; omega) _
    · obtain rfl : x = (i : Int) := by omega
      clear hxk
      obtain ⟨ga, rfl, hA⟩ := rdA.out i (by omega)
      obtain ⟨-, hn7, ds7, hl7, hL7, hd7, ht7, hv7⟩ := num_parts hQ.num
      have e1 := hQ.a1
      have e7 := hQ.r7.2.1
      have e70 := hQ.r7.1
      have f70 := hQ.r7.2.2.1
      have f71 := hQ.r7.2.2.2
      have ca := hA _ hQ.bel
      have lX := World.block_lt_of_cell? wr _ e7
      have eX : ∀ o, (wr.alloc o).cell? ⟨X, 1, none⟩ = some (.slice A7 n7 c7) := fun o => cell_later (bal (Below.refl _ _) o) e7
      have hi1 : (i : Int) < (n : Int) := by omega
      generalize hfi : xs.getD i 0 = fi at *
      have bfi := bf.out i
      rw [hfi] at bfi
      have hRb := Obd.out _ _ _ hO.out
      have hR0 := hRb.1
      have n7le : n7 ≤ 100 := by
        have h1 : valD ds7 < 10 ^ m := by rw [hv7]; omega
        have := len_le hd7 ht7 h1
        omega
      by_cases h7 : 0 < n7
      · obtain ⟨g7, rfl, hg7, hc7⟩ : ∃ g, A7 = some ⟨g, 0, none⟩ ∧ g < wr.heap.size ∧ ∀ j : Nat, j < ds7.length → wr.cell? ⟨g, j, none⟩ = some (.int .i64 (ds7.getD j 0)) := by
          rcases hL7 with h | h
          · rw [h] at hl7; simp at hl7; omega
          · exact h
        have HN : Hid (∀ j u, (ds7.map (Value.int .i64))[j]? = some u → ((wr.alloc (.cells #[.int .i64 fi] 3)).drew).cell? ((⟨g7, 0, none⟩ : Addr).add j) = some u) := news_int (w := (wr.alloc (.cells #[.int .i64 fi] 3)).drew) fun j hj => cell_later (bdrew (bal (Below.refl _ _) _)) (hc7 j hj)
        have O1 := mkHid ((World.ownsRow_lit (base := wr.heap.size) (e := 3) (size := 1) wr #[.int .i64 fi] 1 (Nat.le_refl _) (by decide) rfl).drew)
        have LL : Hid ((ds7.map (Value.int .i64)).length = n7 * 1) := by
          show _ = _
          simp; omega
        have ON := mkHid (ints_oneCell .i64 ds7)
        have CUT : Hid (∀ gg cap w3, w3.ownsRow wr.heap.size 3 1 (.slice (some ⟨gg, 0, none⟩) (1 + n7) cap) (1 + n7) ([.int .i64 fi] ++ ds7.map (Value.int .i64)) → Calls Try.prog 57 #[.agg #[.bool false, .slice (some ⟨gg, 0, none⟩) (1 + n7) cap]] w3 fun e w' => (∃ k, e = .returned (.agg #[.bool false, .slice (some ⟨gg, 0, none⟩) k cap]) ∧ Num w' (.agg #[.bool false, .slice (some ⟨gg, 0, none⟩) k cap]) (fi + 10 * R)) ∧ Below w3.heap.size w3 w') := by
          intro gg cap w3 ho
          have e9 : ds7.length + 1 = 1 + n7 := by omega
          have C9 := fun h => cut_cons (w3 := w3) (base := wr.heap.size) (gg := gg) (cap := cap) (fi := fi) (R := R) (ds := ds7) h hd7 bfi (by omega) hv7 hR0
          rw [e9] at C9
          exact C9 ho
        have HQ := mkHid hQ
        have hQl : Hid (∀ w3 w4, (wr.alloc (.cells #[.int .i64 fi] 3)).drew.grownBy w3 (some wr.heap.size) → Below w3.heap.size w3 w4 → QS w (some ⟨ga, 0, none⟩) B n m c d G X qs (some ⟨g7, 0, none⟩) n7 c7 R w4) := by
          intro w3 w4 hg hb4
          exact hQ.later (bon (Below.grown (bdrew (bal (Below.refl _ _) _)) hg (by simp) (fun k hk => by cases hk; exact Nat.le_refl _)) hb4)
        clear hQ HQ hc7 hA hL7 hd7 ht7 hv7 hl7
        go_wp2_with fail
        go_region_law (first
          | (refine step_append_lies _ (by rfl) _ _ _ (by rfl) wr.heap.size 3 i0 _ 1 8 Try.underlying23 hi0 hz0 hz1 hz2 rfl (by omega) (.slice (some ⟨wr.heap.size, 0, none⟩) 1 1) 1 [.int .i64 fi] (by rfl) ?_ ⟨g7, 0, none⟩ n7 c7 (ds7.map (Value.int .i64)) (by rfl) ?_ ?_ ?_ h7 ?_ ?_ ?_ (wr.heap.size + 1) ?_ ?_
             · exact O1.out
             · exact LL.out
             · exact HN.out
             · exact ON.out
             · simp only [maxLen]; omega
             · omega
             · simp
             · simp
             intro gg cap w3 hown3 hgrow3 hat3 hlt3)
          | (go_simp; go_at_call 57; refine (CUT.out gg cap w3 hown3).mono ?_; rintro e w4 ⟨⟨k4, rfl, hN4⟩, hb4⟩; have hQ4 := hQl.out w3 w4 hgrow3 hb4; have x0 := hQ4.r7.1; have x1 := hQ4.r7.2.1; have y0 := hQ4.r7.2.2.1; have y1 := hQ4.r7.2.2.2))
        all_goals
          have far4 : ∀ p : Addr, some (⟨gg, 0, none⟩ : Addr) = some p → X < p.block := by
            rintro p hp
            injection hp with hp
            subst hp
            rcases hat3 with h | h
            · have h : wr.heap.size = gg := by simpa [Value.ownBlock] using h
              have lX' : X < wr.heap.size := lX
              show X < gg; omega
            · show X < gg; omega
          have hQ5 := hQ4.store7 hN4 far4
          clear hQ4 hN4 far4 hat3 hlt3 hgrow3 hown3 hb4 x0 x1 y0 y1 HN O1 LL ON CUT hQl
          generalize (w4.setCell ⟨X, 0, none⟩ (.bool false)).setCell ⟨X, 1, none⟩ (.slice (some ⟨gg, 0, none⟩) k4 cap) = w5 at *
          generalize (some (⟨gg, 0, none⟩ : Addr)) = A5 at *
          clear e1 e7 e70 f70 f71 ca lX eX
          go_wp2_with fail
          have hO1 := mkHid (Ost.out i qs R hO.out)
          rw [hfi] at hO1
          rw [← (Oset.out i qs R hO.out)] at hQ5
          go_loopw [38] (fun _ w' => ∃ (qv : Int) (A9 : Option Addr) (n9 c9 : Nat) (R9 : Int), Hid (OIn xs b n i qs R qv R9) ∧ QS w (some ⟨ga, 0, none⟩) B n m c d G X (qs.set i qv) A9 n9 c9 R9 w') (fun _ w' => (9 - cellInt (w'.cell? ⟨G, i, none⟩)).toNat)
          case atStart => exact ⟨0, _, _, _, _, hO1, hQ5⟩
          case round =>
            clear hQ5 hO1
            obtain ⟨qv, A9, n9, c9, R9, hI, hQ⟩ := hrel
            obtain ⟨-, hn9, ds9, hl9, hL9, hd9, ht9, hv9⟩ := num_parts hQ.num
            have bI := Oib.out i qs R qv R9 hO.out hI.out
            have x7 := hQ.r7.2.1
            have xb := hQ.b1
            have hy9 := hy.later hQ.bel
            have n9le : ds9.length ≤ 102 := len_le hd9 ht9 (by rw [hv9]; omega)
            have SZ := r_size A9 B c9 d ds9 ys wr hL9 hy9 hd9 dy (by omega) (by omega)
            rw [hv9, hbv, hl9, hm] at SZ
            by_cases hR : R9 < b
            · have hc : cmpI (R9.natAbs : Int) b = -1 := by
                unfold cmpI; rw [if_pos (by omega)]
              rw [hc] at SZ
              have H9 := mkHid SZ
              have hF := mkHid (Ofin.out i qs R qv R9 (by omega) hO.out hI.out hR)
              clear SZ hc hI hO Ost Ostep Ofin Obd Oset Oib bf rdA hL9 hd9 ht9 hv9 hl9 hy9 dx dy
              go_wp2_with fail
              refine H9.out.mono ?_; rintro e w9 ⟨rfl, rfl⟩
              go_wp2
              go_roundw
              case rel => exact ⟨i, _, _, _, _, _, _, by omega, rfl, by omega, hF, hQ⟩
              case measure => simp [intOf]
            · have hc : cmpI (R9.natAbs : Int) b = 0 ∨ cmpI (R9.natAbs : Int) b = 1 := by
                unfold cmpI; rw [if_neg (by omega)]; split <;> simp
              have AP := r_apart_at A9 B c9 d ds9 ys wr hL9 hy9 hd9 dy (by omega) (top_le hd9 dy ty (by rw [hv9, hbv]; omega)) (by rw [hv9, hbv]; omega)
              rw [hl9, hm, hv9, hbv] at AP
              have HA := mkHid AP
              have hN := mkHid (Ostep.out i qs R qv R9 hO.out hI.out (by omega))
              have CT := mkHid (fun A c ds w h hd hl hn => r_cut_at false A c ds w h hd hl hn)
              have n9b : n9 ≤ 102 := by omega
              have q0 := hQ.own.1
              rw [List.length_map, List.length_set, Nat.mul_one] at q0
              have HL : Hid (∀ (w8 : World) (v : Int) (l : List Int), l.length = n → w8.ownsRow (w.heap.size + 4) 3 1 (.slice (some ⟨G, 0, none⟩) n n) n ((l.set i v).map (Value.int .i64)) → w8.cell? ⟨G, i, none⟩ = some (.int .i64 v)) := by
                intro w8 v l hll h
                rw [own_int h i (by omega), getD_set _ _ _ _ (by omega), if_pos rfl]
              have lX9 : X < wr.heap.size := World.block_lt_of_cell? wr _ x7
              have bN := Oib.out i qs R (qv + 1) (R9 - b) hO.out hN.out
              have HO := mkHid hO.out
              clear hO hI AP Ost Ostep Ofin Obd Oset bf rdA hL9 hd9 ht9 hv9 hy9 dx dy Oib Oend hbv hm hl9
              rcases hc with hc | hc
              all_goals
                rw [hc] at SZ
                have H9 := mkHid SZ
                clear SZ hc
                go_wp2_with fail
                refine H9.out.mono ?_; rintro e w8 ⟨rfl, rfl⟩
                go_wp2_with fail
                refine HA.out.mono ?_; rintro e w8 ⟨⟨A8, c8, ds8, rfl, hc8, hl8, hg8, hd8, hn8, hv8⟩, hb8⟩
                have C8 := mkHid (CT.out A8 c8 ds8 w8 hl8 hd8 hc8 (by omega))
                rw [hv8] at C8
                have hQ8 := hQ.later hb8
                have hgX : ∀ p, A8 = some p → X < p.block := fun p hp => Nat.lt_of_lt_of_le lX9 (hg8 p hp)
                clear hl8 hd8 hc8 HA H9 hv8 hn8 hg8
                go_wp2_with fail
                ((with_reducible refine C8.out.mono ?_)); rintro e w7 ⟨⟨t7, k7, rfl, hN7⟩, hb7⟩
                obtain rfl : t7 = false := by rw [(num_parts hN7).1]; exact decide_eq_false (by show ¬ (R9.natAbs : Int) - b < 0; omega)
                have hN7' : Num w7 (.agg #[.bool false, .slice A8 k7 c8]) (R9 - b) := by
                  have e : sg false ((R9.natAbs : Int) - b) = R9 - b := by show (R9.natAbs : Int) - b = R9 - b; omega
                  rw [e] at hN7; exact hN7
                have hQ7 := hQ8.later hb7
                have x0 := hQ7.r7.1; have x1 := hQ7.r7.2.1; have y0 := hQ7.r7.2.2.1; have y1 := hQ7.r7.2.2.2
                have hQ6 := hQ7.store7 hN7' hgX
                have co := HL.out _ qv qs q0 hQ6.own
                have fo := hQ6.own.frozenAt i
                have hQ5 := hQ6.storeQ i (qv + 1)
                rw [List.set_set] at hQ5
                have cn := HL.out _ (qv + 1) qs q0 hQ5.own
                have c9' := HL.out _ qv qs q0 hQ.own
                have CN := mkHid cn
                have CO := mkHid c9'
                have HQ5 := mkHid hQ5
                have q1 := bN.1; have q2 := bN.2.1; have q3 := bI.1
                clear hN7 hN7' hQ7 hQ6 hQ5 hQ8 hQ C8 cn c9' bN bI CT HL hgX x7 xb
                go_wp2
                go_roundw
                case rel => exact ⟨qv + 1, _, _, _, _, hN, HQ5.out⟩
                case measure => rw [CN.out, CO.out]; simp [cellInt]; omega
      · obtain rfl : n7 = 0 := by omega
        obtain rfl : ds7 = [] := List.eq_nil_of_length_eq_zero hl7
        have hR7 : R = 0 := by simp [valD] at hv7; omega
        have O1 := (World.ownsRow_lit (base := wr.heap.size) (e := 3) (size := 1) wr #[.int .i64 fi] 1 (Nat.le_refl _) (by decide) rfl).drew
        have CUT0 : Hid (Calls Try.prog 57 #[.agg #[.bool false, .slice (some ⟨wr.heap.size, 0, none⟩) 1 1]] ((wr.alloc (.cells #[.int .i64 fi] 3)).drew) fun e w' => (∃ k, e = .returned (.agg #[.bool false, .slice (some ⟨wr.heap.size, 0, none⟩) k 1]) ∧ Num w' (.agg #[.bool false, .slice (some ⟨wr.heap.size, 0, none⟩) k 1]) (fi + 10 * R)) ∧ Below ((wr.alloc (.cells #[.int .i64 fi] 3)).drew).heap.size ((wr.alloc (.cells #[.int .i64 fi] 3)).drew) w') :=
          cut_cons (ds := []) (R := R) O1 hd7 bfi (by simp) hv7 hR0
        have hQl0 : Hid (∀ w4, Below ((wr.alloc (.cells #[.int .i64 fi] 3)).drew).heap.size ((wr.alloc (.cells #[.int .i64 fi] 3)).drew) w4 → QS w (some ⟨ga, 0, none⟩) B n m c d G X qs A7 0 c7 R w4) := fun w4 hb4 => hQ.later (bon (bdrew (bal (Below.refl _ _) _)) hb4)
        clear hQ hA hL7 hd7 ht7 hv7 hl7 O1 hR7
        rcases A7 with _ | p7
        all_goals
          go_wp2_with fail
          go_region_law (first
            | (go_simp; go_at_call 57; refine CUT0.out.mono ?_; rintro e w4 ⟨⟨k4, rfl, hN4⟩, hb4⟩; have hQ4 := hQl0.out w4 hb4; have x0 := hQ4.r7.1; have x1 := hQ4.r7.2.1; have y0 := hQ4.r7.2.2.1; have y1 := hQ4.r7.2.2.2))
        all_goals
          have far4 : ∀ p : Addr, some (⟨wr.heap.size, 0, none⟩ : Addr) = some p → X < p.block := by
            rintro p hp
            injection hp with hp
            subst hp
            exact lX
          have hQ5 := hQ4.store7 hN4 far4
          clear hQ4 hN4 far4 hb4 x0 x1 y0 y1 CUT0 hQl0
          generalize (w4.setCell ⟨X, 0, none⟩ (.bool false)).setCell ⟨X, 1, none⟩ (.slice (some ⟨wr.heap.size, 0, none⟩) k4 1) = w5 at *
          generalize (some (⟨wr.heap.size, 0, none⟩ : Addr)) = A5 at *
          clear e1 e7 e70 f70 f71 ca lX eX
          go_wp2_with fail
          have hO1 := mkHid (Ost.out i qs R hO.out)
          rw [hfi] at hO1
          rw [← (Oset.out i qs R hO.out)] at hQ5
          go_loopw [38] (fun _ w' => ∃ (qv : Int) (A9 : Option Addr) (n9 c9 : Nat) (R9 : Int), Hid (OIn xs b n i qs R qv R9) ∧ QS w (some ⟨ga, 0, none⟩) B n m c d G X (qs.set i qv) A9 n9 c9 R9 w') (fun _ w' => (9 - cellInt (w'.cell? ⟨G, i, none⟩)).toNat)
          case atStart => exact ⟨0, _, _, _, _, hO1, hQ5⟩
          case round =>
            clear hQ5 hO1
            obtain ⟨qv, A9, n9, c9, R9, hI, hQ⟩ := hrel
            obtain ⟨-, hn9, ds9, hl9, hL9, hd9, ht9, hv9⟩ := num_parts hQ.num
            have bI := Oib.out i qs R qv R9 hO.out hI.out
            have x7 := hQ.r7.2.1
            have xb := hQ.b1
            have hy9 := hy.later hQ.bel
            have n9le : ds9.length ≤ 102 := len_le hd9 ht9 (by rw [hv9]; omega)
            have SZ := r_size A9 B c9 d ds9 ys wr hL9 hy9 hd9 dy (by omega) (by omega)
            rw [hv9, hbv, hl9, hm] at SZ
            by_cases hR : R9 < b
            · have hc : cmpI (R9.natAbs : Int) b = -1 := by
                unfold cmpI; rw [if_pos (by omega)]
              rw [hc] at SZ
              have H9 := mkHid SZ
              have hF := mkHid (Ofin.out i qs R qv R9 (by omega) hO.out hI.out hR)
              clear SZ hc hI hO Ost Ostep Ofin Obd Oset Oib bf rdA hL9 hd9 ht9 hv9 hl9 hy9 dx dy
              go_wp2_with fail
              refine H9.out.mono ?_; rintro e w9 ⟨rfl, rfl⟩
              go_wp2
              go_roundw
              case rel => exact ⟨i, _, _, _, _, _, _, by omega, rfl, by omega, hF, hQ⟩
              case measure => simp [intOf]
            · have hc : cmpI (R9.natAbs : Int) b = 0 ∨ cmpI (R9.natAbs : Int) b = 1 := by
                unfold cmpI; rw [if_neg (by omega)]; split <;> simp
              have AP := r_apart_at A9 B c9 d ds9 ys wr hL9 hy9 hd9 dy (by omega) (top_le hd9 dy ty (by rw [hv9, hbv]; omega)) (by rw [hv9, hbv]; omega)
              rw [hl9, hm, hv9, hbv] at AP
              have HA := mkHid AP
              have hN := mkHid (Ostep.out i qs R qv R9 hO.out hI.out (by omega))
              have CT := mkHid (fun A c ds w h hd hl hn => r_cut_at false A c ds w h hd hl hn)
              have n9b : n9 ≤ 102 := by omega
              have q0 := hQ.own.1
              rw [List.length_map, List.length_set, Nat.mul_one] at q0
              have HL : Hid (∀ (w8 : World) (v : Int) (l : List Int), l.length = n → w8.ownsRow (w.heap.size + 4) 3 1 (.slice (some ⟨G, 0, none⟩) n n) n ((l.set i v).map (Value.int .i64)) → w8.cell? ⟨G, i, none⟩ = some (.int .i64 v)) := by
                intro w8 v l hll h
                rw [own_int h i (by omega), getD_set _ _ _ _ (by omega), if_pos rfl]
              have lX9 : X < wr.heap.size := World.block_lt_of_cell? wr _ x7
              have bN := Oib.out i qs R (qv + 1) (R9 - b) hO.out hN.out
              have HO := mkHid hO.out
              clear hO hI AP Ost Ostep Ofin Obd Oset bf rdA hL9 hd9 ht9 hv9 hy9 dx dy Oib Oend hbv hm hl9
              rcases hc with hc | hc
              all_goals
                rw [hc] at SZ
                have H9 := mkHid SZ
                clear SZ hc
                go_wp2_with fail
                refine H9.out.mono ?_; rintro e w8 ⟨rfl, rfl⟩
                go_wp2_with fail
                refine HA.out.mono ?_; rintro e w8 ⟨⟨A8, c8, ds8, rfl, hc8, hl8, hg8, hd8, hn8, hv8⟩, hb8⟩
                have C8 := mkHid (CT.out A8 c8 ds8 w8 hl8 hd8 hc8 (by omega))
                rw [hv8] at C8
                have hQ8 := hQ.later hb8
                have hgX : ∀ p, A8 = some p → X < p.block := fun p hp => Nat.lt_of_lt_of_le lX9 (hg8 p hp)
                clear hl8 hd8 hc8 HA H9 hv8 hn8 hg8
                go_wp2_with fail
                ((with_reducible refine C8.out.mono ?_)); rintro e w7 ⟨⟨t7, k7, rfl, hN7⟩, hb7⟩
                obtain rfl : t7 = false := by rw [(num_parts hN7).1]; exact decide_eq_false (by show ¬ (R9.natAbs : Int) - b < 0; omega)
                have hN7' : Num w7 (.agg #[.bool false, .slice A8 k7 c8]) (R9 - b) := by
                  have e : sg false ((R9.natAbs : Int) - b) = R9 - b := by show (R9.natAbs : Int) - b = R9 - b; omega
                  rw [e] at hN7; exact hN7
                have hQ7 := hQ8.later hb7
                have x0 := hQ7.r7.1; have x1 := hQ7.r7.2.1; have y0 := hQ7.r7.2.2.1; have y1 := hQ7.r7.2.2.2
                have hQ6 := hQ7.store7 hN7' hgX
                have co := HL.out _ qv qs q0 hQ6.own
                have fo := hQ6.own.frozenAt i
                have hQ5 := hQ6.storeQ i (qv + 1)
                rw [List.set_set] at hQ5
                have cn := HL.out _ (qv + 1) qs q0 hQ5.own
                have c9' := HL.out _ qv qs q0 hQ.own
                have CN := mkHid cn
                have CO := mkHid c9'
                have HQ5 := mkHid hQ5
                have q1 := bN.1; have q2 := bN.2.1; have q3 := bI.1
                clear hN7 hN7' hQ7 hQ6 hQ5 hQ8 hQ C8 cn c9' bN bI CT HL hgX x7 xb
                go_wp2
                go_roundw
                case rel => exact ⟨qv + 1, _, _, _, _, hN, HQ5.out⟩
                case measure => rw [CN.out, CO.out]; simp [cellInt]; omega
end Go.Proofs.Ytkgaoafcjhjefaa
