/-
  The document's up and down of And and Or.
-/
import Derived.Test.YtlobffjgkhcjbaaDoorNrD
import Derived.BigRegion
import Derived.Deep.RegionHeld2
namespace Go.Proofs.YtlobffjgkhcjbaaDoor
open Go.RowKit

theorem keep5 {w w' : World} {p0 p1 p2 p3 p4 : Addr} {v0 v1 v2 v3 v4 : Value} (h : w.cell? p0 = some v0 ∧ w.cell? p1 = some v1 ∧ w.cell? p2 = some v2 ∧ w.cell? p3 = some v3 ∧ w.cell? p4 = some v4) (hb : Below w.heap.size w w') :
    w'.cell? p0 = some v0 ∧ w'.cell? p1 = some v1 ∧ w'.cell? p2 = some v2 ∧ w'.cell? p3 = some v3 ∧ w'.cell? p4 = some v4 := by
  obtain ⟨x0, x1, x2, x3, x4⟩ := h
  exact ⟨cell_later hb x0, cell_later hb x1, cell_later hb x2, cell_later hb x3, cell_later hb x4⟩
theorem keep5B {w w' : World} {s : Nat} {p0 p1 p2 p3 p4 : Addr} {v0 v1 v2 v3 v4 : Value} (h : w.cell? p0 = some v0 ∧ w.cell? p1 = some v1 ∧ w.cell? p2 = some v2 ∧ w.cell? p3 = some v3 ∧ w.cell? p4 = some v4) (hb : But s w w') (n0 : p0.block ≠ s) (n1 : p1.block ≠ s) (n2 : p2.block ≠ s) (n3 : p3.block ≠ s) (n4 : p4.block ≠ s) :
    w'.cell? p0 = some v0 ∧ w'.cell? p1 = some v1 ∧ w'.cell? p2 = some v2 ∧ w'.cell? p3 = some v3 ∧ w'.cell? p4 = some v4 := by
  obtain ⟨x0, x1, x2, x3, x4⟩ := h
  exact ⟨hb.cell x0 n0, hb.cell x1 n1, hb.cell x2 n2, hb.cell x3 n3, hb.cell x4 n4⟩
theorem UpR.mk_row {w W : World} {t : Tm} {op : Int} {l : List Tm} {A : Option Addr} {c n : Nat} (h : UpR w t op l (.slice A n c) W) (ho : fitB op = true) (hn : n = l.length) : Mk w t W (.node op ⟨#[]⟩ 0 A c l) := by
  subst hn
  have hfm : ∀ (l : List Tm) (j : Nat) (hj : j < l.length) (i : Nat), i < 4 → (l.flatMap tm4)[j * 4 + i]? = (tm4 l[j])[i]? := by
    intro l
    induction l with
    | nil => intro j hj; simp at hj
    | cons x l ih =>
      intro j hj i hi
      rw [List.flatMap_cons]
      cases j with
      | zero => rw [List.getElem?_append_left (by show 0 * 4 + i < 4; omega), Nat.zero_mul, Nat.zero_add]; rfl
      | succ j =>
        rw [List.getElem?_append_right (by show 4 ≤ (j + 1) * 4 + i; omega)]
        have e : (j + 1) * 4 + i - (tm4 x).length = j * 4 + i := by show (j + 1) * 4 + i - 4 = _; omega
        rw [e, ih j (by simpa using hj) i hi]
        rfl
  have hb : ∀ R, R < w.heap.size + 1 + 1 + 1 → ∀ p, A = some p → p.block ≠ R := fun R hR p hp => by
    rcases h.own.2 with ⟨e, -⟩ | ⟨g, cap, cur, e, hb, -⟩
    · simp only [Value.slice.injEq] at e
      rw [e.1] at hp; cases hp
    · simp only [Value.slice.injEq] at e
      rw [e.1] at hp
      obtain rfl := Option.some.inj hp
      show g ≠ R
      omega
  have hc : l.length ≤ c ∧ c ≤ maxLen := by
    rcases h.own.2 with ⟨e, h0⟩ | ⟨g, cap, cur, e, -, -, h1, h2, -⟩
    · simp only [Value.slice.injEq] at e
      obtain ⟨-, -, rfl⟩ := e
      exact ⟨by omega, by decide⟩
    · simp only [Value.slice.injEq] at e
      obtain ⟨-, -, rfl⟩ := e
      exact ⟨h1, h2⟩
  refine ⟨.mk _ ho (by show fitB 0 = true; decide) (by show (0 : Nat) ≤ _; omega) hc.1 hc.2 (fun j hj => ?_) (fun x hx => (h.els x hx).tin), .mk _ (fun _ => hb _ (by omega)) (fun x hx => (h.els x hx).own), fun R hR hT => .mk _ (fun _ => hb R (by omega)) (fun x hx => (h.els x hx).aw R hR hT)⟩
  have hj : j < l.length := hj
  rcases h.own.2 with ⟨e, h0⟩ | ⟨g, cap, cur, e, hbg, hh, h1, h2, hcs, htk⟩
  · omega
  · simp only [Value.slice.injEq] at e
    obtain ⟨rfl, -, rfl⟩ := e
    have hown := h.own
    have cl : ∀ i, i < 4 → W.cell? ⟨g, j * 4 + i, none⟩ = (tm4 l[j])[i]? := fun i hi => by rw [hown.cellAt (j * 4 + i) (by omega), hfm l j hj i hi]
    exact ⟨g, 0, rfl, (Array.getElem?_eq_some_iff.1 hh).1, by rw [Nat.zero_add]; exact ⟨cl 0 (by omega), cl 1 (by omega), cl 2 (by omega), cl 3 (by omega)⟩⟩
set_option maxRecDepth 100000 in
set_option maxHeartbeats 4000000 in
theorem up19 (F : Tm → Tm) (t : Tm) (hop : t.op = 19) {F0 : Tm → Tm} (hlen : t.ks.length ≤ 2000) (Ck : ∀ k ∈ t.ks, ∀ w' : World, TIn w' w'.heap.size k → Calls Tryd.prog 68 #[k.val] w' (BecP F0 k w')) (hF : F t = mkT 19 (t.ks.map F0)) (w : World) (ht : TIn w w.heap.size t) : Calls Tryd.prog 68 #[t.val] w (BecP F t w) := by
  have HT := mkHid ht
  have HFT := mkHid hF
  clear hF
  have hTV : t.val = t.val := rfl
  obtain ⟨op, nm, n, a, c, ks⟩ := t
  simp only [Tm.op] at hop
  subst hop
  have hb2 : Below w.heap.size w ((w.alloc (.cells #[.int .i64 19, .string nm, .int .i64 n, .slice a ks.length c] 24)).alloc (.cells #[.int .i64 0, .string ⟨#[]⟩, .int .i64 0, .slice none 0 0] 24)) := bal (bal (Below.refl _ _) _) _
  have TT : ((w.alloc (.cells #[.int .i64 19, .string nm, .int .i64 n, .slice a ks.length c] 24)).alloc (.cells #[.int .i64 0, .string ⟨#[]⟩, .int .i64 0, .slice none 0 0] 24)).cell? ⟨w.heap.size, 0, none⟩ = some (.int .i64 19) ∧ ((w.alloc (.cells #[.int .i64 19, .string nm, .int .i64 n, .slice a ks.length c] 24)).alloc (.cells #[.int .i64 0, .string ⟨#[]⟩, .int .i64 0, .slice none 0 0] 24)).cell? ⟨w.heap.size, 1, none⟩ = some (.string nm) ∧ ((w.alloc (.cells #[.int .i64 19, .string nm, .int .i64 n, .slice a ks.length c] 24)).alloc (.cells #[.int .i64 0, .string ⟨#[]⟩, .int .i64 0, .slice none 0 0] 24)).cell? ⟨w.heap.size, 2, none⟩ = some (.int .i64 n) ∧ ((w.alloc (.cells #[.int .i64 19, .string nm, .int .i64 n, .slice a ks.length c] 24)).alloc (.cells #[.int .i64 0, .string ⟨#[]⟩, .int .i64 0, .slice none 0 0] 24)).cell? ⟨w.heap.size, 3, none⟩ = some (.slice a ks.length c) := by simp [go_sem]
  have FR0 : FourV' ((w.alloc (.cells #[.int .i64 19, .string nm, .int .i64 n, .slice a ks.length c] 24)).alloc (.cells #[.int .i64 0, .string ⟨#[]⟩, .int .i64 0, .slice none 0 0] 24)) (w.heap.size + 1) (.int .i64 0) (.string ⟨#[]⟩) (.int .i64 0) (.slice none 0 0) := by simp [FourV', go_sem]
  have hX2 : w.heap.size + 1 < ((w.alloc (.cells #[.int .i64 19, .string nm, .int .i64 n, .slice a ks.length c] 24)).alloc (.cells #[.int .i64 0, .string ⟨#[]⟩, .int .i64 0, .slice none 0 0] 24)).heap.size := by simp
  generalize hW2 : ((w.alloc (.cells #[.int .i64 19, .string nm, .int .i64 n, .slice a ks.length c] 24)).alloc (.cells #[.int .i64 0, .string ⟨#[]⟩, .int .i64 0, .slice none 0 0] 24)) = W2 at *
  unfold Tm.val
  simp only [Tm.op, Tm.nm, Tm.n, Tm.a, Tm.ks, Tm.c]
  obtain ⟨u0, u1, u2, u3⟩ := TT
  have FR := mkHid FR0
  have SZ := hX2
  have BW := hb2
  clear FR0 hX2 hb2 ht hTV
  have b3 := bel_alloc W2 (.cells #[.int .i64 19, .string ⟨#[]⟩, .int .i64 0, .slice none 0 0] 24)
  have hX2 : W2.heap.size = w.heap.size + 1 + 1 := by rw [← hW2]; simp
  have OB0 : FourV' (W2.alloc (.cells #[.int .i64 19, .string ⟨#[]⟩, .int .i64 0, .slice none 0 0] 24)) (w.heap.size + 1 + 1) (.int .i64 19) (.string ⟨#[]⟩) (.int .i64 0) (.slice none 0 0) := by rw [← hX2]; simp [FourV', go_sem]
  have R0 : UpR w (.node 19 nm n a c ks) 19 [] (.slice none 0 0) (W2.alloc (.cells #[.int .i64 19, .string ⟨#[]⟩, .int .i64 0, .slice none 0 0] 24)) := by
    refine ⟨bon BW b3, ?_, FR.out.later b3, OB0, ⟨rfl, .inl ⟨rfl, rfl⟩⟩, fun x hx => (by cases hx), fun x hx => (by cases hx), fun x hx => (by cases hx)⟩
    exact ⟨cell_later b3 u0, by rw [Nat.zero_add]; exact cell_later b3 u1, by rw [Nat.zero_add]; exact cell_later b3 u2, by rw [Nat.zero_add]; exact cell_later b3 u3⟩
  have HCK := mkHid Ck
  simp only [Tm.ks] at hlen
  have HR0 := mkHid R0
  clear R0 OB0 Ck
  have hlen9 : ks.length ≤ 9223372036854775807 := by omega
  have hsz2 : Hid (W2.heap.size = w.heap.size + 1 + 1) := hX2
  clear b3 hX2
  obtain ⟨i0, hi0, hz0, hz1, hz2⟩ := tm_parts
  go_enter Tryd.func68, Tryd.ntmps68
  go_wp2
  clear hW2 u0 u1 u2 u3
  generalize W2.alloc (.cells #[.int .i64 19, .string ⟨#[]⟩, .int .i64 0, .slice none 0 0] 24) = W3 at *
  rw [hsz2.out]
  generalize hn' : ks.length = m at *
  have HM := mkHid hn'
  clear hn'
  go_loopw [4] (fun i w' => ∃ (k : Nat) (x : Int) (l : List Tm) (v : Value), i = .int .i64 x ∧ x = k ∧ k ≤ m ∧ l.length = k ∧ UpR w (.node 19 nm n a c ks) 19 l v w' ∧ l.map Tm.er = (ks.take k).map F0) (fun i _ => (m - intOf i).toNat)
  case atStart => exact ⟨0, 0, [], _, rfl, rfl, Nat.zero_le _, rfl, HR0.out, by simp⟩
  case round =>
    obtain ⟨k, x, l, v, rfl, hxk, hk, hll, R, hl⟩ := hrel
    obtain rfl : x = (k : Int) := hxk
    have HR := mkHid R
    have u3 := R.bt.2.2.2
    simp only [Nat.zero_add, Tm.a, Tm.ks, Tm.c] at u3
    rw [HM.out] at u3
    by_cases hlt : k < m
    · have hk' : k < ks.length := by rw [HM.out]; exact hlt
      obtain ⟨kin1, b, o, ha1, hbl, kf1⟩ := HT.out.kid k hk'
      have ha : a = some ⟨b, o, none⟩ := ha1
      have HQM : Hid (ks[k] ∈ ks) := List.getElem_mem _
      have HTK := mkHid (List.take_succ_eq_append_getElem hk')
      have kf : Four w b (o + k * 4) ks[k] := kf1
      have kin : TIn w w.heap.size ks[k] := kin1
      clear kin1 kf1 ha1
      have kf' := kf.keep R.bel hbl
      generalize ks[k] = q at *
      obtain ⟨q0, q1, q2, q3⟩ := kf'
      rw [ha] at u3
      have HQI := mkHid kin
      have hk2 : (k : Int) < (m : Int) := by omega
      have HHA := mkHid ha
      clear ha kin kf R hk'
      go_wp2_with fail
      (try dsimp only [List.append])
      refine wp_region_held_drew (S := fun w' => w'.cell? ⟨w.heap.size, 3, none⟩ = some (.slice (some ⟨b, o, none⟩) m c) ∧ w'.cell? ⟨b, o + k * 4, none⟩ = some (.int .i64 q.op) ∧ w'.cell? ⟨b, o + k * 4 + 1, none⟩ = some (.string q.nm) ∧ w'.cell? ⟨b, o + k * 4 + 2, none⟩ = some (.int .i64 q.n) ∧ w'.cell? ⟨b, o + k * 4 + 3, none⟩ = some (.slice q.a q.ks.length q.c)) (by kernel_rfl) ⟨u3, q0, q1, q2, q3⟩ (fun hHeld => ?_)
      replace HR := mkHid (HR.out.later (bdrew (Below.refl wr.heap.size wr)))
      clear u3 q0 q1 q2 q3
      generalize wr.drew = V at *
      refine wpAnyH_take (i := 0) (v := ?_) rfl (by kernel_rfl) (by kernel_rfl) (by kernel_rfl) (fun _ _ _ h => h) (Or.inl ⟨by kernel_rfl, ?_⟩) (by assumption) ?_
      rotate_left
      · (intro w hSw; (try dsimp only at hSw); go_simp; try with_reducible rfl)
      simp only [Act.put, List.getElem_toArray, List.getElem_cons_zero, List.setIfInBounds_toArray, List.set_cons_zero, List.set_cons_succ]
      refine wpAnyH_take (i := 2) (v := ?_) rfl (by kernel_rfl) (by kernel_rfl) (by kernel_rfl) (fun _ _ _ h => h) (Or.inl ⟨by kernel_rfl, ?_⟩) (by assumption) ?_
      rotate_left
      · (intro w hSw; (try dsimp only at hSw); go_simp; try with_reducible rfl)
      simp only [Act.put, List.getElem_toArray, List.getElem_cons_succ, List.getElem_cons_zero, List.setIfInBounds_toArray, List.set_cons_zero, List.set_cons_succ]
      refine wpAnyH_take (i := 3) (v := ?_) rfl (by kernel_rfl) (by kernel_rfl) (by kernel_rfl) (fun _ _ _ h => h) (Or.inl ⟨by kernel_rfl, ?_⟩) (by assumption) ?_
      rotate_left
      · (intro w hSw; (try dsimp only at hSw); go_simp; try with_reducible rfl)
      simp only [Act.put, List.getElem_toArray, List.getElem_cons_succ, List.getElem_cons_zero, List.setIfInBounds_toArray, List.set_cons_zero, List.set_cons_succ]
      refine wpAnyH_take (i := 4) (v := ?_) rfl (by kernel_rfl) (by kernel_rfl) (by kernel_rfl) (fun _ _ _ h => h) (Or.inl ⟨by kernel_rfl, ?_⟩) (by assumption) ?_
      rotate_left
      · (intro w hSw; (try dsimp only at hSw); go_simp; try with_reducible rfl)
      simp only [Act.put, List.getElem_toArray, List.getElem_cons_succ, List.getElem_cons_zero, List.setIfInBounds_toArray, List.set_cons_zero, List.set_cons_succ]
      refine wpAnyH_take (i := 5) (v := ?_) rfl (by kernel_rfl) (by kernel_rfl) (by kernel_rfl) (fun _ _ _ h => h) (Or.inl ⟨by kernel_rfl, ?_⟩) (by assumption) ?_
      rotate_left
      · (intro w hSw; (try dsimp only at hSw); go_simp; try with_reducible rfl)
      simp only [Act.put, List.getElem_toArray, List.getElem_cons_succ, List.getElem_cons_zero, List.setIfInBounds_toArray, List.set_cons_zero, List.set_cons_succ]
      refine wpAnyH_take (i := 6) (v := ?_) rfl (by kernel_rfl) (by kernel_rfl) (by kernel_rfl) (fun _ _ _ h => h) (Or.inl ⟨by kernel_rfl, ?_⟩) (by assumption) ?_
      rotate_left
      · (intro w hSw; (try dsimp only at hSw); go_simp; try with_reducible rfl)
      simp only [Act.put, List.getElem_toArray, List.getElem_cons_succ, List.getElem_cons_zero, List.setIfInBounds_toArray, List.set_cons_zero, List.set_cons_succ]
      have BQ : Mk w (.node 19 nm n a c ks) V q := Mk.kid HT.out HQM.out HR.out.bel
      have SZ0 : w.heap.size + 1 < V.heap.size := World.block_lt_of_cell? _ _ HR.out.fr.1
      have P := mkHid (HCK.out q HQM.out V BQ.tin)
      unfold Tm.val at P
      have HBQ := mkHid BQ
      clear BQ
      refine wpAnyH_ready (rs := [1, 7]) (by kernel_rfl) (by simp) ?_
      refine AllReadyH.cons rfl (fun K hK => ?_) ?_
      · have oc := HR.out.ob.2.2.2.1
        go_simp
        refine hK.out _ _ (by assumption) (fun hHeld => ?_)
        clear hK oc
        refine wpAnyH_ready (rs := [7]) (by kernel_rfl) (by simp) ?_
        refine AllReadyH.cons rfl (fun K hK => ?_) AllReadyH.nil
        go_simp
        go_wp2_with (go_at_call 68; ((with_reducible refine P.out.mono ?_)); rintro e w5 ⟨z, rfl, ze, zt, zw, hb5⟩)
        refine hK.out _ _ (keep5 (by assumption) hb5) (fun hHeld => ?_)
        clear hK P
        have HZ := mkHid (Mk.call HBQ.out SZ0 zt zw)
        have HZE := mkHid ze
        have HZO : Hid (TAw (w.heap.size + 1 + 1) z) := zw _ (World.block_lt_of_cell? _ _ HR.out.ob.1) (HQI.out.aw (by omega))
        have HZG : Hid (∀ g, v.ownBlock = some g → TAw g z) := fun g hg => zw g (HR.out.gl hg).1 (HQI.out.aw (HR.out.gl hg).2)
        replace HR := mkHid (HR.out.later hb5)
        clear ze zt zw
        unfold Tm.val
        refine wpAnyH_ready (rs := [8]) (by kernel_rfl) (by simp) ?_
        refine AllReadyH.cons rfl (fun K hK => ?_) AllReadyH.nil
        go_simp
        have b6 := bel_alloc w5 (.cells #[.int .i64 z.op, .string z.nm, .int .i64 z.n, .slice z.a z.ks.length z.c] 24)
        refine hK.out _ _ (keep5 (by assumption) b6) (fun hHeld => ?_)
        clear hK
        have N6 := mkHid (tm4_cells w5 z)
        have G6 : w.heap.size + 1 + 1 + 1 ≤ (w5.alloc (.cells #[.int .i64 z.op, .string z.nm, .int .i64 z.n, .slice z.a z.ks.length z.c] 24)).heap.size := by have := World.block_lt_of_cell? _ _ HR.out.ob.1; simp only at this; rw [World.size_alloc]; omega
        generalize w5.alloc (.cells #[.int .i64 z.op, .string z.nm, .int .i64 z.n, .slice z.a z.ks.length z.c] 24) = W6 at *
        replace HR := mkHid (HR.out.later b6)
        replace HZ := mkHid (HZ.out.later b6)
        refine wpAnyH_ready (rs := [9]) (by kernel_rfl) (by simp) ?_
        refine AllReadyH.cons rfl (fun K hK => ?_) AllReadyH.nil
        refine step_append_lies _ (by rfl) _ _ _ (by rfl) (w.heap.size + 1 + 1 + 1) 24 i0 _ 4 56 Tryd.underlying22 hi0 hz0 hz1 hz2 rfl (by omega) v l.length (l.flatMap tm4) (by rfl) HR.out.own ⟨w5.heap.size, 0, none⟩ 1 1 (tm4 z) (by rfl) rfl N6.out (tm4_one z) (by omega) (by unfold maxLen; omega) (by omega) G6 W6.heap.size rfl (fun g cap w7 ho7 hg7 hgg7 hlt7 => ?_)
        obtain ⟨s, hs, hB⟩ := HR.out.but hg7
        refine hK.out _ _ (keep5B (by assumption) hB (by show w.heap.size ≠ s; omega) (by show b ≠ s; omega) (by show b ≠ s; omega) (by show b ≠ s; omega) (by show b ≠ s; omega)) (fun hHeld => ?_)
        clear hK
        obtain ⟨-, -, -, e3, -, -, -, e7⟩ := HR.out.ob.but hB (by omega)
        have HN := mkHid (HR.out.step HZ.out HZO.out HZG.out ho7 hg7 hgg7)
        rw [hll] at HN
        have hB2 : But (w.heap.size + 1 + 1) w7 (w7.setCell ⟨w.heap.size + 1 + 1, 3, none⟩ (.slice (some ⟨g, 0, none⟩) (k + 1) cap)) := (But.refl _ _).set (p := ⟨w.heap.size + 1 + 1, 3, none⟩) (.inl rfl) _
        rw [hll]
        clear ho7 hg7 hgg7 hlt7
        refine wpAnyH_take (i := 10) (v := ?_) rfl (by kernel_rfl) (by kernel_rfl) (by kernel_rfl) (fun _ _ _ h => h) (Or.inl ⟨by kernel_rfl, ?_⟩) (by assumption) ?_
        rotate_left
        · (intro w hSw; (try dsimp only at hSw); go_simp; try with_reducible rfl)
        simp only [Act.put, List.getElem_toArray, List.getElem_cons_succ, List.getElem_cons_zero, List.setIfInBounds_toArray, List.set_cons_zero, List.set_cons_succ]
        refine wpAnyH_ready (rs := [11]) (by kernel_rfl) (by simp) ?_
        refine AllReadyH.cons rfl (fun K hK => ?_) AllReadyH.nil
        go_simp
        refine hK.out _ _ (keep5B (by assumption) hB2 (by show w.heap.size ≠ w.heap.size + 1 + 1; omega) (by show b ≠ w.heap.size + 1 + 1; omega) (by show b ≠ w.heap.size + 1 + 1; omega) (by show b ≠ w.heap.size + 1 + 1; omega) (by show b ≠ w.heap.size + 1 + 1; omega)) (fun hHeld => ?_)
        clear hK hHeld e3 e7
        refine wpAnyH_done (by kernel_rfl) ?_ _
        go_wp2
        go_roundw
        case rel => exact ⟨k + 1, _, l ++ [z], _, rfl, by omega, by omega, by simp [hll], HN.out, by rw [HTK.out, List.map_append, List.map_append, hl]; simp [HZE.out]⟩
        case measure => simp [intOf]; omega
      refine AllReadyH.cons rfl (fun K hK => ?_) AllReadyH.nil
      go_simp
      go_wp2_with (go_at_call 68; ((with_reducible refine P.out.mono ?_)); rintro e w5 ⟨z, rfl, ze, zt, zw, hb5⟩)
      refine hK.out _ _ (keep5 (by assumption) hb5) (fun hHeld => ?_)
      clear hK P
      have HZ := mkHid (Mk.call HBQ.out SZ0 zt zw)
      have HZE := mkHid ze
      have HZO : Hid (TAw (w.heap.size + 1 + 1) z) := zw _ (World.block_lt_of_cell? _ _ HR.out.ob.1) (HQI.out.aw (by omega))
      have HZG : Hid (∀ g, v.ownBlock = some g → TAw g z) := fun g hg => zw g (HR.out.gl hg).1 (HQI.out.aw (HR.out.gl hg).2)
      replace HR := mkHid (HR.out.later hb5)
      clear ze zt zw
      unfold Tm.val
      refine wpAnyH_ready (rs := [1, 8]) (by kernel_rfl) (by simp) ?_
      refine AllReadyH.cons rfl (fun K hK => ?_) ?_
      · have oc := HR.out.ob.2.2.2.1
        go_simp
        refine hK.out _ _ (by assumption) (fun hHeld => ?_)
        clear hK oc
        refine wpAnyH_ready (rs := [8]) (by kernel_rfl) (by simp) ?_
        refine AllReadyH.cons rfl (fun K hK => ?_) AllReadyH.nil
        go_simp
        have b6 := bel_alloc w5 (.cells #[.int .i64 z.op, .string z.nm, .int .i64 z.n, .slice z.a z.ks.length z.c] 24)
        refine hK.out _ _ (keep5 (by assumption) b6) (fun hHeld => ?_)
        clear hK
        have N6 := mkHid (tm4_cells w5 z)
        have G6 : w.heap.size + 1 + 1 + 1 ≤ (w5.alloc (.cells #[.int .i64 z.op, .string z.nm, .int .i64 z.n, .slice z.a z.ks.length z.c] 24)).heap.size := by have := World.block_lt_of_cell? _ _ HR.out.ob.1; simp only at this; rw [World.size_alloc]; omega
        generalize w5.alloc (.cells #[.int .i64 z.op, .string z.nm, .int .i64 z.n, .slice z.a z.ks.length z.c] 24) = W6 at *
        replace HR := mkHid (HR.out.later b6)
        replace HZ := mkHid (HZ.out.later b6)
        refine wpAnyH_ready (rs := [9]) (by kernel_rfl) (by simp) ?_
        refine AllReadyH.cons rfl (fun K hK => ?_) AllReadyH.nil
        refine step_append_lies _ (by rfl) _ _ _ (by rfl) (w.heap.size + 1 + 1 + 1) 24 i0 _ 4 56 Tryd.underlying22 hi0 hz0 hz1 hz2 rfl (by omega) v l.length (l.flatMap tm4) (by rfl) HR.out.own ⟨w5.heap.size, 0, none⟩ 1 1 (tm4 z) (by rfl) rfl N6.out (tm4_one z) (by omega) (by unfold maxLen; omega) (by omega) G6 W6.heap.size rfl (fun g cap w7 ho7 hg7 hgg7 hlt7 => ?_)
        obtain ⟨s, hs, hB⟩ := HR.out.but hg7
        refine hK.out _ _ (keep5B (by assumption) hB (by show w.heap.size ≠ s; omega) (by show b ≠ s; omega) (by show b ≠ s; omega) (by show b ≠ s; omega) (by show b ≠ s; omega)) (fun hHeld => ?_)
        clear hK
        obtain ⟨-, -, -, e3, -, -, -, e7⟩ := HR.out.ob.but hB (by omega)
        have HN := mkHid (HR.out.step HZ.out HZO.out HZG.out ho7 hg7 hgg7)
        rw [hll] at HN
        have hB2 : But (w.heap.size + 1 + 1) w7 (w7.setCell ⟨w.heap.size + 1 + 1, 3, none⟩ (.slice (some ⟨g, 0, none⟩) (k + 1) cap)) := (But.refl _ _).set (p := ⟨w.heap.size + 1 + 1, 3, none⟩) (.inl rfl) _
        rw [hll]
        clear ho7 hg7 hgg7 hlt7
        refine wpAnyH_take (i := 10) (v := ?_) rfl (by kernel_rfl) (by kernel_rfl) (by kernel_rfl) (fun _ _ _ h => h) (Or.inl ⟨by kernel_rfl, ?_⟩) (by assumption) ?_
        rotate_left
        · (intro w hSw; (try dsimp only at hSw); go_simp; try with_reducible rfl)
        simp only [Act.put, List.getElem_toArray, List.getElem_cons_succ, List.getElem_cons_zero, List.setIfInBounds_toArray, List.set_cons_zero, List.set_cons_succ]
        refine wpAnyH_ready (rs := [11]) (by kernel_rfl) (by simp) ?_
        refine AllReadyH.cons rfl (fun K hK => ?_) AllReadyH.nil
        go_simp
        refine hK.out _ _ (keep5B (by assumption) hB2 (by show w.heap.size ≠ w.heap.size + 1 + 1; omega) (by show b ≠ w.heap.size + 1 + 1; omega) (by show b ≠ w.heap.size + 1 + 1; omega) (by show b ≠ w.heap.size + 1 + 1; omega) (by show b ≠ w.heap.size + 1 + 1; omega)) (fun hHeld => ?_)
        clear hK hHeld e3 e7
        refine wpAnyH_done (by kernel_rfl) ?_ _
        go_wp2
        go_roundw
        case rel => exact ⟨k + 1, _, l ++ [z], _, rfl, by omega, by omega, by simp [hll], HN.out, by rw [HTK.out, List.map_append, List.map_append, hl]; simp [HZE.out]⟩
        case measure => simp [intOf]; omega
      refine AllReadyH.cons rfl (fun K hK => ?_) AllReadyH.nil
      go_simp
      have b6 := bel_alloc w5 (.cells #[.int .i64 z.op, .string z.nm, .int .i64 z.n, .slice z.a z.ks.length z.c] 24)
      refine hK.out _ _ (keep5 (by assumption) b6) (fun hHeld => ?_)
      clear hK
      have N6 := mkHid (tm4_cells w5 z)
      have G6 : w.heap.size + 1 + 1 + 1 ≤ (w5.alloc (.cells #[.int .i64 z.op, .string z.nm, .int .i64 z.n, .slice z.a z.ks.length z.c] 24)).heap.size := by have := World.block_lt_of_cell? _ _ HR.out.ob.1; simp only at this; rw [World.size_alloc]; omega
      generalize w5.alloc (.cells #[.int .i64 z.op, .string z.nm, .int .i64 z.n, .slice z.a z.ks.length z.c] 24) = W6 at *
      replace HR := mkHid (HR.out.later b6)
      replace HZ := mkHid (HZ.out.later b6)
      refine wpAnyH_ready (rs := [1]) (by kernel_rfl) (by simp) ?_
      refine AllReadyH.cons rfl (fun K hK => ?_) AllReadyH.nil
      have oc := HR.out.ob.2.2.2.1
      go_simp
      refine hK.out _ _ (by assumption) (fun hHeld => ?_)
      clear hK oc
      refine wpAnyH_ready (rs := [9]) (by kernel_rfl) (by simp) ?_
      refine AllReadyH.cons rfl (fun K hK => ?_) AllReadyH.nil
      refine step_append_lies _ (by rfl) _ _ _ (by rfl) (w.heap.size + 1 + 1 + 1) 24 i0 _ 4 56 Tryd.underlying22 hi0 hz0 hz1 hz2 rfl (by omega) v l.length (l.flatMap tm4) (by rfl) HR.out.own ⟨w5.heap.size, 0, none⟩ 1 1 (tm4 z) (by rfl) rfl N6.out (tm4_one z) (by omega) (by unfold maxLen; omega) (by omega) G6 W6.heap.size rfl (fun g cap w7 ho7 hg7 hgg7 hlt7 => ?_)
      obtain ⟨s, hs, hB⟩ := HR.out.but hg7
      refine hK.out _ _ (keep5B (by assumption) hB (by show w.heap.size ≠ s; omega) (by show b ≠ s; omega) (by show b ≠ s; omega) (by show b ≠ s; omega) (by show b ≠ s; omega)) (fun hHeld => ?_)
      clear hK
      obtain ⟨-, -, -, e3, -, -, -, e7⟩ := HR.out.ob.but hB (by omega)
      have HN := mkHid (HR.out.step HZ.out HZO.out HZG.out ho7 hg7 hgg7)
      rw [hll] at HN
      have hB2 : But (w.heap.size + 1 + 1) w7 (w7.setCell ⟨w.heap.size + 1 + 1, 3, none⟩ (.slice (some ⟨g, 0, none⟩) (k + 1) cap)) := (But.refl _ _).set (p := ⟨w.heap.size + 1 + 1, 3, none⟩) (.inl rfl) _
      rw [hll]
      clear ho7 hg7 hgg7 hlt7
      refine wpAnyH_take (i := 10) (v := ?_) rfl (by kernel_rfl) (by kernel_rfl) (by kernel_rfl) (fun _ _ _ h => h) (Or.inl ⟨by kernel_rfl, ?_⟩) (by assumption) ?_
      rotate_left
      · (intro w hSw; (try dsimp only at hSw); go_simp; try with_reducible rfl)
      simp only [Act.put, List.getElem_toArray, List.getElem_cons_succ, List.getElem_cons_zero, List.setIfInBounds_toArray, List.set_cons_zero, List.set_cons_succ]
      refine wpAnyH_ready (rs := [11]) (by kernel_rfl) (by simp) ?_
      refine AllReadyH.cons rfl (fun K hK => ?_) AllReadyH.nil
      go_simp
      refine hK.out _ _ (keep5B (by assumption) hB2 (by show w.heap.size ≠ w.heap.size + 1 + 1; omega) (by show b ≠ w.heap.size + 1 + 1; omega) (by show b ≠ w.heap.size + 1 + 1; omega) (by show b ≠ w.heap.size + 1 + 1; omega) (by show b ≠ w.heap.size + 1 + 1; omega)) (fun hHeld => ?_)
      clear hK hHeld e3 e7
      refine wpAnyH_done (by kernel_rfl) ?_ _
      go_wp2
      go_roundw
      case rel => exact ⟨k + 1, _, l ++ [z], _, rfl, by omega, by omega, by simp [hll], HN.out, by rw [HTK.out, List.map_append, List.map_append, hl]; simp [HZE.out]⟩
      case measure => simp [intOf]; omega
    · obtain rfl : k = m := by omega
      have hkk : ks.take k = ks := List.take_of_length_le (by rw [HM.out]; omega)
      rw [hkk] at hl
      obtain ⟨A0, c0, rfl⟩ : ∃ A c, v = .slice A k c := by
        obtain ⟨A, c, e⟩ := own_slice HR.out.own
        exact ⟨A, c, by rw [e, hll]⟩
      obtain ⟨o0, o1, o2, o3, -⟩ := HR.out.ob
      obtain ⟨m0, m1, m2, m3, f0, f1, f2, f3⟩ := HR.out.fr
      have MR : Mk w (.node 19 nm n a c ks) wr (.node 19 ⟨#[]⟩ 0 A0 c0 l) := UpR.mk_row HR.out (by decide) hll.symm
      have FI := Mk.fin (F := F) MR HR.out.bel (by rw [HFT.out, er_eq]; exact congrArg (mkT 19) hl)
      simp only [Tm.val, Tm.op, Tm.nm, Tm.n, Tm.a, Tm.ks, Tm.c, hll] at FI
      have HFI := mkHid FI
      clear FI MR hl
      go_wp2
      exact bodyPost_ret (v := .agg #[.int .i64 19, .string ⟨#[]⟩, .int .i64 0, .slice A0 k c0]) (by simp [results, Tryd.results68, go_sem, m0, m1, m2, m3]) rfl HFI.out
set_option maxRecDepth 100000 in
set_option maxHeartbeats 4000000 in
theorem up20 (F : Tm → Tm) (t : Tm) (hop : t.op = 20) {F0 : Tm → Tm} (hlen : t.ks.length ≤ 2000) (Ck : ∀ k ∈ t.ks, ∀ w' : World, TIn w' w'.heap.size k → Calls Tryd.prog 68 #[k.val] w' (BecP F0 k w')) (hF : F t = mkT 20 (t.ks.map F0)) (w : World) (ht : TIn w w.heap.size t) : Calls Tryd.prog 68 #[t.val] w (BecP F t w) := by
  have HT := mkHid ht
  have HFT := mkHid hF
  clear hF
  have hTV : t.val = t.val := rfl
  obtain ⟨op, nm, n, a, c, ks⟩ := t
  simp only [Tm.op] at hop
  subst hop
  have hb2 : Below w.heap.size w ((w.alloc (.cells #[.int .i64 20, .string nm, .int .i64 n, .slice a ks.length c] 24)).alloc (.cells #[.int .i64 0, .string ⟨#[]⟩, .int .i64 0, .slice none 0 0] 24)) := bal (bal (Below.refl _ _) _) _
  have TT : ((w.alloc (.cells #[.int .i64 20, .string nm, .int .i64 n, .slice a ks.length c] 24)).alloc (.cells #[.int .i64 0, .string ⟨#[]⟩, .int .i64 0, .slice none 0 0] 24)).cell? ⟨w.heap.size, 0, none⟩ = some (.int .i64 20) ∧ ((w.alloc (.cells #[.int .i64 20, .string nm, .int .i64 n, .slice a ks.length c] 24)).alloc (.cells #[.int .i64 0, .string ⟨#[]⟩, .int .i64 0, .slice none 0 0] 24)).cell? ⟨w.heap.size, 1, none⟩ = some (.string nm) ∧ ((w.alloc (.cells #[.int .i64 20, .string nm, .int .i64 n, .slice a ks.length c] 24)).alloc (.cells #[.int .i64 0, .string ⟨#[]⟩, .int .i64 0, .slice none 0 0] 24)).cell? ⟨w.heap.size, 2, none⟩ = some (.int .i64 n) ∧ ((w.alloc (.cells #[.int .i64 20, .string nm, .int .i64 n, .slice a ks.length c] 24)).alloc (.cells #[.int .i64 0, .string ⟨#[]⟩, .int .i64 0, .slice none 0 0] 24)).cell? ⟨w.heap.size, 3, none⟩ = some (.slice a ks.length c) := by simp [go_sem]
  have FR0 : FourV' ((w.alloc (.cells #[.int .i64 20, .string nm, .int .i64 n, .slice a ks.length c] 24)).alloc (.cells #[.int .i64 0, .string ⟨#[]⟩, .int .i64 0, .slice none 0 0] 24)) (w.heap.size + 1) (.int .i64 0) (.string ⟨#[]⟩) (.int .i64 0) (.slice none 0 0) := by simp [FourV', go_sem]
  have hX2 : w.heap.size + 1 < ((w.alloc (.cells #[.int .i64 20, .string nm, .int .i64 n, .slice a ks.length c] 24)).alloc (.cells #[.int .i64 0, .string ⟨#[]⟩, .int .i64 0, .slice none 0 0] 24)).heap.size := by simp
  generalize hW2 : ((w.alloc (.cells #[.int .i64 20, .string nm, .int .i64 n, .slice a ks.length c] 24)).alloc (.cells #[.int .i64 0, .string ⟨#[]⟩, .int .i64 0, .slice none 0 0] 24)) = W2 at *
  unfold Tm.val
  simp only [Tm.op, Tm.nm, Tm.n, Tm.a, Tm.ks, Tm.c]
  obtain ⟨u0, u1, u2, u3⟩ := TT
  have FR := mkHid FR0
  have SZ := hX2
  have BW := hb2
  clear FR0 hX2 hb2 ht hTV
  have b3 := bel_alloc W2 (.cells #[.int .i64 20, .string ⟨#[]⟩, .int .i64 0, .slice none 0 0] 24)
  have hX2 : W2.heap.size = w.heap.size + 1 + 1 := by rw [← hW2]; simp
  have OB0 : FourV' (W2.alloc (.cells #[.int .i64 20, .string ⟨#[]⟩, .int .i64 0, .slice none 0 0] 24)) (w.heap.size + 1 + 1) (.int .i64 20) (.string ⟨#[]⟩) (.int .i64 0) (.slice none 0 0) := by rw [← hX2]; simp [FourV', go_sem]
  have R0 : UpR w (.node 20 nm n a c ks) 20 [] (.slice none 0 0) (W2.alloc (.cells #[.int .i64 20, .string ⟨#[]⟩, .int .i64 0, .slice none 0 0] 24)) := by
    refine ⟨bon BW b3, ?_, FR.out.later b3, OB0, ⟨rfl, .inl ⟨rfl, rfl⟩⟩, fun x hx => (by cases hx), fun x hx => (by cases hx), fun x hx => (by cases hx)⟩
    exact ⟨cell_later b3 u0, by rw [Nat.zero_add]; exact cell_later b3 u1, by rw [Nat.zero_add]; exact cell_later b3 u2, by rw [Nat.zero_add]; exact cell_later b3 u3⟩
  have HCK := mkHid Ck
  simp only [Tm.ks] at hlen
  have HR0 := mkHid R0
  clear R0 OB0 Ck
  have hlen9 : ks.length ≤ 9223372036854775807 := by omega
  have hsz2 : Hid (W2.heap.size = w.heap.size + 1 + 1) := hX2
  clear b3 hX2
  obtain ⟨i0, hi0, hz0, hz1, hz2⟩ := tm_parts
  go_enter Tryd.func68, Tryd.ntmps68
  go_wp2
  clear hW2 u0 u1 u2 u3
  generalize W2.alloc (.cells #[.int .i64 20, .string ⟨#[]⟩, .int .i64 0, .slice none 0 0] 24) = W3 at *
  rw [hsz2.out]
  generalize hn' : ks.length = m at *
  have HM := mkHid hn'
  clear hn'
  go_loopw [4] (fun i w' => ∃ (k : Nat) (x : Int) (l : List Tm) (v : Value), i = .int .i64 x ∧ x = k ∧ k ≤ m ∧ l.length = k ∧ UpR w (.node 20 nm n a c ks) 20 l v w' ∧ l.map Tm.er = (ks.take k).map F0) (fun i _ => (m - intOf i).toNat)
  case atStart => exact ⟨0, 0, [], _, rfl, rfl, Nat.zero_le _, rfl, HR0.out, by simp⟩
  case round =>
    obtain ⟨k, x, l, v, rfl, hxk, hk, hll, R, hl⟩ := hrel
    obtain rfl : x = (k : Int) := hxk
    have HR := mkHid R
    have u3 := R.bt.2.2.2
    simp only [Nat.zero_add, Tm.a, Tm.ks, Tm.c] at u3
    rw [HM.out] at u3
    by_cases hlt : k < m
    · have hk' : k < ks.length := by rw [HM.out]; exact hlt
      obtain ⟨kin1, b, o, ha1, hbl, kf1⟩ := HT.out.kid k hk'
      have ha : a = some ⟨b, o, none⟩ := ha1
      have HQM : Hid (ks[k] ∈ ks) := List.getElem_mem _
      have HTK := mkHid (List.take_succ_eq_append_getElem hk')
      have kf : Four w b (o + k * 4) ks[k] := kf1
      have kin : TIn w w.heap.size ks[k] := kin1
      clear kin1 kf1 ha1
      have kf' := kf.keep R.bel hbl
      generalize ks[k] = q at *
      obtain ⟨q0, q1, q2, q3⟩ := kf'
      rw [ha] at u3
      have HQI := mkHid kin
      have hk2 : (k : Int) < (m : Int) := by omega
      have HHA := mkHid ha
      clear ha kin kf R hk'
      go_wp2_with fail
      (try dsimp only [List.append])
      refine wp_region_held_drew (S := fun w' => w'.cell? ⟨w.heap.size, 3, none⟩ = some (.slice (some ⟨b, o, none⟩) m c) ∧ w'.cell? ⟨b, o + k * 4, none⟩ = some (.int .i64 q.op) ∧ w'.cell? ⟨b, o + k * 4 + 1, none⟩ = some (.string q.nm) ∧ w'.cell? ⟨b, o + k * 4 + 2, none⟩ = some (.int .i64 q.n) ∧ w'.cell? ⟨b, o + k * 4 + 3, none⟩ = some (.slice q.a q.ks.length q.c)) (by kernel_rfl) ⟨u3, q0, q1, q2, q3⟩ (fun hHeld => ?_)
      replace HR := mkHid (HR.out.later (bdrew (Below.refl wr.heap.size wr)))
      clear u3 q0 q1 q2 q3
      generalize wr.drew = V at *
      refine wpAnyH_take (i := 0) (v := ?_) rfl (by kernel_rfl) (by kernel_rfl) (by kernel_rfl) (fun _ _ _ h => h) (Or.inl ⟨by kernel_rfl, ?_⟩) (by assumption) ?_
      rotate_left
      · (intro w hSw; (try dsimp only at hSw); go_simp; try with_reducible rfl)
      simp only [Act.put, List.getElem_toArray, List.getElem_cons_zero, List.setIfInBounds_toArray, List.set_cons_zero, List.set_cons_succ]
      refine wpAnyH_take (i := 2) (v := ?_) rfl (by kernel_rfl) (by kernel_rfl) (by kernel_rfl) (fun _ _ _ h => h) (Or.inl ⟨by kernel_rfl, ?_⟩) (by assumption) ?_
      rotate_left
      · (intro w hSw; (try dsimp only at hSw); go_simp; try with_reducible rfl)
      simp only [Act.put, List.getElem_toArray, List.getElem_cons_succ, List.getElem_cons_zero, List.setIfInBounds_toArray, List.set_cons_zero, List.set_cons_succ]
      refine wpAnyH_take (i := 3) (v := ?_) rfl (by kernel_rfl) (by kernel_rfl) (by kernel_rfl) (fun _ _ _ h => h) (Or.inl ⟨by kernel_rfl, ?_⟩) (by assumption) ?_
      rotate_left
      · (intro w hSw; (try dsimp only at hSw); go_simp; try with_reducible rfl)
      simp only [Act.put, List.getElem_toArray, List.getElem_cons_succ, List.getElem_cons_zero, List.setIfInBounds_toArray, List.set_cons_zero, List.set_cons_succ]
      refine wpAnyH_take (i := 4) (v := ?_) rfl (by kernel_rfl) (by kernel_rfl) (by kernel_rfl) (fun _ _ _ h => h) (Or.inl ⟨by kernel_rfl, ?_⟩) (by assumption) ?_
      rotate_left
      · (intro w hSw; (try dsimp only at hSw); go_simp; try with_reducible rfl)
      simp only [Act.put, List.getElem_toArray, List.getElem_cons_succ, List.getElem_cons_zero, List.setIfInBounds_toArray, List.set_cons_zero, List.set_cons_succ]
      refine wpAnyH_take (i := 5) (v := ?_) rfl (by kernel_rfl) (by kernel_rfl) (by kernel_rfl) (fun _ _ _ h => h) (Or.inl ⟨by kernel_rfl, ?_⟩) (by assumption) ?_
      rotate_left
      · (intro w hSw; (try dsimp only at hSw); go_simp; try with_reducible rfl)
      simp only [Act.put, List.getElem_toArray, List.getElem_cons_succ, List.getElem_cons_zero, List.setIfInBounds_toArray, List.set_cons_zero, List.set_cons_succ]
      refine wpAnyH_take (i := 6) (v := ?_) rfl (by kernel_rfl) (by kernel_rfl) (by kernel_rfl) (fun _ _ _ h => h) (Or.inl ⟨by kernel_rfl, ?_⟩) (by assumption) ?_
      rotate_left
      · (intro w hSw; (try dsimp only at hSw); go_simp; try with_reducible rfl)
      simp only [Act.put, List.getElem_toArray, List.getElem_cons_succ, List.getElem_cons_zero, List.setIfInBounds_toArray, List.set_cons_zero, List.set_cons_succ]
      have BQ : Mk w (.node 20 nm n a c ks) V q := Mk.kid HT.out HQM.out HR.out.bel
      have SZ0 : w.heap.size + 1 < V.heap.size := World.block_lt_of_cell? _ _ HR.out.fr.1
      have P := mkHid (HCK.out q HQM.out V BQ.tin)
      unfold Tm.val at P
      have HBQ := mkHid BQ
      clear BQ
      refine wpAnyH_ready (rs := [1, 7]) (by kernel_rfl) (by simp) ?_
      refine AllReadyH.cons rfl (fun K hK => ?_) ?_
      · have oc := HR.out.ob.2.2.2.1
        go_simp
        refine hK.out _ _ (by assumption) (fun hHeld => ?_)
        clear hK oc
        refine wpAnyH_ready (rs := [7]) (by kernel_rfl) (by simp) ?_
        refine AllReadyH.cons rfl (fun K hK => ?_) AllReadyH.nil
        go_simp
        go_wp2_with (go_at_call 68; ((with_reducible refine P.out.mono ?_)); rintro e w5 ⟨z, rfl, ze, zt, zw, hb5⟩)
        refine hK.out _ _ (keep5 (by assumption) hb5) (fun hHeld => ?_)
        clear hK P
        have HZ := mkHid (Mk.call HBQ.out SZ0 zt zw)
        have HZE := mkHid ze
        have HZO : Hid (TAw (w.heap.size + 1 + 1) z) := zw _ (World.block_lt_of_cell? _ _ HR.out.ob.1) (HQI.out.aw (by omega))
        have HZG : Hid (∀ g, v.ownBlock = some g → TAw g z) := fun g hg => zw g (HR.out.gl hg).1 (HQI.out.aw (HR.out.gl hg).2)
        replace HR := mkHid (HR.out.later hb5)
        clear ze zt zw
        unfold Tm.val
        refine wpAnyH_ready (rs := [8]) (by kernel_rfl) (by simp) ?_
        refine AllReadyH.cons rfl (fun K hK => ?_) AllReadyH.nil
        go_simp
        have b6 := bel_alloc w5 (.cells #[.int .i64 z.op, .string z.nm, .int .i64 z.n, .slice z.a z.ks.length z.c] 24)
        refine hK.out _ _ (keep5 (by assumption) b6) (fun hHeld => ?_)
        clear hK
        have N6 := mkHid (tm4_cells w5 z)
        have G6 : w.heap.size + 1 + 1 + 1 ≤ (w5.alloc (.cells #[.int .i64 z.op, .string z.nm, .int .i64 z.n, .slice z.a z.ks.length z.c] 24)).heap.size := by have := World.block_lt_of_cell? _ _ HR.out.ob.1; simp only at this; rw [World.size_alloc]; omega
        generalize w5.alloc (.cells #[.int .i64 z.op, .string z.nm, .int .i64 z.n, .slice z.a z.ks.length z.c] 24) = W6 at *
        replace HR := mkHid (HR.out.later b6)
        replace HZ := mkHid (HZ.out.later b6)
        refine wpAnyH_ready (rs := [9]) (by kernel_rfl) (by simp) ?_
        refine AllReadyH.cons rfl (fun K hK => ?_) AllReadyH.nil
        refine step_append_lies _ (by rfl) _ _ _ (by rfl) (w.heap.size + 1 + 1 + 1) 24 i0 _ 4 56 Tryd.underlying22 hi0 hz0 hz1 hz2 rfl (by omega) v l.length (l.flatMap tm4) (by rfl) HR.out.own ⟨w5.heap.size, 0, none⟩ 1 1 (tm4 z) (by rfl) rfl N6.out (tm4_one z) (by omega) (by unfold maxLen; omega) (by omega) G6 W6.heap.size rfl (fun g cap w7 ho7 hg7 hgg7 hlt7 => ?_)
        obtain ⟨s, hs, hB⟩ := HR.out.but hg7
        refine hK.out _ _ (keep5B (by assumption) hB (by show w.heap.size ≠ s; omega) (by show b ≠ s; omega) (by show b ≠ s; omega) (by show b ≠ s; omega) (by show b ≠ s; omega)) (fun hHeld => ?_)
        clear hK
        obtain ⟨-, -, -, e3, -, -, -, e7⟩ := HR.out.ob.but hB (by omega)
        have HN := mkHid (HR.out.step HZ.out HZO.out HZG.out ho7 hg7 hgg7)
        rw [hll] at HN
        have hB2 : But (w.heap.size + 1 + 1) w7 (w7.setCell ⟨w.heap.size + 1 + 1, 3, none⟩ (.slice (some ⟨g, 0, none⟩) (k + 1) cap)) := (But.refl _ _).set (p := ⟨w.heap.size + 1 + 1, 3, none⟩) (.inl rfl) _
        rw [hll]
        clear ho7 hg7 hgg7 hlt7
        refine wpAnyH_take (i := 10) (v := ?_) rfl (by kernel_rfl) (by kernel_rfl) (by kernel_rfl) (fun _ _ _ h => h) (Or.inl ⟨by kernel_rfl, ?_⟩) (by assumption) ?_
        rotate_left
        · (intro w hSw; (try dsimp only at hSw); go_simp; try with_reducible rfl)
        simp only [Act.put, List.getElem_toArray, List.getElem_cons_succ, List.getElem_cons_zero, List.setIfInBounds_toArray, List.set_cons_zero, List.set_cons_succ]
        refine wpAnyH_ready (rs := [11]) (by kernel_rfl) (by simp) ?_
        refine AllReadyH.cons rfl (fun K hK => ?_) AllReadyH.nil
        go_simp
        refine hK.out _ _ (keep5B (by assumption) hB2 (by show w.heap.size ≠ w.heap.size + 1 + 1; omega) (by show b ≠ w.heap.size + 1 + 1; omega) (by show b ≠ w.heap.size + 1 + 1; omega) (by show b ≠ w.heap.size + 1 + 1; omega) (by show b ≠ w.heap.size + 1 + 1; omega)) (fun hHeld => ?_)
        clear hK hHeld e3 e7
        refine wpAnyH_done (by kernel_rfl) ?_ _
        go_wp2
        go_roundw
        case rel => exact ⟨k + 1, _, l ++ [z], _, rfl, by omega, by omega, by simp [hll], HN.out, by rw [HTK.out, List.map_append, List.map_append, hl]; simp [HZE.out]⟩
        case measure => simp [intOf]; omega
      refine AllReadyH.cons rfl (fun K hK => ?_) AllReadyH.nil
      go_simp
      go_wp2_with (go_at_call 68; ((with_reducible refine P.out.mono ?_)); rintro e w5 ⟨z, rfl, ze, zt, zw, hb5⟩)
      refine hK.out _ _ (keep5 (by assumption) hb5) (fun hHeld => ?_)
      clear hK P
      have HZ := mkHid (Mk.call HBQ.out SZ0 zt zw)
      have HZE := mkHid ze
      have HZO : Hid (TAw (w.heap.size + 1 + 1) z) := zw _ (World.block_lt_of_cell? _ _ HR.out.ob.1) (HQI.out.aw (by omega))
      have HZG : Hid (∀ g, v.ownBlock = some g → TAw g z) := fun g hg => zw g (HR.out.gl hg).1 (HQI.out.aw (HR.out.gl hg).2)
      replace HR := mkHid (HR.out.later hb5)
      clear ze zt zw
      unfold Tm.val
      refine wpAnyH_ready (rs := [1, 8]) (by kernel_rfl) (by simp) ?_
      refine AllReadyH.cons rfl (fun K hK => ?_) ?_
      · have oc := HR.out.ob.2.2.2.1
        go_simp
        refine hK.out _ _ (by assumption) (fun hHeld => ?_)
        clear hK oc
        refine wpAnyH_ready (rs := [8]) (by kernel_rfl) (by simp) ?_
        refine AllReadyH.cons rfl (fun K hK => ?_) AllReadyH.nil
        go_simp
        have b6 := bel_alloc w5 (.cells #[.int .i64 z.op, .string z.nm, .int .i64 z.n, .slice z.a z.ks.length z.c] 24)
        refine hK.out _ _ (keep5 (by assumption) b6) (fun hHeld => ?_)
        clear hK
        have N6 := mkHid (tm4_cells w5 z)
        have G6 : w.heap.size + 1 + 1 + 1 ≤ (w5.alloc (.cells #[.int .i64 z.op, .string z.nm, .int .i64 z.n, .slice z.a z.ks.length z.c] 24)).heap.size := by have := World.block_lt_of_cell? _ _ HR.out.ob.1; simp only at this; rw [World.size_alloc]; omega
        generalize w5.alloc (.cells #[.int .i64 z.op, .string z.nm, .int .i64 z.n, .slice z.a z.ks.length z.c] 24) = W6 at *
        replace HR := mkHid (HR.out.later b6)
        replace HZ := mkHid (HZ.out.later b6)
        refine wpAnyH_ready (rs := [9]) (by kernel_rfl) (by simp) ?_
        refine AllReadyH.cons rfl (fun K hK => ?_) AllReadyH.nil
        refine step_append_lies _ (by rfl) _ _ _ (by rfl) (w.heap.size + 1 + 1 + 1) 24 i0 _ 4 56 Tryd.underlying22 hi0 hz0 hz1 hz2 rfl (by omega) v l.length (l.flatMap tm4) (by rfl) HR.out.own ⟨w5.heap.size, 0, none⟩ 1 1 (tm4 z) (by rfl) rfl N6.out (tm4_one z) (by omega) (by unfold maxLen; omega) (by omega) G6 W6.heap.size rfl (fun g cap w7 ho7 hg7 hgg7 hlt7 => ?_)
        obtain ⟨s, hs, hB⟩ := HR.out.but hg7
        refine hK.out _ _ (keep5B (by assumption) hB (by show w.heap.size ≠ s; omega) (by show b ≠ s; omega) (by show b ≠ s; omega) (by show b ≠ s; omega) (by show b ≠ s; omega)) (fun hHeld => ?_)
        clear hK
        obtain ⟨-, -, -, e3, -, -, -, e7⟩ := HR.out.ob.but hB (by omega)
        have HN := mkHid (HR.out.step HZ.out HZO.out HZG.out ho7 hg7 hgg7)
        rw [hll] at HN
        have hB2 : But (w.heap.size + 1 + 1) w7 (w7.setCell ⟨w.heap.size + 1 + 1, 3, none⟩ (.slice (some ⟨g, 0, none⟩) (k + 1) cap)) := (But.refl _ _).set (p := ⟨w.heap.size + 1 + 1, 3, none⟩) (.inl rfl) _
        rw [hll]
        clear ho7 hg7 hgg7 hlt7
        refine wpAnyH_take (i := 10) (v := ?_) rfl (by kernel_rfl) (by kernel_rfl) (by kernel_rfl) (fun _ _ _ h => h) (Or.inl ⟨by kernel_rfl, ?_⟩) (by assumption) ?_
        rotate_left
        · (intro w hSw; (try dsimp only at hSw); go_simp; try with_reducible rfl)
        simp only [Act.put, List.getElem_toArray, List.getElem_cons_succ, List.getElem_cons_zero, List.setIfInBounds_toArray, List.set_cons_zero, List.set_cons_succ]
        refine wpAnyH_ready (rs := [11]) (by kernel_rfl) (by simp) ?_
        refine AllReadyH.cons rfl (fun K hK => ?_) AllReadyH.nil
        go_simp
        refine hK.out _ _ (keep5B (by assumption) hB2 (by show w.heap.size ≠ w.heap.size + 1 + 1; omega) (by show b ≠ w.heap.size + 1 + 1; omega) (by show b ≠ w.heap.size + 1 + 1; omega) (by show b ≠ w.heap.size + 1 + 1; omega) (by show b ≠ w.heap.size + 1 + 1; omega)) (fun hHeld => ?_)
        clear hK hHeld e3 e7
        refine wpAnyH_done (by kernel_rfl) ?_ _
        go_wp2
        go_roundw
        case rel => exact ⟨k + 1, _, l ++ [z], _, rfl, by omega, by omega, by simp [hll], HN.out, by rw [HTK.out, List.map_append, List.map_append, hl]; simp [HZE.out]⟩
        case measure => simp [intOf]; omega
      refine AllReadyH.cons rfl (fun K hK => ?_) AllReadyH.nil
      go_simp
      have b6 := bel_alloc w5 (.cells #[.int .i64 z.op, .string z.nm, .int .i64 z.n, .slice z.a z.ks.length z.c] 24)
      refine hK.out _ _ (keep5 (by assumption) b6) (fun hHeld => ?_)
      clear hK
      have N6 := mkHid (tm4_cells w5 z)
      have G6 : w.heap.size + 1 + 1 + 1 ≤ (w5.alloc (.cells #[.int .i64 z.op, .string z.nm, .int .i64 z.n, .slice z.a z.ks.length z.c] 24)).heap.size := by have := World.block_lt_of_cell? _ _ HR.out.ob.1; simp only at this; rw [World.size_alloc]; omega
      generalize w5.alloc (.cells #[.int .i64 z.op, .string z.nm, .int .i64 z.n, .slice z.a z.ks.length z.c] 24) = W6 at *
      replace HR := mkHid (HR.out.later b6)
      replace HZ := mkHid (HZ.out.later b6)
      refine wpAnyH_ready (rs := [1]) (by kernel_rfl) (by simp) ?_
      refine AllReadyH.cons rfl (fun K hK => ?_) AllReadyH.nil
      have oc := HR.out.ob.2.2.2.1
      go_simp
      refine hK.out _ _ (by assumption) (fun hHeld => ?_)
      clear hK oc
      refine wpAnyH_ready (rs := [9]) (by kernel_rfl) (by simp) ?_
      refine AllReadyH.cons rfl (fun K hK => ?_) AllReadyH.nil
      refine step_append_lies _ (by rfl) _ _ _ (by rfl) (w.heap.size + 1 + 1 + 1) 24 i0 _ 4 56 Tryd.underlying22 hi0 hz0 hz1 hz2 rfl (by omega) v l.length (l.flatMap tm4) (by rfl) HR.out.own ⟨w5.heap.size, 0, none⟩ 1 1 (tm4 z) (by rfl) rfl N6.out (tm4_one z) (by omega) (by unfold maxLen; omega) (by omega) G6 W6.heap.size rfl (fun g cap w7 ho7 hg7 hgg7 hlt7 => ?_)
      obtain ⟨s, hs, hB⟩ := HR.out.but hg7
      refine hK.out _ _ (keep5B (by assumption) hB (by show w.heap.size ≠ s; omega) (by show b ≠ s; omega) (by show b ≠ s; omega) (by show b ≠ s; omega) (by show b ≠ s; omega)) (fun hHeld => ?_)
      clear hK
      obtain ⟨-, -, -, e3, -, -, -, e7⟩ := HR.out.ob.but hB (by omega)
      have HN := mkHid (HR.out.step HZ.out HZO.out HZG.out ho7 hg7 hgg7)
      rw [hll] at HN
      have hB2 : But (w.heap.size + 1 + 1) w7 (w7.setCell ⟨w.heap.size + 1 + 1, 3, none⟩ (.slice (some ⟨g, 0, none⟩) (k + 1) cap)) := (But.refl _ _).set (p := ⟨w.heap.size + 1 + 1, 3, none⟩) (.inl rfl) _
      rw [hll]
      clear ho7 hg7 hgg7 hlt7
      refine wpAnyH_take (i := 10) (v := ?_) rfl (by kernel_rfl) (by kernel_rfl) (by kernel_rfl) (fun _ _ _ h => h) (Or.inl ⟨by kernel_rfl, ?_⟩) (by assumption) ?_
      rotate_left
      · (intro w hSw; (try dsimp only at hSw); go_simp; try with_reducible rfl)
      simp only [Act.put, List.getElem_toArray, List.getElem_cons_succ, List.getElem_cons_zero, List.setIfInBounds_toArray, List.set_cons_zero, List.set_cons_succ]
      refine wpAnyH_ready (rs := [11]) (by kernel_rfl) (by simp) ?_
      refine AllReadyH.cons rfl (fun K hK => ?_) AllReadyH.nil
      go_simp
      refine hK.out _ _ (keep5B (by assumption) hB2 (by show w.heap.size ≠ w.heap.size + 1 + 1; omega) (by show b ≠ w.heap.size + 1 + 1; omega) (by show b ≠ w.heap.size + 1 + 1; omega) (by show b ≠ w.heap.size + 1 + 1; omega) (by show b ≠ w.heap.size + 1 + 1; omega)) (fun hHeld => ?_)
      clear hK hHeld e3 e7
      refine wpAnyH_done (by kernel_rfl) ?_ _
      go_wp2
      go_roundw
      case rel => exact ⟨k + 1, _, l ++ [z], _, rfl, by omega, by omega, by simp [hll], HN.out, by rw [HTK.out, List.map_append, List.map_append, hl]; simp [HZE.out]⟩
      case measure => simp [intOf]; omega
    · obtain rfl : k = m := by omega
      have hkk : ks.take k = ks := List.take_of_length_le (by rw [HM.out]; omega)
      rw [hkk] at hl
      obtain ⟨A0, c0, rfl⟩ : ∃ A c, v = .slice A k c := by
        obtain ⟨A, c, e⟩ := own_slice HR.out.own
        exact ⟨A, c, by rw [e, hll]⟩
      obtain ⟨o0, o1, o2, o3, -⟩ := HR.out.ob
      obtain ⟨m0, m1, m2, m3, f0, f1, f2, f3⟩ := HR.out.fr
      have MR : Mk w (.node 20 nm n a c ks) wr (.node 20 ⟨#[]⟩ 0 A0 c0 l) := UpR.mk_row HR.out (by decide) hll.symm
      have FI := Mk.fin (F := F) MR HR.out.bel (by rw [HFT.out, er_eq]; exact congrArg (mkT 20) hl)
      simp only [Tm.val, Tm.op, Tm.nm, Tm.n, Tm.a, Tm.ks, Tm.c, hll] at FI
      have HFI := mkHid FI
      clear FI MR hl
      go_wp2
      exact bodyPost_ret (v := .agg #[.int .i64 20, .string ⟨#[]⟩, .int .i64 0, .slice A0 k c0]) (by simp [results, Tryd.results68, go_sem, m0, m1, m2, m3]) rfl HFI.out
set_option maxRecDepth 100000 in
set_option maxHeartbeats 4000000 in
theorem down19 (F : Tm → Tm) (t : Tm) (hop : t.op = 19) {F0 : Tm → Tm} (hlen : t.ks.length ≤ 2000) (Ck : ∀ k ∈ t.ks, ∀ w' : World, TIn w' w'.heap.size k → Calls Tryd.prog 93 #[k.val] w' (BecP F0 k w')) (hF : F t = mkT 20 (t.ks.map F0)) (w : World) (ht : TIn w w.heap.size t) : Calls Tryd.prog 93 #[t.val] w (BecP F t w) := by
  have HT := mkHid ht
  have HFT := mkHid hF
  clear hF
  have hTV : t.val = t.val := rfl
  obtain ⟨op, nm, n, a, c, ks⟩ := t
  simp only [Tm.op] at hop
  subst hop
  have hb2 : Below w.heap.size w ((w.alloc (.cells #[.int .i64 19, .string nm, .int .i64 n, .slice a ks.length c] 24)).alloc (.cells #[.int .i64 0, .string ⟨#[]⟩, .int .i64 0, .slice none 0 0] 24)) := bal (bal (Below.refl _ _) _) _
  have TT : ((w.alloc (.cells #[.int .i64 19, .string nm, .int .i64 n, .slice a ks.length c] 24)).alloc (.cells #[.int .i64 0, .string ⟨#[]⟩, .int .i64 0, .slice none 0 0] 24)).cell? ⟨w.heap.size, 0, none⟩ = some (.int .i64 19) ∧ ((w.alloc (.cells #[.int .i64 19, .string nm, .int .i64 n, .slice a ks.length c] 24)).alloc (.cells #[.int .i64 0, .string ⟨#[]⟩, .int .i64 0, .slice none 0 0] 24)).cell? ⟨w.heap.size, 1, none⟩ = some (.string nm) ∧ ((w.alloc (.cells #[.int .i64 19, .string nm, .int .i64 n, .slice a ks.length c] 24)).alloc (.cells #[.int .i64 0, .string ⟨#[]⟩, .int .i64 0, .slice none 0 0] 24)).cell? ⟨w.heap.size, 2, none⟩ = some (.int .i64 n) ∧ ((w.alloc (.cells #[.int .i64 19, .string nm, .int .i64 n, .slice a ks.length c] 24)).alloc (.cells #[.int .i64 0, .string ⟨#[]⟩, .int .i64 0, .slice none 0 0] 24)).cell? ⟨w.heap.size, 3, none⟩ = some (.slice a ks.length c) := by simp [go_sem]
  have FR0 : FourV' ((w.alloc (.cells #[.int .i64 19, .string nm, .int .i64 n, .slice a ks.length c] 24)).alloc (.cells #[.int .i64 0, .string ⟨#[]⟩, .int .i64 0, .slice none 0 0] 24)) (w.heap.size + 1) (.int .i64 0) (.string ⟨#[]⟩) (.int .i64 0) (.slice none 0 0) := by simp [FourV', go_sem]
  have hX2 : w.heap.size + 1 < ((w.alloc (.cells #[.int .i64 19, .string nm, .int .i64 n, .slice a ks.length c] 24)).alloc (.cells #[.int .i64 0, .string ⟨#[]⟩, .int .i64 0, .slice none 0 0] 24)).heap.size := by simp
  generalize hW2 : ((w.alloc (.cells #[.int .i64 19, .string nm, .int .i64 n, .slice a ks.length c] 24)).alloc (.cells #[.int .i64 0, .string ⟨#[]⟩, .int .i64 0, .slice none 0 0] 24)) = W2 at *
  unfold Tm.val
  simp only [Tm.op, Tm.nm, Tm.n, Tm.a, Tm.ks, Tm.c]
  obtain ⟨u0, u1, u2, u3⟩ := TT
  have FR := mkHid FR0
  have SZ := hX2
  have BW := hb2
  clear FR0 hX2 hb2 ht hTV
  have b3 := bel_alloc W2 (.cells #[.int .i64 20, .string ⟨#[]⟩, .int .i64 0, .slice none 0 0] 24)
  have hX2 : W2.heap.size = w.heap.size + 1 + 1 := by rw [← hW2]; simp
  have OB0 : FourV' (W2.alloc (.cells #[.int .i64 20, .string ⟨#[]⟩, .int .i64 0, .slice none 0 0] 24)) (w.heap.size + 1 + 1) (.int .i64 20) (.string ⟨#[]⟩) (.int .i64 0) (.slice none 0 0) := by rw [← hX2]; simp [FourV', go_sem]
  have R0 : UpR w (.node 19 nm n a c ks) 20 [] (.slice none 0 0) (W2.alloc (.cells #[.int .i64 20, .string ⟨#[]⟩, .int .i64 0, .slice none 0 0] 24)) := by
    refine ⟨bon BW b3, ?_, FR.out.later b3, OB0, ⟨rfl, .inl ⟨rfl, rfl⟩⟩, fun x hx => (by cases hx), fun x hx => (by cases hx), fun x hx => (by cases hx)⟩
    exact ⟨cell_later b3 u0, by rw [Nat.zero_add]; exact cell_later b3 u1, by rw [Nat.zero_add]; exact cell_later b3 u2, by rw [Nat.zero_add]; exact cell_later b3 u3⟩
  have HCK := mkHid Ck
  simp only [Tm.ks] at hlen
  have HR0 := mkHid R0
  clear R0 OB0 Ck
  have hlen9 : ks.length ≤ 9223372036854775807 := by omega
  have hsz2 : Hid (W2.heap.size = w.heap.size + 1 + 1) := hX2
  clear b3 hX2
  obtain ⟨i0, hi0, hz0, hz1, hz2⟩ := tm_parts
  go_enter Tryd.func93, Tryd.ntmps93
  go_wp2
  clear hW2 u0 u1 u2 u3
  generalize W2.alloc (.cells #[.int .i64 20, .string ⟨#[]⟩, .int .i64 0, .slice none 0 0] 24) = W3 at *
  rw [hsz2.out]
  generalize hn' : ks.length = m at *
  have HM := mkHid hn'
  clear hn'
  go_loopw [4] (fun i w' => ∃ (k : Nat) (x : Int) (l : List Tm) (v : Value), i = .int .i64 x ∧ x = k ∧ k ≤ m ∧ l.length = k ∧ UpR w (.node 19 nm n a c ks) 20 l v w' ∧ l.map Tm.er = (ks.take k).map F0) (fun i _ => (m - intOf i).toNat)
  case atStart => exact ⟨0, 0, [], _, rfl, rfl, Nat.zero_le _, rfl, HR0.out, by simp⟩
  case round =>
    obtain ⟨k, x, l, v, rfl, hxk, hk, hll, R, hl⟩ := hrel
    obtain rfl : x = (k : Int) := hxk
    have HR := mkHid R
    have u3 := R.bt.2.2.2
    simp only [Nat.zero_add, Tm.a, Tm.ks, Tm.c] at u3
    rw [HM.out] at u3
    by_cases hlt : k < m
    · have hk' : k < ks.length := by rw [HM.out]; exact hlt
      obtain ⟨kin1, b, o, ha1, hbl, kf1⟩ := HT.out.kid k hk'
      have ha : a = some ⟨b, o, none⟩ := ha1
      have HQM : Hid (ks[k] ∈ ks) := List.getElem_mem _
      have HTK := mkHid (List.take_succ_eq_append_getElem hk')
      have kf : Four w b (o + k * 4) ks[k] := kf1
      have kin : TIn w w.heap.size ks[k] := kin1
      clear kin1 kf1 ha1
      have kf' := kf.keep R.bel hbl
      generalize ks[k] = q at *
      obtain ⟨q0, q1, q2, q3⟩ := kf'
      rw [ha] at u3
      have HQI := mkHid kin
      have hk2 : (k : Int) < (m : Int) := by omega
      have HHA := mkHid ha
      clear ha kin kf R hk'
      go_wp2_with fail
      (try dsimp only [List.append])
      refine wp_region_held_drew (S := fun w' => w'.cell? ⟨w.heap.size, 3, none⟩ = some (.slice (some ⟨b, o, none⟩) m c) ∧ w'.cell? ⟨b, o + k * 4, none⟩ = some (.int .i64 q.op) ∧ w'.cell? ⟨b, o + k * 4 + 1, none⟩ = some (.string q.nm) ∧ w'.cell? ⟨b, o + k * 4 + 2, none⟩ = some (.int .i64 q.n) ∧ w'.cell? ⟨b, o + k * 4 + 3, none⟩ = some (.slice q.a q.ks.length q.c)) (by kernel_rfl) ⟨u3, q0, q1, q2, q3⟩ (fun hHeld => ?_)
      replace HR := mkHid (HR.out.later (bdrew (Below.refl wr.heap.size wr)))
      clear u3 q0 q1 q2 q3
      generalize wr.drew = V at *
      refine wpAnyH_take (i := 0) (v := ?_) rfl (by kernel_rfl) (by kernel_rfl) (by kernel_rfl) (fun _ _ _ h => h) (Or.inl ⟨by kernel_rfl, ?_⟩) (by assumption) ?_
      rotate_left
      · (intro w hSw; (try dsimp only at hSw); go_simp; try with_reducible rfl)
      simp only [Act.put, List.getElem_toArray, List.getElem_cons_zero, List.setIfInBounds_toArray, List.set_cons_zero, List.set_cons_succ]
      refine wpAnyH_take (i := 2) (v := ?_) rfl (by kernel_rfl) (by kernel_rfl) (by kernel_rfl) (fun _ _ _ h => h) (Or.inl ⟨by kernel_rfl, ?_⟩) (by assumption) ?_
      rotate_left
      · (intro w hSw; (try dsimp only at hSw); go_simp; try with_reducible rfl)
      simp only [Act.put, List.getElem_toArray, List.getElem_cons_succ, List.getElem_cons_zero, List.setIfInBounds_toArray, List.set_cons_zero, List.set_cons_succ]
      refine wpAnyH_take (i := 3) (v := ?_) rfl (by kernel_rfl) (by kernel_rfl) (by kernel_rfl) (fun _ _ _ h => h) (Or.inl ⟨by kernel_rfl, ?_⟩) (by assumption) ?_
      rotate_left
      · (intro w hSw; (try dsimp only at hSw); go_simp; try with_reducible rfl)
      simp only [Act.put, List.getElem_toArray, List.getElem_cons_succ, List.getElem_cons_zero, List.setIfInBounds_toArray, List.set_cons_zero, List.set_cons_succ]
      refine wpAnyH_take (i := 4) (v := ?_) rfl (by kernel_rfl) (by kernel_rfl) (by kernel_rfl) (fun _ _ _ h => h) (Or.inl ⟨by kernel_rfl, ?_⟩) (by assumption) ?_
      rotate_left
      · (intro w hSw; (try dsimp only at hSw); go_simp; try with_reducible rfl)
      simp only [Act.put, List.getElem_toArray, List.getElem_cons_succ, List.getElem_cons_zero, List.setIfInBounds_toArray, List.set_cons_zero, List.set_cons_succ]
      refine wpAnyH_take (i := 5) (v := ?_) rfl (by kernel_rfl) (by kernel_rfl) (by kernel_rfl) (fun _ _ _ h => h) (Or.inl ⟨by kernel_rfl, ?_⟩) (by assumption) ?_
      rotate_left
      · (intro w hSw; (try dsimp only at hSw); go_simp; try with_reducible rfl)
      simp only [Act.put, List.getElem_toArray, List.getElem_cons_succ, List.getElem_cons_zero, List.setIfInBounds_toArray, List.set_cons_zero, List.set_cons_succ]
      refine wpAnyH_take (i := 6) (v := ?_) rfl (by kernel_rfl) (by kernel_rfl) (by kernel_rfl) (fun _ _ _ h => h) (Or.inl ⟨by kernel_rfl, ?_⟩) (by assumption) ?_
      rotate_left
      · (intro w hSw; (try dsimp only at hSw); go_simp; try with_reducible rfl)
      simp only [Act.put, List.getElem_toArray, List.getElem_cons_succ, List.getElem_cons_zero, List.setIfInBounds_toArray, List.set_cons_zero, List.set_cons_succ]
      have BQ : Mk w (.node 19 nm n a c ks) V q := Mk.kid HT.out HQM.out HR.out.bel
      have SZ0 : w.heap.size + 1 < V.heap.size := World.block_lt_of_cell? _ _ HR.out.fr.1
      have P := mkHid (HCK.out q HQM.out V BQ.tin)
      unfold Tm.val at P
      have HBQ := mkHid BQ
      clear BQ
      refine wpAnyH_ready (rs := [1, 7]) (by kernel_rfl) (by simp) ?_
      refine AllReadyH.cons rfl (fun K hK => ?_) ?_
      · have oc := HR.out.ob.2.2.2.1
        go_simp
        refine hK.out _ _ (by assumption) (fun hHeld => ?_)
        clear hK oc
        refine wpAnyH_ready (rs := [7]) (by kernel_rfl) (by simp) ?_
        refine AllReadyH.cons rfl (fun K hK => ?_) AllReadyH.nil
        go_simp
        go_wp2_with (go_at_call 93; ((with_reducible refine P.out.mono ?_)); rintro e w5 ⟨z, rfl, ze, zt, zw, hb5⟩)
        refine hK.out _ _ (keep5 (by assumption) hb5) (fun hHeld => ?_)
        clear hK P
        have HZ := mkHid (Mk.call HBQ.out SZ0 zt zw)
        have HZE := mkHid ze
        have HZO : Hid (TAw (w.heap.size + 1 + 1) z) := zw _ (World.block_lt_of_cell? _ _ HR.out.ob.1) (HQI.out.aw (by omega))
        have HZG : Hid (∀ g, v.ownBlock = some g → TAw g z) := fun g hg => zw g (HR.out.gl hg).1 (HQI.out.aw (HR.out.gl hg).2)
        replace HR := mkHid (HR.out.later hb5)
        clear ze zt zw
        unfold Tm.val
        refine wpAnyH_ready (rs := [8]) (by kernel_rfl) (by simp) ?_
        refine AllReadyH.cons rfl (fun K hK => ?_) AllReadyH.nil
        go_simp
        have b6 := bel_alloc w5 (.cells #[.int .i64 z.op, .string z.nm, .int .i64 z.n, .slice z.a z.ks.length z.c] 24)
        refine hK.out _ _ (keep5 (by assumption) b6) (fun hHeld => ?_)
        clear hK
        have N6 := mkHid (tm4_cells w5 z)
        have G6 : w.heap.size + 1 + 1 + 1 ≤ (w5.alloc (.cells #[.int .i64 z.op, .string z.nm, .int .i64 z.n, .slice z.a z.ks.length z.c] 24)).heap.size := by have := World.block_lt_of_cell? _ _ HR.out.ob.1; simp only at this; rw [World.size_alloc]; omega
        generalize w5.alloc (.cells #[.int .i64 z.op, .string z.nm, .int .i64 z.n, .slice z.a z.ks.length z.c] 24) = W6 at *
        replace HR := mkHid (HR.out.later b6)
        replace HZ := mkHid (HZ.out.later b6)
        refine wpAnyH_ready (rs := [9]) (by kernel_rfl) (by simp) ?_
        refine AllReadyH.cons rfl (fun K hK => ?_) AllReadyH.nil
        refine step_append_lies _ (by rfl) _ _ _ (by rfl) (w.heap.size + 1 + 1 + 1) 24 i0 _ 4 56 Tryd.underlying22 hi0 hz0 hz1 hz2 rfl (by omega) v l.length (l.flatMap tm4) (by rfl) HR.out.own ⟨w5.heap.size, 0, none⟩ 1 1 (tm4 z) (by rfl) rfl N6.out (tm4_one z) (by omega) (by unfold maxLen; omega) (by omega) G6 W6.heap.size rfl (fun g cap w7 ho7 hg7 hgg7 hlt7 => ?_)
        obtain ⟨s, hs, hB⟩ := HR.out.but hg7
        refine hK.out _ _ (keep5B (by assumption) hB (by show w.heap.size ≠ s; omega) (by show b ≠ s; omega) (by show b ≠ s; omega) (by show b ≠ s; omega) (by show b ≠ s; omega)) (fun hHeld => ?_)
        clear hK
        obtain ⟨-, -, -, e3, -, -, -, e7⟩ := HR.out.ob.but hB (by omega)
        have HN := mkHid (HR.out.step HZ.out HZO.out HZG.out ho7 hg7 hgg7)
        rw [hll] at HN
        have hB2 : But (w.heap.size + 1 + 1) w7 (w7.setCell ⟨w.heap.size + 1 + 1, 3, none⟩ (.slice (some ⟨g, 0, none⟩) (k + 1) cap)) := (But.refl _ _).set (p := ⟨w.heap.size + 1 + 1, 3, none⟩) (.inl rfl) _
        rw [hll]
        clear ho7 hg7 hgg7 hlt7
        refine wpAnyH_take (i := 10) (v := ?_) rfl (by kernel_rfl) (by kernel_rfl) (by kernel_rfl) (fun _ _ _ h => h) (Or.inl ⟨by kernel_rfl, ?_⟩) (by assumption) ?_
        rotate_left
        · (intro w hSw; (try dsimp only at hSw); go_simp; try with_reducible rfl)
        simp only [Act.put, List.getElem_toArray, List.getElem_cons_succ, List.getElem_cons_zero, List.setIfInBounds_toArray, List.set_cons_zero, List.set_cons_succ]
        refine wpAnyH_ready (rs := [11]) (by kernel_rfl) (by simp) ?_
        refine AllReadyH.cons rfl (fun K hK => ?_) AllReadyH.nil
        go_simp
        refine hK.out _ _ (keep5B (by assumption) hB2 (by show w.heap.size ≠ w.heap.size + 1 + 1; omega) (by show b ≠ w.heap.size + 1 + 1; omega) (by show b ≠ w.heap.size + 1 + 1; omega) (by show b ≠ w.heap.size + 1 + 1; omega) (by show b ≠ w.heap.size + 1 + 1; omega)) (fun hHeld => ?_)
        clear hK hHeld e3 e7
        refine wpAnyH_done (by kernel_rfl) ?_ _
        go_wp2
        go_roundw
        case rel => exact ⟨k + 1, _, l ++ [z], _, rfl, by omega, by omega, by simp [hll], HN.out, by rw [HTK.out, List.map_append, List.map_append, hl]; simp [HZE.out]⟩
        case measure => simp [intOf]; omega
      refine AllReadyH.cons rfl (fun K hK => ?_) AllReadyH.nil
      go_simp
      go_wp2_with (go_at_call 93; ((with_reducible refine P.out.mono ?_)); rintro e w5 ⟨z, rfl, ze, zt, zw, hb5⟩)
      refine hK.out _ _ (keep5 (by assumption) hb5) (fun hHeld => ?_)
      clear hK P
      have HZ := mkHid (Mk.call HBQ.out SZ0 zt zw)
      have HZE := mkHid ze
      have HZO : Hid (TAw (w.heap.size + 1 + 1) z) := zw _ (World.block_lt_of_cell? _ _ HR.out.ob.1) (HQI.out.aw (by omega))
      have HZG : Hid (∀ g, v.ownBlock = some g → TAw g z) := fun g hg => zw g (HR.out.gl hg).1 (HQI.out.aw (HR.out.gl hg).2)
      replace HR := mkHid (HR.out.later hb5)
      clear ze zt zw
      unfold Tm.val
      refine wpAnyH_ready (rs := [1, 8]) (by kernel_rfl) (by simp) ?_
      refine AllReadyH.cons rfl (fun K hK => ?_) ?_
      · have oc := HR.out.ob.2.2.2.1
        go_simp
        refine hK.out _ _ (by assumption) (fun hHeld => ?_)
        clear hK oc
        refine wpAnyH_ready (rs := [8]) (by kernel_rfl) (by simp) ?_
        refine AllReadyH.cons rfl (fun K hK => ?_) AllReadyH.nil
        go_simp
        have b6 := bel_alloc w5 (.cells #[.int .i64 z.op, .string z.nm, .int .i64 z.n, .slice z.a z.ks.length z.c] 24)
        refine hK.out _ _ (keep5 (by assumption) b6) (fun hHeld => ?_)
        clear hK
        have N6 := mkHid (tm4_cells w5 z)
        have G6 : w.heap.size + 1 + 1 + 1 ≤ (w5.alloc (.cells #[.int .i64 z.op, .string z.nm, .int .i64 z.n, .slice z.a z.ks.length z.c] 24)).heap.size := by have := World.block_lt_of_cell? _ _ HR.out.ob.1; simp only at this; rw [World.size_alloc]; omega
        generalize w5.alloc (.cells #[.int .i64 z.op, .string z.nm, .int .i64 z.n, .slice z.a z.ks.length z.c] 24) = W6 at *
        replace HR := mkHid (HR.out.later b6)
        replace HZ := mkHid (HZ.out.later b6)
        refine wpAnyH_ready (rs := [9]) (by kernel_rfl) (by simp) ?_
        refine AllReadyH.cons rfl (fun K hK => ?_) AllReadyH.nil
        refine step_append_lies _ (by rfl) _ _ _ (by rfl) (w.heap.size + 1 + 1 + 1) 24 i0 _ 4 56 Tryd.underlying22 hi0 hz0 hz1 hz2 rfl (by omega) v l.length (l.flatMap tm4) (by rfl) HR.out.own ⟨w5.heap.size, 0, none⟩ 1 1 (tm4 z) (by rfl) rfl N6.out (tm4_one z) (by omega) (by unfold maxLen; omega) (by omega) G6 W6.heap.size rfl (fun g cap w7 ho7 hg7 hgg7 hlt7 => ?_)
        obtain ⟨s, hs, hB⟩ := HR.out.but hg7
        refine hK.out _ _ (keep5B (by assumption) hB (by show w.heap.size ≠ s; omega) (by show b ≠ s; omega) (by show b ≠ s; omega) (by show b ≠ s; omega) (by show b ≠ s; omega)) (fun hHeld => ?_)
        clear hK
        obtain ⟨-, -, -, e3, -, -, -, e7⟩ := HR.out.ob.but hB (by omega)
        have HN := mkHid (HR.out.step HZ.out HZO.out HZG.out ho7 hg7 hgg7)
        rw [hll] at HN
        have hB2 : But (w.heap.size + 1 + 1) w7 (w7.setCell ⟨w.heap.size + 1 + 1, 3, none⟩ (.slice (some ⟨g, 0, none⟩) (k + 1) cap)) := (But.refl _ _).set (p := ⟨w.heap.size + 1 + 1, 3, none⟩) (.inl rfl) _
        rw [hll]
        clear ho7 hg7 hgg7 hlt7
        refine wpAnyH_take (i := 10) (v := ?_) rfl (by kernel_rfl) (by kernel_rfl) (by kernel_rfl) (fun _ _ _ h => h) (Or.inl ⟨by kernel_rfl, ?_⟩) (by assumption) ?_
        rotate_left
        · (intro w hSw; (try dsimp only at hSw); go_simp; try with_reducible rfl)
        simp only [Act.put, List.getElem_toArray, List.getElem_cons_succ, List.getElem_cons_zero, List.setIfInBounds_toArray, List.set_cons_zero, List.set_cons_succ]
        refine wpAnyH_ready (rs := [11]) (by kernel_rfl) (by simp) ?_
        refine AllReadyH.cons rfl (fun K hK => ?_) AllReadyH.nil
        go_simp
        refine hK.out _ _ (keep5B (by assumption) hB2 (by show w.heap.size ≠ w.heap.size + 1 + 1; omega) (by show b ≠ w.heap.size + 1 + 1; omega) (by show b ≠ w.heap.size + 1 + 1; omega) (by show b ≠ w.heap.size + 1 + 1; omega) (by show b ≠ w.heap.size + 1 + 1; omega)) (fun hHeld => ?_)
        clear hK hHeld e3 e7
        refine wpAnyH_done (by kernel_rfl) ?_ _
        go_wp2
        go_roundw
        case rel => exact ⟨k + 1, _, l ++ [z], _, rfl, by omega, by omega, by simp [hll], HN.out, by rw [HTK.out, List.map_append, List.map_append, hl]; simp [HZE.out]⟩
        case measure => simp [intOf]; omega
      refine AllReadyH.cons rfl (fun K hK => ?_) AllReadyH.nil
      go_simp
      have b6 := bel_alloc w5 (.cells #[.int .i64 z.op, .string z.nm, .int .i64 z.n, .slice z.a z.ks.length z.c] 24)
      refine hK.out _ _ (keep5 (by assumption) b6) (fun hHeld => ?_)
      clear hK
      have N6 := mkHid (tm4_cells w5 z)
      have G6 : w.heap.size + 1 + 1 + 1 ≤ (w5.alloc (.cells #[.int .i64 z.op, .string z.nm, .int .i64 z.n, .slice z.a z.ks.length z.c] 24)).heap.size := by have := World.block_lt_of_cell? _ _ HR.out.ob.1; simp only at this; rw [World.size_alloc]; omega
      generalize w5.alloc (.cells #[.int .i64 z.op, .string z.nm, .int .i64 z.n, .slice z.a z.ks.length z.c] 24) = W6 at *
      replace HR := mkHid (HR.out.later b6)
      replace HZ := mkHid (HZ.out.later b6)
      refine wpAnyH_ready (rs := [1]) (by kernel_rfl) (by simp) ?_
      refine AllReadyH.cons rfl (fun K hK => ?_) AllReadyH.nil
      have oc := HR.out.ob.2.2.2.1
      go_simp
      refine hK.out _ _ (by assumption) (fun hHeld => ?_)
      clear hK oc
      refine wpAnyH_ready (rs := [9]) (by kernel_rfl) (by simp) ?_
      refine AllReadyH.cons rfl (fun K hK => ?_) AllReadyH.nil
      refine step_append_lies _ (by rfl) _ _ _ (by rfl) (w.heap.size + 1 + 1 + 1) 24 i0 _ 4 56 Tryd.underlying22 hi0 hz0 hz1 hz2 rfl (by omega) v l.length (l.flatMap tm4) (by rfl) HR.out.own ⟨w5.heap.size, 0, none⟩ 1 1 (tm4 z) (by rfl) rfl N6.out (tm4_one z) (by omega) (by unfold maxLen; omega) (by omega) G6 W6.heap.size rfl (fun g cap w7 ho7 hg7 hgg7 hlt7 => ?_)
      obtain ⟨s, hs, hB⟩ := HR.out.but hg7
      refine hK.out _ _ (keep5B (by assumption) hB (by show w.heap.size ≠ s; omega) (by show b ≠ s; omega) (by show b ≠ s; omega) (by show b ≠ s; omega) (by show b ≠ s; omega)) (fun hHeld => ?_)
      clear hK
      obtain ⟨-, -, -, e3, -, -, -, e7⟩ := HR.out.ob.but hB (by omega)
      have HN := mkHid (HR.out.step HZ.out HZO.out HZG.out ho7 hg7 hgg7)
      rw [hll] at HN
      have hB2 : But (w.heap.size + 1 + 1) w7 (w7.setCell ⟨w.heap.size + 1 + 1, 3, none⟩ (.slice (some ⟨g, 0, none⟩) (k + 1) cap)) := (But.refl _ _).set (p := ⟨w.heap.size + 1 + 1, 3, none⟩) (.inl rfl) _
      rw [hll]
      clear ho7 hg7 hgg7 hlt7
      refine wpAnyH_take (i := 10) (v := ?_) rfl (by kernel_rfl) (by kernel_rfl) (by kernel_rfl) (fun _ _ _ h => h) (Or.inl ⟨by kernel_rfl, ?_⟩) (by assumption) ?_
      rotate_left
      · (intro w hSw; (try dsimp only at hSw); go_simp; try with_reducible rfl)
      simp only [Act.put, List.getElem_toArray, List.getElem_cons_succ, List.getElem_cons_zero, List.setIfInBounds_toArray, List.set_cons_zero, List.set_cons_succ]
      refine wpAnyH_ready (rs := [11]) (by kernel_rfl) (by simp) ?_
      refine AllReadyH.cons rfl (fun K hK => ?_) AllReadyH.nil
      go_simp
      refine hK.out _ _ (keep5B (by assumption) hB2 (by show w.heap.size ≠ w.heap.size + 1 + 1; omega) (by show b ≠ w.heap.size + 1 + 1; omega) (by show b ≠ w.heap.size + 1 + 1; omega) (by show b ≠ w.heap.size + 1 + 1; omega) (by show b ≠ w.heap.size + 1 + 1; omega)) (fun hHeld => ?_)
      clear hK hHeld e3 e7
      refine wpAnyH_done (by kernel_rfl) ?_ _
      go_wp2
      go_roundw
      case rel => exact ⟨k + 1, _, l ++ [z], _, rfl, by omega, by omega, by simp [hll], HN.out, by rw [HTK.out, List.map_append, List.map_append, hl]; simp [HZE.out]⟩
      case measure => simp [intOf]; omega
    · obtain rfl : k = m := by omega
      have hkk : ks.take k = ks := List.take_of_length_le (by rw [HM.out]; omega)
      rw [hkk] at hl
      obtain ⟨A0, c0, rfl⟩ : ∃ A c, v = .slice A k c := by
        obtain ⟨A, c, e⟩ := own_slice HR.out.own
        exact ⟨A, c, by rw [e, hll]⟩
      obtain ⟨o0, o1, o2, o3, -⟩ := HR.out.ob
      obtain ⟨m0, m1, m2, m3, f0, f1, f2, f3⟩ := HR.out.fr
      have MR : Mk w (.node 19 nm n a c ks) wr (.node 20 ⟨#[]⟩ 0 A0 c0 l) := UpR.mk_row HR.out (by decide) hll.symm
      have FI := Mk.fin (F := F) MR HR.out.bel (by rw [HFT.out, er_eq]; exact congrArg (mkT 20) hl)
      simp only [Tm.val, Tm.op, Tm.nm, Tm.n, Tm.a, Tm.ks, Tm.c, hll] at FI
      have HFI := mkHid FI
      clear FI MR hl
      go_wp2
      exact bodyPost_ret (v := .agg #[.int .i64 20, .string ⟨#[]⟩, .int .i64 0, .slice A0 k c0]) (by simp [results, Tryd.results93, go_sem, m0, m1, m2, m3]) rfl HFI.out
set_option maxRecDepth 100000 in
set_option maxHeartbeats 4000000 in
theorem down20 (F : Tm → Tm) (t : Tm) (hop : t.op = 20) {F0 : Tm → Tm} (hlen : t.ks.length ≤ 2000) (Ck : ∀ k ∈ t.ks, ∀ w' : World, TIn w' w'.heap.size k → Calls Tryd.prog 93 #[k.val] w' (BecP F0 k w')) (hF : F t = mkT 19 (t.ks.map F0)) (w : World) (ht : TIn w w.heap.size t) : Calls Tryd.prog 93 #[t.val] w (BecP F t w) := by
  have HT := mkHid ht
  have HFT := mkHid hF
  clear hF
  have hTV : t.val = t.val := rfl
  obtain ⟨op, nm, n, a, c, ks⟩ := t
  simp only [Tm.op] at hop
  subst hop
  have hb2 : Below w.heap.size w ((w.alloc (.cells #[.int .i64 20, .string nm, .int .i64 n, .slice a ks.length c] 24)).alloc (.cells #[.int .i64 0, .string ⟨#[]⟩, .int .i64 0, .slice none 0 0] 24)) := bal (bal (Below.refl _ _) _) _
  have TT : ((w.alloc (.cells #[.int .i64 20, .string nm, .int .i64 n, .slice a ks.length c] 24)).alloc (.cells #[.int .i64 0, .string ⟨#[]⟩, .int .i64 0, .slice none 0 0] 24)).cell? ⟨w.heap.size, 0, none⟩ = some (.int .i64 20) ∧ ((w.alloc (.cells #[.int .i64 20, .string nm, .int .i64 n, .slice a ks.length c] 24)).alloc (.cells #[.int .i64 0, .string ⟨#[]⟩, .int .i64 0, .slice none 0 0] 24)).cell? ⟨w.heap.size, 1, none⟩ = some (.string nm) ∧ ((w.alloc (.cells #[.int .i64 20, .string nm, .int .i64 n, .slice a ks.length c] 24)).alloc (.cells #[.int .i64 0, .string ⟨#[]⟩, .int .i64 0, .slice none 0 0] 24)).cell? ⟨w.heap.size, 2, none⟩ = some (.int .i64 n) ∧ ((w.alloc (.cells #[.int .i64 20, .string nm, .int .i64 n, .slice a ks.length c] 24)).alloc (.cells #[.int .i64 0, .string ⟨#[]⟩, .int .i64 0, .slice none 0 0] 24)).cell? ⟨w.heap.size, 3, none⟩ = some (.slice a ks.length c) := by simp [go_sem]
  have FR0 : FourV' ((w.alloc (.cells #[.int .i64 20, .string nm, .int .i64 n, .slice a ks.length c] 24)).alloc (.cells #[.int .i64 0, .string ⟨#[]⟩, .int .i64 0, .slice none 0 0] 24)) (w.heap.size + 1) (.int .i64 0) (.string ⟨#[]⟩) (.int .i64 0) (.slice none 0 0) := by simp [FourV', go_sem]
  have hX2 : w.heap.size + 1 < ((w.alloc (.cells #[.int .i64 20, .string nm, .int .i64 n, .slice a ks.length c] 24)).alloc (.cells #[.int .i64 0, .string ⟨#[]⟩, .int .i64 0, .slice none 0 0] 24)).heap.size := by simp
  generalize hW2 : ((w.alloc (.cells #[.int .i64 20, .string nm, .int .i64 n, .slice a ks.length c] 24)).alloc (.cells #[.int .i64 0, .string ⟨#[]⟩, .int .i64 0, .slice none 0 0] 24)) = W2 at *
  unfold Tm.val
  simp only [Tm.op, Tm.nm, Tm.n, Tm.a, Tm.ks, Tm.c]
  obtain ⟨u0, u1, u2, u3⟩ := TT
  have FR := mkHid FR0
  have SZ := hX2
  have BW := hb2
  clear FR0 hX2 hb2 ht hTV
  have b3 := bel_alloc W2 (.cells #[.int .i64 19, .string ⟨#[]⟩, .int .i64 0, .slice none 0 0] 24)
  have hX2 : W2.heap.size = w.heap.size + 1 + 1 := by rw [← hW2]; simp
  have OB0 : FourV' (W2.alloc (.cells #[.int .i64 19, .string ⟨#[]⟩, .int .i64 0, .slice none 0 0] 24)) (w.heap.size + 1 + 1) (.int .i64 19) (.string ⟨#[]⟩) (.int .i64 0) (.slice none 0 0) := by rw [← hX2]; simp [FourV', go_sem]
  have R0 : UpR w (.node 20 nm n a c ks) 19 [] (.slice none 0 0) (W2.alloc (.cells #[.int .i64 19, .string ⟨#[]⟩, .int .i64 0, .slice none 0 0] 24)) := by
    refine ⟨bon BW b3, ?_, FR.out.later b3, OB0, ⟨rfl, .inl ⟨rfl, rfl⟩⟩, fun x hx => (by cases hx), fun x hx => (by cases hx), fun x hx => (by cases hx)⟩
    exact ⟨cell_later b3 u0, by rw [Nat.zero_add]; exact cell_later b3 u1, by rw [Nat.zero_add]; exact cell_later b3 u2, by rw [Nat.zero_add]; exact cell_later b3 u3⟩
  have HCK := mkHid Ck
  simp only [Tm.ks] at hlen
  have HR0 := mkHid R0
  clear R0 OB0 Ck
  have hlen9 : ks.length ≤ 9223372036854775807 := by omega
  have hsz2 : Hid (W2.heap.size = w.heap.size + 1 + 1) := hX2
  clear b3 hX2
  obtain ⟨i0, hi0, hz0, hz1, hz2⟩ := tm_parts
  go_enter Tryd.func93, Tryd.ntmps93
  go_wp2
  clear hW2 u0 u1 u2 u3
  generalize W2.alloc (.cells #[.int .i64 19, .string ⟨#[]⟩, .int .i64 0, .slice none 0 0] 24) = W3 at *
  rw [hsz2.out]
  generalize hn' : ks.length = m at *
  have HM := mkHid hn'
  clear hn'
  go_loopw [4] (fun i w' => ∃ (k : Nat) (x : Int) (l : List Tm) (v : Value), i = .int .i64 x ∧ x = k ∧ k ≤ m ∧ l.length = k ∧ UpR w (.node 20 nm n a c ks) 19 l v w' ∧ l.map Tm.er = (ks.take k).map F0) (fun i _ => (m - intOf i).toNat)
  case atStart => exact ⟨0, 0, [], _, rfl, rfl, Nat.zero_le _, rfl, HR0.out, by simp⟩
  case round =>
    obtain ⟨k, x, l, v, rfl, hxk, hk, hll, R, hl⟩ := hrel
    obtain rfl : x = (k : Int) := hxk
    have HR := mkHid R
    have u3 := R.bt.2.2.2
    simp only [Nat.zero_add, Tm.a, Tm.ks, Tm.c] at u3
    rw [HM.out] at u3
    by_cases hlt : k < m
    · have hk' : k < ks.length := by rw [HM.out]; exact hlt
      obtain ⟨kin1, b, o, ha1, hbl, kf1⟩ := HT.out.kid k hk'
      have ha : a = some ⟨b, o, none⟩ := ha1
      have HQM : Hid (ks[k] ∈ ks) := List.getElem_mem _
      have HTK := mkHid (List.take_succ_eq_append_getElem hk')
      have kf : Four w b (o + k * 4) ks[k] := kf1
      have kin : TIn w w.heap.size ks[k] := kin1
      clear kin1 kf1 ha1
      have kf' := kf.keep R.bel hbl
      generalize ks[k] = q at *
      obtain ⟨q0, q1, q2, q3⟩ := kf'
      rw [ha] at u3
      have HQI := mkHid kin
      have hk2 : (k : Int) < (m : Int) := by omega
      have HHA := mkHid ha
      clear ha kin kf R hk'
      go_wp2_with fail
      (try dsimp only [List.append])
      refine wp_region_held_drew (S := fun w' => w'.cell? ⟨w.heap.size, 3, none⟩ = some (.slice (some ⟨b, o, none⟩) m c) ∧ w'.cell? ⟨b, o + k * 4, none⟩ = some (.int .i64 q.op) ∧ w'.cell? ⟨b, o + k * 4 + 1, none⟩ = some (.string q.nm) ∧ w'.cell? ⟨b, o + k * 4 + 2, none⟩ = some (.int .i64 q.n) ∧ w'.cell? ⟨b, o + k * 4 + 3, none⟩ = some (.slice q.a q.ks.length q.c)) (by kernel_rfl) ⟨u3, q0, q1, q2, q3⟩ (fun hHeld => ?_)
      replace HR := mkHid (HR.out.later (bdrew (Below.refl wr.heap.size wr)))
      clear u3 q0 q1 q2 q3
      generalize wr.drew = V at *
      refine wpAnyH_take (i := 0) (v := ?_) rfl (by kernel_rfl) (by kernel_rfl) (by kernel_rfl) (fun _ _ _ h => h) (Or.inl ⟨by kernel_rfl, ?_⟩) (by assumption) ?_
      rotate_left
      · (intro w hSw; (try dsimp only at hSw); go_simp; try with_reducible rfl)
      simp only [Act.put, List.getElem_toArray, List.getElem_cons_zero, List.setIfInBounds_toArray, List.set_cons_zero, List.set_cons_succ]
      refine wpAnyH_take (i := 2) (v := ?_) rfl (by kernel_rfl) (by kernel_rfl) (by kernel_rfl) (fun _ _ _ h => h) (Or.inl ⟨by kernel_rfl, ?_⟩) (by assumption) ?_
      rotate_left
      · (intro w hSw; (try dsimp only at hSw); go_simp; try with_reducible rfl)
      simp only [Act.put, List.getElem_toArray, List.getElem_cons_succ, List.getElem_cons_zero, List.setIfInBounds_toArray, List.set_cons_zero, List.set_cons_succ]
      refine wpAnyH_take (i := 3) (v := ?_) rfl (by kernel_rfl) (by kernel_rfl) (by kernel_rfl) (fun _ _ _ h => h) (Or.inl ⟨by kernel_rfl, ?_⟩) (by assumption) ?_
      rotate_left
      · (intro w hSw; (try dsimp only at hSw); go_simp; try with_reducible rfl)
      simp only [Act.put, List.getElem_toArray, List.getElem_cons_succ, List.getElem_cons_zero, List.setIfInBounds_toArray, List.set_cons_zero, List.set_cons_succ]
      refine wpAnyH_take (i := 4) (v := ?_) rfl (by kernel_rfl) (by kernel_rfl) (by kernel_rfl) (fun _ _ _ h => h) (Or.inl ⟨by kernel_rfl, ?_⟩) (by assumption) ?_
      rotate_left
      · (intro w hSw; (try dsimp only at hSw); go_simp; try with_reducible rfl)
      simp only [Act.put, List.getElem_toArray, List.getElem_cons_succ, List.getElem_cons_zero, List.setIfInBounds_toArray, List.set_cons_zero, List.set_cons_succ]
      refine wpAnyH_take (i := 5) (v := ?_) rfl (by kernel_rfl) (by kernel_rfl) (by kernel_rfl) (fun _ _ _ h => h) (Or.inl ⟨by kernel_rfl, ?_⟩) (by assumption) ?_
      rotate_left
      · (intro w hSw; (try dsimp only at hSw); go_simp; try with_reducible rfl)
      simp only [Act.put, List.getElem_toArray, List.getElem_cons_succ, List.getElem_cons_zero, List.setIfInBounds_toArray, List.set_cons_zero, List.set_cons_succ]
      refine wpAnyH_take (i := 6) (v := ?_) rfl (by kernel_rfl) (by kernel_rfl) (by kernel_rfl) (fun _ _ _ h => h) (Or.inl ⟨by kernel_rfl, ?_⟩) (by assumption) ?_
      rotate_left
      · (intro w hSw; (try dsimp only at hSw); go_simp; try with_reducible rfl)
      simp only [Act.put, List.getElem_toArray, List.getElem_cons_succ, List.getElem_cons_zero, List.setIfInBounds_toArray, List.set_cons_zero, List.set_cons_succ]
      have BQ : Mk w (.node 20 nm n a c ks) V q := Mk.kid HT.out HQM.out HR.out.bel
      have SZ0 : w.heap.size + 1 < V.heap.size := World.block_lt_of_cell? _ _ HR.out.fr.1
      have P := mkHid (HCK.out q HQM.out V BQ.tin)
      unfold Tm.val at P
      have HBQ := mkHid BQ
      clear BQ
      refine wpAnyH_ready (rs := [1, 7]) (by kernel_rfl) (by simp) ?_
      refine AllReadyH.cons rfl (fun K hK => ?_) ?_
      · have oc := HR.out.ob.2.2.2.1
        go_simp
        refine hK.out _ _ (by assumption) (fun hHeld => ?_)
        clear hK oc
        refine wpAnyH_ready (rs := [7]) (by kernel_rfl) (by simp) ?_
        refine AllReadyH.cons rfl (fun K hK => ?_) AllReadyH.nil
        go_simp
        go_wp2_with (go_at_call 93; ((with_reducible refine P.out.mono ?_)); rintro e w5 ⟨z, rfl, ze, zt, zw, hb5⟩)
        refine hK.out _ _ (keep5 (by assumption) hb5) (fun hHeld => ?_)
        clear hK P
        have HZ := mkHid (Mk.call HBQ.out SZ0 zt zw)
        have HZE := mkHid ze
        have HZO : Hid (TAw (w.heap.size + 1 + 1) z) := zw _ (World.block_lt_of_cell? _ _ HR.out.ob.1) (HQI.out.aw (by omega))
        have HZG : Hid (∀ g, v.ownBlock = some g → TAw g z) := fun g hg => zw g (HR.out.gl hg).1 (HQI.out.aw (HR.out.gl hg).2)
        replace HR := mkHid (HR.out.later hb5)
        clear ze zt zw
        unfold Tm.val
        refine wpAnyH_ready (rs := [8]) (by kernel_rfl) (by simp) ?_
        refine AllReadyH.cons rfl (fun K hK => ?_) AllReadyH.nil
        go_simp
        have b6 := bel_alloc w5 (.cells #[.int .i64 z.op, .string z.nm, .int .i64 z.n, .slice z.a z.ks.length z.c] 24)
        refine hK.out _ _ (keep5 (by assumption) b6) (fun hHeld => ?_)
        clear hK
        have N6 := mkHid (tm4_cells w5 z)
        have G6 : w.heap.size + 1 + 1 + 1 ≤ (w5.alloc (.cells #[.int .i64 z.op, .string z.nm, .int .i64 z.n, .slice z.a z.ks.length z.c] 24)).heap.size := by have := World.block_lt_of_cell? _ _ HR.out.ob.1; simp only at this; rw [World.size_alloc]; omega
        generalize w5.alloc (.cells #[.int .i64 z.op, .string z.nm, .int .i64 z.n, .slice z.a z.ks.length z.c] 24) = W6 at *
        replace HR := mkHid (HR.out.later b6)
        replace HZ := mkHid (HZ.out.later b6)
        refine wpAnyH_ready (rs := [9]) (by kernel_rfl) (by simp) ?_
        refine AllReadyH.cons rfl (fun K hK => ?_) AllReadyH.nil
        refine step_append_lies _ (by rfl) _ _ _ (by rfl) (w.heap.size + 1 + 1 + 1) 24 i0 _ 4 56 Tryd.underlying22 hi0 hz0 hz1 hz2 rfl (by omega) v l.length (l.flatMap tm4) (by rfl) HR.out.own ⟨w5.heap.size, 0, none⟩ 1 1 (tm4 z) (by rfl) rfl N6.out (tm4_one z) (by omega) (by unfold maxLen; omega) (by omega) G6 W6.heap.size rfl (fun g cap w7 ho7 hg7 hgg7 hlt7 => ?_)
        obtain ⟨s, hs, hB⟩ := HR.out.but hg7
        refine hK.out _ _ (keep5B (by assumption) hB (by show w.heap.size ≠ s; omega) (by show b ≠ s; omega) (by show b ≠ s; omega) (by show b ≠ s; omega) (by show b ≠ s; omega)) (fun hHeld => ?_)
        clear hK
        obtain ⟨-, -, -, e3, -, -, -, e7⟩ := HR.out.ob.but hB (by omega)
        have HN := mkHid (HR.out.step HZ.out HZO.out HZG.out ho7 hg7 hgg7)
        rw [hll] at HN
        have hB2 : But (w.heap.size + 1 + 1) w7 (w7.setCell ⟨w.heap.size + 1 + 1, 3, none⟩ (.slice (some ⟨g, 0, none⟩) (k + 1) cap)) := (But.refl _ _).set (p := ⟨w.heap.size + 1 + 1, 3, none⟩) (.inl rfl) _
        rw [hll]
        clear ho7 hg7 hgg7 hlt7
        refine wpAnyH_take (i := 10) (v := ?_) rfl (by kernel_rfl) (by kernel_rfl) (by kernel_rfl) (fun _ _ _ h => h) (Or.inl ⟨by kernel_rfl, ?_⟩) (by assumption) ?_
        rotate_left
        · (intro w hSw; (try dsimp only at hSw); go_simp; try with_reducible rfl)
        simp only [Act.put, List.getElem_toArray, List.getElem_cons_succ, List.getElem_cons_zero, List.setIfInBounds_toArray, List.set_cons_zero, List.set_cons_succ]
        refine wpAnyH_ready (rs := [11]) (by kernel_rfl) (by simp) ?_
        refine AllReadyH.cons rfl (fun K hK => ?_) AllReadyH.nil
        go_simp
        refine hK.out _ _ (keep5B (by assumption) hB2 (by show w.heap.size ≠ w.heap.size + 1 + 1; omega) (by show b ≠ w.heap.size + 1 + 1; omega) (by show b ≠ w.heap.size + 1 + 1; omega) (by show b ≠ w.heap.size + 1 + 1; omega) (by show b ≠ w.heap.size + 1 + 1; omega)) (fun hHeld => ?_)
        clear hK hHeld e3 e7
        refine wpAnyH_done (by kernel_rfl) ?_ _
        go_wp2
        go_roundw
        case rel => exact ⟨k + 1, _, l ++ [z], _, rfl, by omega, by omega, by simp [hll], HN.out, by rw [HTK.out, List.map_append, List.map_append, hl]; simp [HZE.out]⟩
        case measure => simp [intOf]; omega
      refine AllReadyH.cons rfl (fun K hK => ?_) AllReadyH.nil
      go_simp
      go_wp2_with (go_at_call 93; ((with_reducible refine P.out.mono ?_)); rintro e w5 ⟨z, rfl, ze, zt, zw, hb5⟩)
      refine hK.out _ _ (keep5 (by assumption) hb5) (fun hHeld => ?_)
      clear hK P
      have HZ := mkHid (Mk.call HBQ.out SZ0 zt zw)
      have HZE := mkHid ze
      have HZO : Hid (TAw (w.heap.size + 1 + 1) z) := zw _ (World.block_lt_of_cell? _ _ HR.out.ob.1) (HQI.out.aw (by omega))
      have HZG : Hid (∀ g, v.ownBlock = some g → TAw g z) := fun g hg => zw g (HR.out.gl hg).1 (HQI.out.aw (HR.out.gl hg).2)
      replace HR := mkHid (HR.out.later hb5)
      clear ze zt zw
      unfold Tm.val
      refine wpAnyH_ready (rs := [1, 8]) (by kernel_rfl) (by simp) ?_
      refine AllReadyH.cons rfl (fun K hK => ?_) ?_
      · have oc := HR.out.ob.2.2.2.1
        go_simp
        refine hK.out _ _ (by assumption) (fun hHeld => ?_)
        clear hK oc
        refine wpAnyH_ready (rs := [8]) (by kernel_rfl) (by simp) ?_
        refine AllReadyH.cons rfl (fun K hK => ?_) AllReadyH.nil
        go_simp
        have b6 := bel_alloc w5 (.cells #[.int .i64 z.op, .string z.nm, .int .i64 z.n, .slice z.a z.ks.length z.c] 24)
        refine hK.out _ _ (keep5 (by assumption) b6) (fun hHeld => ?_)
        clear hK
        have N6 := mkHid (tm4_cells w5 z)
        have G6 : w.heap.size + 1 + 1 + 1 ≤ (w5.alloc (.cells #[.int .i64 z.op, .string z.nm, .int .i64 z.n, .slice z.a z.ks.length z.c] 24)).heap.size := by have := World.block_lt_of_cell? _ _ HR.out.ob.1; simp only at this; rw [World.size_alloc]; omega
        generalize w5.alloc (.cells #[.int .i64 z.op, .string z.nm, .int .i64 z.n, .slice z.a z.ks.length z.c] 24) = W6 at *
        replace HR := mkHid (HR.out.later b6)
        replace HZ := mkHid (HZ.out.later b6)
        refine wpAnyH_ready (rs := [9]) (by kernel_rfl) (by simp) ?_
        refine AllReadyH.cons rfl (fun K hK => ?_) AllReadyH.nil
        refine step_append_lies _ (by rfl) _ _ _ (by rfl) (w.heap.size + 1 + 1 + 1) 24 i0 _ 4 56 Tryd.underlying22 hi0 hz0 hz1 hz2 rfl (by omega) v l.length (l.flatMap tm4) (by rfl) HR.out.own ⟨w5.heap.size, 0, none⟩ 1 1 (tm4 z) (by rfl) rfl N6.out (tm4_one z) (by omega) (by unfold maxLen; omega) (by omega) G6 W6.heap.size rfl (fun g cap w7 ho7 hg7 hgg7 hlt7 => ?_)
        obtain ⟨s, hs, hB⟩ := HR.out.but hg7
        refine hK.out _ _ (keep5B (by assumption) hB (by show w.heap.size ≠ s; omega) (by show b ≠ s; omega) (by show b ≠ s; omega) (by show b ≠ s; omega) (by show b ≠ s; omega)) (fun hHeld => ?_)
        clear hK
        obtain ⟨-, -, -, e3, -, -, -, e7⟩ := HR.out.ob.but hB (by omega)
        have HN := mkHid (HR.out.step HZ.out HZO.out HZG.out ho7 hg7 hgg7)
        rw [hll] at HN
        have hB2 : But (w.heap.size + 1 + 1) w7 (w7.setCell ⟨w.heap.size + 1 + 1, 3, none⟩ (.slice (some ⟨g, 0, none⟩) (k + 1) cap)) := (But.refl _ _).set (p := ⟨w.heap.size + 1 + 1, 3, none⟩) (.inl rfl) _
        rw [hll]
        clear ho7 hg7 hgg7 hlt7
        refine wpAnyH_take (i := 10) (v := ?_) rfl (by kernel_rfl) (by kernel_rfl) (by kernel_rfl) (fun _ _ _ h => h) (Or.inl ⟨by kernel_rfl, ?_⟩) (by assumption) ?_
        rotate_left
        · (intro w hSw; (try dsimp only at hSw); go_simp; try with_reducible rfl)
        simp only [Act.put, List.getElem_toArray, List.getElem_cons_succ, List.getElem_cons_zero, List.setIfInBounds_toArray, List.set_cons_zero, List.set_cons_succ]
        refine wpAnyH_ready (rs := [11]) (by kernel_rfl) (by simp) ?_
        refine AllReadyH.cons rfl (fun K hK => ?_) AllReadyH.nil
        go_simp
        refine hK.out _ _ (keep5B (by assumption) hB2 (by show w.heap.size ≠ w.heap.size + 1 + 1; omega) (by show b ≠ w.heap.size + 1 + 1; omega) (by show b ≠ w.heap.size + 1 + 1; omega) (by show b ≠ w.heap.size + 1 + 1; omega) (by show b ≠ w.heap.size + 1 + 1; omega)) (fun hHeld => ?_)
        clear hK hHeld e3 e7
        refine wpAnyH_done (by kernel_rfl) ?_ _
        go_wp2
        go_roundw
        case rel => exact ⟨k + 1, _, l ++ [z], _, rfl, by omega, by omega, by simp [hll], HN.out, by rw [HTK.out, List.map_append, List.map_append, hl]; simp [HZE.out]⟩
        case measure => simp [intOf]; omega
      refine AllReadyH.cons rfl (fun K hK => ?_) AllReadyH.nil
      go_simp
      have b6 := bel_alloc w5 (.cells #[.int .i64 z.op, .string z.nm, .int .i64 z.n, .slice z.a z.ks.length z.c] 24)
      refine hK.out _ _ (keep5 (by assumption) b6) (fun hHeld => ?_)
      clear hK
      have N6 := mkHid (tm4_cells w5 z)
      have G6 : w.heap.size + 1 + 1 + 1 ≤ (w5.alloc (.cells #[.int .i64 z.op, .string z.nm, .int .i64 z.n, .slice z.a z.ks.length z.c] 24)).heap.size := by have := World.block_lt_of_cell? _ _ HR.out.ob.1; simp only at this; rw [World.size_alloc]; omega
      generalize w5.alloc (.cells #[.int .i64 z.op, .string z.nm, .int .i64 z.n, .slice z.a z.ks.length z.c] 24) = W6 at *
      replace HR := mkHid (HR.out.later b6)
      replace HZ := mkHid (HZ.out.later b6)
      refine wpAnyH_ready (rs := [1]) (by kernel_rfl) (by simp) ?_
      refine AllReadyH.cons rfl (fun K hK => ?_) AllReadyH.nil
      have oc := HR.out.ob.2.2.2.1
      go_simp
      refine hK.out _ _ (by assumption) (fun hHeld => ?_)
      clear hK oc
      refine wpAnyH_ready (rs := [9]) (by kernel_rfl) (by simp) ?_
      refine AllReadyH.cons rfl (fun K hK => ?_) AllReadyH.nil
      refine step_append_lies _ (by rfl) _ _ _ (by rfl) (w.heap.size + 1 + 1 + 1) 24 i0 _ 4 56 Tryd.underlying22 hi0 hz0 hz1 hz2 rfl (by omega) v l.length (l.flatMap tm4) (by rfl) HR.out.own ⟨w5.heap.size, 0, none⟩ 1 1 (tm4 z) (by rfl) rfl N6.out (tm4_one z) (by omega) (by unfold maxLen; omega) (by omega) G6 W6.heap.size rfl (fun g cap w7 ho7 hg7 hgg7 hlt7 => ?_)
      obtain ⟨s, hs, hB⟩ := HR.out.but hg7
      refine hK.out _ _ (keep5B (by assumption) hB (by show w.heap.size ≠ s; omega) (by show b ≠ s; omega) (by show b ≠ s; omega) (by show b ≠ s; omega) (by show b ≠ s; omega)) (fun hHeld => ?_)
      clear hK
      obtain ⟨-, -, -, e3, -, -, -, e7⟩ := HR.out.ob.but hB (by omega)
      have HN := mkHid (HR.out.step HZ.out HZO.out HZG.out ho7 hg7 hgg7)
      rw [hll] at HN
      have hB2 : But (w.heap.size + 1 + 1) w7 (w7.setCell ⟨w.heap.size + 1 + 1, 3, none⟩ (.slice (some ⟨g, 0, none⟩) (k + 1) cap)) := (But.refl _ _).set (p := ⟨w.heap.size + 1 + 1, 3, none⟩) (.inl rfl) _
      rw [hll]
      clear ho7 hg7 hgg7 hlt7
      refine wpAnyH_take (i := 10) (v := ?_) rfl (by kernel_rfl) (by kernel_rfl) (by kernel_rfl) (fun _ _ _ h => h) (Or.inl ⟨by kernel_rfl, ?_⟩) (by assumption) ?_
      rotate_left
      · (intro w hSw; (try dsimp only at hSw); go_simp; try with_reducible rfl)
      simp only [Act.put, List.getElem_toArray, List.getElem_cons_succ, List.getElem_cons_zero, List.setIfInBounds_toArray, List.set_cons_zero, List.set_cons_succ]
      refine wpAnyH_ready (rs := [11]) (by kernel_rfl) (by simp) ?_
      refine AllReadyH.cons rfl (fun K hK => ?_) AllReadyH.nil
      go_simp
      refine hK.out _ _ (keep5B (by assumption) hB2 (by show w.heap.size ≠ w.heap.size + 1 + 1; omega) (by show b ≠ w.heap.size + 1 + 1; omega) (by show b ≠ w.heap.size + 1 + 1; omega) (by show b ≠ w.heap.size + 1 + 1; omega) (by show b ≠ w.heap.size + 1 + 1; omega)) (fun hHeld => ?_)
      clear hK hHeld e3 e7
      refine wpAnyH_done (by kernel_rfl) ?_ _
      go_wp2
      go_roundw
      case rel => exact ⟨k + 1, _, l ++ [z], _, rfl, by omega, by omega, by simp [hll], HN.out, by rw [HTK.out, List.map_append, List.map_append, hl]; simp [HZE.out]⟩
      case measure => simp [intOf]; omega
    · obtain rfl : k = m := by omega
      have hkk : ks.take k = ks := List.take_of_length_le (by rw [HM.out]; omega)
      rw [hkk] at hl
      obtain ⟨A0, c0, rfl⟩ : ∃ A c, v = .slice A k c := by
        obtain ⟨A, c, e⟩ := own_slice HR.out.own
        exact ⟨A, c, by rw [e, hll]⟩
      obtain ⟨o0, o1, o2, o3, -⟩ := HR.out.ob
      obtain ⟨m0, m1, m2, m3, f0, f1, f2, f3⟩ := HR.out.fr
      have MR : Mk w (.node 20 nm n a c ks) wr (.node 19 ⟨#[]⟩ 0 A0 c0 l) := UpR.mk_row HR.out (by decide) hll.symm
      have FI := Mk.fin (F := F) MR HR.out.bel (by rw [HFT.out, er_eq]; exact congrArg (mkT 19) hl)
      simp only [Tm.val, Tm.op, Tm.nm, Tm.n, Tm.a, Tm.ks, Tm.c, hll] at FI
      have HFI := mkHid FI
      clear FI MR hl
      go_wp2
      exact bodyPost_ret (v := .agg #[.int .i64 19, .string ⟨#[]⟩, .int .i64 0, .slice A0 k c0]) (by simp [results, Tryd.results93, go_sem, m0, m1, m2, m3]) rfl HFI.out
end Go.Proofs.YtlobffjgkhcjbaaDoor
