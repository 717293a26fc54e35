/-
  What EvalSorts does: it returns true, whatever the term and the world are.
-/
import Derived.Test.YtimnfkdokjdplaaDoorEvN
import Derived.Test.YtimnfkdokjdplaaDoorEvP
import Derived.Test.YtimnfkdokjdplaaDoorTermNames
import Derived.BigRegion
import Derived.Deep.RegionHeld2
import Derived.Deep.DeepCutAuto
import Derived.Deep.CutBlock
namespace Go.Proofs.YtimnfkdokjdplaaDoor
open Go.RowKit Go.Shelf

/-- what lies in memory while EvalSorts runs -/
structure SS (X : Nat) (t : Tm) (W : Wd) (w : World) : Prop where
  bt : Four w X 0 t
  bw : TwoW w (X + 1) W
  tin : TIn w w.heap.size t
  win : WIn w w.heap.size W
  s : Shps w
theorem SS.later {X : Nat} {t : Tm} {W : Wd} {w w' : World} (h : SS X t W w) (hb : Below w.heap.size w w') : SS X t W w' := ⟨h.bt.later hb, h.bw.later hb, h.tin.later hb, h.win.later hb, h.s.later hb⟩
theorem SS.start {t : Tm} {W : Wd} {w : World} (ht : TIn w w.heap.size t) (hW : WIn w w.heap.size W) (hS : Shps w) : SS w.heap.size t W ((w.alloc (boxT t)).alloc (boxW W)) := by
  have hb : Below w.heap.size w ((w.alloc (boxT t)).alloc (boxW W)) := bal (bal (Below.refl _ _) _) _
  refine ⟨(box_four w t).later (bel_alloc _ _), ?_, ht.later hb, hW.later hb, hS.later hb⟩
  have := boxW_two (w.alloc (boxT t)) W
  simpa using this

set_option maxRecDepth 100000 in
set_option maxHeartbeats 4000000 in
theorem sorts_bad (t : Tm) (W : Wd) (w : World) (ht : TIn w w.heap.size t) (hW : WIn w w.heap.size W) (hS : Shps w) (he : errR t ≠ 0) :
    Calls Tryd.prog 9 #[t.val, W.val] w (RetB true w) := by
  have S0 := SS.start ht hW hS
  have B0 : Below w.heap.size w ((w.alloc (boxT t)).alloc (boxW W)) := bal (bal (Below.refl _ _) _) _
  have hne : ((errR t : Int) != 0) = true := by rw [bne_iff_ne]; omega
  have heq : ((errR t : Int) == 0) = false := by rw [beq_eq_false_iff_ne]; omega
  have SC := mkHid (shownE _ S0.s)
  have ST := mkHid (fun w' (h : SS w.heap.size t W w') => sort_any t w' h.tin h.s)
  have EV := mkHid (fun w' (h : SS w.heap.size t W w') => eval_bad W t w' h.win h.tin h.s he)
  generalize errR t = er at *
  generalize srtR t = sr at *
  have hW2 : (w.alloc (.cells #[.int .i64 t.op, .string t.nm, .int .i64 t.n, .slice t.a t.ks.length t.c] 24)).alloc (.cells #[.int .i64 W.nodes, .slice W.a W.l.length W.c] 43) = (w.alloc (boxT t)).alloc (boxW W) := rfl
  generalize (w.alloc (boxT t)).alloc (boxW W) = W2 at *
  unfold Tm.val at ST EV ⊢
  unfold Wd.val at EV ⊢
  clear he ht hW hS
  go_enter Tryd.func9, Tryd.ntmps9
  go_wp2_with fail
  ((with_reducible refine SC.out.mono ?_)); rintro e w3 ⟨rfl, hb3⟩
  clear SC hW2
  have S3 := S0.later hb3
  have B3 := bon B0 hb3
  obtain ⟨u0, u1, u2, u3⟩ := S3.bt
  simp only [Nat.zero_add] at u1 u2 u3
  go_wp2_with fail
  ((with_reducible refine (ST.out _ S3).mono ?_)); rintro e w4 ⟨rfl, hb4⟩
  have S4 := S3.later hb4
  have B4 := bon B3 hb4
  clear u0 u1 u2 u3 S3 ST
  obtain ⟨u0, u1, u2, u3⟩ := S4.bt
  obtain ⟨p0, p1⟩ := S4.bw
  simp only [Nat.zero_add] at u1 u2 u3
  go_wp2_with fail
  ((with_reducible refine (EV.out _ S4).mono ?_)); rintro e w5 ⟨rfl, hb5⟩
  unfold zeroV
  have B5 := bon B4 hb5
  clear u0 u1 u2 u3 p0 p1 EV
  go_wp2
  go_ret
  exact ⟨rfl, bal B5 _⟩
set_option maxRecDepth 100000 in
set_option maxHeartbeats 4000000 in
theorem sorts_wrong (t : Tm) (W : Wd) (w : World) (ht : TIn w w.heap.size t) (hW : WIn w w.heap.size W) (hS : Shps w) (he : errR t = 0) (hr : rightB W = false) :
    Calls Tryd.prog 9 #[t.val, W.val] w (RetB true w) := by
  have S0 := SS.start ht hW hS
  have B0 : Below w.heap.size w ((w.alloc (boxT t)).alloc (boxW W)) := bal (bal (Below.refl _ _) _) _
  have SC := mkHid (shownE _ S0.s)
  have ST := mkHid (fun w' (h : SS w.heap.size t W w') => sort_any t w' h.tin h.s)
  have RT := mkHid (fun w' (h : SS w.heap.size t W w') => right_any W w' h.win)
  have EV := mkHid (fun w' (h : SS w.heap.size t W w') => eval_wrong W t w' h.win h.tin h.s he hr)
  rw [he] at ST
  rw [hr] at RT
  generalize srtR t = sr at *
  have hW2 : (w.alloc (.cells #[.int .i64 t.op, .string t.nm, .int .i64 t.n, .slice t.a t.ks.length t.c] 24)).alloc (.cells #[.int .i64 W.nodes, .slice W.a W.l.length W.c] 43) = (w.alloc (boxT t)).alloc (boxW W) := rfl
  generalize (w.alloc (boxT t)).alloc (boxW W) = W2 at *
  unfold Tm.val at ST EV ⊢
  unfold Wd.val at EV RT ⊢
  clear he ht hW hS hr
  go_enter Tryd.func9, Tryd.ntmps9
  go_wp2_with fail
  ((with_reducible refine SC.out.mono ?_)); rintro e w3 ⟨rfl, hb3⟩
  clear SC hW2
  have S3 := S0.later hb3
  have B3 := bon B0 hb3
  obtain ⟨u0, u1, u2, u3⟩ := S3.bt
  simp only [Nat.zero_add] at u1 u2 u3
  go_wp2_with fail
  ((with_reducible refine (ST.out _ S3).mono ?_)); rintro e w4 ⟨rfl, hb4⟩
  have S4 := S3.later hb4
  have B4 := bon B3 hb4
  clear u0 u1 u2 u3 S3 ST
  obtain ⟨p0, p1⟩ := S4.bw
  go_wp2_with fail
  ((with_reducible refine (RT.out _ S4).mono ?_)); rintro e w5 ⟨rfl, hb5⟩
  have S5 := S4.later hb5
  have B5 := bon B4 hb5
  clear p0 p1 S4 RT
  obtain ⟨u0, u1, u2, u3⟩ := S5.bt
  obtain ⟨p0, p1⟩ := S5.bw
  simp only [Nat.zero_add] at u1 u2 u3
  go_wp2_with fail
  ((with_reducible refine (EV.out _ S5).mono ?_)); rintro e w6 ⟨rfl, hb6⟩
  unfold zeroV
  have B6 := bon B5 hb6
  clear u0 u1 u2 u3 p0 p1 EV
  go_wp2
  go_ret
  exact ⟨rfl, bal B6 _⟩
theorem three_keep {w w' : World} {p q r : Addr} {x y z : Value} (h : w.cell? p = some x ∧ w.cell? q = some y ∧ w.cell? r = some z) (hb : Below w.heap.size w w') : w'.cell? p = some x ∧ w'.cell? q = some y ∧ w'.cell? r = some z := ⟨cell_later hb h.1, cell_later hb h.2.1, cell_later hb h.2.2⟩
theorem three_set {w : World} {A B i j l : Nat} {x y z : Value} {p : Addr} (h : w.cell? ⟨A, i, none⟩ = some x ∧ w.cell? ⟨A, j, none⟩ = some y ∧ w.cell? ⟨B, l, none⟩ = some z) (hA : A ≠ p.block) (hB : B ≠ p.block) (u : Value) : (w.setCell p u).cell? ⟨A, i, none⟩ = some x ∧ (w.setCell p u).cell? ⟨A, j, none⟩ = some y ∧ (w.setCell p u).cell? ⟨B, l, none⟩ = some z := by
  have e : ∀ C o, C ≠ p.block → (w.setCell p u).cell? ⟨C, o, none⟩ = w.cell? ⟨C, o, none⟩ := fun C o hne => World.cell?_of_block (w := w) (Below.heap_setCell w p u C hne)
  rw [e _ _ hA, e _ _ hA, e _ _ hB]; exact h
theorem leaf_srt {x : Nm} (h1 : nameB x.1 = true) (h2 : 1 ≤ x.2) (h3 : x.2 ≤ 28) (h4 : nameRow x.2.toNat = true) : srtR (leaf x) = (shRow x.2.toNat).sort := by
  have e0 := leaf_err h1 h2 h3 h4
  obtain ⟨-, -, -, hsr⟩ := errR_zero e0
  rw [hsr]
  obtain ⟨r1, r2, r3⟩ := name_rows x.2.toNat (by omega) h4
  rw [srt_eq]
  show sortOf x.2 x.1 0 [] = _
  unfold sortOf
  rw [if_pos ⟨h2, h3⟩]
  have n1 : namedB (shRow x.2.toNat) x.1 = true := by
    unfold namedB; rw [show (shRow x.2.toNat).name = true from h4]; exact h1
  have n2 : holdsB (shRow x.2.toNat) [] = true := by simp [holdsB, r1, r2]
  rw [n1, n2]; simp
theorem look_len {W : Wd} {nm : ByteArray} {s : Int} {v : Vl} (hR : Rt W) (h : look W nm s = some v) : v.s.length ≤ 64 := by
  obtain ⟨-, h2, -⟩ := look_hold hR h
  have hi := hR.hi
  unfold holdsV at h2
  split at h2
  · simp at h2; rw [h2.2]; simp
  · split at h2
    · simp at h2; omega
    · split at h2
      · simp at h2; rw [h2.2]; simp
      · split at h2
        · simp at h2; rw [h2.2]; simp
        · cases h2
/-- the second answer of Get, whatever the first one is -/
def GetB (b : Bool) (w : World) (e : Ending) (w' : World) : Prop := ∃ (so nn : Int) (bb : Bool) (a : Option Addr) (n c : Nat), e = .returned (.tuple #[.agg #[.int .i64 so, .int .i64 nn, .bool bb, .slice a n c], .bool b]) ∧ Below w.heap.size w w'
theorem get_b (W : Wd) (nm : ByteArray) (s : Int) (w : World) (hin : WIn w w.heap.size W) (hR : Rt W) : Calls Tryd.prog 31 #[W.val, .string nm, .int .i64 s] w (GetB (look W nm s).isSome w) := by
  cases h : look W nm s with
  | none => exact (get_none W nm s w hin h).mono fun e w' ⟨he, hb⟩ => ⟨0, 0, false, none, 0, 0, he, hb⟩
  | some v => exact (get_some W nm s v w hin h (by have := look_len hR h; omega)).mono fun e w' ⟨a, c, he, _, hb⟩ => ⟨v.sort, v.n, v.b, a, v.s.length, c, he, hb⟩
theorem all_take (p : Nm → Bool) (L : List Nm) (k : Nat) (h : k < L.length) : (L.take (k + 1)).all p = ((L.take k).all p && p (L.getD k noNm)) := by
  rw [List.take_succ_eq_append_getElem h, List.all_append]
  simp [List.getD, h]

set_option maxRecDepth 100000 in
set_option maxHeartbeats 8000000 in
theorem sorts_core (t : Tm) (W : Wd) (w : World) (ht : TIn w w.heap.size t) (hW : WIn w w.heap.size W) (hS : Shps w) (he : errR t = 0) (hr : rightB W = true)
    (so nn : Int) (bb : Bool) (ln : Nat) (k : Int)
    (EVv : ∀ w' : World, SS w.heap.size t W w' → Calls Tryd.prog 33 #[t.val, W.val] w' fun e w'' => ∃ aa cc, e = .returned (.tuple #[.agg #[.int .i64 so, .int .i64 nn, .bool bb, .slice aa ln cc], .int .i64 k]) ∧ Below w'.heap.size w' w'')
    (TH : Bool) (hTH : ∀ L : List Nm, NamesOf t L → L.all (thereB W) = TH)
    (hfin : (k = 5 ∧ so = 0) ∨ (k = 4 ∧ so = 0 ∧ TH = false) ∨ (k = 0 ∧ TH = true ∧ so = (t.srt : Int) ∧ (t.srt = 2 → (ln : Int) = W.nodes) ∧ (t.srt = 3 → 0 ≤ nn ∧ nn < W.nodes))) :
    Calls Tryd.prog 9 #[t.val, W.val] w (RetB true w) := by
  have S0 := SS.start ht hW hS
  have B0 : Below w.heap.size w ((w.alloc (boxT t)).alloc (boxW W)) := bal (bal (Below.refl _ _) _) _
  have hR := right_rt hr hW
  obtain ⟨-, -, hs, hsr⟩ := errR_zero he
  have hs4 := srt_le t
  have SC := mkHid (shownE _ S0.s)
  have ST := mkHid (fun w' (h : SS w.heap.size t W w') => sort_any t w' h.tin h.s)
  have RT := mkHid (fun w' (h : SS w.heap.size t W w') => right_any W w' h.win)
  have NA := mkHid (fun w' (h : SS w.heap.size t W w') => names_any t w' h.tin h.s he)
  have GB := mkHid (fun nm s w' (h : SS w.heap.size t W w') => get_b W nm s w' h.win hR)
  have EV := mkHid EVv
  have HTH := mkHid hTH
  have HFIN := mkHid hfin
  have OK := mkHid (vars_ok hs)
  rw [he, hsr] at ST
  rw [hr] at RT
  have hW2 : (w.alloc (.cells #[.int .i64 t.op, .string t.nm, .int .i64 t.n, .slice t.a t.ks.length t.c] 24)).alloc (.cells #[.int .i64 W.nodes, .slice W.a W.l.length W.c] 43) = (w.alloc (boxT t)).alloc (boxW W) := rfl
  generalize (w.alloc (boxT t)).alloc (boxW W) = W2 at *
  unfold Tm.val at ST EV NA ⊢
  unfold Wd.val at EV RT GB ⊢
  clear he ht hW hS hr EVv hTH hfin hsr hR
  go_enter Tryd.func9, Tryd.ntmps9
  go_wp2_with fail
  ((with_reducible refine SC.out.mono ?_)); rintro e w3 ⟨rfl, hb3⟩
  clear SC hW2
  have S3 := S0.later hb3
  have B3 := bon B0 hb3
  obtain ⟨u0, u1, u2, u3⟩ := S3.bt
  simp only [Nat.zero_add] at u1 u2 u3
  go_wp2_with fail
  ((with_reducible refine (ST.out _ S3).mono ?_)); rintro e w4 ⟨rfl, hb4⟩
  have S4 := S3.later hb4
  have B4 := bon B3 hb4
  clear u0 u1 u2 u3 S3 ST S0
  obtain ⟨p0, p1⟩ := S4.bw
  go_wp2_with fail
  ((with_reducible refine (RT.out _ S4).mono ?_)); rintro e w5 ⟨rfl, hb5⟩
  have S5 := S4.later hb5
  have B5 := bon B4 hb5
  clear p0 p1 S4 RT
  obtain ⟨u0, u1, u2, u3⟩ := S5.bt
  obtain ⟨p0, p1⟩ := S5.bw
  simp only [Nat.zero_add] at u1 u2 u3
  go_wp2_with fail
  ((with_reducible refine (EV.out _ S5).mono ?_)); rintro e w6 ⟨aa, cc, rfl, hb6⟩
  clear u0 u1 u2 u3 p0 p1 EV
  have b7 := bon hb6 (bel_alloc w6 (.cells #[.int .i64 so, .int .i64 nn, .bool bb, .slice aa ln cc] 46))
  have S7 := S5.later b7
  have B7 := bon B5 b7
  have F7 : FourV (w6.alloc (.cells #[.int .i64 so, .int .i64 nn, .bool bb, .slice aa ln cc] 46)) w6.heap.size (.int .i64 so) (.int .i64 nn) (.bool bb) (.slice aa ln cc) := by simp [FourV, go_sem]
  clear S5 b7
  obtain ⟨u0, u1, u2, u3⟩ := S7.bt
  simp only [Nat.zero_add] at u1 u2 u3
  generalize hW7 : w6.alloc (.cells #[.int .i64 so, .int .i64 nn, .bool bb, .slice aa ln cc] 46) = W7 at *
  go_wp2_with fail
  ((with_reducible refine (NA.out _ S7).mono ?_)); rintro e w8 ⟨⟨L, v, rfl, own, nof⟩, hb8⟩
  clear u0 u1 u2 u3 NA hW7
  have S8 := S7.later hb8
  have B8 := bon B7 hb8
  have F8 := F7.later hb8
  have ALL := mkHid (HTH.out L nof)
  clear S7 F7 HTH
  obtain ⟨A, c, rfl⟩ := own_slice own
  have HOWN := mkHid own
  have HNF := mkHid nof
  have hlen : L.length ≤ 9223372036854775807 := by
    rcases own.2 with ⟨-, h0⟩ | ⟨g, cap, cur, -, -, -, hc, hm, -⟩
    · omega
    · unfold maxLen at hm; omega
  clear own nof
  generalize hn' : L.length = n at *
  have HN := mkHid hn'
  clear hn'
  go_wp2
  go_loopw [13, 14] (fun b i w' => ∃ (k : Nat) (x : Int), i = .int .i64 x ∧ x = k ∧ k ≤ n ∧ b = .bool ((L.take k).all (thereB W)) ∧ Below w8.heap.size w8 w') (fun _ i _ => (n - intOf i).toNat)
  case atStart => exact ⟨0, 0, rfl, rfl, Nat.zero_le _, rfl, Below.refl _ _⟩
  case round =>
    obtain ⟨k', x, rfl, hxk, hk, rfl, hb⟩ := hrel
    obtain rfl : x = (k' : Int) := hxk
    have SR := S8.later hb
    by_cases hlt : k' < n
    · have own := own_later HOWN.out hb
      obtain ⟨g, c', e⟩ := own_some own (by omega)
      simp only [Value.slice.injEq, true_and] at e
      obtain ⟨rfl, rfl⟩ := e
      have p5 := own_five own HN.out k' hlt
      have hmem : L.getD k' noNm ∈ t.vars := (HNF.out.2 _).1 ((mem_getD L _).2 ⟨k', by rw [HN.out]; exact hlt, rfl⟩)
      obtain ⟨o1, o2, o3, o4⟩ := OK.out _ hmem
      have CS := mkHid (fun w h => sort_any (leaf (L.getD k' noNm)) w (leaf_in o1 o2 o3) h)
      rw [leaf_err o1 o2 o3 o4, leaf_srt o1 o2 o3 o4] at CS
      have HT : Hid (thereB W (L.getD k' noNm) = (look W (L.getD k' noNm).1 ((shRow (L.getD k' noNm).2.toNat).sort : Int)).isSome) := rfl
      have HA := mkHid (all_take (thereB W) L k' (by rw [HN.out]; exact hlt))
      have G1 := mkHid (fun w' (h : SS w.heap.size t W w') => GB.out (L.getD k' noNm).1 ((shRow (L.getD k' noNm).2.toNat).sort : Int) w' h)
      rw [← HT.out] at G1
      clear hmem OK GB o1 o4 HT own
      generalize thereB W (L.getD k' noNm) = th at *
      generalize (L.take k').all (thereB W) = al at *
      generalize (shRow (L.getD k' noNm).2.toNat).sort = ls at *
      generalize L.getD k' noNm = cur at *
      obtain ⟨cn, co⟩ := cur
      unfold Tm.val at CS
      simp only [leaf, Tm.op, Tm.nm, Tm.n, Tm.a, Tm.ks, Tm.c, List.length_nil] at CS G1 o2 o3
      have P5 := mkHid p5
      obtain ⟨y0, y1, y2, y3, y4⟩ := p5
      simp only at y0 y1 y2 y3 y4
      go_wp2_with fail
      ((with_reducible refine (CS.out _ SR.s).mono ?_)); rintro e w9 ⟨rfl, hb9⟩
      have S9 := SR.later hb9
      have B9 := bon hb hb9
      have y9 := cell_later hb9 y0
      clear y0 y1 y2 y3 y4 CS SR
      obtain ⟨p0, p1⟩ := S9.bw
      have p0d : w9.drew.cell? ⟨w.heap.size + 1, 0, none⟩ = some (.int .i64 W.nodes) := p0
      have p1d : w9.drew.cell? ⟨w.heap.size + 1, 1, none⟩ = some (.slice W.a W.l.length W.c) := p1
      have y9d : w9.drew.cell? ⟨g, k' * 5, none⟩ = some (.string cn) := y9
      have hA9 : w.heap.size + 1 ≠ w9.heap.size := by have := World.block_lt_of_cell? _ _ p0; simp only at this; omega
      have hB9 : g ≠ w9.heap.size := by have := World.block_lt_of_cell? _ _ y9; simp only at this; omega
      have PGz := mkHid (G1.out (w9.alloc (.cells #[.int .i64 0, .int .i64 0, .bool false, .slice none 0 0] 46)).drew (S9.later (bdrew (bal (Below.refl _ _) _))))
      have PGd := mkHid (G1.out w9.drew (S9.later (bdrew (Below.refl _ _))))
      have FZ : FourV (w9.alloc (.cells #[.int .i64 0, .int .i64 0, .bool false, .slice none 0 0] 46)).drew w9.heap.size (.int .i64 0) (.int .i64 0) (.bool false) (.slice none 0 0) := by simp [FourV, go_sem]
      clear G1
      go_wp2_with fail
      go_cut [18] (fun s wx => s = .bool th ∧ Below w9.heap.size w9 wx)
      case first =>
        go_region_held2 (fun w' => w'.cell? ⟨w.heap.size + 1, 0, none⟩ = some (.int .i64 W.nodes) ∧ w'.cell? ⟨w.heap.size + 1, 1, none⟩ = some (.slice W.a W.l.length W.c) ∧ w'.cell? ⟨g, k' * 5, none⟩ = some (.string cn))
          (first | exact ⟨p0d, p1d, y9d⟩ | assumption | exact three_keep (by assumption) hb10 | exact three_keep ⟨p0d, p1d, y9d⟩ (bel_alloc _ _) | exact three_keep (three_keep ⟨p0d, p1d, y9d⟩ hb10) (bel_alloc _ _) | exact three_set (three_set (three_set (three_set (by assumption) hA9 hB9 _) hA9 hB9 _) hA9 hB9 _) hA9 hB9 _)
          (first
            | (go_at_call 31; ((with_reducible refine PGz.out.mono ?_)); rintro e w10 ⟨s10, n10, b10, a10, l10, c10, rfl, hb10⟩; obtain ⟨z0, z1, z2, z3, z4, z5, z6, z7⟩ := FourV.later FZ hb10)
            | (go_at_call 31; ((with_reducible refine PGd.out.mono ?_)); rintro e w10 ⟨s10, n10, b10, a10, l10, c10, rfl, hb10⟩))
        all_goals
          go_wp2_with fail
          go_meet
          first
            | exact ⟨rfl, bset (bset (bset (bset (bon (bdrew (bal (Below.refl _ _) _)) hb10) (Nat.le_refl _) _) (Nat.le_refl _) _) (Nat.le_refl _) _) (Nat.le_refl _) _⟩
            | exact ⟨rfl, bal (bon (bdrew (Below.refl _ _)) hb10) _⟩
      case rest =>
        obtain ⟨rfl, b11⟩ := hcut
        have B11 := bon B9 b11
        clear p0 p1 y9 p0d p1d y9d PGz PGd FZ b11
        cases al
        all_goals
          go_wp2
          go_roundw
          case rel => exact ⟨k' + 1, _, rfl, by omega, by omega, by rw [HA.out]; rfl, B11⟩
          case measure => simp [intOf]; omega
    · obtain rfl : k' = n := by omega
      have hall : Hid ((L.take k').all (thereB W) = TH) := by
        show _ = _
        rw [List.take_of_length_le (by rw [HN.out]; omega)]; exact ALL.out
      have BR := bon B8 hb
      obtain ⟨p0, p1⟩ := SR.bw
      obtain ⟨f0, f1, f2, f3, -⟩ := F8.later hb
      rw [hall.out]
      clear hall ALL HOWN HNF HN OK GB
      rcases HFIN.out with ⟨rfl, rfl⟩ | ⟨rfl, rfl, rfl⟩ | ⟨rfl, rfl, rfl, q2, q3⟩
      · clear HFIN
        go_wp2
        go_ret
        exact ⟨rfl, BR⟩
      · clear HFIN
        go_wp2
        go_ret
        exact ⟨rfl, BR⟩
      · clear HFIN
        generalize t.srt = sr at *
        rcases (show sr = 1 ∨ sr = 2 ∨ sr = 3 ∨ sr = 4 by omega) with rfl | rfl | rfl | rfl
        · go_wp2
          go_ret
          exact ⟨rfl, BR⟩
        · have d1 : ((ln : Int) == W.nodes) = true := by rw [beq_iff_eq]; exact q2 rfl
          clear q2 q3
          go_wp2
          go_ret
          exact ⟨rfl, BR⟩
        · have d1 : decide (0 ≤ nn) = true := decide_eq_true (q3 rfl).1
          have d2 : decide (nn < W.nodes) = true := decide_eq_true (q3 rfl).2
          clear q2 q3
          go_wp2
          go_ret
          exact ⟨rfl, BR⟩
        · clear q2 q3
          go_wp2
          go_ret
          exact ⟨rfl, BR⟩

theorem ty_facts {W : Wd} {s : Nat} {v : Vv} (h : Ty W s v) : v.sort = (s : Int) ∧ (s = 2 → v.l.length = W.nodes.toNat) ∧ (s = 3 → 0 ≤ v.n ∧ v.n < W.nodes) ∧ v.l.length ≤ W.nodes.toNat := by
  unfold Ty at h
  split at h
  · exact ⟨rfl, fun h => by omega, fun h => by omega, Nat.zero_le _⟩
  · exact ⟨rfl, fun _ => h, fun h => by omega, Nat.le_of_eq h⟩
  · exact ⟨rfl, fun h => by omega, fun _ => h, Nat.zero_le _⟩
  · exact ⟨rfl, fun h => by omega, fun h => by omega, Nat.zero_le _⟩
  · exact absurd h id
theorem lsorts_any (t : Tm) (W : Wd) (w : World) (ht : TIn w w.heap.size t) (hW : WIn w w.heap.size W) (hS : Shps w) :
    Calls Tryd.prog 9 #[t.val, W.val] w (RetB true w) := by
  by_cases he : errR t = 0
  · cases hr : rightB W
    · exact sorts_wrong t W w ht hW hS he hr
    · have hR := right_rt hr hW
      obtain ⟨hz, -, hs, -⟩ := errR_zero he
      have hty := ev_ty hR t ht hs
      have hlo := hR.lo
      have hhi := hR.hi
      rcases valueR (ev_of hR t ht hs hz) (by omega) (srt_le t) with ⟨v, hv, C⟩ | ⟨k, hk, C⟩
      · rw [hv] at hty
        obtain ⟨f1, f2, f3, f4⟩ := ty_facts (show Ty W t.srt v from hty)
        refine sorts_core t W w ht hW hS he hr v.sort v.n v.bb v.l.length 0 (fun w' h => (eval_ok W t w' h.win h.tin h.s he hr C).mono fun e w'' ⟨a, c, e1, _, hb⟩ => ⟨a, c, e1, hb⟩) true (fun L hL => ?_) (.inr (.inr ⟨rfl, rfl, f1, fun h => ?_, f3⟩))
        · rw [List.all_eq_true]
          exact fun x hx => (ev_names t hs).1 ⟨v, hv⟩ x ((hL.2 x).1 hx)
        · have := f2 h; omega
      · rw [hk] at hty
        have h45 : k = 4 ∨ k = 5 := hty
        have EV : ∀ w' : World, SS w.heap.size t W w' → Calls Tryd.prog 33 #[t.val, W.val] w' fun e w'' => ∃ aa cc, e = .returned (.tuple #[.agg #[.int .i64 0, .int .i64 0, .bool false, .slice aa 0 cc], .int .i64 k]) ∧ Below w'.heap.size w' w'' := fun w' h => (eval_err W t w' h.win h.tin h.s he hr C).mono fun e w'' ⟨e1, hb⟩ => ⟨none, 0, e1, hb⟩
        rcases h45 with rfl | rfl
        · refine sorts_core t W w ht hW hS he hr 0 0 false 0 4 EV false (fun L hL => ?_) (.inr (.inl ⟨rfl, rfl, rfl⟩))
          obtain ⟨x, hx, hx'⟩ := (ev_names t hs).2 hk
          rw [List.all_eq_false]
          exact ⟨x, (hL.2 x).2 hx, by rw [hx']; decide⟩
        · cases hall : ((t.vars).all (thereB W))
          · refine sorts_core t W w ht hW hS he hr 0 0 false 0 5 EV false (fun L hL => ?_) (.inl ⟨rfl, rfl⟩)
            rw [List.all_eq_false] at hall ⊢
            obtain ⟨x, hx, hx'⟩ := hall
            exact ⟨x, (hL.2 x).2 hx, hx'⟩
          · refine sorts_core t W w ht hW hS he hr 0 0 false 0 5 EV true (fun L hL => ?_) (.inl ⟨rfl, rfl⟩)
            rw [List.all_eq_true] at hall ⊢
            exact fun x hx => hall x ((hL.2 x).1 hx)
  · exact sorts_bad t W w ht hW hS he
end Go.Proofs.YtimnfkdokjdplaaDoor
