/-
  What TermWraps does: it returns true, whatever the term and the number are.
-/
import Derived.Test.YtheegiaehlfdmaaDoorTermParts
import Derived.Deep.DeepCutAuto
import Derived.Deep.CutBlock
import Derived.Deep.RegionWith
import Derived.Deep.RegionHeld2
import Derived.BigRegion
namespace Go.Proofs.YtheegiaehlfdmaaDoor
open Go.RowKit

/-- a term put into an operation -/
def wrapU (op n : Int) (g : Nat) (t : Tm) : Tm := .node op ⟨#[]⟩ n (some ⟨g, 0, none⟩) 1 [t]
theorem wrap_size (op n : Int) (g : Nat) (t : Tm) : (wrapU op n g t).size = t.size + 1 := by
  rw [Tm.size_eq]; show 1 + Tm.sizes [t] = _; simp [Tm.sizes]; omega
theorem wrap_deep (op n : Int) (g : Nat) (t : Tm) : (wrapU op n g t).deep = t.deep + 1 := by
  rw [Tm.deep_eq]; show 1 + Tm.deeps [t] = _; simp [Tm.deeps]; omega
theorem wrap_srt (op n : Int) (g : Nat) (t : Tm) : (wrapU op n g t).srt = sortOf op ⟨#[]⟩ n [t.srt] := by
  rw [srt_eq]; rfl
theorem sort_not : ∀ s, s < 5 → sortOf 18 ⟨#[]⟩ 0 [s] = if s = 4 then 4 else 0 := by decide +kernel
theorem sort_card : ∀ s, s < 5 → sortOf 3 ⟨#[]⟩ 0 [s] = if s = 2 then 1 else 0 := by decide +kernel
theorem sort_one : ∀ s, s < 5 → sortOf 10 ⟨#[]⟩ 0 [s] = if s = 3 then 2 else 0 := by decide +kernel
theorem sort_mul (n : Int) : ∀ s, s < 5 → sortOf 6 ⟨#[]⟩ n [s] = if s = 1 then 1 else 0 := by
  intro s hs
  have e : sortOf 6 ⟨#[]⟩ n [s] = sortOf 6 ⟨#[]⟩ 0 [s] := by
    have h1 := sortOf_in (j := 6) (nm := ⟨#[]⟩) (n := n) (l := [s]) (by omega) (by omega)
    have h2 := sortOf_in (j := 6) (nm := ⟨#[]⟩) (n := 0) (l := [s]) (by omega) (by omega)
    have hn : (shRow 6).number = true := rfl
    rw [hn] at h1 h2
    simp only [Bool.true_or] at h1 h2
    exact h1.trans h2.symm
  rw [e]
  have : ∀ s, s < 5 → sortOf 6 ⟨#[]⟩ 0 [s] = if s = 1 then 1 else 0 := by decide +kernel
  exact this s hs
theorem wrap_in {w : World} {B g : Nat} {op n : Int} {t : Tm} (ho : fitB op = true) (hn : fitB n = true) (h : Four w g 0 t) (hg : g < B) (ht : TIn w B t) : TIn w B (wrapU op n g t) :=
  .mk _ ho hn (by show (0 : Nat) ≤ _; omega) (by show (1 : Nat) ≤ 1; omega) (by show (1 : Nat) ≤ maxLen; decide)
    (fun j hj => by
      have : j = 0 := by simp [wrapU, Tm.ks] at hj; omega
      subst this
      exact ⟨g, 0, rfl, hg, h⟩)
    (fun k hk => by
      simp only [wrapU, Tm.ks, List.mem_singleton] at hk
      subst hk; exact ht)
/-- four numbers in a row -/
def Row4 (w : World) (b : Nat) (x0 x1 x2 x3 : Int) : Prop := w.cell? ⟨b, 0, none⟩ = some (.int .i64 x0) ∧ w.cell? ⟨b, 1, none⟩ = some (.int .i64 x1) ∧ w.cell? ⟨b, 2, none⟩ = some (.int .i64 x2) ∧ w.cell? ⟨b, 3, none⟩ = some (.int .i64 x3)
theorem Row4.later {w w' : World} {b : Nat} {x0 x1 x2 x3 : Int} (h : Row4 w b x0 x1 x2 x3) (hb : Below w.heap.size w w') : Row4 w' b x0 x1 x2 x3 := ⟨cell_later hb h.1, cell_later hb h.2.1, cell_later hb h.2.2.1, cell_later hb h.2.2.2⟩
/-- what lies in memory while TermWraps loops -/
structure WR (X Y : Nat) (t : Tm) (w : World) : Prop where
  box : Four w X 0 t
  tin : TIn w w.heap.size t
  s : Shps w
  r0 : Row4 w Y 18 3 10 6
  r1 : Row4 w (Y + 1) 4 2 3 1
  r2 : Row4 w (Y + 1 + 1) 4 1 2 1
theorem WR.later {X Y : Nat} {t : Tm} {w w' : World} (h : WR X Y t w) (hb : Below w.heap.size w w') : WR X Y t w' :=
  ⟨h.box.later hb, h.tin.later hb, h.s.later hb, h.r0.later hb, h.r1.later hb, h.r2.later hb⟩
/-- what a round has made -/
structure UR (X Y b g : Nat) (op n : Int) (t : Tm) (w : World) : Prop where
  wr : WR X Y t w
  u0 : w.cell? ⟨b, 0, none⟩ = some (.int .i64 op)
  u1 : w.cell? ⟨b, 1, none⟩ = some (.string ⟨#[]⟩)
  u2 : w.cell? ⟨b, 2, none⟩ = some (.int .i64 n)
  u3 : w.cell? ⟨b, 3, none⟩ = some (.slice (some ⟨g, 0, none⟩) 1 1)
  row : Four w g 0 t
theorem UR.later {X Y b g : Nat} {op n : Int} {t : Tm} {w w' : World} (h : UR X Y b g op n t w) (hb : Below w.heap.size w w') : UR X Y b g op n t w' :=
  ⟨h.wr.later hb, cell_later hb h.u0, cell_later hb h.u1, cell_later hb h.u2, cell_later hb h.u3, h.row.later hb⟩
theorem UR.tin {X Y b g : Nat} {op n : Int} {t : Tm} {w : World} (h : UR X Y b g op n t w) (ho : fitB op = true) (hn : fitB n = true) : TIn w w.heap.size (wrapU op n g t) :=
  wrap_in ho hn h.row (four_lt h.row) h.wr.tin

theorem bdrewN {w a : World} (h : Below w.heap.size w a) (n : Nat) : Below w.heap.size w (a.drewN n) := below_drewN h n
theorem five_keep {w w' : World} {X Y i : Nat} {x0 x1 x2 x3 y : Value} (h : w.cell? ⟨X, 0, none⟩ = some x0 ∧ w.cell? ⟨X, 1, none⟩ = some x1 ∧ w.cell? ⟨X, 2, none⟩ = some x2 ∧ w.cell? ⟨X, 3, none⟩ = some x3 ∧ w.cell? ⟨Y, i, none⟩ = some y) (hb : Below w.heap.size w w') :
    w'.cell? ⟨X, 0, none⟩ = some x0 ∧ w'.cell? ⟨X, 1, none⟩ = some x1 ∧ w'.cell? ⟨X, 2, none⟩ = some x2 ∧ w'.cell? ⟨X, 3, none⟩ = some x3 ∧ w'.cell? ⟨Y, i, none⟩ = some y :=
  ⟨cell_later hb h.1, cell_later hb h.2.1, cell_later hb h.2.2.1, cell_later hb h.2.2.2.1, cell_later hb h.2.2.2.2⟩
theorem cell_far {w : World} {b i : Nat} {x : Value} (h : w.cell? ⟨b, i, none⟩ = some x) {a : Addr} (hne : b ≠ a.block) (u : Value) : (w.setCell a u).cell? ⟨b, i, none⟩ = some x := by
  rw [World.cell?_of_block (w := w) (Below.heap_setCell w a u b hne)]; exact h
theorem five_set {w : World} {X Y i : Nat} {x0 x1 x2 x3 y : Value} {a : Addr} (h : w.cell? ⟨X, 0, none⟩ = some x0 ∧ w.cell? ⟨X, 1, none⟩ = some x1 ∧ w.cell? ⟨X, 2, none⟩ = some x2 ∧ w.cell? ⟨X, 3, none⟩ = some x3 ∧ w.cell? ⟨Y, i, none⟩ = some y) (hX : X ≠ a.block) (hY : Y ≠ a.block) (u : Value) :
    (w.setCell a u).cell? ⟨X, 0, none⟩ = some x0 ∧ (w.setCell a u).cell? ⟨X, 1, none⟩ = some x1 ∧ (w.setCell a u).cell? ⟨X, 2, none⟩ = some x2 ∧ (w.setCell a u).cell? ⟨X, 3, none⟩ = some x3 ∧ (w.setCell a u).cell? ⟨Y, i, none⟩ = some y :=
  ⟨cell_far h.1 hX u, cell_far h.2.1 hX u, cell_far h.2.2.1 hX u, cell_far h.2.2.2.1 hX u, cell_far h.2.2.2.2 hY u⟩

theorem ten_keep {w w' : World} {B X Y Z i : Nat} {u0 u1 u2 u3 x0 x1 x2 x3 y z : Value} (h : w.cell? ⟨B, 0, none⟩ = some u0 ∧ w.cell? ⟨B, 1, none⟩ = some u1 ∧ w.cell? ⟨B, 2, none⟩ = some u2 ∧ w.cell? ⟨B, 3, none⟩ = some u3 ∧ w.cell? ⟨X, 0, none⟩ = some x0 ∧ w.cell? ⟨X, 1, none⟩ = some x1 ∧ w.cell? ⟨X, 2, none⟩ = some x2 ∧ w.cell? ⟨X, 3, none⟩ = some x3 ∧ w.cell? ⟨Y, i, none⟩ = some y ∧ w.cell? ⟨Z, i, none⟩ = some z) (hb : Below w.heap.size w w') :
    w'.cell? ⟨B, 0, none⟩ = some u0 ∧ w'.cell? ⟨B, 1, none⟩ = some u1 ∧ w'.cell? ⟨B, 2, none⟩ = some u2 ∧ w'.cell? ⟨B, 3, none⟩ = some u3 ∧ w'.cell? ⟨X, 0, none⟩ = some x0 ∧ w'.cell? ⟨X, 1, none⟩ = some x1 ∧ w'.cell? ⟨X, 2, none⟩ = some x2 ∧ w'.cell? ⟨X, 3, none⟩ = some x3 ∧ w'.cell? ⟨Y, i, none⟩ = some y ∧ w'.cell? ⟨Z, i, none⟩ = some z :=
  ⟨cell_later hb h.1, cell_later hb h.2.1, cell_later hb h.2.2.1, cell_later hb h.2.2.2.1, cell_later hb h.2.2.2.2.1, cell_later hb h.2.2.2.2.2.1, cell_later hb h.2.2.2.2.2.2.1, cell_later hb h.2.2.2.2.2.2.2.1, cell_later hb h.2.2.2.2.2.2.2.2.1, cell_later hb h.2.2.2.2.2.2.2.2.2⟩
theorem wrap_err {op n : Int} {g : Nat} {t : Tm} {so ma : Nat} (hz : t.size < 1990) (hd : t.deep < 90) (h : sortOf op ⟨#[]⟩ n [t.srt] = if t.srt = so then ma else 0) (hma : ma ≠ 0) :
    (t.srt = so → errR (wrapU op n g t) = 0 ∧ srtR (wrapU op n g t) = ma) ∧ (t.srt ≠ so → errR (wrapU op n g t) = 3 ∧ srtR (wrapU op n g t) = 0) := by
  have e : fullB (wrapU op n g t) = false := by simp [fullB, wrap_size, wrap_deep]; omega
  have e1 : srtR (wrapU op n g t) = (wrapU op n g t).srt := by unfold srtR; rw [e]; rfl
  have e2 : errR (wrapU op n g t) = if (wrapU op n g t).srt = 0 then 3 else 0 := by unfold errR; rw [e]; rfl
  rw [e1, e2, wrap_srt, h]
  exact ⟨fun hs => by rw [if_pos hs, if_neg hma]; exact ⟨rfl, rfl⟩, fun hs => by rw [if_neg hs, if_pos rfl]; exact ⟨rfl, rfl⟩⟩

set_option maxHeartbeats 40000000 in
set_option maxRecDepth 100000 in
theorem wraps_any (t : Tm) (n : Int) (w : World) (hin : TIn w w.heap.size t) (hn : fitB n = true) (hS : Shps w) :
    Calls Tryd.prog 7 #[t.val, .int .i64 n] w fun e w' => e = .returned (.bool true) ∧ Below w.heap.size w w' := by
  have hb0 := bel_alloc w (boxT t)
  have HF := mkHid (box_four w t)
  have HIN := mkHid (hin.later hb0)
  have HS := mkHid (hS.later hb0)
  have hW : w.alloc (.cells #[.int .i64 t.op, .string t.nm, .int .i64 t.n, .slice t.a t.ks.length t.c] 24) = w.alloc (boxT t) := rfl
  have SW := mkHid (shown_any _ (hS.later hb0))
  have HST := mkHid (sort_any t)
  have HSZ := mkHid (size_any t)
  clear hin hS
  generalize w.alloc (boxT t) = W at *
  have KEEP := mkHid (fun (w' : World) (hb : Below W.heap.size W w') => HF.out.later hb)
  by_cases he : errR t = 0
  · obtain ⟨hz, hd, hs, hsr⟩ := errR_zero he
    have hne : ((errR t : Int) != 0) = false := by rw [he]; rfl
    rw [show min 2001 t.size = t.size by omega] at HSZ
    have HDP := mkHid (fun w h => deep_small t w h hz)
    rw [show min 101 t.deep = t.deep by omega] at HDP
    rw [hsr, he] at HST
    by_cases hbig : t.size < 1990 ∧ t.deep < 90
    · obtain ⟨hz1, hd1⟩ := hbig
      have hs5 : t.srt < 5 := by have := srt_le t; omega
      have q1 : decide ((1990 : Int) ≤ (t.size : Int)) = false := decide_eq_false (by omega)
      have q2 : decide ((90 : Int) ≤ (t.deep : Int)) = false := decide_eq_false (by omega)
      unfold Tm.val at HST HSZ HDP ⊢
      have HV : Hid (t.val = .agg #[.int .i64 t.op, .string t.nm, .int .i64 t.n, .slice t.a t.ks.length t.c]) := rfl
      clear he hne
      go_enter Tryd.func7, Tryd.ntmps7
      go_wp2_with fail
      ((with_reducible refine SW.out.mono ?_)); rintro e w1 ⟨rfl, hb1⟩
      obtain ⟨x0, x1, x2, x3⟩ := KEEP.out w1 hb1
      simp only [Nat.zero_add] at x1 x2 x3
      clear hW SW
      go_wp2_with fail
      ((with_reducible refine (HST.out _ (HIN.out.later hb1) (HS.out.later hb1)).mono ?_)); rintro e w2 ⟨rfl, hb2⟩
      have B2 := bon hb1 hb2
      clear x0 x1 x2 x3 HST hb1 hb2
      obtain ⟨x0, x1, x2, x3⟩ := KEEP.out w2 B2
      simp only [Nat.zero_add] at x1 x2 x3
      go_wp2_with fail
      ((with_reducible refine (HSZ.out _ (HIN.out.later B2)).mono ?_)); rintro e w3 ⟨rfl, hb3⟩
      have B3 := bon B2 hb3
      clear x0 x1 x2 x3 hb3 B2
      obtain ⟨x0, x1, x2, x3⟩ := KEEP.out w3 B3
      simp only [Nat.zero_add] at x1 x2 x3
      go_wp2_with fail
      ((with_reducible refine (HDP.out _ (HIN.out.later B3)).mono ?_)); rintro e w4 ⟨rfl, hb4⟩
      have B4 := bon B3 hb4
      clear x0 x1 x2 x3 hb4 B3
      have B7 := bal (bal (bal B4 (.cells #[.int .i64 18, .int .i64 3, .int .i64 10, .int .i64 6] 3)) (.cells #[.int .i64 4, .int .i64 2, .int .i64 3, .int .i64 1] 3)) (.cells #[.int .i64 4, .int .i64 1, .int .i64 2, .int .i64 1] 3)
      have R7 : WR w.heap.size w4.heap.size t (((w4.alloc (.cells #[.int .i64 18, .int .i64 3, .int .i64 10, .int .i64 6] 3)).alloc (.cells #[.int .i64 4, .int .i64 2, .int .i64 3, .int .i64 1] 3)).alloc (.cells #[.int .i64 4, .int .i64 1, .int .i64 2, .int .i64 1] 3)) :=
        ⟨KEEP.out _ B7, HIN.out.later B7, HS.out.later B7, by simp [Row4, go_sem], by simp [Row4, go_sem], by simp [Row4, go_sem]⟩
      generalize hW7 : ((w4.alloc (.cells #[.int .i64 18, .int .i64 3, .int .i64 10, .int .i64 6] 3)).alloc (.cells #[.int .i64 4, .int .i64 2, .int .i64 3, .int .i64 1] 3)).alloc (.cells #[.int .i64 4, .int .i64 1, .int .i64 2, .int .i64 1] 3) = W7 at *
      have BW := bon hb0 B7
      clear B4 hb0 B7
      generalize hX : w.heap.size = X at *
      generalize hY : w4.heap.size = Y at *
      go_wp2_with fail
      clear hW7 hY KEEP HIN HS
      go_loopw [11] (fun i w' => ∃ x : Int, i = .int .i64 x ∧ (x = 0 ∨ x = 1 ∨ x = 2 ∨ x = 3 ∨ x = 4) ∧ WR X Y t w' ∧ Below W7.heap.size W7 w') (fun i _ => (4 - intOf i).toNat)
      case atStart => exact ⟨0, rfl, .inl rfl, R7, Below.refl _ _⟩
      case round =>
        obtain ⟨x, rfl, hx, R, hb⟩ := hrel
        clear R7
        rcases hx with rfl | rfl | rfl | rfl | rfl
        · obtain ⟨c0, c1, c2, c3⟩ := R.box
          simp only [Nat.zero_add] at c1 c2 c3
          have co := R.r0.1
          have HR := mkHid R
          have hXl := four_lt R.box
          have hYl : Y < wr.heap.size := World.block_lt_of_cell? _ _ co
          clear R
          go_wp2_with fail
          go_cut [12] (fun s12 wx => ∃ b g : Nat, s12 = .pointer (some ⟨b, 0, none⟩) ∧ UR X Y b g 18 0 t wx ∧ wx.frozen? ⟨b, 2, none⟩ = false ∧ Below wr.heap.size wr wx ∧ wr.heap.size ≤ b ∧ g ≠ b)
          case first =>
            go_region_held2 (fun w' => w'.cell? ⟨X, 0, none⟩ = some (.int .i64 t.op) ∧ w'.cell? ⟨X, 1, none⟩ = some (.string t.nm) ∧ w'.cell? ⟨X, 2, none⟩ = some (.int .i64 t.n) ∧ w'.cell? ⟨X, 3, none⟩ = some (.slice t.a t.ks.length t.c) ∧ w'.cell? ⟨Y, 0, none⟩ = some (.int .i64 18))
              (first | exact ⟨c0, c1, c2, c3, co⟩ | assumption | exact five_keep ⟨c0, c1, c2, c3, co⟩ (by repeat (first | exact Below.refl _ _ | refine bdrew ?_ | refine bal ?_ _))) ((fail))
            all_goals
              go_wp2_with fail
              go_meet
              first
                | (refine ⟨wr.heap.size, wr.heap.size + 1, rfl, ?_⟩
                   exact ⟨⟨HR.out.later (by repeat (first | exact Below.refl _ _ | refine bdrew ?_ | refine bal ?_ _)), by simp [go_sem], by simp [go_sem], by simp [go_sem], by simp [go_sem], by simp [Four, go_sem]⟩, by simp [go_sem], (by repeat (first | exact Below.refl _ _ | refine bdrew ?_ | refine bal ?_ _)), by omega, by omega⟩)
                | (refine ⟨wr.heap.size + 1, wr.heap.size, rfl, ?_⟩
                   exact ⟨⟨HR.out.later (by repeat (first | exact Below.refl _ _ | refine bdrew ?_ | refine bal ?_ _)), by simp [go_sem], by simp [go_sem], by simp [go_sem], by simp [go_sem], by simp [Four, go_sem]⟩, by simp [go_sem], (by repeat (first | exact Below.refl _ _ | refine bdrew ?_ | refine bal ?_ _)), by omega, by omega⟩)
          case rest =>
            obtain ⟨b, g, rfl, U, fz, hbx, hbl, gb⟩ := hcut
            clear c0 c1 c2 c3 co
            have hbd := hbx
            have HRd := mkHid U
            have co := U.wr.r0.1
            obtain ⟨-, v0, v1, v2, v3, -⟩ := id U
            have EE := wrap_err (op := 18) (n := 0) (g := g) (t := t) (so := 4) (ma := 4) hz1 hd1 (sort_not t.srt hs5) (by decide)
            have CS := mkHid (fun w (h : UR X Y b g 18 0 t w) => sort_any (wrapU 18 0 g t) w (h.tin (by decide) (by decide)) h.wr.s)
            have CZ := mkHid (fun w (h : UR X Y b g 18 0 t w) => size_any (wrapU 18 0 g t) w (h.tin (by decide) (by decide)))
            have CD := mkHid (fun w (h : UR X Y b g 18 0 t w) => deep_small (wrapU 18 0 g t) w (h.tin (by decide) (by decide)) (by rw [wrap_size]; omega))
            rw [wrap_size, show min 2001 (t.size + 1) = t.size + 1 by omega, show ((t.size + 1 : Nat) : Int) = (t.size : Int) + 1 by omega] at CZ
            rw [wrap_deep, show min 101 (t.deep + 1) = t.deep + 1 by omega, show ((t.deep + 1 : Nat) : Int) = (t.deep : Int) + 1 by omega] at CD
            have zz : (t.size : Int) + 1 ≤ 2000 := by omega
            have dd : (t.deep : Int) + 1 ≤ 100 := by omega
            have W1 : IntKind.i64.wrap ((t.size : Int) + 1) = (t.size : Int) + 1 := IntWalk.i64_in _ (by omega)
            have W2 : IntKind.i64.wrap ((t.deep : Int) + 1) = (t.deep : Int) + 1 := IntWalk.i64_in _ (by omega)
            by_cases hsq : t.srt = 4
            · obtain ⟨e1, e2⟩ := EE.1 hsq
              rw [e1, e2] at CS
              have qs : ((t.srt : Int) == 4) = true := by rw [hsq]; rfl
              clear e1 e2 EE hsq
              unfold Tm.val at CS CZ CD
              simp only [wrapU, Tm.op, Tm.nm, Tm.n, Tm.a, Tm.ks, Tm.c, List.length_cons, List.length_nil, Nat.zero_add] at CS CZ CD
              go_wp2_with fail
              ((with_reducible refine (CS.out _ U).mono ?_)); rintro e w8 ⟨rfl, hb8⟩
              have P0 := U.later hb8
              have BB := bon (bon hb hbd) hb8
              clear v0 v1 v2 v3 co U CS hb hbd hb8
              obtain ⟨-, v0, v1, v2, v3, -⟩ := id P0
              obtain ⟨c0, c1, c2, c3⟩ := P0.wr.box
              simp only [Nat.zero_add] at c1 c2 c3
              have cs := P0.wr.r1.1
              have cm := P0.wr.r2.1
              have PD := P0.later (bdrew (Below.refl w8.heap.size w8))
              go_wp2_with fail
              go_region_held2 (fun w' => w'.cell? ⟨b, 0, none⟩ = some (.int .i64 18) ∧ w'.cell? ⟨b, 1, none⟩ = some (.string ⟨#[]⟩) ∧ w'.cell? ⟨b, 2, none⟩ = some (.int .i64 0) ∧ w'.cell? ⟨b, 3, none⟩ = some (.slice (some ⟨g, 0, none⟩) 1 1) ∧ w'.cell? ⟨X, 0, none⟩ = some (.int .i64 t.op) ∧ w'.cell? ⟨X, 1, none⟩ = some (.string t.nm) ∧ w'.cell? ⟨X, 2, none⟩ = some (.int .i64 t.n) ∧ w'.cell? ⟨X, 3, none⟩ = some (.slice t.a t.ks.length t.c) ∧ w'.cell? ⟨Y + 1, 0, none⟩ = some (.int .i64 4) ∧ w'.cell? ⟨Y + 1 + 1, 0, none⟩ = some (.int .i64 4))
                (first | exact ⟨v0, v1, v2, v3, c0, c1, c2, c3, cs, cm⟩ | assumption | exact ten_keep (by assumption) (by assumption))
                ((first
                  | (go_at_call 11; revert P1; intro P1; ((with_reducible refine (HSZ.out _ P1.wr.tin).mono ?_)); rintro e w21 ⟨rfl, hb21⟩; have P2 := P1.later hb21)
                  | (go_at_call 11; ((with_reducible refine (CZ.out _ PD).mono ?_)); rintro e w20 ⟨rfl, hb20⟩; have P1 := PD.later hb20)
                  | (go_at_call 13; revert P3; intro P3; ((with_reducible refine (HDP.out _ P3.wr.tin).mono ?_)); rintro e w23 ⟨rfl, hb23⟩)
                  | (go_at_call 13; ((with_reducible refine (CD.out _ P2).mono ?_)); rintro e w22 ⟨rfl, hb22⟩; have P3 := P2.later hb22)))
              go_wp2
              go_roundw
              case rel => exact ⟨_, rfl, by simp, P3.wr.later hb23, (by repeat (first | exact BB | (refine bon ?_ (by assumption)) | refine bdrewN ?_ _ | refine bdrew ?_))⟩
              case measure => simp [intOf]
            · obtain ⟨e1, e2⟩ := EE.2 hsq
              rw [e1, e2] at CS
              have qs : ((t.srt : Int) == 4) = false := beq_eq_false_iff_ne.2 (by omega)
              clear e1 e2 EE hsq
              unfold Tm.val at CS CZ CD
              simp only [wrapU, Tm.op, Tm.nm, Tm.n, Tm.a, Tm.ks, Tm.c, List.length_cons, List.length_nil, Nat.zero_add] at CS CZ CD
              go_wp2_with fail
              ((with_reducible refine (CS.out _ U).mono ?_)); rintro e w8 ⟨rfl, hb8⟩
              have P0 := U.later hb8
              have BB := bon (bon hb hbd) hb8
              clear v0 v1 v2 v3 co U CS hb hbd hb8
              obtain ⟨-, v0, v1, v2, v3, -⟩ := id P0
              obtain ⟨c0, c1, c2, c3⟩ := P0.wr.box
              simp only [Nat.zero_add] at c1 c2 c3
              have cs := P0.wr.r1.1
              have PD := P0.later (bdrew (Below.refl w8.heap.size w8))
              go_wp2_with fail
              have cm := P0.wr.r2.1
              refine wp_region_held_drew (S := fun w' => w'.cell? ⟨b, 0, none⟩ = some (.int .i64 18) ∧ w'.cell? ⟨b, 1, none⟩ = some (.string ⟨#[]⟩) ∧ w'.cell? ⟨b, 2, none⟩ = some (.int .i64 0) ∧ w'.cell? ⟨b, 3, none⟩ = some (.slice (some ⟨g, 0, none⟩) 1 1) ∧ w'.cell? ⟨X, 0, none⟩ = some (.int .i64 t.op) ∧ w'.cell? ⟨X, 1, none⟩ = some (.string t.nm) ∧ w'.cell? ⟨X, 2, none⟩ = some (.int .i64 t.n) ∧ w'.cell? ⟨X, 3, none⟩ = some (.slice t.a t.ks.length t.c) ∧ w'.cell? ⟨Y + 1, 0, none⟩ = some (.int .i64 4) ∧ w'.cell? ⟨Y + 1 + 1, 0, none⟩ = some (.int .i64 4)) (by kernel_rfl) ⟨v0, v1, v2, v3, c0, c1, c2, c3, cs, cm⟩ (fun hHeld => ?_)
              refine wpAnyH_take (i := 0) (v := ?_) rfl (by kernel_rfl) (by kernel_rfl) (by kernel_rfl) (fun _ _ _ h => h) (Or.inl ⟨by rfl, ?_⟩) (by assumption) ?_
              rotate_left
              · (intro w hSw; (try dsimp only at hSw); go_simp; try with_reducible rfl)
              simp only [Act.put, List.getElem_toArray, List.getElem_cons_zero, List.setIfInBounds_toArray, List.set_cons_zero, List.set_cons_succ]
              refine wpAnyH_take (i := 1) (v := ?_) rfl (by kernel_rfl) (by kernel_rfl) (by kernel_rfl) (fun _ _ _ h => h) (Or.inl ⟨by rfl, ?_⟩) (by assumption) ?_
              rotate_left
              · (intro w hSw; (try dsimp only at hSw); go_simp; try with_reducible rfl)
              simp only [Act.put, List.getElem_toArray, List.getElem_cons_succ, List.getElem_cons_zero, List.setIfInBounds_toArray, List.set_cons_zero, List.set_cons_succ]
              refine wpAnyH_take (i := 2) (v := ?_) rfl (by kernel_rfl) (by kernel_rfl) (by kernel_rfl) (fun _ _ _ h => h) (Or.inl ⟨by rfl, ?_⟩) (by assumption) ?_
              rotate_left
              · (intro w hSw; (try dsimp only at hSw); go_simp; try with_reducible rfl)
              simp only [Act.put, List.getElem_toArray, List.getElem_cons_succ, List.getElem_cons_zero, List.setIfInBounds_toArray, List.set_cons_zero, List.set_cons_succ]
              refine wpAnyH_take (i := 3) (v := ?_) rfl (by kernel_rfl) (by kernel_rfl) (by kernel_rfl) (fun _ _ _ h => h) (Or.inl ⟨by rfl, ?_⟩) (by assumption) ?_
              rotate_left
              · (intro w hSw; (try dsimp only at hSw); go_simp; try with_reducible rfl)
              simp only [Act.put, List.getElem_toArray, List.getElem_cons_succ, List.getElem_cons_zero, List.setIfInBounds_toArray, List.set_cons_zero, List.set_cons_succ]
              refine wpAnyH_take (i := 4) (v := ?_) rfl (by kernel_rfl) (by kernel_rfl) (by kernel_rfl) (fun _ _ _ h => h) (Or.inl ⟨by rfl, ?_⟩) (by assumption) ?_
              rotate_left
              · (intro w hSw; (try dsimp only at hSw); go_simp; try with_reducible rfl)
              simp only [Act.put, List.getElem_toArray, List.getElem_cons_succ, List.getElem_cons_zero, List.setIfInBounds_toArray, List.set_cons_zero, List.set_cons_succ]
              refine wpAnyH_take (i := 5) (v := ?_) rfl (by kernel_rfl) (by kernel_rfl) (by kernel_rfl) (fun _ _ _ h => h) (Or.inl ⟨by rfl, ?_⟩) (by assumption) ?_
              rotate_left
              · (intro w hSw; (try dsimp only at hSw); go_simp; try with_reducible rfl)
              simp only [Act.put, List.getElem_toArray, List.getElem_cons_succ, List.getElem_cons_zero, List.setIfInBounds_toArray, List.set_cons_zero, List.set_cons_succ]
              refine wpAnyH_take (i := 6) (v := ?_) rfl (by kernel_rfl) (by kernel_rfl) (by kernel_rfl) (fun _ _ _ h => h) (Or.inl ⟨by rfl, ?_⟩) (by assumption) ?_
              rotate_left
              · (intro w hSw; (try dsimp only at hSw); go_simp; try with_reducible rfl)
              simp only [Act.put, List.getElem_toArray, List.getElem_cons_succ, List.getElem_cons_zero, List.setIfInBounds_toArray, List.set_cons_zero, List.set_cons_succ]
              refine wpAnyH_take (i := 7) (v := ?_) rfl (by kernel_rfl) (by kernel_rfl) (by kernel_rfl) (fun _ _ _ h => h) (Or.inl ⟨by rfl, ?_⟩) (by assumption) ?_
              rotate_left
              · (intro w hSw; (try dsimp only at hSw); go_simp; try with_reducible rfl)
              simp only [Act.put, List.getElem_toArray, List.getElem_cons_succ, List.getElem_cons_zero, List.setIfInBounds_toArray, List.set_cons_zero, List.set_cons_succ]
              refine wpAnyH_take (i := 8) (v := ?_) rfl (by kernel_rfl) (by kernel_rfl) (by kernel_rfl) (fun _ _ _ h => h) (Or.inl ⟨by rfl, ?_⟩) (by assumption) ?_
              rotate_left
              · (intro w hSw; (try dsimp only at hSw); go_simp; try with_reducible rfl)
              simp only [Act.put, List.getElem_toArray, List.getElem_cons_succ, List.getElem_cons_zero, List.setIfInBounds_toArray, List.set_cons_zero, List.set_cons_succ]
              refine wpAnyH_take (i := 9) (v := ?_) rfl (by kernel_rfl) (by kernel_rfl) (by kernel_rfl) (fun _ _ _ h => h) (Or.inl ⟨by rfl, ?_⟩) (by assumption) ?_
              rotate_left
              · (intro w hSw; (try dsimp only at hSw); go_simp; try with_reducible rfl)
              simp only [Act.put, List.getElem_toArray, List.getElem_cons_succ, List.getElem_cons_zero, List.setIfInBounds_toArray, List.set_cons_zero, List.set_cons_succ]
              refine wpAnyH_take (i := 10) (v := ?_) rfl (by kernel_rfl) (by kernel_rfl) (by kernel_rfl) (fun _ _ _ h => h) (Or.inl ⟨by rfl, ?_⟩) (by assumption) ?_
              rotate_left
              · (intro w hSw; (try dsimp only at hSw); go_simp; try with_reducible rfl)
              simp only [Act.put, List.getElem_toArray, List.getElem_cons_succ, List.getElem_cons_zero, List.setIfInBounds_toArray, List.set_cons_zero, List.set_cons_succ]
              refine wpAnyH_take (i := 11) (v := ?_) rfl (by kernel_rfl) (by kernel_rfl) (by kernel_rfl) (fun _ _ _ h => h) (Or.inl ⟨by rfl, ?_⟩) (by assumption) ?_
              rotate_left
              · (intro w hSw; (try dsimp only at hSw); go_simp; try with_reducible rfl)
              simp only [Act.put, List.getElem_toArray, List.getElem_cons_succ, List.getElem_cons_zero, List.setIfInBounds_toArray, List.set_cons_zero, List.set_cons_succ]
              refine wpAnyH_take (i := 12) (v := ?_) rfl (by kernel_rfl) (by kernel_rfl) (by kernel_rfl) (fun _ _ _ h => h) (Or.inl ⟨by rfl, ?_⟩) (by assumption) ?_
              rotate_left
              · (intro w hSw; (try dsimp only at hSw); go_simp; try with_reducible rfl)
              simp only [Act.put, List.getElem_toArray, List.getElem_cons_succ, List.getElem_cons_zero, List.setIfInBounds_toArray, List.set_cons_zero, List.set_cons_succ]
              refine wpAnyH_take (i := 13) (v := undef) rfl (by kernel_rfl) (by kernel_rfl) (by kernel_rfl) (fun _ _ _ h => h) (Or.inr ⟨by rfl, rfl⟩) (by assumption) ?_
              simp only [Act.put, List.getElem_toArray, List.getElem_cons_succ, List.getElem_cons_zero, List.setIfInBounds_toArray, List.set_cons_zero, List.set_cons_succ]
              refine wpAnyH_take (i := 14) (v := undef) rfl (by kernel_rfl) (by kernel_rfl) (by kernel_rfl) (fun _ _ _ h => h) (Or.inr ⟨by rfl, rfl⟩) (by assumption) ?_
              simp only [Act.put, List.getElem_toArray, List.getElem_cons_succ, List.getElem_cons_zero, List.setIfInBounds_toArray, List.set_cons_zero, List.set_cons_succ]
              refine wpAnyH_take (i := 15) (v := undef) rfl (by kernel_rfl) (by kernel_rfl) (by kernel_rfl) (fun _ _ _ h => h) (Or.inr ⟨by rfl, rfl⟩) (by assumption) ?_
              simp only [Act.put, List.getElem_toArray, List.getElem_cons_succ, List.getElem_cons_zero, List.setIfInBounds_toArray, List.set_cons_zero, List.set_cons_succ]
              refine wpAnyH_take (i := 16) (v := undef) rfl (by kernel_rfl) (by kernel_rfl) (by kernel_rfl) (fun _ _ _ h => h) (Or.inr ⟨by rfl, rfl⟩) (by assumption) ?_
              simp only [Act.put, List.getElem_toArray, List.getElem_cons_succ, List.getElem_cons_zero, List.setIfInBounds_toArray, List.set_cons_zero, List.set_cons_succ]
              refine wpAnyH_take (i := 17) (v := undef) rfl (by kernel_rfl) (by kernel_rfl) (by kernel_rfl) (fun _ _ _ h => h) (Or.inr ⟨by rfl, rfl⟩) (by assumption) ?_
              simp only [Act.put, List.getElem_toArray, List.getElem_cons_succ, List.getElem_cons_zero, List.setIfInBounds_toArray, List.set_cons_zero, List.set_cons_succ]
              refine wpAnyH_take (i := 18) (v := undef) rfl (by kernel_rfl) (by kernel_rfl) (by kernel_rfl) (fun _ _ _ h => h) (Or.inr ⟨by rfl, rfl⟩) (by assumption) ?_
              simp only [Act.put, List.getElem_toArray, List.getElem_cons_succ, List.getElem_cons_zero, List.setIfInBounds_toArray, List.set_cons_zero, List.set_cons_succ]
              refine wpAnyH_take (i := 19) (v := ?_) rfl (by kernel_rfl) (by kernel_rfl) (by kernel_rfl) (fun _ _ _ h => h) (Or.inl ⟨by rfl, ?_⟩) (by assumption) ?_
              rotate_left
              · (intro w hSw; (try dsimp only at hSw); go_simp; try with_reducible rfl)
              simp only [Act.put, List.getElem_toArray, List.getElem_cons_succ, List.getElem_cons_zero, List.setIfInBounds_toArray, List.set_cons_zero, List.set_cons_succ]
              refine wpAnyH_take (i := 20) (v := ?_) rfl (by kernel_rfl) (by kernel_rfl) (by kernel_rfl) (fun _ _ _ h => h) (Or.inl ⟨by rfl, ?_⟩) (by assumption) ?_
              rotate_left
              · (intro w hSw; (try dsimp only at hSw); go_simp; try with_reducible rfl)
              simp only [Act.put, List.getElem_toArray, List.getElem_cons_succ, List.getElem_cons_zero, List.setIfInBounds_toArray, List.set_cons_zero, List.set_cons_succ]
              refine wpAnyH_take (i := 21) (v := ?_) rfl (by kernel_rfl) (by kernel_rfl) (by kernel_rfl) (fun _ _ _ h => h) (Or.inl ⟨by rfl, ?_⟩) (by assumption) ?_
              rotate_left
              · (intro w hSw; (try dsimp only at hSw); go_simp; try with_reducible rfl)
              simp only [Act.put, List.getElem_toArray, List.getElem_cons_succ, List.getElem_cons_zero, List.setIfInBounds_toArray, List.set_cons_zero, List.set_cons_succ]
              refine wpAnyH_take (i := 22) (v := ?_) rfl (by kernel_rfl) (by kernel_rfl) (by kernel_rfl) (fun _ _ _ h => h) (Or.inl ⟨by rfl, ?_⟩) (by assumption) ?_
              rotate_left
              · (intro w hSw; (try dsimp only at hSw); go_simp; try with_reducible rfl)
              simp only [Act.put, List.getElem_toArray, List.getElem_cons_succ, List.getElem_cons_zero, List.setIfInBounds_toArray, List.set_cons_zero, List.set_cons_succ]
              refine wpAnyH_take (i := 24) (v := ?_) rfl (by kernel_rfl) (by kernel_rfl) (by kernel_rfl) (fun _ _ _ h => h) (Or.inl ⟨by rfl, ?_⟩) (by assumption) ?_
              rotate_left
              · (intro w hSw; (try dsimp only at hSw); go_simp; try with_reducible rfl)
              simp only [Act.put, List.getElem_toArray, List.getElem_cons_succ, List.getElem_cons_zero, List.setIfInBounds_toArray, List.set_cons_zero, List.set_cons_succ]
              refine wpAnyH_ready (rs := [23]) (by kernel_rfl) (by simp) ?_
              refine AllReadyH.cons rfl (fun K hK => ?_) AllReadyH.nil
              go_simp
              go_wp2_with (go_at_call 11; ((with_reducible refine (CZ.out _ PD).mono ?_)); rintro e w20 ⟨rfl, hb20⟩; have P1 := PD.later hb20)
              refine hK.out _ _ (ten_keep (by assumption) hb20) (fun hHeld => ?_)
              clear hK
              refine wpAnyH_ready (rs := [25]) (by kernel_rfl) (by simp) ?_
              refine AllReadyH.cons rfl (fun K hK => ?_) AllReadyH.nil
              go_simp
              go_wp2_with (go_at_call 11; ((with_reducible refine (HSZ.out _ P1.wr.tin).mono ?_)); rintro e w21 ⟨rfl, hb21⟩; have P2 := P1.later hb21)
              refine hK.out _ _ (ten_keep (by assumption) hb21) (fun hHeld => ?_)
              clear hK
              refine wpAnyH_take (i := 26) (v := ?_) rfl (by kernel_rfl) (by kernel_rfl) (by kernel_rfl) (fun _ _ _ h => h) (Or.inl ⟨by rfl, ?_⟩) (by assumption) ?_
              rotate_left
              · (intro w hSw; (try dsimp only at hSw); go_simp; try with_reducible rfl)
              simp only [Act.put, List.getElem_toArray, List.getElem_cons_succ, List.getElem_cons_zero, List.setIfInBounds_toArray, List.set_cons_zero, List.set_cons_succ]
              refine wpAnyH_take (i := 27) (v := ?_) rfl (by kernel_rfl) (by kernel_rfl) (by kernel_rfl) (fun _ _ _ h => h) (Or.inl ⟨by rfl, ?_⟩) (by assumption) ?_
              rotate_left
              · (intro w hSw; (try dsimp only at hSw); go_simp; try with_reducible rfl)
              simp only [Act.put, List.getElem_toArray, List.getElem_cons_succ, List.getElem_cons_zero, List.setIfInBounds_toArray, List.set_cons_zero, List.set_cons_succ]
              refine wpAnyH_take (i := 28) (v := ?_) rfl (by kernel_rfl) (by kernel_rfl) (by kernel_rfl) (fun _ _ _ h => h) (Or.inl ⟨by rfl, ?_⟩) (by assumption) ?_
              rotate_left
              · (intro w hSw; (try dsimp only at hSw); go_simp; try with_reducible rfl)
              simp only [Act.put, List.getElem_toArray, List.getElem_cons_succ, List.getElem_cons_zero, List.setIfInBounds_toArray, List.set_cons_zero, List.set_cons_succ]
              refine wpAnyH_take (i := 29) (v := ?_) rfl (by kernel_rfl) (by kernel_rfl) (by kernel_rfl) (fun _ _ _ h => h) (Or.inl ⟨by rfl, ?_⟩) (by assumption) ?_
              rotate_left
              · (intro w hSw; (try dsimp only at hSw); go_simp; try with_reducible rfl)
              simp only [Act.put, List.getElem_toArray, List.getElem_cons_succ, List.getElem_cons_zero, List.setIfInBounds_toArray, List.set_cons_zero, List.set_cons_succ]
              refine wpAnyH_take (i := 30) (v := ?_) rfl (by kernel_rfl) (by kernel_rfl) (by kernel_rfl) (fun _ _ _ h => h) (Or.inl ⟨by rfl, ?_⟩) (by assumption) ?_
              rotate_left
              · (intro w hSw; (try dsimp only at hSw); go_simp; try with_reducible rfl)
              simp only [Act.put, List.getElem_toArray, List.getElem_cons_succ, List.getElem_cons_zero, List.setIfInBounds_toArray, List.set_cons_zero, List.set_cons_succ]
              refine wpAnyH_take (i := 32) (v := ?_) rfl (by kernel_rfl) (by kernel_rfl) (by kernel_rfl) (fun _ _ _ h => h) (Or.inl ⟨by rfl, ?_⟩) (by assumption) ?_
              rotate_left
              · (intro w hSw; (try dsimp only at hSw); go_simp; try with_reducible rfl)
              simp only [Act.put, List.getElem_toArray, List.getElem_cons_succ, List.getElem_cons_zero, List.setIfInBounds_toArray, List.set_cons_zero, List.set_cons_succ]
              refine wpAnyH_ready (rs := [31]) (by kernel_rfl) (by simp) ?_
              refine AllReadyH.cons rfl (fun K hK => ?_) AllReadyH.nil
              go_simp
              go_wp2_with (go_at_call 13; ((with_reducible refine (CD.out _ P2).mono ?_)); rintro e w22 ⟨rfl, hb22⟩; have P3 := P2.later hb22)
              refine hK.out _ _ (ten_keep (by assumption) hb22) (fun hHeld => ?_)
              clear hK
              refine wpAnyH_ready (rs := [33]) (by kernel_rfl) (by simp) ?_
              refine AllReadyH.cons rfl (fun K hK => ?_) AllReadyH.nil
              go_simp
              go_wp2_with (go_at_call 13; ((with_reducible refine (HDP.out _ P3.wr.tin).mono ?_)); rintro e w23 ⟨rfl, hb23⟩; skip)
              refine hK.out _ _ (ten_keep (by assumption) hb23) (fun hHeld => ?_)
              clear hK
              refine wpAnyH_take (i := 34) (v := ?_) rfl (by kernel_rfl) (by kernel_rfl) (by kernel_rfl) (fun _ _ _ h => h) (Or.inl ⟨by rfl, ?_⟩) (by assumption) ?_
              rotate_left
              · (intro w hSw; (try dsimp only at hSw); go_simp; try with_reducible rfl)
              simp only [Act.put, List.getElem_toArray, List.getElem_cons_succ, List.getElem_cons_zero, List.setIfInBounds_toArray, List.set_cons_zero, List.set_cons_succ]
              refine wpAnyH_take (i := 35) (v := ?_) rfl (by kernel_rfl) (by kernel_rfl) (by kernel_rfl) (fun _ _ _ h => h) (Or.inl ⟨by rfl, ?_⟩) (by assumption) ?_
              rotate_left
              · (intro w hSw; (try dsimp only at hSw); go_simp; try with_reducible rfl)
              simp only [Act.put, List.getElem_toArray, List.getElem_cons_succ, List.getElem_cons_zero, List.setIfInBounds_toArray, List.set_cons_zero, List.set_cons_succ]
              refine wpAnyH_take (i := 36) (v := ?_) rfl (by kernel_rfl) (by kernel_rfl) (by kernel_rfl) (fun _ _ _ h => h) (Or.inl ⟨by rfl, ?_⟩) (by assumption) ?_
              rotate_left
              · (intro w hSw; (try dsimp only at hSw); go_simp; try with_reducible rfl)
              simp only [Act.put, List.getElem_toArray, List.getElem_cons_succ, List.getElem_cons_zero, List.setIfInBounds_toArray, List.set_cons_zero, List.set_cons_succ]
              refine wpAnyH_done (by kernel_rfl) ?_ _
              go_wp2
              go_roundw
              case rel => exact ⟨_, rfl, by simp, P3.wr.later hb23, (by repeat (first | exact BB | (refine bon ?_ (by assumption)) | refine bdrewN ?_ _ | refine bdrew ?_))⟩
              case measure => simp [intOf]
        · obtain ⟨c0, c1, c2, c3⟩ := R.box
          simp only [Nat.zero_add] at c1 c2 c3
          have co := R.r0.2.1
          have HR := mkHid R
          have hXl := four_lt R.box
          have hYl : Y < wr.heap.size := World.block_lt_of_cell? _ _ co
          clear R
          go_wp2_with fail
          go_cut [12] (fun s12 wx => ∃ b g : Nat, s12 = .pointer (some ⟨b, 0, none⟩) ∧ UR X Y b g 3 0 t wx ∧ wx.frozen? ⟨b, 2, none⟩ = false ∧ Below wr.heap.size wr wx ∧ wr.heap.size ≤ b ∧ g ≠ b)
          case first =>
            go_region_held2 (fun w' => w'.cell? ⟨X, 0, none⟩ = some (.int .i64 t.op) ∧ w'.cell? ⟨X, 1, none⟩ = some (.string t.nm) ∧ w'.cell? ⟨X, 2, none⟩ = some (.int .i64 t.n) ∧ w'.cell? ⟨X, 3, none⟩ = some (.slice t.a t.ks.length t.c) ∧ w'.cell? ⟨Y, 1, none⟩ = some (.int .i64 3))
              (first | exact ⟨c0, c1, c2, c3, co⟩ | assumption | exact five_keep ⟨c0, c1, c2, c3, co⟩ (by repeat (first | exact Below.refl _ _ | refine bdrew ?_ | refine bal ?_ _))) ((fail))
            all_goals
              go_wp2_with fail
              go_meet
              first
                | (refine ⟨wr.heap.size, wr.heap.size + 1, rfl, ?_⟩
                   exact ⟨⟨HR.out.later (by repeat (first | exact Below.refl _ _ | refine bdrew ?_ | refine bal ?_ _)), by simp [go_sem], by simp [go_sem], by simp [go_sem], by simp [go_sem], by simp [Four, go_sem]⟩, by simp [go_sem], (by repeat (first | exact Below.refl _ _ | refine bdrew ?_ | refine bal ?_ _)), by omega, by omega⟩)
                | (refine ⟨wr.heap.size + 1, wr.heap.size, rfl, ?_⟩
                   exact ⟨⟨HR.out.later (by repeat (first | exact Below.refl _ _ | refine bdrew ?_ | refine bal ?_ _)), by simp [go_sem], by simp [go_sem], by simp [go_sem], by simp [go_sem], by simp [Four, go_sem]⟩, by simp [go_sem], (by repeat (first | exact Below.refl _ _ | refine bdrew ?_ | refine bal ?_ _)), by omega, by omega⟩)
          case rest =>
            obtain ⟨b, g, rfl, U, fz, hbx, hbl, gb⟩ := hcut
            clear c0 c1 c2 c3 co
            have hbd := hbx
            have HRd := mkHid U
            have co := U.wr.r0.2.1
            obtain ⟨-, v0, v1, v2, v3, -⟩ := id U
            have EE := wrap_err (op := 3) (n := 0) (g := g) (t := t) (so := 2) (ma := 1) hz1 hd1 (sort_card t.srt hs5) (by decide)
            have CS := mkHid (fun w (h : UR X Y b g 3 0 t w) => sort_any (wrapU 3 0 g t) w (h.tin (by decide) (by decide)) h.wr.s)
            have CZ := mkHid (fun w (h : UR X Y b g 3 0 t w) => size_any (wrapU 3 0 g t) w (h.tin (by decide) (by decide)))
            have CD := mkHid (fun w (h : UR X Y b g 3 0 t w) => deep_small (wrapU 3 0 g t) w (h.tin (by decide) (by decide)) (by rw [wrap_size]; omega))
            rw [wrap_size, show min 2001 (t.size + 1) = t.size + 1 by omega, show ((t.size + 1 : Nat) : Int) = (t.size : Int) + 1 by omega] at CZ
            rw [wrap_deep, show min 101 (t.deep + 1) = t.deep + 1 by omega, show ((t.deep + 1 : Nat) : Int) = (t.deep : Int) + 1 by omega] at CD
            have zz : (t.size : Int) + 1 ≤ 2000 := by omega
            have dd : (t.deep : Int) + 1 ≤ 100 := by omega
            have W1 : IntKind.i64.wrap ((t.size : Int) + 1) = (t.size : Int) + 1 := IntWalk.i64_in _ (by omega)
            have W2 : IntKind.i64.wrap ((t.deep : Int) + 1) = (t.deep : Int) + 1 := IntWalk.i64_in _ (by omega)
            by_cases hsq : t.srt = 2
            · obtain ⟨e1, e2⟩ := EE.1 hsq
              rw [e1, e2] at CS
              have qs : ((t.srt : Int) == 2) = true := by rw [hsq]; rfl
              clear e1 e2 EE hsq
              unfold Tm.val at CS CZ CD
              simp only [wrapU, Tm.op, Tm.nm, Tm.n, Tm.a, Tm.ks, Tm.c, List.length_cons, List.length_nil, Nat.zero_add] at CS CZ CD
              go_wp2_with fail
              ((with_reducible refine (CS.out _ U).mono ?_)); rintro e w8 ⟨rfl, hb8⟩
              have P0 := U.later hb8
              have BB := bon (bon hb hbd) hb8
              clear v0 v1 v2 v3 co U CS hb hbd hb8
              obtain ⟨-, v0, v1, v2, v3, -⟩ := id P0
              obtain ⟨c0, c1, c2, c3⟩ := P0.wr.box
              simp only [Nat.zero_add] at c1 c2 c3
              have cs := P0.wr.r1.2.1
              have cm := P0.wr.r2.2.1
              have PD := P0.later (bdrew (Below.refl w8.heap.size w8))
              go_wp2_with fail
              go_region_held2 (fun w' => w'.cell? ⟨b, 0, none⟩ = some (.int .i64 3) ∧ w'.cell? ⟨b, 1, none⟩ = some (.string ⟨#[]⟩) ∧ w'.cell? ⟨b, 2, none⟩ = some (.int .i64 0) ∧ w'.cell? ⟨b, 3, none⟩ = some (.slice (some ⟨g, 0, none⟩) 1 1) ∧ w'.cell? ⟨X, 0, none⟩ = some (.int .i64 t.op) ∧ w'.cell? ⟨X, 1, none⟩ = some (.string t.nm) ∧ w'.cell? ⟨X, 2, none⟩ = some (.int .i64 t.n) ∧ w'.cell? ⟨X, 3, none⟩ = some (.slice t.a t.ks.length t.c) ∧ w'.cell? ⟨Y + 1, 1, none⟩ = some (.int .i64 2) ∧ w'.cell? ⟨Y + 1 + 1, 1, none⟩ = some (.int .i64 1))
                (first | exact ⟨v0, v1, v2, v3, c0, c1, c2, c3, cs, cm⟩ | assumption | exact ten_keep (by assumption) (by assumption))
                ((first
                  | (go_at_call 11; revert P1; intro P1; ((with_reducible refine (HSZ.out _ P1.wr.tin).mono ?_)); rintro e w21 ⟨rfl, hb21⟩; have P2 := P1.later hb21)
                  | (go_at_call 11; ((with_reducible refine (CZ.out _ PD).mono ?_)); rintro e w20 ⟨rfl, hb20⟩; have P1 := PD.later hb20)
                  | (go_at_call 13; revert P3; intro P3; ((with_reducible refine (HDP.out _ P3.wr.tin).mono ?_)); rintro e w23 ⟨rfl, hb23⟩)
                  | (go_at_call 13; ((with_reducible refine (CD.out _ P2).mono ?_)); rintro e w22 ⟨rfl, hb22⟩; have P3 := P2.later hb22)))
              go_wp2
              go_roundw
              case rel => exact ⟨_, rfl, by simp, P3.wr.later hb23, (by repeat (first | exact BB | (refine bon ?_ (by assumption)) | refine bdrewN ?_ _ | refine bdrew ?_))⟩
              case measure => simp [intOf]
            · obtain ⟨e1, e2⟩ := EE.2 hsq
              rw [e1, e2] at CS
              have qs : ((t.srt : Int) == 2) = false := beq_eq_false_iff_ne.2 (by omega)
              clear e1 e2 EE hsq
              unfold Tm.val at CS CZ CD
              simp only [wrapU, Tm.op, Tm.nm, Tm.n, Tm.a, Tm.ks, Tm.c, List.length_cons, List.length_nil, Nat.zero_add] at CS CZ CD
              go_wp2_with fail
              ((with_reducible refine (CS.out _ U).mono ?_)); rintro e w8 ⟨rfl, hb8⟩
              have P0 := U.later hb8
              have BB := bon (bon hb hbd) hb8
              clear v0 v1 v2 v3 co U CS hb hbd hb8
              obtain ⟨-, v0, v1, v2, v3, -⟩ := id P0
              obtain ⟨c0, c1, c2, c3⟩ := P0.wr.box
              simp only [Nat.zero_add] at c1 c2 c3
              have cs := P0.wr.r1.2.1
              have PD := P0.later (bdrew (Below.refl w8.heap.size w8))
              go_wp2_with fail
              have cm := P0.wr.r2.2.1
              refine wp_region_held_drew (S := fun w' => w'.cell? ⟨b, 0, none⟩ = some (.int .i64 3) ∧ w'.cell? ⟨b, 1, none⟩ = some (.string ⟨#[]⟩) ∧ w'.cell? ⟨b, 2, none⟩ = some (.int .i64 0) ∧ w'.cell? ⟨b, 3, none⟩ = some (.slice (some ⟨g, 0, none⟩) 1 1) ∧ w'.cell? ⟨X, 0, none⟩ = some (.int .i64 t.op) ∧ w'.cell? ⟨X, 1, none⟩ = some (.string t.nm) ∧ w'.cell? ⟨X, 2, none⟩ = some (.int .i64 t.n) ∧ w'.cell? ⟨X, 3, none⟩ = some (.slice t.a t.ks.length t.c) ∧ w'.cell? ⟨Y + 1, 1, none⟩ = some (.int .i64 2) ∧ w'.cell? ⟨Y + 1 + 1, 1, none⟩ = some (.int .i64 1)) (by kernel_rfl) ⟨v0, v1, v2, v3, c0, c1, c2, c3, cs, cm⟩ (fun hHeld => ?_)
              refine wpAnyH_take (i := 0) (v := ?_) rfl (by kernel_rfl) (by kernel_rfl) (by kernel_rfl) (fun _ _ _ h => h) (Or.inl ⟨by rfl, ?_⟩) (by assumption) ?_
              rotate_left
              · (intro w hSw; (try dsimp only at hSw); go_simp; try with_reducible rfl)
              simp only [Act.put, List.getElem_toArray, List.getElem_cons_zero, List.setIfInBounds_toArray, List.set_cons_zero, List.set_cons_succ]
              refine wpAnyH_take (i := 1) (v := ?_) rfl (by kernel_rfl) (by kernel_rfl) (by kernel_rfl) (fun _ _ _ h => h) (Or.inl ⟨by rfl, ?_⟩) (by assumption) ?_
              rotate_left
              · (intro w hSw; (try dsimp only at hSw); go_simp; try with_reducible rfl)
              simp only [Act.put, List.getElem_toArray, List.getElem_cons_succ, List.getElem_cons_zero, List.setIfInBounds_toArray, List.set_cons_zero, List.set_cons_succ]
              refine wpAnyH_take (i := 2) (v := ?_) rfl (by kernel_rfl) (by kernel_rfl) (by kernel_rfl) (fun _ _ _ h => h) (Or.inl ⟨by rfl, ?_⟩) (by assumption) ?_
              rotate_left
              · (intro w hSw; (try dsimp only at hSw); go_simp; try with_reducible rfl)
              simp only [Act.put, List.getElem_toArray, List.getElem_cons_succ, List.getElem_cons_zero, List.setIfInBounds_toArray, List.set_cons_zero, List.set_cons_succ]
              refine wpAnyH_take (i := 3) (v := ?_) rfl (by kernel_rfl) (by kernel_rfl) (by kernel_rfl) (fun _ _ _ h => h) (Or.inl ⟨by rfl, ?_⟩) (by assumption) ?_
              rotate_left
              · (intro w hSw; (try dsimp only at hSw); go_simp; try with_reducible rfl)
              simp only [Act.put, List.getElem_toArray, List.getElem_cons_succ, List.getElem_cons_zero, List.setIfInBounds_toArray, List.set_cons_zero, List.set_cons_succ]
              refine wpAnyH_take (i := 4) (v := ?_) rfl (by kernel_rfl) (by kernel_rfl) (by kernel_rfl) (fun _ _ _ h => h) (Or.inl ⟨by rfl, ?_⟩) (by assumption) ?_
              rotate_left
              · (intro w hSw; (try dsimp only at hSw); go_simp; try with_reducible rfl)
              simp only [Act.put, List.getElem_toArray, List.getElem_cons_succ, List.getElem_cons_zero, List.setIfInBounds_toArray, List.set_cons_zero, List.set_cons_succ]
              refine wpAnyH_take (i := 5) (v := ?_) rfl (by kernel_rfl) (by kernel_rfl) (by kernel_rfl) (fun _ _ _ h => h) (Or.inl ⟨by rfl, ?_⟩) (by assumption) ?_
              rotate_left
              · (intro w hSw; (try dsimp only at hSw); go_simp; try with_reducible rfl)
              simp only [Act.put, List.getElem_toArray, List.getElem_cons_succ, List.getElem_cons_zero, List.setIfInBounds_toArray, List.set_cons_zero, List.set_cons_succ]
              refine wpAnyH_take (i := 6) (v := ?_) rfl (by kernel_rfl) (by kernel_rfl) (by kernel_rfl) (fun _ _ _ h => h) (Or.inl ⟨by rfl, ?_⟩) (by assumption) ?_
              rotate_left
              · (intro w hSw; (try dsimp only at hSw); go_simp; try with_reducible rfl)
              simp only [Act.put, List.getElem_toArray, List.getElem_cons_succ, List.getElem_cons_zero, List.setIfInBounds_toArray, List.set_cons_zero, List.set_cons_succ]
              refine wpAnyH_take (i := 7) (v := ?_) rfl (by kernel_rfl) (by kernel_rfl) (by kernel_rfl) (fun _ _ _ h => h) (Or.inl ⟨by rfl, ?_⟩) (by assumption) ?_
              rotate_left
              · (intro w hSw; (try dsimp only at hSw); go_simp; try with_reducible rfl)
              simp only [Act.put, List.getElem_toArray, List.getElem_cons_succ, List.getElem_cons_zero, List.setIfInBounds_toArray, List.set_cons_zero, List.set_cons_succ]
              refine wpAnyH_take (i := 8) (v := ?_) rfl (by kernel_rfl) (by kernel_rfl) (by kernel_rfl) (fun _ _ _ h => h) (Or.inl ⟨by rfl, ?_⟩) (by assumption) ?_
              rotate_left
              · (intro w hSw; (try dsimp only at hSw); go_simp; try with_reducible rfl)
              simp only [Act.put, List.getElem_toArray, List.getElem_cons_succ, List.getElem_cons_zero, List.setIfInBounds_toArray, List.set_cons_zero, List.set_cons_succ]
              refine wpAnyH_take (i := 9) (v := ?_) rfl (by kernel_rfl) (by kernel_rfl) (by kernel_rfl) (fun _ _ _ h => h) (Or.inl ⟨by rfl, ?_⟩) (by assumption) ?_
              rotate_left
              · (intro w hSw; (try dsimp only at hSw); go_simp; try with_reducible rfl)
              simp only [Act.put, List.getElem_toArray, List.getElem_cons_succ, List.getElem_cons_zero, List.setIfInBounds_toArray, List.set_cons_zero, List.set_cons_succ]
              refine wpAnyH_take (i := 10) (v := ?_) rfl (by kernel_rfl) (by kernel_rfl) (by kernel_rfl) (fun _ _ _ h => h) (Or.inl ⟨by rfl, ?_⟩) (by assumption) ?_
              rotate_left
              · (intro w hSw; (try dsimp only at hSw); go_simp; try with_reducible rfl)
              simp only [Act.put, List.getElem_toArray, List.getElem_cons_succ, List.getElem_cons_zero, List.setIfInBounds_toArray, List.set_cons_zero, List.set_cons_succ]
              refine wpAnyH_take (i := 11) (v := ?_) rfl (by kernel_rfl) (by kernel_rfl) (by kernel_rfl) (fun _ _ _ h => h) (Or.inl ⟨by rfl, ?_⟩) (by assumption) ?_
              rotate_left
              · (intro w hSw; (try dsimp only at hSw); go_simp; try with_reducible rfl)
              simp only [Act.put, List.getElem_toArray, List.getElem_cons_succ, List.getElem_cons_zero, List.setIfInBounds_toArray, List.set_cons_zero, List.set_cons_succ]
              refine wpAnyH_take (i := 12) (v := ?_) rfl (by kernel_rfl) (by kernel_rfl) (by kernel_rfl) (fun _ _ _ h => h) (Or.inl ⟨by rfl, ?_⟩) (by assumption) ?_
              rotate_left
              · (intro w hSw; (try dsimp only at hSw); go_simp; try with_reducible rfl)
              simp only [Act.put, List.getElem_toArray, List.getElem_cons_succ, List.getElem_cons_zero, List.setIfInBounds_toArray, List.set_cons_zero, List.set_cons_succ]
              refine wpAnyH_take (i := 13) (v := undef) rfl (by kernel_rfl) (by kernel_rfl) (by kernel_rfl) (fun _ _ _ h => h) (Or.inr ⟨by rfl, rfl⟩) (by assumption) ?_
              simp only [Act.put, List.getElem_toArray, List.getElem_cons_succ, List.getElem_cons_zero, List.setIfInBounds_toArray, List.set_cons_zero, List.set_cons_succ]
              refine wpAnyH_take (i := 14) (v := undef) rfl (by kernel_rfl) (by kernel_rfl) (by kernel_rfl) (fun _ _ _ h => h) (Or.inr ⟨by rfl, rfl⟩) (by assumption) ?_
              simp only [Act.put, List.getElem_toArray, List.getElem_cons_succ, List.getElem_cons_zero, List.setIfInBounds_toArray, List.set_cons_zero, List.set_cons_succ]
              refine wpAnyH_take (i := 15) (v := undef) rfl (by kernel_rfl) (by kernel_rfl) (by kernel_rfl) (fun _ _ _ h => h) (Or.inr ⟨by rfl, rfl⟩) (by assumption) ?_
              simp only [Act.put, List.getElem_toArray, List.getElem_cons_succ, List.getElem_cons_zero, List.setIfInBounds_toArray, List.set_cons_zero, List.set_cons_succ]
              refine wpAnyH_take (i := 16) (v := undef) rfl (by kernel_rfl) (by kernel_rfl) (by kernel_rfl) (fun _ _ _ h => h) (Or.inr ⟨by rfl, rfl⟩) (by assumption) ?_
              simp only [Act.put, List.getElem_toArray, List.getElem_cons_succ, List.getElem_cons_zero, List.setIfInBounds_toArray, List.set_cons_zero, List.set_cons_succ]
              refine wpAnyH_take (i := 17) (v := undef) rfl (by kernel_rfl) (by kernel_rfl) (by kernel_rfl) (fun _ _ _ h => h) (Or.inr ⟨by rfl, rfl⟩) (by assumption) ?_
              simp only [Act.put, List.getElem_toArray, List.getElem_cons_succ, List.getElem_cons_zero, List.setIfInBounds_toArray, List.set_cons_zero, List.set_cons_succ]
              refine wpAnyH_take (i := 18) (v := undef) rfl (by kernel_rfl) (by kernel_rfl) (by kernel_rfl) (fun _ _ _ h => h) (Or.inr ⟨by rfl, rfl⟩) (by assumption) ?_
              simp only [Act.put, List.getElem_toArray, List.getElem_cons_succ, List.getElem_cons_zero, List.setIfInBounds_toArray, List.set_cons_zero, List.set_cons_succ]
              refine wpAnyH_take (i := 19) (v := ?_) rfl (by kernel_rfl) (by kernel_rfl) (by kernel_rfl) (fun _ _ _ h => h) (Or.inl ⟨by rfl, ?_⟩) (by assumption) ?_
              rotate_left
              · (intro w hSw; (try dsimp only at hSw); go_simp; try with_reducible rfl)
              simp only [Act.put, List.getElem_toArray, List.getElem_cons_succ, List.getElem_cons_zero, List.setIfInBounds_toArray, List.set_cons_zero, List.set_cons_succ]
              refine wpAnyH_take (i := 20) (v := ?_) rfl (by kernel_rfl) (by kernel_rfl) (by kernel_rfl) (fun _ _ _ h => h) (Or.inl ⟨by rfl, ?_⟩) (by assumption) ?_
              rotate_left
              · (intro w hSw; (try dsimp only at hSw); go_simp; try with_reducible rfl)
              simp only [Act.put, List.getElem_toArray, List.getElem_cons_succ, List.getElem_cons_zero, List.setIfInBounds_toArray, List.set_cons_zero, List.set_cons_succ]
              refine wpAnyH_take (i := 21) (v := ?_) rfl (by kernel_rfl) (by kernel_rfl) (by kernel_rfl) (fun _ _ _ h => h) (Or.inl ⟨by rfl, ?_⟩) (by assumption) ?_
              rotate_left
              · (intro w hSw; (try dsimp only at hSw); go_simp; try with_reducible rfl)
              simp only [Act.put, List.getElem_toArray, List.getElem_cons_succ, List.getElem_cons_zero, List.setIfInBounds_toArray, List.set_cons_zero, List.set_cons_succ]
              refine wpAnyH_take (i := 22) (v := ?_) rfl (by kernel_rfl) (by kernel_rfl) (by kernel_rfl) (fun _ _ _ h => h) (Or.inl ⟨by rfl, ?_⟩) (by assumption) ?_
              rotate_left
              · (intro w hSw; (try dsimp only at hSw); go_simp; try with_reducible rfl)
              simp only [Act.put, List.getElem_toArray, List.getElem_cons_succ, List.getElem_cons_zero, List.setIfInBounds_toArray, List.set_cons_zero, List.set_cons_succ]
              refine wpAnyH_take (i := 24) (v := ?_) rfl (by kernel_rfl) (by kernel_rfl) (by kernel_rfl) (fun _ _ _ h => h) (Or.inl ⟨by rfl, ?_⟩) (by assumption) ?_
              rotate_left
              · (intro w hSw; (try dsimp only at hSw); go_simp; try with_reducible rfl)
              simp only [Act.put, List.getElem_toArray, List.getElem_cons_succ, List.getElem_cons_zero, List.setIfInBounds_toArray, List.set_cons_zero, List.set_cons_succ]
              refine wpAnyH_ready (rs := [23]) (by kernel_rfl) (by simp) ?_
              refine AllReadyH.cons rfl (fun K hK => ?_) AllReadyH.nil
              go_simp
              go_wp2_with (go_at_call 11; ((with_reducible refine (CZ.out _ PD).mono ?_)); rintro e w20 ⟨rfl, hb20⟩; have P1 := PD.later hb20)
              refine hK.out _ _ (ten_keep (by assumption) hb20) (fun hHeld => ?_)
              clear hK
              refine wpAnyH_ready (rs := [25]) (by kernel_rfl) (by simp) ?_
              refine AllReadyH.cons rfl (fun K hK => ?_) AllReadyH.nil
              go_simp
              go_wp2_with (go_at_call 11; ((with_reducible refine (HSZ.out _ P1.wr.tin).mono ?_)); rintro e w21 ⟨rfl, hb21⟩; have P2 := P1.later hb21)
              refine hK.out _ _ (ten_keep (by assumption) hb21) (fun hHeld => ?_)
              clear hK
              refine wpAnyH_take (i := 26) (v := ?_) rfl (by kernel_rfl) (by kernel_rfl) (by kernel_rfl) (fun _ _ _ h => h) (Or.inl ⟨by rfl, ?_⟩) (by assumption) ?_
              rotate_left
              · (intro w hSw; (try dsimp only at hSw); go_simp; try with_reducible rfl)
              simp only [Act.put, List.getElem_toArray, List.getElem_cons_succ, List.getElem_cons_zero, List.setIfInBounds_toArray, List.set_cons_zero, List.set_cons_succ]
              refine wpAnyH_take (i := 27) (v := ?_) rfl (by kernel_rfl) (by kernel_rfl) (by kernel_rfl) (fun _ _ _ h => h) (Or.inl ⟨by rfl, ?_⟩) (by assumption) ?_
              rotate_left
              · (intro w hSw; (try dsimp only at hSw); go_simp; try with_reducible rfl)
              simp only [Act.put, List.getElem_toArray, List.getElem_cons_succ, List.getElem_cons_zero, List.setIfInBounds_toArray, List.set_cons_zero, List.set_cons_succ]
              refine wpAnyH_take (i := 28) (v := ?_) rfl (by kernel_rfl) (by kernel_rfl) (by kernel_rfl) (fun _ _ _ h => h) (Or.inl ⟨by rfl, ?_⟩) (by assumption) ?_
              rotate_left
              · (intro w hSw; (try dsimp only at hSw); go_simp; try with_reducible rfl)
              simp only [Act.put, List.getElem_toArray, List.getElem_cons_succ, List.getElem_cons_zero, List.setIfInBounds_toArray, List.set_cons_zero, List.set_cons_succ]
              refine wpAnyH_take (i := 29) (v := ?_) rfl (by kernel_rfl) (by kernel_rfl) (by kernel_rfl) (fun _ _ _ h => h) (Or.inl ⟨by rfl, ?_⟩) (by assumption) ?_
              rotate_left
              · (intro w hSw; (try dsimp only at hSw); go_simp; try with_reducible rfl)
              simp only [Act.put, List.getElem_toArray, List.getElem_cons_succ, List.getElem_cons_zero, List.setIfInBounds_toArray, List.set_cons_zero, List.set_cons_succ]
              refine wpAnyH_take (i := 30) (v := ?_) rfl (by kernel_rfl) (by kernel_rfl) (by kernel_rfl) (fun _ _ _ h => h) (Or.inl ⟨by rfl, ?_⟩) (by assumption) ?_
              rotate_left
              · (intro w hSw; (try dsimp only at hSw); go_simp; try with_reducible rfl)
              simp only [Act.put, List.getElem_toArray, List.getElem_cons_succ, List.getElem_cons_zero, List.setIfInBounds_toArray, List.set_cons_zero, List.set_cons_succ]
              refine wpAnyH_take (i := 32) (v := ?_) rfl (by kernel_rfl) (by kernel_rfl) (by kernel_rfl) (fun _ _ _ h => h) (Or.inl ⟨by rfl, ?_⟩) (by assumption) ?_
              rotate_left
              · (intro w hSw; (try dsimp only at hSw); go_simp; try with_reducible rfl)
              simp only [Act.put, List.getElem_toArray, List.getElem_cons_succ, List.getElem_cons_zero, List.setIfInBounds_toArray, List.set_cons_zero, List.set_cons_succ]
              refine wpAnyH_ready (rs := [31]) (by kernel_rfl) (by simp) ?_
              refine AllReadyH.cons rfl (fun K hK => ?_) AllReadyH.nil
              go_simp
              go_wp2_with (go_at_call 13; ((with_reducible refine (CD.out _ P2).mono ?_)); rintro e w22 ⟨rfl, hb22⟩; have P3 := P2.later hb22)
              refine hK.out _ _ (ten_keep (by assumption) hb22) (fun hHeld => ?_)
              clear hK
              refine wpAnyH_ready (rs := [33]) (by kernel_rfl) (by simp) ?_
              refine AllReadyH.cons rfl (fun K hK => ?_) AllReadyH.nil
              go_simp
              go_wp2_with (go_at_call 13; ((with_reducible refine (HDP.out _ P3.wr.tin).mono ?_)); rintro e w23 ⟨rfl, hb23⟩; skip)
              refine hK.out _ _ (ten_keep (by assumption) hb23) (fun hHeld => ?_)
              clear hK
              refine wpAnyH_take (i := 34) (v := ?_) rfl (by kernel_rfl) (by kernel_rfl) (by kernel_rfl) (fun _ _ _ h => h) (Or.inl ⟨by rfl, ?_⟩) (by assumption) ?_
              rotate_left
              · (intro w hSw; (try dsimp only at hSw); go_simp; try with_reducible rfl)
              simp only [Act.put, List.getElem_toArray, List.getElem_cons_succ, List.getElem_cons_zero, List.setIfInBounds_toArray, List.set_cons_zero, List.set_cons_succ]
              refine wpAnyH_take (i := 35) (v := ?_) rfl (by kernel_rfl) (by kernel_rfl) (by kernel_rfl) (fun _ _ _ h => h) (Or.inl ⟨by rfl, ?_⟩) (by assumption) ?_
              rotate_left
              · (intro w hSw; (try dsimp only at hSw); go_simp; try with_reducible rfl)
              simp only [Act.put, List.getElem_toArray, List.getElem_cons_succ, List.getElem_cons_zero, List.setIfInBounds_toArray, List.set_cons_zero, List.set_cons_succ]
              refine wpAnyH_take (i := 36) (v := ?_) rfl (by kernel_rfl) (by kernel_rfl) (by kernel_rfl) (fun _ _ _ h => h) (Or.inl ⟨by rfl, ?_⟩) (by assumption) ?_
              rotate_left
              · (intro w hSw; (try dsimp only at hSw); go_simp; try with_reducible rfl)
              simp only [Act.put, List.getElem_toArray, List.getElem_cons_succ, List.getElem_cons_zero, List.setIfInBounds_toArray, List.set_cons_zero, List.set_cons_succ]
              refine wpAnyH_done (by kernel_rfl) ?_ _
              go_wp2
              go_roundw
              case rel => exact ⟨_, rfl, by simp, P3.wr.later hb23, (by repeat (first | exact BB | (refine bon ?_ (by assumption)) | refine bdrewN ?_ _ | refine bdrew ?_))⟩
              case measure => simp [intOf]
        · obtain ⟨c0, c1, c2, c3⟩ := R.box
          simp only [Nat.zero_add] at c1 c2 c3
          have co := R.r0.2.2.1
          have HR := mkHid R
          have hXl := four_lt R.box
          have hYl : Y < wr.heap.size := World.block_lt_of_cell? _ _ co
          clear R
          go_wp2_with fail
          go_cut [12] (fun s12 wx => ∃ b g : Nat, s12 = .pointer (some ⟨b, 0, none⟩) ∧ UR X Y b g 10 0 t wx ∧ wx.frozen? ⟨b, 2, none⟩ = false ∧ Below wr.heap.size wr wx ∧ wr.heap.size ≤ b ∧ g ≠ b)
          case first =>
            go_region_held2 (fun w' => w'.cell? ⟨X, 0, none⟩ = some (.int .i64 t.op) ∧ w'.cell? ⟨X, 1, none⟩ = some (.string t.nm) ∧ w'.cell? ⟨X, 2, none⟩ = some (.int .i64 t.n) ∧ w'.cell? ⟨X, 3, none⟩ = some (.slice t.a t.ks.length t.c) ∧ w'.cell? ⟨Y, 2, none⟩ = some (.int .i64 10))
              (first | exact ⟨c0, c1, c2, c3, co⟩ | assumption | exact five_keep ⟨c0, c1, c2, c3, co⟩ (by repeat (first | exact Below.refl _ _ | refine bdrew ?_ | refine bal ?_ _))) ((fail))
            all_goals
              go_wp2_with fail
              go_meet
              first
                | (refine ⟨wr.heap.size, wr.heap.size + 1, rfl, ?_⟩
                   exact ⟨⟨HR.out.later (by repeat (first | exact Below.refl _ _ | refine bdrew ?_ | refine bal ?_ _)), by simp [go_sem], by simp [go_sem], by simp [go_sem], by simp [go_sem], by simp [Four, go_sem]⟩, by simp [go_sem], (by repeat (first | exact Below.refl _ _ | refine bdrew ?_ | refine bal ?_ _)), by omega, by omega⟩)
                | (refine ⟨wr.heap.size + 1, wr.heap.size, rfl, ?_⟩
                   exact ⟨⟨HR.out.later (by repeat (first | exact Below.refl _ _ | refine bdrew ?_ | refine bal ?_ _)), by simp [go_sem], by simp [go_sem], by simp [go_sem], by simp [go_sem], by simp [Four, go_sem]⟩, by simp [go_sem], (by repeat (first | exact Below.refl _ _ | refine bdrew ?_ | refine bal ?_ _)), by omega, by omega⟩)
          case rest =>
            obtain ⟨b, g, rfl, U, fz, hbx, hbl, gb⟩ := hcut
            clear c0 c1 c2 c3 co
            have hbd := hbx
            have HRd := mkHid U
            have co := U.wr.r0.2.2.1
            obtain ⟨-, v0, v1, v2, v3, -⟩ := id U
            have EE := wrap_err (op := 10) (n := 0) (g := g) (t := t) (so := 3) (ma := 2) hz1 hd1 (sort_one t.srt hs5) (by decide)
            have CS := mkHid (fun w (h : UR X Y b g 10 0 t w) => sort_any (wrapU 10 0 g t) w (h.tin (by decide) (by decide)) h.wr.s)
            have CZ := mkHid (fun w (h : UR X Y b g 10 0 t w) => size_any (wrapU 10 0 g t) w (h.tin (by decide) (by decide)))
            have CD := mkHid (fun w (h : UR X Y b g 10 0 t w) => deep_small (wrapU 10 0 g t) w (h.tin (by decide) (by decide)) (by rw [wrap_size]; omega))
            rw [wrap_size, show min 2001 (t.size + 1) = t.size + 1 by omega, show ((t.size + 1 : Nat) : Int) = (t.size : Int) + 1 by omega] at CZ
            rw [wrap_deep, show min 101 (t.deep + 1) = t.deep + 1 by omega, show ((t.deep + 1 : Nat) : Int) = (t.deep : Int) + 1 by omega] at CD
            have zz : (t.size : Int) + 1 ≤ 2000 := by omega
            have dd : (t.deep : Int) + 1 ≤ 100 := by omega
            have W1 : IntKind.i64.wrap ((t.size : Int) + 1) = (t.size : Int) + 1 := IntWalk.i64_in _ (by omega)
            have W2 : IntKind.i64.wrap ((t.deep : Int) + 1) = (t.deep : Int) + 1 := IntWalk.i64_in _ (by omega)
            by_cases hsq : t.srt = 3
            · obtain ⟨e1, e2⟩ := EE.1 hsq
              rw [e1, e2] at CS
              have qs : ((t.srt : Int) == 3) = true := by rw [hsq]; rfl
              clear e1 e2 EE hsq
              unfold Tm.val at CS CZ CD
              simp only [wrapU, Tm.op, Tm.nm, Tm.n, Tm.a, Tm.ks, Tm.c, List.length_cons, List.length_nil, Nat.zero_add] at CS CZ CD
              go_wp2_with fail
              ((with_reducible refine (CS.out _ U).mono ?_)); rintro e w8 ⟨rfl, hb8⟩
              have P0 := U.later hb8
              have BB := bon (bon hb hbd) hb8
              clear v0 v1 v2 v3 co U CS hb hbd hb8
              obtain ⟨-, v0, v1, v2, v3, -⟩ := id P0
              obtain ⟨c0, c1, c2, c3⟩ := P0.wr.box
              simp only [Nat.zero_add] at c1 c2 c3
              have cs := P0.wr.r1.2.2.1
              have cm := P0.wr.r2.2.2.1
              have PD := P0.later (bdrew (Below.refl w8.heap.size w8))
              go_wp2_with fail
              go_region_held2 (fun w' => w'.cell? ⟨b, 0, none⟩ = some (.int .i64 10) ∧ w'.cell? ⟨b, 1, none⟩ = some (.string ⟨#[]⟩) ∧ w'.cell? ⟨b, 2, none⟩ = some (.int .i64 0) ∧ w'.cell? ⟨b, 3, none⟩ = some (.slice (some ⟨g, 0, none⟩) 1 1) ∧ w'.cell? ⟨X, 0, none⟩ = some (.int .i64 t.op) ∧ w'.cell? ⟨X, 1, none⟩ = some (.string t.nm) ∧ w'.cell? ⟨X, 2, none⟩ = some (.int .i64 t.n) ∧ w'.cell? ⟨X, 3, none⟩ = some (.slice t.a t.ks.length t.c) ∧ w'.cell? ⟨Y + 1, 2, none⟩ = some (.int .i64 3) ∧ w'.cell? ⟨Y + 1 + 1, 2, none⟩ = some (.int .i64 2))
                (first | exact ⟨v0, v1, v2, v3, c0, c1, c2, c3, cs, cm⟩ | assumption | exact ten_keep (by assumption) (by assumption))
                ((first
                  | (go_at_call 11; revert P1; intro P1; ((with_reducible refine (HSZ.out _ P1.wr.tin).mono ?_)); rintro e w21 ⟨rfl, hb21⟩; have P2 := P1.later hb21)
                  | (go_at_call 11; ((with_reducible refine (CZ.out _ PD).mono ?_)); rintro e w20 ⟨rfl, hb20⟩; have P1 := PD.later hb20)
                  | (go_at_call 13; revert P3; intro P3; ((with_reducible refine (HDP.out _ P3.wr.tin).mono ?_)); rintro e w23 ⟨rfl, hb23⟩)
                  | (go_at_call 13; ((with_reducible refine (CD.out _ P2).mono ?_)); rintro e w22 ⟨rfl, hb22⟩; have P3 := P2.later hb22)))
              go_wp2
              go_roundw
              case rel => exact ⟨_, rfl, by simp, P3.wr.later hb23, (by repeat (first | exact BB | (refine bon ?_ (by assumption)) | refine bdrewN ?_ _ | refine bdrew ?_))⟩
              case measure => simp [intOf]
            · obtain ⟨e1, e2⟩ := EE.2 hsq
              rw [e1, e2] at CS
              have qs : ((t.srt : Int) == 3) = false := beq_eq_false_iff_ne.2 (by omega)
              clear e1 e2 EE hsq
              unfold Tm.val at CS CZ CD
              simp only [wrapU, Tm.op, Tm.nm, Tm.n, Tm.a, Tm.ks, Tm.c, List.length_cons, List.length_nil, Nat.zero_add] at CS CZ CD
              go_wp2_with fail
              ((with_reducible refine (CS.out _ U).mono ?_)); rintro e w8 ⟨rfl, hb8⟩
              have P0 := U.later hb8
              have BB := bon (bon hb hbd) hb8
              clear v0 v1 v2 v3 co U CS hb hbd hb8
              obtain ⟨-, v0, v1, v2, v3, -⟩ := id P0
              obtain ⟨c0, c1, c2, c3⟩ := P0.wr.box
              simp only [Nat.zero_add] at c1 c2 c3
              have cs := P0.wr.r1.2.2.1
              have PD := P0.later (bdrew (Below.refl w8.heap.size w8))
              go_wp2_with fail
              have cm := P0.wr.r2.2.2.1
              refine wp_region_held_drew (S := fun w' => w'.cell? ⟨b, 0, none⟩ = some (.int .i64 10) ∧ w'.cell? ⟨b, 1, none⟩ = some (.string ⟨#[]⟩) ∧ w'.cell? ⟨b, 2, none⟩ = some (.int .i64 0) ∧ w'.cell? ⟨b, 3, none⟩ = some (.slice (some ⟨g, 0, none⟩) 1 1) ∧ w'.cell? ⟨X, 0, none⟩ = some (.int .i64 t.op) ∧ w'.cell? ⟨X, 1, none⟩ = some (.string t.nm) ∧ w'.cell? ⟨X, 2, none⟩ = some (.int .i64 t.n) ∧ w'.cell? ⟨X, 3, none⟩ = some (.slice t.a t.ks.length t.c) ∧ w'.cell? ⟨Y + 1, 2, none⟩ = some (.int .i64 3) ∧ w'.cell? ⟨Y + 1 + 1, 2, none⟩ = some (.int .i64 2)) (by kernel_rfl) ⟨v0, v1, v2, v3, c0, c1, c2, c3, cs, cm⟩ (fun hHeld => ?_)
              refine wpAnyH_take (i := 0) (v := ?_) rfl (by kernel_rfl) (by kernel_rfl) (by kernel_rfl) (fun _ _ _ h => h) (Or.inl ⟨by rfl, ?_⟩) (by assumption) ?_
              rotate_left
              · (intro w hSw; (try dsimp only at hSw); go_simp; try with_reducible rfl)
              simp only [Act.put, List.getElem_toArray, List.getElem_cons_zero, List.setIfInBounds_toArray, List.set_cons_zero, List.set_cons_succ]
              refine wpAnyH_take (i := 1) (v := ?_) rfl (by kernel_rfl) (by kernel_rfl) (by kernel_rfl) (fun _ _ _ h => h) (Or.inl ⟨by rfl, ?_⟩) (by assumption) ?_
              rotate_left
              · (intro w hSw; (try dsimp only at hSw); go_simp; try with_reducible rfl)
              simp only [Act.put, List.getElem_toArray, List.getElem_cons_succ, List.getElem_cons_zero, List.setIfInBounds_toArray, List.set_cons_zero, List.set_cons_succ]
              refine wpAnyH_take (i := 2) (v := ?_) rfl (by kernel_rfl) (by kernel_rfl) (by kernel_rfl) (fun _ _ _ h => h) (Or.inl ⟨by rfl, ?_⟩) (by assumption) ?_
              rotate_left
              · (intro w hSw; (try dsimp only at hSw); go_simp; try with_reducible rfl)
              simp only [Act.put, List.getElem_toArray, List.getElem_cons_succ, List.getElem_cons_zero, List.setIfInBounds_toArray, List.set_cons_zero, List.set_cons_succ]
              refine wpAnyH_take (i := 3) (v := ?_) rfl (by kernel_rfl) (by kernel_rfl) (by kernel_rfl) (fun _ _ _ h => h) (Or.inl ⟨by rfl, ?_⟩) (by assumption) ?_
              rotate_left
              · (intro w hSw; (try dsimp only at hSw); go_simp; try with_reducible rfl)
              simp only [Act.put, List.getElem_toArray, List.getElem_cons_succ, List.getElem_cons_zero, List.setIfInBounds_toArray, List.set_cons_zero, List.set_cons_succ]
              refine wpAnyH_take (i := 4) (v := ?_) rfl (by kernel_rfl) (by kernel_rfl) (by kernel_rfl) (fun _ _ _ h => h) (Or.inl ⟨by rfl, ?_⟩) (by assumption) ?_
              rotate_left
              · (intro w hSw; (try dsimp only at hSw); go_simp; try with_reducible rfl)
              simp only [Act.put, List.getElem_toArray, List.getElem_cons_succ, List.getElem_cons_zero, List.setIfInBounds_toArray, List.set_cons_zero, List.set_cons_succ]
              refine wpAnyH_take (i := 5) (v := ?_) rfl (by kernel_rfl) (by kernel_rfl) (by kernel_rfl) (fun _ _ _ h => h) (Or.inl ⟨by rfl, ?_⟩) (by assumption) ?_
              rotate_left
              · (intro w hSw; (try dsimp only at hSw); go_simp; try with_reducible rfl)
              simp only [Act.put, List.getElem_toArray, List.getElem_cons_succ, List.getElem_cons_zero, List.setIfInBounds_toArray, List.set_cons_zero, List.set_cons_succ]
              refine wpAnyH_take (i := 6) (v := ?_) rfl (by kernel_rfl) (by kernel_rfl) (by kernel_rfl) (fun _ _ _ h => h) (Or.inl ⟨by rfl, ?_⟩) (by assumption) ?_
              rotate_left
              · (intro w hSw; (try dsimp only at hSw); go_simp; try with_reducible rfl)
              simp only [Act.put, List.getElem_toArray, List.getElem_cons_succ, List.getElem_cons_zero, List.setIfInBounds_toArray, List.set_cons_zero, List.set_cons_succ]
              refine wpAnyH_take (i := 7) (v := ?_) rfl (by kernel_rfl) (by kernel_rfl) (by kernel_rfl) (fun _ _ _ h => h) (Or.inl ⟨by rfl, ?_⟩) (by assumption) ?_
              rotate_left
              · (intro w hSw; (try dsimp only at hSw); go_simp; try with_reducible rfl)
              simp only [Act.put, List.getElem_toArray, List.getElem_cons_succ, List.getElem_cons_zero, List.setIfInBounds_toArray, List.set_cons_zero, List.set_cons_succ]
              refine wpAnyH_take (i := 8) (v := ?_) rfl (by kernel_rfl) (by kernel_rfl) (by kernel_rfl) (fun _ _ _ h => h) (Or.inl ⟨by rfl, ?_⟩) (by assumption) ?_
              rotate_left
              · (intro w hSw; (try dsimp only at hSw); go_simp; try with_reducible rfl)
              simp only [Act.put, List.getElem_toArray, List.getElem_cons_succ, List.getElem_cons_zero, List.setIfInBounds_toArray, List.set_cons_zero, List.set_cons_succ]
              refine wpAnyH_take (i := 9) (v := ?_) rfl (by kernel_rfl) (by kernel_rfl) (by kernel_rfl) (fun _ _ _ h => h) (Or.inl ⟨by rfl, ?_⟩) (by assumption) ?_
              rotate_left
              · (intro w hSw; (try dsimp only at hSw); go_simp; try with_reducible rfl)
              simp only [Act.put, List.getElem_toArray, List.getElem_cons_succ, List.getElem_cons_zero, List.setIfInBounds_toArray, List.set_cons_zero, List.set_cons_succ]
              refine wpAnyH_take (i := 10) (v := ?_) rfl (by kernel_rfl) (by kernel_rfl) (by kernel_rfl) (fun _ _ _ h => h) (Or.inl ⟨by rfl, ?_⟩) (by assumption) ?_
              rotate_left
              · (intro w hSw; (try dsimp only at hSw); go_simp; try with_reducible rfl)
              simp only [Act.put, List.getElem_toArray, List.getElem_cons_succ, List.getElem_cons_zero, List.setIfInBounds_toArray, List.set_cons_zero, List.set_cons_succ]
              refine wpAnyH_take (i := 11) (v := ?_) rfl (by kernel_rfl) (by kernel_rfl) (by kernel_rfl) (fun _ _ _ h => h) (Or.inl ⟨by rfl, ?_⟩) (by assumption) ?_
              rotate_left
              · (intro w hSw; (try dsimp only at hSw); go_simp; try with_reducible rfl)
              simp only [Act.put, List.getElem_toArray, List.getElem_cons_succ, List.getElem_cons_zero, List.setIfInBounds_toArray, List.set_cons_zero, List.set_cons_succ]
              refine wpAnyH_take (i := 12) (v := ?_) rfl (by kernel_rfl) (by kernel_rfl) (by kernel_rfl) (fun _ _ _ h => h) (Or.inl ⟨by rfl, ?_⟩) (by assumption) ?_
              rotate_left
              · (intro w hSw; (try dsimp only at hSw); go_simp; try with_reducible rfl)
              simp only [Act.put, List.getElem_toArray, List.getElem_cons_succ, List.getElem_cons_zero, List.setIfInBounds_toArray, List.set_cons_zero, List.set_cons_succ]
              refine wpAnyH_take (i := 13) (v := undef) rfl (by kernel_rfl) (by kernel_rfl) (by kernel_rfl) (fun _ _ _ h => h) (Or.inr ⟨by rfl, rfl⟩) (by assumption) ?_
              simp only [Act.put, List.getElem_toArray, List.getElem_cons_succ, List.getElem_cons_zero, List.setIfInBounds_toArray, List.set_cons_zero, List.set_cons_succ]
              refine wpAnyH_take (i := 14) (v := undef) rfl (by kernel_rfl) (by kernel_rfl) (by kernel_rfl) (fun _ _ _ h => h) (Or.inr ⟨by rfl, rfl⟩) (by assumption) ?_
              simp only [Act.put, List.getElem_toArray, List.getElem_cons_succ, List.getElem_cons_zero, List.setIfInBounds_toArray, List.set_cons_zero, List.set_cons_succ]
              refine wpAnyH_take (i := 15) (v := undef) rfl (by kernel_rfl) (by kernel_rfl) (by kernel_rfl) (fun _ _ _ h => h) (Or.inr ⟨by rfl, rfl⟩) (by assumption) ?_
              simp only [Act.put, List.getElem_toArray, List.getElem_cons_succ, List.getElem_cons_zero, List.setIfInBounds_toArray, List.set_cons_zero, List.set_cons_succ]
              refine wpAnyH_take (i := 16) (v := undef) rfl (by kernel_rfl) (by kernel_rfl) (by kernel_rfl) (fun _ _ _ h => h) (Or.inr ⟨by rfl, rfl⟩) (by assumption) ?_
              simp only [Act.put, List.getElem_toArray, List.getElem_cons_succ, List.getElem_cons_zero, List.setIfInBounds_toArray, List.set_cons_zero, List.set_cons_succ]
              refine wpAnyH_take (i := 17) (v := undef) rfl (by kernel_rfl) (by kernel_rfl) (by kernel_rfl) (fun _ _ _ h => h) (Or.inr ⟨by rfl, rfl⟩) (by assumption) ?_
              simp only [Act.put, List.getElem_toArray, List.getElem_cons_succ, List.getElem_cons_zero, List.setIfInBounds_toArray, List.set_cons_zero, List.set_cons_succ]
              refine wpAnyH_take (i := 18) (v := undef) rfl (by kernel_rfl) (by kernel_rfl) (by kernel_rfl) (fun _ _ _ h => h) (Or.inr ⟨by rfl, rfl⟩) (by assumption) ?_
              simp only [Act.put, List.getElem_toArray, List.getElem_cons_succ, List.getElem_cons_zero, List.setIfInBounds_toArray, List.set_cons_zero, List.set_cons_succ]
              refine wpAnyH_take (i := 19) (v := ?_) rfl (by kernel_rfl) (by kernel_rfl) (by kernel_rfl) (fun _ _ _ h => h) (Or.inl ⟨by rfl, ?_⟩) (by assumption) ?_
              rotate_left
              · (intro w hSw; (try dsimp only at hSw); go_simp; try with_reducible rfl)
              simp only [Act.put, List.getElem_toArray, List.getElem_cons_succ, List.getElem_cons_zero, List.setIfInBounds_toArray, List.set_cons_zero, List.set_cons_succ]
              refine wpAnyH_take (i := 20) (v := ?_) rfl (by kernel_rfl) (by kernel_rfl) (by kernel_rfl) (fun _ _ _ h => h) (Or.inl ⟨by rfl, ?_⟩) (by assumption) ?_
              rotate_left
              · (intro w hSw; (try dsimp only at hSw); go_simp; try with_reducible rfl)
              simp only [Act.put, List.getElem_toArray, List.getElem_cons_succ, List.getElem_cons_zero, List.setIfInBounds_toArray, List.set_cons_zero, List.set_cons_succ]
              refine wpAnyH_take (i := 21) (v := ?_) rfl (by kernel_rfl) (by kernel_rfl) (by kernel_rfl) (fun _ _ _ h => h) (Or.inl ⟨by rfl, ?_⟩) (by assumption) ?_
              rotate_left
              · (intro w hSw; (try dsimp only at hSw); go_simp; try with_reducible rfl)
              simp only [Act.put, List.getElem_toArray, List.getElem_cons_succ, List.getElem_cons_zero, List.setIfInBounds_toArray, List.set_cons_zero, List.set_cons_succ]
              refine wpAnyH_take (i := 22) (v := ?_) rfl (by kernel_rfl) (by kernel_rfl) (by kernel_rfl) (fun _ _ _ h => h) (Or.inl ⟨by rfl, ?_⟩) (by assumption) ?_
              rotate_left
              · (intro w hSw; (try dsimp only at hSw); go_simp; try with_reducible rfl)
              simp only [Act.put, List.getElem_toArray, List.getElem_cons_succ, List.getElem_cons_zero, List.setIfInBounds_toArray, List.set_cons_zero, List.set_cons_succ]
              refine wpAnyH_take (i := 24) (v := ?_) rfl (by kernel_rfl) (by kernel_rfl) (by kernel_rfl) (fun _ _ _ h => h) (Or.inl ⟨by rfl, ?_⟩) (by assumption) ?_
              rotate_left
              · (intro w hSw; (try dsimp only at hSw); go_simp; try with_reducible rfl)
              simp only [Act.put, List.getElem_toArray, List.getElem_cons_succ, List.getElem_cons_zero, List.setIfInBounds_toArray, List.set_cons_zero, List.set_cons_succ]
              refine wpAnyH_ready (rs := [23]) (by kernel_rfl) (by simp) ?_
              refine AllReadyH.cons rfl (fun K hK => ?_) AllReadyH.nil
              go_simp
              go_wp2_with (go_at_call 11; ((with_reducible refine (CZ.out _ PD).mono ?_)); rintro e w20 ⟨rfl, hb20⟩; have P1 := PD.later hb20)
              refine hK.out _ _ (ten_keep (by assumption) hb20) (fun hHeld => ?_)
              clear hK
              refine wpAnyH_ready (rs := [25]) (by kernel_rfl) (by simp) ?_
              refine AllReadyH.cons rfl (fun K hK => ?_) AllReadyH.nil
              go_simp
              go_wp2_with (go_at_call 11; ((with_reducible refine (HSZ.out _ P1.wr.tin).mono ?_)); rintro e w21 ⟨rfl, hb21⟩; have P2 := P1.later hb21)
              refine hK.out _ _ (ten_keep (by assumption) hb21) (fun hHeld => ?_)
              clear hK
              refine wpAnyH_take (i := 26) (v := ?_) rfl (by kernel_rfl) (by kernel_rfl) (by kernel_rfl) (fun _ _ _ h => h) (Or.inl ⟨by rfl, ?_⟩) (by assumption) ?_
              rotate_left
              · (intro w hSw; (try dsimp only at hSw); go_simp; try with_reducible rfl)
              simp only [Act.put, List.getElem_toArray, List.getElem_cons_succ, List.getElem_cons_zero, List.setIfInBounds_toArray, List.set_cons_zero, List.set_cons_succ]
              refine wpAnyH_take (i := 27) (v := ?_) rfl (by kernel_rfl) (by kernel_rfl) (by kernel_rfl) (fun _ _ _ h => h) (Or.inl ⟨by rfl, ?_⟩) (by assumption) ?_
              rotate_left
              · (intro w hSw; (try dsimp only at hSw); go_simp; try with_reducible rfl)
              simp only [Act.put, List.getElem_toArray, List.getElem_cons_succ, List.getElem_cons_zero, List.setIfInBounds_toArray, List.set_cons_zero, List.set_cons_succ]
              refine wpAnyH_take (i := 28) (v := ?_) rfl (by kernel_rfl) (by kernel_rfl) (by kernel_rfl) (fun _ _ _ h => h) (Or.inl ⟨by rfl, ?_⟩) (by assumption) ?_
              rotate_left
              · (intro w hSw; (try dsimp only at hSw); go_simp; try with_reducible rfl)
              simp only [Act.put, List.getElem_toArray, List.getElem_cons_succ, List.getElem_cons_zero, List.setIfInBounds_toArray, List.set_cons_zero, List.set_cons_succ]
              refine wpAnyH_take (i := 29) (v := ?_) rfl (by kernel_rfl) (by kernel_rfl) (by kernel_rfl) (fun _ _ _ h => h) (Or.inl ⟨by rfl, ?_⟩) (by assumption) ?_
              rotate_left
              · (intro w hSw; (try dsimp only at hSw); go_simp; try with_reducible rfl)
              simp only [Act.put, List.getElem_toArray, List.getElem_cons_succ, List.getElem_cons_zero, List.setIfInBounds_toArray, List.set_cons_zero, List.set_cons_succ]
              refine wpAnyH_take (i := 30) (v := ?_) rfl (by kernel_rfl) (by kernel_rfl) (by kernel_rfl) (fun _ _ _ h => h) (Or.inl ⟨by rfl, ?_⟩) (by assumption) ?_
              rotate_left
              · (intro w hSw; (try dsimp only at hSw); go_simp; try with_reducible rfl)
              simp only [Act.put, List.getElem_toArray, List.getElem_cons_succ, List.getElem_cons_zero, List.setIfInBounds_toArray, List.set_cons_zero, List.set_cons_succ]
              refine wpAnyH_take (i := 32) (v := ?_) rfl (by kernel_rfl) (by kernel_rfl) (by kernel_rfl) (fun _ _ _ h => h) (Or.inl ⟨by rfl, ?_⟩) (by assumption) ?_
              rotate_left
              · (intro w hSw; (try dsimp only at hSw); go_simp; try with_reducible rfl)
              simp only [Act.put, List.getElem_toArray, List.getElem_cons_succ, List.getElem_cons_zero, List.setIfInBounds_toArray, List.set_cons_zero, List.set_cons_succ]
              refine wpAnyH_ready (rs := [31]) (by kernel_rfl) (by simp) ?_
              refine AllReadyH.cons rfl (fun K hK => ?_) AllReadyH.nil
              go_simp
              go_wp2_with (go_at_call 13; ((with_reducible refine (CD.out _ P2).mono ?_)); rintro e w22 ⟨rfl, hb22⟩; have P3 := P2.later hb22)
              refine hK.out _ _ (ten_keep (by assumption) hb22) (fun hHeld => ?_)
              clear hK
              refine wpAnyH_ready (rs := [33]) (by kernel_rfl) (by simp) ?_
              refine AllReadyH.cons rfl (fun K hK => ?_) AllReadyH.nil
              go_simp
              go_wp2_with (go_at_call 13; ((with_reducible refine (HDP.out _ P3.wr.tin).mono ?_)); rintro e w23 ⟨rfl, hb23⟩; skip)
              refine hK.out _ _ (ten_keep (by assumption) hb23) (fun hHeld => ?_)
              clear hK
              refine wpAnyH_take (i := 34) (v := ?_) rfl (by kernel_rfl) (by kernel_rfl) (by kernel_rfl) (fun _ _ _ h => h) (Or.inl ⟨by rfl, ?_⟩) (by assumption) ?_
              rotate_left
              · (intro w hSw; (try dsimp only at hSw); go_simp; try with_reducible rfl)
              simp only [Act.put, List.getElem_toArray, List.getElem_cons_succ, List.getElem_cons_zero, List.setIfInBounds_toArray, List.set_cons_zero, List.set_cons_succ]
              refine wpAnyH_take (i := 35) (v := ?_) rfl (by kernel_rfl) (by kernel_rfl) (by kernel_rfl) (fun _ _ _ h => h) (Or.inl ⟨by rfl, ?_⟩) (by assumption) ?_
              rotate_left
              · (intro w hSw; (try dsimp only at hSw); go_simp; try with_reducible rfl)
              simp only [Act.put, List.getElem_toArray, List.getElem_cons_succ, List.getElem_cons_zero, List.setIfInBounds_toArray, List.set_cons_zero, List.set_cons_succ]
              refine wpAnyH_take (i := 36) (v := ?_) rfl (by kernel_rfl) (by kernel_rfl) (by kernel_rfl) (fun _ _ _ h => h) (Or.inl ⟨by rfl, ?_⟩) (by assumption) ?_
              rotate_left
              · (intro w hSw; (try dsimp only at hSw); go_simp; try with_reducible rfl)
              simp only [Act.put, List.getElem_toArray, List.getElem_cons_succ, List.getElem_cons_zero, List.setIfInBounds_toArray, List.set_cons_zero, List.set_cons_succ]
              refine wpAnyH_done (by kernel_rfl) ?_ _
              go_wp2
              go_roundw
              case rel => exact ⟨_, rfl, by simp, P3.wr.later hb23, (by repeat (first | exact BB | (refine bon ?_ (by assumption)) | refine bdrewN ?_ _ | refine bdrew ?_))⟩
              case measure => simp [intOf]
        · obtain ⟨c0, c1, c2, c3⟩ := R.box
          simp only [Nat.zero_add] at c1 c2 c3
          have co := R.r0.2.2.2
          have HR := mkHid R
          have hXl := four_lt R.box
          have hYl : Y < wr.heap.size := World.block_lt_of_cell? _ _ co
          clear R
          go_wp2_with fail
          go_cut [12] (fun s12 wx => ∃ b g : Nat, s12 = .pointer (some ⟨b, 0, none⟩) ∧ UR X Y b g 6 0 t wx ∧ wx.frozen? ⟨b, 2, none⟩ = false ∧ Below wr.heap.size wr wx ∧ wr.heap.size ≤ b ∧ g ≠ b)
          case first =>
            go_region_held2 (fun w' => w'.cell? ⟨X, 0, none⟩ = some (.int .i64 t.op) ∧ w'.cell? ⟨X, 1, none⟩ = some (.string t.nm) ∧ w'.cell? ⟨X, 2, none⟩ = some (.int .i64 t.n) ∧ w'.cell? ⟨X, 3, none⟩ = some (.slice t.a t.ks.length t.c) ∧ w'.cell? ⟨Y, 3, none⟩ = some (.int .i64 6))
              (first | exact ⟨c0, c1, c2, c3, co⟩ | assumption | exact five_keep ⟨c0, c1, c2, c3, co⟩ (by repeat (first | exact Below.refl _ _ | refine bdrew ?_ | refine bal ?_ _))) ((fail))
            all_goals
              go_wp2_with fail
              go_meet
              first
                | (refine ⟨wr.heap.size, wr.heap.size + 1, rfl, ?_⟩
                   exact ⟨⟨HR.out.later (by repeat (first | exact Below.refl _ _ | refine bdrew ?_ | refine bal ?_ _)), by simp [go_sem], by simp [go_sem], by simp [go_sem], by simp [go_sem], by simp [Four, go_sem]⟩, by simp [go_sem], (by repeat (first | exact Below.refl _ _ | refine bdrew ?_ | refine bal ?_ _)), by omega, by omega⟩)
                | (refine ⟨wr.heap.size + 1, wr.heap.size, rfl, ?_⟩
                   exact ⟨⟨HR.out.later (by repeat (first | exact Below.refl _ _ | refine bdrew ?_ | refine bal ?_ _)), by simp [go_sem], by simp [go_sem], by simp [go_sem], by simp [go_sem], by simp [Four, go_sem]⟩, by simp [go_sem], (by repeat (first | exact Below.refl _ _ | refine bdrew ?_ | refine bal ?_ _)), by omega, by omega⟩)
          case rest =>
            obtain ⟨b, g, rfl, U, fz, hbx, hbl, gb⟩ := hcut
            clear c0 c1 c2 c3 co
            have fz' := fz
            have U2 : UR X Y b g 6 n t (wc.setCell ⟨b, 2, none⟩ (.int .i64 n)) := by
              have hs1 : Below wr.heap.size wr (wc.setCell ⟨b, 2, none⟩ (.int .i64 n)) := hbx.setCell hbl _
              exact ⟨HR.out.later hs1, by simp [go_sem, U.u0], by simp [go_sem, U.u1], by simp [go_sem, U.u2], by simp [go_sem, U.u3], ⟨cell_far U.row.1 gb _, cell_far U.row.2.1 gb _, cell_far U.row.2.2.1 gb _, cell_far U.row.2.2.2 gb _⟩⟩
            have hbx2 : Below wr.heap.size wr (wc.setCell ⟨b, 2, none⟩ (.int .i64 n)) := hbx.setCell hbl _
            have y0 := U.u0; have y1 := U.u1; have y2 := U.u2; have y3 := U.u3
            have co := U.wr.r0.2.2.2
            clear U
            generalize hWc : wc.setCell ⟨b, 2, none⟩ (.int .i64 n) = wd at *
            have U := U2
            have hbd := hbx2
            have HRd := mkHid U2
            obtain ⟨-, v0, v1, v2, v3, -⟩ := U2
            have EE := wrap_err (op := 6) (n := n) (g := g) (t := t) (so := 1) (ma := 1) hz1 hd1 (sort_mul n t.srt hs5) (by decide)
            have CS := mkHid (fun w (h : UR X Y b g 6 n t w) => sort_any (wrapU 6 n g t) w (h.tin (by decide) hn) h.wr.s)
            have CZ := mkHid (fun w (h : UR X Y b g 6 n t w) => size_any (wrapU 6 n g t) w (h.tin (by decide) hn))
            have CD := mkHid (fun w (h : UR X Y b g 6 n t w) => deep_small (wrapU 6 n g t) w (h.tin (by decide) hn) (by rw [wrap_size]; omega))
            rw [wrap_size, show min 2001 (t.size + 1) = t.size + 1 by omega, show ((t.size + 1 : Nat) : Int) = (t.size : Int) + 1 by omega] at CZ
            rw [wrap_deep, show min 101 (t.deep + 1) = t.deep + 1 by omega, show ((t.deep + 1 : Nat) : Int) = (t.deep : Int) + 1 by omega] at CD
            have zz : (t.size : Int) + 1 ≤ 2000 := by omega
            have dd : (t.deep : Int) + 1 ≤ 100 := by omega
            have W1 : IntKind.i64.wrap ((t.size : Int) + 1) = (t.size : Int) + 1 := IntWalk.i64_in _ (by omega)
            have W2 : IntKind.i64.wrap ((t.deep : Int) + 1) = (t.deep : Int) + 1 := IntWalk.i64_in _ (by omega)
            by_cases hsq : t.srt = 1
            · obtain ⟨e1, e2⟩ := EE.1 hsq
              rw [e1, e2] at CS
              have qs : ((t.srt : Int) == 1) = true := by rw [hsq]; rfl
              clear e1 e2 EE hsq
              unfold Tm.val at CS CZ CD
              simp only [wrapU, Tm.op, Tm.nm, Tm.n, Tm.a, Tm.ks, Tm.c, List.length_cons, List.length_nil, Nat.zero_add] at CS CZ CD
              go_wp2_with fail
              ((with_reducible refine (CS.out _ U).mono ?_)); rintro e w8 ⟨rfl, hb8⟩
              have P0 := U.later hb8
              have BB := bon (bon hb hbd) hb8
              clear v0 v1 v2 v3 co U CS hb hbd hb8 y0 y1 y2 y3 hWc
              obtain ⟨-, v0, v1, v2, v3, -⟩ := id P0
              obtain ⟨c0, c1, c2, c3⟩ := P0.wr.box
              simp only [Nat.zero_add] at c1 c2 c3
              have cs := P0.wr.r1.2.2.2
              have cm := P0.wr.r2.2.2.2
              have PD := P0.later (bdrew (Below.refl w8.heap.size w8))
              go_wp2_with fail
              go_region_held2 (fun w' => w'.cell? ⟨b, 0, none⟩ = some (.int .i64 6) ∧ w'.cell? ⟨b, 1, none⟩ = some (.string ⟨#[]⟩) ∧ w'.cell? ⟨b, 2, none⟩ = some (.int .i64 n) ∧ w'.cell? ⟨b, 3, none⟩ = some (.slice (some ⟨g, 0, none⟩) 1 1) ∧ w'.cell? ⟨X, 0, none⟩ = some (.int .i64 t.op) ∧ w'.cell? ⟨X, 1, none⟩ = some (.string t.nm) ∧ w'.cell? ⟨X, 2, none⟩ = some (.int .i64 t.n) ∧ w'.cell? ⟨X, 3, none⟩ = some (.slice t.a t.ks.length t.c) ∧ w'.cell? ⟨Y + 1, 3, none⟩ = some (.int .i64 1) ∧ w'.cell? ⟨Y + 1 + 1, 3, none⟩ = some (.int .i64 1))
                (first | exact ⟨v0, v1, v2, v3, c0, c1, c2, c3, cs, cm⟩ | assumption | exact ten_keep (by assumption) (by assumption))
                ((first
                  | (go_at_call 11; revert P1; intro P1; ((with_reducible refine (HSZ.out _ P1.wr.tin).mono ?_)); rintro e w21 ⟨rfl, hb21⟩; have P2 := P1.later hb21)
                  | (go_at_call 11; ((with_reducible refine (CZ.out _ PD).mono ?_)); rintro e w20 ⟨rfl, hb20⟩; have P1 := PD.later hb20)
                  | (go_at_call 13; revert P3; intro P3; ((with_reducible refine (HDP.out _ P3.wr.tin).mono ?_)); rintro e w23 ⟨rfl, hb23⟩)
                  | (go_at_call 13; ((with_reducible refine (CD.out _ P2).mono ?_)); rintro e w22 ⟨rfl, hb22⟩; have P3 := P2.later hb22)))
              go_wp2
              go_roundw
              case rel => exact ⟨_, rfl, by simp, P3.wr.later hb23, (by repeat (first | exact BB | (refine bon ?_ (by assumption)) | refine bdrewN ?_ _ | refine bdrew ?_))⟩
              case measure => simp [intOf]
            · obtain ⟨e1, e2⟩ := EE.2 hsq
              rw [e1, e2] at CS
              have qs : ((t.srt : Int) == 1) = false := beq_eq_false_iff_ne.2 (by omega)
              clear e1 e2 EE hsq
              unfold Tm.val at CS CZ CD
              simp only [wrapU, Tm.op, Tm.nm, Tm.n, Tm.a, Tm.ks, Tm.c, List.length_cons, List.length_nil, Nat.zero_add] at CS CZ CD
              go_wp2_with fail
              ((with_reducible refine (CS.out _ U).mono ?_)); rintro e w8 ⟨rfl, hb8⟩
              have P0 := U.later hb8
              have BB := bon (bon hb hbd) hb8
              clear v0 v1 v2 v3 co U CS hb hbd hb8 y0 y1 y2 y3 hWc
              obtain ⟨-, v0, v1, v2, v3, -⟩ := id P0
              obtain ⟨c0, c1, c2, c3⟩ := P0.wr.box
              simp only [Nat.zero_add] at c1 c2 c3
              have cs := P0.wr.r1.2.2.2
              have PD := P0.later (bdrew (Below.refl w8.heap.size w8))
              go_wp2_with fail
              have cm := P0.wr.r2.2.2.2
              refine wp_region_held_drew (S := fun w' => w'.cell? ⟨b, 0, none⟩ = some (.int .i64 6) ∧ w'.cell? ⟨b, 1, none⟩ = some (.string ⟨#[]⟩) ∧ w'.cell? ⟨b, 2, none⟩ = some (.int .i64 n) ∧ w'.cell? ⟨b, 3, none⟩ = some (.slice (some ⟨g, 0, none⟩) 1 1) ∧ w'.cell? ⟨X, 0, none⟩ = some (.int .i64 t.op) ∧ w'.cell? ⟨X, 1, none⟩ = some (.string t.nm) ∧ w'.cell? ⟨X, 2, none⟩ = some (.int .i64 t.n) ∧ w'.cell? ⟨X, 3, none⟩ = some (.slice t.a t.ks.length t.c) ∧ w'.cell? ⟨Y + 1, 3, none⟩ = some (.int .i64 1) ∧ w'.cell? ⟨Y + 1 + 1, 3, none⟩ = some (.int .i64 1)) (by kernel_rfl) ⟨v0, v1, v2, v3, c0, c1, c2, c3, cs, cm⟩ (fun hHeld => ?_)
              refine wpAnyH_take (i := 0) (v := ?_) rfl (by kernel_rfl) (by kernel_rfl) (by kernel_rfl) (fun _ _ _ h => h) (Or.inl ⟨by rfl, ?_⟩) (by assumption) ?_
              rotate_left
              · (intro w hSw; (try dsimp only at hSw); go_simp; try with_reducible rfl)
              simp only [Act.put, List.getElem_toArray, List.getElem_cons_zero, List.setIfInBounds_toArray, List.set_cons_zero, List.set_cons_succ]
              refine wpAnyH_take (i := 1) (v := ?_) rfl (by kernel_rfl) (by kernel_rfl) (by kernel_rfl) (fun _ _ _ h => h) (Or.inl ⟨by rfl, ?_⟩) (by assumption) ?_
              rotate_left
              · (intro w hSw; (try dsimp only at hSw); go_simp; try with_reducible rfl)
              simp only [Act.put, List.getElem_toArray, List.getElem_cons_succ, List.getElem_cons_zero, List.setIfInBounds_toArray, List.set_cons_zero, List.set_cons_succ]
              refine wpAnyH_take (i := 2) (v := ?_) rfl (by kernel_rfl) (by kernel_rfl) (by kernel_rfl) (fun _ _ _ h => h) (Or.inl ⟨by rfl, ?_⟩) (by assumption) ?_
              rotate_left
              · (intro w hSw; (try dsimp only at hSw); go_simp; try with_reducible rfl)
              simp only [Act.put, List.getElem_toArray, List.getElem_cons_succ, List.getElem_cons_zero, List.setIfInBounds_toArray, List.set_cons_zero, List.set_cons_succ]
              refine wpAnyH_take (i := 3) (v := ?_) rfl (by kernel_rfl) (by kernel_rfl) (by kernel_rfl) (fun _ _ _ h => h) (Or.inl ⟨by rfl, ?_⟩) (by assumption) ?_
              rotate_left
              · (intro w hSw; (try dsimp only at hSw); go_simp; try with_reducible rfl)
              simp only [Act.put, List.getElem_toArray, List.getElem_cons_succ, List.getElem_cons_zero, List.setIfInBounds_toArray, List.set_cons_zero, List.set_cons_succ]
              refine wpAnyH_take (i := 4) (v := ?_) rfl (by kernel_rfl) (by kernel_rfl) (by kernel_rfl) (fun _ _ _ h => h) (Or.inl ⟨by rfl, ?_⟩) (by assumption) ?_
              rotate_left
              · (intro w hSw; (try dsimp only at hSw); go_simp; try with_reducible rfl)
              simp only [Act.put, List.getElem_toArray, List.getElem_cons_succ, List.getElem_cons_zero, List.setIfInBounds_toArray, List.set_cons_zero, List.set_cons_succ]
              refine wpAnyH_take (i := 5) (v := ?_) rfl (by kernel_rfl) (by kernel_rfl) (by kernel_rfl) (fun _ _ _ h => h) (Or.inl ⟨by rfl, ?_⟩) (by assumption) ?_
              rotate_left
              · (intro w hSw; (try dsimp only at hSw); go_simp; try with_reducible rfl)
              simp only [Act.put, List.getElem_toArray, List.getElem_cons_succ, List.getElem_cons_zero, List.setIfInBounds_toArray, List.set_cons_zero, List.set_cons_succ]
              refine wpAnyH_take (i := 6) (v := ?_) rfl (by kernel_rfl) (by kernel_rfl) (by kernel_rfl) (fun _ _ _ h => h) (Or.inl ⟨by rfl, ?_⟩) (by assumption) ?_
              rotate_left
              · (intro w hSw; (try dsimp only at hSw); go_simp; try with_reducible rfl)
              simp only [Act.put, List.getElem_toArray, List.getElem_cons_succ, List.getElem_cons_zero, List.setIfInBounds_toArray, List.set_cons_zero, List.set_cons_succ]
              refine wpAnyH_take (i := 7) (v := ?_) rfl (by kernel_rfl) (by kernel_rfl) (by kernel_rfl) (fun _ _ _ h => h) (Or.inl ⟨by rfl, ?_⟩) (by assumption) ?_
              rotate_left
              · (intro w hSw; (try dsimp only at hSw); go_simp; try with_reducible rfl)
              simp only [Act.put, List.getElem_toArray, List.getElem_cons_succ, List.getElem_cons_zero, List.setIfInBounds_toArray, List.set_cons_zero, List.set_cons_succ]
              refine wpAnyH_take (i := 8) (v := ?_) rfl (by kernel_rfl) (by kernel_rfl) (by kernel_rfl) (fun _ _ _ h => h) (Or.inl ⟨by rfl, ?_⟩) (by assumption) ?_
              rotate_left
              · (intro w hSw; (try dsimp only at hSw); go_simp; try with_reducible rfl)
              simp only [Act.put, List.getElem_toArray, List.getElem_cons_succ, List.getElem_cons_zero, List.setIfInBounds_toArray, List.set_cons_zero, List.set_cons_succ]
              refine wpAnyH_take (i := 9) (v := ?_) rfl (by kernel_rfl) (by kernel_rfl) (by kernel_rfl) (fun _ _ _ h => h) (Or.inl ⟨by rfl, ?_⟩) (by assumption) ?_
              rotate_left
              · (intro w hSw; (try dsimp only at hSw); go_simp; try with_reducible rfl)
              simp only [Act.put, List.getElem_toArray, List.getElem_cons_succ, List.getElem_cons_zero, List.setIfInBounds_toArray, List.set_cons_zero, List.set_cons_succ]
              refine wpAnyH_take (i := 10) (v := ?_) rfl (by kernel_rfl) (by kernel_rfl) (by kernel_rfl) (fun _ _ _ h => h) (Or.inl ⟨by rfl, ?_⟩) (by assumption) ?_
              rotate_left
              · (intro w hSw; (try dsimp only at hSw); go_simp; try with_reducible rfl)
              simp only [Act.put, List.getElem_toArray, List.getElem_cons_succ, List.getElem_cons_zero, List.setIfInBounds_toArray, List.set_cons_zero, List.set_cons_succ]
              refine wpAnyH_take (i := 11) (v := ?_) rfl (by kernel_rfl) (by kernel_rfl) (by kernel_rfl) (fun _ _ _ h => h) (Or.inl ⟨by rfl, ?_⟩) (by assumption) ?_
              rotate_left
              · (intro w hSw; (try dsimp only at hSw); go_simp; try with_reducible rfl)
              simp only [Act.put, List.getElem_toArray, List.getElem_cons_succ, List.getElem_cons_zero, List.setIfInBounds_toArray, List.set_cons_zero, List.set_cons_succ]
              refine wpAnyH_take (i := 12) (v := ?_) rfl (by kernel_rfl) (by kernel_rfl) (by kernel_rfl) (fun _ _ _ h => h) (Or.inl ⟨by rfl, ?_⟩) (by assumption) ?_
              rotate_left
              · (intro w hSw; (try dsimp only at hSw); go_simp; try with_reducible rfl)
              simp only [Act.put, List.getElem_toArray, List.getElem_cons_succ, List.getElem_cons_zero, List.setIfInBounds_toArray, List.set_cons_zero, List.set_cons_succ]
              refine wpAnyH_take (i := 13) (v := undef) rfl (by kernel_rfl) (by kernel_rfl) (by kernel_rfl) (fun _ _ _ h => h) (Or.inr ⟨by rfl, rfl⟩) (by assumption) ?_
              simp only [Act.put, List.getElem_toArray, List.getElem_cons_succ, List.getElem_cons_zero, List.setIfInBounds_toArray, List.set_cons_zero, List.set_cons_succ]
              refine wpAnyH_take (i := 14) (v := undef) rfl (by kernel_rfl) (by kernel_rfl) (by kernel_rfl) (fun _ _ _ h => h) (Or.inr ⟨by rfl, rfl⟩) (by assumption) ?_
              simp only [Act.put, List.getElem_toArray, List.getElem_cons_succ, List.getElem_cons_zero, List.setIfInBounds_toArray, List.set_cons_zero, List.set_cons_succ]
              refine wpAnyH_take (i := 15) (v := undef) rfl (by kernel_rfl) (by kernel_rfl) (by kernel_rfl) (fun _ _ _ h => h) (Or.inr ⟨by rfl, rfl⟩) (by assumption) ?_
              simp only [Act.put, List.getElem_toArray, List.getElem_cons_succ, List.getElem_cons_zero, List.setIfInBounds_toArray, List.set_cons_zero, List.set_cons_succ]
              refine wpAnyH_take (i := 16) (v := undef) rfl (by kernel_rfl) (by kernel_rfl) (by kernel_rfl) (fun _ _ _ h => h) (Or.inr ⟨by rfl, rfl⟩) (by assumption) ?_
              simp only [Act.put, List.getElem_toArray, List.getElem_cons_succ, List.getElem_cons_zero, List.setIfInBounds_toArray, List.set_cons_zero, List.set_cons_succ]
              refine wpAnyH_take (i := 17) (v := undef) rfl (by kernel_rfl) (by kernel_rfl) (by kernel_rfl) (fun _ _ _ h => h) (Or.inr ⟨by rfl, rfl⟩) (by assumption) ?_
              simp only [Act.put, List.getElem_toArray, List.getElem_cons_succ, List.getElem_cons_zero, List.setIfInBounds_toArray, List.set_cons_zero, List.set_cons_succ]
              refine wpAnyH_take (i := 18) (v := undef) rfl (by kernel_rfl) (by kernel_rfl) (by kernel_rfl) (fun _ _ _ h => h) (Or.inr ⟨by rfl, rfl⟩) (by assumption) ?_
              simp only [Act.put, List.getElem_toArray, List.getElem_cons_succ, List.getElem_cons_zero, List.setIfInBounds_toArray, List.set_cons_zero, List.set_cons_succ]
              refine wpAnyH_take (i := 19) (v := ?_) rfl (by kernel_rfl) (by kernel_rfl) (by kernel_rfl) (fun _ _ _ h => h) (Or.inl ⟨by rfl, ?_⟩) (by assumption) ?_
              rotate_left
              · (intro w hSw; (try dsimp only at hSw); go_simp; try with_reducible rfl)
              simp only [Act.put, List.getElem_toArray, List.getElem_cons_succ, List.getElem_cons_zero, List.setIfInBounds_toArray, List.set_cons_zero, List.set_cons_succ]
              refine wpAnyH_take (i := 20) (v := ?_) rfl (by kernel_rfl) (by kernel_rfl) (by kernel_rfl) (fun _ _ _ h => h) (Or.inl ⟨by rfl, ?_⟩) (by assumption) ?_
              rotate_left
              · (intro w hSw; (try dsimp only at hSw); go_simp; try with_reducible rfl)
              simp only [Act.put, List.getElem_toArray, List.getElem_cons_succ, List.getElem_cons_zero, List.setIfInBounds_toArray, List.set_cons_zero, List.set_cons_succ]
              refine wpAnyH_take (i := 21) (v := ?_) rfl (by kernel_rfl) (by kernel_rfl) (by kernel_rfl) (fun _ _ _ h => h) (Or.inl ⟨by rfl, ?_⟩) (by assumption) ?_
              rotate_left
              · (intro w hSw; (try dsimp only at hSw); go_simp; try with_reducible rfl)
              simp only [Act.put, List.getElem_toArray, List.getElem_cons_succ, List.getElem_cons_zero, List.setIfInBounds_toArray, List.set_cons_zero, List.set_cons_succ]
              refine wpAnyH_take (i := 22) (v := ?_) rfl (by kernel_rfl) (by kernel_rfl) (by kernel_rfl) (fun _ _ _ h => h) (Or.inl ⟨by rfl, ?_⟩) (by assumption) ?_
              rotate_left
              · (intro w hSw; (try dsimp only at hSw); go_simp; try with_reducible rfl)
              simp only [Act.put, List.getElem_toArray, List.getElem_cons_succ, List.getElem_cons_zero, List.setIfInBounds_toArray, List.set_cons_zero, List.set_cons_succ]
              refine wpAnyH_take (i := 24) (v := ?_) rfl (by kernel_rfl) (by kernel_rfl) (by kernel_rfl) (fun _ _ _ h => h) (Or.inl ⟨by rfl, ?_⟩) (by assumption) ?_
              rotate_left
              · (intro w hSw; (try dsimp only at hSw); go_simp; try with_reducible rfl)
              simp only [Act.put, List.getElem_toArray, List.getElem_cons_succ, List.getElem_cons_zero, List.setIfInBounds_toArray, List.set_cons_zero, List.set_cons_succ]
              refine wpAnyH_ready (rs := [23]) (by kernel_rfl) (by simp) ?_
              refine AllReadyH.cons rfl (fun K hK => ?_) AllReadyH.nil
              go_simp
              go_wp2_with (go_at_call 11; ((with_reducible refine (CZ.out _ PD).mono ?_)); rintro e w20 ⟨rfl, hb20⟩; have P1 := PD.later hb20)
              refine hK.out _ _ (ten_keep (by assumption) hb20) (fun hHeld => ?_)
              clear hK
              refine wpAnyH_ready (rs := [25]) (by kernel_rfl) (by simp) ?_
              refine AllReadyH.cons rfl (fun K hK => ?_) AllReadyH.nil
              go_simp
              go_wp2_with (go_at_call 11; ((with_reducible refine (HSZ.out _ P1.wr.tin).mono ?_)); rintro e w21 ⟨rfl, hb21⟩; have P2 := P1.later hb21)
              refine hK.out _ _ (ten_keep (by assumption) hb21) (fun hHeld => ?_)
              clear hK
              refine wpAnyH_take (i := 26) (v := ?_) rfl (by kernel_rfl) (by kernel_rfl) (by kernel_rfl) (fun _ _ _ h => h) (Or.inl ⟨by rfl, ?_⟩) (by assumption) ?_
              rotate_left
              · (intro w hSw; (try dsimp only at hSw); go_simp; try with_reducible rfl)
              simp only [Act.put, List.getElem_toArray, List.getElem_cons_succ, List.getElem_cons_zero, List.setIfInBounds_toArray, List.set_cons_zero, List.set_cons_succ]
              refine wpAnyH_take (i := 27) (v := ?_) rfl (by kernel_rfl) (by kernel_rfl) (by kernel_rfl) (fun _ _ _ h => h) (Or.inl ⟨by rfl, ?_⟩) (by assumption) ?_
              rotate_left
              · (intro w hSw; (try dsimp only at hSw); go_simp; try with_reducible rfl)
              simp only [Act.put, List.getElem_toArray, List.getElem_cons_succ, List.getElem_cons_zero, List.setIfInBounds_toArray, List.set_cons_zero, List.set_cons_succ]
              refine wpAnyH_take (i := 28) (v := ?_) rfl (by kernel_rfl) (by kernel_rfl) (by kernel_rfl) (fun _ _ _ h => h) (Or.inl ⟨by rfl, ?_⟩) (by assumption) ?_
              rotate_left
              · (intro w hSw; (try dsimp only at hSw); go_simp; try with_reducible rfl)
              simp only [Act.put, List.getElem_toArray, List.getElem_cons_succ, List.getElem_cons_zero, List.setIfInBounds_toArray, List.set_cons_zero, List.set_cons_succ]
              refine wpAnyH_take (i := 29) (v := ?_) rfl (by kernel_rfl) (by kernel_rfl) (by kernel_rfl) (fun _ _ _ h => h) (Or.inl ⟨by rfl, ?_⟩) (by assumption) ?_
              rotate_left
              · (intro w hSw; (try dsimp only at hSw); go_simp; try with_reducible rfl)
              simp only [Act.put, List.getElem_toArray, List.getElem_cons_succ, List.getElem_cons_zero, List.setIfInBounds_toArray, List.set_cons_zero, List.set_cons_succ]
              refine wpAnyH_take (i := 30) (v := ?_) rfl (by kernel_rfl) (by kernel_rfl) (by kernel_rfl) (fun _ _ _ h => h) (Or.inl ⟨by rfl, ?_⟩) (by assumption) ?_
              rotate_left
              · (intro w hSw; (try dsimp only at hSw); go_simp; try with_reducible rfl)
              simp only [Act.put, List.getElem_toArray, List.getElem_cons_succ, List.getElem_cons_zero, List.setIfInBounds_toArray, List.set_cons_zero, List.set_cons_succ]
              refine wpAnyH_take (i := 32) (v := ?_) rfl (by kernel_rfl) (by kernel_rfl) (by kernel_rfl) (fun _ _ _ h => h) (Or.inl ⟨by rfl, ?_⟩) (by assumption) ?_
              rotate_left
              · (intro w hSw; (try dsimp only at hSw); go_simp; try with_reducible rfl)
              simp only [Act.put, List.getElem_toArray, List.getElem_cons_succ, List.getElem_cons_zero, List.setIfInBounds_toArray, List.set_cons_zero, List.set_cons_succ]
              refine wpAnyH_ready (rs := [31]) (by kernel_rfl) (by simp) ?_
              refine AllReadyH.cons rfl (fun K hK => ?_) AllReadyH.nil
              go_simp
              go_wp2_with (go_at_call 13; ((with_reducible refine (CD.out _ P2).mono ?_)); rintro e w22 ⟨rfl, hb22⟩; have P3 := P2.later hb22)
              refine hK.out _ _ (ten_keep (by assumption) hb22) (fun hHeld => ?_)
              clear hK
              refine wpAnyH_ready (rs := [33]) (by kernel_rfl) (by simp) ?_
              refine AllReadyH.cons rfl (fun K hK => ?_) AllReadyH.nil
              go_simp
              go_wp2_with (go_at_call 13; ((with_reducible refine (HDP.out _ P3.wr.tin).mono ?_)); rintro e w23 ⟨rfl, hb23⟩; skip)
              refine hK.out _ _ (ten_keep (by assumption) hb23) (fun hHeld => ?_)
              clear hK
              refine wpAnyH_take (i := 34) (v := ?_) rfl (by kernel_rfl) (by kernel_rfl) (by kernel_rfl) (fun _ _ _ h => h) (Or.inl ⟨by rfl, ?_⟩) (by assumption) ?_
              rotate_left
              · (intro w hSw; (try dsimp only at hSw); go_simp; try with_reducible rfl)
              simp only [Act.put, List.getElem_toArray, List.getElem_cons_succ, List.getElem_cons_zero, List.setIfInBounds_toArray, List.set_cons_zero, List.set_cons_succ]
              refine wpAnyH_take (i := 35) (v := ?_) rfl (by kernel_rfl) (by kernel_rfl) (by kernel_rfl) (fun _ _ _ h => h) (Or.inl ⟨by rfl, ?_⟩) (by assumption) ?_
              rotate_left
              · (intro w hSw; (try dsimp only at hSw); go_simp; try with_reducible rfl)
              simp only [Act.put, List.getElem_toArray, List.getElem_cons_succ, List.getElem_cons_zero, List.setIfInBounds_toArray, List.set_cons_zero, List.set_cons_succ]
              refine wpAnyH_take (i := 36) (v := ?_) rfl (by kernel_rfl) (by kernel_rfl) (by kernel_rfl) (fun _ _ _ h => h) (Or.inl ⟨by rfl, ?_⟩) (by assumption) ?_
              rotate_left
              · (intro w hSw; (try dsimp only at hSw); go_simp; try with_reducible rfl)
              simp only [Act.put, List.getElem_toArray, List.getElem_cons_succ, List.getElem_cons_zero, List.setIfInBounds_toArray, List.set_cons_zero, List.set_cons_succ]
              refine wpAnyH_done (by kernel_rfl) ?_ _
              go_wp2
              go_roundw
              case rel => exact ⟨_, rfl, by simp, P3.wr.later hb23, (by repeat (first | exact BB | (refine bon ?_ (by assumption)) | refine bdrewN ?_ _ | refine bdrew ?_))⟩
              case measure => simp [intOf]
        · go_wp2
          go_ret
          exact ⟨rfl, hX ▸ (bon (hX.symm ▸ BW) hb)⟩
    · have fin : 1990 ≤ t.size ∨ (t.size < 1990 ∧ 90 ≤ t.deep) := by omega
      unfold Tm.val at HST HSZ HDP ⊢
      clear he hne
      rcases fin with h1 | ⟨h1, h2⟩
      · have q1 : decide ((1990 : Int) ≤ (t.size : Int)) = true := decide_eq_true (by omega)
        clear hbig
        go_enter Tryd.func7, Tryd.ntmps7
        go_wp2_with fail
        ((with_reducible refine SW.out.mono ?_)); rintro e w1 ⟨rfl, hb1⟩
        obtain ⟨x0, x1, x2, x3⟩ := KEEP.out w1 hb1
        simp only [Nat.zero_add] at x1 x2 x3
        clear hW SW
        go_wp2_with fail
        ((with_reducible refine (HST.out _ (HIN.out.later hb1) (HS.out.later hb1)).mono ?_)); rintro e w2 ⟨rfl, hb2⟩
        have B2 := bon hb1 hb2
        clear x0 x1 x2 x3 HST hb1 hb2
        obtain ⟨x0, x1, x2, x3⟩ := KEEP.out w2 B2
        simp only [Nat.zero_add] at x1 x2 x3
        go_wp2_with fail
        ((with_reducible refine (HSZ.out _ (HIN.out.later B2)).mono ?_)); rintro e w3 ⟨rfl, hb3⟩
        go_wp2
        go_ret
        exact ⟨rfl, bon hb0 (bon B2 hb3)⟩
      · have q1 : decide ((1990 : Int) ≤ (t.size : Int)) = false := decide_eq_false (by omega)
        have q2 : decide ((90 : Int) ≤ (t.deep : Int)) = true := decide_eq_true (by omega)
        clear hbig
        go_enter Tryd.func7, Tryd.ntmps7
        go_wp2_with fail
        ((with_reducible refine SW.out.mono ?_)); rintro e w1 ⟨rfl, hb1⟩
        obtain ⟨x0, x1, x2, x3⟩ := KEEP.out w1 hb1
        simp only [Nat.zero_add] at x1 x2 x3
        clear hW SW
        go_wp2_with fail
        ((with_reducible refine (HST.out _ (HIN.out.later hb1) (HS.out.later hb1)).mono ?_)); rintro e w2 ⟨rfl, hb2⟩
        have B2 := bon hb1 hb2
        clear x0 x1 x2 x3 HST hb1 hb2
        obtain ⟨x0, x1, x2, x3⟩ := KEEP.out w2 B2
        simp only [Nat.zero_add] at x1 x2 x3
        go_wp2_with fail
        ((with_reducible refine (HSZ.out _ (HIN.out.later B2)).mono ?_)); rintro e w3 ⟨rfl, hb3⟩
        have B3 := bon B2 hb3
        clear x0 x1 x2 x3 hb3 B2
        obtain ⟨x0, x1, x2, x3⟩ := KEEP.out w3 B3
        simp only [Nat.zero_add] at x1 x2 x3
        go_wp2_with fail
        ((with_reducible refine (HDP.out _ (HIN.out.later B3)).mono ?_)); rintro e w4 ⟨rfl, hb4⟩
        go_wp2
        go_ret
        exact ⟨rfl, bon hb0 (bon B3 hb4)⟩
  · have hne : ((errR t : Int) != 0) = true := by rw [bne_iff_ne]; omega
    generalize errR t = er at *
    generalize srtR t = sr at *
    clear he
    unfold Tm.val at *
    go_enter Tryd.func7, Tryd.ntmps7
    go_wp2_with fail
    ((with_reducible refine SW.out.mono ?_)); rintro e w1 ⟨rfl, hb1⟩
    obtain ⟨x0, x1, x2, x3⟩ := HF.out.later hb1
    simp only [Nat.zero_add] at x1 x2 x3
    clear hW SW
    go_wp2_with fail
    ((with_reducible refine (HST.out _ (HIN.out.later hb1) (HS.out.later hb1)).mono ?_)); rintro e w2 ⟨rfl, hb2⟩
    go_wp2
    go_ret
    exact ⟨rfl, bon hb0 (bon hb1 hb2)⟩
end Go.Proofs.YtheegiaehlfdmaaDoor
