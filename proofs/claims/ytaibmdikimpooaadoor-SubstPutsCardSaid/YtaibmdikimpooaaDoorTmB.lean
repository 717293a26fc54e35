/-
  What 'Size' does.
-/
import Derived.Test.YtaibmdikimpooaaDoorTmA
namespace Go.Proofs.YtaibmdikimpooaaDoor
open Go.RowKit

theorem take_succ_sizes (ks : List Tm) (k : Nat) (h : k < ks.length) : Tm.sizes (ks.take (k + 1)) = Tm.sizes (ks.take k) + (ks[k]).size := by
  induction ks generalizing k with
  | nil => simp at h
  | cons t ts ih =>
    cases k with
    | zero => simp [Tm.sizes]
    | succ k => simp only [List.take_succ_cons, Tm.sizes, List.getElem_cons_succ]; rw [ih k (by simpa using h)]; omega
theorem sizes_take_le (ks : List Tm) (k : Nat) : Tm.sizes (ks.take k) ≤ Tm.sizes ks := by
  induction ks generalizing k with
  | nil => simp
  | cons t ts ih =>
    cases k with
    | zero => simp [Tm.sizes]
    | succ k => simp only [List.take_succ_cons, Tm.sizes]; have := ih k; omega
theorem size_pos (t : Tm) : 0 < t.size := by rw [Tm.size_eq]; omega

/-- the closure of Size -/
def cntF (sb cb : Nat) : Value := .func (.func 30) #[] #[.pointer (some ⟨sb, 0, none⟩), .pointer (some ⟨cb, 0, none⟩)]

/-- the box of a term that is handed in -/
def boxT (t : Tm) : Obj := .cells #[.int .i64 t.op, .string t.nm, .int .i64 t.n, .slice t.a t.ks.length t.c] 24
theorem box_four (w : World) (t : Tm) : Four (w.alloc (boxT t)) w.heap.size 0 t := by simp [Four, boxT, go_sem]
theorem single_alloc {w : World} {b : Nat} {x : Value} (h : Single w b x) (o : Obj) : Single (w.alloc o) b x :=
  ⟨cell_later (bal (Below.refl _ _) o) h.1, frozen_later (bal (Below.refl _ _) o) h.1 h.2⟩
theorem single_set {w : World} {b : Nat} {x : Value} (h : Single w b x) (y : Value) : Single (w.setCell ⟨b, 0, none⟩ y) b y := by
  obtain ⟨h0, h1⟩ := h
  simp [Single, go_sem, h0, h1]
theorem four_set {w : World} {b o c : Nat} {t : Tm} (h : Four w b o t) (hne : c ≠ b) (y : Value) : Four (w.setCell ⟨c, 0, none⟩ y) b o t :=
  (But.refl c w).set (.inl rfl) y |>.four h (fun e => hne e.symm)

structure CntR (w0 : World) (X sb cb s : Nat) (t : Tm) (k : Nat) (w : World) : Prop where
  but : But sb w0 w
  four : Four w X 0 t
  one : Single w sb (.int .i64 (min 2001 (s + 1 + Tm.sizes (t.ks.take k)) : Nat))
  cl : w.cell? ⟨cb, 0, none⟩ = some (cntF sb cb)
theorem four_cells {w : World} {b o : Nat} {t : Tm} (h : Four w b o t) : w.cell? ⟨b, o, none⟩ = some (.int .i64 t.op) ∧ w.cell? ⟨b, o + 1, none⟩ = some (.string t.nm) ∧ w.cell? ⟨b, o + 2, none⟩ = some (.int .i64 t.n) ∧ w.cell? ⟨b, o + 3, none⟩ = some (.slice t.a t.ks.length t.c) := h

set_option maxRecDepth 100000 in
set_option maxHeartbeats 2000000 in
theorem count_any (t : Tm) : ∀ (B sb cb s : Nat) (w : World), TIn w B t → B ≤ sb → B ≤ cb → sb ≠ cb → Single w sb (.int .i64 s) → w.cell? ⟨cb, 0, none⟩ = some (cntF sb cb) → s ≤ 2000 →
    Calls Tryd.prog 30 #[t.val, .pointer (some ⟨sb, 0, none⟩), .pointer (some ⟨cb, 0, none⟩)] w fun e w' => e = .returned (.tuple #[]) ∧ But sb w w' ∧ Single w' sb (.int .i64 (min 2001 (s + t.size) : Nat)) := by
  induction t using Tm.ind with
  | h t ih =>
  intro B sb cb s w hin h1 h2 h3 hs hc h4
  have hsb : sb < w.heap.size := World.block_lt_of_cell? _ _ hs.1
  have hcb : cb < w.heap.size := World.block_lt_of_cell? _ _ hc
  have hsz := Tm.size_eq t
  have IH := mkHid ih
  have HSZ := mkHid hsz
  clear ih hsz
  have R0 : CntR w w.heap.size sb cb s t 0 ((w.alloc (boxT t)).setCell ⟨sb, 0, none⟩ (.int .i64 (s + 1))) := by
    refine ⟨((But.refl sb w).alloc _).set (.inl rfl) _, four_set (box_four w t) (by omega) _, ?_, ?_⟩
    · have := single_set (single_alloc hs (boxT t)) (.int .i64 (s + 1))
      have e : (min 2001 (s + 1 + Tm.sizes (t.ks.take 0)) : Nat) = s + 1 := by simp [Tm.sizes]; omega
      rw [e]; exact this
    · exact (((But.refl sb w).alloc _).set (.inl rfl) _).cell hc (fun e => h3 e.symm)
  have hs1 := single_alloc hs (boxT t)
  obtain ⟨x0, x1⟩ := hs1
  have HIN := mkHid hin
  obtain ⟨-, -, -, hlc, hcm⟩ := hin.nums
  clear hin
  unfold maxLen at hcm
  unfold Tm.val
  have hW : w.alloc (.cells #[.int .i64 t.op, .string t.nm, .int .i64 t.n, .slice t.a t.ks.length t.c] 24) = w.alloc (boxT t) := rfl
  generalize w.alloc (boxT t) = W at *
  clear hs hc
  go_enter Tryd.func30, Tryd.ntmps30
  go_wp2
  clear x0 x1 hW
  have hn : t.ks.length ≤ 9223372036854775807 := by omega
  generalize hX : w.heap.size = X at *
  generalize hn' : t.ks.length = n at *
  have HN := mkHid hn'
  clear hn'
  go_loopw [4] (fun i w' => ∃ (k : Nat) (x : Int), i = .int .i64 x ∧ x = k ∧ k ≤ n ∧ CntR w X sb cb s t k w') (fun i _ => (n - intOf i).toNat)
  case atStart => exact ⟨0, 0, rfl, rfl, Nat.zero_le _, R0⟩
  case round =>
    clear R0
    obtain ⟨k, x, rfl, hxk, hk, R⟩ := hrel
    obtain rfl : x = (k : Int) := hxk
    have hf := R.four
    rw [Four, HN.out] at hf
    obtain ⟨f0, f1, f2, f3⟩ := hf
    have one := R.one
    have cl := R.cl
    unfold cntF at cl
    obtain ⟨s0, s1⟩ := one
    generalize hm : min 2001 (s + 1 + Tm.sizes (t.ks.take k)) = m at *
    by_cases hlt : k < n
    · by_cases hm2 : m ≤ 2000
      · have hm3 : (m : Int) ≤ 2000 := by omega
        have HM := mkHid hm
        clear hm
        have hk' : k < t.ks.length := by rw [HN.out]; exact hlt
        obtain ⟨kin, b, o, ha, hbB, kf⟩ := HIN.out.kid k hk'
        have kin' := kin.keep (R.but.below h1 (by omega))
        have kf' := kf.keep (R.but.below h1 (by omega)) hbB
        have HI := mkHid (IH.out t.ks[k] (List.getElem_mem _) B sb cb m)
        have HT := mkHid (take_succ_sizes t.ks k hk')
        rw [ha] at f3
        clear ha kin kf IH
        generalize t.ks[k] = q at *
        clear hk'
        obtain ⟨g0, g1, g2, g3⟩ := kf'
        simp only [Nat.zero_add] at f1 f2 f3
        have RD : Hid (CntR w X sb cb s t k wr) := R
        clear R
        go_wp2_with fail
        have d0 : wr.drew.cell? ⟨b, o + k * 4, none⟩ = some (.int .i64 q.op) := g0
        have d1 : wr.drew.cell? ⟨b, o + k * 4 + 1, none⟩ = some (.string q.nm) := g1
        have d2 : wr.drew.cell? ⟨b, o + k * 4 + 2, none⟩ = some (.int .i64 q.n) := g2
        have d3 : wr.drew.cell? ⟨b, o + k * 4 + 3, none⟩ = some (.slice q.a q.ks.length q.c) := g3
        have e3 : wr.drew.cell? ⟨X, 3, none⟩ = some (.slice (some ⟨b, o, none⟩) n t.c) := f3
        have dl : wr.drew.cell? ⟨cb, 0, none⟩ = some (.func (.func 30) #[] #[.pointer (some ⟨sb, 0, none⟩), .pointer (some ⟨cb, 0, none⟩)]) := cl
        have HC := mkHid (HI.out wr.drew (kin'.keep (Below.refl B wr).drew) h1 h2 h3 ⟨s0, s1⟩ cl hm2)
        have HB := mkHid (RD.out.but.drew)
        have HF := mkHid (show Four wr.drew X 0 t from RD.out.four)
        clear g0 g1 g2 g3 f0 f1 f2 f3 cl s0 s1 HI kin' RD
        refine wp_region_still_tail 6 (by kernel_rfl) (by kernel_rfl) ?_
        change wpStill _ _ wr.drew (fun a' => wpList _ _ _ _ a' wr.drew) _ _
        generalize wr.drew = wd at *
        simp only [List.take_succ_cons, List.take_zero, List.drop_succ_cons, List.drop_zero]
        repeat still_step
        refine wpStill_nil ?_
        unfold Tm.val at HC
        go_wp2_with (go_at_call 30; ((with_reducible refine HC.out.mono ?_)); rintro e w1 ⟨rfl, hb1, hs1⟩)
        go_roundw
        case rel =>
          refine ⟨k + 1, _, rfl, by omega, by omega, ⟨HB.out.trans hb1, hb1.four HF.out (by omega), ?_, hb1.cell dl (fun e => h3 e.symm)⟩⟩
          rw [HT.out]
          have e : min 2001 (m + q.size) = min 2001 (s + 1 + (Tm.sizes (List.take k t.ks) + q.size)) := by have := HM.out; omega
          rw [← e]; exact hs1
        case measure => simp [intOf]; omega
      · have hm3 : ¬ (m : Int) ≤ 2000 := by omega
        have e : min 2001 (s + t.size) = m := by
          rw [HSZ.out]
          have := sizes_take_le t.ks k
          omega
        clear hm
        have E := mkHid e
        clear e
        simp only [Nat.zero_add] at f1 f2 f3
        go_wp2
        go_end0
        exact ⟨rfl, R.but, by rw [E.out]; exact ⟨s0, s1⟩⟩
    · have e : min 2001 (s + t.size) = m := by
        rw [HSZ.out, ← hm, List.take_of_length_le (by rw [HN.out]; omega)]
        omega
      clear hm
      have E := mkHid e
      clear e
      simp only [Nat.zero_add] at f1 f2 f3
      go_wp2
      go_end0
      exact ⟨rfl, R.but, by rw [E.out]; exact ⟨s0, s1⟩⟩
end Go.Proofs.YtaibmdikimpooaaDoor
