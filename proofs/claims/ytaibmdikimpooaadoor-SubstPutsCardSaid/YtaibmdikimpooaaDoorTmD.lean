/-
  What 'Deep' does, where there are few parts.
-/
import Derived.Test.YtaibmdikimpooaaDoorTmC
namespace Go.Proofs.YtaibmdikimpooaaDoor
open Go.RowKit

/-- nothing that was there has turned, but what stands in two blocks -/
structure But2 (s r : Nat) (w w' : World) : Prop where
  os : w'.os = w.os
  tape : w'.tape = w.tape
  output : w'.output = w.output
  size : w.heap.size ≤ w'.heap.size
  block : ∀ k, k < w.heap.size → k ≠ s → k ≠ r → w'.heap[k]? = w.heap[k]?
theorem But2.refl (s r : Nat) (w : World) : But2 s r w w := ⟨rfl, rfl, rfl, Nat.le_refl _, fun _ _ _ _ => rfl⟩
theorem But2.trans {s r : Nat} {a b c : World} (h : But2 s r a b) (k : But2 s r b c) : But2 s r a c :=
  ⟨k.os.trans h.os, k.tape.trans h.tape, k.output.trans h.output, Nat.le_trans h.size k.size, fun i hi hs hr => (k.block i (Nat.lt_of_lt_of_le hi h.size) hs hr).trans (h.block i hi hs hr)⟩
theorem But2.of {s r : Nat} {w w' : World} (h : Below w.heap.size w w') : But2 s r w w' := ⟨h.os, h.tape, h.output, h.size, fun k hk _ _ => h.block k hk⟩
theorem But2.alloc {s r : Nat} {a w : World} (h : But2 s r a w) (o : Obj) : But2 s r a (w.alloc o) := h.trans (But2.of ((Below.refl _ _).alloc (Nat.le_refl _) o))
theorem But2.set {s r : Nat} {a w : World} (h : But2 s r a w) {p : Addr} (hp : p.block = s ∨ p.block = r ∨ a.heap.size ≤ p.block) (u : Value) : But2 s r a (w.setCell p u) :=
  ⟨h.os, h.tape, h.output, by simpa [World.setCell] using h.size, fun k hk hs hr => by
    rw [Below.heap_setCell w p u k (by rcases hp with e | e | e <;> omega)]; exact h.block k hk hs hr⟩
theorem But2.drew {s r : Nat} {a w : World} (h : But2 s r a w) : But2 s r a w.drew := ⟨h.os, h.tape, h.output, h.size, h.block⟩
theorem But2.below {s r B : Nat} {w w' : World} (h : But2 s r w w') (hs : B ≤ s) (hr : B ≤ r) (hB : B ≤ w.heap.size) : Below B w w' :=
  ⟨h.os, h.tape, h.output, h.size, fun k hk => h.block k (by omega) (by omega) (by omega)⟩
theorem But2.cell {s r : Nat} {w w' : World} (h : But2 s r w w') {p : Addr} {v : Value} (hc : w.cell? p = some v) (hp : p.block ≠ s) (hr : p.block ≠ r) : w'.cell? p = some v := by
  have := World.cell?_of_block (w := w) (h.block p.block (World.block_lt_of_cell? _ _ hc) hp hr)
  rw [this]; exact hc
theorem But2.four {s r : Nat} {w w' : World} {b o : Nat} {t : Tm} (h : But2 s r w w') (hc : Four w b o t) (hp : b ≠ s) (hr : b ≠ r) : Four w' b o t :=
  ⟨h.cell hc.1 hp hr, h.cell hc.2.1 hp hr, h.cell hc.2.2.1 hp hr, h.cell hc.2.2.2 hp hr⟩
/-- a block of two cells that may be written -/
def Two (w : World) (b : Nat) (x y : Value) : Prop := w.cell? ⟨b, 0, none⟩ = some x ∧ w.cell? ⟨b, 1, none⟩ = some y ∧ w.frozen? ⟨b, 0, none⟩ = false ∧ w.frozen? ⟨b, 1, none⟩ = false
theorem two_set0 {w : World} {b : Nat} {x y : Value} (h : Two w b x y) (u : Value) : Two (w.setCell ⟨b, 0, none⟩ u) b u y := by
  obtain ⟨h0, h1, f0, f1⟩ := h
  simp [Two, go_sem, h0, h1, f0, f1]
theorem two_far {w : World} {b c : Nat} {x y : Value} (h : Two w b x y) (hne : c ≠ b) (i : Nat) (u : Value) : Two (w.setCell ⟨c, i, none⟩ u) b x y := by
  have e : (w.setCell ⟨c, i, none⟩ u).heap[b]? = w.heap[b]? := Below.heap_setCell w ⟨c, i, none⟩ u b (by simpa using fun e => hne e.symm)
  obtain ⟨h0, h1, f0, f1⟩ := h
  exact ⟨by rw [World.cell?_of_block (w := w) e]; exact h0, by rw [World.cell?_of_block (w := w) e]; exact h1, by rw [World.frozen?_of_block (w := w) e]; exact f0, by rw [World.frozen?_of_block (w := w) e]; exact f1⟩
theorem two_later {w w1 : World} {b : Nat} {x y : Value} (hb : Below w.heap.size w w1) (h : Two w b x y) : Two w1 b x y :=
  ⟨cell_later hb h.1, cell_later hb h.2.1, frozen_later hb h.1 h.2.2.1, frozen_later hb h.2.1 h.2.2.2⟩
theorem single_far {w : World} {b c : Nat} {x : Value} (h : Single w b x) (hne : c ≠ b) (i : Nat) (u : Value) : Single (w.setCell ⟨c, i, none⟩ u) b x := by
  have e : (w.setCell ⟨c, i, none⟩ u).heap[b]? = w.heap[b]? := Below.heap_setCell w ⟨c, i, none⟩ u b (by simpa using fun e => hne e.symm)
  obtain ⟨h0, f0⟩ := h
  exact ⟨by rw [World.cell?_of_block (w := w) e]; exact h0, by rw [World.frozen?_of_block (w := w) e]; exact f0⟩

set_option maxRecDepth 100000 in
set_option maxHeartbeats 1000000 in
theorem before_small (gb p : Nat) (m : Value) (A1 A2 : Option Addr) (n1 c1 n2 c2 : Nat) (l : Int) (w : World) (h : Two w gb (.int .i64 p) m) (hp : p + 1 ≤ 2000) :
    Calls Tryd.prog 33 #[.pointer (some ⟨gb, 0, none⟩), .slice A1 n1 c1, .slice A2 n2 c2, .int .i64 l] w fun e w' => e = .returned (.bool false) ∧ w' = w.setCell ⟨gb, 0, none⟩ (.int .i64 (p + 1)) := by
  obtain ⟨h0, h1, f0, f1⟩ := h
  have hp' : (p : Int) + 1 ≤ 2000 := by omega
  go_enter Tryd.func33, Tryd.ntmps33
  go_wp2
  go_ret
  exact ⟨rfl, rfl⟩

theorem take_succ_deeps (ks : List Tm) (k : Nat) (h : k < ks.length) : Tm.deeps (ks.take (k + 1)) = max (Tm.deeps (ks.take k)) (ks[k]).deep := by
  induction ks generalizing k with
  | nil => simp at h
  | cons t ts ih =>
    cases k with
    | zero => simp [Tm.deeps]
    | succ k => simp only [List.take_succ_cons, Tm.deeps, List.getElem_cons_succ]; rw [ih k (by simpa using h)]; omega
theorem deeps_take_le (ks : List Tm) (k : Nat) : Tm.deeps (ks.take k) ≤ Tm.deeps ks := by
  induction ks generalizing k with
  | nil => simp
  | cons t ts ih =>
    cases k with
    | zero => simp [Tm.deeps]
    | succ k => simp only [List.take_succ_cons, Tm.deeps]; have := ih k; omega
theorem deep_pos (t : Tm) : 0 < t.deep := by rw [Tm.deep_eq]; omega

/-- the closure of Deep -/
def folF (db gb fb : Nat) : Value := .func (.func 32) #[] #[.pointer (some ⟨db, 0, none⟩), .pointer (some ⟨gb, 0, none⟩), .pointer (some ⟨fb, 0, none⟩)]
structure FolR (w0 : World) (X db gb fb d l p : Nat) (t : Tm) (k : Nat) (w : World) : Prop where
  but : But2 db gb w0 w
  four : Four w X 0 t
  one : Single w db (.int .i64 (min 101 (max d (l + Tm.deeps (t.ks.take k))) : Nat))
  two : ∃ q : Nat, q ≤ p + 1 + Tm.sizes (t.ks.take k) ∧ Two w gb (.int .i64 q) (.map none)
  cl : w.cell? ⟨fb, 0, none⟩ = some (folF db gb fb)

set_option maxRecDepth 100000 in
set_option maxHeartbeats 4000000 in
theorem follow_any (t : Tm) : ∀ (B db gb fb d l p : Nat) (w : World), TIn w B t → B ≤ db → B ≤ gb → B ≤ fb → db ≠ gb → db ≠ fb → gb ≠ fb → Single w db (.int .i64 d) → Two w gb (.int .i64 p) (.map none) → w.cell? ⟨fb, 0, none⟩ = some (folF db gb fb) → d ≤ 100 → 1 ≤ l → l ≤ 101 → p + t.size ≤ 2000 →
    Calls Tryd.prog 32 #[t.val, .int .i64 l, .pointer (some ⟨db, 0, none⟩), .pointer (some ⟨gb, 0, none⟩), .pointer (some ⟨fb, 0, none⟩)] w fun e w' => e = .returned (.tuple #[]) ∧ But2 db gb w w' ∧ Single w' db (.int .i64 (min 101 (max d (l - 1 + t.deep)) : Nat)) ∧ ∃ q : Nat, q ≤ p + t.size ∧ Two w' gb (.int .i64 q) (.map none) := by
  induction t using Tm.ind with
  | h t ih =>
  intro B db gb fb d l p w hin h1 h2 h3 n1 n2 n3 hd hg hf hd1 hl1 hl2 hp
  have hdb : db < w.heap.size := World.block_lt_of_cell? _ _ hd.1
  have hgb : gb < w.heap.size := World.block_lt_of_cell? _ _ hg.1
  have hfb : fb < w.heap.size := World.block_lt_of_cell? _ _ hf
  have hsz := Tm.size_eq t
  have hdp := Tm.deep_eq t
  have IH := mkHid ih
  have HSZ := mkHid hsz
  have HDP := mkHid hdp
  have hp1 : p + 1 ≤ 2000 := by have := size_pos t; omega
  clear ih
  have D1 := single_set (single_alloc hd (boxT t)) (.int .i64 (max d l : Nat))
  have G1 := two_far (two_later (bel_alloc w (boxT t)) hg) n1 0 (.int .i64 (max d l : Nat))
  have R0 : FolR w w.heap.size db gb fb d l p t 0 (((w.alloc (boxT t)).setCell ⟨db, 0, none⟩ (.int .i64 (max d l : Nat))).setCell ⟨gb, 0, none⟩ (.int .i64 (p + 1))) := by
    have b0 : But2 db gb w (((w.alloc (boxT t)).setCell ⟨db, 0, none⟩ (.int .i64 (max d l : Nat))).setCell ⟨gb, 0, none⟩ (.int .i64 (p + 1))) := (((But2.refl db gb w).alloc _).set (.inl rfl) _).set (.inr (.inl rfl)) _
    refine ⟨b0, four_set (four_set (box_four w t) (by omega) _) (by omega) _, ?_, ⟨p + 1, by omega, two_set0 G1 _⟩, b0.cell hf (by simpa using fun e => n2 e.symm) (by simpa using fun e => n3 e.symm)⟩
    have e : (min 101 (max d (l + Tm.deeps (t.ks.take 0))) : Nat) = max d l := by simp [Tm.deeps]; omega
    rw [e]; exact single_far D1 (fun e => n1 e.symm) _ _
  have F0 := (four_set (box_four w t) (c := db) (by omega) (.int .i64 (max d l : Nat))).2.2.2
  simp only [Nat.zero_add] at F0
  have BF := mkHid (fun A n c => before_small gb p (.map none) A none n c 0 0 l _ G1 hp1)
  obtain ⟨x0, x1⟩ := single_alloc hd (boxT t)
  have HIN := mkHid hin
  obtain ⟨-, -, -, hlc, hcm⟩ := hin.nums
  unfold maxLen at hcm
  clear hin hd hg hf D1 G1 hsz hdp
  unfold Tm.val
  have hW : w.alloc (.cells #[.int .i64 t.op, .string t.nm, .int .i64 t.n, .slice t.a t.ks.length t.c] 24) = w.alloc (boxT t) := rfl
  generalize w.alloc (boxT t) = W at *
  have hn : t.ks.length ≤ 9223372036854775807 := by omega
  generalize hX : w.heap.size = X at *
  generalize hn' : t.ks.length = n at *
  have HN := mkHid hn'
  clear hn'
  generalize hM : max d l = M at *
  have HM := mkHid hM
  have hM1 : l ≤ M := by omega
  have cs : d = M ∧ l ≤ d ∨ l = M ∧ d < l := by omega
  clear hM
  rcases cs with ⟨rfl, hdl⟩ | ⟨rfl, hdl⟩
  all_goals
    go_enter Tryd.func32, Tryd.ntmps32
    go_wp2_with fail
    ((with_reducible refine (BF.out _ _ _).mono ?_)); rintro e w1 ⟨rfl, rfl⟩
    clear x0 x1 hW BF F0
    go_wp2
    go_loopw [7] (fun i w' => ∃ (k : Nat) (x : Int), i = .int .i64 x ∧ x = k ∧ k ≤ n ∧ FolR w X db gb fb d l p t k w') (fun i _ => (n - intOf i).toNat)
    case atStart => exact ⟨0, 0, rfl, rfl, Nat.zero_le _, R0⟩
    case round =>
      clear R0
      obtain ⟨k, x, rfl, hxk, hk, R⟩ := hrel
      obtain rfl : x = (k : Int) := hxk
      have hf := R.four
      rw [Four, HN.out] at hf
      obtain ⟨f0, f1, f2, f3⟩ := hf
      have one := R.one
      have cl := R.cl
      unfold folF at cl
      obtain ⟨s0, s1⟩ := one
      obtain ⟨q0, hq0, tw⟩ := R.two
      simp only [Nat.zero_add] at f1 f2 f3
      generalize hm : min 101 (max d (l + Tm.deeps (t.ks.take k))) = m at *
      by_cases hlt : k < n
      · by_cases hm2 : m ≤ 100
        · have hm3 : (m : Int) ≤ 100 := by omega
          have hl3 : l ≤ 100 := by omega
          have HMm := mkHid hm
          clear hm
          have hk' : k < t.ks.length := by rw [HN.out]; exact hlt
          obtain ⟨kin, b, o, ha, hbB, kf⟩ := HIN.out.kid k hk'
          have kin' := kin.keep (R.but.below h1 h2 (by omega))
          have kf' := kf.keep (R.but.below h1 h2 (by omega)) hbB
          have HI := mkHid (IH.out t.ks[k] (List.getElem_mem _) B db gb fb m (l + 1) q0)
          have HT := mkHid (take_succ_sizes t.ks k hk')
          have HT2 := mkHid (take_succ_deeps t.ks k hk')
          have hle := sizes_take_le t.ks (k + 1)
          rw [HT.out] at hle
          rw [ha] at f3
          have hsp := HSZ.out
          clear ha kin kf IH
          generalize t.ks[k] = q at *
          clear hk'
          obtain ⟨g0, g1, g2, g3⟩ := kf'
          have RD : Hid (FolR w X db gb fb d l p t k wr) := R
          clear R
          go_wp2_with fail
          have d0 : wr.drew.cell? ⟨b, o + k * 4, none⟩ = some (.int .i64 q.op) := g0
          have d1 : wr.drew.cell? ⟨b, o + k * 4 + 1, none⟩ = some (.string q.nm) := g1
          have d2 : wr.drew.cell? ⟨b, o + k * 4 + 2, none⟩ = some (.int .i64 q.n) := g2
          have d3 : wr.drew.cell? ⟨b, o + k * 4 + 3, none⟩ = some (.slice q.a q.ks.length q.c) := g3
          have e3 : wr.drew.cell? ⟨X, 3, none⟩ = some (.slice (some ⟨b, o, none⟩) n t.c) := f3
          have dl : wr.drew.cell? ⟨fb, 0, none⟩ = some (.func (.func 32) #[] #[.pointer (some ⟨db, 0, none⟩), .pointer (some ⟨gb, 0, none⟩), .pointer (some ⟨fb, 0, none⟩)]) := cl
          have HC := mkHid (HI.out wr.drew (kin'.keep (Below.refl B wr).drew) h1 h2 h3 n1 n2 n3 ⟨s0, s1⟩ tw cl hm2 (by omega) (by omega) (by omega))
          rw [show ((l + 1 : Nat) : Int) = (l : Int) + 1 by omega, show l + 1 - 1 = l by omega] at HC
          have HB := mkHid (RD.out.but.drew)
          have HF := mkHid (show Four wr.drew X 0 t from RD.out.four)
          clear g0 g1 g2 g3 f0 f1 f2 f3 cl s0 s1 HI kin' RD tw hsp
          refine wp_region_still_tail 8 (by kernel_rfl) (by kernel_rfl) ?_
          change wpStill _ _ wr.drew (fun a' => wpList _ _ _ _ a' wr.drew) _ _
          generalize wr.drew = wd at *
          simp only [List.take_succ_cons, List.take_zero, List.drop_succ_cons, List.drop_zero]
          repeat still_step
          refine wpStill_nil ?_
          unfold Tm.val at HC
          go_wp2_with (go_at_call 32; ((with_reducible refine HC.out.mono ?_)); rintro e w1 ⟨rfl, hb1, hs1, ⟨q1, hq1, tw1⟩⟩)
          go_roundw
          case rel =>
            refine ⟨k + 1, _, rfl, by omega, by omega, ⟨HB.out.trans hb1, hb1.four HF.out (by omega) (by omega), ?_, ⟨q1, by rw [HT.out]; omega, tw1⟩, hb1.cell dl (by simpa using fun e => n2 e.symm) (by simpa using fun e => n3 e.symm)⟩⟩
            rw [HT2.out]
            have e : min 101 (max m (l + q.deep)) = min 101 (max d (l + max (Tm.deeps (List.take k t.ks)) q.deep)) := by have := HMm.out; omega
            rw [← e]; exact hs1
          case measure => simp [intOf]; omega
        · have hm3 : ¬ (m : Int) ≤ 100 := by omega
          have e : min 101 (max d (l - 1 + t.deep)) = m := by
            rw [HDP.out]
            have := deeps_take_le t.ks k
            omega
          have e2 : q0 ≤ p + t.size := by
            rw [HSZ.out]
            have := sizes_take_le t.ks k
            omega
          clear hm
          have E := mkHid e
          clear e
          go_wp2
          go_end0
          exact ⟨rfl, R.but, by rw [E.out]; exact ⟨s0, s1⟩, q0, e2, tw⟩
      · have e : min 101 (max d (l - 1 + t.deep)) = m := by
          rw [HDP.out, ← hm, List.take_of_length_le (by rw [HN.out]; omega)]
          congr 2
          omega
        have e2 : q0 ≤ p + t.size := by
          rw [HSZ.out]
          have := sizes_take_le t.ks k
          omega
        clear hm
        have E := mkHid e
        clear e
        go_wp2
        go_end0
        exact ⟨rfl, R.but, by rw [E.out]; exact ⟨s0, s1⟩, q0, e2, tw⟩
end Go.Proofs.YtaibmdikimpooaaDoor
