/-
  What SubstValues's proof stands on, part 1: TmA, TmB, TmC, TmD, TmE, TmF.
-/
import Derived.Test.YtdfebacjbapahaaGreatDoorRows
import Derived.WalkKit
import Derived.WalkSpells
import Derived.WalkLawsBesides
import Derived.BigQuiet
import Derived.Deep.QuietTactic
import Derived.Deep.RegionHeld3
import Derived.StillTailTactics
import Derived.WalkSmall
import Derived.ProofKit
import Derived.OpenShut
import Derived.Below
import Derived.Laws.EntriesVeiled
namespace Go.Proofs.YtdfebacjbapahaaGreatDoor
section
open Go.RowKit

theorem ret_int {k : IntKind} {a b : Int} (h : a = b) : Ending.returned (.int k a) = .returned (.int k b) := by rw [h]
theorem mkHid {p : Prop} (h : p) : Hid p := h
theorem bon {w a b : World} (h : Below w.heap.size w a) (hb : Below a.heap.size a b) : Below w.heap.size w b := h.trans (hb.mono h.size)
theorem bal {w a : World} (h : Below w.heap.size w a) (o : Obj) : Below w.heap.size w (a.alloc o) := h.alloc h.size o
theorem bset {w a : World} (h : Below w.heap.size w a) {p : Addr} (hp : w.heap.size ≤ p.block) (u : Value) : Below w.heap.size w (a.setCell p u) := h.setCell hp u
theorem bdrew {w a : World} (h : Below w.heap.size w a) : Below w.heap.size w a.drew := h.drew
theorem cell_later {w w1 : World} (hb : Below w.heap.size w w1) {a : Addr} {v : Value} (h : w.cell? a = some v) : w1.cell? a = some v := by
  rw [hb.cell (World.block_lt_of_cell? _ _ h)]; exact h
theorem frozen_later {w w1 : World} (hb : Below w.heap.size w w1) {a : Addr} {v : Value} (h : w.cell? a = some v) (hf : w.frozen? a = false) : w1.frozen? a = false := by
  rw [hb.frozen (World.block_lt_of_cell? _ _ h)]; exact hf
/-- an int64, as a Bool -/
def fitB (n : Int) : Bool := decide (-9223372036854775808 ≤ n) && decide (n ≤ 9223372036854775807)
theorem fitB_iff (n : Int) : fitB n = true ↔ -9223372036854775808 ≤ n ∧ n ≤ 9223372036854775807 := by
  simp [fitB]

/-- a term: operation, name, number, where its parts stand, how much room there is, and the parts -/
inductive Tm where
  | node (op : Int) (nm : ByteArray) (n : Int) (a : Option Addr) (c : Nat) (ks : List Tm)
namespace Tm
def op : Tm → Int | node o _ _ _ _ _ => o
def nm : Tm → ByteArray | node _ s _ _ _ _ => s
def n : Tm → Int | node _ _ n _ _ _ => n
def a : Tm → Option Addr | node _ _ _ a _ _ => a
def c : Tm → Nat | node _ _ _ _ c _ => c
def ks : Tm → List Tm | node _ _ _ _ _ k => k
def val (t : Tm) : Value := .agg #[.int .i64 t.op, .string t.nm, .int .i64 t.n, .slice t.a t.ks.length t.c]
theorem ind {P : Tm → Prop} (h : ∀ t : Tm, (∀ k ∈ t.ks, P k) → P t) (t : Tm) : P t :=
  Tm.rec (motive_1 := P) (motive_2 := fun ks => ∀ k ∈ ks, P k) (fun op nm n a c ks ih => h (.node op nm n a c ks) ih) (by simp)
    (fun t ts h1 h2 k hk => by
      rcases List.mem_cons.1 hk with rfl | hk
      · exact h1
      · exact h2 k hk) t
mutual
def size : Tm → Nat
  | node _ _ _ _ _ ks => 1 + sizes ks
def sizes : List Tm → Nat
  | [] => 0
  | t :: ts => size t + sizes ts
end
mutual
def deep : Tm → Nat
  | node _ _ _ _ _ ks => 1 + deeps ks
def deeps : List Tm → Nat
  | [] => 0
  | t :: ts => max (deep t) (deeps ts)
end
theorem size_eq (t : Tm) : t.size = 1 + sizes t.ks := by cases t; simp [size, ks]
theorem deep_eq (t : Tm) : t.deep = 1 + deeps t.ks := by cases t; simp [deep, ks]
end Tm

/-- the four cells of a term -/
def Four (w : World) (b o : Nat) (t : Tm) : Prop :=
  w.cell? ⟨b, o, none⟩ = some (.int .i64 t.op) ∧ w.cell? ⟨b, o + 1, none⟩ = some (.string t.nm) ∧ w.cell? ⟨b, o + 2, none⟩ = some (.int .i64 t.n) ∧ w.cell? ⟨b, o + 3, none⟩ = some (.slice t.a t.ks.length t.c)
/-- a term lies in memory, in blocks below B -/
inductive TIn (w : World) (B : Nat) : Tm → Prop
  | mk (t : Tm) (ho : fitB t.op = true) (hn : fitB t.n = true) (hs : t.nm.size ≤ maxLen) (hc : t.ks.length ≤ t.c) (hm : t.c ≤ maxLen)
      (hk : ∀ j (h : j < t.ks.length), ∃ b o, t.a = some ⟨b, o, none⟩ ∧ b < B ∧ Four w b (o + j * 4) t.ks[j]) (hi : ∀ k ∈ t.ks, TIn w B k) : TIn w B t

theorem TIn.nums {w : World} {B : Nat} {t : Tm} (h : TIn w B t) : fitB t.op = true ∧ fitB t.n = true ∧ t.nm.size ≤ maxLen ∧ t.ks.length ≤ t.c ∧ t.c ≤ maxLen := by
  cases h with
  | mk _ ho hn hs hc hm hk hi => exact ⟨ho, hn, hs, hc, hm⟩
theorem TIn.kid {w : World} {B : Nat} {t : Tm} (h : TIn w B t) (j : Nat) (hj : j < t.ks.length) : TIn w B t.ks[j] ∧ ∃ b o, t.a = some ⟨b, o, none⟩ ∧ b < B ∧ Four w b (o + j * 4) t.ks[j] := by
  cases h with
  | mk _ ho hn hs hc hm hk hi => exact ⟨hi _ (List.getElem_mem _), hk j hj⟩

theorem Four.keep {w w' : World} {b o B : Nat} {t : Tm} (h : Four w b o t) (hb : Below B w w') (hB : b < B) : Four w' b o t := by
  unfold Four at *
  rw [hb.cell (p := ⟨b, o, none⟩) hB, hb.cell (p := ⟨b, o + 1, none⟩) hB, hb.cell (p := ⟨b, o + 2, none⟩) hB, hb.cell (p := ⟨b, o + 3, none⟩) hB]
  exact h
theorem TIn.keep {w w' : World} {B : Nat} {t : Tm} (h : TIn w B t) (hb : Below B w w') : TIn w' B t := by
  induction h with
  | mk t ho hn hs hc hm hk _ ih =>
    refine .mk t ho hn hs hc hm (fun j hj => ?_) ih
    obtain ⟨b, o, h1, h2, h3⟩ := hk j hj
    exact ⟨b, o, h1, h2, h3.keep hb h2⟩
theorem TIn.mono {w : World} {B B' : Nat} {t : Tm} (h : TIn w B t) (hB : B ≤ B') : TIn w B' t := by
  induction h with
  | mk t ho hn hs hc hm hk _ ih =>
    refine .mk t ho hn hs hc hm (fun j hj => ?_) ih
    obtain ⟨b, o, h1, h2, h3⟩ := hk j hj
    exact ⟨b, o, h1, by omega, h3⟩

/-- nothing that was there has turned, but what stands in block s -/
structure But (s : Nat) (w w' : World) : Prop where
  os : w'.os = w.os
  tape : w'.tape = w.tape
  output : w'.output = w.output
  size : w.heap.size ≤ w'.heap.size
  block : ∀ k, k < w.heap.size → k ≠ s → w'.heap[k]? = w.heap[k]?
theorem But.refl (s : Nat) (w : World) : But s w w := ⟨rfl, rfl, rfl, Nat.le_refl _, fun _ _ _ => rfl⟩
theorem But.trans {s : Nat} {a b c : World} (h : But s a b) (k : But s b c) : But s a c :=
  ⟨k.os.trans h.os, k.tape.trans h.tape, k.output.trans h.output, Nat.le_trans h.size k.size, fun i hi hs => (k.block i (Nat.lt_of_lt_of_le hi h.size) hs).trans (h.block i hi hs)⟩
theorem But.of {s : Nat} {w w' : World} (h : Below w.heap.size w w') : But s w w' := ⟨h.os, h.tape, h.output, h.size, fun k hk _ => h.block k hk⟩
theorem But.alloc {s : Nat} {a w : World} (h : But s a w) (o : Obj) : But s a (w.alloc o) := h.trans (But.of ((Below.refl _ _).alloc (Nat.le_refl _) o))
theorem But.set {s : Nat} {a w : World} (h : But s a w) {p : Addr} (hp : p.block = s ∨ a.heap.size ≤ p.block) (u : Value) : But s a (w.setCell p u) :=
  ⟨h.os, h.tape, h.output, by simpa [World.setCell] using h.size, fun k hk hs => by
    rw [Below.heap_setCell w p u k (by rcases hp with e | e <;> omega)]; exact h.block k hk hs⟩
theorem But.drew {s : Nat} {a w : World} (h : But s a w) : But s a w.drew := ⟨h.os, h.tape, h.output, h.size, h.block⟩
theorem But.below {s B : Nat} {w w' : World} (h : But s w w') (hs : B ≤ s) (hB : B ≤ w.heap.size) : Below B w w' :=
  ⟨h.os, h.tape, h.output, h.size, fun k hk => h.block k (by omega) (by omega)⟩
theorem But.cell {s : Nat} {w w' : World} (h : But s w w') {p : Addr} {v : Value} (hc : w.cell? p = some v) (hp : p.block ≠ s) : w'.cell? p = some v := by
  have := World.cell?_of_block (w := w) (h.block p.block (World.block_lt_of_cell? _ _ hc) hp)
  rw [this]; exact hc
theorem But.frozen {s : Nat} {w w' : World} (h : But s w w') {p : Addr} {v : Value} (hc : w.cell? p = some v) (hp : p.block ≠ s) (hf : w.frozen? p = false) : w'.frozen? p = false := by
  have := World.frozen?_of_block (w := w) (h.block p.block (World.block_lt_of_cell? _ _ hc) hp)
  rw [this]; exact hf
theorem But.four {s : Nat} {w w' : World} {b o : Nat} {t : Tm} (h : But s w w') (hc : Four w b o t) (hp : b ≠ s) : Four w' b o t :=
  ⟨h.cell hc.1 hp, h.cell hc.2.1 hp, h.cell hc.2.2.1 hp, h.cell hc.2.2.2 hp⟩
/-- a block of one cell that may be written -/
def Single (w : World) (b : Nat) (x : Value) : Prop := w.cell? ⟨b, 0, none⟩ = some x ∧ w.frozen? ⟨b, 0, none⟩ = false
theorem But.single {s b : Nat} {w w' : World} {x : Value} (h : But s w w') (hc : Single w b x) (hp : b ≠ s) : Single w' b x :=
  ⟨h.cell hc.1 hp, h.frozen hc.1 hp hc.2⟩
end
section
open Go.RowKit

theorem take_succ_sizes (ks : List Tm) (k : Nat) (h : k < ks.length) : Tm.sizes (ks.take (k + 1)) = Tm.sizes (ks.take k) + (ks[k]).size := by
  induction ks generalizing k with
  | nil => simp at h
  | cons t ts ih =>
    cases k with
    | zero => simp [Tm.sizes]
    | succ k => simp only [List.take_succ_cons, Tm.sizes, List.getElem_cons_succ]; rw [ih k (by simpa using h)]; omega
theorem sizes_take_le (ks : List Tm) (k : Nat) : Tm.sizes (ks.take k) ≤ Tm.sizes ks := by
  induction ks generalizing k with
  | nil => simp
  | cons t ts ih =>
    cases k with
    | zero => simp [Tm.sizes]
    | succ k => simp only [List.take_succ_cons, Tm.sizes]; have := ih k; omega
theorem size_pos (t : Tm) : 0 < t.size := by rw [Tm.size_eq]; omega

/-- the closure of Size -/
def cntF (sb cb : Nat) : Value := .func (.func 36) #[] #[.pointer (some ⟨sb, 0, none⟩), .pointer (some ⟨cb, 0, none⟩)]

/-- the box of a term that is handed in -/
def boxT (t : Tm) : Obj := .cells #[.int .i64 t.op, .string t.nm, .int .i64 t.n, .slice t.a t.ks.length t.c] 24
theorem box_four (w : World) (t : Tm) : Four (w.alloc (boxT t)) w.heap.size 0 t := by simp [Four, boxT, go_sem]
theorem single_alloc {w : World} {b : Nat} {x : Value} (h : Single w b x) (o : Obj) : Single (w.alloc o) b x :=
  ⟨cell_later (bal (Below.refl _ _) o) h.1, frozen_later (bal (Below.refl _ _) o) h.1 h.2⟩
theorem single_set {w : World} {b : Nat} {x : Value} (h : Single w b x) (y : Value) : Single (w.setCell ⟨b, 0, none⟩ y) b y := by
  obtain ⟨h0, h1⟩ := h
  simp [Single, go_sem, h0, h1]
theorem four_set {w : World} {b o c : Nat} {t : Tm} (h : Four w b o t) (hne : c ≠ b) (y : Value) : Four (w.setCell ⟨c, 0, none⟩ y) b o t :=
  (But.refl c w).set (.inl rfl) y |>.four h (fun e => hne e.symm)

structure CntR (w0 : World) (X sb cb s : Nat) (t : Tm) (k : Nat) (w : World) : Prop where
  but : But sb w0 w
  four : Four w X 0 t
  one : Single w sb (.int .i64 (min 2001 (s + 1 + Tm.sizes (t.ks.take k)) : Nat))
  cl : w.cell? ⟨cb, 0, none⟩ = some (cntF sb cb)
theorem four_cells {w : World} {b o : Nat} {t : Tm} (h : Four w b o t) : w.cell? ⟨b, o, none⟩ = some (.int .i64 t.op) ∧ w.cell? ⟨b, o + 1, none⟩ = some (.string t.nm) ∧ w.cell? ⟨b, o + 2, none⟩ = some (.int .i64 t.n) ∧ w.cell? ⟨b, o + 3, none⟩ = some (.slice t.a t.ks.length t.c) := h

set_option maxRecDepth 100000 in
set_option maxHeartbeats 2000000 in
theorem count_any (t : Tm) : ∀ (B sb cb s : Nat) (w : World), TIn w B t → B ≤ sb → B ≤ cb → sb ≠ cb → Single w sb (.int .i64 s) → w.cell? ⟨cb, 0, none⟩ = some (cntF sb cb) → s ≤ 2000 →
    Calls Tryz.prog 36 #[t.val, .pointer (some ⟨sb, 0, none⟩), .pointer (some ⟨cb, 0, none⟩)] w fun e w' => e = .returned (.tuple #[]) ∧ But sb w w' ∧ Single w' sb (.int .i64 (min 2001 (s + t.size) : Nat)) := by
  induction t using Tm.ind with
  | h t ih =>
  intro B sb cb s w hin h1 h2 h3 hs hc h4
  have hsb : sb < w.heap.size := World.block_lt_of_cell? _ _ hs.1
  have hcb : cb < w.heap.size := World.block_lt_of_cell? _ _ hc
  have hsz := Tm.size_eq t
  have IH := mkHid ih
  have HSZ := mkHid hsz
  clear ih hsz
  have R0 : CntR w w.heap.size sb cb s t 0 ((w.alloc (boxT t)).setCell ⟨sb, 0, none⟩ (.int .i64 (s + 1))) := by
    refine ⟨((But.refl sb w).alloc _).set (.inl rfl) _, four_set (box_four w t) (by omega) _, ?_, ?_⟩
    · have := single_set (single_alloc hs (boxT t)) (.int .i64 (s + 1))
      have e : (min 2001 (s + 1 + Tm.sizes (t.ks.take 0)) : Nat) = s + 1 := by simp [Tm.sizes]; omega
      rw [e]; exact this
    · exact (((But.refl sb w).alloc _).set (.inl rfl) _).cell hc (fun e => h3 e.symm)
  have hs1 := single_alloc hs (boxT t)
  obtain ⟨x0, x1⟩ := hs1
  have HIN := mkHid hin
  obtain ⟨-, -, -, hlc, hcm⟩ := hin.nums
  clear hin
  unfold maxLen at hcm
  unfold Tm.val
  have hW : w.alloc (.cells #[.int .i64 t.op, .string t.nm, .int .i64 t.n, .slice t.a t.ks.length t.c] 24) = w.alloc (boxT t) := rfl
  generalize w.alloc (boxT t) = W at *
  clear hs hc
  go_enter Tryz.func36, Tryz.ntmps36
  go_wp2
  clear x0 x1 hW
  have hn : t.ks.length ≤ 9223372036854775807 := by omega
  generalize hX : w.heap.size = X at *
  generalize hn' : t.ks.length = n at *
  have HN := mkHid hn'
  clear hn'
  go_loopw [4] (fun i w' => ∃ (k : Nat) (x : Int), i = .int .i64 x ∧ x = k ∧ k ≤ n ∧ CntR w X sb cb s t k w') (fun i _ => (n - intOf i).toNat)
  case atStart => exact ⟨0, 0, rfl, rfl, Nat.zero_le _, R0⟩
  case round =>
    clear R0
    obtain ⟨k, x, rfl, hxk, hk, R⟩ := hrel
    obtain rfl : x = (k : Int) := hxk
    have hf := R.four
    rw [Four, HN.out] at hf
    obtain ⟨f0, f1, f2, f3⟩ := hf
    have one := R.one
    have cl := R.cl
    unfold cntF at cl
    obtain ⟨s0, s1⟩ := one
    generalize hm : min 2001 (s + 1 + Tm.sizes (t.ks.take k)) = m at *
    by_cases hlt : k < n
    · by_cases hm2 : m ≤ 2000
      · have hm3 : (m : Int) ≤ 2000 := by omega
        have HM := mkHid hm
        clear hm
        have hk' : k < t.ks.length := by rw [HN.out]; exact hlt
        obtain ⟨kin, b, o, ha, hbB, kf⟩ := HIN.out.kid k hk'
        have kin' := kin.keep (R.but.below h1 (by omega))
        have kf' := kf.keep (R.but.below h1 (by omega)) hbB
        have HI := mkHid (IH.out t.ks[k] (List.getElem_mem _) B sb cb m)
        have HT := mkHid (take_succ_sizes t.ks k hk')
        rw [ha] at f3
        clear ha kin kf IH
        generalize t.ks[k] = q at *
        clear hk'
        obtain ⟨g0, g1, g2, g3⟩ := kf'
        simp only [Nat.zero_add] at f1 f2 f3
        have RD : Hid (CntR w X sb cb s t k wr) := R
        clear R
        go_wp2_with fail
        have d0 : wr.drew.cell? ⟨b, o + k * 4, none⟩ = some (.int .i64 q.op) := g0
        have d1 : wr.drew.cell? ⟨b, o + k * 4 + 1, none⟩ = some (.string q.nm) := g1
        have d2 : wr.drew.cell? ⟨b, o + k * 4 + 2, none⟩ = some (.int .i64 q.n) := g2
        have d3 : wr.drew.cell? ⟨b, o + k * 4 + 3, none⟩ = some (.slice q.a q.ks.length q.c) := g3
        have e3 : wr.drew.cell? ⟨X, 3, none⟩ = some (.slice (some ⟨b, o, none⟩) n t.c) := f3
        have dl : wr.drew.cell? ⟨cb, 0, none⟩ = some (.func (.func 36) #[] #[.pointer (some ⟨sb, 0, none⟩), .pointer (some ⟨cb, 0, none⟩)]) := cl
        have HC := mkHid (HI.out wr.drew (kin'.keep (Below.refl B wr).drew) h1 h2 h3 ⟨s0, s1⟩ cl hm2)
        have HB := mkHid (RD.out.but.drew)
        have HF := mkHid (show Four wr.drew X 0 t from RD.out.four)
        clear g0 g1 g2 g3 f0 f1 f2 f3 cl s0 s1 HI kin' RD
        refine wp_region_still_tail 6 (by kernel_rfl) (by kernel_rfl) ?_
        change wpStill _ _ wr.drew (fun a' => wpList _ _ _ _ a' wr.drew) _ _
        generalize wr.drew = wd at *
        simp only [List.take_succ_cons, List.take_zero, List.drop_succ_cons, List.drop_zero]
        repeat still_step
        refine wpStill_nil ?_
        unfold Tm.val at HC
        go_wp2_with (go_at_call 36; ((with_reducible refine HC.out.mono ?_)); rintro e w1 ⟨rfl, hb1, hs1⟩)
        go_roundw
        case rel =>
          refine ⟨k + 1, _, rfl, by omega, by omega, ⟨HB.out.trans hb1, hb1.four HF.out (by omega), ?_, hb1.cell dl (fun e => h3 e.symm)⟩⟩
          rw [HT.out]
          have e : min 2001 (m + q.size) = min 2001 (s + 1 + (Tm.sizes (List.take k t.ks) + q.size)) := by have := HM.out; omega
          rw [← e]; exact hs1
        case measure => simp [intOf]; omega
      · have hm3 : ¬ (m : Int) ≤ 2000 := by omega
        have e : min 2001 (s + t.size) = m := by
          rw [HSZ.out]
          have := sizes_take_le t.ks k
          omega
        clear hm
        have E := mkHid e
        clear e
        simp only [Nat.zero_add] at f1 f2 f3
        go_wp2
        go_end0
        exact ⟨rfl, R.but, by rw [E.out]; exact ⟨s0, s1⟩⟩
    · have e : min 2001 (s + t.size) = m := by
        rw [HSZ.out, ← hm, List.take_of_length_le (by rw [HN.out]; omega)]
        omega
      clear hm
      have E := mkHid e
      clear e
      simp only [Nat.zero_add] at f1 f2 f3
      go_wp2
      go_end0
      exact ⟨rfl, R.but, by rw [E.out]; exact ⟨s0, s1⟩⟩
end
section
open Go.RowKit

theorem TIn.later {w w' : World} {t : Tm} (h : TIn w w.heap.size t) (hb : Below w.heap.size w w') : TIn w' w'.heap.size t := (h.keep hb).mono hb.size

theorem bel_alloc (w : World) (o : Obj) : Below w.heap.size w (w.alloc o) := bal (Below.refl _ _) o

/-- the world in which the closure of Size is called first -/
def sizeW (t : Tm) (w : World) : World :=
  (((w.alloc (boxT t)).alloc (.cells #[.int .i64 0] 3)).alloc (.cells #[.nilFunc] 76)).setCell ⟨w.heap.size + 1 + 1, 0, none⟩ (cntF (w.heap.size + 1) (w.heap.size + 1 + 1))
theorem sizeW_facts (t : Tm) (w : World) : Below w.heap.size w (sizeW t w) ∧ Single (sizeW t w) (w.heap.size + 1) (.int .i64 0) ∧ (sizeW t w).cell? ⟨w.heap.size + 1 + 1, 0, none⟩ = some (cntF (w.heap.size + 1) (w.heap.size + 1 + 1)) ∧ Four (sizeW t w) w.heap.size 0 t := by
  refine ⟨?_, ?_, ?_, ?_⟩
  · exact bset (bal (bal (bal (Below.refl _ _) _) _) _) (by simp; omega) _
  · simp [sizeW, Single, go_sem]
  · simp [sizeW, go_sem]
  · simp [sizeW, Four, boxT, go_sem]

set_option maxRecDepth 100000 in
set_option maxHeartbeats 2000000 in
theorem size_any (t : Tm) (w : World) (h : TIn w w.heap.size t) :
    Calls Tryz.prog 17 #[t.val] w fun e w' => e = .returned (.int .i64 (min 2001 t.size : Nat)) ∧ Below w.heap.size w w' := by
  have hmf : ∀ (fn : Fn) (first cap : Array Value) (w : World), (Instr.makeFunc fn first cap).run Tryz.prog w = .ok (.func fn first cap) w := fun _ _ _ _ => rfl
  obtain ⟨hb, h1, h2, h3⟩ := sizeW_facts t w
  have CN := mkHid (count_any t w.heap.size (w.heap.size + 1) (w.heap.size + 1 + 1) 0 (sizeW t w) (h.keep hb) (by omega) (by omega) (by omega) h1 h2 (by omega))
  rw [Nat.zero_add] at CN
  generalize hm : min 2001 t.size = m at *
  have hW : (((w.alloc (.cells #[.int .i64 t.op, .string t.nm, .int .i64 t.n, .slice t.a t.ks.length t.c] 24)).alloc (.cells #[.int .i64 0] 3)).alloc (.cells #[.nilFunc] 76)).setCell ⟨w.heap.size + 1 + 1, 0, none⟩ (.func (.func 36) #[] #[.pointer (some ⟨w.heap.size + 1, 0, none⟩), .pointer (some ⟨w.heap.size + 1 + 1, 0, none⟩)]) = sizeW t w := rfl
  unfold cntF at h2
  obtain ⟨f0, f1, f2, f3⟩ := h3
  simp only [Nat.zero_add] at f1 f2 f3
  generalize sizeW t w = W at *
  clear hm h h1
  unfold Tm.val at *
  go_enter Tryz.func17, Tryz.ntmps17
  go_wp2_with fail
  clear f0 f1 f2 f3 h2 hW hmf
  ((with_reducible refine CN.out.mono ?_)); rintro e w1 ⟨rfl, hb1, s0, s1⟩
  have hB := hb.trans (hb1.below (B := w.heap.size) (by omega) hb.size)
  clear CN hb hb1 s1
  go_wp2
  go_ret
  exact ⟨rfl, hB⟩
end
section
open Go.RowKit

/-- nothing that was there has turned, but what stands in two blocks -/
structure But2 (s r : Nat) (w w' : World) : Prop where
  os : w'.os = w.os
  tape : w'.tape = w.tape
  output : w'.output = w.output
  size : w.heap.size ≤ w'.heap.size
  block : ∀ k, k < w.heap.size → k ≠ s → k ≠ r → w'.heap[k]? = w.heap[k]?
theorem But2.refl (s r : Nat) (w : World) : But2 s r w w := ⟨rfl, rfl, rfl, Nat.le_refl _, fun _ _ _ _ => rfl⟩
theorem But2.trans {s r : Nat} {a b c : World} (h : But2 s r a b) (k : But2 s r b c) : But2 s r a c :=
  ⟨k.os.trans h.os, k.tape.trans h.tape, k.output.trans h.output, Nat.le_trans h.size k.size, fun i hi hs hr => (k.block i (Nat.lt_of_lt_of_le hi h.size) hs hr).trans (h.block i hi hs hr)⟩
theorem But2.of {s r : Nat} {w w' : World} (h : Below w.heap.size w w') : But2 s r w w' := ⟨h.os, h.tape, h.output, h.size, fun k hk _ _ => h.block k hk⟩
theorem But2.alloc {s r : Nat} {a w : World} (h : But2 s r a w) (o : Obj) : But2 s r a (w.alloc o) := h.trans (But2.of ((Below.refl _ _).alloc (Nat.le_refl _) o))
theorem But2.set {s r : Nat} {a w : World} (h : But2 s r a w) {p : Addr} (hp : p.block = s ∨ p.block = r ∨ a.heap.size ≤ p.block) (u : Value) : But2 s r a (w.setCell p u) :=
  ⟨h.os, h.tape, h.output, by simpa [World.setCell] using h.size, fun k hk hs hr => by
    rw [Below.heap_setCell w p u k (by rcases hp with e | e | e <;> omega)]; exact h.block k hk hs hr⟩
theorem But2.drew {s r : Nat} {a w : World} (h : But2 s r a w) : But2 s r a w.drew := ⟨h.os, h.tape, h.output, h.size, h.block⟩
theorem But2.below {s r B : Nat} {w w' : World} (h : But2 s r w w') (hs : B ≤ s) (hr : B ≤ r) (hB : B ≤ w.heap.size) : Below B w w' :=
  ⟨h.os, h.tape, h.output, h.size, fun k hk => h.block k (by omega) (by omega) (by omega)⟩
theorem But2.cell {s r : Nat} {w w' : World} (h : But2 s r w w') {p : Addr} {v : Value} (hc : w.cell? p = some v) (hp : p.block ≠ s) (hr : p.block ≠ r) : w'.cell? p = some v := by
  have := World.cell?_of_block (w := w) (h.block p.block (World.block_lt_of_cell? _ _ hc) hp hr)
  rw [this]; exact hc
theorem But2.four {s r : Nat} {w w' : World} {b o : Nat} {t : Tm} (h : But2 s r w w') (hc : Four w b o t) (hp : b ≠ s) (hr : b ≠ r) : Four w' b o t :=
  ⟨h.cell hc.1 hp hr, h.cell hc.2.1 hp hr, h.cell hc.2.2.1 hp hr, h.cell hc.2.2.2 hp hr⟩
/-- a block of two cells that may be written -/
def Two (w : World) (b : Nat) (x y : Value) : Prop := w.cell? ⟨b, 0, none⟩ = some x ∧ w.cell? ⟨b, 1, none⟩ = some y ∧ w.frozen? ⟨b, 0, none⟩ = false ∧ w.frozen? ⟨b, 1, none⟩ = false
theorem two_set0 {w : World} {b : Nat} {x y : Value} (h : Two w b x y) (u : Value) : Two (w.setCell ⟨b, 0, none⟩ u) b u y := by
  obtain ⟨h0, h1, f0, f1⟩ := h
  simp [Two, go_sem, h0, h1, f0, f1]
theorem two_far {w : World} {b c : Nat} {x y : Value} (h : Two w b x y) (hne : c ≠ b) (i : Nat) (u : Value) : Two (w.setCell ⟨c, i, none⟩ u) b x y := by
  have e : (w.setCell ⟨c, i, none⟩ u).heap[b]? = w.heap[b]? := Below.heap_setCell w ⟨c, i, none⟩ u b (by simpa using fun e => hne e.symm)
  obtain ⟨h0, h1, f0, f1⟩ := h
  exact ⟨by rw [World.cell?_of_block (w := w) e]; exact h0, by rw [World.cell?_of_block (w := w) e]; exact h1, by rw [World.frozen?_of_block (w := w) e]; exact f0, by rw [World.frozen?_of_block (w := w) e]; exact f1⟩
theorem two_later {w w1 : World} {b : Nat} {x y : Value} (hb : Below w.heap.size w w1) (h : Two w b x y) : Two w1 b x y :=
  ⟨cell_later hb h.1, cell_later hb h.2.1, frozen_later hb h.1 h.2.2.1, frozen_later hb h.2.1 h.2.2.2⟩
theorem single_far {w : World} {b c : Nat} {x : Value} (h : Single w b x) (hne : c ≠ b) (i : Nat) (u : Value) : Single (w.setCell ⟨c, i, none⟩ u) b x := by
  have e : (w.setCell ⟨c, i, none⟩ u).heap[b]? = w.heap[b]? := Below.heap_setCell w ⟨c, i, none⟩ u b (by simpa using fun e => hne e.symm)
  obtain ⟨h0, f0⟩ := h
  exact ⟨by rw [World.cell?_of_block (w := w) e]; exact h0, by rw [World.frozen?_of_block (w := w) e]; exact f0⟩

set_option maxRecDepth 100000 in
set_option maxHeartbeats 1000000 in
theorem before_small (gb p : Nat) (m : Value) (A1 A2 : Option Addr) (n1 c1 n2 c2 : Nat) (l : Int) (w : World) (h : Two w gb (.int .i64 p) m) (hp : p + 1 ≤ 2000) :
    Calls Tryz.prog 38 #[.pointer (some ⟨gb, 0, none⟩), .slice A1 n1 c1, .slice A2 n2 c2, .int .i64 l] w fun e w' => e = .returned (.bool false) ∧ w' = w.setCell ⟨gb, 0, none⟩ (.int .i64 (p + 1)) := by
  obtain ⟨h0, h1, f0, f1⟩ := h
  have hp' : (p : Int) + 1 ≤ 2000 := by omega
  go_enter Tryz.func38, Tryz.ntmps38
  go_wp2
  go_ret
  exact ⟨rfl, rfl⟩

theorem take_succ_deeps (ks : List Tm) (k : Nat) (h : k < ks.length) : Tm.deeps (ks.take (k + 1)) = max (Tm.deeps (ks.take k)) (ks[k]).deep := by
  induction ks generalizing k with
  | nil => simp at h
  | cons t ts ih =>
    cases k with
    | zero => simp [Tm.deeps]
    | succ k => simp only [List.take_succ_cons, Tm.deeps, List.getElem_cons_succ]; rw [ih k (by simpa using h)]; omega
theorem deeps_take_le (ks : List Tm) (k : Nat) : Tm.deeps (ks.take k) ≤ Tm.deeps ks := by
  induction ks generalizing k with
  | nil => simp
  | cons t ts ih =>
    cases k with
    | zero => simp [Tm.deeps]
    | succ k => simp only [List.take_succ_cons, Tm.deeps]; have := ih k; omega
theorem deep_pos (t : Tm) : 0 < t.deep := by rw [Tm.deep_eq]; omega

/-- the closure of Deep -/
def folF (db gb fb : Nat) : Value := .func (.func 37) #[] #[.pointer (some ⟨db, 0, none⟩), .pointer (some ⟨gb, 0, none⟩), .pointer (some ⟨fb, 0, none⟩)]
structure FolR (w0 : World) (X db gb fb d l p : Nat) (t : Tm) (k : Nat) (w : World) : Prop where
  but : But2 db gb w0 w
  four : Four w X 0 t
  one : Single w db (.int .i64 (min 101 (max d (l + Tm.deeps (t.ks.take k))) : Nat))
  two : ∃ q : Nat, q ≤ p + 1 + Tm.sizes (t.ks.take k) ∧ Two w gb (.int .i64 q) (.map none)
  cl : w.cell? ⟨fb, 0, none⟩ = some (folF db gb fb)

set_option maxRecDepth 100000 in
set_option maxHeartbeats 4000000 in
theorem follow_any (t : Tm) : ∀ (B db gb fb d l p : Nat) (w : World), TIn w B t → B ≤ db → B ≤ gb → B ≤ fb → db ≠ gb → db ≠ fb → gb ≠ fb → Single w db (.int .i64 d) → Two w gb (.int .i64 p) (.map none) → w.cell? ⟨fb, 0, none⟩ = some (folF db gb fb) → d ≤ 100 → 1 ≤ l → l ≤ 101 → p + t.size ≤ 2000 →
    Calls Tryz.prog 37 #[t.val, .int .i64 l, .pointer (some ⟨db, 0, none⟩), .pointer (some ⟨gb, 0, none⟩), .pointer (some ⟨fb, 0, none⟩)] w fun e w' => e = .returned (.tuple #[]) ∧ But2 db gb w w' ∧ Single w' db (.int .i64 (min 101 (max d (l - 1 + t.deep)) : Nat)) ∧ ∃ q : Nat, q ≤ p + t.size ∧ Two w' gb (.int .i64 q) (.map none) := by
  induction t using Tm.ind with
  | h t ih =>
  intro B db gb fb d l p w hin h1 h2 h3 n1 n2 n3 hd hg hf hd1 hl1 hl2 hp
  have hdb : db < w.heap.size := World.block_lt_of_cell? _ _ hd.1
  have hgb : gb < w.heap.size := World.block_lt_of_cell? _ _ hg.1
  have hfb : fb < w.heap.size := World.block_lt_of_cell? _ _ hf
  have hsz := Tm.size_eq t
  have hdp := Tm.deep_eq t
  have IH := mkHid ih
  have HSZ := mkHid hsz
  have HDP := mkHid hdp
  have hp1 : p + 1 ≤ 2000 := by have := size_pos t; omega
  clear ih
  have D1 := single_set (single_alloc hd (boxT t)) (.int .i64 (max d l : Nat))
  have G1 := two_far (two_later (bel_alloc w (boxT t)) hg) n1 0 (.int .i64 (max d l : Nat))
  have R0 : FolR w w.heap.size db gb fb d l p t 0 (((w.alloc (boxT t)).setCell ⟨db, 0, none⟩ (.int .i64 (max d l : Nat))).setCell ⟨gb, 0, none⟩ (.int .i64 (p + 1))) := by
    have b0 : But2 db gb w (((w.alloc (boxT t)).setCell ⟨db, 0, none⟩ (.int .i64 (max d l : Nat))).setCell ⟨gb, 0, none⟩ (.int .i64 (p + 1))) := (((But2.refl db gb w).alloc _).set (.inl rfl) _).set (.inr (.inl rfl)) _
    refine ⟨b0, four_set (four_set (box_four w t) (by omega) _) (by omega) _, ?_, ⟨p + 1, by omega, two_set0 G1 _⟩, b0.cell hf (by simpa using fun e => n2 e.symm) (by simpa using fun e => n3 e.symm)⟩
    have e : (min 101 (max d (l + Tm.deeps (t.ks.take 0))) : Nat) = max d l := by simp [Tm.deeps]; omega
    rw [e]; exact single_far D1 (fun e => n1 e.symm) _ _
  have F0 := (four_set (box_four w t) (c := db) (by omega) (.int .i64 (max d l : Nat))).2.2.2
  simp only [Nat.zero_add] at F0
  have BF := mkHid (fun A n c => before_small gb p (.map none) A none n c 0 0 l _ G1 hp1)
  obtain ⟨x0, x1⟩ := single_alloc hd (boxT t)
  have HIN := mkHid hin
  obtain ⟨-, -, -, hlc, hcm⟩ := hin.nums
  unfold maxLen at hcm
  clear hin hd hg hf D1 G1 hsz hdp
  unfold Tm.val
  have hW : w.alloc (.cells #[.int .i64 t.op, .string t.nm, .int .i64 t.n, .slice t.a t.ks.length t.c] 24) = w.alloc (boxT t) := rfl
  generalize w.alloc (boxT t) = W at *
  have hn : t.ks.length ≤ 9223372036854775807 := by omega
  generalize hX : w.heap.size = X at *
  generalize hn' : t.ks.length = n at *
  have HN := mkHid hn'
  clear hn'
  generalize hM : max d l = M at *
  have HM := mkHid hM
  have hM1 : l ≤ M := by omega
  have cs : d = M ∧ l ≤ d ∨ l = M ∧ d < l := by omega
  clear hM
  rcases cs with ⟨rfl, hdl⟩ | ⟨rfl, hdl⟩
  all_goals
    go_enter Tryz.func37, Tryz.ntmps37
    go_wp2_with fail
    ((with_reducible refine (BF.out _ _ _).mono ?_)); rintro e w1 ⟨rfl, rfl⟩
    clear x0 x1 hW BF F0
    go_wp2
    go_loopw [7] (fun i w' => ∃ (k : Nat) (x : Int), i = .int .i64 x ∧ x = k ∧ k ≤ n ∧ FolR w X db gb fb d l p t k w') (fun i _ => (n - intOf i).toNat)
    case atStart => exact ⟨0, 0, rfl, rfl, Nat.zero_le _, R0⟩
    case round =>
      clear R0
      obtain ⟨k, x, rfl, hxk, hk, R⟩ := hrel
      obtain rfl : x = (k : Int) := hxk
      have hf := R.four
      rw [Four, HN.out] at hf
      obtain ⟨f0, f1, f2, f3⟩ := hf
      have one := R.one
      have cl := R.cl
      unfold folF at cl
      obtain ⟨s0, s1⟩ := one
      obtain ⟨q0, hq0, tw⟩ := R.two
      simp only [Nat.zero_add] at f1 f2 f3
      generalize hm : min 101 (max d (l + Tm.deeps (t.ks.take k))) = m at *
      by_cases hlt : k < n
      · by_cases hm2 : m ≤ 100
        · have hm3 : (m : Int) ≤ 100 := by omega
          have hl3 : l ≤ 100 := by omega
          have HMm := mkHid hm
          clear hm
          have hk' : k < t.ks.length := by rw [HN.out]; exact hlt
          obtain ⟨kin, b, o, ha, hbB, kf⟩ := HIN.out.kid k hk'
          have kin' := kin.keep (R.but.below h1 h2 (by omega))
          have kf' := kf.keep (R.but.below h1 h2 (by omega)) hbB
          have HI := mkHid (IH.out t.ks[k] (List.getElem_mem _) B db gb fb m (l + 1) q0)
          have HT := mkHid (take_succ_sizes t.ks k hk')
          have HT2 := mkHid (take_succ_deeps t.ks k hk')
          have hle := sizes_take_le t.ks (k + 1)
          rw [HT.out] at hle
          rw [ha] at f3
          have hsp := HSZ.out
          clear ha kin kf IH
          generalize t.ks[k] = q at *
          clear hk'
          obtain ⟨g0, g1, g2, g3⟩ := kf'
          have RD : Hid (FolR w X db gb fb d l p t k wr) := R
          clear R
          go_wp2_with fail
          have d0 : wr.drew.cell? ⟨b, o + k * 4, none⟩ = some (.int .i64 q.op) := g0
          have d1 : wr.drew.cell? ⟨b, o + k * 4 + 1, none⟩ = some (.string q.nm) := g1
          have d2 : wr.drew.cell? ⟨b, o + k * 4 + 2, none⟩ = some (.int .i64 q.n) := g2
          have d3 : wr.drew.cell? ⟨b, o + k * 4 + 3, none⟩ = some (.slice q.a q.ks.length q.c) := g3
          have e3 : wr.drew.cell? ⟨X, 3, none⟩ = some (.slice (some ⟨b, o, none⟩) n t.c) := f3
          have dl : wr.drew.cell? ⟨fb, 0, none⟩ = some (.func (.func 37) #[] #[.pointer (some ⟨db, 0, none⟩), .pointer (some ⟨gb, 0, none⟩), .pointer (some ⟨fb, 0, none⟩)]) := cl
          have HC := mkHid (HI.out wr.drew (kin'.keep (Below.refl B wr).drew) h1 h2 h3 n1 n2 n3 ⟨s0, s1⟩ tw cl hm2 (by omega) (by omega) (by omega))
          rw [show ((l + 1 : Nat) : Int) = (l : Int) + 1 by omega, show l + 1 - 1 = l by omega] at HC
          have HB := mkHid (RD.out.but.drew)
          have HF := mkHid (show Four wr.drew X 0 t from RD.out.four)
          clear g0 g1 g2 g3 f0 f1 f2 f3 cl s0 s1 HI kin' RD tw hsp
          refine wp_region_still_tail 8 (by kernel_rfl) (by kernel_rfl) ?_
          change wpStill _ _ wr.drew (fun a' => wpList _ _ _ _ a' wr.drew) _ _
          generalize wr.drew = wd at *
          simp only [List.take_succ_cons, List.take_zero, List.drop_succ_cons, List.drop_zero]
          repeat still_step
          refine wpStill_nil ?_
          unfold Tm.val at HC
          go_wp2_with (go_at_call 37; ((with_reducible refine HC.out.mono ?_)); rintro e w1 ⟨rfl, hb1, hs1, ⟨q1, hq1, tw1⟩⟩)
          go_roundw
          case rel =>
            refine ⟨k + 1, _, rfl, by omega, by omega, ⟨HB.out.trans hb1, hb1.four HF.out (by omega) (by omega), ?_, ⟨q1, by rw [HT.out]; omega, tw1⟩, hb1.cell dl (by simpa using fun e => n2 e.symm) (by simpa using fun e => n3 e.symm)⟩⟩
            rw [HT2.out]
            have e : min 101 (max m (l + q.deep)) = min 101 (max d (l + max (Tm.deeps (List.take k t.ks)) q.deep)) := by have := HMm.out; omega
            rw [← e]; exact hs1
          case measure => simp [intOf]; omega
        · have hm3 : ¬ (m : Int) ≤ 100 := by omega
          have e : min 101 (max d (l - 1 + t.deep)) = m := by
            rw [HDP.out]
            have := deeps_take_le t.ks k
            omega
          have e2 : q0 ≤ p + t.size := by
            rw [HSZ.out]
            have := sizes_take_le t.ks k
            omega
          clear hm
          have E := mkHid e
          clear e
          go_wp2
          go_end0
          exact ⟨rfl, R.but, by rw [E.out]; exact ⟨s0, s1⟩, q0, e2, tw⟩
      · have e : min 101 (max d (l - 1 + t.deep)) = m := by
          rw [HDP.out, ← hm, List.take_of_length_le (by rw [HN.out]; omega)]
          congr 2
          omega
        have e2 : q0 ≤ p + t.size := by
          rw [HSZ.out]
          have := sizes_take_le t.ks k
          omega
        clear hm
        have E := mkHid e
        clear e
        go_wp2
        go_end0
        exact ⟨rfl, R.but, by rw [E.out]; exact ⟨s0, s1⟩, q0, e2, tw⟩
end
section
open Go.RowKit

def deepW (t : Tm) (w : World) : World :=
  ((((w.alloc (boxT t)).alloc (.cells #[.int .i64 0] 3)).alloc (.cells #[.int .i64 0, .map none] 79)).alloc (.cells #[.nilFunc] 80)).setCell ⟨w.heap.size + 1 + 1 + 1, 0, none⟩ (folF (w.heap.size + 1) (w.heap.size + 1 + 1) (w.heap.size + 1 + 1 + 1))
theorem deepW_facts (t : Tm) (w : World) : Below w.heap.size w (deepW t w) ∧ Single (deepW t w) (w.heap.size + 1) (.int .i64 0) ∧ Two (deepW t w) (w.heap.size + 1 + 1) (.int .i64 0) (.map none) ∧ (deepW t w).cell? ⟨w.heap.size + 1 + 1 + 1, 0, none⟩ = some (folF (w.heap.size + 1) (w.heap.size + 1 + 1) (w.heap.size + 1 + 1 + 1)) ∧ Four (deepW t w) w.heap.size 0 t := by
  refine ⟨?_, ?_, ?_, ?_, ?_⟩
  · exact bset (bal (bal (bal (bal (Below.refl _ _) _) _) _) _) (by simp; omega) _
  · simp [deepW, Single, go_sem]
  · simp [deepW, Two, go_sem]
  · simp [deepW, go_sem]
  · simp [deepW, Four, boxT, go_sem]

set_option maxRecDepth 100000 in
set_option maxHeartbeats 2000000 in
theorem deep_small (t : Tm) (w : World) (h : TIn w w.heap.size t) (hz : t.size ≤ 2000) :
    Calls Tryz.prog 18 #[t.val] w fun e w' => e = .returned (.int .i64 (min 101 t.deep : Nat)) ∧ Below w.heap.size w w' := by
  have hmf : ∀ (fn : Fn) (first cap : Array Value) (w : World), (Instr.makeFunc fn first cap).run Tryz.prog w = .ok (.func fn first cap) w := fun _ _ _ _ => rfl
  obtain ⟨hb, h1, h2, h3, h4⟩ := deepW_facts t w
  have CN := mkHid (follow_any t w.heap.size (w.heap.size + 1) (w.heap.size + 1 + 1) (w.heap.size + 1 + 1 + 1) 0 1 0 (deepW t w) (h.keep hb) (by omega) (by omega) (by omega) (by omega) (by omega) (by omega) h1 h2 h3 (by omega) (by omega) (by omega) (by omega))
  rw [show min 101 (max 0 (1 - 1 + t.deep)) = min 101 t.deep by omega, show ((1 : Nat) : Int) = 1 by rfl] at CN
  generalize hm : min 101 t.deep = m at *
  have hW : ((((w.alloc (.cells #[.int .i64 t.op, .string t.nm, .int .i64 t.n, .slice t.a t.ks.length t.c] 24)).alloc (.cells #[.int .i64 0] 3)).alloc (.cells #[.int .i64 0, .map none] 79)).alloc (.cells #[.nilFunc] 80)).setCell ⟨w.heap.size + 1 + 1 + 1, 0, none⟩ (.func (.func 37) #[] #[.pointer (some ⟨w.heap.size + 1, 0, none⟩), .pointer (some ⟨w.heap.size + 1 + 1, 0, none⟩), .pointer (some ⟨w.heap.size + 1 + 1 + 1, 0, none⟩)]) = deepW t w := rfl
  unfold folF at h3
  obtain ⟨f0, f1, f2, f3⟩ := h4
  simp only [Nat.zero_add] at f1 f2 f3
  generalize deepW t w = W at *
  clear hm h h1 h2 hz
  unfold Tm.val at *
  go_enter Tryz.func18, Tryz.ntmps18
  go_wp2_with fail
  clear f0 f1 f2 f3 h3 hW hmf
  ((with_reducible refine CN.out.mono ?_)); rintro e w1 ⟨rfl, hb1, ⟨s0, s1⟩, -⟩
  have hB := hb.trans (hb1.below (B := w.heap.size) (by omega) (by omega) hb.size)
  clear CN hb hb1 s1
  go_wp2
  go_ret
  exact ⟨rfl, hB⟩
end
section
open Go.RowKit

def letB (c : Int) : Bool := decide (65 ≤ c) && decide (c ≤ 90) || decide (97 ≤ c) && decide (c ≤ 122)
def digB (c : Int) : Bool := decide (48 ≤ c) && decide (c ≤ 57)
def okB (c : Int) : Bool := letB c || digB c || decide (c = 95)
def bt (s : ByteArray) (i : Nat) : Int := ((s.data.toList.getD i 0).toNat : Int)
theorem bt_get (s : ByteArray) (i : Nat) (h : i < s.size) : (s[i].toNat : Int) = bt s i := by
  unfold bt
  have h' : i < s.data.toList.length := by simpa using h
  rw [List.getD_eq_getElem?_getD, List.getElem?_eq_getElem h']
  rfl
def nameB (s : ByteArray) : Bool := decide (1 ≤ s.size) && decide (s.size ≤ 16) && letB (bt s 0) && (List.range s.size).all (fun i => okB (bt s i))

set_option maxRecDepth 100000 in
set_option maxHeartbeats 1000000 in
theorem letter_any (c : Int) (w : World) : Calls Tryz.prog 24 #[.int .u8 c] w fun e w' => e = .returned (.bool (letB c)) ∧ w = w' := by
  by_cases h1 : 65 ≤ c <;> by_cases h2 : c ≤ 90 <;> by_cases h3 : 97 ≤ c <;> by_cases h4 : c ≤ 122
  all_goals
    first
      | (exfalso; omega)
      | (have e : letB c = true := by (simp [letB]; omega)
         rw [e]
         clear e
         go_enter Tryz.func24, Tryz.ntmps24
         go_wp2
         go_ret
         exact ⟨rfl, rfl⟩)
      | (have e : letB c = false := by (simp [letB]; omega)
         rw [e]
         clear e
         go_enter Tryz.func24, Tryz.ntmps24
         go_wp2
         go_ret
         exact ⟨rfl, rfl⟩)
set_option maxRecDepth 100000 in
set_option maxHeartbeats 1000000 in
theorem digit_any (c : Int) (w : World) : Calls Tryz.prog 25 #[.int .u8 c] w fun e w' => e = .returned (.bool (digB c)) ∧ w = w' := by
  by_cases h1 : 48 ≤ c <;> by_cases h2 : c ≤ 57
  all_goals
    first
      | (exfalso; omega)
      | (have e : digB c = true := by (simp [digB]; omega)
         rw [e]
         clear e
         go_enter Tryz.func25, Tryz.ntmps25
         go_wp2
         go_ret
         exact ⟨rfl, rfl⟩)
      | (have e : digB c = false := by (simp [digB]; omega)
         rw [e]
         clear e
         go_enter Tryz.func25, Tryz.ntmps25
         go_wp2
         go_ret
         exact ⟨rfl, rfl⟩)
theorem letter_at (c : Int) (b : Bool) (h : letB c = b) (w : World) : Calls Tryz.prog 24 #[.int .u8 c] w fun e w' => e = .returned (.bool b) ∧ w = w' := h ▸ letter_any c w
theorem digit_at (c : Int) (b : Bool) (h : digB c = b) (w : World) : Calls Tryz.prog 25 #[.int .u8 c] w fun e w' => e = .returned (.bool b) ∧ w = w' := h ▸ digit_any c w

theorem range_all_succ (p : Nat → Bool) (k : Nat) : (List.range (k + 1)).all p = ((List.range k).all p && p k) := by
  rw [List.range_succ, List.all_append]; simp

set_option maxRecDepth 100000 in
set_option maxHeartbeats 2000000 in
theorem name_any (s : ByteArray) (w : World) (hs : s.size ≤ maxLen) :
    Calls Tryz.prog 9 #[.string s] w fun e w' => e = .returned (.bool (nameB s)) ∧ w = w' := by
  unfold maxLen at hs
  by_cases h1 : 1 ≤ s.size ∧ s.size ≤ 16
  · obtain ⟨ha, hb⟩ := h1
    have hz : ((s.size : Int) == 0) = false := beq_eq_false_iff_ne.2 (by omega)
    have hz1 : decide (16 < (s.size : Int)) = false := decide_eq_false (by omega)
    have hl := bt_get s 0 (by omega)
    cases hL : letB (bt s 0)
    · have e : nameB s = false := by simp [nameB, hL]
      rw [e]
      clear e
      rw [← hl] at hL
      have LT := mkHid (letter_at _ _ hL)
      clear hL hl
      go_enter Tryz.func9, Tryz.ntmps9
      go_wp2_with (go_at_call 24; refine (LT.out _).mono ?_; rintro e w1 ⟨rfl, rfl⟩)
      go_ret
      exact ⟨rfl, rfl⟩
    · have e : nameB s = (List.range s.size).all (fun i => okB (bt s i)) := by
        unfold nameB; rw [hL, decide_eq_true ha, decide_eq_true hb]; rfl
      rw [e]
      clear e
      rw [← hl] at hL
      have LT := mkHid (letter_at _ _ hL)
      clear hL hl
      generalize hR : (List.range s.size).all (fun i => okB (bt s i)) = R
      have HR := mkHid hR
      clear hR
      go_enter Tryz.func9, Tryz.ntmps9
      go_wp2_with (go_at_call 24; refine (LT.out _).mono ?_; rintro e w1 ⟨rfl, rfl⟩)
      clear LT
      go_loop [3, 4, 21] (fun _ _ i => ∃ (k : Nat) (x : Int), i = .int .i64 x ∧ x = k ∧ k ≤ s.size ∧ (List.range k).all (fun i => okB (bt s i)) = true) (fun _ _ i => (s.size - intOf i).toNat)
      case atStart => exact ⟨0, 0, rfl, rfl, Nat.zero_le _, rfl⟩
      case round =>
        obtain ⟨k, x, rfl, hxk, hk, hal⟩ := hrel
        obtain rfl : x = (k : Int) := hxk
        have HA := mkHid hal
        clear hal
        by_cases hlt : k < s.size
        · have hb := bt_get s k hlt
          have HB := mkHid hb
          have hsu := range_all_succ (fun i => okB (bt s i)) k
          rw [HA.out, Bool.true_and] at hsu
          have HS := mkHid hsu
          clear hsu hb
          cases hc1 : letB (s[k].toNat : Int)
          · cases hc2 : digB (s[k].toNat : Int)
            · by_cases hc3 : (s[k].toNat : Int) = 95
              · have L1 := mkHid (letter_at _ _ hc1)
                have D1 := mkHid (digit_at _ _ hc2)
                have hc4 : ((s[k].toNat : Int) == 95) = true := beq_iff_eq.2 hc3
                have hc5 : ((s[k].toNat : Int) != 95) = false := by rw [bne, hc4]; rfl
                have hok : okB (bt s k) = true := by unfold okB; rw [← HB.out]; simp [hc3]
                have HO := mkHid hok
                clear hok hc1 hc2 hc3
                go_wp2_with (first
                  | (go_at_call 24; refine (L1.out _).mono ?_; rintro e w1 ⟨rfl, rfl⟩)
                  | (go_at_call 25; refine (D1.out _).mono ?_; rintro e w1 ⟨rfl, rfl⟩))
                go_round
                case rel => exact ⟨k + 1, _, rfl, by omega, by omega, by rw [HS.out, HO.out]⟩
                case measure => simp [intOf]; omega
              · have L1 := mkHid (letter_at _ _ hc1)
                have D1 := mkHid (digit_at _ _ hc2)
                have hc4 : ((s[k].toNat : Int) == 95) = false := beq_eq_false_iff_ne.2 hc3
                have hc5 : ((s[k].toNat : Int) != 95) = true := by rw [bne, hc4]; rfl
                have hok : okB (bt s k) = false := by unfold okB; rw [← HB.out, hc1, hc2]; simp [hc3]
                have hR : R = false := by
                  rw [← HR.out]
                  rw [Bool.eq_false_iff]
                  intro h
                  have := List.all_eq_true.1 h k (List.mem_range.2 hlt)
                  rw [hok] at this; cases this
                subst hR
                clear hok hc1 hc2 hc3 HR
                go_wp2_with (first
                  | (go_at_call 24; refine (L1.out _).mono ?_; rintro e w1 ⟨rfl, rfl⟩)
                  | (go_at_call 25; refine (D1.out _).mono ?_; rintro e w1 ⟨rfl, rfl⟩))
                go_ret
                exact ⟨rfl, rfl⟩
            · have L1 := mkHid (letter_at _ _ hc1)
              have D1 := mkHid (digit_at _ _ hc2)
              have hok : okB (bt s k) = true := by unfold okB; rw [← HB.out, hc1, hc2]; rfl
              have HO := mkHid hok
              clear hok hc1 hc2
              go_wp2_with (first
                | (go_at_call 24; refine (L1.out _).mono ?_; rintro e w1 ⟨rfl, rfl⟩)
                | (go_at_call 25; refine (D1.out _).mono ?_; rintro e w1 ⟨rfl, rfl⟩))
              go_round
              case rel => exact ⟨k + 1, _, rfl, by omega, by omega, by rw [HS.out, HO.out]⟩
              case measure => simp [intOf]; omega
          · have L1 := mkHid (letter_at _ _ hc1)
            have hok : okB (bt s k) = true := by unfold okB; rw [← HB.out, hc1]; rfl
            have HO := mkHid hok
            clear hok hc1
            go_wp2_with (first
              | (go_at_call 24; refine (L1.out _).mono ?_; rintro e w1 ⟨rfl, rfl⟩))
            go_round
            case rel => exact ⟨k + 1, _, rfl, by omega, by omega, by rw [HS.out, HO.out]⟩
            case measure => simp [intOf]; omega
        · have hR : R = true := by rw [← HR.out, show s.size = k by omega]; exact HA.out
          subst hR
          clear HR
          go_wp2
          go_ret
          exact ⟨rfl, rfl⟩
  · have e : nameB s = false := by
      unfold nameB
      by_cases ha : 1 ≤ s.size
      · rw [decide_eq_false (show ¬ s.size ≤ 16 by omega)]; simp
      · rw [decide_eq_false ha]; rfl
    rw [e]
    clear e
    by_cases ha : 1 ≤ s.size
    · have hz : ((s.size : Int) == 0) = false := beq_eq_false_iff_ne.2 (by omega)
      have hz1 : decide (16 < (s.size : Int)) = true := decide_eq_true (by omega)
      clear h1
      go_enter Tryz.func9, Tryz.ntmps9
      go_wp2
      go_ret
      exact ⟨rfl, rfl⟩
    · have hz : ((s.size : Int) == 0) = true := beq_iff_eq.2 (by omega)
      clear h1
      go_enter Tryz.func9, Tryz.ntmps9
      go_wp2
      go_ret
      exact ⟨rfl, rfl⟩
end
end Go.Proofs.YtdfebacjbapahaaGreatDoor
