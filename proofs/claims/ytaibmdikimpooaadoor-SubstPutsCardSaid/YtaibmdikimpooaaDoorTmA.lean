/-
  Terms as trees, and how they lie in memory.
-/
import Derived.Test.YtaibmdikimpooaaDoorRows
import Derived.WalkKit
import Derived.WalkSpells
import Derived.WalkLawsBesides
import Derived.BigQuiet
import Derived.Deep.QuietTactic
import Derived.Deep.RegionHeld3
import Derived.StillTailTactics
import Derived.WalkSmall
import Derived.ProofKit
import Derived.OpenShut
import Derived.Below
namespace Go.Proofs.YtaibmdikimpooaaDoor
open Go.RowKit

theorem ret_int {k : IntKind} {a b : Int} (h : a = b) : Ending.returned (.int k a) = .returned (.int k b) := by rw [h]
theorem mkHid {p : Prop} (h : p) : Hid p := h
theorem bon {w a b : World} (h : Below w.heap.size w a) (hb : Below a.heap.size a b) : Below w.heap.size w b := h.trans (hb.mono h.size)
theorem bal {w a : World} (h : Below w.heap.size w a) (o : Obj) : Below w.heap.size w (a.alloc o) := h.alloc h.size o
theorem bset {w a : World} (h : Below w.heap.size w a) {p : Addr} (hp : w.heap.size ≤ p.block) (u : Value) : Below w.heap.size w (a.setCell p u) := h.setCell hp u
theorem bdrew {w a : World} (h : Below w.heap.size w a) : Below w.heap.size w a.drew := h.drew
theorem cell_later {w w1 : World} (hb : Below w.heap.size w w1) {a : Addr} {v : Value} (h : w.cell? a = some v) : w1.cell? a = some v := by
  rw [hb.cell (World.block_lt_of_cell? _ _ h)]; exact h
theorem frozen_later {w w1 : World} (hb : Below w.heap.size w w1) {a : Addr} {v : Value} (h : w.cell? a = some v) (hf : w.frozen? a = false) : w1.frozen? a = false := by
  rw [hb.frozen (World.block_lt_of_cell? _ _ h)]; exact hf
/-- an int64, as a Bool -/
def fitB (n : Int) : Bool := decide (-9223372036854775808 ≤ n) && decide (n ≤ 9223372036854775807)
theorem fitB_iff (n : Int) : fitB n = true ↔ -9223372036854775808 ≤ n ∧ n ≤ 9223372036854775807 := by
  simp [fitB]

/-- a term: operation, name, number, where its parts stand, how much room there is, and the parts -/
inductive Tm where
  | node (op : Int) (nm : ByteArray) (n : Int) (a : Option Addr) (c : Nat) (ks : List Tm)
namespace Tm
def op : Tm → Int | node o _ _ _ _ _ => o
def nm : Tm → ByteArray | node _ s _ _ _ _ => s
def n : Tm → Int | node _ _ n _ _ _ => n
def a : Tm → Option Addr | node _ _ _ a _ _ => a
def c : Tm → Nat | node _ _ _ _ c _ => c
def ks : Tm → List Tm | node _ _ _ _ _ k => k
def val (t : Tm) : Value := .agg #[.int .i64 t.op, .string t.nm, .int .i64 t.n, .slice t.a t.ks.length t.c]
theorem ind {P : Tm → Prop} (h : ∀ t : Tm, (∀ k ∈ t.ks, P k) → P t) (t : Tm) : P t :=
  Tm.rec (motive_1 := P) (motive_2 := fun ks => ∀ k ∈ ks, P k) (fun op nm n a c ks ih => h (.node op nm n a c ks) ih) (by simp)
    (fun t ts h1 h2 k hk => by
      rcases List.mem_cons.1 hk with rfl | hk
      · exact h1
      · exact h2 k hk) t
mutual
def size : Tm → Nat
  | node _ _ _ _ _ ks => 1 + sizes ks
def sizes : List Tm → Nat
  | [] => 0
  | t :: ts => size t + sizes ts
end
mutual
def deep : Tm → Nat
  | node _ _ _ _ _ ks => 1 + deeps ks
def deeps : List Tm → Nat
  | [] => 0
  | t :: ts => max (deep t) (deeps ts)
end
theorem size_eq (t : Tm) : t.size = 1 + sizes t.ks := by cases t; simp [size, ks]
theorem deep_eq (t : Tm) : t.deep = 1 + deeps t.ks := by cases t; simp [deep, ks]
end Tm

/-- the four cells of a term -/
def Four (w : World) (b o : Nat) (t : Tm) : Prop :=
  w.cell? ⟨b, o, none⟩ = some (.int .i64 t.op) ∧ w.cell? ⟨b, o + 1, none⟩ = some (.string t.nm) ∧ w.cell? ⟨b, o + 2, none⟩ = some (.int .i64 t.n) ∧ w.cell? ⟨b, o + 3, none⟩ = some (.slice t.a t.ks.length t.c)
/-- a term lies in memory, in blocks below B -/
inductive TIn (w : World) (B : Nat) : Tm → Prop
  | mk (t : Tm) (ho : fitB t.op = true) (hn : fitB t.n = true) (hs : t.nm.size ≤ maxLen) (hc : t.ks.length ≤ t.c) (hm : t.c ≤ maxLen)
      (hk : ∀ j (h : j < t.ks.length), ∃ b o, t.a = some ⟨b, o, none⟩ ∧ b < B ∧ Four w b (o + j * 4) t.ks[j]) (hi : ∀ k ∈ t.ks, TIn w B k) : TIn w B t

theorem TIn.nums {w : World} {B : Nat} {t : Tm} (h : TIn w B t) : fitB t.op = true ∧ fitB t.n = true ∧ t.nm.size ≤ maxLen ∧ t.ks.length ≤ t.c ∧ t.c ≤ maxLen := by
  cases h with
  | mk _ ho hn hs hc hm hk hi => exact ⟨ho, hn, hs, hc, hm⟩
theorem TIn.kid {w : World} {B : Nat} {t : Tm} (h : TIn w B t) (j : Nat) (hj : j < t.ks.length) : TIn w B t.ks[j] ∧ ∃ b o, t.a = some ⟨b, o, none⟩ ∧ b < B ∧ Four w b (o + j * 4) t.ks[j] := by
  cases h with
  | mk _ ho hn hs hc hm hk hi => exact ⟨hi _ (List.getElem_mem _), hk j hj⟩

theorem Four.keep {w w' : World} {b o B : Nat} {t : Tm} (h : Four w b o t) (hb : Below B w w') (hB : b < B) : Four w' b o t := by
  unfold Four at *
  rw [hb.cell (p := ⟨b, o, none⟩) hB, hb.cell (p := ⟨b, o + 1, none⟩) hB, hb.cell (p := ⟨b, o + 2, none⟩) hB, hb.cell (p := ⟨b, o + 3, none⟩) hB]
  exact h
theorem TIn.keep {w w' : World} {B : Nat} {t : Tm} (h : TIn w B t) (hb : Below B w w') : TIn w' B t := by
  induction h with
  | mk t ho hn hs hc hm hk _ ih =>
    refine .mk t ho hn hs hc hm (fun j hj => ?_) ih
    obtain ⟨b, o, h1, h2, h3⟩ := hk j hj
    exact ⟨b, o, h1, h2, h3.keep hb h2⟩
theorem TIn.mono {w : World} {B B' : Nat} {t : Tm} (h : TIn w B t) (hB : B ≤ B') : TIn w B' t := by
  induction h with
  | mk t ho hn hs hc hm hk _ ih =>
    refine .mk t ho hn hs hc hm (fun j hj => ?_) ih
    obtain ⟨b, o, h1, h2, h3⟩ := hk j hj
    exact ⟨b, o, h1, by omega, h3⟩

/-- nothing that was there has turned, but what stands in block s -/
structure But (s : Nat) (w w' : World) : Prop where
  os : w'.os = w.os
  tape : w'.tape = w.tape
  output : w'.output = w.output
  size : w.heap.size ≤ w'.heap.size
  block : ∀ k, k < w.heap.size → k ≠ s → w'.heap[k]? = w.heap[k]?
theorem But.refl (s : Nat) (w : World) : But s w w := ⟨rfl, rfl, rfl, Nat.le_refl _, fun _ _ _ => rfl⟩
theorem But.trans {s : Nat} {a b c : World} (h : But s a b) (k : But s b c) : But s a c :=
  ⟨k.os.trans h.os, k.tape.trans h.tape, k.output.trans h.output, Nat.le_trans h.size k.size, fun i hi hs => (k.block i (Nat.lt_of_lt_of_le hi h.size) hs).trans (h.block i hi hs)⟩
theorem But.of {s : Nat} {w w' : World} (h : Below w.heap.size w w') : But s w w' := ⟨h.os, h.tape, h.output, h.size, fun k hk _ => h.block k hk⟩
theorem But.alloc {s : Nat} {a w : World} (h : But s a w) (o : Obj) : But s a (w.alloc o) := h.trans (But.of ((Below.refl _ _).alloc (Nat.le_refl _) o))
theorem But.set {s : Nat} {a w : World} (h : But s a w) {p : Addr} (hp : p.block = s ∨ a.heap.size ≤ p.block) (u : Value) : But s a (w.setCell p u) :=
  ⟨h.os, h.tape, h.output, by simpa [World.setCell] using h.size, fun k hk hs => by
    rw [Below.heap_setCell w p u k (by rcases hp with e | e <;> omega)]; exact h.block k hk hs⟩
theorem But.drew {s : Nat} {a w : World} (h : But s a w) : But s a w.drew := ⟨h.os, h.tape, h.output, h.size, h.block⟩
theorem But.below {s B : Nat} {w w' : World} (h : But s w w') (hs : B ≤ s) (hB : B ≤ w.heap.size) : Below B w w' :=
  ⟨h.os, h.tape, h.output, h.size, fun k hk => h.block k (by omega) (by omega)⟩
theorem But.cell {s : Nat} {w w' : World} (h : But s w w') {p : Addr} {v : Value} (hc : w.cell? p = some v) (hp : p.block ≠ s) : w'.cell? p = some v := by
  have := World.cell?_of_block (w := w) (h.block p.block (World.block_lt_of_cell? _ _ hc) hp)
  rw [this]; exact hc
theorem But.frozen {s : Nat} {w w' : World} (h : But s w w') {p : Addr} {v : Value} (hc : w.cell? p = some v) (hp : p.block ≠ s) (hf : w.frozen? p = false) : w'.frozen? p = false := by
  have := World.frozen?_of_block (w := w) (h.block p.block (World.block_lt_of_cell? _ _ hc) hp)
  rw [this]; exact hf
theorem But.four {s : Nat} {w w' : World} {b o : Nat} {t : Tm} (h : But s w w') (hc : Four w b o t) (hp : b ≠ s) : Four w' b o t :=
  ⟨h.cell hc.1 hp, h.cell hc.2.1 hp, h.cell hc.2.2.1 hp, h.cell hc.2.2.2 hp⟩
/-- a block of one cell that may be written -/
def Single (w : World) (b : Nat) (x : Value) : Prop := w.cell? ⟨b, 0, none⟩ = some x ∧ w.frozen? ⟨b, 0, none⟩ = false
theorem But.single {s b : Nat} {w w' : World} {x : Value} (h : But s w w') (hc : Single w b x) (hp : b ≠ s) : Single w' b x :=
  ⟨h.cell hc.1 hp, h.frozen hc.1 hp hc.2⟩
end Go.Proofs.YtaibmdikimpooaaDoor
