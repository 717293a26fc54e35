/-
  What EvalBig calls, at its terms.
-/
import Derived.Test.YtimnfkdokjdplaaDoorEvN
import Derived.Test.YtimnfkdokjdplaaDoorEvO
import Derived.BigRegion
import Derived.Deep.RegionHeld2
import Derived.Deep.DeepCutAuto
import Derived.Deep.CutBlock
namespace Go.Proofs.YtimnfkdokjdplaaDoor
open Go.RowKit Go.Shelf

def bW : Wd := ⟨1, none, 0, []⟩
def bK (a : Int) : Tm := t0 1 ⟨#[]⟩ a
def bA (a b : Int) (g : Nat) : Tm := t2 4 g (bK a) (bK b)
def bS (a b : Int) (g : Nat) : Tm := t2 5 g (bK a) (bK b)
def bM (a b : Int) (g : Nat) : Tm := .node 6 ⟨#[]⟩ a (some ⟨g, 4, none⟩) 1 [bK b]
theorem bA_val (a b : Int) (g : Nat) : evalR bW (bA a b g) = fitE (a + b) := by kernel_rfl
theorem bS_val (a b : Int) (g : Nat) : evalR bW (bS a b g) = fitE (a - b) := by kernel_rfl
theorem bM_val (a b : Int) (g : Nat) : evalR bW (bM a b g) = fitE (a * b) := by kernel_rfl
theorem bW_in (w : World) (B : Nat) : WIn w B bW :=
  ⟨by show fitB 1 = true; decide, by show (0 : Nat) ≤ 0; omega, by show (0 : Nat) ≤ maxLen; decide, fun j hj => by simp [bW] at hj, fun x hx => by simp [bW] at hx⟩
/-- what lies in memory while EvalBig runs: the world in block X, the two numbers in block X + 1 -/
structure SB (X : Nat) (a b : Int) (w : World) : Prop where
  bw : TwoW w X bW
  k0 : Four w (X + 1) 0 (bK a)
  k1 : Four w (X + 1) 4 (bK b)
  s : Shps w
theorem SB.later {X : Nat} {a b : Int} {w w' : World} (h : SB X a b w) (hb : Below w.heap.size w w') : SB X a b w' := ⟨h.bw.later hb, h.k0.later hb, h.k1.later hb, h.s.later hb⟩
theorem bK_in {a : Int} (h : fitB a = true) (w : World) (B : Nat) : TIn w B (bK a) := tin0 (by decide) h (by decide)
theorem SB.inM {X : Nat} {a b : Int} {w : World} (h : SB X a b w) (ha : fitB a = true) (hb : fitB b = true) : TIn w w.heap.size (bM a b (X + 1)) :=
  .mk _ (by show fitB 6 = true; decide) ha (by show (0 : Nat) ≤ _; omega) (by show (1 : Nat) ≤ 1; omega) (by show (1 : Nat) ≤ maxLen; decide)
    (fun j hj => by
      have : j = 0 := by simp [bM, Tm.ks] at hj; omega
      subst this
      exact ⟨X + 1, 4, rfl, four_lt h.k1, h.k1⟩)
    (fun q hq => by
      simp only [bM, Tm.ks, List.mem_singleton] at hq
      subst hq; exact bK_in hb _ _)
theorem evAd {X : Nat} {a b : Int} {w : World} (h : SB X a b w) (ha : fitB a = true) (hb : fitB b = true) : Calls Tryd.prog 33 #[.agg #[.int .i64 4, .string ⟨#[]⟩, .int .i64 0, .slice (some ⟨X + 1, 0, none⟩) 2 2], .agg #[.int .i64 1, .slice none 0 0]] w (EvalP (fitE (a + b)) w) := by
  have := eval_any bW (bA a b (X + 1)) w (bW_in _ _) (tin2 (by decide) h.k0 h.k1 (bK_in ha _ _) (bK_in hb _ _) (four_lt h.k0)) h.s
  rw [bA_val] at this
  exact this
theorem evSu {X : Nat} {a b : Int} {w : World} (h : SB X a b w) (ha : fitB a = true) (hb : fitB b = true) : Calls Tryd.prog 33 #[.agg #[.int .i64 5, .string ⟨#[]⟩, .int .i64 0, .slice (some ⟨X + 1, 0, none⟩) 2 2], .agg #[.int .i64 1, .slice none 0 0]] w (EvalP (fitE (a - b)) w) := by
  have := eval_any bW (bS a b (X + 1)) w (bW_in _ _) (tin2 (by decide) h.k0 h.k1 (bK_in ha _ _) (bK_in hb _ _) (four_lt h.k0)) h.s
  rw [bS_val] at this
  exact this
theorem evMl {X : Nat} {a b : Int} {w : World} (h : SB X a b w) (ha : fitB a = true) (hb : fitB b = true) : Calls Tryd.prog 33 #[.agg #[.int .i64 6, .string ⟨#[]⟩, .int .i64 a, .slice (some ⟨X + 1, 4, none⟩) 1 1], .agg #[.int .i64 1, .slice none 0 0]] w (EvalP (fitE (a * b)) w) := by
  have := eval_any bW (bM a b (X + 1)) w (bW_in _ _) (h.inM ha hb) h.s
  rw [bM_val] at this
  exact this
/-- an answer of Eval: a number, or the error -/
def AnsT (n : Int) (w : World) (e : Ending) (w' : World) : Prop := ∃ a c, e = .returned (.tuple #[.agg #[.int .i64 1, .int .i64 n, .bool false, .slice a 0 c], .int .i64 0]) ∧ Below w.heap.size w w'
def AnsF (w : World) (e : Ending) (w' : World) : Prop := ∃ a c, e = .returned (.tuple #[.agg #[.int .i64 0, .int .i64 0, .bool false, .slice a 0 c], .int .i64 5]) ∧ Below w.heap.size w w'
theorem ansT {n : Int} {w : World} {e : Ending} {w' : World} (hf : fitB n = true) (h : EvalP (fitE n) w e w') : AnsT n w e w' := by
  rw [fitE_yes hf] at h
  obtain ⟨a, c, rfl, -, hb⟩ := h
  exact ⟨a, c, rfl, hb⟩
theorem ansF {n : Int} {w : World} {e : Ending} {w' : World} (hf : fitB n = false) (h : EvalP (fitE n) w e w') : AnsF w e w' := by
  rw [fitE_no hf] at h
  obtain ⟨rfl, hb⟩ := h
  exact ⟨none, 0, rfl, hb⟩
theorem two_set {w : World} {A i j : Nat} {x y : Value} {p : Addr} (h : w.cell? ⟨A, i, none⟩ = some x ∧ w.cell? ⟨A, j, none⟩ = some y) (hne : A ≠ p.block) (u : Value) : (w.setCell p u).cell? ⟨A, i, none⟩ = some x ∧ (w.setCell p u).cell? ⟨A, j, none⟩ = some y := by
  have e : ∀ o, (w.setCell p u).cell? ⟨A, o, none⟩ = w.cell? ⟨A, o, none⟩ := fun o => World.cell?_of_block (w := w) (Below.heap_setCell w p u A hne)
  rw [e, e]; exact h
theorem two_keep {w w' : World} {p q : Addr} {x y : Value} (h : w.cell? p = some x ∧ w.cell? q = some y) (hb : Below w.heap.size w w') : w'.cell? p = some x ∧ w'.cell? q = some y := ⟨cell_later hb h.1, cell_later hb h.2⟩
/-- an answer of Ints -/
def Two2 (f : Bool) (n : Int) (w : World) (e : Ending) (w' : World) : Prop :=
  (∃ c, (f = true → c = n) ∧ e = .returned (.tuple #[.int .i64 c, .bool f])) ∧ w = w'
theorem twoA (a b : Int) (w : World) (ha : fitB a = true) (hb : fitB b = true) : Calls Tryd.prog 34 #[.int .i64 4, .int .i64 a, .int .i64 b] w (Two2 (fitB (a + b)) (a + b) w) := by
  cases hf : fitB (a + b)
  · exact (ints4_no a b w ha hb hf).mono fun e w' ⟨⟨c, he⟩, hw⟩ => ⟨⟨c, (fun h => by cases h), he⟩, hw⟩
  · exact (ints4_ok a b w hf).mono fun e w' ⟨he, hw⟩ => ⟨⟨_, fun _ => rfl, he⟩, hw⟩
theorem twoS (a b : Int) (w : World) (ha : fitB a = true) (hb : fitB b = true) : Calls Tryd.prog 34 #[.int .i64 5, .int .i64 a, .int .i64 b] w (Two2 (fitB (a - b)) (a - b) w) := by
  cases hf : fitB (a - b)
  · exact (ints5_no a b w ha hb hf).mono fun e w' ⟨⟨c, he⟩, hw⟩ => ⟨⟨c, (fun h => by cases h), he⟩, hw⟩
  · exact (ints5_ok a b w hf).mono fun e w' ⟨he, hw⟩ => ⟨⟨_, fun _ => rfl, he⟩, hw⟩
theorem twoM (a b : Int) (w : World) (ha : fitB a = true) (hb : fitB b = true) : Calls Tryd.prog 34 #[.int .i64 6, .int .i64 a, .int .i64 b] w (Two2 (fitB (a * b)) (a * b) w) := by
  cases hf : fitB (a * b)
  · exact (ints6_no a b w ha hb hf).mono fun e w' ⟨⟨c, he⟩, hw⟩ => ⟨⟨c, (fun h => by cases h), he⟩, hw⟩
  · exact (ints6_fit a b w hf ha).mono fun e w' ⟨he, hw⟩ => ⟨⟨_, fun _ => rfl, he⟩, hw⟩
theorem small_fits {a b : Int} (h1 : a < 1000000000) (h2 : -1000000000 < a) (h3 : b < 1000000000) (h4 : -1000000000 < b) : fitB (a + b) = true ∧ fitB (a - b) = true ∧ fitB (a * b) = true := by
  have hm : (a * b).natAbs ≤ 999999999 * 999999999 := by
    rw [Int.natAbs_mul]; exact Nat.mul_le_mul (by omega) (by omega)
  simp only [fitB_iff]
  omega

end Go.Proofs.YtimnfkdokjdplaaDoor
