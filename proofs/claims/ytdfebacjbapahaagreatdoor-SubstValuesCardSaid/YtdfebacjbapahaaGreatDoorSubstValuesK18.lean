/-
  What SubstValues's proof stands on, part 18: EvI, EvJ, EvK.
-/
import Derived.Test.YtdfebacjbapahaaGreatDoorSubstValuesK13
import Derived.Test.YtdfebacjbapahaaGreatDoorSubstValuesK14
import Derived.Test.YtdfebacjbapahaaGreatDoorSubstValuesK15
import Derived.Test.YtdfebacjbapahaaGreatDoorSubstValuesK16
import Derived.Test.YtdfebacjbapahaaGreatDoorSubstValuesK17
import Derived.Test.YtdfebacjbapahaaGreatDoorSubstValuesK09
namespace Go.Proofs.YtdfebacjbapahaaGreatDoor
section
open Go.RowKit

def NumOf (W : Wd) (k : Tm) : Prop := (∃ x, ev W k = .ok (.i x) ∧ CallsN W k (RetI x)) ∨ ∃ e, ev W k = .error e ∧ CallsN W k (PanK e)
def SetOf (W : Wd) (k : Tm) : Prop := (∃ x, ev W k = .ok (.s x) ∧ CallsS W k (RetS x)) ∨ ∃ e, ev W k = .error e ∧ CallsS W k (PanK e)
def NodOf (W : Wd) (k : Tm) : Prop := (∃ x, ev W k = .ok (.d x) ∧ CallsD W k (RetI x)) ∨ ∃ e, ev W k = .error e ∧ CallsD W k (PanK e)
def EvOf (W : Wd) (s : Nat) (k : Tm) : Prop :=
  match s with
  | 1 => NumOf W k
  | 2 => SetOf W k
  | 3 => NodOf W k
  | _ => TruthOf W k
theorem size_kid {t k : Tm} (h : k ∈ t.ks) : k.size ≤ t.size := by
  have : ∀ ks : List Tm, k ∈ ks → k.size ≤ Tm.sizes ks := by
    intro ks
    induction ks with
    | nil => intro h; cases h
    | cons a l ih =>
      intro h
      unfold Tm.sizes
      rcases List.mem_cons.1 h with rfl | h
      · omega
      · have := ih h; omega
  have := this t.ks h
  rw [Tm.size_eq t]; omega
theorem size_len (t : Tm) : t.ks.length ≤ t.size := by
  have : ∀ ks : List Tm, ks.length ≤ Tm.sizes ks := by
    intro ks
    induction ks with
    | nil => simp
    | cons a l ih =>
      unfold Tm.sizes
      have := Tm.size_eq a
      simp only [List.length_cons]; omega
  have := this t.ks
  rw [Tm.size_eq]; omega
theorem fitE_yes {n : Int} (h : fitB n = true) : fitE n = .ok (.i n) := by unfold fitE; rw [if_pos h]
theorem fitE_no {n : Int} (h : fitB n = false) : fitE n = .error 5 := by unfold fitE; rw [h]; rfl
theorem lookE_yes {o : Option Vl} {v : Vl} {f : Vl → Vv} (h : o = some v) : lookE o f = .ok (f v) := by rw [h]; rfl
theorem lookE_no {o : Option Vl} {f : Vl → Vv} (h : o = none) : lookE o f = .error 4 := by rw [h]; rfl

theorem ev_of {W : Wd} (hR : Rt W) {w : World} {B : Nat} : ∀ t : Tm, TIn w B t → t.srt ≠ 0 → t.size ≤ 2000 → EvOf W t.srt t := by
  intro t
  induction t using Tm.ind with
  | h t ih =>
    intro hin hs hz
    obtain ⟨j, hj, j1, j2, -⟩ := srt_form hs
    have ho : t.op.toNat = j := by omega
    have h1 := hR.lo
    have h2 := hR.hi
    have hzl := size_len t
    have hk : ∀ k ∈ t.ks, k.srt ≠ 0 → EvOf W k.srt k ∧ Res W k.srt (ev W k) := fun k hk h => by
      have hsz := size_kid hk
      obtain ⟨i, hi, rfl⟩ := List.mem_iff_getElem.1 hk
      exact ⟨ih _ hk (hin.kid i hi).1 h (by omega), ev_ty hR _ (hin.kid i hi).1 h⟩
    rcases (show j = 1 ∨ j = 2 ∨ j = 3 ∨ j = 4 ∨ j = 5 ∨ j = 6 ∨ j = 7 ∨ j = 8 ∨ j = 9 ∨ j = 10 ∨ j = 11 ∨ j = 12 ∨ j = 13 ∨ j = 14 ∨ j = 15 ∨ j = 16 ∨ j = 17 ∨ j = 18 ∨ j = 19 ∨ j = 20 ∨ j = 21 ∨ j = 22 ∨ j = 23 ∨ j = 24 ∨ j = 25 ∨ j = 26 ∨ j = 27 ∨ j = 28 by omega) with rfl | rfl | rfl | rfl | rfl | rfl | rfl | rfl | rfl | rfl | rfl | rfl | rfl | rfl | rfl | rfl | rfl | rfl | rfl | rfl | rfl | rfl | rfl | rfl | rfl | rfl | rfl | rfl
    · obtain ⟨hks, e⟩ := form0 1 hs hj rfl rfl
      rw [e]
      exact .inl ⟨_, by rw [ev0 hks, ho]; rfl, num1 W t (by rw [hj]; rfl) hks⟩
    · obtain ⟨hks, e⟩ := form0 2 hs hj rfl rfl
      rw [e]
      cases hl : look W t.nm 1 with
      | none => exact .inr ⟨4, by rw [ev0 hks, ho]; exact lookE_no hl, num2_e W t (by rw [hj]; rfl) hks hl⟩
      | some v =>
        have hv := (look_i hR hl).1
        exact .inl ⟨_, by rw [ev0 hks, ho]; exact lookE_yes hl, num2_ok W t (by rw [hj]; rfl) hks hl (by omega)⟩
    · obtain ⟨k0, hks, s0, e⟩ := form1 3 hs hj rfl rfl
      rw [e]
      have s0' : k0.srt = 2 := s0
      obtain ⟨q0, r0⟩ := hk k0 (by simp [hks]) (by rw [s0']; decide)
      rw [s0'] at q0 r0
      rcases q0 with ⟨x0, h0, C0⟩ | ⟨e0, h0, C0⟩
      · rw [h0] at r0
        have f0 : Ty W 2 (.s x0) := r0
        have f1 : x0.length = W.nodes.toNat := f0
        exact .inl ⟨_, by rw [ev1 hks h0, ho]; rfl, num3_ok W t k0 (by rw [hj]; rfl) hks C0 (by omega)⟩
      · exact .inr ⟨e0, ev1e hks h0, num3_e W t k0 (by rw [hj]; rfl) hks C0⟩
    · obtain ⟨k0, k1, hks, s0, s1, e⟩ := form2 4 hs hj rfl rfl
      rw [e]
      have s0' : k0.srt = 1 := s0
      have s1' : k1.srt = 1 := s1
      obtain ⟨q0, r0⟩ := hk k0 (by simp [hks]) (by rw [s0']; decide)
      obtain ⟨q1, r1⟩ := hk k1 (by simp [hks]) (by rw [s1']; decide)
      rw [s0'] at q0 r0
      rw [s1'] at q1 r1
      rcases q0 with ⟨x0, h0, C0⟩ | ⟨e0, h0, C0⟩
      · rcases q1 with ⟨x1, h1', C1⟩ | ⟨e1, h1', C1⟩
        · rw [h0] at r0
          rw [h1'] at r1
          have f0 : Ty W 1 (.i x0) := r0
          have f1 : Ty W 1 (.i x1) := r1
          cases hf : fitB (x0 + x1)
          · exact .inr ⟨5, by rw [ev2 hks h0 h1', ho]; exact fitE_no hf, num4_big W t k0 k1 (by rw [hj]; rfl) hks C0 C1 f0 f1 hf⟩
          · exact .inl ⟨_, by rw [ev2 hks h0 h1', ho]; exact fitE_yes hf, num4_ok W t k0 k1 (by rw [hj]; rfl) hks C0 C1 f0 f1 hf⟩
        · exact .inr ⟨e1, ev2e1 hks h0 h1', num4_e1 W t k0 k1 (by rw [hj]; rfl) hks C0 C1⟩
      · rcases q1 with ⟨x1, h1', C1⟩ | ⟨e1, h1', C1⟩
        · exact .inr ⟨e0, ev2e0 hks h0, num4_e0 W t k0 k1 (by rw [hj]; rfl) hks C0 C1⟩
        · exact .inr ⟨e0, ev2e0 hks h0, num4_e0 W t k0 k1 (by rw [hj]; rfl) hks C0 C1⟩
    · obtain ⟨k0, k1, hks, s0, s1, e⟩ := form2 5 hs hj rfl rfl
      rw [e]
      have s0' : k0.srt = 1 := s0
      have s1' : k1.srt = 1 := s1
      obtain ⟨q0, r0⟩ := hk k0 (by simp [hks]) (by rw [s0']; decide)
      obtain ⟨q1, r1⟩ := hk k1 (by simp [hks]) (by rw [s1']; decide)
      rw [s0'] at q0 r0
      rw [s1'] at q1 r1
      rcases q0 with ⟨x0, h0, C0⟩ | ⟨e0, h0, C0⟩
      · rcases q1 with ⟨x1, h1', C1⟩ | ⟨e1, h1', C1⟩
        · rw [h0] at r0
          rw [h1'] at r1
          have f0 : Ty W 1 (.i x0) := r0
          have f1 : Ty W 1 (.i x1) := r1
          cases hf : fitB (x0 - x1)
          · exact .inr ⟨5, by rw [ev2 hks h0 h1', ho]; exact fitE_no hf, num5_big W t k0 k1 (by rw [hj]; rfl) hks C0 C1 f0 f1 hf⟩
          · exact .inl ⟨_, by rw [ev2 hks h0 h1', ho]; exact fitE_yes hf, num5_ok W t k0 k1 (by rw [hj]; rfl) hks C0 C1 f0 f1 hf⟩
        · exact .inr ⟨e1, ev2e1 hks h0 h1', num5_e1 W t k0 k1 (by rw [hj]; rfl) hks C0 C1⟩
      · rcases q1 with ⟨x1, h1', C1⟩ | ⟨e1, h1', C1⟩
        · exact .inr ⟨e0, ev2e0 hks h0, num5_e0 W t k0 k1 (by rw [hj]; rfl) hks C0 C1⟩
        · exact .inr ⟨e0, ev2e0 hks h0, num5_e0 W t k0 k1 (by rw [hj]; rfl) hks C0 C1⟩
    · obtain ⟨k0, hks, s0, e⟩ := form1 6 hs hj rfl rfl
      rw [e]
      have s0' : k0.srt = 1 := s0
      obtain ⟨q0, r0⟩ := hk k0 (by simp [hks]) (by rw [s0']; decide)
      rw [s0'] at q0 r0
      rcases q0 with ⟨x0, h0, C0⟩ | ⟨e0, h0, C0⟩
      · rw [h0] at r0
        have f0 : Ty W 1 (.i x0) := r0
        cases hf : fitB (t.n * x0)
        · exact .inr ⟨5, by rw [ev1 hks h0, ho]; exact fitE_no hf, num6_big W t k0 (by rw [hj]; rfl) hks C0 f0 hf⟩
        · exact .inl ⟨_, by rw [ev1 hks h0, ho]; exact fitE_yes hf, num6_ok W t k0 (by rw [hj]; rfl) hks C0 f0 hf⟩
      · exact .inr ⟨e0, ev1e hks h0, num6_e W t k0 (by rw [hj]; rfl) hks C0⟩
    · obtain ⟨hks, e⟩ := form0 7 hs hj rfl rfl
      rw [e]
      cases hl : look W t.nm 2 with
      | none => exact .inr ⟨4, by rw [ev0 hks, ho]; exact lookE_no hl, set7_e W t (by rw [hj]; rfl) hks hl⟩
      | some v =>
        have hv := look_s hR hl
        exact .inl ⟨_, by rw [ev0 hks, ho]; exact lookE_yes hl, set7_ok W t (by rw [hj]; rfl) hks hl (by omega) (by omega)⟩
    · obtain ⟨hks, e⟩ := form0 8 hs hj rfl rfl
      rw [e]
      exact .inl ⟨_, by rw [ev0 hks, ho]; rfl, set8 W t (by rw [hj]; rfl) hks h1 h2⟩
    · obtain ⟨hks, e⟩ := form0 9 hs hj rfl rfl
      rw [e]
      exact .inl ⟨_, by rw [ev0 hks, ho]; rfl, set9 W t (by rw [hj]; rfl) hks h1 h2⟩
    · obtain ⟨k0, hks, s0, e⟩ := form1 10 hs hj rfl rfl
      rw [e]
      have s0' : k0.srt = 3 := s0
      obtain ⟨q0, r0⟩ := hk k0 (by simp [hks]) (by rw [s0']; decide)
      rw [s0'] at q0 r0
      rcases q0 with ⟨x0, h0, C0⟩ | ⟨e0, h0, C0⟩
      · rw [h0] at r0
        have f0 : Ty W 3 (.d x0) := r0
        exact .inl ⟨_, by rw [ev1 hks h0, ho]; rfl, set10_ok W t k0 (by rw [hj]; rfl) hks h1 h2 C0 f0.1 f0.2⟩
      · exact .inr ⟨e0, ev1e hks h0, set10_e W t k0 (by rw [hj]; rfl) hks h1 h2 C0⟩
    · obtain ⟨k0, k1, hks, s0, s1, e⟩ := form2 11 hs hj rfl rfl
      rw [e]
      have s0' : k0.srt = 2 := s0
      have s1' : k1.srt = 2 := s1
      obtain ⟨q0, r0⟩ := hk k0 (by simp [hks]) (by rw [s0']; decide)
      obtain ⟨q1, r1⟩ := hk k1 (by simp [hks]) (by rw [s1']; decide)
      rw [s0'] at q0 r0
      rw [s1'] at q1 r1
      rcases q0 with ⟨x0, h0, C0⟩ | ⟨e0, h0, C0⟩
      · rcases q1 with ⟨x1, h1', C1⟩ | ⟨e1, h1', C1⟩
        · rw [h0] at r0
          rw [h1'] at r1
          have f0 : Ty W 2 (.s x0) := r0
          have f1 : Ty W 2 (.s x1) := r1
          have g0 : x0.length = W.nodes.toNat := f0
          have g1 : x1.length = W.nodes.toNat := f1
          exact .inl ⟨_, by rw [ev2 hks h0 h1', ho]; rfl, set11_ok W t k0 k1 (by rw [hj]; rfl) hks C0 C1 (by omega) (by omega) (by omega)⟩
        · exact .inr ⟨e1, ev2e1 hks h0 h1', set11_e1 W t k0 k1 (by rw [hj]; rfl) hks C0 C1⟩
      · rcases q1 with ⟨x1, h1', C1⟩ | ⟨e1, h1', C1⟩
        · exact .inr ⟨e0, ev2e0 hks h0, set11_e0 W t k0 k1 (by rw [hj]; rfl) hks C0 C1⟩
        · exact .inr ⟨e0, ev2e0 hks h0, set11_e0 W t k0 k1 (by rw [hj]; rfl) hks C0 C1⟩
    · obtain ⟨k0, k1, hks, s0, s1, e⟩ := form2 12 hs hj rfl rfl
      rw [e]
      have s0' : k0.srt = 2 := s0
      have s1' : k1.srt = 2 := s1
      obtain ⟨q0, r0⟩ := hk k0 (by simp [hks]) (by rw [s0']; decide)
      obtain ⟨q1, r1⟩ := hk k1 (by simp [hks]) (by rw [s1']; decide)
      rw [s0'] at q0 r0
      rw [s1'] at q1 r1
      rcases q0 with ⟨x0, h0, C0⟩ | ⟨e0, h0, C0⟩
      · rcases q1 with ⟨x1, h1', C1⟩ | ⟨e1, h1', C1⟩
        · rw [h0] at r0
          rw [h1'] at r1
          have f0 : Ty W 2 (.s x0) := r0
          have f1 : Ty W 2 (.s x1) := r1
          have g0 : x0.length = W.nodes.toNat := f0
          have g1 : x1.length = W.nodes.toNat := f1
          exact .inl ⟨_, by rw [ev2 hks h0 h1', ho]; rfl, set12_ok W t k0 k1 (by rw [hj]; rfl) hks C0 C1 (by omega) (by omega) (by omega)⟩
        · exact .inr ⟨e1, ev2e1 hks h0 h1', set12_e1 W t k0 k1 (by rw [hj]; rfl) hks C0 C1⟩
      · rcases q1 with ⟨x1, h1', C1⟩ | ⟨e1, h1', C1⟩
        · exact .inr ⟨e0, ev2e0 hks h0, set12_e0 W t k0 k1 (by rw [hj]; rfl) hks C0 C1⟩
        · exact .inr ⟨e0, ev2e0 hks h0, set12_e0 W t k0 k1 (by rw [hj]; rfl) hks C0 C1⟩
    · obtain ⟨k0, k1, hks, s0, s1, e⟩ := form2 13 hs hj rfl rfl
      rw [e]
      have s0' : k0.srt = 2 := s0
      have s1' : k1.srt = 2 := s1
      obtain ⟨q0, r0⟩ := hk k0 (by simp [hks]) (by rw [s0']; decide)
      obtain ⟨q1, r1⟩ := hk k1 (by simp [hks]) (by rw [s1']; decide)
      rw [s0'] at q0 r0
      rw [s1'] at q1 r1
      rcases q0 with ⟨x0, h0, C0⟩ | ⟨e0, h0, C0⟩
      · rcases q1 with ⟨x1, h1', C1⟩ | ⟨e1, h1', C1⟩
        · rw [h0] at r0
          rw [h1'] at r1
          have f0 : Ty W 2 (.s x0) := r0
          have f1 : Ty W 2 (.s x1) := r1
          have g0 : x0.length = W.nodes.toNat := f0
          have g1 : x1.length = W.nodes.toNat := f1
          exact .inl ⟨_, by rw [ev2 hks h0 h1', ho]; rfl, set13_ok W t k0 k1 (by rw [hj]; rfl) hks C0 C1 (by omega) (by omega) (by omega)⟩
        · exact .inr ⟨e1, ev2e1 hks h0 h1', set13_e1 W t k0 k1 (by rw [hj]; rfl) hks C0 C1⟩
      · rcases q1 with ⟨x1, h1', C1⟩ | ⟨e1, h1', C1⟩
        · exact .inr ⟨e0, ev2e0 hks h0, set13_e0 W t k0 k1 (by rw [hj]; rfl) hks C0 C1⟩
        · exact .inr ⟨e0, ev2e0 hks h0, set13_e0 W t k0 k1 (by rw [hj]; rfl) hks C0 C1⟩
    · obtain ⟨hks, e⟩ := form0 14 hs hj rfl rfl
      rw [e]
      cases hl : look W t.nm 3 with
      | none => exact .inr ⟨4, by rw [ev0 hks, ho]; exact lookE_no hl, nod_e W t (by rw [hj]; rfl) hks hl⟩
      | some v =>
        have hv := (look_d hR hl).1
        exact .inl ⟨_, by rw [ev0 hks, ho]; exact lookE_yes hl, nod_ok W t (by rw [hj]; rfl) hks hl (by omega)⟩
    · obtain ⟨hks, e⟩ := form0 15 hs hj rfl rfl
      rw [e]
      cases hl : look W t.nm 4 with
      | none => exact .inr ⟨4, by rw [ev0 hks, ho]; exact lookE_no hl, tru15_e W t (by rw [hj]; rfl) hks hl⟩
      | some v =>
        have hv := look_b hR hl
        exact .inl ⟨_, by rw [ev0 hks, ho]; exact lookE_yes hl, tru15_ok W t (by rw [hj]; rfl) hks hl (by omega)⟩
    · obtain ⟨hks, e⟩ := form0 16 hs hj rfl rfl
      rw [e]
      exact .inl ⟨_, by rw [ev0 hks, ho]; rfl, tru16 W t (by rw [hj]; rfl) hks⟩
    · obtain ⟨hks, e⟩ := form0 17 hs hj rfl rfl
      rw [e]
      exact .inl ⟨_, by rw [ev0 hks, ho]; rfl, tru17 W t (by rw [hj]; rfl) hks⟩
    · obtain ⟨k0, hks, s0, e⟩ := form1 18 hs hj rfl rfl
      rw [e]
      have s0' : k0.srt = 4 := s0
      obtain ⟨q0, r0⟩ := hk k0 (by simp [hks]) (by rw [s0']; decide)
      rw [s0'] at q0 r0
      rcases q0 with ⟨x0, h0, C0⟩ | ⟨e0, h0, C0⟩
      · rw [h0] at r0
        exact .inl ⟨_, by rw [ev1 hks h0, ho]; rfl, tru18_ok W t k0 (by rw [hj]; rfl) hks C0⟩
      · exact .inr ⟨e0, ev1e hks h0, tru18_e W t k0 (by rw [hj]; rfl) hks C0⟩
    · obtain ⟨hks, e⟩ := formM 19 hs hj rfl
      rw [e]
      have ihk : ∀ k ∈ t.ks, TruthOf W k := fun k hm => by
        have e4 : k.srt = 4 := hks k hm
        have := (hk k hm (by rw [e4]; decide)).1
        rw [e4] at this; exact this
      rcases evs_bits (W := W) (ks := t.ks) (fun k hm => by have e4 : k.srt = 4 := hks k hm; have := (hk k hm (by rw [e4]; decide)).2; rw [e4] at this; exact this) with ⟨x, hx, h5⟩ | ⟨l, hl, -⟩
      · exact .inr ⟨x, evMe hx, tru19_e W t (by rw [hj]; rfl) (by omega) ihk hx⟩
      · exact .inl ⟨_, by rw [evM hl, ho]; show Except.ok (Vv.b _) = _; rw [bits_all], tru19_ok W t (by rw [hj]; rfl) (by omega) ihk hl⟩
    · obtain ⟨hks, e⟩ := formM 20 hs hj rfl
      rw [e]
      have ihk : ∀ k ∈ t.ks, TruthOf W k := fun k hm => by
        have e4 : k.srt = 4 := hks k hm
        have := (hk k hm (by rw [e4]; decide)).1
        rw [e4] at this; exact this
      rcases evs_bits (W := W) (ks := t.ks) (fun k hm => by have e4 : k.srt = 4 := hks k hm; have := (hk k hm (by rw [e4]; decide)).2; rw [e4] at this; exact this) with ⟨x, hx, h5⟩ | ⟨l, hl, -⟩
      · exact .inr ⟨x, evMe hx, tru20_e W t (by rw [hj]; rfl) (by omega) ihk hx⟩
      · exact .inl ⟨_, by rw [evM hl, ho]; show Except.ok (Vv.b _) = _; rw [bits_any], tru20_ok W t (by rw [hj]; rfl) (by omega) ihk hl⟩
    · obtain ⟨k0, k1, hks, s0, s1, e⟩ := form2 21 hs hj rfl rfl
      rw [e]
      have s0' : k0.srt = 4 := s0
      have s1' : k1.srt = 4 := s1
      obtain ⟨q0, r0⟩ := hk k0 (by simp [hks]) (by rw [s0']; decide)
      obtain ⟨q1, r1⟩ := hk k1 (by simp [hks]) (by rw [s1']; decide)
      rw [s0'] at q0 r0
      rw [s1'] at q1 r1
      rcases q0 with ⟨x0, h0, C0⟩ | ⟨e0, h0, C0⟩
      · rcases q1 with ⟨x1, h1', C1⟩ | ⟨e1, h1', C1⟩
        · rw [h0] at r0
          rw [h1'] at r1
          exact .inl ⟨_, by rw [ev2 hks h0 h1', ho]; rfl, tru21_ok W t k0 k1 (by rw [hj]; rfl) hks C0 C1⟩
        · exact .inr ⟨e1, ev2e1 hks h0 h1', tru21_e1 W t k0 k1 (by rw [hj]; rfl) hks C0 C1⟩
      · rcases q1 with ⟨x1, h1', C1⟩ | ⟨e1, h1', C1⟩
        · exact .inr ⟨e0, ev2e0 hks h0, tru21_e0 W t k0 k1 (by rw [hj]; rfl) hks C0 C1⟩
        · exact .inr ⟨e0, ev2e0 hks h0, tru21_e0 W t k0 k1 (by rw [hj]; rfl) hks C0 C1⟩
    · obtain ⟨k0, k1, hks, s0, s1, e⟩ := form2 22 hs hj rfl rfl
      rw [e]
      have s0' : k0.srt = 1 := s0
      have s1' : k1.srt = 1 := s1
      obtain ⟨q0, r0⟩ := hk k0 (by simp [hks]) (by rw [s0']; decide)
      obtain ⟨q1, r1⟩ := hk k1 (by simp [hks]) (by rw [s1']; decide)
      rw [s0'] at q0 r0
      rw [s1'] at q1 r1
      rcases q0 with ⟨x0, h0, C0⟩ | ⟨e0, h0, C0⟩
      · rcases q1 with ⟨x1, h1', C1⟩ | ⟨e1, h1', C1⟩
        · rw [h0] at r0
          rw [h1'] at r1
          exact .inl ⟨_, by rw [ev2 hks h0 h1', ho]; rfl, tru22_ok W t k0 k1 (by rw [hj]; rfl) hks C0 C1⟩
        · exact .inr ⟨e1, ev2e1 hks h0 h1', tru22_e1 W t k0 k1 (by rw [hj]; rfl) hks C0 C1⟩
      · rcases q1 with ⟨x1, h1', C1⟩ | ⟨e1, h1', C1⟩
        · exact .inr ⟨e0, ev2e0 hks h0, tru22_e0 W t k0 k1 (by rw [hj]; rfl) hks C0 C1⟩
        · exact .inr ⟨e0, ev2e0 hks h0, tru22_e0 W t k0 k1 (by rw [hj]; rfl) hks C0 C1⟩
    · obtain ⟨k0, k1, hks, s0, s1, e⟩ := form2 23 hs hj rfl rfl
      rw [e]
      have s0' : k0.srt = 1 := s0
      have s1' : k1.srt = 1 := s1
      obtain ⟨q0, r0⟩ := hk k0 (by simp [hks]) (by rw [s0']; decide)
      obtain ⟨q1, r1⟩ := hk k1 (by simp [hks]) (by rw [s1']; decide)
      rw [s0'] at q0 r0
      rw [s1'] at q1 r1
      rcases q0 with ⟨x0, h0, C0⟩ | ⟨e0, h0, C0⟩
      · rcases q1 with ⟨x1, h1', C1⟩ | ⟨e1, h1', C1⟩
        · rw [h0] at r0
          rw [h1'] at r1
          exact .inl ⟨_, by rw [ev2 hks h0 h1', ho]; rfl, tru23_ok W t k0 k1 (by rw [hj]; rfl) hks C0 C1⟩
        · exact .inr ⟨e1, ev2e1 hks h0 h1', tru23_e1 W t k0 k1 (by rw [hj]; rfl) hks C0 C1⟩
      · rcases q1 with ⟨x1, h1', C1⟩ | ⟨e1, h1', C1⟩
        · exact .inr ⟨e0, ev2e0 hks h0, tru23_e0 W t k0 k1 (by rw [hj]; rfl) hks C0 C1⟩
        · exact .inr ⟨e0, ev2e0 hks h0, tru23_e0 W t k0 k1 (by rw [hj]; rfl) hks C0 C1⟩
    · obtain ⟨k0, k1, hks, s0, s1, e⟩ := form2 24 hs hj rfl rfl
      rw [e]
      have s0' : k0.srt = 1 := s0
      have s1' : k1.srt = 1 := s1
      obtain ⟨q0, r0⟩ := hk k0 (by simp [hks]) (by rw [s0']; decide)
      obtain ⟨q1, r1⟩ := hk k1 (by simp [hks]) (by rw [s1']; decide)
      rw [s0'] at q0 r0
      rw [s1'] at q1 r1
      rcases q0 with ⟨x0, h0, C0⟩ | ⟨e0, h0, C0⟩
      · rcases q1 with ⟨x1, h1', C1⟩ | ⟨e1, h1', C1⟩
        · rw [h0] at r0
          rw [h1'] at r1
          exact .inl ⟨_, by rw [ev2 hks h0 h1', ho]; rfl, tru24_ok W t k0 k1 (by rw [hj]; rfl) hks C0 C1⟩
        · exact .inr ⟨e1, ev2e1 hks h0 h1', tru24_e1 W t k0 k1 (by rw [hj]; rfl) hks C0 C1⟩
      · rcases q1 with ⟨x1, h1', C1⟩ | ⟨e1, h1', C1⟩
        · exact .inr ⟨e0, ev2e0 hks h0, tru24_e0 W t k0 k1 (by rw [hj]; rfl) hks C0 C1⟩
        · exact .inr ⟨e0, ev2e0 hks h0, tru24_e0 W t k0 k1 (by rw [hj]; rfl) hks C0 C1⟩
    · obtain ⟨k0, k1, hks, s0, s1, e⟩ := form2 25 hs hj rfl rfl
      rw [e]
      have s0' : k0.srt = 3 := s0
      have s1' : k1.srt = 2 := s1
      obtain ⟨q0, r0⟩ := hk k0 (by simp [hks]) (by rw [s0']; decide)
      obtain ⟨q1, r1⟩ := hk k1 (by simp [hks]) (by rw [s1']; decide)
      rw [s0'] at q0 r0
      rw [s1'] at q1 r1
      rcases q0 with ⟨x0, h0, C0⟩ | ⟨e0, h0, C0⟩
      · rcases q1 with ⟨x1, h1', C1⟩ | ⟨e1, h1', C1⟩
        · rw [h0] at r0
          rw [h1'] at r1
          have f0 : Ty W 3 (.d x0) := r0
          have f1 : Ty W 2 (.s x1) := r1
          have g1 : x1.length = W.nodes.toNat := f1
          exact .inl ⟨_, by rw [ev2 hks h0 h1', ho]; rfl, tru25_ok W t k0 k1 (by rw [hj]; rfl) hks C0 C1 f0.1 (by have := f0.1; have := f0.2; omega)⟩
        · exact .inr ⟨e1, ev2e1 hks h0 h1', tru25_e1 W t k0 k1 (by rw [hj]; rfl) hks C0 C1⟩
      · rcases q1 with ⟨x1, h1', C1⟩ | ⟨e1, h1', C1⟩
        · exact .inr ⟨e0, ev2e0 hks h0, tru25_e0 W t k0 k1 (by rw [hj]; rfl) hks C0 C1⟩
        · exact .inr ⟨e0, ev2e0 hks h0, tru25_e0 W t k0 k1 (by rw [hj]; rfl) hks C0 C1⟩
    · obtain ⟨k0, k1, hks, s0, s1, e⟩ := form2 26 hs hj rfl rfl
      rw [e]
      have s0' : k0.srt = 2 := s0
      have s1' : k1.srt = 2 := s1
      obtain ⟨q0, r0⟩ := hk k0 (by simp [hks]) (by rw [s0']; decide)
      obtain ⟨q1, r1⟩ := hk k1 (by simp [hks]) (by rw [s1']; decide)
      rw [s0'] at q0 r0
      rw [s1'] at q1 r1
      rcases q0 with ⟨x0, h0, C0⟩ | ⟨e0, h0, C0⟩
      · rcases q1 with ⟨x1, h1', C1⟩ | ⟨e1, h1', C1⟩
        · rw [h0] at r0
          rw [h1'] at r1
          have f0 : Ty W 2 (.s x0) := r0
          have f1 : Ty W 2 (.s x1) := r1
          have g0 : x0.length = W.nodes.toNat := f0
          have g1 : x1.length = W.nodes.toNat := f1
          exact .inl ⟨_, by rw [ev2 hks h0 h1', ho]; rfl, tru26_ok W t k0 k1 (by rw [hj]; rfl) hks C0 C1 (by omega) (by omega)⟩
        · exact .inr ⟨e1, ev2e1 hks h0 h1', tru26_e1 W t k0 k1 (by rw [hj]; rfl) hks C0 C1⟩
      · rcases q1 with ⟨x1, h1', C1⟩ | ⟨e1, h1', C1⟩
        · exact .inr ⟨e0, ev2e0 hks h0, tru26_e0 W t k0 k1 (by rw [hj]; rfl) hks C0 C1⟩
        · exact .inr ⟨e0, ev2e0 hks h0, tru26_e0 W t k0 k1 (by rw [hj]; rfl) hks C0 C1⟩
    · obtain ⟨k0, k1, hks, s0, s1, e⟩ := form2 27 hs hj rfl rfl
      rw [e]
      have s0' : k0.srt = 2 := s0
      have s1' : k1.srt = 2 := s1
      obtain ⟨q0, r0⟩ := hk k0 (by simp [hks]) (by rw [s0']; decide)
      obtain ⟨q1, r1⟩ := hk k1 (by simp [hks]) (by rw [s1']; decide)
      rw [s0'] at q0 r0
      rw [s1'] at q1 r1
      rcases q0 with ⟨x0, h0, C0⟩ | ⟨e0, h0, C0⟩
      · rcases q1 with ⟨x1, h1', C1⟩ | ⟨e1, h1', C1⟩
        · rw [h0] at r0
          rw [h1'] at r1
          have f0 : Ty W 2 (.s x0) := r0
          have f1 : Ty W 2 (.s x1) := r1
          have g0 : x0.length = W.nodes.toNat := f0
          have g1 : x1.length = W.nodes.toNat := f1
          exact .inl ⟨_, by rw [ev2 hks h0 h1', ho]; rfl, tru27_ok W t k0 k1 (by rw [hj]; rfl) hks C0 C1 (by omega) (by omega)⟩
        · exact .inr ⟨e1, ev2e1 hks h0 h1', tru27_e1 W t k0 k1 (by rw [hj]; rfl) hks C0 C1⟩
      · rcases q1 with ⟨x1, h1', C1⟩ | ⟨e1, h1', C1⟩
        · exact .inr ⟨e0, ev2e0 hks h0, tru27_e0 W t k0 k1 (by rw [hj]; rfl) hks C0 C1⟩
        · exact .inr ⟨e0, ev2e0 hks h0, tru27_e0 W t k0 k1 (by rw [hj]; rfl) hks C0 C1⟩
    · obtain ⟨k0, k1, hks, s0, s1, e⟩ := form2 28 hs hj rfl rfl
      rw [e]
      have s0' : k0.srt = 3 := s0
      have s1' : k1.srt = 3 := s1
      obtain ⟨q0, r0⟩ := hk k0 (by simp [hks]) (by rw [s0']; decide)
      obtain ⟨q1, r1⟩ := hk k1 (by simp [hks]) (by rw [s1']; decide)
      rw [s0'] at q0 r0
      rw [s1'] at q1 r1
      rcases q0 with ⟨x0, h0, C0⟩ | ⟨e0, h0, C0⟩
      · rcases q1 with ⟨x1, h1', C1⟩ | ⟨e1, h1', C1⟩
        · rw [h0] at r0
          rw [h1'] at r1
          exact .inl ⟨_, by rw [ev2 hks h0 h1', ho]; rfl, tru28_ok W t k0 k1 (by rw [hj]; rfl) hks C0 C1⟩
        · exact .inr ⟨e1, ev2e1 hks h0 h1', tru28_e1 W t k0 k1 (by rw [hj]; rfl) hks C0 C1⟩
      · rcases q1 with ⟨x1, h1', C1⟩ | ⟨e1, h1', C1⟩
        · exact .inr ⟨e0, ev2e0 hks h0, tru28_e0 W t k0 k1 (by rw [hj]; rfl) hks C0 C1⟩
        · exact .inr ⟨e0, ev2e0 hks h0, tru28_e0 W t k0 k1 (by rw [hj]; rfl) hks C0 C1⟩
end
section
open Go.RowKit

theorem beq_nat (m : Nat) : ((m : Int) == 0) = decide (m = 0) := by
  rw [Bool.eq_iff_iff]; simp
theorem beq_int (m n : Int) : (m == n) = decide (m = n) := by
  rw [Bool.eq_iff_iff]; simp
theorem ret_bool {a b : Bool} (h : a = b) : Ending.returned (.bool a) = .returned (.bool b) := by rw [h]
set_option maxRecDepth 100000 in
set_option maxHeartbeats 2000000 in
theorem hold_any (W : Wd) (v : Vl) (w : World) (hm : v.s.length ≤ 9223372036854775807) :
    Calls Tryz.prog 19 #[W.val, v.val] w (RetB (holdsV W.nodes v) w) := by
  obtain ⟨so, nn, bb, aa, cc, ss⟩ := v
  unfold Wd.val Vl.val holdsV
  simp only at hm ⊢
  have BW : Below w.heap.size w ((w.alloc (boxP W)).alloc (.cells #[.int .i64 so, .int .i64 nn, .bool bb, .slice aa ss.length cc] 36)) := bal (bal (Below.refl _ _) _) _
  unfold boxP at BW
  generalize ss.length = m at *
  have e0 := mkHid (beq_nat m)
  have e9 := mkHid (beq_int m W.nodes)
  by_cases h1 : so = 1
  · subst h1
    cases bb
    all_goals
      go_enter Tryz.func19, Tryz.ntmps19
      go_wp2
      go_ret
      first
        | exact ⟨rfl, BW⟩
        | exact ⟨ret_bool e0.out, BW⟩
  · have e1 : (so == 1) = false := beq_eq_false_iff_ne.2 h1
    rw [if_neg h1]
    by_cases h2 : so = 2
    · subst h2
      cases hn : (nn == 0) <;> cases bb
      all_goals
        go_enter Tryz.func19, Tryz.ntmps19
        go_wp2
        go_ret
        first
          | exact ⟨rfl, BW⟩
          | exact ⟨ret_bool e9.out, BW⟩
    · have e2 : (so == 2) = false := beq_eq_false_iff_ne.2 h2
      rw [if_neg h2]
      by_cases h3 : so = 3
      · subst h3
        cases hn : decide (0 ≤ nn) <;> cases hx : decide (nn < W.nodes) <;> cases bb
        all_goals
          go_enter Tryz.func19, Tryz.ntmps19
          go_wp2
          go_ret
          first
            | exact ⟨rfl, BW⟩
            | exact ⟨ret_bool e0.out, BW⟩
      · have e3 : (so == 3) = false := beq_eq_false_iff_ne.2 h3
        rw [if_neg h3]
        by_cases h4 : so = 4
        · subst h4
          cases hn : (nn == 0)
          all_goals
            go_enter Tryz.func19, Tryz.ntmps19
            go_wp2
            go_ret
            first
              | exact ⟨rfl, BW⟩
              | exact ⟨ret_bool e0.out, BW⟩
        · have e4 : (so == 4) = false := beq_eq_false_iff_ne.2 h4
          rw [if_neg h4]
          go_enter Tryz.func19, Tryz.ntmps19
          go_wp2
          go_ret
          exact ⟨rfl, BW⟩

/-- is the i-th name right? -/
def rightN (W : Wd) (i : Nat) (x : Nd) : Bool := nameB x.nm && holdsV W.nodes x.v && (findN x.nm x.v.sort W.l 0 == (i : Int))
def rightL (W : Wd) : List Nd → Nat → Bool
  | [], _ => true
  | x :: l, i => rightN W i x && rightL W l (i + 1)
def rightB (W : Wd) : Bool := decide (1 ≤ W.nodes) && decide (W.nodes ≤ 64) && decide (W.l.length ≤ 64) && rightL W W.l 0
theorem rightL_drop (W : Wd) (l : List Nd) (k : Nat) (h : k < l.length) : rightL W (l.drop k) k = (rightN W k l[k] && rightL W (l.drop (k + 1)) (k + 1)) := by
  rw [List.drop_eq_getElem_cons h]; rfl
theorem rightL_all {W : Wd} : ∀ {l : List Nd} {k : Nat}, rightL W l k = true → ∀ x ∈ l, nameB x.nm = true ∧ holdsV W.nodes x.v = true
  | [], _, _, x, hx => by cases hx
  | y :: l, k, h, x, hx => by
    simp only [rightL, rightN, Bool.and_eq_true] at h
    rcases List.mem_cons.1 hx with rfl | hx
    · exact h.1.1
    · exact rightL_all h.2 x hx
theorem right_rt {W : Wd} {w : World} {B : Nat} (h : rightB W = true) (hin : WIn w B W) : Rt W := by
  simp only [rightB, Bool.and_eq_true, decide_eq_true_eq] at h
  exact ⟨h.1.1.1, h.1.1.2, fun x hx => ⟨(rightL_all h.2 x hx).2, (hin.vs x hx).2.n⟩⟩

set_option maxRecDepth 100000 in
set_option maxHeartbeats 2000000 in
theorem right_any (W : Wd) (w : World) (hin : WIn w w.heap.size W) :
    Calls Tryz.prog 7 #[W.val] w (RetB (rightB W) w) := by
  have hn : W.l.length ≤ 9223372036854775807 := by have := hin.c; have := hin.m; unfold maxLen at this; omega
  have hw2 : Below w.heap.size w ((w.alloc (boxW W)).alloc (boxP W)) := bal (bal (Below.refl _ _) _) _
  have TWP : TwoW ((w.alloc (boxW W)).alloc (boxP W)) (w.heap.size + 1) W := by simp [TwoW, boxP, go_sem]
  have KP := mkHid (fun (wr : World) (hb : Below ((w.alloc (boxW W)).alloc (boxP W)).heap.size ((w.alloc (boxW W)).alloc (boxP W)) wr) => TWP.later hb)
  have HIN := mkHid hin
  clear hin
  generalize hW2 : (w.alloc (boxW W)).alloc (boxP W) = W2 at *
  unfold boxW boxP at hW2
  obtain ⟨p0, p1⟩ := id TWP
  by_cases hc : 1 ≤ W.nodes ∧ W.nodes ≤ 64 ∧ W.l.length ≤ 64
  · obtain ⟨c1, c2, c3⟩ := hc
    have d1 : decide (W.nodes < 1) = false := decide_eq_false (by omega)
    have d2 : decide (64 < W.nodes) = false := decide_eq_false (by omega)
    have d3 : decide (64 < W.l.length) = false := decide_eq_false (by omega)
    have hR : Hid (rightL W (W.l.drop 0) 0 = rightB W) := by show _ = _; simp [rightB, c1, c2, c3]
    generalize rightB W = R at *
    generalize hlen : W.l.length = n at *
    have HLN := mkHid hlen
    clear hlen
    unfold Wd.val
    rw [HLN.out]
    go_enter Tryz.func7, Tryz.ntmps7
    go_wp2
    clear p0 p1 hW2
    go_loopw [29] (fun i w' => ∃ (k : Nat) (x : Int), i = .int .i64 x ∧ x = k ∧ k ≤ n ∧ Below W2.heap.size W2 w' ∧ Hid (rightL W (W.l.drop k) k = R)) (fun i _ => (n - intOf i).toNat)
    case atStart => exact ⟨0, 0, rfl, rfl, Nat.zero_le _, Below.refl _ _, hR⟩
    case round =>
      obtain ⟨k, x, rfl, hxk, hk, hb, hal⟩ := hrel
      obtain rfl : x = (k : Int) := hxk
      clear hR
      have hbw : Below w.heap.size w wr := bon hw2 hb
      by_cases hlt : k < n
      · have hk' : k < W.l.length := by rw [HLN.out]; exact hlt
        obtain ⟨b, o, ha, hbB, kf⟩ := HIN.out.at_ k hk'
        have kf' := kf.keep hbw hbB
        have hsu := hal.out
        rw [rightL_drop W W.l k hk'] at hsu
        have HSU := mkHid hsu
        have hvv := HIN.out.vs _ (List.getElem_mem hk')
        rw [ha]
        clear ha kf hsu hal
        generalize W.l[k] = q at *
        clear hk'
        obtain ⟨g0, g1, g2, g3, g4⟩ := kf'
        have hb2 := bel_alloc wr (boxN q)
        obtain ⟨f0, f1, f2, f3, f4⟩ := boxN_five wr q
        simp only [Nat.zero_add] at f1 f2 f3 f4
        obtain ⟨p0, p1⟩ := (KP.out wr hb).later hb2
        rw [HLN.out] at p1
        have hW3 : wr.alloc (.cells #[.string q.nm, .int .i64 q.v.sort, .int .i64 q.v.n, .bool q.v.b, .slice q.v.a q.v.s.length q.v.c] 57) = wr.alloc (boxN q) := rfl
        have hB2 := bon hb hb2
        have FN := mkHid (fun w' (hb' : Below (wr.alloc (boxN q)).heap.size (wr.alloc (boxN q)) w') => find_any W q.nm q.v.sort w' (HIN.out.later (bon (bon hbw hb2) hb')))
        generalize wr.alloc (boxN q) = W3 at *
        have NC := mkHid (name_any q.nm W3 hvv.1)
        have HC := mkHid (fun w' => hold_any W q.v w' (by have h1 := hvv.2.c; have h2 := hvv.2.m; unfold maxLen at h2; omega))
        unfold Wd.val Vl.val at HC
        unfold Wd.val at FN
        rw [HLN.out] at HC FN
        unfold rightN at HSU
        clear hvv hb2
        generalize findN q.nm q.v.sort W.l 0 = fi at *
        cases hnm : nameB q.nm
        · rw [hnm] at NC HSU
          have hRf : R = false := by have := HSU.out; simpa using this.symm
          subst hRf
          clear HSU hnm
          go_wp2_with fail
          ((with_reducible refine NC.out.mono ?_)); rintro e w4 ⟨rfl, rfl⟩
          go_wp2
          go_ret
          exact ⟨rfl, bon hw2 hB2⟩
        · rw [hnm] at NC HSU
          clear hnm
          cases hhv : holdsV W.nodes q.v
          · rw [hhv] at HC HSU
            have hRf : R = false := by have := HSU.out; simpa using this.symm
            subst hRf
            clear HSU hhv
            go_wp2_with fail
            ((with_reducible refine NC.out.mono ?_)); rintro e w4 ⟨rfl, rfl⟩
            go_wp2_with fail
            ((with_reducible refine (HC.out _).mono ?_)); rintro e w5 ⟨rfl, hb5⟩
            go_wp2
            go_ret
            exact ⟨rfl, bon (bon hw2 hB2) hb5⟩
          · rw [hhv] at HC HSU
            clear hhv
            cases hfi : (fi == (k : Int))
            · rw [hfi] at HSU
              have hRf : R = false := by have := HSU.out; simpa using this.symm
              have hne : (fi != (k : Int)) = true := by rw [bne, hfi]; rfl
              subst hRf
              clear HSU hfi
              go_wp2_with fail
              ((with_reducible refine NC.out.mono ?_)); rintro e w4 ⟨rfl, rfl⟩
              go_wp2_with fail
              ((with_reducible refine (HC.out _).mono ?_)); rintro e w5 ⟨rfl, hb5⟩
              have f0' := cell_later hb5 f0
              have f1' := cell_later hb5 f1
              have p0' := cell_later hb5 p0
              have p1' := cell_later hb5 p1
              go_wp2_with fail
              ((with_reducible refine (FN.out _ hb5).mono ?_)); rintro e w6 ⟨rfl, hb6⟩
              go_wp2
              go_ret
              exact ⟨rfl, bon (bon (bon hw2 hB2) hb5) hb6⟩
            · rw [hfi] at HSU
              have hne : (fi != (k : Int)) = false := by rw [bne, hfi]; rfl
              clear hfi
              go_wp2_with fail
              ((with_reducible refine NC.out.mono ?_)); rintro e w4 ⟨rfl, rfl⟩
              go_wp2_with fail
              ((with_reducible refine (HC.out _).mono ?_)); rintro e w5 ⟨rfl, hb5⟩
              have f0' := cell_later hb5 f0
              have f1' := cell_later hb5 f1
              have p0' := cell_later hb5 p0
              have p1' := cell_later hb5 p1
              go_wp2_with fail
              ((with_reducible refine (FN.out _ hb5).mono ?_)); rintro e w6 ⟨rfl, hb6⟩
              have B6 := bon (bon hB2 hb5) hb6
              go_wp2
              go_roundw
              case rel => exact ⟨k + 1, _, rfl, by omega, by omega, B6, by simpa using HSU⟩
              case measure => simp [intOf]; omega
      · have hRt : R = true := by
          have := hal.out
          rw [List.drop_eq_nil_of_le (by rw [HLN.out]; omega)] at this
          exact this.symm
        subst hRt
        clear hal
        go_wp2
        go_ret
        exact ⟨rfl, hbw⟩
  · have hRf : rightB W = false := by
      unfold rightB
      by_cases a : 1 ≤ W.nodes
      · by_cases b : W.nodes ≤ 64
        · have c : ¬ W.l.length ≤ 64 := fun c => hc ⟨a, b, c⟩
          simp [c]
        · simp [b]
      · simp [a]
    rw [hRf]
    unfold Wd.val
    clear hRf KP TWP
    by_cases a : 1 ≤ W.nodes
    · have d1 : decide (W.nodes < 1) = false := decide_eq_false (by omega)
      by_cases b : W.nodes ≤ 64
      · have d2 : decide (64 < W.nodes) = false := decide_eq_false (by omega)
        have c : 64 < W.l.length := by
          rcases Nat.lt_or_ge 64 W.l.length with h | h
          · exact h
          · exact absurd ⟨a, b, h⟩ hc
        have d3 : decide (64 < W.l.length) = true := decide_eq_true c
        clear hc
        go_enter Tryz.func7, Tryz.ntmps7
        go_wp2
        go_ret
        exact ⟨rfl, hw2⟩
      · have d2 : decide (64 < W.nodes) = true := decide_eq_true (by omega)
        clear hc
        go_enter Tryz.func7, Tryz.ntmps7
        go_wp2
        go_ret
        exact ⟨rfl, hw2⟩
    · have d1 : decide (W.nodes < 1) = true := decide_eq_true (by omega)
      clear hc
      go_enter Tryz.func7, Tryz.ntmps7
      go_wp2
      go_ret
      exact ⟨rfl, hw2⟩
end
section
open Go.RowKit Go.Shelf

def Vv.sort : Vv → Int
  | .i _ => 1
  | .s _ => 2
  | .d _ => 3
  | .b _ => 4
def Vv.n : Vv → Int
  | .i n => n
  | .d n => n
  | _ => 0
def Vv.bb : Vv → Bool
  | .b x => x
  | _ => false
def Vv.l : Vv → List Bool
  | .s l => l
  | _ => []
/-- a value is answered, its set in memory of its own -/
def RetV (v : Vv) (w : World) (e : Ending) (w' : World) : Prop := ∃ a c, e = .returned (.agg #[.int .i64 v.sort, .int .i64 v.n, .bool v.bb, .slice a v.l.length c]) ∧ Own w' w.heap.size a c v.l ∧ Below w.heap.size w w'
def CallsV (W : Wd) (t : Tm) (s : Int) (P : World → Ending → World → Prop) : Prop := ∀ w : World, WIn w w.heap.size W → TIn w w.heap.size t → Calls Tryz.prog 23 #[W.val, t.val, .int .i64 s] w (P w)
set_option maxRecDepth 100000 in
set_option maxHeartbeats 2000000 in
theorem val1_ok (W : Wd) (t : Tm) (n : Int) (C : CallsN W t (RetI n)) : CallsV W t 1 (RetV (.i n)) := by
  intro w hW ht
  have hb2 : Below w.heap.size w ((((w.alloc (boxP W)).alloc (boxT t)).alloc (.cells #[.int .i64 0, .int .i64 0, .bool false, .slice none 0 0] 36)).alloc (.cells #[.int .i64 1, .int .i64 0, .bool false, .slice none 0 0] 36)) := bal (bal (bal (bal (Below.refl _ _) _) _) _) _
  have F1 : FourV ((((w.alloc (boxP W)).alloc (boxT t)).alloc (.cells #[.int .i64 0, .int .i64 0, .bool false, .slice none 0 0] 36)).alloc (.cells #[.int .i64 1, .int .i64 0, .bool false, .slice none 0 0] 36)) (w.heap.size + 1 + 1) (.int .i64 0) (.int .i64 0) (.bool false) (.slice none 0 0) := by simp [FourV, go_sem]
  have F2 : FourV ((((w.alloc (boxP W)).alloc (boxT t)).alloc (.cells #[.int .i64 0, .int .i64 0, .bool false, .slice none 0 0] 36)).alloc (.cells #[.int .i64 1, .int .i64 0, .bool false, .slice none 0 0] 36)) (w.heap.size + 1 + 1 + 1) (.int .i64 1) (.int .i64 0) (.bool false) (.slice none 0 0) := by simp [FourV, go_sem]
  have CC := mkHid (C _ (hW.later hb2) (ht.later hb2))
  have hX : w.heap.size + 1 + 1 + 1 < ((((w.alloc (boxP W)).alloc (boxT t)).alloc (.cells #[.int .i64 0, .int .i64 0, .bool false, .slice none 0 0] 36)).alloc (.cells #[.int .i64 1, .int .i64 0, .bool false, .slice none 0 0] 36)).heap.size := by simp
  unfold boxP boxT at *
  unfold Wd.val Tm.val at *
  clear hW ht C
  go_enter Tryz.func23, Tryz.ntmps23
  go_wp2_with fail
  ((with_reducible refine CC.out.mono ?_)); rintro e w3 ⟨rfl, hb3⟩
  have BW := bon hb2 hb3
  obtain ⟨x0, x1, x2, x3, x4, x5, x6, x7⟩ := F1.later hb3
  obtain ⟨y0, y1, y2, y3, y4, y5, y6, y7⟩ := F2.later hb3
  go_wp2
  refine bodyPost_ret (v := .agg #[.int .i64 1, .int .i64 n, .bool false, .slice none 0 0]) (by simp [results, Tryz.results23, go_sem, x0, x1, x2, x3]) rfl ⟨none, 0, rfl, ?_, ?_⟩
  · exact World.ownsRow_nil _ _ _ _
  · (repeat (first | exact BW | (refine bset ?_ (by simp <;> omega) _)))
set_option maxRecDepth 100000 in
set_option maxHeartbeats 2000000 in
theorem val1_e (W : Wd) (t : Tm) (k : Int) (C : CallsN W t (PanK k)) : CallsV W t 1 (PanK k) := by
  intro w hW ht
  have hb2 : Below w.heap.size w ((((w.alloc (boxP W)).alloc (boxT t)).alloc (.cells #[.int .i64 0, .int .i64 0, .bool false, .slice none 0 0] 36)).alloc (.cells #[.int .i64 1, .int .i64 0, .bool false, .slice none 0 0] 36)) := bal (bal (bal (bal (Below.refl _ _) _) _) _) _
  have F1 : FourV ((((w.alloc (boxP W)).alloc (boxT t)).alloc (.cells #[.int .i64 0, .int .i64 0, .bool false, .slice none 0 0] 36)).alloc (.cells #[.int .i64 1, .int .i64 0, .bool false, .slice none 0 0] 36)) (w.heap.size + 1 + 1) (.int .i64 0) (.int .i64 0) (.bool false) (.slice none 0 0) := by simp [FourV, go_sem]
  have F2 : FourV ((((w.alloc (boxP W)).alloc (boxT t)).alloc (.cells #[.int .i64 0, .int .i64 0, .bool false, .slice none 0 0] 36)).alloc (.cells #[.int .i64 1, .int .i64 0, .bool false, .slice none 0 0] 36)) (w.heap.size + 1 + 1 + 1) (.int .i64 1) (.int .i64 0) (.bool false) (.slice none 0 0) := by simp [FourV, go_sem]
  have CC := mkHid (C _ (hW.later hb2) (ht.later hb2))
  have hX : w.heap.size + 1 + 1 + 1 < ((((w.alloc (boxP W)).alloc (boxT t)).alloc (.cells #[.int .i64 0, .int .i64 0, .bool false, .slice none 0 0] 36)).alloc (.cells #[.int .i64 1, .int .i64 0, .bool false, .slice none 0 0] 36)).heap.size := by simp
  unfold boxP boxT at *
  unfold Wd.val Tm.val at *
  clear hW ht C
  go_enter Tryz.func23, Tryz.ntmps23
  go_wp2_with fail
  ((with_reducible refine CC.out.mono ?_)); rintro e w3 ⟨rfl, hb3⟩
  exact ⟨rfl, rfl, bon hb2 hb3⟩
set_option maxRecDepth 100000 in
set_option maxHeartbeats 2000000 in
theorem val2_ok (W : Wd) (t : Tm) (l : List Bool) (C : CallsS W t (RetS l)) : CallsV W t 2 (RetV (.s l)) := by
  intro w hW ht
  have hb2 : Below w.heap.size w ((((w.alloc (boxP W)).alloc (boxT t)).alloc (.cells #[.int .i64 0, .int .i64 0, .bool false, .slice none 0 0] 36)).alloc (.cells #[.int .i64 2, .int .i64 0, .bool false, .slice none 0 0] 36)) := bal (bal (bal (bal (Below.refl _ _) _) _) _) _
  have F1 : FourV ((((w.alloc (boxP W)).alloc (boxT t)).alloc (.cells #[.int .i64 0, .int .i64 0, .bool false, .slice none 0 0] 36)).alloc (.cells #[.int .i64 2, .int .i64 0, .bool false, .slice none 0 0] 36)) (w.heap.size + 1 + 1) (.int .i64 0) (.int .i64 0) (.bool false) (.slice none 0 0) := by simp [FourV, go_sem]
  have F2 : FourV ((((w.alloc (boxP W)).alloc (boxT t)).alloc (.cells #[.int .i64 0, .int .i64 0, .bool false, .slice none 0 0] 36)).alloc (.cells #[.int .i64 2, .int .i64 0, .bool false, .slice none 0 0] 36)) (w.heap.size + 1 + 1 + 1) (.int .i64 2) (.int .i64 0) (.bool false) (.slice none 0 0) := by simp [FourV, go_sem]
  have CC := mkHid (C _ (hW.later hb2) (ht.later hb2))
  have hX : w.heap.size + 1 + 1 + 1 < ((((w.alloc (boxP W)).alloc (boxT t)).alloc (.cells #[.int .i64 0, .int .i64 0, .bool false, .slice none 0 0] 36)).alloc (.cells #[.int .i64 2, .int .i64 0, .bool false, .slice none 0 0] 36)).heap.size := by simp
  unfold boxP boxT at *
  unfold Wd.val Tm.val at *
  clear hW ht C
  go_enter Tryz.func23, Tryz.ntmps23
  go_wp2_with fail
  ((with_reducible refine CC.out.mono ?_)); rintro e w3 ⟨g, c, rfl, ho, hb3⟩
  have BW := bon hb2 hb3
  obtain ⟨x0, x1, x2, x3, x4, x5, x6, x7⟩ := F1.later hb3
  obtain ⟨y0, y1, y2, y3, y4, y5, y6, y7⟩ := F2.later hb3
  go_wp2
  refine bodyPost_ret (v := .agg #[.int .i64 2, .int .i64 0, .bool false, .slice (some ⟨g, 0, none⟩) l.length c]) (by simp [results, Tryz.results23, go_sem, x0, x1, x2, x3]) rfl ⟨some ⟨g, 0, none⟩, c, rfl, ?_, ?_⟩
  · refine own_base (base := w.heap.size + 1 + 1 + 1 + 1) ?_ (by omega)
    have ho := own_base (base' := w.heap.size + 1 + 1 + 1 + 1) ho (by simp)
    refine own_put (own_put (own_put (own_put (own_put ho ?_ _) ?_ _) ?_ _) ?_ _) ?_ _ <;> (simp <;> omega)
  · (repeat (first | exact BW | (refine bset ?_ (by simp <;> omega) _)))
set_option maxRecDepth 100000 in
set_option maxHeartbeats 2000000 in
theorem val2_e (W : Wd) (t : Tm) (k : Int) (C : CallsS W t (PanK k)) : CallsV W t 2 (PanK k) := by
  intro w hW ht
  have hb2 : Below w.heap.size w ((((w.alloc (boxP W)).alloc (boxT t)).alloc (.cells #[.int .i64 0, .int .i64 0, .bool false, .slice none 0 0] 36)).alloc (.cells #[.int .i64 2, .int .i64 0, .bool false, .slice none 0 0] 36)) := bal (bal (bal (bal (Below.refl _ _) _) _) _) _
  have F1 : FourV ((((w.alloc (boxP W)).alloc (boxT t)).alloc (.cells #[.int .i64 0, .int .i64 0, .bool false, .slice none 0 0] 36)).alloc (.cells #[.int .i64 2, .int .i64 0, .bool false, .slice none 0 0] 36)) (w.heap.size + 1 + 1) (.int .i64 0) (.int .i64 0) (.bool false) (.slice none 0 0) := by simp [FourV, go_sem]
  have F2 : FourV ((((w.alloc (boxP W)).alloc (boxT t)).alloc (.cells #[.int .i64 0, .int .i64 0, .bool false, .slice none 0 0] 36)).alloc (.cells #[.int .i64 2, .int .i64 0, .bool false, .slice none 0 0] 36)) (w.heap.size + 1 + 1 + 1) (.int .i64 2) (.int .i64 0) (.bool false) (.slice none 0 0) := by simp [FourV, go_sem]
  have CC := mkHid (C _ (hW.later hb2) (ht.later hb2))
  have hX : w.heap.size + 1 + 1 + 1 < ((((w.alloc (boxP W)).alloc (boxT t)).alloc (.cells #[.int .i64 0, .int .i64 0, .bool false, .slice none 0 0] 36)).alloc (.cells #[.int .i64 2, .int .i64 0, .bool false, .slice none 0 0] 36)).heap.size := by simp
  unfold boxP boxT at *
  unfold Wd.val Tm.val at *
  clear hW ht C
  go_enter Tryz.func23, Tryz.ntmps23
  go_wp2_with fail
  ((with_reducible refine CC.out.mono ?_)); rintro e w3 ⟨rfl, hb3⟩
  exact ⟨rfl, rfl, bon hb2 hb3⟩
set_option maxRecDepth 100000 in
set_option maxHeartbeats 2000000 in
theorem val3_ok (W : Wd) (t : Tm) (n : Int) (C : CallsD W t (RetI n)) : CallsV W t 3 (RetV (.d n)) := by
  intro w hW ht
  have hb2 : Below w.heap.size w ((((w.alloc (boxP W)).alloc (boxT t)).alloc (.cells #[.int .i64 0, .int .i64 0, .bool false, .slice none 0 0] 36)).alloc (.cells #[.int .i64 3, .int .i64 0, .bool false, .slice none 0 0] 36)) := bal (bal (bal (bal (Below.refl _ _) _) _) _) _
  have F1 : FourV ((((w.alloc (boxP W)).alloc (boxT t)).alloc (.cells #[.int .i64 0, .int .i64 0, .bool false, .slice none 0 0] 36)).alloc (.cells #[.int .i64 3, .int .i64 0, .bool false, .slice none 0 0] 36)) (w.heap.size + 1 + 1) (.int .i64 0) (.int .i64 0) (.bool false) (.slice none 0 0) := by simp [FourV, go_sem]
  have F2 : FourV ((((w.alloc (boxP W)).alloc (boxT t)).alloc (.cells #[.int .i64 0, .int .i64 0, .bool false, .slice none 0 0] 36)).alloc (.cells #[.int .i64 3, .int .i64 0, .bool false, .slice none 0 0] 36)) (w.heap.size + 1 + 1 + 1) (.int .i64 3) (.int .i64 0) (.bool false) (.slice none 0 0) := by simp [FourV, go_sem]
  have CC := mkHid (C _ (hW.later hb2) (ht.later hb2))
  have hX : w.heap.size + 1 + 1 + 1 < ((((w.alloc (boxP W)).alloc (boxT t)).alloc (.cells #[.int .i64 0, .int .i64 0, .bool false, .slice none 0 0] 36)).alloc (.cells #[.int .i64 3, .int .i64 0, .bool false, .slice none 0 0] 36)).heap.size := by simp
  unfold boxP boxT at *
  unfold Wd.val Tm.val at *
  clear hW ht C
  go_enter Tryz.func23, Tryz.ntmps23
  go_wp2_with fail
  ((with_reducible refine CC.out.mono ?_)); rintro e w3 ⟨rfl, hb3⟩
  have BW := bon hb2 hb3
  obtain ⟨x0, x1, x2, x3, x4, x5, x6, x7⟩ := F1.later hb3
  obtain ⟨y0, y1, y2, y3, y4, y5, y6, y7⟩ := F2.later hb3
  go_wp2
  refine bodyPost_ret (v := .agg #[.int .i64 3, .int .i64 n, .bool false, .slice none 0 0]) (by simp [results, Tryz.results23, go_sem, x0, x1, x2, x3]) rfl ⟨none, 0, rfl, ?_, ?_⟩
  · exact World.ownsRow_nil _ _ _ _
  · (repeat (first | exact BW | (refine bset ?_ (by simp <;> omega) _)))
set_option maxRecDepth 100000 in
set_option maxHeartbeats 2000000 in
theorem val3_e (W : Wd) (t : Tm) (k : Int) (C : CallsD W t (PanK k)) : CallsV W t 3 (PanK k) := by
  intro w hW ht
  have hb2 : Below w.heap.size w ((((w.alloc (boxP W)).alloc (boxT t)).alloc (.cells #[.int .i64 0, .int .i64 0, .bool false, .slice none 0 0] 36)).alloc (.cells #[.int .i64 3, .int .i64 0, .bool false, .slice none 0 0] 36)) := bal (bal (bal (bal (Below.refl _ _) _) _) _) _
  have F1 : FourV ((((w.alloc (boxP W)).alloc (boxT t)).alloc (.cells #[.int .i64 0, .int .i64 0, .bool false, .slice none 0 0] 36)).alloc (.cells #[.int .i64 3, .int .i64 0, .bool false, .slice none 0 0] 36)) (w.heap.size + 1 + 1) (.int .i64 0) (.int .i64 0) (.bool false) (.slice none 0 0) := by simp [FourV, go_sem]
  have F2 : FourV ((((w.alloc (boxP W)).alloc (boxT t)).alloc (.cells #[.int .i64 0, .int .i64 0, .bool false, .slice none 0 0] 36)).alloc (.cells #[.int .i64 3, .int .i64 0, .bool false, .slice none 0 0] 36)) (w.heap.size + 1 + 1 + 1) (.int .i64 3) (.int .i64 0) (.bool false) (.slice none 0 0) := by simp [FourV, go_sem]
  have CC := mkHid (C _ (hW.later hb2) (ht.later hb2))
  have hX : w.heap.size + 1 + 1 + 1 < ((((w.alloc (boxP W)).alloc (boxT t)).alloc (.cells #[.int .i64 0, .int .i64 0, .bool false, .slice none 0 0] 36)).alloc (.cells #[.int .i64 3, .int .i64 0, .bool false, .slice none 0 0] 36)).heap.size := by simp
  unfold boxP boxT at *
  unfold Wd.val Tm.val at *
  clear hW ht C
  go_enter Tryz.func23, Tryz.ntmps23
  go_wp2_with fail
  ((with_reducible refine CC.out.mono ?_)); rintro e w3 ⟨rfl, hb3⟩
  exact ⟨rfl, rfl, bon hb2 hb3⟩
set_option maxRecDepth 100000 in
set_option maxHeartbeats 2000000 in
theorem val4_ok (W : Wd) (t : Tm) (x : Bool) (C : CallsB W t (RetB x)) : CallsV W t 4 (RetV (.b x)) := by
  intro w hW ht
  have hb2 : Below w.heap.size w ((((w.alloc (boxP W)).alloc (boxT t)).alloc (.cells #[.int .i64 0, .int .i64 0, .bool false, .slice none 0 0] 36)).alloc (.cells #[.int .i64 4, .int .i64 0, .bool false, .slice none 0 0] 36)) := bal (bal (bal (bal (Below.refl _ _) _) _) _) _
  have F1 : FourV ((((w.alloc (boxP W)).alloc (boxT t)).alloc (.cells #[.int .i64 0, .int .i64 0, .bool false, .slice none 0 0] 36)).alloc (.cells #[.int .i64 4, .int .i64 0, .bool false, .slice none 0 0] 36)) (w.heap.size + 1 + 1) (.int .i64 0) (.int .i64 0) (.bool false) (.slice none 0 0) := by simp [FourV, go_sem]
  have F2 : FourV ((((w.alloc (boxP W)).alloc (boxT t)).alloc (.cells #[.int .i64 0, .int .i64 0, .bool false, .slice none 0 0] 36)).alloc (.cells #[.int .i64 4, .int .i64 0, .bool false, .slice none 0 0] 36)) (w.heap.size + 1 + 1 + 1) (.int .i64 4) (.int .i64 0) (.bool false) (.slice none 0 0) := by simp [FourV, go_sem]
  have CC := mkHid (C _ (hW.later hb2) (ht.later hb2))
  have hX : w.heap.size + 1 + 1 + 1 < ((((w.alloc (boxP W)).alloc (boxT t)).alloc (.cells #[.int .i64 0, .int .i64 0, .bool false, .slice none 0 0] 36)).alloc (.cells #[.int .i64 4, .int .i64 0, .bool false, .slice none 0 0] 36)).heap.size := by simp
  unfold boxP boxT at *
  unfold Wd.val Tm.val at *
  clear hW ht C
  go_enter Tryz.func23, Tryz.ntmps23
  go_wp2_with fail
  ((with_reducible refine CC.out.mono ?_)); rintro e w3 ⟨rfl, hb3⟩
  have BW := bon hb2 hb3
  obtain ⟨x0, x1, x2, x3, x4, x5, x6, x7⟩ := F1.later hb3
  obtain ⟨y0, y1, y2, y3, y4, y5, y6, y7⟩ := F2.later hb3
  go_wp2
  refine bodyPost_ret (v := .agg #[.int .i64 4, .int .i64 0, .bool x, .slice none 0 0]) (by simp [results, Tryz.results23, go_sem, x0, x1, x2, x3]) rfl ⟨none, 0, rfl, ?_, ?_⟩
  · exact World.ownsRow_nil _ _ _ _
  · (repeat (first | exact BW | (refine bset ?_ (by simp <;> omega) _)))
set_option maxRecDepth 100000 in
set_option maxHeartbeats 2000000 in
theorem val4_e (W : Wd) (t : Tm) (k : Int) (C : CallsB W t (PanK k)) : CallsV W t 4 (PanK k) := by
  intro w hW ht
  have hb2 : Below w.heap.size w ((((w.alloc (boxP W)).alloc (boxT t)).alloc (.cells #[.int .i64 0, .int .i64 0, .bool false, .slice none 0 0] 36)).alloc (.cells #[.int .i64 4, .int .i64 0, .bool false, .slice none 0 0] 36)) := bal (bal (bal (bal (Below.refl _ _) _) _) _) _
  have F1 : FourV ((((w.alloc (boxP W)).alloc (boxT t)).alloc (.cells #[.int .i64 0, .int .i64 0, .bool false, .slice none 0 0] 36)).alloc (.cells #[.int .i64 4, .int .i64 0, .bool false, .slice none 0 0] 36)) (w.heap.size + 1 + 1) (.int .i64 0) (.int .i64 0) (.bool false) (.slice none 0 0) := by simp [FourV, go_sem]
  have F2 : FourV ((((w.alloc (boxP W)).alloc (boxT t)).alloc (.cells #[.int .i64 0, .int .i64 0, .bool false, .slice none 0 0] 36)).alloc (.cells #[.int .i64 4, .int .i64 0, .bool false, .slice none 0 0] 36)) (w.heap.size + 1 + 1 + 1) (.int .i64 4) (.int .i64 0) (.bool false) (.slice none 0 0) := by simp [FourV, go_sem]
  have CC := mkHid (C _ (hW.later hb2) (ht.later hb2))
  have hX : w.heap.size + 1 + 1 + 1 < ((((w.alloc (boxP W)).alloc (boxT t)).alloc (.cells #[.int .i64 0, .int .i64 0, .bool false, .slice none 0 0] 36)).alloc (.cells #[.int .i64 4, .int .i64 0, .bool false, .slice none 0 0] 36)).heap.size := by simp
  unfold boxP boxT at *
  unfold Wd.val Tm.val at *
  clear hW ht C
  go_enter Tryz.func23, Tryz.ntmps23
  go_wp2_with fail
  ((with_reducible refine CC.out.mono ?_)); rintro e w3 ⟨rfl, hb3⟩
  exact ⟨rfl, rfl, bon hb2 hb3⟩
end
end Go.Proofs.YtdfebacjbapahaaGreatDoor
