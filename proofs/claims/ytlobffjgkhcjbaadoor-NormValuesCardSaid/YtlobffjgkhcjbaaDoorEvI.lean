/-
  What 'number', 'set', 'node' and 'truth' of package eval answer of any right term, in any right world.
-/
import Derived.Test.YtlobffjgkhcjbaaDoorEvF
import Derived.Test.YtlobffjgkhcjbaaDoorEvGa
import Derived.Test.YtlobffjgkhcjbaaDoorEvGb
import Derived.Test.YtlobffjgkhcjbaaDoorEvGc
import Derived.Test.YtlobffjgkhcjbaaDoorEvGd
import Derived.Test.YtlobffjgkhcjbaaDoorEvH
namespace Go.Proofs.YtlobffjgkhcjbaaDoor
open Go.RowKit

def NumOf (W : Wd) (k : Tm) : Prop := (∃ x, ev W k = .ok (.i x) ∧ CallsN W k (RetI x)) ∨ ∃ e, ev W k = .error e ∧ CallsN W k (PanK e)
def SetOf (W : Wd) (k : Tm) : Prop := (∃ x, ev W k = .ok (.s x) ∧ CallsS W k (RetS x)) ∨ ∃ e, ev W k = .error e ∧ CallsS W k (PanK e)
def NodOf (W : Wd) (k : Tm) : Prop := (∃ x, ev W k = .ok (.d x) ∧ CallsD W k (RetI x)) ∨ ∃ e, ev W k = .error e ∧ CallsD W k (PanK e)
def EvOf (W : Wd) (s : Nat) (k : Tm) : Prop :=
  match s with
  | 1 => NumOf W k
  | 2 => SetOf W k
  | 3 => NodOf W k
  | _ => TruthOf W k
theorem size_kid {t k : Tm} (h : k ∈ t.ks) : k.size ≤ t.size := by
  have : ∀ ks : List Tm, k ∈ ks → k.size ≤ Tm.sizes ks := by
    intro ks
    induction ks with
    | nil => intro h; cases h
    | cons a l ih =>
      intro h
      unfold Tm.sizes
      rcases List.mem_cons.1 h with rfl | h
      · omega
      · have := ih h; omega
  have := this t.ks h
  rw [Tm.size_eq t]; omega
theorem size_len (t : Tm) : t.ks.length ≤ t.size := by
  have : ∀ ks : List Tm, ks.length ≤ Tm.sizes ks := by
    intro ks
    induction ks with
    | nil => simp
    | cons a l ih =>
      unfold Tm.sizes
      have := Tm.size_eq a
      simp only [List.length_cons]; omega
  have := this t.ks
  rw [Tm.size_eq]; omega
theorem fitE_yes {n : Int} (h : fitB n = true) : fitE n = .ok (.i n) := by unfold fitE; rw [if_pos h]
theorem fitE_no {n : Int} (h : fitB n = false) : fitE n = .error 5 := by unfold fitE; rw [h]; rfl
theorem lookE_yes {o : Option Vl} {v : Vl} {f : Vl → Vv} (h : o = some v) : lookE o f = .ok (f v) := by rw [h]; rfl
theorem lookE_no {o : Option Vl} {f : Vl → Vv} (h : o = none) : lookE o f = .error 4 := by rw [h]; rfl

theorem ev_of {W : Wd} (hR : Rt W) {w : World} {B : Nat} : ∀ t : Tm, TIn w B t → t.srt ≠ 0 → t.size ≤ 2000 → EvOf W t.srt t := by
  intro t
  induction t using Tm.ind with
  | h t ih =>
    intro hin hs hz
    obtain ⟨j, hj, j1, j2, -⟩ := srt_form hs
    have ho : t.op.toNat = j := by omega
    have h1 := hR.lo
    have h2 := hR.hi
    have hzl := size_len t
    have hk : ∀ k ∈ t.ks, k.srt ≠ 0 → EvOf W k.srt k ∧ Res W k.srt (ev W k) := fun k hk h => by
      have hsz := size_kid hk
      obtain ⟨i, hi, rfl⟩ := List.mem_iff_getElem.1 hk
      exact ⟨ih _ hk (hin.kid i hi).1 h (by omega), ev_ty hR _ (hin.kid i hi).1 h⟩
    rcases (show j = 1 ∨ j = 2 ∨ j = 3 ∨ j = 4 ∨ j = 5 ∨ j = 6 ∨ j = 7 ∨ j = 8 ∨ j = 9 ∨ j = 10 ∨ j = 11 ∨ j = 12 ∨ j = 13 ∨ j = 14 ∨ j = 15 ∨ j = 16 ∨ j = 17 ∨ j = 18 ∨ j = 19 ∨ j = 20 ∨ j = 21 ∨ j = 22 ∨ j = 23 ∨ j = 24 ∨ j = 25 ∨ j = 26 ∨ j = 27 ∨ j = 28 by omega) with rfl | rfl | rfl | rfl | rfl | rfl | rfl | rfl | rfl | rfl | rfl | rfl | rfl | rfl | rfl | rfl | rfl | rfl | rfl | rfl | rfl | rfl | rfl | rfl | rfl | rfl | rfl | rfl
    · obtain ⟨hks, e⟩ := form0 1 hs hj rfl rfl
      rw [e]
      exact .inl ⟨_, by rw [ev0 hks, ho]; rfl, num1 W t (by rw [hj]; rfl) hks⟩
    · obtain ⟨hks, e⟩ := form0 2 hs hj rfl rfl
      rw [e]
      cases hl : look W t.nm 1 with
      | none => exact .inr ⟨4, by rw [ev0 hks, ho]; exact lookE_no hl, num2_e W t (by rw [hj]; rfl) hks hl⟩
      | some v =>
        have hv := (look_i hR hl).1
        exact .inl ⟨_, by rw [ev0 hks, ho]; exact lookE_yes hl, num2_ok W t (by rw [hj]; rfl) hks hl (by omega)⟩
    · obtain ⟨k0, hks, s0, e⟩ := form1 3 hs hj rfl rfl
      rw [e]
      have s0' : k0.srt = 2 := s0
      obtain ⟨q0, r0⟩ := hk k0 (by simp [hks]) (by rw [s0']; decide)
      rw [s0'] at q0 r0
      rcases q0 with ⟨x0, h0, C0⟩ | ⟨e0, h0, C0⟩
      · rw [h0] at r0
        have f0 : Ty W 2 (.s x0) := r0
        have f1 : x0.length = W.nodes.toNat := f0
        exact .inl ⟨_, by rw [ev1 hks h0, ho]; rfl, num3_ok W t k0 (by rw [hj]; rfl) hks C0 (by omega)⟩
      · exact .inr ⟨e0, ev1e hks h0, num3_e W t k0 (by rw [hj]; rfl) hks C0⟩
    · obtain ⟨k0, k1, hks, s0, s1, e⟩ := form2 4 hs hj rfl rfl
      rw [e]
      have s0' : k0.srt = 1 := s0
      have s1' : k1.srt = 1 := s1
      obtain ⟨q0, r0⟩ := hk k0 (by simp [hks]) (by rw [s0']; decide)
      obtain ⟨q1, r1⟩ := hk k1 (by simp [hks]) (by rw [s1']; decide)
      rw [s0'] at q0 r0
      rw [s1'] at q1 r1
      rcases q0 with ⟨x0, h0, C0⟩ | ⟨e0, h0, C0⟩
      · rcases q1 with ⟨x1, h1', C1⟩ | ⟨e1, h1', C1⟩
        · rw [h0] at r0
          rw [h1'] at r1
          have f0 : Ty W 1 (.i x0) := r0
          have f1 : Ty W 1 (.i x1) := r1
          cases hf : fitB (x0 + x1)
          · exact .inr ⟨5, by rw [ev2 hks h0 h1', ho]; exact fitE_no hf, num4_big W t k0 k1 (by rw [hj]; rfl) hks C0 C1 f0 f1 hf⟩
          · exact .inl ⟨_, by rw [ev2 hks h0 h1', ho]; exact fitE_yes hf, num4_ok W t k0 k1 (by rw [hj]; rfl) hks C0 C1 f0 f1 hf⟩
        · exact .inr ⟨e1, ev2e1 hks h0 h1', num4_e1 W t k0 k1 (by rw [hj]; rfl) hks C0 C1⟩
      · rcases q1 with ⟨x1, h1', C1⟩ | ⟨e1, h1', C1⟩
        · exact .inr ⟨e0, ev2e0 hks h0, num4_e0 W t k0 k1 (by rw [hj]; rfl) hks C0 C1⟩
        · exact .inr ⟨e0, ev2e0 hks h0, num4_e0 W t k0 k1 (by rw [hj]; rfl) hks C0 C1⟩
    · obtain ⟨k0, k1, hks, s0, s1, e⟩ := form2 5 hs hj rfl rfl
      rw [e]
      have s0' : k0.srt = 1 := s0
      have s1' : k1.srt = 1 := s1
      obtain ⟨q0, r0⟩ := hk k0 (by simp [hks]) (by rw [s0']; decide)
      obtain ⟨q1, r1⟩ := hk k1 (by simp [hks]) (by rw [s1']; decide)
      rw [s0'] at q0 r0
      rw [s1'] at q1 r1
      rcases q0 with ⟨x0, h0, C0⟩ | ⟨e0, h0, C0⟩
      · rcases q1 with ⟨x1, h1', C1⟩ | ⟨e1, h1', C1⟩
        · rw [h0] at r0
          rw [h1'] at r1
          have f0 : Ty W 1 (.i x0) := r0
          have f1 : Ty W 1 (.i x1) := r1
          cases hf : fitB (x0 - x1)
          · exact .inr ⟨5, by rw [ev2 hks h0 h1', ho]; exact fitE_no hf, num5_big W t k0 k1 (by rw [hj]; rfl) hks C0 C1 f0 f1 hf⟩
          · exact .inl ⟨_, by rw [ev2 hks h0 h1', ho]; exact fitE_yes hf, num5_ok W t k0 k1 (by rw [hj]; rfl) hks C0 C1 f0 f1 hf⟩
        · exact .inr ⟨e1, ev2e1 hks h0 h1', num5_e1 W t k0 k1 (by rw [hj]; rfl) hks C0 C1⟩
      · rcases q1 with ⟨x1, h1', C1⟩ | ⟨e1, h1', C1⟩
        · exact .inr ⟨e0, ev2e0 hks h0, num5_e0 W t k0 k1 (by rw [hj]; rfl) hks C0 C1⟩
        · exact .inr ⟨e0, ev2e0 hks h0, num5_e0 W t k0 k1 (by rw [hj]; rfl) hks C0 C1⟩
    · obtain ⟨k0, hks, s0, e⟩ := form1 6 hs hj rfl rfl
      rw [e]
      have s0' : k0.srt = 1 := s0
      obtain ⟨q0, r0⟩ := hk k0 (by simp [hks]) (by rw [s0']; decide)
      rw [s0'] at q0 r0
      rcases q0 with ⟨x0, h0, C0⟩ | ⟨e0, h0, C0⟩
      · rw [h0] at r0
        have f0 : Ty W 1 (.i x0) := r0
        cases hf : fitB (t.n * x0)
        · exact .inr ⟨5, by rw [ev1 hks h0, ho]; exact fitE_no hf, num6_big W t k0 (by rw [hj]; rfl) hks C0 f0 hf⟩
        · exact .inl ⟨_, by rw [ev1 hks h0, ho]; exact fitE_yes hf, num6_ok W t k0 (by rw [hj]; rfl) hks C0 f0 hf⟩
      · exact .inr ⟨e0, ev1e hks h0, num6_e W t k0 (by rw [hj]; rfl) hks C0⟩
    · obtain ⟨hks, e⟩ := form0 7 hs hj rfl rfl
      rw [e]
      cases hl : look W t.nm 2 with
      | none => exact .inr ⟨4, by rw [ev0 hks, ho]; exact lookE_no hl, set7_e W t (by rw [hj]; rfl) hks hl⟩
      | some v =>
        have hv := look_s hR hl
        exact .inl ⟨_, by rw [ev0 hks, ho]; exact lookE_yes hl, set7_ok W t (by rw [hj]; rfl) hks hl (by omega) (by omega)⟩
    · obtain ⟨hks, e⟩ := form0 8 hs hj rfl rfl
      rw [e]
      exact .inl ⟨_, by rw [ev0 hks, ho]; rfl, set8 W t (by rw [hj]; rfl) hks h1 h2⟩
    · obtain ⟨hks, e⟩ := form0 9 hs hj rfl rfl
      rw [e]
      exact .inl ⟨_, by rw [ev0 hks, ho]; rfl, set9 W t (by rw [hj]; rfl) hks h1 h2⟩
    · obtain ⟨k0, hks, s0, e⟩ := form1 10 hs hj rfl rfl
      rw [e]
      have s0' : k0.srt = 3 := s0
      obtain ⟨q0, r0⟩ := hk k0 (by simp [hks]) (by rw [s0']; decide)
      rw [s0'] at q0 r0
      rcases q0 with ⟨x0, h0, C0⟩ | ⟨e0, h0, C0⟩
      · rw [h0] at r0
        have f0 : Ty W 3 (.d x0) := r0
        exact .inl ⟨_, by rw [ev1 hks h0, ho]; rfl, set10_ok W t k0 (by rw [hj]; rfl) hks h1 h2 C0 f0.1 f0.2⟩
      · exact .inr ⟨e0, ev1e hks h0, set10_e W t k0 (by rw [hj]; rfl) hks h1 h2 C0⟩
    · obtain ⟨k0, k1, hks, s0, s1, e⟩ := form2 11 hs hj rfl rfl
      rw [e]
      have s0' : k0.srt = 2 := s0
      have s1' : k1.srt = 2 := s1
      obtain ⟨q0, r0⟩ := hk k0 (by simp [hks]) (by rw [s0']; decide)
      obtain ⟨q1, r1⟩ := hk k1 (by simp [hks]) (by rw [s1']; decide)
      rw [s0'] at q0 r0
      rw [s1'] at q1 r1
      rcases q0 with ⟨x0, h0, C0⟩ | ⟨e0, h0, C0⟩
      · rcases q1 with ⟨x1, h1', C1⟩ | ⟨e1, h1', C1⟩
        · rw [h0] at r0
          rw [h1'] at r1
          have f0 : Ty W 2 (.s x0) := r0
          have f1 : Ty W 2 (.s x1) := r1
          have g0 : x0.length = W.nodes.toNat := f0
          have g1 : x1.length = W.nodes.toNat := f1
          exact .inl ⟨_, by rw [ev2 hks h0 h1', ho]; rfl, set11_ok W t k0 k1 (by rw [hj]; rfl) hks C0 C1 (by omega) (by omega) (by omega)⟩
        · exact .inr ⟨e1, ev2e1 hks h0 h1', set11_e1 W t k0 k1 (by rw [hj]; rfl) hks C0 C1⟩
      · rcases q1 with ⟨x1, h1', C1⟩ | ⟨e1, h1', C1⟩
        · exact .inr ⟨e0, ev2e0 hks h0, set11_e0 W t k0 k1 (by rw [hj]; rfl) hks C0 C1⟩
        · exact .inr ⟨e0, ev2e0 hks h0, set11_e0 W t k0 k1 (by rw [hj]; rfl) hks C0 C1⟩
    · obtain ⟨k0, k1, hks, s0, s1, e⟩ := form2 12 hs hj rfl rfl
      rw [e]
      have s0' : k0.srt = 2 := s0
      have s1' : k1.srt = 2 := s1
      obtain ⟨q0, r0⟩ := hk k0 (by simp [hks]) (by rw [s0']; decide)
      obtain ⟨q1, r1⟩ := hk k1 (by simp [hks]) (by rw [s1']; decide)
      rw [s0'] at q0 r0
      rw [s1'] at q1 r1
      rcases q0 with ⟨x0, h0, C0⟩ | ⟨e0, h0, C0⟩
      · rcases q1 with ⟨x1, h1', C1⟩ | ⟨e1, h1', C1⟩
        · rw [h0] at r0
          rw [h1'] at r1
          have f0 : Ty W 2 (.s x0) := r0
          have f1 : Ty W 2 (.s x1) := r1
          have g0 : x0.length = W.nodes.toNat := f0
          have g1 : x1.length = W.nodes.toNat := f1
          exact .inl ⟨_, by rw [ev2 hks h0 h1', ho]; rfl, set12_ok W t k0 k1 (by rw [hj]; rfl) hks C0 C1 (by omega) (by omega) (by omega)⟩
        · exact .inr ⟨e1, ev2e1 hks h0 h1', set12_e1 W t k0 k1 (by rw [hj]; rfl) hks C0 C1⟩
      · rcases q1 with ⟨x1, h1', C1⟩ | ⟨e1, h1', C1⟩
        · exact .inr ⟨e0, ev2e0 hks h0, set12_e0 W t k0 k1 (by rw [hj]; rfl) hks C0 C1⟩
        · exact .inr ⟨e0, ev2e0 hks h0, set12_e0 W t k0 k1 (by rw [hj]; rfl) hks C0 C1⟩
    · obtain ⟨k0, k1, hks, s0, s1, e⟩ := form2 13 hs hj rfl rfl
      rw [e]
      have s0' : k0.srt = 2 := s0
      have s1' : k1.srt = 2 := s1
      obtain ⟨q0, r0⟩ := hk k0 (by simp [hks]) (by rw [s0']; decide)
      obtain ⟨q1, r1⟩ := hk k1 (by simp [hks]) (by rw [s1']; decide)
      rw [s0'] at q0 r0
      rw [s1'] at q1 r1
      rcases q0 with ⟨x0, h0, C0⟩ | ⟨e0, h0, C0⟩
      · rcases q1 with ⟨x1, h1', C1⟩ | ⟨e1, h1', C1⟩
        · rw [h0] at r0
          rw [h1'] at r1
          have f0 : Ty W 2 (.s x0) := r0
          have f1 : Ty W 2 (.s x1) := r1
          have g0 : x0.length = W.nodes.toNat := f0
          have g1 : x1.length = W.nodes.toNat := f1
          exact .inl ⟨_, by rw [ev2 hks h0 h1', ho]; rfl, set13_ok W t k0 k1 (by rw [hj]; rfl) hks C0 C1 (by omega) (by omega) (by omega)⟩
        · exact .inr ⟨e1, ev2e1 hks h0 h1', set13_e1 W t k0 k1 (by rw [hj]; rfl) hks C0 C1⟩
      · rcases q1 with ⟨x1, h1', C1⟩ | ⟨e1, h1', C1⟩
        · exact .inr ⟨e0, ev2e0 hks h0, set13_e0 W t k0 k1 (by rw [hj]; rfl) hks C0 C1⟩
        · exact .inr ⟨e0, ev2e0 hks h0, set13_e0 W t k0 k1 (by rw [hj]; rfl) hks C0 C1⟩
    · obtain ⟨hks, e⟩ := form0 14 hs hj rfl rfl
      rw [e]
      cases hl : look W t.nm 3 with
      | none => exact .inr ⟨4, by rw [ev0 hks, ho]; exact lookE_no hl, nod_e W t (by rw [hj]; rfl) hks hl⟩
      | some v =>
        have hv := (look_d hR hl).1
        exact .inl ⟨_, by rw [ev0 hks, ho]; exact lookE_yes hl, nod_ok W t (by rw [hj]; rfl) hks hl (by omega)⟩
    · obtain ⟨hks, e⟩ := form0 15 hs hj rfl rfl
      rw [e]
      cases hl : look W t.nm 4 with
      | none => exact .inr ⟨4, by rw [ev0 hks, ho]; exact lookE_no hl, tru15_e W t (by rw [hj]; rfl) hks hl⟩
      | some v =>
        have hv := look_b hR hl
        exact .inl ⟨_, by rw [ev0 hks, ho]; exact lookE_yes hl, tru15_ok W t (by rw [hj]; rfl) hks hl (by omega)⟩
    · obtain ⟨hks, e⟩ := form0 16 hs hj rfl rfl
      rw [e]
      exact .inl ⟨_, by rw [ev0 hks, ho]; rfl, tru16 W t (by rw [hj]; rfl) hks⟩
    · obtain ⟨hks, e⟩ := form0 17 hs hj rfl rfl
      rw [e]
      exact .inl ⟨_, by rw [ev0 hks, ho]; rfl, tru17 W t (by rw [hj]; rfl) hks⟩
    · obtain ⟨k0, hks, s0, e⟩ := form1 18 hs hj rfl rfl
      rw [e]
      have s0' : k0.srt = 4 := s0
      obtain ⟨q0, r0⟩ := hk k0 (by simp [hks]) (by rw [s0']; decide)
      rw [s0'] at q0 r0
      rcases q0 with ⟨x0, h0, C0⟩ | ⟨e0, h0, C0⟩
      · rw [h0] at r0
        exact .inl ⟨_, by rw [ev1 hks h0, ho]; rfl, tru18_ok W t k0 (by rw [hj]; rfl) hks C0⟩
      · exact .inr ⟨e0, ev1e hks h0, tru18_e W t k0 (by rw [hj]; rfl) hks C0⟩
    · obtain ⟨hks, e⟩ := formM 19 hs hj rfl
      rw [e]
      have ihk : ∀ k ∈ t.ks, TruthOf W k := fun k hm => by
        have e4 : k.srt = 4 := hks k hm
        have := (hk k hm (by rw [e4]; decide)).1
        rw [e4] at this; exact this
      rcases evs_bits (W := W) (ks := t.ks) (fun k hm => by have e4 : k.srt = 4 := hks k hm; have := (hk k hm (by rw [e4]; decide)).2; rw [e4] at this; exact this) with ⟨x, hx, h5⟩ | ⟨l, hl, -⟩
      · exact .inr ⟨x, evMe hx, tru19_e W t (by rw [hj]; rfl) (by omega) ihk hx⟩
      · exact .inl ⟨_, by rw [evM hl, ho]; show Except.ok (Vv.b _) = _; rw [bits_all], tru19_ok W t (by rw [hj]; rfl) (by omega) ihk hl⟩
    · obtain ⟨hks, e⟩ := formM 20 hs hj rfl
      rw [e]
      have ihk : ∀ k ∈ t.ks, TruthOf W k := fun k hm => by
        have e4 : k.srt = 4 := hks k hm
        have := (hk k hm (by rw [e4]; decide)).1
        rw [e4] at this; exact this
      rcases evs_bits (W := W) (ks := t.ks) (fun k hm => by have e4 : k.srt = 4 := hks k hm; have := (hk k hm (by rw [e4]; decide)).2; rw [e4] at this; exact this) with ⟨x, hx, h5⟩ | ⟨l, hl, -⟩
      · exact .inr ⟨x, evMe hx, tru20_e W t (by rw [hj]; rfl) (by omega) ihk hx⟩
      · exact .inl ⟨_, by rw [evM hl, ho]; show Except.ok (Vv.b _) = _; rw [bits_any], tru20_ok W t (by rw [hj]; rfl) (by omega) ihk hl⟩
    · obtain ⟨k0, k1, hks, s0, s1, e⟩ := form2 21 hs hj rfl rfl
      rw [e]
      have s0' : k0.srt = 4 := s0
      have s1' : k1.srt = 4 := s1
      obtain ⟨q0, r0⟩ := hk k0 (by simp [hks]) (by rw [s0']; decide)
      obtain ⟨q1, r1⟩ := hk k1 (by simp [hks]) (by rw [s1']; decide)
      rw [s0'] at q0 r0
      rw [s1'] at q1 r1
      rcases q0 with ⟨x0, h0, C0⟩ | ⟨e0, h0, C0⟩
      · rcases q1 with ⟨x1, h1', C1⟩ | ⟨e1, h1', C1⟩
        · rw [h0] at r0
          rw [h1'] at r1
          exact .inl ⟨_, by rw [ev2 hks h0 h1', ho]; rfl, tru21_ok W t k0 k1 (by rw [hj]; rfl) hks C0 C1⟩
        · exact .inr ⟨e1, ev2e1 hks h0 h1', tru21_e1 W t k0 k1 (by rw [hj]; rfl) hks C0 C1⟩
      · rcases q1 with ⟨x1, h1', C1⟩ | ⟨e1, h1', C1⟩
        · exact .inr ⟨e0, ev2e0 hks h0, tru21_e0 W t k0 k1 (by rw [hj]; rfl) hks C0 C1⟩
        · exact .inr ⟨e0, ev2e0 hks h0, tru21_e0 W t k0 k1 (by rw [hj]; rfl) hks C0 C1⟩
    · obtain ⟨k0, k1, hks, s0, s1, e⟩ := form2 22 hs hj rfl rfl
      rw [e]
      have s0' : k0.srt = 1 := s0
      have s1' : k1.srt = 1 := s1
      obtain ⟨q0, r0⟩ := hk k0 (by simp [hks]) (by rw [s0']; decide)
      obtain ⟨q1, r1⟩ := hk k1 (by simp [hks]) (by rw [s1']; decide)
      rw [s0'] at q0 r0
      rw [s1'] at q1 r1
      rcases q0 with ⟨x0, h0, C0⟩ | ⟨e0, h0, C0⟩
      · rcases q1 with ⟨x1, h1', C1⟩ | ⟨e1, h1', C1⟩
        · rw [h0] at r0
          rw [h1'] at r1
          exact .inl ⟨_, by rw [ev2 hks h0 h1', ho]; rfl, tru22_ok W t k0 k1 (by rw [hj]; rfl) hks C0 C1⟩
        · exact .inr ⟨e1, ev2e1 hks h0 h1', tru22_e1 W t k0 k1 (by rw [hj]; rfl) hks C0 C1⟩
      · rcases q1 with ⟨x1, h1', C1⟩ | ⟨e1, h1', C1⟩
        · exact .inr ⟨e0, ev2e0 hks h0, tru22_e0 W t k0 k1 (by rw [hj]; rfl) hks C0 C1⟩
        · exact .inr ⟨e0, ev2e0 hks h0, tru22_e0 W t k0 k1 (by rw [hj]; rfl) hks C0 C1⟩
    · obtain ⟨k0, k1, hks, s0, s1, e⟩ := form2 23 hs hj rfl rfl
      rw [e]
      have s0' : k0.srt = 1 := s0
      have s1' : k1.srt = 1 := s1
      obtain ⟨q0, r0⟩ := hk k0 (by simp [hks]) (by rw [s0']; decide)
      obtain ⟨q1, r1⟩ := hk k1 (by simp [hks]) (by rw [s1']; decide)
      rw [s0'] at q0 r0
      rw [s1'] at q1 r1
      rcases q0 with ⟨x0, h0, C0⟩ | ⟨e0, h0, C0⟩
      · rcases q1 with ⟨x1, h1', C1⟩ | ⟨e1, h1', C1⟩
        · rw [h0] at r0
          rw [h1'] at r1
          exact .inl ⟨_, by rw [ev2 hks h0 h1', ho]; rfl, tru23_ok W t k0 k1 (by rw [hj]; rfl) hks C0 C1⟩
        · exact .inr ⟨e1, ev2e1 hks h0 h1', tru23_e1 W t k0 k1 (by rw [hj]; rfl) hks C0 C1⟩
      · rcases q1 with ⟨x1, h1', C1⟩ | ⟨e1, h1', C1⟩
        · exact .inr ⟨e0, ev2e0 hks h0, tru23_e0 W t k0 k1 (by rw [hj]; rfl) hks C0 C1⟩
        · exact .inr ⟨e0, ev2e0 hks h0, tru23_e0 W t k0 k1 (by rw [hj]; rfl) hks C0 C1⟩
    · obtain ⟨k0, k1, hks, s0, s1, e⟩ := form2 24 hs hj rfl rfl
      rw [e]
      have s0' : k0.srt = 1 := s0
      have s1' : k1.srt = 1 := s1
      obtain ⟨q0, r0⟩ := hk k0 (by simp [hks]) (by rw [s0']; decide)
      obtain ⟨q1, r1⟩ := hk k1 (by simp [hks]) (by rw [s1']; decide)
      rw [s0'] at q0 r0
      rw [s1'] at q1 r1
      rcases q0 with ⟨x0, h0, C0⟩ | ⟨e0, h0, C0⟩
      · rcases q1 with ⟨x1, h1', C1⟩ | ⟨e1, h1', C1⟩
        · rw [h0] at r0
          rw [h1'] at r1
          exact .inl ⟨_, by rw [ev2 hks h0 h1', ho]; rfl, tru24_ok W t k0 k1 (by rw [hj]; rfl) hks C0 C1⟩
        · exact .inr ⟨e1, ev2e1 hks h0 h1', tru24_e1 W t k0 k1 (by rw [hj]; rfl) hks C0 C1⟩
      · rcases q1 with ⟨x1, h1', C1⟩ | ⟨e1, h1', C1⟩
        · exact .inr ⟨e0, ev2e0 hks h0, tru24_e0 W t k0 k1 (by rw [hj]; rfl) hks C0 C1⟩
        · exact .inr ⟨e0, ev2e0 hks h0, tru24_e0 W t k0 k1 (by rw [hj]; rfl) hks C0 C1⟩
    · obtain ⟨k0, k1, hks, s0, s1, e⟩ := form2 25 hs hj rfl rfl
      rw [e]
      have s0' : k0.srt = 3 := s0
      have s1' : k1.srt = 2 := s1
      obtain ⟨q0, r0⟩ := hk k0 (by simp [hks]) (by rw [s0']; decide)
      obtain ⟨q1, r1⟩ := hk k1 (by simp [hks]) (by rw [s1']; decide)
      rw [s0'] at q0 r0
      rw [s1'] at q1 r1
      rcases q0 with ⟨x0, h0, C0⟩ | ⟨e0, h0, C0⟩
      · rcases q1 with ⟨x1, h1', C1⟩ | ⟨e1, h1', C1⟩
        · rw [h0] at r0
          rw [h1'] at r1
          have f0 : Ty W 3 (.d x0) := r0
          have f1 : Ty W 2 (.s x1) := r1
          have g1 : x1.length = W.nodes.toNat := f1
          exact .inl ⟨_, by rw [ev2 hks h0 h1', ho]; rfl, tru25_ok W t k0 k1 (by rw [hj]; rfl) hks C0 C1 f0.1 (by have := f0.1; have := f0.2; omega)⟩
        · exact .inr ⟨e1, ev2e1 hks h0 h1', tru25_e1 W t k0 k1 (by rw [hj]; rfl) hks C0 C1⟩
      · rcases q1 with ⟨x1, h1', C1⟩ | ⟨e1, h1', C1⟩
        · exact .inr ⟨e0, ev2e0 hks h0, tru25_e0 W t k0 k1 (by rw [hj]; rfl) hks C0 C1⟩
        · exact .inr ⟨e0, ev2e0 hks h0, tru25_e0 W t k0 k1 (by rw [hj]; rfl) hks C0 C1⟩
    · obtain ⟨k0, k1, hks, s0, s1, e⟩ := form2 26 hs hj rfl rfl
      rw [e]
      have s0' : k0.srt = 2 := s0
      have s1' : k1.srt = 2 := s1
      obtain ⟨q0, r0⟩ := hk k0 (by simp [hks]) (by rw [s0']; decide)
      obtain ⟨q1, r1⟩ := hk k1 (by simp [hks]) (by rw [s1']; decide)
      rw [s0'] at q0 r0
      rw [s1'] at q1 r1
      rcases q0 with ⟨x0, h0, C0⟩ | ⟨e0, h0, C0⟩
      · rcases q1 with ⟨x1, h1', C1⟩ | ⟨e1, h1', C1⟩
        · rw [h0] at r0
          rw [h1'] at r1
          have f0 : Ty W 2 (.s x0) := r0
          have f1 : Ty W 2 (.s x1) := r1
          have g0 : x0.length = W.nodes.toNat := f0
          have g1 : x1.length = W.nodes.toNat := f1
          exact .inl ⟨_, by rw [ev2 hks h0 h1', ho]; rfl, tru26_ok W t k0 k1 (by rw [hj]; rfl) hks C0 C1 (by omega) (by omega)⟩
        · exact .inr ⟨e1, ev2e1 hks h0 h1', tru26_e1 W t k0 k1 (by rw [hj]; rfl) hks C0 C1⟩
      · rcases q1 with ⟨x1, h1', C1⟩ | ⟨e1, h1', C1⟩
        · exact .inr ⟨e0, ev2e0 hks h0, tru26_e0 W t k0 k1 (by rw [hj]; rfl) hks C0 C1⟩
        · exact .inr ⟨e0, ev2e0 hks h0, tru26_e0 W t k0 k1 (by rw [hj]; rfl) hks C0 C1⟩
    · obtain ⟨k0, k1, hks, s0, s1, e⟩ := form2 27 hs hj rfl rfl
      rw [e]
      have s0' : k0.srt = 2 := s0
      have s1' : k1.srt = 2 := s1
      obtain ⟨q0, r0⟩ := hk k0 (by simp [hks]) (by rw [s0']; decide)
      obtain ⟨q1, r1⟩ := hk k1 (by simp [hks]) (by rw [s1']; decide)
      rw [s0'] at q0 r0
      rw [s1'] at q1 r1
      rcases q0 with ⟨x0, h0, C0⟩ | ⟨e0, h0, C0⟩
      · rcases q1 with ⟨x1, h1', C1⟩ | ⟨e1, h1', C1⟩
        · rw [h0] at r0
          rw [h1'] at r1
          have f0 : Ty W 2 (.s x0) := r0
          have f1 : Ty W 2 (.s x1) := r1
          have g0 : x0.length = W.nodes.toNat := f0
          have g1 : x1.length = W.nodes.toNat := f1
          exact .inl ⟨_, by rw [ev2 hks h0 h1', ho]; rfl, tru27_ok W t k0 k1 (by rw [hj]; rfl) hks C0 C1 (by omega) (by omega)⟩
        · exact .inr ⟨e1, ev2e1 hks h0 h1', tru27_e1 W t k0 k1 (by rw [hj]; rfl) hks C0 C1⟩
      · rcases q1 with ⟨x1, h1', C1⟩ | ⟨e1, h1', C1⟩
        · exact .inr ⟨e0, ev2e0 hks h0, tru27_e0 W t k0 k1 (by rw [hj]; rfl) hks C0 C1⟩
        · exact .inr ⟨e0, ev2e0 hks h0, tru27_e0 W t k0 k1 (by rw [hj]; rfl) hks C0 C1⟩
    · obtain ⟨k0, k1, hks, s0, s1, e⟩ := form2 28 hs hj rfl rfl
      rw [e]
      have s0' : k0.srt = 3 := s0
      have s1' : k1.srt = 3 := s1
      obtain ⟨q0, r0⟩ := hk k0 (by simp [hks]) (by rw [s0']; decide)
      obtain ⟨q1, r1⟩ := hk k1 (by simp [hks]) (by rw [s1']; decide)
      rw [s0'] at q0 r0
      rw [s1'] at q1 r1
      rcases q0 with ⟨x0, h0, C0⟩ | ⟨e0, h0, C0⟩
      · rcases q1 with ⟨x1, h1', C1⟩ | ⟨e1, h1', C1⟩
        · rw [h0] at r0
          rw [h1'] at r1
          exact .inl ⟨_, by rw [ev2 hks h0 h1', ho]; rfl, tru28_ok W t k0 k1 (by rw [hj]; rfl) hks C0 C1⟩
        · exact .inr ⟨e1, ev2e1 hks h0 h1', tru28_e1 W t k0 k1 (by rw [hj]; rfl) hks C0 C1⟩
      · rcases q1 with ⟨x1, h1', C1⟩ | ⟨e1, h1', C1⟩
        · exact .inr ⟨e0, ev2e0 hks h0, tru28_e0 W t k0 k1 (by rw [hj]; rfl) hks C0 C1⟩
        · exact .inr ⟨e0, ev2e0 hks h0, tru28_e0 W t k0 k1 (by rw [hj]; rfl) hks C0 C1⟩
end Go.Proofs.YtlobffjgkhcjbaaDoor
