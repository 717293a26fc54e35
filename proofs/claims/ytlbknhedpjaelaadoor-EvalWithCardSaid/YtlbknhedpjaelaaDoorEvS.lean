/-
  Worlds that hold the same: what is looked up, what terms are, and which worlds are right.
-/
import Derived.Test.YtlbknhedpjaelaaDoorEvM
import Derived.Test.YtlbknhedpjaelaaDoorEvP
import Derived.Test.YtlbknhedpjaelaaDoorEvU
namespace Go.Proofs.YtlbknhedpjaelaaDoor
open Go.RowKit Go.Shelf

theorem lookE_same {o p : Option Vl} (h : SameO o p) {f : Vl → Vv} (hf : ∀ v u, SameV v u → f v = f u) : lookE o f = lookE p f := by
  cases h with
  | no => rfl
  | yes h => simp only [lookE]; rw [hf _ _ h]
theorem app_same {W V : Wd} (hn : W.nodes = V.nodes) {j : Nat} {nm : ByteArray} {n : Int} {vs : List Vv} (h : (shRow j).name = true → SameO (look W nm (shRow j).sort) (look V nm (shRow j).sort)) : app W j nm n vs = app V j nm n vs := by
  unfold app
  split
  all_goals first
    | rfl
    | exact lookE_same (h rfl) (fun v u k => by simp only [k.2.1])
    | exact lookE_same (h rfl) (fun v u k => by simp only [k.2.2.1])
    | exact lookE_same (h rfl) (fun v u k => by simp only [k.2.2.2])
    | simp only [hn]
theorem ev_same {W V : Wd} (hn : W.nodes = V.nodes) : ∀ t : Tm, (∀ x ∈ t.vars, SameO (look W x.1 (shRow x.2.toNat).sort) (look V x.1 (shRow x.2.toNat).sort)) → ev W t = ev V t := by
  intro t
  induction t using Tm.ind with
  | h t ih =>
    intro h
    have hks : ∀ ks : List Tm, (∀ k ∈ ks, ev W k = ev V k) → evs W ks = evs V ks := by
      intro ks
      induction ks with
      | nil => intro _; rfl
      | cons k ks ihk =>
        intro h
        simp only [evs]
        rw [h k (by simp), ihk (fun q hq => h q (by simp [hq]))]
    rw [vars_eq] at h
    rw [ev_eq, ev_eq, hks t.ks (fun k hk => ih k hk (fun x hx => h x (by rw [List.mem_append]; exact .inr (varss_mem.2 ⟨k, hk, hx⟩))))]
    cases evs V t.ks with
    | error e => rfl
    | ok vs =>
      exact app_same hn (fun hr => h (t.nm, t.op) (by rw [hr]; simp))
theorem evalR_same {W V : Wd} (hn : W.nodes = V.nodes) (hr : rightB W = rightB V) {t : Tm} (h : ∀ x ∈ t.vars, SameO (look W x.1 (shRow x.2.toNat).sort) (look V x.1 (shRow x.2.toNat).sort)) : evalR W t = evalR V t := by
  unfold evalR
  rw [hr, ev_same hn t h]

theorem rightL_iff {W : Wd} : ∀ {l : List Nd} {k : Nat}, rightL W l k = true ↔ ∀ i (hi : i < l.length), rightN W (k + i) l[i] = true
  | [], k => by simp [rightL]
  | x :: l, k => by
    simp only [rightL, Bool.and_eq_true]
    rw [rightL_iff (l := l) (k := k + 1)]
    constructor
    · rintro ⟨h1, h2⟩ i hi
      cases i with
      | zero => simpa using h1
      | succ i =>
        have := h2 i (by simpa using hi)
        rw [show k + 1 + i = k + (i + 1) by omega] at this
        simpa using this
    · intro h
      refine ⟨by have := h 0 (by simp); simpa using this, fun i hi => ?_⟩
      have := h (i + 1) (by simpa using hi)
      rw [show k + (i + 1) = k + 1 + i by omega] at this
      simpa using this
theorem right_iff (W : Wd) : rightB W = true ↔ (1 ≤ W.nodes ∧ W.nodes ≤ 64 ∧ W.l.length ≤ 64) ∧ (∀ i (hi : i < W.l.length), nameB W.l[i].nm = true ∧ holdsV W.nodes W.l[i].v = true) ∧ ∀ j (hj : j < W.l.length) i (hi : i < j), hitN W.l[j].nm W.l[j].v.sort W.l[i] = false := by
  simp only [rightB, Bool.and_eq_true, decide_eq_true_eq]
  rw [rightL_iff]
  have key : (∀ i (hi : i < W.l.length), rightN W (0 + i) W.l[i] = true) ↔ (∀ i (hi : i < W.l.length), nameB W.l[i].nm = true ∧ holdsV W.nodes W.l[i].v = true) ∧ ∀ j (hj : j < W.l.length) i (hi : i < j), hitN W.l[j].nm W.l[j].v.sort W.l[i] = false := by
    constructor
    · intro h
      refine ⟨fun i hi => ?_, fun j hj i hi => ?_⟩
      · have := h i hi
        simp only [rightN, Bool.and_eq_true] at this
        exact this.1
      · have := h j hj
        simp only [rightN, Bool.and_eq_true, beq_iff_eq] at this
        have e := (findN_iff (k := 0) hj).1 this.2
        exact e.2 i hi
    · rintro ⟨h1, h2⟩ i hi
      simp only [rightN, Bool.and_eq_true, beq_iff_eq]
      exact ⟨h1 i hi, (findN_iff (k := 0) hi).2 ⟨hit_self _, fun j hj => h2 i hi j hj⟩⟩
  rw [key]
  constructor
  · rintro ⟨⟨⟨h1, h2⟩, h3⟩, h4⟩; exact ⟨⟨h1, h2, h3⟩, h4⟩
  · rintro ⟨⟨h1, h2, h3⟩, h4⟩; exact ⟨⟨⟨h1, h2⟩, h3⟩, h4⟩
end Go.Proofs.YtlbknhedpjaelaaDoor
