/-
  What the laws' 'few' leaves, ready for use; rows that are the same.
-/
import Derived.Test.YtilhamnibdjfaaaPrL
namespace Go.Proofs.Ytilhamnibdjfaaa
open Go.RowKit

/-- what the arguments are -/
structure Args (w : World) (v u : Value) (L : List (List Int)) (A : List Int) : Prop where
  rows : RR w v L
  row : RK .i8 w u A
  lens : ∀ c ∈ L, c.length ≤ maxLen
  len : A.length ≤ maxLen
  fit : ∀ c ∈ L, Fit c
/-- small rows -/
structure Small (L : List (List Int)) (A : List Int) : Prop where
  rows : L.length ≤ 1000
  row : A.length ≤ 1000
  fit : ∀ c ∈ L, Fit c ∧ c.length ≤ 1000
theorem fewL_len (L : List (List Int)) : (fewL L).length ≤ 50 := by unfold fewL; simp; omega
theorem fewL_fit {L : List (List Int)} (h : ∀ c ∈ L, Fit c) : ∀ c ∈ fewL L, Fit c ∧ c.length ≤ 20 := by
  intro c hc
  unfold fewL at hc
  obtain ⟨d, hd, rfl⟩ := List.mem_map.1 hc
  refine ⟨fun x hx => h d (List.mem_of_mem_take hd) x (List.mem_of_mem_take hx), ?_⟩
  rw [List.length_take]; omega
theorem take_len (A : List Int) : (A.take 50).length ≤ 50 := by simp; omega
theorem few_small {L : List (List Int)} (A : List Int) (h : ∀ c ∈ L, Fit c) : Small (fewL L) (A.take 50) :=
  ⟨by have := fewL_len L; omega, by have := take_len A; omega, fun c hc => ⟨(fewL_fit h c hc).1, by have := (fewL_fit h c hc).2; omega⟩⟩
/-- 'few' of the arguments: rows of one's own, an assignment of one's own -/
def FewQ (L : List (List Int)) (A : List Int) (w : World) (e : Ending) (w' : World) : Prop :=
  ∃ v us g N c, e = .returned (.tuple #[v, .slice (some ⟨g, 0, none⟩) N c]) ∧ N = A.length ∧ N ≤ 50 ∧ CR w' w.heap.size v L us ∧ w.heap.size ≤ g ∧ AC w' g N c A ∧ Below w.heap.size w w'
theorem few_args {w0 w : World} {v u : Value} {L : List (List Int)} {A : List Int} (h : Args w0 v u L A) (hb : Below w0.heap.size w0 w) : Calls Try.prog 13 #[v, u] w (FewQ (fewL L) (A.take 50) w) := by
  refine (few_any L A v u w (h.rows.later hb) (h.row.later hb) h.len h.lens).mono ?_
  rintro e w' ⟨v', us, g, c, rfl, h1, h2, h3, h4⟩
  exact ⟨v', us, g, _, c, rfl, rfl, take_len A, h1, h2, h3, h4⟩
theorem fewL_again {L : List (List Int)} (h1 : L.length ≤ 50) (h2 : ∀ c ∈ L, c.length ≤ 20) : fewL L = L := by
  unfold fewL
  rw [List.take_of_length_le h1]
  conv => rhs; rw [← List.map_id L]
  exact List.map_congr_left (fun c hc => List.take_of_length_le (h2 c hc))
/-- 'few' again: the same -/
theorem few_again {w : World} {v u : Value} {L : List (List Int)} {A : List Int} (hv : RR w v L) (hu : RK .i8 w u A) (h1 : L.length ≤ 50) (h2 : ∀ c ∈ L, c.length ≤ 20) (h3 : A.length ≤ 50) : Calls Try.prog 13 #[v, u] w (FewQ L A w) := by
  have hm : maxLen = 9223372036854775807 := by decide
  have := few_any L A v u w hv hu (by omega) (fun c hc => by have := h2 c hc; omega)
  refine this.mono ?_
  rintro e w' ⟨v', us, g, c, rfl, k1, k2, k3, k4⟩
  rw [fewL_again h1 h2] at k1
  rw [List.take_of_length_le h3] at k3 ⊢
  exact ⟨v', us, g, _, c, rfl, rfl, h3, k1, k2, k3, k4⟩
theorem nil_rows (w : World) : RR w (.slice none 0 0) [] := (CR.nil w 0).rr
theorem same_self (C : List Int) (v u : Value) (w : World) (hv : RK .i8 w v C) (hu : RK .i8 w u C) (h : C.length ≤ 1000) : Calls Try.prog 16 #[v, u] w (RetV (.bool true) w) := by
  have := same_any C C v u w hv hu h
  rwa [decide_eq_true rfl] at this
/-- Unit, of small rows -/
theorem unit_at' {w : World} {v u : Value} {L : List (List Int)} {A : List Int} (hs : Small L A) (hv : RR w v L) (hu : RK .i8 w u A) : Calls Try.prog 14 #[v, u] w fun e w' => ∃ g N, e = .returned (.tuple #[.slice (some ⟨g, 0, none⟩) N N, .bool (unit L A).2]) ∧ N = A.length ∧ w.heap.size ≤ g ∧ AR w' g N (unit L A).1 ∧ Below w.heap.size w w' :=
  (unit_any L A v u w hv hu hs.rows hs.row hs.fit).mono fun _ _ ⟨g, e, h1, h2, h3⟩ => ⟨g, _, e, rfl, h1, h2, h3⟩
theorem runit_at {w : World} {v u : Value} {L : List (List Int)} {A : List Int} (hs : Small L A) (hv : RR w v L) (hu : RK .i8 w u A) : Calls Try.prog 15 #[v, u] w fun e w' => ∃ g N c, e = .returned (.tuple #[.slice (some ⟨g, 0, none⟩) N c, .bool (unit L A).2]) ∧ N = A.length ∧ w.heap.size ≤ g ∧ AC w' g N c (unit L A).1 ∧ Below w.heap.size w w' :=
  (runit_any L A v u w hv hu hs.rows hs.row hs.fit).mono fun _ _ ⟨g, c, e, h1, h2, h3⟩ => ⟨g, _, c, e, rfl, h1, h2, h3⟩
theorem unit_len (L : List (List Int)) (A : List Int) : (unit L A).1.length = A.length := (unit_ovr A).1.symm
/-- a store into a row of int8s leaves rows of ints as they are -/
theorem AC.grown {w : World} {g N c : Nat} {A : List Int} (h : AC w g N c A) (k : Nat) (x : Int) : w.grownBy (w.setCell ⟨g, k, none⟩ (.int .i8 x)) (Value.slice (some ⟨g, 0, none⟩) N c).ownBlock := (World.ownsRow.stored h.2.2 k (.int .i8 x)).2
theorem CR.stored {w : World} {base g N c : Nat} {v : Value} {C : List (List Int)} {us : List Value} {A : List Int} (h : CR w base v C us) (ha : AC w g N c A) (k : Nat) (x : Int) : CR (w.setCell ⟨g, k, none⟩ (.int .i8 x)) base v C us := by
  have hg := ha.grown k x
  exact ⟨own_grown h.row hg (own_apart h.row ha.2.2 (by decide)), h.len, fun i hi => by
    obtain ⟨b, hr⟩ := h.els i hi
    exact ⟨b, own_grown hr hg (own_apart hr ha.2.2 (by decide))⟩⟩
theorem Small.of {L : List (List Int)} {A B : List Int} (h : Small L A) (hb : B.length ≤ 1000) : Small L B := ⟨h.rows, hb, h.fit⟩
/-- Unit, what it answers being known -/
theorem unit_is {w : World} {v u : Value} {L : List (List Int)} {A X : List Int} {cf : Bool} (hs : Small L A) (e : unit L A = (X, cf)) (hv : RR w v L) (hu : RK .i8 w u A) : Calls Try.prog 14 #[v, u] w fun e w' => ∃ g N, e = .returned (.tuple #[.slice (some ⟨g, 0, none⟩) N N, .bool cf]) ∧ N = A.length ∧ w.heap.size ≤ g ∧ AR w' g N X ∧ Below w.heap.size w w' := by
  have := unit_at' hs hv hu
  rw [e] at this
  exact this
theorem eval_is {w : World} {v u : Value} {L : List (List Int)} {A : List Int} {r : Int} (hs : Small L A) (e : evl L A = r) (hv : RR w v L) (hu : RK .i8 w u A) : Calls Try.prog 17 #[v, u] w (RetV (.int .i8 r) w) := by
  have := eval_any L A v u w hv hu hs.rows hs.row hs.fit
  rw [e] at this
  exact this
end Go.Proofs.Ytilhamnibdjfaaa
