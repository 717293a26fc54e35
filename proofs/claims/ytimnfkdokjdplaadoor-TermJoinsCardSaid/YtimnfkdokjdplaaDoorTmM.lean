/-
  What the statements' 'shown' answers: true.
-/
import Derived.Test.YtimnfkdokjdplaaDoorTmL
namespace Go.Proofs.YtimnfkdokjdplaaDoor
open Go.RowKit

def tA : Tm := .node 7 ⟨#[97]⟩ 0 none 0 []
def tN : Tm := .node 1 ⟨#[]⟩ 1 none 0 []
def tC (g : Nat) : Tm := .node 3 ⟨#[]⟩ 0 (some ⟨g, 0, none⟩) 1 [tA]
def tT (g h : Nat) : Tm := .node 22 ⟨#[]⟩ 0 (some ⟨h, 0, none⟩) 2 [tN, tC g]
def tK (g h k : Nat) : Tm := .node 3 ⟨#[]⟩ 0 (some ⟨k, 0, none⟩) 1 [tT g h]
theorem tT_err (g h : Nat) : errR (tT g h) = 0 := by kernel_rfl
theorem tT_srt (g h : Nat) : srtR (tT g h) = 4 := by kernel_rfl
theorem tK_err (g h k : Nat) : errR (tK g h k) = 3 := by kernel_rfl
theorem tK_srt (g h k : Nat) : srtR (tK g h k) = 0 := by kernel_rfl
theorem tT_size (g h : Nat) : (tT g h).size = 4 := by kernel_rfl
theorem tT_deep (g h : Nat) : (tT g h).deep = 3 := by kernel_rfl
theorem tT_vars (g h : Nat) : (tT g h).vars = [(⟨#[97]⟩, 7)] := by kernel_rfl
theorem tT_same (g h : Nat) : Tm.sm 1 (tT g h) (tT g h) = true := by kernel_rfl
theorem tT_other (g h : Nat) : Tm.sm 1 (tT g h) tA = false := by kernel_rfl
theorem name_yes : nameB ⟨#[97, 49]⟩ = true := by kernel_rfl
theorem name_no : nameB ⟨#[49, 97]⟩ = false := by kernel_rfl

theorem tA_in (w : World) (B : Nat) : TIn w B tA := .mk tA (by decide) (by decide) (by decide) (by decide) (by decide) (fun j h => by simp [tA, Tm.ks] at h) (fun k h => by simp [tA, Tm.ks] at h)
theorem tN_in (w : World) (B : Nat) : TIn w B tN := .mk tN (by decide) (by decide) (by decide) (by decide) (by decide) (fun j h => by simp [tN, Tm.ks] at h) (fun k h => by simp [tN, Tm.ks] at h)
theorem tC_in {w : World} {B g : Nat} (h : Four w g 0 tA) (hg : g < B) : TIn w B (tC g) :=
  .mk (tC g) (by rfl) (by rfl) (by show (0 : Nat) ≤ _; omega) (by show (1 : Nat) ≤ 1; omega) (by show (1 : Nat) ≤ maxLen; decide)
    (fun j hj => by
      have : j = 0 := by simp [tC, Tm.ks] at hj; omega
      subst this
      exact ⟨g, 0, rfl, hg, h⟩)
    (fun k hk => by
      simp only [tC, Tm.ks, List.mem_singleton] at hk
      subst hk; exact tA_in w B)
theorem tT_in {w : World} {B g h : Nat} (h1 : Four w g 0 tA) (h2 : Four w h 0 tN) (h3 : Four w h 4 (tC g)) (hg : g < B) (hh : h < B) : TIn w B (tT g h) :=
  .mk (tT g h) (by rfl) (by rfl) (by show (0 : Nat) ≤ _; omega) (by show (2 : Nat) ≤ 2; omega) (by show (2 : Nat) ≤ maxLen; decide)
    (fun j hj => by
      have : j = 0 ∨ j = 1 := by simp [tT, Tm.ks] at hj; omega
      rcases this with rfl | rfl
      · exact ⟨h, 0, rfl, hh, h2⟩
      · exact ⟨h, 0, rfl, hh, h3⟩)
    (fun k hk => by
      simp only [tT, Tm.ks, List.mem_cons, List.not_mem_nil, or_false] at hk
      rcases hk with rfl | rfl
      · exact tN_in w B
      · exact tC_in h1 hg)
theorem tK_in {w : World} {B g h k : Nat} (h1 : Four w g 0 tA) (h2 : Four w h 0 tN) (h3 : Four w h 4 (tC g)) (h4 : Four w k 0 (tT g h)) (hg : g < B) (hh : h < B) (hk : k < B) : TIn w B (tK g h k) :=
  .mk (tK g h k) (by rfl) (by rfl) (by show (0 : Nat) ≤ _; omega) (by show (1 : Nat) ≤ 1; omega) (by show (1 : Nat) ≤ maxLen; decide)
    (fun j hj => by
      have : j = 0 := by simp [tK, Tm.ks] at hj; omega
      subst this
      exact ⟨k, 0, rfl, hk, h4⟩)
    (fun q hq => by
      simp only [tK, Tm.ks, List.mem_singleton] at hq
      subst hq; exact tT_in h1 h2 h3 hg hh)

/-- what lies in memory while 'shown' runs -/
structure SH (X : Nat) (w : World) : Prop where
  a : Four w X 0 tA
  a1 : Four w (X + 1) 0 tA
  n : Four w (X + 1 + 1) 0 tN
  c : Four w (X + 1 + 1) 4 (tC (X + 1))
  t : Four w (X + 1 + 1 + 1) 0 (tT (X + 1) (X + 1 + 1))
  s : Shps w
theorem SH.later {X : Nat} {w w' : World} (h : SH X w) (hb : Below w.heap.size w w') : SH X w' :=
  ⟨h.a.later hb, h.a1.later hb, h.n.later hb, h.c.later hb, h.t.later hb, h.s.later hb⟩
theorem SH.inT {X : Nat} {w : World} (h : SH X w) : TIn w w.heap.size (tT (X + 1) (X + 1 + 1)) := tT_in h.a1 h.n h.c (four_lt h.a1) (four_lt h.n)
theorem SH.cells {X : Nat} {w : World} (h : SH X w) : w.cell? ⟨X + 1 + 1 + 1, 0, none⟩ = some (.int .i64 22) ∧ w.cell? ⟨X + 1 + 1 + 1, 1, none⟩ = some (.string ⟨#[]⟩) ∧ w.cell? ⟨X + 1 + 1 + 1, 2, none⟩ = some (.int .i64 0) ∧ w.cell? ⟨X + 1 + 1 + 1, 3, none⟩ = some (.slice (some ⟨X + 1 + 1, 0, none⟩) 2 2) := h.t
theorem SH.cellsA {X : Nat} {w : World} (h : SH X w) : w.cell? ⟨X, 0, none⟩ = some (.int .i64 7) ∧ w.cell? ⟨X, 1, none⟩ = some (.string ⟨#[97]⟩) ∧ w.cell? ⟨X, 2, none⟩ = some (.int .i64 0) ∧ w.cell? ⟨X, 3, none⟩ = some (.slice none 0 0) := h.a
def shW (w : World) : World :=
  (((w.alloc (.cells #[.int .i64 7, .string ⟨#[97]⟩, .int .i64 0, .slice none 0 0] 24)).alloc (.cells #[.int .i64 7, .string ⟨#[97]⟩, .int .i64 0, .slice none 0 0] 24)).alloc
    (.cells #[.int .i64 1, .string ⟨#[]⟩, .int .i64 1, .slice none 0 0, .int .i64 3, .string ⟨#[]⟩, .int .i64 0, .slice (some ⟨w.heap.size + 1, 0, none⟩) 1 1] 24)).alloc
    (.cells #[.int .i64 22, .string ⟨#[]⟩, .int .i64 0, .slice (some ⟨w.heap.size + 1 + 1, 0, none⟩) 2 2] 24)
theorem shW_below (w : World) : Below w.heap.size w (shW w) := bal (bal (bal (bal (Below.refl _ _) _) _) _) _
theorem shW_sh (w : World) (hS : Shps w) : SH w.heap.size (shW w) := by
  refine ⟨?_, ?_, ?_, ?_, ?_, hS.later (shW_below w)⟩
  · simp [Four, shW, tA, Tm.op, Tm.nm, Tm.n, Tm.a, Tm.ks, Tm.c, go_sem]
  · simp [Four, shW, tA, Tm.op, Tm.nm, Tm.n, Tm.a, Tm.ks, Tm.c, go_sem]
  · simp [Four, shW, tN, Tm.op, Tm.nm, Tm.n, Tm.a, Tm.ks, Tm.c, go_sem]
  · simp [Four, shW, tC, Tm.op, Tm.nm, Tm.n, Tm.a, Tm.ks, Tm.c, go_sem]
  · simp [Four, shW, tT, Tm.op, Tm.nm, Tm.n, Tm.a, Tm.ks, Tm.c, go_sem]

set_option maxHeartbeats 4000000 in
set_option maxRecDepth 100000 in
theorem shown_any (w : World) (hS : Shps w) :
    Calls Tryd.prog 14 #[] w fun e w' => e = .returned (.bool true) ∧ Below w.heap.size w w' := by
  have S0 := shW_sh w hS
  have B0 := shW_below w
  have hW : shW w = shW w := rfl
  conv at hW => lhs; unfold shW
  generalize shW w = W at *
  generalize hX : w.heap.size = X at *
  have C1 : Hid (∀ w', SH X w' → Calls Tryd.prog 15 #[.agg #[.int .i64 22, .string ⟨#[]⟩, .int .i64 0, .slice (some ⟨X + 1 + 1, 0, none⟩) 2 2]] w' fun e w'' => e = .returned (.tuple #[.int .i64 4, .int .i64 0]) ∧ Below w'.heap.size w' w'') := fun w' h => by
    have := sort_any _ w' h.inT h.s
    rw [tT_err, tT_srt] at this
    exact this
  have C2 : Hid (∀ w', SH X w' → Calls Tryd.prog 15 #[.agg #[.int .i64 3, .string ⟨#[]⟩, .int .i64 0, .slice (some ⟨w'.heap.size, 0, none⟩) 1 1]] (w'.alloc (.cells #[.int .i64 22, .string ⟨#[]⟩, .int .i64 0, .slice (some ⟨X + 1 + 1, 0, none⟩) 2 2] 24)) fun e w'' => e = .returned (.tuple #[.int .i64 0, .int .i64 3]) ∧ Below w'.heap.size w' w'') := fun w' h => by
    have hb := bel_alloc w' (.cells #[.int .i64 22, .string ⟨#[]⟩, .int .i64 0, .slice (some ⟨X + 1 + 1, 0, none⟩) 2 2] 24)
    have h' := h.later hb
    have hk : Four (w'.alloc (.cells #[.int .i64 22, .string ⟨#[]⟩, .int .i64 0, .slice (some ⟨X + 1 + 1, 0, none⟩) 2 2] 24)) w'.heap.size 0 (tT (X + 1) (X + 1 + 1)) := by simp [Four, tT, Tm.op, Tm.nm, Tm.n, Tm.a, Tm.ks, Tm.c, go_sem]
    have := sort_any _ _ (tK_in h'.a1 h'.n h'.c hk (four_lt h'.a1) (four_lt h'.n) (four_lt hk)) h'.s
    rw [tK_err, tK_srt] at this
    exact this.mono fun _ _ ⟨e, b⟩ => ⟨e, bon hb b⟩
  have C3 : Hid (∀ w', SH X w' → Calls Tryd.prog 22 #[.agg #[.int .i64 22, .string ⟨#[]⟩, .int .i64 0, .slice (some ⟨X + 1 + 1, 0, none⟩) 2 2]] w' fun e w'' => (∃ g c, e = .returned (.slice (some ⟨g, 0, none⟩) 1 c) ∧ w''.cell? ⟨g, 0, none⟩ = some (.string ⟨#[97]⟩)) ∧ Below w'.heap.size w' w'') := fun w' h => by
    have := names_few _ w' h.inT h.s (tT_err _ _) (by rw [tT_vars]; simp)
    rw [tT_vars] at this
    refine this.mono ?_
    rintro e w'' ⟨⟨v, rfl, ho⟩, hb⟩
    obtain ⟨g, c, rfl⟩ := own_some ho (by simp)
    exact ⟨⟨g, c, rfl, by simpa [asgs, asg] using ho.cellAt 0 (by simp)⟩, hb⟩
  have C4 : Hid (∀ w', SH X w' → Calls Tryd.prog 17 #[.agg #[.int .i64 22, .string ⟨#[]⟩, .int .i64 0, .slice (some ⟨X + 1 + 1, 0, none⟩) 2 2]] w' fun e w'' => e = .returned (.int .i64 4) ∧ Below w'.heap.size w' w'') := fun w' h => by
    have := size_any _ w' h.inT
    rw [tT_size] at this
    exact this
  have C5 : Hid (∀ w', SH X w' → Calls Tryd.prog 19 #[.agg #[.int .i64 22, .string ⟨#[]⟩, .int .i64 0, .slice (some ⟨X + 1 + 1, 0, none⟩) 2 2]] w' fun e w'' => e = .returned (.int .i64 3) ∧ Below w'.heap.size w' w'') := fun w' h => by
    have := deep_small _ w' h.inT (by rw [tT_size]; omega)
    rw [tT_deep] at this
    exact this
  have C6 : Hid (∀ w', SH X w' → Calls Tryd.prog 24 #[.agg #[.int .i64 22, .string ⟨#[]⟩, .int .i64 0, .slice (some ⟨X + 1 + 1, 0, none⟩) 2 2], .agg #[.int .i64 22, .string ⟨#[]⟩, .int .i64 0, .slice (some ⟨X + 1 + 1, 0, none⟩) 2 2]] w' fun e w'' => e = .returned (.bool true) ∧ Below w'.heap.size w' w'') := fun w' h => by
    have := same_small _ _ w' h.inT h.inT (by rw [tT_size]; omega)
    rw [tT_same] at this
    exact this
  have C7 : Hid (∀ w', SH X w' → Calls Tryd.prog 24 #[.agg #[.int .i64 22, .string ⟨#[]⟩, .int .i64 0, .slice (some ⟨X + 1 + 1, 0, none⟩) 2 2], .agg #[.int .i64 7, .string ⟨#[97]⟩, .int .i64 0, .slice none 0 0]] w' fun e w'' => e = .returned (.bool false) ∧ Below w'.heap.size w' w'') := fun w' h => by
    have := same_small _ _ w' h.inT (tA_in w' _) (by rw [tT_size]; omega)
    rw [tT_other] at this
    exact this
  have C8 : Hid (∀ w', Calls Tryd.prog 26 #[.string ⟨#[97, 49]⟩] w' fun e w'' => e = .returned (.bool true) ∧ w' = w'') := fun w' => by
    have := name_any ⟨#[97, 49]⟩ w' (by decide)
    rw [name_yes] at this; exact this
  have C9 : Hid (∀ w', Calls Tryd.prog 26 #[.string ⟨#[49, 97]⟩] w' fun e w'' => e = .returned (.bool false) ∧ w' = w'') := fun w' => by
    have := name_any ⟨#[49, 97]⟩ w' (by decide)
    rw [name_no] at this; exact this
  have es : ((⟨#[97]⟩ : ByteArray).toList == (⟨#[97]⟩ : ByteArray).toList) = true := by simp
  clear hS
  obtain ⟨x0, x1, x2, x3⟩ := S0.cells
  go_enter Tryd.func14, Tryd.ntmps14
  go_wp2_with fail
  ((with_reducible refine (C1.out _ S0).mono ?_)); rintro e w1 ⟨rfl, hb1⟩
  have B0' : Below w.heap.size w W := by rw [hX]; exact B0
  have B1 := bon B0' hb1
  have S1 := S0.later hb1
  clear hW x0 x1 x2 x3 S0 B0 B0' hb1 C1
  obtain ⟨x0, x1, x2, x3⟩ := S1.cells
  go_wp2_with fail
  ((with_reducible refine (C2.out _ S1).mono ?_)); rintro e w2 ⟨rfl, hb2⟩
  have B2 := bon B1 hb2
  have S2 := S1.later hb2
  clear x0 x1 x2 x3 S1 B1 hb2 C2
  obtain ⟨x0, x1, x2, x3⟩ := S2.cells
  go_wp2_with fail
  ((with_reducible refine (C3.out _ S2).mono ?_)); rintro e w3 ⟨⟨g, c, rfl, hg⟩, hb3⟩
  have B3 := bon B2 hb3
  have S3 := S2.later hb3
  clear x0 x1 x2 x3 S2 B2 hb3 C3
  obtain ⟨x0, x1, x2, x3⟩ := S3.cells
  go_wp2_with fail
  ((with_reducible refine (C4.out _ S3).mono ?_)); rintro e w4 ⟨rfl, hb4⟩
  have B4 := bon B3 hb4
  have S4 := S3.later hb4
  replace hg := cell_later hb4 hg
  clear x0 x1 x2 x3 S3 B3 hb4 C4
  obtain ⟨x0, x1, x2, x3⟩ := S4.cells
  go_wp2_with fail
  ((with_reducible refine (C5.out _ S4).mono ?_)); rintro e w5 ⟨rfl, hb5⟩
  have B5 := bon B4 hb5
  have S5 := S4.later hb5
  replace hg := cell_later hb5 hg
  clear x0 x1 x2 x3 S4 B4 hb5 C5
  obtain ⟨x0, x1, x2, x3⟩ := S5.cells
  go_wp2_with fail
  ((with_reducible refine (C6.out _ S5).mono ?_)); rintro e w6 ⟨rfl, hb6⟩
  have B6 := bon B5 hb6
  have S6 := S5.later hb6
  clear x0 x1 x2 x3 S5 B5 hb6 C6 hg
  obtain ⟨x0, x1, x2, x3⟩ := S6.cells
  obtain ⟨y0, y1, y2, y3⟩ := S6.cellsA
  go_wp2_with fail
  ((with_reducible refine (C7.out _ S6).mono ?_)); rintro e w7 ⟨rfl, hb7⟩
  have B7 := bon B6 hb7
  clear x0 x1 x2 x3 y0 y1 y2 y3 S6 B6 hb7 C7
  go_wp2_with (first
    | (go_at_call 26; ((with_reducible refine (C8.out _).mono ?_)); rintro e w8 ⟨rfl, rfl⟩)
    | (go_at_call 26; ((with_reducible refine (C9.out _).mono ?_)); rintro e w9 ⟨rfl, rfl⟩))
  go_ret
  exact ⟨rfl, hX ▸ B7⟩
end Go.Proofs.YtimnfkdokjdplaaDoor
