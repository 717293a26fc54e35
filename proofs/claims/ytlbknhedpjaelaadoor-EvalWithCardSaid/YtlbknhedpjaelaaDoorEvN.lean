/-
  What the statements' 'shown' of eval answers: true.
-/
import Derived.Test.YtlbknhedpjaelaaDoorEvM
namespace Go.Proofs.YtlbknhedpjaelaaDoor
open Go.RowKit Go.Shelf

/-- terms of no, one and two parts, as they are made in place -/
def t0 (op : Int) (nm : ByteArray) (n : Int) : Tm := .node op nm n none 0 []
def t1 (op n : Int) (g : Nat) (k : Tm) : Tm := .node op ⟨#[]⟩ n (some ⟨g, 0, none⟩) 1 [k]
def t2 (op : Int) (g : Nat) (k0 k1 : Tm) : Tm := .node op ⟨#[]⟩ 0 (some ⟨g, 0, none⟩) 2 [k0, k1]
theorem tin0 {w : World} {B : Nat} {op n : Int} {nm : ByteArray} (h1 : fitB op = true) (h2 : fitB n = true) (h3 : nm.size ≤ maxLen) : TIn w B (t0 op nm n) :=
  .mk _ h1 h2 h3 (Nat.le_refl _) (Nat.zero_le _) (fun j hj => by simp [t0, Tm.ks] at hj) (fun k hk => by simp [t0, Tm.ks] at hk)
theorem tin1 {w : World} {B g : Nat} {op n : Int} {k : Tm} (h1 : fitB op = true) (h2 : fitB n = true) (h : Four w g 0 k) (hk : TIn w B k) (hg : g < B) : TIn w B (t1 op n g k) :=
  .mk _ h1 h2 (by show (0 : Nat) ≤ _; omega) (by show (1 : Nat) ≤ 1; omega) (by show (1 : Nat) ≤ maxLen; decide)
    (fun j hj => by
      have : j = 0 := by simp [t1, Tm.ks] at hj; omega
      subst this
      exact ⟨g, 0, rfl, hg, h⟩)
    (fun q hq => by
      simp only [t1, Tm.ks, List.mem_singleton] at hq
      subst hq; exact hk)
theorem tin2 {w : World} {B g : Nat} {op : Int} {k0 k1 : Tm} (h1 : fitB op = true) (h : Four w g 0 k0) (h' : Four w g 4 k1) (hk : TIn w B k0) (hk' : TIn w B k1) (hg : g < B) : TIn w B (t2 op g k0 k1) :=
  .mk _ h1 (by show fitB 0 = true; decide) (by show (0 : Nat) ≤ _; omega) (by show (2 : Nat) ≤ 2; omega) (by show (2 : Nat) ≤ maxLen; decide)
    (fun j hj => by
      have : j = 0 ∨ j = 1 := by simp [t2, Tm.ks] at hj; omega
      rcases this with rfl | rfl
      · exact ⟨g, 0, rfl, hg, h⟩
      · exact ⟨g, 0, rfl, hg, h'⟩)
    (fun q hq => by
      simp only [t2, Tm.ks, List.mem_cons, List.not_mem_nil, or_false] at hq
      rcases hq with rfl | rfl
      · exact hk
      · exact hk')

def eA : Tm := t0 7 ⟨#[97]⟩ 0
def eN : Tm := t0 14 ⟨#[110]⟩ 0
def eO (X : Nat) : Tm := t1 10 0 (X + 1 + 1 + 1 + 1 + 1) eN
def eU (X : Nat) : Tm := t2 11 (X + 1 + 1 + 1 + 1 + 1 + 1) eA (eO X)
def eC (X : Nat) : Tm := t1 3 0 (X + 1 + 1 + 1 + 1 + 1 + 1 + 1) (eU X)
def eV : Tm := t0 2 ⟨#[97]⟩ 0
def eI (g : Nat) : Tm := t2 25 g eN eA
def eWa (X : Nat) : Nd := ⟨⟨#[97]⟩, ⟨2, 0, false, some ⟨X, 0, none⟩, 3, [true, false, true]⟩⟩
def eWn : Nd := ⟨⟨#[110]⟩, ⟨3, 1, false, none, 0, []⟩⟩
def eW (X : Nat) : Wd := ⟨3, some ⟨X + 1, 0, none⟩, 2, [eWa X, eWn]⟩
def eZ : Wd := ⟨0, none, 0, []⟩
theorem eC_val (X : Nat) : evalR (eW X) (eC X) = .ok (.i 3) := by kernel_rfl
theorem eV_val (X : Nat) : evalR (eW X) eV = .error 4 := by kernel_rfl
theorem eI_val (X g : Nat) : evalR (eW X) (eI g) = .ok (.b false) := by kernel_rfl
theorem eC_zero (X : Nat) : evalR eZ (eC X) = .error 1 := by kernel_rfl
theorem eW_right (X : Nat) : rightB (eW X) = true := by kernel_rfl
/-- what lies in memory while 'shown' runs -/
structure SE (X : Nat) (w : World) : Prop where
  s0 : w.cell? ⟨X, 0, none⟩ = some (.bool true)
  s1 : w.cell? ⟨X, 1, none⟩ = some (.bool false)
  s2 : w.cell? ⟨X, 2, none⟩ = some (.bool true)
  na : NdAt w (X + 1) 0 (eWa X)
  nn : NdAt w (X + 1) 5 eWn
  bw : TwoW w (X + 1 + 1) (eW X)
  ba : Four w (X + 1 + 1 + 1) 0 eA
  bn : Four w (X + 1 + 1 + 1 + 1) 0 eN
  kn : Four w (X + 1 + 1 + 1 + 1 + 1) 0 eN
  ka : Four w (X + 1 + 1 + 1 + 1 + 1 + 1) 0 eA
  ko : Four w (X + 1 + 1 + 1 + 1 + 1 + 1) 4 (eO X)
  ku : Four w (X + 1 + 1 + 1 + 1 + 1 + 1 + 1) 0 (eU X)
  bc : Four w (X + 1 + 1 + 1 + 1 + 1 + 1 + 1 + 1) 0 (eC X)
  s : Shps w
theorem NdAt.later {w w' : World} {b o : Nat} {x : Nd} (h : NdAt w b o x) (hb : Below w.heap.size w w') : NdAt w' b o x :=
  ⟨cell_later hb h.1, cell_later hb h.2.1, cell_later hb h.2.2.1, cell_later hb h.2.2.2.1, cell_later hb h.2.2.2.2⟩
theorem SE.later {X : Nat} {w w' : World} (h : SE X w) (hb : Below w.heap.size w w') : SE X w' :=
  ⟨cell_later hb h.s0, cell_later hb h.s1, cell_later hb h.s2, h.na.later hb, h.nn.later hb, h.bw.later hb, h.ba.later hb, h.bn.later hb, h.kn.later hb, h.ka.later hb, h.ko.later hb, h.ku.later hb, h.bc.later hb, h.s.later hb⟩
theorem eA_in (w : World) (B : Nat) : TIn w B eA := tin0 (by decide) (by decide) (by decide)
theorem eN_in (w : World) (B : Nat) : TIn w B eN := tin0 (by decide) (by decide) (by decide)
theorem eV_in (w : World) (B : Nat) : TIn w B eV := tin0 (by decide) (by decide) (by decide)
theorem SE.inC {X : Nat} {w : World} (h : SE X w) : TIn w w.heap.size (eC X) :=
  tin1 (by decide) (by decide) h.ku (tin2 (by decide) h.ka h.ko (eA_in _ _) (tin1 (by decide) (by decide) h.kn (eN_in _ _) (four_lt h.kn)) (four_lt h.ka)) (four_lt h.ku)
theorem SE.inW {X : Nat} {w : World} (h : SE X w) : WIn w w.heap.size (eW X) := by
  have hx : X < w.heap.size := World.block_lt_of_cell? _ _ h.s0
  have hx1 : X + 1 < w.heap.size := World.block_lt_of_cell? _ _ h.na.1
  refine ⟨by show fitB 3 = true; decide, by show (2 : Nat) ≤ 2; omega, by show (2 : Nat) ≤ maxLen; decide, fun j hj => ?_, fun x hx' => ?_⟩
  · have : j = 0 ∨ j = 1 := by simp [eW] at hj; omega
    rcases this with rfl | rfl
    · exact ⟨X + 1, 0, rfl, hx1, h.na⟩
    · exact ⟨X + 1, 0, rfl, hx1, h.nn⟩
  · simp only [eW, List.mem_cons, List.not_mem_nil, or_false] at hx'
    rcases hx' with rfl | rfl
    · refine ⟨by show (1 : Nat) ≤ maxLen; decide, by show fitB 2 = true; decide, by show fitB 0 = true; decide, by show (3 : Nat) ≤ 3; omega, by show (3 : Nat) ≤ maxLen; decide, fun j hj => ?_⟩
      have : j = 0 ∨ j = 1 ∨ j = 2 := by simp [eWa] at hj; omega
      rcases this with rfl | rfl | rfl
      · exact ⟨X, 0, rfl, hx, h.s0⟩
      · exact ⟨X, 0, rfl, hx, h.s1⟩
      · exact ⟨X, 0, rfl, hx, h.s2⟩
    · exact ⟨by show (1 : Nat) ≤ maxLen; decide, by show fitB 3 = true; decide, by show fitB 1 = true; decide, by show (0 : Nat) ≤ 0; omega, by show (0 : Nat) ≤ maxLen; decide, fun j hj => by simp [eWn] at hj⟩
theorem eZ_in (w : World) (B : Nat) : WIn w B eZ :=
  ⟨by show fitB 0 = true; decide, by show (0 : Nat) ≤ 0; omega, by show (0 : Nat) ≤ maxLen; decide, fun j hj => by simp [eZ] at hj, fun x hx => by simp [eZ] at hx⟩
def seW (w : World) : World :=
  ((((((((w.alloc (.cells #[.bool true, .bool false, .bool true] 4)).alloc
    (.cells #[.string ⟨#[97]⟩, .int .i64 2, .int .i64 0, .bool false, .slice (some ⟨w.heap.size, 0, none⟩) 3 3, .string ⟨#[110]⟩, .int .i64 3, .int .i64 1, .bool false, .slice none 0 0] 48)).alloc
    (.cells #[.int .i64 3, .slice (some ⟨w.heap.size + 1, 0, none⟩) 2 2] 38)).alloc
    (.cells #[.int .i64 7, .string ⟨#[97]⟩, .int .i64 0, .slice none 0 0] 24)).alloc
    (.cells #[.int .i64 14, .string ⟨#[110]⟩, .int .i64 0, .slice none 0 0] 24)).alloc
    (.cells #[.int .i64 14, .string ⟨#[110]⟩, .int .i64 0, .slice none 0 0] 24)).alloc
    (.cells #[.int .i64 7, .string ⟨#[97]⟩, .int .i64 0, .slice none 0 0, .int .i64 10, .string ⟨#[]⟩, .int .i64 0, .slice (some ⟨w.heap.size + 1 + 1 + 1 + 1 + 1, 0, none⟩) 1 1] 24)).alloc
    (.cells #[.int .i64 11, .string ⟨#[]⟩, .int .i64 0, .slice (some ⟨w.heap.size + 1 + 1 + 1 + 1 + 1 + 1, 0, none⟩) 2 2] 24)).alloc
    (.cells #[.int .i64 3, .string ⟨#[]⟩, .int .i64 0, .slice (some ⟨w.heap.size + 1 + 1 + 1 + 1 + 1 + 1 + 1, 0, none⟩) 1 1] 24)
theorem seW_below (w : World) : Below w.heap.size w (seW w) := bal (bal (bal (bal (bal (bal (bal (bal (bal (Below.refl _ _) _) _) _) _) _) _) _) _) _
theorem seW_se (w : World) (hS : Shps w) : SE w.heap.size (seW w) := by
  refine ⟨?_, ?_, ?_, ?_, ?_, ?_, ?_, ?_, ?_, ?_, ?_, ?_, ?_, hS.later (seW_below w)⟩
  all_goals simp [NdAt, TwoW, Four, seW, eWa, eWn, eW, eA, eN, eO, eU, eC, t0, t1, t2, Tm.op, Tm.nm, Tm.n, Tm.a, Tm.ks, Tm.c, go_sem]
theorem evalC1 {X : Nat} {w : World} (h : SE X w) : Calls Tryd.prog 31 #[.agg #[.int .i64 3, .string ⟨#[]⟩, .int .i64 0, .slice (some ⟨X + 1 + 1 + 1 + 1 + 1 + 1 + 1, 0, none⟩) 1 1], .agg #[.int .i64 3, .slice (some ⟨X + 1, 0, none⟩) 2 2]] w (RetVE (.i 3) w) := by
  have := eval_any (eW X) (eC X) w h.inW h.inC h.s
  rw [eC_val] at this
  exact this
theorem evalC2 {X : Nat} {w : World} (h : SE X w) : Calls Tryd.prog 31 #[.agg #[.int .i64 2, .string ⟨#[97]⟩, .int .i64 0, .slice none 0 0], .agg #[.int .i64 3, .slice (some ⟨X + 1, 0, none⟩) 2 2]] w (RetE 4 w) := by
  have := eval_any (eW X) eV w h.inW (eV_in _ _) h.s
  rw [eV_val] at this
  exact this
theorem evalC3 {X g : Nat} {w : World} (h : SE X w) (h0 : Four w g 0 eN) (h1 : Four w g 4 eA) : Calls Tryd.prog 31 #[.agg #[.int .i64 25, .string ⟨#[]⟩, .int .i64 0, .slice (some ⟨g, 0, none⟩) 2 2], .agg #[.int .i64 3, .slice (some ⟨X + 1, 0, none⟩) 2 2]] w (RetVE (.b false) w) := by
  have := eval_any (eW X) (eI g) w h.inW (tin2 (by decide) h0 h1 (eN_in _ _) (eA_in _ _) (four_lt h0)) h.s
  rw [eI_val] at this
  exact this
theorem evalC4 {X : Nat} {w : World} (h : SE X w) : Calls Tryd.prog 31 #[.agg #[.int .i64 3, .string ⟨#[]⟩, .int .i64 0, .slice (some ⟨X + 1 + 1 + 1 + 1 + 1 + 1 + 1, 0, none⟩) 1 1], .agg #[.int .i64 0, .slice none 0 0]] w (RetE 1 w) := by
  have := eval_any eZ (eC X) w (eZ_in _ _) h.inC h.s
  rw [eC_zero] at this
  exact this
theorem evalC5 {X : Nat} {w : World} (h : SE X w) : Calls Tryd.prog 27 #[.agg #[.int .i64 3, .slice (some ⟨X + 1, 0, none⟩) 2 2]] w (RetB true w) := by
  have := right_any (eW X) w h.inW
  rw [eW_right] at this
  exact this

set_option maxRecDepth 100000 in
set_option maxHeartbeats 4000000 in
theorem shownE (w : World) (hS : Shps w) :
    Calls Tryd.prog 26 #[] w (RetB true w) := by
  have S0 := seW_se w hS
  have B0 := seW_below w
  have hW : seW w = seW w := rfl
  conv at hW => lhs; unfold seW
  generalize seW w = W at *
  have X0 : Hid (SE w.heap.size W) := S0
  obtain ⟨w0, w1⟩ : TwoW W (w.heap.size + 1 + 1) (eW w.heap.size) := S0.bw
  obtain ⟨u0, u1, u2, u3⟩ := S0.bc
  have C1 := mkHid (evalC1 S0)
  simp only [eW, eC, t1, Tm.op, Tm.nm, Tm.n, Tm.a, Tm.ks, Tm.c, List.length_cons, List.length_nil, Nat.zero_add] at w0 w1 u0 u1 u2 u3
  clear hS S0
  go_enter Tryd.func26, Tryd.ntmps26
  go_wp2_with fail
  ((with_reducible refine C1.out.mono ?_)); rintro e w2 ⟨a1, c1, rfl, -, hb2⟩
  simp only [Vv.sort, Vv.n, Vv.bb, Vv.l, List.length_nil]
  clear w0 w1 u0 u1 u2 u3 hW C1
  have X2 := X0.out.later (bon hb2 (bel_alloc w2 (.cells #[.int .i64 1, .int .i64 3, .bool false, .slice a1 0 c1] 41)))
  have B2 := bon B0 (bon hb2 (bel_alloc w2 (.cells #[.int .i64 1, .int .i64 3, .bool false, .slice a1 0 c1] 41)))
  have V1 : FourV (w2.alloc (.cells #[.int .i64 1, .int .i64 3, .bool false, .slice a1 0 c1] 41)) w2.heap.size (.int .i64 1) (.int .i64 3) (.bool false) (.slice a1 0 c1) := by simp [FourV, go_sem]
  generalize hW2 : w2.alloc (.cells #[.int .i64 1, .int .i64 3, .bool false, .slice a1 0 c1] 41) = W2 at *
  have C2 := mkHid (evalC2 X2)
  obtain ⟨w0, w1⟩ := X2.bw
  simp only [eW, List.length_cons, List.length_nil, Nat.zero_add] at w0 w1
  go_wp2_with fail
  ((with_reducible refine C2.out.mono ?_)); rintro e w3 ⟨rfl, hb3⟩
  unfold zeroV
  clear w0 w1 hW2 C2
  have b4 := bon hb3 (bal (bal (Below.refl w3.heap.size w3) (.cells #[.int .i64 0, .int .i64 0, .bool false, .slice none 0 0] 41)) (.cells #[.int .i64 14, .string ⟨#[110]⟩, .int .i64 0, .slice none 0 0, .int .i64 7, .string ⟨#[97]⟩, .int .i64 0, .slice none 0 0] 24))
  have X3 := X2.later b4
  have B3 := bon B2 b4
  have V1 := V1.later b4
  have R0 : Four ((w3.alloc (.cells #[.int .i64 0, .int .i64 0, .bool false, .slice none 0 0] 41)).alloc (.cells #[.int .i64 14, .string ⟨#[110]⟩, .int .i64 0, .slice none 0 0, .int .i64 7, .string ⟨#[97]⟩, .int .i64 0, .slice none 0 0] 24)) (w3.heap.size + 1) 0 eN := by simp [Four, eN, t0, Tm.op, Tm.nm, Tm.n, Tm.a, Tm.ks, Tm.c, go_sem]
  have R1 : Four ((w3.alloc (.cells #[.int .i64 0, .int .i64 0, .bool false, .slice none 0 0] 41)).alloc (.cells #[.int .i64 14, .string ⟨#[110]⟩, .int .i64 0, .slice none 0 0, .int .i64 7, .string ⟨#[97]⟩, .int .i64 0, .slice none 0 0] 24)) (w3.heap.size + 1) 4 eA := by simp [Four, eA, t0, Tm.op, Tm.nm, Tm.n, Tm.a, Tm.ks, Tm.c, go_sem]
  have X2a := X2.later (bon hb3 (bel_alloc w3 (.cells #[.int .i64 0, .int .i64 0, .bool false, .slice none 0 0] 41)))
  have C3 := mkHid (evalC3 X3 R0 R1)
  obtain ⟨n0, n1, n2, n3⟩ := X2a.bn
  obtain ⟨a0, a1', a2, a3'⟩ := X2a.ba
  obtain ⟨w0, w1⟩ := X3.bw
  simp only [eW, eN, eA, t0, Tm.op, Tm.nm, Tm.n, Tm.a, Tm.ks, Tm.c, List.length_cons, List.length_nil, Nat.zero_add] at n0 n1 n2 n3 a0 a1' a2 a3' w0 w1
  have l1 := World.block_lt_of_cell? _ _ (X2.later hb3).bn.1
  have l2 := World.block_lt_of_cell? _ _ (X2.later hb3).ba.1
  have l3 := World.block_lt_of_cell? _ _ (X2.later hb3).bw.1
  simp only at l1 l2 l3
  go_wp2_with fail
  ((with_reducible refine C3.out.mono ?_)); rintro e w5 ⟨a3, c3, rfl, -, hb5⟩
  simp only [Vv.sort, Vv.n, Vv.bb, Vv.l, List.length_nil]
  clear n0 n1 n2 n3 a0 a1' a2 a3' w0 w1 C3 R0 R1 X2a l1 l2 l3
  have b6 := bon hb5 (bel_alloc w5 (.cells #[.int .i64 4, .int .i64 0, .bool false, .slice a3 0 c3] 41))
  have X5 := X3.later b6
  have B5 := bon B3 b6
  have V1 := V1.later b6
  have V3 : FourV (w5.alloc (.cells #[.int .i64 4, .int .i64 0, .bool false, .slice a3 0 c3] 41)) w5.heap.size (.int .i64 4) (.int .i64 0) (.bool false) (.slice a3 0 c3) := by simp [FourV, go_sem]
  have C4 := mkHid (evalC4 X5)
  obtain ⟨u0, u1, u2, u3⟩ := X5.bc
  simp only [eC, t1, Tm.op, Tm.nm, Tm.n, Tm.a, Tm.ks, Tm.c, List.length_cons, List.length_nil, Nat.zero_add] at u0 u1 u2 u3
  generalize hW5 : w5.alloc (.cells #[.int .i64 4, .int .i64 0, .bool false, .slice a3 0 c3] 41) = W5 at *
  go_wp2_with fail
  ((with_reducible refine C4.out.mono ?_)); rintro e w7 ⟨rfl, hb7⟩
  unfold zeroV
  clear u0 u1 u2 u3 hW5 C4
  have b8 := bon hb7 (bel_alloc w7 (.cells #[.int .i64 0, .int .i64 0, .bool false, .slice none 0 0] 41))
  have X7 := X5.later b8
  have B7 := bon B5 b8
  obtain ⟨v10, v11, v12, v13, -⟩ := V1.later b8
  obtain ⟨v30, v31, v32, v33, -⟩ := V3.later b8
  have C5 := mkHid (evalC5 X7)
  obtain ⟨w0, w1⟩ := X7.bw
  simp only [eW, List.length_cons, List.length_nil, Nat.zero_add] at w0 w1
  have l3 := World.block_lt_of_cell? _ _ (X5.later hb7).bw.1
  have l4 := World.block_lt_of_cell? _ _ (V1.later hb7).1
  have l5 := World.block_lt_of_cell? _ _ (V3.later hb7).1
  simp only at l3 l4 l5
  go_wp2_with fail
  ((with_reducible refine C5.out.mono ?_)); rintro e w9 ⟨rfl, hb9⟩
  go_wp2
  go_ret
  exact ⟨rfl, bon B7 hb9⟩
end Go.Proofs.YtlbknhedpjaelaaDoor
