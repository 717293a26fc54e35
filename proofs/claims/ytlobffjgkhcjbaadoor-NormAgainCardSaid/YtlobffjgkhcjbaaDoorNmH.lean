/-
  What the statements' 'shown' of norm answers: true.
-/
import Derived.Test.YtlobffjgkhcjbaaDoorNmG
import Derived.Test.YtlobffjgkhcjbaaDoorTmT
namespace Go.Proofs.YtlobffjgkhcjbaaDoor
open Go.RowKit

/-- terms that are the same without places are the same for the document -/
theorem eqT_er : ∀ a b : Tm, a.er = b.er → eqT a b = true := by
  intro a
  induction a using Tm.ind with
  | h a ih =>
    intro b h
    rw [er_eq, er_eq b] at h
    have h1 := congrArg Tm.op h
    have h2 := congrArg Tm.nm h
    have h3 := congrArg Tm.n h
    have h4 := congrArg Tm.ks h
    simp only [Tm.op, Tm.nm, Tm.n, Tm.ks] at h1 h2 h3 h4
    have hl : ∀ l l' : List Tm, (∀ k ∈ l, ∀ b, k.er = b.er → eqT k b = true) → l.map Tm.er = l'.map Tm.er → eqTs l l' = true := by
      intro l
      induction l with
      | nil =>
        intro l' _ h
        cases l' with
        | nil => rfl
        | cons x l' => simp at h
      | cons k l ihl =>
        intro l' hk h
        cases l' with
        | nil => simp at h
        | cons x l' =>
          simp only [List.map_cons, List.cons.injEq] at h
          simp only [eqTs, hk k (by simp) x h.1, ihl l' (fun q hq => hk q (by simp [hq])) h.2, Bool.and_self]
    rw [eqT_eq]
    have h4' : a.ks.map Tm.er = b.ks.map Tm.er := h4
    have e1 : (a.op == b.op) = true := beq_iff_eq.2 h1
    have e2 : (a.nm.toList == b.nm.toList) = true := beq_iff_eq.2 (congrArg ByteArray.toList h2)
    have e3 : (a.n == b.n) = true := beq_iff_eq.2 h3
    rw [e1, e2, e3, hl a.ks b.ks (fun k hk => ih k hk) h4']
    rfl
/-- the document's Same of two that are the same without places -/
theorem same_er {a b : Tm} {w : World} (ha : TIn w w.heap.size a) (hb : TIn w w.heap.size b) (h : a.er = b.er) (hd : a.deep ≤ 100) :
    Calls Tryd.prog 24 #[a.val, b.val] w (RetBo true w) := by
  have := rSame_any a b w ha hb
  have hb' : b.deep ≤ 100 := by rw [← er_deep b, ← h, er_deep]; exact hd
  rw [decide_eq_true hd, decide_eq_true hb', eqT_er a b h] at this
  exact this
theorem isB_er (t : Tm) : isB t.er = isB t := by unfold isB; rw [er_errR, er_srt, plB_er]

def vx : Tm := .node 2 ⟨#[120]⟩ 0 none 0 []
def vy : Tm := .node 2 ⟨#[121]⟩ 0 none 0 []
theorem v_in (w : World) (B : Nat) : TIn w B vx ∧ TIn w B vy :=
  ⟨.mk vx (by decide) (by decide) (by decide) (by decide) (by decide) (fun j h => by simp [vx, Tm.ks] at h) (fun k h => by simp [vx, Tm.ks] at h), .mk vy (by decide) (by decide) (by decide) (by decide) (by decide) (fun j h => by simp [vy, Tm.ks] at h) (fun k h => by simp [vy, Tm.ks] at h)⟩
theorem q2_in {w : World} {B g : Nat} {op : Int} {k0 k1 : Tm} (h1 : fitB op = true) (h : Four w g 0 k0) (h' : Four w g 4 k1) (hk : TIn w B k0) (hk' : TIn w B k1) (hg : g < B) : TIn w B (q2 op g k0 k1) :=
  .mk _ h1 (by show fitB 0 = true; decide) (by show (0 : Nat) ≤ _; omega) (by show (2 : Nat) ≤ 2; omega) (by show (2 : Nat) ≤ maxLen; decide)
    (fun j hj => by
      have : j = 0 ∨ j = 1 := by simp [q2, Tm.ks] at hj; omega
      rcases this with rfl | rfl
      · exact ⟨g, 0, rfl, hg, h⟩
      · exact ⟨g, 0, rfl, hg, h'⟩)
    (fun q hq => by
      simp only [q2, Tm.ks, List.mem_cons, List.not_mem_nil, or_false] at hq
      rcases hq with rfl | rfl
      · exact hk
      · exact hk')
theorem q1_in {w : World} {B g : Nat} {op : Int} {k0 : Tm} (h1 : fitB op = true) (h : Four w g 0 k0) (hk : TIn w B k0) (hg : g < B) : TIn w B (q1 op g k0) :=
  .mk _ h1 (by show fitB 0 = true; decide) (by show (0 : Nat) ≤ _; omega) (by show (1 : Nat) ≤ 1; omega) (by show (1 : Nat) ≤ maxLen; decide)
    (fun j hj => by
      have : j = 0 := by simp [q1, Tm.ks] at hj; omega
      subst this
      exact ⟨g, 0, rfl, hg, h⟩)
    (fun q hq => by
      simp only [q1, Tm.ks, List.mem_singleton] at hq
      subst hq; exact hk)
def sLt (g : Nat) : Tm := q2 23 g vx vy
def sNot (g : Nat) : Tm := q1 18 (g + 1) (sLt g)
theorem s_not (g : Nat) : normE (sNot g) = 0 := by kernel_rfl
theorem s_nn (g : Nat) : nn (sNot g) false = leT vy.er vx.er := by kernel_rfl
theorem s_vx : normE vx = 3 := by kernel_rfl
theorem s_le (g : Nat) : (q2 22 g vy vx).er = leT vy.er vx.er := q2_er _ _ _ _
theorem s_lt (g : Nat) : isB (sLt g) = false := by kernel_rfl
theorem s_is {z : Tm} (h : z.er = leT vy.er vx.er) : isB z = true ∧ z.deep ≤ 100 := by
  refine ⟨?_, ?_⟩
  · rw [← isB_er, h]; kernel_rfl
  · rw [← er_deep, h]; decide +kernel
/-- what lies in memory while 'shown' runs -/
structure SN (X : Nat) (w : World) : Prop where
  x : Four w X 0 vx
  y : Four w (X + 1) 0 vy
  s : Shps w
theorem SN.later {X : Nat} {w w' : World} (h : SN X w) (hb : Below w.heap.size w w') : SN X w' := ⟨h.x.later hb, h.y.later hb, h.s.later hb⟩
def snW (w : World) : World :=
  (((w.alloc (.cells #[.int .i64 2, .string ⟨#[120]⟩, .int .i64 0, .slice none 0 0] 24)).alloc
    (.cells #[.int .i64 2, .string ⟨#[121]⟩, .int .i64 0, .slice none 0 0] 24)).alloc
    (.cells #[.int .i64 2, .string ⟨#[120]⟩, .int .i64 0, .slice none 0 0, .int .i64 2, .string ⟨#[121]⟩, .int .i64 0, .slice none 0 0] 24)).alloc
    (.cells #[.int .i64 23, .string ⟨#[]⟩, .int .i64 0, .slice (some ⟨w.heap.size + 1 + 1, 0, none⟩) 2 2] 24)
theorem snW_below (w : World) : Below w.heap.size w (snW w) := bal (bal (bal (bal (Below.refl _ _) _) _) _) _
theorem snW_sn (w : World) (hS : Shps w) : SN w.heap.size (snW w) ∧ TIn (snW w) (snW w).heap.size (sNot (w.heap.size + 1 + 1)) := by
  refine ⟨⟨?_, ?_, hS.later (snW_below w)⟩, ?_⟩
  · simp [Four, snW, vx, Tm.op, Tm.nm, Tm.n, Tm.a, Tm.ks, Tm.c, go_sem]
  · simp [Four, snW, vy, Tm.op, Tm.nm, Tm.n, Tm.a, Tm.ks, Tm.c, go_sem]
  · have f1 : Four (snW w) (w.heap.size + 1 + 1) 0 vx := by simp [Four, snW, vx, Tm.op, Tm.nm, Tm.n, Tm.a, Tm.ks, Tm.c, go_sem]
    have f2 : Four (snW w) (w.heap.size + 1 + 1) 4 vy := by simp [Four, snW, vy, Tm.op, Tm.nm, Tm.n, Tm.a, Tm.ks, Tm.c, go_sem]
    have f3 : Four (snW w) (w.heap.size + 1 + 1 + 1) 0 (sLt (w.heap.size + 1 + 1)) := by simp [Four, snW, sLt, q2, Tm.op, Tm.nm, Tm.n, Tm.a, Tm.ks, Tm.c, go_sem]
    exact q1_in (by decide) f3 (q2_in (by decide) f1 f2 (v_in _ _).1 (v_in _ _).2 (World.block_lt_of_cell? _ _ f1.1)) (World.block_lt_of_cell? _ _ f3.1)
set_option maxRecDepth 100000 in
set_option maxHeartbeats 4000000 in
theorem shownN (w : World) (hS : Shps w) : Calls Tryd.prog 35 #[] w (RetBo true w) := by
  obtain ⟨S0, I0⟩ := snW_sn w hS
  have B0 := snW_below w
  have hW : snW w = snW w := rfl
  conv at hW => lhs; unfold snW
  have C1 := mkHid (norm_any (sNot (w.heap.size + 1 + 1)) (snW w) I0 S0.s)
  generalize snW w = W at *
  have X0 := mkHid S0
  obtain ⟨x0, x1, x2, x3⟩ := S0.x
  obtain ⟨y0, y1, y2, y3⟩ := S0.y
  simp only [sNot, q1, Tm.val, vx, vy, Tm.op, Tm.nm, Tm.n, Tm.a, Tm.ks, Tm.c, List.length_cons, List.length_nil, Nat.zero_add] at C1 x0 x1 x2 x3 y0 y1 y2 y3
  clear hS S0 I0
  go_enter Tryd.func35, Tryd.ntmps35
  go_wp2_with fail
  ((with_reducible refine C1.out.mono ?_)); rintro e w2 ⟨⟨z, rfl, zt, ze, -⟩, hb2⟩
  have HZE : Hid (z.er = leT vy.er vx.er) := (ze (s_not (w.heap.size + 1 + 1))).trans (s_nn _)
  have hne : normE (Tm.node 18 ⟨#[]⟩ 0 (some ⟨w.heap.size + 1 + 1 + 1, 0, none⟩) 1 [sLt (w.heap.size + 1 + 1)]) = 0 := s_not (w.heap.size + 1 + 1)
  rw [hne]
  clear hW C1 x0 x1 x2 x3 y0 y1 y2 y3 ze hne
  have b3 := bel_alloc w2 (boxT z)
  have F3 := box_four w2 z
  have hW3 : w2.alloc (.cells #[.int .i64 z.op, .string z.nm, .int .i64 z.n, .slice z.a z.ks.length z.c] 24) = w2.alloc (boxT z) := rfl
  have S3 := X0.out.later (bon hb2 b3)
  have C2 := mkHid (norm_any vx (w2.alloc (boxT z)) (v_in _ _).1 S3.s)
  have zt3 := mkHid (zt.later b3)
  unfold Tm.val
  generalize w2.alloc (boxT z) = W3 at *
  obtain ⟨x0, x1, x2, x3⟩ := S3.x
  simp only [Tm.val, vx, Tm.op, Tm.nm, Tm.n, Tm.a, Tm.ks, Tm.c, List.length_nil, Nat.zero_add] at C2 x0 x1 x2 x3
  have XS3 := mkHid S3
  have HF3 := mkHid F3
  clear S3 F3 zt X0
  go_wp2_with fail
  ((with_reducible refine C2.out.mono ?_)); rintro e w4 ⟨⟨u, rfl, ut, -, ue⟩, hb4⟩
  have hv : normE (Tm.node 2 ⟨#[120]⟩ 0 none 0 []) = 3 := s_vx
  obtain rfl := ue (by rw [hv]; decide)
  rw [hv]
  clear C2 ue ut hW3 x0 x1 x2 x3 hv
  have b5 := bel_alloc w4 (.cells #[.int .i64 0, .string ⟨#[]⟩, .int .i64 0, .slice none 0 0] 24)
  have hq0 : (q0 0).val = .agg #[.int .i64 0, .string ⟨#[]⟩, .int .i64 0, .slice none 0 0] := rfl
  rw [hq0]
  clear hq0
  have b6 := bel_alloc (w4.alloc (.cells #[.int .i64 0, .string ⟨#[]⟩, .int .i64 0, .slice none 0 0] 24)) (.cells #[.int .i64 2, .string ⟨#[121]⟩, .int .i64 0, .slice none 0 0, .int .i64 2, .string ⟨#[120]⟩, .int .i64 0, .slice none 0 0] 24)
  have F6 : Hid (Four ((w4.alloc (.cells #[.int .i64 0, .string ⟨#[]⟩, .int .i64 0, .slice none 0 0] 24)).alloc (.cells #[.int .i64 2, .string ⟨#[121]⟩, .int .i64 0, .slice none 0 0, .int .i64 2, .string ⟨#[120]⟩, .int .i64 0, .slice none 0 0] 24)) (w4.heap.size + 1) 0 vy ∧ Four ((w4.alloc (.cells #[.int .i64 0, .string ⟨#[]⟩, .int .i64 0, .slice none 0 0] 24)).alloc (.cells #[.int .i64 2, .string ⟨#[121]⟩, .int .i64 0, .slice none 0 0, .int .i64 2, .string ⟨#[120]⟩, .int .i64 0, .slice none 0 0] 24)) (w4.heap.size + 1) 4 vx) := by have h := build2 (w4.alloc (.cells #[.int .i64 0, .string ⟨#[]⟩, .int .i64 0, .slice none 0 0] 24)) vy vx; rw [World.size_alloc] at h; exact h
  have S5 := XS3.out.later (bon hb4 b5)
  obtain ⟨x0, x1, x2, x3⟩ := S5.x
  obtain ⟨y0, y1, y2, y3⟩ := S5.y
  obtain ⟨z0, z1, z2, z3⟩ := HF3.out.later (bon hb4 b5)
  simp only [vx, vy, Tm.op, Tm.nm, Tm.n, Tm.a, Tm.ks, Tm.c, List.length_nil, Nat.zero_add] at x0 x1 x2 x3 y0 y1 y2 y3
  simp only [Nat.zero_add] at z1 z2 z3
  have l1 := World.block_lt_of_cell? _ _ (XS3.out.later hb4).x.1
  have l2 := World.block_lt_of_cell? _ _ (XS3.out.later hb4).y.1
  have l3 := World.block_lt_of_cell? _ _ (HF3.out.later hb4).1
  simp only at l1 l2 l3
  have B56 := bon (bon hb4 b5) b6
  generalize hW6 : (w4.alloc (.cells #[.int .i64 0, .string ⟨#[]⟩, .int .i64 0, .slice none 0 0] 24)).alloc (.cells #[.int .i64 2, .string ⟨#[121]⟩, .int .i64 0, .slice none 0 0, .int .i64 2, .string ⟨#[120]⟩, .int .i64 0, .slice none 0 0] 24) = W6 at *
  have HI := s_is HZE.out
  have C3 : Hid (Calls Tryd.prog 24 #[.agg #[.int .i64 z.op, .string z.nm, .int .i64 z.n, .slice z.a z.ks.length z.c], .agg #[.int .i64 22, .string ⟨#[]⟩, .int .i64 0, .slice (some ⟨w4.heap.size + 1, 0, none⟩) 2 2]] W6 (RetBo true W6)) := mkHid (same_er (a := z) (b := q2 22 (w4.heap.size + 1) vy vx) (w := W6) (zt3.out.later B56) (q2_in (op := 22) (by decide) F6.out.1 F6.out.2 (v_in W6 _).2 (v_in W6 _).1 (World.block_lt_of_cell? _ _ F6.out.1.1)) (HZE.out.trans (s_le (w4.heap.size + 1)).symm) HI.2)
  have HI' := mkHid HI.1
  clear HI F6
  have XS5 := mkHid S5
  clear S5
  go_wp2_with fail
  ((with_reducible refine C3.out.mono ?_)); rintro e w7 ⟨rfl, hb7⟩
  have B7 := bon B56 hb7
  clear x0 x1 x2 x3 y0 y1 y2 y3 z0 z1 z2 z3 l1 l2 l3 hW6 C3
  obtain ⟨z0, z1, z2, z3⟩ := HF3.out.later B7
  simp only [Nat.zero_add] at z1 z2 z3
  have S7 := XS3.out.later B7
  have C4 := mkHid (is_any z w7 (zt3.out.later B7) S7.s)
  rw [HI'.out] at C4
  unfold Tm.val at C4
  have XS7 := mkHid S7
  clear S7 HI'
  go_wp2_with fail
  ((with_reducible refine C4.out.mono ?_)); rintro e w8 ⟨rfl, hb8⟩
  have B8 := bon B7 hb8
  clear z0 z1 z2 z3 C4
  have S8 := XS3.out.later B8
  obtain ⟨x0, x1, x2, x3⟩ := S8.x
  obtain ⟨y0, y1, y2, y3⟩ := S8.y
  simp only [vx, vy, Tm.op, Tm.nm, Tm.n, Tm.a, Tm.ks, Tm.c, List.length_nil, Nat.zero_add] at x0 x1 x2 x3 y0 y1 y2 y3
  have b9 := bel_alloc w8 (.cells #[.int .i64 2, .string ⟨#[120]⟩, .int .i64 0, .slice none 0 0, .int .i64 2, .string ⟨#[121]⟩, .int .i64 0, .slice none 0 0] 24)
  have F9 : Hid (Four (w8.alloc (.cells #[.int .i64 2, .string ⟨#[120]⟩, .int .i64 0, .slice none 0 0, .int .i64 2, .string ⟨#[121]⟩, .int .i64 0, .slice none 0 0] 24)) w8.heap.size 0 vx ∧ Four (w8.alloc (.cells #[.int .i64 2, .string ⟨#[120]⟩, .int .i64 0, .slice none 0 0, .int .i64 2, .string ⟨#[121]⟩, .int .i64 0, .slice none 0 0] 24)) w8.heap.size 4 vy) := build2 w8 vx vy
  generalize hW9 : w8.alloc (.cells #[.int .i64 2, .string ⟨#[120]⟩, .int .i64 0, .slice none 0 0, .int .i64 2, .string ⟨#[121]⟩, .int .i64 0, .slice none 0 0] 24) = W9 at *
  have C5 := mkHid (is_any (sLt w8.heap.size) W9 (q2_in (op := 23) (by decide) F9.out.1 F9.out.2 (v_in W9 _).1 (v_in W9 _).2 (World.block_lt_of_cell? _ _ F9.out.1.1)) (S8.s.later b9))
  rw [s_lt] at C5
  simp only [Tm.val, sLt, q2, Tm.op, Tm.nm, Tm.n, Tm.a, Tm.ks, Tm.c, List.length_cons, List.length_nil, Nat.zero_add, Nat.reduceAdd] at C5
  clear S8 F9
  go_wp2_with fail
  ((with_reducible refine C5.out.mono ?_)); rintro e w10 ⟨rfl, hb10⟩
  clear x0 x1 x2 x3 y0 y1 y2 y3 hW9 C5
  go_wp2
  go_ret
  exact ⟨rfl, bon (bon (bon (bon (bon B0 hb2) b3) B8) b9) hb10⟩
end Go.Proofs.YtlobffjgkhcjbaaDoor
