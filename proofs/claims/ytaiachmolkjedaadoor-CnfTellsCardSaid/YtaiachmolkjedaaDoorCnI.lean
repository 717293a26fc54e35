/-
  What package cnf's 'literal' does: the literal of a right bool, and its clauses.
-/
import Derived.Test.YtaiachmolkjedaaDoorCnH
import Derived.Test.YtaiachmolkjedaaDoorCnN
namespace Go.Proofs.YtaiachmolkjedaaDoor
open Go.RowKit

/-- a row of atoms that stands below block F -/
def AtF (w : World) (F : Nat) (va : Value) (A : List Tm) : Prop := ∃ a c, va = .slice a A.length c ∧ A.length ≤ 2000 ∧ (∀ j (h : j < A.length), ∃ b o, a = some ⟨b, o, none⟩ ∧ b < F ∧ Four w b (o + j * 4) A[j]) ∧ ∀ x ∈ A, TIn w F x ∧ x.size ≤ 2000 ∧ x.deep ≤ 100
theorem AtF.keep {w w' : World} {F : Nat} {va : Value} {A : List Tm} (h : AtF w F va A) (hb : Below F w w') : AtF w' F va A := by
  obtain ⟨a, c, e, hl, hr, hx⟩ := h
  refine ⟨a, c, e, hl, fun j hj => ?_, fun x hx' => ⟨(hx x hx').1.keep hb, (hx x hx').2⟩⟩
  obtain ⟨b, o, e, hb1, f⟩ := hr j hj
  exact ⟨b, o, e, hb1, f.keep hb hb1⟩
theorem AtF.row {w : World} {F : Nat} {va : Value} {A : List Tm} (h : AtF w F va A) (hF : F ≤ w.heap.size) : Row4 w va A := by
  obtain ⟨a, c, e, hl, hr, hx⟩ := h
  refine ⟨a, c, e, by unfold maxLen; omega, fun j hj => ?_⟩
  obtain ⟨b, o, e, hb1, f⟩ := hr j hj
  exact ⟨b, o, e, by omega, f⟩
theorem AtF.els {w : World} {F : Nat} {va : Value} {A : List Tm} (h : AtF w F va A) (hF : F ≤ w.heap.size) : ∀ x ∈ A, TIn w w.heap.size x ∧ x.size ≤ 2000 ∧ x.deep ≤ 100 := by
  obtain ⟨a, c, e, hl, hr, hx⟩ := h
  exact fun x hx' => ⟨(hx x hx').1.mono hF, (hx x hx').2⟩
theorem Gr.atF {S : Nat → Prop} {F base : Nat} {w w' : World} {v v' : Value} (h : Gr S w v w' v') (hs : ∀ k, S k → F ≤ k) (hv : ∀ k, v.ownBlock = some k → base ≤ k) (hF : F < base) (hbw : base ≤ w.heap.size) : Below F w w' :=
  h.below hs (fun k e => by have := hv k e; omega) (by omega)
theorem DI.drop {F g base : Nat} {va v v' : Value} {n : Int} {w W w' : World} {us us1 : List Value} {C' : List (List Int)} (hb : Below w.heap.size w W) (hg : w.heap.size ≤ g) (h : DI (fun k => k = F ∨ k = g) F base va n W v us w' v' C' us1) : DI (· = F) F base va n w v us w' v' C' us1 := by
  have h1 := DI.first hb h
  refine ⟨⟨h1.gr.os, h1.gr.tape, h1.gr.output, h1.gr.size, fun k hk hn hv => h1.gr.block k hk (fun e => ?_) hv, h1.gr.own⟩, h1.box, h1.rows, h1.new⟩
  rcases e with e | e
  · exact hn e
  · omega
theorem lb_fit {x : Int} {n : Nat} (h : lb x n) (hn : n ≤ 100000) : fit x := by
  obtain ⟨h1, h2⟩ := h
  exact ⟨by omega, by omega⟩
/-- what 'literal' does -/
def LitP (F base : Nat) (va v : Value) (A : List Tm) (t : Tm) (m : Nat) (C : List (List Int)) (us : List Value) (w : World) (e : Ending) (w' : World) : Prop :=
  e = .returned (.int .i64 (lit A t m)) ∧ ∃ v' us1, DI (· = F) F base va ((m + hlp t : Nat) : Int) w v us w' v' (C ++ cls A t m) us1
theorem jcls_take (ks : List Tm) (k : Nat) : jcls (ks.take k) ≤ jcls ks := by
  have e : ∀ a b : List Tm, jcls (a ++ b) = jcls a + jcls b := by
    intro a b
    induction a with
    | nil => simp [jcls]
    | cons x a ih => simp only [List.cons_append, jcls, ih]; omega
  have := e (ks.take k) (ks.drop k)
  rw [List.take_append_drop] at this
  omega
theorem clss_len (A : List Tm) : ∀ (ks : List Tm) (m : Nat), (clss A ks m).length = jcls ks
  | [], _ => rfl
  | k :: ks, m => by simp only [clss, jcls, List.length_append, cls_len, clss_len A ks]
set_option maxRecDepth 100000 in
set_option maxHeartbeats 4000000 in
theorem lit_atom (A : List Tm) (t : Tm) (F base : Nat) (va v : Value) (m : Nat) (C : List (List Int)) (us : List Value) (w : World) (hF : F < base) (hbw : base ≤ w.heap.size) (hC : CRows w base v C us) (hf : FBox w F va (m : Int) v) (hA : AtF w F va A) (hin : TIn w F t) (_hs4 : t.srt = 4) (hcov : cov A t = true) (hAm : A.length ≤ m) (hm : m + hlp t ≤ 50000) (_hcl : C.length + jcl t ≤ 40000) (_hz : t.size ≤ 2000) (hj : jnB t.op = false) :
    Calls Tryd.prog 65 #[.pointer (some ⟨F, 0, none⟩), t.val] w (LitP F base va v A t m C us w) := by
  have hb1 := bel_alloc w (boxT t)
  have f4 := box_four w t
  have hW : w.alloc (.cells #[.int .i64 t.op, .string t.nm, .int .i64 t.n, .slice t.a t.ks.length t.c] 24) = w.alloc (boxT t) := rfl
  have hFw : F ≤ w.heap.size := by omega
  have hd : dfB t.op = false := by unfold dfB; rw [hj]; rfl
  have HDF := mkHid (fun w => defined_any t.op w)
  rw [hd] at HDF
  have h18 : (t.op == 18) = false := by
    rw [beq_eq_false_iff_ne]; intro e; rw [e] at hj; exact absurd hj (by decide)
  have hhas : has A t = true := by
    rw [cov_eq, if_neg (by rw [hj]; simp)] at hcov
    exact hcov
  have hpl : plc A t = (fnd A t : Int) := by unfold plc; rw [if_pos hhas]
  have hfn : fnd A t < A.length := (has_iff A t).1 hhas
  have hA1 := hA.keep (hb1.mono hFw)
  have hFw1 : F ≤ (w.alloc (boxT t)).heap.size := Nat.le_trans hFw hb1.size
  have HPC := mkHid (place_any A t va (w.alloc (boxT t)).drew ((hA1.row hFw1).later (bdrew (Below.refl _ _))) (fun x hx => ⟨(hA1.els hFw1 x hx).1.later (bdrew (Below.refl _ _)), (hA1.els hFw1 x hx).2⟩) ((hin.mono hFw).later (bdrew hb1)))
  rw [hpl] at HPC
  have D0 := mkHid (DI.refl (S := (· = F)) hf hC)
  have HE : Hid (lit A t m = (fnd A t : Int) + 1 ∧ hlp t = 0 ∧ cls A t m = []) := by
    refine ⟨?_, ?_, ?_⟩
    · rw [lit_eq, if_neg (by rw [hj]; simp)]; omega
    · rw [hlp_eq, if_neg (by rw [hj]; simp)]
    · rw [cls_eq, if_neg (by rw [hj]; simp)]
  have cF := cell_later hb1 hf.c0
  have hsA : A.length ≤ 2000 := by obtain ⟨a, c, e, hl, -⟩ := hA; exact hl
  have HB1 := mkHid hb1
  clear hC hf hA hin _hs4 hcov hA1 hd hpl hhas hj
  generalize fnd A t = fn at *
  have hwr : IntKind.i64.wrap ((fn : Int) + 1) = (fn : Int) + 1 := by rw [IntKind.wrap_i64]; omega
  generalize w.alloc (boxT t) = W at *
  obtain ⟨f0, f1, f2, f3⟩ := f4
  simp only [Nat.zero_add] at f1 f2 f3
  unfold Tm.val at *
  go_enter Tryd.func65, Tryd.ntmps65
  go_wp2_with (go_at_call 85; ((with_reducible refine (HDF.out _).mono ?_)); rintro e w1 ⟨rfl, hw1⟩; subst w1)
  go_region_held2 (fun w' => w'.cell? ⟨F, 0, none⟩ = some va ∧ w'.cell? ⟨w.heap.size, 0, none⟩ = some (.int .i64 t.op) ∧ w'.cell? ⟨w.heap.size, 1, none⟩ = some (.string t.nm) ∧ w'.cell? ⟨w.heap.size, 2, none⟩ = some (.int .i64 t.n) ∧ w'.cell? ⟨w.heap.size, 3, none⟩ = some (.slice t.a t.ks.length t.c)) (first | exact ⟨cF, f0, f1, f2, f3⟩ | exact ⟨cell_later (w := W.drew) hb2 cF, cell_later (w := W.drew) hb2 f0, cell_later (w := W.drew) hb2 f1, cell_later (w := W.drew) hb2 f2, cell_later (w := W.drew) hb2 f3⟩) ((go_at_call 86; (with_reducible refine HPC.out.mono ?_); rintro e w2 ⟨rfl, hb2⟩))
  have hfin := (D0.out.later (bon (bdrew HB1.out) hb2))
  go_wp2
  go_ret
  obtain ⟨e1, e2, e3⟩ := HE.out
  refine ⟨by rw [e1]; rfl, v, [], ?_⟩
  rw [e2, e3, List.append_nil, Nat.add_zero]
  exact hfin
set_option maxRecDepth 100000 in
set_option maxHeartbeats 4000000 in
theorem lit_not (A : List Tm) (t : Tm) (F base : Nat) (va v : Value) (m : Nat) (C : List (List Int)) (us : List Value) (w : World) (hF : F < base) (hbw : base ≤ w.heap.size) (hC : CRows w base v C us) (hf : FBox w F va (m : Int) v) (hA : AtF w F va A) (hin : TIn w F t) (_hs4 : t.srt = 4) (hcov : cov A t = true) (hAm : A.length ≤ m) (hm : m + hlp t ≤ 50000) (_hcl : C.length + jcl t ≤ 40000) (_hz : t.size ≤ 2000) (h18 : t.op = 18) (ih : ∀ k ∈ t.ks, ∀ (v : Value) (m : Nat) (C : List (List Int)) (us : List Value) (w : World), base ≤ w.heap.size → CRows w base v C us → FBox w F va (m : Int) v → AtF w F va A → TIn w F k → k.srt = 4 → cov A k = true → A.length ≤ m → m + hlp k ≤ 50000 → C.length + jcl k ≤ 40000 → k.size ≤ 2000 → Calls Tryd.prog 65 #[.pointer (some ⟨F, 0, none⟩), k.val] w (LitP F base va v A k m C us w)) :
    Calls Tryd.prog 65 #[.pointer (some ⟨F, 0, none⟩), t.val] w (LitP F base va v A t m C us w) := by
  have hb1 := bel_alloc w (boxT t)
  have f4 := box_four w t
  have hW : w.alloc (.cells #[.int .i64 t.op, .string t.nm, .int .i64 t.n, .slice t.a t.ks.length t.c] 24) = w.alloc (boxT t) := rfl
  have hFw : F ≤ w.heap.size := by omega
  have hj : jnB t.op = true := by rw [h18]; rfl
  obtain ⟨u, hk, hu, -⟩ := nform1 18 (by omega : t.srt ≠ 0) h18 rfl rfl
  have hu4 : u.srt = 4 := hu
  have hkl : t.ks.length = 1 := by rw [hk]; rfl
  obtain ⟨kin, b, o, ha, hbl, kf⟩ := hin.kid 0 (by omega)
  have ek : t.ks[0]'(by omega) = u := by simp [hk]
  rw [ek] at kin kf
  obtain ⟨a1, a2, a3, a4, a5⟩ := not_all h18 hk
  have hsz := Tm.size_eq t
  rw [hk] at hsz
  simp only [Tm.sizes] at hsz
  have hcov' : cov A u = true := by
    rw [cov_eq, if_pos hj, hk] at hcov
    simpa [covs] using hcov
  have D1 := mkHid ((DI.refl (S := (· = F)) hf hC).later hb1)
  have HC := mkHid (ih u (by rw [hk]; simp) v m C us (w.alloc (boxT t)) (Nat.le_trans hbw hb1.size) (hC.later hb1) (hf.later hb1) (hA.keep (hb1.mono hFw)) (kin.keep (hb1.mono hFw)) hu4 hcov' hAm (by omega) (by omega) (by omega))
  have HLB := lit_lb u hu4 hcov' m hAm
  have hb1' : -9223372036854775808 ≤ -lit A u m := by obtain ⟨h1, h2⟩ := HLB; omega
  have hb2' : -lit A u m ≤ 9223372036854775807 := by obtain ⟨h1, h2⟩ := HLB; omega
  have HE : Hid (lit A t m = - lit A u m ∧ hlp t = hlp u ∧ cls A t m = cls A u m) := ⟨a4 A m, a2, a3 A m⟩
  have kf1 := (kf.keep (hb1.mono hFw) hbl)
  clear hC hf hA hin _hs4 hcov hj hk ek ih kin kf a1 a2 a3 a4 a5
  rw [hkl] at hW
  rw [Four, hkl] at f4
  generalize w.alloc (boxT t) = W at *
  obtain ⟨f0, f1, f2, f3⟩ := f4
  obtain ⟨g0, g1, g2, g3⟩ := kf1
  simp only [Nat.zero_add, Nat.zero_mul, Nat.add_zero] at f1 f2 f3 g0 g1 g2 g3
  unfold Tm.val at *
  unfold LitP at HC
  generalize lit A u m = lu at *
  rw [ha] at hW f3 ⊢
  rw [hkl, h18] at *
  clear h18 HLB hkl ha
  go_enter Tryd.func65, Tryd.ntmps65
  go_wp2_with (go_at_call 65; ((with_reducible refine HC.out.mono ?_)); rintro e w1 ⟨rfl, v', us1, hd⟩)
  have hfin := D1.out.trans (by simpa using hd)
  go_wp2
  go_ret
  obtain ⟨e1, e2, e3⟩ := HE.out
  refine ⟨by rw [e1]; rfl, v', [] ++ us1, ?_⟩
  rw [e2, e3]
  exact hfin
set_option maxRecDepth 100000 in
set_option maxHeartbeats 4000000 in
theorem lit_def (A : List Tm) (t : Tm) (F base : Nat) (va v : Value) (m : Nat) (C : List (List Int)) (us : List Value) (w : World) (hF : F < base) (hbw : base ≤ w.heap.size) (hC : CRows w base v C us) (hf : FBox w F va (m : Int) v) (hA : AtF w F va A) (hin : TIn w F t) (_hs4 : t.srt = 4) (hcov : cov A t = true) (hAm : A.length ≤ m) (hm : m + hlp t ≤ 50000) (_hcl : C.length + jcl t ≤ 40000) (_hz : t.size ≤ 2000) (hd : dfB t.op = true) (ih : ∀ k ∈ t.ks, ∀ (v : Value) (m : Nat) (C : List (List Int)) (us : List Value) (w : World), base ≤ w.heap.size → CRows w base v C us → FBox w F va (m : Int) v → AtF w F va A → TIn w F k → k.srt = 4 → cov A k = true → A.length ≤ m → m + hlp k ≤ 50000 → C.length + jcl k ≤ 40000 → k.size ≤ 2000 → Calls Tryd.prog 65 #[.pointer (some ⟨F, 0, none⟩), k.val] w (LitP F base va v A k m C us w)) :
    Calls Tryd.prog 65 #[.pointer (some ⟨F, 0, none⟩), t.val] w (LitP F base va v A t m C us w) := by
  have hb1 := bel_alloc w (boxT t)
  have f4 := box_four w t
  have hW : w.alloc (.cells #[.int .i64 t.op, .string t.nm, .int .i64 t.n, .slice t.a t.ks.length t.c] 24) = w.alloc (boxT t) := rfl
  have hX1 : (w.alloc (boxT t)).heap.size = w.heap.size + 1 := by simp
  have hFw : F ≤ w.heap.size := by omega
  have hj : jnB t.op = true := by unfold dfB at hd; simp only [Bool.and_eq_true] at hd; exact hd.1
  have hop := (dfB_iff t.op).1 hd
  have h18 : (t.op == 18) = false := by
    rw [beq_eq_false_iff_ne]; intro e; rw [e] at hd; exact absurd hd (by decide)
  have n18 : t.op ≠ 18 := by omega
  have HDF := mkHid (fun w => defined_any t.op w)
  rw [hd] at HDF
  have hks4 : ∀ k ∈ t.ks, k.srt = 4 := by
    rcases hop with e | e | e | e | e
    · rw [(nform0 16 (by omega) e rfl rfl).1]; simp
    · rw [(nform0 17 (by omega) e rfl rfl).1]; simp
    · exact (nformM 19 (by omega) e rfl).1
    · exact (nformM 20 (by omega) e rfl).1
    · obtain ⟨u, v, hk, hu, hv, -⟩ := nform2 21 (by omega) e rfl rfl
      rw [hk]; intro k hk'
      simp only [List.mem_cons, List.not_mem_nil, or_false] at hk'
      rcases hk' with rfl | rfl
      · exact hu
      · exact hv
  have hpos : t.op = 21 → 0 < t.ks.length := fun e => by
    obtain ⟨u, v, hk, -⟩ := nform2 21 (by omega) e rfl rfl
    rw [hk]; simp
  have hcovs : ∀ k ∈ t.ks, cov A k = true := by
    rw [cov_eq, if_pos hj] at hcov
    exact (covs_all A t.ks).1 hcov
  have hE1 : hlp t = hlps t.ks + 1 := by rw [hlp_eq, if_pos hj, if_neg n18]; omega
  have hE2 : jcl t = t.ks.length + 1 + jcls t.ks := by rw [jcl_eq, if_pos hj, if_neg n18]
  have HE : Hid (lit A t m = ((m + hlps t.ks + 1 : Nat) : Int) ∧ cls A t m = clss A t.ks m ++ cdef t.op ((m + hlps t.ks + 1 : Nat) : Int) (lits A t.ks m)) := by
    refine ⟨?_, ?_⟩
    · rw [lit_eq, if_pos hj, if_neg n18]
    · rw [cls_eq, if_pos hj, if_neg n18]
  have hsz := Tm.size_eq t
  have hkl : t.ks.length ≤ 2000 := by
    have := len_sizes t.ks
    omega
  obtain ⟨cs, hcs1, hcs2, hmk⟩ := made_ints t.ks.length (by omega)
  have hb2 := bel_alloc (w.alloc (boxT t)) (.cells cs 3)
  have HR0 : LRow ((w.alloc (boxT t)).alloc (.cells cs 3)) (w.heap.size + 1) (w.heap.size + 1) t.ks.length (List.replicate t.ks.length 0) := by
    have := World.ownsRow_lit (base := w.heap.size + 1) (size := 1) (e := 3) (w.alloc (boxT t)) cs t.ks.length (by omega) (by unfold maxLen; omega) hcs1
    rw [hcs2, hX1] at this
    exact this
  have hX2 : ((w.alloc (boxT t)).alloc (.cells cs 3)).heap.size = w.heap.size + 2 := by simp
  have HB2 := mkHid (bon hb1 hb2)
  have hbF : Below F w ((w.alloc (boxT t)).alloc (.cells cs 3)) := HB2.out.mono hFw
  have D0 := mkHid (DI.refl (S := fun k => k = F ∨ k = w.heap.size + 1) (hf.later HB2.out) (hC.later HB2.out))
  have HA := mkHid (hA.keep hbF)
  have HIN := mkHid hin
  have HBF := mkHid hbF
  have IHH := mkHid ih
  have HK4 := mkHid hks4
  have HKC := mkHid hcovs
  have HOP := mkHid hop
  have HPO := mkHid hpos
  have HLB : Hid (∀ x ∈ lits A t.ks m, fit x) := fun x hx => lb_fit (lits_lb A t.ks m (fun k hk m hm => lit_lb k (hks4 k hk) (hcovs k hk) m hm) hAm x hx) (by omega)
  have HV : Hid (∀ g, v.ownBlock = some g → base ≤ g ∧ g < w.heap.size) := fun g e => own_lt hC.row e
  have HUS : Hid (∀ u ∈ us, ∀ k, u.ownBlock = some k → k < w.heap.size) := fun u hu k e => by
    obtain ⟨i, hi, rfl⟩ := List.getElem_of_mem hu
    exact (own_lt (hC.els i (by rw [← hC.len]; exact hi) hi) e).2
  have hX := mkHid hX2
  have f4b := f4.later hb2
  have HR0 := mkHid HR0
  clear hC hf hA hin _hs4 hcov hj ih hd hop hks4 hcovs hpos n18 hbF hcs1 hcs2 hb1 hb2 hX2
  unfold Tm.val
  obtain ⟨n, hn⟩ : ∃ n, t.ks.length = n := ⟨_, rfl⟩
  have HN := mkHid hn
  have F4 := mkHid f4b
  rw [Four, hn] at f4 f4b
  rw [hn] at hkl hmk hW hE2 HR0 HPO ⊢
  clear hn
  have hn9 : n ≤ 9223372036854775807 := by omega
  have hmkW := hmk (w.alloc (boxT t))
  rw [hX1] at hmkW
  clear hmk
  generalize hW2 : (w.alloc (boxT t)).alloc (.cells cs 3) = W2 at *
  generalize w.alloc (boxT t) = W at *
  obtain ⟨f0, f1, f2, f3⟩ := f4
  obtain ⟨k0, k1, k2, k3⟩ := f4b
  simp only [Nat.zero_add] at f1 f2 f3 k1 k2 k3
  go_enter Tryd.func65, Tryd.ntmps65
  go_wp2_with (go_at_call 85; ((with_reducible refine (HDF.out _).mono ?_)); rintro e w1 ⟨rfl, hw1⟩; subst w1)
  clear f0 f1 f2 f3 k0 k1 k2 k3 hW hmkW hW2 HDF
  go_loopw [38] (fun i w' => ∃ (k : Nat) (x : Int) (v1 : Value) (us1 : List Value), i = .int .i64 x ∧ x = k ∧ k ≤ n ∧ Hid (DI (fun k => k = F ∨ k = w.heap.size + 1) F base va ((m + hlps (t.ks.take k) : Nat) : Int) W2 v us w' v1 (C ++ clss A (t.ks.take k) m) us1) ∧ Hid (LRow w' (w.heap.size + 1) (w.heap.size + 1) n (lits A (t.ks.take k) m ++ List.replicate (n - k) 0))) (fun i _ => (n - intOf i).toNat)
  case atStart => exact ⟨0, 0, v, [], rfl, rfl, Nat.zero_le _, mkHid (by simpa [clss, hlps] using D0.out), mkHid (by simpa [lits] using HR0.out)⟩
  case round =>
    obtain ⟨k, x, v1, us1, rfl, hxk, hk, HD, HR⟩ := hrel
    obtain rfl : x = (k : Int) := hxk
    have hll : (lits A (t.ks.take k) m).length = k := by rw [lits_len, List.length_take, HN.out]; omega
    have szW := HD.out.gr.size
    have szw := HB2.out.size
    have hX' := hX.out
    have bF2 : Below F W2 wr := HD.out.gr.atF (fun q e => by rcases e with e | e <;> omega) (fun q e => (HV.out q e).1) hF (by omega)
    have hug : Hid (∀ u ∈ us ++ us1, ∀ k, u.ownBlock = some k → k ≠ w.heap.size + 1) := fun u hu q e => by
      rcases List.mem_append.1 hu with hu | hu
      · have := HUS.out u hu q e; omega
      · have := HD.out.new u hu q e; omega
    have hXv : some w.heap.size ≠ v.ownBlock := fun e => by have := HV.out _ e.symm; omega
    have x4 := HD.out.gr.four F4.out (by show ¬ (w.heap.size = F ∨ w.heap.size = w.heap.size + 1); omega) hXv
    have hLb := lits_lb A (t.ks.take k) m
    by_cases hlt : k < n
    · have hk' : k < t.ks.length := by rw [HN.out]; exact hlt
      obtain ⟨kin, b, o, ha, hbl, kf⟩ := HIN.out.kid k hk'
      have bB0 : Below F w wr := HBF.out.trans bF2
      have kin' := kin.keep bB0
      have kf' := kf.keep bB0 hbl
      have hb2 := bel_alloc wr (boxT t.ks[k])
      have g4 := box_four wr t.ks[k]
      have hle := sizes_take_le t.ks (k + 1)
      rw [take_succ_sizes t.ks k hk'] at hle
      have hhl := hlps_take_le t.ks (k + 1)
      rw [hlps_take hk'] at hhl
      have hjl := jcls_take t.ks (k + 1)
      rw [show jcls (t.ks.take (k + 1)) = jcls (t.ks.take k) + jcl t.ks[k] by rw [← clss_len A _ 0, ← clss_len A _ 0, clss_take A hk', List.length_append, cls_len]] at hjl
      have hbb : base ≤ (wr.alloc (boxT t.ks[k])).heap.size := by have := hb2.size; omega
      have HD1 := mkHid (HD.out.later hb2)
      have HC := mkHid (IHH.out t.ks[k] (List.getElem_mem _) v1 (m + hlps (t.ks.take k)) (C ++ clss A (t.ks.take k) m) (us ++ us1) (wr.alloc (boxT t.ks[k])) hbb HD1.out.rows HD1.out.box ((HA.out.keep bF2).keep (hb2.mono (by omega))) (kin'.keep (hb2.mono (by omega))) (HK4.out _ (List.getElem_mem _)) (HKC.out _ (List.getElem_mem _)) (by omega) (by omega) (by rw [List.length_append, clss_len]; omega) (by omega))
      have HT := mkHid (And.intro (clss_take A hk' m) (And.intro (lits_take A hk' m) (hlps_take hk')))
      have hW3 : wr.alloc (.cells #[.int .i64 t.ks[k].op, .string t.ks[k].nm, .int .i64 t.ks[k].n, .slice t.ks[k].a t.ks[k].ks.length t.ks[k].c] 24) = wr.alloc (boxT t.ks[k]) := rfl
      have HR1 := mkHid (HR.out.later hb2)
      have HV1 : Hid (v1.ownBlock ≠ some (w.heap.size + 1)) := fun e => own_apart' HD.out.rows.row HR.out (by decide) _ e rfl
      rw [ha]
      clear ha kin kf kin' hle hhl hjl bB0 hbl hb2 HR HD hLb x4 hXv
      generalize t.ks[k] = q at *
      clear hk'
      obtain ⟨g0, g1, g2, g3⟩ := kf'
      obtain ⟨f0, f1, f2, f3⟩ := g4
      simp only [Nat.zero_add] at f1 f2 f3
      generalize wr.alloc (boxT q) = W3 at *
      unfold Tm.val LitP at HC
      have hk2 : (k : Int) < (n : Int) := by omega
      go_wp2_with (go_at_call 65; ((with_reducible refine HC.out.mono ?_)); rintro e w4 ⟨rfl, v2, us2, hd⟩; have HD4 := mkHid (HD1.out.trans (hd.mono (S' := fun k => k = F ∨ k = w.heap.size + 1) (fun k e => .inl e))); have HR4 := mkHid (HR1.out.gr hd.gr (by show ¬ w.heap.size + 1 = F; omega) HV1.out); have c4 := HR4.out.cell k (by simp; omega); have d4 := HR4.out.frozen k; clear hd)
      have hug4 : ∀ u ∈ us ++ (us1 ++ us2), ∀ k, u.ownBlock = some k → k ≠ w.heap.size + 1 := fun u hu q e => by
        rcases List.mem_append.1 hu with hu | hu
        · have := HUS.out u hu q e; omega
        · have := HD4.out.new u hu q e; omega
      have HS := mkHid (HR4.out.set k (lit A q (m + hlps (t.ks.take k))))
      have HE4 : Hid ((lits A (t.ks.take k) m ++ List.replicate (n - k) 0).set k (lit A q (m + hlps (t.ks.take k))) = lits A (t.ks.take (k + 1)) m ++ List.replicate (n - (k + 1)) 0) := by
        show _ = _
        rw [List.set_append_right _ _ (by omega), hll, Nat.sub_self, show n - k = (n - (k + 1)) + 1 by omega, List.replicate_succ, List.set_cons_zero, HT.out.2.1, List.append_assoc]
        rfl
      rw [HE4.out] at HS
      have HDS := mkHid (HD4.out.trans (DI.setG (g := w.heap.size + 1) HD4.out.rows HD4.out.box (by omega) (fun e => own_apart' HD4.out.rows.row HR4.out (by decide) _ e rfl) hug4 k (.int .i64 (lit A q (m + hlps (t.ks.take k))))))
      rw [List.append_nil, List.append_assoc, ← HT.out.1] at HDS
      have HDT : Hid (DI (fun k => k = F ∨ k = w.heap.size + 1) F base va ((m + hlps (t.ks.take (k + 1)) : Nat) : Int) W2 v us (w4.setCell ⟨w.heap.size + 1, k, none⟩ (.int .i64 (lit A q (m + hlps (t.ks.take k))))) v2 (C ++ clss A (t.ks.take (k + 1)) m) (us1 ++ us2)) := by
        rw [HT.out.2.2, ← Nat.add_assoc]
        exact HDS.out
      clear hug4 HDS HE4 HD4 HR4
      go_wp2
      go_roundw
      case rel => exact ⟨k + 1, _, v2, us1 ++ us2, rfl, by omega, by omega, HDT, HS⟩
      case measure => simp [intOf]; omega
    · obtain rfl : k = n := by omega
      have htk : t.ks.take k = t.ks := List.take_of_length_le (by rw [HN.out]; exact Nat.le_refl _)
      rw [htk, Nat.sub_self, List.replicate_zero, List.append_nil] at HR
      rw [htk] at HD
      clear hLb htk hll
      obtain ⟨x0, x1, x2, x3⟩ := x4
      simp only [Nat.zero_add] at x1 x2 x3
      rw [HN.out] at x3
      obtain ⟨b0, b1, b2, b3, b4⟩ := HD.out.box
      have hne : ¬ w.heap.size = F := by omega
      have HV2 : Hid (v1.ownBlock ≠ some w.heap.size) := fun e => by
        rcases HD.out.gr.own _ e with h | h
        · exact hXv h.symm
        · omega
      obtain ⟨M, hM⟩ : ∃ M, M = m + hlps t.ks := ⟨_, rfl⟩
      rw [← hM] at b1 HD HE
      have hM2 : M + 1 ≤ 50000 := by omega
      have HMM := mkHid hM
      clear hM
      obtain ⟨h, hh⟩ : ∃ h, h = M + 1 := ⟨_, rfl⟩
      rw [← hh] at HE
      have HC1 : Hid ((M : Int) + 1 = (h : Int)) := by show _ = _; omega
      have hh6 : h ≤ 50000 := by omega
      clear hh
      have hw1 : -9223372036854775808 ≤ (M : Int) + 1 := by omega
      have hw2 : (M : Int) + 1 ≤ 9223372036854775807 := by omega
      go_wp2_with fail
      rw [HC1.out]
      have HG1 : Hid (Gr (fun k => k = F ∨ k = w.heap.size + 1) wr v1 (wr.setCell ⟨F, 1, none⟩ (.int .i64 (h : Int))) v1) := Gr.set (S := fun k => k = F ∨ k = w.heap.size + 1) (Gr.refl _ _ _) (p := ⟨F, 1, none⟩) (.inl rfl) _
      have HR5 : Hid (LRow (wr.setCell ⟨F, 1, none⟩ (.int .i64 (h : Int))) (w.heap.size + 1) (w.heap.size + 1) k (lits A t.ks m)) := own_far' (p := ⟨F, 1, none⟩) HR.out (by show F < w.heap.size + 1; omega) _
      have HC5 : Hid (CRows (wr.setCell ⟨F, 1, none⟩ (.int .i64 (h : Int))) base v1 (C ++ clss A t.ks m) (us ++ us1)) := ⟨own_far' (p := ⟨F, 1, none⟩) HD.out.rows.row hF _, HD.out.rows.len, fun i h1 h2 => own_far' (p := ⟨F, 1, none⟩) (HD.out.rows.els i h1 h2) hF _⟩
      have HF5 : Hid (FBox (wr.setCell ⟨F, 1, none⟩ (.int .i64 (h : Int))) F va (h : Int) v1) := HD.out.box.set1
      have y0 := cellOff (R := F) (j := 1) (u := .int .i64 (h : Int)) x0 hne
      have sz5 : (wr.setCell ⟨F, 1, none⟩ (.int .i64 (h : Int))).heap.size = wr.heap.size := by simp
      have y1 := HF5.out.c1
      have hjl : jcls t.ks + k + 1 ≤ jcl t := by omega
      clear x0 x1 x2 x3 b0 b1 b2 b3 b4
      generalize wr.setCell ⟨F, 1, none⟩ (.int .i64 (h : Int)) = W5 at *
      have bd := bdrew (Below.refl W5.heap.size W5)
      have HDD := mkHid (define_any t.op HOP.out F base (w.heap.size + 1) (w.heap.size + 1) k h va v1 (h : Int) (lits A t.ks m) (C ++ clss A t.ks m) (us ++ us1) W5.drew hF (by have := bd.size; omega) (HC5.out.later bd) (HF5.out.later bd) (HR5.out.later bd) (by omega) (by omega) (by rw [List.length_append, clss_len]; omega) HLB.out (by omega) HPO.out hug.out)
      go_region_held2 (fun w' => (w'.cell? ⟨F, 1, none⟩ = some (.int .i64 (h : Int)) ∧ w'.cell? ⟨w.heap.size, 0, none⟩ = some (.int .i64 t.op))) (first | exact ⟨y1, y0⟩ | exact ⟨z1, z0⟩) ((go_at_call 88; (with_reducible refine HDD.out.mono ?_); rintro e w6 ⟨rfl, v6, us6, hd6⟩; have z1 := hd6.box.c1; have z0 := hd6.gr.cell (p := ⟨w.heap.size, 0, none⟩) y0 (by show ¬ (w.heap.size = F ∨ w.heap.size = w.heap.size + 1); omega) (fun e => HV2.out e.symm)))
      have HFIN := mkHid (DI.drop HB2.out (by omega : w.heap.size ≤ w.heap.size + 1) ((DI.later ⟨HD.out.gr.trans HG1.out, HF5.out, HC5.out, HD.out.new⟩ bd).trans hd6))
      have z1' := hd6.box.c1
      clear hd6 HD HF5 HC5 HR5 HG1
      go_wp2
      go_ret
      obtain ⟨e1, e2⟩ := HE.out
      have e3 : m + hlp t = h := by
        have h1 := HMM.out
        have h2 := HC1.out
        omega
      refine ⟨by rw [e1]; rfl, v6, us1 ++ us6, ?_⟩
      rw [e2, e3, ← List.append_assoc]
      exact HFIN.out
theorem literal_any (A : List Tm) (F base : Nat) (va : Value) (hF : F < base) (t : Tm) : ∀ (v : Value) (m : Nat) (C : List (List Int)) (us : List Value) (w : World), base ≤ w.heap.size → CRows w base v C us → FBox w F va (m : Int) v → AtF w F va A → TIn w F t → t.srt = 4 → cov A t = true → A.length ≤ m → m + hlp t ≤ 50000 → C.length + jcl t ≤ 40000 → t.size ≤ 2000 →
    Calls Tryd.prog 65 #[.pointer (some ⟨F, 0, none⟩), t.val] w (LitP F base va v A t m C us w) := by
  induction t using Tm.ind with
  | h t ih =>
  intro v m C us w hbw hC hf hA hin hs4 hcov hAm hm hcl hz
  cases hj : jnB t.op with
  | false => exact lit_atom A t F base va v m C us w hF hbw hC hf hA hin hs4 hcov hAm hm hcl hz hj
  | true =>
    by_cases h18 : t.op = 18
    · exact lit_not A t F base va v m C us w hF hbw hC hf hA hin hs4 hcov hAm hm hcl hz h18 ih
    · have hd : dfB t.op = true := by unfold dfB; rw [hj, decide_eq_false h18]; rfl
      exact lit_def A t F base va v m C us w hF hbw hC hf hA hin hs4 hcov hAm hm hcl hz hd ih
end Go.Proofs.YtaiachmolkjedaaDoor
