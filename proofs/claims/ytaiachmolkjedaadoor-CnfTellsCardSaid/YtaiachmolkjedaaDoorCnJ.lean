/-
  What package cnf's 'gathered' and 'Clauses' do.
-/
import Derived.Test.YtaiachmolkjedaaDoorCnI
import Derived.BigQuiet
namespace Go.Proofs.YtaiachmolkjedaaDoor
open Go.RowKit

/-- the world in which the closure is called first -/
def gatW (t : Tm) (w : World) : World :=
  (((w.alloc (boxT t)).alloc (.cells #[.slice none 0 0] 22)).alloc (.cells #[.nilFunc] 57)).setCell ⟨w.heap.size + 1 + 1, 0, none⟩ (metF (w.heap.size + 1) (w.heap.size + 1 + 1))
theorem gatW_facts (t : Tm) (w : World) : Below w.heap.size w (gatW t w) ∧ Single (gatW t w) (w.heap.size + 1) (.slice none 0 0) ∧ (gatW t w).cell? ⟨w.heap.size + 1 + 1, 0, none⟩ = some (metF (w.heap.size + 1) (w.heap.size + 1 + 1)) ∧ Four (gatW t w) w.heap.size 0 t ∧ (gatW t w).heap.size = w.heap.size + 1 + 1 + 1 := by
  refine ⟨?_, ?_, ?_, ?_, ?_⟩
  · exact bset (bal (bal (bal (Below.refl _ _) _) _) _) (by simp; omega) _
  · simp [gatW, Single, go_sem]
  · simp [gatW, go_sem]
  · simp [gatW, Four, boxT, go_sem]
  · simp [gatW]
theorem own_base {w : World} {b b' e s n : Nat} {v : Value} {xs : List Value} (h : w.ownsRow b e s v n xs) (hb : b' ≤ b) : w.ownsRow b' e s v n xs :=
  ⟨h.1, h.2.imp id (fun ⟨g, cap, cur, h1, h2, h3⟩ => ⟨g, cap, cur, h1, Nat.le_trans hb h2, h3⟩)⟩
/-- atoms gathered -/
def GatP (t : Tm) (w : World) (e : Ending) (w' : World) : Prop := ∃ (v' : Value) (A : List Tm), e = .returned v' ∧ Below w.heap.size w w' ∧ w'.ownsRow w.heap.size 24 4 v' A.length (A.flatMap tm4) ∧ (∀ x ∈ A, TIn w' w'.heap.size x ∧ x.size ≤ 2000 ∧ x.deep ≤ 100) ∧ A.map Tm.er = ats t []
set_option maxRecDepth 100000 in
set_option maxHeartbeats 2000000 in
theorem gathered_any (t : Tm) (w : World) (h : TIn w w.heap.size t) (hz : t.size ≤ 2000) (hd : t.deep ≤ 100) :
    Calls Tryd.prog 63 #[t.val] w (GatP t w) := by
  have hmf : ∀ (fn : Fn) (first cap : Array Value) (w : World), (Instr.makeFunc fn first cap).run Tryd.prog w = .ok (.func fn first cap) w := fun _ _ _ _ => rfl
  obtain ⟨hb, h1, h2, h3, h4⟩ := gatW_facts t w
  have hA : ARow (gatW t w) (w.heap.size + 1 + 1 + 1) (w.heap.size + 1) (.slice none 0 0) [] := ⟨h1, ⟨rfl, .inl ⟨rfl, rfl⟩⟩, fun x hx => (by cases hx), fun x hx => (by cases hx)⟩
  have CN := mkHid (meet_any t w.heap.size (w.heap.size + 1 + 1 + 1) (w.heap.size + 1) (w.heap.size + 1 + 1) [] (.slice none 0 0) (gatW t w) (h.keep hb) (by omega) (by omega) (by omega) (by omega) (by omega) (by omega) hA h2 (by simpa using hz) hd)
  have hW : (((w.alloc (.cells #[.int .i64 t.op, .string t.nm, .int .i64 t.n, .slice t.a t.ks.length t.c] 24)).alloc (.cells #[.slice none 0 0] 22)).alloc (.cells #[.nilFunc] 57)).setCell ⟨w.heap.size + 1 + 1, 0, none⟩ (.func (.func 84) #[] #[.pointer (some ⟨w.heap.size + 1 + 1, 0, none⟩), .pointer (some ⟨w.heap.size + 1, 0, none⟩)]) = gatW t w := rfl
  unfold metF at h2
  obtain ⟨f0, f1, f2, f3⟩ := h3
  simp only [Nat.zero_add] at f1 f2 f3
  have HB := mkHid hb
  have H4 := mkHid h4
  unfold MetP at CN
  generalize gatW t w = W at *
  clear h h1 hA hb h4 hz hd
  unfold Tm.val at *
  go_enter Tryd.func63, Tryd.ntmps63
  go_wp2_with fail
  clear f0 f1 f2 f3 h2 hW hmf
  ((with_reducible refine CN.out.mono ?_)); rintro e w1 ⟨rfl, v', A, hg, ha, hl⟩
  have hs := ha.box.1
  have HG := mkHid hg
  have HA := mkHid ha
  have HL := mkHid hl
  clear CN hg ha hl
  go_wp2
  go_ret
  have h4 := H4.out
  refine ⟨v', A, rfl, HB.out.trans (HG.out.below (fun k e => by have e' : k = w.heap.size + 1 := e; omega) (fun k e => by simp [Value.ownBlock] at e) (by omega)), own_base HA.out.own (by omega), fun x hx => ?_, HL.out⟩
  obtain ⟨h1, -, h2, h3⟩ := HA.out.els x hx
  exact ⟨h1, h2, h3⟩

theorem lits_cong {L L' : List Tm} : ∀ (ks : List Tm) (m : Nat), (∀ k ∈ ks, ∀ m, lit L k m = lit L' k m) → lits L ks m = lits L' ks m
  | [], _, _ => rfl
  | k :: ks, m, h => by simp only [lits]; rw [h k (by simp), lits_cong ks _ (fun k hk => h k (by simp [hk]))]
theorem lit_cong {L L' : List Tm} (h : ∀ t, fnd L t = fnd L' t) : ∀ (t : Tm) (m : Nat), lit L t m = lit L' t m := by
  intro t
  induction t using Tm.ind with
  | h t ih => intro m; rw [lit_eq, lit_eq L', lits_cong t.ks m ih, h]
theorem clss_cong {L L' : List Tm} : ∀ (ks : List Tm) (m : Nat), (∀ k ∈ ks, ∀ m, cls L k m = cls L' k m) → clss L ks m = clss L' ks m
  | [], _, _ => rfl
  | k :: ks, m, h => by simp only [clss]; rw [h k (by simp), clss_cong ks _ (fun k hk => h k (by simp [hk]))]
theorem cls_cong {L L' : List Tm} (h : ∀ t, fnd L t = fnd L' t) : ∀ (t : Tm) (m : Nat), cls L t m = cls L' t m := by
  intro t
  induction t using Tm.ind with
  | h t ih => intro m; rw [cls_eq, cls_eq L', clss_cong t.ks m ih, lits_cong t.ks m (fun k _ m => lit_cong h k m)]
theorem cov_cong {L L' : List Tm} (h : ∀ t, has L t = has L' t) : ∀ t : Tm, cov L t = cov L' t := by
  intro t
  induction t using Tm.ind with
  | h t ih =>
    have hs : ∀ ks : List Tm, (∀ k ∈ ks, cov L k = cov L' k) → covs L ks = covs L' ks := by
      intro ks
      induction ks with
      | nil => intro _; rfl
      | cons a l ihl => intro h; simp only [covs]; rw [h a (by simp), ihl (fun k hk => h k (by simp [hk]))]
    rw [cov_eq, cov_eq L', hs t.ks ih, h]
/-- what Clauses answers -/
def ClaP (t : Tm) (w : World) (e : Ending) (w' : World) : Prop := ∃ (vC vA : Value) (A : List Tm) (us : List Value) (F base : Nat), e = .returned (.tuple #[vC, vA, .int .i64 (cN t : Int), .int .i64 (cE t : Int)]) ∧ Below w.heap.size w w' ∧ w.heap.size ≤ F ∧ F < base ∧ F ≤ w'.heap.size ∧ CRows w' base vC (cC t) us ∧ AtF w' F vA A ∧ A.map Tm.er = cA t
theorem ClaP.nothing {t : Tm} {w w' : World} {er : Int} (he : cE t ≠ 0) (her : er = (cE t : Int)) (hb : Below w.heap.size w w') : ClaP t w (.returned (.tuple #[.slice none 0 0, .slice none 0 0, .int .i64 0, .int .i64 er])) w' := by
  refine ⟨.slice .none 0 0, .slice .none 0 0, [], [], w.heap.size, w.heap.size + 1, ?_, hb, Nat.le_refl _, by omega, hb.size, ?_, ?_, ?_⟩
  · have : cN t = 0 := by unfold cN; rw [if_neg he]
    rw [this, her]; rfl
  · have : cC t = [] := by unfold cC; rw [if_neg he]
    rw [this]; exact CRows.nil _ _
  · exact ⟨none, 0, rfl, by simp, fun j h => absurd h (by simp), fun x hx => (by cases hx)⟩
  · unfold cA; rw [if_neg he]; rfl
/-- the formula's box, as it is made -/
def forW (w3 : World) (a0 : Option Addr) (c0 : Nat) (A : List Tm) : World := w3.alloc (.cells #[.slice a0 A.length c0, .int .i64 (A.length : Int), .slice none 0 0] 89)
theorem for_facts {t : Tm} {w2 w3 : World} {a0 : Option Addr} {c0 : Nat} {A : List Tm} (hin : TIn w2 w2.heap.size t) (hb3 : Below w2.heap.size w2 w3) (ho : w3.ownsRow w2.heap.size 24 4 (.slice a0 A.length c0) A.length (A.flatMap tm4)) (he : ∀ x ∈ A, TIn w3 w3.heap.size x ∧ x.size ≤ 2000 ∧ x.deep ≤ 100) (hl : A.map Tm.er = ats t []) (hz : t.size ≤ 2000) :
    Below w3.heap.size w3 (forW w3 a0 c0 A) ∧ FBox (forW w3 a0 c0 A) w3.heap.size (.slice a0 A.length c0) ((A.length : Nat) : Int) (.slice none 0 0) ∧ AtF (forW w3 a0 c0 A) w3.heap.size (.slice a0 A.length c0) A ∧ TIn (forW w3 a0 c0 A) w3.heap.size t ∧ (forW w3 a0 c0 A).heap.size = w3.heap.size + 1 ∧ cov A t = true ∧ A.length ≤ 2000 := by
  have hb := bel_alloc w3 (.cells #[.slice a0 A.length c0, .int .i64 (A.length : Int), .slice none 0 0] 89)
  have hAl : A.length ≤ 2000 := by
    have e := congrArg List.length hl
    rw [List.length_map] at e
    have := ats_le t []
    simp at this
    omega
  refine ⟨hb, ⟨?_, ?_, ?_, ?_, ?_⟩, ⟨a0, c0, rfl, hAl, fun j hj => ?_, fun x hx => ⟨(he x hx).1.keep hb, (he x hx).2⟩⟩, (hin.later hb3).keep hb, by simp [forW], ?_, hAl⟩
  · simp [forW, go_sem]
  · simp [forW, go_sem]
  · simp [forW, go_sem]
  · simp [forW, go_sem]
  · simp [forW, go_sem]
  · obtain ⟨g, cap, e⟩ := own_some ho (by omega)
    simp only [Value.slice.injEq, true_and] at e
    obtain ⟨rfl, rfl⟩ := e
    refine ⟨g, 0, rfl, (own_lt ho rfl).2, ?_⟩
    rw [Nat.zero_add]
    exact (own_four ho j hj).keep hb (own_lt ho rfl).2
  · rw [← cov_cong (fun t => has_map A t), hl]
    exact cov_ats t []
theorem for_lit {t : Tm} {w2 w3 : World} {a0 : Option Addr} {c0 : Nat} {A : List Tm} (hin : TIn w2 w2.heap.size t) (hb3 : Below w2.heap.size w2 w3) (ho : w3.ownsRow w2.heap.size 24 4 (.slice a0 A.length c0) A.length (A.flatMap tm4)) (he : ∀ x ∈ A, TIn w3 w3.heap.size x ∧ x.size ≤ 2000 ∧ x.deep ≤ 100) (hl : A.map Tm.er = ats t []) (hz : t.size ≤ 2000) (h4 : t.srt = 4) :
    Calls Tryd.prog 65 #[.pointer (some ⟨w3.heap.size, 0, none⟩), t.val] (forW w3 a0 c0 A) (LitP w3.heap.size (w3.heap.size + 1) (.slice a0 A.length c0) (.slice none 0 0) A t A.length [] [] (forW w3 a0 c0 A)) := by
  obtain ⟨-, h2, h3, h5, h6, h7, h8⟩ := for_facts hin hb3 ho he hl hz
  have hj := jcl_le t
  have hh := hlp_le t
  exact literal_any A w3.heap.size (w3.heap.size + 1) (.slice a0 A.length c0) (by omega) t (.slice none 0 0) A.length [] [] (forW w3 a0 c0 A) (by omega) (CRows.nil _ _) h2 h3 h5 h4 h7 (Nat.le_refl _) (by omega) (by simp; omega) hz
set_option maxRecDepth 100000 in
set_option maxHeartbeats 4000000 in
theorem clauses_any (t : Tm) (w : World) (hin : TIn w w.heap.size t) (hS : Shps w) : Calls Tryd.prog 33 #[t.val] w (ClaP t w) := by
  have hb1 := bel_alloc w (boxT t)
  have f4 := box_four w t
  have ST := mkHid (sort_any t _ (hin.later hb1) (hS.later hb1))
  have hW : w.alloc (.cells #[.int .i64 t.op, .string t.nm, .int .i64 t.n, .slice t.a t.ks.length t.c] 24) = w.alloc (boxT t) := rfl
  have HB1 := mkHid hb1
  have HIN1 := mkHid (hin.later hb1)
  clear hb1 hin hS
  by_cases he : errR t = 0
  · obtain ⟨z1, z2, z3, z4⟩ := errR_okk he
    rw [he, z4] at ST
    by_cases h4 : t.srt = 4
    · have hE : cE t = 0 := cE_is he h4
      rw [h4] at ST
      have HZ : Hid (t.size ≤ 2000 ∧ t.deep ≤ 100 ∧ t.srt = 4 ∧ cE t = 0) := ⟨z1, z2, h4, hE⟩
      have HJ := mkHid (jcl_le t)
      have HH := mkHid (hlp_le t)
      clear he z1 z2 z3 z4 h4 hE
      generalize w.alloc (boxT t) = W at *
      obtain ⟨f0, f1, f2, f3⟩ := f4
      simp only [Nat.zero_add] at f1 f2 f3
      unfold Tm.val at *
      go_enter Tryd.func33, Tryd.ntmps33
      go_wp2_with (go_at_call 11; ((with_reducible refine ST.out.mono ?_)); rintro e w2 ⟨rfl, hb2⟩; have g0 := cell_later hb2 f0; have g1 := cell_later hb2 f1; have g2 := cell_later hb2 f2; have g3 := cell_later hb2 f3; have HIN2 := mkHid (HIN1.out.later hb2); have HB2 := mkHid (bon HB1.out hb2))
      have HGA := mkHid (gathered_any t w2 HIN2.out HZ.out.1 HZ.out.2.1)
      unfold GatP Tm.val at HGA
      go_wp2_with (first
        | (go_at_call 63; ((with_reducible refine HGA.out.mono ?_)); rintro e w3 ⟨va, A, rfl, hb3, ho3, he3, hl3⟩; obtain ⟨a0, c0, rfl, -, -⟩ := own_is ho3; have HFA := mkHid (for_facts HIN2.out hb3 ho3 he3 hl3 HZ.out.1); have HLT := mkHid (for_lit HIN2.out hb3 ho3 he3 hl3 HZ.out.1 HZ.out.2.2.1); have HL3 := mkHid hl3; have HB3 := mkHid (bon HB2.out hb3); have k0 := cell_later HFA.out.1 (cell_later hb3 g0); have k1 := cell_later HFA.out.1 (cell_later hb3 g1); have k2 := cell_later HFA.out.1 (cell_later hb3 g2); have k3 := cell_later HFA.out.1 (cell_later hb3 g3); clear hb3 ho3 he3 hl3; unfold forW at k0 k1 k2 k3 HLT; unfold Tm.val at HLT)
        | (go_at_call 65; ((with_reducible refine HLT.out.mono ?_)); rintro e w5 ⟨rfl, v5, us5, hd5⟩; rw [List.nil_append] at hd5; have HAD := mkHid (add_any w3.heap.size (w3.heap.size + 1) (.slice a0 A.length c0) v5 (.slice none 0 0) ((A.length + hlp t : Nat) : Int) (lit A t A.length) (cls A t A.length) us5 [] w5 (by omega) (by have := hd5.gr.size; have := HFA.out.2.2.2.2.1; unfold forW at this; omega) hd5.rows hd5.box (.inl ⟨rfl, rfl⟩) (by have := HJ.out; have := HZ.out.1; rw [cls_len]; omega) (by simp)); have HD5 := mkHid hd5; clear hd5)
        | (go_at_call 64; ((with_reducible refine HAD.out.mono ?_)); rintro e w6 ⟨rfl, v6, us6, hd6⟩; have x0 := hd6.box.c0; have x1 := hd6.box.c1; have x2 := hd6.box.c2; have HD6 := mkHid hd6; clear hd6))
      go_quiet (fail)
      go_wp2
      refine bodyPost_ret (v := .tuple #[v6, .slice a0 A.length c0, .int .i64 ((A.length + hlp t : Nat) : Int), .int .i64 0]) (by simp [results, Tryd.results33, go_sem]) rfl ?_
      have hFA := HFA.out
      unfold forW at hFA
      obtain ⟨q1, q2, q3, q4, q5, q6, q7⟩ := hFA
      have hE := HZ.out.2.2.2
      have B5 := HD5.out.gr.atF (F := w3.heap.size) (base := w3.heap.size + 1) (fun k e => by have e' : k = w3.heap.size := e; omega) (fun k e => by simp [Value.ownBlock] at e) (by omega) (by omega)
      have B6 := HD6.out.gr.atF (F := w3.heap.size) (base := w3.heap.size + 1) (fun k e => by have e' : k = w3.heap.size := e; omega) (fun k e => (own_lt HD5.out.rows.row e).1) (by omega) (by have := HD5.out.gr.size; omega)
      have BD : Below w6.heap.size w6 (w6.drewN nq) := below_drewN (Below.refl _ _) nq
      have B7 := B6.trans (BD.mono (Nat.le_trans q1.size (Nat.le_trans B5.size B6.size)))
      have BB := (q1.trans B5).trans B7
      have hcn : cN t = A.length + hlp t := by
        unfold cN
        rw [if_pos hE, ← HL3.out, List.length_map]
      have hcc : cC t = cls A t A.length ++ [[lit A t A.length]] := by
        unfold cC
        rw [if_pos hE, ← HL3.out, List.length_map, cls_cong (fun t => fnd_map A t), lit_cong (fun t => fnd_map A t)]
      refine ⟨v6, .slice a0 A.length c0, A, us5 ++ us6, w3.heap.size, w3.heap.size + 1, ?_, HB3.out.trans (BB.mono HB3.out.size), HB3.out.size, by omega, BB.size, ?_, q3.keep (B5.trans B7), ?_⟩
      · rw [hcn, hE]; rfl
      · rw [hcc]; exact HD6.out.rows.later BD
      · rw [HL3.out]; unfold cA; rw [if_pos hE]
    · have hE : cE t = 3 := by unfold cE; rw [if_neg (by omega), if_pos h4]
      have hne : ((t.srt : Int) != 4) = true := by rw [bne_iff_ne]; omega
      have HE := mkHid hE
      generalize t.srt = sr at *
      clear he z1 z2 z3 z4 h4 hE
      generalize w.alloc (boxT t) = W at *
      obtain ⟨f0, f1, f2, f3⟩ := f4
      simp only [Nat.zero_add] at f1 f2 f3
      unfold Tm.val at *
      go_enter Tryd.func33, Tryd.ntmps33
      go_wp2_with (go_at_call 11; ((with_reducible refine ST.out.mono ?_)); rintro e w2 ⟨rfl, hb2⟩)
      refine bodyPost_ret (v := .tuple #[.slice none 0 0, .slice none 0 0, .int .i64 0, .int .i64 3]) (by simp [results, Tryd.results33, go_sem]) rfl ?_
      exact ClaP.nothing (by rw [HE.out]; omega) (by rw [HE.out]; rfl) (bon HB1.out hb2)
  · have hE : cE t = errR t := by unfold cE; rw [if_pos he]
    have HE := mkHid hE
    have HNE := mkHid he
    have hne : ((errR t : Int) != 0) = true := by rw [bne_iff_ne]; omega
    generalize errR t = er at *
    generalize srtR t = sr at *
    clear he hE
    generalize w.alloc (boxT t) = W at *
    obtain ⟨f0, f1, f2, f3⟩ := f4
    simp only [Nat.zero_add] at f1 f2 f3
    unfold Tm.val at *
    go_enter Tryd.func33, Tryd.ntmps33
    go_wp2_with (go_at_call 11; ((with_reducible refine ST.out.mono ?_)); rintro e w2 ⟨rfl, hb2⟩)
    refine bodyPost_ret (v := .tuple #[.slice none 0 0, .slice none 0 0, .int .i64 0, .int .i64 (er : Int)]) (by simp [results, Tryd.results33, go_sem]) rfl ?_
    exact ClaP.nothing (by rw [HE.out]; exact HNE.out) (by rw [HE.out]) (bon HB1.out hb2)
end Go.Proofs.YtaiachmolkjedaaDoor
