/-
  SubstTwice, walked: it returns true.
-/
import Derived.Test.YtaiachmolkjedaaDoorSbQ
namespace Go.Proofs.YtaiachmolkjedaaDoor
open Go.RowKit

/-- three terms in boxes -/
structure T3 (X : Nat) (t a b : Tm) (w : World) : Prop where
  f0 : Four w X 0 t
  f1 : Four w (X + 1) 0 a
  f2 : Four w (X + 1 + 1) 0 b
  t0 : TIn w w.heap.size t
  t1 : TIn w w.heap.size a
  t2 : TIn w w.heap.size b
  sh : Shps w
theorem T3.later {X : Nat} {t a b : Tm} {w w' : World} (h : T3 X t a b w) (hb : Below w.heap.size w w') : T3 X t a b w' :=
  ⟨h.f0.later hb, h.f1.later hb, h.f2.later hb, h.t0.later hb, h.t1.later hb, h.t2.later hb, h.sh.later hb⟩
/-- the world with the three boxes -/
def t3W (t a b : Tm) (w : World) : World := ((w.alloc (boxT t)).alloc (boxT a)).alloc (boxT b)
theorem t3_facts {t a b : Tm} {w : World} (ht : TIn w w.heap.size t) (ha : TIn w w.heap.size a) (hb : TIn w w.heap.size b) (hS : Shps w) : Below w.heap.size w (t3W t a b w) ∧ T3 w.heap.size t a b (t3W t a b w) := by
  have h : Below w.heap.size w (t3W t a b w) := bal (bal (bal (Below.refl _ _) _) _) _
  refine ⟨h, ?_, ?_, ?_, ht.later h, ha.later h, hb.later h, hS.later h⟩
  · simp [t3W, Four, boxT, go_sem]
  · simp [t3W, Four, boxT, go_sem]
  · simp [t3W, Four, boxT, go_sem]
/-! what is put twice -/
def xN' : ByteArray := ⟨#[120]⟩
def yN' : ByteArray := ⟨#[121]⟩
theorem put_one {t a : Tm} (nm : ByteArray) (ht : errR t = 0) (ha : errR a = 0) : putO t [(nm, a)] = if errR (rp (gF [(nm, a)].reverse) t) ≠ 0 then (zT, errR (rp (gF [(nm, a)].reverse) t)) else (rp (gF [(nm, a)].reverse) t, 0) := putO_ok ht (gE_one nm a ha)
theorem rp_right {t : Tm} {F : ByteArray → Int → Option Tm} (ht : errR t = 0) (hF : ∀ nm (s : Nat) x, F nm (s : Int) = some x → x.srt = s) : errR (rp F t) = 0 ∨ errR (rp F t) = 7 := errR_full (by rw [rp_srt hF t (errR_fine ht).2.2.1]; exact (errR_fine ht).2.2.1)
theorem put1_srt {nm : ByteArray} {a : Tm} (ha : errR a = 0) : ∀ n (s : Nat) x, gF [(nm, a)].reverse n (s : Int) = some x → x.srt = s := fun n s x hx => by
  rw [gF_one nm a ha] at hx
  split at hx
  · rename_i h
    cases hx
    have := (errR_fine ha).2.2.2
    omega
  · cases hx
theorem twice_same {t a b g : Tm} (ha : errR a = 0) (hb : errR b = 0) (hg : errR g = 0) (sa : a.srt = 1) (sb : b.srt = 1) (hge : g.er = rp (gF [(yN', b)].reverse) a) : rp (gF [(yN', b)].reverse) (rp (gF [(xN', a)].reverse) t) = rp (gF [(xN', g), (yN', b)].reverse) t := by
  have s1 : srtR a = 1 := by rw [(errR_fine ha).2.2.2, sa]
  have s2 : srtR b = 1 := by rw [(errR_fine hb).2.2.2, sb]
  have s3 : srtR g = 1 := by
    rw [(errR_fine hg).2.2.2, ← er_srt, hge, rp_srt (put1_srt hb) a (by rw [sa]; decide), sa]
  refine rp_rp (fun nm s x hx => ?_) (fun nm s hx => ?_) t
  · rw [gF_one _ _ ha] at hx
    split at hx
    · rename_i h
      cases hx
      refine ⟨g, ?_, hge⟩
      rw [gF_two _ _ _ _ hg hb, if_pos ⟨h.1, by rw [s3, h.2, s1]⟩]
    · cases hx
  · rw [gF_one _ _ ha] at hx
    split at hx
    · cases hx
    · rename_i h
      rw [gF_two _ _ _ _ hg hb, gF_one _ _ hb, if_neg (by rw [s3]; rw [s1] at h; exact h)]
/-- rows of one assignment, and of two, as they are made -/
theorem two_row (w : World) (n1 n2 : ByteArray) (t u : Tm) : SbRow (w.alloc (.cells #[.string n1, .int .i64 t.op, .string t.nm, .int .i64 t.n, .slice t.a t.ks.length t.c, .string n2, .int .i64 u.op, .string u.nm, .int .i64 u.n, .slice u.a u.ks.length u.c] 43)).heap.size (w.alloc (.cells #[.string n1, .int .i64 t.op, .string t.nm, .int .i64 t.n, .slice t.a t.ks.length t.c, .string n2, .int .i64 u.op, .string u.nm, .int .i64 u.n, .slice u.a u.ks.length u.c] 43)) (.slice (some ⟨w.heap.size, 0, none⟩) 2 2) [(n1, t), (n2, u)] := by
  refine ⟨_, 2, rfl, fun j hj => ?_⟩
  match j, hj with
  | 0, _ => exact ⟨w.heap.size, 0, rfl, by simp, by simp [Five5, go_sem]⟩
  | 1, _ => exact ⟨w.heap.size, 0, rfl, by simp, by simp [Five5, go_sem]⟩
set_option maxRecDepth 100000 in
set_option maxHeartbeats 16000000 in
theorem twice_any (t a b : Tm) (w : World) (ht : TIn w w.heap.size t) (ha : TIn w w.heap.size a) (hb : TIn w w.heap.size b) (hS : Shps w) : Calls Tryd.prog 7 #[t.val, a.val, b.val] w (RetB true w) := by
  obtain ⟨B0, K0⟩ := t3_facts ht ha hb hS
  have hW : ((w.alloc (.cells #[.int .i64 t.op, .string t.nm, .int .i64 t.n, .slice t.a t.ks.length t.c] 24)).alloc (.cells #[.int .i64 a.op, .string a.nm, .int .i64 a.n, .slice a.a a.ks.length a.c] 24)).alloc (.cells #[.int .i64 b.op, .string b.nm, .int .i64 b.n, .slice b.a b.ks.length b.c] 24) = t3W t a b w := rfl
  have HB0 := mkHid B0
  have HK := mkHid K0
  clear B0 K0 ht ha hb hS
  generalize t3W t a b w = W at *
  have CS := mkHid (sshown_any W HK.out.sh)
  have CM := mkHid (fun (w' : World) (hb : Below W.heap.size W w') (x : Tm) (h : TIn w' w'.heap.size x) => small_any x w' h (HK.out.sh.later hb))
  have CA := mkHid (fun (w' : World) (hb : Below W.heap.size W w') => sort_any a w' (HK.out.t1.later hb) (HK.out.sh.later hb))
  have CB := mkHid (fun (w' : World) (hb : Below W.heap.size W w') => sort_any b w' (HK.out.t2.later hb) (HK.out.sh.later hb))
  have CP := mkHid (fun (w' : World) (hb : Below W.heap.size W w') (x : Tm) (l : List As) (sv : Value) (h : TIn w' w'.heap.size x) (hI : SbRow w'.heap.size w' sv l) (hl : l.length ≤ 1000000) (hli : ∀ y ∈ l, AsIn w' y) => sput_any x l sv w' h hI hl hli (HK.out.sh.later hb))
  have C1 := mkHid (fun (w' : World) (hb : Below W.heap.size W w') => CM.out w' hb t (HK.out.t0.later hb))
  have C2 := mkHid (fun (w' : World) (hb : Below W.heap.size W w') => CM.out w' hb a (HK.out.t1.later hb))
  have C3 := mkHid (fun (w' : World) (hb : Below W.heap.size W w') => CM.out w' hb b (HK.out.t2.later hb))
  unfold Tm.val at C1 C2 C3 CA CB ⊢
  go_enter Tryd.func7, Tryd.ntmps7
  go_wp2_with fail
  ((with_reducible refine CS.out.mono ?_)); rintro e w4 ⟨rfl, hb4⟩
  clear CS hW
  have HB4 := mkHid hb4
  clear hb4
  obtain ⟨k0, k1, k2, k3⟩ := (HK.out.later HB4.out).f0
  simp only [Nat.zero_add] at k1 k2 k3
  go_wp2_with fail
  ((with_reducible refine (C1.out _ HB4.out).mono ?_)); rintro e w5 ⟨rfl, hbx⟩
  clear k0 k1 k2 k3
  have HB5 := mkHid (bon HB4.out hbx)
  clear hbx
  obtain ⟨k0, k1, k2, k3⟩ := (HK.out.later HB5.out).f1
  simp only [Nat.zero_add] at k1 k2 k3
  go_wp2_with fail
  ((with_reducible refine (C2.out _ HB5.out).mono ?_)); rintro e w6 ⟨rfl, hbx⟩
  clear k0 k1 k2 k3
  have HB6 := mkHid (bon HB5.out hbx)
  clear hbx
  obtain ⟨k0, k1, k2, k3⟩ := (HK.out.later HB6.out).f2
  simp only [Nat.zero_add] at k1 k2 k3
  go_wp2_with fail
  ((with_reducible refine (C3.out _ HB6.out).mono ?_)); rintro e w7 ⟨rfl, hbx⟩
  clear k0 k1 k2 k3
  have HB7 := mkHid (bon HB6.out hbx)
  clear hbx
  obtain ⟨k0, k1, k2, k3⟩ := (HK.out.later HB7.out).f1
  simp only [Nat.zero_add] at k1 k2 k3
  go_wp2_with fail
  ((with_reducible refine (CA.out _ HB7.out).mono ?_)); rintro e w8 ⟨rfl, hbx⟩
  clear k0 k1 k2 k3
  have HB8 := mkHid (bon HB7.out hbx)
  clear hbx
  obtain ⟨k0, k1, k2, k3⟩ := (HK.out.later HB8.out).f2
  simp only [Nat.zero_add] at k1 k2 k3
  go_wp2_with fail
  ((with_reducible refine (CB.out _ HB8.out).mono ?_)); rintro e w9 ⟨rfl, hbx⟩
  clear k0 k1 k2 k3
  have HB9 := mkHid (bon HB8.out hbx)
  clear hbx
  clear C1 C2 C3 CA CB CM HB4 HB5 HB6 HB7 HB8
  by_cases h1 : smallB t = true
  · rw [h1]
    by_cases h2 : smallB a = true
    · rw [h2]
      by_cases h3 : smallB b = true
      · rw [h3]
        by_cases h4 : srtR a = 1
        · rw [h4]
          by_cases h5 : srtR b = 1
          · rw [h5]
            obtain ⟨et, -, -⟩ := smallB_is.1 h1
            obtain ⟨ea, -, -⟩ := smallB_is.1 h2
            obtain ⟨eb, -, -⟩ := smallB_is.1 h3
            have sa : a.srt = 1 := by rw [← (errR_fine ea).2.2.2]; exact h4
            have sb : b.srt = 1 := by rw [← (errR_fine eb).2.2.2]; exact h5
            rw [ea, eb]
            have b10 := bel_alloc w9 (.cells #[.string ⟨#[120]⟩, .int .i64 a.op, .string a.nm, .int .i64 a.n, .slice a.a a.ks.length a.c] 43)
            have b11 := bal b10 (.cells #[.string ⟨#[121]⟩, .int .i64 b.op, .string b.nm, .int .i64 b.n, .slice b.a b.ks.length b.c] 43)
            obtain ⟨k0, k1, k2, k3⟩ := (HK.out.later HB9.out).f1
            obtain ⟨l0, l1, l2, l3⟩ := (HK.out.later (bon HB9.out b10)).f2
            obtain ⟨m0, m1, m2, m3⟩ := (HK.out.later (bon HB9.out b11)).f0
            simp only [Nat.zero_add] at k1 k2 k3 l1 l2 l3 m1 m2 m3
            have HB11 := mkHid (bon HB9.out b11)
            have hra : SbRow ((w9.alloc (.cells #[.string ⟨#[120]⟩, .int .i64 a.op, .string a.nm, .int .i64 a.n, .slice a.a a.ks.length a.c] 43)).alloc (.cells #[.string ⟨#[121]⟩, .int .i64 b.op, .string b.nm, .int .i64 b.n, .slice b.a b.ks.length b.c] 43)).heap.size ((w9.alloc (.cells #[.string ⟨#[120]⟩, .int .i64 a.op, .string a.nm, .int .i64 a.n, .slice a.a a.ks.length a.c] 43)).alloc (.cells #[.string ⟨#[121]⟩, .int .i64 b.op, .string b.nm, .int .i64 b.n, .slice b.a b.ks.length b.c] 43)) (.slice (some ⟨w9.heap.size, 0, none⟩) 1 1) [(⟨#[120]⟩, a)] := (one_row w9 ⟨#[120]⟩ a).later (bel_alloc _ _)
            have hrb : SbRow ((w9.alloc (.cells #[.string ⟨#[120]⟩, .int .i64 a.op, .string a.nm, .int .i64 a.n, .slice a.a a.ks.length a.c] 43)).alloc (.cells #[.string ⟨#[121]⟩, .int .i64 b.op, .string b.nm, .int .i64 b.n, .slice b.a b.ks.length b.c] 43)).heap.size ((w9.alloc (.cells #[.string ⟨#[120]⟩, .int .i64 a.op, .string a.nm, .int .i64 a.n, .slice a.a a.ks.length a.c] 43)).alloc (.cells #[.string ⟨#[121]⟩, .int .i64 b.op, .string b.nm, .int .i64 b.n, .slice b.a b.ks.length b.c] 43)) (.slice (some ⟨w9.heap.size + 1, 0, none⟩) 1 1) [(⟨#[121]⟩, b)] := by
              have := one_row (w9.alloc (.cells #[.string ⟨#[120]⟩, .int .i64 a.op, .string a.nm, .int .i64 a.n, .slice a.a a.ks.length a.c] 43)) ⟨#[121]⟩ b
              rw [show (w9.alloc (.cells #[.string ⟨#[120]⟩, .int .i64 a.op, .string a.nm, .int .i64 a.n, .slice a.a a.ks.length a.c] 43)).heap.size = w9.heap.size + 1 by simp] at this
              exact this
            have HRB := mkHid hrb
            have HAI : Hid (∀ w' : World, Below W.heap.size W w' → ∀ y ∈ [((⟨#[120]⟩ : ByteArray), a)], AsIn w' y) := fun w' hb y hy => by
              rw [List.mem_singleton.1 hy]; exact ⟨HK.out.t1.later hb, by show (1 : Nat) ≤ maxLen; decide⟩
            have HBI : Hid (∀ w' : World, Below W.heap.size W w' → ∀ y ∈ [((⟨#[121]⟩ : ByteArray), b)], AsIn w' y) := fun w' hb y hy => by
              rw [List.mem_singleton.1 hy]; exact ⟨HK.out.t2.later hb, by show (1 : Nat) ≤ maxLen; decide⟩
            have C4 := mkHid (CP.out _ HB11.out t [(⟨#[120]⟩, a)] _ (HK.out.t0.later HB11.out) hra (by simp) (HAI.out _ HB11.out))
            unfold Tm.val at C4
            have HE := mkHid (And.intro et (And.intro ea (And.intro eb (And.intro sa sb))))
            clear h1 h2 h3 h4 h5 b10 b11 hra hrb HAI
            go_wp2_with fail
            ((with_reducible refine C4.out.mono ?_)); rintro e w12 ⟨c, rfl, hc, hci, hb12⟩
            clear C4 k0 k1 k2 k3 l0 l1 l2 l3 m0 m1 m2 m3
            have HB12 := mkHid (bon HB11.out hb12)
            have HRB12 := mkHid (HRB.out.later hb12)
            clear HRB hb12 HB9
            rw [put_one ⟨#[120]⟩ HE.out.1 HE.out.2.1] at hc ⊢
            by_cases e1 : errR (rp (gF [(⟨#[120]⟩, a)].reverse) t) = 0
            · rw [if_neg (by rw [e1]; simp)] at hc ⊢
              have ec : errR c = 0 := by rw [← er_errR, hc]; exact e1
              have HC := mkHid hc
              have HEC := mkHid ec
              have b13 := bel_alloc w12 (boxT c)
              have HB13 := mkHid (bon HB12.out b13)
              have F13 := box_four w12 c
              have C5 := mkHid (CP.out _ HB13.out c [(⟨#[121]⟩, b)] _ (hci.later b13) (HRB12.out.later b13) (by simp) (HBI.out _ HB13.out))
              have HRB13 := mkHid (HRB12.out.later b13)
              have hW13 : w12.alloc (.cells #[.int .i64 c.op, .string c.nm, .int .i64 c.n, .slice c.a c.ks.length c.c] 24) = w12.alloc (boxT c) := rfl
              obtain ⟨k0, k1, k2, k3⟩ := F13
              simp only [Nat.zero_add] at k1 k2 k3
              clear hc ec hci HRB12 HB12 b13 e1
              unfold Tm.val at C5 ⊢
              generalize w12.alloc (boxT c) = w13 at *
              go_wp2_with fail
              ((with_reducible refine C5.out.mono ?_)); rintro e w14 ⟨d, rfl, hd, hdi, hb14⟩
              clear C5 k0 k1 k2 k3 hW13
              have HB14 := mkHid (bon HB13.out hb14)
              have HD := mkHid hd
              have HDI := mkHid hdi
              have HRB14 := mkHid (HRB13.out.later hb14)
              clear hd hdi hb14 HB13 HRB13
              have b15 := bel_alloc w14 (boxT d)
              have HB15 := mkHid (bon HB14.out b15)
              have F15 := mkHid (box_four w14 d)
              have C6 := mkHid (CP.out _ HB15.out a [(⟨#[121]⟩, b)] _ (HK.out.t1.later HB15.out) (HRB14.out.later b15) (by simp) (HBI.out _ HB15.out))
              have HDI15 := mkHid (HDI.out.later b15)
              have hW15 : w14.alloc (.cells #[.int .i64 d.op, .string d.nm, .int .i64 d.n, .slice d.a d.ks.length d.c] 24) = w14.alloc (boxT d) := rfl
              obtain ⟨k0, k1, k2, k3⟩ := (HK.out.later HB15.out).f1
              simp only [Nat.zero_add] at k1 k2 k3
              clear HB14 HRB14 HDI b15
              unfold Tm.val at C6 ⊢
              generalize w14.alloc (boxT d) = w15 at *
              go_wp2_with fail
              ((with_reducible refine C6.out.mono ?_)); rintro e w16 ⟨g, rfl, hg, hgi, hb16⟩
              clear C6 k0 k1 k2 k3 hW15
              have HB16 := mkHid (bon HB15.out hb16)
              have F16 := mkHid (F15.out.later hb16)
              have HDI16 := mkHid (HDI15.out.later hb16)
              clear hb16 HB15 F15 HDI15
              rw [put_one ⟨#[121]⟩ HE.out.2.1 HE.out.2.2.1] at hg ⊢
              have hd := HD.out
              rw [put_one ⟨#[121]⟩ HEC.out HE.out.2.2.1] at hd ⊢
              by_cases e2 : errR (rp (gF [(⟨#[121]⟩, b)].reverse) c) = 0
              · have n2 : ¬ errR (rp (gF [(⟨#[121]⟩, b)].reverse) c) ≠ 0 := by rw [e2]; simp
                rw [if_neg n2] at hd ⊢
                by_cases e3 : errR (rp (gF [(⟨#[121]⟩, b)].reverse) a) = 0
                · have n3 : ¬ errR (rp (gF [(⟨#[121]⟩, b)].reverse) a) ≠ 0 := by rw [e3]; simp
                  rw [if_neg n3] at hg ⊢
                  have eg : errR g = 0 := by rw [← er_errR, hg]; exact e3
                  have ed : errR d = 0 := by rw [← er_errR, hd]; exact e2
                  have hrr : rp (gF [(⟨#[121]⟩, b)].reverse) c = rp (gF [(⟨#[120]⟩, g), (⟨#[121]⟩, b)].reverse) t := by
                    rw [← rp_er, HC.out]
                    exact twice_same HE.out.2.1 HE.out.2.2.1 eg HE.out.2.2.2.1 HE.out.2.2.2.2 hg
                  have hpk : putO t [(⟨#[120]⟩, g), (⟨#[121]⟩, b)] = (rp (gF [(⟨#[120]⟩, g), (⟨#[121]⟩, b)].reverse) t, 0) := by
                    rw [putO_ok HE.out.1 (gE_two _ _ _ _ eg HE.out.2.2.1), if_neg]
                    rw [← hrr, e2]; simp
                  have b17 := bel_alloc w16 (boxT g)
                  have HB17 := mkHid (bon HB16.out b17)
                  have F17 := box_four w16 g
                  have b18 := bel_alloc (w16.alloc (boxT g)) (.cells #[.string ⟨#[120]⟩, .int .i64 g.op, .string g.nm, .int .i64 g.n, .slice g.a g.ks.length g.c, .string ⟨#[121]⟩, .int .i64 b.op, .string b.nm, .int .i64 b.n, .slice b.a b.ks.length b.c] 43)
                  have HB18 := mkHid (bon HB17.out b18)
                  have F18 := mkHid ((F16.out.later b17).later b18)
                  have HDI18 := mkHid ((HDI16.out.later b17).later b18)
                  have HG18 := mkHid ((hgi.later b17).later b18)
                  have C7 := mkHid (CP.out _ HB18.out t [(⟨#[120]⟩, g), (⟨#[121]⟩, b)] _ (HK.out.t0.later HB18.out) (two_row (w16.alloc (boxT g)) ⟨#[120]⟩ ⟨#[121]⟩ g b) (by simp) (fun y hy => by
                    simp only [List.mem_cons, List.not_mem_nil, or_false] at hy
                    rcases hy with rfl | rfl
                    · exact ⟨HG18.out, by show (1 : Nat) ≤ maxLen; decide⟩
                    · exact ⟨HK.out.t2.later HB18.out, by show (1 : Nat) ≤ maxLen; decide⟩))
                  unfold SPutP at C7
                  rw [hpk] at C7
                  have hW17 : w16.alloc (.cells #[.int .i64 g.op, .string g.nm, .int .i64 g.n, .slice g.a g.ks.length g.c] 24) = w16.alloc (boxT g) := rfl
                  obtain ⟨k0, k1, k2, k3⟩ := F17
                  obtain ⟨l0, l1, l2, l3⟩ := (HK.out.later HB17.out).f0
                  obtain ⟨m0, m1, m2, m3⟩ := (HK.out.later HB17.out).f2
                  simp only [Nat.zero_add] at k1 k2 k3 l1 l2 l3 m1 m2 m3
                  have HDK := mkHid (hd.trans hrr)
                  have HED := mkHid ed
                  clear e2 e3 n2 n3 hd hg eg ed hrr hpk b17 b18 hgi HB16 F16 HDI16 HG18 HD
                  unfold Tm.val at C7 ⊢
                  generalize w16.alloc (boxT g) = w17 at *
                  go_wp2_with fail
                  ((with_reducible refine C7.out.mono ?_)); rintro e w19 ⟨k, rfl, hk, hki, hb19⟩
                  clear C7 k0 k1 k2 k3 l0 l1 l2 l3 m0 m1 m2 m3 hW17
                  have HB19 := mkHid (bon HB18.out hb19)
                  have b20 := bel_alloc w19 (boxT k)
                  have HB20 := mkHid (bon HB19.out b20)
                  have F20 := box_four w19 k
                  have FD := (F18.out.later hb19).later b20
                  have C8 := mkHid (rSame_any d k _ ((HDI18.out.later hb19).later b20) (hki.later b20))
                  have hke : eqT d k = true := (eqT_iff' d k).2 (by rw [HDK.out, hk])
                  have hkd : errR k = 0 := by rw [← er_errR, hk, ← HDK.out, er_errR]; exact HED.out
                  rw [hke, decide_eq_true (errR_fine HED.out).2.1, decide_eq_true (errR_fine hkd).2.1] at C8
                  have hW20 : w19.alloc (.cells #[.int .i64 k.op, .string k.nm, .int .i64 k.n, .slice k.a k.ks.length k.c] 24) = w19.alloc (boxT k) := rfl
                  obtain ⟨k0, k1, k2, k3⟩ := F20
                  obtain ⟨l0, l1, l2, l3⟩ := FD
                  simp only [Nat.zero_add] at k1 k2 k3 l1 l2 l3
                  clear hk hki hb19 b20 hke hkd HB19 F18 HDI18 HB18 HB17 HDK HED
                  unfold Tm.val at C8
                  generalize w19.alloc (boxT k) = w20 at *
                  go_wp2_with (go_at_call 21; ((with_reducible refine C8.out.mono ?_)); rintro e w21 ⟨rfl, hb21⟩)
                  go_ret
                  exact ⟨rfl, bon HB0.out (bon HB20.out hb21)⟩
                · rw [if_pos e3] at hg ⊢
                  have hne : ((errR (rp (gF [(⟨#[121]⟩, b)].reverse) a) : Int) != 0) = true := by rw [bne_iff_ne]; omega
                  have HB17 := mkHid (bon HB16.out (bel_alloc w16 (boxT g)))
                  clear e2 e3 hd hg
                  generalize errR (rp (gF [(⟨#[121]⟩, b)].reverse) a) = er at *
                  unfold Tm.val
                  go_wp2
                  go_ret
                  exact ⟨rfl, bon HB0.out HB17.out⟩
              · rw [if_pos e2] at hd ⊢
                have hne : ((errR (rp (gF [(⟨#[121]⟩, b)].reverse) c) : Int) != 0) = true := by rw [bne_iff_ne]; omega
                have HB17 := mkHid (bon HB16.out (bel_alloc w16 (boxT g)))
                clear e2 hd hg
                generalize errR (rp (gF [(⟨#[121]⟩, b)].reverse) c) = er at *
                generalize (if errR (rp (gF [(⟨#[121]⟩, b)].reverse) a) ≠ 0 then (zT, errR (rp (gF [(⟨#[121]⟩, b)].reverse) a)) else (rp (gF [(⟨#[121]⟩, b)].reverse) a, 0)).2 = er3 at *
                unfold Tm.val
                go_wp2
                go_ret
                exact ⟨rfl, bon HB0.out HB17.out⟩
            · rw [if_pos e1] at hc ⊢
              have e7 : errR (rp (gF [(⟨#[120]⟩, a)].reverse) t) = 7 := by
                rcases rp_right HE.out.1 (put1_srt (nm := ⟨#[120]⟩) HE.out.2.1) with h | h
                · exact absurd h e1
                · exact h
              rw [e7]
              have HB13 := mkHid (bon HB12.out (bel_alloc w12 (boxT c)))
              clear e1 e7 hc
              unfold Tm.val
              go_wp2
              go_ret
              exact ⟨rfl, bon HB0.out HB13.out⟩
          · have hne : ((srtR b : Int) != 1) = true := by rw [bne_iff_ne]; omega
            clear h1 h2 h3 h4 h5
            generalize srtR b = sb at *
            generalize errR b = eb at *
            generalize errR a = ea at *
            go_wp2
            go_ret
            exact ⟨rfl, bon HB0.out HB9.out⟩
        · have hne : ((srtR a : Int) != 1) = true := by rw [bne_iff_ne]; omega
          clear h1 h2 h3 h4
          generalize srtR b = sb at *
          generalize srtR a = sa at *
          generalize errR b = eb at *
          generalize errR a = ea at *
          go_wp2
          go_ret
          exact ⟨rfl, bon HB0.out HB9.out⟩
      · rw [show smallB b = false by simpa using h3]
        clear h1 h2 h3
        generalize srtR b = sb at *
        generalize srtR a = sa at *
        generalize errR b = eb at *
        generalize errR a = ea at *
        go_wp2
        go_ret
        exact ⟨rfl, bon HB0.out HB9.out⟩
    · rw [show smallB a = false by simpa using h2]
      clear h1 h2
      generalize smallB b = b3 at *
      generalize srtR b = sb at *
      generalize srtR a = sa at *
      generalize errR b = eb at *
      generalize errR a = ea at *
      go_wp2
      go_ret
      exact ⟨rfl, bon HB0.out HB9.out⟩
  · rw [show smallB t = false by simpa using h1]
    clear h1
    generalize smallB b = b3 at *
    generalize smallB a = b2 at *
    generalize srtR b = sb at *
    generalize srtR a = sa at *
    generalize errR b = eb at *
    generalize errR a = ea at *
    go_wp2
    go_ret
    exact ⟨rfl, bon HB0.out HB9.out⟩
end Go.Proofs.YtaiachmolkjedaaDoor
