/-
  Plain mathematics of fractions in lowest terms: nothing of the program in it.
-/
import Derived.Test.YtkgaoafcjhjefaaNumMath
namespace Go.Proofs.Ytkgaoafcjhjefaa

/-- both parts of a fraction in lowest terms are int64s -/
def rok (r : Rat) : Bool := fitB r.num && fitB (r.den : Int)
theorem rok_iff (r : Rat) : rok r = true ↔ fitB r.num = true ∧ fitB (r.den : Int) = true := by simp [rok]
/-- what is told of a fraction -/
def told (r : Rat) : Option Rat := if rok r then some r else none
theorem told_some {r : Rat} (h : rok r = true) : told r = some r := by simp [told, h]
theorem told_none {r : Rat} (h : rok r = false) : told r = none := by simp [told, h]
/-- the two fields of a rat: those of a fraction, or noughts -/
def vp : Option Rat → Int | some r => r.num | none => 0
def vq : Option Rat → Int | some r => (r.den : Int) | none => 0
def Fits (o : Option Rat) : Prop := ∀ r, o = some r → rok r = true
theorem fits_told (r : Rat) : Fits (told r) := by
  intro s h
  unfold told at h
  split at h
  · cases h; assumption
  · cases h
theorem fits_none : Fits none := fun _ h => by cases h
theorem fits_some {r : Rat} (h : rok r = true) : Fits (some r) := fun _ e => by cases e; exact h
theorem fitB_zero : fitB 0 = true := by decide
theorem Fits.vp {o : Option Rat} (h : Fits o) : fitB (vp o) = true := by
  cases o with
  | none => exact fitB_zero
  | some r => exact ((rok_iff r).1 (h r rfl)).1
theorem Fits.vq {o : Option Rat} (h : Fits o) : fitB (vq o) = true := by
  cases o with
  | none => exact fitB_zero
  | some r => exact ((rok_iff r).1 (h r rfl)).2
theorem vq_pos (o : Option Rat) : decide (1 ≤ vq o) = o.isSome := by
  cases o with
  | none => rfl
  | some r => have := r.den_nz; show decide (1 ≤ (r.den : Int)) = true; exact decide_eq_true (by omega)

theorem num_den_ext {a b : Rat} (h1 : a.num = b.num) (h2 : a.den = b.den) : a = b := by
  cases a; cases b; simp_all
theorem vpq_inj {o o' : Option Rat} (h1 : vp o = vp o') (h2 : vq o = vq o') : o = o' := by
  cases o with
  | none => cases o' with
    | none => rfl
    | some r => have := r.den_nz; simp [vq] at h2; omega
  | some r => cases o' with
    | none => have := r.den_nz; simp [vq] at h2; omega
    | some s => simp [vp, vq] at h1 h2; rw [num_den_ext h1 (by omega)]

/-- A fraction whose parts are known by what they are in proportion to, and that they have no common divisor. -/
theorem rat_of (n d : Int) (P Q : Int) (hd : d ≠ 0) (hQ : 0 < Q) (hc : Nat.gcd P.natAbs Q.natAbs = 1) (h : P * d = n * Q) :
    (Rat.divInt n d).num = P ∧ ((Rat.divInt n d).den : Int) = Q := by
  have hQ' : Q.toNat ≠ 0 := by omega
  have e : Rat.divInt n d = Rat.mk' P Q.toNat hQ' (by
      have : Q.toNat = Q.natAbs := by omega
      rw [this]; exact hc) := by
    have e2 : Rat.mk' P Q.toNat hQ' (by
      have : Q.toNat = Q.natAbs := by omega
      rw [this]; exact hc) = Rat.divInt P Q := by
      have : (Q.toNat : Int) = Q := by omega
      rw [Rat.mk_eq_divInt, this]
    rw [e2]
    exact (Rat.divInt_eq_divInt_iff hd (by omega)).2 h.symm
  rw [e]
  exact ⟨rfl, by simp; omega⟩

theorem sgn_abs (b : Bool) (x : Nat) : (sgnI b (x : Int)).natAbs = x := by cases b <;> simp [sgnI]
theorem szI_nat (a : Int) : szI a = (a.natAbs : Int) := rfl

theorem make_rat (p q : Int) (hq : q ≠ 0) :
    (Rat.divInt p q).num = sgnI (!(negB p == negB q)) (szI p / gcdI p q) ∧ ((Rat.divInt p q).den : Int) = szI q / gcdI p q := by
  have hg : 0 < Nat.gcd p.natAbs q.natAbs := Nat.gcd_pos_of_pos_right _ (by omega)
  have e1 : szI p / gcdI p q = ((p.natAbs / Nat.gcd p.natAbs q.natAbs : Nat) : Int) := by unfold szI gcdI; exact (Int.natCast_ediv _ _).symm
  have e2 : szI q / gcdI p q = ((q.natAbs / Nat.gcd p.natAbs q.natAbs : Nat) : Int) := by unfold szI gcdI; exact (Int.natCast_ediv _ _).symm
  rw [e1, e2]
  have hd1 := Nat.div_mul_cancel (Nat.gcd_dvd_left p.natAbs q.natAbs)
  have hd2 := Nat.div_mul_cancel (Nat.gcd_dvd_right p.natAbs q.natAbs)
  have hc := Nat.coprime_div_gcd_div_gcd hg
  have hqp : 0 < q.natAbs / Nat.gcd p.natAbs q.natAbs := by
    rcases Nat.eq_zero_or_pos (q.natAbs / Nat.gcd p.natAbs q.natAbs) with h | h
    · rw [h] at hd2; omega
    · exact h
  generalize p.natAbs / Nat.gcd p.natAbs q.natAbs = x at *
  generalize q.natAbs / Nat.gcd p.natAbs q.natAbs = y at *
  generalize Nat.gcd p.natAbs q.natAbs = g at *
  refine rat_of p q _ _ hq (by omega) (by rw [sgn_abs]; simpa using hc) ?_
  have hp : p = sgnI (negB p) ((x : Int) * g) := by
    have : ((p.natAbs : Nat) : Int) = (x : Int) * g := by rw [← hd1]; push_cast; rfl
    rw [← this]; unfold sgnI negB; by_cases h : p < 0 <;> simp [h] <;> omega
  have hqq : q = sgnI (negB q) ((y : Int) * g) := by
    have : ((q.natAbs : Nat) : Int) = (y : Int) * g := by rw [← hd2]; push_cast; rfl
    rw [← this]; unfold sgnI negB; by_cases h : q < 0 <;> simp [h] <;> omega
  generalize negB p = b1 at *
  generalize negB q = b2 at *
  rw [hp, hqq]
  cases b1 <;> cases b2 <;> simp [sgnI] <;> grind

/-- The heart of the sum: no common divisor is left. -/
theorem sum_coprime (a b : Int) (x y d : Nat) (hxy : Nat.Coprime x y) (ha : Nat.Coprime a.natAbs (d * x)) (hb : Nat.Coprime b.natAbs (d * y)) :
    Nat.Coprime x (a * y + b * x).natAbs ∧ Nat.Coprime y (a * y + b * x).natAbs := by
  have key : ∀ (a b : Int) (x y : Nat), Nat.Coprime x y → Nat.Coprime a.natAbs x → Nat.Coprime x (a * y + b * x).natAbs := by
    intro a b x y hxy hax
    have h1 : (Nat.gcd x (a * y + b * x).natAbs : Int) ∣ a * y := by
      have d1 : ((Nat.gcd x (a * y + b * x).natAbs : Nat) : Int) ∣ (a * y + b * x) := Int.ofNat_dvd_left.2 (Nat.gcd_dvd_right _ _)
      have d2 : ((Nat.gcd x (a * y + b * x).natAbs : Nat) : Int) ∣ b * x := by
        have : ((Nat.gcd x (a * y + b * x).natAbs : Nat) : Int) ∣ (x : Int) := Int.natCast_dvd_natCast.2 (Nat.gcd_dvd_left _ _)
        exact Int.dvd_mul_of_dvd_right this
      have := Int.dvd_sub d1 d2
      rwa [Int.add_sub_cancel] at this
    have h2 : Nat.gcd x (a * y + b * x).natAbs ∣ a.natAbs * y := by
      have := Int.ofNat_dvd_left.1 h1
      rwa [Int.natAbs_mul, Int.natAbs_natCast] at this
    have hg : Nat.gcd x (a * y + b * x).natAbs ∣ x := Nat.gcd_dvd_left _ _
    have h3 : Nat.Coprime (Nat.gcd x (a * y + b * x).natAbs) y := Nat.Coprime.coprime_dvd_left hg hxy
    have h4 := Nat.Coprime.dvd_of_dvd_mul_right h3 h2
    have h5 : Nat.Coprime (Nat.gcd x (a * y + b * x).natAbs) (Nat.gcd x (a * y + b * x).natAbs) :=
      Nat.Coprime.coprime_dvd_left h4 (Nat.Coprime.coprime_dvd_right hg hax)
    rwa [Nat.coprime_self] at h5
  refine ⟨key a b x y hxy (Nat.Coprime.coprime_dvd_right (Nat.dvd_mul_left x d) ha), ?_⟩
  have := key b a y x hxy.symm (Nat.Coprime.coprime_dvd_right (Nat.dvd_mul_left y d) hb)
  rwa [Int.add_comm] at this

theorem gcdI_nat (m n : Nat) : gcdI (m : Int) (n : Int) = (Nat.gcd m n : Nat) := by unfold gcdI; simp
theorem sum_parts (a b : Int) (m n : Nat) (hm : 0 < m) (hn : 0 < n) (ha : Nat.Coprime a.natAbs m) (hb : Nat.Coprime b.natAbs n) (d T e : Int)
    (hd : gcdI (m : Int) (n : Int) = d) (hT : a * ((n : Int) / d) + b * ((m : Int) / d) = T) (he : gcdI (szI T % d) d = e) :
    (Rat.divInt (a * n + b * m) ((m : Int) * n)).num = sgnI (negB T) (szI T / e) ∧ ((Rat.divInt (a * n + b * m) ((m : Int) * n)).den : Int) = (m : Int) / d * ((n : Int) / e) := by
  rw [gcdI_nat] at hd
  have hgp : 0 < Nat.gcd m n := Nat.gcd_pos_of_pos_left _ hm
  obtain ⟨x, hx⟩ := Nat.gcd_dvd_left m n
  obtain ⟨y, hy⟩ := Nat.gcd_dvd_right m n
  have hxy : Nat.Coprime x y := by
    have h := Nat.coprime_div_gcd_div_gcd hgp
    have e1 : m / Nat.gcd m n = x := by
      rw [Nat.div_eq_iff_eq_mul_right hgp (Nat.gcd_dvd_left m n)]; exact hx
    have e2 : n / Nat.gcd m n = y := by
      rw [Nat.div_eq_iff_eq_mul_right hgp (Nat.gcd_dvd_right m n)]; exact hy
    rwa [e1, e2] at h
  generalize Nat.gcd m n = g at *
  subst hd
  have hmd : (m : Int) / (g : Int) = x := by rw [hx]; push_cast; exact Int.mul_ediv_cancel_left _ (by omega)
  have hnd : (n : Int) / (g : Int) = y := by rw [hy]; push_cast; exact Int.mul_ediv_cancel_left _ (by omega)
  rw [hmd, hnd] at hT
  rw [hmd]
  rw [hx] at ha
  rw [hy] at hb
  obtain ⟨c1, c2⟩ := sum_coprime a b x y g hxy ha hb
  rw [hT] at c1 c2
  have hx0 : 0 < x := by rcases Nat.eq_zero_or_pos x with h | h; · subst h; omega
                         · exact h
  have hy0 : 0 < y := by rcases Nat.eq_zero_or_pos y with h | h; · subst h; omega
                         · exact h
  -- the common divisor
  have he2 : e = ((Nat.gcd T.natAbs (x * (y * g)) : Nat) : Int) := by
    rw [← he, Nat.Coprime.gcd_mul_left_cancel_right _ c1, Nat.Coprime.gcd_mul_left_cancel_right _ c2]
    unfold gcdI szI
    have : ((T.natAbs : Int) % (g : Int)).natAbs = T.natAbs % g := by rw [← Int.natCast_emod]; exact Int.natAbs_natCast _
    rw [this, Int.natAbs_natCast, ← Nat.gcd_rec, Nat.gcd_comm]
  have hfac : Nat.gcd T.natAbs (x * (y * g)) ∣ g := by
    rw [Nat.Coprime.gcd_mul_left_cancel_right _ c1, Nat.Coprime.gcd_mul_left_cancel_right _ c2]; exact Nat.gcd_dvd_right _ _
  have hep : 0 < Nat.gcd T.natAbs (x * (y * g)) := Nat.gcd_pos_of_pos_right _ (Nat.mul_pos hx0 (Nat.mul_pos hy0 hgp))
  have hco := Nat.coprime_div_gcd_div_gcd hep
  have ht := Nat.div_mul_cancel (Nat.gcd_dvd_left T.natAbs (x * (y * g)))
  generalize Nat.gcd T.natAbs (x * (y * g)) = f at *
  subst he2
  obtain ⟨k, hk⟩ := hfac
  have hq : x * (y * g) / f = x * (y * k) := by
    rw [Nat.div_eq_iff_eq_mul_right hep ⟨x * (y * k), by rw [hk]; grind⟩, hk]; grind
  have hne : (n : Int) / (f : Int) = (y * k : Nat) := by
    rw [hy, hk]; push_cast
    rw [show (f : Int) * k * y = f * (y * k) by grind]; exact Int.mul_ediv_cancel_left _ (by omega)
  rw [hne]
  rw [hq] at hco
  have hst : szI T / (f : Int) = ((T.natAbs / f : Nat) : Int) := by unfold szI; exact (Int.natCast_ediv _ _).symm
  rw [hst]
  have hk0 : 0 < k := by rcases Nat.eq_zero_or_pos k with h | h; · subst h; omega
                         · exact h
  generalize T.natAbs / f = t at *
  have hTT : T = sgnI (negB T) ((t : Int) * f) := by
    have : ((T.natAbs : Nat) : Int) = (t : Int) * f := by rw [← ht]; push_cast; rfl
    rw [← this]; unfold sgnI negB; by_cases h : T < 0 <;> simp [h] <;> omega
  refine rat_of _ _ _ _ (by have := Int.mul_pos (show (0 : Int) < m by omega) (show (0 : Int) < n by omega); omega) (Int.mul_pos (by omega) (by exact_mod_cast Nat.mul_pos hy0 hk0)) ?_ ?_
  · rw [sgn_abs, Int.natAbs_mul, Int.natAbs_natCast, Int.natAbs_natCast]; exact hco
  · generalize negB T = s at *
    have h1 : a * (n : Int) + b * (m : Int) = g * T := by rw [← hT, hx, hy]; push_cast; grind
    rw [h1, hTT, hx, hy, hk]
    push_cast
    cases s <;> simp [sgnI] <;> grind

theorem plus_rat (a b : Rat) (d T e : Int) (hd : gcdI (a.den : Int) (b.den : Int) = d) (hT : a.num * ((b.den : Int) / d) + b.num * ((a.den : Int) / d) = T) (he : gcdI (szI T % d) d = e) :
    (a + b).num = sgnI (negB T) (szI T / e) ∧ ((a + b).den : Int) = (a.den : Int) / d * ((b.den : Int) / e) := by
  have h := sum_parts a.num b.num a.den b.den (Nat.pos_of_ne_zero a.den_nz) (Nat.pos_of_ne_zero b.den_nz) a.reduced b.reduced d T e hd hT he
  have e1 : a + b = Rat.divInt (a.num * b.den + b.num * a.den) ((a.den : Int) * b.den) := by
    have h1 := Rat.divInt_add_divInt a.num b.num (d₁ := a.den) (d₂ := b.den) (by have := a.den_nz; omega) (by have := b.den_nz; omega)
    rw [Rat.num_divInt_den, Rat.num_divInt_den] at h1; exact h1
  rw [e1]; exact h
theorem minus_rat (a b : Rat) (d T e : Int) (hd : gcdI (a.den : Int) (b.den : Int) = d) (hT : a.num * ((b.den : Int) / d) - b.num * ((a.den : Int) / d) = T) (he : gcdI (szI T % d) d = e) :
    (a - b).num = sgnI (negB T) (szI T / e) ∧ ((a - b).den : Int) = (a.den : Int) / d * ((b.den : Int) / e) := by
  have h := sum_parts a.num (-b.num) a.den b.den (Nat.pos_of_ne_zero a.den_nz) (Nat.pos_of_ne_zero b.den_nz) a.reduced (by rw [Int.natAbs_neg]; exact b.reduced) d T e hd (by rw [← hT, Int.neg_mul]; rfl) he
  have e1 : a - b = Rat.divInt (a.num * b.den + -b.num * a.den) ((a.den : Int) * b.den) := by
    have h1 := Rat.divInt_sub_divInt a.num b.num (d₁ := a.den) (d₂ := b.den) (by have := a.den_nz; omega) (by have := b.den_nz; omega)
    rw [Rat.num_divInt_den, Rat.num_divInt_den] at h1
    rw [h1, Int.neg_mul]; rfl
  rw [e1]; exact h

/-- The heart of the product: no common divisor is left. -/
theorem cross_parts (p1 q1 p2 q2 : Nat) (h1 : Nat.Coprime p1 q1) (h2 : Nat.Coprime p2 q2) (hq1 : 0 < q1) (hq2 : 0 < q2) (s : Bool) (N D : Int) (hN : N = sgnI s ((p1 * p2 : Nat) : Int)) (hD : D = ((q1 * q2 : Nat) : Int)) (d e : Int)
    (hd : gcdI (p1 : Int) (q2 : Int) = d) (he : gcdI (p2 : Int) (q1 : Int) = e) :
    (Rat.divInt N D).num = sgnI s ((p1 : Int) / d * ((p2 : Int) / e)) ∧ ((Rat.divInt N D).den : Int) = (q1 : Int) / e * ((q2 : Int) / d) := by
  rw [gcdI_nat] at hd he
  have hdp : 0 < Nat.gcd p1 q2 := Nat.gcd_pos_of_pos_right _ hq2
  have hep : 0 < Nat.gcd p2 q1 := Nat.gcd_pos_of_pos_right _ hq1
  have k1 := Nat.coprime_div_gcd_div_gcd hdp
  have k2 := Nat.coprime_div_gcd_div_gcd hep
  have a1 := Nat.div_mul_cancel (Nat.gcd_dvd_left p1 q2)
  have a2 := Nat.div_mul_cancel (Nat.gcd_dvd_right p1 q2)
  have a3 := Nat.div_mul_cancel (Nat.gcd_dvd_left p2 q1)
  have a4 := Nat.div_mul_cancel (Nat.gcd_dvd_right p2 q1)
  generalize Nat.gcd p1 q2 = f at *
  generalize Nat.gcd p2 q1 = g at *
  subst hd; subst he
  have e1 : (p1 : Int) / (f : Int) = ((p1 / f : Nat) : Int) := (Int.natCast_ediv _ _).symm
  have e2 : (p2 : Int) / (g : Int) = ((p2 / g : Nat) : Int) := (Int.natCast_ediv _ _).symm
  have e3 : (q1 : Int) / (g : Int) = ((q1 / g : Nat) : Int) := (Int.natCast_ediv _ _).symm
  have e4 : (q2 : Int) / (f : Int) = ((q2 / f : Nat) : Int) := (Int.natCast_ediv _ _).symm
  rw [e1, e2, e3, e4]
  generalize p1 / f = x1 at *
  generalize p2 / g = x2 at *
  generalize q1 / g = y1 at *
  generalize q2 / f = y2 at *
  have b1 : Nat.Coprime x1 y1 := Nat.Coprime.coprime_dvd_left ⟨f, a1.symm⟩ (Nat.Coprime.coprime_dvd_right ⟨g, a4.symm⟩ h1)
  have b2 : Nat.Coprime x2 y2 := Nat.Coprime.coprime_dvd_left ⟨g, a3.symm⟩ (Nat.Coprime.coprime_dvd_right ⟨f, a2.symm⟩ h2)
  have hy1 : 0 < y1 := by rcases Nat.eq_zero_or_pos y1 with h | h; · subst h; omega
                          · exact h
  have hy2 : 0 < y2 := by rcases Nat.eq_zero_or_pos y2 with h | h; · subst h; omega
                          · exact h
  have hD0 : D ≠ 0 := by rw [hD]; have := Nat.mul_pos hq1 hq2; omega
  have hmul : (x1 : Int) * (x2 : Int) = ((x1 * x2 : Nat) : Int) := by push_cast; rfl
  refine rat_of _ _ _ _ hD0 (by exact_mod_cast Nat.mul_pos hy1 hy2) ?_ ?_
  · rw [hmul, sgn_abs, Int.natAbs_mul, Int.natAbs_natCast, Int.natAbs_natCast]
    exact Nat.Coprime.mul_left (Nat.Coprime.mul_right b1 k1) (Nat.Coprime.mul_right k2 b2)
  · rw [hN, hD, ← a1, ← a2, ← a3, ← a4]
    push_cast
    cases s <;> simp [sgnI] <;> grind
theorem sgn_mul (a b : Int) : a * b = sgnI (!(negB a == negB b)) ((a.natAbs * b.natAbs : Nat) : Int) := by
  have h1 : a = sgnI (negB a) (a.natAbs : Int) := (sgn_sz a).symm
  have h2 : b = sgnI (negB b) (b.natAbs : Int) := (sgn_sz b).symm
  generalize a.natAbs = x at *
  generalize b.natAbs = y at *
  generalize negB a = s at *
  generalize negB b = t at *
  rw [h1, h2]; push_cast
  cases s <;> cases t <;> simp [sgnI] <;> grind
theorem times_rat (a b : Rat) (d e : Int) (hd : gcdI (szI a.num) (b.den : Int) = d) (he : gcdI (szI b.num) (a.den : Int) = e) :
    (a * b).num = sgnI (!(negB a.num == negB b.num)) (szI a.num / d * (szI b.num / e)) ∧ ((a * b).den : Int) = (a.den : Int) / e * ((b.den : Int) / d) := by
  have e1 : a * b = Rat.divInt (a.num * b.num) ((a.den * b.den : Nat) : Int) := by
    have h1 := Rat.divInt_mul_divInt a.num b.num (d₁ := a.den) (d₂ := b.den)
    rw [Rat.num_divInt_den, Rat.num_divInt_den] at h1
    rw [h1]; push_cast; rfl
  rw [e1]
  exact cross_parts a.num.natAbs a.den b.num.natAbs b.den a.reduced b.reduced (Nat.pos_of_ne_zero a.den_nz) (Nat.pos_of_ne_zero b.den_nz) _ _ _ (sgn_mul _ _) rfl d e hd he
theorem over_rat (a b : Rat) (hb : b ≠ 0) (d e : Int) (hd : gcdI (szI a.num) (szI b.num) = d) (he : gcdI (b.den : Int) (a.den : Int) = e) :
    (a / b).num = sgnI (!(negB a.num == negB b.num)) (szI a.num / d * ((b.den : Int) / e)) ∧ ((a / b).den : Int) = (a.den : Int) / e * (szI b.num / d) := by
  have hn : b.num ≠ 0 := by
    intro h; apply hb; exact Rat.num_eq_zero.1 h
  have e1 : a / b = Rat.divInt (sgnI (!(negB a.num == negB b.num)) ((a.num.natAbs * b.den : Nat) : Int)) ((a.den * b.num.natAbs : Nat) : Int) := by
    have h1 := Rat.divInt_mul_divInt a.num b.den (d₁ := a.den) (d₂ := b.num)
    rw [Rat.num_divInt_den] at h1
    have h2 : Rat.divInt (b.den : Int) b.num = b⁻¹ := by rw [← Rat.inv_divInt, Rat.num_divInt_den]
    rw [h2] at h1
    rw [Rat.div_def, h1]
    refine (Rat.divInt_eq_divInt_iff (Int.mul_ne_zero (by have := a.den_nz; omega) hn) (by have := Nat.mul_pos (Nat.pos_of_ne_zero a.den_nz) (Int.natAbs_pos.2 hn); omega)).2 ?_
    have k1 : a.num = sgnI (negB a.num) (a.num.natAbs : Int) := (sgn_sz a.num).symm
    have k2 : b.num = sgnI (negB b.num) (b.num.natAbs : Int) := (sgn_sz b.num).symm
    generalize a.num.natAbs = x at *
    generalize b.num.natAbs = y at *
    generalize negB a.num = s at *
    generalize negB b.num = t at *
    rw [k1, k2]; push_cast
    cases s <;> cases t <;> simp [sgnI] <;> grind
  rw [e1]
  exact cross_parts a.num.natAbs a.den b.den b.num.natAbs a.reduced b.reduced.symm (Nat.pos_of_ne_zero a.den_nz) (Int.natAbs_pos.2 hn) _ _ _ rfl rfl d e hd he
end Go.Proofs.Ytkgaoafcjhjefaa
