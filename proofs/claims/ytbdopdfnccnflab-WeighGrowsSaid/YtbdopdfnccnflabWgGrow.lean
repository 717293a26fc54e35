/-
  Five thousand divisions by 0.95, from 1 on: beyond 1e100.
-/
import Derived.Test.YtbdopdfnccnflabWgWords
namespace Go.Proofs.Ytbdopdfnccnflab

def forceN (x : Nat) (k : Nat → Nat) : Nat := match x with
  | 0 => k 0
  | m + 1 => k (m + 1)
theorem forceN_eq (x : Nat) (k : Nat → Nat) : forceN x k = k x := by cases x <;> rfl
def itF : Nat → Nat → Nat
  | 0, x => x
  | n + 1, x => forceN (decayW x) (itF n)
/-- Decay, n times -/
def itD : Nat → Nat → Nat
  | 0, x => x
  | n + 1, x => decayW (itD n x)
theorem itD_front (n x : Nat) : itD (n + 1) x = itD n (decayW x) := by
  induction n with
  | zero => rfl
  | succ n ih => show decayW (itD (n + 1) x) = decayW (itD n (decayW x)); rw [ih]
theorem itF_eq (n x : Nat) : itF n x = itD n x := by
  induction n generalizing x with
  | zero => rfl
  | succ n ih => show forceN _ _ = _; rw [forceN_eq, ih, itD_front]
theorem itD_add (m n x : Nat) : itD (m + n) x = itD m (itD n x) := by
  induction m with
  | zero => rw [Nat.zero_add]; rfl
  | succ m ih => rw [Nat.succ_add]; show decayW _ = decayW _; rw [ih]
theorem it1 : itF 250 4607182418800017408 = 4690113305893708985 := by decide +kernel
theorem it2 : itF 250 4690113305893708985 = 4773816512638301722 := by decide +kernel
theorem it3 : itF 250 4773816512638301722 = 4856747775812151625 := by decide +kernel
theorem it4 : itF 250 4856747775812151625 = 4940450606659502868 := by decide +kernel
theorem it5 : itF 250 4940450606659502868 = 5023382245989303810 := by decide +kernel
theorem it6 : itF 250 5023382245989303810 = 5107084700863657710 := by decide +kernel
theorem it7 : itF 250 5107084700863657710 = 5190016716425217654 := by decide +kernel
theorem it8 : itF 250 5190016716425217654 = 5273718795250803117 := by decide +kernel
theorem it9 : itF 250 5273718795250803117 = 5356651187119945328 := by decide +kernel
theorem it10 : itF 250 5356651187119945328 = 5440352889820975978 := by decide +kernel
theorem it11 : itF 250 5440352889820975978 = 5523285658073538981 := by decide +kernel
theorem it12 : itF 250 5523285658073538981 = 5606986984574213177 := by decide +kernel
theorem it13 : itF 250 5606986984574213177 = 5689920129286050786 := by decide +kernel
theorem it14 : itF 250 5689920129286050786 = 5773621079510551599 := by decide +kernel
theorem it15 : itF 250 5773621079510551599 = 5856554600757532926 := by decide +kernel
theorem it16 : itF 250 5856554600757532926 = 5940255174630028158 := by decide +kernel
theorem it17 : itF 250 5940255174630028158 = 6023189072488037593 := by decide +kernel
theorem it18 : itF 250 6023189072488037593 = 6106889269932679745 := by decide +kernel
theorem it19 : itF 250 6106889269932679745 = 6189823544477616966 := by decide +kernel
theorem it20 : itF 250 6189823544477616966 = 6273523365418543280 := by decide +kernel
theorem d0 : itD 0 4607182418800017408 = 4607182418800017408 := rfl
theorem d1 : itD 250 4607182418800017408 = 4690113305893708985 := by
  rw [show 250 = 250 + 0 from rfl, itD_add, d0, ← itF_eq, it1]
theorem d2 : itD 500 4607182418800017408 = 4773816512638301722 := by
  rw [show 500 = 250 + 250 from rfl, itD_add, d1, ← itF_eq, it2]
theorem d3 : itD 750 4607182418800017408 = 4856747775812151625 := by
  rw [show 750 = 250 + 500 from rfl, itD_add, d2, ← itF_eq, it3]
theorem d4 : itD 1000 4607182418800017408 = 4940450606659502868 := by
  rw [show 1000 = 250 + 750 from rfl, itD_add, d3, ← itF_eq, it4]
theorem d5 : itD 1250 4607182418800017408 = 5023382245989303810 := by
  rw [show 1250 = 250 + 1000 from rfl, itD_add, d4, ← itF_eq, it5]
theorem d6 : itD 1500 4607182418800017408 = 5107084700863657710 := by
  rw [show 1500 = 250 + 1250 from rfl, itD_add, d5, ← itF_eq, it6]
theorem d7 : itD 1750 4607182418800017408 = 5190016716425217654 := by
  rw [show 1750 = 250 + 1500 from rfl, itD_add, d6, ← itF_eq, it7]
theorem d8 : itD 2000 4607182418800017408 = 5273718795250803117 := by
  rw [show 2000 = 250 + 1750 from rfl, itD_add, d7, ← itF_eq, it8]
theorem d9 : itD 2250 4607182418800017408 = 5356651187119945328 := by
  rw [show 2250 = 250 + 2000 from rfl, itD_add, d8, ← itF_eq, it9]
theorem d10 : itD 2500 4607182418800017408 = 5440352889820975978 := by
  rw [show 2500 = 250 + 2250 from rfl, itD_add, d9, ← itF_eq, it10]
theorem d11 : itD 2750 4607182418800017408 = 5523285658073538981 := by
  rw [show 2750 = 250 + 2500 from rfl, itD_add, d10, ← itF_eq, it11]
theorem d12 : itD 3000 4607182418800017408 = 5606986984574213177 := by
  rw [show 3000 = 250 + 2750 from rfl, itD_add, d11, ← itF_eq, it12]
theorem d13 : itD 3250 4607182418800017408 = 5689920129286050786 := by
  rw [show 3250 = 250 + 3000 from rfl, itD_add, d12, ← itF_eq, it13]
theorem d14 : itD 3500 4607182418800017408 = 5773621079510551599 := by
  rw [show 3500 = 250 + 3250 from rfl, itD_add, d13, ← itF_eq, it14]
theorem d15 : itD 3750 4607182418800017408 = 5856554600757532926 := by
  rw [show 3750 = 250 + 3500 from rfl, itD_add, d14, ← itF_eq, it15]
theorem d16 : itD 4000 4607182418800017408 = 5940255174630028158 := by
  rw [show 4000 = 250 + 3750 from rfl, itD_add, d15, ← itF_eq, it16]
theorem d17 : itD 4250 4607182418800017408 = 6023189072488037593 := by
  rw [show 4250 = 250 + 4000 from rfl, itD_add, d16, ← itF_eq, it17]
theorem d18 : itD 4500 4607182418800017408 = 6106889269932679745 := by
  rw [show 4500 = 250 + 4250 from rfl, itD_add, d17, ← itF_eq, it18]
theorem d19 : itD 4750 4607182418800017408 = 6189823544477616966 := by
  rw [show 4750 = 250 + 4500 from rfl, itD_add, d18, ← itF_eq, it19]
theorem d20 : itD 5000 4607182418800017408 = 6273523365418543280 := by
  rw [show 5000 = 250 + 4750 from rfl, itD_add, d19, ← itF_eq, it20]
end Go.Proofs.Ytbdopdfnccnflab
