/-
  Where an atom stands in a row: 'place' of package cnf, and 'defined'.
-/
import Derived.Test.YtaiachmolkjedaaDoorCnM
import Derived.Test.YtaiachmolkjedaaDoorCnB
namespace Go.Proofs.YtaiachmolkjedaaDoor
open Go.RowKit

/-- an answer, with nothing that was there turned -/
def RetV (v : Value) (w : World) (e : Ending) (w' : World) : Prop := e = .returned v ∧ Below w.heap.size w w'
def dfB (op : Int) : Bool := jnB op && !decide (op = 18)
theorem dfB_iff (op : Int) : dfB op = true ↔ op = 16 ∨ op = 17 ∨ op = 19 ∨ op = 20 ∨ op = 21 := by
  unfold dfB jnB
  simp only [Bool.and_eq_true, decide_eq_true_eq, Bool.not_eq_true', decide_eq_false_iff_not]
  omega
set_option maxRecDepth 100000 in
set_option maxHeartbeats 2000000 in
theorem defined_any (op : Int) (w : World) : Calls Tryd.prog 85 #[.int .i64 op] w fun e w' => e = .returned (.bool (dfB op)) ∧ w' = w := by
  by_cases h : dfB op = true
  · rw [h]
    rcases (dfB_iff op).1 h with rfl | rfl | rfl | rfl | rfl <;>
    · clear h
      go_enter Tryd.func85, Tryd.ntmps85
      go_wp2
      go_ret
      exact ⟨rfl, rfl⟩
  · have hn : ¬ (op = 16 ∨ op = 17 ∨ op = 19 ∨ op = 20 ∨ op = 21) := fun e => h ((dfB_iff op).2 e)
    have hf : dfB op = false := by simpa using h
    rw [hf]
    have h1 : (op == 16) = false := by simp; omega
    have h2 : (op == 17) = false := by simp; omega
    have h3 : (op == 19) = false := by simp; omega
    have h4 : (op == 20) = false := by simp; omega
    have h5 : (op == 21) = false := by simp; omega
    clear h hn hf
    go_enter Tryd.func85, Tryd.ntmps85
    go_wp2
    go_ret
    exact ⟨rfl, rfl⟩

/-- a row of terms -/
def Row4 (w : World) (v : Value) (L : List Tm) : Prop := ∃ a c, v = .slice a L.length c ∧ L.length ≤ maxLen ∧ ∀ j (h : j < L.length), ∃ b o, a = some ⟨b, o, none⟩ ∧ b < w.heap.size ∧ Four w b (o + j * 4) L[j]
theorem Row4.later {w w' : World} {v : Value} {L : List Tm} (h : Row4 w v L) (hb : Below w.heap.size w w') : Row4 w' v L := by
  obtain ⟨a, c, e, hl, hr⟩ := h
  refine ⟨a, c, e, hl, fun j hj => ?_⟩
  obtain ⟨b, o, e, hb1, f⟩ := hr j hj
  exact ⟨b, o, e, Nat.lt_of_lt_of_le hb1 hb.size, f.later hb⟩
/-- where an atom stands, or -1 -/
def plc (L : List Tm) (t : Tm) : Int := if has L t = true then (fnd L t : Int) else -1
theorem plc_at {L : List Tm} {t : Tm} {k : Nat} (hk : k < L.length) (h : eqT L[k] t = true) (hb : ∀ i (hi : i < L.length), i < k → eqT L[i] t = false) : plc L t = (k : Int) := by
  have h1 : fnd L t = k := by
    unfold fnd
    rw [List.findIdx_eq hk]
    exact ⟨h, fun j hj => by rw [hb j (by omega) hj]⟩
  unfold plc
  rw [if_pos ((has_iff L t).2 (by rw [h1]; exact hk)), h1]
theorem plc_no {L : List Tm} {t : Tm} (hb : ∀ i (hi : i < L.length), eqT L[i] t = false) : plc L t = -1 := by
  unfold plc
  rw [if_neg]
  rw [Bool.not_eq_true]
  unfold has
  rw [List.any_eq_false]
  intro x hx
  obtain ⟨i, hi, rfl⟩ := List.mem_iff_getElem.1 hx
  rw [hb i hi]; simp
set_option maxRecDepth 100000 in
set_option maxHeartbeats 2000000 in
theorem place1_any (x t : Tm) (b : Nat) (w : World) (hx : TIn w w.heap.size x) (ht : TIn w w.heap.size t) (hf : Four w b 0 t) (hz : x.size ≤ 2000) (hd : x.deep ≤ 100) :
    Calls Tryd.prog 106 #[x.val, .pointer (some ⟨b, 0, none⟩)] w (RetV (.bool (eqT x t)) w) := by
  have hb := bel_alloc w (boxT x)
  have F := box_four w x
  have F2 := hf.later hb
  have HC := mkHid (same_small x t _ (hx.later hb) (ht.later hb) hz)
  rw [sm_eqT x t 1 (by omega)] at HC
  generalize eqT x t = r at *
  clear hx ht hf hz hd
  have hW : w.alloc (.cells #[.int .i64 x.op, .string x.nm, .int .i64 x.n, .slice x.a x.ks.length x.c] 24) = w.alloc (boxT x) := rfl
  obtain ⟨f0, f1, f2, f3⟩ := F
  obtain ⟨g0, g1, g2, g3⟩ := F2
  simp only [Nat.zero_add] at f1 f2 f3 g1 g2 g3
  unfold Tm.val at *
  generalize w.alloc (boxT x) = W at *
  go_enter Tryd.func106, Tryd.ntmps106
  go_wp2_with (go_at_call 20; ((with_reducible refine HC.out.mono ?_)); rintro e w1 ⟨rfl, hb1⟩)
  go_ret
  exact ⟨rfl, bon hb hb1⟩
set_option maxRecDepth 100000 in
set_option maxHeartbeats 2000000 in
theorem indexFunc_any (L : List Tm) (t : Tm) (v : Value) (b : Nat) (w : World) (hr : Row4 w v L) (hL : ∀ x ∈ L, TIn w w.heap.size x ∧ x.size ≤ 2000 ∧ x.deep ≤ 100) (ht : TIn w w.heap.size t) (hf : Four w b 0 t) :
    Calls Tryd.prog 105 #[v, .func (.func 106) #[] #[.pointer (some ⟨b, 0, none⟩)]] w (RetV (.int .i64 (plc L t)) w) := by
  obtain ⟨a, c, rfl, hlm, hr⟩ := hr
  unfold maxLen at hlm
  have HR := mkHid hr
  have HL := mkHid hL
  have HT := mkHid ht
  have HF := mkHid hf
  obtain ⟨n, hn⟩ : ∃ n, L.length = n := ⟨_, rfl⟩
  have HN := mkHid hn
  rw [hn] at hlm ⊢
  clear hr hL ht hf hn
  have hn9 : n ≤ 9223372036854775807 := by omega
  go_enter Tryd.func105, Tryd.ntmps105
  go_wp2
  go_loopw [8] (fun i w' => ∃ (k : Nat) (x : Int), i = .int .i64 x ∧ x = k ∧ k ≤ n ∧ Hid (Below w.heap.size w w') ∧ Hid (∀ i (hi : i < L.length), i < k → eqT L[i] t = false)) (fun i _ => (n - intOf i).toNat)
  case atStart => exact ⟨0, 0, rfl, rfl, Nat.zero_le _, mkHid (Below.refl _ _), mkHid (fun i _ h => by omega)⟩
  case round =>
    obtain ⟨k, x, rfl, hxk, hk, BW, HA⟩ := hrel
    obtain rfl : x = (k : Int) := hxk
    by_cases hlt : k < n
    · have hk' : k < L.length := by rw [HN.out]; exact hlt
      obtain ⟨b', o, rfl, hb', kf⟩ := HR.out k hk'
      have kf' := kf.later BW.out
      obtain ⟨h1, h2, h3⟩ := HL.out L[k] (List.getElem_mem _)
      have HC := mkHid (place1_any L[k] t b wr ((h1.later BW.out).mono (Nat.le_refl _)) (HT.out.later BW.out) (HF.out.later BW.out) h2 h3)
      have HS : Hid (eqT L[k] t = true → plc L t = (k : Int)) := mkHid (fun e => plc_at hk' e HA.out)
      have HB : Hid (eqT L[k] t = false → ∀ i (hi : i < L.length), i < k + 1 → eqT L[i] t = false) := mkHid (fun e i hi hik => by
        by_cases h : i < k
        · exact HA.out i hi h
        · obtain rfl : i = k := by omega
          exact e)
      generalize L[k] = q at *
      clear hk' kf h1 h2 h3 HA HR
      obtain ⟨g0, g1, g2, g3⟩ := kf'
      unfold Tm.val at HC
      have hk2 : (k : Int) < (n : Int) := by omega
      generalize eqT q t = r at *
      cases r
      · clear HS
        have HB2 := mkHid (HB.out rfl)
        clear HB
        go_wp2_with (go_at_call 106; ((with_reducible refine HC.out.mono ?_)); rintro e w1 ⟨rfl, hb1⟩)
        go_roundw
        case rel => exact ⟨k + 1, _, rfl, by omega, by omega, mkHid (bon BW.out hb1), HB2⟩
        case measure => simp [intOf]; omega
      · have E := mkHid (HS.out rfl)
        clear HB HS
        go_wp2_with (go_at_call 106; ((with_reducible refine HC.out.mono ?_)); rintro e w1 ⟨rfl, hb1⟩)
        go_ret
        exact ⟨by rw [E.out]; rfl, bon BW.out hb1⟩
    · have e : plc L t = -1 := plc_no (fun i hi => HA.out i hi (by rw [HN.out] at hi; omega))
      have E := mkHid e
      clear e
      go_wp2
      go_ret
      exact ⟨by rw [E.out]; rfl, BW.out⟩
set_option maxRecDepth 100000 in
set_option maxHeartbeats 2000000 in
theorem place_any (L : List Tm) (t : Tm) (v : Value) (w : World) (hr : Row4 w v L) (hL : ∀ x ∈ L, TIn w w.heap.size x ∧ x.size ≤ 2000 ∧ x.deep ≤ 100) (ht : TIn w w.heap.size t) :
    Calls Tryd.prog 86 #[v, t.val] w (RetV (.int .i64 (plc L t)) w) := by
  have hmf : ∀ (fn : Fn) (first cap : Array Value) (w : World), (Instr.makeFunc fn first cap).run Tryd.prog w = .ok (.func fn first cap) w := fun _ _ _ _ => rfl
  have hb := bel_alloc w (boxT t)
  have F := box_four w t
  have HC := mkHid (indexFunc_any L t v w.heap.size (w.alloc (boxT t)) (hr.later hb) (fun x hx => ⟨(hL x hx).1.later hb, (hL x hx).2⟩) (ht.later hb) F)
  obtain ⟨a, c, rfl, -, -⟩ := hr
  generalize plc L t = r at *
  clear hL ht F
  have hW : w.alloc (.cells #[.int .i64 t.op, .string t.nm, .int .i64 t.n, .slice t.a t.ks.length t.c] 24) = w.alloc (boxT t) := rfl
  unfold Tm.val at *
  generalize L.length = n at *
  go_enter Tryd.func86, Tryd.ntmps86
  generalize w.alloc (boxT t) = W at *
  go_wp2_with (go_at_call 105; ((with_reducible refine HC.out.mono ?_)); rintro e w1 ⟨rfl, hb1⟩)
  go_ret
  exact ⟨rfl, bon hb hb1⟩
end Go.Proofs.YtaiachmolkjedaaDoor
