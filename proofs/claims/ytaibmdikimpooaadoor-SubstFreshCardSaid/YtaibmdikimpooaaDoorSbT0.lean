/-
  What is put twice, plainly; rows of assignments as they are made.
-/
import Derived.Test.YtaibmdikimpooaaDoorSbQ
namespace Go.Proofs.YtaibmdikimpooaaDoor
open Go.RowKit

/-- three terms in boxes -/
structure T3 (X : Nat) (t a b : Tm) (w : World) : Prop where
  f0 : Four w X 0 t
  f1 : Four w (X + 1) 0 a
  f2 : Four w (X + 1 + 1) 0 b
  t0 : TIn w w.heap.size t
  t1 : TIn w w.heap.size a
  t2 : TIn w w.heap.size b
  sh : Shps w
theorem T3.later {X : Nat} {t a b : Tm} {w w' : World} (h : T3 X t a b w) (hb : Below w.heap.size w w') : T3 X t a b w' :=
  ⟨h.f0.later hb, h.f1.later hb, h.f2.later hb, h.t0.later hb, h.t1.later hb, h.t2.later hb, h.sh.later hb⟩
/-- the world with the three boxes -/
def t3W (t a b : Tm) (w : World) : World := ((w.alloc (boxT t)).alloc (boxT a)).alloc (boxT b)
theorem t3_facts {t a b : Tm} {w : World} (ht : TIn w w.heap.size t) (ha : TIn w w.heap.size a) (hb : TIn w w.heap.size b) (hS : Shps w) : Below w.heap.size w (t3W t a b w) ∧ T3 w.heap.size t a b (t3W t a b w) := by
  have h : Below w.heap.size w (t3W t a b w) := bal (bal (bal (Below.refl _ _) _) _) _
  refine ⟨h, ?_, ?_, ?_, ht.later h, ha.later h, hb.later h, hS.later h⟩
  · simp [t3W, Four, boxT, go_sem]
  · simp [t3W, Four, boxT, go_sem]
  · simp [t3W, Four, boxT, go_sem]
/-! what is put twice -/
def xN' : ByteArray := ⟨#[120]⟩
def yN' : ByteArray := ⟨#[121]⟩
theorem put_one {t a : Tm} (nm : ByteArray) (ht : errR t = 0) (ha : errR a = 0) : putO t [(nm, a)] = if errR (rp (gF [(nm, a)].reverse) t) ≠ 0 then (zT, errR (rp (gF [(nm, a)].reverse) t)) else (rp (gF [(nm, a)].reverse) t, 0) := putO_ok ht (gE_one nm a ha)
theorem rp_right {t : Tm} {F : ByteArray → Int → Option Tm} (ht : errR t = 0) (hF : ∀ nm (s : Nat) x, F nm (s : Int) = some x → x.srt = s) : errR (rp F t) = 0 ∨ errR (rp F t) = 7 := errR_full (by rw [rp_srt hF t (errR_fine ht).2.2.1]; exact (errR_fine ht).2.2.1)
theorem put1_srt {nm : ByteArray} {a : Tm} (ha : errR a = 0) : ∀ n (s : Nat) x, gF [(nm, a)].reverse n (s : Int) = some x → x.srt = s := fun n s x hx => by
  rw [gF_one nm a ha] at hx
  split at hx
  · rename_i h
    cases hx
    have := (errR_fine ha).2.2.2
    omega
  · cases hx
theorem twice_same {t a b g : Tm} (ha : errR a = 0) (hb : errR b = 0) (hg : errR g = 0) (sa : a.srt = 1) (sb : b.srt = 1) (hge : g.er = rp (gF [(yN', b)].reverse) a) : rp (gF [(yN', b)].reverse) (rp (gF [(xN', a)].reverse) t) = rp (gF [(xN', g), (yN', b)].reverse) t := by
  have s1 : srtR a = 1 := by rw [(errR_fine ha).2.2.2, sa]
  have s2 : srtR b = 1 := by rw [(errR_fine hb).2.2.2, sb]
  have s3 : srtR g = 1 := by
    rw [(errR_fine hg).2.2.2, ← er_srt, hge, rp_srt (put1_srt hb) a (by rw [sa]; decide), sa]
  refine rp_rp (fun nm s x hx => ?_) (fun nm s hx => ?_) t
  · rw [gF_one _ _ ha] at hx
    split at hx
    · rename_i h
      cases hx
      refine ⟨g, ?_, hge⟩
      rw [gF_two _ _ _ _ hg hb, if_pos ⟨h.1, by rw [s3, h.2, s1]⟩]
    · cases hx
  · rw [gF_one _ _ ha] at hx
    split at hx
    · cases hx
    · rename_i h
      rw [gF_two _ _ _ _ hg hb, gF_one _ _ hb, if_neg (by rw [s3]; rw [s1] at h; exact h)]
/-- rows of one assignment, and of two, as they are made -/
theorem two_row (w : World) (n1 n2 : ByteArray) (t u : Tm) : SbRow (w.alloc (.cells #[.string n1, .int .i64 t.op, .string t.nm, .int .i64 t.n, .slice t.a t.ks.length t.c, .string n2, .int .i64 u.op, .string u.nm, .int .i64 u.n, .slice u.a u.ks.length u.c] 38)).heap.size (w.alloc (.cells #[.string n1, .int .i64 t.op, .string t.nm, .int .i64 t.n, .slice t.a t.ks.length t.c, .string n2, .int .i64 u.op, .string u.nm, .int .i64 u.n, .slice u.a u.ks.length u.c] 38)) (.slice (some ⟨w.heap.size, 0, none⟩) 2 2) [(n1, t), (n2, u)] := by
  refine ⟨_, 2, rfl, fun j hj => ?_⟩
  match j, hj with
  | 0, _ => exact ⟨w.heap.size, 0, rfl, by simp, by simp [Five5, go_sem]⟩
  | 1, _ => exact ⟨w.heap.size, 0, rfl, by simp, by simp [Five5, go_sem]⟩
end Go.Proofs.YtaibmdikimpooaaDoor
