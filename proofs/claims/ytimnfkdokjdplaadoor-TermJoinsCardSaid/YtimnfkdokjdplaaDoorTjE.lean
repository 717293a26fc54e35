/-
  What TermJoins does where the terms are not right, or too large.
-/
import Derived.Test.YtimnfkdokjdplaaDoorTjA
namespace Go.Proofs.YtimnfkdokjdplaaDoor
open Go.RowKit

set_option maxRecDepth 100000 in
set_option maxHeartbeats 8000000 in
theorem joins_e1 (t u : Tm) (w : World) (ht : TIn w w.heap.size t) (hu : TIn w w.heap.size u) (hS : Shps w) (he : errR t ≠ 0) :
    Calls Tryd.prog 5 #[t.val, u.val] w fun e w' => e = .returned (.bool true) ∧ Below w.heap.size w w' := by
  have S0 := SJ.start ht hu hS
  have B0 : Below w.heap.size w ((w.alloc (boxT t)).alloc (boxT u)) := bal (bal (Below.refl _ _) _) _
  have SC := mkHid (shown_any _ S0.s)
  have ST := mkHid (fun w' (h : SJ w.heap.size t u w') => sort_any t w' h.tin h.s)
  have SU := mkHid (fun w' (h : SJ w.heap.size t u w') => sort_any u w' h.uin h.s)
  have h1 : ((errR t : Int) != 0) = true := by rw [bne_iff_ne]; omega
  generalize errR t = et at *
  generalize errR u = eu at *
  generalize srtR t = st at *
  generalize srtR u = su at *
  clear he
  unfold Tm.val at ST SU ⊢
  have hW2 : (w.alloc (.cells #[.int .i64 t.op, .string t.nm, .int .i64 t.n, .slice t.a t.ks.length t.c] 24)).alloc (.cells #[.int .i64 u.op, .string u.nm, .int .i64 u.n, .slice u.a u.ks.length u.c] 24) = (w.alloc (boxT t)).alloc (boxT u) := rfl
  generalize (w.alloc (boxT t)).alloc (boxT u) = W2 at *
  clear ht hu hS
  go_enter Tryd.func5, Tryd.ntmps5
  go_wp2_with fail
  ((with_reducible refine SC.out.mono ?_)); rintro e w3 ⟨rfl, hb3⟩
  clear SC hW2
  have S3 := S0.later hb3
  have B3 := bon B0 hb3
  obtain ⟨u0, u1, u2, u3⟩ := S3.bt
  simp only [Nat.zero_add] at u1 u2 u3
  go_wp2_with fail
  ((with_reducible refine (ST.out _ S3).mono ?_)); rintro e w4 ⟨rfl, hb4⟩
  have S4 := S3.later hb4
  have B4 := bon B3 hb4
  clear u0 u1 u2 u3 S3 ST S0
  obtain ⟨u0, u1, u2, u3⟩ := S4.bu
  simp only [Nat.zero_add] at u1 u2 u3
  go_wp2_with fail
  ((with_reducible refine (SU.out _ S4).mono ?_)); rintro e w5 ⟨rfl, hb5⟩
  have S5 := S4.later hb5
  have B5 := bon B4 hb5
  clear u0 u1 u2 u3 S4 SU
  go_wp2
  go_ret
  exact ⟨rfl, B5⟩
set_option maxRecDepth 100000 in
set_option maxHeartbeats 8000000 in
theorem joins_e2 (t u : Tm) (w : World) (ht : TIn w w.heap.size t) (hu : TIn w w.heap.size u) (hS : Shps w) (he : errR t = 0) (he' : errR u ≠ 0) :
    Calls Tryd.prog 5 #[t.val, u.val] w fun e w' => e = .returned (.bool true) ∧ Below w.heap.size w w' := by
  have S0 := SJ.start ht hu hS
  have B0 : Below w.heap.size w ((w.alloc (boxT t)).alloc (boxT u)) := bal (bal (Below.refl _ _) _) _
  have SC := mkHid (shown_any _ S0.s)
  have ST := mkHid (fun w' (h : SJ w.heap.size t u w') => sort_any t w' h.tin h.s)
  have SU := mkHid (fun w' (h : SJ w.heap.size t u w') => sort_any u w' h.uin h.s)
  have h1 : ((errR t : Int) != 0) = false := by rw [he]; rfl
  have h2 : ((errR u : Int) != 0) = true := by rw [bne_iff_ne]; omega
  generalize errR t = et at *
  generalize errR u = eu at *
  generalize srtR t = st at *
  generalize srtR u = su at *
  clear he he'
  unfold Tm.val at ST SU ⊢
  have hW2 : (w.alloc (.cells #[.int .i64 t.op, .string t.nm, .int .i64 t.n, .slice t.a t.ks.length t.c] 24)).alloc (.cells #[.int .i64 u.op, .string u.nm, .int .i64 u.n, .slice u.a u.ks.length u.c] 24) = (w.alloc (boxT t)).alloc (boxT u) := rfl
  generalize (w.alloc (boxT t)).alloc (boxT u) = W2 at *
  clear ht hu hS
  go_enter Tryd.func5, Tryd.ntmps5
  go_wp2_with fail
  ((with_reducible refine SC.out.mono ?_)); rintro e w3 ⟨rfl, hb3⟩
  clear SC hW2
  have S3 := S0.later hb3
  have B3 := bon B0 hb3
  obtain ⟨u0, u1, u2, u3⟩ := S3.bt
  simp only [Nat.zero_add] at u1 u2 u3
  go_wp2_with fail
  ((with_reducible refine (ST.out _ S3).mono ?_)); rintro e w4 ⟨rfl, hb4⟩
  have S4 := S3.later hb4
  have B4 := bon B3 hb4
  clear u0 u1 u2 u3 S3 ST S0
  obtain ⟨u0, u1, u2, u3⟩ := S4.bu
  simp only [Nat.zero_add] at u1 u2 u3
  go_wp2_with fail
  ((with_reducible refine (SU.out _ S4).mono ?_)); rintro e w5 ⟨rfl, hb5⟩
  have S5 := S4.later hb5
  have B5 := bon B4 hb5
  clear u0 u1 u2 u3 S4 SU
  go_wp2
  go_ret
  exact ⟨rfl, B5⟩
set_option maxRecDepth 100000 in
set_option maxHeartbeats 8000000 in
theorem joins_s0 (t u : Tm) (w : World) (ht : TIn w w.heap.size t) (hu : TIn w w.heap.size u) (hS : Shps w) (he : errR t = 0) (he' : errR u = 0)  (y0 : 500 < t.size) :
    Calls Tryd.prog 5 #[t.val, u.val] w fun e w' => e = .returned (.bool true) ∧ Below w.heap.size w w' := by
  have S0 := SJ.start ht hu hS
  have B0 : Below w.heap.size w ((w.alloc (boxT t)).alloc (boxT u)) := bal (bal (Below.refl _ _) _) _
  have SC := mkHid (shown_any _ S0.s)
  have ST := mkHid (fun w' (h : SJ w.heap.size t u w') => sort_any t w' h.tin h.s)
  have SU := mkHid (fun w' (h : SJ w.heap.size t u w') => sort_any u w' h.uin h.s)
  obtain ⟨hzt, -, -, -⟩ := errR_zero he
  obtain ⟨hzu, -, -, -⟩ := errR_zero he'
  have h1 : ((errR t : Int) != 0) = false := by rw [he]; rfl
  have h2 : ((errR u : Int) != 0) = false := by rw [he']; rfl
  have ZT := mkHid (fun w' (h : SJ w.heap.size t u w') => size_any t w' h.tin)
  have ZU := mkHid (fun w' (h : SJ w.heap.size t u w') => size_any u w' h.uin)
  have DT := mkHid (fun w' (h : SJ w.heap.size t u w') => deep_small t w' h.tin hzt)
  have DU := mkHid (fun w' (h : SJ w.heap.size t u w') => deep_small u w' h.uin hzu)
  have q0 : decide ((500 : Int) < (((min 2001 t.size : Nat)) : Int)) = true := decide_eq_true (by omega)
  clear y0 he he' hzt hzu
  generalize min 2001 t.size = m0 at *
  generalize min 2001 u.size = m1 at *
  generalize min 101 t.deep = m2 at *
  generalize min 101 u.deep = m3 at *
  generalize errR t = et at *
  generalize errR u = eu at *
  generalize srtR t = st at *
  generalize srtR u = su at *
  unfold Tm.val at ST SU ZT ZU DT DU ⊢
  have hW2 : (w.alloc (.cells #[.int .i64 t.op, .string t.nm, .int .i64 t.n, .slice t.a t.ks.length t.c] 24)).alloc (.cells #[.int .i64 u.op, .string u.nm, .int .i64 u.n, .slice u.a u.ks.length u.c] 24) = (w.alloc (boxT t)).alloc (boxT u) := rfl
  generalize (w.alloc (boxT t)).alloc (boxT u) = W2 at *
  clear ht hu hS
  go_enter Tryd.func5, Tryd.ntmps5
  go_wp2_with fail
  ((with_reducible refine SC.out.mono ?_)); rintro e w3 ⟨rfl, hb3⟩
  clear SC hW2
  have S3 := S0.later hb3
  have B3 := bon B0 hb3
  obtain ⟨u0, u1, u2, u3⟩ := S3.bt
  simp only [Nat.zero_add] at u1 u2 u3
  go_wp2_with fail
  ((with_reducible refine (ST.out _ S3).mono ?_)); rintro e w4 ⟨rfl, hb4⟩
  have S4 := S3.later hb4
  have B4 := bon B3 hb4
  clear u0 u1 u2 u3 S3 ST S0
  obtain ⟨u0, u1, u2, u3⟩ := S4.bu
  simp only [Nat.zero_add] at u1 u2 u3
  go_wp2_with fail
  ((with_reducible refine (SU.out _ S4).mono ?_)); rintro e w5 ⟨rfl, hb5⟩
  have S5 := S4.later hb5
  have B5 := bon B4 hb5
  clear u0 u1 u2 u3 S4 SU
  obtain ⟨u0, u1, u2, u3⟩ := S5.bt
  simp only [Nat.zero_add] at u1 u2 u3
  go_wp2_with fail
  ((with_reducible refine (ZT.out _ S5).mono ?_)); rintro e w6 ⟨rfl, hb6⟩
  have S6 := S5.later hb6
  have B6 := bon B5 hb6
  clear u0 u1 u2 u3 S5 ZT
  go_wp2
  go_ret
  exact ⟨rfl, B6⟩
set_option maxRecDepth 100000 in
set_option maxHeartbeats 8000000 in
theorem joins_s1 (t u : Tm) (w : World) (ht : TIn w w.heap.size t) (hu : TIn w w.heap.size u) (hS : Shps w) (he : errR t = 0) (he' : errR u = 0) (y0 : t.size ≤ 500) (y1 : 500 < u.size) :
    Calls Tryd.prog 5 #[t.val, u.val] w fun e w' => e = .returned (.bool true) ∧ Below w.heap.size w w' := by
  have S0 := SJ.start ht hu hS
  have B0 : Below w.heap.size w ((w.alloc (boxT t)).alloc (boxT u)) := bal (bal (Below.refl _ _) _) _
  have SC := mkHid (shown_any _ S0.s)
  have ST := mkHid (fun w' (h : SJ w.heap.size t u w') => sort_any t w' h.tin h.s)
  have SU := mkHid (fun w' (h : SJ w.heap.size t u w') => sort_any u w' h.uin h.s)
  obtain ⟨hzt, -, -, -⟩ := errR_zero he
  obtain ⟨hzu, -, -, -⟩ := errR_zero he'
  have h1 : ((errR t : Int) != 0) = false := by rw [he]; rfl
  have h2 : ((errR u : Int) != 0) = false := by rw [he']; rfl
  have ZT := mkHid (fun w' (h : SJ w.heap.size t u w') => size_any t w' h.tin)
  have ZU := mkHid (fun w' (h : SJ w.heap.size t u w') => size_any u w' h.uin)
  have DT := mkHid (fun w' (h : SJ w.heap.size t u w') => deep_small t w' h.tin hzt)
  have DU := mkHid (fun w' (h : SJ w.heap.size t u w') => deep_small u w' h.uin hzu)
  have q0 : decide ((500 : Int) < (((min 2001 t.size : Nat)) : Int)) = false := decide_eq_false (by omega)
  have q1 : decide ((500 : Int) < (((min 2001 u.size : Nat)) : Int)) = true := decide_eq_true (by omega)
  clear y0 y1 he he' hzt hzu
  generalize min 2001 t.size = m0 at *
  generalize min 2001 u.size = m1 at *
  generalize min 101 t.deep = m2 at *
  generalize min 101 u.deep = m3 at *
  generalize errR t = et at *
  generalize errR u = eu at *
  generalize srtR t = st at *
  generalize srtR u = su at *
  unfold Tm.val at ST SU ZT ZU DT DU ⊢
  have hW2 : (w.alloc (.cells #[.int .i64 t.op, .string t.nm, .int .i64 t.n, .slice t.a t.ks.length t.c] 24)).alloc (.cells #[.int .i64 u.op, .string u.nm, .int .i64 u.n, .slice u.a u.ks.length u.c] 24) = (w.alloc (boxT t)).alloc (boxT u) := rfl
  generalize (w.alloc (boxT t)).alloc (boxT u) = W2 at *
  clear ht hu hS
  go_enter Tryd.func5, Tryd.ntmps5
  go_wp2_with fail
  ((with_reducible refine SC.out.mono ?_)); rintro e w3 ⟨rfl, hb3⟩
  clear SC hW2
  have S3 := S0.later hb3
  have B3 := bon B0 hb3
  obtain ⟨u0, u1, u2, u3⟩ := S3.bt
  simp only [Nat.zero_add] at u1 u2 u3
  go_wp2_with fail
  ((with_reducible refine (ST.out _ S3).mono ?_)); rintro e w4 ⟨rfl, hb4⟩
  have S4 := S3.later hb4
  have B4 := bon B3 hb4
  clear u0 u1 u2 u3 S3 ST S0
  obtain ⟨u0, u1, u2, u3⟩ := S4.bu
  simp only [Nat.zero_add] at u1 u2 u3
  go_wp2_with fail
  ((with_reducible refine (SU.out _ S4).mono ?_)); rintro e w5 ⟨rfl, hb5⟩
  have S5 := S4.later hb5
  have B5 := bon B4 hb5
  clear u0 u1 u2 u3 S4 SU
  obtain ⟨u0, u1, u2, u3⟩ := S5.bt
  simp only [Nat.zero_add] at u1 u2 u3
  go_wp2_with fail
  ((with_reducible refine (ZT.out _ S5).mono ?_)); rintro e w6 ⟨rfl, hb6⟩
  have S6 := S5.later hb6
  have B6 := bon B5 hb6
  clear u0 u1 u2 u3 S5 ZT
  obtain ⟨u0, u1, u2, u3⟩ := S6.bu
  simp only [Nat.zero_add] at u1 u2 u3
  go_wp2_with fail
  ((with_reducible refine (ZU.out _ S6).mono ?_)); rintro e w7 ⟨rfl, hb7⟩
  have S7 := S6.later hb7
  have B7 := bon B6 hb7
  clear u0 u1 u2 u3 S6 ZU
  go_wp2
  go_ret
  exact ⟨rfl, B7⟩
set_option maxRecDepth 100000 in
set_option maxHeartbeats 8000000 in
theorem joins_s2 (t u : Tm) (w : World) (ht : TIn w w.heap.size t) (hu : TIn w w.heap.size u) (hS : Shps w) (he : errR t = 0) (he' : errR u = 0) (y0 : t.size ≤ 500) (y1 : u.size ≤ 500) (y2 : 50 < t.deep) :
    Calls Tryd.prog 5 #[t.val, u.val] w fun e w' => e = .returned (.bool true) ∧ Below w.heap.size w w' := by
  have S0 := SJ.start ht hu hS
  have B0 : Below w.heap.size w ((w.alloc (boxT t)).alloc (boxT u)) := bal (bal (Below.refl _ _) _) _
  have SC := mkHid (shown_any _ S0.s)
  have ST := mkHid (fun w' (h : SJ w.heap.size t u w') => sort_any t w' h.tin h.s)
  have SU := mkHid (fun w' (h : SJ w.heap.size t u w') => sort_any u w' h.uin h.s)
  obtain ⟨hzt, -, -, -⟩ := errR_zero he
  obtain ⟨hzu, -, -, -⟩ := errR_zero he'
  have h1 : ((errR t : Int) != 0) = false := by rw [he]; rfl
  have h2 : ((errR u : Int) != 0) = false := by rw [he']; rfl
  have ZT := mkHid (fun w' (h : SJ w.heap.size t u w') => size_any t w' h.tin)
  have ZU := mkHid (fun w' (h : SJ w.heap.size t u w') => size_any u w' h.uin)
  have DT := mkHid (fun w' (h : SJ w.heap.size t u w') => deep_small t w' h.tin hzt)
  have DU := mkHid (fun w' (h : SJ w.heap.size t u w') => deep_small u w' h.uin hzu)
  have q0 : decide ((500 : Int) < (((min 2001 t.size : Nat)) : Int)) = false := decide_eq_false (by omega)
  have q1 : decide ((500 : Int) < (((min 2001 u.size : Nat)) : Int)) = false := decide_eq_false (by omega)
  have q2 : decide ((50 : Int) < (((min 101 t.deep : Nat)) : Int)) = true := decide_eq_true (by omega)
  clear y0 y1 y2 he he' hzt hzu
  generalize min 2001 t.size = m0 at *
  generalize min 2001 u.size = m1 at *
  generalize min 101 t.deep = m2 at *
  generalize min 101 u.deep = m3 at *
  generalize errR t = et at *
  generalize errR u = eu at *
  generalize srtR t = st at *
  generalize srtR u = su at *
  unfold Tm.val at ST SU ZT ZU DT DU ⊢
  have hW2 : (w.alloc (.cells #[.int .i64 t.op, .string t.nm, .int .i64 t.n, .slice t.a t.ks.length t.c] 24)).alloc (.cells #[.int .i64 u.op, .string u.nm, .int .i64 u.n, .slice u.a u.ks.length u.c] 24) = (w.alloc (boxT t)).alloc (boxT u) := rfl
  generalize (w.alloc (boxT t)).alloc (boxT u) = W2 at *
  clear ht hu hS
  go_enter Tryd.func5, Tryd.ntmps5
  go_wp2_with fail
  ((with_reducible refine SC.out.mono ?_)); rintro e w3 ⟨rfl, hb3⟩
  clear SC hW2
  have S3 := S0.later hb3
  have B3 := bon B0 hb3
  obtain ⟨u0, u1, u2, u3⟩ := S3.bt
  simp only [Nat.zero_add] at u1 u2 u3
  go_wp2_with fail
  ((with_reducible refine (ST.out _ S3).mono ?_)); rintro e w4 ⟨rfl, hb4⟩
  have S4 := S3.later hb4
  have B4 := bon B3 hb4
  clear u0 u1 u2 u3 S3 ST S0
  obtain ⟨u0, u1, u2, u3⟩ := S4.bu
  simp only [Nat.zero_add] at u1 u2 u3
  go_wp2_with fail
  ((with_reducible refine (SU.out _ S4).mono ?_)); rintro e w5 ⟨rfl, hb5⟩
  have S5 := S4.later hb5
  have B5 := bon B4 hb5
  clear u0 u1 u2 u3 S4 SU
  obtain ⟨u0, u1, u2, u3⟩ := S5.bt
  simp only [Nat.zero_add] at u1 u2 u3
  go_wp2_with fail
  ((with_reducible refine (ZT.out _ S5).mono ?_)); rintro e w6 ⟨rfl, hb6⟩
  have S6 := S5.later hb6
  have B6 := bon B5 hb6
  clear u0 u1 u2 u3 S5 ZT
  obtain ⟨u0, u1, u2, u3⟩ := S6.bu
  simp only [Nat.zero_add] at u1 u2 u3
  go_wp2_with fail
  ((with_reducible refine (ZU.out _ S6).mono ?_)); rintro e w7 ⟨rfl, hb7⟩
  have S7 := S6.later hb7
  have B7 := bon B6 hb7
  clear u0 u1 u2 u3 S6 ZU
  obtain ⟨u0, u1, u2, u3⟩ := S7.bt
  simp only [Nat.zero_add] at u1 u2 u3
  go_wp2_with fail
  ((with_reducible refine (DT.out _ S7).mono ?_)); rintro e w8 ⟨rfl, hb8⟩
  have S8 := S7.later hb8
  have B8 := bon B7 hb8
  clear u0 u1 u2 u3 S7 DT
  go_wp2
  go_ret
  exact ⟨rfl, B8⟩
set_option maxRecDepth 100000 in
set_option maxHeartbeats 8000000 in
theorem joins_s3 (t u : Tm) (w : World) (ht : TIn w w.heap.size t) (hu : TIn w w.heap.size u) (hS : Shps w) (he : errR t = 0) (he' : errR u = 0) (y0 : t.size ≤ 500) (y1 : u.size ≤ 500) (y2 : t.deep ≤ 50) (y3 : 50 < u.deep) :
    Calls Tryd.prog 5 #[t.val, u.val] w fun e w' => e = .returned (.bool true) ∧ Below w.heap.size w w' := by
  have S0 := SJ.start ht hu hS
  have B0 : Below w.heap.size w ((w.alloc (boxT t)).alloc (boxT u)) := bal (bal (Below.refl _ _) _) _
  have SC := mkHid (shown_any _ S0.s)
  have ST := mkHid (fun w' (h : SJ w.heap.size t u w') => sort_any t w' h.tin h.s)
  have SU := mkHid (fun w' (h : SJ w.heap.size t u w') => sort_any u w' h.uin h.s)
  obtain ⟨hzt, -, -, -⟩ := errR_zero he
  obtain ⟨hzu, -, -, -⟩ := errR_zero he'
  have h1 : ((errR t : Int) != 0) = false := by rw [he]; rfl
  have h2 : ((errR u : Int) != 0) = false := by rw [he']; rfl
  have ZT := mkHid (fun w' (h : SJ w.heap.size t u w') => size_any t w' h.tin)
  have ZU := mkHid (fun w' (h : SJ w.heap.size t u w') => size_any u w' h.uin)
  have DT := mkHid (fun w' (h : SJ w.heap.size t u w') => deep_small t w' h.tin hzt)
  have DU := mkHid (fun w' (h : SJ w.heap.size t u w') => deep_small u w' h.uin hzu)
  have q0 : decide ((500 : Int) < (((min 2001 t.size : Nat)) : Int)) = false := decide_eq_false (by omega)
  have q1 : decide ((500 : Int) < (((min 2001 u.size : Nat)) : Int)) = false := decide_eq_false (by omega)
  have q2 : decide ((50 : Int) < (((min 101 t.deep : Nat)) : Int)) = false := decide_eq_false (by omega)
  have q3 : decide ((50 : Int) < (((min 101 u.deep : Nat)) : Int)) = true := decide_eq_true (by omega)
  clear y0 y1 y2 y3 he he' hzt hzu
  generalize min 2001 t.size = m0 at *
  generalize min 2001 u.size = m1 at *
  generalize min 101 t.deep = m2 at *
  generalize min 101 u.deep = m3 at *
  generalize errR t = et at *
  generalize errR u = eu at *
  generalize srtR t = st at *
  generalize srtR u = su at *
  unfold Tm.val at ST SU ZT ZU DT DU ⊢
  have hW2 : (w.alloc (.cells #[.int .i64 t.op, .string t.nm, .int .i64 t.n, .slice t.a t.ks.length t.c] 24)).alloc (.cells #[.int .i64 u.op, .string u.nm, .int .i64 u.n, .slice u.a u.ks.length u.c] 24) = (w.alloc (boxT t)).alloc (boxT u) := rfl
  generalize (w.alloc (boxT t)).alloc (boxT u) = W2 at *
  clear ht hu hS
  go_enter Tryd.func5, Tryd.ntmps5
  go_wp2_with fail
  ((with_reducible refine SC.out.mono ?_)); rintro e w3 ⟨rfl, hb3⟩
  clear SC hW2
  have S3 := S0.later hb3
  have B3 := bon B0 hb3
  obtain ⟨u0, u1, u2, u3⟩ := S3.bt
  simp only [Nat.zero_add] at u1 u2 u3
  go_wp2_with fail
  ((with_reducible refine (ST.out _ S3).mono ?_)); rintro e w4 ⟨rfl, hb4⟩
  have S4 := S3.later hb4
  have B4 := bon B3 hb4
  clear u0 u1 u2 u3 S3 ST S0
  obtain ⟨u0, u1, u2, u3⟩ := S4.bu
  simp only [Nat.zero_add] at u1 u2 u3
  go_wp2_with fail
  ((with_reducible refine (SU.out _ S4).mono ?_)); rintro e w5 ⟨rfl, hb5⟩
  have S5 := S4.later hb5
  have B5 := bon B4 hb5
  clear u0 u1 u2 u3 S4 SU
  obtain ⟨u0, u1, u2, u3⟩ := S5.bt
  simp only [Nat.zero_add] at u1 u2 u3
  go_wp2_with fail
  ((with_reducible refine (ZT.out _ S5).mono ?_)); rintro e w6 ⟨rfl, hb6⟩
  have S6 := S5.later hb6
  have B6 := bon B5 hb6
  clear u0 u1 u2 u3 S5 ZT
  obtain ⟨u0, u1, u2, u3⟩ := S6.bu
  simp only [Nat.zero_add] at u1 u2 u3
  go_wp2_with fail
  ((with_reducible refine (ZU.out _ S6).mono ?_)); rintro e w7 ⟨rfl, hb7⟩
  have S7 := S6.later hb7
  have B7 := bon B6 hb7
  clear u0 u1 u2 u3 S6 ZU
  obtain ⟨u0, u1, u2, u3⟩ := S7.bt
  simp only [Nat.zero_add] at u1 u2 u3
  go_wp2_with fail
  ((with_reducible refine (DT.out _ S7).mono ?_)); rintro e w8 ⟨rfl, hb8⟩
  have S8 := S7.later hb8
  have B8 := bon B7 hb8
  clear u0 u1 u2 u3 S7 DT
  obtain ⟨u0, u1, u2, u3⟩ := S8.bu
  simp only [Nat.zero_add] at u1 u2 u3
  go_wp2_with fail
  ((with_reducible refine (DU.out _ S8).mono ?_)); rintro e w9 ⟨rfl, hb9⟩
  have S9 := S8.later hb9
  have B9 := bon B8 hb9
  clear u0 u1 u2 u3 S8 DU
  go_wp2
  go_ret
  exact ⟨rfl, B9⟩
end Go.Proofs.YtimnfkdokjdplaaDoor
