/-
  The contracts of norm's affirmed, denied, plain, Is and Norm; what the statements' 'shown' of norm answers.
-/
import Derived.Test.YtlobffjgkhcjbaaDoorNmC2
import Derived.Test.YtlobffjgkhcjbaaDoorNmC3
import Derived.Test.YtlobffjgkhcjbaaDoorNmC4
import Derived.Test.YtlobffjgkhcjbaaDoorNmM
import Derived.Test.YtlobffjgkhcjbaaDoorTmL
import Derived.Test.YtlobffjgkhcjbaaDoorTmT
namespace Go.Proofs.YtlobffjgkhcjbaaDoor
open Go.RowKit

/-- affirmed of t, or denied, answers what it becomes -/
def AffC (t : Tm) : Prop := ∀ w : World, TIn w w.heap.size t → Calls Tryd.prog 66 #[t.val] w (BecP (fun k => nn k false) t w)
def DenC (t : Tm) : Prop := ∀ w : World, TIn w w.heap.size t → Calls Tryd.prog 89 #[t.val] w (BecP (fun k => nn k true) t w)
theorem den_le {x : Tm} (ho : x.op = 22) : DenC x := fun w h =>
  den22 _ x ho (F0 := fun k => nn k false) (fun w' h' => aff22 _ x ho (by show nn x false = _; rw [nn22 ho]; rfl) w' h') (by show nn x true = mkT 18 [nn x false]; rw [nn22 ho, nn22 ho]; rfl) w h
theorem er_ops {x : Tm} {op : Int} {l : List Tm} (h : x.er = mkT op l) : x.op = op ∧ x.ks.map Tm.er = l := by
  rw [er_eq] at h
  have h1 := congrArg Tm.op h
  have h2 := congrArg Tm.ks h
  exact ⟨h1, h2⟩
/-- denied of an And of two Les -/
theorem den_and2 {x u v : Tm} (h : x.er = mkT 19 [u, v]) (hu : u.op = 22) (hv : v.op = 22) : DenC x := by
  obtain ⟨ho, hk⟩ := er_ops h
  have hl : x.ks.length = 2 := by have := congrArg List.length hk; simpa using this
  refine fun w hin => den19 _ x ho (F0 := fun k => nn k true) (by omega) (fun k hk' => den_le ?_) (by show nn x true = _; rw [nn19 ho]; rfl) w hin
  have hm : k.er ∈ [u, v] := by rw [← hk]; exact List.mem_map.2 ⟨k, hk', rfl⟩
  have e := (er_op k).1
  simp only [List.mem_cons, List.not_mem_nil, or_false] at hm
  rcases hm with e' | e'
  · rw [← e, e']; exact hu
  · rw [← e, e']; exact hv
theorem both_any : ∀ t : Tm, t.srt = 4 → t.size ≤ 2000 → AffC t ∧ DenC t := by
  refine bool_ind ?_ ?_ ?_ ?_ ?_ ?_ ?_ ?_ ?_ ?_ ?_ ?_ ?_ ?_
  · intro t _ ho _ _
    have A : AffC t := fun w h => aff15 _ t ho (by show nn t false = _; rw [nn15 ho]; rfl) w h
    exact ⟨A, fun w h => den15 _ t ho A (by show nn t true = mkT 18 [nn t false]; rw [nn15 ho, nn15 ho]; rfl) w h⟩
  · intro t _ ho _ _ _
    exact ⟨fun w h => aff16 _ t ho (by show nn t false = _; rw [nn16 ho]; rfl) w h, fun w h => den16 _ t ho (by show nn t true = _; rw [nn16 ho]; rfl) w h⟩
  · intro t _ ho _ _ _
    exact ⟨fun w h => aff17 _ t ho (by show nn t false = _; rw [nn17 ho]; rfl) w h, fun w h => den17 _ t ho (by show nn t true = _; rw [nn17 ho]; rfl) w h⟩
  · intro t u _ ho hk _ _ ih hz
    have hu := ih (Nat.le_trans (size_kid (t := t) (by rw [hk]; exact List.mem_cons_self ..)) hz)
    exact ⟨fun w h => aff18 _ t u ho hk hu.2 (by show nn t false = _; rw [nn18 ho hk]; rfl) w h, fun w h => den18 _ t u ho hk hu.1 (by show nn t true = _; rw [nn18 ho hk]; rfl) w h⟩
  · intro t _ ho _ _ ih hz
    have hk := fun k hk => ih k hk (Nat.le_trans (size_kid hk) hz)
    exact ⟨fun w h => aff19 _ t ho (len_kids hz) (fun k h' => (hk k h').1) (by show nn t false = _; rw [nn19 ho]; rfl) w h, fun w h => den19 _ t ho (len_kids hz) (fun k h' => (hk k h').2) (by show nn t true = _; rw [nn19 ho]; rfl) w h⟩
  · intro t _ ho _ _ ih hz
    have hk := fun k hk => ih k hk (Nat.le_trans (size_kid hk) hz)
    exact ⟨fun w h => aff20 _ t ho (len_kids hz) (fun k h' => (hk k h').1) (by show nn t false = _; rw [nn20 ho]; rfl) w h, fun w h => den20 _ t ho (len_kids hz) (fun k h' => (hk k h').2) (by show nn t true = _; rw [nn20 ho]; rfl) w h⟩
  · intro t u v _ ho hk _ _ _ ihu ihv hz
    have hu := ihu (Nat.le_trans (size_kid (t := t) (by rw [hk]; simp)) hz)
    have hv := ihv (Nat.le_trans (size_kid (t := t) (by rw [hk]; simp)) hz)
    exact ⟨fun w h => aff21 _ t u v ho hk hu.2 hv.1 (by show nn t false = _; rw [nn21 ho hk]; rfl) w h, fun w h => den21 _ t u v ho hk hu.1 hv.2 (by show nn t true = _; rw [nn21 ho hk]; rfl) w h⟩
  · intro t u v _ ho _ _ _ _ _
    exact ⟨fun w h => aff22 _ t ho (by show nn t false = _; rw [nn22 ho]; rfl) w h, den_le ho⟩
  · intro t u v _ ho hk _ _ _
    exact ⟨fun w h => aff23 _ t u v ho hk (by show nn t false = _; rw [nn23 ho hk]; rfl) w h, fun w h => den23 _ t u v ho hk (by show nn t true = _; rw [nn23 ho hk]; rfl) w h⟩
  · intro t u v _ ho hk _ _ _
    have A : AffC t := fun w h => aff24 _ t u v ho hk (by show nn t false = _; rw [nn24 ho hk]; rfl) w h
    have e : nn t false = mkT 19 [leT u.er v.er, leT v.er u.er] := by rw [nn24 ho hk]; rfl
    exact ⟨A, fun w h => den24 _ t ho A (F1 := fun k => nn k true) (fun x hx => den_and2 (hx.trans e) rfl rfl) (fun x hx => by
      show nn x true = nn t true
      rw [← nn_er x, hx]
      show nn (nn t false) true = _
      rw [e, nn24 ho hk, nn_and]
      simp [nn_le, er_er]) w h⟩
  · intro t u v _ ho hk _ _ _
    have A : AffC t := fun w h => aff25 _ t u v ho hk (by show nn t false = _; rw [nn25 ho hk]; rfl) w h
    exact ⟨A, fun w h => den25 _ t ho A (by show nn t true = mkT 18 [nn t false]; rw [nn25 ho hk, nn25 ho hk]; rfl) w h⟩
  · intro t u v _ ho hk _ _ _
    have A : AffC t := fun w h => aff26 _ t u v ho hk (by show nn t false = _; rw [nn26 ho hk]; rfl) w h
    exact ⟨A, fun w h => den26 _ t ho A (by show nn t true = mkT 18 [nn t false]; rw [nn26 ho hk, nn26 ho hk]; rfl) w h⟩
  · intro t u v _ ho hk _ _ _
    have A : AffC t := fun w h => aff27 _ t u v ho hk (by show nn t false = _; rw [nn27 ho hk]; rfl) w h
    have e : nn t false = mkT 19 [insT u.er v.er, insT v.er u.er] := by rw [nn27 ho hk]; rfl
    exact ⟨A, fun w h => den27 _ t ho A (F1 := fun k => nn k true) (fun x hx => den_and2 (hx.trans e) rfl rfl) (fun x hx => by
      show nn x true = nn t true
      rw [← nn_er x, hx]
      show nn (nn t false) true = _
      rw [e, nn27 ho hk, nn_and]
      simp [nn_ins, er_er]) w h⟩
  · intro t u v _ ho hk _ _ _
    have A : AffC t := fun w h => aff28 _ t u v ho hk (by show nn t false = _; rw [nn28 ho hk]; rfl) w h
    exact ⟨A, fun w h => den28 _ t ho A (by show nn t true = mkT 18 [nn t false]; rw [nn28 ho hk, nn28 ho hk]; rfl) w h⟩
def RetBo (b : Bool) (w : World) (e : Ending) (w' : World) : Prop := e = .returned (.bool b) ∧ Below w.heap.size w w'
set_option maxRecDepth 100000 in
set_option maxHeartbeats 1000000 in
theorem pla15 (t : Tm) (ho : t.op = 15) (w : World) : Calls Tryd.prog 69 #[t.val] w (RetBo (plB t) w) := by
  have e : plB t = true := by rw [plB_eq, ho]; rfl
  rw [e]
  clear e
  obtain ⟨op, nm, n, a, c, ks⟩ := t
  simp only [Tm.op] at ho
  subst ho
  have B0 := bel_alloc w (.cells #[.int .i64 15, .string nm, .int .i64 n, .slice a ks.length c] 24)
  have x0 : (w.alloc (.cells #[.int .i64 15, .string nm, .int .i64 n, .slice a ks.length c] 24)).cell? ⟨w.heap.size, 0, none⟩ = some (.int .i64 15) := by simp [go_sem]
  unfold Tm.val
  simp only [Tm.op, Tm.nm, Tm.n, Tm.a, Tm.ks, Tm.c]
  generalize hW2 : w.alloc (.cells #[.int .i64 15, .string nm, .int .i64 n, .slice a ks.length c] 24) = W2 at *
  go_enter Tryd.func69, Tryd.ntmps69
  go_wp2
  go_ret
  exact ⟨rfl, B0⟩
set_option maxRecDepth 100000 in
set_option maxHeartbeats 1000000 in
theorem pla16 (t : Tm) (ho : t.op = 16) (w : World) : Calls Tryd.prog 69 #[t.val] w (RetBo (plB t) w) := by
  have e : plB t = true := by rw [plB_eq, ho]; rfl
  rw [e]
  clear e
  obtain ⟨op, nm, n, a, c, ks⟩ := t
  simp only [Tm.op] at ho
  subst ho
  have B0 := bel_alloc w (.cells #[.int .i64 16, .string nm, .int .i64 n, .slice a ks.length c] 24)
  have x0 : (w.alloc (.cells #[.int .i64 16, .string nm, .int .i64 n, .slice a ks.length c] 24)).cell? ⟨w.heap.size, 0, none⟩ = some (.int .i64 16) := by simp [go_sem]
  unfold Tm.val
  simp only [Tm.op, Tm.nm, Tm.n, Tm.a, Tm.ks, Tm.c]
  generalize hW2 : w.alloc (.cells #[.int .i64 16, .string nm, .int .i64 n, .slice a ks.length c] 24) = W2 at *
  go_enter Tryd.func69, Tryd.ntmps69
  go_wp2
  go_ret
  exact ⟨rfl, B0⟩
set_option maxRecDepth 100000 in
set_option maxHeartbeats 1000000 in
theorem pla17 (t : Tm) (ho : t.op = 17) (w : World) : Calls Tryd.prog 69 #[t.val] w (RetBo (plB t) w) := by
  have e : plB t = true := by rw [plB_eq, ho]; rfl
  rw [e]
  clear e
  obtain ⟨op, nm, n, a, c, ks⟩ := t
  simp only [Tm.op] at ho
  subst ho
  have B0 := bel_alloc w (.cells #[.int .i64 17, .string nm, .int .i64 n, .slice a ks.length c] 24)
  have x0 : (w.alloc (.cells #[.int .i64 17, .string nm, .int .i64 n, .slice a ks.length c] 24)).cell? ⟨w.heap.size, 0, none⟩ = some (.int .i64 17) := by simp [go_sem]
  unfold Tm.val
  simp only [Tm.op, Tm.nm, Tm.n, Tm.a, Tm.ks, Tm.c]
  generalize hW2 : w.alloc (.cells #[.int .i64 17, .string nm, .int .i64 n, .slice a ks.length c] 24) = W2 at *
  go_enter Tryd.func69, Tryd.ntmps69
  go_wp2
  go_ret
  exact ⟨rfl, B0⟩
set_option maxRecDepth 100000 in
set_option maxHeartbeats 1000000 in
theorem pla22 (t : Tm) (ho : t.op = 22) (w : World) : Calls Tryd.prog 69 #[t.val] w (RetBo (plB t) w) := by
  have e : plB t = true := by rw [plB_eq, ho]; rfl
  rw [e]
  clear e
  obtain ⟨op, nm, n, a, c, ks⟩ := t
  simp only [Tm.op] at ho
  subst ho
  have B0 := bel_alloc w (.cells #[.int .i64 22, .string nm, .int .i64 n, .slice a ks.length c] 24)
  have x0 : (w.alloc (.cells #[.int .i64 22, .string nm, .int .i64 n, .slice a ks.length c] 24)).cell? ⟨w.heap.size, 0, none⟩ = some (.int .i64 22) := by simp [go_sem]
  unfold Tm.val
  simp only [Tm.op, Tm.nm, Tm.n, Tm.a, Tm.ks, Tm.c]
  generalize hW2 : w.alloc (.cells #[.int .i64 22, .string nm, .int .i64 n, .slice a ks.length c] 24) = W2 at *
  go_enter Tryd.func69, Tryd.ntmps69
  go_wp2
  go_ret
  exact ⟨rfl, B0⟩
set_option maxRecDepth 100000 in
set_option maxHeartbeats 1000000 in
theorem pla21 (t : Tm) (ho : t.op = 21) (w : World) : Calls Tryd.prog 69 #[t.val] w (RetBo (plB t) w) := by
  have e : plB t = false := by rw [plB_eq, ho]; rfl
  rw [e]
  clear e
  obtain ⟨op, nm, n, a, c, ks⟩ := t
  simp only [Tm.op] at ho
  subst ho
  have B0 := bel_alloc w (.cells #[.int .i64 21, .string nm, .int .i64 n, .slice a ks.length c] 24)
  have x0 : (w.alloc (.cells #[.int .i64 21, .string nm, .int .i64 n, .slice a ks.length c] 24)).cell? ⟨w.heap.size, 0, none⟩ = some (.int .i64 21) := by simp [go_sem]
  unfold Tm.val
  simp only [Tm.op, Tm.nm, Tm.n, Tm.a, Tm.ks, Tm.c]
  generalize hW2 : w.alloc (.cells #[.int .i64 21, .string nm, .int .i64 n, .slice a ks.length c] 24) = W2 at *
  go_enter Tryd.func69, Tryd.ntmps69
  go_wp2
  go_ret
  exact ⟨rfl, B0⟩
set_option maxRecDepth 100000 in
set_option maxHeartbeats 1000000 in
theorem pla23 (t : Tm) (ho : t.op = 23) (w : World) : Calls Tryd.prog 69 #[t.val] w (RetBo (plB t) w) := by
  have e : plB t = false := by rw [plB_eq, ho]; rfl
  rw [e]
  clear e
  obtain ⟨op, nm, n, a, c, ks⟩ := t
  simp only [Tm.op] at ho
  subst ho
  have B0 := bel_alloc w (.cells #[.int .i64 23, .string nm, .int .i64 n, .slice a ks.length c] 24)
  have x0 : (w.alloc (.cells #[.int .i64 23, .string nm, .int .i64 n, .slice a ks.length c] 24)).cell? ⟨w.heap.size, 0, none⟩ = some (.int .i64 23) := by simp [go_sem]
  unfold Tm.val
  simp only [Tm.op, Tm.nm, Tm.n, Tm.a, Tm.ks, Tm.c]
  generalize hW2 : w.alloc (.cells #[.int .i64 23, .string nm, .int .i64 n, .slice a ks.length c] 24) = W2 at *
  go_enter Tryd.func69, Tryd.ntmps69
  go_wp2
  go_ret
  exact ⟨rfl, B0⟩
set_option maxRecDepth 100000 in
set_option maxHeartbeats 1000000 in
theorem pla24 (t : Tm) (ho : t.op = 24) (w : World) : Calls Tryd.prog 69 #[t.val] w (RetBo (plB t) w) := by
  have e : plB t = false := by rw [plB_eq, ho]; rfl
  rw [e]
  clear e
  obtain ⟨op, nm, n, a, c, ks⟩ := t
  simp only [Tm.op] at ho
  subst ho
  have B0 := bel_alloc w (.cells #[.int .i64 24, .string nm, .int .i64 n, .slice a ks.length c] 24)
  have x0 : (w.alloc (.cells #[.int .i64 24, .string nm, .int .i64 n, .slice a ks.length c] 24)).cell? ⟨w.heap.size, 0, none⟩ = some (.int .i64 24) := by simp [go_sem]
  unfold Tm.val
  simp only [Tm.op, Tm.nm, Tm.n, Tm.a, Tm.ks, Tm.c]
  generalize hW2 : w.alloc (.cells #[.int .i64 24, .string nm, .int .i64 n, .slice a ks.length c] 24) = W2 at *
  go_enter Tryd.func69, Tryd.ntmps69
  go_wp2
  go_ret
  exact ⟨rfl, B0⟩
set_option maxRecDepth 100000 in
set_option maxHeartbeats 1000000 in
theorem pla25 (t : Tm) (ho : t.op = 25) (w : World) : Calls Tryd.prog 69 #[t.val] w (RetBo (plB t) w) := by
  have e : plB t = false := by rw [plB_eq, ho]; rfl
  rw [e]
  clear e
  obtain ⟨op, nm, n, a, c, ks⟩ := t
  simp only [Tm.op] at ho
  subst ho
  have B0 := bel_alloc w (.cells #[.int .i64 25, .string nm, .int .i64 n, .slice a ks.length c] 24)
  have x0 : (w.alloc (.cells #[.int .i64 25, .string nm, .int .i64 n, .slice a ks.length c] 24)).cell? ⟨w.heap.size, 0, none⟩ = some (.int .i64 25) := by simp [go_sem]
  unfold Tm.val
  simp only [Tm.op, Tm.nm, Tm.n, Tm.a, Tm.ks, Tm.c]
  generalize hW2 : w.alloc (.cells #[.int .i64 25, .string nm, .int .i64 n, .slice a ks.length c] 24) = W2 at *
  go_enter Tryd.func69, Tryd.ntmps69
  go_wp2
  go_ret
  exact ⟨rfl, B0⟩
set_option maxRecDepth 100000 in
set_option maxHeartbeats 1000000 in
theorem pla26 (t : Tm) (ho : t.op = 26) (w : World) : Calls Tryd.prog 69 #[t.val] w (RetBo (plB t) w) := by
  have e : plB t = false := by rw [plB_eq, ho]; rfl
  rw [e]
  clear e
  obtain ⟨op, nm, n, a, c, ks⟩ := t
  simp only [Tm.op] at ho
  subst ho
  have B0 := bel_alloc w (.cells #[.int .i64 26, .string nm, .int .i64 n, .slice a ks.length c] 24)
  have x0 : (w.alloc (.cells #[.int .i64 26, .string nm, .int .i64 n, .slice a ks.length c] 24)).cell? ⟨w.heap.size, 0, none⟩ = some (.int .i64 26) := by simp [go_sem]
  unfold Tm.val
  simp only [Tm.op, Tm.nm, Tm.n, Tm.a, Tm.ks, Tm.c]
  generalize hW2 : w.alloc (.cells #[.int .i64 26, .string nm, .int .i64 n, .slice a ks.length c] 24) = W2 at *
  go_enter Tryd.func69, Tryd.ntmps69
  go_wp2
  go_ret
  exact ⟨rfl, B0⟩
set_option maxRecDepth 100000 in
set_option maxHeartbeats 1000000 in
theorem pla27 (t : Tm) (ho : t.op = 27) (w : World) : Calls Tryd.prog 69 #[t.val] w (RetBo (plB t) w) := by
  have e : plB t = false := by rw [plB_eq, ho]; rfl
  rw [e]
  clear e
  obtain ⟨op, nm, n, a, c, ks⟩ := t
  simp only [Tm.op] at ho
  subst ho
  have B0 := bel_alloc w (.cells #[.int .i64 27, .string nm, .int .i64 n, .slice a ks.length c] 24)
  have x0 : (w.alloc (.cells #[.int .i64 27, .string nm, .int .i64 n, .slice a ks.length c] 24)).cell? ⟨w.heap.size, 0, none⟩ = some (.int .i64 27) := by simp [go_sem]
  unfold Tm.val
  simp only [Tm.op, Tm.nm, Tm.n, Tm.a, Tm.ks, Tm.c]
  generalize hW2 : w.alloc (.cells #[.int .i64 27, .string nm, .int .i64 n, .slice a ks.length c] 24) = W2 at *
  go_enter Tryd.func69, Tryd.ntmps69
  go_wp2
  go_ret
  exact ⟨rfl, B0⟩
set_option maxRecDepth 100000 in
set_option maxHeartbeats 1000000 in
theorem pla28 (t : Tm) (ho : t.op = 28) (w : World) : Calls Tryd.prog 69 #[t.val] w (RetBo (plB t) w) := by
  have e : plB t = false := by rw [plB_eq, ho]; rfl
  rw [e]
  clear e
  obtain ⟨op, nm, n, a, c, ks⟩ := t
  simp only [Tm.op] at ho
  subst ho
  have B0 := bel_alloc w (.cells #[.int .i64 28, .string nm, .int .i64 n, .slice a ks.length c] 24)
  have x0 : (w.alloc (.cells #[.int .i64 28, .string nm, .int .i64 n, .slice a ks.length c] 24)).cell? ⟨w.heap.size, 0, none⟩ = some (.int .i64 28) := by simp [go_sem]
  unfold Tm.val
  simp only [Tm.op, Tm.nm, Tm.n, Tm.a, Tm.ks, Tm.c]
  generalize hW2 : w.alloc (.cells #[.int .i64 28, .string nm, .int .i64 n, .slice a ks.length c] 24) = W2 at *
  go_enter Tryd.func69, Tryd.ntmps69
  go_wp2
  go_ret
  exact ⟨rfl, B0⟩
set_option maxRecDepth 100000 in
set_option maxHeartbeats 1000000 in
theorem pla18 (t k0 : Tm) (ho : t.op = 18) (hks : t.ks = [k0]) (w : World) (ht : TIn w w.heap.size t) : Calls Tryd.prog 69 #[t.val] w (RetBo (plB t) w) := by
  have e : plB t = (decide (k0.op = 15) || decide (k0.op = 22)) := by rw [plB_eq, ho, hks]; rfl
  rw [e]
  clear e
  obtain ⟨p, hp⟩ : ∃ p, k0.op = p := ⟨_, rfl⟩
  rw [hp]
  obtain ⟨op, nm, n, a, c, ks⟩ := t
  simp only [Tm.op, Tm.ks] at ho hks
  subst ho hks
  obtain ⟨kin0, b, o, ha, hbl, kf0⟩ := ht.kid 0 (by simp [Tm.ks])
  simp only [Tm.a, Tm.ks, List.getElem_cons_zero, Nat.zero_mul, Nat.add_zero] at ha kin0 kf0
  subst ha
  have B0 := bel_alloc w (.cells #[.int .i64 18, .string nm, .int .i64 n, .slice (some ⟨b, o, none⟩) 1 c] 24)
  have x0 : (w.alloc (.cells #[.int .i64 18, .string nm, .int .i64 n, .slice (some ⟨b, o, none⟩) 1 c] 24)).cell? ⟨w.heap.size, 0, none⟩ = some (.int .i64 18) := by simp [go_sem]
  have x3 : (w.alloc (.cells #[.int .i64 18, .string nm, .int .i64 n, .slice (some ⟨b, o, none⟩) 1 c] 24)).cell? ⟨w.heap.size, 3, none⟩ = some (.slice (some ⟨b, o, none⟩) 1 c) := by simp [go_sem]
  unfold Tm.val
  simp only [Tm.op, Tm.nm, Tm.n, Tm.a, Tm.ks, Tm.c, List.length_cons, List.length_nil, Nat.zero_add]
  have q := (Four.keep kf0 B0 hbl).1
  rw [hp] at q
  clear hp
  generalize hW2 : w.alloc (.cells #[.int .i64 18, .string nm, .int .i64 n, .slice (some ⟨b, o, none⟩) 1 c] 24) = W2 at *
  clear kin0 kf0 ht
  by_cases h15 : p = 15
  · subst h15
    go_enter Tryd.func69, Tryd.ntmps69
    go_wp2
    go_ret
    exact ⟨rfl, B0⟩
  · have e15 : (p == 15) = false := by rw [beq_eq_false_iff_ne]; exact h15
    rw [decide_eq_false h15, Bool.false_or]
    by_cases h22 : p = 22
    · subst h22
      clear e15 h15
      go_enter Tryd.func69, Tryd.ntmps69
      go_wp2
      go_ret
      exact ⟨rfl, B0⟩
    · have e22 : (p == 22) = false := by rw [beq_eq_false_iff_ne]; exact h22
      rw [decide_eq_false h22]
      clear h15 h22
      go_enter Tryd.func69, Tryd.ntmps69
      go_wp2
      go_ret
      exact ⟨rfl, B0⟩
set_option maxRecDepth 100000 in
set_option maxHeartbeats 4000000 in
theorem pla19 (t : Tm) (ho : t.op = 19) (ih : ∀ k ∈ t.ks, ∀ w : World, TIn w w.heap.size k → Calls Tryd.prog 69 #[k.val] w (RetBo (plB k) w)) (w : World) (ht : TIn w w.heap.size t) : Calls Tryd.prog 69 #[t.val] w (RetBo (plB t) w) := by
  have hpe : plB t = t.ks.all plB := by rw [plB_eq, ho]; rfl
  rw [hpe]
  clear hpe
  have IH := mkHid ih
  have hlt := ht.nums.2.2.2
  unfold maxLen at hlt
  have HT := mkHid ht
  clear ih ht
  have B0 := bel_alloc w (boxT t)
  have F1 := box_four w t
  have hW2 : w.alloc (.cells #[.int .i64 19, .string t.nm, .int .i64 t.n, .slice t.a t.ks.length t.c] 24) = w.alloc (boxT t) := by unfold boxT; rw [ho]
  generalize w.alloc (boxT t) = W2 at *
  unfold Tm.val
  rw [ho]
  obtain ⟨x0, x1, x2, x3⟩ := id F1
  rw [ho] at x0
  clear ho
  simp only [Nat.zero_add] at x1 x2 x3
  generalize hn' : t.ks.length = n at *
  have HN := mkHid hn'
  clear hn'
  have hn : n ≤ 9223372036854775807 := by omega
  generalize hR' : t.ks.all plB = R
  have HR := mkHid hR'
  clear hR'
  go_enter Tryd.func69, Tryd.ntmps69
  go_wp2
  clear x0 x1 x2 x3 hW2
  go_loopw [34] (fun i w' => ∃ (k : Nat) (x : Int), i = .int .i64 x ∧ x = k ∧ k ≤ n ∧ Hid ((t.ks.take k).all plB = true) ∧ Below W2.heap.size W2 w') (fun i _ => (n - intOf i).toNat)
  case atStart => exact ⟨0, 0, rfl, rfl, Nat.zero_le _, rfl, Below.refl _ _⟩
  case round =>
    obtain ⟨k, x, rfl, hxk, hk, hdd, hb⟩ := hrel
    obtain rfl : x = (k : Int) := hxk
    have BB := bon B0 hb
    by_cases hlt2 : k < n
    · have hk1 : k < t.ks.length := by rw [HN.out]; exact hlt2
      obtain ⟨kin1, b1, o1, ha1, hB1, kf1⟩ := HT.out.kid k hk1
      have C := mkHid (IH.out t.ks[k] (List.getElem_mem _) (wr.alloc (boxT t.ks[k])) (kin1.later (bal BB _)))
      have q1 := kf1.keep BB hB1
      have HS := mkHid (List.take_succ_eq_append_getElem hk1)
      have HM := mkHid (List.getElem_mem hk1)
      rw [ha1]
      clear kf1 kin1 ha1 IH
      generalize t.ks[k] = p at *
      clear hk1
      obtain ⟨q10, q11, q12, q13⟩ := q1
      have F4 := box_four wr p
      have bN := bel_alloc wr (boxT p)
      have hW5 : wr.alloc (.cells #[.int .i64 p.op, .string p.nm, .int .i64 p.n, .slice p.a p.ks.length p.c] 24) = wr.alloc (boxT p) := rfl
      unfold Tm.val at C
      generalize wr.alloc (boxT p) = W5 at *
      obtain ⟨f0, f1, f2, f3'⟩ := F4
      simp only [Nat.zero_add] at f1 f2 f3'
      have hk2 : (k : Int) < (n : Int) := by omega
      generalize hpp : plB p = pb at *
      have HPP := mkHid hpp
      clear hpp
      cases pb with
      | true =>
        go_wp2_with fail
        ((with_reducible refine C.out.mono ?_)); rintro e w5 ⟨rfl, hb5⟩
        have B5 := bon (bon hb bN) hb5
        clear hW5 f0 f1 f2 f3' q10 q11 q12 q13
        go_wp2
        go_roundw
        case rel => exact ⟨k + 1, _, rfl, by omega, by omega, (by show _ = _; rw [HS.out, List.all_append, hdd.out]; simp [HPP.out]), B5⟩
        case measure => simp [intOf]; omega
      | false =>
        have HF : Hid (R = false) := by
          show R = false
          rw [← HR.out, List.all_eq_false]
          exact ⟨p, HM.out, by rw [HPP.out]; simp⟩
        go_wp2_with fail
        ((with_reducible refine C.out.mono ?_)); rintro e w5 ⟨rfl, hb5⟩
        have B5 := bon (bon BB bN) hb5
        clear hW5 f0 f1 f2 f3' q10 q11 q12 q13
        go_wp2
        go_ret
        exact ⟨by rw [HF.out]; rfl, B5⟩
    · have HF : Hid (R = true) := by
        show R = true
        have h1 := hdd.out
        rw [List.take_of_length_le (by rw [HN.out]; omega)] at h1
        rw [← HR.out]; exact h1
      go_wp2
      go_ret
      exact ⟨by rw [HF.out]; rfl, BB⟩
set_option maxRecDepth 100000 in
set_option maxHeartbeats 4000000 in
theorem pla20 (t : Tm) (ho : t.op = 20) (ih : ∀ k ∈ t.ks, ∀ w : World, TIn w w.heap.size k → Calls Tryd.prog 69 #[k.val] w (RetBo (plB k) w)) (w : World) (ht : TIn w w.heap.size t) : Calls Tryd.prog 69 #[t.val] w (RetBo (plB t) w) := by
  have hpe : plB t = t.ks.all plB := by rw [plB_eq, ho]; rfl
  rw [hpe]
  clear hpe
  have IH := mkHid ih
  have hlt := ht.nums.2.2.2
  unfold maxLen at hlt
  have HT := mkHid ht
  clear ih ht
  have B0 := bel_alloc w (boxT t)
  have F1 := box_four w t
  have hW2 : w.alloc (.cells #[.int .i64 20, .string t.nm, .int .i64 t.n, .slice t.a t.ks.length t.c] 24) = w.alloc (boxT t) := by unfold boxT; rw [ho]
  generalize w.alloc (boxT t) = W2 at *
  unfold Tm.val
  rw [ho]
  obtain ⟨x0, x1, x2, x3⟩ := id F1
  rw [ho] at x0
  clear ho
  simp only [Nat.zero_add] at x1 x2 x3
  generalize hn' : t.ks.length = n at *
  have HN := mkHid hn'
  clear hn'
  have hn : n ≤ 9223372036854775807 := by omega
  generalize hR' : t.ks.all plB = R
  have HR := mkHid hR'
  clear hR'
  go_enter Tryd.func69, Tryd.ntmps69
  go_wp2
  clear x0 x1 x2 x3 hW2
  go_loopw [34] (fun i w' => ∃ (k : Nat) (x : Int), i = .int .i64 x ∧ x = k ∧ k ≤ n ∧ Hid ((t.ks.take k).all plB = true) ∧ Below W2.heap.size W2 w') (fun i _ => (n - intOf i).toNat)
  case atStart => exact ⟨0, 0, rfl, rfl, Nat.zero_le _, rfl, Below.refl _ _⟩
  case round =>
    obtain ⟨k, x, rfl, hxk, hk, hdd, hb⟩ := hrel
    obtain rfl : x = (k : Int) := hxk
    have BB := bon B0 hb
    by_cases hlt2 : k < n
    · have hk1 : k < t.ks.length := by rw [HN.out]; exact hlt2
      obtain ⟨kin1, b1, o1, ha1, hB1, kf1⟩ := HT.out.kid k hk1
      have C := mkHid (IH.out t.ks[k] (List.getElem_mem _) (wr.alloc (boxT t.ks[k])) (kin1.later (bal BB _)))
      have q1 := kf1.keep BB hB1
      have HS := mkHid (List.take_succ_eq_append_getElem hk1)
      have HM := mkHid (List.getElem_mem hk1)
      rw [ha1]
      clear kf1 kin1 ha1 IH
      generalize t.ks[k] = p at *
      clear hk1
      obtain ⟨q10, q11, q12, q13⟩ := q1
      have F4 := box_four wr p
      have bN := bel_alloc wr (boxT p)
      have hW5 : wr.alloc (.cells #[.int .i64 p.op, .string p.nm, .int .i64 p.n, .slice p.a p.ks.length p.c] 24) = wr.alloc (boxT p) := rfl
      unfold Tm.val at C
      generalize wr.alloc (boxT p) = W5 at *
      obtain ⟨f0, f1, f2, f3'⟩ := F4
      simp only [Nat.zero_add] at f1 f2 f3'
      have hk2 : (k : Int) < (n : Int) := by omega
      generalize hpp : plB p = pb at *
      have HPP := mkHid hpp
      clear hpp
      cases pb with
      | true =>
        go_wp2_with fail
        ((with_reducible refine C.out.mono ?_)); rintro e w5 ⟨rfl, hb5⟩
        have B5 := bon (bon hb bN) hb5
        clear hW5 f0 f1 f2 f3' q10 q11 q12 q13
        go_wp2
        go_roundw
        case rel => exact ⟨k + 1, _, rfl, by omega, by omega, (by show _ = _; rw [HS.out, List.all_append, hdd.out]; simp [HPP.out]), B5⟩
        case measure => simp [intOf]; omega
      | false =>
        have HF : Hid (R = false) := by
          show R = false
          rw [← HR.out, List.all_eq_false]
          exact ⟨p, HM.out, by rw [HPP.out]; simp⟩
        go_wp2_with fail
        ((with_reducible refine C.out.mono ?_)); rintro e w5 ⟨rfl, hb5⟩
        have B5 := bon (bon BB bN) hb5
        clear hW5 f0 f1 f2 f3' q10 q11 q12 q13
        go_wp2
        go_ret
        exact ⟨by rw [HF.out]; rfl, B5⟩
    · have HF : Hid (R = true) := by
        show R = true
        have h1 := hdd.out
        rw [List.take_of_length_le (by rw [HN.out]; omega)] at h1
        rw [← HR.out]; exact h1
      go_wp2
      go_ret
      exact ⟨by rw [HF.out]; rfl, BB⟩
theorem plain_any : ∀ t : Tm, t.srt = 4 → ∀ w : World, TIn w w.heap.size t → Calls Tryd.prog 69 #[t.val] w (RetBo (plB t) w) := by
  refine bool_ind ?_ ?_ ?_ ?_ ?_ ?_ ?_ ?_ ?_ ?_ ?_ ?_ ?_ ?_
  · exact fun t _ ho _ w _ => pla15 t ho w
  · exact fun t _ ho _ _ w _ => pla16 t ho w
  · exact fun t _ ho _ _ w _ => pla17 t ho w
  · exact fun t u _ ho hk _ _ _ w h => pla18 t u ho hk w h
  · exact fun t _ ho _ _ ih w h => pla19 t ho ih w h
  · exact fun t _ ho _ _ ih w h => pla20 t ho ih w h
  · exact fun t _ _ _ ho _ _ _ _ _ _ w _ => pla21 t ho w
  · exact fun t _ _ _ ho _ _ _ _ w _ => pla22 t ho w
  · exact fun t _ _ _ ho _ _ _ w _ => pla23 t ho w
  · exact fun t _ _ _ ho _ _ _ w _ => pla24 t ho w
  · exact fun t _ _ _ ho _ _ _ w _ => pla25 t ho w
  · exact fun t _ _ _ ho _ _ _ w _ => pla26 t ho w
  · exact fun t _ _ _ ho _ _ _ w _ => pla27 t ho w
  · exact fun t _ _ _ ho _ _ _ w _ => pla28 t ho w
/-- what Is answers -/
def isB (t : Tm) : Bool := decide (errR t = 0) && decide (t.srt = 4) && plB t
theorem srtR_ok {t : Tm} (h : errR t = 0) : srtR t = t.srt := (errR_zero h).2.2.2
set_option maxRecDepth 100000 in
set_option maxHeartbeats 4000000 in
theorem is_any (t : Tm) (w : World) (ht : TIn w w.heap.size t) (hS : Shps w) : Calls Tryd.prog 38 #[t.val] w (RetBo (isB t) w) := by
  have B0 := bel_alloc w (boxT t)
  have F1 := box_four w t
  have CS := mkHid (sort_any t (w.alloc (boxT t)) (ht.later B0) (hS.later B0))
  have HT := mkHid ht
  have hW2 : w.alloc (.cells #[.int .i64 t.op, .string t.nm, .int .i64 t.n, .slice t.a t.ks.length t.c] 24) = w.alloc (boxT t) := rfl
  generalize w.alloc (boxT t) = W2 at *
  unfold Tm.val at CS
  clear hS ht
  unfold Tm.val
  obtain ⟨x0, x1, x2, x3⟩ := id F1
  simp only [Nat.zero_add] at x1 x2 x3
  have HF1 := mkHid F1
  clear F1
  by_cases he : errR t = 0
  · have hs := srtR_ok he
    rw [he, hs] at CS
    by_cases h4 : t.srt = 4
    · have CP := mkHid (fun w' (hb : Below W2.heap.size W2 w') => plain_any t h4 w' (HT.out.later (bon B0 hb)))
      have er : Hid (isB t = plB t) := by show isB t = plB t; unfold isB; rw [decide_eq_true he, decide_eq_true h4]; rfl
      rw [er.out]
      rw [h4] at CS
      clear he h4 hs
      unfold Tm.val at CP
      go_enter Tryd.func38, Tryd.ntmps38
      go_wp2_with fail
      ((with_reducible refine CS.out.mono ?_)); rintro e w3 ⟨rfl, hb3⟩
      obtain ⟨y0, y1, y2, y3⟩ := HF1.out.later hb3
      simp only [Nat.zero_add] at y1 y2 y3
      clear x0 x1 x2 x3 hW2
      generalize plB t = pb at *
      go_wp2_with fail
      ((with_reducible refine (CP.out w3 hb3).mono ?_)); rintro e w4 ⟨rfl, hb4⟩
      go_wp2
      go_ret
      exact ⟨rfl, bon (bon B0 hb3) hb4⟩
    · have er : Hid (isB t = false) := by show isB t = false; unfold isB; rw [decide_eq_false h4]; simp
      rw [er.out]
      have e4 : (((t.srt : Nat) : Int) == 4) = false := by rw [beq_eq_false_iff_ne]; omega
      clear he hs h4
      generalize ((t.srt : Nat) : Int) = sv at *
      go_enter Tryd.func38, Tryd.ntmps38
      go_wp2_with fail
      ((with_reducible refine CS.out.mono ?_)); rintro e w3 ⟨rfl, hb3⟩
      clear x0 x1 x2 x3 hW2
      go_wp2
      go_ret
      exact ⟨rfl, bon B0 hb3⟩
  · have er : Hid (isB t = false) := by show isB t = false; unfold isB; rw [decide_eq_false he]; simp
    rw [er.out]
    have e0 : (((errR t : Nat) : Int) == 0) = false := by rw [beq_eq_false_iff_ne]; omega
    clear he
    generalize ((errR t : Nat) : Int) = ev at *
    generalize ((srtR t : Nat) : Int) = sv at *
    go_enter Tryd.func38, Tryd.ntmps38
    go_wp2_with fail
    ((with_reducible refine CS.out.mono ?_)); rintro e w3 ⟨rfl, hb3⟩
    clear x0 x1 x2 x3 hW2
    go_wp2
    go_ret
    exact ⟨rfl, bon B0 hb3⟩
/-- the error of Norm -/
def normE (t : Tm) : Nat := if errR t ≠ 0 then errR t else if t.srt ≠ 4 then 3 else if errR (nn t false) ≠ 0 then 7 else 0
/-- what Norm answers: an error and nothing, or what the term becomes -/
def NormP (t : Tm) (w : World) (e : Ending) (w' : World) : Prop := (∃ x : Tm, e = .returned (.tuple #[x.val, .int .i64 (normE t)]) ∧ TIn w' w'.heap.size x ∧ (normE t = 0 → x.er = nn t false) ∧ (normE t ≠ 0 → x = q0 0)) ∧ Below w.heap.size w w'
theorem put4 {w wN : World} {x : Tm} (h : TIn wN wN.heap.size x) (ho : TAw (w.heap.size + 1) x) (BW : Below w.heap.size w wN) :
    TIn ((((wN.setCell ⟨w.heap.size + 1, 0, none⟩ (.int .i64 x.op)).setCell ⟨w.heap.size + 1, 1, none⟩ (.string x.nm)).setCell ⟨w.heap.size + 1, 2, none⟩ (.int .i64 x.n)).setCell ⟨w.heap.size + 1, 3, none⟩ (.slice x.a x.ks.length x.c)) ((((wN.setCell ⟨w.heap.size + 1, 0, none⟩ (.int .i64 x.op)).setCell ⟨w.heap.size + 1, 1, none⟩ (.string x.nm)).setCell ⟨w.heap.size + 1, 2, none⟩ (.int .i64 x.n)).setCell ⟨w.heap.size + 1, 3, none⟩ (.slice x.a x.ks.length x.c)).heap.size x ∧ Below w.heap.size w ((((wN.setCell ⟨w.heap.size + 1, 0, none⟩ (.int .i64 x.op)).setCell ⟨w.heap.size + 1, 1, none⟩ (.string x.nm)).setCell ⟨w.heap.size + 1, 2, none⟩ (.int .i64 x.n)).setCell ⟨w.heap.size + 1, 3, none⟩ (.slice x.a x.ks.length x.c)) := by
  have hsz : ((((wN.setCell ⟨w.heap.size + 1, 0, none⟩ (.int .i64 x.op)).setCell ⟨w.heap.size + 1, 1, none⟩ (.string x.nm)).setCell ⟨w.heap.size + 1, 2, none⟩ (.int .i64 x.n)).setCell ⟨w.heap.size + 1, 3, none⟩ (.slice x.a x.ks.length x.c)).heap.size = wN.heap.size := by simp
  refine ⟨?_, ?_⟩
  · rw [hsz]
    exact (((h.setAw (p := ⟨w.heap.size + 1, 0, none⟩) ho _).setAw (p := ⟨w.heap.size + 1, 1, none⟩) ho _).setAw (p := ⟨w.heap.size + 1, 2, none⟩) ho _).setAw (p := ⟨w.heap.size + 1, 3, none⟩) ho _
  · exact bset (bset (bset (bset BW (by show w.heap.size ≤ w.heap.size + 1; omega) _) (by show w.heap.size ≤ w.heap.size + 1; omega) _) (by show w.heap.size ≤ w.heap.size + 1; omega) _) (by show w.heap.size ≤ w.heap.size + 1; omega) _
theorem Mk.nil0 (w : World) : TIn w w.heap.size (q0 0) := (Mk.nil (w := w) (t := q0 0) (by decide)).tin
theorem tup2 {v : Value} {a b : Nat} (h : a = b) : Ending.returned (.tuple #[v, .int .i64 (a : Int)]) = .returned (.tuple #[v, .int .i64 (b : Int)]) := by rw [h]
set_option maxRecDepth 100000 in
set_option maxHeartbeats 4000000 in
theorem norm_any (t : Tm) (w : World) (ht : TIn w w.heap.size t) (hS : Shps w) : Calls Tryd.prog 36 #[t.val] w (NormP t w) := by
  have B0 : Below w.heap.size w (cpW t w) := bal (bal (Below.refl _ _) _) _
  have F1 : Four (cpW t w) w.heap.size 0 t := (box_four w t).later (bel_alloc _ _)
  have FR : FourV' (cpW t w) (w.heap.size + 1) (.int .i64 0) (.string ⟨#[]⟩) (.int .i64 0) (.slice none 0 0) := by simp [FourV', cpW, boxT, go_sem]
  have hX : w.heap.size + 1 < (cpW t w).heap.size := by simp [cpW]
  have CS := mkHid (sort_any t (cpW t w) (ht.later B0) (hS.later B0))
  have HS := mkHid (hS.later B0)
  have HT := mkHid ht
  have HX := mkHid hX
  have hW2 : (w.alloc (.cells #[.int .i64 t.op, .string t.nm, .int .i64 t.n, .slice t.a t.ks.length t.c] 24)).alloc (.cells #[.int .i64 0, .string ⟨#[]⟩, .int .i64 0, .slice none 0 0] 24) = cpW t w := rfl
  generalize cpW t w = W2 at *
  unfold Tm.val at CS
  clear hS ht hX
  unfold Tm.val
  obtain ⟨x0, x1, x2, x3⟩ := id F1
  simp only [Nat.zero_add] at x1 x2 x3
  have HF1 := mkHid F1
  have HFR := mkHid FR
  clear F1 FR
  by_cases he : errR t = 0
  · have hs := srtR_ok he
    rw [he, hs] at CS
    by_cases h4 : t.srt = 4
    · rw [h4] at CS
      have hz : t.size ≤ 2000 := (errR_zero he).1
      have CA := mkHid (fun w' (hb : Below W2.heap.size W2 w') => (both_any t h4 hz).1 w' (HT.out.later (bon B0 hb)))
      unfold Tm.val at CA
      have HE : Hid (normE t = if errR (nn t false) ≠ 0 then 7 else 0) := by
        show normE t = _
        unfold normE
        rw [if_neg (by rw [he]; decide), if_neg (by rw [h4]; decide)]
      clear he h4 hs hz
      go_enter Tryd.func36, Tryd.ntmps36
      go_wp2_with fail
      ((with_reducible refine CS.out.mono ?_)); rintro e w3 ⟨rfl, hb3⟩
      obtain ⟨y0, y1, y2, y3⟩ := HF1.out.later hb3
      simp only [Nat.zero_add] at y1 y2 y3
      clear x0 x1 x2 x3 hW2 CS
      go_wp2_with fail
      ((with_reducible refine (CA.out w3 hb3).mono ?_)); rintro e w4 ⟨z, rfl, ze, zt, zw, hb4⟩
      clear y0 y1 y2 y3
      have HZE := mkHid ze
      have own1 : TAw (w.heap.size + 1) z := zw _ (Nat.lt_of_lt_of_le HX.out hb3.size) (HT.out.aw (by omega))
      have HOWN := mkHid own1
      clear ze zw own1 CA
      have bN := bel_alloc w4 (boxT z)
      have F4 := box_four w4 z
      have hW5 : w4.alloc (.cells #[.int .i64 z.op, .string z.nm, .int .i64 z.n, .slice z.a z.ks.length z.c] 24) = w4.alloc (boxT z) := rfl
      have B5 := bon (bon hb3 hb4) bN
      have zt5 := zt.later bN
      have CS2 := mkHid (sort_any z (w4.alloc (boxT z)) zt5 (HS.out.later B5))
      generalize w4.alloc (boxT z) = W5 at *
      unfold Tm.val at CS2
      unfold Tm.val
      obtain ⟨x0, x1, x2, x3⟩ := id F4
      simp only [Nat.zero_add] at x1 x2 x3
      have ee : errR z = errR (nn t false) := by rw [← er_errR z, HZE.out]
      have HZT := mkHid zt5
      clear zt zt5
      by_cases he2 : errR z = 0
      · have hsz := (errR_zero he2).1
        have HE0 : Hid (normE t = 0) := by
          show normE t = 0
          rw [HE.out, if_neg (by rw [← ee, he2]; decide)]
        have CC := mkHid (fun w' (hb : Below W5.heap.size W5 w') => ncopied_any z w' (HZT.out.later hb) hsz)
        unfold Tm.val at CC
        rw [he2] at CS2
        clear he2 hsz ee HE
        generalize ((srtR z : Nat) : Int) = sv at *
        go_wp2_with fail
        ((with_reducible refine CS2.out.mono ?_)); rintro e w6 ⟨rfl, hb6⟩
        obtain ⟨y0, y1, y2, y3⟩ := F4.later hb6
        simp only [Nat.zero_add] at y1 y2 y3
        clear x0 x1 x2 x3 hW5 CS2
        go_wp2_with fail
        ((with_reducible refine (CC.out w6 hb6).mono ?_)); rintro e w7 ⟨y, rfl, ye, yt, yw, hb7⟩
        clear y0 y1 y2 y3
        obtain ⟨m0, m1, m2, m3, f0, f1, f2, f3⟩ := HFR.out.later (bon (bon B5 hb6) hb7)
        have HYE := mkHid ye
        have own2 : TAw (w.heap.size + 1) y := yw _ (Nat.lt_of_lt_of_le HX.out (Nat.le_trans B5.size hb6.size)) HOWN.out
        have HO2 := mkHid own2
        have HYT := mkHid yt
        clear ye yw own2 yt CC F4
        unfold Tm.val
        go_wp2
        obtain ⟨hy3, hy5⟩ := put4 HYT.out HO2.out (bon B0 (bon (bon B5 hb6) hb7))
        refine bodyPost_ret (v := .tuple #[.agg #[.int .i64 y.op, .string y.nm, .int .i64 y.n, .slice y.a y.ks.length y.c], .int .i64 0]) (by simp [results, Tryd.results36, go_sem, m0, m1, m2, m3]) rfl ⟨⟨y, ?_, ?_, fun _ => ?_, fun h => absurd HE0.out h⟩, hy5⟩
        · rw [HE0.out]; rfl
        · exact hy3
        · rw [HYE.out]; exact HZE.out
      · have HE0 : Hid (normE t = 7) := by
          show normE t = 7
          rw [HE.out, if_pos (by rw [← ee]; exact he2)]
        have e0 : (((errR z : Nat) : Int) == 0) = false := by rw [beq_eq_false_iff_ne]; omega
        clear he2 ee HE
        generalize ((srtR z : Nat) : Int) = sv at *
        generalize ((errR z : Nat) : Int) = ev at *
        go_wp2_with fail
        ((with_reducible refine CS2.out.mono ?_)); rintro e w6 ⟨rfl, hb6⟩
        clear x0 x1 x2 x3 hW5 CS2 F4
        obtain ⟨m0, m1, m2, m3, f0, f1, f2, f3⟩ := HFR.out.later (bon B5 hb6)
        go_wp2
        refine bodyPost_ret (v := .tuple #[(.agg #[.int .i64 0, .string ⟨#[]⟩, .int .i64 0, .slice none 0 0]), .int .i64 7]) (by simp [results, Tryd.results36, go_sem, m0, m1, m2, m3]) rfl ⟨⟨q0 0, ?_, Mk.nil0 _, fun h => absurd h ?_, fun _ => rfl⟩, ?_⟩
        · rw [HE0.out]; rfl
        · rw [HE0.out]; decide
        · exact bset (bset (bset (bset (bon B0 (bon B5 hb6)) (by show w.heap.size ≤ w.heap.size + 1; omega) _) (by show w.heap.size ≤ w.heap.size + 1; omega) _) (by show w.heap.size ≤ w.heap.size + 1; omega) _) (by show w.heap.size ≤ w.heap.size + 1; omega) _
    · have HE0 : Hid (normE t = 3) := by
        show normE t = 3
        unfold normE
        rw [if_neg (by rw [he]; decide), if_pos h4]
      have e4 : (((t.srt : Nat) : Int) == 4) = false := by rw [beq_eq_false_iff_ne]; omega
      clear he hs h4
      generalize ((t.srt : Nat) : Int) = sv at *
      go_enter Tryd.func36, Tryd.ntmps36
      go_wp2_with fail
      ((with_reducible refine CS.out.mono ?_)); rintro e w3 ⟨rfl, hb3⟩
      clear x0 x1 x2 x3 hW2
      obtain ⟨m0, m1, m2, m3, f0, f1, f2, f3⟩ := HFR.out.later hb3
      go_wp2
      refine bodyPost_ret (v := .tuple #[(.agg #[.int .i64 0, .string ⟨#[]⟩, .int .i64 0, .slice none 0 0]), .int .i64 3]) (by simp [results, Tryd.results36, go_sem, m0, m1, m2, m3]) rfl ⟨⟨q0 0, ?_, Mk.nil0 _, fun h => absurd h ?_, fun _ => rfl⟩, ?_⟩
      · rw [HE0.out]; rfl
      · rw [HE0.out]; decide
      · exact bset (bset (bset (bset (bon B0 hb3) (by show w.heap.size ≤ w.heap.size + 1; omega) _) (by show w.heap.size ≤ w.heap.size + 1; omega) _) (by show w.heap.size ≤ w.heap.size + 1; omega) _) (by show w.heap.size ≤ w.heap.size + 1; omega) _
  · have HE0 : Hid (normE t = errR t) := by
      show normE t = errR t
      unfold normE
      rw [if_pos he]
    have e0 : (((errR t : Nat) : Int) == 0) = false := by rw [beq_eq_false_iff_ne]; omega
    have HNE := mkHid he
    clear he
    generalize hsv : ((srtR t : Nat) : Int) = sv at *
    generalize hev : ((errR t : Nat) : Int) = ev at *
    have HEV := mkHid hev
    clear hsv hev
    go_enter Tryd.func36, Tryd.ntmps36
    go_wp2_with fail
    ((with_reducible refine CS.out.mono ?_)); rintro e w3 ⟨rfl, hb3⟩
    clear x0 x1 x2 x3 hW2
    obtain ⟨m0, m1, m2, m3, f0, f1, f2, f3⟩ := HFR.out.later hb3
    go_wp2
    refine bodyPost_ret (v := .tuple #[(.agg #[.int .i64 0, .string ⟨#[]⟩, .int .i64 0, .slice none 0 0]), .int .i64 ev]) (by simp [results, Tryd.results36, go_sem, m0, m1, m2, m3]) rfl ⟨⟨q0 0, ?_, Mk.nil0 _, fun h => absurd h ?_, fun _ => rfl⟩, ?_⟩
    · rw [HE0.out, HEV.out]; rfl
    · rw [HE0.out]; exact HNE.out
    · exact bset (bset (bset (bset (bon B0 hb3) (by show w.heap.size ≤ w.heap.size + 1; omega) _) (by show w.heap.size ≤ w.heap.size + 1; omega) _) (by show w.heap.size ≤ w.heap.size + 1; omega) _) (by show w.heap.size ≤ w.heap.size + 1; omega) _
/-- terms that are the same without places are the same for the document -/
theorem eqT_er : ∀ a b : Tm, a.er = b.er → eqT a b = true := by
  intro a
  induction a using Tm.ind with
  | h a ih =>
    intro b h
    rw [er_eq, er_eq b] at h
    have h1 := congrArg Tm.op h
    have h2 := congrArg Tm.nm h
    have h3 := congrArg Tm.n h
    have h4 := congrArg Tm.ks h
    simp only [Tm.op, Tm.nm, Tm.n, Tm.ks] at h1 h2 h3 h4
    have hl : ∀ l l' : List Tm, (∀ k ∈ l, ∀ b, k.er = b.er → eqT k b = true) → l.map Tm.er = l'.map Tm.er → eqTs l l' = true := by
      intro l
      induction l with
      | nil =>
        intro l' _ h
        cases l' with
        | nil => rfl
        | cons x l' => simp at h
      | cons k l ihl =>
        intro l' hk h
        cases l' with
        | nil => simp at h
        | cons x l' =>
          simp only [List.map_cons, List.cons.injEq] at h
          simp only [eqTs, hk k (by simp) x h.1, ihl l' (fun q hq => hk q (by simp [hq])) h.2, Bool.and_self]
    rw [eqT_eq]
    have h4' : a.ks.map Tm.er = b.ks.map Tm.er := h4
    have e1 : (a.op == b.op) = true := beq_iff_eq.2 h1
    have e2 : (a.nm.toList == b.nm.toList) = true := beq_iff_eq.2 (congrArg ByteArray.toList h2)
    have e3 : (a.n == b.n) = true := beq_iff_eq.2 h3
    rw [e1, e2, e3, hl a.ks b.ks (fun k hk => ih k hk) h4']
    rfl
/-- the document's Same of two that are the same without places -/
theorem same_er {a b : Tm} {w : World} (ha : TIn w w.heap.size a) (hb : TIn w w.heap.size b) (h : a.er = b.er) (hd : a.deep ≤ 100) :
    Calls Tryd.prog 24 #[a.val, b.val] w (RetBo true w) := by
  have := rSame_any a b w ha hb
  have hb' : b.deep ≤ 100 := by rw [← er_deep b, ← h, er_deep]; exact hd
  rw [decide_eq_true hd, decide_eq_true hb', eqT_er a b h] at this
  exact this
theorem isB_er (t : Tm) : isB t.er = isB t := by unfold isB; rw [er_errR, er_srt, plB_er]

def vx : Tm := .node 2 ⟨#[120]⟩ 0 none 0 []
def vy : Tm := .node 2 ⟨#[121]⟩ 0 none 0 []
theorem v_in (w : World) (B : Nat) : TIn w B vx ∧ TIn w B vy :=
  ⟨.mk vx (by decide) (by decide) (by decide) (by decide) (by decide) (fun j h => by simp [vx, Tm.ks] at h) (fun k h => by simp [vx, Tm.ks] at h), .mk vy (by decide) (by decide) (by decide) (by decide) (by decide) (fun j h => by simp [vy, Tm.ks] at h) (fun k h => by simp [vy, Tm.ks] at h)⟩
theorem q2_in {w : World} {B g : Nat} {op : Int} {k0 k1 : Tm} (h1 : fitB op = true) (h : Four w g 0 k0) (h' : Four w g 4 k1) (hk : TIn w B k0) (hk' : TIn w B k1) (hg : g < B) : TIn w B (q2 op g k0 k1) :=
  .mk _ h1 (by show fitB 0 = true; decide) (by show (0 : Nat) ≤ _; omega) (by show (2 : Nat) ≤ 2; omega) (by show (2 : Nat) ≤ maxLen; decide)
    (fun j hj => by
      have : j = 0 ∨ j = 1 := by simp [q2, Tm.ks] at hj; omega
      rcases this with rfl | rfl
      · exact ⟨g, 0, rfl, hg, h⟩
      · exact ⟨g, 0, rfl, hg, h'⟩)
    (fun q hq => by
      simp only [q2, Tm.ks, List.mem_cons, List.not_mem_nil, or_false] at hq
      rcases hq with rfl | rfl
      · exact hk
      · exact hk')
theorem q1_in {w : World} {B g : Nat} {op : Int} {k0 : Tm} (h1 : fitB op = true) (h : Four w g 0 k0) (hk : TIn w B k0) (hg : g < B) : TIn w B (q1 op g k0) :=
  .mk _ h1 (by show fitB 0 = true; decide) (by show (0 : Nat) ≤ _; omega) (by show (1 : Nat) ≤ 1; omega) (by show (1 : Nat) ≤ maxLen; decide)
    (fun j hj => by
      have : j = 0 := by simp [q1, Tm.ks] at hj; omega
      subst this
      exact ⟨g, 0, rfl, hg, h⟩)
    (fun q hq => by
      simp only [q1, Tm.ks, List.mem_singleton] at hq
      subst hq; exact hk)
def sLt (g : Nat) : Tm := q2 23 g vx vy
def sNot (g : Nat) : Tm := q1 18 (g + 1) (sLt g)
theorem s_not (g : Nat) : normE (sNot g) = 0 := by kernel_rfl
theorem s_nn (g : Nat) : nn (sNot g) false = leT vy.er vx.er := by kernel_rfl
theorem s_vx : normE vx = 3 := by kernel_rfl
theorem s_le (g : Nat) : (q2 22 g vy vx).er = leT vy.er vx.er := q2_er _ _ _ _
theorem s_lt (g : Nat) : isB (sLt g) = false := by kernel_rfl
theorem s_is {z : Tm} (h : z.er = leT vy.er vx.er) : isB z = true ∧ z.deep ≤ 100 := by
  refine ⟨?_, ?_⟩
  · rw [← isB_er, h]; kernel_rfl
  · rw [← er_deep, h]; decide +kernel
/-- what lies in memory while 'shown' runs -/
structure SN (X : Nat) (w : World) : Prop where
  x : Four w X 0 vx
  y : Four w (X + 1) 0 vy
  s : Shps w
theorem SN.later {X : Nat} {w w' : World} (h : SN X w) (hb : Below w.heap.size w w') : SN X w' := ⟨h.x.later hb, h.y.later hb, h.s.later hb⟩
def snW (w : World) : World :=
  (((w.alloc (.cells #[.int .i64 2, .string ⟨#[120]⟩, .int .i64 0, .slice none 0 0] 24)).alloc
    (.cells #[.int .i64 2, .string ⟨#[121]⟩, .int .i64 0, .slice none 0 0] 24)).alloc
    (.cells #[.int .i64 2, .string ⟨#[120]⟩, .int .i64 0, .slice none 0 0, .int .i64 2, .string ⟨#[121]⟩, .int .i64 0, .slice none 0 0] 24)).alloc
    (.cells #[.int .i64 23, .string ⟨#[]⟩, .int .i64 0, .slice (some ⟨w.heap.size + 1 + 1, 0, none⟩) 2 2] 24)
theorem snW_below (w : World) : Below w.heap.size w (snW w) := bal (bal (bal (bal (Below.refl _ _) _) _) _) _
theorem snW_sn (w : World) (hS : Shps w) : SN w.heap.size (snW w) ∧ TIn (snW w) (snW w).heap.size (sNot (w.heap.size + 1 + 1)) := by
  refine ⟨⟨?_, ?_, hS.later (snW_below w)⟩, ?_⟩
  · simp [Four, snW, vx, Tm.op, Tm.nm, Tm.n, Tm.a, Tm.ks, Tm.c, go_sem]
  · simp [Four, snW, vy, Tm.op, Tm.nm, Tm.n, Tm.a, Tm.ks, Tm.c, go_sem]
  · have f1 : Four (snW w) (w.heap.size + 1 + 1) 0 vx := by simp [Four, snW, vx, Tm.op, Tm.nm, Tm.n, Tm.a, Tm.ks, Tm.c, go_sem]
    have f2 : Four (snW w) (w.heap.size + 1 + 1) 4 vy := by simp [Four, snW, vy, Tm.op, Tm.nm, Tm.n, Tm.a, Tm.ks, Tm.c, go_sem]
    have f3 : Four (snW w) (w.heap.size + 1 + 1 + 1) 0 (sLt (w.heap.size + 1 + 1)) := by simp [Four, snW, sLt, q2, Tm.op, Tm.nm, Tm.n, Tm.a, Tm.ks, Tm.c, go_sem]
    exact q1_in (by decide) f3 (q2_in (by decide) f1 f2 (v_in _ _).1 (v_in _ _).2 (World.block_lt_of_cell? _ _ f1.1)) (World.block_lt_of_cell? _ _ f3.1)
set_option maxRecDepth 100000 in
set_option maxHeartbeats 4000000 in
theorem shownN (w : World) (hS : Shps w) : Calls Tryd.prog 35 #[] w (RetBo true w) := by
  obtain ⟨S0, I0⟩ := snW_sn w hS
  have B0 := snW_below w
  have hW : snW w = snW w := rfl
  conv at hW => lhs; unfold snW
  have C1 := mkHid (norm_any (sNot (w.heap.size + 1 + 1)) (snW w) I0 S0.s)
  generalize snW w = W at *
  have X0 := mkHid S0
  obtain ⟨x0, x1, x2, x3⟩ := S0.x
  obtain ⟨y0, y1, y2, y3⟩ := S0.y
  simp only [sNot, q1, Tm.val, vx, vy, Tm.op, Tm.nm, Tm.n, Tm.a, Tm.ks, Tm.c, List.length_cons, List.length_nil, Nat.zero_add] at C1 x0 x1 x2 x3 y0 y1 y2 y3
  clear hS S0 I0
  go_enter Tryd.func35, Tryd.ntmps35
  go_wp2_with fail
  ((with_reducible refine C1.out.mono ?_)); rintro e w2 ⟨⟨z, rfl, zt, ze, -⟩, hb2⟩
  have HZE : Hid (z.er = leT vy.er vx.er) := (ze (s_not (w.heap.size + 1 + 1))).trans (s_nn _)
  have hne : normE (Tm.node 18 ⟨#[]⟩ 0 (some ⟨w.heap.size + 1 + 1 + 1, 0, none⟩) 1 [sLt (w.heap.size + 1 + 1)]) = 0 := s_not (w.heap.size + 1 + 1)
  rw [hne]
  clear hW C1 x0 x1 x2 x3 y0 y1 y2 y3 ze hne
  have b3 := bel_alloc w2 (boxT z)
  have F3 := box_four w2 z
  have hW3 : w2.alloc (.cells #[.int .i64 z.op, .string z.nm, .int .i64 z.n, .slice z.a z.ks.length z.c] 24) = w2.alloc (boxT z) := rfl
  have S3 := X0.out.later (bon hb2 b3)
  have C2 := mkHid (norm_any vx (w2.alloc (boxT z)) (v_in _ _).1 S3.s)
  have zt3 := mkHid (zt.later b3)
  unfold Tm.val
  generalize w2.alloc (boxT z) = W3 at *
  obtain ⟨x0, x1, x2, x3⟩ := S3.x
  simp only [Tm.val, vx, Tm.op, Tm.nm, Tm.n, Tm.a, Tm.ks, Tm.c, List.length_nil, Nat.zero_add] at C2 x0 x1 x2 x3
  have XS3 := mkHid S3
  have HF3 := mkHid F3
  clear S3 F3 zt X0
  go_wp2_with fail
  ((with_reducible refine C2.out.mono ?_)); rintro e w4 ⟨⟨u, rfl, ut, -, ue⟩, hb4⟩
  have hv : normE (Tm.node 2 ⟨#[120]⟩ 0 none 0 []) = 3 := s_vx
  obtain rfl := ue (by rw [hv]; decide)
  rw [hv]
  clear C2 ue ut hW3 x0 x1 x2 x3 hv
  have b5 := bel_alloc w4 (.cells #[.int .i64 0, .string ⟨#[]⟩, .int .i64 0, .slice none 0 0] 24)
  have hq0 : (q0 0).val = .agg #[.int .i64 0, .string ⟨#[]⟩, .int .i64 0, .slice none 0 0] := rfl
  rw [hq0]
  clear hq0
  have b6 := bel_alloc (w4.alloc (.cells #[.int .i64 0, .string ⟨#[]⟩, .int .i64 0, .slice none 0 0] 24)) (.cells #[.int .i64 2, .string ⟨#[121]⟩, .int .i64 0, .slice none 0 0, .int .i64 2, .string ⟨#[120]⟩, .int .i64 0, .slice none 0 0] 24)
  have F6 : Hid (Four ((w4.alloc (.cells #[.int .i64 0, .string ⟨#[]⟩, .int .i64 0, .slice none 0 0] 24)).alloc (.cells #[.int .i64 2, .string ⟨#[121]⟩, .int .i64 0, .slice none 0 0, .int .i64 2, .string ⟨#[120]⟩, .int .i64 0, .slice none 0 0] 24)) (w4.heap.size + 1) 0 vy ∧ Four ((w4.alloc (.cells #[.int .i64 0, .string ⟨#[]⟩, .int .i64 0, .slice none 0 0] 24)).alloc (.cells #[.int .i64 2, .string ⟨#[121]⟩, .int .i64 0, .slice none 0 0, .int .i64 2, .string ⟨#[120]⟩, .int .i64 0, .slice none 0 0] 24)) (w4.heap.size + 1) 4 vx) := by have h := build2 (w4.alloc (.cells #[.int .i64 0, .string ⟨#[]⟩, .int .i64 0, .slice none 0 0] 24)) vy vx; rw [World.size_alloc] at h; exact h
  have S5 := XS3.out.later (bon hb4 b5)
  obtain ⟨x0, x1, x2, x3⟩ := S5.x
  obtain ⟨y0, y1, y2, y3⟩ := S5.y
  obtain ⟨z0, z1, z2, z3⟩ := HF3.out.later (bon hb4 b5)
  simp only [vx, vy, Tm.op, Tm.nm, Tm.n, Tm.a, Tm.ks, Tm.c, List.length_nil, Nat.zero_add] at x0 x1 x2 x3 y0 y1 y2 y3
  simp only [Nat.zero_add] at z1 z2 z3
  have l1 := World.block_lt_of_cell? _ _ (XS3.out.later hb4).x.1
  have l2 := World.block_lt_of_cell? _ _ (XS3.out.later hb4).y.1
  have l3 := World.block_lt_of_cell? _ _ (HF3.out.later hb4).1
  simp only at l1 l2 l3
  have B56 := bon (bon hb4 b5) b6
  generalize hW6 : (w4.alloc (.cells #[.int .i64 0, .string ⟨#[]⟩, .int .i64 0, .slice none 0 0] 24)).alloc (.cells #[.int .i64 2, .string ⟨#[121]⟩, .int .i64 0, .slice none 0 0, .int .i64 2, .string ⟨#[120]⟩, .int .i64 0, .slice none 0 0] 24) = W6 at *
  have HI := s_is HZE.out
  have C3 : Hid (Calls Tryd.prog 24 #[.agg #[.int .i64 z.op, .string z.nm, .int .i64 z.n, .slice z.a z.ks.length z.c], .agg #[.int .i64 22, .string ⟨#[]⟩, .int .i64 0, .slice (some ⟨w4.heap.size + 1, 0, none⟩) 2 2]] W6 (RetBo true W6)) := mkHid (same_er (a := z) (b := q2 22 (w4.heap.size + 1) vy vx) (w := W6) (zt3.out.later B56) (q2_in (op := 22) (by decide) F6.out.1 F6.out.2 (v_in W6 _).2 (v_in W6 _).1 (World.block_lt_of_cell? _ _ F6.out.1.1)) (HZE.out.trans (s_le (w4.heap.size + 1)).symm) HI.2)
  have HI' := mkHid HI.1
  clear HI F6
  have XS5 := mkHid S5
  clear S5
  go_wp2_with fail
  ((with_reducible refine C3.out.mono ?_)); rintro e w7 ⟨rfl, hb7⟩
  have B7 := bon B56 hb7
  clear x0 x1 x2 x3 y0 y1 y2 y3 z0 z1 z2 z3 l1 l2 l3 hW6 C3
  obtain ⟨z0, z1, z2, z3⟩ := HF3.out.later B7
  simp only [Nat.zero_add] at z1 z2 z3
  have S7 := XS3.out.later B7
  have C4 := mkHid (is_any z w7 (zt3.out.later B7) S7.s)
  rw [HI'.out] at C4
  unfold Tm.val at C4
  have XS7 := mkHid S7
  clear S7 HI'
  go_wp2_with fail
  ((with_reducible refine C4.out.mono ?_)); rintro e w8 ⟨rfl, hb8⟩
  have B8 := bon B7 hb8
  clear z0 z1 z2 z3 C4
  have S8 := XS3.out.later B8
  obtain ⟨x0, x1, x2, x3⟩ := S8.x
  obtain ⟨y0, y1, y2, y3⟩ := S8.y
  simp only [vx, vy, Tm.op, Tm.nm, Tm.n, Tm.a, Tm.ks, Tm.c, List.length_nil, Nat.zero_add] at x0 x1 x2 x3 y0 y1 y2 y3
  have b9 := bel_alloc w8 (.cells #[.int .i64 2, .string ⟨#[120]⟩, .int .i64 0, .slice none 0 0, .int .i64 2, .string ⟨#[121]⟩, .int .i64 0, .slice none 0 0] 24)
  have F9 : Hid (Four (w8.alloc (.cells #[.int .i64 2, .string ⟨#[120]⟩, .int .i64 0, .slice none 0 0, .int .i64 2, .string ⟨#[121]⟩, .int .i64 0, .slice none 0 0] 24)) w8.heap.size 0 vx ∧ Four (w8.alloc (.cells #[.int .i64 2, .string ⟨#[120]⟩, .int .i64 0, .slice none 0 0, .int .i64 2, .string ⟨#[121]⟩, .int .i64 0, .slice none 0 0] 24)) w8.heap.size 4 vy) := build2 w8 vx vy
  generalize hW9 : w8.alloc (.cells #[.int .i64 2, .string ⟨#[120]⟩, .int .i64 0, .slice none 0 0, .int .i64 2, .string ⟨#[121]⟩, .int .i64 0, .slice none 0 0] 24) = W9 at *
  have C5 := mkHid (is_any (sLt w8.heap.size) W9 (q2_in (op := 23) (by decide) F9.out.1 F9.out.2 (v_in W9 _).1 (v_in W9 _).2 (World.block_lt_of_cell? _ _ F9.out.1.1)) (S8.s.later b9))
  rw [s_lt] at C5
  simp only [Tm.val, sLt, q2, Tm.op, Tm.nm, Tm.n, Tm.a, Tm.ks, Tm.c, List.length_cons, List.length_nil, Nat.zero_add, Nat.reduceAdd] at C5
  clear S8 F9
  go_wp2_with fail
  ((with_reducible refine C5.out.mono ?_)); rintro e w10 ⟨rfl, hb10⟩
  clear x0 x1 x2 x3 y0 y1 y2 y3 hW9 C5
  go_wp2
  go_ret
  exact ⟨rfl, bon (bon (bon (bon (bon B0 hb2) b3) B8) b9) hb10⟩
theorem normE_zero {t : Tm} (h : normE t = 0) : errR t = 0 ∧ t.srt = 4 ∧ errR (nn t false) = 0 := by
  unfold normE at h
  by_cases h1 : errR t = 0
  · rw [if_neg (by rw [h1]; decide)] at h
    by_cases h2 : t.srt = 4
    · rw [if_neg (by rw [h2]; decide)] at h
      by_cases h3 : errR (nn t false) = 0
      · exact ⟨h1, h2, h3⟩
      · rw [if_pos h3] at h; exact absurd h (by decide)
    · rw [if_pos h2] at h; exact absurd h (by decide)
  · rw [if_pos h1] at h; exact absurd h h1
theorem normE_is {t : Tm} (h1 : errR t = 0) (h2 : t.srt = 4) (h3 : errR (nn t false) = 0) : normE t = 0 := by
  unfold normE
  rw [if_neg (by rw [h1]; decide), if_neg (by rw [h2]; decide), if_neg (by rw [h3]; decide)]
theorem is_norm {t : Tm} (h : isB t = true) : normE t = 0 ∧ nn t false = t.er := by
  unfold isB at h
  simp only [Bool.and_eq_true, decide_eq_true_eq] at h
  have e := pl_nn t h.1.2 h.2
  exact ⟨normE_is h.1.1 h.1.2 (by rw [e, er_errR]; exact h.1.1), e⟩
theorem norm_facts {t z : Tm} (h : normE t = 0) (hz : z.er = nn t false) : isB z = true ∧ z.deep ≤ 100 ∧ normE z = 0 ∧ nn z false = z.er ∧ z.srt = 4 ∧ errR z = 0 := by
  obtain ⟨h1, h2, h3⟩ := normE_zero h
  have e1 : errR z = 0 := by rw [← er_errR, hz]; exact h3
  have e2 : z.srt = 4 := by rw [← er_srt, hz]; exact nn_srt t h2 false
  have e3 : nn z false = z.er := by
    rw [← nn_er, hz, nn_nn t h2]; rfl
  refine ⟨?_, (errR_zero e1).2.1, normE_is e1 e2 (by rw [e3, er_errR]; exact e1), e3, e2, e1⟩
  unfold isB
  rw [decide_eq_true e1, decide_eq_true e2, ← plB_er z, hz, nn_pl t h2]
  rfl
end Go.Proofs.YtlobffjgkhcjbaaDoor
