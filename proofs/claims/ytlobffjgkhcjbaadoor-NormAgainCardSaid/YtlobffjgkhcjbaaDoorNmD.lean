/-
  The contracts of norm's affirmed and denied.
-/
import Derived.Test.YtlobffjgkhcjbaaDoorNmC2
import Derived.Test.YtlobffjgkhcjbaaDoorNmC3
import Derived.Test.YtlobffjgkhcjbaaDoorNmC4
import Derived.Test.YtlobffjgkhcjbaaDoorNmM
namespace Go.Proofs.YtlobffjgkhcjbaaDoor
open Go.RowKit

/-- affirmed of t, or denied, answers what it becomes -/
def AffC (t : Tm) : Prop := ∀ w : World, TIn w w.heap.size t → Calls Tryd.prog 66 #[t.val] w (BecP (fun k => nn k false) t w)
def DenC (t : Tm) : Prop := ∀ w : World, TIn w w.heap.size t → Calls Tryd.prog 89 #[t.val] w (BecP (fun k => nn k true) t w)
theorem den_le {x : Tm} (ho : x.op = 22) : DenC x := fun w h =>
  den22 _ x ho (F0 := fun k => nn k false) (fun w' h' => aff22 _ x ho (by show nn x false = _; rw [nn22 ho]; rfl) w' h') (by show nn x true = mkT 18 [nn x false]; rw [nn22 ho, nn22 ho]; rfl) w h
theorem er_ops {x : Tm} {op : Int} {l : List Tm} (h : x.er = mkT op l) : x.op = op ∧ x.ks.map Tm.er = l := by
  rw [er_eq] at h
  have h1 := congrArg Tm.op h
  have h2 := congrArg Tm.ks h
  exact ⟨h1, h2⟩
/-- denied of an And of two Les -/
theorem den_and2 {x u v : Tm} (h : x.er = mkT 19 [u, v]) (hu : u.op = 22) (hv : v.op = 22) : DenC x := by
  obtain ⟨ho, hk⟩ := er_ops h
  have hl : x.ks.length = 2 := by have := congrArg List.length hk; simpa using this
  refine fun w hin => den19 _ x ho (F0 := fun k => nn k true) (by omega) (fun k hk' => den_le ?_) (by show nn x true = _; rw [nn19 ho]; rfl) w hin
  have hm : k.er ∈ [u, v] := by rw [← hk]; exact List.mem_map.2 ⟨k, hk', rfl⟩
  have e := (er_op k).1
  simp only [List.mem_cons, List.not_mem_nil, or_false] at hm
  rcases hm with e' | e'
  · rw [← e, e']; exact hu
  · rw [← e, e']; exact hv
theorem both_any : ∀ t : Tm, t.srt = 4 → t.size ≤ 2000 → AffC t ∧ DenC t := by
  refine bool_ind ?_ ?_ ?_ ?_ ?_ ?_ ?_ ?_ ?_ ?_ ?_ ?_ ?_ ?_
  · intro t _ ho _ _
    have A : AffC t := fun w h => aff15 _ t ho (by show nn t false = _; rw [nn15 ho]; rfl) w h
    exact ⟨A, fun w h => den15 _ t ho A (by show nn t true = mkT 18 [nn t false]; rw [nn15 ho, nn15 ho]; rfl) w h⟩
  · intro t _ ho _ _ _
    exact ⟨fun w h => aff16 _ t ho (by show nn t false = _; rw [nn16 ho]; rfl) w h, fun w h => den16 _ t ho (by show nn t true = _; rw [nn16 ho]; rfl) w h⟩
  · intro t _ ho _ _ _
    exact ⟨fun w h => aff17 _ t ho (by show nn t false = _; rw [nn17 ho]; rfl) w h, fun w h => den17 _ t ho (by show nn t true = _; rw [nn17 ho]; rfl) w h⟩
  · intro t u _ ho hk _ _ ih hz
    have hu := ih (Nat.le_trans (size_kid (t := t) (by rw [hk]; exact List.mem_cons_self ..)) hz)
    exact ⟨fun w h => aff18 _ t u ho hk hu.2 (by show nn t false = _; rw [nn18 ho hk]; rfl) w h, fun w h => den18 _ t u ho hk hu.1 (by show nn t true = _; rw [nn18 ho hk]; rfl) w h⟩
  · intro t _ ho _ _ ih hz
    have hk := fun k hk => ih k hk (Nat.le_trans (size_kid hk) hz)
    exact ⟨fun w h => aff19 _ t ho (len_kids hz) (fun k h' => (hk k h').1) (by show nn t false = _; rw [nn19 ho]; rfl) w h, fun w h => den19 _ t ho (len_kids hz) (fun k h' => (hk k h').2) (by show nn t true = _; rw [nn19 ho]; rfl) w h⟩
  · intro t _ ho _ _ ih hz
    have hk := fun k hk => ih k hk (Nat.le_trans (size_kid hk) hz)
    exact ⟨fun w h => aff20 _ t ho (len_kids hz) (fun k h' => (hk k h').1) (by show nn t false = _; rw [nn20 ho]; rfl) w h, fun w h => den20 _ t ho (len_kids hz) (fun k h' => (hk k h').2) (by show nn t true = _; rw [nn20 ho]; rfl) w h⟩
  · intro t u v _ ho hk _ _ _ ihu ihv hz
    have hu := ihu (Nat.le_trans (size_kid (t := t) (by rw [hk]; simp)) hz)
    have hv := ihv (Nat.le_trans (size_kid (t := t) (by rw [hk]; simp)) hz)
    exact ⟨fun w h => aff21 _ t u v ho hk hu.2 hv.1 (by show nn t false = _; rw [nn21 ho hk]; rfl) w h, fun w h => den21 _ t u v ho hk hu.1 hv.2 (by show nn t true = _; rw [nn21 ho hk]; rfl) w h⟩
  · intro t u v _ ho _ _ _ _ _
    exact ⟨fun w h => aff22 _ t ho (by show nn t false = _; rw [nn22 ho]; rfl) w h, den_le ho⟩
  · intro t u v _ ho hk _ _ _
    exact ⟨fun w h => aff23 _ t u v ho hk (by show nn t false = _; rw [nn23 ho hk]; rfl) w h, fun w h => den23 _ t u v ho hk (by show nn t true = _; rw [nn23 ho hk]; rfl) w h⟩
  · intro t u v _ ho hk _ _ _
    have A : AffC t := fun w h => aff24 _ t u v ho hk (by show nn t false = _; rw [nn24 ho hk]; rfl) w h
    have e : nn t false = mkT 19 [leT u.er v.er, leT v.er u.er] := by rw [nn24 ho hk]; rfl
    exact ⟨A, fun w h => den24 _ t ho A (F1 := fun k => nn k true) (fun x hx => den_and2 (hx.trans e) rfl rfl) (fun x hx => by
      show nn x true = nn t true
      rw [← nn_er x, hx]
      show nn (nn t false) true = _
      rw [e, nn24 ho hk, nn_and]
      simp [nn_le, er_er]) w h⟩
  · intro t u v _ ho hk _ _ _
    have A : AffC t := fun w h => aff25 _ t u v ho hk (by show nn t false = _; rw [nn25 ho hk]; rfl) w h
    exact ⟨A, fun w h => den25 _ t ho A (by show nn t true = mkT 18 [nn t false]; rw [nn25 ho hk, nn25 ho hk]; rfl) w h⟩
  · intro t u v _ ho hk _ _ _
    have A : AffC t := fun w h => aff26 _ t u v ho hk (by show nn t false = _; rw [nn26 ho hk]; rfl) w h
    exact ⟨A, fun w h => den26 _ t ho A (by show nn t true = mkT 18 [nn t false]; rw [nn26 ho hk, nn26 ho hk]; rfl) w h⟩
  · intro t u v _ ho hk _ _ _
    have A : AffC t := fun w h => aff27 _ t u v ho hk (by show nn t false = _; rw [nn27 ho hk]; rfl) w h
    have e : nn t false = mkT 19 [insT u.er v.er, insT v.er u.er] := by rw [nn27 ho hk]; rfl
    exact ⟨A, fun w h => den27 _ t ho A (F1 := fun k => nn k true) (fun x hx => den_and2 (hx.trans e) rfl rfl) (fun x hx => by
      show nn x true = nn t true
      rw [← nn_er x, hx]
      show nn (nn t false) true = _
      rw [e, nn27 ho hk, nn_and]
      simp [nn_ins, er_er]) w h⟩
  · intro t u v _ ho hk _ _ _
    have A : AffC t := fun w h => aff28 _ t u v ho hk (by show nn t false = _; rw [nn28 ho hk]; rfl) w h
    exact ⟨A, fun w h => den28 _ t ho A (by show nn t true = mkT 18 [nn t false]; rw [nn28 ho hk, nn28 ho hk]; rfl) w h⟩
end Go.Proofs.YtlobffjgkhcjbaaDoor
