/-
  What 'Free' of package subst answers: is a name among those of a right term?
-/
import Derived.Test.YtaibmdikimpooaaDoorTmR
import Derived.Test.YtaibmdikimpooaaDoorSbR
namespace Go.Proofs.YtaibmdikimpooaaDoor
open Go.RowKit Go.Shelf

def freeB (t : Tm) (nm : ByteArray) : Bool := decide (errR t = 0) && t.vars.any (fun x => x.1.toList == nm.toList)
/-- Names, of any term: all of them, or none -/
theorem names_free (t : Tm) (nm : ByteArray) (w : World) (hin : TIn w w.heap.size t) (hS : Shps w) :
    Calls Tryd.prog 14 #[t.val] w fun e w' => (∃ (L : List Nm) (v : Value), e = .returned v ∧ w'.ownsRow w.heap.size 38 5 v L.length (asgs L) ∧ L.any (fun x => x.1.toList == nm.toList) = freeB t nm) ∧ Below w.heap.size w w' := by
  by_cases he : errR t = 0
  · refine (names_any t w hin hS he).mono ?_
    rintro e w' ⟨⟨L, v, h1, h2, h3⟩, hb⟩
    refine ⟨⟨L, v, h1, h2, ?_⟩, hb⟩
    unfold freeB
    rw [decide_eq_true he, Bool.true_and, Bool.eq_iff_iff, List.any_eq_true, List.any_eq_true]
    constructor
    · rintro ⟨x, hx, hp⟩; exact ⟨x, (h3.2 x).1 hx, hp⟩
    · rintro ⟨x, hx, hp⟩; exact ⟨x, (h3.2 x).2 hx, hp⟩
  · refine (names_wrong t w hin hS he).mono ?_
    rintro e w' ⟨h1, hb⟩
    refine ⟨⟨[], _, h1, World.ownsRow_nil _ _ _ _, ?_⟩, hb⟩
    unfold freeB
    rw [decide_eq_false he]; rfl
set_option maxRecDepth 100000 in
set_option maxHeartbeats 4000000 in
theorem free_any (t : Tm) (nm : ByteArray) (w : World) (ht : TIn w w.heap.size t) (hS : Shps w) :
    Calls Tryd.prog 24 #[t.val, .string nm] w (RetB (freeB t nm) w) := by
  have B0 := bel_alloc w (boxT t)
  have F0 := box_four w t
  have NA := mkHid (names_free t nm _ (ht.later B0) (hS.later B0))
  have hW : w.alloc (.cells #[.int .i64 t.op, .string t.nm, .int .i64 t.n, .slice t.a t.ks.length t.c] 24) = w.alloc (boxT t) := rfl
  generalize freeB t nm = fr at *
  generalize w.alloc (boxT t) = W1 at *
  unfold Tm.val at NA ⊢
  clear ht hS
  obtain ⟨u0, u1, u2, u3⟩ := F0
  simp only [Nat.zero_add] at u1 u2 u3
  go_enter Tryd.func24, Tryd.ntmps24
  go_wp2_with fail
  ((with_reducible refine NA.out.mono ?_)); rintro e w4 ⟨⟨L, v, rfl, own, hfr⟩, hb4⟩
  have B4 := bon B0 hb4
  clear u0 u1 u2 u3 NA hW B0 hb4
  obtain ⟨A, c, rfl⟩ := own_slice own
  have HOWN := mkHid own
  have HFR := mkHid hfr
  have hlen : L.length ≤ 9223372036854775807 := by
    rcases own.2 with ⟨-, h0⟩ | ⟨g, cap, cur, -, -, -, hc, hm, -⟩
    · omega
    · unfold maxLen at hm; omega
  clear own hfr
  generalize hn' : L.length = m at *
  have HN := mkHid hn'
  clear hn'
  go_wp2
  go_loopw [10] (fun i w' => ∃ (k : Nat) (x : Int), i = .int .i64 x ∧ x = k ∧ k ≤ m ∧ Below w4.heap.size w4 w' ∧ Hid (∀ j, j < k → ((L.getD j noNm).1.toList == nm.toList) = false)) (fun i _ => (m - intOf i).toNat)
  case atStart => exact ⟨0, 0, rfl, rfl, Nat.zero_le _, Below.refl _ _, fun j hj => by omega⟩
  case round =>
    obtain ⟨k, x, rfl, hxk, hk, hb, hne⟩ := hrel
    obtain rfl : x = (k : Int) := hxk
    have BR := bon B4 hb
    by_cases hlt : k < m
    · have own := own_later HOWN.out hb
      obtain ⟨g, c', e⟩ := own_some own (by omega)
      simp only [Value.slice.injEq, true_and] at e
      obtain ⟨rfl, rfl⟩ := e
      obtain ⟨y0, y1, y2, y3, y4⟩ := own_five own HN.out k hlt
      have HK : Hid (((L.getD k noNm).1.toList == nm.toList) = false → ∀ j, j < k + 1 → ((L.getD j noNm).1.toList == nm.toList) = false) := fun h j hj => by
        by_cases e : j = k
        · rw [e]; exact h
        · exact hne.out j (by omega)
      have HT : Hid (((L.getD k noNm).1.toList == nm.toList) = true → fr = true) := fun h => by
        rw [← HFR.out, List.any_eq_true]
        exact ⟨L.getD k noNm, (mem_getD L _).2 ⟨k, by rw [HN.out]; exact hlt, rfl⟩, h⟩
      clear own hne
      generalize L.getD k noNm = cur at *
      obtain ⟨cn, co⟩ := cur
      simp only at y0 y1 y2 y3 y4 HK HT
      cases h2 : (cn.toList == nm.toList)
      · go_wp2
        go_roundw
        case rel => exact ⟨k + 1, _, rfl, by omega, by omega, bal hb _, HK.out h2⟩
        case measure => simp [intOf]; omega
      · have hT := HT.out h2
        subst hT
        go_wp2
        go_ret
        exact ⟨rfl, bal BR _⟩
    · obtain rfl : k = m := by omega
      have hF : fr = false := by
        rw [← HFR.out, List.any_eq_false]
        intro x hx
        obtain ⟨j, hj, rfl⟩ := (mem_getD L x).1 hx
        rw [hne.out j (by rw [← HN.out]; exact hj)]; decide
      subst hF
      clear hne
      go_wp2
      go_ret
      exact ⟨rfl, BR⟩
end Go.Proofs.YtaibmdikimpooaaDoor
