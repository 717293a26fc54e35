/-
  What 'Names' answers of a term that is not right, or has one name at most.
-/
import Derived.Test.YtaibmdikimpooaaDoorTmK
namespace Go.Proofs.YtaibmdikimpooaaDoor
open Go.RowKit

theorem notRow_alloc {w : World} {k : Nat} (h : NotRow w k) (hk : k < w.heap.size) (o : Obj) : NotRow (w.alloc o) k := h.of_eq (Below.heap_alloc _ _ _ hk)
theorem notRow_new (w : World) (cs : Array Value) (t : TypeId) (ht : t ≠ 38) : NotRow (w.alloc (.cells cs t)) w.heap.size := by
  intro cur fz
  show (w.heap.push (.cells cs t))[w.heap.size]? ≠ _
  simp [ht]
/-- the world in which the closure of Names is called first; w2: behind Sort -/
def namW (w2 : World) : World :=
  ((w2.alloc (.cells #[.slice none 0 0] 31)).alloc (.cells #[.nilFunc] 45)).setCell ⟨w2.heap.size + 1, 0, none⟩ (gthF w2.heap.size (w2.heap.size + 1))
theorem namW_facts (w2 : World) : Below w2.heap.size w2 (namW w2) ∧ Single (namW w2) w2.heap.size (.slice none 0 0) ∧ (namW w2).cell? ⟨w2.heap.size + 1, 0, none⟩ = some (gthF w2.heap.size (w2.heap.size + 1)) ∧ NotRow (namW w2) w2.heap.size ∧ NotRow (namW w2) (w2.heap.size + 1) := by
  refine ⟨?_, ?_, ?_, ?_, ?_⟩
  · exact bset (bal (bal (Below.refl _ _) _) _) (by simp) _
  · simp [namW, Single, go_sem]
  · simp [namW, go_sem]
  · exact notRow_set (notRow_alloc (notRow_new _ _ _ (by decide)) (by simp) _) _ _
  · have := notRow_new (w2.alloc (.cells #[.slice none 0 0] 31)) #[.nilFunc] 45 (by decide)
    rw [World.size_alloc] at this
    exact notRow_set this _ _

set_option maxRecDepth 100000 in
set_option maxHeartbeats 2000000 in
theorem names_wrong (t : Tm) (w : World) (hin : TIn w w.heap.size t) (hS : Shps w) (he : errR t ≠ 0) :
    Calls Tryd.prog 14 #[t.val] w fun e w' => e = .returned (.slice none 0 0) ∧ Below w.heap.size w w' := by
  have hb1 := bel_alloc w (boxT t)
  have f4 := box_four w t
  have ST := mkHid (sort_any t _ (hin.later hb1) (hS.later hb1))
  have hW : w.alloc (.cells #[.int .i64 t.op, .string t.nm, .int .i64 t.n, .slice t.a t.ks.length t.c] 24) = w.alloc (boxT t) := rfl
  have hne : ((errR t : Int) != 0) = true := by rw [bne_iff_ne]; omega
  unfold Tm.val at *
  generalize w.alloc (boxT t) = W at *
  obtain ⟨a0, a1, a2, a3⟩ := f4
  simp only [Nat.zero_add] at a1 a2 a3
  generalize errR t = er at *
  clear he
  go_enter Tryd.func14, Tryd.ntmps14
  go_wp2_with fail
  ((with_reducible refine ST.out.mono ?_)); rintro e w2 ⟨rfl, hb2⟩
  go_wp2
  go_ret
  exact ⟨rfl, bon hb1 hb2⟩

theorem errR_zero {t : Tm} (h : errR t = 0) : t.size ≤ 2000 ∧ t.deep ≤ 100 ∧ t.srt ≠ 0 ∧ srtR t = t.srt := by
  unfold errR at h
  split at h
  · cases h
  · rename_i hf
    split at h
    · cases h
    · rename_i hs
      have : fullB t = false := by simpa using hf
      refine ⟨?_, ?_, hs, ?_⟩
      · simp [fullB] at this; omega
      · simp [fullB] at this; omega
      · unfold srtR; rw [this]; rfl

theorem own_slice {w : World} {base e size n : Nat} {v : Value} {xs : List Value} (h : w.ownsRow base e size v n xs) : ∃ A c, v = .slice A n c := by
  rcases h.2 with ⟨rfl, rfl⟩ | ⟨g, cap, cur, e, -⟩
  · exact ⟨none, 0, rfl⟩
  · exact ⟨_, _, e⟩
set_option maxRecDepth 100000 in
set_option maxHeartbeats 4000000 in
theorem names_few (t : Tm) (w : World) (hin : TIn w w.heap.size t) (hS : Shps w) (he : errR t = 0) (hv : t.vars.length ≤ 1) :
    Calls Tryd.prog 14 #[t.val] w fun e w' => (∃ v, e = .returned v ∧ w'.ownsRow w.heap.size 38 5 v t.vars.length (asgs t.vars)) ∧ Below w.heap.size w w' := by
  have hmf : ∀ (fn : Fn) (first cap : Array Value) (w : World), (Instr.makeFunc fn first cap).run Tryd.prog w = .ok (.func fn first cap) w := fun _ _ _ _ => rfl
  obtain ⟨hz, hd, hs0, hsr⟩ := errR_zero he
  have hb1 := bel_alloc w (boxT t)
  have f4 := box_four w t
  have ST := mkHid (sort_any t _ (hin.later hb1) (hS.later hb1))
  rw [he] at ST
  have hg0 : 0 < w.heap.size := World.block_lt_of_cell? _ _ (hS 0 (by omega)).1
  have hW : w.alloc (.cells #[.int .i64 t.op, .string t.nm, .int .i64 t.n, .slice t.a t.ks.length t.c] 24) = w.alloc (boxT t) := rfl
  have HIN := mkHid hin
  have HS := mkHid hS
  have HF := mkHid f4
  have hX1 : w.heap.size < (w.alloc (boxT t)).heap.size := by simp
  have HG := mkHid (fun B base nb fb v W => gather_any t B base nb fb [] v W)
  have TS := mkHid (fun A c g w => sort_tiny A t.vars.length c g hv w)
  have TC := mkHid (fun A c g w => compact_tiny A t.vars.length c g hv w)
  generalize hx : srtR t = sr at *
  generalize w.alloc (boxT t) = W at *
  have hval : t.val = .agg #[.int .i64 t.op, .string t.nm, .int .i64 t.n, .slice t.a t.ks.length t.c] := rfl
  have HVL := mkHid hval
  rw [hval]
  clear hval hx hin hS hd he
  obtain ⟨a0, a1, a2, a3⟩ := f4
  simp only [Nat.zero_add] at a1 a2 a3
  unfold Tm.val at ST
  go_enter Tryd.func14, Tryd.ntmps14
  go_wp2_with fail
  ((with_reducible refine ST.out.mono ?_)); rintro e w2 ⟨rfl, hb2⟩
  have B2 := bon hb1 hb2
  have f5 := HF.out.later hb2
  obtain ⟨n1, n2, n3, n4, n5⟩ := namW_facts w2
  have f6 := f5.later n1
  have B3 := bon B2 n1
  have G := mkHid (HG.out w.heap.size w.heap.size w2.heap.size (w2.heap.size + 1) (.slice none 0 0) (namW w2) (HIN.out.keep B3) (HS.out.later B3) hg0 hs0 B2.size (by have := B2.size; omega) (by omega) (Nat.le_refl _) n4 n5 B3.size n2 (World.ownsRow_nil _ _ _ _) n3 (by simp; omega))
  rw [List.nil_append, HVL.out] at G
  have hW2 : ((w2.alloc (.cells #[.slice none 0 0] 31)).alloc (.cells #[.nilFunc] 45)).setCell ⟨w2.heap.size + 1, 0, none⟩ (.func (.func 35) #[] #[.pointer (some ⟨w2.heap.size, 0, none⟩), .pointer (some ⟨w2.heap.size + 1, 0, none⟩)]) = namW w2 := rfl
  clear a0 a1 a2 a3 hW HF f5 HG ST HIN HS hs0 hg0 hz hsr
  unfold gthF at n3
  obtain ⟨m0, m1⟩ := n2
  obtain ⟨a0, a1, a2, a3⟩ := f6
  simp only [Nat.zero_add] at a1 a2 a3
  generalize namW w2 = W2 at *
  have hY : w.heap.size ≤ w2.heap.size := B2.size
  have n6 : Hid (Below w.heap.size w W2) := B3
  clear B3 B2 hb1 hb2 n1 n4 n5 m1
  go_wp2_with fail
  ((with_reducible refine G.out.mono ?_)); rintro e w3 ⟨rfl, ⟨gt3, -⟩, ⟨v3, ⟨s3, s4⟩, ov⟩⟩
  have B4 := n6.out.trans (gt3.below (B := w.heap.size) hY n6.out.size)
  obtain ⟨A, c, rfl⟩ := own_slice ov
  clear a0 a1 a2 a3 n3 m0 hW2 G gt3 s4 hmf HVL n6
  go_wp2_with (first
    | (go_at_call 36; refine (TS.out _ _ _ _).mono ?_; rintro e w4 ⟨rfl, rfl⟩)
    | (go_at_call 38; refine (TC.out _ _ _ _).mono ?_; rintro e w5 ⟨rfl, rfl⟩))
  go_ret
  exact ⟨⟨_, rfl, ov⟩, B4⟩
end Go.Proofs.YtaibmdikimpooaaDoor
