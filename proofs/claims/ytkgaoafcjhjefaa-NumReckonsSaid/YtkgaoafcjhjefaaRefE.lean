/-
  What 'Of' does: the digits of a number.
-/
import Derived.Test.YtkgaoafcjhjefaaRefC
namespace Go.Proofs.Ytkgaoafcjhjefaa
open Go.RowKit Go.Shelf

theorem Two.keep {w w' : World} {b B : Nat} {x y : Value} (h : Two w b x y) (hb : Below B w w') (hlt : b < B) : Two w' b x y := by
  have e := hb.block b hlt
  obtain ⟨h0, h1, f0, f1⟩ := h
  refine ⟨?_, ?_, ?_, ?_⟩
  · rw [hb.cell hlt]; exact h0
  · rw [hb.cell hlt]; exact h1
  · rw [← f0]; simp [World.frozen?, e]
  · rw [← f1]; simp [World.frozen?, e]
theorem own_slice {w : World} {base e n : Nat} {v : Value} {xs : List Value} (h : w.ownsRow base e 1 v n xs) : ∃ A c, v = .slice A n c := by
  rcases h.2 with ⟨rfl, rfl⟩ | ⟨g, cap, cur, rfl, _⟩
  · exact ⟨_, _, rfl⟩
  · exact ⟨_, _, rfl⟩
theorem own_far {w : World} {base e n : Nat} {v : Value} {xs : List Value} (h : w.ownsRow base e 1 v n xs) {p : Addr} (hp : p.block < base) (u : Value) : (w.setCell p u).ownsRow base e 1 v n xs := by
  refine ⟨h.1, ?_⟩
  rcases h.2 with h0 | ⟨g, cap, cur, hv, hb, hg, rest⟩
  · exact Or.inl h0
  · exact Or.inr ⟨g, cap, cur, hv, hb, (Below.heap_setCell w p u g (by omega)).trans hg, rest⟩
theorem two_set1 {w : World} {b : Nat} {x y : Value} (h : Two w b x y) (u : Value) : Two (w.setCell ⟨b, 1, none⟩ u) b x u := by
  obtain ⟨h0, h1, f0, f1⟩ := h
  simp [Two, go_sem, h0, h1, f0, f1]
theorem two_far {w : World} {b c : Nat} {x y : Value} (h : Two w b x y) (hne : b ≠ c) (i : Nat) (u : Value) : Two (w.setCell ⟨c, i, none⟩ u) b x y := by
  have e := Below.heap_setCell w ⟨c, i, none⟩ u b hne
  obtain ⟨h0, h1, f0, f1⟩ := h
  refine ⟨?_, ?_, ?_, ?_⟩
  · rw [World.cell?_of_block (w := w) e]; exact h0
  · rw [World.cell?_of_block (w := w) e]; exact h1
  · rw [← f0]; simp [World.frozen?, e]
  · rw [← f1]; simp [World.frozen?, e]
def OfInv (z : Int) (ds : List Int) (x : Int) : Prop :=
  Digs ds ∧ (z.natAbs : Int) = valD ds + 10 ^ ds.length * x.natAbs ∧ (x ≠ 0 ∨ Top ds)
theorem OfInv.step {z x e : Int} {ds : List Int} (h : OfInv z ds x) (hx : x ≠ 0) (he : e = (x.tmod 10).natAbs) : OfInv z (ds ++ [e]) (x.tdiv 10) := by
  obtain ⟨h1, h2, _⟩ := h
  have e1 : (x.tmod 10).natAbs = x.natAbs % 10 := by rw [Int.natAbs_tmod]; rfl
  have e2 : (x.tdiv 10).natAbs = x.natAbs / 10 := by rw [Int.natAbs_tdiv]; rfl
  rw [e1] at he
  refine ⟨h1.append (by omega) (by omega), ?_, ?_⟩
  · rw [valD_append, h2, e2, he]
    simp only [List.length_append, List.length_singleton, Int.pow_succ]
    have : (x.natAbs : Int) = (x.natAbs % 10 : Nat) + 10 * (x.natAbs / 10 : Nat) := by omega
    generalize ((x.natAbs % 10 : Nat) : Int) = p at *
    generalize ((x.natAbs / 10 : Nat) : Int) = q at *
    rw [this]; grind
  · by_cases h0 : x.tdiv 10 = 0
    · right; right
      have : x.natAbs / 10 = 0 := by rw [← e2, h0]; rfl
      simp; omega
    · exact Or.inl h0
theorem OfInv.len {z x : Int} {ds : List Int} (h : OfInv z ds x) (hx : x ≠ 0) (hz : Small z) : ds.length < 60 := by
  obtain ⟨h1, h2, _⟩ := h
  have h3 := h1.nonneg
  unfold Small at hz
  have h4 : (10 : Int) ^ ds.length * 1 ≤ 10 ^ ds.length * x.natAbs := Int.mul_le_mul_of_nonneg_left (by omega) (Int.pow_nonneg (by decide))
  have h5 : (10 : Int) ^ ds.length ≤ (z.natAbs : Int) := by omega
  have h6 : (10 : Nat) ^ ds.length ≤ z.natAbs := by exact_mod_cast h5
  exact (Nat.pow_lt_pow_iff_right (by decide : 1 < 10)).1 (Nat.lt_of_le_of_lt h6 hz)
theorem small_fit {z : Int} (h : fitB z = true) : Small z := by
  rw [fitB_iff] at h
  unfold Small
  have : (10 : Nat) ^ 20 ≤ 10 ^ 60 := Nat.pow_le_pow_right (by decide) (by decide)
  have : z.natAbs < 10 ^ 20 := by
    have : (10 : Nat) ^ 20 = 100000000000000000000 := by decide
    omega
  omega

theorem num_of {w : World} {base e c : Nat} {A : Option Addr} {ds : List Int} {z : Int} (h : w.ownsRow base e 1 (.slice A ds.length c) ds.length (ds.map (Value.int .i64))) (hI : OfInv z ds 0) :
    Num w (.agg #[.bool (decide (z < 0)), .slice A ds.length c]) z := by
  obtain ⟨A', c', e1, e2, e3⟩ := RowV.of_own h
  injection e1 with a1 a2 a3
  subst a1 a3
  obtain ⟨h1, h2, h3⟩ := hI
  exact ⟨A, c, ds, rfl, e2, e3, h1, h3.resolve_left (by simp), by rw [h2]; simp⟩

set_option maxHeartbeats 2000000 in
set_option maxRecDepth 100000 in
theorem r_of (z : Int) (w : World) (hz : fitB z = true) :
    Calls Try.prog 15 #[.int .i64 z] w fun e w' => (∃ v, e = .returned v ∧ Num w' v z) ∧ Below w.heap.size w w' := by
  obtain ⟨i0, hi0, hz0, hz1, hz2⟩ := info_parts int_info
  have hsm := mkHid (small_fit hz)
  obtain ⟨z1, z2⟩ := (fitB_iff z).1 hz
  have start : OfInv z [] z := ⟨fun d h => by simp at h, by simp [valD], by by_cases h : z = 0; (exact Or.inr (Or.inl rfl)); exact Or.inl h⟩
  generalize hs : decide (z < 0) = s
  clear hz
  go_enter Try.func15, Try.ntmps15
  go_wp2_with fail
  go_loopw [0] (fun m w' => ∃ (x : Int) (ds : List Int) (A : Option Addr) (c : Nat), m = .int .i64 x ∧ -9223372036854775808 ≤ x ∧ x ≤ 9223372036854775807 ∧ OfInv z ds x ∧
    w'.ownsRow (w.heap.size + 2) 3 1 (.slice A ds.length c) ds.length (ds.map (Value.int .i64)) ∧ Two w' (w.heap.size + 1) (.bool s) (.slice A ds.length c) ∧ Two w' w.heap.size (.bool false) (.slice none 0 0) ∧
    w.heap.size + 2 ≤ w'.heap.size ∧ Below w.heap.size w w') (fun m _ => (intOf m).natAbs)
  case atStart => exact ⟨z, [], none, 0, rfl, z1, z2, start, World.ownsRow_nil _ _ _ _, by simp [Two, go_sem], by simp [Two, go_sem], by simp, bal (bal (Below.refl _ _) _) _⟩
  case round =>
    obtain ⟨x, ds, A, c, rfl, x1, x2, hI, hown, tb, tr, hsz, hb⟩ := hrel
    clear start
    by_cases hx : x = 0
    · subst hx
      have hN := num_of hown hI
      rw [hs] at hN
      have x0 := tb.1
      have x1 := tb.2.1
      have r0 := tr.1
      have r1 := tr.2.1
      have p0 := tr.2.2.1
      have p1 := tr.2.2.2
      generalize ds.length = n at *
      clear hI hown
      go_wp2
      refine bodyPost_ret (v := .agg #[.bool s, .slice A n c]) (by simp [results, Try.results15, go_sem, r0, r1]) rfl ⟨⟨_, rfl, hN.set r0 _ _⟩, ?_⟩
      exact bset (bset hb (Nat.le_refl _) _) (Nat.le_refl _) _
    · have hlen := hI.len hx hsm.out
      have hx' : (x == 0) = false := by simpa using hx
      have hdd : (x.tdiv 10).natAbs = x.natAbs / 10 := by rw [Int.natAbs_tdiv]; rfl
      have hmd : (x.tmod 10).natAbs = x.natAbs % 10 := by rw [Int.natAbs_tmod]; rfl
      have q1 : -9223372036854775808 ≤ x.tdiv 10 := by omega
      have q2 : x.tdiv 10 ≤ 9223372036854775807 := by omega
      have hmes : (x.tdiv 10).natAbs < x.natAbs := by omega
      have hst := fun e => hI.step (e := e) hx
      generalize hy : x.tdiv 10 = y at *
      generalize ht : x.tmod 10 = t at *
      have t1 : -9 ≤ t ∧ t ≤ 9 := by omega
      have x0 := tb.1
      have x1 := tb.2.1
      have x2 := tb.2.2.1
      have x3 := tb.2.2.2
      by_cases hneg : t < 0
      · have hS := hst (-t) (by omega)
        have elen : (ds ++ [-t]).length = ds.length + 1 := by simp
        clear hst hI hmd hdd
        go_wp2_with (at_builtin
                     refine wpList_append_own _ rfl (.tmp 17) (.tmp 19) _ rfl (w.heap.size + 2) 3 i0 _ 1 8 Try.underlying23 hi0 hz0 hz1 hz2 rfl (by omega) (.slice A ds.length c) ds.length (ds.map (Value.int .i64)) rfl (World.ownsRow.alloc hown _) ⟨wr.heap.size, 0, none⟩ 1 1 [.int .i64 (-t)] rfl rfl (cells_one _ _ _) (ints_oneCell .i64 [-t]) (by simp only [maxLen]; omega) (by omega) (by simp; omega) ?_
                     intro v1 w1 hown1 hg1 hv1
                     obtain ⟨A1, c1, rfl⟩ := own_slice hown1
                     have hbb : Below (w.heap.size + 2) wr w1 := Below.grown ((Below.refl _ _).alloc hsz _) hg1 (by simp; omega) (fun j hj => (hown.lt j hj).1)
                     have tb1 := tb.keep hbb (by omega)
                     have tr1 := tr.keep hbb (by omega)
                     have hz9 := hbb.size
                     have g0 := tb1.1
                     have g1 := tb1.2.1
                     have g2 := tb1.2.2.1
                     have g3 := tb1.2.2.2)
        go_roundw
        case rel => exact ⟨_, ds ++ [-t], A1, c1, by simp, q1, q2, hS, by rw [elen, List.map_append]; exact own_far hown1 (by simp) _, by rw [elen]; exact two_set1 tb1 _, two_far tr1 (by omega) _ _, by simp; omega, bset (Below.grown (bal hb _) hg1 (by simp; omega) (fun j hj => by have := (hown.lt j hj).1; omega)) (by simp) _⟩
        case measure => simp [intOf]; omega
      · have hS := hst t (by omega)
        have elen : (ds ++ [t]).length = ds.length + 1 := by simp
        clear hst hI hmd hdd
        go_wp2_with (at_builtin
                     refine wpList_append_own _ rfl (.tmp 17) (.tmp 19) _ rfl (w.heap.size + 2) 3 i0 _ 1 8 Try.underlying23 hi0 hz0 hz1 hz2 rfl (by omega) (.slice A ds.length c) ds.length (ds.map (Value.int .i64)) rfl (World.ownsRow.alloc hown _) ⟨wr.heap.size, 0, none⟩ 1 1 [.int .i64 (t)] rfl rfl (cells_one _ _ _) (ints_oneCell .i64 [t]) (by simp only [maxLen]; omega) (by omega) (by simp; omega) ?_
                     intro v1 w1 hown1 hg1 hv1
                     obtain ⟨A1, c1, rfl⟩ := own_slice hown1
                     have hbb : Below (w.heap.size + 2) wr w1 := Below.grown ((Below.refl _ _).alloc hsz _) hg1 (by simp; omega) (fun j hj => (hown.lt j hj).1)
                     have tb1 := tb.keep hbb (by omega)
                     have tr1 := tr.keep hbb (by omega)
                     have hz9 := hbb.size
                     have g0 := tb1.1
                     have g1 := tb1.2.1
                     have g2 := tb1.2.2.1
                     have g3 := tb1.2.2.2)
        go_roundw
        case rel => exact ⟨_, ds ++ [t], A1, c1, by simp, q1, q2, hS, by rw [elen, List.map_append]; exact own_far hown1 (by simp) _, by rw [elen]; exact two_set1 tb1 _, two_far tr1 (by omega) _ _, by simp; omega, bset (Below.grown (bal hb _) hg1 (by simp; omega) (fun j hj => by have := (hown.lt j hj).1; omega)) (by simp) _⟩
        case measure => simp [intOf]; omega
end Go.Proofs.Ytkgaoafcjhjefaa
