/-
  What 'Int' does: a number of the document as it is told.
-/
import Derived.Test.YtkgaoafcjhjefaaRefC
namespace Go.Proofs.Ytkgaoafcjhjefaa
open Go.RowKit Go.Shelf

theorem valD_drop (ds : List Int) (k : Nat) : valD (ds.drop k) = ds.getD k 0 + 10 * valD (ds.drop (k + 1)) := by
  rw [valD_head (ds.drop k), List.tail_drop]
  simp [List.getD]
theorem Digs.drop {ds : List Int} (h : Digs ds) (k : Nat) : Digs (ds.drop k) := fun d hd => h d (List.mem_of_mem_drop hd)
theorem valD_drop_le {ds : List Int} (h : Digs ds) : ∀ k, valD (ds.drop k) ≤ valD ds
  | 0 => by simp
  | k + 1 => by
    have h1 := valD_drop_le h k
    have h2 := valD_drop ds k
    have h3 := h.get k
    have h4 := (h.drop (k + 1)).nonneg
    omega
theorem quo_up {d : Int} (h0 : 0 ≤ d) (h9 : d ≤ 9) : (-9223372036854775808 + d).tdiv 10 = -((9223372036854775808 - d) / 10) := by
  rw [show -9223372036854775808 + d = -(9223372036854775808 - d) by omega, Int.neg_tdiv, Int.tdiv_eq_ediv_of_nonneg (by omega)]

set_option maxHeartbeats 1000000 in
set_option maxRecDepth 100000 in
theorem r_int (v : Value) (z : Int) (w : World) (h : Num w v z) (hz : Small z) :
    Calls Try.prog 55 #[v] w fun e w' => e = .returned (.tuple #[.int .i64 (tel z), .bool (fitB z)]) ∧ Below w.heap.size w w' := by
  obtain ⟨A, c, ds, rfl, hl, hL, hd, ht, hv⟩ := h
  have hn := len_small hd ht hv hz
  have q0 : valD (ds.drop 0) = z.natAbs := by simpa using hv
  have qn : valD (ds.drop ds.length) = 0 := by simp [valD]
  have qs : Hid (∀ k, valD (ds.drop k) = ds.getD k 0 + 10 * valD (ds.drop (k + 1)) ∧ 0 ≤ ds.getD k 0 ∧ ds.getD k 0 ≤ 9 ∧ 0 ≤ valD (ds.drop (k + 1)) ∧ valD (ds.drop k) ≤ z.natAbs) := fun k =>
    ⟨valD_drop ds k, (hd.get k).1, (hd.get k).2, (hd.drop _).nonneg, by rw [← hv]; exact valD_drop_le hd k⟩
  have rd : Hid (∀ k : Nat, k < ds.length → ∃ g, A = some ⟨g, 0, none⟩ ∧ ∀ o, (w.alloc o).cell? ⟨g, k, none⟩ = some (.int .i64 (ds.getD k 0))) := by
    intro k hk
    rcases hL with rfl | ⟨g, rfl, hg, hc⟩
    · simp at hk
    · exact ⟨g, rfl, fun o => cell_later (bal (Below.refl _ _) _) (hc k hk)⟩
  clear hL hd ht hv hz hl
  generalize hf : (fun j => ds.getD j 0) = f
  generalize hg : (fun j => valD (ds.drop j)) = q
  have ef : ∀ j, ds.getD j 0 = f j := fun j => by rw [← hf]
  have eg : ∀ j, valD (ds.drop j) = q j := fun j => by rw [← hg]
  simp only [ef, eg] at *
  clear ef eg hf hg
  generalize ds.length = n at *
  clear ds
  have lost : Hid (∀ x : Int, 9223372036854775808 < x → x ≤ z.natAbs → tel z = 0 ∧ fitB z = false) := by
    intro x h1 h2
    have : fitB z = false := by rw [fitB_not]; omega
    simp [tel, this]
  have won : Hid (∀ x : Int, z = x → -9223372036854775808 ≤ x → x ≤ 9223372036854775807 → tel z = x ∧ fitB z = true) := by
    rintro x rfl h1 h2
    have : fitB z = true := by rw [fitB_iff]; omega
    simp [tel, this]
  have lost2 : Hid (z = 9223372036854775808 → tel z = 0 ∧ fitB z = false) := by
    intro h1
    have : fitB z = false := by rw [fitB_not]; omega
    simp [tel, this]
  generalize htl : tel z = tz at *
  generalize hfi : fitB z = fz at *
  generalize hneg : decide (z < 0) = s at *
  go_enter Try.func55, Try.ntmps55
  go_wp2_with fail
  go_loop [4, 5] (fun a i => ∃ (k : Nat) (x y : Int), k ≤ n ∧ a = .int .i64 y ∧ y = -(q k) ∧ i = .int .i64 x ∧ x + 1 = k ∧ -9223372036854775808 ≤ y ∧ y ≤ 0) (fun _ i => (intOf i + 1).toNat)
  case atStart => exact ⟨n, _, 0, by omega, rfl, by omega, rfl, by omega, by omega, by omega⟩
  case round =>
    obtain ⟨k, x, y, hk, rfl, hy, rfl, hx, y1, y2⟩ := hrel
    rcases k with _ | k
    · obtain rfl : x = -1 := by omega
      clear hx qs rd qn hk hn
      rw [q0] at hy
      cases s
      · have hzz : 0 ≤ z := by simpa using hneg
        by_cases hm : y = -9223372036854775808
        · obtain ⟨rfl, rfl⟩ := lost2.out (by omega)
          subst hm
          clear lost won lost2 htl hfi hneg q0 hy
          go_wp2
          go_ret2
          exact ⟨rfl, bal (Below.refl _ _) _⟩
        · obtain ⟨rfl, rfl⟩ := won.out (-y) (by omega) (by omega) (by omega)
          have hm' : (y == -9223372036854775808) = false := by simpa using hm
          clear lost won lost2 htl hfi hneg q0 hy
          go_wp2
          go_ret2
          exact ⟨rfl, bal (Below.refl _ _) _⟩
      · have hzz : z < 0 := by simpa using hneg
        obtain ⟨rfl, rfl⟩ := won.out y (by omega) (by omega) (by omega)
        clear lost won lost2 htl hfi hneg q0 hy
        go_wp2
        go_ret2
        exact ⟨rfl, bal (Below.refl _ _) _⟩
    · obtain rfl : x = (k : Int) := by omega
      clear hx
      obtain ⟨g, rfl, hrd⟩ := rd.out k (by omega)
      obtain ⟨s1, s2, s3, s4, s5⟩ := qs.out k
      have T := quo_up s2 s3
      by_cases hlow : y < -((9223372036854775808 - f k) / 10)
      · obtain ⟨rfl, rfl⟩ := lost.out (q k) (by omega) s5
        clear lost won lost2 qs rd htl hfi hneg q0 qn s1 s4 s5 hy
        go_wp2
        go_ret2
        exact ⟨rfl, bal (Below.refl _ _) _⟩
      · have b1 : -9223372036854775808 ≤ y * 10 := by omega
        have b2 : -9223372036854775808 ≤ y * 10 - f k := by omega
        have b3 : y * 10 - f k = -(q k) := by omega
        clear lost won lost2 qs rd htl hfi hneg q0 qn s1 s4 s5 hy
        go_wp2
        go_round
        case rel => exact ⟨k, _, -(q k), by omega, rfl, rfl, rfl, by omega, by omega, by omega⟩
        case measure => simp [intOf]
end Go.Proofs.Ytkgaoafcjhjefaa
