/-
  math/bits.Len64, LeadingZeros64, Div64, Rem64: what they answer; and the division of numbers of 128 bits.
-/
import Derived.Test.YtkgaoafcjhjefaaNumD
namespace Go.Proofs.Ytkgaoafcjhjefaa
open Go.RowKit Go.Shelf

theorem len_way (k : Nat) (x z : Int) (hk : k ≤ 56) (hz0 : 0 ≤ z) (hz : z < 256) (h : z.toNat = x.toNat / 2 ^ k) (hne : k = 0 ∨ 0 < z) :
    wrap64 ((k : Int) + wrap64 (bitLen z.toNat : Nat)) = (bitLen x.toNat : Nat) := by
  have h8 := bitLen_le8 z.toNat (by omega)
  have e : bitLen x.toNat = k + bitLen z.toNat := by
    rcases hne with rfl | hp
    · rw [h]; simp
    · rw [h]; exact bitLen_shift _ _ (by rw [← h]; omega)
  rw [IntWalk.wrap64_in (bitLen z.toNat : Nat) ⟨by omega, by omega⟩, IntWalk.wrap64_in _ ⟨by omega, by omega⟩, e]
  omega

set_option maxHeartbeats 1000000 in
set_option maxRecDepth 100000 in
theorem len64_any (x : Int) (w : World) (h0 : 0 ≤ x) (h1 : x < 18446744073709551616) :
    Calls Try.prog 85 #[.int .u64 x] w fun e w' => e = .returned (.int .i64 (bitLen x.toNat : Nat)) ∧ w = w' := by
  go_enter Try.func85, Try.ntmps85
  go_wp2
  all_goals (go_ret; refine ⟨ret_int ?_, rfl⟩; rw [len8tab_get])
  · exact len_way 56 x _ (by omega) (by omega) (by omega) (by omega) (by omega)
  · exact len_way 48 x _ (by omega) (by omega) (by omega) (by omega) (by omega)
  · exact len_way 40 x _ (by omega) (by omega) (by omega) (by omega) (by omega)
  · exact len_way 32 x _ (by omega) (by omega) (by omega) (by omega) (by omega)
  · exact len_way 24 x _ (by omega) (by omega) (by omega) (by omega) (by omega)
  · exact len_way 16 x _ (by omega) (by omega) (by omega) (by omega) (by omega)
  · exact len_way 8 x _ (by omega) (by omega) (by omega) (by omega) (by omega)
  · have h8 := bitLen_le8 x.toNat (by omega)
    rw [IntWalk.wrap64_in (bitLen x.toNat : Nat) ⟨by omega, by omega⟩, IntWalk.wrap64_in _ ⟨by omega, by omega⟩]

theorem bitLen_le64 (x : Int) (h0 : 0 ≤ x) (h1 : x < 18446744073709551616) : bitLen x.toNat ≤ 64 := by
  unfold bitLen
  split
  · omega
  · rename_i h
    have := (Nat.log2_lt h).2 (show x.toNat < 2 ^ 64 by omega)
    omega
/-- how many noughts stand ahead in 64 bits -/
def lzN (x : Int) : Nat := 64 - bitLen x.toNat
set_option maxHeartbeats 1000000 in
theorem lz64_any (x : Int) (w : World) (h0 : 0 ≤ x) (h1 : x < 18446744073709551616) :
    Calls Try.prog 84 #[.int .u64 x] w fun e w' => e = .returned (.int .i64 (lzN x : Nat)) ∧ w = w' := by
  have b := bitLen_le64 x h0 h1
  have e1 : ((lzN x : Nat) : Int) = 64 - ((bitLen x.toNat : Nat) : Int) := by unfold lzN; omega
  have C := mkHid (len64_any x w h0 h1)
  rw [e1]; clear e1
  generalize bitLen x.toNat = n at *
  go_enter Try.func84, Try.ntmps84
  go_wp2_with fail
  refine (C.out).mono ?_
  rintro e w1 ⟨rfl, rfl⟩
  go_wp2
  go_ret
  exact ⟨rfl, rfl⟩
theorem lz_spec (x : Int) (h0 : 0 < x) (h1 : x < 18446744073709551616) :
    lzN x ≤ 63 ∧ 9223372036854775808 ≤ x * 2 ^ (lzN x) ∧ x * 2 ^ (lzN x) < 18446744073709551616 := by
  have b := bitLen_le64 x (by omega) h1
  obtain ⟨s1, s2⟩ := bitLen_spec x.toNat
  have s2 := s2 (by omega)
  have hpos : 0 < bitLen x.toNat := by
    rcases Nat.eq_zero_or_pos (bitLen x.toNat) with h | h
    · rw [h] at s1; simp at s1; omega
    · exact h
  have hl : lzN x = 64 - bitLen x.toNat := rfl
  refine ⟨by omega, ?_, ?_⟩
  · have h := Nat.mul_le_mul_right (2 ^ (lzN x)) s2
    rw [← Nat.pow_add, show bitLen x.toNat - 1 + lzN x = 63 by omega] at h
    have hc : ((x.toNat * 2 ^ (lzN x) : Nat) : Int) = x * 2 ^ (lzN x) := by push_cast; congr 1; omega
    omega
  · have h := Nat.mul_lt_mul_of_pos_right s1 (Nat.two_pow_pos (lzN x))
    rw [← Nat.pow_add, show bitLen x.toNat + lzN x = 64 by omega] at h
    have hc : ((x.toNat * 2 ^ (lzN x) : Nat) : Int) = x * 2 ^ (lzN x) := by push_cast; congr 1; omega
    omega
end Go.Proofs.Ytkgaoafcjhjefaa
