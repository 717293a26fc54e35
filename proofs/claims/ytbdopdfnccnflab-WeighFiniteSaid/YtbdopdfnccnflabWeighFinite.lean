/-
  What WeighFinite does: it returns true, whatever the two words and the row are.
-/
import Derived.Test.YtbdopdfnccnflabWgK
namespace Go.Proofs.Ytbdopdfnccnflab
open Go.RowKit

set_option maxHeartbeats 16000000 in
set_option maxRecDepth 100000 in
theorem weigh_finite_any (a b : Nat) (A : Option Addr) (c : Nat) (xs : List Nat) (w : World) (_ha : a < 18446744073709551616) (_hb : b < 18446744073709551616) (hx : ILies w A xs) (hw : Words xs) (hn : xs.length ≤ maxLen) :
    Calls Try.prog 5 #[.int .u64 a, .int .u64 b, .slice A xs.length c] w fun e w' => e = .returned (.bool true) ∧ Below w.heap.size w w' := by
  have B1 := mkHidW (bump_any a b)
  have D1 := mkHidW (decay_any b)
  have T1 := mkHidW (tame_any a)
  have T2 := mkHidW (tame_any b)
  have T3 := mkHidW (tame_at (tame_tame a))
  have I1 := mkHidW (fun w => finite_any (bumpW a b) w (bump_rung a b))
  have I2 := mkHidW (fun w => finite_any (decayW b) w (decay_rung b))
  have I3 := mkHidW (fun w => finite_any (tameW a) w (tame_rung a))
  have S1 := mkHidW (fun w => same_self (tameW a) w (decide_eq_false (by have := tame_rung a; omega)))
  have kd := kinds_of a b
  dsimp only at kd
  obtain ⟨G, hG⟩ : ∃ G, (FloatKind.f64.format.order b 0 == some .gt) = G := ⟨_, rfl⟩
  obtain ⟨L, hL⟩ : ∃ L, (FloatKind.f64.format.order b 0 == some .lt) = L := ⟨_, rfl⟩
  obtain ⟨E, hE⟩ : ∃ E, (FloatKind.f64.format.order b 0 == some .eq) = E := ⟨_, rfl⟩
  obtain ⟨p, hp⟩ : ∃ p, (FloatKind.f64.format.order (decayW b) (tameW b) == some .gt) = p := ⟨_, rfl⟩
  obtain ⟨q, hq⟩ : ∃ q, (FloatKind.f64.format.order (decayW b) (tameW b) == some .eq) = q := ⟨_, rfl⟩
  obtain ⟨r, hr⟩ : ∃ r, (FloatKind.f64.format.order (bumpW a b) (tameW a) == some .lt) = r := ⟨_, rfl⟩
  obtain ⟨s, hs⟩ : ∃ s, (FloatKind.f64.format.order (bumpW a b) (tameW a) == some .gt) = s := ⟨_, rfl⟩
  rw [hG, hL, hE, hp, hq, hr, hs] at kd
  have KD := mkHidW kd; have HG := mkHidW hG; have HL := mkHidW hL; have HE := mkHidW hE; have HP := mkHidW hp; have HQ := mkHidW hq; have HR := mkHidW hr; have HS := mkHidW hs
  clear kd hG hL hE hp hq hr hs
  generalize bumpW a b = bw at *
  generalize decayW b = dw at *
  generalize tameW a = ta at *
  generalize tameW b = tb at *
  have Fl := mkHidW (fun w h => floats_any A c xs w h hn)
  have hw' := words_take hw 100
  have hl := len_take xs
  generalize xs.take 100 = ds at *
  have hlr := len_resc ds
  have hwr := words_resc hw'
  have hfr := fins_resc ds
  have Rs := mkHidW (fun A c w h => rescale_any A c ds w h (by omega))
  have Rr := mkHidW (fun A c w h => rescale_any A c (rescW ds) w h (by omega))
  have Ro : Hid (∀ A c A' c' w, FLies w A (rescW ds) → FLies w A' (rescW ds) → Calls Try.prog 26 #[.slice A (rescW ds).length c, .slice A' (rescW ds).length c'] w fun e w' => e = .returned (.bool true) ∧ Below w.heap.size w w') := fun A c A' c' w h h' => rows_any A A' c c' (rescW ds) w h h' (by omega) hfr
  have I4 := mkHidW (fun j w => finite_any ((rescW ds).getD j 0) w (hfr.get j))
  have Ab := mkHidW (fun j w => abs_any ((rescW ds).getD j 0) w (hwr.get j))
  have q1 : Hid (farAny (ds.map tameW) = true → ∀ j, (FloatKind.f64.format.order (rung ((rescW ds).getD j 0)) 7748537163665533883 == some .gt) = false) := fun h j => abs_top _ (resc_far ds h j)
  have q2 : Hid (farAny (ds.map tameW) = false → ∀ j, j < ds.length → (FloatKind.f64.format.order (rung ((rescW ds).getD j 0)) 6103021453049119613 == some .gt) = false) := fun h j hj => by rw [abs_far _ (hfr.get j)]; exact resc_near ds h j hj
  have ag : Hid (farAny (ds.map tameW) = false → farAny ((rescW ds).map tameW) = false ∧ rescW (rescW ds) = rescW ds) := resc_again
  have rd : Hid (∀ w A, FLies w A (rescW ds) → ∀ k : Nat, k < ds.length → ∃ g, A = some ⟨g, 0, none⟩ ∧ w.cell? ⟨g, k, none⟩ = some (.float .f64 ((rescW ds).getD k 0))) := by
    intro w A h k hk
    rcases h with h | ⟨g, rfl, hc⟩
    · rw [h] at hlr; simp at hlr; omega
    · exact ⟨g, rfl, hc k (by omega)⟩
  rw [← hlr] at q2 rd
  clear hwr hfr hw' hw hn
  generalize farAny (ds.map tameW) = far at *
  generalize farAny ((rescW ds).map tameW) = far2 at *
  generalize rescW (rescW ds) = rs2 at *
  generalize rescW ds = rs at *
  generalize hf : (fun j => rs.getD j 0) = f at *
  have ef : ∀ j, rs.getD j 0 = f j := fun j => by rw [← hf]
  simp only [ef] at *
  clear ef hf
  rw [← hlr] at hl
  clear hlr
  generalize hrl : rs.length = n at *
  have fr : Hid (∀ w v, FRow w v rs → ∃ A c, v = .slice A n c ∧ n ≤ c ∧ FLies w A rs) := by
    rintro w v ⟨A, c, rfl, hc, h⟩; rw [hrl] at hc ⊢; exact ⟨A, c, rfl, hc, h⟩
  clear hrl
  go_enter Try.func5, Try.ntmps5
  go_wp2_with fail
  refine (shown_any _).mono ?_; rintro e w1 ⟨rfl, hb1⟩
  go_wp2_with fail
  refine (B1.out _).mono ?_; rintro e w2 ⟨rfl, rfl⟩
  go_wp2_with fail
  refine (D1.out _).mono ?_; rintro e w2 ⟨rfl, rfl⟩
  go_wp2_with fail
  refine (T1.out _).mono ?_; rintro e w2 ⟨rfl, rfl⟩
  go_wp2_with fail
  refine (I1.out _).mono ?_; rintro e w2 ⟨rfl, rfl⟩
  go_wp2_with fail
  refine (I2.out _).mono ?_; rintro e w2 ⟨rfl, rfl⟩
  go_wp2_with fail
  refine (I3.out _).mono ?_; rintro e w2 ⟨rfl, rfl⟩
  go_wp2_with fail
  refine (T3.out _).mono ?_; rintro e w2 ⟨rfl, rfl⟩
  go_wp2_with fail
  refine (S1.out _).mono ?_; rintro e w2 ⟨rfl, rfl⟩
  clear B1 D1 T1 I1 I2 I3 T3 S1
  have hx1 := hx.later hb1
  clear hx
  rcases KD.out with ⟨rfl, rfl, rfl, rfl | ⟨rfl, rfl⟩⟩ | ⟨rfl, rfl, rfl, rfl, rfl | ⟨rfl, rfl⟩⟩ | ⟨rfl, rfl, rfl, rfl⟩ | ⟨rfl, rfl, rfl⟩
  all_goals
    clear KD
    have hG := HG.out; have hL := HL.out; have hE := HE.out; have hp := HP.out; have hq := HQ.out; have hr := HR.out; have hs := HS.out
    clear HG HL HE HP HQ HR HS
    cases far
    · obtain ⟨rfl, rfl⟩ := ag.out rfl
      have q3 := mkHidW (q2.out rfl)
      clear q1 q2 ag
      go_wp2_with fail
      refine (Fl.out _ hx1).mono ?_; rintro e w3 ⟨⟨v, rfl, B, d, rfl, hd, hr3⟩, hb3⟩
      go_wp2_with fail
      refine (Rs.out _ _ _ hr3).mono ?_; rintro e w4 ⟨⟨v, rfl, hr4⟩, hb4⟩
      obtain ⟨B4, d4, rfl, hd4, hf4⟩ := fr.out _ _ hr4
      have hB4 := bonW hb1 (bonW hb3 hb4)
      clear Fl Rs hr4 hx1 hr3 hb1 hb3 hb4
      go_wp2_with fail
      go_loop [15] (fun i => ∃ (k : Nat) (x : Int), k ≤ n ∧ i = .int .i64 x ∧ x = k) (fun i => (n - intOf i).toNat)
      case atStart => exact ⟨0, 0, by omega, rfl, rfl⟩
      case round =>
        obtain ⟨k, x, hk, rfl, hxk⟩ := hrel
        obtain rfl : x = (k : Int) := hxk
        by_cases hlt : k < n
        · obtain ⟨g, rfl, hc⟩ := rd.out _ _ hf4 k hlt
          have J4 := mkHidW (I4.out k)
          have J5 := mkHidW (Ab.out k)
          have j3 := q3.out k hlt
          clear rd I4 Ab q3 Rr Ro fr T2 hG hL hE hp hq hr hs
          go_wp2_with fail
          refine (J4.out _).mono ?_; rintro e w5 ⟨rfl, rfl⟩
          go_wp2_with fail
          refine (J5.out _).mono ?_; rintro e w5 ⟨rfl, rfl⟩
          go_wp2
          go_round
          case rel => exact ⟨k + 1, _, by omega, rfl, by omega⟩
          case measure => simp [intOf]; omega
        · clear rd I4 Ab q3
          go_wp2_with fail
          refine (Rr.out _ _ _ hf4).mono ?_; rintro e w5 ⟨⟨v, rfl, hr5⟩, hb5⟩
          obtain ⟨B5, d5, rfl, hd5, hf5⟩ := fr.out _ _ hr5
          have hf45 := hf4.later hb5
          clear Rr fr hf4 hr5
          go_wp2_with fail
          refine (Ro.out _ _ _ _ _ hf5 hf45).mono ?_; rintro e w6 ⟨rfl, hb6⟩
          clear Ro
          go_wp2_with (go_at_call 23; refine (T2.out _).mono ?_; rintro e w7 ⟨rfl, rfl⟩)
          go_ret
          exact ⟨rfl, bonW hB4 (bonW hb5 hb6)⟩
    · have q3 := mkHidW (q1.out rfl)
      clear q1 q2 ag
      go_wp2_with fail
      refine (Fl.out _ hx1).mono ?_; rintro e w3 ⟨⟨v, rfl, B, d, rfl, hd, hr3⟩, hb3⟩
      go_wp2_with fail
      refine (Rs.out _ _ _ hr3).mono ?_; rintro e w4 ⟨⟨v, rfl, hr4⟩, hb4⟩
      obtain ⟨B4, d4, rfl, hd4, hf4⟩ := fr.out _ _ hr4
      have hB4 := bonW hb1 (bonW hb3 hb4)
      clear Fl Rs hr4 hx1 hr3 hb1 hb3 hb4
      go_wp2_with fail
      go_loop [15] (fun i => ∃ (k : Nat) (x : Int), k ≤ n ∧ i = .int .i64 x ∧ x = k) (fun i => (n - intOf i).toNat)
      case atStart => exact ⟨0, 0, by omega, rfl, rfl⟩
      case round =>
        obtain ⟨k, x, hk, rfl, hxk⟩ := hrel
        obtain rfl : x = (k : Int) := hxk
        by_cases hlt : k < n
        · obtain ⟨g, rfl, hc⟩ := rd.out _ _ hf4 k hlt
          have J4 := mkHidW (I4.out k)
          have J5 := mkHidW (Ab.out k)
          have j3 := q3.out k
          clear rd I4 Ab q3 Rr Ro fr T2 hG hL hE hp hq hr hs
          go_wp2_with fail
          refine (J4.out _).mono ?_; rintro e w5 ⟨rfl, rfl⟩
          go_wp2_with fail
          refine (J5.out _).mono ?_; rintro e w5 ⟨rfl, rfl⟩
          go_wp2
          go_round
          case rel => exact ⟨k + 1, _, by omega, rfl, by omega⟩
          case measure => simp [intOf]; omega
        · clear rd I4 Ab q3
          go_wp2_with fail
          refine (Rr.out _ _ _ hf4).mono ?_; rintro e w5 ⟨⟨v, rfl, hr5⟩, hb5⟩
          clear Rr fr hf4 hr5 Ro
          go_wp2_with (go_at_call 23; refine (T2.out _).mono ?_; rintro e w7 ⟨rfl, rfl⟩)
          go_ret
          exact ⟨rfl, bonW hB4 hb5⟩
end Go.Proofs.Ytbdopdfnccnflab
