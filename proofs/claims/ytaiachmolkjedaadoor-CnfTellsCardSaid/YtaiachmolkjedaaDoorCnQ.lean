/-
  The document's Find; rows of bools.
-/
import Derived.Test.YtaiachmolkjedaaDoorCnU
import Derived.Test.YtaiachmolkjedaaDoorTmX
namespace Go.Proofs.YtaiachmolkjedaaDoor
open Go.RowKit

theorem keepA {w w' : World} {p0 p1 p2 p3 p4 p5 p6 p7 : Addr} {v0 v1 v2 v3 v4 v5 v6 v7 : Value} (h : w.cell? p0 = some v0 ∧ w.cell? p1 = some v1 ∧ w.cell? p2 = some v2 ∧ w.cell? p3 = some v3 ∧ w.cell? p4 = some v4 ∧ w.cell? p5 = some v5 ∧ w.cell? p6 = some v6 ∧ w.cell? p7 = some v7) (hb : Below w.heap.size w w') :
    w'.cell? p0 = some v0 ∧ w'.cell? p1 = some v1 ∧ w'.cell? p2 = some v2 ∧ w'.cell? p3 = some v3 ∧ w'.cell? p4 = some v4 ∧ w'.cell? p5 = some v5 ∧ w'.cell? p6 = some v6 ∧ w'.cell? p7 = some v7 := keep8 h hb

set_option maxRecDepth 100000 in
set_option maxHeartbeats 4000000 in
theorem find_any (L : List Tm) (t : Tm) (v : Value) (w : World) (hr : Row4 w v L) (hL : ∀ x ∈ L, TIn w w.heap.size x ∧ x.deep ≤ 100) (ht : TIn w w.heap.size t) (hd : t.deep ≤ 100) :
    Calls Tryd.prog 66 #[v, t.val] w (RetV (.int .i64 (plc L t)) w) := by
  have B0 := bel_alloc w (boxT t)
  have F1 := box_four w t
  have hW : w.alloc (.cells #[.int .i64 t.op, .string t.nm, .int .i64 t.n, .slice t.a t.ks.length t.c] 24) = w.alloc (boxT t) := rfl
  obtain ⟨a, c, rfl, hlm, hr⟩ := hr
  unfold maxLen at hlm
  have HR := mkHid hr
  have HL := mkHid hL
  have HT := mkHid ht
  have HD := mkHid hd
  obtain ⟨n, hn⟩ : ∃ n, L.length = n := ⟨_, rfl⟩
  have HN := mkHid hn
  rw [hn] at hlm ⊢
  clear hr hL ht hd hn
  have hn9 : n ≤ 9223372036854775807 := by omega
  generalize w.alloc (boxT t) = W at *
  have HF := mkHid F1
  have HB0 := mkHid B0
  obtain ⟨f0, f1, f2, f3⟩ := F1
  simp only [Nat.zero_add] at f1 f2 f3
  unfold Tm.val
  go_enter Tryd.func66, Tryd.ntmps66
  go_wp2
  clear f0 f1 f2 f3 hW
  go_loopw [5] (fun i w' => ∃ (k : Nat) (x : Int), i = .int .i64 x ∧ x = k ∧ k ≤ n ∧ Hid (Below W.heap.size W w') ∧ Hid (∀ i (hi : i < L.length), i < k → eqT L[i] t = false)) (fun i _ => (n - intOf i).toNat)
  case atStart => exact ⟨0, 0, rfl, rfl, Nat.zero_le _, mkHid (Below.refl _ _), mkHid (fun i _ h => by omega)⟩
  case round =>
    obtain ⟨k, x, rfl, hxk, hk, BW, HA⟩ := hrel
    obtain rfl : x = (k : Int) := hxk
    have bw := bon HB0.out BW.out
    by_cases hlt : k < n
    · have hk' : k < L.length := by rw [HN.out]; exact hlt
      obtain ⟨b, o, rfl, -, kf⟩ := HR.out k hk'
      obtain ⟨g0, g1, g2, g3⟩ := kf.later bw
      obtain ⟨l0, l1, l2, l3⟩ := HF.out.later BW.out
      simp only [Nat.zero_add] at l1 l2 l3
      obtain ⟨h1, h2⟩ := HL.out L[k] (List.getElem_mem _)
      have bd := bdrew (Below.refl wr.heap.size wr)
      have CE := mkHid (rSame_any L[k] t wr.drew ((h1.later bw).later bd) ((HT.out.later bw).later bd))
      rw [decide_eq_true h2, decide_eq_true HD.out] at CE
      have HS : Hid (eqT L[k] t = true → plc L t = (k : Int)) := mkHid (fun e => plc_at hk' e HA.out)
      have HBB : Hid (eqT L[k] t = false → ∀ i (hi : i < L.length), i < k + 1 → eqT L[i] t = false) := mkHid (fun e i hi hik => by
        by_cases h : i < k
        · exact HA.out i hi h
        · obtain rfl : i = k := by omega
          exact e)
      generalize L[k] = q at *
      clear hk' kf h1 h2 HA HR bd
      unfold Tm.val at CE
      have hk2 : (k : Int) < (n : Int) := by omega
      generalize eqT q t = r at *
      cases r
      · have HB2 := mkHid (HBB.out rfl)
        clear HS HBB
        go_wp2_with fail
        go_region_held2 (fun w' => w'.cell? ⟨b, o + k * 4, none⟩ = some (.int .i64 q.op) ∧ w'.cell? ⟨b, o + k * 4 + 1, none⟩ = some (.string q.nm) ∧ w'.cell? ⟨b, o + k * 4 + 2, none⟩ = some (.int .i64 q.n) ∧ w'.cell? ⟨b, o + k * 4 + 3, none⟩ = some (.slice q.a q.ks.length q.c) ∧ w'.cell? ⟨w.heap.size, 0, none⟩ = some (.int .i64 t.op) ∧ w'.cell? ⟨w.heap.size, 1, none⟩ = some (.string t.nm) ∧ w'.cell? ⟨w.heap.size, 2, none⟩ = some (.int .i64 t.n) ∧ w'.cell? ⟨w.heap.size, 3, none⟩ = some (.slice t.a t.ks.length t.c)) (first | exact ⟨g0, g1, g2, g3, l0, l1, l2, l3⟩ | exact keep8 (w := wr.drew) ⟨g0, g1, g2, g3, l0, l1, l2, l3⟩ hb8) ((go_at_call 21; (with_reducible refine CE.out.mono ?_); rintro e w8 ⟨rfl, hb8⟩))
        go_wp2
        go_roundw
        case rel => exact ⟨k + 1, _, rfl, by omega, by omega, mkHid (bon (bdrew BW.out) hb8), HB2⟩
        case measure => simp [intOf]; omega
      · have E := mkHid (HS.out rfl)
        clear HS HBB
        go_wp2_with fail
        go_region_held2 (fun w' => w'.cell? ⟨b, o + k * 4, none⟩ = some (.int .i64 q.op) ∧ w'.cell? ⟨b, o + k * 4 + 1, none⟩ = some (.string q.nm) ∧ w'.cell? ⟨b, o + k * 4 + 2, none⟩ = some (.int .i64 q.n) ∧ w'.cell? ⟨b, o + k * 4 + 3, none⟩ = some (.slice q.a q.ks.length q.c) ∧ w'.cell? ⟨w.heap.size, 0, none⟩ = some (.int .i64 t.op) ∧ w'.cell? ⟨w.heap.size, 1, none⟩ = some (.string t.nm) ∧ w'.cell? ⟨w.heap.size, 2, none⟩ = some (.int .i64 t.n) ∧ w'.cell? ⟨w.heap.size, 3, none⟩ = some (.slice t.a t.ks.length t.c)) (first | exact ⟨g0, g1, g2, g3, l0, l1, l2, l3⟩ | exact keep8 (w := wr.drew) ⟨g0, g1, g2, g3, l0, l1, l2, l3⟩ hb8) ((go_at_call 21; (with_reducible refine CE.out.mono ?_); rintro e w8 ⟨rfl, hb8⟩))
        go_wp2
        go_ret
        exact ⟨by rw [E.out]; rfl, bon HB0.out (bon (bdrew BW.out) hb8)⟩
    · have E : Hid (plc L t = -1) := plc_no (fun i hi => HA.out i hi (by rw [HN.out] at hi; omega))
      go_wp2
      go_ret
      exact ⟨by rw [E.out]; rfl, bw⟩
end Go.Proofs.YtaiachmolkjedaaDoor
