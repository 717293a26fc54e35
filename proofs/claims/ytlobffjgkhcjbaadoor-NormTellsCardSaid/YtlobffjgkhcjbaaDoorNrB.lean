/-
  The document's up and down of norm, one for each operation.
-/
import Derived.Test.YtlobffjgkhcjbaaDoorNrA
import Derived.BigRegion
import Derived.Deep.RegionHeld2
namespace Go.Proofs.YtlobffjgkhcjbaaDoor
open Go.RowKit

set_option maxRecDepth 100000 in
set_option maxHeartbeats 4000000 in
theorem up15 (F : Tm → Tm) (t : Tm) (hop : t.op = 15) (hF : F t = t.er) (w : World) (ht : TIn w w.heap.size t) : Calls Tryd.prog 68 #[t.val] w (BecP F t w) := by
  have HT := mkHid ht
  have HFT := mkHid hF
  clear hF
  have hTV : t.val = t.val := rfl
  obtain ⟨op, nm, n, a, c, ks⟩ := t
  simp only [Tm.op] at hop
  subst hop
  have hb2 : Below w.heap.size w ((w.alloc (.cells #[.int .i64 15, .string nm, .int .i64 n, .slice a ks.length c] 24)).alloc (.cells #[.int .i64 0, .string ⟨#[]⟩, .int .i64 0, .slice none 0 0] 24)) := bal (bal (Below.refl _ _) _) _
  have TT : ((w.alloc (.cells #[.int .i64 15, .string nm, .int .i64 n, .slice a ks.length c] 24)).alloc (.cells #[.int .i64 0, .string ⟨#[]⟩, .int .i64 0, .slice none 0 0] 24)).cell? ⟨w.heap.size, 0, none⟩ = some (.int .i64 15) ∧ ((w.alloc (.cells #[.int .i64 15, .string nm, .int .i64 n, .slice a ks.length c] 24)).alloc (.cells #[.int .i64 0, .string ⟨#[]⟩, .int .i64 0, .slice none 0 0] 24)).cell? ⟨w.heap.size, 1, none⟩ = some (.string nm) ∧ ((w.alloc (.cells #[.int .i64 15, .string nm, .int .i64 n, .slice a ks.length c] 24)).alloc (.cells #[.int .i64 0, .string ⟨#[]⟩, .int .i64 0, .slice none 0 0] 24)).cell? ⟨w.heap.size, 2, none⟩ = some (.int .i64 n) ∧ ((w.alloc (.cells #[.int .i64 15, .string nm, .int .i64 n, .slice a ks.length c] 24)).alloc (.cells #[.int .i64 0, .string ⟨#[]⟩, .int .i64 0, .slice none 0 0] 24)).cell? ⟨w.heap.size, 3, none⟩ = some (.slice a ks.length c) := by simp [go_sem]
  have FR0 : FourV' ((w.alloc (.cells #[.int .i64 15, .string nm, .int .i64 n, .slice a ks.length c] 24)).alloc (.cells #[.int .i64 0, .string ⟨#[]⟩, .int .i64 0, .slice none 0 0] 24)) (w.heap.size + 1) (.int .i64 0) (.string ⟨#[]⟩) (.int .i64 0) (.slice none 0 0) := by simp [FourV', go_sem]
  have hX2 : w.heap.size + 1 < ((w.alloc (.cells #[.int .i64 15, .string nm, .int .i64 n, .slice a ks.length c] 24)).alloc (.cells #[.int .i64 0, .string ⟨#[]⟩, .int .i64 0, .slice none 0 0] 24)).heap.size := by simp
  generalize hW2 : ((w.alloc (.cells #[.int .i64 15, .string nm, .int .i64 n, .slice a ks.length c] 24)).alloc (.cells #[.int .i64 0, .string ⟨#[]⟩, .int .i64 0, .slice none 0 0] 24)) = W2 at *
  unfold Tm.val
  simp only [Tm.op, Tm.nm, Tm.n, Tm.a, Tm.ks, Tm.c]
  obtain ⟨u0, u1, u2, u3⟩ := TT
  have FR := mkHid FR0
  have SZ := hX2
  have BW := hb2
  clear FR0 hX2 hb2 ht hTV
  obtain ⟨m0, m1, m2, m3, f0, f1, f2, f3⟩ := FR.out
  go_enter Tryd.func68, Tryd.ntmps68
  go_wp2_with fail
  refine bodyPost_ret (v := .agg #[.int .i64 15, .string nm, .int .i64 n, .slice a ks.length c]) (by simp [results, Tryd.results68, go_sem, m0, m1, m2, m3]) rfl (Mk.fin (x := (.node 15 nm n a c ks)) (Mk.self HT.out BW) BW ?_)
  rw [HFT.out]
set_option maxRecDepth 100000 in
set_option maxHeartbeats 4000000 in
theorem up16 (F : Tm → Tm) (t : Tm) (hop : t.op = 16) (hF : F t = t.er) (w : World) (ht : TIn w w.heap.size t) : Calls Tryd.prog 68 #[t.val] w (BecP F t w) := by
  have HT := mkHid ht
  have HFT := mkHid hF
  clear hF
  have hTV : t.val = t.val := rfl
  obtain ⟨op, nm, n, a, c, ks⟩ := t
  simp only [Tm.op] at hop
  subst hop
  have hb2 : Below w.heap.size w ((w.alloc (.cells #[.int .i64 16, .string nm, .int .i64 n, .slice a ks.length c] 24)).alloc (.cells #[.int .i64 0, .string ⟨#[]⟩, .int .i64 0, .slice none 0 0] 24)) := bal (bal (Below.refl _ _) _) _
  have TT : ((w.alloc (.cells #[.int .i64 16, .string nm, .int .i64 n, .slice a ks.length c] 24)).alloc (.cells #[.int .i64 0, .string ⟨#[]⟩, .int .i64 0, .slice none 0 0] 24)).cell? ⟨w.heap.size, 0, none⟩ = some (.int .i64 16) ∧ ((w.alloc (.cells #[.int .i64 16, .string nm, .int .i64 n, .slice a ks.length c] 24)).alloc (.cells #[.int .i64 0, .string ⟨#[]⟩, .int .i64 0, .slice none 0 0] 24)).cell? ⟨w.heap.size, 1, none⟩ = some (.string nm) ∧ ((w.alloc (.cells #[.int .i64 16, .string nm, .int .i64 n, .slice a ks.length c] 24)).alloc (.cells #[.int .i64 0, .string ⟨#[]⟩, .int .i64 0, .slice none 0 0] 24)).cell? ⟨w.heap.size, 2, none⟩ = some (.int .i64 n) ∧ ((w.alloc (.cells #[.int .i64 16, .string nm, .int .i64 n, .slice a ks.length c] 24)).alloc (.cells #[.int .i64 0, .string ⟨#[]⟩, .int .i64 0, .slice none 0 0] 24)).cell? ⟨w.heap.size, 3, none⟩ = some (.slice a ks.length c) := by simp [go_sem]
  have FR0 : FourV' ((w.alloc (.cells #[.int .i64 16, .string nm, .int .i64 n, .slice a ks.length c] 24)).alloc (.cells #[.int .i64 0, .string ⟨#[]⟩, .int .i64 0, .slice none 0 0] 24)) (w.heap.size + 1) (.int .i64 0) (.string ⟨#[]⟩) (.int .i64 0) (.slice none 0 0) := by simp [FourV', go_sem]
  have hX2 : w.heap.size + 1 < ((w.alloc (.cells #[.int .i64 16, .string nm, .int .i64 n, .slice a ks.length c] 24)).alloc (.cells #[.int .i64 0, .string ⟨#[]⟩, .int .i64 0, .slice none 0 0] 24)).heap.size := by simp
  generalize hW2 : ((w.alloc (.cells #[.int .i64 16, .string nm, .int .i64 n, .slice a ks.length c] 24)).alloc (.cells #[.int .i64 0, .string ⟨#[]⟩, .int .i64 0, .slice none 0 0] 24)) = W2 at *
  unfold Tm.val
  simp only [Tm.op, Tm.nm, Tm.n, Tm.a, Tm.ks, Tm.c]
  obtain ⟨u0, u1, u2, u3⟩ := TT
  have FR := mkHid FR0
  have SZ := hX2
  have BW := hb2
  clear FR0 hX2 hb2 ht hTV
  obtain ⟨m0, m1, m2, m3, f0, f1, f2, f3⟩ := FR.out
  go_enter Tryd.func68, Tryd.ntmps68
  go_wp2_with fail
  refine bodyPost_ret (v := .agg #[.int .i64 16, .string nm, .int .i64 n, .slice a ks.length c]) (by simp [results, Tryd.results68, go_sem, m0, m1, m2, m3]) rfl (Mk.fin (x := (.node 16 nm n a c ks)) (Mk.self HT.out BW) BW ?_)
  rw [HFT.out]
set_option maxRecDepth 100000 in
set_option maxHeartbeats 4000000 in
theorem up17 (F : Tm → Tm) (t : Tm) (hop : t.op = 17) (hF : F t = t.er) (w : World) (ht : TIn w w.heap.size t) : Calls Tryd.prog 68 #[t.val] w (BecP F t w) := by
  have HT := mkHid ht
  have HFT := mkHid hF
  clear hF
  have hTV : t.val = t.val := rfl
  obtain ⟨op, nm, n, a, c, ks⟩ := t
  simp only [Tm.op] at hop
  subst hop
  have hb2 : Below w.heap.size w ((w.alloc (.cells #[.int .i64 17, .string nm, .int .i64 n, .slice a ks.length c] 24)).alloc (.cells #[.int .i64 0, .string ⟨#[]⟩, .int .i64 0, .slice none 0 0] 24)) := bal (bal (Below.refl _ _) _) _
  have TT : ((w.alloc (.cells #[.int .i64 17, .string nm, .int .i64 n, .slice a ks.length c] 24)).alloc (.cells #[.int .i64 0, .string ⟨#[]⟩, .int .i64 0, .slice none 0 0] 24)).cell? ⟨w.heap.size, 0, none⟩ = some (.int .i64 17) ∧ ((w.alloc (.cells #[.int .i64 17, .string nm, .int .i64 n, .slice a ks.length c] 24)).alloc (.cells #[.int .i64 0, .string ⟨#[]⟩, .int .i64 0, .slice none 0 0] 24)).cell? ⟨w.heap.size, 1, none⟩ = some (.string nm) ∧ ((w.alloc (.cells #[.int .i64 17, .string nm, .int .i64 n, .slice a ks.length c] 24)).alloc (.cells #[.int .i64 0, .string ⟨#[]⟩, .int .i64 0, .slice none 0 0] 24)).cell? ⟨w.heap.size, 2, none⟩ = some (.int .i64 n) ∧ ((w.alloc (.cells #[.int .i64 17, .string nm, .int .i64 n, .slice a ks.length c] 24)).alloc (.cells #[.int .i64 0, .string ⟨#[]⟩, .int .i64 0, .slice none 0 0] 24)).cell? ⟨w.heap.size, 3, none⟩ = some (.slice a ks.length c) := by simp [go_sem]
  have FR0 : FourV' ((w.alloc (.cells #[.int .i64 17, .string nm, .int .i64 n, .slice a ks.length c] 24)).alloc (.cells #[.int .i64 0, .string ⟨#[]⟩, .int .i64 0, .slice none 0 0] 24)) (w.heap.size + 1) (.int .i64 0) (.string ⟨#[]⟩) (.int .i64 0) (.slice none 0 0) := by simp [FourV', go_sem]
  have hX2 : w.heap.size + 1 < ((w.alloc (.cells #[.int .i64 17, .string nm, .int .i64 n, .slice a ks.length c] 24)).alloc (.cells #[.int .i64 0, .string ⟨#[]⟩, .int .i64 0, .slice none 0 0] 24)).heap.size := by simp
  generalize hW2 : ((w.alloc (.cells #[.int .i64 17, .string nm, .int .i64 n, .slice a ks.length c] 24)).alloc (.cells #[.int .i64 0, .string ⟨#[]⟩, .int .i64 0, .slice none 0 0] 24)) = W2 at *
  unfold Tm.val
  simp only [Tm.op, Tm.nm, Tm.n, Tm.a, Tm.ks, Tm.c]
  obtain ⟨u0, u1, u2, u3⟩ := TT
  have FR := mkHid FR0
  have SZ := hX2
  have BW := hb2
  clear FR0 hX2 hb2 ht hTV
  obtain ⟨m0, m1, m2, m3, f0, f1, f2, f3⟩ := FR.out
  go_enter Tryd.func68, Tryd.ntmps68
  go_wp2_with fail
  refine bodyPost_ret (v := .agg #[.int .i64 17, .string nm, .int .i64 n, .slice a ks.length c]) (by simp [results, Tryd.results68, go_sem, m0, m1, m2, m3]) rfl (Mk.fin (x := (.node 17 nm n a c ks)) (Mk.self HT.out BW) BW ?_)
  rw [HFT.out]
set_option maxRecDepth 100000 in
set_option maxHeartbeats 4000000 in
theorem up22 (F : Tm → Tm) (t : Tm) (hop : t.op = 22) (hF : F t = t.er) (w : World) (ht : TIn w w.heap.size t) : Calls Tryd.prog 68 #[t.val] w (BecP F t w) := by
  have HT := mkHid ht
  have HFT := mkHid hF
  clear hF
  have hTV : t.val = t.val := rfl
  obtain ⟨op, nm, n, a, c, ks⟩ := t
  simp only [Tm.op] at hop
  subst hop
  have hb2 : Below w.heap.size w ((w.alloc (.cells #[.int .i64 22, .string nm, .int .i64 n, .slice a ks.length c] 24)).alloc (.cells #[.int .i64 0, .string ⟨#[]⟩, .int .i64 0, .slice none 0 0] 24)) := bal (bal (Below.refl _ _) _) _
  have TT : ((w.alloc (.cells #[.int .i64 22, .string nm, .int .i64 n, .slice a ks.length c] 24)).alloc (.cells #[.int .i64 0, .string ⟨#[]⟩, .int .i64 0, .slice none 0 0] 24)).cell? ⟨w.heap.size, 0, none⟩ = some (.int .i64 22) ∧ ((w.alloc (.cells #[.int .i64 22, .string nm, .int .i64 n, .slice a ks.length c] 24)).alloc (.cells #[.int .i64 0, .string ⟨#[]⟩, .int .i64 0, .slice none 0 0] 24)).cell? ⟨w.heap.size, 1, none⟩ = some (.string nm) ∧ ((w.alloc (.cells #[.int .i64 22, .string nm, .int .i64 n, .slice a ks.length c] 24)).alloc (.cells #[.int .i64 0, .string ⟨#[]⟩, .int .i64 0, .slice none 0 0] 24)).cell? ⟨w.heap.size, 2, none⟩ = some (.int .i64 n) ∧ ((w.alloc (.cells #[.int .i64 22, .string nm, .int .i64 n, .slice a ks.length c] 24)).alloc (.cells #[.int .i64 0, .string ⟨#[]⟩, .int .i64 0, .slice none 0 0] 24)).cell? ⟨w.heap.size, 3, none⟩ = some (.slice a ks.length c) := by simp [go_sem]
  have FR0 : FourV' ((w.alloc (.cells #[.int .i64 22, .string nm, .int .i64 n, .slice a ks.length c] 24)).alloc (.cells #[.int .i64 0, .string ⟨#[]⟩, .int .i64 0, .slice none 0 0] 24)) (w.heap.size + 1) (.int .i64 0) (.string ⟨#[]⟩) (.int .i64 0) (.slice none 0 0) := by simp [FourV', go_sem]
  have hX2 : w.heap.size + 1 < ((w.alloc (.cells #[.int .i64 22, .string nm, .int .i64 n, .slice a ks.length c] 24)).alloc (.cells #[.int .i64 0, .string ⟨#[]⟩, .int .i64 0, .slice none 0 0] 24)).heap.size := by simp
  generalize hW2 : ((w.alloc (.cells #[.int .i64 22, .string nm, .int .i64 n, .slice a ks.length c] 24)).alloc (.cells #[.int .i64 0, .string ⟨#[]⟩, .int .i64 0, .slice none 0 0] 24)) = W2 at *
  unfold Tm.val
  simp only [Tm.op, Tm.nm, Tm.n, Tm.a, Tm.ks, Tm.c]
  obtain ⟨u0, u1, u2, u3⟩ := TT
  have FR := mkHid FR0
  have SZ := hX2
  have BW := hb2
  clear FR0 hX2 hb2 ht hTV
  obtain ⟨m0, m1, m2, m3, f0, f1, f2, f3⟩ := FR.out
  go_enter Tryd.func68, Tryd.ntmps68
  go_wp2_with fail
  refine bodyPost_ret (v := .agg #[.int .i64 22, .string nm, .int .i64 n, .slice a ks.length c]) (by simp [results, Tryd.results68, go_sem, m0, m1, m2, m3]) rfl (Mk.fin (x := (.node 22 nm n a c ks)) (Mk.self HT.out BW) BW ?_)
  rw [HFT.out]
set_option maxRecDepth 100000 in
set_option maxHeartbeats 4000000 in
theorem up18 (F : Tm → Tm) (t : Tm) (k0 : Tm) (hop : t.op = 18) (hks : t.ks = [k0]) {F0 : Tm → Tm} (Ck : ∀ w' : World, TIn w' w'.heap.size k0 → Calls Tryd.prog 93 #[k0.val] w' (BecP F0 k0 w')) (hF : F t = F0 k0) (w : World) (ht : TIn w w.heap.size t) : Calls Tryd.prog 68 #[t.val] w (BecP F t w) := by
  have HT := mkHid ht
  have HFT := mkHid hF
  clear hF
  have hTV : t.val = t.val := rfl
  obtain ⟨op, nm, n, a, c, ks⟩ := t
  simp only [Tm.op, Tm.ks] at hop hks
  subst hop hks
  obtain ⟨kin0, b, o, ha, hbl, kf0⟩ := ht.kid 0 (by simp [Tm.ks])
  simp only [Tm.a, Tm.ks, List.getElem_cons_zero, Nat.zero_mul, Nat.add_zero] at ha kin0 kf0
  subst ha
  have hb2 : Below w.heap.size w ((w.alloc (.cells #[.int .i64 18, .string nm, .int .i64 n, .slice (some ⟨b, o, none⟩) 1 c] 24)).alloc (.cells #[.int .i64 0, .string ⟨#[]⟩, .int .i64 0, .slice none 0 0] 24)) := bal (bal (Below.refl _ _) _) _
  have TT : ((w.alloc (.cells #[.int .i64 18, .string nm, .int .i64 n, .slice (some ⟨b, o, none⟩) 1 c] 24)).alloc (.cells #[.int .i64 0, .string ⟨#[]⟩, .int .i64 0, .slice none 0 0] 24)).cell? ⟨w.heap.size, 0, none⟩ = some (.int .i64 18) ∧ ((w.alloc (.cells #[.int .i64 18, .string nm, .int .i64 n, .slice (some ⟨b, o, none⟩) 1 c] 24)).alloc (.cells #[.int .i64 0, .string ⟨#[]⟩, .int .i64 0, .slice none 0 0] 24)).cell? ⟨w.heap.size, 1, none⟩ = some (.string nm) ∧ ((w.alloc (.cells #[.int .i64 18, .string nm, .int .i64 n, .slice (some ⟨b, o, none⟩) 1 c] 24)).alloc (.cells #[.int .i64 0, .string ⟨#[]⟩, .int .i64 0, .slice none 0 0] 24)).cell? ⟨w.heap.size, 2, none⟩ = some (.int .i64 n) ∧ ((w.alloc (.cells #[.int .i64 18, .string nm, .int .i64 n, .slice (some ⟨b, o, none⟩) 1 c] 24)).alloc (.cells #[.int .i64 0, .string ⟨#[]⟩, .int .i64 0, .slice none 0 0] 24)).cell? ⟨w.heap.size, 3, none⟩ = some (.slice (some ⟨b, o, none⟩) 1 c) := by simp [go_sem]
  have FR0 : FourV' ((w.alloc (.cells #[.int .i64 18, .string nm, .int .i64 n, .slice (some ⟨b, o, none⟩) 1 c] 24)).alloc (.cells #[.int .i64 0, .string ⟨#[]⟩, .int .i64 0, .slice none 0 0] 24)) (w.heap.size + 1) (.int .i64 0) (.string ⟨#[]⟩) (.int .i64 0) (.slice none 0 0) := by simp [FourV', go_sem]
  have hX2 : w.heap.size + 1 < ((w.alloc (.cells #[.int .i64 18, .string nm, .int .i64 n, .slice (some ⟨b, o, none⟩) 1 c] 24)).alloc (.cells #[.int .i64 0, .string ⟨#[]⟩, .int .i64 0, .slice none 0 0] 24)).heap.size := by simp
  generalize hW2 : ((w.alloc (.cells #[.int .i64 18, .string nm, .int .i64 n, .slice (some ⟨b, o, none⟩) 1 c] 24)).alloc (.cells #[.int .i64 0, .string ⟨#[]⟩, .int .i64 0, .slice none 0 0] 24)) = W2 at *
  obtain ⟨q00, q01, q02, q03⟩ : Four W2 b o k0 := Four.keep kf0 hb2 hbl
  clear kin0 kf0
  unfold Tm.val
  simp only [Tm.op, Tm.nm, Tm.n, Tm.a, Tm.ks, Tm.c, List.length_cons, List.length_nil, Nat.zero_add]
  obtain ⟨u0, u1, u2, u3⟩ := TT
  have FR := mkHid FR0
  have SZ := hX2
  have BW := hb2
  clear FR0 hX2 hb2 ht hTV
  obtain ⟨m0, m1, m2, m3, f0, f1, f2, f3⟩ := FR.out
  have MK : Mk w (.node 18 nm n (some ⟨b, o, none⟩) c [k0]) W2 k0 := Mk.kid HT.out (by simp [Tm.ks]) BW
  have P := mkHid (Ck W2 MK.tin)
  have HMK := mkHid MK
  clear MK Ck
  unfold Tm.val at P
  go_enter Tryd.func68, Tryd.ntmps68
  go_wp2_with fail
  ((with_reducible refine P.out.mono ?_)); rintro e w3 ⟨z, rfl, ze, zt, zw, hb3⟩
  have HZ := mkHid (Mk.call HMK.out SZ zt zw)
  clear m0 m1 m2 m3 f0 f1 f2 f3
  obtain ⟨m0, m1, m2, m3, f0, f1, f2, f3⟩ := FR.out.later hb3
  clear u0 u1 u2 u3 q00 q01 q02 q03 hW2 zt zw P
  unfold Tm.val
  go_wp2
  refine bodyPost_ret (v := .agg #[.int .i64 z.op, .string z.nm, .int .i64 z.n, .slice z.a z.ks.length z.c]) (by simp [results, Tryd.results68, go_sem, m0, m1, m2, m3]) rfl (Mk.fin (x := z) (HZ.out) (bon BW hb3) ?_)
  rw [HFT.out, ze]
set_option maxRecDepth 100000 in
set_option maxHeartbeats 4000000 in
theorem down18 (F : Tm → Tm) (t : Tm) (k0 : Tm) (hop : t.op = 18) (hks : t.ks = [k0]) {F0 : Tm → Tm} (Ck : ∀ w' : World, TIn w' w'.heap.size k0 → Calls Tryd.prog 68 #[k0.val] w' (BecP F0 k0 w')) (hF : F t = F0 k0) (w : World) (ht : TIn w w.heap.size t) : Calls Tryd.prog 93 #[t.val] w (BecP F t w) := by
  have HT := mkHid ht
  have HFT := mkHid hF
  clear hF
  have hTV : t.val = t.val := rfl
  obtain ⟨op, nm, n, a, c, ks⟩ := t
  simp only [Tm.op, Tm.ks] at hop hks
  subst hop hks
  obtain ⟨kin0, b, o, ha, hbl, kf0⟩ := ht.kid 0 (by simp [Tm.ks])
  simp only [Tm.a, Tm.ks, List.getElem_cons_zero, Nat.zero_mul, Nat.add_zero] at ha kin0 kf0
  subst ha
  have hb2 : Below w.heap.size w ((w.alloc (.cells #[.int .i64 18, .string nm, .int .i64 n, .slice (some ⟨b, o, none⟩) 1 c] 24)).alloc (.cells #[.int .i64 0, .string ⟨#[]⟩, .int .i64 0, .slice none 0 0] 24)) := bal (bal (Below.refl _ _) _) _
  have TT : ((w.alloc (.cells #[.int .i64 18, .string nm, .int .i64 n, .slice (some ⟨b, o, none⟩) 1 c] 24)).alloc (.cells #[.int .i64 0, .string ⟨#[]⟩, .int .i64 0, .slice none 0 0] 24)).cell? ⟨w.heap.size, 0, none⟩ = some (.int .i64 18) ∧ ((w.alloc (.cells #[.int .i64 18, .string nm, .int .i64 n, .slice (some ⟨b, o, none⟩) 1 c] 24)).alloc (.cells #[.int .i64 0, .string ⟨#[]⟩, .int .i64 0, .slice none 0 0] 24)).cell? ⟨w.heap.size, 1, none⟩ = some (.string nm) ∧ ((w.alloc (.cells #[.int .i64 18, .string nm, .int .i64 n, .slice (some ⟨b, o, none⟩) 1 c] 24)).alloc (.cells #[.int .i64 0, .string ⟨#[]⟩, .int .i64 0, .slice none 0 0] 24)).cell? ⟨w.heap.size, 2, none⟩ = some (.int .i64 n) ∧ ((w.alloc (.cells #[.int .i64 18, .string nm, .int .i64 n, .slice (some ⟨b, o, none⟩) 1 c] 24)).alloc (.cells #[.int .i64 0, .string ⟨#[]⟩, .int .i64 0, .slice none 0 0] 24)).cell? ⟨w.heap.size, 3, none⟩ = some (.slice (some ⟨b, o, none⟩) 1 c) := by simp [go_sem]
  have FR0 : FourV' ((w.alloc (.cells #[.int .i64 18, .string nm, .int .i64 n, .slice (some ⟨b, o, none⟩) 1 c] 24)).alloc (.cells #[.int .i64 0, .string ⟨#[]⟩, .int .i64 0, .slice none 0 0] 24)) (w.heap.size + 1) (.int .i64 0) (.string ⟨#[]⟩) (.int .i64 0) (.slice none 0 0) := by simp [FourV', go_sem]
  have hX2 : w.heap.size + 1 < ((w.alloc (.cells #[.int .i64 18, .string nm, .int .i64 n, .slice (some ⟨b, o, none⟩) 1 c] 24)).alloc (.cells #[.int .i64 0, .string ⟨#[]⟩, .int .i64 0, .slice none 0 0] 24)).heap.size := by simp
  generalize hW2 : ((w.alloc (.cells #[.int .i64 18, .string nm, .int .i64 n, .slice (some ⟨b, o, none⟩) 1 c] 24)).alloc (.cells #[.int .i64 0, .string ⟨#[]⟩, .int .i64 0, .slice none 0 0] 24)) = W2 at *
  obtain ⟨q00, q01, q02, q03⟩ : Four W2 b o k0 := Four.keep kf0 hb2 hbl
  clear kin0 kf0
  unfold Tm.val
  simp only [Tm.op, Tm.nm, Tm.n, Tm.a, Tm.ks, Tm.c, List.length_cons, List.length_nil, Nat.zero_add]
  obtain ⟨u0, u1, u2, u3⟩ := TT
  have FR := mkHid FR0
  have SZ := hX2
  have BW := hb2
  clear FR0 hX2 hb2 ht hTV
  obtain ⟨m0, m1, m2, m3, f0, f1, f2, f3⟩ := FR.out
  have MK : Mk w (.node 18 nm n (some ⟨b, o, none⟩) c [k0]) W2 k0 := Mk.kid HT.out (by simp [Tm.ks]) BW
  have P := mkHid (Ck W2 MK.tin)
  have HMK := mkHid MK
  clear MK Ck
  unfold Tm.val at P
  go_enter Tryd.func93, Tryd.ntmps93
  go_wp2_with fail
  ((with_reducible refine P.out.mono ?_)); rintro e w3 ⟨z, rfl, ze, zt, zw, hb3⟩
  have HZ := mkHid (Mk.call HMK.out SZ zt zw)
  clear m0 m1 m2 m3 f0 f1 f2 f3
  obtain ⟨m0, m1, m2, m3, f0, f1, f2, f3⟩ := FR.out.later hb3
  clear u0 u1 u2 u3 q00 q01 q02 q03 hW2 zt zw P
  unfold Tm.val
  go_wp2
  refine bodyPost_ret (v := .agg #[.int .i64 z.op, .string z.nm, .int .i64 z.n, .slice z.a z.ks.length z.c]) (by simp [results, Tryd.results93, go_sem, m0, m1, m2, m3]) rfl (Mk.fin (x := z) (HZ.out) (bon BW hb3) ?_)
  rw [HFT.out, ze]
set_option maxRecDepth 100000 in
set_option maxHeartbeats 4000000 in
theorem down16 (F : Tm → Tm) (t : Tm) (hop : t.op = 16) (hF : F t = mkT 17 []) (w : World) (ht : TIn w w.heap.size t) : Calls Tryd.prog 93 #[t.val] w (BecP F t w) := by
  have HT := mkHid ht
  have HFT := mkHid hF
  clear hF
  have hTV : t.val = t.val := rfl
  obtain ⟨op, nm, n, a, c, ks⟩ := t
  simp only [Tm.op] at hop
  subst hop
  have hb2 : Below w.heap.size w ((w.alloc (.cells #[.int .i64 16, .string nm, .int .i64 n, .slice a ks.length c] 24)).alloc (.cells #[.int .i64 0, .string ⟨#[]⟩, .int .i64 0, .slice none 0 0] 24)) := bal (bal (Below.refl _ _) _) _
  have TT : ((w.alloc (.cells #[.int .i64 16, .string nm, .int .i64 n, .slice a ks.length c] 24)).alloc (.cells #[.int .i64 0, .string ⟨#[]⟩, .int .i64 0, .slice none 0 0] 24)).cell? ⟨w.heap.size, 0, none⟩ = some (.int .i64 16) ∧ ((w.alloc (.cells #[.int .i64 16, .string nm, .int .i64 n, .slice a ks.length c] 24)).alloc (.cells #[.int .i64 0, .string ⟨#[]⟩, .int .i64 0, .slice none 0 0] 24)).cell? ⟨w.heap.size, 1, none⟩ = some (.string nm) ∧ ((w.alloc (.cells #[.int .i64 16, .string nm, .int .i64 n, .slice a ks.length c] 24)).alloc (.cells #[.int .i64 0, .string ⟨#[]⟩, .int .i64 0, .slice none 0 0] 24)).cell? ⟨w.heap.size, 2, none⟩ = some (.int .i64 n) ∧ ((w.alloc (.cells #[.int .i64 16, .string nm, .int .i64 n, .slice a ks.length c] 24)).alloc (.cells #[.int .i64 0, .string ⟨#[]⟩, .int .i64 0, .slice none 0 0] 24)).cell? ⟨w.heap.size, 3, none⟩ = some (.slice a ks.length c) := by simp [go_sem]
  have FR0 : FourV' ((w.alloc (.cells #[.int .i64 16, .string nm, .int .i64 n, .slice a ks.length c] 24)).alloc (.cells #[.int .i64 0, .string ⟨#[]⟩, .int .i64 0, .slice none 0 0] 24)) (w.heap.size + 1) (.int .i64 0) (.string ⟨#[]⟩) (.int .i64 0) (.slice none 0 0) := by simp [FourV', go_sem]
  have hX2 : w.heap.size + 1 < ((w.alloc (.cells #[.int .i64 16, .string nm, .int .i64 n, .slice a ks.length c] 24)).alloc (.cells #[.int .i64 0, .string ⟨#[]⟩, .int .i64 0, .slice none 0 0] 24)).heap.size := by simp
  generalize hW2 : ((w.alloc (.cells #[.int .i64 16, .string nm, .int .i64 n, .slice a ks.length c] 24)).alloc (.cells #[.int .i64 0, .string ⟨#[]⟩, .int .i64 0, .slice none 0 0] 24)) = W2 at *
  unfold Tm.val
  simp only [Tm.op, Tm.nm, Tm.n, Tm.a, Tm.ks, Tm.c]
  obtain ⟨u0, u1, u2, u3⟩ := TT
  have FR := mkHid FR0
  have SZ := hX2
  have BW := hb2
  clear FR0 hX2 hb2 ht hTV
  obtain ⟨m0, m1, m2, m3, f0, f1, f2, f3⟩ := FR.out
  go_enter Tryd.func93, Tryd.ntmps93
  go_wp2_with fail
  refine bodyPost_ret (v := .agg #[.int .i64 17, .string ⟨#[]⟩, .int .i64 0, .slice none 0 0]) (by simp [results, Tryd.results93, go_sem, m0, m1, m2, m3]) rfl (Mk.fin (x := q0 17) (Mk.nil (by decide)) BW ?_)
  rw [HFT.out, q0_er]
set_option maxRecDepth 100000 in
set_option maxHeartbeats 4000000 in
theorem down17 (F : Tm → Tm) (t : Tm) (hop : t.op = 17) (hF : F t = mkT 16 []) (w : World) (ht : TIn w w.heap.size t) : Calls Tryd.prog 93 #[t.val] w (BecP F t w) := by
  have HT := mkHid ht
  have HFT := mkHid hF
  clear hF
  have hTV : t.val = t.val := rfl
  obtain ⟨op, nm, n, a, c, ks⟩ := t
  simp only [Tm.op] at hop
  subst hop
  have hb2 : Below w.heap.size w ((w.alloc (.cells #[.int .i64 17, .string nm, .int .i64 n, .slice a ks.length c] 24)).alloc (.cells #[.int .i64 0, .string ⟨#[]⟩, .int .i64 0, .slice none 0 0] 24)) := bal (bal (Below.refl _ _) _) _
  have TT : ((w.alloc (.cells #[.int .i64 17, .string nm, .int .i64 n, .slice a ks.length c] 24)).alloc (.cells #[.int .i64 0, .string ⟨#[]⟩, .int .i64 0, .slice none 0 0] 24)).cell? ⟨w.heap.size, 0, none⟩ = some (.int .i64 17) ∧ ((w.alloc (.cells #[.int .i64 17, .string nm, .int .i64 n, .slice a ks.length c] 24)).alloc (.cells #[.int .i64 0, .string ⟨#[]⟩, .int .i64 0, .slice none 0 0] 24)).cell? ⟨w.heap.size, 1, none⟩ = some (.string nm) ∧ ((w.alloc (.cells #[.int .i64 17, .string nm, .int .i64 n, .slice a ks.length c] 24)).alloc (.cells #[.int .i64 0, .string ⟨#[]⟩, .int .i64 0, .slice none 0 0] 24)).cell? ⟨w.heap.size, 2, none⟩ = some (.int .i64 n) ∧ ((w.alloc (.cells #[.int .i64 17, .string nm, .int .i64 n, .slice a ks.length c] 24)).alloc (.cells #[.int .i64 0, .string ⟨#[]⟩, .int .i64 0, .slice none 0 0] 24)).cell? ⟨w.heap.size, 3, none⟩ = some (.slice a ks.length c) := by simp [go_sem]
  have FR0 : FourV' ((w.alloc (.cells #[.int .i64 17, .string nm, .int .i64 n, .slice a ks.length c] 24)).alloc (.cells #[.int .i64 0, .string ⟨#[]⟩, .int .i64 0, .slice none 0 0] 24)) (w.heap.size + 1) (.int .i64 0) (.string ⟨#[]⟩) (.int .i64 0) (.slice none 0 0) := by simp [FourV', go_sem]
  have hX2 : w.heap.size + 1 < ((w.alloc (.cells #[.int .i64 17, .string nm, .int .i64 n, .slice a ks.length c] 24)).alloc (.cells #[.int .i64 0, .string ⟨#[]⟩, .int .i64 0, .slice none 0 0] 24)).heap.size := by simp
  generalize hW2 : ((w.alloc (.cells #[.int .i64 17, .string nm, .int .i64 n, .slice a ks.length c] 24)).alloc (.cells #[.int .i64 0, .string ⟨#[]⟩, .int .i64 0, .slice none 0 0] 24)) = W2 at *
  unfold Tm.val
  simp only [Tm.op, Tm.nm, Tm.n, Tm.a, Tm.ks, Tm.c]
  obtain ⟨u0, u1, u2, u3⟩ := TT
  have FR := mkHid FR0
  have SZ := hX2
  have BW := hb2
  clear FR0 hX2 hb2 ht hTV
  obtain ⟨m0, m1, m2, m3, f0, f1, f2, f3⟩ := FR.out
  go_enter Tryd.func93, Tryd.ntmps93
  go_wp2_with fail
  refine bodyPost_ret (v := .agg #[.int .i64 16, .string ⟨#[]⟩, .int .i64 0, .slice none 0 0]) (by simp [results, Tryd.results93, go_sem, m0, m1, m2, m3]) rfl (Mk.fin (x := q0 16) (Mk.nil (by decide)) BW ?_)
  rw [HFT.out, q0_er]
set_option maxRecDepth 100000 in
set_option maxHeartbeats 4000000 in
theorem down15 (F : Tm → Tm) (t : Tm) (hop : t.op = 15) {F0 : Tm → Tm} (Ct : ∀ w' : World, TIn w' w'.heap.size t → Calls Tryd.prog 68 #[t.val] w' (BecP F0 t w')) (hF : F t = mkT 18 [F0 t]) (w : World) (ht : TIn w w.heap.size t) : Calls Tryd.prog 93 #[t.val] w (BecP F t w) := by
  have HT := mkHid ht
  have HFT := mkHid hF
  clear hF
  have hTV : t.val = t.val := rfl
  obtain ⟨op, nm, n, a, c, ks⟩ := t
  simp only [Tm.op] at hop
  subst hop
  have hb2 : Below w.heap.size w ((w.alloc (.cells #[.int .i64 15, .string nm, .int .i64 n, .slice a ks.length c] 24)).alloc (.cells #[.int .i64 0, .string ⟨#[]⟩, .int .i64 0, .slice none 0 0] 24)) := bal (bal (Below.refl _ _) _) _
  have TT : ((w.alloc (.cells #[.int .i64 15, .string nm, .int .i64 n, .slice a ks.length c] 24)).alloc (.cells #[.int .i64 0, .string ⟨#[]⟩, .int .i64 0, .slice none 0 0] 24)).cell? ⟨w.heap.size, 0, none⟩ = some (.int .i64 15) ∧ ((w.alloc (.cells #[.int .i64 15, .string nm, .int .i64 n, .slice a ks.length c] 24)).alloc (.cells #[.int .i64 0, .string ⟨#[]⟩, .int .i64 0, .slice none 0 0] 24)).cell? ⟨w.heap.size, 1, none⟩ = some (.string nm) ∧ ((w.alloc (.cells #[.int .i64 15, .string nm, .int .i64 n, .slice a ks.length c] 24)).alloc (.cells #[.int .i64 0, .string ⟨#[]⟩, .int .i64 0, .slice none 0 0] 24)).cell? ⟨w.heap.size, 2, none⟩ = some (.int .i64 n) ∧ ((w.alloc (.cells #[.int .i64 15, .string nm, .int .i64 n, .slice a ks.length c] 24)).alloc (.cells #[.int .i64 0, .string ⟨#[]⟩, .int .i64 0, .slice none 0 0] 24)).cell? ⟨w.heap.size, 3, none⟩ = some (.slice a ks.length c) := by simp [go_sem]
  have FR0 : FourV' ((w.alloc (.cells #[.int .i64 15, .string nm, .int .i64 n, .slice a ks.length c] 24)).alloc (.cells #[.int .i64 0, .string ⟨#[]⟩, .int .i64 0, .slice none 0 0] 24)) (w.heap.size + 1) (.int .i64 0) (.string ⟨#[]⟩) (.int .i64 0) (.slice none 0 0) := by simp [FourV', go_sem]
  have hX2 : w.heap.size + 1 < ((w.alloc (.cells #[.int .i64 15, .string nm, .int .i64 n, .slice a ks.length c] 24)).alloc (.cells #[.int .i64 0, .string ⟨#[]⟩, .int .i64 0, .slice none 0 0] 24)).heap.size := by simp
  generalize hW2 : ((w.alloc (.cells #[.int .i64 15, .string nm, .int .i64 n, .slice a ks.length c] 24)).alloc (.cells #[.int .i64 0, .string ⟨#[]⟩, .int .i64 0, .slice none 0 0] 24)) = W2 at *
  unfold Tm.val
  simp only [Tm.op, Tm.nm, Tm.n, Tm.a, Tm.ks, Tm.c]
  obtain ⟨u0, u1, u2, u3⟩ := TT
  have FR := mkHid FR0
  have SZ := hX2
  have BW := hb2
  clear FR0 hX2 hb2 ht hTV
  obtain ⟨m0, m1, m2, m3, f0, f1, f2, f3⟩ := FR.out
  have P := mkHid (Ct W2 (HT.out.later BW))
  simp only [Tm.val, Tm.op, Tm.nm, Tm.n, Tm.a, Tm.ks, Tm.c] at P
  clear Ct
  go_enter Tryd.func93, Tryd.ntmps93
  go_wp2_with fail
  ((with_reducible refine P.out.mono ?_)); rintro e w3 ⟨z, rfl, ze, zt, zw, hb3⟩
  have HZ := mkHid (Mk.call (Mk.self HT.out BW) SZ zt zw)
  clear u0 u1 u2 u3 hW2 zt zw P
  have P2 := mkHid (rnot_any z w3 HZ.out.tin)
  unfold Tm.val at P2
  unfold Tm.val
  go_wp2_with fail
  ((with_reducible refine P2.out.mono ?_)); rintro e w5 ⟨y, rfl, ye, yt, yw, hb5⟩
  clear m0 m1 m2 m3 f0 f1 f2 f3
  obtain ⟨m0, m1, m2, m3, f0, f1, f2, f3⟩ := FR.out.later (bon hb3 hb5)
  have HY := mkHid (Mk.call2 HZ.out HZ.out (Nat.lt_of_lt_of_le SZ hb3.size) yt yw)
  clear P2 yt yw HZ
  unfold Tm.val
  go_wp2
  refine bodyPost_ret (v := .agg #[.int .i64 y.op, .string y.nm, .int .i64 y.n, .slice y.a y.ks.length y.c]) (by simp [results, Tryd.results93, go_sem, m0, m1, m2, m3]) rfl (Mk.fin (x := y) (HY.out) (bon (bon BW hb3) hb5) ?_)
  rw [HFT.out, ye, ze]
set_option maxRecDepth 100000 in
set_option maxHeartbeats 4000000 in
theorem down22 (F : Tm → Tm) (t : Tm) (hop : t.op = 22) {F0 : Tm → Tm} (Ct : ∀ w' : World, TIn w' w'.heap.size t → Calls Tryd.prog 68 #[t.val] w' (BecP F0 t w')) (hF : F t = mkT 18 [F0 t]) (w : World) (ht : TIn w w.heap.size t) : Calls Tryd.prog 93 #[t.val] w (BecP F t w) := by
  have HT := mkHid ht
  have HFT := mkHid hF
  clear hF
  have hTV : t.val = t.val := rfl
  obtain ⟨op, nm, n, a, c, ks⟩ := t
  simp only [Tm.op] at hop
  subst hop
  have hb2 : Below w.heap.size w ((w.alloc (.cells #[.int .i64 22, .string nm, .int .i64 n, .slice a ks.length c] 24)).alloc (.cells #[.int .i64 0, .string ⟨#[]⟩, .int .i64 0, .slice none 0 0] 24)) := bal (bal (Below.refl _ _) _) _
  have TT : ((w.alloc (.cells #[.int .i64 22, .string nm, .int .i64 n, .slice a ks.length c] 24)).alloc (.cells #[.int .i64 0, .string ⟨#[]⟩, .int .i64 0, .slice none 0 0] 24)).cell? ⟨w.heap.size, 0, none⟩ = some (.int .i64 22) ∧ ((w.alloc (.cells #[.int .i64 22, .string nm, .int .i64 n, .slice a ks.length c] 24)).alloc (.cells #[.int .i64 0, .string ⟨#[]⟩, .int .i64 0, .slice none 0 0] 24)).cell? ⟨w.heap.size, 1, none⟩ = some (.string nm) ∧ ((w.alloc (.cells #[.int .i64 22, .string nm, .int .i64 n, .slice a ks.length c] 24)).alloc (.cells #[.int .i64 0, .string ⟨#[]⟩, .int .i64 0, .slice none 0 0] 24)).cell? ⟨w.heap.size, 2, none⟩ = some (.int .i64 n) ∧ ((w.alloc (.cells #[.int .i64 22, .string nm, .int .i64 n, .slice a ks.length c] 24)).alloc (.cells #[.int .i64 0, .string ⟨#[]⟩, .int .i64 0, .slice none 0 0] 24)).cell? ⟨w.heap.size, 3, none⟩ = some (.slice a ks.length c) := by simp [go_sem]
  have FR0 : FourV' ((w.alloc (.cells #[.int .i64 22, .string nm, .int .i64 n, .slice a ks.length c] 24)).alloc (.cells #[.int .i64 0, .string ⟨#[]⟩, .int .i64 0, .slice none 0 0] 24)) (w.heap.size + 1) (.int .i64 0) (.string ⟨#[]⟩) (.int .i64 0) (.slice none 0 0) := by simp [FourV', go_sem]
  have hX2 : w.heap.size + 1 < ((w.alloc (.cells #[.int .i64 22, .string nm, .int .i64 n, .slice a ks.length c] 24)).alloc (.cells #[.int .i64 0, .string ⟨#[]⟩, .int .i64 0, .slice none 0 0] 24)).heap.size := by simp
  generalize hW2 : ((w.alloc (.cells #[.int .i64 22, .string nm, .int .i64 n, .slice a ks.length c] 24)).alloc (.cells #[.int .i64 0, .string ⟨#[]⟩, .int .i64 0, .slice none 0 0] 24)) = W2 at *
  unfold Tm.val
  simp only [Tm.op, Tm.nm, Tm.n, Tm.a, Tm.ks, Tm.c]
  obtain ⟨u0, u1, u2, u3⟩ := TT
  have FR := mkHid FR0
  have SZ := hX2
  have BW := hb2
  clear FR0 hX2 hb2 ht hTV
  obtain ⟨m0, m1, m2, m3, f0, f1, f2, f3⟩ := FR.out
  have P := mkHid (Ct W2 (HT.out.later BW))
  simp only [Tm.val, Tm.op, Tm.nm, Tm.n, Tm.a, Tm.ks, Tm.c] at P
  clear Ct
  go_enter Tryd.func93, Tryd.ntmps93
  go_wp2_with fail
  ((with_reducible refine P.out.mono ?_)); rintro e w3 ⟨z, rfl, ze, zt, zw, hb3⟩
  have HZ := mkHid (Mk.call (Mk.self HT.out BW) SZ zt zw)
  clear u0 u1 u2 u3 hW2 zt zw P
  have P2 := mkHid (rnot_any z w3 HZ.out.tin)
  unfold Tm.val at P2
  unfold Tm.val
  go_wp2_with fail
  ((with_reducible refine P2.out.mono ?_)); rintro e w5 ⟨y, rfl, ye, yt, yw, hb5⟩
  clear m0 m1 m2 m3 f0 f1 f2 f3
  obtain ⟨m0, m1, m2, m3, f0, f1, f2, f3⟩ := FR.out.later (bon hb3 hb5)
  have HY := mkHid (Mk.call2 HZ.out HZ.out (Nat.lt_of_lt_of_le SZ hb3.size) yt yw)
  clear P2 yt yw HZ
  unfold Tm.val
  go_wp2
  refine bodyPost_ret (v := .agg #[.int .i64 y.op, .string y.nm, .int .i64 y.n, .slice y.a y.ks.length y.c]) (by simp [results, Tryd.results93, go_sem, m0, m1, m2, m3]) rfl (Mk.fin (x := y) (HY.out) (bon (bon BW hb3) hb5) ?_)
  rw [HFT.out, ye, ze]
set_option maxRecDepth 100000 in
set_option maxHeartbeats 4000000 in
theorem down25 (F : Tm → Tm) (t : Tm) (hop : t.op = 25) {F0 : Tm → Tm} (Ct : ∀ w' : World, TIn w' w'.heap.size t → Calls Tryd.prog 68 #[t.val] w' (BecP F0 t w')) (hF : F t = mkT 18 [F0 t]) (w : World) (ht : TIn w w.heap.size t) : Calls Tryd.prog 93 #[t.val] w (BecP F t w) := by
  have HT := mkHid ht
  have HFT := mkHid hF
  clear hF
  have hTV : t.val = t.val := rfl
  obtain ⟨op, nm, n, a, c, ks⟩ := t
  simp only [Tm.op] at hop
  subst hop
  have hb2 : Below w.heap.size w ((w.alloc (.cells #[.int .i64 25, .string nm, .int .i64 n, .slice a ks.length c] 24)).alloc (.cells #[.int .i64 0, .string ⟨#[]⟩, .int .i64 0, .slice none 0 0] 24)) := bal (bal (Below.refl _ _) _) _
  have TT : ((w.alloc (.cells #[.int .i64 25, .string nm, .int .i64 n, .slice a ks.length c] 24)).alloc (.cells #[.int .i64 0, .string ⟨#[]⟩, .int .i64 0, .slice none 0 0] 24)).cell? ⟨w.heap.size, 0, none⟩ = some (.int .i64 25) ∧ ((w.alloc (.cells #[.int .i64 25, .string nm, .int .i64 n, .slice a ks.length c] 24)).alloc (.cells #[.int .i64 0, .string ⟨#[]⟩, .int .i64 0, .slice none 0 0] 24)).cell? ⟨w.heap.size, 1, none⟩ = some (.string nm) ∧ ((w.alloc (.cells #[.int .i64 25, .string nm, .int .i64 n, .slice a ks.length c] 24)).alloc (.cells #[.int .i64 0, .string ⟨#[]⟩, .int .i64 0, .slice none 0 0] 24)).cell? ⟨w.heap.size, 2, none⟩ = some (.int .i64 n) ∧ ((w.alloc (.cells #[.int .i64 25, .string nm, .int .i64 n, .slice a ks.length c] 24)).alloc (.cells #[.int .i64 0, .string ⟨#[]⟩, .int .i64 0, .slice none 0 0] 24)).cell? ⟨w.heap.size, 3, none⟩ = some (.slice a ks.length c) := by simp [go_sem]
  have FR0 : FourV' ((w.alloc (.cells #[.int .i64 25, .string nm, .int .i64 n, .slice a ks.length c] 24)).alloc (.cells #[.int .i64 0, .string ⟨#[]⟩, .int .i64 0, .slice none 0 0] 24)) (w.heap.size + 1) (.int .i64 0) (.string ⟨#[]⟩) (.int .i64 0) (.slice none 0 0) := by simp [FourV', go_sem]
  have hX2 : w.heap.size + 1 < ((w.alloc (.cells #[.int .i64 25, .string nm, .int .i64 n, .slice a ks.length c] 24)).alloc (.cells #[.int .i64 0, .string ⟨#[]⟩, .int .i64 0, .slice none 0 0] 24)).heap.size := by simp
  generalize hW2 : ((w.alloc (.cells #[.int .i64 25, .string nm, .int .i64 n, .slice a ks.length c] 24)).alloc (.cells #[.int .i64 0, .string ⟨#[]⟩, .int .i64 0, .slice none 0 0] 24)) = W2 at *
  unfold Tm.val
  simp only [Tm.op, Tm.nm, Tm.n, Tm.a, Tm.ks, Tm.c]
  obtain ⟨u0, u1, u2, u3⟩ := TT
  have FR := mkHid FR0
  have SZ := hX2
  have BW := hb2
  clear FR0 hX2 hb2 ht hTV
  obtain ⟨m0, m1, m2, m3, f0, f1, f2, f3⟩ := FR.out
  have P := mkHid (Ct W2 (HT.out.later BW))
  simp only [Tm.val, Tm.op, Tm.nm, Tm.n, Tm.a, Tm.ks, Tm.c] at P
  clear Ct
  go_enter Tryd.func93, Tryd.ntmps93
  go_wp2_with fail
  ((with_reducible refine P.out.mono ?_)); rintro e w3 ⟨z, rfl, ze, zt, zw, hb3⟩
  have HZ := mkHid (Mk.call (Mk.self HT.out BW) SZ zt zw)
  clear u0 u1 u2 u3 hW2 zt zw P
  have P2 := mkHid (rnot_any z w3 HZ.out.tin)
  unfold Tm.val at P2
  unfold Tm.val
  go_wp2_with fail
  ((with_reducible refine P2.out.mono ?_)); rintro e w5 ⟨y, rfl, ye, yt, yw, hb5⟩
  clear m0 m1 m2 m3 f0 f1 f2 f3
  obtain ⟨m0, m1, m2, m3, f0, f1, f2, f3⟩ := FR.out.later (bon hb3 hb5)
  have HY := mkHid (Mk.call2 HZ.out HZ.out (Nat.lt_of_lt_of_le SZ hb3.size) yt yw)
  clear P2 yt yw HZ
  unfold Tm.val
  go_wp2
  refine bodyPost_ret (v := .agg #[.int .i64 y.op, .string y.nm, .int .i64 y.n, .slice y.a y.ks.length y.c]) (by simp [results, Tryd.results93, go_sem, m0, m1, m2, m3]) rfl (Mk.fin (x := y) (HY.out) (bon (bon BW hb3) hb5) ?_)
  rw [HFT.out, ye, ze]
set_option maxRecDepth 100000 in
set_option maxHeartbeats 4000000 in
theorem down26 (F : Tm → Tm) (t : Tm) (hop : t.op = 26) {F0 : Tm → Tm} (Ct : ∀ w' : World, TIn w' w'.heap.size t → Calls Tryd.prog 68 #[t.val] w' (BecP F0 t w')) (hF : F t = mkT 18 [F0 t]) (w : World) (ht : TIn w w.heap.size t) : Calls Tryd.prog 93 #[t.val] w (BecP F t w) := by
  have HT := mkHid ht
  have HFT := mkHid hF
  clear hF
  have hTV : t.val = t.val := rfl
  obtain ⟨op, nm, n, a, c, ks⟩ := t
  simp only [Tm.op] at hop
  subst hop
  have hb2 : Below w.heap.size w ((w.alloc (.cells #[.int .i64 26, .string nm, .int .i64 n, .slice a ks.length c] 24)).alloc (.cells #[.int .i64 0, .string ⟨#[]⟩, .int .i64 0, .slice none 0 0] 24)) := bal (bal (Below.refl _ _) _) _
  have TT : ((w.alloc (.cells #[.int .i64 26, .string nm, .int .i64 n, .slice a ks.length c] 24)).alloc (.cells #[.int .i64 0, .string ⟨#[]⟩, .int .i64 0, .slice none 0 0] 24)).cell? ⟨w.heap.size, 0, none⟩ = some (.int .i64 26) ∧ ((w.alloc (.cells #[.int .i64 26, .string nm, .int .i64 n, .slice a ks.length c] 24)).alloc (.cells #[.int .i64 0, .string ⟨#[]⟩, .int .i64 0, .slice none 0 0] 24)).cell? ⟨w.heap.size, 1, none⟩ = some (.string nm) ∧ ((w.alloc (.cells #[.int .i64 26, .string nm, .int .i64 n, .slice a ks.length c] 24)).alloc (.cells #[.int .i64 0, .string ⟨#[]⟩, .int .i64 0, .slice none 0 0] 24)).cell? ⟨w.heap.size, 2, none⟩ = some (.int .i64 n) ∧ ((w.alloc (.cells #[.int .i64 26, .string nm, .int .i64 n, .slice a ks.length c] 24)).alloc (.cells #[.int .i64 0, .string ⟨#[]⟩, .int .i64 0, .slice none 0 0] 24)).cell? ⟨w.heap.size, 3, none⟩ = some (.slice a ks.length c) := by simp [go_sem]
  have FR0 : FourV' ((w.alloc (.cells #[.int .i64 26, .string nm, .int .i64 n, .slice a ks.length c] 24)).alloc (.cells #[.int .i64 0, .string ⟨#[]⟩, .int .i64 0, .slice none 0 0] 24)) (w.heap.size + 1) (.int .i64 0) (.string ⟨#[]⟩) (.int .i64 0) (.slice none 0 0) := by simp [FourV', go_sem]
  have hX2 : w.heap.size + 1 < ((w.alloc (.cells #[.int .i64 26, .string nm, .int .i64 n, .slice a ks.length c] 24)).alloc (.cells #[.int .i64 0, .string ⟨#[]⟩, .int .i64 0, .slice none 0 0] 24)).heap.size := by simp
  generalize hW2 : ((w.alloc (.cells #[.int .i64 26, .string nm, .int .i64 n, .slice a ks.length c] 24)).alloc (.cells #[.int .i64 0, .string ⟨#[]⟩, .int .i64 0, .slice none 0 0] 24)) = W2 at *
  unfold Tm.val
  simp only [Tm.op, Tm.nm, Tm.n, Tm.a, Tm.ks, Tm.c]
  obtain ⟨u0, u1, u2, u3⟩ := TT
  have FR := mkHid FR0
  have SZ := hX2
  have BW := hb2
  clear FR0 hX2 hb2 ht hTV
  obtain ⟨m0, m1, m2, m3, f0, f1, f2, f3⟩ := FR.out
  have P := mkHid (Ct W2 (HT.out.later BW))
  simp only [Tm.val, Tm.op, Tm.nm, Tm.n, Tm.a, Tm.ks, Tm.c] at P
  clear Ct
  go_enter Tryd.func93, Tryd.ntmps93
  go_wp2_with fail
  ((with_reducible refine P.out.mono ?_)); rintro e w3 ⟨z, rfl, ze, zt, zw, hb3⟩
  have HZ := mkHid (Mk.call (Mk.self HT.out BW) SZ zt zw)
  clear u0 u1 u2 u3 hW2 zt zw P
  have P2 := mkHid (rnot_any z w3 HZ.out.tin)
  unfold Tm.val at P2
  unfold Tm.val
  go_wp2_with fail
  ((with_reducible refine P2.out.mono ?_)); rintro e w5 ⟨y, rfl, ye, yt, yw, hb5⟩
  clear m0 m1 m2 m3 f0 f1 f2 f3
  obtain ⟨m0, m1, m2, m3, f0, f1, f2, f3⟩ := FR.out.later (bon hb3 hb5)
  have HY := mkHid (Mk.call2 HZ.out HZ.out (Nat.lt_of_lt_of_le SZ hb3.size) yt yw)
  clear P2 yt yw HZ
  unfold Tm.val
  go_wp2
  refine bodyPost_ret (v := .agg #[.int .i64 y.op, .string y.nm, .int .i64 y.n, .slice y.a y.ks.length y.c]) (by simp [results, Tryd.results93, go_sem, m0, m1, m2, m3]) rfl (Mk.fin (x := y) (HY.out) (bon (bon BW hb3) hb5) ?_)
  rw [HFT.out, ye, ze]
set_option maxRecDepth 100000 in
set_option maxHeartbeats 4000000 in
theorem down28 (F : Tm → Tm) (t : Tm) (hop : t.op = 28) {F0 : Tm → Tm} (Ct : ∀ w' : World, TIn w' w'.heap.size t → Calls Tryd.prog 68 #[t.val] w' (BecP F0 t w')) (hF : F t = mkT 18 [F0 t]) (w : World) (ht : TIn w w.heap.size t) : Calls Tryd.prog 93 #[t.val] w (BecP F t w) := by
  have HT := mkHid ht
  have HFT := mkHid hF
  clear hF
  have hTV : t.val = t.val := rfl
  obtain ⟨op, nm, n, a, c, ks⟩ := t
  simp only [Tm.op] at hop
  subst hop
  have hb2 : Below w.heap.size w ((w.alloc (.cells #[.int .i64 28, .string nm, .int .i64 n, .slice a ks.length c] 24)).alloc (.cells #[.int .i64 0, .string ⟨#[]⟩, .int .i64 0, .slice none 0 0] 24)) := bal (bal (Below.refl _ _) _) _
  have TT : ((w.alloc (.cells #[.int .i64 28, .string nm, .int .i64 n, .slice a ks.length c] 24)).alloc (.cells #[.int .i64 0, .string ⟨#[]⟩, .int .i64 0, .slice none 0 0] 24)).cell? ⟨w.heap.size, 0, none⟩ = some (.int .i64 28) ∧ ((w.alloc (.cells #[.int .i64 28, .string nm, .int .i64 n, .slice a ks.length c] 24)).alloc (.cells #[.int .i64 0, .string ⟨#[]⟩, .int .i64 0, .slice none 0 0] 24)).cell? ⟨w.heap.size, 1, none⟩ = some (.string nm) ∧ ((w.alloc (.cells #[.int .i64 28, .string nm, .int .i64 n, .slice a ks.length c] 24)).alloc (.cells #[.int .i64 0, .string ⟨#[]⟩, .int .i64 0, .slice none 0 0] 24)).cell? ⟨w.heap.size, 2, none⟩ = some (.int .i64 n) ∧ ((w.alloc (.cells #[.int .i64 28, .string nm, .int .i64 n, .slice a ks.length c] 24)).alloc (.cells #[.int .i64 0, .string ⟨#[]⟩, .int .i64 0, .slice none 0 0] 24)).cell? ⟨w.heap.size, 3, none⟩ = some (.slice a ks.length c) := by simp [go_sem]
  have FR0 : FourV' ((w.alloc (.cells #[.int .i64 28, .string nm, .int .i64 n, .slice a ks.length c] 24)).alloc (.cells #[.int .i64 0, .string ⟨#[]⟩, .int .i64 0, .slice none 0 0] 24)) (w.heap.size + 1) (.int .i64 0) (.string ⟨#[]⟩) (.int .i64 0) (.slice none 0 0) := by simp [FourV', go_sem]
  have hX2 : w.heap.size + 1 < ((w.alloc (.cells #[.int .i64 28, .string nm, .int .i64 n, .slice a ks.length c] 24)).alloc (.cells #[.int .i64 0, .string ⟨#[]⟩, .int .i64 0, .slice none 0 0] 24)).heap.size := by simp
  generalize hW2 : ((w.alloc (.cells #[.int .i64 28, .string nm, .int .i64 n, .slice a ks.length c] 24)).alloc (.cells #[.int .i64 0, .string ⟨#[]⟩, .int .i64 0, .slice none 0 0] 24)) = W2 at *
  unfold Tm.val
  simp only [Tm.op, Tm.nm, Tm.n, Tm.a, Tm.ks, Tm.c]
  obtain ⟨u0, u1, u2, u3⟩ := TT
  have FR := mkHid FR0
  have SZ := hX2
  have BW := hb2
  clear FR0 hX2 hb2 ht hTV
  obtain ⟨m0, m1, m2, m3, f0, f1, f2, f3⟩ := FR.out
  have P := mkHid (Ct W2 (HT.out.later BW))
  simp only [Tm.val, Tm.op, Tm.nm, Tm.n, Tm.a, Tm.ks, Tm.c] at P
  clear Ct
  go_enter Tryd.func93, Tryd.ntmps93
  go_wp2_with fail
  ((with_reducible refine P.out.mono ?_)); rintro e w3 ⟨z, rfl, ze, zt, zw, hb3⟩
  have HZ := mkHid (Mk.call (Mk.self HT.out BW) SZ zt zw)
  clear u0 u1 u2 u3 hW2 zt zw P
  have P2 := mkHid (rnot_any z w3 HZ.out.tin)
  unfold Tm.val at P2
  unfold Tm.val
  go_wp2_with fail
  ((with_reducible refine P2.out.mono ?_)); rintro e w5 ⟨y, rfl, ye, yt, yw, hb5⟩
  clear m0 m1 m2 m3 f0 f1 f2 f3
  obtain ⟨m0, m1, m2, m3, f0, f1, f2, f3⟩ := FR.out.later (bon hb3 hb5)
  have HY := mkHid (Mk.call2 HZ.out HZ.out (Nat.lt_of_lt_of_le SZ hb3.size) yt yw)
  clear P2 yt yw HZ
  unfold Tm.val
  go_wp2
  refine bodyPost_ret (v := .agg #[.int .i64 y.op, .string y.nm, .int .i64 y.n, .slice y.a y.ks.length y.c]) (by simp [results, Tryd.results93, go_sem, m0, m1, m2, m3]) rfl (Mk.fin (x := y) (HY.out) (bon (bon BW hb3) hb5) ?_)
  rw [HFT.out, ye, ze]
set_option maxRecDepth 100000 in
set_option maxHeartbeats 4000000 in
theorem up23 (F : Tm → Tm) (t : Tm) (k0 k1 : Tm) (hop : t.op = 23) (hks : t.ks = [k0, k1]) (hF : F t = notT (leT k1.er k0.er)) (w : World) (ht : TIn w w.heap.size t) : Calls Tryd.prog 68 #[t.val] w (BecP F t w) := by
  have HT := mkHid ht
  have HFT := mkHid hF
  clear hF
  have hTV : t.val = t.val := rfl
  obtain ⟨op, nm, n, a, c, ks⟩ := t
  simp only [Tm.op, Tm.ks] at hop hks
  subst hop hks
  obtain ⟨kin0, b, o, ha, hbl, kf0⟩ := ht.kid 0 (by simp [Tm.ks])
  obtain ⟨kin1, b1, o1, ha1, hbl1, kf1⟩ := ht.kid 1 (by simp [Tm.ks])
  simp only [Tm.a, Tm.ks, List.getElem_cons_zero, List.getElem_cons_succ, Nat.zero_mul, Nat.one_mul, Nat.add_zero] at ha kin0 kf0 ha1 kin1 kf1
  subst ha
  cases ha1
  have hb2 : Below w.heap.size w ((w.alloc (.cells #[.int .i64 23, .string nm, .int .i64 n, .slice (some ⟨b, o, none⟩) 2 c] 24)).alloc (.cells #[.int .i64 0, .string ⟨#[]⟩, .int .i64 0, .slice none 0 0] 24)) := bal (bal (Below.refl _ _) _) _
  have TT : ((w.alloc (.cells #[.int .i64 23, .string nm, .int .i64 n, .slice (some ⟨b, o, none⟩) 2 c] 24)).alloc (.cells #[.int .i64 0, .string ⟨#[]⟩, .int .i64 0, .slice none 0 0] 24)).cell? ⟨w.heap.size, 0, none⟩ = some (.int .i64 23) ∧ ((w.alloc (.cells #[.int .i64 23, .string nm, .int .i64 n, .slice (some ⟨b, o, none⟩) 2 c] 24)).alloc (.cells #[.int .i64 0, .string ⟨#[]⟩, .int .i64 0, .slice none 0 0] 24)).cell? ⟨w.heap.size, 1, none⟩ = some (.string nm) ∧ ((w.alloc (.cells #[.int .i64 23, .string nm, .int .i64 n, .slice (some ⟨b, o, none⟩) 2 c] 24)).alloc (.cells #[.int .i64 0, .string ⟨#[]⟩, .int .i64 0, .slice none 0 0] 24)).cell? ⟨w.heap.size, 2, none⟩ = some (.int .i64 n) ∧ ((w.alloc (.cells #[.int .i64 23, .string nm, .int .i64 n, .slice (some ⟨b, o, none⟩) 2 c] 24)).alloc (.cells #[.int .i64 0, .string ⟨#[]⟩, .int .i64 0, .slice none 0 0] 24)).cell? ⟨w.heap.size, 3, none⟩ = some (.slice (some ⟨b, o, none⟩) 2 c) := by simp [go_sem]
  have FR0 : FourV' ((w.alloc (.cells #[.int .i64 23, .string nm, .int .i64 n, .slice (some ⟨b, o, none⟩) 2 c] 24)).alloc (.cells #[.int .i64 0, .string ⟨#[]⟩, .int .i64 0, .slice none 0 0] 24)) (w.heap.size + 1) (.int .i64 0) (.string ⟨#[]⟩) (.int .i64 0) (.slice none 0 0) := by simp [FourV', go_sem]
  have hX2 : w.heap.size + 1 < ((w.alloc (.cells #[.int .i64 23, .string nm, .int .i64 n, .slice (some ⟨b, o, none⟩) 2 c] 24)).alloc (.cells #[.int .i64 0, .string ⟨#[]⟩, .int .i64 0, .slice none 0 0] 24)).heap.size := by simp
  generalize hW2 : ((w.alloc (.cells #[.int .i64 23, .string nm, .int .i64 n, .slice (some ⟨b, o, none⟩) 2 c] 24)).alloc (.cells #[.int .i64 0, .string ⟨#[]⟩, .int .i64 0, .slice none 0 0] 24)) = W2 at *
  obtain ⟨q00, q01, q02, q03⟩ : Four W2 b o k0 := Four.keep kf0 hb2 hbl
  obtain ⟨q10, q11, q12, q13⟩ : Four W2 b (o + 4) k1 := Four.keep kf1 hb2 hbl1
  clear kin0 kf0 kin1 kf1
  unfold Tm.val
  simp only [Tm.op, Tm.nm, Tm.n, Tm.a, Tm.ks, Tm.c, List.length_cons, List.length_nil, Nat.zero_add, Nat.reduceAdd]
  obtain ⟨u0, u1, u2, u3⟩ := TT
  have FR := mkHid FR0
  have SZ := hX2
  have BW := hb2
  clear FR0 hX2 hb2 ht hTV
  go_enter Tryd.func68, Tryd.ntmps68
  go_wp2_with fail
  (try dsimp only [List.append])
  refine wp_region_held_drew (S := fun w' => w'.cell? ⟨w.heap.size, 0, none⟩ = some (.int .i64 23) ∧ w'.cell? ⟨w.heap.size, 1, none⟩ = some (.string nm) ∧ w'.cell? ⟨w.heap.size, 2, none⟩ = some (.int .i64 n) ∧ w'.cell? ⟨w.heap.size, 3, none⟩ = some (.slice (some ⟨b, o, none⟩) 2 c) ∧ w'.cell? ⟨b, o, none⟩ = some (.int .i64 k0.op) ∧ w'.cell? ⟨b, o + 1, none⟩ = some (.string k0.nm) ∧ w'.cell? ⟨b, o + 2, none⟩ = some (.int .i64 k0.n) ∧ w'.cell? ⟨b, o + 3, none⟩ = some (.slice k0.a k0.ks.length k0.c) ∧ w'.cell? ⟨b, o + 4, none⟩ = some (.int .i64 k1.op) ∧ w'.cell? ⟨b, o + 4 + 1, none⟩ = some (.string k1.nm) ∧ w'.cell? ⟨b, o + 4 + 2, none⟩ = some (.int .i64 k1.n) ∧ w'.cell? ⟨b, o + 4 + 3, none⟩ = some (.slice k1.a k1.ks.length k1.c)) (by kernel_rfl) ⟨u0, u1, u2, u3, q00, q01, q02, q03, q10, q11, q12, q13⟩ (fun hHeld => ?_)
  replace FR := mkHid (FR.out.later (bdrew (Below.refl W2.heap.size W2)))
  replace BW := bdrew BW
  replace SZ : w.heap.size + 1 < W2.drew.heap.size := SZ
  clear hW2 u0 u1 u2 u3 q00 q01 q02 q03 q10 q11 q12 q13
  generalize W2.drew = V at *
  refine wpAnyH_take (i := 0) (v := ?_) rfl (by kernel_rfl) (by kernel_rfl) (by kernel_rfl) (fun _ _ _ h => h) (Or.inl ⟨by kernel_rfl, ?_⟩) (by assumption) ?_
  rotate_left
  · (intro w hSw; (try dsimp only at hSw); go_simp; try with_reducible rfl)
  simp only [Act.put, List.getElem_toArray, List.getElem_cons_zero, List.setIfInBounds_toArray, List.set_cons_zero, List.set_cons_succ]
  refine wpAnyH_take (i := 1) (v := ?_) rfl (by kernel_rfl) (by kernel_rfl) (by kernel_rfl) (fun _ _ _ h => h) (Or.inl ⟨by kernel_rfl, ?_⟩) (by assumption) ?_
  rotate_left
  · (intro w hSw; (try dsimp only at hSw); go_simp; try with_reducible rfl)
  simp only [Act.put, List.getElem_toArray, List.getElem_cons_succ, List.getElem_cons_zero, List.setIfInBounds_toArray, List.set_cons_zero, List.set_cons_succ]
  refine wpAnyH_take (i := 2) (v := ?_) rfl (by kernel_rfl) (by kernel_rfl) (by kernel_rfl) (fun _ _ _ h => h) (Or.inl ⟨by kernel_rfl, ?_⟩) (by assumption) ?_
  rotate_left
  · (intro w hSw; (try dsimp only at hSw); go_simp; try with_reducible rfl)
  simp only [Act.put, List.getElem_toArray, List.getElem_cons_succ, List.getElem_cons_zero, List.setIfInBounds_toArray, List.set_cons_zero, List.set_cons_succ]
  refine wpAnyH_take (i := 3) (v := ?_) rfl (by kernel_rfl) (by kernel_rfl) (by kernel_rfl) (fun _ _ _ h => h) (Or.inl ⟨by kernel_rfl, ?_⟩) (by assumption) ?_
  rotate_left
  · (intro w hSw; (try dsimp only at hSw); go_simp; try with_reducible rfl)
  simp only [Act.put, List.getElem_toArray, List.getElem_cons_succ, List.getElem_cons_zero, List.setIfInBounds_toArray, List.set_cons_zero, List.set_cons_succ]
  refine wpAnyH_take (i := 4) (v := ?_) rfl (by kernel_rfl) (by kernel_rfl) (by kernel_rfl) (fun _ _ _ h => h) (Or.inl ⟨by kernel_rfl, ?_⟩) (by assumption) ?_
  rotate_left
  · (intro w hSw; (try dsimp only at hSw); go_simp; try with_reducible rfl)
  simp only [Act.put, List.getElem_toArray, List.getElem_cons_succ, List.getElem_cons_zero, List.setIfInBounds_toArray, List.set_cons_zero, List.set_cons_succ]
  refine wpAnyH_take (i := 5) (v := ?_) rfl (by kernel_rfl) (by kernel_rfl) (by kernel_rfl) (fun _ _ _ h => h) (Or.inl ⟨by kernel_rfl, ?_⟩) (by assumption) ?_
  rotate_left
  · (intro w hSw; (try dsimp only at hSw); go_simp; try with_reducible rfl)
  simp only [Act.put, List.getElem_toArray, List.getElem_cons_succ, List.getElem_cons_zero, List.setIfInBounds_toArray, List.set_cons_zero, List.set_cons_succ]
  refine wpAnyH_take (i := 6) (v := ?_) rfl (by kernel_rfl) (by kernel_rfl) (by kernel_rfl) (fun _ _ _ h => h) (Or.inl ⟨by kernel_rfl, ?_⟩) (by assumption) ?_
  rotate_left
  · (intro w hSw; (try dsimp only at hSw); go_simp; try with_reducible rfl)
  simp only [Act.put, List.getElem_toArray, List.getElem_cons_succ, List.getElem_cons_zero, List.setIfInBounds_toArray, List.set_cons_zero, List.set_cons_succ]
  refine wpAnyH_take (i := 7) (v := ?_) rfl (by kernel_rfl) (by kernel_rfl) (by kernel_rfl) (fun _ _ _ h => h) (Or.inl ⟨by kernel_rfl, ?_⟩) (by assumption) ?_
  rotate_left
  · (intro w hSw; (try dsimp only at hSw); go_simp; try with_reducible rfl)
  simp only [Act.put, List.getElem_toArray, List.getElem_cons_succ, List.getElem_cons_zero, List.setIfInBounds_toArray, List.set_cons_zero, List.set_cons_succ]
  have Mk0 := mkHid (Mk.kid (k := k0) HT.out (by simp [Tm.ks]) BW)
  have Mk1 := mkHid (Mk.kid (k := k1) HT.out (by simp [Tm.ks]) BW)
  refine wpAnyH_ready (rs := [8]) (by kernel_rfl) (by simp) ?_
  refine AllReadyH.cons rfl (fun K hK => ?_) AllReadyH.nil
  have P3 : Hid (Calls Tryd.prog 94 #[.int .i64 22, .agg #[.int .i64 k1.op, .string k1.nm, .int .i64 k1.n, .slice k1.a k1.ks.length k1.c], .agg #[.int .i64 k0.op, .string k0.nm, .int .i64 k0.n, .slice k0.a k0.ks.length k0.c]] V (BecP2 (mkT 22 [k1.er, k0.er]) k1 k0 V)) := rtwo_any 22 (by decide) k1 k0 V Mk1.out.tin Mk0.out.tin
  have O3a := Mk1
  have O3b := Mk0
  go_simp
  go_wp2_with (go_at_call 94; ((with_reducible refine (P3.out).mono ?_)); rintro e w3 ⟨z, rfl, ze, zt, zw, hb3⟩)
  refine hK.out _ _ (keep12 (by assumption) hb3) (fun hHeld => ?_)
  clear hK
  have BW1 := bon BW hb3
  have SZ1 : w.heap.size + 1 < w3.heap.size := Nat.lt_of_lt_of_le SZ hb3.size
  have FR1 := mkHid (FR.out.later hb3)
  replace Mk0 := mkHid (Mk0.out.later hb3)
  replace Mk1 := mkHid (Mk1.out.later hb3)
  have Mz := mkHid (Mk.call2 O3a.out O3b.out SZ zt zw)
  clear O3a O3b P3 zt zw
  unfold Tm.val
  refine wpAnyH_ready (rs := [9]) (by kernel_rfl) (by simp) ?_
  refine AllReadyH.cons rfl (fun K hK => ?_) AllReadyH.nil
  have P4 : Hid (Calls Tryd.prog 95 #[.agg #[.int .i64 z.op, .string z.nm, .int .i64 z.n, .slice z.a z.ks.length z.c]] w3 (BecP2 (mkT 18 [z.er]) z z w3)) := rnot_any z w3 Mz.out.tin
  have O4a := Mz
  have O4b := Mz
  go_simp
  go_wp2_with (go_at_call 95; ((with_reducible refine (P4.out).mono ?_)); rintro e w4 ⟨y, rfl, ye, yt, yw, hb4⟩)
  refine hK.out _ _ (keep12 (by assumption) hb4) (fun hHeld => ?_)
  clear hK
  have BW2 := bon BW1 hb4
  have SZ2 : w.heap.size + 1 < w4.heap.size := Nat.lt_of_lt_of_le SZ1 hb4.size
  have FR2 := mkHid (FR1.out.later hb4)
  replace Mk0 := mkHid (Mk0.out.later hb4)
  replace Mk1 := mkHid (Mk1.out.later hb4)
  replace Mz := mkHid (Mz.out.later hb4)
  have My := mkHid (Mk.call2 O4a.out O4b.out SZ1 yt yw)
  clear O4a O4b P4 yt yw
  unfold Tm.val
  obtain ⟨m0, m1, m2, m3, f0, f1, f2, f3⟩ := FR2.out
  refine wpAnyH_ready (rs := [10]) (by kernel_rfl) (by simp) ?_
  refine AllReadyH.cons rfl (fun K hK => ?_) AllReadyH.nil
  go_simp
  have BS : But (w.heap.size + 1) w4 ((((w4.setCell ⟨w.heap.size + 1, 0, none⟩ (.int .i64 y.op)).setCell ⟨w.heap.size + 1, 1, none⟩ (.string y.nm)).setCell ⟨w.heap.size + 1, 2, none⟩ (.int .i64 y.n)).setCell ⟨w.heap.size + 1, 3, none⟩ (.slice y.a y.ks.length y.c)) := ((((But.refl _ _).set (p := ⟨w.heap.size + 1, 0, none⟩) (.inl rfl) _).set (p := ⟨w.heap.size + 1, 1, none⟩) (.inl rfl) _).set (p := ⟨w.heap.size + 1, 2, none⟩) (.inl rfl) _).set (p := ⟨w.heap.size + 1, 3, none⟩) (.inl rfl) _
  have HN0 : Hid (w.heap.size ≠ w.heap.size + 1) := Nat.ne_of_lt (Nat.lt_succ_self _)
  have HNb : Hid (b ≠ w.heap.size + 1) := Nat.ne_of_lt (Nat.lt_succ_of_lt hbl)
  refine hK.out _ _ (keep12B (by assumption) BS HN0.out HN0.out HN0.out HN0.out HNb.out HNb.out HNb.out HNb.out HNb.out HNb.out HNb.out HNb.out) (fun hHeld => ?_)
  clear hK hHeld
  refine wpAnyH_done (by kernel_rfl) ?_ _
  go_wp2
  refine bodyPost_ret (v := .agg #[.int .i64 y.op, .string y.nm, .int .i64 y.n, .slice y.a y.ks.length y.c]) (by simp [results, Tryd.results68, go_sem, m0, m1, m2, m3]) rfl (Mk.fin (x := y) My.out BW2 ?_)
  rw [HFT.out, ye, ze]; all_goals rfl
set_option maxRecDepth 100000 in
set_option maxHeartbeats 4000000 in
theorem up26 (F : Tm → Tm) (t : Tm) (k0 k1 : Tm) (hop : t.op = 26) (hks : t.ks = [k0, k1]) (hF : F t = insT k0.er k1.er) (w : World) (ht : TIn w w.heap.size t) : Calls Tryd.prog 68 #[t.val] w (BecP F t w) := by
  have HT := mkHid ht
  have HFT := mkHid hF
  clear hF
  have hTV : t.val = t.val := rfl
  obtain ⟨op, nm, n, a, c, ks⟩ := t
  simp only [Tm.op, Tm.ks] at hop hks
  subst hop hks
  obtain ⟨kin0, b, o, ha, hbl, kf0⟩ := ht.kid 0 (by simp [Tm.ks])
  obtain ⟨kin1, b1, o1, ha1, hbl1, kf1⟩ := ht.kid 1 (by simp [Tm.ks])
  simp only [Tm.a, Tm.ks, List.getElem_cons_zero, List.getElem_cons_succ, Nat.zero_mul, Nat.one_mul, Nat.add_zero] at ha kin0 kf0 ha1 kin1 kf1
  subst ha
  cases ha1
  have hb2 : Below w.heap.size w ((w.alloc (.cells #[.int .i64 26, .string nm, .int .i64 n, .slice (some ⟨b, o, none⟩) 2 c] 24)).alloc (.cells #[.int .i64 0, .string ⟨#[]⟩, .int .i64 0, .slice none 0 0] 24)) := bal (bal (Below.refl _ _) _) _
  have TT : ((w.alloc (.cells #[.int .i64 26, .string nm, .int .i64 n, .slice (some ⟨b, o, none⟩) 2 c] 24)).alloc (.cells #[.int .i64 0, .string ⟨#[]⟩, .int .i64 0, .slice none 0 0] 24)).cell? ⟨w.heap.size, 0, none⟩ = some (.int .i64 26) ∧ ((w.alloc (.cells #[.int .i64 26, .string nm, .int .i64 n, .slice (some ⟨b, o, none⟩) 2 c] 24)).alloc (.cells #[.int .i64 0, .string ⟨#[]⟩, .int .i64 0, .slice none 0 0] 24)).cell? ⟨w.heap.size, 1, none⟩ = some (.string nm) ∧ ((w.alloc (.cells #[.int .i64 26, .string nm, .int .i64 n, .slice (some ⟨b, o, none⟩) 2 c] 24)).alloc (.cells #[.int .i64 0, .string ⟨#[]⟩, .int .i64 0, .slice none 0 0] 24)).cell? ⟨w.heap.size, 2, none⟩ = some (.int .i64 n) ∧ ((w.alloc (.cells #[.int .i64 26, .string nm, .int .i64 n, .slice (some ⟨b, o, none⟩) 2 c] 24)).alloc (.cells #[.int .i64 0, .string ⟨#[]⟩, .int .i64 0, .slice none 0 0] 24)).cell? ⟨w.heap.size, 3, none⟩ = some (.slice (some ⟨b, o, none⟩) 2 c) := by simp [go_sem]
  have FR0 : FourV' ((w.alloc (.cells #[.int .i64 26, .string nm, .int .i64 n, .slice (some ⟨b, o, none⟩) 2 c] 24)).alloc (.cells #[.int .i64 0, .string ⟨#[]⟩, .int .i64 0, .slice none 0 0] 24)) (w.heap.size + 1) (.int .i64 0) (.string ⟨#[]⟩) (.int .i64 0) (.slice none 0 0) := by simp [FourV', go_sem]
  have hX2 : w.heap.size + 1 < ((w.alloc (.cells #[.int .i64 26, .string nm, .int .i64 n, .slice (some ⟨b, o, none⟩) 2 c] 24)).alloc (.cells #[.int .i64 0, .string ⟨#[]⟩, .int .i64 0, .slice none 0 0] 24)).heap.size := by simp
  generalize hW2 : ((w.alloc (.cells #[.int .i64 26, .string nm, .int .i64 n, .slice (some ⟨b, o, none⟩) 2 c] 24)).alloc (.cells #[.int .i64 0, .string ⟨#[]⟩, .int .i64 0, .slice none 0 0] 24)) = W2 at *
  obtain ⟨q00, q01, q02, q03⟩ : Four W2 b o k0 := Four.keep kf0 hb2 hbl
  obtain ⟨q10, q11, q12, q13⟩ : Four W2 b (o + 4) k1 := Four.keep kf1 hb2 hbl1
  clear kin0 kf0 kin1 kf1
  unfold Tm.val
  simp only [Tm.op, Tm.nm, Tm.n, Tm.a, Tm.ks, Tm.c, List.length_cons, List.length_nil, Nat.zero_add, Nat.reduceAdd]
  obtain ⟨u0, u1, u2, u3⟩ := TT
  have FR := mkHid FR0
  have SZ := hX2
  have BW := hb2
  clear FR0 hX2 hb2 ht hTV
  go_enter Tryd.func68, Tryd.ntmps68
  go_wp2_with fail
  (try dsimp only [List.append])
  refine wp_region_held_drew (S := fun w' => w'.cell? ⟨w.heap.size, 0, none⟩ = some (.int .i64 26) ∧ w'.cell? ⟨w.heap.size, 1, none⟩ = some (.string nm) ∧ w'.cell? ⟨w.heap.size, 2, none⟩ = some (.int .i64 n) ∧ w'.cell? ⟨w.heap.size, 3, none⟩ = some (.slice (some ⟨b, o, none⟩) 2 c) ∧ w'.cell? ⟨b, o, none⟩ = some (.int .i64 k0.op) ∧ w'.cell? ⟨b, o + 1, none⟩ = some (.string k0.nm) ∧ w'.cell? ⟨b, o + 2, none⟩ = some (.int .i64 k0.n) ∧ w'.cell? ⟨b, o + 3, none⟩ = some (.slice k0.a k0.ks.length k0.c) ∧ w'.cell? ⟨b, o + 4, none⟩ = some (.int .i64 k1.op) ∧ w'.cell? ⟨b, o + 4 + 1, none⟩ = some (.string k1.nm) ∧ w'.cell? ⟨b, o + 4 + 2, none⟩ = some (.int .i64 k1.n) ∧ w'.cell? ⟨b, o + 4 + 3, none⟩ = some (.slice k1.a k1.ks.length k1.c)) (by kernel_rfl) ⟨u0, u1, u2, u3, q00, q01, q02, q03, q10, q11, q12, q13⟩ (fun hHeld => ?_)
  replace FR := mkHid (FR.out.later (bdrew (Below.refl W2.heap.size W2)))
  replace BW := bdrew BW
  replace SZ : w.heap.size + 1 < W2.drew.heap.size := SZ
  clear hW2 u0 u1 u2 u3 q00 q01 q02 q03 q10 q11 q12 q13
  generalize W2.drew = V at *
  refine wpAnyH_take (i := 0) (v := ?_) rfl (by kernel_rfl) (by kernel_rfl) (by kernel_rfl) (fun _ _ _ h => h) (Or.inl ⟨by kernel_rfl, ?_⟩) (by assumption) ?_
  rotate_left
  · (intro w hSw; (try dsimp only at hSw); go_simp; try with_reducible rfl)
  simp only [Act.put, List.getElem_toArray, List.getElem_cons_zero, List.setIfInBounds_toArray, List.set_cons_zero, List.set_cons_succ]
  refine wpAnyH_take (i := 1) (v := ?_) rfl (by kernel_rfl) (by kernel_rfl) (by kernel_rfl) (fun _ _ _ h => h) (Or.inl ⟨by kernel_rfl, ?_⟩) (by assumption) ?_
  rotate_left
  · (intro w hSw; (try dsimp only at hSw); go_simp; try with_reducible rfl)
  simp only [Act.put, List.getElem_toArray, List.getElem_cons_succ, List.getElem_cons_zero, List.setIfInBounds_toArray, List.set_cons_zero, List.set_cons_succ]
  refine wpAnyH_take (i := 2) (v := ?_) rfl (by kernel_rfl) (by kernel_rfl) (by kernel_rfl) (fun _ _ _ h => h) (Or.inl ⟨by kernel_rfl, ?_⟩) (by assumption) ?_
  rotate_left
  · (intro w hSw; (try dsimp only at hSw); go_simp; try with_reducible rfl)
  simp only [Act.put, List.getElem_toArray, List.getElem_cons_succ, List.getElem_cons_zero, List.setIfInBounds_toArray, List.set_cons_zero, List.set_cons_succ]
  refine wpAnyH_take (i := 3) (v := ?_) rfl (by kernel_rfl) (by kernel_rfl) (by kernel_rfl) (fun _ _ _ h => h) (Or.inl ⟨by kernel_rfl, ?_⟩) (by assumption) ?_
  rotate_left
  · (intro w hSw; (try dsimp only at hSw); go_simp; try with_reducible rfl)
  simp only [Act.put, List.getElem_toArray, List.getElem_cons_succ, List.getElem_cons_zero, List.setIfInBounds_toArray, List.set_cons_zero, List.set_cons_succ]
  refine wpAnyH_take (i := 4) (v := ?_) rfl (by kernel_rfl) (by kernel_rfl) (by kernel_rfl) (fun _ _ _ h => h) (Or.inl ⟨by kernel_rfl, ?_⟩) (by assumption) ?_
  rotate_left
  · (intro w hSw; (try dsimp only at hSw); go_simp; try with_reducible rfl)
  simp only [Act.put, List.getElem_toArray, List.getElem_cons_succ, List.getElem_cons_zero, List.setIfInBounds_toArray, List.set_cons_zero, List.set_cons_succ]
  refine wpAnyH_take (i := 5) (v := ?_) rfl (by kernel_rfl) (by kernel_rfl) (by kernel_rfl) (fun _ _ _ h => h) (Or.inl ⟨by kernel_rfl, ?_⟩) (by assumption) ?_
  rotate_left
  · (intro w hSw; (try dsimp only at hSw); go_simp; try with_reducible rfl)
  simp only [Act.put, List.getElem_toArray, List.getElem_cons_succ, List.getElem_cons_zero, List.setIfInBounds_toArray, List.set_cons_zero, List.set_cons_succ]
  refine wpAnyH_take (i := 6) (v := ?_) rfl (by kernel_rfl) (by kernel_rfl) (by kernel_rfl) (fun _ _ _ h => h) (Or.inl ⟨by kernel_rfl, ?_⟩) (by assumption) ?_
  rotate_left
  · (intro w hSw; (try dsimp only at hSw); go_simp; try with_reducible rfl)
  simp only [Act.put, List.getElem_toArray, List.getElem_cons_succ, List.getElem_cons_zero, List.setIfInBounds_toArray, List.set_cons_zero, List.set_cons_succ]
  refine wpAnyH_take (i := 7) (v := ?_) rfl (by kernel_rfl) (by kernel_rfl) (by kernel_rfl) (fun _ _ _ h => h) (Or.inl ⟨by kernel_rfl, ?_⟩) (by assumption) ?_
  rotate_left
  · (intro w hSw; (try dsimp only at hSw); go_simp; try with_reducible rfl)
  simp only [Act.put, List.getElem_toArray, List.getElem_cons_succ, List.getElem_cons_zero, List.setIfInBounds_toArray, List.set_cons_zero, List.set_cons_succ]
  have Mk0 := mkHid (Mk.kid (k := k0) HT.out (by simp [Tm.ks]) BW)
  have Mk1 := mkHid (Mk.kid (k := k1) HT.out (by simp [Tm.ks]) BW)
  refine wpAnyH_ready (rs := [8]) (by kernel_rfl) (by simp) ?_
  refine AllReadyH.cons rfl (fun K hK => ?_) AllReadyH.nil
  have P3 : Hid (Calls Tryd.prog 96 #[.agg #[.int .i64 k0.op, .string k0.nm, .int .i64 k0.n, .slice k0.a k0.ks.length k0.c], .agg #[.int .i64 k1.op, .string k1.nm, .int .i64 k1.n, .slice k1.a k1.ks.length k1.c]] V (BecP2 (insT k0.er k1.er) k0 k1 V)) := rwithin_any k0 k1 V Mk0.out.tin Mk1.out.tin
  have O3a := Mk0
  have O3b := Mk1
  go_simp
  go_wp2_with (go_at_call 96; ((with_reducible refine (P3.out).mono ?_)); rintro e w3 ⟨z, rfl, ze, zt, zw, hb3⟩)
  refine hK.out _ _ (keep12 (by assumption) hb3) (fun hHeld => ?_)
  clear hK
  have BW1 := bon BW hb3
  have SZ1 : w.heap.size + 1 < w3.heap.size := Nat.lt_of_lt_of_le SZ hb3.size
  have FR1 := mkHid (FR.out.later hb3)
  replace Mk0 := mkHid (Mk0.out.later hb3)
  replace Mk1 := mkHid (Mk1.out.later hb3)
  have Mz := mkHid (Mk.call2 O3a.out O3b.out SZ zt zw)
  clear O3a O3b P3 zt zw
  unfold Tm.val
  obtain ⟨m0, m1, m2, m3, f0, f1, f2, f3⟩ := FR1.out
  refine wpAnyH_ready (rs := [9]) (by kernel_rfl) (by simp) ?_
  refine AllReadyH.cons rfl (fun K hK => ?_) AllReadyH.nil
  go_simp
  have BS : But (w.heap.size + 1) w3 ((((w3.setCell ⟨w.heap.size + 1, 0, none⟩ (.int .i64 z.op)).setCell ⟨w.heap.size + 1, 1, none⟩ (.string z.nm)).setCell ⟨w.heap.size + 1, 2, none⟩ (.int .i64 z.n)).setCell ⟨w.heap.size + 1, 3, none⟩ (.slice z.a z.ks.length z.c)) := ((((But.refl _ _).set (p := ⟨w.heap.size + 1, 0, none⟩) (.inl rfl) _).set (p := ⟨w.heap.size + 1, 1, none⟩) (.inl rfl) _).set (p := ⟨w.heap.size + 1, 2, none⟩) (.inl rfl) _).set (p := ⟨w.heap.size + 1, 3, none⟩) (.inl rfl) _
  have HN0 : Hid (w.heap.size ≠ w.heap.size + 1) := Nat.ne_of_lt (Nat.lt_succ_self _)
  have HNb : Hid (b ≠ w.heap.size + 1) := Nat.ne_of_lt (Nat.lt_succ_of_lt hbl)
  refine hK.out _ _ (keep12B (by assumption) BS HN0.out HN0.out HN0.out HN0.out HNb.out HNb.out HNb.out HNb.out HNb.out HNb.out HNb.out HNb.out) (fun hHeld => ?_)
  clear hK hHeld
  refine wpAnyH_done (by kernel_rfl) ?_ _
  go_wp2
  refine bodyPost_ret (v := .agg #[.int .i64 z.op, .string z.nm, .int .i64 z.n, .slice z.a z.ks.length z.c]) (by simp [results, Tryd.results68, go_sem, m0, m1, m2, m3]) rfl (Mk.fin (x := z) Mz.out BW1 ?_)
  rw [HFT.out, ze]; all_goals rfl
set_option maxRecDepth 100000 in
set_option maxHeartbeats 4000000 in
theorem up25 (F : Tm → Tm) (t : Tm) (k0 k1 : Tm) (hop : t.op = 25) (hks : t.ks = [k0, k1]) (hF : F t = insT (oneT k0.er) k1.er) (w : World) (ht : TIn w w.heap.size t) : Calls Tryd.prog 68 #[t.val] w (BecP F t w) := by
  have HT := mkHid ht
  have HFT := mkHid hF
  clear hF
  have hTV : t.val = t.val := rfl
  obtain ⟨op, nm, n, a, c, ks⟩ := t
  simp only [Tm.op, Tm.ks] at hop hks
  subst hop hks
  obtain ⟨kin0, b, o, ha, hbl, kf0⟩ := ht.kid 0 (by simp [Tm.ks])
  obtain ⟨kin1, b1, o1, ha1, hbl1, kf1⟩ := ht.kid 1 (by simp [Tm.ks])
  simp only [Tm.a, Tm.ks, List.getElem_cons_zero, List.getElem_cons_succ, Nat.zero_mul, Nat.one_mul, Nat.add_zero] at ha kin0 kf0 ha1 kin1 kf1
  subst ha
  cases ha1
  have hb2 : Below w.heap.size w ((w.alloc (.cells #[.int .i64 25, .string nm, .int .i64 n, .slice (some ⟨b, o, none⟩) 2 c] 24)).alloc (.cells #[.int .i64 0, .string ⟨#[]⟩, .int .i64 0, .slice none 0 0] 24)) := bal (bal (Below.refl _ _) _) _
  have TT : ((w.alloc (.cells #[.int .i64 25, .string nm, .int .i64 n, .slice (some ⟨b, o, none⟩) 2 c] 24)).alloc (.cells #[.int .i64 0, .string ⟨#[]⟩, .int .i64 0, .slice none 0 0] 24)).cell? ⟨w.heap.size, 0, none⟩ = some (.int .i64 25) ∧ ((w.alloc (.cells #[.int .i64 25, .string nm, .int .i64 n, .slice (some ⟨b, o, none⟩) 2 c] 24)).alloc (.cells #[.int .i64 0, .string ⟨#[]⟩, .int .i64 0, .slice none 0 0] 24)).cell? ⟨w.heap.size, 1, none⟩ = some (.string nm) ∧ ((w.alloc (.cells #[.int .i64 25, .string nm, .int .i64 n, .slice (some ⟨b, o, none⟩) 2 c] 24)).alloc (.cells #[.int .i64 0, .string ⟨#[]⟩, .int .i64 0, .slice none 0 0] 24)).cell? ⟨w.heap.size, 2, none⟩ = some (.int .i64 n) ∧ ((w.alloc (.cells #[.int .i64 25, .string nm, .int .i64 n, .slice (some ⟨b, o, none⟩) 2 c] 24)).alloc (.cells #[.int .i64 0, .string ⟨#[]⟩, .int .i64 0, .slice none 0 0] 24)).cell? ⟨w.heap.size, 3, none⟩ = some (.slice (some ⟨b, o, none⟩) 2 c) := by simp [go_sem]
  have FR0 : FourV' ((w.alloc (.cells #[.int .i64 25, .string nm, .int .i64 n, .slice (some ⟨b, o, none⟩) 2 c] 24)).alloc (.cells #[.int .i64 0, .string ⟨#[]⟩, .int .i64 0, .slice none 0 0] 24)) (w.heap.size + 1) (.int .i64 0) (.string ⟨#[]⟩) (.int .i64 0) (.slice none 0 0) := by simp [FourV', go_sem]
  have hX2 : w.heap.size + 1 < ((w.alloc (.cells #[.int .i64 25, .string nm, .int .i64 n, .slice (some ⟨b, o, none⟩) 2 c] 24)).alloc (.cells #[.int .i64 0, .string ⟨#[]⟩, .int .i64 0, .slice none 0 0] 24)).heap.size := by simp
  generalize hW2 : ((w.alloc (.cells #[.int .i64 25, .string nm, .int .i64 n, .slice (some ⟨b, o, none⟩) 2 c] 24)).alloc (.cells #[.int .i64 0, .string ⟨#[]⟩, .int .i64 0, .slice none 0 0] 24)) = W2 at *
  obtain ⟨q00, q01, q02, q03⟩ : Four W2 b o k0 := Four.keep kf0 hb2 hbl
  obtain ⟨q10, q11, q12, q13⟩ : Four W2 b (o + 4) k1 := Four.keep kf1 hb2 hbl1
  clear kin0 kf0 kin1 kf1
  unfold Tm.val
  simp only [Tm.op, Tm.nm, Tm.n, Tm.a, Tm.ks, Tm.c, List.length_cons, List.length_nil, Nat.zero_add, Nat.reduceAdd]
  obtain ⟨u0, u1, u2, u3⟩ := TT
  have FR := mkHid FR0
  have SZ := hX2
  have BW := hb2
  clear FR0 hX2 hb2 ht hTV
  go_enter Tryd.func68, Tryd.ntmps68
  go_wp2_with fail
  (try dsimp only [List.append])
  refine wp_region_held_drew (S := fun w' => w'.cell? ⟨w.heap.size, 0, none⟩ = some (.int .i64 25) ∧ w'.cell? ⟨w.heap.size, 1, none⟩ = some (.string nm) ∧ w'.cell? ⟨w.heap.size, 2, none⟩ = some (.int .i64 n) ∧ w'.cell? ⟨w.heap.size, 3, none⟩ = some (.slice (some ⟨b, o, none⟩) 2 c) ∧ w'.cell? ⟨b, o, none⟩ = some (.int .i64 k0.op) ∧ w'.cell? ⟨b, o + 1, none⟩ = some (.string k0.nm) ∧ w'.cell? ⟨b, o + 2, none⟩ = some (.int .i64 k0.n) ∧ w'.cell? ⟨b, o + 3, none⟩ = some (.slice k0.a k0.ks.length k0.c) ∧ w'.cell? ⟨b, o + 4, none⟩ = some (.int .i64 k1.op) ∧ w'.cell? ⟨b, o + 4 + 1, none⟩ = some (.string k1.nm) ∧ w'.cell? ⟨b, o + 4 + 2, none⟩ = some (.int .i64 k1.n) ∧ w'.cell? ⟨b, o + 4 + 3, none⟩ = some (.slice k1.a k1.ks.length k1.c)) (by kernel_rfl) ⟨u0, u1, u2, u3, q00, q01, q02, q03, q10, q11, q12, q13⟩ (fun hHeld => ?_)
  replace FR := mkHid (FR.out.later (bdrew (Below.refl W2.heap.size W2)))
  replace BW := bdrew BW
  replace SZ : w.heap.size + 1 < W2.drew.heap.size := SZ
  clear hW2 u0 u1 u2 u3 q00 q01 q02 q03 q10 q11 q12 q13
  generalize W2.drew = V at *
  refine wpAnyH_take (i := 0) (v := ?_) rfl (by kernel_rfl) (by kernel_rfl) (by kernel_rfl) (fun _ _ _ h => h) (Or.inl ⟨by kernel_rfl, ?_⟩) (by assumption) ?_
  rotate_left
  · (intro w hSw; (try dsimp only at hSw); go_simp; try with_reducible rfl)
  simp only [Act.put, List.getElem_toArray, List.getElem_cons_zero, List.setIfInBounds_toArray, List.set_cons_zero, List.set_cons_succ]
  refine wpAnyH_take (i := 1) (v := ?_) rfl (by kernel_rfl) (by kernel_rfl) (by kernel_rfl) (fun _ _ _ h => h) (Or.inl ⟨by kernel_rfl, ?_⟩) (by assumption) ?_
  rotate_left
  · (intro w hSw; (try dsimp only at hSw); go_simp; try with_reducible rfl)
  simp only [Act.put, List.getElem_toArray, List.getElem_cons_succ, List.getElem_cons_zero, List.setIfInBounds_toArray, List.set_cons_zero, List.set_cons_succ]
  refine wpAnyH_take (i := 2) (v := ?_) rfl (by kernel_rfl) (by kernel_rfl) (by kernel_rfl) (fun _ _ _ h => h) (Or.inl ⟨by kernel_rfl, ?_⟩) (by assumption) ?_
  rotate_left
  · (intro w hSw; (try dsimp only at hSw); go_simp; try with_reducible rfl)
  simp only [Act.put, List.getElem_toArray, List.getElem_cons_succ, List.getElem_cons_zero, List.setIfInBounds_toArray, List.set_cons_zero, List.set_cons_succ]
  refine wpAnyH_take (i := 3) (v := ?_) rfl (by kernel_rfl) (by kernel_rfl) (by kernel_rfl) (fun _ _ _ h => h) (Or.inl ⟨by kernel_rfl, ?_⟩) (by assumption) ?_
  rotate_left
  · (intro w hSw; (try dsimp only at hSw); go_simp; try with_reducible rfl)
  simp only [Act.put, List.getElem_toArray, List.getElem_cons_succ, List.getElem_cons_zero, List.setIfInBounds_toArray, List.set_cons_zero, List.set_cons_succ]
  refine wpAnyH_take (i := 5) (v := ?_) rfl (by kernel_rfl) (by kernel_rfl) (by kernel_rfl) (fun _ _ _ h => h) (Or.inl ⟨by kernel_rfl, ?_⟩) (by assumption) ?_
  rotate_left
  · (intro w hSw; (try dsimp only at hSw); go_simp; try with_reducible rfl)
  simp only [Act.put, List.getElem_toArray, List.getElem_cons_succ, List.getElem_cons_zero, List.setIfInBounds_toArray, List.set_cons_zero, List.set_cons_succ]
  refine wpAnyH_take (i := 6) (v := ?_) rfl (by kernel_rfl) (by kernel_rfl) (by kernel_rfl) (fun _ _ _ h => h) (Or.inl ⟨by kernel_rfl, ?_⟩) (by assumption) ?_
  rotate_left
  · (intro w hSw; (try dsimp only at hSw); go_simp; try with_reducible rfl)
  simp only [Act.put, List.getElem_toArray, List.getElem_cons_succ, List.getElem_cons_zero, List.setIfInBounds_toArray, List.set_cons_zero, List.set_cons_succ]
  refine wpAnyH_take (i := 7) (v := ?_) rfl (by kernel_rfl) (by kernel_rfl) (by kernel_rfl) (fun _ _ _ h => h) (Or.inl ⟨by kernel_rfl, ?_⟩) (by assumption) ?_
  rotate_left
  · (intro w hSw; (try dsimp only at hSw); go_simp; try with_reducible rfl)
  simp only [Act.put, List.getElem_toArray, List.getElem_cons_succ, List.getElem_cons_zero, List.setIfInBounds_toArray, List.set_cons_zero, List.set_cons_succ]
  refine wpAnyH_take (i := 8) (v := ?_) rfl (by kernel_rfl) (by kernel_rfl) (by kernel_rfl) (fun _ _ _ h => h) (Or.inl ⟨by kernel_rfl, ?_⟩) (by assumption) ?_
  rotate_left
  · (intro w hSw; (try dsimp only at hSw); go_simp; try with_reducible rfl)
  simp only [Act.put, List.getElem_toArray, List.getElem_cons_succ, List.getElem_cons_zero, List.setIfInBounds_toArray, List.set_cons_zero, List.set_cons_succ]
  have Mk0 := mkHid (Mk.kid (k := k0) HT.out (by simp [Tm.ks]) BW)
  have Mk1 := mkHid (Mk.kid (k := k1) HT.out (by simp [Tm.ks]) BW)
  refine wpAnyH_ready (rs := [4]) (by kernel_rfl) (by simp) ?_
  refine AllReadyH.cons rfl (fun K hK => ?_) AllReadyH.nil
  have P3 : Hid (Calls Tryd.prog 97 #[.agg #[.int .i64 k0.op, .string k0.nm, .int .i64 k0.n, .slice k0.a k0.ks.length k0.c]] V (BecP2 (mkT 10 [k0.er]) k0 k0 V)) := rone_any k0 V Mk0.out.tin
  have O3a := Mk0
  have O3b := Mk0
  go_simp
  go_wp2_with (go_at_call 97; ((with_reducible refine (P3.out).mono ?_)); rintro e w3 ⟨z, rfl, ze, zt, zw, hb3⟩)
  refine hK.out _ _ (keep12 (by assumption) hb3) (fun hHeld => ?_)
  clear hK
  have BW1 := bon BW hb3
  have SZ1 : w.heap.size + 1 < w3.heap.size := Nat.lt_of_lt_of_le SZ hb3.size
  have FR1 := mkHid (FR.out.later hb3)
  replace Mk0 := mkHid (Mk0.out.later hb3)
  replace Mk1 := mkHid (Mk1.out.later hb3)
  have Mz := mkHid (Mk.call2 O3a.out O3b.out SZ zt zw)
  clear O3a O3b P3 zt zw
  unfold Tm.val
  refine wpAnyH_ready (rs := [9]) (by kernel_rfl) (by simp) ?_
  refine AllReadyH.cons rfl (fun K hK => ?_) AllReadyH.nil
  have P4 : Hid (Calls Tryd.prog 96 #[.agg #[.int .i64 z.op, .string z.nm, .int .i64 z.n, .slice z.a z.ks.length z.c], .agg #[.int .i64 k1.op, .string k1.nm, .int .i64 k1.n, .slice k1.a k1.ks.length k1.c]] w3 (BecP2 (insT z.er k1.er) z k1 w3)) := rwithin_any z k1 w3 Mz.out.tin Mk1.out.tin
  have O4a := Mz
  have O4b := Mk1
  go_simp
  go_wp2_with (go_at_call 96; ((with_reducible refine (P4.out).mono ?_)); rintro e w4 ⟨y, rfl, ye, yt, yw, hb4⟩)
  refine hK.out _ _ (keep12 (by assumption) hb4) (fun hHeld => ?_)
  clear hK
  have BW2 := bon BW1 hb4
  have SZ2 : w.heap.size + 1 < w4.heap.size := Nat.lt_of_lt_of_le SZ1 hb4.size
  have FR2 := mkHid (FR1.out.later hb4)
  replace Mk0 := mkHid (Mk0.out.later hb4)
  replace Mk1 := mkHid (Mk1.out.later hb4)
  replace Mz := mkHid (Mz.out.later hb4)
  have My := mkHid (Mk.call2 O4a.out O4b.out SZ1 yt yw)
  clear O4a O4b P4 yt yw
  unfold Tm.val
  obtain ⟨m0, m1, m2, m3, f0, f1, f2, f3⟩ := FR2.out
  refine wpAnyH_ready (rs := [10]) (by kernel_rfl) (by simp) ?_
  refine AllReadyH.cons rfl (fun K hK => ?_) AllReadyH.nil
  go_simp
  have BS : But (w.heap.size + 1) w4 ((((w4.setCell ⟨w.heap.size + 1, 0, none⟩ (.int .i64 y.op)).setCell ⟨w.heap.size + 1, 1, none⟩ (.string y.nm)).setCell ⟨w.heap.size + 1, 2, none⟩ (.int .i64 y.n)).setCell ⟨w.heap.size + 1, 3, none⟩ (.slice y.a y.ks.length y.c)) := ((((But.refl _ _).set (p := ⟨w.heap.size + 1, 0, none⟩) (.inl rfl) _).set (p := ⟨w.heap.size + 1, 1, none⟩) (.inl rfl) _).set (p := ⟨w.heap.size + 1, 2, none⟩) (.inl rfl) _).set (p := ⟨w.heap.size + 1, 3, none⟩) (.inl rfl) _
  have HN0 : Hid (w.heap.size ≠ w.heap.size + 1) := Nat.ne_of_lt (Nat.lt_succ_self _)
  have HNb : Hid (b ≠ w.heap.size + 1) := Nat.ne_of_lt (Nat.lt_succ_of_lt hbl)
  refine hK.out _ _ (keep12B (by assumption) BS HN0.out HN0.out HN0.out HN0.out HNb.out HNb.out HNb.out HNb.out HNb.out HNb.out HNb.out HNb.out) (fun hHeld => ?_)
  clear hK hHeld
  refine wpAnyH_done (by kernel_rfl) ?_ _
  go_wp2
  refine bodyPost_ret (v := .agg #[.int .i64 y.op, .string y.nm, .int .i64 y.n, .slice y.a y.ks.length y.c]) (by simp [results, Tryd.results68, go_sem, m0, m1, m2, m3]) rfl (Mk.fin (x := y) My.out BW2 ?_)
  rw [HFT.out, ye, ze]; all_goals rfl
set_option maxRecDepth 100000 in
set_option maxHeartbeats 4000000 in
theorem down23 (F : Tm → Tm) (t : Tm) (k0 k1 : Tm) (hop : t.op = 23) (hks : t.ks = [k0, k1]) (hF : F t = leT k1.er k0.er) (w : World) (ht : TIn w w.heap.size t) : Calls Tryd.prog 93 #[t.val] w (BecP F t w) := by
  have HT := mkHid ht
  have HFT := mkHid hF
  clear hF
  have hTV : t.val = t.val := rfl
  obtain ⟨op, nm, n, a, c, ks⟩ := t
  simp only [Tm.op, Tm.ks] at hop hks
  subst hop hks
  obtain ⟨kin0, b, o, ha, hbl, kf0⟩ := ht.kid 0 (by simp [Tm.ks])
  obtain ⟨kin1, b1, o1, ha1, hbl1, kf1⟩ := ht.kid 1 (by simp [Tm.ks])
  simp only [Tm.a, Tm.ks, List.getElem_cons_zero, List.getElem_cons_succ, Nat.zero_mul, Nat.one_mul, Nat.add_zero] at ha kin0 kf0 ha1 kin1 kf1
  subst ha
  cases ha1
  have hb2 : Below w.heap.size w ((w.alloc (.cells #[.int .i64 23, .string nm, .int .i64 n, .slice (some ⟨b, o, none⟩) 2 c] 24)).alloc (.cells #[.int .i64 0, .string ⟨#[]⟩, .int .i64 0, .slice none 0 0] 24)) := bal (bal (Below.refl _ _) _) _
  have TT : ((w.alloc (.cells #[.int .i64 23, .string nm, .int .i64 n, .slice (some ⟨b, o, none⟩) 2 c] 24)).alloc (.cells #[.int .i64 0, .string ⟨#[]⟩, .int .i64 0, .slice none 0 0] 24)).cell? ⟨w.heap.size, 0, none⟩ = some (.int .i64 23) ∧ ((w.alloc (.cells #[.int .i64 23, .string nm, .int .i64 n, .slice (some ⟨b, o, none⟩) 2 c] 24)).alloc (.cells #[.int .i64 0, .string ⟨#[]⟩, .int .i64 0, .slice none 0 0] 24)).cell? ⟨w.heap.size, 1, none⟩ = some (.string nm) ∧ ((w.alloc (.cells #[.int .i64 23, .string nm, .int .i64 n, .slice (some ⟨b, o, none⟩) 2 c] 24)).alloc (.cells #[.int .i64 0, .string ⟨#[]⟩, .int .i64 0, .slice none 0 0] 24)).cell? ⟨w.heap.size, 2, none⟩ = some (.int .i64 n) ∧ ((w.alloc (.cells #[.int .i64 23, .string nm, .int .i64 n, .slice (some ⟨b, o, none⟩) 2 c] 24)).alloc (.cells #[.int .i64 0, .string ⟨#[]⟩, .int .i64 0, .slice none 0 0] 24)).cell? ⟨w.heap.size, 3, none⟩ = some (.slice (some ⟨b, o, none⟩) 2 c) := by simp [go_sem]
  have FR0 : FourV' ((w.alloc (.cells #[.int .i64 23, .string nm, .int .i64 n, .slice (some ⟨b, o, none⟩) 2 c] 24)).alloc (.cells #[.int .i64 0, .string ⟨#[]⟩, .int .i64 0, .slice none 0 0] 24)) (w.heap.size + 1) (.int .i64 0) (.string ⟨#[]⟩) (.int .i64 0) (.slice none 0 0) := by simp [FourV', go_sem]
  have hX2 : w.heap.size + 1 < ((w.alloc (.cells #[.int .i64 23, .string nm, .int .i64 n, .slice (some ⟨b, o, none⟩) 2 c] 24)).alloc (.cells #[.int .i64 0, .string ⟨#[]⟩, .int .i64 0, .slice none 0 0] 24)).heap.size := by simp
  generalize hW2 : ((w.alloc (.cells #[.int .i64 23, .string nm, .int .i64 n, .slice (some ⟨b, o, none⟩) 2 c] 24)).alloc (.cells #[.int .i64 0, .string ⟨#[]⟩, .int .i64 0, .slice none 0 0] 24)) = W2 at *
  obtain ⟨q00, q01, q02, q03⟩ : Four W2 b o k0 := Four.keep kf0 hb2 hbl
  obtain ⟨q10, q11, q12, q13⟩ : Four W2 b (o + 4) k1 := Four.keep kf1 hb2 hbl1
  clear kin0 kf0 kin1 kf1
  unfold Tm.val
  simp only [Tm.op, Tm.nm, Tm.n, Tm.a, Tm.ks, Tm.c, List.length_cons, List.length_nil, Nat.zero_add, Nat.reduceAdd]
  obtain ⟨u0, u1, u2, u3⟩ := TT
  have FR := mkHid FR0
  have SZ := hX2
  have BW := hb2
  clear FR0 hX2 hb2 ht hTV
  go_enter Tryd.func93, Tryd.ntmps93
  go_wp2_with fail
  (try dsimp only [List.append])
  refine wp_region_held_drew (S := fun w' => w'.cell? ⟨w.heap.size, 0, none⟩ = some (.int .i64 23) ∧ w'.cell? ⟨w.heap.size, 1, none⟩ = some (.string nm) ∧ w'.cell? ⟨w.heap.size, 2, none⟩ = some (.int .i64 n) ∧ w'.cell? ⟨w.heap.size, 3, none⟩ = some (.slice (some ⟨b, o, none⟩) 2 c) ∧ w'.cell? ⟨b, o, none⟩ = some (.int .i64 k0.op) ∧ w'.cell? ⟨b, o + 1, none⟩ = some (.string k0.nm) ∧ w'.cell? ⟨b, o + 2, none⟩ = some (.int .i64 k0.n) ∧ w'.cell? ⟨b, o + 3, none⟩ = some (.slice k0.a k0.ks.length k0.c) ∧ w'.cell? ⟨b, o + 4, none⟩ = some (.int .i64 k1.op) ∧ w'.cell? ⟨b, o + 4 + 1, none⟩ = some (.string k1.nm) ∧ w'.cell? ⟨b, o + 4 + 2, none⟩ = some (.int .i64 k1.n) ∧ w'.cell? ⟨b, o + 4 + 3, none⟩ = some (.slice k1.a k1.ks.length k1.c)) (by kernel_rfl) ⟨u0, u1, u2, u3, q00, q01, q02, q03, q10, q11, q12, q13⟩ (fun hHeld => ?_)
  replace FR := mkHid (FR.out.later (bdrew (Below.refl W2.heap.size W2)))
  replace BW := bdrew BW
  replace SZ : w.heap.size + 1 < W2.drew.heap.size := SZ
  clear hW2 u0 u1 u2 u3 q00 q01 q02 q03 q10 q11 q12 q13
  generalize W2.drew = V at *
  refine wpAnyH_take (i := 0) (v := ?_) rfl (by kernel_rfl) (by kernel_rfl) (by kernel_rfl) (fun _ _ _ h => h) (Or.inl ⟨by kernel_rfl, ?_⟩) (by assumption) ?_
  rotate_left
  · (intro w hSw; (try dsimp only at hSw); go_simp; try with_reducible rfl)
  simp only [Act.put, List.getElem_toArray, List.getElem_cons_zero, List.setIfInBounds_toArray, List.set_cons_zero, List.set_cons_succ]
  refine wpAnyH_take (i := 1) (v := ?_) rfl (by kernel_rfl) (by kernel_rfl) (by kernel_rfl) (fun _ _ _ h => h) (Or.inl ⟨by kernel_rfl, ?_⟩) (by assumption) ?_
  rotate_left
  · (intro w hSw; (try dsimp only at hSw); go_simp; try with_reducible rfl)
  simp only [Act.put, List.getElem_toArray, List.getElem_cons_succ, List.getElem_cons_zero, List.setIfInBounds_toArray, List.set_cons_zero, List.set_cons_succ]
  refine wpAnyH_take (i := 2) (v := ?_) rfl (by kernel_rfl) (by kernel_rfl) (by kernel_rfl) (fun _ _ _ h => h) (Or.inl ⟨by kernel_rfl, ?_⟩) (by assumption) ?_
  rotate_left
  · (intro w hSw; (try dsimp only at hSw); go_simp; try with_reducible rfl)
  simp only [Act.put, List.getElem_toArray, List.getElem_cons_succ, List.getElem_cons_zero, List.setIfInBounds_toArray, List.set_cons_zero, List.set_cons_succ]
  refine wpAnyH_take (i := 3) (v := ?_) rfl (by kernel_rfl) (by kernel_rfl) (by kernel_rfl) (fun _ _ _ h => h) (Or.inl ⟨by kernel_rfl, ?_⟩) (by assumption) ?_
  rotate_left
  · (intro w hSw; (try dsimp only at hSw); go_simp; try with_reducible rfl)
  simp only [Act.put, List.getElem_toArray, List.getElem_cons_succ, List.getElem_cons_zero, List.setIfInBounds_toArray, List.set_cons_zero, List.set_cons_succ]
  refine wpAnyH_take (i := 4) (v := ?_) rfl (by kernel_rfl) (by kernel_rfl) (by kernel_rfl) (fun _ _ _ h => h) (Or.inl ⟨by kernel_rfl, ?_⟩) (by assumption) ?_
  rotate_left
  · (intro w hSw; (try dsimp only at hSw); go_simp; try with_reducible rfl)
  simp only [Act.put, List.getElem_toArray, List.getElem_cons_succ, List.getElem_cons_zero, List.setIfInBounds_toArray, List.set_cons_zero, List.set_cons_succ]
  refine wpAnyH_take (i := 5) (v := ?_) rfl (by kernel_rfl) (by kernel_rfl) (by kernel_rfl) (fun _ _ _ h => h) (Or.inl ⟨by kernel_rfl, ?_⟩) (by assumption) ?_
  rotate_left
  · (intro w hSw; (try dsimp only at hSw); go_simp; try with_reducible rfl)
  simp only [Act.put, List.getElem_toArray, List.getElem_cons_succ, List.getElem_cons_zero, List.setIfInBounds_toArray, List.set_cons_zero, List.set_cons_succ]
  refine wpAnyH_take (i := 6) (v := ?_) rfl (by kernel_rfl) (by kernel_rfl) (by kernel_rfl) (fun _ _ _ h => h) (Or.inl ⟨by kernel_rfl, ?_⟩) (by assumption) ?_
  rotate_left
  · (intro w hSw; (try dsimp only at hSw); go_simp; try with_reducible rfl)
  simp only [Act.put, List.getElem_toArray, List.getElem_cons_succ, List.getElem_cons_zero, List.setIfInBounds_toArray, List.set_cons_zero, List.set_cons_succ]
  refine wpAnyH_take (i := 7) (v := ?_) rfl (by kernel_rfl) (by kernel_rfl) (by kernel_rfl) (fun _ _ _ h => h) (Or.inl ⟨by kernel_rfl, ?_⟩) (by assumption) ?_
  rotate_left
  · (intro w hSw; (try dsimp only at hSw); go_simp; try with_reducible rfl)
  simp only [Act.put, List.getElem_toArray, List.getElem_cons_succ, List.getElem_cons_zero, List.setIfInBounds_toArray, List.set_cons_zero, List.set_cons_succ]
  have Mk0 := mkHid (Mk.kid (k := k0) HT.out (by simp [Tm.ks]) BW)
  have Mk1 := mkHid (Mk.kid (k := k1) HT.out (by simp [Tm.ks]) BW)
  refine wpAnyH_ready (rs := [8]) (by kernel_rfl) (by simp) ?_
  refine AllReadyH.cons rfl (fun K hK => ?_) AllReadyH.nil
  have P3 : Hid (Calls Tryd.prog 94 #[.int .i64 22, .agg #[.int .i64 k1.op, .string k1.nm, .int .i64 k1.n, .slice k1.a k1.ks.length k1.c], .agg #[.int .i64 k0.op, .string k0.nm, .int .i64 k0.n, .slice k0.a k0.ks.length k0.c]] V (BecP2 (mkT 22 [k1.er, k0.er]) k1 k0 V)) := rtwo_any 22 (by decide) k1 k0 V Mk1.out.tin Mk0.out.tin
  have O3a := Mk1
  have O3b := Mk0
  go_simp
  go_wp2_with (go_at_call 94; ((with_reducible refine (P3.out).mono ?_)); rintro e w3 ⟨z, rfl, ze, zt, zw, hb3⟩)
  refine hK.out _ _ (keep12 (by assumption) hb3) (fun hHeld => ?_)
  clear hK
  have BW1 := bon BW hb3
  have SZ1 : w.heap.size + 1 < w3.heap.size := Nat.lt_of_lt_of_le SZ hb3.size
  have FR1 := mkHid (FR.out.later hb3)
  replace Mk0 := mkHid (Mk0.out.later hb3)
  replace Mk1 := mkHid (Mk1.out.later hb3)
  have Mz := mkHid (Mk.call2 O3a.out O3b.out SZ zt zw)
  clear O3a O3b P3 zt zw
  unfold Tm.val
  obtain ⟨m0, m1, m2, m3, f0, f1, f2, f3⟩ := FR1.out
  refine wpAnyH_ready (rs := [9]) (by kernel_rfl) (by simp) ?_
  refine AllReadyH.cons rfl (fun K hK => ?_) AllReadyH.nil
  go_simp
  have BS : But (w.heap.size + 1) w3 ((((w3.setCell ⟨w.heap.size + 1, 0, none⟩ (.int .i64 z.op)).setCell ⟨w.heap.size + 1, 1, none⟩ (.string z.nm)).setCell ⟨w.heap.size + 1, 2, none⟩ (.int .i64 z.n)).setCell ⟨w.heap.size + 1, 3, none⟩ (.slice z.a z.ks.length z.c)) := ((((But.refl _ _).set (p := ⟨w.heap.size + 1, 0, none⟩) (.inl rfl) _).set (p := ⟨w.heap.size + 1, 1, none⟩) (.inl rfl) _).set (p := ⟨w.heap.size + 1, 2, none⟩) (.inl rfl) _).set (p := ⟨w.heap.size + 1, 3, none⟩) (.inl rfl) _
  have HN0 : Hid (w.heap.size ≠ w.heap.size + 1) := Nat.ne_of_lt (Nat.lt_succ_self _)
  have HNb : Hid (b ≠ w.heap.size + 1) := Nat.ne_of_lt (Nat.lt_succ_of_lt hbl)
  refine hK.out _ _ (keep12B (by assumption) BS HN0.out HN0.out HN0.out HN0.out HNb.out HNb.out HNb.out HNb.out HNb.out HNb.out HNb.out HNb.out) (fun hHeld => ?_)
  clear hK hHeld
  refine wpAnyH_done (by kernel_rfl) ?_ _
  go_wp2
  refine bodyPost_ret (v := .agg #[.int .i64 z.op, .string z.nm, .int .i64 z.n, .slice z.a z.ks.length z.c]) (by simp [results, Tryd.results93, go_sem, m0, m1, m2, m3]) rfl (Mk.fin (x := z) Mz.out BW1 ?_)
  rw [HFT.out, ze]; all_goals rfl
end Go.Proofs.YtlobffjgkhcjbaaDoor
