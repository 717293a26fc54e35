/-
  The contracts of norm's of, each and copied.
-/
import Derived.Test.YtlobffjgkhcjbaaDoorNmA
import Derived.Laws.EntriesVeiled
namespace Go.Proofs.YtlobffjgkhcjbaaDoor
open Go.RowKit

set_option maxHeartbeats 1000000 in
theorem of_any (op : Int) (a : Option Addr) (n c : Nat) (w : World) : Calls Tryd.prog 90 #[.int .i64 op, .slice a n c] w fun e w' => e = .returned (.agg #[.int .i64 op, .string ⟨#[]⟩, .int .i64 0, .slice a n c]) ∧ Below w.heap.size w w' := by
  have FR : FourV' (w.alloc (.cells #[.int .i64 0, .string ⟨#[]⟩, .int .i64 0, .slice none 0 0] 24)) w.heap.size (.int .i64 0) (.string ⟨#[]⟩) (.int .i64 0) (.slice none 0 0) := by simp [FourV', go_sem]
  have hb := bel_alloc w (.cells #[.int .i64 0, .string ⟨#[]⟩, .int .i64 0, .slice none 0 0] 24)
  generalize hW : w.alloc (.cells #[.int .i64 0, .string ⟨#[]⟩, .int .i64 0, .slice none 0 0] 24) = W at *
  obtain ⟨m0, m1, m2, m3, f0, f1, f2, f3⟩ := FR
  go_enter Tryd.func90, Tryd.ntmps90
  go_wp2
  refine bodyPost_ret (v := .agg #[.int .i64 op, .string ⟨#[]⟩, .int .i64 0, .slice a n c]) (by simp [results, Tryd.results90, go_sem, m0, m1, m2, m3]) rfl ⟨rfl, ?_⟩
  exact bset (bset (bset (bset hb (Nat.le_refl _) _) (Nat.le_refl _) _) (Nat.le_refl _) _) (Nat.le_refl _) _
set_option maxRecDepth 100000 in
set_option maxHeartbeats 4000000 in
theorem each_aff (F : Tm → Tm) (t : Tm) (w : World) (hin : TIn w w.heap.size t) (hkl : t.ks.length ≤ 2000) (hf : ∀ k ∈ t.ks, ∀ w' : World, TIn w' w'.heap.size k → Calls Tryd.prog 66 #[k.val] w' (BecP F k w')) :
    Calls Tryd.prog 91 #[.slice t.a t.ks.length t.c, .func (.func 66) #[] #[]] w (EachP F t.ks w) := by
  obtain ⟨cs, hcs, hmk⟩ := made_terms t.ks.length hkl
  have HIN := mkHid hin
  have HF := mkHid hf
  clear hin hf
  generalize hn' : t.ks.length = n at *
  have HN := mkHid hn'
  clear hn'
  have hn9 : n ≤ 9223372036854775807 := by omega
  have C0 := CR.start (w := w) hcs hkl
  have BB3 := bel_alloc w (.cells cs 24)
  have hX3 : (w.alloc (.cells cs 24)).heap.size = w.heap.size + 1 := World.size_alloc _ _
  have HX3 := mkHid hX3
  clear hX3 hcs
  generalize hW3 : w.alloc (.cells cs 24) = W3 at *
  go_enter Tryd.func91, Tryd.ntmps91
  go_wp2
  clear hW3 hmk
  go_loopw [13] (fun i w' => ∃ (k : Nat) (x : Int), i = .int .i64 x ∧ x = k ∧ k ≤ n ∧ ∃ l, CR W3 w.heap.size n l w' ∧ l.map Tm.er = (t.ks.take k).map F ∧ (∀ R, R < w.heap.size → (∀ k ∈ t.ks, TAw R k) → ∀ x ∈ l, TAw R x)) (fun i _ => (n - intOf i).toNat)
  case atStart => exact ⟨0, 0, rfl, rfl, Nat.zero_le _, [], C0, by simp, fun _ _ _ x hx => by cases hx⟩
  case round =>
    clear C0
    obtain ⟨k, x, rfl, hxk, hk, l, c, hl, haw⟩ := hrel
    obtain rfl : x = (k : Int) := hxk
    have hll : l.length = k := by have := congrArg List.length hl; simpa [HN.out, Nat.min_eq_left hk] using this
    have HAW := mkHid haw
    clear haw
    have bW : Below w.heap.size w wr := BB3.trans (c.but.below (Nat.le_refl _) (by rw [HX3.out]; omega))
    by_cases hlt : k < n
    · have hk' : k < t.ks.length := by rw [HN.out]; exact hlt
      obtain ⟨kin, b, o, ha, hbB, kf⟩ := HIN.out.kid k hk'
      have kf' := kf.keep bW hbB
      have kin' := (kin.keep bW).mono bW.size
      have hawk : TAw w.heap.size t.ks[k] := kin.aw (Nat.le_refl _)
      have HMK := mkHid (List.getElem_mem hk')
      have HC := mkHid (HF.out t.ks[k] (List.getElem_mem _) (wr.alloc (boxT t.ks[k])) (kin'.later (bel_alloc _ _)))
      have HT := mkHid (List.take_succ_eq_append_getElem hk')
      generalize t.ks[k] = q at *
      rw [ha]
      clear ha kin kf kin' hk'
      obtain ⟨g0, g1, g2, g3⟩ := kf'
      have F4 := box_four wr q
      have bN := bel_alloc wr (boxT q)
      have HCN := mkHid (c.later bN)
      have hW5 : wr.alloc (.cells #[.int .i64 q.op, .string q.nm, .int .i64 q.n, .slice q.a q.ks.length q.c] 24) = wr.alloc (boxT q) := rfl
      have hzr : w.heap.size < (wr.alloc (boxT q)).heap.size := by
        have h1 := c.but.size
        have h2 := bN.size
        have h3 := HX3.out
        omega
      unfold Tm.val at HC
      generalize wr.alloc (boxT q) = W5 at *
      obtain ⟨f0, f1, f2, f3'⟩ := F4
      simp only [Nat.zero_add] at f1 f2 f3'
      have hk2 : (k : Int) < (n : Int) := by omega
      go_wp2_with fail
      ((with_reducible refine HC.out.mono ?_)); rintro e w6 ⟨z, rfl, hz1, hz2, hz3, hb6⟩
      clear g0 g1 g2 g3 f0 f1 f2 f3' hW5 HC
      have c6 := HCN.out.later hb6
      have hz3' : TAw w.heap.size z := hz3 _ hzr hawk
      obtain ⟨e0, t0, s0⟩ := c6.there (k * 4) (by omega)
      obtain ⟨e1, t1, s1⟩ := c6.there (k * 4 + 1) (by omega)
      obtain ⟨e2, t2, s2⟩ := c6.there (k * 4 + 2) (by omega)
      obtain ⟨e3, t3, s3⟩ := c6.there (k * 4 + 3) (by omega)
      have c7 := c6.store (by omega) hz2 hz3'
      rw [hll] at c7
      have HC7 := mkHid c7
      have HZ3 := mkHid hz3
      clear c6 c7 c hz3
      unfold Tm.val
      go_wp2
      go_roundw
      case rel =>
        refine ⟨k + 1, _, rfl, by omega, by omega, _, HC7.out, by rw [HT.out, List.map_append, List.map_append, hl]; simp [hz1], fun R hR hks y hy => ?_⟩
        rcases List.mem_append.1 hy with hy | hy
        · exact HAW.out R hR hks y hy
        · rw [List.mem_singleton.1 hy]
          exact HZ3.out R (by omega) (hks q HMK.out)
      case measure => simp [intOf]; omega
    · obtain rfl : k = n := by omega
      have HL : Hid (l.map Tm.er = t.ks.map F) := by
        show _ = _
        rw [hl, List.take_of_length_le (by rw [HN.out]; omega)]
      have HC := mkHid c
      have hsz : w.heap.size < wr.heap.size := by
        have h1 := c.but.size
        have h3 := HX3.out
        omega
      clear hl c
      go_wp2
      refine bodyPost_ret (v := .slice (some ⟨w.heap.size, 0, none⟩) k k) (by simp [results, Tryd.results91, go_sem]) rfl ⟨l, w.heap.size, by rw [HN.out], HL.out, fun j hj => ?_, HC.out.tin, Nat.le_refl _, hsz, HAW.out, bW⟩
      exact HC.out.four (by omega) j hj
set_option maxRecDepth 100000 in
set_option maxHeartbeats 4000000 in
theorem each_den (F : Tm → Tm) (t : Tm) (w : World) (hin : TIn w w.heap.size t) (hkl : t.ks.length ≤ 2000) (hf : ∀ k ∈ t.ks, ∀ w' : World, TIn w' w'.heap.size k → Calls Tryd.prog 89 #[k.val] w' (BecP F k w')) :
    Calls Tryd.prog 91 #[.slice t.a t.ks.length t.c, .func (.func 89) #[] #[]] w (EachP F t.ks w) := by
  obtain ⟨cs, hcs, hmk⟩ := made_terms t.ks.length hkl
  have HIN := mkHid hin
  have HF := mkHid hf
  clear hin hf
  generalize hn' : t.ks.length = n at *
  have HN := mkHid hn'
  clear hn'
  have hn9 : n ≤ 9223372036854775807 := by omega
  have C0 := CR.start (w := w) hcs hkl
  have BB3 := bel_alloc w (.cells cs 24)
  have hX3 : (w.alloc (.cells cs 24)).heap.size = w.heap.size + 1 := World.size_alloc _ _
  have HX3 := mkHid hX3
  clear hX3 hcs
  generalize hW3 : w.alloc (.cells cs 24) = W3 at *
  go_enter Tryd.func91, Tryd.ntmps91
  go_wp2
  clear hW3 hmk
  go_loopw [13] (fun i w' => ∃ (k : Nat) (x : Int), i = .int .i64 x ∧ x = k ∧ k ≤ n ∧ ∃ l, CR W3 w.heap.size n l w' ∧ l.map Tm.er = (t.ks.take k).map F ∧ (∀ R, R < w.heap.size → (∀ k ∈ t.ks, TAw R k) → ∀ x ∈ l, TAw R x)) (fun i _ => (n - intOf i).toNat)
  case atStart => exact ⟨0, 0, rfl, rfl, Nat.zero_le _, [], C0, by simp, fun _ _ _ x hx => by cases hx⟩
  case round =>
    clear C0
    obtain ⟨k, x, rfl, hxk, hk, l, c, hl, haw⟩ := hrel
    obtain rfl : x = (k : Int) := hxk
    have hll : l.length = k := by have := congrArg List.length hl; simpa [HN.out, Nat.min_eq_left hk] using this
    have HAW := mkHid haw
    clear haw
    have bW : Below w.heap.size w wr := BB3.trans (c.but.below (Nat.le_refl _) (by rw [HX3.out]; omega))
    by_cases hlt : k < n
    · have hk' : k < t.ks.length := by rw [HN.out]; exact hlt
      obtain ⟨kin, b, o, ha, hbB, kf⟩ := HIN.out.kid k hk'
      have kf' := kf.keep bW hbB
      have kin' := (kin.keep bW).mono bW.size
      have hawk : TAw w.heap.size t.ks[k] := kin.aw (Nat.le_refl _)
      have HMK := mkHid (List.getElem_mem hk')
      have HC := mkHid (HF.out t.ks[k] (List.getElem_mem _) (wr.alloc (boxT t.ks[k])) (kin'.later (bel_alloc _ _)))
      have HT := mkHid (List.take_succ_eq_append_getElem hk')
      generalize t.ks[k] = q at *
      rw [ha]
      clear ha kin kf kin' hk'
      obtain ⟨g0, g1, g2, g3⟩ := kf'
      have F4 := box_four wr q
      have bN := bel_alloc wr (boxT q)
      have HCN := mkHid (c.later bN)
      have hW5 : wr.alloc (.cells #[.int .i64 q.op, .string q.nm, .int .i64 q.n, .slice q.a q.ks.length q.c] 24) = wr.alloc (boxT q) := rfl
      have hzr : w.heap.size < (wr.alloc (boxT q)).heap.size := by
        have h1 := c.but.size
        have h2 := bN.size
        have h3 := HX3.out
        omega
      unfold Tm.val at HC
      generalize wr.alloc (boxT q) = W5 at *
      obtain ⟨f0, f1, f2, f3'⟩ := F4
      simp only [Nat.zero_add] at f1 f2 f3'
      have hk2 : (k : Int) < (n : Int) := by omega
      go_wp2_with fail
      ((with_reducible refine HC.out.mono ?_)); rintro e w6 ⟨z, rfl, hz1, hz2, hz3, hb6⟩
      clear g0 g1 g2 g3 f0 f1 f2 f3' hW5 HC
      have c6 := HCN.out.later hb6
      have hz3' : TAw w.heap.size z := hz3 _ hzr hawk
      obtain ⟨e0, t0, s0⟩ := c6.there (k * 4) (by omega)
      obtain ⟨e1, t1, s1⟩ := c6.there (k * 4 + 1) (by omega)
      obtain ⟨e2, t2, s2⟩ := c6.there (k * 4 + 2) (by omega)
      obtain ⟨e3, t3, s3⟩ := c6.there (k * 4 + 3) (by omega)
      have c7 := c6.store (by omega) hz2 hz3'
      rw [hll] at c7
      have HC7 := mkHid c7
      have HZ3 := mkHid hz3
      clear c6 c7 c hz3
      unfold Tm.val
      go_wp2
      go_roundw
      case rel =>
        refine ⟨k + 1, _, rfl, by omega, by omega, _, HC7.out, by rw [HT.out, List.map_append, List.map_append, hl]; simp [hz1], fun R hR hks y hy => ?_⟩
        rcases List.mem_append.1 hy with hy | hy
        · exact HAW.out R hR hks y hy
        · rw [List.mem_singleton.1 hy]
          exact HZ3.out R (by omega) (hks q HMK.out)
      case measure => simp [intOf]; omega
    · obtain rfl : k = n := by omega
      have HL : Hid (l.map Tm.er = t.ks.map F) := by
        show _ = _
        rw [hl, List.take_of_length_le (by rw [HN.out]; omega)]
      have HC := mkHid c
      have hsz : w.heap.size < wr.heap.size := by
        have h1 := c.but.size
        have h3 := HX3.out
        omega
      clear hl c
      go_wp2
      refine bodyPost_ret (v := .slice (some ⟨w.heap.size, 0, none⟩) k k) (by simp [results, Tryd.results91, go_sem]) rfl ⟨l, w.heap.size, by rw [HN.out], HL.out, fun j hj => ?_, HC.out.tin, Nat.le_refl _, hsz, HAW.out, bW⟩
      exact HC.out.four (by omega) j hj
set_option maxRecDepth 100000 in
set_option maxHeartbeats 4000000 in
theorem each_cop (F : Tm → Tm) (t : Tm) (w : World) (hin : TIn w w.heap.size t) (hkl : t.ks.length ≤ 2000) (hf : ∀ k ∈ t.ks, ∀ w' : World, TIn w' w'.heap.size k → Calls Tryd.prog 67 #[k.val] w' (BecP F k w')) :
    Calls Tryd.prog 91 #[.slice t.a t.ks.length t.c, .func (.func 67) #[] #[]] w (EachP F t.ks w) := by
  obtain ⟨cs, hcs, hmk⟩ := made_terms t.ks.length hkl
  have HIN := mkHid hin
  have HF := mkHid hf
  clear hin hf
  generalize hn' : t.ks.length = n at *
  have HN := mkHid hn'
  clear hn'
  have hn9 : n ≤ 9223372036854775807 := by omega
  have C0 := CR.start (w := w) hcs hkl
  have BB3 := bel_alloc w (.cells cs 24)
  have hX3 : (w.alloc (.cells cs 24)).heap.size = w.heap.size + 1 := World.size_alloc _ _
  have HX3 := mkHid hX3
  clear hX3 hcs
  generalize hW3 : w.alloc (.cells cs 24) = W3 at *
  go_enter Tryd.func91, Tryd.ntmps91
  go_wp2
  clear hW3 hmk
  go_loopw [13] (fun i w' => ∃ (k : Nat) (x : Int), i = .int .i64 x ∧ x = k ∧ k ≤ n ∧ ∃ l, CR W3 w.heap.size n l w' ∧ l.map Tm.er = (t.ks.take k).map F ∧ (∀ R, R < w.heap.size → (∀ k ∈ t.ks, TAw R k) → ∀ x ∈ l, TAw R x)) (fun i _ => (n - intOf i).toNat)
  case atStart => exact ⟨0, 0, rfl, rfl, Nat.zero_le _, [], C0, by simp, fun _ _ _ x hx => by cases hx⟩
  case round =>
    clear C0
    obtain ⟨k, x, rfl, hxk, hk, l, c, hl, haw⟩ := hrel
    obtain rfl : x = (k : Int) := hxk
    have hll : l.length = k := by have := congrArg List.length hl; simpa [HN.out, Nat.min_eq_left hk] using this
    have HAW := mkHid haw
    clear haw
    have bW : Below w.heap.size w wr := BB3.trans (c.but.below (Nat.le_refl _) (by rw [HX3.out]; omega))
    by_cases hlt : k < n
    · have hk' : k < t.ks.length := by rw [HN.out]; exact hlt
      obtain ⟨kin, b, o, ha, hbB, kf⟩ := HIN.out.kid k hk'
      have kf' := kf.keep bW hbB
      have kin' := (kin.keep bW).mono bW.size
      have hawk : TAw w.heap.size t.ks[k] := kin.aw (Nat.le_refl _)
      have HMK := mkHid (List.getElem_mem hk')
      have HC := mkHid (HF.out t.ks[k] (List.getElem_mem _) (wr.alloc (boxT t.ks[k])) (kin'.later (bel_alloc _ _)))
      have HT := mkHid (List.take_succ_eq_append_getElem hk')
      generalize t.ks[k] = q at *
      rw [ha]
      clear ha kin kf kin' hk'
      obtain ⟨g0, g1, g2, g3⟩ := kf'
      have F4 := box_four wr q
      have bN := bel_alloc wr (boxT q)
      have HCN := mkHid (c.later bN)
      have hW5 : wr.alloc (.cells #[.int .i64 q.op, .string q.nm, .int .i64 q.n, .slice q.a q.ks.length q.c] 24) = wr.alloc (boxT q) := rfl
      have hzr : w.heap.size < (wr.alloc (boxT q)).heap.size := by
        have h1 := c.but.size
        have h2 := bN.size
        have h3 := HX3.out
        omega
      unfold Tm.val at HC
      generalize wr.alloc (boxT q) = W5 at *
      obtain ⟨f0, f1, f2, f3'⟩ := F4
      simp only [Nat.zero_add] at f1 f2 f3'
      have hk2 : (k : Int) < (n : Int) := by omega
      go_wp2_with fail
      ((with_reducible refine HC.out.mono ?_)); rintro e w6 ⟨z, rfl, hz1, hz2, hz3, hb6⟩
      clear g0 g1 g2 g3 f0 f1 f2 f3' hW5 HC
      have c6 := HCN.out.later hb6
      have hz3' : TAw w.heap.size z := hz3 _ hzr hawk
      obtain ⟨e0, t0, s0⟩ := c6.there (k * 4) (by omega)
      obtain ⟨e1, t1, s1⟩ := c6.there (k * 4 + 1) (by omega)
      obtain ⟨e2, t2, s2⟩ := c6.there (k * 4 + 2) (by omega)
      obtain ⟨e3, t3, s3⟩ := c6.there (k * 4 + 3) (by omega)
      have c7 := c6.store (by omega) hz2 hz3'
      rw [hll] at c7
      have HC7 := mkHid c7
      have HZ3 := mkHid hz3
      clear c6 c7 c hz3
      unfold Tm.val
      go_wp2
      go_roundw
      case rel =>
        refine ⟨k + 1, _, rfl, by omega, by omega, _, HC7.out, by rw [HT.out, List.map_append, List.map_append, hl]; simp [hz1], fun R hR hks y hy => ?_⟩
        rcases List.mem_append.1 hy with hy | hy
        · exact HAW.out R hR hks y hy
        · rw [List.mem_singleton.1 hy]
          exact HZ3.out R (by omega) (hks q HMK.out)
      case measure => simp [intOf]; omega
    · obtain rfl : k = n := by omega
      have HL : Hid (l.map Tm.er = t.ks.map F) := by
        show _ = _
        rw [hl, List.take_of_length_le (by rw [HN.out]; omega)]
      have HC := mkHid c
      have hsz : w.heap.size < wr.heap.size := by
        have h1 := c.but.size
        have h3 := HX3.out
        omega
      clear hl c
      go_wp2
      refine bodyPost_ret (v := .slice (some ⟨w.heap.size, 0, none⟩) k k) (by simp [results, Tryd.results91, go_sem]) rfl ⟨l, w.heap.size, by rw [HN.out], HL.out, fun j hj => ?_, HC.out.tin, Nat.le_refl _, hsz, HAW.out, bW⟩
      exact HC.out.four (by omega) j hj
/-- a row of parts that was made, and a term of it -/
theorem of_each {F : Tm → Tm} {ks : List Tm} {w' w'' : World} {l : List Tm} {R0 : Nat} (op n : Int) (nm : ByteArray) (h1 : fitB op = true) (h2 : fitB n = true) (h3 : nm.size ≤ maxLen) (hk : ks.length ≤ 2000) (hl : l.map Tm.er = ks.map F) (hf : ∀ j (h : j < l.length), Four w' R0 (j * 4) l[j]) (ht : ∀ x ∈ l, TIn w' w'.heap.size x) (hR : R0 < w'.heap.size) (hb : Below w'.heap.size w' w'') : TIn w'' w''.heap.size (.node op nm n (some ⟨R0, 0, none⟩) ks.length l) := by
  have hll : l.length = ks.length := by have := congrArg List.length hl; simpa using this
  refine .mk _ h1 h2 h3 (by show l.length ≤ ks.length; omega) (by show ks.length ≤ maxLen; unfold maxLen; omega) (fun j hj => ⟨R0, 0, rfl, Nat.lt_of_lt_of_le hR hb.size, ?_⟩) (fun x hx => (ht x hx).later hb)
  rw [Nat.zero_add]
  exact (hf j hj).later hb
theorem aw_each {R R0 : Nat} {op n : Int} {nm : ByteArray} {c : Nat} {l : List Tm} (hR : R < R0) (h : ∀ x ∈ l, TAw R x) : TAw R (.node op nm n (some ⟨R0, 0, none⟩) c l) := by
  refine .mk _ (fun _ p hp => ?_) h
  have hp : some (⟨R0, 0, none⟩ : Addr) = some p := hp
  obtain rfl := Option.some.inj hp
  show R0 ≠ R
  omega
theorem size_kid {t k : Tm} (h : k ∈ t.ks) : k.size ≤ t.size := by
  rw [Tm.size_eq t]
  have : ∀ ks : List Tm, k ∈ ks → k.size ≤ Tm.sizes ks := by
    intro ks
    induction ks with
    | nil => intro h; cases h
    | cons q ks ih =>
      intro h
      simp only [Tm.sizes]
      rcases List.mem_cons.1 h with rfl | h
      · omega
      · have := ih h; omega
  have := this t.ks h
  omega
theorem len_kids {t : Tm} (h : t.size ≤ 2000) : t.ks.length ≤ 2000 := by
  have h1 := len_sizes t.ks
  have h2 := Tm.size_eq t
  omega
set_option maxRecDepth 100000 in
set_option maxHeartbeats 4000000 in
theorem ncopied_any (t : Tm) : ∀ w : World, TIn w w.heap.size t → t.size ≤ 2000 → Calls Tryd.prog 67 #[t.val] w (BecP Tm.er t w) := by
  induction t using Tm.ind with
  | h t ih =>
  intro w hin hz
  have hb2 : Below w.heap.size w (cpW t w) := bal (bal (Below.refl _ _) _) _
  have F2 : Four (cpW t w) w.heap.size 0 t := (box_four w t).later (bel_alloc _ _)
  have f2 : (cpW t w).frozen? ⟨w.heap.size, 3, none⟩ = false := by simp [cpW, boxT, go_sem]
  have FR : FourV' (cpW t w) (w.heap.size + 1) (.int .i64 0) (.string ⟨#[]⟩) (.int .i64 0) (.slice none 0 0) := by simp [FourV', cpW, boxT, go_sem]
  have HC := mkHid (each_cop Tm.er t (cpW t w) (hin.later hb2) (len_kids hz) (fun k hk w' h => ih k hk w' h (Nat.le_trans (size_kid hk) hz)))
  have HNU := mkHid hin.nums
  have HIN := mkHid hin
  have HLK := mkHid (len_kids hz)
  have hW2 : (w.alloc (.cells #[.int .i64 t.op, .string t.nm, .int .i64 t.n, .slice t.a t.ks.length t.c] 24)).alloc (.cells #[.int .i64 0, .string ⟨#[]⟩, .int .i64 0, .slice none 0 0] 24) = cpW t w := rfl
  clear ih hz hin
  generalize cpW t w = W2 at *
  unfold Tm.val
  obtain ⟨a0, a1, a2, a3⟩ := id F2
  simp only [Nat.zero_add] at a1 a2 a3
  go_enter Tryd.func67, Tryd.ntmps67
  go_wp2_with fail
  ((with_reducible refine HC.out.mono ?_)); rintro e w3 ⟨l, R0, rfl, hl, hf, ht, hR1, hR2, haw, hb3⟩
  clear a0 a1 a2 a3 hW2
  have hll : l.length = t.ks.length := by have := congrArg List.length hl; simpa using this
  have F3 := F2.later hb3
  have f3 := frozen_later hb3 F2.2.2.2 (by rw [Nat.zero_add]; exact f2)
  simp only [Nat.zero_add] at f3
  obtain ⟨a0, a1, a2, a3⟩ := id F3
  simp only [Nat.zero_add] at a1 a2 a3
  obtain ⟨m0, m1, m2, m3, g0, g1, g2, g3⟩ := FR.later hb3
  have HALL := mkHid (And.intro hl (And.intro hf (And.intro ht (And.intro hR1 (And.intro hR2 (And.intro haw hb3))))))
  have HLL := mkHid hll
  have HB2 := mkHid hb2
  have hlt : Hid (w.heap.size < W2.heap.size ∧ w.heap.size + 1 < W2.heap.size) := ⟨World.block_lt_of_cell? _ _ F2.1, World.block_lt_of_cell? _ _ FR.1⟩
  clear hl hf ht hR1 hR2 haw hb3 hll FR F2 F3 f2 HC hb2
  go_wp2
  obtain ⟨hl, hf, ht, hR1, hR2, haw, hb3⟩ := HALL.out
  obtain ⟨hlt1, hlt2⟩ := hlt.out
  obtain ⟨ho, hn, hs, -, -⟩ := HNU.out
  have hbel : Below w.heap.size w (((((w3.setCell ⟨w.heap.size, 3, none⟩ (.slice (some ⟨R0, 0, none⟩) t.ks.length t.ks.length)).setCell ⟨w.heap.size + 1, 0, none⟩ (.int .i64 t.op)).setCell ⟨w.heap.size + 1, 1, none⟩ (.string t.nm)).setCell ⟨w.heap.size + 1, 2, none⟩ (.int .i64 t.n)).setCell ⟨w.heap.size + 1, 3, none⟩ (.slice (some ⟨R0, 0, none⟩) t.ks.length t.ks.length)) := bset (bset (bset (bset (bset (bon HB2.out hb3) (by show w.heap.size ≤ w.heap.size; omega) _) (by show w.heap.size ≤ w.heap.size + 1; omega) _) (by show w.heap.size ≤ w.heap.size + 1; omega) _) (by show w.heap.size ≤ w.heap.size + 1; omega) _) (by show w.heap.size ≤ w.heap.size + 1; omega) _
  refine bodyPost_ret (v := .agg #[.int .i64 t.op, .string t.nm, .int .i64 t.n, .slice (some ⟨R0, 0, none⟩) t.ks.length t.ks.length]) (by simp [results, Tryd.results67, go_sem, m0, m1, m2, m3]) rfl ⟨.node t.op t.nm t.n (some ⟨R0, 0, none⟩) t.ks.length l, ?_, ?_, ?_, ?_, hbel⟩
  · simp only [Tm.val, Tm.op, Tm.nm, Tm.n, Tm.a, Tm.ks, Tm.c, HLL.out]
  · rw [er_eq, er_eq t]
    simp only [Tm.op, Tm.nm, Tm.n, Tm.ks, hl]
  · have TN := of_each t.op t.n t.nm ho hn hs HLK.out hl hf ht hR2 (Below.refl _ _)
    have A : ∀ R, R < W2.heap.size → w.heap.size ≤ R → TAw R (.node t.op t.nm t.n (some ⟨R0, 0, none⟩) t.ks.length l) := fun R h1 h2 => aw_each (by omega) (haw R h1 (fun k hk => (kid_in HIN.out hk).aw h2))
    have A0 := A w.heap.size hlt1 (Nat.le_refl _)
    have A1 := A (w.heap.size + 1) hlt2 (by omega)
    have hsz : (((((w3.setCell ⟨w.heap.size, 3, none⟩ (.slice (some ⟨R0, 0, none⟩) t.ks.length t.ks.length)).setCell ⟨w.heap.size + 1, 0, none⟩ (.int .i64 t.op)).setCell ⟨w.heap.size + 1, 1, none⟩ (.string t.nm)).setCell ⟨w.heap.size + 1, 2, none⟩ (.int .i64 t.n)).setCell ⟨w.heap.size + 1, 3, none⟩ (.slice (some ⟨R0, 0, none⟩) t.ks.length t.ks.length)).heap.size = w3.heap.size := by simp
    rw [hsz]
    exact ((((TN.setAw (p := ⟨w.heap.size, 3, none⟩) A0 _).setAw (p := ⟨w.heap.size + 1, 0, none⟩) A1 _).setAw (p := ⟨w.heap.size + 1, 1, none⟩) A1 _).setAw (p := ⟨w.heap.size + 1, 2, none⟩) A1 _).setAw (p := ⟨w.heap.size + 1, 3, none⟩) A1 _
  · exact fun R hR hT => aw_each (by omega) (haw R (by omega) (fun k hk => hT.kid hk))
end Go.Proofs.YtlobffjgkhcjbaaDoor
