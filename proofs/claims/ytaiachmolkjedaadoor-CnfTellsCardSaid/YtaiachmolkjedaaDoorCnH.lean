/-
  What package cnf's 'turned' and 'define' do.
-/
import Derived.Test.YtaiachmolkjedaaDoorCnG
import Derived.IntWalk
namespace Go.Proofs.YtaiachmolkjedaaDoor
open Go.RowKit

theorem ints_set (l : List Int) (k : Nat) (x : Int) : (ints l).set k (.int .i64 x) = ints (l.set k x) := by
  unfold ints
  rw [List.map_set]
theorem made_ints (n : Nat) (h : n ≤ 5000) : ∃ cs : Array Value, cs.size = n * 1 ∧ cs.toList = ints (List.replicate n 0) ∧ ∀ w : World, (Instr.makeSlice 54 (.int .i64 (n : Int)) (.int .i64 (n : Int))).run Tryd.prog w = .ok (.slice (some ⟨w.heap.size, 0, none⟩) n n) (w.alloc (.cells cs 3)) := by
  obtain ⟨i0, hi0, hz0, hz1, hz2⟩ := int_parts
  refine ⟨madeCells #[.int .i64 0] (n * 1), size_madeCells _ _, ?_, fun w => ?_⟩
  · apply List.ext_getElem?
    intro j
    by_cases hj : j < n
    · simp [madeCells, ints, hj, Nat.mod_one]
    · simp [madeCells, ints, hj]
  · have hr := run_make (P := Tryd.prog) w 54 3 i0 _ Tryd.underlying54 hi0 hz0 .i64 .i64 (n : Int) (n : Int) (by omega) (Int.le_refl _) (by rw [hz2]; omega) (by omega)
    rw [hr, hz1, Int.toNat_natCast]
    rfl
/-- a row of literals of one's own -/
def LRow (w : World) (base g n : Nat) (ls : List Int) : Prop := w.ownsRow base 3 1 (.slice (some ⟨g, 0, none⟩) n n) n (ints ls)
theorem LRow.len {w : World} {base g n : Nat} {ls : List Int} (h : LRow w base g n ls) : ls.length = n := by have := h.1; rw [ints_len] at this; omega
theorem LRow.cell {w : World} {base g n : Nat} {ls : List Int} (h : LRow w base g n ls) (k : Nat) (hk : k < ls.length) : w.cell? ⟨g, k, none⟩ = some (.int .i64 ls[k]) := by
  have h1 := h.len
  have h2 : w.cell? ⟨g, k, none⟩ = _ := World.ownsRow.cellAt h k (by omega)
  rw [h2, ints_at ls k hk]
theorem LRow.frozen {w : World} {base g n : Nat} {ls : List Int} (h : LRow w base g n ls) (k : Nat) : w.frozen? ⟨g, k, none⟩ = false := World.ownsRow.frozenAt h k
theorem LRow.set {w : World} {base g n : Nat} {ls : List Int} (h : LRow w base g n ls) (k : Nat) (x : Int) : LRow (w.setCell ⟨g, k, none⟩ (.int .i64 x)) base g n (ls.set k x) := by
  have := (World.ownsRow.stored h k (.int .i64 x)).1
  rw [ints_set] at this
  exact this
theorem LRow.later {w w' : World} {base g n : Nat} {ls : List Int} (h : LRow w base g n ls) (hb : Below w.heap.size w w') : LRow w' base g n ls := own_lat' h hb
theorem LRow.il {w : World} {base g n : Nat} {ls : List Int} (h : LRow w base g n ls) : IL w (.slice (some ⟨g, 0, none⟩) n n) ls := by
  have h1 := h.len
  subst h1
  exact own_il h
def fit (x : Int) : Prop := -1000000 ≤ x ∧ x ≤ 1000000
/-- literals turned -/
def TurP (n : Nat) (ls : List Int) (w : World) (e : Ending) (w' : World) : Prop := ∃ g, e = .returned (.slice (some ⟨g, 0, none⟩) n n) ∧ LRow w' w.heap.size g n (ls.map (fun l => -l)) ∧ Below w.heap.size w w'
set_option maxRecDepth 100000 in
set_option maxHeartbeats 2000000 in
theorem turned_any (base g n : Nat) (ls : List Int) (w : World) (h : LRow w base g n ls) (hn : n ≤ 5000) (hf : ∀ x ∈ ls, fit x) :
    Calls Tryd.prog 108 #[.slice (some ⟨g, 0, none⟩) n n] w (TurP n ls w) := by
  obtain ⟨cs, hcs1, hcs2, hmk⟩ := made_ints n hn
  have hb1 := bel_alloc w (.cells cs 3)
  have HR0 : LRow (w.alloc (.cells cs 3)) w.heap.size w.heap.size n (List.replicate n 0) := by
    have := World.ownsRow_lit (base := w.heap.size) (size := 1) (e := 3) w cs n (Nat.le_refl _) (by unfold maxLen; omega) hcs1
    rw [hcs2] at this
    exact this
  have HL := mkHid (h.later hb1)
  have hgl : g < w.heap.size := (own_lt h rfl).2
  have hne : ¬ g = w.heap.size := by omega
  have HB := mkHid hb1
  have HF := mkHid hf
  have hn9 : n ≤ 9223372036854775807 := by omega
  have HR0 := mkHid HR0
  clear h hb1 hcs1 hcs2 hf hgl
  generalize hW : w.alloc (.cells cs 3) = W at *
  go_enter Tryd.func108, Tryd.ntmps108
  go_wp2
  clear hmk hW
  go_loopw [11] (fun i w' => ∃ (k : Nat) (x : Int), i = .int .i64 x ∧ x = k ∧ k ≤ n ∧ Hid (But w.heap.size W w') ∧ Hid (LRow w' w.heap.size w.heap.size n ((ls.take k).map (fun l => -l) ++ List.replicate (n - k) 0))) (fun i _ => (n - intOf i).toNat)
  case atStart => exact ⟨0, 0, rfl, rfl, Nat.zero_le _, mkHid (But.refl _ _), by simpa using HR0⟩
  case round =>
    obtain ⟨k, x, rfl, hxk, hk, BW, HA⟩ := hrel
    obtain rfl : x = (k : Int) := hxk
    have hll : ls.length = n := HL.out.len
    by_cases hlt : k < n
    · have hk' : k < ls.length := by omega
      have c1 := BW.out.cell (HL.out.cell k hk') hne
      have hfx := HF.out ls[k] (List.getElem_mem _)
      have c2 := HA.out.cell k (by simp; omega)
      have f2 := HA.out.frozen k
      have HS := mkHid (HA.out.set k (-ls[k]))
      have HE : Hid (((ls.take k).map (fun l => -l) ++ List.replicate (n - k) 0).set k (-ls[k]) = (ls.take (k + 1)).map (fun l => -l) ++ List.replicate (n - (k + 1)) 0) := by
        show _ = _
        have hl : ((ls.take k).map (fun l => -l)).length = k := by simp; omega
        rw [List.set_append_right _ _ (by omega), hl, Nat.sub_self, show n - k = (n - (k + 1)) + 1 by omega, List.replicate_succ, List.set_cons_zero, List.take_succ_eq_append_getElem hk', List.map_append, List.append_assoc]
        rfl
      rw [HE.out] at HS
      have hBN := mkHid (BW.out.set (p := ⟨w.heap.size, k, none⟩) (.inl rfl) (.int .i64 (-ls[k])))
      obtain ⟨x1, x2⟩ := hfx
      clear HE HA
      generalize ls[k] = q at *
      clear hk'
      have hk2 : (k : Int) < (n : Int) := by omega
      have hq1 : -9223372036854775808 ≤ -q := by omega
      have hq2 : -q ≤ 9223372036854775807 := by omega
      go_wp2
      go_roundw
      case rel => exact ⟨k + 1, _, rfl, by omega, by omega, hBN, HS⟩
      case measure => simp [intOf]; omega
    · obtain rfl : k = n := by omega
      have HE : Hid (LRow wr w.heap.size w.heap.size k (ls.map (fun l => -l))) := by
        have := HA.out
        rw [List.take_of_length_le (by omega), Nat.sub_self] at this
        show LRow _ _ _ _ _
        simpa using this
      go_wp2
      go_ret
      exact ⟨w.heap.size, rfl, HE.out, HB.out.trans (BW.out.below (Nat.le_refl _) HB.out.size)⟩
/-- what 'define' does -/
def DefP (F g base : Nat) (va : Value) (nv : Int) (v : Value) (us : List Value) (C : List (List Int)) (w : World) (e : Ending) (w' : World) : Prop :=
  e = .returned (.tuple #[]) ∧ ∃ v' us1, DI (fun k => k = F ∨ k = g) F base va nv w v us w' v' C us1
theorem FBox.far {w : World} {F : Nat} {va v : Value} {n : Int} (h : FBox w F va n v) {p : Addr} (hp : F ≠ p.block) (u : Value) : FBox (w.setCell p u) F va n v := h.block (Below.heap_setCell w p u F hp)
theorem DI.setG {F g base : Nat} {va v : Value} {nv : Int} {us : List Value} {C : List (List Int)} {w : World} (hC : CRows w base v C us) (hf : FBox w F va nv v) (hFg : F ≠ g) (hvg : v.ownBlock ≠ some g) (hug : ∀ u ∈ us, ∀ k, u.ownBlock = some k → k ≠ g) (i : Nat) (u : Value) :
    DI (fun k => k = F ∨ k = g) F base va nv w v us (w.setCell ⟨g, i, none⟩ u) v C [] := by
  have hG : Gr (fun k => k = F ∨ k = g) w v (w.setCell ⟨g, i, none⟩ u) v := (Gr.refl _ _ _).set (p := ⟨g, i, none⟩) (.inr rfl) _
  have hG2 : Gr (fun k => k = g) w (.slice none 0 0) (w.setCell ⟨g, i, none⟩ u) (.slice none 0 0) := Gr.set (S := fun k => k = g) (Gr.refl _ _ _) (p := ⟨g, i, none⟩) rfl _
  refine ⟨hG, hf.far (p := ⟨g, i, none⟩) hFg _, ⟨?_, by simpa using hC.len, fun j h1 h2 => ?_⟩, fun u hu => (by cases hu)⟩
  · rw [List.append_nil]
    exact own_gr hG2 hC.row (fun k hk => ⟨fun e => by have e' : k = g := e; exact hvg (by rw [hk, e']), by simp [Value.ownBlock]⟩)
  · simp only [List.append_nil] at h2 ⊢
    exact own_gr hG2 (hC.els j h1 h2) (fun k hk => ⟨fun e => by have e' : k = g := e; exact hug _ (List.getElem_mem _) k hk e', by simp [Value.ownBlock]⟩)
theorem LRow.gr {S : Nat → Prop} {w w' : World} {v v' : Value} {base g n : Nat} {ls : List Int} (h : LRow w base g n ls) (hG : Gr S w v w' v') (hs : ¬ S g) (hv : v.ownBlock ≠ some g) : LRow w' base g n ls :=
  own_gr hG h (fun k hk => by
    simp only [Value.ownBlock, Option.some.injEq] at hk
    subst hk
    exact ⟨hs, hv⟩)
set_option maxRecDepth 100000 in
set_option maxHeartbeats 4000000 in
theorem define16 (F base g gb n h : Nat) (va v : Value) (nv : Int) (ls : List Int) (C : List (List Int)) (us : List Value) (w : World) (hF : F < base) (hbw : base ≤ w.heap.size) (hC : CRows w base v C us) (hf : FBox w F va nv v) (hL : LRow w gb g n ls) (hFg : F ≠ g) (hn : n ≤ 5000) (hcl : C.length ≤ 40000) (hfit : ∀ x ∈ ls, fit x) (hh : h ≤ 1000000) :
    Calls Tryd.prog 88 #[.pointer (some ⟨F, 0, none⟩), .int .i64 (h : Int), .int .i64 16, .slice (some ⟨g, 0, none⟩) n n] w (DefP F g base va nv v us (C ++ cdef 16 (h : Int) ls) w) := by
  have HVG : Hid (v.ownBlock ≠ some g) := fun e => own_apart' hC.row hL (by decide) g e rfl
  have D0 := mkHid (DI.refl (S := (· = F)) hf hC)
  have HL := mkHid hL
  have HFT := mkHid hfit
  have hn9 : n ≤ 9223372036854775807 := by omega
  have hh1 : -9223372036854775808 ≤ -(h : Int) := by omega
  have hh2 : -(h : Int) ≤ 9223372036854775807 := by omega
  clear hC hf hL hfit
  go_enter Tryd.func88, Tryd.ntmps88
  go_wp2
  go_loopw [23] (fun i w' => ∃ (k : Nat) (x : Int) (v1 : Value) (us1 : List Value), i = .int .i64 x ∧ x = k ∧ k ≤ n ∧ Hid (DI (· = F) F base va nv w v us w' v1 (C ++ (ls.take k).map (fun l : Int => [-(h : Int), l])) us1)) (fun i _ => (n - intOf i).toNat)
  case atStart => exact ⟨0, 0, v, [], rfl, rfl, Nat.zero_le _, by simpa using D0⟩
  case round =>
    obtain ⟨k, x, v1, us1, rfl, hxk, hk, HD⟩ := hrel
    obtain rfl : x = (k : Int) := hxk
    have hll : ls.length = n := HL.out.len
    have hLr := LRow.gr HL.out HD.out.gr (by omega) HVG.out
    by_cases hlt : k < n
    · have hk' : k < ls.length := by omega
      have c1 := hLr.cell k hk'
      have hfx := HFT.out ls[k] (List.getElem_mem _)
      have HT : Hid ((ls.take (k + 1)).map (fun l : Int => [-(h : Int), l]) = (ls.take k).map (fun l : Int => [-(h : Int), l]) ++ [[-(h : Int), ls[k]]]) := by
        show _ = _
        rw [List.take_succ_eq_append_getElem hk', List.map_append]
        rfl
      obtain ⟨x1, x2⟩ := hfx
      generalize ls[k] = q at *
      clear hk' hLr
      have hk2 : (k : Int) < (n : Int) := by omega
      have hq1 : -9223372036854775808 ≤ -q := by omega
      have hq2 : -q ≤ 9223372036854775807 := by omega
      have hb := bel_alloc wr (.cells #[.int .i64 (q)] 3)
      have HI : LRow (wr.alloc (.cells #[.int .i64 (q)] 3)) wr.heap.size wr.heap.size 1 [q] := World.ownsRow_lit (base := wr.heap.size) (size := 1) (e := 3) wr #[.int .i64 (q)] 1 (Nat.le_refl _) (by decide) rfl
      have HD1 := mkHid (HD.out.later hb)
      have HAD := mkHid (add_any F base va v1 (.slice (some ⟨wr.heap.size, 0, none⟩) 1 1) nv (-(h : Int)) (C ++ (ls.take k).map (fun l : Int => [-(h : Int), l])) (us ++ us1) [q] (wr.alloc (.cells #[.int .i64 (q)] 3)) hF (Nat.le_trans hbw (Nat.le_trans HD.out.gr.size hb.size)) HD1.out.rows HD1.out.box HI.il (by rw [List.length_append, List.length_map, List.length_take]; omega) (by show 1 ≤ 50000; omega))
      clear hb HI
      generalize hW1 : wr.alloc (.cells #[.int .i64 (q)] 3) = W1 at *
      go_wp2_with (go_at_call 64; ((with_reducible refine HAD.out.mono ?_)); rintro e w1 ⟨rfl, v2, us2, hd⟩)
      have HD2 := mkHid (HD1.out.trans hd)
      rw [List.append_assoc, ← HT.out] at HD2
      clear hd hW1
      go_roundw
      case rel => exact ⟨k + 1, _, v2, us1 ++ us2, rfl, by omega, by omega, HD2⟩
      case measure => simp [intOf]; omega
    · obtain rfl : k = n := by omega
      replace HD : Hid (DI (· = F) F base va nv w v us wr v1 (C ++ ls.map (fun l : Int => [-(h : Int), l])) us1) := by
        have := HD.out
        rw [List.take_of_length_le (by omega)] at this
        exact this
      have hll2 : ls.length = k := hll
      have HTU := mkHid (turned_any gb g k ls wr hLr hn HFT.out)
      have HAD := mkHid (fun (g2 : Nat) (w2 : World) (hb : Below wr.heap.size wr w2) (hr : LRow w2 wr.heap.size g2 k (ls.map (fun l => -l))) => add_any F base va v1 (.slice (some ⟨g2, 0, none⟩) k k) nv (h : Int) (C ++ ls.map (fun l => [-(h : Int), l])) (us ++ us1) (ls.map (fun l => -l)) w2 hF (Nat.le_trans hbw (Nat.le_trans HD.out.gr.size hb.size)) (HD.out.later hb).rows (HD.out.later hb).box hr.il (by rw [List.length_append, List.length_map]; omega) (by rw [List.length_map]; omega))
      clear hLr
      go_wp2_with (first
        | (go_at_call 108; ((with_reducible refine HTU.out.mono ?_)); rintro e w2 ⟨g2, rfl, hr2, hb2⟩)
        | (go_at_call 64; ((with_reducible refine (HAD.out g2 w2 hb2 hr2).mono ?_)); rintro e w3 ⟨rfl, v2, us2, hd⟩))
      go_end0
      refine ⟨rfl, v2, us1 ++ us2, ?_⟩
      have := ((HD.out.later hb2).trans hd).mono (S' := fun k => k = F ∨ k = g) (fun k e => .inl e)
      rw [show cdef 16 (h : Int) ls = ls.map (fun l => [-(h : Int), l]) ++ [(h : Int) :: ls.map (fun l => -l)] from rfl]
      rw [List.append_assoc] at this
      exact this
set_option maxRecDepth 100000 in
set_option maxHeartbeats 4000000 in
theorem define19 (F base g gb n h : Nat) (va v : Value) (nv : Int) (ls : List Int) (C : List (List Int)) (us : List Value) (w : World) (hF : F < base) (hbw : base ≤ w.heap.size) (hC : CRows w base v C us) (hf : FBox w F va nv v) (hL : LRow w gb g n ls) (hFg : F ≠ g) (hn : n ≤ 5000) (hcl : C.length ≤ 40000) (hfit : ∀ x ∈ ls, fit x) (hh : h ≤ 1000000) :
    Calls Tryd.prog 88 #[.pointer (some ⟨F, 0, none⟩), .int .i64 (h : Int), .int .i64 19, .slice (some ⟨g, 0, none⟩) n n] w (DefP F g base va nv v us (C ++ cdef 19 (h : Int) ls) w) := by
  have HVG : Hid (v.ownBlock ≠ some g) := fun e => own_apart' hC.row hL (by decide) g e rfl
  have D0 := mkHid (DI.refl (S := (· = F)) hf hC)
  have HL := mkHid hL
  have HFT := mkHid hfit
  have hn9 : n ≤ 9223372036854775807 := by omega
  have hh1 : -9223372036854775808 ≤ -(h : Int) := by omega
  have hh2 : -(h : Int) ≤ 9223372036854775807 := by omega
  clear hC hf hL hfit
  go_enter Tryd.func88, Tryd.ntmps88
  go_wp2
  go_loopw [23] (fun i w' => ∃ (k : Nat) (x : Int) (v1 : Value) (us1 : List Value), i = .int .i64 x ∧ x = k ∧ k ≤ n ∧ Hid (DI (· = F) F base va nv w v us w' v1 (C ++ (ls.take k).map (fun l : Int => [-(h : Int), l])) us1)) (fun i _ => (n - intOf i).toNat)
  case atStart => exact ⟨0, 0, v, [], rfl, rfl, Nat.zero_le _, by simpa using D0⟩
  case round =>
    obtain ⟨k, x, v1, us1, rfl, hxk, hk, HD⟩ := hrel
    obtain rfl : x = (k : Int) := hxk
    have hll : ls.length = n := HL.out.len
    have hLr := LRow.gr HL.out HD.out.gr (by omega) HVG.out
    by_cases hlt : k < n
    · have hk' : k < ls.length := by omega
      have c1 := hLr.cell k hk'
      have hfx := HFT.out ls[k] (List.getElem_mem _)
      have HT : Hid ((ls.take (k + 1)).map (fun l : Int => [-(h : Int), l]) = (ls.take k).map (fun l : Int => [-(h : Int), l]) ++ [[-(h : Int), ls[k]]]) := by
        show _ = _
        rw [List.take_succ_eq_append_getElem hk', List.map_append]
        rfl
      obtain ⟨x1, x2⟩ := hfx
      generalize ls[k] = q at *
      clear hk' hLr
      have hk2 : (k : Int) < (n : Int) := by omega
      have hq1 : -9223372036854775808 ≤ -q := by omega
      have hq2 : -q ≤ 9223372036854775807 := by omega
      have hb := bel_alloc wr (.cells #[.int .i64 (q)] 3)
      have HI : LRow (wr.alloc (.cells #[.int .i64 (q)] 3)) wr.heap.size wr.heap.size 1 [q] := World.ownsRow_lit (base := wr.heap.size) (size := 1) (e := 3) wr #[.int .i64 (q)] 1 (Nat.le_refl _) (by decide) rfl
      have HD1 := mkHid (HD.out.later hb)
      have HAD := mkHid (add_any F base va v1 (.slice (some ⟨wr.heap.size, 0, none⟩) 1 1) nv (-(h : Int)) (C ++ (ls.take k).map (fun l : Int => [-(h : Int), l])) (us ++ us1) [q] (wr.alloc (.cells #[.int .i64 (q)] 3)) hF (Nat.le_trans hbw (Nat.le_trans HD.out.gr.size hb.size)) HD1.out.rows HD1.out.box HI.il (by rw [List.length_append, List.length_map, List.length_take]; omega) (by show 1 ≤ 50000; omega))
      clear hb HI
      generalize hW1 : wr.alloc (.cells #[.int .i64 (q)] 3) = W1 at *
      go_wp2_with (go_at_call 64; ((with_reducible refine HAD.out.mono ?_)); rintro e w1 ⟨rfl, v2, us2, hd⟩)
      have HD2 := mkHid (HD1.out.trans hd)
      rw [List.append_assoc, ← HT.out] at HD2
      clear hd hW1
      go_roundw
      case rel => exact ⟨k + 1, _, v2, us1 ++ us2, rfl, by omega, by omega, HD2⟩
      case measure => simp [intOf]; omega
    · obtain rfl : k = n := by omega
      replace HD : Hid (DI (· = F) F base va nv w v us wr v1 (C ++ ls.map (fun l : Int => [-(h : Int), l])) us1) := by
        have := HD.out
        rw [List.take_of_length_le (by omega)] at this
        exact this
      have hll2 : ls.length = k := hll
      have HTU := mkHid (turned_any gb g k ls wr hLr hn HFT.out)
      have HAD := mkHid (fun (g2 : Nat) (w2 : World) (hb : Below wr.heap.size wr w2) (hr : LRow w2 wr.heap.size g2 k (ls.map (fun l => -l))) => add_any F base va v1 (.slice (some ⟨g2, 0, none⟩) k k) nv (h : Int) (C ++ ls.map (fun l => [-(h : Int), l])) (us ++ us1) (ls.map (fun l => -l)) w2 hF (Nat.le_trans hbw (Nat.le_trans HD.out.gr.size hb.size)) (HD.out.later hb).rows (HD.out.later hb).box hr.il (by rw [List.length_append, List.length_map]; omega) (by rw [List.length_map]; omega))
      clear hLr
      go_wp2_with (first
        | (go_at_call 108; ((with_reducible refine HTU.out.mono ?_)); rintro e w2 ⟨g2, rfl, hr2, hb2⟩)
        | (go_at_call 64; ((with_reducible refine (HAD.out g2 w2 hb2 hr2).mono ?_)); rintro e w3 ⟨rfl, v2, us2, hd⟩))
      go_end0
      refine ⟨rfl, v2, us1 ++ us2, ?_⟩
      have := ((HD.out.later hb2).trans hd).mono (S' := fun k => k = F ∨ k = g) (fun k e => .inl e)
      rw [show cdef 19 (h : Int) ls = ls.map (fun l => [-(h : Int), l]) ++ [(h : Int) :: ls.map (fun l => -l)] from rfl]
      rw [List.append_assoc] at this
      exact this
set_option maxRecDepth 100000 in
set_option maxHeartbeats 4000000 in
theorem define17 (F base g gb n h : Nat) (va v : Value) (nv : Int) (ls : List Int) (C : List (List Int)) (us : List Value) (w : World) (hF : F < base) (hbw : base ≤ w.heap.size) (hC : CRows w base v C us) (hf : FBox w F va nv v) (hL : LRow w gb g n ls) (hFg : F ≠ g) (hn : n ≤ 5000) (hcl : C.length ≤ 40000) (hfit : ∀ x ∈ ls, fit x) (hh : h ≤ 1000000) :
    Calls Tryd.prog 88 #[.pointer (some ⟨F, 0, none⟩), .int .i64 (h : Int), .int .i64 17, .slice (some ⟨g, 0, none⟩) n n] w (DefP F g base va nv v us (C ++ cdef 17 (h : Int) ls) w) := by
  have HVG : Hid (v.ownBlock ≠ some g) := fun e => own_apart' hC.row hL (by decide) g e rfl
  have D0 := mkHid (DI.refl (S := (· = F)) hf hC)
  have HL := mkHid hL
  have HFT := mkHid hfit
  have hn9 : n ≤ 9223372036854775807 := by omega
  have hh1 : -9223372036854775808 ≤ -(h : Int) := by omega
  have hh2 : -(h : Int) ≤ 9223372036854775807 := by omega
  clear hC hf hL hfit
  go_enter Tryd.func88, Tryd.ntmps88
  go_wp2
  go_loopw [47] (fun i w' => ∃ (k : Nat) (x : Int) (v1 : Value) (us1 : List Value), i = .int .i64 x ∧ x = k ∧ k ≤ n ∧ Hid (DI (· = F) F base va nv w v us w' v1 (C ++ (ls.take k).map (fun l : Int => [(h : Int), -l])) us1)) (fun i _ => (n - intOf i).toNat)
  case atStart => exact ⟨0, 0, v, [], rfl, rfl, Nat.zero_le _, by simpa using D0⟩
  case round =>
    obtain ⟨k, x, v1, us1, rfl, hxk, hk, HD⟩ := hrel
    obtain rfl : x = (k : Int) := hxk
    have hll : ls.length = n := HL.out.len
    have hLr := LRow.gr HL.out HD.out.gr (by omega) HVG.out
    by_cases hlt : k < n
    · have hk' : k < ls.length := by omega
      have c1 := hLr.cell k hk'
      have hfx := HFT.out ls[k] (List.getElem_mem _)
      have HT : Hid ((ls.take (k + 1)).map (fun l : Int => [(h : Int), -l]) = (ls.take k).map (fun l : Int => [(h : Int), -l]) ++ [[(h : Int), -ls[k]]]) := by
        show _ = _
        rw [List.take_succ_eq_append_getElem hk', List.map_append]
        rfl
      obtain ⟨x1, x2⟩ := hfx
      generalize ls[k] = q at *
      clear hk' hLr
      have hk2 : (k : Int) < (n : Int) := by omega
      have hq1 : -9223372036854775808 ≤ -q := by omega
      have hq2 : -q ≤ 9223372036854775807 := by omega
      have hb := bel_alloc wr (.cells #[.int .i64 (-q)] 3)
      have HI : LRow (wr.alloc (.cells #[.int .i64 (-q)] 3)) wr.heap.size wr.heap.size 1 [-q] := World.ownsRow_lit (base := wr.heap.size) (size := 1) (e := 3) wr #[.int .i64 (-q)] 1 (Nat.le_refl _) (by decide) rfl
      have HD1 := mkHid (HD.out.later hb)
      have HAD := mkHid (add_any F base va v1 (.slice (some ⟨wr.heap.size, 0, none⟩) 1 1) nv ((h : Int)) (C ++ (ls.take k).map (fun l : Int => [(h : Int), -l])) (us ++ us1) [-q] (wr.alloc (.cells #[.int .i64 (-q)] 3)) hF (Nat.le_trans hbw (Nat.le_trans HD.out.gr.size hb.size)) HD1.out.rows HD1.out.box HI.il (by rw [List.length_append, List.length_map, List.length_take]; omega) (by show 1 ≤ 50000; omega))
      clear hb HI
      generalize hW1 : wr.alloc (.cells #[.int .i64 (-q)] 3) = W1 at *
      go_wp2_with (go_at_call 64; ((with_reducible refine HAD.out.mono ?_)); rintro e w1 ⟨rfl, v2, us2, hd⟩)
      have HD2 := mkHid (HD1.out.trans hd)
      rw [List.append_assoc, ← HT.out] at HD2
      clear hd hW1
      go_roundw
      case rel => exact ⟨k + 1, _, v2, us1 ++ us2, rfl, by omega, by omega, HD2⟩
      case measure => simp [intOf]; omega
    · obtain rfl : k = n := by omega
      replace HD : Hid (DI (· = F) F base va nv w v us wr v1 (C ++ ls.map (fun l : Int => [(h : Int), -l])) us1) := by
        have := HD.out
        rw [List.take_of_length_le (by omega)] at this
        exact this
      have hll2 : ls.length = k := hll
      have HAD := mkHid (add_any F base va v1 (.slice (some ⟨g, 0, none⟩) k k) nv (-(h : Int)) (C ++ ls.map (fun l => [(h : Int), -l])) (us ++ us1) ls wr hF (Nat.le_trans hbw HD.out.gr.size) HD.out.rows HD.out.box hLr.il (by rw [List.length_append, List.length_map]; omega) (by omega))
      clear hLr
      go_wp2_with (go_at_call 64; ((with_reducible refine HAD.out.mono ?_)); rintro e w3 ⟨rfl, v2, us2, hd⟩)
      go_end0
      refine ⟨rfl, v2, us1 ++ us2, ?_⟩
      have := (HD.out.trans hd).mono (S' := fun k => k = F ∨ k = g) (fun k e => .inl e)
      rw [show cdef 17 (h : Int) ls = ls.map (fun l => [(h : Int), -l]) ++ [(-(h : Int)) :: ls] from rfl]
      rw [List.append_assoc] at this
      exact this
set_option maxRecDepth 100000 in
set_option maxHeartbeats 4000000 in
theorem define20 (F base g gb n h : Nat) (va v : Value) (nv : Int) (ls : List Int) (C : List (List Int)) (us : List Value) (w : World) (hF : F < base) (hbw : base ≤ w.heap.size) (hC : CRows w base v C us) (hf : FBox w F va nv v) (hL : LRow w gb g n ls) (hFg : F ≠ g) (hn : n ≤ 5000) (hcl : C.length ≤ 40000) (hfit : ∀ x ∈ ls, fit x) (hh : h ≤ 1000000) :
    Calls Tryd.prog 88 #[.pointer (some ⟨F, 0, none⟩), .int .i64 (h : Int), .int .i64 20, .slice (some ⟨g, 0, none⟩) n n] w (DefP F g base va nv v us (C ++ cdef 20 (h : Int) ls) w) := by
  have HVG : Hid (v.ownBlock ≠ some g) := fun e => own_apart' hC.row hL (by decide) g e rfl
  have D0 := mkHid (DI.refl (S := (· = F)) hf hC)
  have HL := mkHid hL
  have HFT := mkHid hfit
  have hn9 : n ≤ 9223372036854775807 := by omega
  have hh1 : -9223372036854775808 ≤ -(h : Int) := by omega
  have hh2 : -(h : Int) ≤ 9223372036854775807 := by omega
  clear hC hf hL hfit
  go_enter Tryd.func88, Tryd.ntmps88
  go_wp2
  go_loopw [47] (fun i w' => ∃ (k : Nat) (x : Int) (v1 : Value) (us1 : List Value), i = .int .i64 x ∧ x = k ∧ k ≤ n ∧ Hid (DI (· = F) F base va nv w v us w' v1 (C ++ (ls.take k).map (fun l : Int => [(h : Int), -l])) us1)) (fun i _ => (n - intOf i).toNat)
  case atStart => exact ⟨0, 0, v, [], rfl, rfl, Nat.zero_le _, by simpa using D0⟩
  case round =>
    obtain ⟨k, x, v1, us1, rfl, hxk, hk, HD⟩ := hrel
    obtain rfl : x = (k : Int) := hxk
    have hll : ls.length = n := HL.out.len
    have hLr := LRow.gr HL.out HD.out.gr (by omega) HVG.out
    by_cases hlt : k < n
    · have hk' : k < ls.length := by omega
      have c1 := hLr.cell k hk'
      have hfx := HFT.out ls[k] (List.getElem_mem _)
      have HT : Hid ((ls.take (k + 1)).map (fun l : Int => [(h : Int), -l]) = (ls.take k).map (fun l : Int => [(h : Int), -l]) ++ [[(h : Int), -ls[k]]]) := by
        show _ = _
        rw [List.take_succ_eq_append_getElem hk', List.map_append]
        rfl
      obtain ⟨x1, x2⟩ := hfx
      generalize ls[k] = q at *
      clear hk' hLr
      have hk2 : (k : Int) < (n : Int) := by omega
      have hq1 : -9223372036854775808 ≤ -q := by omega
      have hq2 : -q ≤ 9223372036854775807 := by omega
      have hb := bel_alloc wr (.cells #[.int .i64 (-q)] 3)
      have HI : LRow (wr.alloc (.cells #[.int .i64 (-q)] 3)) wr.heap.size wr.heap.size 1 [-q] := World.ownsRow_lit (base := wr.heap.size) (size := 1) (e := 3) wr #[.int .i64 (-q)] 1 (Nat.le_refl _) (by decide) rfl
      have HD1 := mkHid (HD.out.later hb)
      have HAD := mkHid (add_any F base va v1 (.slice (some ⟨wr.heap.size, 0, none⟩) 1 1) nv ((h : Int)) (C ++ (ls.take k).map (fun l : Int => [(h : Int), -l])) (us ++ us1) [-q] (wr.alloc (.cells #[.int .i64 (-q)] 3)) hF (Nat.le_trans hbw (Nat.le_trans HD.out.gr.size hb.size)) HD1.out.rows HD1.out.box HI.il (by rw [List.length_append, List.length_map, List.length_take]; omega) (by show 1 ≤ 50000; omega))
      clear hb HI
      generalize hW1 : wr.alloc (.cells #[.int .i64 (-q)] 3) = W1 at *
      go_wp2_with (go_at_call 64; ((with_reducible refine HAD.out.mono ?_)); rintro e w1 ⟨rfl, v2, us2, hd⟩)
      have HD2 := mkHid (HD1.out.trans hd)
      rw [List.append_assoc, ← HT.out] at HD2
      clear hd hW1
      go_roundw
      case rel => exact ⟨k + 1, _, v2, us1 ++ us2, rfl, by omega, by omega, HD2⟩
      case measure => simp [intOf]; omega
    · obtain rfl : k = n := by omega
      replace HD : Hid (DI (· = F) F base va nv w v us wr v1 (C ++ ls.map (fun l : Int => [(h : Int), -l])) us1) := by
        have := HD.out
        rw [List.take_of_length_le (by omega)] at this
        exact this
      have hll2 : ls.length = k := hll
      have HAD := mkHid (add_any F base va v1 (.slice (some ⟨g, 0, none⟩) k k) nv (-(h : Int)) (C ++ ls.map (fun l => [(h : Int), -l])) (us ++ us1) ls wr hF (Nat.le_trans hbw HD.out.gr.size) HD.out.rows HD.out.box hLr.il (by rw [List.length_append, List.length_map]; omega) (by omega))
      clear hLr
      go_wp2_with (go_at_call 64; ((with_reducible refine HAD.out.mono ?_)); rintro e w3 ⟨rfl, v2, us2, hd⟩)
      go_end0
      refine ⟨rfl, v2, us1 ++ us2, ?_⟩
      have := (HD.out.trans hd).mono (S' := fun k => k = F ∨ k = g) (fun k e => .inl e)
      rw [show cdef 20 (h : Int) ls = ls.map (fun l => [(h : Int), -l]) ++ [(-(h : Int)) :: ls] from rfl]
      rw [List.append_assoc] at this
      exact this
set_option maxRecDepth 100000 in
set_option maxHeartbeats 4000000 in
theorem define21 (F base g gb n h : Nat) (va v : Value) (nv : Int) (ls0 : List Int) (C : List (List Int)) (us : List Value) (w : World) (hF : F < base) (hbw : base ≤ w.heap.size) (hC : CRows w base v C us) (hf : FBox w F va nv v) (hL : LRow w gb g n ls0) (hFg : F ≠ g) (hn : n ≤ 5000) (hcl : C.length ≤ 40000) (hfit : ∀ x ∈ ls0, fit x) (hh : h ≤ 1000000) (hpos : 0 < n) (hug : ∀ u ∈ us, ∀ k, u.ownBlock = some k → k ≠ g) :
    Calls Tryd.prog 88 #[.pointer (some ⟨F, 0, none⟩), .int .i64 (h : Int), .int .i64 21, .slice (some ⟨g, 0, none⟩) n n] w (DefP F g base va nv v us (C ++ cdef 21 (h : Int) ls0) w) := by
  have hvg : v.ownBlock ≠ some g := fun e => own_apart' hC.row hL (by decide) g e rfl
  have HVG : Hid (v.ownBlock ≠ some g) := hvg
  have hlen := hL.len
  obtain ⟨q0, qs, rfl⟩ : ∃ q0 qs, ls0 = q0 :: qs := by
    cases ls0 with
    | nil => simp at hlen; omega
    | cons a b => exact ⟨a, b, rfl⟩
  have c0 := hL.cell 0 (by simp)
  have d0 := hL.frozen 0
  simp only [List.getElem_cons_zero] at c0
  have hq0 := hfit q0 (by simp)
  have HL := mkHid (hL.set 0 (-q0))
  have DG := mkHid (DI.setG hC hf hFg hvg hug 0 (.int .i64 (-q0)))
  have HFT : Hid (∀ x ∈ (-q0) :: qs, fit x) := fun x hx => by
    rcases List.mem_cons.1 hx with rfl | hx
    · exact ⟨by have := hq0.2; omega, by have := hq0.1; omega⟩
    · exact hfit x (by simp [hx])
  simp only [List.set_cons_zero] at HL
  have HE : Hid (cdef 21 (h : Int) (q0 :: qs) = ((-q0) :: qs).map (fun l => [(h : Int), -l]) ++ [(-(h : Int)) :: (-q0) :: qs]) := rfl
  have hn9 : n ≤ 9223372036854775807 := by omega
  have hh1 : -9223372036854775808 ≤ -(h : Int) := by omega
  have hh2 : -(h : Int) ≤ 9223372036854775807 := by omega
  have hq1 : -9223372036854775808 ≤ -q0 := by have := hq0.2; omega
  have hq2 : -q0 ≤ 9223372036854775807 := by have := hq0.1; omega
  have hpos2 : (0 : Int) < (n : Int) := by omega
  clear hC hf hL hfit hug hvg hlen hq0
  go_enter Tryd.func88, Tryd.ntmps88
  go_wp2
  clear c0 d0 hq1 hq2
  have DG2 := DG.out
  generalize w.setCell ⟨g, 0, none⟩ (.int .i64 (-q0)) = W0 at *
  have D0 := mkHid (DI.refl (S := (· = F)) DG2.box (by simpa using DG2.rows))
  have hbw0 : base ≤ W0.heap.size := Nat.le_trans hbw DG2.gr.size
  clear DG2
  generalize (-q0) :: qs = ls at *
  go_loopw [47] (fun i w' => ∃ (k : Nat) (x : Int) (v1 : Value) (us1 : List Value), i = .int .i64 x ∧ x = k ∧ k ≤ n ∧ Hid (DI (· = F) F base va nv W0 v us w' v1 (C ++ (ls.take k).map (fun l : Int => [(h : Int), -l])) us1)) (fun i _ => (n - intOf i).toNat)
  case atStart => exact ⟨0, 0, v, [], rfl, rfl, Nat.zero_le _, mkHid (by simpa using D0.out)⟩
  case round =>
    obtain ⟨k, x, v1, us1, rfl, hxk, hk, HD⟩ := hrel
    obtain rfl : x = (k : Int) := hxk
    have hll : ls.length = n := HL.out.len
    have hLr := LRow.gr HL.out HD.out.gr (by omega) HVG.out
    by_cases hlt : k < n
    · have hk' : k < ls.length := by omega
      have c1 := hLr.cell k hk'
      have hfx := HFT.out ls[k] (List.getElem_mem _)
      have HT : Hid ((ls.take (k + 1)).map (fun l : Int => [(h : Int), -l]) = (ls.take k).map (fun l : Int => [(h : Int), -l]) ++ [[(h : Int), -ls[k]]]) := by
        show _ = _
        rw [List.take_succ_eq_append_getElem hk', List.map_append]
        rfl
      obtain ⟨x1, x2⟩ := hfx
      generalize ls[k] = q at *
      clear hk' hLr
      have hk2 : (k : Int) < (n : Int) := by omega
      have hq1 : -9223372036854775808 ≤ -q := by omega
      have hq2 : -q ≤ 9223372036854775807 := by omega
      have hb := bel_alloc wr (.cells #[.int .i64 (-q)] 3)
      have HI : LRow (wr.alloc (.cells #[.int .i64 (-q)] 3)) wr.heap.size wr.heap.size 1 [-q] := World.ownsRow_lit (base := wr.heap.size) (size := 1) (e := 3) wr #[.int .i64 (-q)] 1 (Nat.le_refl _) (by decide) rfl
      have HD1 := mkHid (HD.out.later hb)
      have HAD := mkHid (add_any F base va v1 (.slice (some ⟨wr.heap.size, 0, none⟩) 1 1) nv ((h : Int)) (C ++ (ls.take k).map (fun l : Int => [(h : Int), -l])) (us ++ us1) [-q] (wr.alloc (.cells #[.int .i64 (-q)] 3)) hF (Nat.le_trans hbw0 (Nat.le_trans HD.out.gr.size hb.size)) HD1.out.rows HD1.out.box HI.il (by rw [List.length_append, List.length_map, List.length_take]; omega) (by show 1 ≤ 50000; omega))
      clear hb HI
      generalize hW1 : wr.alloc (.cells #[.int .i64 (-q)] 3) = W1 at *
      go_wp2_with (go_at_call 64; ((with_reducible refine HAD.out.mono ?_)); rintro e w1 ⟨rfl, v2, us2, hd⟩)
      have HD2 := mkHid (HD1.out.trans hd)
      rw [List.append_assoc, ← HT.out] at HD2
      clear hd hW1
      go_roundw
      case rel => exact ⟨k + 1, _, v2, us1 ++ us2, rfl, by omega, by omega, HD2⟩
      case measure => simp [intOf]; omega
    · obtain rfl : k = n := by omega
      replace HD : Hid (DI (· = F) F base va nv W0 v us wr v1 (C ++ ls.map (fun l : Int => [(h : Int), -l])) us1) := by
        have := HD.out
        rw [List.take_of_length_le (by omega)] at this
        exact this
      have hll2 : ls.length = k := hll
      have HAD := mkHid (add_any F base va v1 (.slice (some ⟨g, 0, none⟩) k k) nv (-(h : Int)) (C ++ ls.map (fun l => [(h : Int), -l])) (us ++ us1) ls wr hF (Nat.le_trans hbw0 HD.out.gr.size) HD.out.rows HD.out.box hLr.il (by rw [List.length_append, List.length_map]; omega) (by omega))
      clear hLr
      go_wp2_with (go_at_call 64; ((with_reducible refine HAD.out.mono ?_)); rintro e w3 ⟨rfl, v2, us2, hd⟩)
      go_end0
      refine ⟨rfl, v2, [] ++ (us1 ++ us2), ?_⟩
      have := DG.out.trans (by simpa using (HD.out.trans hd).mono (S' := fun k => k = F ∨ k = g) (fun k e => .inl e))
      rw [HE.out]
      exact this
theorem define_any (op : Int) (hop : op = 16 ∨ op = 17 ∨ op = 19 ∨ op = 20 ∨ op = 21) (F base g gb n h : Nat) (va v : Value) (nv : Int) (ls : List Int) (C : List (List Int)) (us : List Value) (w : World) (hF : F < base) (hbw : base ≤ w.heap.size) (hC : CRows w base v C us) (hf : FBox w F va nv v) (hL : LRow w gb g n ls) (hFg : F ≠ g) (hn : n ≤ 5000) (hcl : C.length ≤ 40000) (hfit : ∀ x ∈ ls, fit x) (hh : h ≤ 1000000) (hpos : op = 21 → 0 < n) (hug : ∀ u ∈ us, ∀ k, u.ownBlock = some k → k ≠ g) :
    Calls Tryd.prog 88 #[.pointer (some ⟨F, 0, none⟩), .int .i64 (h : Int), .int .i64 op, .slice (some ⟨g, 0, none⟩) n n] w (DefP F g base va nv v us (C ++ cdef op (h : Int) ls) w) := by
  rcases hop with rfl | rfl | rfl | rfl | rfl
  · exact define16 F base g gb n h va v nv ls C us w hF hbw hC hf hL hFg hn hcl hfit hh
  · exact define17 F base g gb n h va v nv ls C us w hF hbw hC hf hL hFg hn hcl hfit hh
  · exact define19 F base g gb n h va v nv ls C us w hF hbw hC hf hL hFg hn hcl hfit hh
  · exact define20 F base g gb n h va v nv ls C us w hF hbw hC hf hL hFg hn hcl hfit hh
  · exact define21 F base g gb n h va v nv ls C us w hF hbw hC hf hL hFg hn hcl hfit hh (hpos rfl) hug
end Go.Proofs.YtaiachmolkjedaaDoor
