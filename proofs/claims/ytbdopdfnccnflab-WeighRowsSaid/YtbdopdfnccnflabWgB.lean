/-
  Rows of floats in memory; what the statements' 'floats' makes of a row of bits.
-/
import Derived.Test.YtbdopdfnccnflabWgA
import Derived.OwnWalk
import Derived.Laws.OwnMore
import Derived.IntWalk
namespace Go.Proofs.Ytbdopdfnccnflab
open Go.RowKit

theorem bonW {w a b : World} (h : Below w.heap.size w a) (hb : Below a.heap.size a b) : Below w.heap.size w b := h.trans (hb.mono h.size)
theorem balW {w a : World} (h : Below w.heap.size w a) (o : Obj) : Below w.heap.size w (a.alloc o) := h.alloc h.size o
theorem bdrewW {w a : World} (h : Below w.heap.size w a) : Below w.heap.size w a.drew := h.drew
theorem cell_lt {w : World} {a : Addr} {v : Value} (h : w.cell? a = some v) : a.block < w.heap.size := World.block_lt_of_cell? _ _ h
theorem cell_keep {w w1 : World} (hb : Below w.heap.size w w1) {a : Addr} {v : Value} (h : w.cell? a = some v) : w1.cell? a = some v := by
  rw [hb.cell (cell_lt h)]; exact h

/-- a row of floats lies at the start of a block, or is empty -/
def FLies (w : World) (A : Option Addr) (ds : List Nat) : Prop :=
  ds = [] ∨ ∃ g, A = some ⟨g, 0, none⟩ ∧ ∀ j : Nat, j < ds.length → w.cell? ⟨g, j, none⟩ = some (.float .f64 (ds.getD j 0))
/-- a value is a row of floats -/
def FRow (w : World) (v : Value) (ds : List Nat) : Prop :=
  ∃ (A : Option Addr) (c : Nat), v = .slice A ds.length c ∧ ds.length ≤ c ∧ FLies w A ds
/-- a row of bits, wherever it lies -/
def ILies (w : World) (A : Option Addr) (xs : List Nat) : Prop :=
  xs = [] ∨ ∃ b o, A = some ⟨b, o, none⟩ ∧ ∀ j : Nat, j < xs.length → w.cell? ⟨b, o + j, none⟩ = some (.int .u64 (xs.getD j 0 : Nat))
def Words (ds : List Nat) : Prop := ∀ d ∈ ds, d < 18446744073709551616

theorem FLies.later {w w' : World} {A : Option Addr} {ds : List Nat} (h : FLies w A ds) (hb : Below w.heap.size w w') : FLies w' A ds := by
  rcases h with h | ⟨g, rfl, hc⟩
  · exact Or.inl h
  · exact Or.inr ⟨g, rfl, fun j hj => cell_keep hb (hc j hj)⟩
theorem FRow.later {w w' : World} {v : Value} {ds : List Nat} (h : FRow w v ds) (hb : Below w.heap.size w w') : FRow w' v ds := by
  obtain ⟨A, c, e, hc, h⟩ := h
  exact ⟨A, c, e, hc, h.later hb⟩
theorem ILies.later {w w' : World} {A : Option Addr} {ds : List Nat} (h : ILies w A ds) (hb : Below w.heap.size w w') : ILies w' A ds := by
  rcases h with h | ⟨g, o, rfl, hc⟩
  · exact Or.inl h
  · exact Or.inr ⟨g, o, rfl, fun j hj => cell_keep hb (hc j hj)⟩
theorem FRow.of_own {w : World} {base e n : Nat} {v : Value} {ds : List Nat} (h : w.ownsRow base e 1 v n (ds.map (Value.float .f64))) : FRow w v ds := by
  have hl : ds.length = n := by simpa using h.1
  subst hl
  rcases h.2 with ⟨rfl, h0⟩ | ⟨g, cap, cur, rfl, _, hg, hc, _⟩
  · exact ⟨none, 0, by rw [h0], by omega, Or.inl (List.eq_nil_of_length_eq_zero h0)⟩
  · refine ⟨some ⟨g, 0, none⟩, cap, rfl, hc, Or.inr ⟨g, rfl, fun j hj => ?_⟩⟩
    rw [h.cellAt j (by omega)]
    simp [List.getElem?_map, List.getElem?_eq_getElem hj]
/-- .. and not nil -/
def FSome (w : World) (v : Value) (ds : List Nat) : Prop :=
  ∃ (g c : Nat), v = .slice (some ⟨g, 0, none⟩) ds.length c ∧ ds.length ≤ c ∧ ∀ j : Nat, j < ds.length → w.cell? ⟨g, j, none⟩ = some (.float .f64 (ds.getD j 0))
theorem FSome.row {w : World} {v : Value} {ds : List Nat} (h : FSome w v ds) : FRow w v ds := by
  obtain ⟨g, c, rfl, hc, h⟩ := h
  exact ⟨_, c, rfl, hc, Or.inr ⟨g, rfl, h⟩⟩
theorem FSome.of_own {w : World} {base e n : Nat} {v : Value} {ds : List Nat} (hne : v ≠ .slice none 0 0) (h : w.ownsRow base e 1 v n (ds.map (Value.float .f64))) : FSome w v ds := by
  have hl : ds.length = n := by simpa using h.1
  subst hl
  rcases h.2 with ⟨rfl, h0⟩ | ⟨g, cap, cur, rfl, _, hg, hc, _⟩
  · exact absurd rfl hne
  · refine ⟨g, cap, rfl, hc, fun j hj => ?_⟩
    rw [h.cellAt j (by omega)]
    simp [List.getElem?_map, List.getElem?_eq_getElem hj]
theorem Words.get {ds : List Nat} (h : Words ds) (j : Nat) : ds.getD j 0 < 18446744073709551616 := by
  rw [List.getD]
  cases e : ds[j]? with
  | none => simp
  | some d => exact h d (List.mem_of_getElem? e)
theorem float_info : (Try.prog.info? 30).map (fun i => (i.zero, i.size, i.bytes)) = some (some (.float .f64 0), 1, 8) := by kernel_rfl
theorem info_partsW {P : Program} {t : TypeId} {z : Option Value} {s b : Nat} (h : (P.info? t).map (fun i => (i.zero, i.size, i.bytes)) = some (z, s, b)) : ∃ i, P.info? t = some i ∧ i.zero = z ∧ i.size = s ∧ i.bytes = b := by
  cases e : P.info? t with
  | none => rw [e] at h; simp at h
  | some i => rw [e] at h; simp at h; exact ⟨i, rfl, h.1, h.2.1, h.2.2⟩
theorem cells_oneW (w : World) (t : TypeId) (x : Value) : ∀ j u, [x][j]? = some u → (w.alloc (.cells #[x] t)).cell? ((⟨w.heap.size, 0, none⟩ : Addr).add j) = some u := by
  intro j u hu
  rcases j with _ | j
  · simp at hu; subst hu; simp [Addr.add, go_sem]
  · simp at hu
theorem float_one (x : Nat) : ∀ u ∈ [Value.float .f64 x], u.oneCell' = true := by
  intro u hu; simp at hu; subst hu; rfl
theorem take_succW (xs : List Nat) (k : Nat) (h : k < xs.length) : xs.take (k + 1) = xs.take k ++ [xs.getD k 0] := by
  rw [List.take_succ_eq_append_getElem h]; simp [List.getD, List.getElem?_eq_getElem h]

set_option maxHeartbeats 2000000 in
set_option maxRecDepth 100000 in
theorem floats_some (A : Option Addr) (c : Nat) (xs : List Nat) (w : World) (hx : ILies w A xs) (hn : xs.length ≤ maxLen) :
    Calls Try.prog 12 #[.slice A xs.length c] w fun e w' =>
      (∃ v, e = .returned v ∧ FSome w' v (xs.take 100)) ∧ Below w.heap.size w w' := by
  obtain ⟨i0, hi0, hz0, hz1, hz2⟩ := info_partsW float_info
  unfold maxLen at hn
  have rd : Hid (∀ k : Nat, k < xs.length → ∃ b o, A = some ⟨b, o, none⟩ ∧ ∀ w', Below w.heap.size w w' → w'.cell? ⟨b, o + k, none⟩ = some (.int .u64 (xs.getD k 0 : Nat))) := by
    intro k hk
    rcases hx with rfl | ⟨g, o, rfl, hc⟩
    · simp at hk
    · exact ⟨g, o, rfl, fun w' hb => cell_keep hb (hc k hk)⟩
  clear hx
  obtain ⟨Inv, start, stp, fin1, fin2⟩ : ∃ Inv : Nat → List Nat → Prop, Inv 0 [] ∧ Hid (∀ k ds, k < xs.length → Inv k ds → Inv (k + 1) (ds ++ [xs.getD k 0])) ∧ Hid (∀ k ds, Inv k ds → k = xs.length → k ≤ 100 → ds = xs.take 100) ∧ Hid (∀ ds, Inv 100 ds → ds = xs.take 100) := by
    refine ⟨fun k ds => ds = xs.take k, by simp, ?_, ?_, ?_⟩
    · rintro k ds hk rfl; exact (take_succW xs k hk).symm
    · rintro k ds rfl hk h; subst hk; rw [List.take_length, List.take_of_length_le h]
    · rintro ds rfl; rfl
  generalize hf : (fun j => xs.getD j 0) = f
  have ef : ∀ j, xs.getD j 0 = f j := fun j => by rw [← hf]
  simp only [ef] at *
  clear ef hf
  generalize xs.take 100 = out at *
  generalize xs.length = n at *
  clear xs
  go_enter Try.func12, Try.ntmps12
  go_wp2_with fail
  go_loopw [3, 4] (fun o i w' => ∃ (k : Nat) (x : Int) (ds : List Nat), k ≤ n ∧ k ≤ 100 ∧ i = .int .i64 x ∧ x = k ∧ Inv k ds ∧ o ≠ .slice none 0 0 ∧ w'.ownsRow w.heap.size 30 1 o k (ds.map (Value.float .f64)) ∧ Below w.heap.size w w') (fun _ i _ => (n - intOf i).toNat)
  case atStart => exact ⟨0, 0, [], by omega, by omega, rfl, rfl, start, (by intro h; cases h), World.ownsRow_lit _ #[] 0 (Nat.le_refl _) (by decide) rfl, balW (Below.refl _ _) _⟩
  case round =>
    obtain ⟨k, x, ds, hk, hk1, rfl, hxk, hI, hne, hown, hb⟩ := hrel
    obtain rfl : x = (k : Int) := hxk
    clear start
    by_cases hlt : k < n
    · by_cases hl1 : k < 100
      · clear fin1 fin2
        obtain ⟨g, o, rfl, hrd⟩ := rd.out k hlt
        have hc := hrd _ hb
        have hS := stp.out k ds hlt hI
        clear rd stp hrd hI
        go_wp2_with (at_builtin
                     refine wpList_append_own _ rfl (.tmp 16) (.tmp 22) _ rfl w.heap.size 30 i0 _ 1 8 Try.underlying24 hi0 hz0 hz1 hz2 rfl (by omega) u3 k (ds.map (Value.float .f64)) rfl (World.ownsRow.alloc hown _) ⟨wr.heap.size, 0, none⟩ 1 1 [.float .f64 (f k)] rfl rfl (cells_oneW _ _ _) (float_one (f k)) (by simp only [maxLen]; omega) (by omega) (by have := hb.size; simp; omega) ?_
                     intro v1 w1 hown1 hg1 hv1)
        go_roundw
        case rel => exact ⟨k + 1, _, ds ++ [f k], by omega, by omega, rfl, by omega, hS, (fun h => hne (hv1.1 h).1), by simpa using hown1, Below.grown (balW hb _) hg1 (by have := hb.size; simp; omega) (fun j hj => (hown.lt j hj).1)⟩
        case measure => simp [intOf]; omega
      · obtain rfl : k = 100 := by omega
        have hfin := fin2.out ds hI
        go_wp2
        go_ret
        exact ⟨⟨_, rfl, by rw [← hfin]; exact FSome.of_own hne hown⟩, hb⟩
    · have hfin := fin1.out k ds hI (by omega) hk1
      go_wp2
      go_ret
      exact ⟨⟨_, rfl, by rw [← hfin]; exact FSome.of_own hne hown⟩, hb⟩
theorem floats_any (A : Option Addr) (c : Nat) (xs : List Nat) (w : World) (hx : ILies w A xs) (hn : xs.length ≤ maxLen) :
    Calls Try.prog 12 #[.slice A xs.length c] w fun e w' =>
      (∃ v, e = .returned v ∧ FRow w' v (xs.take 100)) ∧ Below w.heap.size w w' :=
  (floats_some A c xs w hx hn).mono fun _ _ ⟨⟨v, he, hr⟩, hb⟩ => ⟨⟨v, he, hr.row⟩, hb⟩
end Go.Proofs.Ytbdopdfnccnflab
