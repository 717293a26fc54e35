/-
  What 'Heavy' and 'beyond' tell of a row.
-/
import Derived.Test.YtbdopdfnccnflabWgB
namespace Go.Proofs.Ytbdopdfnccnflab
open Go.RowKit

/-- the place of the heaviest one of the first k -/
def heavyAt (f : Nat → Nat) : Nat → Int
  | 0 => -1
  | k + 1 => if heavyAt f k < 0 ∨ plc (f (heavyAt f k).toNat) < plc (f k) then k else heavyAt f k
def heavyW (ds : List Nat) : Int := heavyAt (fun j => ds.getD j 0) ds.length

theorem heavyAt_spec (f : Nat → Nat) : ∀ k, (k = 0 ∧ heavyAt f k = -1) ∨ (∃ m : Nat, heavyAt f k = m ∧ m < k ∧ (∀ i, i < k → plc (f i) ≤ plc (f m)) ∧ (∀ i, i < m → plc (f i) < plc (f m)))
  | 0 => .inl ⟨rfl, rfl⟩
  | k + 1 => by
    right
    rcases heavyAt_spec f k with ⟨rfl, h⟩ | ⟨m, h, hm, ha, hb⟩
    · refine ⟨0, ?_, by omega, ?_, ?_⟩
      · unfold heavyAt; rw [h]; rfl
      · intro i hi; obtain rfl : i = 0 := by omega
        exact Nat.le_refl _
      · intro i hi; omega
    · by_cases g : plc (f m) < plc (f k)
      · refine ⟨k, ?_, by omega, ?_, ?_⟩
        · unfold heavyAt; rw [h, if_pos (.inr (by simpa using g))]
        · intro i hi
          by_cases e : i = k
          · subst e; exact Nat.le_refl _
          · have := ha i (by omega); omega
        · intro i hi
          have := ha i hi; omega
      · refine ⟨m, ?_, by omega, ?_, hb⟩
        · unfold heavyAt; rw [h, if_neg]
          simp; omega
        · intro i hi
          by_cases e : i = k
          · subst e; omega
          · exact ha i (by omega)
theorem heavy_unique {f : Nat → Nat} {n a b : Nat} (ha : a < n) (hb : b < n) (a1 : ∀ i, i < n → plc (f i) ≤ plc (f a)) (a2 : ∀ i, i < a → plc (f i) < plc (f a)) (b1 : ∀ i, i < n → plc (f i) ≤ plc (f b)) (b2 : ∀ i, i < b → plc (f i) < plc (f b)) : a = b := by
  rcases Nat.lt_trichotomy a b with h | h | h
  · have := b2 a h; have := a1 b hb; omega
  · exact h
  · have := a2 b h; have := b1 a ha; omega

set_option maxHeartbeats 2000000 in
set_option maxRecDepth 100000 in
theorem heavy_any (A : Option Addr) (c : Nat) (ds : List Nat) (w : World) (hx : FLies w A ds) (hn : ds.length ≤ 1000000) (hw : Words ds) :
    Calls Try.prog 15 #[.slice A ds.length c] w fun e w' => e = .returned (.int .i64 (heavyW ds)) ∧ w = w' := by
  have rd : Hid (∀ k : Nat, k < ds.length → ∃ g, A = some ⟨g, 0, none⟩ ∧ ∀ k : Nat, k < ds.length → w.cell? ⟨g, k, none⟩ = some (.float .f64 (ds.getD k 0))) := by
    intro k hk
    rcases hx with rfl | ⟨g, rfl, hc⟩
    · simp at hk
    · exact ⟨g, rfl, hc⟩
  have L := mkHidW (fun i j w => less_any (ds.getD i 0) (ds.getD j 0) w (hw.get i) (hw.get j))
  unfold heavyW
  clear hx hw
  generalize hf : (fun j => ds.getD j 0) = f
  have ef : ∀ j, ds.getD j 0 = f j := fun j => by rw [← hf]
  simp only [ef] at *
  clear ef hf
  generalize ds.length = n at *
  clear ds
  have sp := mkHidW (heavyAt_spec f)
  obtain ⟨H, e0, es, en⟩ : ∃ H : Nat → Int, H 0 = -1 ∧ Hid (∀ k, H (k + 1) = if H k < 0 ∨ plc (f (H k).toNat) < plc (f k) then (k : Int) else H k) ∧ Hid (H = heavyAt f) := ⟨heavyAt f, rfl, fun k => rfl, rfl⟩
  rw [← en.out] at sp ⊢
  clear en
  have E0 := mkHidW e0; clear e0
  go_enter Try.func15, Try.ntmps15
  go_wp2_with fail
  go_loop [3, 8] (fun a i => ∃ (k : Nat) (x y : Int), k ≤ n ∧ i = .int .i64 x ∧ x = k ∧ a = .int .i64 y ∧ y = H k) (fun _ i => (n - intOf i).toNat)
  case atStart => exact ⟨0, 0, -1, by omega, rfl, rfl, rfl, E0.out.symm⟩
  case round =>
    obtain ⟨k, x, y, hk, rfl, hxk, rfl, hy⟩ := hrel
    obtain rfl : x = (k : Int) := hxk
    by_cases hlt : k < n
    · obtain ⟨g, rfl, hrd⟩ := rd.out k hlt
      have hc := hrd k hlt
      rcases sp.out k with ⟨h0, h1⟩ | ⟨m, h1, hm, -, -⟩
      · have hS : (k : Int) = H (k + 1) := by rw [es.out k, h1]; rfl
        obtain rfl : y = -1 := by omega
        have HS := mkHidW hS
        clear rd sp es hrd L hy h1 hS h0
        go_wp2
        go_round
        case rel => exact ⟨k + 1, _, _, by omega, rfl, by omega, rfl, HS.out⟩
        case measure => simp [intOf]; omega
      · have hS : H (k + 1) = if lessW (f m) (f k) = true then (k : Int) else m := by
          rw [es.out k, h1]; unfold lessW; have : ¬ (m : Int) < 0 := by omega
          simp [this]
        obtain rfl : y = (m : Int) := by omega
        have hcm := hrd m (by omega)
        have LL := mkHidW (L.out m k)
        clear rd sp es hrd L hy h1
        cases hl : lessW (f m) (f k)
        · rw [hl] at hS LL; clear hl
          have HS := mkHidW (show (m : Int) = H (k + 1) by rw [hS]; rfl)
          clear hS
          go_wp2_with fail
          refine (LL.out _).mono ?_; rintro e w1 ⟨rfl, rfl⟩
          go_wp2
          go_round
          case rel => exact ⟨k + 1, _, _, by omega, rfl, by omega, rfl, HS.out⟩
          case measure => simp [intOf]; omega
        · rw [hl] at hS LL; clear hl
          have HS := mkHidW (show (k : Int) = H (k + 1) by rw [hS]; rfl)
          clear hS
          go_wp2_with fail
          refine (LL.out _).mono ?_; rintro e w1 ⟨rfl, rfl⟩
          go_wp2
          go_round
          case rel => exact ⟨k + 1, _, _, by omega, rfl, by omega, rfl, HS.out⟩
          case measure => simp [intOf]; omega
    · obtain rfl : k = n := by omega
      have HY := mkHidW hy
      clear hy rd sp es L
      go_wp2
      go_ret
      exact ⟨ret_i HY.out, rfl⟩

theorem far_ways {x : Nat} (h : rung x < 9218868437227405312) : ((FloatKind.f64.format.order x 6103021453049119613 == some .gt) = true ∧ farB x = true)
    ∨ ((FloatKind.f64.format.order x 6103021453049119613 == some .gt) = false ∧ (FloatKind.f64.format.order x 15326393489903895421 == some .lt) = farB x) := by
  have a : (FloatKind.f64.format.order x 6103021453049119613 == some .gt) = _ := oGt (x := x) (y := 6103021453049119613) (by omega) (by decide)
  have b : (FloatKind.f64.format.order x 15326393489903895421 == some .lt) = _ := oLt (x := x) (y := 15326393489903895421) (by omega) (by decide)
  have k1 : key 6103021453049119613 = 6103021453049119613 := by decide
  have k2 : key 15326393489903895421 = -6103021453049119613 := by decide
  rw [a, b, k1, k2]
  unfold farB
  cases s : ngv x
  · rw [key_p s]
    by_cases g : 6103021453049119613 < rung x
    · exact .inl ⟨decide_eq_true (by omega), decide_eq_true g⟩
    · exact .inr ⟨decide_eq_false (by omega), by rw [decide_eq_false g, decide_eq_false (by omega)]⟩
  · rw [key_n s]
    refine .inr ⟨decide_eq_false (by omega), ?_⟩
    rw [decide_eq_decide]; omega

def Fins (ds : List Nat) : Prop := ∀ d ∈ ds, rung d < 9218868437227405312
theorem Fins.get {ds : List Nat} (h : Fins ds) (j : Nat) : rung (ds.getD j 0) < 9218868437227405312 := by
  rw [List.getD]
  cases e : ds[j]? with
  | none => simp [rung]
  | some d => exact h d (List.mem_of_getElem? e)
def farAny (ds : List Nat) : Bool := ds.any farB

set_option maxHeartbeats 2000000 in
set_option maxRecDepth 100000 in
theorem beyond_any (A : Option Addr) (c : Nat) (ds : List Nat) (w : World) (hx : FLies w A ds) (hn : ds.length ≤ 1000000) (hw : Fins ds) :
    Calls Try.prog 31 #[.slice A ds.length c] w fun e w' => e = .returned (.bool (farAny ds)) ∧ w = w' := by
  have rd : Hid (∀ k : Nat, k < ds.length → ∃ g, A = some ⟨g, 0, none⟩ ∧ w.cell? ⟨g, k, none⟩ = some (.float .f64 (ds.getD k 0))) := by
    intro k hk
    rcases hx with rfl | ⟨g, rfl, hc⟩
    · simp at hk
    · exact ⟨g, rfl, hc k hk⟩
  have ways := mkHidW (fun j => far_ways (hw.get j))
  obtain ⟨Inv, start, stp, found, fin⟩ : ∃ Inv : Nat → Prop, Inv 0 ∧ Hid (∀ k, Inv k → farB (ds.getD k 0) = false → Inv (k + 1)) ∧ Hid (∀ k, k < ds.length → farB (ds.getD k 0) = true → farAny ds = true) ∧ Hid (∀ k, ¬ k < ds.length → Inv k → farAny ds = false) := by
    refine ⟨fun k => ∀ j, j < k → farB (ds.getD j 0) = false, fun j hj => by omega, ?_, ?_, ?_⟩
    · intro k h e j hj
      by_cases g : j = k
      · subst g; exact e
      · exact h j (by omega)
    · intro k hk h
      unfold farAny; rw [List.any_eq_true]
      exact ⟨ds.getD k 0, by rw [List.getD, List.getElem?_eq_getElem hk]; exact List.getElem_mem hk, h⟩
    · intro k hk h
      unfold farAny; rw [List.any_eq_false]
      intro d hd
      obtain ⟨j, hj, rfl⟩ := List.getElem_of_mem hd
      have := h j (by omega)
      rw [List.getD, List.getElem?_eq_getElem hj] at this
      simpa using this
  clear hx hw
  generalize farAny ds = res at *
  generalize hf : (fun j => ds.getD j 0) = f
  have ef : ∀ j, ds.getD j 0 = f j := fun j => by rw [← hf]
  simp only [ef] at *
  clear ef hf
  generalize ds.length = n at *
  clear ds
  go_enter Try.func31, Try.ntmps31
  go_wp2_with fail
  go_loop [7] (fun i => ∃ (k : Nat) (x : Int), k ≤ n ∧ i = .int .i64 x ∧ x = k ∧ Inv k) (fun i => (n - intOf i).toNat)
  case atStart => exact ⟨0, 0, by omega, rfl, rfl, start⟩
  case round =>
    obtain ⟨k, x, hk, rfl, hxk, hI⟩ := hrel
    obtain rfl : x = (k : Int) := hxk
    by_cases hlt : k < n
    · obtain ⟨g, rfl, hc⟩ := rd.out k hlt
      have S1 := stp.out k hI
      have F1 := found.out k hlt
      have wy := ways.out k
      clear rd stp found fin ways start hI
      rcases wy with ⟨h1, h2⟩ | ⟨h1, h2⟩
      · obtain rfl : res = true := F1 h2
        clear S1 F1 h2
        go_wp2
        go_ret
        exact ⟨rfl, rfl⟩
      · cases hb : farB (f k)
        · have S2 := S1 hb
          rw [hb] at h2; clear S1 F1 hb
          go_wp2
          go_round
          case rel => exact ⟨k + 1, _, by omega, rfl, by omega, S2⟩
          case measure => simp [intOf]; omega
        · obtain rfl : res = true := F1 hb
          rw [hb] at h2; clear S1 F1 hb
          go_wp2
          go_ret
          exact ⟨rfl, rfl⟩
    · obtain rfl : res = false := fin.out k hlt hI
      clear rd stp found fin ways start hI
      go_wp2
      go_ret
      exact ⟨rfl, rfl⟩
end Go.Proofs.Ytbdopdfnccnflab
