/-
  What the document's 'Heavy' tells; when two rows are the same.
-/
import Derived.Test.YtbdopdfnccnflabWgE
import Derived.Deep.RegionHeld2
namespace Go.Proofs.Ytbdopdfnccnflab
open Go.RowKit

theorem quietW {P : Program} {f : FuncId} {args : Array Value} {w : World} {n : Nat} {v : Value}
    (h : Calls P f args (w.drewN n) fun e w' => e = .returned v ∧ w.drewN n = w') : Calls P f args (w.drewN n) fun e w'' => e = .returned v ∧ ∃ m, w'' = w.drewN m :=
  h.mono fun _ _ ⟨he, hm⟩ => ⟨he, n, hm.symm⟩
theorem below_drew {w a : World} (h : Below w.heap.size w a) (n : Nat) : Below w.heap.size w (a.drewN n) := below_drewN h n

/-- is the i-th at least as heavy as the first k? -/
def mostB (f : Nat → Nat) (i k : Nat) : Bool := decide (∀ j, j < k → plc (f j) ≤ plc (f i))
theorem mostB_succ (f : Nat → Nat) (i k : Nat) : mostB f i (k + 1) = (mostB f i k && decide (plc (f k) ≤ plc (f i))) := by
  unfold mostB
  rw [Bool.eq_iff_iff]
  simp only [decide_eq_true_eq, Bool.and_eq_true]
  constructor
  · intro h; exact ⟨fun j hj => h j (by omega), h k (by omega)⟩
  · rintro ⟨h1, h2⟩ j hj
    by_cases e : j = k
    · subst e; exact h2
    · exact h1 j (by omega)

set_option maxHeartbeats 4000000 in
set_option maxRecDepth 100000 in
theorem rheavy_any (A : Option Addr) (c : Nat) (ds : List Nat) (w : World) (hx : FLies w A ds) (hn : ds.length ≤ 1000000) (hw : Words ds) :
    Calls Try.prog 16 #[.slice A ds.length c] w fun e w' => e = .returned (.int .i64 (heavyW ds)) ∧ Below w.heap.size w w' := by
  have rd : Hid (∀ k : Nat, k < ds.length → ∃ g, A = some ⟨g, 0, none⟩ ∧ ∀ k : Nat, k < ds.length → ∀ w', Below w.heap.size w w' → w'.cell? ⟨g, k, none⟩ = some (.float .f64 (ds.getD k 0))) := by
    intro k hk
    rcases hx with rfl | ⟨g, rfl, hc⟩
    · simp at hk
    · exact ⟨g, rfl, fun k hk w' hb => cell_keep hb (hc k hk)⟩
  have P := mkHidW (fun j w => place_any (ds.getD j 0) w (hw.get j))
  have sp := heavyAt_spec (fun j => ds.getD j 0) ds.length
  unfold heavyW
  clear hx hw
  generalize hf : (fun j => ds.getD j 0) = f at *
  have ef : ∀ j, ds.getD j 0 = f j := fun j => by rw [← hf]
  simp only [ef] at *
  clear ef hf
  generalize ds.length = n at *
  clear ds
  have unq : Hid (∀ i, i < n → (∀ j, j < i → mostB f j n = false) → mostB f i n = true → heavyAt f n = i) := by
    intro i hi hj hm
    rcases sp with ⟨h0, h1⟩ | ⟨m, h1, hm1, ha, hb⟩
    · omega
    · rw [h1]
      have hm' := of_decide_eq_true hm
      have : m = i := by
        refine heavy_unique hm1 hi ha hb hm' ?_
        intro j hj1
        rcases Nat.lt_or_ge (plc (f j)) (plc (f i)) with g | g
        · exact g
        · exfalso
          have := hj j hj1
          have h2 := of_decide_eq_false this
          exact h2 fun q hq => Nat.le_trans (hm' q hq) g
      rw [this]
  have none : Hid ((∀ j, j < n → mostB f j n = false) → heavyAt f n = -1) := by
    intro hj
    rcases sp with ⟨h0, h1⟩ | ⟨m, h1, hm1, ha, hb⟩
    · exact h1
    · exfalso
      exact of_decide_eq_false (hj m hm1) ha
  clear sp
  have ms := mkHidW (mostB_succ f)
  have m0 : Hid (∀ i, true = mostB f i 0) := fun i => (decide_eq_true (fun j hj => absurd hj (Nat.not_lt_zero j))).symm
  generalize heavyAt f n = res at *
  generalize mostB f = mo at *
  go_enter Try.func16, Try.ntmps16
  go_wp2_with fail
  go_loopw [3] (fun i w' => ∃ (k : Nat) (x : Int), k ≤ n ∧ i = .int .i64 x ∧ x = k ∧ Hid (∀ j, j < k → mo j n = false) ∧ Below w.heap.size w w') (fun i _ => (n - intOf i).toNat)
  case atStart => exact ⟨0, 0, by omega, rfl, rfl, fun j hj => by omega, Below.refl _ _⟩
  case round =>
    obtain ⟨i, x, hi, rfl, hxi, hno, hb⟩ := hrel
    obtain rfl : x = (i : Int) := hxi
    by_cases hlt : i < n
    · obtain ⟨g, rfl, hrd⟩ := rd.out i hlt
      have HR := mkHidW hrd
      clear rd hrd none
      go_wp2_with fail
      go_loopw [4, 5] (fun m q w' => ∃ (k : Nat) (y : Int) (b : Bool), k ≤ n ∧ q = .int .i64 y ∧ y = k ∧ m = .bool b ∧ Hid (b = mo i k) ∧ Below w.heap.size w w') (fun _ q _ => (n - intOf q).toNat)
      case atStart => exact ⟨0, 0, true, by omega, rfl, rfl, rfl, m0.out i, hb⟩
      case round =>
        obtain ⟨k, y, b, hk, rfl, hyk, rfl, hB, hb2⟩ := hrel
        obtain rfl : y = (k : Int) := hyk
        clear hb
        by_cases hlt2 : k < n
        · have c1 := HR.out k hlt2 _ hb2
          have c2 := HR.out i hlt _ hb2
          have hS := ms.out i k
          rw [← hB.out] at hS
          have HS := mkHidW hS
          clear ms m0 unq hS HR hB hno
          cases b
          · go_wp2_with fail
            go_quiet ((go_at_call 34; with_reducible exact quietW (P.out _ _)))
            go_wp2
            go_roundw
            case rel => exact ⟨k + 1, _, _, by omega, rfl, by omega, rfl, by rw [HS.out]; rfl, below_drew hb2 _⟩
            case measure => simp [intOf]; omega
          · go_wp2_with fail
            go_quiet ((go_at_call 34; with_reducible exact quietW (P.out _ _)))
            go_wp2
            go_roundw
            case rel => exact ⟨k + 1, _, _, by omega, rfl, by omega, rfl, by rw [HS.out, Bool.true_and]; exact mkHidW rfl, below_drew hb2 _⟩
            case measure => simp [intOf]; omega
        · obtain rfl : k = n := by omega
          clear HR P ms m0
          cases b
          · have HN : Hid (∀ j, j < i + 1 → mo j k = false) := by
              intro j hj
              by_cases e : j = i
              · subst e; exact hB.out.symm
              · exact hno.out j (by omega)
            clear unq hno hB
            go_wp2
            go_roundw
            case rel => exact ⟨i + 1, _, by omega, rfl, by omega, HN, hb2⟩
            case measure => simp [intOf]; omega
          · have hr := unq.out i hlt hno.out hB.out.symm
            have HR := mkHidW hr
            clear unq hno hB hr
            go_wp2
            go_ret
            exact ⟨ret_i HR.out.symm, hb2⟩
    · have hr := none.out (fun j hj => hno.out j (by omega))
      have HR := mkHidW hr
      clear unq none hno rd ms m0 P hr
      go_wp2
      go_ret
      exact ⟨ret_i HR.out.symm, hb⟩

set_option maxHeartbeats 2000000 in
set_option maxRecDepth 100000 in
theorem rows_any (A A' : Option Addr) (c c' : Nat) (ds : List Nat) (w : World) (hx : FLies w A ds) (hx' : FLies w A' ds) (hn : ds.length ≤ 1000000) (hw : Fins ds) :
    Calls Try.prog 26 #[.slice A ds.length c, .slice A' ds.length c'] w fun e w' => e = .returned (.bool true) ∧ Below w.heap.size w w' := by
  have rd : Hid (∀ k : Nat, k < ds.length → ∃ g g', A = some ⟨g, 0, none⟩ ∧ A' = some ⟨g', 0, none⟩ ∧ ∀ w', Below w.heap.size w w' → w'.cell? ⟨g, k, none⟩ = some (.float .f64 (ds.getD k 0)) ∧ w'.cell? ⟨g', k, none⟩ = some (.float .f64 (ds.getD k 0))) := by
    intro k hk
    rcases hx with rfl | ⟨g, rfl, hc⟩
    · simp at hk
    · rcases hx' with rfl | ⟨g', rfl, hc'⟩
      · simp at hk
      · exact ⟨g, g', rfl, rfl, fun w' hb => ⟨cell_keep hb (hc k hk), cell_keep hb (hc' k hk)⟩⟩
  have S := mkHidW (fun j w => same_self (ds.getD j 0) w (decide_eq_false (by have := hw.get j; omega)))
  clear hx hx' hw
  generalize hf : (fun j => ds.getD j 0) = f at *
  have ef : ∀ j, ds.getD j 0 = f j := fun j => by rw [← hf]
  simp only [ef] at *
  clear ef hf
  generalize ds.length = n at *
  clear ds
  go_enter Try.func26, Try.ntmps26
  go_wp2_with fail
  go_loopw [5] (fun i w' => ∃ (k : Nat) (x : Int), k ≤ n ∧ i = .int .i64 x ∧ x = k ∧ Below w.heap.size w w') (fun i _ => (n - intOf i).toNat)
  case atStart => exact ⟨0, 0, by omega, rfl, rfl, Below.refl _ _⟩
  case round =>
    obtain ⟨k, x, hk, rfl, hxk, hb⟩ := hrel
    obtain rfl : x = (k : Int) := hxk
    by_cases hlt : k < n
    · obtain ⟨g, g', rfl, rfl, hrd⟩ := rd.out k hlt
      obtain ⟨c1, c2⟩ := hrd _ hb
      have SS := mkHidW (S.out k)
      clear rd hrd S
      go_wp2_with fail
      go_quiet ((go_at_call 17; with_reducible exact quietW (SS.out _)))
      go_wp2
      go_roundw
      case rel => exact ⟨k + 1, _, by omega, rfl, by omega, below_drew hb _⟩
      case measure => simp [intOf]; omega
    · clear rd S
      go_wp2
      go_ret
      exact ⟨rfl, hb⟩
end Go.Proofs.Ytbdopdfnccnflab
