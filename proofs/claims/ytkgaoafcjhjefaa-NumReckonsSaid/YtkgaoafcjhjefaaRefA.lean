/-
  Rows of decimal digits, the lowest first: their value; how they lie in memory; what 'at' and 'size' do.
-/
import Derived.Test.YtkgaoafcjhjefaaNumThree
import Derived.OwnWalk
import Derived.Laws.OwnMore
namespace Go.Proofs.Ytkgaoafcjhjefaa
open Go.RowKit Go.Shelf

/-- the value of a row of digits, the lowest first -/
def valD : List Int → Int
  | [] => 0
  | d :: ds => d + 10 * valD ds
def Digs (ds : List Int) : Prop := ∀ d ∈ ds, 0 ≤ d ∧ d ≤ 9
/-- a row lies at the start of a block, or is empty -/
def Lies (w : World) (A : Option Addr) (ds : List Int) : Prop :=
  ds = [] ∨ ∃ g, A = some ⟨g, 0, none⟩ ∧ g < w.heap.size ∧ ∀ j : Nat, j < ds.length → w.cell? ⟨g, j, none⟩ = some (.int .i64 (ds.getD j 0))

theorem Lies.later {w w' : World} {A : Option Addr} {ds : List Int} (h : Lies w A ds) (hb : Below w.heap.size w w') : Lies w' A ds := by
  rcases h with h | ⟨g, rfl, hg, hc⟩
  · exact Or.inl h
  · have := hb.size
    exact Or.inr ⟨g, rfl, by omega, fun j hj => cell_later hb (hc j hj)⟩

set_option maxHeartbeats 1000000 in
theorem r_at (A : Option Addr) (c : Nat) (ds : List Int) (i : Nat) (w : World) (h : Lies w A ds) (hn : ds.length ≤ 1000) :
    Calls Try.prog 59 #[.slice A ds.length c, .int .i64 i] w fun e w' => e = .returned (.int .i64 (ds.getD i 0)) ∧ w = w' := by
  by_cases hlt : i < ds.length
  · rcases h with rfl | ⟨g, rfl, hg, hc⟩
    · simp at hlt
    · have hc0 := hc i hlt
      generalize ds.getD i 0 = d at *
      generalize ds.length = n at *
      go_enter Try.func59, Try.ntmps59
      go_wp2
      all_goals (go_ret; exact ⟨rfl, rfl⟩)
  · have e : ds.getD i 0 = 0 := by simp [List.getD, List.getElem?_eq_none (Nat.le_of_not_lt hlt)]
    rw [e]
    generalize ds.length = n at *
    go_enter Try.func59, Try.ntmps59
    go_wp2
    all_goals (go_ret; exact ⟨rfl, rfl⟩)

theorem valD_head (ds : List Int) : valD ds = ds.getD 0 0 + 10 * valD ds.tail := by cases ds <;> simp [valD]
theorem getD_tail (ds : List Int) (j : Nat) : ds.tail.getD j 0 = ds.getD (j + 1) 0 := by cases ds <;> simp [List.getD]
theorem Digs.tail {ds : List Int} (h : Digs ds) : Digs ds.tail := fun d hd => h d (List.mem_of_mem_tail hd)
theorem Digs.get {ds : List Int} (h : Digs ds) (j : Nat) : 0 ≤ ds.getD j 0 ∧ ds.getD j 0 ≤ 9 := by
  rw [List.getD]
  cases e : ds[j]? with
  | none => simp
  | some d => exact h d (List.mem_of_getElem? e)
theorem Digs.nonneg {ds : List Int} (h : Digs ds) : 0 ≤ valD ds := by
  induction ds with
  | nil => simp [valD]
  | cons d ds ih =>
    have h1 := h d (by simp)
    have h2 := ih (fun x hx => h x (by simp [hx]))
    unfold valD; omega
theorem valD_same : ∀ (n : Nat) (a b : List Int), a.length ≤ n → b.length ≤ n → (∀ j, a.getD j 0 = b.getD j 0) → valD a = valD b
  | 0, a, b, ha, hb, _ => by rw [List.eq_nil_of_length_eq_zero (by omega : a.length = 0), List.eq_nil_of_length_eq_zero (by omega : b.length = 0)]
  | n + 1, a, b, ha, hb, h => by
    rw [valD_head a, valD_head b, h 0, valD_same n a.tail b.tail (by simp; omega) (by simp; omega) (fun j => by rw [getD_tail, getD_tail]; exact h _)]
theorem valD_less : ∀ (k : Nat) (a b : List Int), Digs a → Digs b → (∀ j, k < j → a.getD j 0 = b.getD j 0) → a.getD k 0 < b.getD k 0 → valD a < valD b
  | 0, a, b, _, _, h, hk => by
    have e := valD_same (max a.length b.length) a.tail b.tail (by simp; omega) (by simp; omega) (fun j => by rw [getD_tail, getD_tail]; exact h _ (by omega))
    rw [valD_head a, valD_head b]; omega
  | k + 1, a, b, ha, hb, h, hk => by
    have e := valD_less k a.tail b.tail ha.tail hb.tail (fun j hj => by rw [getD_tail, getD_tail]; exact h _ (by omega)) (by rw [getD_tail, getD_tail]; exact hk)
    have h1 := ha.get 0
    have h2 := hb.get 0
    rw [valD_head a, valD_head b]; omega
def cmpI (x y : Int) : Int := if x < y then -1 else if x = y then 0 else 1

set_option maxHeartbeats 1000000 in
theorem r_size (A B : Option Addr) (c d : Nat) (xs ys : List Int) (w : World) (hx : Lies w A xs) (hy : Lies w B ys) (dx : Digs xs) (dy : Digs ys) (nx : xs.length ≤ 1000) (ny : ys.length ≤ 1000) :
    Calls Try.prog 56 #[.slice A xs.length c, .slice B ys.length d] w fun e w' => e = .returned (.int .i64 (cmpI (valD xs) (valD ys))) ∧ w = w' := by
  have F := fun i w h => r_at A c xs i w h nx
  have G := fun i w h => r_at B d ys i w h ny
  have far : ∀ j, max xs.length ys.length ≤ j → xs.getD j 0 = ys.getD j 0 := fun j hj => by
    simp [List.getD, List.getElem?_eq_none (show xs.length ≤ j by omega), List.getElem?_eq_none (show ys.length ≤ j by omega)]
  have all : (∀ j, xs.getD j 0 = ys.getD j 0) → cmpI (valD xs) (valD ys) = 0 := fun h => by
    rw [valD_same (max xs.length ys.length) xs ys (by omega) (by omega) h]; simp [cmpI]
  have less : ∀ k, (∀ j, k < j → xs.getD j 0 = ys.getD j 0) → xs.getD k 0 < ys.getD k 0 → cmpI (valD xs) (valD ys) = -1 := fun k h hk => by
    have := valD_less k xs ys dx dy h hk
    simp [cmpI, this]
  have more : ∀ k, (∀ j, k < j → xs.getD j 0 = ys.getD j 0) → ys.getD k 0 < xs.getD k 0 → cmpI (valD xs) (valD ys) = 1 := fun k h hk => by
    have := valD_less k ys xs dy dx (fun j hj => (h j hj).symm) hk
    simp [cmpI, show ¬ valD xs < valD ys by omega, show ¬ valD xs = valD ys by omega]
  clear dx dy
  generalize cmpI (valD xs) (valD ys) = z at *
  generalize hf : (fun j => xs.getD j 0) = f
  generalize hg : (fun j => ys.getD j 0) = g
  have ef : ∀ j, xs.getD j 0 = f j := fun j => by rw [← hf]
  have eg : ∀ j, ys.getD j 0 = g j := fun j => by rw [← hg]
  simp only [ef, eg] at *
  generalize xs.length = n at *
  generalize ys.length = m at *
  go_enter Try.func56, Try.ntmps56
  go_wp2_with fail
  all_goals
    go_loopw [5] (fun i w' => ∃ (k : Nat) (x : Int), k ≤ 1000 ∧ i = .int .i64 x ∧ x + 1 = k ∧ (∀ j, k ≤ j → f j = g j) ∧ w' = w) (fun i _ => (intOf i + 1).toNat)
    case atStart => exact ⟨max n m, _, by omega, rfl, by omega, fun j hj => far j hj, rfl⟩
    case round =>
      obtain ⟨k, x, hk, rfl, hxk, heq, rfl⟩ := hrel
      rcases k with _ | k
      · obtain rfl : x = -1 := by omega
        obtain rfl := all (fun j => heq j (by omega))
        go_wp2
        go_ret
        exact ⟨rfl, rfl⟩
      · obtain rfl : x = (k : Int) := by omega
        have hl := less k (fun j hj => heq j (by omega))
        have hm := more k (fun j hj => heq j (by omega))
        go_wp2_with fail
        refine (F k _ hx).mono ?_; rintro e w1 ⟨rfl, rfl⟩
        go_wp2_with fail
        refine (G k _ hy).mono ?_; rintro e w1 ⟨rfl, rfl⟩
        by_cases h1 : f k < g k
        · obtain rfl := hl h1
          go_wp2
          go_ret
          exact ⟨rfl, rfl⟩
        · by_cases h2 : g k < f k
          · obtain rfl := hm h2
            go_wp2
            go_ret
            exact ⟨rfl, rfl⟩
          · go_wp2
            go_roundw
            case rel => exact ⟨k, _, by omega, rfl, by omega, fun j hj => by
              rcases Nat.lt_or_ge k j with h3 | h3
              · exact heq j (by omega)
              · obtain rfl : j = k := by omega
                omega, trivial⟩
            case measure => simp [intOf]
end Go.Proofs.Ytkgaoafcjhjefaa
