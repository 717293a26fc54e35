/-
  Rows that the call makes; what 'apart' does.
-/
import Derived.Test.YtkgaoafcjhjefaaRefB
import Derived.IntWalk
namespace Go.Proofs.Ytkgaoafcjhjefaa
open Go.RowKit Go.Shelf

/-- a value is a row of digits -/
def RowV (w : World) (v : Value) (ds : List Int) : Prop :=
  ∃ (A : Option Addr) (c : Nat), v = .slice A ds.length c ∧ ds.length ≤ c ∧ Lies w A ds
theorem RowV.of_own {w : World} {base e n : Nat} {v : Value} {ds : List Int} (h : w.ownsRow base e 1 v n (ds.map (Value.int .i64))) : RowV w v ds := by
  have hl : ds.length = n := by simpa using h.1
  subst hl
  rcases h.2 with ⟨rfl, h0⟩ | ⟨g, cap, cur, rfl, _, hg, hc, _⟩
  · exact ⟨none, 0, by rw [h0], by omega, Or.inl (List.eq_nil_of_length_eq_zero h0)⟩
  · refine ⟨some ⟨g, 0, none⟩, cap, rfl, hc, Or.inr ⟨g, rfl, ?_, fun j hj => ?_⟩⟩
    · rcases Nat.lt_or_ge g w.heap.size with h1 | h1
      · exact h1
      · rw [Array.getElem?_eq_none h1] at hg; cases hg
    · rw [h.cellAt j (by omega)]
      simp [List.getElem?_map, List.getElem?_eq_getElem hj]
theorem valD_append (ds : List Int) (d : Int) : valD (ds ++ [d]) = valD ds + 10 ^ ds.length * d := by
  induction ds with
  | nil => simp [valD]
  | cons x ds ih =>
    simp only [List.cons_append, valD, ih, List.length_cons, Int.pow_succ]
    rw [Int.mul_add, Int.add_assoc, ← Int.mul_assoc, Int.mul_comm 10 (10 ^ ds.length)]
theorem Digs.append {ds : List Int} (h : Digs ds) {d : Int} (h0 : 0 ≤ d) (h9 : d ≤ 9) : Digs (ds ++ [d]) := by
  intro x hx
  rcases List.mem_append.1 hx with hx | hx
  · exact h x hx
  · rw [List.mem_singleton] at hx; subst hx; exact ⟨h0, h9⟩
theorem Digs.lt {ds : List Int} (h : Digs ds) : valD ds < 10 ^ ds.length := by
  induction ds with
  | nil => simp [valD]
  | cons d ds ih =>
    have h1 := h d (by simp)
    have h2 := ih (fun x hx => h x (by simp [hx]))
    simp only [valD, List.length_cons, Int.pow_succ]; omega
theorem apart_step (T X Y V a b r d q : Int) (hV : V = X - Y + T * r) (hd : d = a - b - r + 10 * q) : V + T * d = (X + T * a) - (Y + T * b) + T * 10 * q := by
  subst hV hd; grind
theorem int_info : (Try.prog.info? 3).map (fun i => (i.zero, i.size, i.bytes)) = some (some (.int .i64 0), 1, 8) := by kernel_rfl

theorem cells_one (w : World) (t : TypeId) (x : Value) : ∀ j u, [x][j]? = some u → (w.alloc (.cells #[x] t)).cell? ((⟨w.heap.size, 0, none⟩ : Addr).add j) = some u := by
  intro j u hu
  rcases j with _ | j
  · simp at hu; subst hu; simp [Addr.add, go_sem]
  · simp at hu

set_option maxHeartbeats 2000000 in
set_option maxRecDepth 100000 in
theorem r_apart (A B : Option Addr) (c d : Nat) (xs ys : List Int) (w : World) (hx : Lies w A xs) (hy : Lies w B ys) (dx : Digs xs) (dy : Digs ys) (nx : xs.length ≤ 1000) (ny : ys.length ≤ xs.length) (hv : valD ys ≤ valD xs) :
    Calls Try.prog 58 #[.slice A xs.length c, .slice B ys.length d] w fun e w' =>
      (∃ v ds, e = .returned v ∧ RowV w' v ds ∧ Digs ds ∧ ds.length = xs.length ∧ valD ds = valD xs - valD ys) ∧ Below w.heap.size w w' := by
  obtain ⟨i0, hi0, hz0, hz1, hz2⟩ := info_parts int_info
  have G := mkHid (fun i w h => r_at B d ys i w h (by omega))
  have bf := fun j => dx.get j
  have bg := fun j => dy.get j
  have rd : Hid (∀ k : Nat, k < xs.length → ∃ g, A = some ⟨g, 0, none⟩ ∧ ∀ w', Below w.heap.size w w' → w'.cell? ⟨g, k, none⟩ = some (.int .i64 (xs.getD k 0))) := by
    intro k hk
    rcases hx with rfl | ⟨g, rfl, hg, hc⟩
    · simp at hk
    · exact ⟨g, rfl, fun w' hb => cell_later hb (hc k hk)⟩
  obtain ⟨Inv, start, stp, fin⟩ : ∃ Inv : Nat → List Int → Int → Prop, Inv 0 [] 0 ∧ Hid (∀ (k : Nat) (ds : List Int) (r q e : Int), Inv k ds r → e = xs.getD k 0 - ys.getD k 0 - r + 10 * q → 0 ≤ e → e ≤ 9 → Inv (k + 1) (ds ++ [e]) q) ∧
      Hid (∀ (ds : List Int) (r : Int), Inv xs.length ds r → (r = 0 ∨ r = 1) → Digs ds ∧ ds.length = xs.length ∧ valD ds = valD xs - valD ys) := by
    refine ⟨fun k ds r => ds.length = k ∧ Digs ds ∧ valD ds = valD (xs.take k) - valD (ys.take k) + 10 ^ k * r, ⟨rfl, (fun d h => by simp at h), by simp [valD]⟩, ?_, ?_⟩
    · rintro k ds r q e ⟨hl, hd, hV⟩ he e0 e9
      refine ⟨by simp [hl], hd.append e0 e9, ?_⟩
      rw [valD_append, valD_take, valD_take, hl, Int.pow_succ]
      exact apart_step _ _ _ _ _ _ _ _ _ hV he
    · rintro ds r ⟨hl, hd, hV⟩ hr
      refine ⟨hd, hl, ?_⟩
      rw [List.take_length, List.take_of_length_le ny] at hV
      have h1 := hd.lt
      rw [hl] at h1
      rcases hr with rfl | rfl
      · omega
      · omega
  generalize hf : (fun j => xs.getD j 0) = f
  generalize hg : (fun j => ys.getD j 0) = g
  have ef : ∀ j, xs.getD j 0 = f j := fun j => by rw [← hf]
  have eg : ∀ j, ys.getD j 0 = g j := fun j => by rw [← hg]
  simp only [ef, eg] at *
  clear ef eg hf hg dx dy hx hv
  generalize valD xs - valD ys = z at *
  generalize xs.length = n at *
  generalize hm : ys.length = m at *
  clear xs
  go_enter Try.func58, Try.ntmps58
  go_wp2_with fail
  go_loopw [5, 6, 7] (fun o b i w' => ∃ (k : Nat) (x r : Int) (ds : List Int), k ≤ n ∧ i = .int .i64 x ∧ x = k ∧ b = .int .i64 r ∧ (r = 0 ∨ r = 1) ∧ Inv k ds r ∧ w'.ownsRow w.heap.size 3 1 o k (ds.map (Value.int .i64)) ∧ Below w.heap.size w w') (fun _ _ i _ => (n - intOf i).toNat)
  case atStart => exact ⟨0, 0, 0, [], by omega, rfl, rfl, rfl, Or.inl rfl, start, World.ownsRow_lit _ #[] 0 (Nat.le_refl _) (by decide) rfl, bal (Below.refl _ _) _⟩
  case round =>
    obtain ⟨k, x, r, ds, hk, rfl, hxk, rfl, hr, hI, hown, hb⟩ := hrel
    obtain rfl : x = (k : Int) := hxk
    by_cases hlt : k < n
    · have ba := bf k
      have bb := bg k
      clear bf bg start fin
      obtain ⟨h, rfl, hrd⟩ := rd.out k hlt
      have hc := hrd _ hb
      have W1 : IntKind.i64.wrap (f k - g k) = f k - g k := IntWalk.i64_in _ (by omega)
      have W2 : IntKind.i64.wrap (f k - g k - r) = f k - g k - r := IntWalk.i64_in _ (by omega)
      have hyr := hy.later hb
      have stk := fun q e => stp.out k ds r q e hI
      clear rd stp hrd hI hy
      go_wp2_with fail
      go_region_held2 (fun w' => w'.cell? ⟨h, k, none⟩ = some (.int .i64 (f k)) ∧ Lies w' B ys)
        (first | exact ⟨hc, hyr⟩ | assumption)
        ((go_at_call 59; refine (G.out k _ (And.right (by assumption))).mono ?_; rintro e w50 ⟨rfl, rfl⟩))
      by_cases hneg : f k - g k - r < 0
      · have hS := stk 1 (f k - g k - r + 10) (by omega) (by omega) (by omega)
        clear stk
        go_wp2_with (at_builtin
                     refine wpList_append_own _ rfl (.tmp 30) (.tmp 32) _ rfl w.heap.size 3 i0 _ 1 8 Try.underlying23 hi0 hz0 hz1 hz2 rfl (by omega) u5 k (ds.map (Value.int .i64)) rfl (World.ownsRow.alloc hown _) ⟨wr.heap.size, 0, none⟩ 1 1 [.int .i64 (f k - g k - r + 10)] rfl rfl (cells_one _ _ _) (ints_oneCell .i64 [f k - g k - r + 10]) (by simp only [maxLen]; omega) (by omega) (by have := hb.size; simp; omega) ?_
                     intro v1 w1 hown1 hg1 hv1)
        go_roundw
        case rel => exact ⟨k + 1, _, 1, ds ++ [f k - g k - r + 10], by omega, rfl, by omega, rfl, Or.inr rfl, hS, by simpa using hown1, Below.grown (bdrew (bal hb _)) hg1 (by have := hb.size; simp; omega) (fun j hj => (hown.lt j hj).1)⟩
        case measure => simp [intOf]; omega
      · have hS := stk 0 (f k - g k - r) (by omega) (by omega) (by omega)
        clear stk
        go_wp2_with (at_builtin
                     refine wpList_append_own _ rfl (.tmp 30) (.tmp 32) _ rfl w.heap.size 3 i0 _ 1 8 Try.underlying23 hi0 hz0 hz1 hz2 rfl (by omega) u5 k (ds.map (Value.int .i64)) rfl (World.ownsRow.alloc hown _) ⟨wr.heap.size, 0, none⟩ 1 1 [.int .i64 (f k - g k - r)] rfl rfl (cells_one _ _ _) (ints_oneCell .i64 [f k - g k - r]) (by simp only [maxLen]; omega) (by omega) (by have := hb.size; simp; omega) ?_
                     intro v1 w1 hown1 hg1 hv1)
        go_roundw
        case rel => exact ⟨k + 1, _, 0, ds ++ [f k - g k - r], by omega, rfl, by omega, rfl, Or.inl rfl, hS, by simpa using hown1, Below.grown (bdrew (bal hb _)) hg1 (by have := hb.size; simp; omega) (fun j hj => (hown.lt j hj).1)⟩
        case measure => simp [intOf]; omega
    · obtain rfl : k = n := by omega
      have hfin := fin.out ds r hI hr
      go_wp2
      go_ret
      exact ⟨⟨_, ds, rfl, RowV.of_own hown, hfin⟩, hb⟩
end Go.Proofs.Ytkgaoafcjhjefaa
