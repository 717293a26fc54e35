/-
  A number as a sign and a row of digits; what 'cut' and 'Turn' do.
-/
import Derived.Test.YtkgaoafcjhjefaaRefA
namespace Go.Proofs.Ytkgaoafcjhjefaa
open Go.RowKit Go.Shelf

def Top (ds : List Int) : Prop := ds = [] ∨ ds.getD (ds.length - 1) 0 ≠ 0
/-- a value is a number: its sign, its digits without noughts at the end -/
def Num (w : World) (v : Value) (z : Int) : Prop :=
  ∃ (A : Option Addr) (c : Nat) (ds : List Int), v = .agg #[.bool (decide (z < 0)), .slice A ds.length c] ∧ ds.length ≤ c ∧ Lies w A ds ∧ Digs ds ∧ Top ds ∧ valD ds = z.natAbs
theorem Num.later {w w' : World} {v : Value} {z : Int} (h : Num w v z) (hb : Below w.heap.size w w') : Num w' v z := by
  obtain ⟨A, c, ds, h1, h2, h3, h4⟩ := h
  exact ⟨A, c, ds, h1, h2, h3.later hb, h4⟩

theorem valD_take (ds : List Int) : ∀ k, valD (ds.take (k + 1)) = valD (ds.take k) + 10 ^ k * ds.getD k 0 := by
  induction ds with
  | nil => intro k; simp [valD]
  | cons d ds ih =>
    intro k
    cases k with
    | zero => simp [valD]
    | succ k =>
      have := ih k
      simp only [List.take_succ_cons, valD, this, List.getD_cons_succ, Int.pow_succ]
      rw [Int.mul_add, Int.add_assoc, ← Int.mul_assoc, Int.mul_comm 10 (10 ^ k)]
theorem Digs.take {ds : List Int} (h : Digs ds) (k : Nat) : Digs (ds.take k) := fun d hd => h d (List.mem_of_mem_take hd)
theorem getD_take (ds : List Int) {j k : Nat} (h : j < k) : (ds.take k).getD j 0 = ds.getD j 0 := by
  simp [List.getD, h]
theorem Lies.take {w : World} {A : Option Addr} {ds : List Int} (h : Lies w A ds) (k : Nat) : Lies w A (ds.take k) := by
  rcases h with rfl | ⟨g, rfl, hg, hc⟩
  · exact Or.inl (by simp)
  · refine Or.inr ⟨g, rfl, hg, fun j hj => ?_⟩
    have hl : j < k ∧ j < ds.length := by simp at hj; omega
    rw [getD_take ds hl.1]; exact hc j hl.2
theorem valD_pos : ∀ (ds : List Int), Digs ds → Top ds → ds ≠ [] → 0 < valD ds
  | [], _, _, h => absurd rfl h
  | [d], h, t, _ => by
    have h1 := h d (by simp)
    rcases t with t | t
    · simp at t
    · simp at t; simp [valD]; omega
  | d :: e :: ds, h, t, _ => by
    have h1 := h d (by simp)
    have h2 := valD_pos (e :: ds) (fun x hx => h x (by simp [hx])) (by
      rcases t with t | t
      · simp at t
      · right; simpa using t) (by simp)
    rw [valD]; omega
/-- the number of a sign and a value -/
def sg (s : Bool) (x : Int) : Int := if s then -x else x
theorem sg_neg (s : Bool) {x : Int} (h : 0 ≤ x) : decide (sg s x < 0) = (s && decide (0 < x)) := by
  cases s <;> simp [sg] <;> omega
theorem sg_abs (s : Bool) {x : Int} (h : 0 ≤ x) : ((sg s x).natAbs : Int) = x := by
  cases s <;> simp [sg] <;> omega

set_option maxHeartbeats 1000000 in
set_option maxRecDepth 100000 in
theorem r_cut (s : Bool) (A : Option Addr) (c : Nat) (ds : List Int) (w : World) (h : Lies w A ds) (hd : Digs ds) (hl : ds.length ≤ c) (hn : ds.length ≤ 1000) :
    Calls Try.prog 57 #[.agg #[.bool s, .slice A ds.length c]] w fun e w' => (∃ v, e = .returned v ∧ Num w' v (sg s (valD ds))) ∧ Below w.heap.size w w' := by
  have fin : Hid (∀ k, k ≤ ds.length → valD (ds.take k) = valD ds → (k = 0 ∨ ds.getD (k - 1) 0 ≠ 0) → ∀ t w', t = (s && decide (0 < (k : Int))) → Below w.heap.size w w' → Num w' (.agg #[.bool t, .slice A k c]) (sg s (valD ds))) := by
    rintro k hk hv ht t w' rfl hb
    have e : (ds.take k).length = k := by simp; omega
    have h0 : decide (0 < (k : Int)) = decide (0 < valD ds) := by
      rw [← hv]
      rcases k with _ | k
      · simp [valD]
      · have := valD_pos (ds.take (k + 1)) (hd.take _) (Or.inr (by rw [e, getD_take _ (by omega)]; exact ht.resolve_left (by omega))) (by intro hh; rw [hh] at e; simp at e)
        simp [this]
    refine ⟨A, c, ds.take k, ?_, by omega, (h.take k).later hb, hd.take k, ?_, ?_⟩
    · rw [e, sg_neg s hd.nonneg, h0]
    · rcases k with _ | k
      · exact Or.inl (by simp)
      · exact Or.inr (by rw [e, getD_take _ (by omega)]; exact ht.resolve_left (by omega))
    · rw [hv, sg_abs s hd.nonneg]
  have step : Hid (∀ k, ds.getD k 0 = 0 → valD (ds.take (k + 1)) = valD ds → valD (ds.take k) = valD ds) := by
    intro k h0 h1
    rw [valD_take, h0] at h1; omega
  have start : valD (ds.take ds.length) = valD ds := by simp
  have rd : Hid (∀ k : Nat, k < ds.length → ∃ g, A = some ⟨g, 0, none⟩ ∧ ∀ o p, ((w.alloc o).alloc p).cell? ⟨g, k, none⟩ = some (.int .i64 (ds.getD k 0))) := by
    intro k hk
    rcases h with rfl | ⟨g, rfl, hg, hc⟩
    · simp at hk
    · exact ⟨g, rfl, fun o p => cell_later (bal (bal (Below.refl _ _) _) _) (hc k hk)⟩
  generalize hf : (fun j => ds.getD j 0) = f
  have ef : ∀ j, ds.getD j 0 = f j := fun j => by rw [← hf]
  simp only [ef] at *
  generalize hvt : (fun j => valD (ds.take j)) = vt
  have ev : ∀ j, valD (ds.take j) = vt j := fun j => by rw [← hvt]
  simp only [ev] at *
  clear h hd ef ev hf hvt
  generalize valD ds = z at *
  generalize ds.length = n at *
  clear ds
  cases s
  all_goals
   go_enter Try.func57, Try.ntmps57
   go_wp2_with fail
   go_loop [3] (fun i => ∃ (k : Nat) (x : Int), k ≤ n ∧ i = .int .i64 x ∧ x = k ∧ vt k = z) (fun i => (intOf i).toNat)
   case atStart => exact ⟨n, _, by omega, rfl, rfl, start⟩
   case round =>
     obtain ⟨k, x, hk, rfl, hx, hv⟩ := hrel
     rcases k with _ | k
     · obtain rfl : x = 0 := by omega
       clear hx
       have fin0 := fin.out 0 (by omega) hv (Or.inl rfl)
       go_wp2_with fail
       go_region
       go_wp2
       first
         | exact bodyPost_ret (v := .agg #[.bool false, .slice A 0 c]) (by simp [results, Try.results57, go_sem]) rfl ⟨⟨_, rfl, fin0 _ _ (by first | rfl | (simp; done) | (simp; omega)) (by repeat (first | exact Below.refl _ _ | (refine bset ?_ (by simp) _) | refine bdrewN ?_ _ | refine bdrew ?_ | refine bal ?_ _))⟩, (by repeat (first | exact Below.refl _ _ | (refine bset ?_ (by simp) _) | refine bdrewN ?_ _ | refine bdrew ?_ | refine bal ?_ _))⟩
     · obtain rfl : x = (k : Int) + 1 := by omega
       clear hx
       obtain ⟨g, rfl, hrd⟩ := rd.out k (by omega)
       by_cases h0 : f k = 0
       · rw [h0] at hrd
         go_wp2
         go_round
         case rel => exact ⟨k, _, by omega, rfl, by omega, step.out k h0 hv⟩
         case measure => simp [intOf]
       · have fin1 := fin.out (k + 1) (by omega) hv (Or.inr h0)
         go_wp2_with fail
         go_region
         go_wp2
         first
           | exact bodyPost_ret (v := .agg #[.bool false, .slice (some ⟨g, 0, none⟩) (k + 1) c]) (by simp [results, Try.results57, go_sem]) rfl ⟨⟨_, rfl, fin1 _ _ (by first | rfl | (simp; done) | (simp; omega)) (by repeat (first | exact Below.refl _ _ | (refine bset ?_ (by simp) _) | refine bdrewN ?_ _ | refine bdrew ?_ | refine bal ?_ _))⟩, (by repeat (first | exact Below.refl _ _ | (refine bset ?_ (by simp) _) | refine bdrewN ?_ _ | refine bdrew ?_ | refine bal ?_ _))⟩
           | exact bodyPost_ret (v := .agg #[.bool true, .slice (some ⟨g, 0, none⟩) (k + 1) c]) (by simp [results, Try.results57, go_sem]) rfl ⟨⟨_, rfl, fin1 _ _ (by first | rfl | (simp; done) | (simp; omega)) (by repeat (first | exact Below.refl _ _ | (refine bset ?_ (by simp) _) | refine bdrewN ?_ _ | refine bdrew ?_ | refine bal ?_ _))⟩, (by repeat (first | exact Below.refl _ _ | (refine bset ?_ (by simp) _) | refine bdrewN ?_ _ | refine bdrew ?_ | refine bal ?_ _))⟩

theorem Lies.set {w : World} {A : Option Addr} {ds : List Int} (h : Lies w A ds) {b : Nat} {t : Bool} (hb : w.cell? ⟨b, 0, none⟩ = some (.bool t)) (u v : Value) :
    Lies ((w.setCell ⟨b, 0, none⟩ u).setCell ⟨b, 1, none⟩ v) A ds := by
  rcases h with rfl | ⟨g, rfl, hg, hc⟩
  · exact Or.inl rfl
  · by_cases h0 : ds = []
    · exact Or.inl h0
    · have hp : 0 < ds.length := List.length_pos_iff.2 h0
      have hne : b ≠ g := by
        rintro rfl
        have := hc 0 hp
        rw [hb] at this; cases this
      refine Or.inr ⟨g, rfl, by simpa using hg, fun j hj => ?_⟩
      rw [World.cell?_setCell_other _ _ _ _ (by simp), World.cell?_setCell_other _ _ _ _ (by simp)]
      exact hc j hj
theorem Num.set {w : World} {v : Value} {z : Int} (h : Num w v z) {b : Nat} {t : Bool} (hb : w.cell? ⟨b, 0, none⟩ = some (.bool t)) (u u' : Value) :
    Num ((w.setCell ⟨b, 0, none⟩ u).setCell ⟨b, 1, none⟩ u') v z := by
  obtain ⟨A, c, ds, h1, h2, h3, h4⟩ := h
  exact ⟨A, c, ds, h1, h2, h3.set hb _ _, h4⟩
theorem Num.open_ {w : World} {v : Value} {z : Int} (h : Num w v z) : ∃ (A : Option Addr) (c n : Nat), v = .agg #[.bool (decide (z < 0)), .slice A n c] := by
  obtain ⟨A, c, ds, h1, _⟩ := h
  exact ⟨A, c, _, h1⟩
/-- far fewer digits than a row may have -/
def Small (z : Int) : Prop := z.natAbs < 10 ^ 60
theorem valD_low : ∀ (ds : List Int), Digs ds → Top ds → ds ≠ [] → (10 : Int) ^ (ds.length - 1) ≤ valD ds
  | [], _, _, h => absurd rfl h
  | [d], h, t, _ => by
    have h1 := h d (by simp)
    rcases t with t | t
    · simp at t
    · simp at t; simp [valD]; omega
  | d :: e :: ds, h, t, _ => by
    have h1 := h d (by simp)
    have h2 := valD_low (e :: ds) (fun x hx => h x (by simp [hx])) (by
      rcases t with t | t
      · simp at t
      · right; simpa using t) (by simp)
    rw [valD]
    simp only [List.length_cons, Nat.add_sub_cancel] at *
    rw [Int.pow_succ]; omega
theorem len_small {ds : List Int} {z : Int} (h : Digs ds) (t : Top ds) (e : valD ds = z.natAbs) (hz : Small z) : ds.length ≤ 60 := by
  by_cases h0 : ds = []
  · simp [h0]
  · have := valD_low ds h t h0
    unfold Small at hz
    rw [e] at this
    have h3 : (10 : Nat) ^ (ds.length - 1) < 10 ^ 60 := by
      have h4 : ((10 : Nat) ^ (ds.length - 1) : Int) ≤ (z.natAbs : Int) := by exact_mod_cast this
      have h5 : (10 : Nat) ^ (ds.length - 1) ≤ z.natAbs := by exact_mod_cast h4
      exact Nat.lt_of_le_of_lt h5 hz
    have := (Nat.pow_lt_pow_iff_right (by decide : 1 < 10)).1 h3
    omega
theorem sg_turn (z : Int) : sg (!decide (z < 0)) (z.natAbs : Int) = -z := by
  by_cases h : z < 0 <;> simp [sg, h] <;> omega

set_option maxHeartbeats 1000000 in
theorem r_turn (v : Value) (z : Int) (w : World) (h : Num w v z) (hz : Small z) :
    Calls Try.prog 23 #[v] w fun e w' => (∃ v, e = .returned v ∧ Num w' v (-z)) ∧ Below w.heap.size w w' := by
  obtain ⟨A, c, ds, rfl, hl, hL, hd, ht, hv⟩ := h
  have hn := len_small hd ht hv hz
  have C := fun s w h => r_cut s A c ds w h hd hl (by omega)
  have E := sg_turn z
  rw [← hv] at E
  generalize decide (z < 0) = s at *
  clear hz hv hd ht
  generalize ds.length = n at *
  go_enter Try.func23, Try.ntmps23
  go_wp2_with fail
  refine (C _ _ (hL.later (bal (bal (Below.refl _ _) _) _))).mono ?_
  rintro e w1 ⟨⟨v1, rfl, hN⟩, hb1⟩
  rw [E] at hN
  have t_r : Two w1 (w.heap.size + 1) (.bool false) (.slice none 0 0) := Two.later hb1 (by simp [Two, go_sem])
  obtain ⟨A1, c1, n1, rfl⟩ := hN.open_
  generalize decide (-z < 0) = s1 at *
  have x0 := t_r.1; have x1 := t_r.2.1; have y0 := t_r.2.2.1; have y1 := t_r.2.2.2
  clear C E hL
  go_wp2
  refine bodyPost_ret (v := .agg #[.bool s1, .slice A1 n1 c1]) (by simp [results, Try.results23, go_sem, x0, x1]) rfl ⟨⟨_, rfl, hN.set x0 _ _⟩, ?_⟩
  exact bset (bset (bon (bal (bal (Below.refl _ _) _) _) hb1) (by simp) _) (by simp) _
end Go.Proofs.Ytkgaoafcjhjefaa
