/-
  What 'Plus' does.
-/
import Derived.Test.YtkgaoafcjhjefaaRefD
import Derived.Test.YtkgaoafcjhjefaaRefE
namespace Go.Proofs.Ytkgaoafcjhjefaa
open Go.RowKit Go.Shelf

theorem plus_keep {w w' : World} {s t : Bool} {A B : Option Addr} {n m c d N : Nat} {xs ys : List Int} (hb : Below w.heap.size w w')
    (h : w.cell? ⟨N, 0, none⟩ = some (.bool s) ∧ w.cell? ⟨N, 1, none⟩ = some (.slice A n c) ∧ w.cell? ⟨N + 1, 0, none⟩ = some (.bool t) ∧ w.cell? ⟨N + 1, 1, none⟩ = some (.slice B m d) ∧ (∃ bx by_, Two w (N + 2) (.bool bx) by_) ∧ Lies w A xs ∧ Lies w B ys) :
    w'.cell? ⟨N, 0, none⟩ = some (.bool s) ∧ w'.cell? ⟨N, 1, none⟩ = some (.slice A n c) ∧ w'.cell? ⟨N + 1, 0, none⟩ = some (.bool t) ∧ w'.cell? ⟨N + 1, 1, none⟩ = some (.slice B m d) ∧ (∃ bx by_, Two w' (N + 2) (.bool bx) by_) ∧ Lies w' A xs ∧ Lies w' B ys :=
  ⟨cell_later hb h.1, cell_later hb h.2.1, cell_later hb h.2.2.1, cell_later hb h.2.2.2.1, (let ⟨bx, by_, t2⟩ := h.2.2.2.2.1; ⟨bx, by_, Two.later hb t2⟩), h.2.2.2.2.2.1.later hb, h.2.2.2.2.2.2.later hb⟩
theorem plus_tw {w : World} {s t : Bool} {A B : Option Addr} {n m c d N : Nat} {xs ys : List Int}
    (h : w.cell? ⟨N, 0, none⟩ = some (.bool s) ∧ w.cell? ⟨N, 1, none⟩ = some (.slice A n c) ∧ w.cell? ⟨N + 1, 0, none⟩ = some (.bool t) ∧ w.cell? ⟨N + 1, 1, none⟩ = some (.slice B m d) ∧ (∃ bx by_, Two w (N + 2) (.bool bx) by_) ∧ Lies w A xs ∧ Lies w B ys) : ∃ bx by_, Two w (N + 2) (.bool bx) by_ := h.2.2.2.2.1
theorem plus_la {w : World} {s t : Bool} {A B : Option Addr} {n m c d N : Nat} {xs ys : List Int}
    (h : w.cell? ⟨N, 0, none⟩ = some (.bool s) ∧ w.cell? ⟨N, 1, none⟩ = some (.slice A n c) ∧ w.cell? ⟨N + 1, 0, none⟩ = some (.bool t) ∧ w.cell? ⟨N + 1, 1, none⟩ = some (.slice B m d) ∧ (∃ bx by_, Two w (N + 2) (.bool bx) by_) ∧ Lies w A xs ∧ Lies w B ys) : Lies w A xs := h.2.2.2.2.2.1
theorem plus_lb {w : World} {s t : Bool} {A B : Option Addr} {n m c d N : Nat} {xs ys : List Int}
    (h : w.cell? ⟨N, 0, none⟩ = some (.bool s) ∧ w.cell? ⟨N, 1, none⟩ = some (.slice A n c) ∧ w.cell? ⟨N + 1, 0, none⟩ = some (.bool t) ∧ w.cell? ⟨N + 1, 1, none⟩ = some (.slice B m d) ∧ (∃ bx by_, Two w (N + 2) (.bool bx) by_) ∧ Lies w A xs ∧ Lies w B ys) : Lies w B ys := h.2.2.2.2.2.2
theorem cell_far2 (w : World) (b : Nat) (p : Addr) (u v : Value) (hne : p.block ≠ b) : ((w.setCell ⟨b, 0, none⟩ u).setCell ⟨b, 1, none⟩ v).cell? p = w.cell? p := by
  rw [World.cell?_of_block (Below.heap_setCell _ ⟨b, 1, none⟩ v p.block hne), World.cell?_of_block (Below.heap_setCell _ ⟨b, 0, none⟩ u p.block hne)]
theorem plus_store {w : World} {s t x : Bool} {A B : Option Addr} {n m c d N : Nat} {xs ys : List Int} {v : Value}
    (h : w.cell? ⟨N, 0, none⟩ = some (.bool s) ∧ w.cell? ⟨N, 1, none⟩ = some (.slice A n c) ∧ w.cell? ⟨N + 1, 0, none⟩ = some (.bool t) ∧ w.cell? ⟨N + 1, 1, none⟩ = some (.slice B m d) ∧ (∃ bx by_, Two w (N + 2) (.bool bx) by_) ∧ Lies w A xs ∧ Lies w B ys) : ((w.setCell ⟨N + 2, 0, none⟩ (.bool x)).setCell ⟨N + 2, 1, none⟩ v).cell? ⟨N, 0, none⟩ = some (.bool s) ∧ ((w.setCell ⟨N + 2, 0, none⟩ (.bool x)).setCell ⟨N + 2, 1, none⟩ v).cell? ⟨N, 1, none⟩ = some (.slice A n c) ∧ ((w.setCell ⟨N + 2, 0, none⟩ (.bool x)).setCell ⟨N + 2, 1, none⟩ v).cell? ⟨N + 1, 0, none⟩ = some (.bool t) ∧ ((w.setCell ⟨N + 2, 0, none⟩ (.bool x)).setCell ⟨N + 2, 1, none⟩ v).cell? ⟨N + 1, 1, none⟩ = some (.slice B m d) ∧ (∃ bx by_, Two ((w.setCell ⟨N + 2, 0, none⟩ (.bool x)).setCell ⟨N + 2, 1, none⟩ v) (N + 2) (.bool bx) by_) ∧ Lies ((w.setCell ⟨N + 2, 0, none⟩ (.bool x)).setCell ⟨N + 2, 1, none⟩ v) A xs ∧ Lies ((w.setCell ⟨N + 2, 0, none⟩ (.bool x)).setCell ⟨N + 2, 1, none⟩ v) B ys := by
  obtain ⟨h1, h2, h3, h4, ⟨bx, y, h5⟩, h6, h7⟩ := h
  refine ⟨?_, ?_, ?_, ?_, ⟨x, v, Two.set_same h5 _ _⟩, h6.set h5.1 _ _, h7.set h5.1 _ _⟩
  · rw [cell_far2 _ _ _ _ _ (by simp)]; exact h1
  · rw [cell_far2 _ _ _ _ _ (by simp)]; exact h2
  · rw [cell_far2 _ _ _ _ _ (by simp)]; exact h3
  · rw [cell_far2 _ _ _ _ _ (by simp)]; exact h4
theorem top_le {xs ys : List Int} (hx : Digs xs) (hy : Digs ys) (ty : Top ys) (h : valD ys ≤ valD xs) : ys.length ≤ xs.length := by
  by_cases h0 : ys = []
  · simp [h0]
  · have h1 := valD_low ys hy ty h0
    have h2 := hx.lt
    have h3 : (10 : Int) ^ (ys.length - 1) < 10 ^ xs.length := by omega
    have h4 : (10 : Nat) ^ (ys.length - 1) < 10 ^ xs.length := by exact_mod_cast h3
    have := (Nat.pow_lt_pow_iff_right (by decide : 1 < 10)).1 h4
    omega

set_option maxHeartbeats 2000000 in
set_option maxRecDepth 100000 in
theorem plus_apart (s : Bool) (A B : Option Addr) (c d : Nat) (xs ys : List Int) (w : World) (hx : Lies w A xs) (hy : Lies w B ys) (dx : Digs xs) (dy : Digs ys) (tx : Top xs) (ty : Top ys) (nx : xs.length ≤ 100) (ny : ys.length ≤ 100) :
    Calls Try.prog 22 #[.agg #[.bool s, .slice A xs.length c], .agg #[.bool !s, .slice B ys.length d]] w fun e w' => (∃ v, e = .returned v ∧ Num w' v (sg s (valD xs - valD ys))) ∧ Below w.heap.size w w' := by
  have hsz := r_size A B c d xs ys ((((w.alloc (.cells #[.bool s, .slice A xs.length c] 25)).alloc (.cells #[.bool !s, .slice B ys.length d] 25)).alloc (.cells #[.bool false, .slice none 0 0] 25))) (hx.later (bal (bal (bal (Below.refl _ _) _) _) _)) (hy.later (bal (bal (bal (Below.refl _ _) _) _) _)) dx dy (by omega) (by omega)
  cases s
  · by_cases hlt : valD xs < valD ys
    · have hc : cmpI (valD xs) (valD ys) = -1 := by simp [cmpI, hlt]
      rw [hc] at hsz
      have hsgn : Hid (sg true (valD ys - valD xs) = sg false (valD xs - valD ys)) := by show -(valD ys - valD xs) = valD xs - valD ys; omega
      have l1 := top_le dy dx tx (by omega)
      go_enter Try.func22, Try.ntmps22
      go_wp2_with fail
      refine hsz.mono ?_; rintro e w1 ⟨rfl, rfl⟩
      go_wp2_with fail
      go_region_held2 (fun w' => w'.cell? ⟨w.heap.size, 0, none⟩ = some (.bool false) ∧ w'.cell? ⟨w.heap.size, 1, none⟩ = some (.slice A xs.length c) ∧ w'.cell? ⟨w.heap.size + 1, 0, none⟩ = some (.bool true) ∧ w'.cell? ⟨w.heap.size + 1, 1, none⟩ = some (.slice B ys.length d) ∧ (∃ bx by_, Two w' (w.heap.size + 2) (.bool bx) by_) ∧ Lies w' A xs ∧ Lies w' B ys)
        (first | exact plus_store (s := false) (t := true) (A := A) (B := B) (n := xs.length) (m := ys.length) (c := c) (d := d) (N := w.heap.size) (xs := xs) (ys := ys) (by assumption) | exact plus_keep (s := false) (t := true) (A := A) (B := B) (n := xs.length) (m := ys.length) (c := c) (d := d) (N := w.heap.size) (xs := xs) (ys := ys) hb51 (by assumption) | exact plus_keep (s := false) (t := true) (A := A) (B := B) (n := xs.length) (m := ys.length) (c := c) (d := d) (N := w.heap.size) (xs := xs) (ys := ys) hb50 (by assumption) | exact ⟨by simp [go_sem], by simp [go_sem], by simp [go_sem], by simp [go_sem], ⟨false, .slice none 0 0, by simp [Two, go_sem]⟩, hx.later (bdrew (bal (bal (bal (Below.refl _ _) _) _) _)), hy.later (bdrew (bal (bal (bal (Below.refl _ _) _) _) _))⟩)
        (first
          | (go_at_call 58; refine (r_apart B A d c ys xs _ (plus_lb (s := false) (t := true) (A := A) (B := B) (n := xs.length) (m := ys.length) (c := c) (d := d) (N := w.heap.size) (xs := xs) (ys := ys) (by assumption)) (plus_la (s := false) (t := true) (A := A) (B := B) (n := xs.length) (m := ys.length) (c := c) (d := d) (N := w.heap.size) (xs := xs) (ys := ys) (by assumption)) dy dx (by omega) l1 (by omega)).mono ?_; rintro e w50 ⟨⟨v5, ds5, rfl, hR5, hD5, hl5, hv5⟩, hb50⟩; obtain ⟨A5, c5, rfl, hc5, hL5⟩ := hR5)
          | (go_at_call 57; have rc := r_cut true A5 c5 ds5 _ hL5 hD5 hc5 (by omega); rw [hl5, hv5] at rc; refine rc.mono ?_; clear rc; rintro e w51 ⟨⟨v6, rfl, hN6⟩, hb51⟩; obtain ⟨A6, c6, n6, rfl⟩ := hN6.open_; obtain ⟨bx, by_, tw⟩ := plus_tw (s := false) (t := true) (A := A) (B := B) (n := xs.length) (m := ys.length) (c := c) (d := d) (N := w.heap.size) (xs := xs) (ys := ys) (plus_keep (s := false) (t := true) (A := A) (B := B) (n := xs.length) (m := ys.length) (c := c) (d := d) (N := w.heap.size) (xs := xs) (ys := ys) hb51 (by assumption)); have r0 := tw.1; have r1 := tw.2.1; have r2 := tw.2.2.1; have r3 := tw.2.2.2))
      rw [hsgn.out] at hN6
      go_wp2
      exact bodyPost_ret (v := .agg #[.bool _, .slice A6 n6 c6]) (by simp [results, Try.results22, go_sem, r0, r1]; rw [hsgn.out]) rfl ⟨⟨_, rfl, hN6.set r0 _ _⟩, (by repeat (first | exact Below.refl _ _ | (refine bset ?_ (by simp <;> omega) _) | (refine bon ?_ (by assumption)) | refine bdrewN ?_ _ | refine bdrew ?_ | refine bal ?_ _))⟩
    · have hc : cmpI (valD xs) (valD ys) = 0 ∨ cmpI (valD xs) (valD ys) = 1 := by unfold cmpI; rw [if_neg hlt]; split <;> simp
      rcases hc with hc | hc
      all_goals
        rw [hc] at hsz
        have l1 := top_le dx dy ty (by omega)
        go_enter Try.func22, Try.ntmps22
        go_wp2_with fail
        refine hsz.mono ?_; rintro e w1 ⟨rfl, rfl⟩
        go_wp2_with fail
        go_region_held2 (fun w' => w'.cell? ⟨w.heap.size, 0, none⟩ = some (.bool false) ∧ w'.cell? ⟨w.heap.size, 1, none⟩ = some (.slice A xs.length c) ∧ w'.cell? ⟨w.heap.size + 1, 0, none⟩ = some (.bool true) ∧ w'.cell? ⟨w.heap.size + 1, 1, none⟩ = some (.slice B ys.length d) ∧ (∃ bx by_, Two w' (w.heap.size + 2) (.bool bx) by_) ∧ Lies w' A xs ∧ Lies w' B ys)
          (first | exact plus_store (s := false) (t := true) (A := A) (B := B) (n := xs.length) (m := ys.length) (c := c) (d := d) (N := w.heap.size) (xs := xs) (ys := ys) (by assumption) | exact plus_keep (s := false) (t := true) (A := A) (B := B) (n := xs.length) (m := ys.length) (c := c) (d := d) (N := w.heap.size) (xs := xs) (ys := ys) hb51 (by assumption) | exact plus_keep (s := false) (t := true) (A := A) (B := B) (n := xs.length) (m := ys.length) (c := c) (d := d) (N := w.heap.size) (xs := xs) (ys := ys) hb50 (by assumption) | exact ⟨by simp [go_sem], by simp [go_sem], by simp [go_sem], by simp [go_sem], ⟨false, .slice none 0 0, by simp [Two, go_sem]⟩, hx.later (bdrew (bal (bal (bal (Below.refl _ _) _) _) _)), hy.later (bdrew (bal (bal (bal (Below.refl _ _) _) _) _))⟩)
          (first
            | (go_at_call 58; refine (r_apart A B c d xs ys _ (plus_la (s := false) (t := true) (A := A) (B := B) (n := xs.length) (m := ys.length) (c := c) (d := d) (N := w.heap.size) (xs := xs) (ys := ys) (by assumption)) (plus_lb (s := false) (t := true) (A := A) (B := B) (n := xs.length) (m := ys.length) (c := c) (d := d) (N := w.heap.size) (xs := xs) (ys := ys) (by assumption)) dx dy (by omega) l1 (by omega)).mono ?_; rintro e w50 ⟨⟨v5, ds5, rfl, hR5, hD5, hl5, hv5⟩, hb50⟩; obtain ⟨A5, c5, rfl, hc5, hL5⟩ := hR5)
            | (go_at_call 57; have rc := r_cut false A5 c5 ds5 _ hL5 hD5 hc5 (by omega); rw [hl5, hv5] at rc; refine rc.mono ?_; clear rc; rintro e w51 ⟨⟨v6, rfl, hN6⟩, hb51⟩; obtain ⟨A6, c6, n6, rfl⟩ := hN6.open_; obtain ⟨bx, by_, tw⟩ := plus_tw (s := false) (t := true) (A := A) (B := B) (n := xs.length) (m := ys.length) (c := c) (d := d) (N := w.heap.size) (xs := xs) (ys := ys) (plus_keep (s := false) (t := true) (A := A) (B := B) (n := xs.length) (m := ys.length) (c := c) (d := d) (N := w.heap.size) (xs := xs) (ys := ys) hb51 (by assumption)); have r0 := tw.1; have r1 := tw.2.1; have r2 := tw.2.2.1; have r3 := tw.2.2.2))
        go_wp2
        exact bodyPost_ret (v := .agg #[.bool _, .slice A6 n6 c6]) (by simp [results, Try.results22, go_sem, r0, r1]) rfl ⟨⟨_, rfl, hN6.set r0 _ _⟩, (by repeat (first | exact Below.refl _ _ | (refine bset ?_ (by simp <;> omega) _) | (refine bon ?_ (by assumption)) | refine bdrewN ?_ _ | refine bdrew ?_ | refine bal ?_ _))⟩
  · by_cases hlt : valD xs < valD ys
    · have hc : cmpI (valD xs) (valD ys) = -1 := by simp [cmpI, hlt]
      rw [hc] at hsz
      have hsgn : Hid (sg false (valD ys - valD xs) = sg true (valD xs - valD ys)) := by show valD ys - valD xs = -(valD xs - valD ys); omega
      have l1 := top_le dy dx tx (by omega)
      go_enter Try.func22, Try.ntmps22
      go_wp2_with fail
      refine hsz.mono ?_; rintro e w1 ⟨rfl, rfl⟩
      go_wp2_with fail
      go_region_held2 (fun w' => w'.cell? ⟨w.heap.size, 0, none⟩ = some (.bool true) ∧ w'.cell? ⟨w.heap.size, 1, none⟩ = some (.slice A xs.length c) ∧ w'.cell? ⟨w.heap.size + 1, 0, none⟩ = some (.bool false) ∧ w'.cell? ⟨w.heap.size + 1, 1, none⟩ = some (.slice B ys.length d) ∧ (∃ bx by_, Two w' (w.heap.size + 2) (.bool bx) by_) ∧ Lies w' A xs ∧ Lies w' B ys)
        (first | exact plus_store (s := true) (t := false) (A := A) (B := B) (n := xs.length) (m := ys.length) (c := c) (d := d) (N := w.heap.size) (xs := xs) (ys := ys) (by assumption) | exact plus_keep (s := true) (t := false) (A := A) (B := B) (n := xs.length) (m := ys.length) (c := c) (d := d) (N := w.heap.size) (xs := xs) (ys := ys) hb51 (by assumption) | exact plus_keep (s := true) (t := false) (A := A) (B := B) (n := xs.length) (m := ys.length) (c := c) (d := d) (N := w.heap.size) (xs := xs) (ys := ys) hb50 (by assumption) | exact ⟨by simp [go_sem], by simp [go_sem], by simp [go_sem], by simp [go_sem], ⟨false, .slice none 0 0, by simp [Two, go_sem]⟩, hx.later (bdrew (bal (bal (bal (Below.refl _ _) _) _) _)), hy.later (bdrew (bal (bal (bal (Below.refl _ _) _) _) _))⟩)
        (first
          | (go_at_call 58; refine (r_apart B A d c ys xs _ (plus_lb (s := true) (t := false) (A := A) (B := B) (n := xs.length) (m := ys.length) (c := c) (d := d) (N := w.heap.size) (xs := xs) (ys := ys) (by assumption)) (plus_la (s := true) (t := false) (A := A) (B := B) (n := xs.length) (m := ys.length) (c := c) (d := d) (N := w.heap.size) (xs := xs) (ys := ys) (by assumption)) dy dx (by omega) l1 (by omega)).mono ?_; rintro e w50 ⟨⟨v5, ds5, rfl, hR5, hD5, hl5, hv5⟩, hb50⟩; obtain ⟨A5, c5, rfl, hc5, hL5⟩ := hR5)
          | (go_at_call 57; have rc := r_cut false A5 c5 ds5 _ hL5 hD5 hc5 (by omega); rw [hl5, hv5] at rc; refine rc.mono ?_; clear rc; rintro e w51 ⟨⟨v6, rfl, hN6⟩, hb51⟩; obtain ⟨A6, c6, n6, rfl⟩ := hN6.open_; obtain ⟨bx, by_, tw⟩ := plus_tw (s := true) (t := false) (A := A) (B := B) (n := xs.length) (m := ys.length) (c := c) (d := d) (N := w.heap.size) (xs := xs) (ys := ys) (plus_keep (s := true) (t := false) (A := A) (B := B) (n := xs.length) (m := ys.length) (c := c) (d := d) (N := w.heap.size) (xs := xs) (ys := ys) hb51 (by assumption)); have r0 := tw.1; have r1 := tw.2.1; have r2 := tw.2.2.1; have r3 := tw.2.2.2))
      rw [hsgn.out] at hN6
      go_wp2
      exact bodyPost_ret (v := .agg #[.bool _, .slice A6 n6 c6]) (by simp [results, Try.results22, go_sem, r0, r1]; rw [hsgn.out]) rfl ⟨⟨_, rfl, hN6.set r0 _ _⟩, (by repeat (first | exact Below.refl _ _ | (refine bset ?_ (by simp <;> omega) _) | (refine bon ?_ (by assumption)) | refine bdrewN ?_ _ | refine bdrew ?_ | refine bal ?_ _))⟩
    · have hc : cmpI (valD xs) (valD ys) = 0 ∨ cmpI (valD xs) (valD ys) = 1 := by unfold cmpI; rw [if_neg hlt]; split <;> simp
      rcases hc with hc | hc
      all_goals
        rw [hc] at hsz
        have l1 := top_le dx dy ty (by omega)
        go_enter Try.func22, Try.ntmps22
        go_wp2_with fail
        refine hsz.mono ?_; rintro e w1 ⟨rfl, rfl⟩
        go_wp2_with fail
        go_region_held2 (fun w' => w'.cell? ⟨w.heap.size, 0, none⟩ = some (.bool true) ∧ w'.cell? ⟨w.heap.size, 1, none⟩ = some (.slice A xs.length c) ∧ w'.cell? ⟨w.heap.size + 1, 0, none⟩ = some (.bool false) ∧ w'.cell? ⟨w.heap.size + 1, 1, none⟩ = some (.slice B ys.length d) ∧ (∃ bx by_, Two w' (w.heap.size + 2) (.bool bx) by_) ∧ Lies w' A xs ∧ Lies w' B ys)
          (first | exact plus_store (s := true) (t := false) (A := A) (B := B) (n := xs.length) (m := ys.length) (c := c) (d := d) (N := w.heap.size) (xs := xs) (ys := ys) (by assumption) | exact plus_keep (s := true) (t := false) (A := A) (B := B) (n := xs.length) (m := ys.length) (c := c) (d := d) (N := w.heap.size) (xs := xs) (ys := ys) hb51 (by assumption) | exact plus_keep (s := true) (t := false) (A := A) (B := B) (n := xs.length) (m := ys.length) (c := c) (d := d) (N := w.heap.size) (xs := xs) (ys := ys) hb50 (by assumption) | exact ⟨by simp [go_sem], by simp [go_sem], by simp [go_sem], by simp [go_sem], ⟨false, .slice none 0 0, by simp [Two, go_sem]⟩, hx.later (bdrew (bal (bal (bal (Below.refl _ _) _) _) _)), hy.later (bdrew (bal (bal (bal (Below.refl _ _) _) _) _))⟩)
          (first
            | (go_at_call 58; refine (r_apart A B c d xs ys _ (plus_la (s := true) (t := false) (A := A) (B := B) (n := xs.length) (m := ys.length) (c := c) (d := d) (N := w.heap.size) (xs := xs) (ys := ys) (by assumption)) (plus_lb (s := true) (t := false) (A := A) (B := B) (n := xs.length) (m := ys.length) (c := c) (d := d) (N := w.heap.size) (xs := xs) (ys := ys) (by assumption)) dx dy (by omega) l1 (by omega)).mono ?_; rintro e w50 ⟨⟨v5, ds5, rfl, hR5, hD5, hl5, hv5⟩, hb50⟩; obtain ⟨A5, c5, rfl, hc5, hL5⟩ := hR5)
            | (go_at_call 57; have rc := r_cut true A5 c5 ds5 _ hL5 hD5 hc5 (by omega); rw [hl5, hv5] at rc; refine rc.mono ?_; clear rc; rintro e w51 ⟨⟨v6, rfl, hN6⟩, hb51⟩; obtain ⟨A6, c6, n6, rfl⟩ := hN6.open_; obtain ⟨bx, by_, tw⟩ := plus_tw (s := true) (t := false) (A := A) (B := B) (n := xs.length) (m := ys.length) (c := c) (d := d) (N := w.heap.size) (xs := xs) (ys := ys) (plus_keep (s := true) (t := false) (A := A) (B := B) (n := xs.length) (m := ys.length) (c := c) (d := d) (N := w.heap.size) (xs := xs) (ys := ys) hb51 (by assumption)); have r0 := tw.1; have r1 := tw.2.1; have r2 := tw.2.2.1; have r3 := tw.2.2.2))
        go_wp2
        exact bodyPost_ret (v := .agg #[.bool _, .slice A6 n6 c6]) (by simp [results, Try.results22, go_sem, r0, r1]) rfl ⟨⟨_, rfl, hN6.set r0 _ _⟩, (by repeat (first | exact Below.refl _ _ | (refine bset ?_ (by simp <;> omega) _) | (refine bon ?_ (by assumption)) | refine bdrewN ?_ _ | refine bdrew ?_ | refine bal ?_ _))⟩
end Go.Proofs.Ytkgaoafcjhjefaa
