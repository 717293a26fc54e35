/-
  What WeighRowsTwo does: it returns true, whatever the two rows are.
-/
import Derived.Test.YtbdopdfnccnflabWgJ
namespace Go.Proofs.Ytbdopdfnccnflab
open Go.RowKit

/-- the heaviest of two rows, one behind the other -/
theorem heavy_append (X Y : List Nat) :
    (heavyW X = -1 ∧ heavyW Y = -1 ∧ heavyW (X ++ Y) = -1) ∨ (∃ b : Nat, heavyW X = -1 ∧ heavyW Y = b ∧ heavyW (X ++ Y) = b)
    ∨ (∃ a : Nat, heavyW X = a ∧ heavyW Y = -1 ∧ heavyW (X ++ Y) = a)
    ∨ (∃ a b : Nat, heavyW X = a ∧ a < X.length ∧ heavyW Y = b ∧ b < Y.length ∧ ((lessW (X.getD a 0) (Y.getD b 0) = false ∧ heavyW (X ++ Y) = a) ∨ (lessW (X.getD a 0) (Y.getD b 0) = true ∧ heavyW (X ++ Y) = (X.length : Int) + b))) := by
  by_cases hx : 0 < X.length
  · obtain ⟨a, e1, ha, a1, a2⟩ := heavy_some hx
    by_cases hy : 0 < Y.length
    · obtain ⟨b, e2, hb, b1, b2⟩ := heavy_some hy
      right; right; right
      refine ⟨a, b, e1, ha, e2, hb, ?_⟩
      have hXY : 0 < (X ++ Y).length := by simp; omega
      obtain ⟨m, e3, hm, m1, m2⟩ := heavy_some hXY
      have gx : ∀ i, i < X.length → (X ++ Y).getD i 0 = X.getD i 0 := fun i hi => by simp [List.getD, List.getElem?_append_left hi]
      have gy : ∀ i, (X ++ Y).getD (X.length + i) 0 = Y.getD i 0 := fun i => by simp [List.getD, List.getElem?_append_right]
      have pl : ∀ {u v : Nat}, lessW u v = false → plc v ≤ plc u := fun h => by have := of_decide_eq_false h; omega
      have pt : ∀ {u v : Nat}, lessW u v = true → plc u < plc v := fun h => of_decide_eq_true h
      have hlen : (X ++ Y).length = X.length + Y.length := List.length_append
      have M1 : ∀ i, i < (X ++ Y).length → plc ((X ++ Y).getD i 0) ≤ plc ((X ++ Y).getD m 0) := fun i hi => pl (m1 i hi)
      have M2 : ∀ i, i < m → plc ((X ++ Y).getD i 0) < plc ((X ++ Y).getD m 0) := fun i hi => pt (m2 i hi)
      cases hl : lessW (X.getD a 0) (Y.getD b 0)
      · refine .inl ⟨rfl, ?_⟩
        rw [e3]
        have : m = a := by
          refine heavy_unique (f := fun j => (X ++ Y).getD j 0) (n := (X ++ Y).length) hm (by omega) M1 M2 ?_ ?_
          · intro i hi
            show plc ((X ++ Y).getD i 0) ≤ plc ((X ++ Y).getD a 0)
            rw [gx a ha]
            by_cases g : i < X.length
            · rw [gx i g]; exact pl (a1 i g)
            · obtain ⟨j, rfl⟩ : ∃ j, i = X.length + j := ⟨i - X.length, by omega⟩
              rw [gy j]
              exact Nat.le_trans (pl (b1 j (by omega))) (pl hl)
          · intro i hi
            show plc ((X ++ Y).getD i 0) < plc ((X ++ Y).getD a 0)
            rw [gx a ha, gx i (by omega)]; exact pt (a2 i hi)
        rw [this]
      · refine .inr ⟨rfl, ?_⟩
        rw [e3]
        have : m = X.length + b := by
          refine heavy_unique (f := fun j => (X ++ Y).getD j 0) (n := (X ++ Y).length) hm (by omega) M1 M2 ?_ ?_
          · intro i hi
            show plc ((X ++ Y).getD i 0) ≤ plc ((X ++ Y).getD (X.length + b) 0)
            rw [gy b]
            by_cases g : i < X.length
            · rw [gx i g]; exact Nat.le_trans (pl (a1 i g)) (Nat.le_of_lt (pt hl))
            · obtain ⟨j, rfl⟩ : ∃ j, i = X.length + j := ⟨i - X.length, by omega⟩
              rw [gy j]; exact pl (b1 j (by omega))
          · intro i hi
            show plc ((X ++ Y).getD i 0) < plc ((X ++ Y).getD (X.length + b) 0)
            rw [gy b]
            by_cases g : i < X.length
            · rw [gx i g]; exact Nat.lt_of_le_of_lt (pl (a1 i g)) (pt hl)
            · obtain ⟨j, rfl⟩ : ∃ j, i = X.length + j := ⟨i - X.length, by omega⟩
              rw [gy j]; exact pt (b2 j (by omega))
        rw [this]; omega
    · have : Y = [] := List.eq_nil_of_length_eq_zero (by omega)
      subst this
      exact .inr (.inr (.inl ⟨a, e1, rfl, by rw [List.append_nil]; exact e1⟩))
  · have : X = [] := List.eq_nil_of_length_eq_zero (by omega)
    subst this
    by_cases hy : 0 < Y.length
    · obtain ⟨b, e2, hb, b1, b2⟩ := heavy_some hy
      exact .inr (.inl ⟨b, rfl, e2, e2⟩)
    · have : Y = [] := List.eq_nil_of_length_eq_zero (by omega)
      subst this
      exact .inl ⟨rfl, rfl, rfl⟩

theorem words_append {X Y : List Nat} (hx : Words X) (hy : Words Y) : Words (X ++ Y) := by
  intro d hd
  rcases List.mem_append.1 hd with h | h
  · exact hx d h
  · exact hy d h
theorem news_of {w : World} {g : Nat} {ds : List Nat} (h : ∀ j, j < ds.length → w.cell? ⟨g, j, none⟩ = some (.float .f64 (ds.getD j 0))) : ∀ j u, (ds.map (Value.float .f64))[j]? = some u → w.cell? ((⟨g, 0, none⟩ : Addr).add j) = some u := by
  intro j u hu
  by_cases hj : j < ds.length
  · have := h j hj
    simp [List.getElem?_map, List.getElem?_eq_getElem hj] at hu
    subst hu
    rw [List.getD, List.getElem?_eq_getElem hj] at this
    have e : (⟨g, 0, none⟩ : Addr).add j = ⟨g, j, none⟩ := by
      unfold Addr.add; by_cases h0 : j = 0
      · subst h0; rfl
      · simp [h0]
    rw [e]; exact this
  · simp [hj] at hu
theorem floats_one (ds : List Nat) : ∀ u ∈ ds.map (Value.float .f64), u.oneCell' = true := by
  intro u hu
  obtain ⟨x, -, rfl⟩ := List.mem_map.1 hu
  rfl

set_option maxHeartbeats 8000000 in
set_option maxRecDepth 100000 in
theorem weigh_rows_two_any (A : Option Addr) (c : Nat) (xs : List Nat) (B : Option Addr) (d : Nat) (ys : List Nat) (w : World) (hx : ILies w A xs) (hw : Words xs) (hn : xs.length ≤ maxLen) (hy : ILies w B ys) (hv : Words ys) (hm : ys.length ≤ maxLen) :
    Calls Try.prog 10 #[.slice A xs.length c, .slice B ys.length d] w fun e w' => e = .returned (.bool true) ∧ Below w.heap.size w w' := by
  obtain ⟨i0, hi0, hz0, hz1, hz2⟩ := info_partsW float_info
  have F1 := mkHidW (fun w h => floats_some A c xs w h hn)
  have F2 := mkHidW (fun w h => floats_some B d ys w h hm)
  have hw' := words_take hw 100
  have hl := len_take xs
  have hv' := words_take hv 100
  have hk := len_take ys
  generalize xs.take 100 = X at *
  generalize ys.take 100 = Y at *
  have H1 := mkHidW (fun A c w h => heavy_any A c X w h (by omega) hw')
  have H2 := mkHidW (fun A c w h => heavy_any A c Y w h (by omega) hv')
  have hlen : (X ++ Y).length = X.length + Y.length := List.length_append
  have H3 := mkHidW (fun A c w h => heavy_any A c (X ++ Y) w h (by omega) (words_append hw' hv'))
  have LS := mkHidW (fun i j w => less_any (X.getD i 0) (Y.getD j 0) w (hw'.get i) (hv'.get j))
  have hap := mkHidW (heavy_append X Y)
  have nx : Hid (∀ (w : World) (g : Nat), (∀ j, j < X.length → w.cell? ⟨g, j, none⟩ = some (.float .f64 (X.getD j 0))) → ∀ j u, (X.map (Value.float .f64))[j]? = some u → w.cell? ((⟨g, 0, none⟩ : Addr).add j) = some u) := fun w g h => news_of h
  have ny : Hid (∀ (w : World) (g : Nat), (∀ j, j < Y.length → w.cell? ⟨g, j, none⟩ = some (.float .f64 (Y.getD j 0))) → ∀ j u, (Y.map (Value.float .f64))[j]? = some u → w.cell? ((⟨g, 0, none⟩ : Addr).add j) = some u) := fun w g h => news_of h
  have ox := mkHidW (floats_one X)
  have oy := mkHidW (floats_one Y)
  have lx : Hid ((X.map (Value.float .f64)).length = X.length * 1) := by simp [Hid]
  have ly : Hid ((Y.map (Value.float .f64)).length = Y.length * 1) := by simp [Hid]
  have mm : Hid (X.map (Value.float .f64) ++ Y.map (Value.float .f64) = (X ++ Y).map (Value.float .f64)) := by simp [Hid]
  rw [hlen] at H3
  have fro : Hid (∀ (w : World) (base e : Nat) (v : Value), w.ownsRow base e 1 v (X.length + Y.length) ((X ++ Y).map (Value.float .f64)) → ∃ A c, v = .slice A (X.length + Y.length) c ∧ FLies w A (X ++ Y)) := by
    intro w base e v h
    obtain ⟨A, c, rfl, -, hl⟩ := FRow.of_own h
    exact ⟨A, c, by rw [hlen], hl⟩
  clear hw hv hw' hv' hn hm
  generalize hf : (fun j => X.getD j 0) = f at *
  have ef : ∀ j, X.getD j 0 = f j := fun j => by rw [← hf]
  generalize hh : (fun j => Y.getD j 0) = h at *
  have eh : ∀ j, Y.getD j 0 = h j := fun j => by rw [← hh]
  have fs1 : Hid (∀ w v, FSome w v X → ∃ (g c : Nat), v = .slice (some ⟨g, 0, none⟩) X.length c ∧ X.length ≤ c ∧ FLies w (some ⟨g, 0, none⟩) X ∧ ∀ j : Nat, j < X.length → w.cell? ⟨g, j, none⟩ = some (.float .f64 (X.getD j 0))) := by
    rintro w v ⟨g, c, rfl, hc, h⟩; exact ⟨g, c, rfl, hc, Or.inr ⟨g, rfl, h⟩, h⟩
  have fs2 : Hid (∀ w v, FSome w v Y → ∃ (g c : Nat), v = .slice (some ⟨g, 0, none⟩) Y.length c ∧ Y.length ≤ c ∧ FLies w (some ⟨g, 0, none⟩) Y ∧ ∀ j : Nat, j < Y.length → w.cell? ⟨g, j, none⟩ = some (.float .f64 (Y.getD j 0))) := by
    rintro w v ⟨g, c, rfl, hc, h⟩; exact ⟨g, c, rfl, hc, Or.inr ⟨g, rfl, h⟩, h⟩
  simp only [ef, eh] at *
  clear ef hf eh hh hlen
  generalize hXl : X.length = n at *
  generalize hYl : Y.length = m at *
  generalize X.map (Value.float .f64) = xv at *
  generalize Y.map (Value.float .f64) = yv at *
  generalize (X ++ Y).map (Value.float .f64) = xyv at *
  go_enter Try.func10, Try.ntmps10
  go_wp2_with fail
  refine (shown_any _).mono ?_; rintro e w1 ⟨rfl, hb1⟩
  go_wp2_with fail
  refine (F1.out _ (hx.later hb1)).mono ?_; rintro e w2 ⟨⟨v, rfl, hr2⟩, hb2⟩
  obtain ⟨g, c2, rfl, hc2, hf2, hcell2⟩ := fs1.out _ _ hr2
  have hB2 := bonW hb1 hb2
  clear F1 hr2 fs1
  go_wp2_with fail
  refine (F2.out _ (hy.later hB2)).mono ?_; rintro e w3 ⟨⟨v, rfl, hr3⟩, hb3⟩
  obtain ⟨k, c3, rfl, hc3, hf3, hcell3⟩ := fs2.out _ _ hr3
  have hB3 := bonW hB2 hb3
  have HC2 : Hid (∀ w', Below w3.heap.size w3 w' → ∀ j : Nat, j < n → w'.cell? ⟨g, j, none⟩ = some (.float .f64 (f j))) := fun w' hb j hj => cell_keep hb (cell_keep hb3 (hcell2 j hj))
  have HC3 : Hid (∀ w', Below w3.heap.size w3 w' → ∀ j : Nat, j < m → w'.cell? ⟨k, j, none⟩ = some (.float .f64 (h j))) := fun w' hb j hj => cell_keep hb (hcell3 j hj)
  have hf2' := hf2.later hb3
  clear F2 hr3 hcell2 hcell3 hf2 fs2 hx hy hb1 hb2 hb3 hB2
  go_wp2_with fail
  refine (H1.out _ _ _ hf2').mono ?_; rintro e w4 ⟨rfl, rfl⟩
  clear hf2' H1
  go_wp2_with fail
  refine (H2.out _ _ _ hf3).mono ?_; rintro e w4 ⟨rfl, rfl⟩
  clear hf3 H2
  generalize hHX : heavyW X = HX at *
  generalize hHY : heavyW Y = HY at *
  generalize hHXY : heavyW (X ++ Y) = HXY at *
  have hba := balW (Below.refl w3.heap.size w3) (.cells #[] 30)
  have n1 := nx.out _ g (HC2.out _ hba)
  have N1 := mkHidW n1
  clear n1
  go_wp2_with (first
    | (at_builtin
       refine wpList_append_own _ rfl (.tmp 20) (.tmp 21) _ rfl w3.heap.size 30 i0 _ 1 8 Try.underlying24 hi0 hz0 hz1 hz2 rfl (by omega) (.slice (some ⟨w3.heap.size, 0, none⟩) 0 0) 0 [] rfl (World.ownsRow_lit _ #[] 0 (Nat.le_refl _) (by decide) rfl) ⟨g, 0, none⟩ n c2 xv rfl lx.out N1.out ox.out (by simp only [maxLen]; omega) (by omega) (by simp) ?_
       intro v1 w4 hown1 hg1 hv1
       have hb4 := Below.grown hba hg1 (by simp) (fun j hj => by cases hj; exact Nat.le_refl _)
       have N2 := mkHidW (ny.out _ k (HC3.out _ hb4)))
    | (at_builtin
       refine wpList_append_own _ rfl (.tmp 22) (.tmp 23) _ rfl w3.heap.size 30 i0 _ 1 8 Try.underlying24 hi0 hz0 hz1 hz2 rfl (by omega) v1 (0 + n) ([] ++ xv) rfl hown1 ⟨k, 0, none⟩ m c3 yv rfl ly.out N2.out oy.out (by simp only [maxLen]; omega) (by omega) hb4.size ?_
       intro v2 w5 hown2 hg2 hv2)
    | fail)
  obtain ⟨A5, c5, rfl, hfl⟩ := fro.out _ _ _ v2 (by rw [← mm.out]; simpa using hown2)
  have hb5 := Below.grown hb4 hg2 hb4.size (fun j hj => (hown1.lt j hj).1)
  have C2 := mkHidW (HC2.out _ hb5)
  have C3 := mkHidW (HC3.out _ hb5)
  clear hown2 hown1 hg1 hg2 hv1 hv2 fro mm nx ny ox oy lx ly N1 N2 hba hb4 HC2 HC3
  refine (H3.out _ _ _ hfl).mono ?_; rintro e w6 ⟨rfl, rfl⟩
  clear H3 hfl hXl hYl
  rcases hap.out with ⟨h1, h2, h3⟩ | ⟨b, h1, h2, h3⟩ | ⟨a, h1, h2, h3⟩ | ⟨a, b, h1, ha, h2, hb, h3⟩
  · obtain rfl : HX = -1 := h1
    obtain rfl : HY = -1 := h2
    obtain rfl : HXY = -1 := h3
    clear hap hHX hHY hHXY
    go_wp2
    go_ret
    exact ⟨rfl, bonW hB3 hb5⟩
  · obtain rfl : HX = -1 := h1
    obtain rfl : HY = (b : Int) := h2
    obtain rfl : HXY = (b : Int) := h3
    clear hap hHX hHY hHXY
    go_wp2
    go_ret
    exact ⟨rfl, bonW hB3 hb5⟩
  · obtain rfl : HX = (a : Int) := h1
    obtain rfl : HY = -1 := h2
    obtain rfl : HXY = (a : Int) := h3
    clear hap hHX hHY hHXY
    go_wp2_with fail
    go_quiet (fail)
    go_wp2
    go_ret
    exact ⟨rfl, below_drew (bonW hB3 hb5) _⟩
  · obtain rfl : HX = (a : Int) := h1
    obtain rfl : HY = (b : Int) := h2
    clear hap hHX hHY hHXY
    have ca := C2.out a ha
    have cb := C3.out b hb
    have L := mkHidW (LS.out a b)
    clear C2 C3 LS
    rcases h3 with ⟨h3, h4⟩ | ⟨h3, h4⟩
    · obtain rfl : HXY = (a : Int) := h4
      rw [h3] at L; clear h3
      go_wp2_with fail
      go_quiet ((go_at_call 20; with_reducible exact quietW (L.out _)))
      go_wp2
      go_ret
      exact ⟨rfl, below_drew (bonW hB3 hb5) _⟩
    · obtain rfl : HXY = (n : Int) + (b : Int) := h4
      rw [h3] at L; clear h3
      go_wp2_with fail
      go_quiet ((go_at_call 20; with_reducible exact quietW (L.out _)))
      go_wp2
      go_ret
      exact ⟨rfl, below_drew (bonW hB3 hb5) _⟩
end Go.Proofs.Ytbdopdfnccnflab
