/-
  What 'Rescale' does; what the document's 'Rescale' does.
-/
import Derived.Test.YtbdopdfnccnflabWgD
namespace Go.Proofs.Ytbdopdfnccnflab
open Go.RowKit

def rescW (ds : List Nat) : List Nat := if farAny (ds.map tameW) = true then (ds.map tameW).map scaleW else ds.map tameW
theorem fins_tame (ds : List Nat) : Fins (ds.map tameW) := by
  intro d hd
  obtain ⟨x, -, rfl⟩ := List.mem_map.1 hd
  exact tame_rung x

set_option maxHeartbeats 2000000 in
set_option maxRecDepth 100000 in
theorem rescale_any (A : Option Addr) (c : Nat) (ds : List Nat) (w : World) (hx : FLies w A ds) (hn : ds.length ≤ 1000000) :
    Calls Try.prog 13 #[.slice A ds.length c] w fun e w' => (∃ v, e = .returned (.tuple #[v, .bool (farAny (ds.map tameW))]) ∧ FRow w' v (rescW ds)) ∧ Below w.heap.size w w' := by
  have E1 := mkHidW (each_any 23 tameW A c ds w hx hn (.inl rfl) (fun j _ w => tame_any _ w))
  have E2 := mkHidW (fun A c w h => beyond_any A c (ds.map tameW) w h (by simpa using hn) (fins_tame ds))
  have E3 := mkHidW (fun A c w h => each_any 32 scaleW A c (ds.map tameW) w h (by simpa using hn) (.inr rfl) (fun j _ w => shrink_any _ w ((fins_tame ds).get j)))
  clear hx
  unfold rescW
  have hl : (ds.map tameW).length = ds.length := List.length_map _
  generalize ds.map tameW = ts at *
  rw [← hl] at hn E1 ⊢
  generalize ds.length = n at *
  clear hl ds
  cases hb : farAny ts
  · rw [hb] at E2; clear hb
    rw [if_neg (by decide)]
    go_enter Try.func13, Try.ntmps13
    go_wp2_with fail
    refine E1.out.mono ?_; rintro e w1 ⟨⟨v, rfl, B, d, rfl, hd, hr⟩, hb1⟩
    go_wp2_with fail
    refine (E2.out _ _ _ hr).mono ?_; rintro e w2 ⟨rfl, rfl⟩
    go_wp2
    go_ret2
    exact ⟨⟨_, rfl, B, d, rfl, hd, hr⟩, hb1⟩
  · rw [hb] at E2; clear hb
    rw [if_pos rfl]
    go_enter Try.func13, Try.ntmps13
    go_wp2_with fail
    refine E1.out.mono ?_; rintro e w1 ⟨⟨v, rfl, B, d, rfl, hd, hr⟩, hb1⟩
    go_wp2_with fail
    refine (E2.out _ _ _ hr).mono ?_; rintro e w2 ⟨rfl, rfl⟩
    go_wp2_with fail
    refine (E3.out _ _ _ hr).mono ?_; rintro e w3 ⟨⟨v3, rfl, hr3⟩, hb3⟩
    go_wp2
    go_ret2
    exact ⟨⟨_, rfl, hr3⟩, bonW hb1 hb3⟩

theorem own_forms {w : World} {base size n : Nat} {e : TypeId} {v : Value} {xs : List Value} (h : w.ownsRow base e size v n xs) : (v = .slice none 0 0 ∧ n = 0) ∨ ∃ g cap, v = .slice (some ⟨g, 0, none⟩) n cap := by
  rcases h.2 with h | ⟨g, cap, cur, rfl, _⟩
  · exact .inl h
  · exact .inr ⟨g, cap, rfl⟩
theorem take_map_snoc (ds : List Nat) (k : Nat) (h : k < ds.length) : (ds.take (k + 1)).map tameW = (ds.take k).map tameW ++ [tameW (ds.getD k 0)] := by
  rw [take_succW ds k h]; simp
theorem farAny_snoc (l : List Nat) (x : Nat) : farAny (l ++ [x]) = (farAny l || farB x) := by
  unfold farAny; simp

set_option maxHeartbeats 4000000 in
set_option maxRecDepth 100000 in
theorem rrescale_any (A : Option Addr) (c : Nat) (ds : List Nat) (w : World) (hx : FLies w A ds) (hn : ds.length ≤ 1000000) :
    Calls Try.prog 14 #[.slice A ds.length c] w fun e w' => (∃ v, e = .returned (.tuple #[v, .bool (farAny (ds.map tameW))]) ∧ FRow w' v (rescW ds)) ∧ Below w.heap.size w w' := by
  obtain ⟨i0, hi0, hz0, hz1, hz2⟩ := info_partsW float_info
  have rd : Hid (∀ k : Nat, k < ds.length → ∃ b, A = some ⟨b, 0, none⟩ ∧ ∀ w', Below w.heap.size w w' → w'.cell? ⟨b, k, none⟩ = some (.float .f64 (ds.getD k 0))) := by
    intro k hk
    rcases hx with rfl | ⟨b, rfl, hc⟩
    · simp at hk
    · exact ⟨b, rfl, fun w' hb => cell_keep hb (hc k hk)⟩
  clear hx
  have T := mkHidW (fun j w => rtame_any (ds.getD j 0) w)
  have ways := mkHidW (fun j => far_ways (tame_rung (ds.getD j 0)))
  have mulS : Hid (∀ j t w, (binOp .mul t (.float .f64 (tameW (ds.getD j 0))) (.float .f64 3110860544497550640)).run Try.prog w = .ok (.float .f64 (scaleW (tameW (ds.getD j 0)))) w) := fun j t w => run_float_arith w .mul t .f64 _ _ _ (mul_some _ (tame_rung _)).1
  obtain ⟨Inv, start, stp, fin⟩ : ∃ Inv : Nat → List Nat → Bool → Prop, Inv 0 [] false ∧ Hid (∀ k l b b', k < ds.length → Inv k l b → b' = (b || farB (tameW (ds.getD k 0))) → Inv (k + 1) (l ++ [tameW (ds.getD k 0)]) b') ∧ Hid (∀ l b, Inv ds.length l b → l = ds.map tameW ∧ b = farAny (ds.map tameW)) := by
    refine ⟨fun k l b => l = (ds.take k).map tameW ∧ b = farAny l, ⟨by simp, by simp [farAny]⟩, ?_, ?_⟩
    · rintro k l b b' hk ⟨rfl, rfl⟩ rfl
      exact ⟨(take_map_snoc ds k hk).symm, by rw [farAny_snoc]⟩
    · rintro l b ⟨rfl, rfl⟩; rw [List.take_length]; exact ⟨rfl, rfl⟩
  obtain ⟨xs, xl, x0, xst, xd, xg⟩ : ∃ xs : Nat → List Value, Hid (∀ k, (xs k).length = ds.length) ∧ Hid ((ds.map tameW).map (Value.float .f64) = xs 0) ∧ Hid (∀ k, k < ds.length → (xs k).set k (.float .f64 (scaleW (tameW (ds.getD k 0)))) = xs (k + 1)) ∧ Hid (xs ds.length = ((ds.map tameW).map scaleW).map (Value.float .f64)) ∧ Hid (∀ k, k < ds.length → (xs k)[k]? = some (.float .f64 (tameW (ds.getD k 0)))) := by
    refine ⟨fun k => (List.range ds.length).map (fun j => Value.float .f64 (if j < k then scaleW (tameW (ds.getD j 0)) else tameW (ds.getD j 0))), fun k => by simp, ?_, ?_, ?_, ?_⟩
    · apply List.ext_getElem?
      intro j
      by_cases hj : j < ds.length <;> simp [hj]
    · intro k hk
      apply List.ext_getElem?
      intro j
      rw [List.getElem?_set]
      by_cases e : k = j
      · subst e; simp [hk]
      · rw [if_neg e]
        by_cases hj : j < ds.length
        · simp only [List.getElem?_map, List.getElem?_range hj, Option.map_some]
          by_cases g1 : j < k
          · rw [if_pos g1, if_pos (by omega)]
          · rw [if_neg g1, if_neg (by omega)]
        · simp [hj]
    · apply List.ext_getElem?
      intro j
      by_cases hj : j < ds.length <;> simp [hj]
    · intro k hk; simp [hk]
  have o1 : Hid (farAny (ds.map tameW) = false → rescW ds = ds.map tameW) := by
    intro h; unfold rescW; rw [h]; rfl
  have o2 : Hid (farAny (ds.map tameW) = true → (rescW ds).map (Value.float .f64) = ((ds.map tameW).map scaleW).map (Value.float .f64)) := by
    intro h; unfold rescW; rw [h]; rfl
  generalize ((ds.map tameW).map scaleW).map (Value.float .f64) = last at *
  generalize rescW ds = out at *
  generalize farAny (ds.map tameW) = far at *
  generalize ds.map tameW = ts at *
  generalize hf : (fun j => ds.getD j 0) = f
  have ef : ∀ j, ds.getD j 0 = f j := fun j => by rw [← hf]
  simp only [ef] at *
  clear ef hf
  generalize ds.length = n at *
  clear ds
  go_enter Try.func14, Try.ntmps14
  go_wp2_with fail
  go_loopw [4, 5, 6] (fun o b i w' => ∃ (k : Nat) (x : Int) (l : List Nat) (fb : Bool), k ≤ n ∧ i = .int .i64 x ∧ x = k ∧ b = .bool fb ∧ Inv k l fb ∧ w'.ownsRow w.heap.size 30 1 o k (l.map (Value.float .f64)) ∧ Below w.heap.size w w') (fun _ _ i _ => (n - intOf i).toNat)
  case atStart => exact ⟨0, 0, [], false, by omega, rfl, rfl, rfl, start, World.ownsRow_lit _ #[] 0 (Nat.le_refl _) (by decide) rfl, balW (Below.refl _ _) _⟩
  case round =>
    obtain ⟨k, x, l, fb, hk, rfl, hxk, rfl, hI, hown, hb⟩ := hrel
    obtain rfl : x = (k : Int) := hxk
    clear start
    by_cases hlt : k < n
    · clear fin xl x0 xst xd xg mulS
      obtain ⟨b, rfl, hrd⟩ := rd.out k hlt
      have hc := hrd _ hb
      have TT := mkHidW (T.out k)
      have hS := fun b' => stp.out k l fb b' hlt hI
      have wy := ways.out k
      clear rd hrd stp hI ways T
      generalize tameW (f k) = t at *
      obtain ⟨fb', hb', hS'⟩ : ∃ fb', fb' = (fb || farB t) ∧ Inv (k + 1) (l ++ [t]) fb' := ⟨_, rfl, hS _ rfl⟩
      clear hS
      cases fb
      · rcases wy with ⟨h1, h2⟩ | ⟨h1, h2⟩
        · rw [h2] at hb'
          obtain rfl : fb' = true := hb'
          clear h2
          go_wp2_with (first
            | (go_at_call 33; refine (TT.out _).mono ?_; rintro e w3 ⟨rfl, rfl⟩)
            | (at_builtin
               refine wpList_append_own _ rfl (.tmp 30) (.tmp 32) _ rfl w.heap.size 30 i0 _ 1 8 Try.underlying24 hi0 hz0 hz1 hz2 rfl (by omega) u4 k (l.map (Value.float .f64)) rfl (World.ownsRow.alloc hown _) ⟨wr.heap.size, 0, none⟩ 1 1 [.float .f64 t] rfl rfl (cells_oneW _ _ _) (float_one t) (by simp only [maxLen]; omega) (by omega) (by have := hb.size; simp; omega) ?_
               intro v1 w1 hown1 hg1 hv1))
          go_roundw
          case rel => exact ⟨k + 1, _, l ++ [t], true, by omega, rfl, by omega, rfl, hS', by simpa using hown1, Below.grown (balW hb _) hg1 (by have := hb.size; simp; omega) (fun j hj => (hown.lt j hj).1)⟩
          case measure => simp [intOf]; omega
        · rw [Bool.false_or] at hb'
          rw [← hb'] at h2
          clear hb'
          go_wp2_with (first
            | (go_at_call 33; refine (TT.out _).mono ?_; rintro e w3 ⟨rfl, rfl⟩)
            | (at_builtin
               refine wpList_append_own _ rfl (.tmp 30) (.tmp 32) _ rfl w.heap.size 30 i0 _ 1 8 Try.underlying24 hi0 hz0 hz1 hz2 rfl (by omega) u4 k (l.map (Value.float .f64)) rfl (World.ownsRow.alloc hown _) ⟨wr.heap.size, 0, none⟩ 1 1 [.float .f64 t] rfl rfl (cells_oneW _ _ _) (float_one t) (by simp only [maxLen]; omega) (by omega) (by have := hb.size; simp; omega) ?_
               intro v1 w1 hown1 hg1 hv1))
          go_roundw
          case rel => exact ⟨k + 1, _, l ++ [t], fb', by omega, rfl, by omega, rfl, hS', by simpa using hown1, Below.grown (balW hb _) hg1 (by have := hb.size; simp; omega) (fun j hj => (hown.lt j hj).1)⟩
          case measure => simp [intOf]; omega
      · obtain rfl : fb' = true := hb'
        clear wy
        go_wp2_with (first
          | (go_at_call 33; refine (TT.out _).mono ?_; rintro e w3 ⟨rfl, rfl⟩)
          | (at_builtin
             refine wpList_append_own _ rfl (.tmp 30) (.tmp 32) _ rfl w.heap.size 30 i0 _ 1 8 Try.underlying24 hi0 hz0 hz1 hz2 rfl (by omega) u4 k (l.map (Value.float .f64)) rfl (World.ownsRow.alloc hown _) ⟨wr.heap.size, 0, none⟩ 1 1 [.float .f64 t] rfl rfl (cells_oneW _ _ _) (float_one t) (by simp only [maxLen]; omega) (by omega) (by have := hb.size; simp; omega) ?_
             intro v1 w1 hown1 hg1 hv1))
        go_roundw
        case rel => exact ⟨k + 1, _, l ++ [t], true, by omega, rfl, by omega, rfl, hS', by simpa using hown1, Below.grown (balW hb _) hg1 (by have := hb.size; simp; omega) (fun j hj => (hown.lt j hj).1)⟩
        case measure => simp [intOf]; omega
    · obtain rfl : k = n := by omega
      obtain ⟨rfl, rfl⟩ := fin.out l fb hI
      clear rd T ways stp hI fin hk
      cases fb
      · obtain rfl := o1.out rfl
        clear o1 o2 xl x0 xst xd xg mulS
        have hO := mkHidW hown
        rcases own_forms hown with ⟨rfl, h0⟩ | ⟨g, cap, rfl⟩
        · obtain rfl : k = 0 := h0
          go_wp2_with fail
          go_loopw [8] (fun i w' => i = .int .i64 0 ∧ w'.ownsRow w.heap.size 30 1 (.slice none 0 0) 0 (out.map (Value.float .f64)) ∧ Below w.heap.size w w') (fun _ _ => 0)
          case atStart => exact ⟨rfl, hO.out, hb⟩
          case round =>
            obtain ⟨rfl, hown2, hb2⟩ := hrel
            clear hown hb hO
            go_wp2
            go_ret2
            exact ⟨⟨_, rfl, FRow.of_own hown2⟩, hb2⟩
        · go_wp2_with fail
          go_loopw [8] (fun i w' => i = .int .i64 0 ∧ w'.ownsRow w.heap.size 30 1 (.slice (some ⟨g, 0, none⟩) k cap) k (out.map (Value.float .f64)) ∧ Below w.heap.size w w') (fun _ _ => 0)
          case atStart => exact ⟨rfl, hO.out, hb⟩
          case round =>
            obtain ⟨rfl, hown2, hb2⟩ := hrel
            clear hown hb hO
            by_cases h0 : 0 < k
            · go_wp2
              go_ret2
              exact ⟨⟨_, rfl, FRow.of_own hown2⟩, hb2⟩
            · obtain rfl : k = 0 := by omega
              go_wp2
              go_ret2
              exact ⟨⟨_, rfl, FRow.of_own hown2⟩, hb2⟩
      · have o := o2.out rfl
        clear o1 o2
        rw [x0.out] at hown
        have hO := mkHidW hown
        rcases own_forms hown with ⟨rfl, h0⟩ | ⟨g, cap, rfl⟩
        · obtain rfl : k = 0 := h0
          have x1 := xd.out.trans o.symm
          rw [x1] at hO
          clear o x0 x1 xl xst xd xg mulS
          go_wp2_with fail
          go_loopw [8] (fun i w' => i = .int .i64 0 ∧ w'.ownsRow w.heap.size 30 1 (.slice none 0 0) 0 (out.map (Value.float .f64)) ∧ Below w.heap.size w w') (fun _ _ => 0)
          case atStart => exact ⟨rfl, hO.out, hb⟩
          case round =>
            obtain ⟨rfl, hown2, hb2⟩ := hrel
            clear hown hb hO
            go_wp2
            go_ret2
            exact ⟨⟨_, rfl, FRow.of_own hown2⟩, hb2⟩
        · rw [← o] at xd
          have hg : w.heap.size ≤ g := (hown.lt g rfl).1
          clear o x0
          go_wp2_with fail
          go_loopw [8] (fun i w' => ∃ (j : Nat) (x : Int), j ≤ k ∧ i = .int .i64 x ∧ x = j ∧ w'.ownsRow w.heap.size 30 1 (.slice (some ⟨g, 0, none⟩) k cap) k (xs j) ∧ Below w.heap.size w w') (fun i _ => (k - intOf i).toNat)
          case atStart => exact ⟨0, 0, by omega, rfl, rfl, hO.out, hb⟩
          case round =>
            obtain ⟨j, x, hj, rfl, hxj, hown2, hb2⟩ := hrel
            obtain rfl : x = (j : Int) := hxj
            clear hown hb hO
            by_cases hlt : j < k
            · have cAt := hown2.cellAt j (by omega)
              rw [xg.out j hlt] at cAt
              have fAt := hown2.frozenAt j
              have hst := hown2.stored j (.float .f64 (scaleW (tameW (f j))))
              rw [xst.out j hlt] at hst
              have HST := mkHidW hst
              have ha := mulS.out j
              clear xst hst xl xd xg mulS
              go_wp2
              go_roundw
              case rel => exact ⟨j + 1, _, by omega, rfl, by omega, HST.out.1, Below.grown hb2 HST.out.2 (by have := hb2.size; omega) (fun i hi => by cases hi; exact hg)⟩
              case measure => simp [intOf]; omega
            · obtain rfl : j = k := by omega
              rw [xd.out] at hown2
              clear xl xst xd xg mulS
              go_wp2
              go_ret2
              exact ⟨⟨_, rfl, FRow.of_own hown2⟩, hb2⟩
end Go.Proofs.Ytbdopdfnccnflab
