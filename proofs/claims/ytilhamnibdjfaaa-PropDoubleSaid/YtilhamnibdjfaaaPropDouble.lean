/-
  PropDouble, walked: it returns true.
-/
import Derived.Test.YtilhamnibdjfaaaPrN
namespace Go.Proofs.Ytilhamnibdjfaaa
open Go.RowKit

theorem getD_lt {α : Type} {M : List α} {d : α} {i : Nat} (h : i < M.length) : M.getD i d = M[i] := by rw [List.getD_eq_getElem?_getD, List.getElem?_eq_getElem h]; rfl
/-- each literal twice -/
def dbl (R : List Int) : List Int := R.flatMap (fun x => [x, x])
def dblN (M : List (List Int)) (m : Nat) : List (List Int) := (M.take m).map dbl
theorem dbl_mem (R : List Int) (x : Int) : x ∈ dbl R ↔ x ∈ R := by unfold dbl; simp
theorem dbl_len (R : List Int) : (dbl R).length = 2 * R.length := by
  unfold dbl
  induction R with
  | nil => rfl
  | cons x R ih => simp only [List.flatMap_cons, List.length_append, ih, List.length_cons, List.length_nil]; omega
theorem dbl_take {R : List Int} {j : Nat} (h : j < R.length) : dbl (R.take (j + 1)) = dbl (R.take j) ++ [R.getD j 0, R.getD j 0] := by
  unfold dbl
  rw [List.take_succ_eq_append_getElem h, List.flatMap_append, getD_lt h]; simp
theorem dblN_succ {M : List (List Int)} {m : Nat} (h : m < M.length) : dblN M (m + 1) = dblN M m ++ [dbl (M.getD m [])] := by
  unfold dblN
  rw [List.take_succ_eq_append_getElem h, List.map_append, getD_lt h]; rfl
theorem dblN_end (M : List (List Int)) : dblN M M.length = M.map dbl := by
  unfold dblN
  rw [List.take_of_length_le (Nat.le_refl _)]
theorem dbl_sim (M : List (List Int)) : Sim M (M.map dbl ++ M) := by
  refine ⟨fun c hc => ⟨c, List.mem_append_right _ hc, fun x => Iff.rfl⟩, fun d hd => ?_⟩
  rcases List.mem_append.1 hd with hd | hd
  · obtain ⟨c, hc, rfl⟩ := List.mem_map.1 hd
    exact ⟨c, hc, fun x => (dbl_mem c x).symm⟩
  · exact ⟨d, hd, fun x => Iff.rfl⟩
theorem askGo_cons (A : List Int) (o x : Int) (c : List Int) : askGo A o (x :: c) = if wh A x = 1 then none else if wh A x = 0 then (if o ≠ 0 ∧ o ≠ x then none else askGo A x c) else askGo A o c := rfl
theorem askGo_dbl (A : List Int) : ∀ (c : List Int) (o : Int), askGo A o (dbl c) = askGo A o c := by
  intro c
  induction c with
  | nil => intro o; rfl
  | cons x c ih =>
    intro o
    have e : dbl (x :: c) = x :: x :: dbl c := by unfold dbl; simp
    rw [e, askGo_cons, askGo_cons, askGo_cons A o x c, askGo_cons]
    by_cases h1 : wh A x = 1
    · rw [if_pos h1, if_pos h1]
    · rw [if_neg h1, if_neg h1, if_neg h1, if_neg h1]
      by_cases h0 : wh A x = 0
      · rw [if_pos h0, if_pos h0, if_pos h0]
        by_cases ho : o ≠ 0 ∧ o ≠ x
        · rw [if_pos ho, if_pos ho]
        · rw [if_neg ho, if_neg ho, if_neg (by simp), ih]
      · rw [if_neg h0, if_neg h0, if_neg h0, ih]
theorem dbl_find (M : List (List Int)) (A : List Int) : (M.map dbl ++ M).findSome? (ask A) = M.findSome? (ask A) := by
  have e : (M.map dbl).findSome? (ask A) = M.findSome? (ask A) := by
    rw [List.findSome?_map]
    congr 1
    funext c
    exact askGo_dbl A c 0
  rw [List.findSome?_append, e]
  cases M.findSome? (ask A) <;> rfl
theorem dbl_unit (M : List (List Int)) : ∀ B, unit (M.map dbl ++ M) B = unit M B := by
  refine unit_ind (L := M) (fun A h => ?_) (fun A h => ?_) (fun A x h hx ih => ?_)
  · rw [unit_none h, unit_none (by rw [dbl_find]; exact h)]
  · rw [unit_conf h, unit_conf (by rw [dbl_find]; exact h)]
  · rw [unit_step h hx, unit_step (by rw [dbl_find]; exact h) hx, ih]
theorem dbl_small {M : List (List Int)} {B : List Int} (h : Small M B) (hl : M.length ≤ 50) (hc : ∀ c ∈ M, c.length ≤ 20) : Small (M.map dbl ++ M) B := by
  refine ⟨by simp; omega, h.row, fun d hd => ?_⟩
  rcases List.mem_append.1 hd with hd | hd
  · obtain ⟨c, hc', rfl⟩ := List.mem_map.1 hd
    refine ⟨fun x hx => (h.fit c hc').1 x ((dbl_mem c x).1 hx), ?_⟩
    rw [dbl_len]
    have := hc c hc'
    omega
  · exact h.fit d hd
set_option maxRecDepth 100000 in
set_option maxHeartbeats 8000000 in
theorem double_any (v : Value) (L : List (List Int)) (u : Value) (A : List Int) (w : World) (h : Args w v u L A) (_ : ∀ x ∈ A, -128 ≤ x ∧ x ≤ 127) : Calls Try.prog 11 #[v, u] w (RetV (.bool true) w) := by
  have FW := mkHid (fun w' (hb : Below w.heap.size w w') => few_args h hb)
  have hs := mkHid (few_small A h.fit)
  have hM := fewL_len L
  have hM20 : ∀ c ∈ fewL L, c.length ≤ 20 := fun c hc => (fewL_fit h.fit c hc).2
  have HM := mkHid (fun k hk => (fewL_fit h.fit ((fewL L).getD k []) (by rw [getD_lt hk]; exact List.getElem_mem hk)).2)
  clear h
  generalize fewL L = M at *
  generalize A.take 50 = B at *
  have hss := dbl_small hs.out hM hM20
  have HSS := mkHid hss
  clear hM20 hss
  go_enter Try.func11, Try.ntmps11
  go_wp2_with (first
    | (go_at_call 12; ((with_reducible refine (shown_any _).mono ?_)); rintro e w1 ⟨rfl, hb1⟩; have HB1 := mkHid hb1; clear hb1)
    | (revert HB1; intro HB1; (go_at_call 13; ((with_reducible refine (FW.out _ HB1.out).mono ?_)); rintro e w2 ⟨v2, us2, g, N, c2, rfl, hN2, hn2, hl2, hg2, ha2, hb2⟩; have HN2 := mkHid hN2; clear hN2; have HL2 := mkHid hl2; have HA2 := mkHid ha2; have HB2 := mkHid (bon HB1.out hb2); have hgw := Nat.le_trans HB1.out.size hg2; clear hb2 ha2 hl2; have hrr := HL2.out.rr; obtain ⟨al, cl, rfl, hcl, -, hrl⟩ := hrr; have HR := mkHid hrl; have HLr := mkHid HL2.out.rr; clear hrl)))
  obtain ⟨base2, HLc⟩ : ∃ b, Hid (CR w2 b (.slice al M.length cl) M us2) := ⟨_, HL2⟩
  clear HL2
  have HFN : Hid (∀ m, m < M.length → dblN M (m + 1) = dblN M m ++ [dbl (M.getD m [])]) := fun m hm => dblN_succ hm
  have HFE : Hid (dblN M M.length = M.map dbl) := dblN_end M
  have HF0 : Hid (dblN M 0 = []) := rfl
  have HFL : Hid (∀ m, (dblN M m).length ≤ m) := fun m => by unfold dblN; simp; omega
  have hsim := dbl_sim M
  have u1 := dbl_unit M B
  have u3 := hsim.evl B
  have HU1 := mkHid u1
  have HU3 := mkHid u3
  have HML : Hid ((M.map dbl).length = M.length) := List.length_map _
  clear hsim u1 u3
  obtain ⟨n, hn⟩ : ∃ n, M.length = n := ⟨_, rfl⟩
  rw [hn] at hM HM HR HFN HFE hcl HLc HLr HML ⊢
  have HNM := mkHid hn
  clear hn
  generalize dblN M = fn at *
  generalize M.map dbl = DM at *
  obtain ⟨f, hfd⟩ : ∃ f : Nat → List Int, f = fun j => M.getD j [] := ⟨_, rfl⟩
  have ef : ∀ j, M.getD j [] = f j := fun j => by rw [hfd]
  simp only [ef] at HR HM HFN
  clear ef hfd
  go_loopw [6, 7] (fun q i w' => ∃ (m : Nat) (x : Int) (us : List Value), m ≤ n ∧ i = .int .i64 x ∧ x = m ∧ Hid (CR w' w2.heap.size q (fn m) us) ∧ Hid (Below w2.heap.size w2 w')) (fun _ i _ => (n - intOf i).toNat)
  case atStart => exact ⟨0, 0, [], Nat.zero_le _, rfl, rfl, mkHid (by rw [HF0.out]; exact CR.nil _ _), mkHid (Below.refl _ _)⟩
  case round =>
    obtain ⟨m, x, us, hm, rfl, hxm, HC, HB⟩ := hrel
    obtain rfl : x = (m : Int) := hxm
    by_cases hlt : m < n
    · have hfs := HFN.out m hlt
      have hfl := HFL.out m
      have HFS := mkHid hfs
      obtain ⟨b, of, r, rfl, e1, hrk⟩ := HR.out m hlt
      have h20 := HM.out m hlt
      have E1 := mkHid e1
      have g1 := cell_later HB.out e1
      have hpn' : (m : Int) < (n : Int) := by omega
      clear hfs e1 HM HR HFN HFE HF0 HFL HSS HU1 HU3 HLr
      generalize f m = R at *
      obtain ⟨ar, cr, rfl, hcr, -, hrr⟩ := hrk
      have HRR := mkHid hrr
      have HST : Hid (∀ j, j < R.length → dbl (R.take (j + 1)) = dbl (R.take j) ++ [R.getD j 0, R.getD j 0]) := fun j hj => dbl_take hj
      have HSE : Hid (dbl (R.take R.length) = dbl R) := by rw [List.take_of_length_le (Nat.le_refl _)]; exact mkHid rfl
      have HRL : Hid ((dbl R).length = 2 * R.length) := dbl_len R
      have HS0 : Hid (dbl (R.take 0) = []) := rfl
      clear hrr
      obtain ⟨l, hl⟩ : ∃ l, R.length = l := ⟨_, rfl⟩
      rw [hl] at h20 g1 E1 HST HSE HRL hcr HRR
      clear hl
      obtain ⟨dn, hdn⟩ : ∃ d : Nat → List Int, d = fun j => dbl (R.take j) := ⟨_, rfl⟩
      have ed : ∀ j, dbl (R.take j) = dn j := fun j => by rw [hdn]
      simp only [ed] at HST HSE HS0
      clear ed hdn
      generalize dbl R = RD at *
      obtain ⟨fr, hfr⟩ : ∃ f : Nat → Int, f = fun j => R.getD j 0 := ⟨_, rfl⟩
      have er : ∀ j, R.getD j 0 = fr j := fun j => by rw [hfr]
      simp only [er] at HRR HST
      clear er hfr
      go_wp2
      obtain ⟨W5, hW5⟩ : ∃ W5, W5 = wr := ⟨_, rfl⟩
      subst hW5
      go_loopw [8, 9] (fun q i w' => ∃ (j : Nat) (y : Int), j ≤ l ∧ i = .int .i64 y ∧ y = j ∧ Hid (w'.ownsRow W5.heap.size 3 1 q (2 * j) (nums .i64 (dn j))) ∧ Hid (Below W5.heap.size W5 w')) (fun _ i _ => (l - intOf i).toNat)
      case atStart => exact ⟨0, 0, Nat.zero_le _, rfl, rfl, mkHid (by rw [HS0.out]; exact ⟨rfl, .inl ⟨rfl, rfl⟩⟩), mkHid (Below.refl _ _)⟩
      case round =>
        obtain ⟨j, y, hj, rfl, hyj, HO, HD⟩ := hrel
        obtain rfl : y = (j : Int) := hyj
        have HBD := mkHid (bon HB.out HD.out)
        have g2 := cell_later HBD.out E1.out
        by_cases hlj : j < l
        · have hst := HST.out j hlj
          have HS2 := mkHid hst
          obtain ⟨b3, o3, rfl, e3⟩ := HRR.out j hlj
          have E3 := mkHid e3
          have g3 := cell_later HBD.out e3
          have hjl' : (j : Int) < (l : Int) := by omega
          clear hst e3 HST HRR HSE
          generalize fr j = z at *
          go_wp2_with fail
          (try dsimp only [List.append])
          refine wp_region_held_drew (S := fun w' => w'.cell? ⟨b, of + m, none⟩ = some (.slice (some ⟨b3, o3, none⟩) l cr) ∧ w'.cell? ⟨b3, o3 + j, none⟩ = some (.int .i64 z)) (by kernel_rfl) ⟨g2, g3⟩ (fun hHeld => ?_)
          have hb0 : Below wr.heap.size wr wr.drew := bdrew (Below.refl _ _)
          have HOV := mkHid (own_keep HO.out hb0)
          have HDV := mkHid (bon HD.out hb0)
          have hsz := HDV.out.size
          clear hb0
          generalize wr.drew = V at *
          refine wpAnyH_take (i := 0) (v := ?_) rfl (by kernel_rfl) (by kernel_rfl) (by kernel_rfl) (fun _ _ _ h => h) (Or.inl ⟨by kernel_rfl, ?_⟩) (by assumption) ?_
          rotate_left
          · (intro w hSw; (try dsimp only at hSw); (obtain ⟨hS1, hS2⟩ := hSw); go_simp; try with_reducible rfl)
          simp only [Act.put, List.getElem_toArray, List.getElem_cons_zero, List.setIfInBounds_toArray, List.set_cons_zero, List.set_cons_succ]
          refine wpAnyH_take (i := 1) (v := ?_) rfl (by kernel_rfl) (by kernel_rfl) (by kernel_rfl) (fun _ _ _ h => h) (Or.inl ⟨by kernel_rfl, ?_⟩) (by assumption) ?_
          rotate_left
          · (intro w hSw; (try dsimp only at hSw); (obtain ⟨hS1, hS2⟩ := hSw); go_simp; try with_reducible rfl)
          simp only [Act.put, List.getElem_toArray, List.getElem_cons_succ, List.getElem_cons_zero, List.setIfInBounds_toArray, List.set_cons_zero, List.set_cons_succ]
          refine wpAnyH_take (i := 2) (v := ?_) rfl (by kernel_rfl) (by kernel_rfl) (by kernel_rfl) (fun _ _ _ h => h) (Or.inl ⟨by kernel_rfl, ?_⟩) (by assumption) ?_
          rotate_left
          · (intro w hSw; (try dsimp only at hSw); (obtain ⟨hS1, hS2⟩ := hSw); go_simp; try with_reducible rfl)
          simp only [Act.put, List.getElem_toArray, List.getElem_cons_succ, List.getElem_cons_zero, List.setIfInBounds_toArray, List.set_cons_zero, List.set_cons_succ]
          refine wpAnyH_take (i := 3) (v := ?_) rfl (by kernel_rfl) (by kernel_rfl) (by kernel_rfl) (fun _ _ _ h => h) (Or.inl ⟨by kernel_rfl, ?_⟩) (by assumption) ?_
          rotate_left
          · (intro w hSw; (try dsimp only at hSw); (obtain ⟨hS1, hS2⟩ := hSw); go_simp; try with_reducible rfl)
          simp only [Act.put, List.getElem_toArray, List.getElem_cons_succ, List.getElem_cons_zero, List.setIfInBounds_toArray, List.set_cons_zero, List.set_cons_succ]
          refine wpAnyH_take (i := 4) (v := ?_) rfl (by kernel_rfl) (by kernel_rfl) (by kernel_rfl) (fun _ _ _ h => h) (Or.inl ⟨by kernel_rfl, ?_⟩) (by assumption) ?_
          rotate_left
          · (intro w hSw; (try dsimp only at hSw); (obtain ⟨hS1, hS2⟩ := hSw); go_simp; try with_reducible rfl)
          simp only [Act.put, List.getElem_toArray, List.getElem_cons_succ, List.getElem_cons_zero, List.setIfInBounds_toArray, List.set_cons_zero, List.set_cons_succ]
          refine wpAnyH_take (i := 5) (v := ?_) rfl (by kernel_rfl) (by kernel_rfl) (by kernel_rfl) (fun _ _ _ h => h) (Or.inl ⟨by kernel_rfl, ?_⟩) (by assumption) ?_
          rotate_left
          · (intro w hSw; (try dsimp only at hSw); (obtain ⟨hS1, hS2⟩ := hSw); go_simp; try with_reducible rfl)
          simp only [Act.put, List.getElem_toArray, List.getElem_cons_succ, List.getElem_cons_zero, List.setIfInBounds_toArray, List.set_cons_zero, List.set_cons_succ]
          refine wpAnyH_take (i := 6) (v := ?_) rfl (by kernel_rfl) (by kernel_rfl) (by kernel_rfl) (fun _ _ _ h => h) (Or.inl ⟨by kernel_rfl, ?_⟩) (by assumption) ?_
          rotate_left
          · (intro w hSw; (try dsimp only at hSw); (obtain ⟨hS1, hS2⟩ := hSw); go_simp; try with_reducible rfl)
          simp only [Act.put, List.getElem_toArray, List.getElem_cons_succ, List.getElem_cons_zero, List.setIfInBounds_toArray, List.set_cons_zero, List.set_cons_succ]
          refine wpAnyH_take (i := 7) (v := ?_) rfl (by kernel_rfl) (by kernel_rfl) (by kernel_rfl) (fun _ _ _ h => h) (Or.inl ⟨by kernel_rfl, ?_⟩) (by assumption) ?_
          rotate_left
          · (intro w hSw; (try dsimp only at hSw); (obtain ⟨hS1, hS2⟩ := hSw); go_simp; try with_reducible rfl)
          simp only [Act.put, List.getElem_toArray, List.getElem_cons_succ, List.getElem_cons_zero, List.setIfInBounds_toArray, List.set_cons_zero, List.set_cons_succ]
          refine wpAnyH_take (i := 8) (v := ?_) rfl (by kernel_rfl) (by kernel_rfl) (by kernel_rfl) (fun _ _ _ h => h) (Or.inl ⟨by kernel_rfl, ?_⟩) (by assumption) ?_
          rotate_left
          · (intro w hSw; (try dsimp only at hSw); (obtain ⟨hS1, hS2⟩ := hSw); go_simp; try with_reducible rfl)
          simp only [Act.put, List.getElem_toArray, List.getElem_cons_succ, List.getElem_cons_zero, List.setIfInBounds_toArray, List.set_cons_zero, List.set_cons_succ]
          refine wpAnyH_take (i := 9) (v := ?_) rfl (by kernel_rfl) (by kernel_rfl) (by kernel_rfl) (fun _ _ _ h => h) (Or.inl ⟨by kernel_rfl, ?_⟩) (by assumption) ?_
          rotate_left
          · (intro w hSw; (try dsimp only at hSw); (obtain ⟨hS1, hS2⟩ := hSw); go_simp; try with_reducible rfl)
          simp only [Act.put, List.getElem_toArray, List.getElem_cons_succ, List.getElem_cons_zero, List.setIfInBounds_toArray, List.set_cons_zero, List.set_cons_succ]
          refine wpAnyH_take (i := 10) (v := ?_) rfl (by kernel_rfl) (by kernel_rfl) (by kernel_rfl) (fun _ _ _ h => h) (Or.inl ⟨by kernel_rfl, ?_⟩) (by assumption) ?_
          rotate_left
          · (intro w hSw; (try dsimp only at hSw); (obtain ⟨hS1, hS2⟩ := hSw); go_simp; try with_reducible rfl)
          simp only [Act.put, List.getElem_toArray, List.getElem_cons_succ, List.getElem_cons_zero, List.setIfInBounds_toArray, List.set_cons_zero, List.set_cons_succ]
          refine wpAnyH_take (i := 11) (v := ?_) rfl (by kernel_rfl) (by kernel_rfl) (by kernel_rfl) (fun _ _ _ h => h) (Or.inl ⟨by kernel_rfl, ?_⟩) (by assumption) ?_
          rotate_left
          · (intro w hSw; (try dsimp only at hSw); (obtain ⟨hS1, hS2⟩ := hSw); go_simp; try with_reducible rfl)
          simp only [Act.put, List.getElem_toArray, List.getElem_cons_succ, List.getElem_cons_zero, List.setIfInBounds_toArray, List.set_cons_zero, List.set_cons_succ]
          refine wpAnyH_take (i := 12) (v := ?_) rfl (by kernel_rfl) (by kernel_rfl) (by kernel_rfl) (fun _ _ _ h => h) (Or.inl ⟨by kernel_rfl, ?_⟩) (by assumption) ?_
          rotate_left
          · (intro w hSw; (try dsimp only at hSw); (obtain ⟨hS1, hS2⟩ := hSw); go_simp; try with_reducible rfl)
          simp only [Act.put, List.getElem_toArray, List.getElem_cons_succ, List.getElem_cons_zero, List.setIfInBounds_toArray, List.set_cons_zero, List.set_cons_succ]
          refine wpAnyH_take (i := 13) (v := ?_) rfl (by kernel_rfl) (by kernel_rfl) (by kernel_rfl) (fun _ _ _ h => h) (Or.inl ⟨by kernel_rfl, ?_⟩) (by assumption) ?_
          rotate_left
          · (intro w hSw; (try dsimp only at hSw); (obtain ⟨hS1, hS2⟩ := hSw); go_simp; try with_reducible rfl)
          simp only [Act.put, List.getElem_toArray, List.getElem_cons_succ, List.getElem_cons_zero, List.setIfInBounds_toArray, List.set_cons_zero, List.set_cons_succ]
          refine wpAnyH_take (i := 14) (v := ?_) rfl (by kernel_rfl) (by kernel_rfl) (by kernel_rfl) (fun _ _ _ h => h) (Or.inl ⟨by kernel_rfl, ?_⟩) (by assumption) ?_
          rotate_left
          · (intro w hSw; (try dsimp only at hSw); (obtain ⟨hS1, hS2⟩ := hSw); go_simp; try with_reducible rfl)
          simp only [Act.put, List.getElem_toArray, List.getElem_cons_succ, List.getElem_cons_zero, List.setIfInBounds_toArray, List.set_cons_zero, List.set_cons_succ]
          obtain ⟨v8, w8, hrun, ho8, hb8⟩ := run_num2 z z HOV.out (by omega) hsz
          rw [← HS2.out] at ho8
          have HO8 := mkHid ho8
          have HD8 := mkHid (Below.trans HDV.out hb8)
          have b15 := bel_alloc V (.cells #[.int .i64 z, .int .i64 z] 3)
          have k1 : (V.alloc (.cells #[.int .i64 z, .int .i64 z] 3)).cell? ⟨b, of + m, none⟩ = some (.slice (some ⟨b3, o3, none⟩) l cr) ∧ (V.alloc (.cells #[.int .i64 z, .int .i64 z] 3)).cell? ⟨b3, o3 + j, none⟩ = some (.int .i64 z) := ⟨cell_later b15 hHeld.1, cell_later b15 hHeld.2⟩
          have hq := bon HB.out HD8.out
          have k2 : w8.cell? ⟨b, of + m, none⟩ = some (.slice (some ⟨b3, o3, none⟩) l cr) ∧ w8.cell? ⟨b3, o3 + j, none⟩ = some (.int .i64 z) := ⟨cell_later hq E1.out, cell_later hq E3.out⟩
          clear ho8 hb8 b15 hq
          refine wpAnyH_ready (rs := [15]) (by kernel_rfl) (by simp) ?_
          refine AllReadyH.cons rfl (fun K hK => ?_) AllReadyH.nil
          go_simp
          refine hK.out _ _ k1 (fun hHeld => ?_)
          clear hK
          refine wpAnyH_ready (rs := [16]) (by kernel_rfl) (by simp) ?_
          refine AllReadyH.cons rfl (fun K hK => ?_) AllReadyH.nil
          refine step_run (by rfl) _ _ (by rfl) (by rfl) (by rfl) (by rfl) hrun ?_
          refine hK.out _ _ k2 (fun hHeld => ?_)
          clear hK hrun k1
          refine wpAnyH_take (i := 17) (v := ?_) rfl (by kernel_rfl) (by kernel_rfl) (by kernel_rfl) (fun _ _ _ h => h) (Or.inl ⟨by kernel_rfl, ?_⟩) (by assumption) ?_
          rotate_left
          · (intro w hSw; (try dsimp only at hSw); (obtain ⟨hS1, hS2⟩ := hSw); go_simp; try with_reducible rfl)
          simp only [Act.put, List.getElem_toArray, List.getElem_cons_succ, List.getElem_cons_zero, List.setIfInBounds_toArray, List.set_cons_zero, List.set_cons_succ]
          refine wpAnyH_done (by kernel_rfl) ?_ _
          go_wp2
          go_roundw
          case rel => exact ⟨j + 1, _, by omega, rfl, by omega, HO8, HD8⟩
          case measure => simp [intOf]; omega
        · obtain rfl : j = l := by omega
          obtain ⟨a8, c8, rfl, -⟩ := own_val HO.out
          have hc := HC.out.later HD.out
          have ho := HO.out
          rw [HSE.out] at ho
          have ho2 : wr.ownsRow W5.heap.size 3 1 (.slice a8 (2 * j) c8) RD.length (nums .i64 RD) := by rw [HRL.out]; exact ho
          obtain ⟨v9, w9, hrun, hc9, hb9⟩ := run_row1 hc ho2 (by omega) HBD.out.size
          have HC9 := mkHid hc9
          have HD9 := mkHid (Below.trans HBD.out hb9)
          clear hc ho ho2 hc9 hb9 HST HRR HSE
          go_wp2_with (at_builtin
                       refine wpList_run rfl (.tmp 53) (.tmp 55) rfl rfl (by rfl) (by rfl) hrun ?_)
          go_roundw
          case rel => exact ⟨m + 1, _, us ++ [.slice a8 (2 * j) c8], by omega, rfl, by omega, mkHid (by rw [HFS.out]; exact HC9.out), HD9⟩
          case measure => simp [intOf]; omega
    · obtain rfl : m = n := by omega
      have hc := HC.out
      rw [HFE.out] at hc
      obtain ⟨v9, w9, hrun, hc9, hb9⟩ := run_rows hc (HLc.out.later HB.out) (by rw [HML.out, HNM.out]; omega) HB.out.size
      have HRM := mkHid hc9.rr
      have HB9 := mkHid (Below.trans HB.out hb9)
      have HWW := mkHid (bon HB2.out HB9.out)
      clear hc HFN HFE HF0 HFL HM HR HC hc9 hb9
      obtain ⟨X, cf, hx⟩ : ∃ X cf, unit M B = (X, cf) := ⟨_, _, rfl⟩
      have hy : unit (DM ++ M) B = (X, cf) := by rw [HU1.out]; exact hx
      have hlX : X.length = B.length := by have := unit_len M B; rw [hx] at this; exact this
      obtain ⟨ev, hev⟩ : ∃ r, evl M B = r := ⟨_, rfl⟩
      have hev2 : evl (DM ++ M) B = ev := by rw [← HU3.out]; exact hev
      have hX1 : X.length ≤ 1000 := by rw [hlX]; exact hs.out.row
      have U1 := mkHid (fun w' v' u' hv' hu' => unit_is (w := w') (v := v') (u := u') hs.out hx hv' hu')
      have U2 := mkHid (fun w' v' u' hv' hu' => unit_is (w := w') (v := v') (u := u') HSS.out hy hv' hu')
      have E1 := mkHid (fun w' v' u' hv' hu' => eval_is (w := w') (v := v') (u := u') hs.out hev hv' hu')
      have E2 := mkHid (fun w' v' u' hv' hu' => eval_is (w := w') (v := v') (u := u') HSS.out hev2 hv' hu')
      have S1 := mkHid (fun w' v' u' hv' hu' => same_self X v' u' w' hv' hu' hX1)
      have q2 : (ev == ev) = true := by simp
      have q1 : (cf == cf) = true := by simp
      clear hx hy hev hev2 hX1 hlX HU1 HU3 hs HSS HLc HB
      go_wp2_with (first
        | (at_builtin
           refine wpList_run rfl (.tmp 57) (.tmp 58) rfl rfl (by rfl) (by rfl) hrun ?_)
        | (revert HB6; intro HB6; (go_at_call 17; ((with_reducible refine (E2.out _ _ _ (HRM.out.later (bon (bon (bon HD3.out HD4.out) HD5.out) HD6.out)) (HA2.out.later (bon HB9.out (bon (bon (bon HD3.out HD4.out) HD5.out) HD6.out))).rk).mono ?_)); rintro e w7 ⟨rfl, hb7⟩; have HB7 := mkHid (bon HB6.out hb7); clear hb7))
        | (revert HB5; intro HB5; (go_at_call 17; ((with_reducible refine (E1.out _ _ _ (HLr.out.later (bon HB9.out (bon (bon HD3.out HD4.out) HD5.out))) (HA2.out.later (bon HB9.out (bon (bon HD3.out HD4.out) HD5.out))).rk).mono ?_)); rintro e w6 ⟨rfl, hb6⟩; have HB6 := mkHid (bon HB5.out hb6); have HD6 := mkHid hb6; clear hb6))
        | (revert HB4; intro HB4; (go_at_call 16; ((with_reducible refine (S1.out _ _ _ (HX3.out.later HD4.out).rk HX4.out.rk).mono ?_)); rintro e w5 ⟨rfl, hb5⟩; have HB5 := mkHid (bon HB4.out hb5); have HD5 := mkHid hb5; clear hb5))
        | (revert HB3; intro HB3; (go_at_call 14; ((with_reducible refine (U2.out _ _ _ (HRM.out.later HD3.out) (HA2.out.later (bon HB9.out HD3.out)).rk).mono ?_)); rintro e w4 ⟨g4, N4, rfl, hN4, hg4, ha4, hb4⟩; have HN4 := mkHid hN4; clear hN4; have HX4 := mkHid ha4; have HB4 := mkHid (bon HB3.out hb4); have HD4 := mkHid hb4; clear hb4 ha4))
        | (go_at_call 14; ((with_reducible refine (U1.out _ _ _ (HLr.out.later HB9.out) (HA2.out.later HB9.out).rk).mono ?_)); rintro e w3 ⟨g3, N3, rfl, hN3, hg3, ha3, hb3⟩; have HN3 := mkHid hN3; clear hN3; have HX3 := mkHid ha3; have HB3 := mkHid (bon HWW.out hb3); have HD3 := mkHid hb3; clear hb3 ha3))
      go_ret
      exact ⟨rfl, HB7.out⟩
end Go.Proofs.Ytilhamnibdjfaaa
