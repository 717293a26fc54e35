/-
  What package subst's 'Fresh' answers.
-/
import Derived.Sort.QuietIn
import Derived.Test.YtaibmdikimpooaaDoorSbL
import Derived.Test.YtaibmdikimpooaaDoorSbN
namespace Go.Proofs.YtaibmdikimpooaaDoor
open Go.RowKit Go.Shelf
attribute [local go_sem] Oper.semAt_some

def xN : ByteArray := ⟨#[120]⟩
/-- is a name in none of some terms? -/
def noneB (ts : List Tm) (s : ByteArray) : Bool := ts.all (fun t => !freeB t s)
/-- the fresh name -/
def frN (ts : List Tm) (nm : ByteArray) : ByteArray := (((List.range 101).map (chN nm)).find? (noneB ts)).getD (chN nm 100)
def frS (ts : List Tm) (name : ByteArray) : ByteArray := frN ts (if nameB name then name else xN)
theorem find_first {g : Nat → ByteArray} {p : ByteArray → Bool} {k : Nat} (hk : p (g k) = true) (h : ∀ j, j < k → p (g j) = false) : ∀ n, k < n → ((List.range n).map g).find? p = some (g k)
  | 0, hn => absurd hn (by omega)
  | n + 1, hn => by
    rw [List.range_succ, List.map_append, List.find?_append]
    by_cases e : k < n
    · rw [find_first hk h n e]; rfl
    · obtain rfl : k = n := by omega
      have : ((List.range k).map g).find? p = none := by
        rw [List.find?_eq_none]
        intro x hx
        obtain ⟨j, hj, rfl⟩ := List.mem_map.1 hx
        rw [h j (List.mem_range.1 hj)]; decide
      rw [this]
      simp [hk]
theorem find_none {g : Nat → ByteArray} {p : ByteArray → Bool} {n : Nat} (h : ∀ j, j < n → p (g j) = false) : ((List.range n).map g).find? p = none := by
  rw [List.find?_eq_none]
  intro x hx
  obtain ⟨j, hj, rfl⟩ := List.mem_map.1 hx
  rw [h j (List.mem_range.1 hj)]; decide
theorem frN_at {ts : List Tm} {nm : ByteArray} {k : Nat} (hk : k < 101) (h0 : noneB ts (chN nm k) = true) (h : ∀ j, j < k → noneB ts (chN nm j) = false) : frN ts nm = chN nm k := by
  unfold frN
  rw [find_first h0 h 101 hk]; rfl
theorem frN_last {ts : List Tm} {nm : ByteArray} (h : ∀ j, j < 101 → noneB ts (chN nm j) = false) : frN ts nm = chN nm 100 := by
  unfold frN
  rw [find_none h]; rfl
theorem cnt_none {f : ByteArray → Int} {n : Nat} {ts : List Tm} (h : CntP f n ts) (s : ByteArray) : f s = 0 ↔ noneB ts s = true := by
  rw [(h s).2.2]
  unfold noneB
  rw [List.all_eq_true]
  constructor
  · intro h t ht; rw [h t ht]; rfl
  · intro h t ht
    have := h t ht
    simpa using this
theorem nmap_kept {W W' : World} {b n : Nat} {f : ByteArray → Int} {row : Option Nat} (h : NMap W b n f) (hg : W.grownBy W' row) (hne : some b ≠ row) : NMap W' b n f := by
  obtain ⟨D, hD, hf⟩ := h
  exact ⟨D, hD.kept hg (fun e => hne e), hf⟩
theorem upto_get {α : Type} {f : Nat → α} {k : Nat} {x : α} (h : x ∈ upto f k) : ∃ j, j < k ∧ x = f j := by
  obtain ⟨j, hj, rfl⟩ := List.mem_map.1 h
  exact ⟨j, List.mem_range.1 hj, rfl⟩
/-- what has been tried last -/
def lastN (nm : ByteArray) (pre : List St) : ByteArray := (pre.getLast?.map (fun x => x.1)).getD nm
theorem lastN_snoc (nm : ByteArray) (pre : List St) (x : St) : lastN nm (pre ++ [x]) = x.1 := by simp [lastN]
theorem boxed_later' {W W' : World} {B : Nat} {t : TypeId} {v : Value} (h : Boxed W B t v) (hb : Below W.heap.size W W') : Boxed W' B t v := (hb.block B h.lt).trans h
set_option maxRecDepth 100000 in
set_option maxHeartbeats 4000000 in
theorem fresh_name (ts : List Tm) (sv : Value) (name : ByteArray) (w : World) (hr : SbTs w sv ts) (hl : ts.length ≤ 1000) (hin : ∀ t ∈ ts, TIn w w.heap.size t) (hS : Shps w) (hz : name.size ≤ maxLen) (hg : nameB name = true) :
    Calls Tryd.prog 26 #[sv, .string name] w (fun e w' => e = .returned (.string (frN ts name)) ∧ Below w.heap.size w w') := by
  have hnm : (name).size ≤ 16 := by unfold nameB at hg; simp only [Bool.and_eq_true, decide_eq_true_eq] at hg; exact hg.1.1.2
  have B1 := bel_alloc w (.cells #[.string ⟨#[]⟩] 9)
  have NA := mkHid (name_any name (w.alloc (.cells #[.string ⟨#[]⟩] 9)) hz)
  rw [hg] at NA
  have NO := mkHid (namesOf_any ts sv (w.alloc (.cells #[.string ⟨#[]⟩] 9)) (hr.later B1) hl (fun t ht => (hin t ht).later B1) (hS.later B1))
  have b4 := Boxed.new w 9 (.string ⟨#[]⟩)
  have HB1 := mkHid B1
  have HSZ1 := mkHid (show (w.alloc (.cells #[.string ⟨#[]⟩] 9)).heap.size = w.heap.size + 1 by simp)
  clear hr hl hin hS hz hg B1
  refine (callsIn_wide (n := 20)).1 ?_
  refine callsIn_of_wp_marks Tryd.func26 rfl trivial ?_ rfl
  simp only [Tryd.ntmps26, List.size_toArray, List.length_cons, List.length_nil, Nat.reduceAdd, Nat.reduceSub, Array.replicate_succ, Array.replicate_zero, List.push_toArray, List.append_toArray, List.nil_append, List.cons_append]
  gi_wp2_with (first
    | (refine ⟨trivial, ?_⟩; gi_at_call 18; refine (callsIn_wide.2 NA.out).mono ?_; rintro e w' ⟨rfl, hw⟩; subst hw)
    | (refine ⟨trivial, ?_⟩; gi_at_call 50; refine (callsIn_wide.2 NO.out).mono ?_; rintro e w2 ⟨q, f, rfl, hm, hcn, hb2⟩; have HM := mkHid hm; have HCN := mkHid hcn; have HB2 := mkHid hb2; have HB2x := hb2; clear hm hcn hb2)
    | (refine ⟨trivial, ?_⟩; gi_at_call 51; refine (choi_in _ _ _).mono ?_; rintro e w' ⟨rfl, rfl⟩))
  clear NA NO
  have hm := HM.out
  rw [HSZ1.out] at hm
  have hlt2 : w.heap.size + 1 < w2.heap.size := by
    obtain ⟨D, ⟨es, ck, he, -⟩, -⟩ := hm
    exact (Array.getElem?_eq_some_iff.1 he).1
  have b42 := boxed_later' b4 HB2x
  have hB2 : Below w.heap.size w w2 := bon HB1.out HB2x
  have b5 := ((Boxed.new w2 69 (.map (some (w.heap.size + 1)))).alloc (.cells #[.string name] 9)).alloc (.cells #[.string name] 9)
  have b6 := (Boxed.new (w2.alloc (.cells #[.map (some (w.heap.size + 1))] 69)) 9 (.string name)).alloc (.cells #[.string name] 9)
  have bS := Boxed.new ((w2.alloc (.cells #[.map (some (w.heap.size + 1))] 69)).alloc (.cells #[.string name] 9)) 9 (.string name)
  have b4' := ((b42.alloc (.cells #[.map (some (w.heap.size + 1))] 69)).alloc (.cells #[.string name] 9)).alloc (.cells #[.string name] 9)
  simp only [World.size_alloc] at b5 b6 bS
  have hb3 : Below w2.heap.size w2 (((w2.alloc (.cells #[.map (some (w.heap.size + 1))] 69)).alloc (.cells #[.string name] 9)).alloc (.cells #[.string name] 9)) := bal (bal (bal (Below.refl _ _) _) _) _
  have hm3 := hm.later hb3
  have hB3 := bon hB2 hb3
  have hsz : (((w2.alloc (.cells #[.map (some (w.heap.size + 1))] 69)).alloc (.cells #[.string name] 9)).alloc (.cells #[.string name] 9)).heap.size = w2.heap.size + 3 := by simp
  obtain ⟨W0, hW0⟩ : ∃ W0, (((w2.alloc (.cells #[.map (some (w.heap.size + 1))] 69)).alloc (.cells #[.string name] 9)).alloc (.cells #[.string name] 9)) = W0 := ⟨_, rfl⟩
  rw [hW0] at b4' b5 b6 bS hm3 hB3 hsz ⊢
  clear hW0 hb3 hm b42 b4 hB2 HB2x HB1
  refine wpIn_rangeFunc_ownG rfl (by omega) (gf := 63) (lb := #[.pointer (some ⟨w2.heap.size + 1 + 1, 0, none⟩)]) rfl trivial (enters_of Tryd.func63 (by kernel_rfl) rfl)
    (choi_stops _ (by omega) (w2.heap.size + 1 + 1) w.heap.size name hnm W0 bS) stK_t (stK_b (by omega)) (Below.refl _ _) (fun _ => rfl)
    (fun pre W => ((((Boxed W w.heap.size 9 (.string ⟨#[]⟩) ∧ Boxed W w2.heap.size 69 (.map (some (w.heap.size + 1)))) ∧ Boxed W (w2.heap.size + 1) 9 (.string (lastN name pre))) ∧ NMap W (w.heap.size + 1) q f) ∧ (∀ x ∈ pre, f x.1 ≠ 0)) ∧ Below w.heap.size w W)
    (fun c pre W => (c = .ret ∧ ∃ ini last, pre = ini ++ [last] ∧ (∀ x ∈ ini, f x.1 ≠ 0) ∧ f last.1 = 0 ∧ Boxed W w.heap.size 9 (.string last.1)) ∧ Below w.heap.size w W)
    (OwnFrom.and (OwnFrom.and (OwnFrom.and (OwnFrom.and (OwnFrom.and (Own.from (boxed_own _ _ (fun _ => _)) _) (Own.from (boxed_own _ _ (fun _ => _)) _)) (Own.from (boxed_own _ _ _) _)) (fun s A B row hs hg hr => nmap_kept hs hg (fun e => by have := (hr _ e.symm).1; omega))) (fun s A B row hs hg hr => hs)) (ownFrom_below (Nat.le_refl _) (by omega)))
    (fun c => OwnFrom.and (Own.from (fun s A B row hs hg hr => by obtain ⟨hc, ini, last, e1, e2, e3, e4⟩ := hs; exact ⟨hc, ini, last, e1, e2, e3, boxed_own _ _ (fun (_ : Unit) => _) () A B row e4 hg hr⟩) _) (ownFrom_below (Nat.le_refl _) (by omega)))
    ⟨⟨⟨⟨⟨b4', b5⟩, b6⟩, hm3⟩, fun x hx => (by cases hx)⟩, hB3⟩
    (fun x => { tmps := #[sv, .string name, undef, undef, .pointer (some ⟨w.heap.size, 0, none⟩), .pointer (some ⟨w2.heap.size, 0, none⟩), .pointer (some ⟨w2.heap.size + 1, 0, none⟩), .string x.1, .string name, .bool true, .bool false, sv, .map (some (w.heap.size + 1)), .string name, .string name, .func (.func 63) #[] #[.pointer (some ⟨w2.heap.size + 1 + 1, 0, none⟩)], .string x.1, undef, undef, undef, undef, undef, undef, undef], defers := [] }) ?assign ?body ?done ?stop
  case assign =>
    intro l x W K hK
    gi_wp2
    exact hK
  case body =>
    rintro l pre x W ⟨⟨⟨⟨⟨c4, c5⟩, c6⟩, hmW⟩, hne⟩, hB⟩ _
    have hlook := hmW.look (s := x.1) (by have := x.2; unfold maxLen; omega)
    have k5 := c5.cell
    have k6 := c6.cell
    have j6 := c6.frozen
    have k4 := c4.cell
    have j4 := c4.frozen
    by_cases h0 : f x.1 = 0
    · rw [h0] at hlook
      gi_wp2
      exact ⟨(KeepsOthers.setCell _ _ _).from _, ⟨rfl, pre, x, rfl, hne, h0, c4.set _⟩, hB.setCell (p := ⟨w.heap.size, 0, none⟩) (Nat.le_refl _) _⟩
    · have h1 : (f x.1 == 0) = false := by simpa using h0
      gi_wp2
      have hI2 : ((((Boxed (W.setCell ⟨w2.heap.size + 1, 0, none⟩ (.string x.1)) w.heap.size 9 (.string ⟨#[]⟩) ∧ Boxed (W.setCell ⟨w2.heap.size + 1, 0, none⟩ (.string x.1)) w2.heap.size 69 (.map (some (w.heap.size + 1)))) ∧ Boxed (W.setCell ⟨w2.heap.size + 1, 0, none⟩ (.string x.1)) (w2.heap.size + 1) 9 (.string (lastN name (pre ++ [x])))) ∧ NMap (W.setCell ⟨w2.heap.size + 1, 0, none⟩ (.string x.1)) (w.heap.size + 1) q f) ∧ (∀ y ∈ pre ++ [x], f y.1 ≠ 0)) ∧ Below w.heap.size w (W.setCell ⟨w2.heap.size + 1, 0, none⟩ (.string x.1)) := by
        rw [lastN_snoc]
        refine ⟨⟨⟨⟨⟨c4.other (by omega) _, c5.other (by omega) _⟩, c6.set _⟩, nmap_kept hmW (grownBy_setCell' W (w2.heap.size + 1) _) (by simp; omega)⟩, fun y hy => ?_⟩, hB.setCell (p := ⟨w2.heap.size + 1, 0, none⟩) (by show w.heap.size ≤ w2.heap.size + 1; omega) _⟩
        rcases List.mem_append.1 hy with hy | hy
        · exact hne y hy
        · rw [List.mem_singleton.1 hy]; exact h0
      exact ⟨(KeepsOthers.setCell _ _ _).from _, ⟨(Below.refl _ W).setCell (p := ⟨w2.heap.size + 1, 0, none⟩) (by show w.heap.size ≤ w2.heap.size + 1; omega) _, fun v hv => hv.other (by omega) _⟩, hI2⟩
  case done =>
    rintro D ys W hD rfl ⟨⟨⟨⟨⟨c4, c5⟩, c6⟩, hmW⟩, hne⟩, hB⟩ hK
    have k6 := c6.cell
    have k4 := c4.cell
    have j4 := c4.frozen
    gi_wp2
    have hlast : lastN name (upto (chS name hnm) 101) = chN name 100 := by
      rw [show (101 : Nat) = 100 + 1 by rfl, upto_succ, lastN_snoc, chS_is hnm (by omega)]
    rw [hlast]
    have hfr : frN ts name = chN name 100 := frN_last (fun j hj => by
      have h1 := hne (chS name hnm j) (List.mem_map.2 ⟨j, List.mem_range.2 hj, rfl⟩)
      rw [chS_is hnm hj] at h1
      have h2 := cnt_none HCN.out (chN name j)
      cases hb : noneB ts (chN name j) with
      | false => rfl
      | true => exact absurd (h2.2 hb) h1)
    have hK' := (KeepsOthers.setCell W ⟨w.heap.size, 0, none⟩ (.string (chN name 100))).same D _ hK rfl
    refine ⟨by simp, .inl ⟨_, _, rfl, run_takeDeferred hK', ?_⟩⟩
    have hc5 := cell_kept (World.cell?_setCell_same' W ⟨w.heap.size, 0, none⟩ (.string (chN name 100)) (by rw [k4]; rfl)) (grownBy_putObj' _ D (.deferred none)) (fun r e => by cases e; exact ⟨_, hK', rfl⟩)
    refine ⟨.string (chN name 100), by simp [results, Tryd.results26, go_sem, hc5], by rw [hfr], (hB.setCell (p := ⟨w.heap.size, 0, none⟩) (Nat.le_refl _) _).trans (belowK_b (w := w) (Nat.le_refl _) _ D _ _ (by omega) hK' rfl rfl)⟩
  case stop =>
    rintro D c pre W hD ⟨k, hk, rfl⟩ ⟨⟨rfl, ini, last, e1, e2, e3, c4⟩, hB⟩ hK
    gi_wp2
    obtain ⟨k', rfl⟩ : ∃ k', k = k' + 1 := by
      cases k with
      | zero => simp [upto] at e1
      | succ k' => exact ⟨k', rfl⟩
    rw [upto_succ] at e1
    obtain ⟨rfl, e5⟩ := List.append_inj' e1 rfl
    obtain rfl : chS name hnm k' = last := by simpa using e5
    rw [chS_is hnm (by omega)] at e3 c4
    have hfr : frN ts name = chN name k' := frN_at (by omega) ((cnt_none HCN.out _).1 e3) (fun j hj => by
      have h1 := e2 (chS name hnm j) (List.mem_map.2 ⟨j, List.mem_range.2 hj, rfl⟩)
      rw [chS_is hnm (by omega)] at h1
      have h2 := cnt_none HCN.out (chN name j)
      cases hb : noneB ts (chN name j) with
      | false => rfl
      | true => exact absurd (h2.2 hb) h1)
    have k4 := c4.cell
    refine ⟨by simp, .inl ⟨_, _, rfl, run_takeDeferred hK, ?_⟩⟩
    have hc5 := cell_kept k4 (grownBy_putObj' _ D (.deferred none)) (fun r e => by cases e; exact ⟨_, hK, rfl⟩)
    refine ⟨.string (chN name k'), by simp [results, Tryd.results26, go_sem, hc5], by rw [hfr], hB.trans (belowK_b (w := w) (Nat.le_refl _) _ D _ _ (by omega) hK rfl rfl)⟩
set_option maxRecDepth 100000 in
set_option maxHeartbeats 4000000 in
theorem fresh_x (ts : List Tm) (sv : Value) (name : ByteArray) (w : World) (hr : SbTs w sv ts) (hl : ts.length ≤ 1000) (hin : ∀ t ∈ ts, TIn w w.heap.size t) (hS : Shps w) (hz : name.size ≤ maxLen) (hg : nameB name = false) :
    Calls Tryd.prog 26 #[sv, .string name] w (fun e w' => e = .returned (.string (frN ts (⟨#[120]⟩ : ByteArray))) ∧ Below w.heap.size w w') := by
  have hnm : ((⟨#[120]⟩ : ByteArray)).size ≤ 16 := by decide
  have B1 := bel_alloc w (.cells #[.string ⟨#[]⟩] 9)
  have NA := mkHid (name_any name (w.alloc (.cells #[.string ⟨#[]⟩] 9)) hz)
  rw [hg] at NA
  have NO := mkHid (namesOf_any ts sv (w.alloc (.cells #[.string ⟨#[]⟩] 9)) (hr.later B1) hl (fun t ht => (hin t ht).later B1) (hS.later B1))
  have b4 := Boxed.new w 9 (.string ⟨#[]⟩)
  have HB1 := mkHid B1
  have HSZ1 := mkHid (show (w.alloc (.cells #[.string ⟨#[]⟩] 9)).heap.size = w.heap.size + 1 by simp)
  clear hr hl hin hS hz hg B1
  refine (callsIn_wide (n := 20)).1 ?_
  refine callsIn_of_wp_marks Tryd.func26 rfl trivial ?_ rfl
  simp only [Tryd.ntmps26, List.size_toArray, List.length_cons, List.length_nil, Nat.reduceAdd, Nat.reduceSub, Array.replicate_succ, Array.replicate_zero, List.push_toArray, List.append_toArray, List.nil_append, List.cons_append]
  gi_wp2_with (first
    | (refine ⟨trivial, ?_⟩; gi_at_call 18; refine (callsIn_wide.2 NA.out).mono ?_; rintro e w' ⟨rfl, hw⟩; subst hw)
    | (refine ⟨trivial, ?_⟩; gi_at_call 50; refine (callsIn_wide.2 NO.out).mono ?_; rintro e w2 ⟨q, f, rfl, hm, hcn, hb2⟩; have HM := mkHid hm; have HCN := mkHid hcn; have HB2 := mkHid hb2; have HB2x := hb2; clear hm hcn hb2)
    | (refine ⟨trivial, ?_⟩; gi_at_call 51; refine (choi_in _ _ _).mono ?_; rintro e w' ⟨rfl, rfl⟩))
  clear NA NO
  have hm := HM.out
  rw [HSZ1.out] at hm
  have hlt2 : w.heap.size + 1 < w2.heap.size := by
    obtain ⟨D, ⟨es, ck, he, -⟩, -⟩ := hm
    exact (Array.getElem?_eq_some_iff.1 he).1
  have b42 := boxed_later' b4 HB2x
  have hB2 : Below w.heap.size w w2 := bon HB1.out HB2x
  have b5 := ((Boxed.new w2 69 (.map (some (w.heap.size + 1)))).alloc (.cells #[.string ⟨#[120]⟩] 9)).alloc (.cells #[.string ⟨#[120]⟩] 9)
  have b6 := (Boxed.new (w2.alloc (.cells #[.map (some (w.heap.size + 1))] 69)) 9 (.string ⟨#[120]⟩)).alloc (.cells #[.string ⟨#[120]⟩] 9)
  have bS := Boxed.new ((w2.alloc (.cells #[.map (some (w.heap.size + 1))] 69)).alloc (.cells #[.string ⟨#[120]⟩] 9)) 9 (.string ⟨#[120]⟩)
  have b4' := ((b42.alloc (.cells #[.map (some (w.heap.size + 1))] 69)).alloc (.cells #[.string ⟨#[120]⟩] 9)).alloc (.cells #[.string ⟨#[120]⟩] 9)
  simp only [World.size_alloc] at b5 b6 bS
  have hb3 : Below w2.heap.size w2 (((w2.alloc (.cells #[.map (some (w.heap.size + 1))] 69)).alloc (.cells #[.string ⟨#[120]⟩] 9)).alloc (.cells #[.string ⟨#[120]⟩] 9)) := bal (bal (bal (Below.refl _ _) _) _) _
  have hm3 := hm.later hb3
  have hB3 := bon hB2 hb3
  have hsz : (((w2.alloc (.cells #[.map (some (w.heap.size + 1))] 69)).alloc (.cells #[.string ⟨#[120]⟩] 9)).alloc (.cells #[.string ⟨#[120]⟩] 9)).heap.size = w2.heap.size + 3 := by simp
  obtain ⟨W0, hW0⟩ : ∃ W0, (((w2.alloc (.cells #[.map (some (w.heap.size + 1))] 69)).alloc (.cells #[.string ⟨#[120]⟩] 9)).alloc (.cells #[.string ⟨#[120]⟩] 9)) = W0 := ⟨_, rfl⟩
  rw [hW0] at b4' b5 b6 bS hm3 hB3 hsz ⊢
  clear hW0 hb3 hm b42 b4 hB2 HB2x HB1
  refine wpIn_rangeFunc_ownG rfl (by omega) (gf := 63) (lb := #[.pointer (some ⟨w2.heap.size + 1 + 1, 0, none⟩)]) rfl trivial (enters_of Tryd.func63 (by kernel_rfl) rfl)
    (choi_stops _ (by omega) (w2.heap.size + 1 + 1) w.heap.size (⟨#[120]⟩ : ByteArray) hnm W0 bS) stK_t (stK_b (by omega)) (Below.refl _ _) (fun _ => rfl)
    (fun pre W => ((((Boxed W w.heap.size 9 (.string ⟨#[]⟩) ∧ Boxed W w2.heap.size 69 (.map (some (w.heap.size + 1)))) ∧ Boxed W (w2.heap.size + 1) 9 (.string (lastN (⟨#[120]⟩ : ByteArray) pre))) ∧ NMap W (w.heap.size + 1) q f) ∧ (∀ x ∈ pre, f x.1 ≠ 0)) ∧ Below w.heap.size w W)
    (fun c pre W => (c = .ret ∧ ∃ ini last, pre = ini ++ [last] ∧ (∀ x ∈ ini, f x.1 ≠ 0) ∧ f last.1 = 0 ∧ Boxed W w.heap.size 9 (.string last.1)) ∧ Below w.heap.size w W)
    (OwnFrom.and (OwnFrom.and (OwnFrom.and (OwnFrom.and (OwnFrom.and (Own.from (boxed_own _ _ (fun _ => _)) _) (Own.from (boxed_own _ _ (fun _ => _)) _)) (Own.from (boxed_own _ _ _) _)) (fun s A B row hs hg hr => nmap_kept hs hg (fun e => by have := (hr _ e.symm).1; omega))) (fun s A B row hs hg hr => hs)) (ownFrom_below (Nat.le_refl _) (by omega)))
    (fun c => OwnFrom.and (Own.from (fun s A B row hs hg hr => by obtain ⟨hc, ini, last, e1, e2, e3, e4⟩ := hs; exact ⟨hc, ini, last, e1, e2, e3, boxed_own _ _ (fun (_ : Unit) => _) () A B row e4 hg hr⟩) _) (ownFrom_below (Nat.le_refl _) (by omega)))
    ⟨⟨⟨⟨⟨b4', b5⟩, b6⟩, hm3⟩, fun x hx => (by cases hx)⟩, hB3⟩
    (fun x => { tmps := #[sv, .string ⟨#[120]⟩, undef, undef, .pointer (some ⟨w.heap.size, 0, none⟩), .pointer (some ⟨w2.heap.size, 0, none⟩), .pointer (some ⟨w2.heap.size + 1, 0, none⟩), .string x.1, .string name, .bool false, .bool true, sv, .map (some (w.heap.size + 1)), .string ⟨#[120]⟩, .string ⟨#[120]⟩, .func (.func 63) #[] #[.pointer (some ⟨w2.heap.size + 1 + 1, 0, none⟩)], .string x.1, undef, undef, undef, undef, undef, undef, undef], defers := [] }) ?assign ?body ?done ?stop
  case assign =>
    intro l x W K hK
    gi_wp2
    exact hK
  case body =>
    rintro l pre x W ⟨⟨⟨⟨⟨c4, c5⟩, c6⟩, hmW⟩, hne⟩, hB⟩ _
    have hlook := hmW.look (s := x.1) (by have := x.2; unfold maxLen; omega)
    have k5 := c5.cell
    have k6 := c6.cell
    have j6 := c6.frozen
    have k4 := c4.cell
    have j4 := c4.frozen
    by_cases h0 : f x.1 = 0
    · rw [h0] at hlook
      gi_wp2
      exact ⟨(KeepsOthers.setCell _ _ _).from _, ⟨rfl, pre, x, rfl, hne, h0, c4.set _⟩, hB.setCell (p := ⟨w.heap.size, 0, none⟩) (Nat.le_refl _) _⟩
    · have h1 : (f x.1 == 0) = false := by simpa using h0
      gi_wp2
      have hI2 : ((((Boxed (W.setCell ⟨w2.heap.size + 1, 0, none⟩ (.string x.1)) w.heap.size 9 (.string ⟨#[]⟩) ∧ Boxed (W.setCell ⟨w2.heap.size + 1, 0, none⟩ (.string x.1)) w2.heap.size 69 (.map (some (w.heap.size + 1)))) ∧ Boxed (W.setCell ⟨w2.heap.size + 1, 0, none⟩ (.string x.1)) (w2.heap.size + 1) 9 (.string (lastN (⟨#[120]⟩ : ByteArray) (pre ++ [x])))) ∧ NMap (W.setCell ⟨w2.heap.size + 1, 0, none⟩ (.string x.1)) (w.heap.size + 1) q f) ∧ (∀ y ∈ pre ++ [x], f y.1 ≠ 0)) ∧ Below w.heap.size w (W.setCell ⟨w2.heap.size + 1, 0, none⟩ (.string x.1)) := by
        rw [lastN_snoc]
        refine ⟨⟨⟨⟨⟨c4.other (by omega) _, c5.other (by omega) _⟩, c6.set _⟩, nmap_kept hmW (grownBy_setCell' W (w2.heap.size + 1) _) (by simp; omega)⟩, fun y hy => ?_⟩, hB.setCell (p := ⟨w2.heap.size + 1, 0, none⟩) (by show w.heap.size ≤ w2.heap.size + 1; omega) _⟩
        rcases List.mem_append.1 hy with hy | hy
        · exact hne y hy
        · rw [List.mem_singleton.1 hy]; exact h0
      exact ⟨(KeepsOthers.setCell _ _ _).from _, ⟨(Below.refl _ W).setCell (p := ⟨w2.heap.size + 1, 0, none⟩) (by show w.heap.size ≤ w2.heap.size + 1; omega) _, fun v hv => hv.other (by omega) _⟩, hI2⟩
  case done =>
    rintro D ys W hD rfl ⟨⟨⟨⟨⟨c4, c5⟩, c6⟩, hmW⟩, hne⟩, hB⟩ hK
    have k6 := c6.cell
    have k4 := c4.cell
    have j4 := c4.frozen
    gi_wp2
    have hlast : lastN (⟨#[120]⟩ : ByteArray) (upto (chS (⟨#[120]⟩ : ByteArray) hnm) 101) = chN (⟨#[120]⟩ : ByteArray) 100 := by
      rw [show (101 : Nat) = 100 + 1 by rfl, upto_succ, lastN_snoc, chS_is hnm (by omega)]
    rw [hlast]
    have hfr : frN ts (⟨#[120]⟩ : ByteArray) = chN (⟨#[120]⟩ : ByteArray) 100 := frN_last (fun j hj => by
      have h1 := hne (chS (⟨#[120]⟩ : ByteArray) hnm j) (List.mem_map.2 ⟨j, List.mem_range.2 hj, rfl⟩)
      rw [chS_is hnm hj] at h1
      have h2 := cnt_none HCN.out (chN (⟨#[120]⟩ : ByteArray) j)
      cases hb : noneB ts (chN (⟨#[120]⟩ : ByteArray) j) with
      | false => rfl
      | true => exact absurd (h2.2 hb) h1)
    have hK' := (KeepsOthers.setCell W ⟨w.heap.size, 0, none⟩ (.string (chN (⟨#[120]⟩ : ByteArray) 100))).same D _ hK rfl
    refine ⟨by simp, .inl ⟨_, _, rfl, run_takeDeferred hK', ?_⟩⟩
    have hc5 := cell_kept (World.cell?_setCell_same' W ⟨w.heap.size, 0, none⟩ (.string (chN (⟨#[120]⟩ : ByteArray) 100)) (by rw [k4]; rfl)) (grownBy_putObj' _ D (.deferred none)) (fun r e => by cases e; exact ⟨_, hK', rfl⟩)
    refine ⟨.string (chN (⟨#[120]⟩ : ByteArray) 100), by simp [results, Tryd.results26, go_sem, hc5], by rw [hfr], (hB.setCell (p := ⟨w.heap.size, 0, none⟩) (Nat.le_refl _) _).trans (belowK_b (w := w) (Nat.le_refl _) _ D _ _ (by omega) hK' rfl rfl)⟩
  case stop =>
    rintro D c pre W hD ⟨k, hk, rfl⟩ ⟨⟨rfl, ini, last, e1, e2, e3, c4⟩, hB⟩ hK
    gi_wp2
    obtain ⟨k', rfl⟩ : ∃ k', k = k' + 1 := by
      cases k with
      | zero => simp [upto] at e1
      | succ k' => exact ⟨k', rfl⟩
    rw [upto_succ] at e1
    obtain ⟨rfl, e5⟩ := List.append_inj' e1 rfl
    obtain rfl : chS (⟨#[120]⟩ : ByteArray) hnm k' = last := by simpa using e5
    rw [chS_is hnm (by omega)] at e3 c4
    have hfr : frN ts (⟨#[120]⟩ : ByteArray) = chN (⟨#[120]⟩ : ByteArray) k' := frN_at (by omega) ((cnt_none HCN.out _).1 e3) (fun j hj => by
      have h1 := e2 (chS (⟨#[120]⟩ : ByteArray) hnm j) (List.mem_map.2 ⟨j, List.mem_range.2 hj, rfl⟩)
      rw [chS_is hnm (by omega)] at h1
      have h2 := cnt_none HCN.out (chN (⟨#[120]⟩ : ByteArray) j)
      cases hb : noneB ts (chN (⟨#[120]⟩ : ByteArray) j) with
      | false => rfl
      | true => exact absurd (h2.2 hb) h1)
    have k4 := c4.cell
    refine ⟨by simp, .inl ⟨_, _, rfl, run_takeDeferred hK, ?_⟩⟩
    have hc5 := cell_kept k4 (grownBy_putObj' _ D (.deferred none)) (fun r e => by cases e; exact ⟨_, hK, rfl⟩)
    refine ⟨.string (chN (⟨#[120]⟩ : ByteArray) k'), by simp [results, Tryd.results26, go_sem, hc5], by rw [hfr], hB.trans (belowK_b (w := w) (Nat.le_refl _) _ D _ _ (by omega) hK rfl rfl)⟩
/-- subst.Fresh -/
theorem fresh_any (ts : List Tm) (sv : Value) (name : ByteArray) (w : World) (hr : SbTs w sv ts) (hl : ts.length ≤ 1000) (hin : ∀ t ∈ ts, TIn w w.heap.size t) (hS : Shps w) (hz : name.size ≤ maxLen) :
    Calls Tryd.prog 26 #[sv, .string name] w (fun e w' => e = .returned (.string (frS ts name)) ∧ Below w.heap.size w w') := by
  unfold frS
  cases hg : nameB name with
  | true => exact fresh_name ts sv name w hr hl hin hS hz hg
  | false => exact fresh_x ts sv name w hr hl hin hS hz hg
end Go.Proofs.YtaibmdikimpooaaDoor
