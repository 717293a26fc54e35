/-
  What 'named', 'fit', 'count', 'all', 'ordered' and 'within' of package eval do.
-/
import Derived.Test.YtlobffjgkhcjbaaDoorEvB
namespace Go.Proofs.YtlobffjgkhcjbaaDoor
open Go.RowKit

/-- a call panics with an error's number -/
def PanK (k : Int) (w : World) (e : Ending) (w' : World) : Prop := e = .panicked [{ v := .iface 26 (.int .i64 k), recovered := false }] ∧ Below w.heap.size w w'
def RetI (n : Int) (w : World) (e : Ending) (w' : World) : Prop := e = .returned (.int .i64 n) ∧ Below w.heap.size w w'
def RetB (b : Bool) (w : World) (e : Ending) (w' : World) : Prop := e = .returned (.bool b) ∧ Below w.heap.size w w'
def RetS (l : List Bool) (w : World) (e : Ending) (w' : World) : Prop := ∃ g c, e = .returned (.slice (some ⟨g, 0, none⟩) l.length c) ∧ Own w' w.heap.size (some ⟨g, 0, none⟩) c l ∧ Below w.heap.size w w'

set_option maxRecDepth 100000 in
set_option maxHeartbeats 1000000 in
theorem named_err (W : Wd) (nm : ByteArray) (s : Int) (w : World) (hin : WIn w w.heap.size W) (h : look W nm s = none) :
    Calls Tryd.prog 117 #[W.val, .string nm, .int .i64 s] w (PanK 4 w) := by
  have hw2 : Below w.heap.size w ((w.alloc (boxP W)).alloc (.cells #[.int .i64 0, .int .i64 0, .bool false, .slice none 0 0] 54)) := bal (bal (Below.refl _ _) _) _
  have GC := mkHid (get_none W nm s _ (hin.later hw2) h)
  have TWP : TwoW ((w.alloc (boxP W)).alloc (.cells #[.int .i64 0, .int .i64 0, .bool false, .slice none 0 0] 54)) w.heap.size W := by simp [TwoW, boxP, go_sem]
  clear h hin
  unfold Wd.val at *
  generalize hW2 : (w.alloc (boxP W)).alloc (.cells #[.int .i64 0, .int .i64 0, .bool false, .slice none 0 0] 54) = W2 at *
  unfold boxP at hW2
  unfold zeroV at GC
  obtain ⟨p0, p1⟩ := id TWP
  go_enter Tryd.func117, Tryd.ntmps117
  go_wp2_with fail
  ((with_reducible refine GC.out.mono ?_)); rintro e w3 ⟨rfl, hb3⟩
  have BW := bon hw2 hb3
  clear hW2 p0 p1
  go_wp2
  refine ⟨rfl, rfl, ?_⟩
  (repeat (first | exact BW | (refine bset ?_ (by simp <;> omega) _) | refine bal ?_ _))

set_option maxRecDepth 100000 in
set_option maxHeartbeats 1000000 in
theorem named_ok (W : Wd) (nm : ByteArray) (s : Int) (v : Vl) (w : World) (hin : WIn w w.heap.size W) (h : look W nm s = some v) (hl : v.s.length ≤ 140737488355328) :
    Calls Tryd.prog 117 #[W.val, .string nm, .int .i64 s] w (Copy v w) := by
  have hw2 : Below w.heap.size w ((w.alloc (boxP W)).alloc (.cells #[.int .i64 0, .int .i64 0, .bool false, .slice none 0 0] 54)) := bal (bal (Below.refl _ _) _) _
  have GC := mkHid (get_some W nm s v _ (hin.later hw2) h hl)
  have TWP : TwoW ((w.alloc (boxP W)).alloc (.cells #[.int .i64 0, .int .i64 0, .bool false, .slice none 0 0] 54)) w.heap.size W := by simp [TwoW, boxP, go_sem]
  have hF2 : FourV ((w.alloc (boxP W)).alloc (.cells #[.int .i64 0, .int .i64 0, .bool false, .slice none 0 0] 54)) (w.heap.size + 1) (.int .i64 0) (.int .i64 0) (.bool false) (.slice none 0 0) := by simp [FourV, go_sem]
  have hX : w.heap.size + 1 < ((w.alloc (boxP W)).alloc (.cells #[.int .i64 0, .int .i64 0, .bool false, .slice none 0 0] 54)).heap.size := by simp
  clear h hin
  unfold Wd.val at *
  generalize hW2 : (w.alloc (boxP W)).alloc (.cells #[.int .i64 0, .int .i64 0, .bool false, .slice none 0 0] 54) = W2 at *
  unfold boxP at hW2
  obtain ⟨p0, p1⟩ := id TWP
  go_enter Tryd.func117, Tryd.ntmps117
  go_wp2_with fail
  ((with_reducible refine GC.out.mono ?_)); rintro e w3 ⟨a, c, rfl, ho, hb3⟩
  have BW := bon hw2 hb3
  have hz3 := hb3.size
  clear hW2 p0 p1
  obtain ⟨d0, d1, d2, d3, d4, d5, d6, d7⟩ := hF2.later hb3
  have hlt : w.heap.size + 1 < w3.heap.size := by omega
  go_wp2
  refine bodyPost_ret (v := .agg #[.int .i64 v.sort, .int .i64 v.n, .bool v.b, .slice a v.s.length c]) (by simp [results, Tryd.results117, go_sem, d0, d1, d2, d3, hlt]) rfl ⟨a, c, rfl, ?_, ?_⟩
  · refine own_base (base := W2.heap.size) ?_ (by omega)
    refine World.ownsRow.alloc (own_put (own_put (own_put (own_put ho ?_ _) ?_ _) ?_ _) ?_ _) _ <;> (simp <;> omega)
  · (repeat (first | exact BW | (refine bset ?_ (by simp <;> omega) _) | refine bal ?_ _))

theorem fit_ok (n : Int) (w : World) : Calls Tryd.prog 119 #[.int .i64 n, .bool true] w (RetI n w) := by
  go_enter Tryd.func119, Tryd.ntmps119
  go_wp2
  go_ret
  exact ⟨rfl, Below.refl _ _⟩
theorem fit_err (n : Int) (w : World) : Calls Tryd.prog 119 #[.int .i64 n, .bool false] w (PanK 5 w) := by
  go_enter Tryd.func119, Tryd.ntmps119
  go_wp2
  exact ⟨rfl, rfl, Below.refl _ _⟩

/-- how Le, Lt and Eq order -/
def ordB (op : Int) (a b : Int) : Bool := if op = 22 then decide (a ≤ b) else if op = 23 then decide (a < b) else a == b
theorem ordered_any (op a b : Int) (w : World) (h : op = 22 ∨ op = 23 ∨ op = 24) :
    Calls Tryd.prog 125 #[.int .i64 op, .int .i64 a, .int .i64 b] w (RetB (ordB op a b) w) := by
  rcases h with rfl | rfl | rfl
  all_goals
    go_enter Tryd.func125, Tryd.ntmps125
    go_wp2
    go_ret
    exact ⟨rfl, Below.refl _ _⟩

/-- how many are in a set -/
def cntB (l : List Bool) : Nat := (l.filter id).length
theorem cntB_le (l : List Bool) : cntB l ≤ l.length := List.length_filter_le _ _
theorem cntB_take (l : List Bool) (k : Nat) (h : k < l.length) : cntB (l.take (k + 1)) = cntB (l.take k) + if l[k] then 1 else 0 := by
  unfold cntB
  rw [List.take_succ_eq_append_getElem h, List.filter_append, List.length_append]
  cases hk : l[k] <;> simp

set_option maxHeartbeats 1000000 in
theorem cnt_any (l : List Bool) (g c : Nat) (w : World) (hl : l.length ≤ 1000) (hc : BIn w w.heap.size (some ⟨g, 0, none⟩) l) :
    Calls Tryd.prog 118 #[.slice (some ⟨g, 0, none⟩) l.length c] w (RetI (cntB l) w) := by
  have HC := mkHid hc
  clear hc
  generalize hn' : l.length = n at *
  have HN := mkHid hn'
  clear hn'
  go_enter Tryd.func118, Tryd.ntmps118
  go_wp2
  go_loop [3, 8] (fun m i => ∃ k : Nat, k ≤ n ∧ i = .int .i64 k ∧ m = .int .i64 (cntB (l.take k) : Nat)) (fun _ i => (n - intOf i).toNat)
  case atStart => exact ⟨0, Nat.zero_le _, rfl, rfl⟩
  case round =>
    obtain ⟨k, hk, rfl, rfl⟩ := hrel
    by_cases hlt : k < n
    · have hk' : k < l.length := by rw [HN.out]; exact hlt
      obtain ⟨b, o, e, -, h3⟩ := HC.out k hk'
      cases e
      rw [Nat.zero_add] at h3
      have hsn := mkHid (cntB_take l k hk')
      have hle := cntB_le (l.take k)
      have hle2 : (l.take k).length ≤ k := List.length_take_le _ _
      generalize l[k] = x at *
      cases x
      · go_wp2
        go_round
        case rel => exact ⟨k + 1, by omega, by go_num, by rw [hsn.out]; rfl⟩
        case measure => simp [intOf]; omega
      · go_wp2
        go_round
        case rel => exact ⟨k + 1, by omega, by go_num, by rw [hsn.out]; go_num⟩
        case measure => simp [intOf]; omega
    · go_wp2
      go_ret
      exact ⟨ret_int (by rw [List.take_of_length_le (by rw [HN.out]; omega)]), Below.refl _ _⟩

/-- are all of a in b? -/
def subB (a b : List Bool) : Bool := (List.range a.length).all fun i => !(a.getD i false) || b.getD i false
theorem range_all_le {p : Nat → Bool} {k n : Nat} (hk : k < n) (h : p k = false) : (List.range n).all p = false := by
  rw [List.all_eq_false]
  exact ⟨k, List.mem_range.2 hk, by simp [h]⟩
set_option maxHeartbeats 1000000 in
theorem within_any (l m : List Bool) (g g' c c' : Nat) (w : World) (hm : l.length ≤ m.length) (hm2 : m.length ≤ 1000) (hc : BIn w w.heap.size (some ⟨g, 0, none⟩) l) (hc' : BIn w w.heap.size (some ⟨g', 0, none⟩) m) :
    Calls Tryd.prog 126 #[.slice (some ⟨g, 0, none⟩) l.length c, .slice (some ⟨g', 0, none⟩) m.length c'] w (RetB (subB l m) w) := by
  have HC := mkHid hc
  have HC' := mkHid hc'
  clear hc hc'
  have HR : Hid ((List.range l.length).all (fun i => !(l.getD i false) || m.getD i false) = subB l m) := rfl
  generalize subB l m = R at *
  generalize hn' : l.length = n at *
  have HN := mkHid hn'
  clear hn'
  generalize hp' : m.length = p at *
  have HP := mkHid hp'
  clear hp'
  go_enter Tryd.func126, Tryd.ntmps126
  go_wp2
  go_loop [8] (fun i => ∃ k : Nat, k ≤ n ∧ i = .int .i64 k ∧ Hid ((List.range k).all (fun i => !(l.getD i false) || m.getD i false) = true)) (fun i => (n - intOf i).toNat)
  case atStart => exact ⟨0, Nat.zero_le _, rfl, rfl⟩
  case round =>
    obtain ⟨k, hk, rfl, hal⟩ := hrel
    by_cases hlt : k < n
    · have hk' : k < l.length := by rw [HN.out]; exact hlt
      have hk2 : k < m.length := by rw [HP.out]; omega
      have hkp : k < p := by omega
      obtain ⟨b, o, e, -, h3⟩ := HC.out k hk'
      cases e
      rw [Nat.zero_add] at h3
      obtain ⟨b, o, e, -, h4⟩ := HC'.out k hk2
      cases e
      rw [Nat.zero_add] at h4
      have e1 : Hid (l.getD k false = l[k]) := by show _ = _; simp [List.getD, hk']
      have e2 : Hid (m.getD k false = m[k]) := by show _ = _; simp [List.getD, hk2]
      generalize l[k] = x at *
      generalize m[k] = y at *
      cases x
      · go_wp2
        go_round
        case rel => exact ⟨k + 1, by omega, by go_num, by show _ = _; rw [List.range_succ, List.all_append, hal.out]; simp [-List.getD_eq_getElem?_getD, e1.out]⟩
        case measure => simp [intOf]; omega
      · cases y
        · have hRf : R = false := by rw [← HR.out]; exact range_all_le hlt (by simp only [e1.out, e2.out]; rfl)
          subst hRf
          clear HR
          go_wp2
          go_ret
          exact ⟨rfl, Below.refl _ _⟩
        · go_wp2
          go_round
          case rel => exact ⟨k + 1, by omega, by go_num, by show _ = _; rw [List.range_succ, List.all_append, hal.out]; simp [-List.getD_eq_getElem?_getD, e2.out]⟩
          case measure => simp [intOf]; omega
    · have hRt : R = true := by rw [← HR.out, show n = k by omega]; exact hal.out
      subst hRt
      clear HR hal
      go_wp2
      go_ret
      exact ⟨rfl, Below.refl _ _⟩
end Go.Proofs.YtlobffjgkhcjbaaDoor
