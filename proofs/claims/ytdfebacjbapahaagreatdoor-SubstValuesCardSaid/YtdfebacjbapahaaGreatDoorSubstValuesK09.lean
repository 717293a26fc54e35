/-
  What SubstValues's proof stands on, part 9: EvC, EvD, NmEv, EvNuMath.
-/
import Derived.Test.YtdfebacjbapahaaGreatDoorSubstValuesK08
import Derived.Test.YtdfebacjbapahaaGreatDoorSubstValuesK02
import Derived.Test.YtdfebacjbapahaaGreatDoorSubstValuesK04
namespace Go.Proofs.YtdfebacjbapahaaGreatDoor
section
open Go.RowKit

/-- a call panics with an error's number -/
def PanK (k : Int) (w : World) (e : Ending) (w' : World) : Prop := e = .panicked [{ v := .iface 37 (.int .i64 k), recovered := false }] ∧ Below w.heap.size w w'
def RetS (l : List Bool) (w : World) (e : Ending) (w' : World) : Prop := ∃ g c, e = .returned (.slice (some ⟨g, 0, none⟩) l.length c) ∧ Own w' w.heap.size (some ⟨g, 0, none⟩) c l ∧ Below w.heap.size w w'

set_option maxRecDepth 100000 in
set_option maxHeartbeats 1000000 in
theorem named_err (W : Wd) (nm : ByteArray) (s : Int) (w : World) (hin : WIn w w.heap.size W) (h : look W nm s = none) :
    Calls Tryz.prog 56 #[W.val, .string nm, .int .i64 s] w (PanK 4 w) := by
  have hw2 : Below w.heap.size w ((w.alloc (boxP W)).alloc (.cells #[.int .i64 0, .int .i64 0, .bool false, .slice none 0 0] 36)) := bal (bal (Below.refl _ _) _) _
  have GC := mkHid (get_none W nm s _ (hin.later hw2) h)
  have TWP : TwoW ((w.alloc (boxP W)).alloc (.cells #[.int .i64 0, .int .i64 0, .bool false, .slice none 0 0] 36)) w.heap.size W := by simp [TwoW, boxP, go_sem]
  clear h hin
  unfold Wd.val at *
  generalize hW2 : (w.alloc (boxP W)).alloc (.cells #[.int .i64 0, .int .i64 0, .bool false, .slice none 0 0] 36) = W2 at *
  unfold boxP at hW2
  unfold zeroV at GC
  obtain ⟨p0, p1⟩ := id TWP
  go_enter Tryz.func56, Tryz.ntmps56
  go_wp2_with fail
  ((with_reducible refine GC.out.mono ?_)); rintro e w3 ⟨rfl, hb3⟩
  have BW := bon hw2 hb3
  clear hW2 p0 p1
  go_wp2
  refine ⟨rfl, rfl, ?_⟩
  (repeat (first | exact BW | (refine bset ?_ (by simp <;> omega) _) | refine bal ?_ _))

set_option maxRecDepth 100000 in
set_option maxHeartbeats 1000000 in
theorem named_ok (W : Wd) (nm : ByteArray) (s : Int) (v : Vl) (w : World) (hin : WIn w w.heap.size W) (h : look W nm s = some v) (hl : v.s.length ≤ 140737488355328) :
    Calls Tryz.prog 56 #[W.val, .string nm, .int .i64 s] w (Copy v w) := by
  have hw2 : Below w.heap.size w ((w.alloc (boxP W)).alloc (.cells #[.int .i64 0, .int .i64 0, .bool false, .slice none 0 0] 36)) := bal (bal (Below.refl _ _) _) _
  have GC := mkHid (get_some W nm s v _ (hin.later hw2) h hl)
  have TWP : TwoW ((w.alloc (boxP W)).alloc (.cells #[.int .i64 0, .int .i64 0, .bool false, .slice none 0 0] 36)) w.heap.size W := by simp [TwoW, boxP, go_sem]
  have hF2 : FourV ((w.alloc (boxP W)).alloc (.cells #[.int .i64 0, .int .i64 0, .bool false, .slice none 0 0] 36)) (w.heap.size + 1) (.int .i64 0) (.int .i64 0) (.bool false) (.slice none 0 0) := by simp [FourV, go_sem]
  have hX : w.heap.size + 1 < ((w.alloc (boxP W)).alloc (.cells #[.int .i64 0, .int .i64 0, .bool false, .slice none 0 0] 36)).heap.size := by simp
  clear h hin
  unfold Wd.val at *
  generalize hW2 : (w.alloc (boxP W)).alloc (.cells #[.int .i64 0, .int .i64 0, .bool false, .slice none 0 0] 36) = W2 at *
  unfold boxP at hW2
  obtain ⟨p0, p1⟩ := id TWP
  go_enter Tryz.func56, Tryz.ntmps56
  go_wp2_with fail
  ((with_reducible refine GC.out.mono ?_)); rintro e w3 ⟨a, c, rfl, ho, hb3⟩
  have BW := bon hw2 hb3
  have hz3 := hb3.size
  clear hW2 p0 p1
  obtain ⟨d0, d1, d2, d3, d4, d5, d6, d7⟩ := hF2.later hb3
  have hlt : w.heap.size + 1 < w3.heap.size := by omega
  go_wp2
  refine bodyPost_ret (v := .agg #[.int .i64 v.sort, .int .i64 v.n, .bool v.b, .slice a v.s.length c]) (by simp [results, Tryz.results56, go_sem, d0, d1, d2, d3, hlt]) rfl ⟨a, c, rfl, ?_, ?_⟩
  · refine own_base (base := W2.heap.size) ?_ (by omega)
    refine World.ownsRow.alloc (own_put (own_put (own_put (own_put ho ?_ _) ?_ _) ?_ _) ?_ _) _ <;> (simp <;> omega)
  · (repeat (first | exact BW | (refine bset ?_ (by simp <;> omega) _) | refine bal ?_ _))

theorem fit_ok (n : Int) (w : World) : Calls Tryz.prog 58 #[.int .i64 n, .bool true] w (RetI n w) := by
  go_enter Tryz.func58, Tryz.ntmps58
  go_wp2
  go_ret
  exact ⟨rfl, Below.refl _ _⟩
theorem fit_err (n : Int) (w : World) : Calls Tryz.prog 58 #[.int .i64 n, .bool false] w (PanK 5 w) := by
  go_enter Tryz.func58, Tryz.ntmps58
  go_wp2
  exact ⟨rfl, rfl, Below.refl _ _⟩

/-- how Le, Lt and Eq order -/
def ordB (op : Int) (a b : Int) : Bool := if op = 22 then decide (a ≤ b) else if op = 23 then decide (a < b) else a == b
theorem ordered_any (op a b : Int) (w : World) (h : op = 22 ∨ op = 23 ∨ op = 24) :
    Calls Tryz.prog 64 #[.int .i64 op, .int .i64 a, .int .i64 b] w (RetB (ordB op a b) w) := by
  rcases h with rfl | rfl | rfl
  all_goals
    go_enter Tryz.func64, Tryz.ntmps64
    go_wp2
    go_ret
    exact ⟨rfl, Below.refl _ _⟩

/-- how many are in a set -/
def cntB (l : List Bool) : Nat := (l.filter id).length
theorem cntB_le (l : List Bool) : cntB l ≤ l.length := List.length_filter_le _ _
theorem cntB_take (l : List Bool) (k : Nat) (h : k < l.length) : cntB (l.take (k + 1)) = cntB (l.take k) + if l[k] then 1 else 0 := by
  unfold cntB
  rw [List.take_succ_eq_append_getElem h, List.filter_append, List.length_append]
  cases hk : l[k] <;> simp

set_option maxHeartbeats 1000000 in
theorem cnt_any (l : List Bool) (g c : Nat) (w : World) (hl : l.length ≤ 1000) (hc : BIn w w.heap.size (some ⟨g, 0, none⟩) l) :
    Calls Tryz.prog 57 #[.slice (some ⟨g, 0, none⟩) l.length c] w (RetI (cntB l) w) := by
  have HC := mkHid hc
  clear hc
  generalize hn' : l.length = n at *
  have HN := mkHid hn'
  clear hn'
  go_enter Tryz.func57, Tryz.ntmps57
  go_wp2
  go_loop [3, 8] (fun m i => ∃ k : Nat, k ≤ n ∧ i = .int .i64 k ∧ m = .int .i64 (cntB (l.take k) : Nat)) (fun _ i => (n - intOf i).toNat)
  case atStart => exact ⟨0, Nat.zero_le _, rfl, rfl⟩
  case round =>
    obtain ⟨k, hk, rfl, rfl⟩ := hrel
    by_cases hlt : k < n
    · have hk' : k < l.length := by rw [HN.out]; exact hlt
      obtain ⟨b, o, e, -, h3⟩ := HC.out k hk'
      cases e
      rw [Nat.zero_add] at h3
      have hsn := mkHid (cntB_take l k hk')
      have hle := cntB_le (l.take k)
      have hle2 : (l.take k).length ≤ k := List.length_take_le _ _
      generalize l[k] = x at *
      cases x
      · go_wp2
        go_round
        case rel => exact ⟨k + 1, by omega, by go_num, by rw [hsn.out]; rfl⟩
        case measure => simp [intOf]; omega
      · go_wp2
        go_round
        case rel => exact ⟨k + 1, by omega, by go_num, by rw [hsn.out]; go_num⟩
        case measure => simp [intOf]; omega
    · go_wp2
      go_ret
      exact ⟨ret_int (by rw [List.take_of_length_le (by rw [HN.out]; omega)]), Below.refl _ _⟩

/-- are all of a in b? -/
def subB (a b : List Bool) : Bool := (List.range a.length).all fun i => !(a.getD i false) || b.getD i false
theorem range_all_le {p : Nat → Bool} {k n : Nat} (hk : k < n) (h : p k = false) : (List.range n).all p = false := by
  rw [List.all_eq_false]
  exact ⟨k, List.mem_range.2 hk, by simp [h]⟩
set_option maxHeartbeats 1000000 in
theorem within_any (l m : List Bool) (g g' c c' : Nat) (w : World) (hm : l.length ≤ m.length) (hm2 : m.length ≤ 1000) (hc : BIn w w.heap.size (some ⟨g, 0, none⟩) l) (hc' : BIn w w.heap.size (some ⟨g', 0, none⟩) m) :
    Calls Tryz.prog 65 #[.slice (some ⟨g, 0, none⟩) l.length c, .slice (some ⟨g', 0, none⟩) m.length c'] w (RetB (subB l m) w) := by
  have HC := mkHid hc
  have HC' := mkHid hc'
  clear hc hc'
  have HR : Hid ((List.range l.length).all (fun i => !(l.getD i false) || m.getD i false) = subB l m) := rfl
  generalize subB l m = R at *
  generalize hn' : l.length = n at *
  have HN := mkHid hn'
  clear hn'
  generalize hp' : m.length = p at *
  have HP := mkHid hp'
  clear hp'
  go_enter Tryz.func65, Tryz.ntmps65
  go_wp2
  go_loop [8] (fun i => ∃ k : Nat, k ≤ n ∧ i = .int .i64 k ∧ Hid ((List.range k).all (fun i => !(l.getD i false) || m.getD i false) = true)) (fun i => (n - intOf i).toNat)
  case atStart => exact ⟨0, Nat.zero_le _, rfl, rfl⟩
  case round =>
    obtain ⟨k, hk, rfl, hal⟩ := hrel
    by_cases hlt : k < n
    · have hk' : k < l.length := by rw [HN.out]; exact hlt
      have hk2 : k < m.length := by rw [HP.out]; omega
      have hkp : k < p := by omega
      obtain ⟨b, o, e, -, h3⟩ := HC.out k hk'
      cases e
      rw [Nat.zero_add] at h3
      obtain ⟨b, o, e, -, h4⟩ := HC'.out k hk2
      cases e
      rw [Nat.zero_add] at h4
      have e1 : Hid (l.getD k false = l[k]) := by show _ = _; simp [List.getD, hk']
      have e2 : Hid (m.getD k false = m[k]) := by show _ = _; simp [List.getD, hk2]
      generalize l[k] = x at *
      generalize m[k] = y at *
      cases x
      · go_wp2
        go_round
        case rel => exact ⟨k + 1, by omega, by go_num, by show _ = _; rw [List.range_succ, List.all_append, hal.out]; simp [-List.getD_eq_getElem?_getD, e1.out]⟩
        case measure => simp [intOf]; omega
      · cases y
        · have hRf : R = false := by rw [← HR.out]; exact range_all_le hlt (by simp only [e1.out, e2.out]; rfl)
          subst hRf
          clear HR
          go_wp2
          go_ret
          exact ⟨rfl, Below.refl _ _⟩
        · go_wp2
          go_round
          case rel => exact ⟨k + 1, by omega, by go_num, by show _ = _; rw [List.range_succ, List.all_append, hal.out]; simp [-List.getD_eq_getElem?_getD, e2.out]⟩
          case measure => simp [intOf]; omega
    · have hRt : R = true := by rw [← HR.out, show n = k by omega]; exact hal.out
      subst hRt
      clear HR hal
      go_wp2
      go_ret
      exact ⟨rfl, Below.refl _ _⟩
end
section
open Go.RowKit

/-- a value alone -/
inductive Vv where
  | i (n : Int)
  | s (l : List Bool)
  | d (n : Int)
  | b (x : Bool)
def Vv.bit : Vv → Bool
  | .b x => x
  | _ => false
def lookE (o : Option Vl) (f : Vl → Vv) : Except Int Vv :=
  match o with
  | some v => .ok (f v)
  | none => .error 4
def fitE (n : Int) : Except Int Vv := if fitB n then .ok (.i n) else .error 5
def oneS (N k : Nat) : List Bool := (List.replicate N false).set k true
/-- what an operation makes of values -/
def app (W : Wd) (op : Nat) (nm : ByteArray) (n : Int) (vs : List Vv) : Except Int Vv :=
  match op, vs with
  | 1, _ => .ok (.i n)
  | 2, _ => lookE (look W nm 1) (fun v => .i v.n)
  | 3, [.s l] => .ok (.i (cntB l))
  | 4, [.i x, .i y] => fitE (x + y)
  | 5, [.i x, .i y] => fitE (x - y)
  | 6, [.i x] => fitE (n * x)
  | 7, _ => lookE (look W nm 2) (fun v => .s v.s)
  | 8, _ => .ok (.s (List.replicate W.nodes.toNat false))
  | 9, _ => .ok (.s (List.replicate W.nodes.toNat true))
  | 10, [.d k] => .ok (.s (oneS W.nodes.toNat k.toNat))
  | 11, [.s x, .s y] => .ok (.s (List.zipWith (fun a b => a || b) x y))
  | 12, [.s x, .s y] => .ok (.s (List.zipWith (fun a b => a && b) x y))
  | 13, [.s x, .s y] => .ok (.s (List.zipWith (fun a b => a && !b) x y))
  | 14, _ => lookE (look W nm 3) (fun v => .d v.n)
  | 15, _ => lookE (look W nm 4) (fun v => .b v.b)
  | 16, _ => .ok (.b true)
  | 17, _ => .ok (.b false)
  | 18, [.b x] => .ok (.b (!x))
  | 19, vs => .ok (.b (vs.all Vv.bit))
  | 20, vs => .ok (.b (vs.any Vv.bit))
  | 21, [.b x, .b y] => .ok (.b (!x || y))
  | 22, [.i x, .i y] => .ok (.b (ordB 22 x y))
  | 23, [.i x, .i y] => .ok (.b (ordB 23 x y))
  | 24, [.i x, .i y] => .ok (.b (ordB 24 x y))
  | 25, [.d k, .s l] => .ok (.b (l.getD k.toNat false))
  | 26, [.s x, .s y] => .ok (.b (subB x y))
  | 27, [.s x, .s y] => .ok (.b (subB x y && subB y x))
  | 28, [.d x, .d y] => .ok (.b (x == y))
  | _, _ => .error 0
mutual
def ev (W : Wd) : Tm → Except Int Vv
  | .node op nm n _ _ ks =>
    match evs W ks with
    | .error k => .error k
    | .ok vs => app W op.toNat nm n vs
def evs (W : Wd) : List Tm → Except Int (List Vv)
  | [] => .ok []
  | t :: ts =>
    match ev W t with
    | .error k => .error k
    | .ok v =>
      match evs W ts with
      | .error k => .error k
      | .ok vs => .ok (v :: vs)
end
theorem ev_eq (W : Wd) (t : Tm) : ev W t = match evs W t.ks with
    | .error k => .error k
    | .ok vs => app W t.op.toNat t.nm t.n vs := by cases t; simp only [ev, Tm.ks, Tm.op, Tm.nm, Tm.n]
theorem ev0 {W : Wd} {t : Tm} (h : t.ks = []) : ev W t = app W t.op.toNat t.nm t.n [] := by rw [ev_eq, h]; rfl
theorem ev1e {W : Wd} {t k0 : Tm} {e : Int} (h : t.ks = [k0]) (h0 : ev W k0 = .error e) : ev W t = .error e := by rw [ev_eq, h]; simp only [evs, h0]
theorem ev1 {W : Wd} {t k0 : Tm} {v : Vv} (h : t.ks = [k0]) (h0 : ev W k0 = .ok v) : ev W t = app W t.op.toNat t.nm t.n [v] := by rw [ev_eq, h]; simp only [evs, h0]
theorem ev2e0 {W : Wd} {t k0 k1 : Tm} {e : Int} (h : t.ks = [k0, k1]) (h0 : ev W k0 = .error e) : ev W t = .error e := by rw [ev_eq, h]; simp only [evs, h0]
theorem ev2e1 {W : Wd} {t k0 k1 : Tm} {v : Vv} {e : Int} (h : t.ks = [k0, k1]) (h0 : ev W k0 = .ok v) (h1 : ev W k1 = .error e) : ev W t = .error e := by rw [ev_eq, h]; simp only [evs, h0, h1]
theorem ev2 {W : Wd} {t k0 k1 : Tm} {v u : Vv} (h : t.ks = [k0, k1]) (h0 : ev W k0 = .ok v) (h1 : ev W k1 = .ok u) : ev W t = app W t.op.toNat t.nm t.n [v, u] := by rw [ev_eq, h]; simp only [evs, h0, h1]

/-- may a value be one of its sort, among so many nodes? -/
def holdsV (N : Int) (v : Vl) : Bool :=
  if v.sort = 1 then !v.b && decide (v.s.length = 0)
  else if v.sort = 2 then v.n == 0 && !v.b && decide ((v.s.length : Int) = N)
  else if v.sort = 3 then decide (0 ≤ v.n) && decide (v.n < N) && !v.b && decide (v.s.length = 0)
  else if v.sort = 4 then v.n == 0 && decide (v.s.length = 0)
  else false
/-- what is known of a right world -/
structure Rt (W : Wd) : Prop where
  lo : 1 ≤ W.nodes
  hi : W.nodes ≤ 64
  hv : ∀ x ∈ W.l, holdsV W.nodes x.v = true ∧ fitB x.v.n = true
/-- is it a value of this sort? -/
def Ty (W : Wd) (s : Nat) (v : Vv) : Prop :=
  match s, v with
  | 1, .i n => fitB n = true
  | 2, .s l => l.length = W.nodes.toNat
  | 3, .d n => 0 ≤ n ∧ n < W.nodes
  | 4, .b _ => True
  | _, _ => False
theorem Ty.i {W : Wd} {v : Vv} (h : Ty W 1 v) : ∃ n, v = .i n ∧ fitB n = true := by cases v <;> first | exact ⟨_, rfl, h⟩ | exact absurd h id
theorem Ty.s {W : Wd} {v : Vv} (h : Ty W 2 v) : ∃ l, v = .s l ∧ l.length = W.nodes.toNat := by cases v <;> first | exact ⟨_, rfl, h⟩ | exact absurd h id
theorem Ty.d {W : Wd} {v : Vv} (h : Ty W 3 v) : ∃ n, v = .d n ∧ 0 ≤ n ∧ n < W.nodes := by cases v <;> first | exact ⟨_, rfl, h⟩ | exact absurd h id
theorem Ty.b {W : Wd} {v : Vv} (h : Ty W 4 v) : ∃ x, v = .b x := by cases v <;> first | exact ⟨_, rfl⟩ | exact absurd h id
def Res (W : Wd) (s : Nat) (r : Except Int Vv) : Prop :=
  match r with
  | .error k => k = 4 ∨ k = 5
  | .ok v => Ty W s v
theorem look_hold {W : Wd} {nm : ByteArray} {s : Int} {v : Vl} (hR : Rt W) (h : look W nm s = some v) : v.sort = s ∧ holdsV W.nodes v = true ∧ fitB v.n = true := by
  unfold look at h
  obtain ⟨x, hx, rfl⟩ := Option.map_eq_some_iff.1 h
  have h1 := List.find?_some hx
  unfold hitN at h1
  simp only [Bool.and_eq_true, beq_iff_eq] at h1
  exact ⟨h1.1, hR.hv x (List.mem_of_find?_eq_some hx)⟩
theorem look_i {W : Wd} {nm : ByteArray} {v : Vl} (hR : Rt W) (h : look W nm 1 = some v) : v.s.length = 0 ∧ fitB v.n = true := by
  obtain ⟨h1, h2, h3⟩ := look_hold hR h
  unfold holdsV at h2
  rw [h1] at h2
  simp at h2
  exact ⟨by rw [h2.2]; rfl, h3⟩
theorem look_s {W : Wd} {nm : ByteArray} {v : Vl} (hR : Rt W) (h : look W nm 2 = some v) : v.s.length = W.nodes.toNat := by
  obtain ⟨h1, h2, h3⟩ := look_hold hR h
  unfold holdsV at h2
  rw [h1] at h2
  simp at h2
  omega
theorem look_d {W : Wd} {nm : ByteArray} {v : Vl} (hR : Rt W) (h : look W nm 3 = some v) : v.s.length = 0 ∧ 0 ≤ v.n ∧ v.n < W.nodes := by
  obtain ⟨h1, h2, h3⟩ := look_hold hR h
  unfold holdsV at h2
  rw [h1] at h2
  simp at h2
  exact ⟨by rw [h2.2]; rfl, h2.1.1⟩
theorem look_b {W : Wd} {nm : ByteArray} {v : Vl} (hR : Rt W) (h : look W nm 4 = some v) : v.s.length = 0 := by
  obtain ⟨h1, h2, h3⟩ := look_hold hR h
  unfold holdsV at h2
  rw [h1] at h2
  simp at h2
  rw [h2.2]; rfl

/-- how a right term is made -/
theorem srt_form {t : Tm} (h : t.srt ≠ 0) : ∃ j : Nat, t.op = (j : Int) ∧ 1 ≤ j ∧ j ≤ 28 ∧ t.srt = (shRow j).sort ∧ ((shRow j).many = true ∨ t.ks.length = (shRow j).count) ∧ ∀ i (hi : i < t.ks.length), t.ks[i].srt = (shRow j).want i := by
  rw [srt_eq] at h
  have h0 := h
  unfold sortOf at h
  split at h
  · rename_i ho
    have e : t.op = ((t.op.toNat : Nat) : Int) := by omega
    split at h
    · rename_i hb
      refine ⟨t.op.toNat, e, by omega, by omega, ?_, ?_, ?_⟩
      · rw [srt_eq]
        unfold sortOf
        rw [if_pos ho, if_pos hb]
      · simp only [Bool.and_eq_true, holdsB, Bool.or_eq_true, decide_eq_true_eq] at hb
        simpa using hb.2.1
      · intro i hi
        simp only [Bool.and_eq_true, holdsB, List.all_eq_true, List.mem_range, decide_eq_true_eq] at hb
        have := hb.2.2 i (by simpa using hi)
        simpa [List.getD, hi] using this
    · exact absurd rfl h
  · exact absurd rfl h
theorem len0 {α : Type} {l : List α} (h : l.length = 0) : l = [] := List.eq_nil_of_length_eq_zero h
theorem len1 {α : Type} {l : List α} (h : l.length = 1) : ∃ a, l = [a] := by
  match l, h with
  | [a], _ => exact ⟨a, rfl⟩
theorem len2 {α : Type} {l : List α} (h : l.length = 2) : ∃ a b, l = [a, b] := by
  match l, h with
  | [a, b], _ => exact ⟨a, b, rfl⟩
theorem form0 {t : Tm} (j : Nat) (h : t.srt ≠ 0) (ho : t.op = (j : Int)) (hm : (shRow j).many = false) (hc : (shRow j).count = 0) : t.ks = [] ∧ t.srt = (shRow j).sort := by
  obtain ⟨i, h1, -, -, h4, h5, -⟩ := srt_form h
  obtain rfl : i = j := by omega
  rw [hm, hc] at h5
  exact ⟨len0 (by simpa using h5), h4⟩
theorem form1 {t : Tm} (j : Nat) (h : t.srt ≠ 0) (ho : t.op = (j : Int)) (hm : (shRow j).many = false) (hc : (shRow j).count = 1) : ∃ k0, t.ks = [k0] ∧ k0.srt = (shRow j).p0 ∧ t.srt = (shRow j).sort := by
  obtain ⟨i, h1, -, -, h4, h5, h6⟩ := srt_form h
  obtain rfl : i = j := by omega
  rw [hm, hc] at h5
  have hl : t.ks.length = 1 := by simpa using h5
  obtain ⟨a, ha⟩ := len1 hl
  refine ⟨a, ha, ?_, h4⟩
  have := h6 0 (by omega)
  simp only [ha, List.getElem_cons_zero] at this
  rw [this]; unfold Sh.want; rw [hm]; rfl
theorem form2 {t : Tm} (j : Nat) (h : t.srt ≠ 0) (ho : t.op = (j : Int)) (hm : (shRow j).many = false) (hc : (shRow j).count = 2) : ∃ k0 k1, t.ks = [k0, k1] ∧ k0.srt = (shRow j).p0 ∧ k1.srt = (shRow j).p1 ∧ t.srt = (shRow j).sort := by
  obtain ⟨i, h1, -, -, h4, h5, h6⟩ := srt_form h
  obtain rfl : i = j := by omega
  rw [hm, hc] at h5
  have hl : t.ks.length = 2 := by simpa using h5
  obtain ⟨a, b, ha⟩ := len2 hl
  refine ⟨a, b, ha, ?_, ?_, h4⟩
  · have := h6 0 (by omega)
    simp only [ha, List.getElem_cons_zero] at this
    rw [this]; unfold Sh.want; rw [hm]; rfl
  · have := h6 1 (by omega)
    simp only [ha, List.getElem_cons_succ, List.getElem_cons_zero] at this
    rw [this]; unfold Sh.want; rw [hm]; rfl
theorem formM {t : Tm} (j : Nat) (h : t.srt ≠ 0) (ho : t.op = (j : Int)) (hm : (shRow j).many = true) : (∀ k ∈ t.ks, k.srt = (shRow j).p0) ∧ t.srt = (shRow j).sort := by
  obtain ⟨i, h1, -, -, h4, -, h6⟩ := srt_form h
  obtain rfl : i = j := by omega
  refine ⟨fun k hk => ?_, h4⟩
  obtain ⟨i, hi, rfl⟩ := List.mem_iff_getElem.1 hk
  rw [h6 i hi]; unfold Sh.want; rw [hm]; rfl
theorem evs_bits {W : Wd} : ∀ {ks : List Tm}, (∀ k ∈ ks, Res W 4 (ev W k)) → (∃ e, evs W ks = .error e ∧ (e = 4 ∨ e = 5)) ∨ ∃ l : List Bool, evs W ks = .ok (l.map Vv.b) ∧ l.length = ks.length
  | [], _ => .inr ⟨[], rfl, rfl⟩
  | k :: ks, h => by
    have h0 := h k (by simp)
    cases hk : ev W k with
    | error e => rw [hk] at h0; exact .inl ⟨e, by simp only [evs, hk], h0⟩
    | ok v =>
      rw [hk] at h0
      obtain ⟨x, rfl⟩ := Ty.b h0
      rcases evs_bits (ks := ks) (fun k hk => h k (by simp [hk])) with ⟨e, he, h5⟩ | ⟨l, hl, hn⟩
      · exact .inl ⟨e, by simp only [evs, hk, he], h5⟩
      · exact .inr ⟨x :: l, by simp only [evs, hk, hl, List.map_cons], by simp [hn]⟩
theorem evM {W : Wd} {t : Tm} {l : List Bool} (h : evs W t.ks = .ok (l.map Vv.b)) : ev W t = app W t.op.toNat t.nm t.n (l.map Vv.b) := by rw [ev_eq, h]
theorem evMe {W : Wd} {t : Tm} {e : Int} (h : evs W t.ks = .error e) : ev W t = .error e := by rw [ev_eq, h]
theorem bits_all (l : List Bool) : (l.map Vv.b).all Vv.bit = l.all id := by induction l with | nil => rfl | cons x l ih => simp only [List.map_cons, List.all_cons, ih, Vv.bit, id]
theorem bits_any (l : List Bool) : (l.map Vv.b).any Vv.bit = l.any id := by induction l with | nil => rfl | cons x l ih => simp only [List.map_cons, List.any_cons, ih, Vv.bit, id]
theorem fitE_res (W : Wd) (n : Int) : Res W 1 (fitE n) := by
  unfold fitE
  cases h : fitB n
  · exact .inr rfl
  · exact h
theorem cnt_fit {W : Wd} {l : List Bool} (hR : Rt W) (h : l.length = W.nodes.toNat) : fitB (cntB l) = true := by
  have := cntB_le l
  have := hR.hi
  rw [fitB_iff]; omega
theorem lookE_res {W : Wd} {o : Option Vl} {f : Vl → Vv} {s : Nat} (h : ∀ v, o = some v → Ty W s (f v)) : Res W s (lookE o f) := by
  cases o with
  | none => exact .inl rfl
  | some v => exact h v rfl
theorem oneS_len (N k : Nat) : (oneS N k).length = N := by simp [oneS]

theorem ev_ty {W : Wd} (hR : Rt W) {w : World} {B : Nat} : ∀ t : Tm, TIn w B t → t.srt ≠ 0 → Res W t.srt (ev W t) := by
  intro t
  induction t using Tm.ind with
  | h t ih =>
    intro hin hs
    obtain ⟨j, hj, j1, j2, -⟩ := srt_form hs
    have ho : t.op.toNat = j := by omega
    have hk : ∀ k ∈ t.ks, k.srt ≠ 0 → Res W k.srt (ev W k) := fun k hk h => by
      obtain ⟨i, hi, rfl⟩ := List.mem_iff_getElem.1 hk
      exact ih _ hk (hin.kid i hi).1 h
    rcases (show j = 1 ∨ j = 2 ∨ j = 3 ∨ j = 4 ∨ j = 5 ∨ j = 6 ∨ j = 7 ∨ j = 8 ∨ j = 9 ∨ j = 10 ∨ j = 11 ∨ j = 12 ∨ j = 13 ∨ j = 14 ∨ j = 15 ∨ j = 16 ∨ j = 17 ∨ j = 18 ∨ j = 19 ∨ j = 20 ∨ j = 21 ∨ j = 22 ∨ j = 23 ∨ j = 24 ∨ j = 25 ∨ j = 26 ∨ j = 27 ∨ j = 28 by omega) with rfl | rfl | rfl | rfl | rfl | rfl | rfl | rfl | rfl | rfl | rfl | rfl | rfl | rfl | rfl | rfl | rfl | rfl | rfl | rfl | rfl | rfl | rfl | rfl | rfl | rfl | rfl | rfl
    · obtain ⟨hks, e⟩ := form0 1 hs hj rfl rfl
      rw [e, ev0 hks, ho]
      show Res W 1 _
      exact hin.nums.2.1
    · obtain ⟨hks, e⟩ := form0 2 hs hj rfl rfl
      rw [e, ev0 hks, ho]
      show Res W 1 _
      exact lookE_res (fun v h => (look_i hR h).2)
    · obtain ⟨k0, hks, s0, e⟩ := form1 3 hs hj rfl rfl
      rw [e]
      have s0' : k0.srt = 2 := s0
      have r0 := hk k0 (by simp [hks]) (by rw [s0']; decide)
      rw [s0'] at r0
      cases h0 : ev W k0 with
      | error x => rw [ev1e hks h0]; rw [h0] at r0; exact r0
      | ok v =>
        rw [h0] at r0
        obtain ⟨x0, rfl, hl0⟩ := Ty.s r0
        rw [ev1 hks h0, ho]
        show Res W 1 _
        exact cnt_fit hR hl0
    · obtain ⟨k0, k1, hks, s0, s1, e⟩ := form2 4 hs hj rfl rfl
      rw [e]
      have s0' : k0.srt = 1 := s0
      have s1' : k1.srt = 1 := s1
      have r0 := hk k0 (by simp [hks]) (by rw [s0']; decide)
      have r1 := hk k1 (by simp [hks]) (by rw [s1']; decide)
      rw [s0'] at r0
      rw [s1'] at r1
      cases h0 : ev W k0 with
      | error x => rw [ev2e0 hks h0]; rw [h0] at r0; exact r0
      | ok v =>
        rw [h0] at r0
        cases h1 : ev W k1 with
        | error x => rw [ev2e1 hks h0 h1]; rw [h1] at r1; exact r1
        | ok u =>
          rw [h1] at r1
          obtain ⟨x0, rfl, hl0⟩ := Ty.i r0
          obtain ⟨x1, rfl, hl1⟩ := Ty.i r1
          rw [ev2 hks h0 h1, ho]
          show Res W 1 _
          exact fitE_res W _
    · obtain ⟨k0, k1, hks, s0, s1, e⟩ := form2 5 hs hj rfl rfl
      rw [e]
      have s0' : k0.srt = 1 := s0
      have s1' : k1.srt = 1 := s1
      have r0 := hk k0 (by simp [hks]) (by rw [s0']; decide)
      have r1 := hk k1 (by simp [hks]) (by rw [s1']; decide)
      rw [s0'] at r0
      rw [s1'] at r1
      cases h0 : ev W k0 with
      | error x => rw [ev2e0 hks h0]; rw [h0] at r0; exact r0
      | ok v =>
        rw [h0] at r0
        cases h1 : ev W k1 with
        | error x => rw [ev2e1 hks h0 h1]; rw [h1] at r1; exact r1
        | ok u =>
          rw [h1] at r1
          obtain ⟨x0, rfl, hl0⟩ := Ty.i r0
          obtain ⟨x1, rfl, hl1⟩ := Ty.i r1
          rw [ev2 hks h0 h1, ho]
          show Res W 1 _
          exact fitE_res W _
    · obtain ⟨k0, hks, s0, e⟩ := form1 6 hs hj rfl rfl
      rw [e]
      have s0' : k0.srt = 1 := s0
      have r0 := hk k0 (by simp [hks]) (by rw [s0']; decide)
      rw [s0'] at r0
      cases h0 : ev W k0 with
      | error x => rw [ev1e hks h0]; rw [h0] at r0; exact r0
      | ok v =>
        rw [h0] at r0
        obtain ⟨x0, rfl, hl0⟩ := Ty.i r0
        rw [ev1 hks h0, ho]
        show Res W 1 _
        exact fitE_res W _
    · obtain ⟨hks, e⟩ := form0 7 hs hj rfl rfl
      rw [e, ev0 hks, ho]
      show Res W 2 _
      exact lookE_res (fun v h => look_s hR h)
    · obtain ⟨hks, e⟩ := form0 8 hs hj rfl rfl
      rw [e, ev0 hks, ho]
      show Res W 2 _
      exact List.length_replicate ..
    · obtain ⟨hks, e⟩ := form0 9 hs hj rfl rfl
      rw [e, ev0 hks, ho]
      show Res W 2 _
      exact List.length_replicate ..
    · obtain ⟨k0, hks, s0, e⟩ := form1 10 hs hj rfl rfl
      rw [e]
      have s0' : k0.srt = 3 := s0
      have r0 := hk k0 (by simp [hks]) (by rw [s0']; decide)
      rw [s0'] at r0
      cases h0 : ev W k0 with
      | error x => rw [ev1e hks h0]; rw [h0] at r0; exact r0
      | ok v =>
        rw [h0] at r0
        obtain ⟨x0, rfl, hl0⟩ := Ty.d r0
        rw [ev1 hks h0, ho]
        show Res W 2 _
        exact oneS_len _ _
    · obtain ⟨k0, k1, hks, s0, s1, e⟩ := form2 11 hs hj rfl rfl
      rw [e]
      have s0' : k0.srt = 2 := s0
      have s1' : k1.srt = 2 := s1
      have r0 := hk k0 (by simp [hks]) (by rw [s0']; decide)
      have r1 := hk k1 (by simp [hks]) (by rw [s1']; decide)
      rw [s0'] at r0
      rw [s1'] at r1
      cases h0 : ev W k0 with
      | error x => rw [ev2e0 hks h0]; rw [h0] at r0; exact r0
      | ok v =>
        rw [h0] at r0
        cases h1 : ev W k1 with
        | error x => rw [ev2e1 hks h0 h1]; rw [h1] at r1; exact r1
        | ok u =>
          rw [h1] at r1
          obtain ⟨x0, rfl, hl0⟩ := Ty.s r0
          obtain ⟨x1, rfl, hl1⟩ := Ty.s r1
          rw [ev2 hks h0 h1, ho]
          show Res W 2 _
          show (List.zipWith _ _ _).length = _; rw [List.length_zipWith, hl0, hl1, Nat.min_self]
    · obtain ⟨k0, k1, hks, s0, s1, e⟩ := form2 12 hs hj rfl rfl
      rw [e]
      have s0' : k0.srt = 2 := s0
      have s1' : k1.srt = 2 := s1
      have r0 := hk k0 (by simp [hks]) (by rw [s0']; decide)
      have r1 := hk k1 (by simp [hks]) (by rw [s1']; decide)
      rw [s0'] at r0
      rw [s1'] at r1
      cases h0 : ev W k0 with
      | error x => rw [ev2e0 hks h0]; rw [h0] at r0; exact r0
      | ok v =>
        rw [h0] at r0
        cases h1 : ev W k1 with
        | error x => rw [ev2e1 hks h0 h1]; rw [h1] at r1; exact r1
        | ok u =>
          rw [h1] at r1
          obtain ⟨x0, rfl, hl0⟩ := Ty.s r0
          obtain ⟨x1, rfl, hl1⟩ := Ty.s r1
          rw [ev2 hks h0 h1, ho]
          show Res W 2 _
          show (List.zipWith _ _ _).length = _; rw [List.length_zipWith, hl0, hl1, Nat.min_self]
    · obtain ⟨k0, k1, hks, s0, s1, e⟩ := form2 13 hs hj rfl rfl
      rw [e]
      have s0' : k0.srt = 2 := s0
      have s1' : k1.srt = 2 := s1
      have r0 := hk k0 (by simp [hks]) (by rw [s0']; decide)
      have r1 := hk k1 (by simp [hks]) (by rw [s1']; decide)
      rw [s0'] at r0
      rw [s1'] at r1
      cases h0 : ev W k0 with
      | error x => rw [ev2e0 hks h0]; rw [h0] at r0; exact r0
      | ok v =>
        rw [h0] at r0
        cases h1 : ev W k1 with
        | error x => rw [ev2e1 hks h0 h1]; rw [h1] at r1; exact r1
        | ok u =>
          rw [h1] at r1
          obtain ⟨x0, rfl, hl0⟩ := Ty.s r0
          obtain ⟨x1, rfl, hl1⟩ := Ty.s r1
          rw [ev2 hks h0 h1, ho]
          show Res W 2 _
          show (List.zipWith _ _ _).length = _; rw [List.length_zipWith, hl0, hl1, Nat.min_self]
    · obtain ⟨hks, e⟩ := form0 14 hs hj rfl rfl
      rw [e, ev0 hks, ho]
      show Res W 3 _
      exact lookE_res (fun v h => (look_d hR h).2)
    · obtain ⟨hks, e⟩ := form0 15 hs hj rfl rfl
      rw [e, ev0 hks, ho]
      show Res W 4 _
      exact lookE_res (fun v h => trivial)
    · obtain ⟨hks, e⟩ := form0 16 hs hj rfl rfl
      rw [e, ev0 hks, ho]
      show Res W 4 _
      exact trivial
    · obtain ⟨hks, e⟩ := form0 17 hs hj rfl rfl
      rw [e, ev0 hks, ho]
      show Res W 4 _
      exact trivial
    · obtain ⟨k0, hks, s0, e⟩ := form1 18 hs hj rfl rfl
      rw [e]
      have s0' : k0.srt = 4 := s0
      have r0 := hk k0 (by simp [hks]) (by rw [s0']; decide)
      rw [s0'] at r0
      cases h0 : ev W k0 with
      | error x => rw [ev1e hks h0]; rw [h0] at r0; exact r0
      | ok v =>
        rw [h0] at r0
        obtain ⟨x0, rfl⟩ := Ty.b r0
        rw [ev1 hks h0, ho]
        show Res W 4 _
        exact trivial
    · obtain ⟨hks, e⟩ := formM 19 hs hj rfl
      rw [e]
      rcases evs_bits (W := W) (ks := t.ks) (fun k hm => by have e4 : k.srt = 4 := hks k hm; have := hk k hm (by rw [e4]; decide); rw [e4] at this; exact this) with ⟨x, hx, h5⟩ | ⟨l, hl, -⟩
      · rw [evMe hx]; exact h5
      · rw [evM hl, ho]; exact trivial
    · obtain ⟨hks, e⟩ := formM 20 hs hj rfl
      rw [e]
      rcases evs_bits (W := W) (ks := t.ks) (fun k hm => by have e4 : k.srt = 4 := hks k hm; have := hk k hm (by rw [e4]; decide); rw [e4] at this; exact this) with ⟨x, hx, h5⟩ | ⟨l, hl, -⟩
      · rw [evMe hx]; exact h5
      · rw [evM hl, ho]; exact trivial
    · obtain ⟨k0, k1, hks, s0, s1, e⟩ := form2 21 hs hj rfl rfl
      rw [e]
      have s0' : k0.srt = 4 := s0
      have s1' : k1.srt = 4 := s1
      have r0 := hk k0 (by simp [hks]) (by rw [s0']; decide)
      have r1 := hk k1 (by simp [hks]) (by rw [s1']; decide)
      rw [s0'] at r0
      rw [s1'] at r1
      cases h0 : ev W k0 with
      | error x => rw [ev2e0 hks h0]; rw [h0] at r0; exact r0
      | ok v =>
        rw [h0] at r0
        cases h1 : ev W k1 with
        | error x => rw [ev2e1 hks h0 h1]; rw [h1] at r1; exact r1
        | ok u =>
          rw [h1] at r1
          obtain ⟨x0, rfl⟩ := Ty.b r0
          obtain ⟨x1, rfl⟩ := Ty.b r1
          rw [ev2 hks h0 h1, ho]
          show Res W 4 _
          exact trivial
    · obtain ⟨k0, k1, hks, s0, s1, e⟩ := form2 22 hs hj rfl rfl
      rw [e]
      have s0' : k0.srt = 1 := s0
      have s1' : k1.srt = 1 := s1
      have r0 := hk k0 (by simp [hks]) (by rw [s0']; decide)
      have r1 := hk k1 (by simp [hks]) (by rw [s1']; decide)
      rw [s0'] at r0
      rw [s1'] at r1
      cases h0 : ev W k0 with
      | error x => rw [ev2e0 hks h0]; rw [h0] at r0; exact r0
      | ok v =>
        rw [h0] at r0
        cases h1 : ev W k1 with
        | error x => rw [ev2e1 hks h0 h1]; rw [h1] at r1; exact r1
        | ok u =>
          rw [h1] at r1
          obtain ⟨x0, rfl, hl0⟩ := Ty.i r0
          obtain ⟨x1, rfl, hl1⟩ := Ty.i r1
          rw [ev2 hks h0 h1, ho]
          show Res W 4 _
          exact trivial
    · obtain ⟨k0, k1, hks, s0, s1, e⟩ := form2 23 hs hj rfl rfl
      rw [e]
      have s0' : k0.srt = 1 := s0
      have s1' : k1.srt = 1 := s1
      have r0 := hk k0 (by simp [hks]) (by rw [s0']; decide)
      have r1 := hk k1 (by simp [hks]) (by rw [s1']; decide)
      rw [s0'] at r0
      rw [s1'] at r1
      cases h0 : ev W k0 with
      | error x => rw [ev2e0 hks h0]; rw [h0] at r0; exact r0
      | ok v =>
        rw [h0] at r0
        cases h1 : ev W k1 with
        | error x => rw [ev2e1 hks h0 h1]; rw [h1] at r1; exact r1
        | ok u =>
          rw [h1] at r1
          obtain ⟨x0, rfl, hl0⟩ := Ty.i r0
          obtain ⟨x1, rfl, hl1⟩ := Ty.i r1
          rw [ev2 hks h0 h1, ho]
          show Res W 4 _
          exact trivial
    · obtain ⟨k0, k1, hks, s0, s1, e⟩ := form2 24 hs hj rfl rfl
      rw [e]
      have s0' : k0.srt = 1 := s0
      have s1' : k1.srt = 1 := s1
      have r0 := hk k0 (by simp [hks]) (by rw [s0']; decide)
      have r1 := hk k1 (by simp [hks]) (by rw [s1']; decide)
      rw [s0'] at r0
      rw [s1'] at r1
      cases h0 : ev W k0 with
      | error x => rw [ev2e0 hks h0]; rw [h0] at r0; exact r0
      | ok v =>
        rw [h0] at r0
        cases h1 : ev W k1 with
        | error x => rw [ev2e1 hks h0 h1]; rw [h1] at r1; exact r1
        | ok u =>
          rw [h1] at r1
          obtain ⟨x0, rfl, hl0⟩ := Ty.i r0
          obtain ⟨x1, rfl, hl1⟩ := Ty.i r1
          rw [ev2 hks h0 h1, ho]
          show Res W 4 _
          exact trivial
    · obtain ⟨k0, k1, hks, s0, s1, e⟩ := form2 25 hs hj rfl rfl
      rw [e]
      have s0' : k0.srt = 3 := s0
      have s1' : k1.srt = 2 := s1
      have r0 := hk k0 (by simp [hks]) (by rw [s0']; decide)
      have r1 := hk k1 (by simp [hks]) (by rw [s1']; decide)
      rw [s0'] at r0
      rw [s1'] at r1
      cases h0 : ev W k0 with
      | error x => rw [ev2e0 hks h0]; rw [h0] at r0; exact r0
      | ok v =>
        rw [h0] at r0
        cases h1 : ev W k1 with
        | error x => rw [ev2e1 hks h0 h1]; rw [h1] at r1; exact r1
        | ok u =>
          rw [h1] at r1
          obtain ⟨x0, rfl, hl0⟩ := Ty.d r0
          obtain ⟨x1, rfl, hl1⟩ := Ty.s r1
          rw [ev2 hks h0 h1, ho]
          show Res W 4 _
          exact trivial
    · obtain ⟨k0, k1, hks, s0, s1, e⟩ := form2 26 hs hj rfl rfl
      rw [e]
      have s0' : k0.srt = 2 := s0
      have s1' : k1.srt = 2 := s1
      have r0 := hk k0 (by simp [hks]) (by rw [s0']; decide)
      have r1 := hk k1 (by simp [hks]) (by rw [s1']; decide)
      rw [s0'] at r0
      rw [s1'] at r1
      cases h0 : ev W k0 with
      | error x => rw [ev2e0 hks h0]; rw [h0] at r0; exact r0
      | ok v =>
        rw [h0] at r0
        cases h1 : ev W k1 with
        | error x => rw [ev2e1 hks h0 h1]; rw [h1] at r1; exact r1
        | ok u =>
          rw [h1] at r1
          obtain ⟨x0, rfl, hl0⟩ := Ty.s r0
          obtain ⟨x1, rfl, hl1⟩ := Ty.s r1
          rw [ev2 hks h0 h1, ho]
          show Res W 4 _
          exact trivial
    · obtain ⟨k0, k1, hks, s0, s1, e⟩ := form2 27 hs hj rfl rfl
      rw [e]
      have s0' : k0.srt = 2 := s0
      have s1' : k1.srt = 2 := s1
      have r0 := hk k0 (by simp [hks]) (by rw [s0']; decide)
      have r1 := hk k1 (by simp [hks]) (by rw [s1']; decide)
      rw [s0'] at r0
      rw [s1'] at r1
      cases h0 : ev W k0 with
      | error x => rw [ev2e0 hks h0]; rw [h0] at r0; exact r0
      | ok v =>
        rw [h0] at r0
        cases h1 : ev W k1 with
        | error x => rw [ev2e1 hks h0 h1]; rw [h1] at r1; exact r1
        | ok u =>
          rw [h1] at r1
          obtain ⟨x0, rfl, hl0⟩ := Ty.s r0
          obtain ⟨x1, rfl, hl1⟩ := Ty.s r1
          rw [ev2 hks h0 h1, ho]
          show Res W 4 _
          exact trivial
    · obtain ⟨k0, k1, hks, s0, s1, e⟩ := form2 28 hs hj rfl rfl
      rw [e]
      have s0' : k0.srt = 3 := s0
      have s1' : k1.srt = 3 := s1
      have r0 := hk k0 (by simp [hks]) (by rw [s0']; decide)
      have r1 := hk k1 (by simp [hks]) (by rw [s1']; decide)
      rw [s0'] at r0
      rw [s1'] at r1
      cases h0 : ev W k0 with
      | error x => rw [ev2e0 hks h0]; rw [h0] at r0; exact r0
      | ok v =>
        rw [h0] at r0
        cases h1 : ev W k1 with
        | error x => rw [ev2e1 hks h0 h1]; rw [h1] at r1; exact r1
        | ok u =>
          rw [h1] at r1
          obtain ⟨x0, rfl, hl0⟩ := Ty.d r0
          obtain ⟨x1, rfl, hl1⟩ := Ty.d r1
          rw [ev2 hks h0 h1, ho]
          show Res W 4 _
          exact trivial
end
section
open Go.RowKit

theorem er_ev (W : Wd) (t : Tm) : ev W t.er = ev W t := by
  induction t using Tm.ind with
  | h t ih =>
    have hs : ∀ ks : List Tm, (∀ k ∈ ks, ev W k.er = ev W k) → evs W (ks.map Tm.er) = evs W ks := by
      intro ks
      induction ks with
      | nil => intro _; rfl
      | cons k ks ihk =>
        intro h
        simp only [List.map_cons, evs]
        rw [h k (by simp), ihk (fun q hq => h q (by simp [hq]))]
    obtain ⟨h1, h2, h3, h4⟩ := er_op t
    rw [ev_eq, ev_eq W t, h1, h2, h3, h4, hs t.ks ih]
end
section
namespace Nu

/-- an int64 -/
def fitB (n : Int) : Bool := decide (-9223372036854775808 ≤ n) && decide (n ≤ 9223372036854775807)
theorem fitB_iff (n : Int) : fitB n = true ↔ -9223372036854775808 ≤ n ∧ n ≤ 9223372036854775807 := by
  simp [fitB]
theorem fitB_not (n : Int) : fitB n = false ↔ n < -9223372036854775808 ∨ 9223372036854775807 < n := by
  rw [← Bool.not_eq_true, fitB_iff]; omega
/-- what is told of a number: itself, or 0 -/
def tel (n : Int) : Int := if fitB n then n else 0
theorem tel_fit {n : Int} (h : fitB n = true) : tel n = n := by simp [tel, h]
theorem tel_not {n : Int} (h : fitB n = false) : tel n = 0 := by simp [tel, h]

/-- how far a number is from 0 -/
def szI (a : Int) : Int := (a.natAbs : Int)
theorem szI_nonneg (a : Int) : 0 ≤ szI a := by unfold szI; omega
theorem szI_neg {a : Int} (h : a < 0) : szI a = -a := by unfold szI; omega
theorem szI_pos {a : Int} (h : 0 ≤ a) : szI a = a := by unfold szI; omega
/-- the number that is so far from 0, below it or not -/
def sgnI (b : Bool) (x : Int) : Int := if b then -x else x
/-- the greatest common divisor -/
def gcdI (a b : Int) : Int := (Nat.gcd a.natAbs b.natAbs : Nat)
theorem gcdI_nonneg (a b : Int) : 0 ≤ gcdI a b := by unfold gcdI; omega
theorem gcdI_step (a b : Int) (ha : 0 ≤ a) (hb : 0 < b) : gcdI b (a % b) = gcdI a b := by
  unfold gcdI
  have e : (a % b).natAbs = a.natAbs % b.natAbs := by
    obtain ⟨x, rfl⟩ := Int.eq_ofNat_of_zero_le ha
    obtain ⟨y, rfl⟩ := Int.eq_ofNat_of_zero_le (Int.le_of_lt hb)
    show ((x : Int) % (y : Int)).natAbs = x % y
    rw [← Int.natCast_emod]; exact Int.natAbs_natCast _
  rw [e, Nat.gcd_comm, ← Nat.gcd_rec, Nat.gcd_comm]
theorem gcdI_zero (a : Int) (ha : 0 ≤ a) : gcdI a 0 = a := by
  unfold gcdI; simp; omega
theorem gcdI_szI (a b : Int) : gcdI (szI a) (szI b) = gcdI a b := by unfold gcdI szI; simp

/-- the two words of a number of 128 bits -/
def hiW (W : Int) : Int := (W / 18446744073709551616) % 18446744073709551616
def loW (W : Int) : Int := W % 18446744073709551616
theorem hiW_nonneg (W : Int) : 0 ≤ hiW W := by unfold hiW; omega
theorem hiW_lt (W : Int) : hiW W < 18446744073709551616 := by unfold hiW; omega
theorem loW_nonneg (W : Int) : 0 ≤ loW W := by unfold loW; omega
theorem loW_lt (W : Int) : loW W < 18446744073709551616 := by unfold loW; omega
/-- the borrow -/
def bor (x y : Int) : Int := if x < y then 1 else 0
theorem bor_nonneg (x y : Int) : 0 ≤ bor x y := by unfold bor; split <;> omega
theorem bor_le (x y : Int) : bor x y ≤ 1 := by unfold bor; split <;> omega
theorem lo_add (W V : Int) : (loW W + loW V) % 18446744073709551616 = loW (W + V) := by unfold loW; omega
theorem hi_add (W V : Int) : (hiW W + hiW V + (loW W + loW V) / 18446744073709551616) % 18446744073709551616 = hiW (W + V) := by
  unfold hiW loW; omega
theorem lo_sub (W V : Int) : (loW W - loW V) % 18446744073709551616 = loW (W - V) := by unfold loW; omega
theorem hi_sub (W V : Int) : (hiW W - hiW V - bor (loW W) (loW V)) % 18446744073709551616 = hiW (W - V) := by
  unfold bor hiW loW; split <;> omega
/-- is a number of 128 bits below 0? -/
def negB (W : Int) : Bool := decide (W < 0)
/-- the range of numbers of 128 bits, without the least -/
def Wide (W : Int) : Prop := -170141183460469231731687303715884105728 < W ∧ W < 170141183460469231731687303715884105728
theorem neg_hi (W : Int) (h : Wide W) : (hiW W / 9223372036854775808 == 1) = negB W := by
  unfold Wide at h; unfold negB
  rw [Bool.eq_iff_iff, beq_iff_eq, decide_eq_true_iff]
  unfold hiW; omega
theorem wide_mul {a b : Int} (ha : fitB a = true) (hb : fitB b = true) : -85070591730234615856620279821087277056 ≤ a * b ∧ a * b ≤ 85070591730234615865843651857942052864 := by
  rw [fitB_iff] at ha hb
  have h1 : 0 ≤ (a + 9223372036854775808) * (b + 9223372036854775808) := Int.mul_nonneg (by omega) (by omega)
  have h2 : 0 ≤ (9223372036854775807 - a) * (9223372036854775807 - b) := Int.mul_nonneg (by omega) (by omega)
  have h3 : 0 ≤ (a + 9223372036854775808) * (9223372036854775807 - b) := Int.mul_nonneg (by omega) (by omega)
  have h4 : 0 ≤ (9223372036854775807 - a) * (b + 9223372036854775808) := Int.mul_nonneg (by omega) (by omega)
  rw [Int.add_mul, Int.mul_add, Int.mul_add] at h1
  rw [Int.sub_mul, Int.mul_sub, Int.mul_sub] at h2
  rw [Int.add_mul, Int.mul_sub, Int.mul_sub] at h3
  rw [Int.sub_mul, Int.mul_add, Int.mul_add] at h4
  generalize a * b = c at *
  omega
theorem wide_mul_pos {a y : Int} (ha : fitB a = true) (hy : fitB y = true) (hy0 : 0 ≤ y) : -85070591730234615856620279821087277056 ≤ a * y ∧ a * y ≤ 85070591730234615856620279821087277056 := by
  rw [fitB_iff] at ha hy
  have h1 : 0 ≤ (a + 9223372036854775808) * y := Int.mul_nonneg (by omega) hy0
  have h2 : 0 ≤ (9223372036854775807 - a) * y := Int.mul_nonneg (by omega) hy0
  rw [Int.add_mul] at h1
  rw [Int.sub_mul] at h2
  generalize a * y = c at *
  omega
theorem wide_small {W : Int} (h : -85070591730234615856620279821087277056 ≤ W ∧ W ≤ 85070591730234615865843651857942052864) : Wide W := by unfold Wide; omega
/-- the product of two sizes, turned or not -/
theorem sz_mul (a b : Int) : szI a * szI b = szI (a * b) := by unfold szI; rw [Int.natAbs_mul]; exact (Int.natCast_mul _ _).symm
theorem sz_lt {a : Int} (h1 : -9223372036854775808 ≤ a) (h2 : a ≤ 9223372036854775807) : szI a < 18446744073709551616 := by unfold szI; omega
theorem sz_small {W : Int} (h : -85070591730234615856620279821087277056 ≤ W ∧ W ≤ 85070591730234615865843651857942052864) : szI W < 170141183460469231731687303715884105728 := by unfold szI; omega
theorem hi_nat (W : Int) (h0 : 0 ≤ W) (h : W < 340282366920938463463374607431768211456) : hiW W = W / 18446744073709551616 := by unfold hiW; omega
theorem hiW_zero : hiW 0 = 0 := by decide
theorem loW_zero : loW 0 = 0 := by decide
theorem mul_signs {a b : Int} (h : (decide (a < 0) != decide (b < 0)) = true) : a * b = -szI (a * b) := by
  have h2 : a * b ≤ 0 := by
    by_cases ha : a < 0 <;> by_cases hb : b < 0 <;> simp [ha, hb] at h
    · exact Int.mul_nonpos_of_nonpos_of_nonneg (by omega) (by omega)
    · exact Int.mul_nonpos_of_nonneg_of_nonpos (by omega) (by omega)
  unfold szI; omega
theorem mul_signs' {a b : Int} (h : (decide (a < 0) != decide (b < 0)) = false) : a * b = szI (a * b) := by
  have h2 : 0 ≤ a * b := by
    by_cases ha : a < 0 <;> by_cases hb : b < 0 <;> simp [ha, hb] at h
    · exact Int.mul_nonneg_of_nonpos_of_nonpos (by omega) (by omega)
    · exact Int.mul_nonneg (by omega) (by omega)
  unfold szI; omega
theorem sgn_sz (W : Int) : sgnI (negB W) (szI W) = W := by
  unfold sgnI negB szI
  by_cases h : W < 0 <;> simp [h] <;> omega
/-! ### long division by two digits of 32 bits -/
/-- the digit that is looked for -/
theorem mulY (q y1 y0 : Int) : q * (y1 * 4294967296 + y0) = 4294967296 * (q * y1) + q * y0 := by grind
theorem first_le (u v y1 y0 : Int) (h1 : 2147483648 ≤ y1) (h0 : 0 ≤ y0) (hu : 0 ≤ u) (hv0 : 0 ≤ v) (hv : v < 4294967296) :
    (u * 4294967296 + v) / (y1 * 4294967296 + y0) ≤ u / y1 := by
  have hy : 0 < y1 := by omega
  have hY : 0 < y1 * 4294967296 + y0 := by omega
  have hm := Int.ediv_mul_le (u * 4294967296 + v) (b := y1 * 4294967296 + y0) (by omega)
  have hq0 : 0 ≤ (u * 4294967296 + v) / (y1 * 4294967296 + y0) := Int.ediv_nonneg (by omega) (by omega)
  generalize (u * 4294967296 + v) / (y1 * 4294967296 + y0) = Q at *
  rw [mulY] at hm
  have hp : 0 ≤ Q * y0 := Int.mul_nonneg hq0 h0
  rw [Int.le_ediv_iff_mul_le hy]
  omega
theorem first_rest (u y1 : Int) (h1 : 2147483648 ≤ y1) : 0 ≤ u - u / y1 * y1 ∧ u - u / y1 * y1 < y1 := by
  have h := Int.emod_nonneg u (b := y1) (by omega)
  have h' := Int.emod_lt_of_pos u (b := y1) (by omega)
  have e := Int.emod_add_mul_ediv u y1
  rw [Int.mul_comm] at e
  omega
theorem first_bound (u y1 : Int) (h1 : 2147483648 ≤ y1) (hu : 0 ≤ u) (hu2 : u < 18446744073709551616) : 0 ≤ u / y1 ∧ u / y1 ≤ 8589934592 := by
  refine ⟨Int.ediv_nonneg hu (by omega), ?_⟩
  have h := Int.ediv_mul_le u (b := y1) (by omega)
  have hq0 : 0 ≤ u / y1 := Int.ediv_nonneg hu (by omega)
  generalize u / y1 = q at *
  rcases Int.lt_or_le 8589934592 q with hc | hc
  · have := Int.mul_le_mul (show (8589934593 : Int) ≤ q by omega) h1 (by omega) hq0
    omega
  · exact hc
/-- the test says: too large -/
theorem too_large (u v y1 y0 q r : Int) (h1 : 2147483648 ≤ y1) (h0 : 0 ≤ y0) (hr : r = u - q * y1)
    (ht : 4294967296 * r + v < q * y0) : (u * 4294967296 + v) / (y1 * 4294967296 + y0) ≤ q - 1 := by
  have hY : 0 < y1 * 4294967296 + y0 := by omega
  have h : (u * 4294967296 + v) / (y1 * 4294967296 + y0) < q := by
    rw [Int.ediv_lt_iff_lt_mul hY, mulY]; omega
  omega
theorem too_large2 (u v y1 y0 q : Int) (hY : 0 < y1 * 4294967296 + y0) (hu : u < y1 * 4294967296 + y0) (hv : v < 4294967296)
    (ht : 4294967296 ≤ q) : (u * 4294967296 + v) / (y1 * 4294967296 + y0) ≤ q - 1 := by
  have h : (u * 4294967296 + v) / (y1 * 4294967296 + y0) < 4294967296 := by
    rw [Int.ediv_lt_iff_lt_mul hY]; omega
  omega
/-- the test says: not too large -/
theorem just (u v y1 y0 q r : Int) (hY : 0 < y1 * 4294967296 + y0) (hr : r = u - q * y1) (hq : (u * 4294967296 + v) / (y1 * 4294967296 + y0) ≤ q)
    (ht : ¬ 4294967296 * r + v < q * y0) : q = (u * 4294967296 + v) / (y1 * 4294967296 + y0) := by
  have h : q ≤ (u * 4294967296 + v) / (y1 * 4294967296 + y0) := by
    rw [Int.le_ediv_iff_mul_le hY, mulY]; omega
  omega
/-- the rest is so large that no more is too large -/
theorem just2 (u v y1 y0 q r : Int) (h1 : 2147483648 ≤ y1) (hY : u < y1 * 4294967296 + y0) (h0 : 0 ≤ y0) (h0' : y0 < 4294967296) (hv : 0 ≤ v) (hr : r = u - q * y1) (hq0 : 0 ≤ q)
    (hq : (u * 4294967296 + v) / (y1 * 4294967296 + y0) ≤ q) (ht : 4294967296 ≤ r) : q = (u * 4294967296 + v) / (y1 * 4294967296 + y0) := by
  have hlt : q < 4294967296 := by
    rcases Int.lt_or_le q 4294967296 with h | h
    · exact h
    · have := Int.mul_le_mul_of_nonneg_right h (show 0 ≤ y1 by omega)
      omega
  have hm : q * y0 ≤ 4294967296 * 4294967296 := by
    have := Int.mul_le_mul (show q ≤ 4294967296 by omega) (show y0 ≤ 4294967296 by omega) h0 (by omega)
    exact this
  refine just u v y1 y0 q r (by omega) hr hq (by omega)
theorem small_mul (q y0 : Int) (hq0 : 0 ≤ q) (hq : q < 4294967296) (h0 : 0 ≤ y0) (h0' : y0 < 4294967296) : 0 ≤ q * y0 ∧ q * y0 < 18446744073709551616 := by
  refine ⟨Int.mul_nonneg hq0 h0, ?_⟩
  have := Int.mul_le_mul (show q ≤ 4294967295 by omega) (show y0 ≤ 4294967295 by omega) h0 (by omega)
  omega
theorem rest_mod (N Y : Int) (hY : 0 < Y) (hY2 : Y ≤ 18446744073709551616) : (N - N / Y * Y) % 18446744073709551616 = N % Y := by
  have h := Int.emod_nonneg N (b := Y) (by omega)
  have h' := Int.emod_lt_of_pos N (b := Y) hY
  have e := Int.emod_add_mul_ediv N Y
  rw [Int.mul_comm] at e
  omega
/-- both digits together -/
theorem two_digits (u v1 v0 Y : Int) (hY : 0 < Y) :
    (u * 4294967296 + v1) / Y * 4294967296 + (((u * 4294967296 + v1) % Y) * 4294967296 + v0) / Y = ((u * 4294967296 + v1) * 4294967296 + v0) / Y ∧
    (((u * 4294967296 + v1) % Y) * 4294967296 + v0) % Y = ((u * 4294967296 + v1) * 4294967296 + v0) % Y := by
  generalize u * 4294967296 + v1 = N
  have e := Int.emod_add_mul_ediv N Y
  have hN : N * 4294967296 + v0 = (N % Y * 4294967296 + v0) + Y * (N / Y * 4294967296) := by grind
  rw [hN]
  constructor
  · rw [Int.add_mul_ediv_left _ _ (by omega)]; omega
  · rw [Int.add_mul_emod_self_left]
/-- and back to what was not shifted -/
theorem unshift (U y : Int) (s : Nat) : (U * 2 ^ s) / (y * 2 ^ s) = U / y ∧ (U * 2 ^ s) % (y * 2 ^ s) / 2 ^ s = U % y := by
  have hp : (0 : Int) < 2 ^ s := Int.pow_pos (by omega)
  constructor
  · rw [Int.mul_comm U, Int.mul_comm y, Int.mul_ediv_mul_of_pos _ _ hp]
  · rw [Int.mul_comm U, Int.mul_comm y, Int.mul_emod_mul_of_pos _ _ hp, Int.mul_comm, Int.mul_ediv_cancel _ (by omega)]
end Nu
end
end Go.Proofs.YtdfebacjbapahaaGreatDoor
