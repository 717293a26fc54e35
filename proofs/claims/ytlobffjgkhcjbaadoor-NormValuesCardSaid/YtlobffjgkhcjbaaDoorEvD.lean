/-
  What terms are in a world, as plain functions; which errors may be.
-/
import Derived.Test.YtlobffjgkhcjbaaDoorEvC
namespace Go.Proofs.YtlobffjgkhcjbaaDoor
open Go.RowKit

/-- a value alone -/
inductive Vv where
  | i (n : Int)
  | s (l : List Bool)
  | d (n : Int)
  | b (x : Bool)
def Vv.bit : Vv → Bool
  | .b x => x
  | _ => false
def lookE (o : Option Vl) (f : Vl → Vv) : Except Int Vv :=
  match o with
  | some v => .ok (f v)
  | none => .error 4
def fitE (n : Int) : Except Int Vv := if fitB n then .ok (.i n) else .error 5
def oneS (N k : Nat) : List Bool := (List.replicate N false).set k true
/-- what an operation makes of values -/
def app (W : Wd) (op : Nat) (nm : ByteArray) (n : Int) (vs : List Vv) : Except Int Vv :=
  match op, vs with
  | 1, _ => .ok (.i n)
  | 2, _ => lookE (look W nm 1) (fun v => .i v.n)
  | 3, [.s l] => .ok (.i (cntB l))
  | 4, [.i x, .i y] => fitE (x + y)
  | 5, [.i x, .i y] => fitE (x - y)
  | 6, [.i x] => fitE (n * x)
  | 7, _ => lookE (look W nm 2) (fun v => .s v.s)
  | 8, _ => .ok (.s (List.replicate W.nodes.toNat false))
  | 9, _ => .ok (.s (List.replicate W.nodes.toNat true))
  | 10, [.d k] => .ok (.s (oneS W.nodes.toNat k.toNat))
  | 11, [.s x, .s y] => .ok (.s (List.zipWith (fun a b => a || b) x y))
  | 12, [.s x, .s y] => .ok (.s (List.zipWith (fun a b => a && b) x y))
  | 13, [.s x, .s y] => .ok (.s (List.zipWith (fun a b => a && !b) x y))
  | 14, _ => lookE (look W nm 3) (fun v => .d v.n)
  | 15, _ => lookE (look W nm 4) (fun v => .b v.b)
  | 16, _ => .ok (.b true)
  | 17, _ => .ok (.b false)
  | 18, [.b x] => .ok (.b (!x))
  | 19, vs => .ok (.b (vs.all Vv.bit))
  | 20, vs => .ok (.b (vs.any Vv.bit))
  | 21, [.b x, .b y] => .ok (.b (!x || y))
  | 22, [.i x, .i y] => .ok (.b (ordB 22 x y))
  | 23, [.i x, .i y] => .ok (.b (ordB 23 x y))
  | 24, [.i x, .i y] => .ok (.b (ordB 24 x y))
  | 25, [.d k, .s l] => .ok (.b (l.getD k.toNat false))
  | 26, [.s x, .s y] => .ok (.b (subB x y))
  | 27, [.s x, .s y] => .ok (.b (subB x y && subB y x))
  | 28, [.d x, .d y] => .ok (.b (x == y))
  | _, _ => .error 0
mutual
def ev (W : Wd) : Tm → Except Int Vv
  | .node op nm n _ _ ks =>
    match evs W ks with
    | .error k => .error k
    | .ok vs => app W op.toNat nm n vs
def evs (W : Wd) : List Tm → Except Int (List Vv)
  | [] => .ok []
  | t :: ts =>
    match ev W t with
    | .error k => .error k
    | .ok v =>
      match evs W ts with
      | .error k => .error k
      | .ok vs => .ok (v :: vs)
end
theorem ev_eq (W : Wd) (t : Tm) : ev W t = match evs W t.ks with
    | .error k => .error k
    | .ok vs => app W t.op.toNat t.nm t.n vs := by cases t; simp only [ev, Tm.ks, Tm.op, Tm.nm, Tm.n]
theorem ev0 {W : Wd} {t : Tm} (h : t.ks = []) : ev W t = app W t.op.toNat t.nm t.n [] := by rw [ev_eq, h]; rfl
theorem ev1e {W : Wd} {t k0 : Tm} {e : Int} (h : t.ks = [k0]) (h0 : ev W k0 = .error e) : ev W t = .error e := by rw [ev_eq, h]; simp only [evs, h0]
theorem ev1 {W : Wd} {t k0 : Tm} {v : Vv} (h : t.ks = [k0]) (h0 : ev W k0 = .ok v) : ev W t = app W t.op.toNat t.nm t.n [v] := by rw [ev_eq, h]; simp only [evs, h0]
theorem ev2e0 {W : Wd} {t k0 k1 : Tm} {e : Int} (h : t.ks = [k0, k1]) (h0 : ev W k0 = .error e) : ev W t = .error e := by rw [ev_eq, h]; simp only [evs, h0]
theorem ev2e1 {W : Wd} {t k0 k1 : Tm} {v : Vv} {e : Int} (h : t.ks = [k0, k1]) (h0 : ev W k0 = .ok v) (h1 : ev W k1 = .error e) : ev W t = .error e := by rw [ev_eq, h]; simp only [evs, h0, h1]
theorem ev2 {W : Wd} {t k0 k1 : Tm} {v u : Vv} (h : t.ks = [k0, k1]) (h0 : ev W k0 = .ok v) (h1 : ev W k1 = .ok u) : ev W t = app W t.op.toNat t.nm t.n [v, u] := by rw [ev_eq, h]; simp only [evs, h0, h1]

/-- may a value be one of its sort, among so many nodes? -/
def holdsV (N : Int) (v : Vl) : Bool :=
  if v.sort = 1 then !v.b && decide (v.s.length = 0)
  else if v.sort = 2 then v.n == 0 && !v.b && decide ((v.s.length : Int) = N)
  else if v.sort = 3 then decide (0 ≤ v.n) && decide (v.n < N) && !v.b && decide (v.s.length = 0)
  else if v.sort = 4 then v.n == 0 && decide (v.s.length = 0)
  else false
/-- what is known of a right world -/
structure Rt (W : Wd) : Prop where
  lo : 1 ≤ W.nodes
  hi : W.nodes ≤ 64
  hv : ∀ x ∈ W.l, holdsV W.nodes x.v = true ∧ fitB x.v.n = true
/-- is it a value of this sort? -/
def Ty (W : Wd) (s : Nat) (v : Vv) : Prop :=
  match s, v with
  | 1, .i n => fitB n = true
  | 2, .s l => l.length = W.nodes.toNat
  | 3, .d n => 0 ≤ n ∧ n < W.nodes
  | 4, .b _ => True
  | _, _ => False
theorem Ty.i {W : Wd} {v : Vv} (h : Ty W 1 v) : ∃ n, v = .i n ∧ fitB n = true := by cases v <;> first | exact ⟨_, rfl, h⟩ | exact absurd h id
theorem Ty.s {W : Wd} {v : Vv} (h : Ty W 2 v) : ∃ l, v = .s l ∧ l.length = W.nodes.toNat := by cases v <;> first | exact ⟨_, rfl, h⟩ | exact absurd h id
theorem Ty.d {W : Wd} {v : Vv} (h : Ty W 3 v) : ∃ n, v = .d n ∧ 0 ≤ n ∧ n < W.nodes := by cases v <;> first | exact ⟨_, rfl, h⟩ | exact absurd h id
theorem Ty.b {W : Wd} {v : Vv} (h : Ty W 4 v) : ∃ x, v = .b x := by cases v <;> first | exact ⟨_, rfl⟩ | exact absurd h id
def Res (W : Wd) (s : Nat) (r : Except Int Vv) : Prop :=
  match r with
  | .error k => k = 4 ∨ k = 5
  | .ok v => Ty W s v
theorem look_hold {W : Wd} {nm : ByteArray} {s : Int} {v : Vl} (hR : Rt W) (h : look W nm s = some v) : v.sort = s ∧ holdsV W.nodes v = true ∧ fitB v.n = true := by
  unfold look at h
  obtain ⟨x, hx, rfl⟩ := Option.map_eq_some_iff.1 h
  have h1 := List.find?_some hx
  unfold hitN at h1
  simp only [Bool.and_eq_true, beq_iff_eq] at h1
  exact ⟨h1.1, hR.hv x (List.mem_of_find?_eq_some hx)⟩
theorem look_i {W : Wd} {nm : ByteArray} {v : Vl} (hR : Rt W) (h : look W nm 1 = some v) : v.s.length = 0 ∧ fitB v.n = true := by
  obtain ⟨h1, h2, h3⟩ := look_hold hR h
  unfold holdsV at h2
  rw [h1] at h2
  simp at h2
  exact ⟨by rw [h2.2]; rfl, h3⟩
theorem look_s {W : Wd} {nm : ByteArray} {v : Vl} (hR : Rt W) (h : look W nm 2 = some v) : v.s.length = W.nodes.toNat := by
  obtain ⟨h1, h2, h3⟩ := look_hold hR h
  unfold holdsV at h2
  rw [h1] at h2
  simp at h2
  omega
theorem look_d {W : Wd} {nm : ByteArray} {v : Vl} (hR : Rt W) (h : look W nm 3 = some v) : v.s.length = 0 ∧ 0 ≤ v.n ∧ v.n < W.nodes := by
  obtain ⟨h1, h2, h3⟩ := look_hold hR h
  unfold holdsV at h2
  rw [h1] at h2
  simp at h2
  exact ⟨by rw [h2.2]; rfl, h2.1.1⟩
theorem look_b {W : Wd} {nm : ByteArray} {v : Vl} (hR : Rt W) (h : look W nm 4 = some v) : v.s.length = 0 := by
  obtain ⟨h1, h2, h3⟩ := look_hold hR h
  unfold holdsV at h2
  rw [h1] at h2
  simp at h2
  rw [h2.2]; rfl

/-- how a right term is made -/
theorem srt_form {t : Tm} (h : t.srt ≠ 0) : ∃ j : Nat, t.op = (j : Int) ∧ 1 ≤ j ∧ j ≤ 28 ∧ t.srt = (shRow j).sort ∧ ((shRow j).many = true ∨ t.ks.length = (shRow j).count) ∧ ∀ i (hi : i < t.ks.length), t.ks[i].srt = (shRow j).want i := by
  rw [srt_eq] at h
  have h0 := h
  unfold sortOf at h
  split at h
  · rename_i ho
    have e : t.op = ((t.op.toNat : Nat) : Int) := by omega
    split at h
    · rename_i hb
      refine ⟨t.op.toNat, e, by omega, by omega, ?_, ?_, ?_⟩
      · rw [srt_eq]
        unfold sortOf
        rw [if_pos ho, if_pos hb]
      · simp only [Bool.and_eq_true, holdsB, Bool.or_eq_true, decide_eq_true_eq] at hb
        simpa using hb.2.1
      · intro i hi
        simp only [Bool.and_eq_true, holdsB, List.all_eq_true, List.mem_range, decide_eq_true_eq] at hb
        have := hb.2.2 i (by simpa using hi)
        simpa [List.getD, hi] using this
    · exact absurd rfl h
  · exact absurd rfl h
theorem len0 {α : Type} {l : List α} (h : l.length = 0) : l = [] := List.eq_nil_of_length_eq_zero h
theorem len1 {α : Type} {l : List α} (h : l.length = 1) : ∃ a, l = [a] := by
  match l, h with
  | [a], _ => exact ⟨a, rfl⟩
theorem len2 {α : Type} {l : List α} (h : l.length = 2) : ∃ a b, l = [a, b] := by
  match l, h with
  | [a, b], _ => exact ⟨a, b, rfl⟩
theorem form0 {t : Tm} (j : Nat) (h : t.srt ≠ 0) (ho : t.op = (j : Int)) (hm : (shRow j).many = false) (hc : (shRow j).count = 0) : t.ks = [] ∧ t.srt = (shRow j).sort := by
  obtain ⟨i, h1, -, -, h4, h5, -⟩ := srt_form h
  obtain rfl : i = j := by omega
  rw [hm, hc] at h5
  exact ⟨len0 (by simpa using h5), h4⟩
theorem form1 {t : Tm} (j : Nat) (h : t.srt ≠ 0) (ho : t.op = (j : Int)) (hm : (shRow j).many = false) (hc : (shRow j).count = 1) : ∃ k0, t.ks = [k0] ∧ k0.srt = (shRow j).p0 ∧ t.srt = (shRow j).sort := by
  obtain ⟨i, h1, -, -, h4, h5, h6⟩ := srt_form h
  obtain rfl : i = j := by omega
  rw [hm, hc] at h5
  have hl : t.ks.length = 1 := by simpa using h5
  obtain ⟨a, ha⟩ := len1 hl
  refine ⟨a, ha, ?_, h4⟩
  have := h6 0 (by omega)
  simp only [ha, List.getElem_cons_zero] at this
  rw [this]; unfold Sh.want; rw [hm]; rfl
theorem form2 {t : Tm} (j : Nat) (h : t.srt ≠ 0) (ho : t.op = (j : Int)) (hm : (shRow j).many = false) (hc : (shRow j).count = 2) : ∃ k0 k1, t.ks = [k0, k1] ∧ k0.srt = (shRow j).p0 ∧ k1.srt = (shRow j).p1 ∧ t.srt = (shRow j).sort := by
  obtain ⟨i, h1, -, -, h4, h5, h6⟩ := srt_form h
  obtain rfl : i = j := by omega
  rw [hm, hc] at h5
  have hl : t.ks.length = 2 := by simpa using h5
  obtain ⟨a, b, ha⟩ := len2 hl
  refine ⟨a, b, ha, ?_, ?_, h4⟩
  · have := h6 0 (by omega)
    simp only [ha, List.getElem_cons_zero] at this
    rw [this]; unfold Sh.want; rw [hm]; rfl
  · have := h6 1 (by omega)
    simp only [ha, List.getElem_cons_succ, List.getElem_cons_zero] at this
    rw [this]; unfold Sh.want; rw [hm]; rfl
theorem formM {t : Tm} (j : Nat) (h : t.srt ≠ 0) (ho : t.op = (j : Int)) (hm : (shRow j).many = true) : (∀ k ∈ t.ks, k.srt = (shRow j).p0) ∧ t.srt = (shRow j).sort := by
  obtain ⟨i, h1, -, -, h4, -, h6⟩ := srt_form h
  obtain rfl : i = j := by omega
  refine ⟨fun k hk => ?_, h4⟩
  obtain ⟨i, hi, rfl⟩ := List.mem_iff_getElem.1 hk
  rw [h6 i hi]; unfold Sh.want; rw [hm]; rfl
theorem evs_bits {W : Wd} : ∀ {ks : List Tm}, (∀ k ∈ ks, Res W 4 (ev W k)) → (∃ e, evs W ks = .error e ∧ (e = 4 ∨ e = 5)) ∨ ∃ l : List Bool, evs W ks = .ok (l.map Vv.b) ∧ l.length = ks.length
  | [], _ => .inr ⟨[], rfl, rfl⟩
  | k :: ks, h => by
    have h0 := h k (by simp)
    cases hk : ev W k with
    | error e => rw [hk] at h0; exact .inl ⟨e, by simp only [evs, hk], h0⟩
    | ok v =>
      rw [hk] at h0
      obtain ⟨x, rfl⟩ := Ty.b h0
      rcases evs_bits (ks := ks) (fun k hk => h k (by simp [hk])) with ⟨e, he, h5⟩ | ⟨l, hl, hn⟩
      · exact .inl ⟨e, by simp only [evs, hk, he], h5⟩
      · exact .inr ⟨x :: l, by simp only [evs, hk, hl, List.map_cons], by simp [hn]⟩
theorem evM {W : Wd} {t : Tm} {l : List Bool} (h : evs W t.ks = .ok (l.map Vv.b)) : ev W t = app W t.op.toNat t.nm t.n (l.map Vv.b) := by rw [ev_eq, h]
theorem evMe {W : Wd} {t : Tm} {e : Int} (h : evs W t.ks = .error e) : ev W t = .error e := by rw [ev_eq, h]
theorem bits_all (l : List Bool) : (l.map Vv.b).all Vv.bit = l.all id := by induction l with | nil => rfl | cons x l ih => simp only [List.map_cons, List.all_cons, ih, Vv.bit, id]
theorem bits_any (l : List Bool) : (l.map Vv.b).any Vv.bit = l.any id := by induction l with | nil => rfl | cons x l ih => simp only [List.map_cons, List.any_cons, ih, Vv.bit, id]
theorem fitE_res (W : Wd) (n : Int) : Res W 1 (fitE n) := by
  unfold fitE
  cases h : fitB n
  · exact .inr rfl
  · exact h
theorem cnt_fit {W : Wd} {l : List Bool} (hR : Rt W) (h : l.length = W.nodes.toNat) : fitB (cntB l) = true := by
  have := cntB_le l
  have := hR.hi
  rw [fitB_iff]; omega
theorem lookE_res {W : Wd} {o : Option Vl} {f : Vl → Vv} {s : Nat} (h : ∀ v, o = some v → Ty W s (f v)) : Res W s (lookE o f) := by
  cases o with
  | none => exact .inl rfl
  | some v => exact h v rfl
theorem oneS_len (N k : Nat) : (oneS N k).length = N := by simp [oneS]

theorem ev_ty {W : Wd} (hR : Rt W) {w : World} {B : Nat} : ∀ t : Tm, TIn w B t → t.srt ≠ 0 → Res W t.srt (ev W t) := by
  intro t
  induction t using Tm.ind with
  | h t ih =>
    intro hin hs
    obtain ⟨j, hj, j1, j2, -⟩ := srt_form hs
    have ho : t.op.toNat = j := by omega
    have hk : ∀ k ∈ t.ks, k.srt ≠ 0 → Res W k.srt (ev W k) := fun k hk h => by
      obtain ⟨i, hi, rfl⟩ := List.mem_iff_getElem.1 hk
      exact ih _ hk (hin.kid i hi).1 h
    rcases (show j = 1 ∨ j = 2 ∨ j = 3 ∨ j = 4 ∨ j = 5 ∨ j = 6 ∨ j = 7 ∨ j = 8 ∨ j = 9 ∨ j = 10 ∨ j = 11 ∨ j = 12 ∨ j = 13 ∨ j = 14 ∨ j = 15 ∨ j = 16 ∨ j = 17 ∨ j = 18 ∨ j = 19 ∨ j = 20 ∨ j = 21 ∨ j = 22 ∨ j = 23 ∨ j = 24 ∨ j = 25 ∨ j = 26 ∨ j = 27 ∨ j = 28 by omega) with rfl | rfl | rfl | rfl | rfl | rfl | rfl | rfl | rfl | rfl | rfl | rfl | rfl | rfl | rfl | rfl | rfl | rfl | rfl | rfl | rfl | rfl | rfl | rfl | rfl | rfl | rfl | rfl
    · obtain ⟨hks, e⟩ := form0 1 hs hj rfl rfl
      rw [e, ev0 hks, ho]
      show Res W 1 _
      exact hin.nums.2.1
    · obtain ⟨hks, e⟩ := form0 2 hs hj rfl rfl
      rw [e, ev0 hks, ho]
      show Res W 1 _
      exact lookE_res (fun v h => (look_i hR h).2)
    · obtain ⟨k0, hks, s0, e⟩ := form1 3 hs hj rfl rfl
      rw [e]
      have s0' : k0.srt = 2 := s0
      have r0 := hk k0 (by simp [hks]) (by rw [s0']; decide)
      rw [s0'] at r0
      cases h0 : ev W k0 with
      | error x => rw [ev1e hks h0]; rw [h0] at r0; exact r0
      | ok v =>
        rw [h0] at r0
        obtain ⟨x0, rfl, hl0⟩ := Ty.s r0
        rw [ev1 hks h0, ho]
        show Res W 1 _
        exact cnt_fit hR hl0
    · obtain ⟨k0, k1, hks, s0, s1, e⟩ := form2 4 hs hj rfl rfl
      rw [e]
      have s0' : k0.srt = 1 := s0
      have s1' : k1.srt = 1 := s1
      have r0 := hk k0 (by simp [hks]) (by rw [s0']; decide)
      have r1 := hk k1 (by simp [hks]) (by rw [s1']; decide)
      rw [s0'] at r0
      rw [s1'] at r1
      cases h0 : ev W k0 with
      | error x => rw [ev2e0 hks h0]; rw [h0] at r0; exact r0
      | ok v =>
        rw [h0] at r0
        cases h1 : ev W k1 with
        | error x => rw [ev2e1 hks h0 h1]; rw [h1] at r1; exact r1
        | ok u =>
          rw [h1] at r1
          obtain ⟨x0, rfl, hl0⟩ := Ty.i r0
          obtain ⟨x1, rfl, hl1⟩ := Ty.i r1
          rw [ev2 hks h0 h1, ho]
          show Res W 1 _
          exact fitE_res W _
    · obtain ⟨k0, k1, hks, s0, s1, e⟩ := form2 5 hs hj rfl rfl
      rw [e]
      have s0' : k0.srt = 1 := s0
      have s1' : k1.srt = 1 := s1
      have r0 := hk k0 (by simp [hks]) (by rw [s0']; decide)
      have r1 := hk k1 (by simp [hks]) (by rw [s1']; decide)
      rw [s0'] at r0
      rw [s1'] at r1
      cases h0 : ev W k0 with
      | error x => rw [ev2e0 hks h0]; rw [h0] at r0; exact r0
      | ok v =>
        rw [h0] at r0
        cases h1 : ev W k1 with
        | error x => rw [ev2e1 hks h0 h1]; rw [h1] at r1; exact r1
        | ok u =>
          rw [h1] at r1
          obtain ⟨x0, rfl, hl0⟩ := Ty.i r0
          obtain ⟨x1, rfl, hl1⟩ := Ty.i r1
          rw [ev2 hks h0 h1, ho]
          show Res W 1 _
          exact fitE_res W _
    · obtain ⟨k0, hks, s0, e⟩ := form1 6 hs hj rfl rfl
      rw [e]
      have s0' : k0.srt = 1 := s0
      have r0 := hk k0 (by simp [hks]) (by rw [s0']; decide)
      rw [s0'] at r0
      cases h0 : ev W k0 with
      | error x => rw [ev1e hks h0]; rw [h0] at r0; exact r0
      | ok v =>
        rw [h0] at r0
        obtain ⟨x0, rfl, hl0⟩ := Ty.i r0
        rw [ev1 hks h0, ho]
        show Res W 1 _
        exact fitE_res W _
    · obtain ⟨hks, e⟩ := form0 7 hs hj rfl rfl
      rw [e, ev0 hks, ho]
      show Res W 2 _
      exact lookE_res (fun v h => look_s hR h)
    · obtain ⟨hks, e⟩ := form0 8 hs hj rfl rfl
      rw [e, ev0 hks, ho]
      show Res W 2 _
      exact List.length_replicate ..
    · obtain ⟨hks, e⟩ := form0 9 hs hj rfl rfl
      rw [e, ev0 hks, ho]
      show Res W 2 _
      exact List.length_replicate ..
    · obtain ⟨k0, hks, s0, e⟩ := form1 10 hs hj rfl rfl
      rw [e]
      have s0' : k0.srt = 3 := s0
      have r0 := hk k0 (by simp [hks]) (by rw [s0']; decide)
      rw [s0'] at r0
      cases h0 : ev W k0 with
      | error x => rw [ev1e hks h0]; rw [h0] at r0; exact r0
      | ok v =>
        rw [h0] at r0
        obtain ⟨x0, rfl, hl0⟩ := Ty.d r0
        rw [ev1 hks h0, ho]
        show Res W 2 _
        exact oneS_len _ _
    · obtain ⟨k0, k1, hks, s0, s1, e⟩ := form2 11 hs hj rfl rfl
      rw [e]
      have s0' : k0.srt = 2 := s0
      have s1' : k1.srt = 2 := s1
      have r0 := hk k0 (by simp [hks]) (by rw [s0']; decide)
      have r1 := hk k1 (by simp [hks]) (by rw [s1']; decide)
      rw [s0'] at r0
      rw [s1'] at r1
      cases h0 : ev W k0 with
      | error x => rw [ev2e0 hks h0]; rw [h0] at r0; exact r0
      | ok v =>
        rw [h0] at r0
        cases h1 : ev W k1 with
        | error x => rw [ev2e1 hks h0 h1]; rw [h1] at r1; exact r1
        | ok u =>
          rw [h1] at r1
          obtain ⟨x0, rfl, hl0⟩ := Ty.s r0
          obtain ⟨x1, rfl, hl1⟩ := Ty.s r1
          rw [ev2 hks h0 h1, ho]
          show Res W 2 _
          show (List.zipWith _ _ _).length = _; rw [List.length_zipWith, hl0, hl1, Nat.min_self]
    · obtain ⟨k0, k1, hks, s0, s1, e⟩ := form2 12 hs hj rfl rfl
      rw [e]
      have s0' : k0.srt = 2 := s0
      have s1' : k1.srt = 2 := s1
      have r0 := hk k0 (by simp [hks]) (by rw [s0']; decide)
      have r1 := hk k1 (by simp [hks]) (by rw [s1']; decide)
      rw [s0'] at r0
      rw [s1'] at r1
      cases h0 : ev W k0 with
      | error x => rw [ev2e0 hks h0]; rw [h0] at r0; exact r0
      | ok v =>
        rw [h0] at r0
        cases h1 : ev W k1 with
        | error x => rw [ev2e1 hks h0 h1]; rw [h1] at r1; exact r1
        | ok u =>
          rw [h1] at r1
          obtain ⟨x0, rfl, hl0⟩ := Ty.s r0
          obtain ⟨x1, rfl, hl1⟩ := Ty.s r1
          rw [ev2 hks h0 h1, ho]
          show Res W 2 _
          show (List.zipWith _ _ _).length = _; rw [List.length_zipWith, hl0, hl1, Nat.min_self]
    · obtain ⟨k0, k1, hks, s0, s1, e⟩ := form2 13 hs hj rfl rfl
      rw [e]
      have s0' : k0.srt = 2 := s0
      have s1' : k1.srt = 2 := s1
      have r0 := hk k0 (by simp [hks]) (by rw [s0']; decide)
      have r1 := hk k1 (by simp [hks]) (by rw [s1']; decide)
      rw [s0'] at r0
      rw [s1'] at r1
      cases h0 : ev W k0 with
      | error x => rw [ev2e0 hks h0]; rw [h0] at r0; exact r0
      | ok v =>
        rw [h0] at r0
        cases h1 : ev W k1 with
        | error x => rw [ev2e1 hks h0 h1]; rw [h1] at r1; exact r1
        | ok u =>
          rw [h1] at r1
          obtain ⟨x0, rfl, hl0⟩ := Ty.s r0
          obtain ⟨x1, rfl, hl1⟩ := Ty.s r1
          rw [ev2 hks h0 h1, ho]
          show Res W 2 _
          show (List.zipWith _ _ _).length = _; rw [List.length_zipWith, hl0, hl1, Nat.min_self]
    · obtain ⟨hks, e⟩ := form0 14 hs hj rfl rfl
      rw [e, ev0 hks, ho]
      show Res W 3 _
      exact lookE_res (fun v h => (look_d hR h).2)
    · obtain ⟨hks, e⟩ := form0 15 hs hj rfl rfl
      rw [e, ev0 hks, ho]
      show Res W 4 _
      exact lookE_res (fun v h => trivial)
    · obtain ⟨hks, e⟩ := form0 16 hs hj rfl rfl
      rw [e, ev0 hks, ho]
      show Res W 4 _
      exact trivial
    · obtain ⟨hks, e⟩ := form0 17 hs hj rfl rfl
      rw [e, ev0 hks, ho]
      show Res W 4 _
      exact trivial
    · obtain ⟨k0, hks, s0, e⟩ := form1 18 hs hj rfl rfl
      rw [e]
      have s0' : k0.srt = 4 := s0
      have r0 := hk k0 (by simp [hks]) (by rw [s0']; decide)
      rw [s0'] at r0
      cases h0 : ev W k0 with
      | error x => rw [ev1e hks h0]; rw [h0] at r0; exact r0
      | ok v =>
        rw [h0] at r0
        obtain ⟨x0, rfl⟩ := Ty.b r0
        rw [ev1 hks h0, ho]
        show Res W 4 _
        exact trivial
    · obtain ⟨hks, e⟩ := formM 19 hs hj rfl
      rw [e]
      rcases evs_bits (W := W) (ks := t.ks) (fun k hm => by have e4 : k.srt = 4 := hks k hm; have := hk k hm (by rw [e4]; decide); rw [e4] at this; exact this) with ⟨x, hx, h5⟩ | ⟨l, hl, -⟩
      · rw [evMe hx]; exact h5
      · rw [evM hl, ho]; exact trivial
    · obtain ⟨hks, e⟩ := formM 20 hs hj rfl
      rw [e]
      rcases evs_bits (W := W) (ks := t.ks) (fun k hm => by have e4 : k.srt = 4 := hks k hm; have := hk k hm (by rw [e4]; decide); rw [e4] at this; exact this) with ⟨x, hx, h5⟩ | ⟨l, hl, -⟩
      · rw [evMe hx]; exact h5
      · rw [evM hl, ho]; exact trivial
    · obtain ⟨k0, k1, hks, s0, s1, e⟩ := form2 21 hs hj rfl rfl
      rw [e]
      have s0' : k0.srt = 4 := s0
      have s1' : k1.srt = 4 := s1
      have r0 := hk k0 (by simp [hks]) (by rw [s0']; decide)
      have r1 := hk k1 (by simp [hks]) (by rw [s1']; decide)
      rw [s0'] at r0
      rw [s1'] at r1
      cases h0 : ev W k0 with
      | error x => rw [ev2e0 hks h0]; rw [h0] at r0; exact r0
      | ok v =>
        rw [h0] at r0
        cases h1 : ev W k1 with
        | error x => rw [ev2e1 hks h0 h1]; rw [h1] at r1; exact r1
        | ok u =>
          rw [h1] at r1
          obtain ⟨x0, rfl⟩ := Ty.b r0
          obtain ⟨x1, rfl⟩ := Ty.b r1
          rw [ev2 hks h0 h1, ho]
          show Res W 4 _
          exact trivial
    · obtain ⟨k0, k1, hks, s0, s1, e⟩ := form2 22 hs hj rfl rfl
      rw [e]
      have s0' : k0.srt = 1 := s0
      have s1' : k1.srt = 1 := s1
      have r0 := hk k0 (by simp [hks]) (by rw [s0']; decide)
      have r1 := hk k1 (by simp [hks]) (by rw [s1']; decide)
      rw [s0'] at r0
      rw [s1'] at r1
      cases h0 : ev W k0 with
      | error x => rw [ev2e0 hks h0]; rw [h0] at r0; exact r0
      | ok v =>
        rw [h0] at r0
        cases h1 : ev W k1 with
        | error x => rw [ev2e1 hks h0 h1]; rw [h1] at r1; exact r1
        | ok u =>
          rw [h1] at r1
          obtain ⟨x0, rfl, hl0⟩ := Ty.i r0
          obtain ⟨x1, rfl, hl1⟩ := Ty.i r1
          rw [ev2 hks h0 h1, ho]
          show Res W 4 _
          exact trivial
    · obtain ⟨k0, k1, hks, s0, s1, e⟩ := form2 23 hs hj rfl rfl
      rw [e]
      have s0' : k0.srt = 1 := s0
      have s1' : k1.srt = 1 := s1
      have r0 := hk k0 (by simp [hks]) (by rw [s0']; decide)
      have r1 := hk k1 (by simp [hks]) (by rw [s1']; decide)
      rw [s0'] at r0
      rw [s1'] at r1
      cases h0 : ev W k0 with
      | error x => rw [ev2e0 hks h0]; rw [h0] at r0; exact r0
      | ok v =>
        rw [h0] at r0
        cases h1 : ev W k1 with
        | error x => rw [ev2e1 hks h0 h1]; rw [h1] at r1; exact r1
        | ok u =>
          rw [h1] at r1
          obtain ⟨x0, rfl, hl0⟩ := Ty.i r0
          obtain ⟨x1, rfl, hl1⟩ := Ty.i r1
          rw [ev2 hks h0 h1, ho]
          show Res W 4 _
          exact trivial
    · obtain ⟨k0, k1, hks, s0, s1, e⟩ := form2 24 hs hj rfl rfl
      rw [e]
      have s0' : k0.srt = 1 := s0
      have s1' : k1.srt = 1 := s1
      have r0 := hk k0 (by simp [hks]) (by rw [s0']; decide)
      have r1 := hk k1 (by simp [hks]) (by rw [s1']; decide)
      rw [s0'] at r0
      rw [s1'] at r1
      cases h0 : ev W k0 with
      | error x => rw [ev2e0 hks h0]; rw [h0] at r0; exact r0
      | ok v =>
        rw [h0] at r0
        cases h1 : ev W k1 with
        | error x => rw [ev2e1 hks h0 h1]; rw [h1] at r1; exact r1
        | ok u =>
          rw [h1] at r1
          obtain ⟨x0, rfl, hl0⟩ := Ty.i r0
          obtain ⟨x1, rfl, hl1⟩ := Ty.i r1
          rw [ev2 hks h0 h1, ho]
          show Res W 4 _
          exact trivial
    · obtain ⟨k0, k1, hks, s0, s1, e⟩ := form2 25 hs hj rfl rfl
      rw [e]
      have s0' : k0.srt = 3 := s0
      have s1' : k1.srt = 2 := s1
      have r0 := hk k0 (by simp [hks]) (by rw [s0']; decide)
      have r1 := hk k1 (by simp [hks]) (by rw [s1']; decide)
      rw [s0'] at r0
      rw [s1'] at r1
      cases h0 : ev W k0 with
      | error x => rw [ev2e0 hks h0]; rw [h0] at r0; exact r0
      | ok v =>
        rw [h0] at r0
        cases h1 : ev W k1 with
        | error x => rw [ev2e1 hks h0 h1]; rw [h1] at r1; exact r1
        | ok u =>
          rw [h1] at r1
          obtain ⟨x0, rfl, hl0⟩ := Ty.d r0
          obtain ⟨x1, rfl, hl1⟩ := Ty.s r1
          rw [ev2 hks h0 h1, ho]
          show Res W 4 _
          exact trivial
    · obtain ⟨k0, k1, hks, s0, s1, e⟩ := form2 26 hs hj rfl rfl
      rw [e]
      have s0' : k0.srt = 2 := s0
      have s1' : k1.srt = 2 := s1
      have r0 := hk k0 (by simp [hks]) (by rw [s0']; decide)
      have r1 := hk k1 (by simp [hks]) (by rw [s1']; decide)
      rw [s0'] at r0
      rw [s1'] at r1
      cases h0 : ev W k0 with
      | error x => rw [ev2e0 hks h0]; rw [h0] at r0; exact r0
      | ok v =>
        rw [h0] at r0
        cases h1 : ev W k1 with
        | error x => rw [ev2e1 hks h0 h1]; rw [h1] at r1; exact r1
        | ok u =>
          rw [h1] at r1
          obtain ⟨x0, rfl, hl0⟩ := Ty.s r0
          obtain ⟨x1, rfl, hl1⟩ := Ty.s r1
          rw [ev2 hks h0 h1, ho]
          show Res W 4 _
          exact trivial
    · obtain ⟨k0, k1, hks, s0, s1, e⟩ := form2 27 hs hj rfl rfl
      rw [e]
      have s0' : k0.srt = 2 := s0
      have s1' : k1.srt = 2 := s1
      have r0 := hk k0 (by simp [hks]) (by rw [s0']; decide)
      have r1 := hk k1 (by simp [hks]) (by rw [s1']; decide)
      rw [s0'] at r0
      rw [s1'] at r1
      cases h0 : ev W k0 with
      | error x => rw [ev2e0 hks h0]; rw [h0] at r0; exact r0
      | ok v =>
        rw [h0] at r0
        cases h1 : ev W k1 with
        | error x => rw [ev2e1 hks h0 h1]; rw [h1] at r1; exact r1
        | ok u =>
          rw [h1] at r1
          obtain ⟨x0, rfl, hl0⟩ := Ty.s r0
          obtain ⟨x1, rfl, hl1⟩ := Ty.s r1
          rw [ev2 hks h0 h1, ho]
          show Res W 4 _
          exact trivial
    · obtain ⟨k0, k1, hks, s0, s1, e⟩ := form2 28 hs hj rfl rfl
      rw [e]
      have s0' : k0.srt = 3 := s0
      have s1' : k1.srt = 3 := s1
      have r0 := hk k0 (by simp [hks]) (by rw [s0']; decide)
      have r1 := hk k1 (by simp [hks]) (by rw [s1']; decide)
      rw [s0'] at r0
      rw [s1'] at r1
      cases h0 : ev W k0 with
      | error x => rw [ev2e0 hks h0]; rw [h0] at r0; exact r0
      | ok v =>
        rw [h0] at r0
        cases h1 : ev W k1 with
        | error x => rw [ev2e1 hks h0 h1]; rw [h1] at r1; exact r1
        | ok u =>
          rw [h1] at r1
          obtain ⟨x0, rfl, hl0⟩ := Ty.d r0
          obtain ⟨x1, rfl, hl1⟩ := Ty.d r1
          rw [ev2 hks h0 h1, ho]
          show Res W 4 _
          exact trivial
end Go.Proofs.YtlobffjgkhcjbaaDoor
