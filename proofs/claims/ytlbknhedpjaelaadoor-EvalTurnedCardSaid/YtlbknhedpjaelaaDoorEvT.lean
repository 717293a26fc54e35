/-
  Two nodes changed for each other: what terms are then.
-/
import Derived.Test.YtlbknhedpjaelaaDoorEvS
namespace Go.Proofs.YtlbknhedpjaelaaDoor
open Go.RowKit Go.Shelf

/-- a place, with two changed for each other -/
def sw (i k j : Nat) : Nat := if j = i then k else if j = k then i else j
theorem sw_sw (i k j : Nat) : sw i k (sw i k j) = j := by unfold sw; split <;> split <;> (try split) <;> omega
theorem sw_lt {i k j N : Nat} (hi : i < N) (hk : k < N) (hj : j < N) : sw i k j < N := by unfold sw; split <;> (try split) <;> omega
/-- a row, with two places changed for each other -/
def swp (i k : Nat) (l : List Bool) : List Bool := (l.set i (l.getD k false)).set k (l.getD i false)
theorem swp_len (i k : Nat) (l : List Bool) : (swp i k l).length = l.length := by simp [swp]
theorem swp_get {i k : Nat} {l : List Bool} (hi : i < l.length) (hk : k < l.length) (j : Nat) : (swp i k l).getD j false = l.getD (sw i k j) false := by
  unfold swp sw
  simp only [List.getD_eq_getElem?_getD, List.getElem?_set, List.length_set]
  by_cases h1 : j = k
  · subst h1
    by_cases h2 : j = i
    · subst h2; simp [hi]
    · simp [h2, hk]
  · by_cases h2 : j = i
    · subst h2
      rw [if_neg (by omega), if_pos rfl, if_pos hi, if_pos rfl]; simp
    · rw [if_neg (by omega), if_neg (by omega), if_neg h2, if_neg h1]
theorem getD_ext {l m : List Bool} (h : l.length = m.length) (h' : ∀ j, j < l.length → l.getD j false = m.getD j false) : l = m := by
  refine List.ext_getElem h fun j h1 h2 => ?_
  have := h' j h1
  simpa [List.getD_eq_getElem?_getD, h1, h2] using this
theorem zip_get (f : Bool → Bool → Bool) {x y : List Bool} (h : x.length = y.length) {j : Nat} (hj : j < x.length) : (List.zipWith f x y).getD j false = f (x.getD j false) (y.getD j false) := by
  have hj' : j < y.length := by omega
  simp [List.getD_eq_getElem?_getD, List.getElem?_zipWith, hj, hj']
theorem swp_zip (f : Bool → Bool → Bool) {i k : Nat} {x y : List Bool} (h : x.length = y.length) (hi : i < x.length) (hk : k < x.length) : List.zipWith f (swp i k x) (swp i k y) = swp i k (List.zipWith f x y) := by
  refine getD_ext (by simp [swp_len, List.length_zipWith]) fun j hj => ?_
  have hj' : j < x.length := by simp [swp_len, List.length_zipWith] at hj; omega
  rw [zip_get f (by rw [swp_len, swp_len]; exact h) (by rw [swp_len]; exact hj'), swp_get hi hk, swp_get (by omega) (by omega), swp_get (by simp [List.length_zipWith]; omega) (by simp [List.length_zipWith]; omega), zip_get f h (sw_lt hi hk hj')]
theorem swp_rep (i k N : Nat) (b : Bool) (hi : i < N) (hk : k < N) : swp i k (List.replicate N b) = List.replicate N b := by
  refine getD_ext (swp_len _ _ _) fun j hj => ?_
  have hj' : j < N := by simpa [swp_len] using hj
  rw [swp_get (by simpa using hi) (by simpa using hk)]
  simp [List.getD_eq_getElem?_getD, hj', sw_lt hi hk hj']
theorem one_get {N m j : Nat} (hj : j < N) : (oneS N m).getD j false = decide (j = m) := by
  unfold oneS
  rw [List.getD_eq_getElem?_getD, List.getElem?_set]
  by_cases h : m = j
  · subst h; simp [hj]
  · rw [if_neg h]
    have : ¬ j = m := fun e => h e.symm
    simp [hj, this]
theorem swp_one {i k N m : Nat} (hi : i < N) (hk : k < N) : oneS N (sw i k m) = swp i k (oneS N m) := by
  refine getD_ext (by rw [swp_len, oneS_len, oneS_len]) fun j hj => ?_
  rw [oneS_len] at hj
  rw [swp_get (by rw [oneS_len]; exact hi) (by rw [oneS_len]; exact hk), one_get hj, one_get (sw_lt hi hk hj)]
  congr 1
  exact propext ⟨fun e => by rw [e, sw_sw], fun e => by rw [← e, sw_sw]⟩
theorem cnt_set : ∀ (l : List Bool) (i : Nat) (b : Bool), i < l.length → cntB (l.set i b) + (if l.getD i false then 1 else 0) = cntB l + (if b then 1 else 0)
  | [], i, b, h => by simp at h
  | a :: l, 0, b, h => by
    simp only [List.set_cons_zero, cntB, List.getD_eq_getElem?_getD, List.getElem?_cons_zero, Option.getD_some]
    cases a <;> cases b <;> simp
  | a :: l, i + 1, b, h => by
    have ih := cnt_set l i b (by simpa using h)
    simp only [List.set_cons_succ, cntB, List.getD_eq_getElem?_getD, List.getElem?_cons_succ] at ih ⊢
    cases a <;> simp at ih ⊢ <;> omega
theorem swp_cnt {i k : Nat} {l : List Bool} (hi : i < l.length) (hk : k < l.length) : cntB (swp i k l) = cntB l := by
  unfold swp
  have h1 := cnt_set l i (l.getD k false) hi
  have h2 := cnt_set (l.set i (l.getD k false)) k (l.getD i false) (by simpa using hk)
  have h3 : (l.set i (l.getD k false)).getD k false = l.getD k false := by
    simp only [List.getD_eq_getElem?_getD, List.getElem?_set]
    by_cases h : i = k
    · subst h; simp [hi]
    · rw [if_neg h]
  rw [h3] at h2
  omega
theorem sub_iff (x y : List Bool) : subB x y = true ↔ ∀ j, j < x.length → x.getD j false = true → y.getD j false = true := by
  simp only [subB, List.all_eq_true, List.mem_range, Bool.or_eq_true, Bool.not_eq_true']
  constructor
  · intro hh j hj hx
    rcases hh j hj with h1 | h1
    · rw [hx] at h1; cases h1
    · exact h1
  · intro hh j hj
    cases hx : x.getD j false
    · exact .inl rfl
    · exact .inr (hh j hj hx)
theorem swp_sub {i k : Nat} {x y : List Bool} (h : x.length = y.length) (hi : i < x.length) (hk : k < x.length) : subB (swp i k x) (swp i k y) = subB x y := by
  rw [Bool.eq_iff_iff, sub_iff, sub_iff]
  constructor
  · intro hh j hj hx
    have := hh (sw i k j) (by rw [swp_len]; exact sw_lt hi hk hj)
    rw [swp_get hi hk, swp_get (by omega) (by omega), sw_sw] at this
    exact this hx
  · intro hh j hj hx
    rw [swp_len] at hj
    rw [swp_get hi hk] at hx
    rw [swp_get (by omega) (by omega)]
    exact hh _ (sw_lt hi hk hj) hx
/-- a value, with two nodes changed for each other -/
def tnV (i k : Nat) : Vv → Vv
  | .s l => .s (swp i k l)
  | .d n => .d (sw i k n.toNat : Nat)
  | v => v
def tnE (i k : Nat) : Except Int Vv → Except Int Vv
  | .ok v => .ok (tnV i k v)
  | .error e => .error e
/-- the same as a looked up value, turned -/
def TurnV (i k : Nat) (v u : Vl) : Prop := v.sort = u.sort ∧ v.b = u.b ∧ u.n = (if v.sort = 3 then ((sw i k v.n.toNat : Nat) : Int) else v.n) ∧ u.s = (if v.sort = 2 then swp i k v.s else v.s)
inductive TurnO (i k : Nat) : Option Vl → Option Vl → Prop
  | no : TurnO i k none none
  | yes {v u : Vl} : TurnV i k v u → TurnO i k (some v) (some u)
theorem tn_fit (i k : Nat) (n : Int) : tnE i k (fitE n) = fitE n := by unfold fitE; split <;> rfl
theorem tn_look {i k : Nat} {o p : Option Vl} (h : TurnO i k o p) {f : Vl → Vv} (hf : ∀ v u, o = some v → TurnV i k v u → f u = tnV i k (f v)) : lookE p f = tnE i k (lookE o f) := by
  cases h with
  | no => rfl
  | yes h => simp only [lookE, tnE]; rw [hf _ _ rfl h]
theorem evs_turn {W V : Wd} {i k : Nat} : ∀ {ks : List Tm}, (∀ q ∈ ks, q.srt = 4) → (∀ q ∈ ks, Res W 4 (ev W q)) → (∀ q ∈ ks, ev V q = tnE i k (ev W q)) → evs V ks = evs W ks
  | [], _, _, _ => rfl
  | q :: ks, h1, h2, h3 => by
    have ih := evs_turn (ks := ks) (fun q hq => h1 q (by simp [hq])) (fun q hq => h2 q (by simp [hq])) (fun q hq => h3 q (by simp [hq]))
    have e := h3 q (by simp)
    have r := h2 q (by simp)
    simp only [evs]
    rw [e, ih]
    cases hq : ev W q with
    | error x => rfl
    | ok v =>
      rw [hq] at r
      obtain ⟨x, rfl⟩ := Ty.b r
      rfl
theorem tn_bool (i k : Nat) (b : Bool) : tnE i k (.ok (.b b)) = .ok (.b b) := rfl
theorem ev_turn {W V : Wd} (hR : Rt W) (hn : V.nodes = W.nodes) {i k : Nat} (hi : i < W.nodes.toNat) (hk : k < W.nodes.toNat) (hL : ∀ nm s, TurnO i k (look W nm s) (look V nm s)) {w : World} {B : Nat} : ∀ t : Tm, TIn w B t → t.srt ≠ 0 → ev V t = tnE i k (ev W t) := by
  intro t
  induction t using Tm.ind with
  | h t ih =>
    intro hin hs
    obtain ⟨j, hj, j1, j2, -⟩ := srt_form hs
    have ho : t.op.toNat = j := by omega
    have hT : ∀ q ∈ t.ks, q.srt ≠ 0 → Res W q.srt (ev W q) ∧ ev V q = tnE i k (ev W q) := fun q hq h => by
      obtain ⟨m, hm, rfl⟩ := List.mem_iff_getElem.1 hq
      exact ⟨ev_ty hR _ (hin.kid m hm).1 h, ih _ hq (hin.kid m hm).1 h⟩
    rcases (show j = 1 ∨ j = 2 ∨ j = 3 ∨ j = 4 ∨ j = 5 ∨ j = 6 ∨ j = 7 ∨ j = 8 ∨ j = 9 ∨ j = 10 ∨ j = 11 ∨ j = 12 ∨ j = 13 ∨ j = 14 ∨ j = 15 ∨ j = 16 ∨ j = 17 ∨ j = 18 ∨ j = 19 ∨ j = 20 ∨ j = 21 ∨ j = 22 ∨ j = 23 ∨ j = 24 ∨ j = 25 ∨ j = 26 ∨ j = 27 ∨ j = 28 by omega) with rfl | rfl | rfl | rfl | rfl | rfl | rfl | rfl | rfl | rfl | rfl | rfl | rfl | rfl | rfl | rfl | rfl | rfl | rfl | rfl | rfl | rfl | rfl | rfl | rfl | rfl | rfl | rfl
    · obtain ⟨hks, -⟩ := form0 1 hs hj rfl rfl
      rw [ev0 hks, ev0 hks, ho]
      rfl
    · obtain ⟨hks, -⟩ := form0 2 hs hj rfl rfl
      rw [ev0 hks, ev0 hks, ho]
      exact tn_look (hL _ 1) (fun v u h1 h => by 
        have hs := (look_hold hR h1).1
        show Vv.i u.n = Vv.i v.n
        rw [h.2.2.1, hs]; rfl)
    · obtain ⟨k0, hks, s0, -⟩ := form1 3 hs hj rfl rfl
      have s0' : k0.srt = 2 := s0
      obtain ⟨r0, i0⟩ := hT k0 (by simp [hks]) (by rw [s0']; decide)
      rw [s0'] at r0
      cases h0 : ev W k0 with
      | error x => rw [h0] at i0; rw [ev1e hks h0, ev1e hks i0]; rfl
      | ok v =>
        rw [h0] at r0 i0
        obtain ⟨x0, rfl, hl0⟩ := Ty.s r0
        rw [ev1 hks h0, ev1 hks i0, ho]
        show Except.ok (Vv.i (cntB (swp i k x0))) = Except.ok (Vv.i (cntB x0))
        rw [swp_cnt (by omega) (by omega)]
    · obtain ⟨k0, k1, hks, s0, s1, -⟩ := form2 4 hs hj rfl rfl
      have s0' : k0.srt = 1 := s0
      have s1' : k1.srt = 1 := s1
      obtain ⟨r0, i0⟩ := hT k0 (by simp [hks]) (by rw [s0']; decide)
      obtain ⟨r1, i1⟩ := hT k1 (by simp [hks]) (by rw [s1']; decide)
      rw [s0'] at r0
      rw [s1'] at r1
      cases h0 : ev W k0 with
      | error x => rw [h0] at i0; rw [ev2e0 hks h0, ev2e0 hks i0]; rfl
      | ok v =>
        rw [h0] at r0 i0
        cases h1 : ev W k1 with
        | error x => rw [h1] at i1; rw [ev2e1 hks h0 h1, ev2e1 hks i0 i1]; rfl
        | ok u =>
          rw [h1] at r1 i1
          obtain ⟨x0, rfl, hl0⟩ := Ty.i r0
          obtain ⟨x1, rfl, hl1⟩ := Ty.i r1
          rw [ev2 hks h0 h1, ev2 hks i0 i1, ho]
          exact (tn_fit i k _).symm
    · obtain ⟨k0, k1, hks, s0, s1, -⟩ := form2 5 hs hj rfl rfl
      have s0' : k0.srt = 1 := s0
      have s1' : k1.srt = 1 := s1
      obtain ⟨r0, i0⟩ := hT k0 (by simp [hks]) (by rw [s0']; decide)
      obtain ⟨r1, i1⟩ := hT k1 (by simp [hks]) (by rw [s1']; decide)
      rw [s0'] at r0
      rw [s1'] at r1
      cases h0 : ev W k0 with
      | error x => rw [h0] at i0; rw [ev2e0 hks h0, ev2e0 hks i0]; rfl
      | ok v =>
        rw [h0] at r0 i0
        cases h1 : ev W k1 with
        | error x => rw [h1] at i1; rw [ev2e1 hks h0 h1, ev2e1 hks i0 i1]; rfl
        | ok u =>
          rw [h1] at r1 i1
          obtain ⟨x0, rfl, hl0⟩ := Ty.i r0
          obtain ⟨x1, rfl, hl1⟩ := Ty.i r1
          rw [ev2 hks h0 h1, ev2 hks i0 i1, ho]
          exact (tn_fit i k _).symm
    · obtain ⟨k0, hks, s0, -⟩ := form1 6 hs hj rfl rfl
      have s0' : k0.srt = 1 := s0
      obtain ⟨r0, i0⟩ := hT k0 (by simp [hks]) (by rw [s0']; decide)
      rw [s0'] at r0
      cases h0 : ev W k0 with
      | error x => rw [h0] at i0; rw [ev1e hks h0, ev1e hks i0]; rfl
      | ok v =>
        rw [h0] at r0 i0
        obtain ⟨x0, rfl, hl0⟩ := Ty.i r0
        rw [ev1 hks h0, ev1 hks i0, ho]
        exact (tn_fit i k _).symm
    · obtain ⟨hks, -⟩ := form0 7 hs hj rfl rfl
      rw [ev0 hks, ev0 hks, ho]
      exact tn_look (hL _ 2) (fun v u h1 h => by 
        have hs := (look_hold hR h1).1
        show Vv.s u.s = Vv.s (swp i k v.s)
        rw [h.2.2.2, hs]; rfl)
    · obtain ⟨hks, -⟩ := form0 8 hs hj rfl rfl
      rw [ev0 hks, ev0 hks, ho]
      show Except.ok (Vv.s (List.replicate V.nodes.toNat false)) = Except.ok (Vv.s (swp i k (List.replicate W.nodes.toNat false)))
      rw [swp_rep _ _ _ _ hi hk, hn]
    · obtain ⟨hks, -⟩ := form0 9 hs hj rfl rfl
      rw [ev0 hks, ev0 hks, ho]
      show Except.ok (Vv.s (List.replicate V.nodes.toNat true)) = Except.ok (Vv.s (swp i k (List.replicate W.nodes.toNat true)))
      rw [swp_rep _ _ _ _ hi hk, hn]
    · obtain ⟨k0, hks, s0, -⟩ := form1 10 hs hj rfl rfl
      have s0' : k0.srt = 3 := s0
      obtain ⟨r0, i0⟩ := hT k0 (by simp [hks]) (by rw [s0']; decide)
      rw [s0'] at r0
      cases h0 : ev W k0 with
      | error x => rw [h0] at i0; rw [ev1e hks h0, ev1e hks i0]; rfl
      | ok v =>
        rw [h0] at r0 i0
        obtain ⟨x0, rfl, hl0, hm0⟩ := Ty.d r0
        rw [ev1 hks h0, ev1 hks i0, ho]
        show Except.ok (Vv.s (oneS V.nodes.toNat ((sw i k x0.toNat : Nat) : Int).toNat)) = Except.ok (Vv.s (swp i k (oneS W.nodes.toNat x0.toNat)))
        rw [hn, Int.toNat_natCast, swp_one hi hk]
    · obtain ⟨k0, k1, hks, s0, s1, -⟩ := form2 11 hs hj rfl rfl
      have s0' : k0.srt = 2 := s0
      have s1' : k1.srt = 2 := s1
      obtain ⟨r0, i0⟩ := hT k0 (by simp [hks]) (by rw [s0']; decide)
      obtain ⟨r1, i1⟩ := hT k1 (by simp [hks]) (by rw [s1']; decide)
      rw [s0'] at r0
      rw [s1'] at r1
      cases h0 : ev W k0 with
      | error x => rw [h0] at i0; rw [ev2e0 hks h0, ev2e0 hks i0]; rfl
      | ok v =>
        rw [h0] at r0 i0
        cases h1 : ev W k1 with
        | error x => rw [h1] at i1; rw [ev2e1 hks h0 h1, ev2e1 hks i0 i1]; rfl
        | ok u =>
          rw [h1] at r1 i1
          obtain ⟨x0, rfl, hl0⟩ := Ty.s r0
          obtain ⟨x1, rfl, hl1⟩ := Ty.s r1
          rw [ev2 hks h0 h1, ev2 hks i0 i1, ho]
          show Except.ok (Vv.s (List.zipWith (fun a b => a || b) (swp i k x0) (swp i k x1))) = Except.ok (Vv.s (swp i k (List.zipWith (fun a b => a || b) x0 x1)))
          rw [swp_zip _ (by omega) (by omega) (by omega)]
    · obtain ⟨k0, k1, hks, s0, s1, -⟩ := form2 12 hs hj rfl rfl
      have s0' : k0.srt = 2 := s0
      have s1' : k1.srt = 2 := s1
      obtain ⟨r0, i0⟩ := hT k0 (by simp [hks]) (by rw [s0']; decide)
      obtain ⟨r1, i1⟩ := hT k1 (by simp [hks]) (by rw [s1']; decide)
      rw [s0'] at r0
      rw [s1'] at r1
      cases h0 : ev W k0 with
      | error x => rw [h0] at i0; rw [ev2e0 hks h0, ev2e0 hks i0]; rfl
      | ok v =>
        rw [h0] at r0 i0
        cases h1 : ev W k1 with
        | error x => rw [h1] at i1; rw [ev2e1 hks h0 h1, ev2e1 hks i0 i1]; rfl
        | ok u =>
          rw [h1] at r1 i1
          obtain ⟨x0, rfl, hl0⟩ := Ty.s r0
          obtain ⟨x1, rfl, hl1⟩ := Ty.s r1
          rw [ev2 hks h0 h1, ev2 hks i0 i1, ho]
          show Except.ok (Vv.s (List.zipWith (fun a b => a && b) (swp i k x0) (swp i k x1))) = Except.ok (Vv.s (swp i k (List.zipWith (fun a b => a && b) x0 x1)))
          rw [swp_zip _ (by omega) (by omega) (by omega)]
    · obtain ⟨k0, k1, hks, s0, s1, -⟩ := form2 13 hs hj rfl rfl
      have s0' : k0.srt = 2 := s0
      have s1' : k1.srt = 2 := s1
      obtain ⟨r0, i0⟩ := hT k0 (by simp [hks]) (by rw [s0']; decide)
      obtain ⟨r1, i1⟩ := hT k1 (by simp [hks]) (by rw [s1']; decide)
      rw [s0'] at r0
      rw [s1'] at r1
      cases h0 : ev W k0 with
      | error x => rw [h0] at i0; rw [ev2e0 hks h0, ev2e0 hks i0]; rfl
      | ok v =>
        rw [h0] at r0 i0
        cases h1 : ev W k1 with
        | error x => rw [h1] at i1; rw [ev2e1 hks h0 h1, ev2e1 hks i0 i1]; rfl
        | ok u =>
          rw [h1] at r1 i1
          obtain ⟨x0, rfl, hl0⟩ := Ty.s r0
          obtain ⟨x1, rfl, hl1⟩ := Ty.s r1
          rw [ev2 hks h0 h1, ev2 hks i0 i1, ho]
          show Except.ok (Vv.s (List.zipWith (fun a b => a && !b) (swp i k x0) (swp i k x1))) = Except.ok (Vv.s (swp i k (List.zipWith (fun a b => a && !b) x0 x1)))
          rw [swp_zip _ (by omega) (by omega) (by omega)]
    · obtain ⟨hks, -⟩ := form0 14 hs hj rfl rfl
      rw [ev0 hks, ev0 hks, ho]
      exact tn_look (hL _ 3) (fun v u h1 h => by 
        have hs := (look_hold hR h1).1
        show Vv.d u.n = Vv.d (sw i k v.n.toNat : Nat)
        rw [h.2.2.1, hs]; rfl)
    · obtain ⟨hks, -⟩ := form0 15 hs hj rfl rfl
      rw [ev0 hks, ev0 hks, ho]
      exact tn_look (hL _ 4) (fun v u h1 h => by 
        show Vv.b u.b = Vv.b v.b
        rw [h.2.1])
    · obtain ⟨hks, -⟩ := form0 16 hs hj rfl rfl
      rw [ev0 hks, ev0 hks, ho]
      rfl
    · obtain ⟨hks, -⟩ := form0 17 hs hj rfl rfl
      rw [ev0 hks, ev0 hks, ho]
      rfl
    · obtain ⟨k0, hks, s0, -⟩ := form1 18 hs hj rfl rfl
      have s0' : k0.srt = 4 := s0
      obtain ⟨r0, i0⟩ := hT k0 (by simp [hks]) (by rw [s0']; decide)
      rw [s0'] at r0
      cases h0 : ev W k0 with
      | error x => rw [h0] at i0; rw [ev1e hks h0, ev1e hks i0]; rfl
      | ok v =>
        rw [h0] at r0 i0
        obtain ⟨x0, rfl⟩ := Ty.b r0
        rw [ev1 hks h0, ev1 hks i0, ho]
        rfl
    · obtain ⟨hks, -⟩ := formM 19 hs hj rfl
      have h4 : ∀ q ∈ t.ks, q.srt = 4 := hks
      have hr4 : ∀ q ∈ t.ks, Res W 4 (ev W q) := fun q hq => by have := (hT q hq (by rw [h4 q hq]; decide)).1; rw [h4 q hq] at this; exact this
      have e := evs_turn h4 hr4 (fun q hq => (hT q hq (by rw [h4 q hq]; decide)).2)
      rcases evs_bits hr4 with ⟨x, hx, -⟩ | ⟨l, hl, -⟩
      · rw [evMe hx, evMe (e.trans hx)]; rfl
      · rw [evM hl, evM (e.trans hl), ho]; rfl
    · obtain ⟨hks, -⟩ := formM 20 hs hj rfl
      have h4 : ∀ q ∈ t.ks, q.srt = 4 := hks
      have hr4 : ∀ q ∈ t.ks, Res W 4 (ev W q) := fun q hq => by have := (hT q hq (by rw [h4 q hq]; decide)).1; rw [h4 q hq] at this; exact this
      have e := evs_turn h4 hr4 (fun q hq => (hT q hq (by rw [h4 q hq]; decide)).2)
      rcases evs_bits hr4 with ⟨x, hx, -⟩ | ⟨l, hl, -⟩
      · rw [evMe hx, evMe (e.trans hx)]; rfl
      · rw [evM hl, evM (e.trans hl), ho]; rfl
    · obtain ⟨k0, k1, hks, s0, s1, -⟩ := form2 21 hs hj rfl rfl
      have s0' : k0.srt = 4 := s0
      have s1' : k1.srt = 4 := s1
      obtain ⟨r0, i0⟩ := hT k0 (by simp [hks]) (by rw [s0']; decide)
      obtain ⟨r1, i1⟩ := hT k1 (by simp [hks]) (by rw [s1']; decide)
      rw [s0'] at r0
      rw [s1'] at r1
      cases h0 : ev W k0 with
      | error x => rw [h0] at i0; rw [ev2e0 hks h0, ev2e0 hks i0]; rfl
      | ok v =>
        rw [h0] at r0 i0
        cases h1 : ev W k1 with
        | error x => rw [h1] at i1; rw [ev2e1 hks h0 h1, ev2e1 hks i0 i1]; rfl
        | ok u =>
          rw [h1] at r1 i1
          obtain ⟨x0, rfl⟩ := Ty.b r0
          obtain ⟨x1, rfl⟩ := Ty.b r1
          rw [ev2 hks h0 h1, ev2 hks i0 i1, ho]
          rfl
    · obtain ⟨k0, k1, hks, s0, s1, -⟩ := form2 22 hs hj rfl rfl
      have s0' : k0.srt = 1 := s0
      have s1' : k1.srt = 1 := s1
      obtain ⟨r0, i0⟩ := hT k0 (by simp [hks]) (by rw [s0']; decide)
      obtain ⟨r1, i1⟩ := hT k1 (by simp [hks]) (by rw [s1']; decide)
      rw [s0'] at r0
      rw [s1'] at r1
      cases h0 : ev W k0 with
      | error x => rw [h0] at i0; rw [ev2e0 hks h0, ev2e0 hks i0]; rfl
      | ok v =>
        rw [h0] at r0 i0
        cases h1 : ev W k1 with
        | error x => rw [h1] at i1; rw [ev2e1 hks h0 h1, ev2e1 hks i0 i1]; rfl
        | ok u =>
          rw [h1] at r1 i1
          obtain ⟨x0, rfl, hl0⟩ := Ty.i r0
          obtain ⟨x1, rfl, hl1⟩ := Ty.i r1
          rw [ev2 hks h0 h1, ev2 hks i0 i1, ho]
          rfl
    · obtain ⟨k0, k1, hks, s0, s1, -⟩ := form2 23 hs hj rfl rfl
      have s0' : k0.srt = 1 := s0
      have s1' : k1.srt = 1 := s1
      obtain ⟨r0, i0⟩ := hT k0 (by simp [hks]) (by rw [s0']; decide)
      obtain ⟨r1, i1⟩ := hT k1 (by simp [hks]) (by rw [s1']; decide)
      rw [s0'] at r0
      rw [s1'] at r1
      cases h0 : ev W k0 with
      | error x => rw [h0] at i0; rw [ev2e0 hks h0, ev2e0 hks i0]; rfl
      | ok v =>
        rw [h0] at r0 i0
        cases h1 : ev W k1 with
        | error x => rw [h1] at i1; rw [ev2e1 hks h0 h1, ev2e1 hks i0 i1]; rfl
        | ok u =>
          rw [h1] at r1 i1
          obtain ⟨x0, rfl, hl0⟩ := Ty.i r0
          obtain ⟨x1, rfl, hl1⟩ := Ty.i r1
          rw [ev2 hks h0 h1, ev2 hks i0 i1, ho]
          rfl
    · obtain ⟨k0, k1, hks, s0, s1, -⟩ := form2 24 hs hj rfl rfl
      have s0' : k0.srt = 1 := s0
      have s1' : k1.srt = 1 := s1
      obtain ⟨r0, i0⟩ := hT k0 (by simp [hks]) (by rw [s0']; decide)
      obtain ⟨r1, i1⟩ := hT k1 (by simp [hks]) (by rw [s1']; decide)
      rw [s0'] at r0
      rw [s1'] at r1
      cases h0 : ev W k0 with
      | error x => rw [h0] at i0; rw [ev2e0 hks h0, ev2e0 hks i0]; rfl
      | ok v =>
        rw [h0] at r0 i0
        cases h1 : ev W k1 with
        | error x => rw [h1] at i1; rw [ev2e1 hks h0 h1, ev2e1 hks i0 i1]; rfl
        | ok u =>
          rw [h1] at r1 i1
          obtain ⟨x0, rfl, hl0⟩ := Ty.i r0
          obtain ⟨x1, rfl, hl1⟩ := Ty.i r1
          rw [ev2 hks h0 h1, ev2 hks i0 i1, ho]
          rfl
    · obtain ⟨k0, k1, hks, s0, s1, -⟩ := form2 25 hs hj rfl rfl
      have s0' : k0.srt = 3 := s0
      have s1' : k1.srt = 2 := s1
      obtain ⟨r0, i0⟩ := hT k0 (by simp [hks]) (by rw [s0']; decide)
      obtain ⟨r1, i1⟩ := hT k1 (by simp [hks]) (by rw [s1']; decide)
      rw [s0'] at r0
      rw [s1'] at r1
      cases h0 : ev W k0 with
      | error x => rw [h0] at i0; rw [ev2e0 hks h0, ev2e0 hks i0]; rfl
      | ok v =>
        rw [h0] at r0 i0
        cases h1 : ev W k1 with
        | error x => rw [h1] at i1; rw [ev2e1 hks h0 h1, ev2e1 hks i0 i1]; rfl
        | ok u =>
          rw [h1] at r1 i1
          obtain ⟨x0, rfl, hl0, hm0⟩ := Ty.d r0
          obtain ⟨x1, rfl, hl1⟩ := Ty.s r1
          rw [ev2 hks h0 h1, ev2 hks i0 i1, ho]
          show Except.ok (Vv.b ((swp i k x1).getD ((sw i k x0.toNat : Nat) : Int).toNat false)) = Except.ok (Vv.b (x1.getD x0.toNat false))
          rw [Int.toNat_natCast, swp_get (by omega) (by omega), sw_sw]
    · obtain ⟨k0, k1, hks, s0, s1, -⟩ := form2 26 hs hj rfl rfl
      have s0' : k0.srt = 2 := s0
      have s1' : k1.srt = 2 := s1
      obtain ⟨r0, i0⟩ := hT k0 (by simp [hks]) (by rw [s0']; decide)
      obtain ⟨r1, i1⟩ := hT k1 (by simp [hks]) (by rw [s1']; decide)
      rw [s0'] at r0
      rw [s1'] at r1
      cases h0 : ev W k0 with
      | error x => rw [h0] at i0; rw [ev2e0 hks h0, ev2e0 hks i0]; rfl
      | ok v =>
        rw [h0] at r0 i0
        cases h1 : ev W k1 with
        | error x => rw [h1] at i1; rw [ev2e1 hks h0 h1, ev2e1 hks i0 i1]; rfl
        | ok u =>
          rw [h1] at r1 i1
          obtain ⟨x0, rfl, hl0⟩ := Ty.s r0
          obtain ⟨x1, rfl, hl1⟩ := Ty.s r1
          rw [ev2 hks h0 h1, ev2 hks i0 i1, ho]
          show Except.ok (Vv.b (subB (swp i k x0) (swp i k x1))) = Except.ok (Vv.b (subB x0 x1))
          rw [swp_sub (by omega) (by omega) (by omega)]
    · obtain ⟨k0, k1, hks, s0, s1, -⟩ := form2 27 hs hj rfl rfl
      have s0' : k0.srt = 2 := s0
      have s1' : k1.srt = 2 := s1
      obtain ⟨r0, i0⟩ := hT k0 (by simp [hks]) (by rw [s0']; decide)
      obtain ⟨r1, i1⟩ := hT k1 (by simp [hks]) (by rw [s1']; decide)
      rw [s0'] at r0
      rw [s1'] at r1
      cases h0 : ev W k0 with
      | error x => rw [h0] at i0; rw [ev2e0 hks h0, ev2e0 hks i0]; rfl
      | ok v =>
        rw [h0] at r0 i0
        cases h1 : ev W k1 with
        | error x => rw [h1] at i1; rw [ev2e1 hks h0 h1, ev2e1 hks i0 i1]; rfl
        | ok u =>
          rw [h1] at r1 i1
          obtain ⟨x0, rfl, hl0⟩ := Ty.s r0
          obtain ⟨x1, rfl, hl1⟩ := Ty.s r1
          rw [ev2 hks h0 h1, ev2 hks i0 i1, ho]
          show Except.ok (Vv.b (subB (swp i k x0) (swp i k x1) && subB (swp i k x1) (swp i k x0))) = Except.ok (Vv.b (subB x0 x1 && subB x1 x0))
          rw [swp_sub (by omega) (by omega) (by omega), swp_sub (by omega) (by omega) (by omega)]
    · obtain ⟨k0, k1, hks, s0, s1, -⟩ := form2 28 hs hj rfl rfl
      have s0' : k0.srt = 3 := s0
      have s1' : k1.srt = 3 := s1
      obtain ⟨r0, i0⟩ := hT k0 (by simp [hks]) (by rw [s0']; decide)
      obtain ⟨r1, i1⟩ := hT k1 (by simp [hks]) (by rw [s1']; decide)
      rw [s0'] at r0
      rw [s1'] at r1
      cases h0 : ev W k0 with
      | error x => rw [h0] at i0; rw [ev2e0 hks h0, ev2e0 hks i0]; rfl
      | ok v =>
        rw [h0] at r0 i0
        cases h1 : ev W k1 with
        | error x => rw [h1] at i1; rw [ev2e1 hks h0 h1, ev2e1 hks i0 i1]; rfl
        | ok u =>
          rw [h1] at r1 i1
          obtain ⟨x0, rfl, hl0, hm0⟩ := Ty.d r0
          obtain ⟨x1, rfl, hl1, hm1⟩ := Ty.d r1
          rw [ev2 hks h0 h1, ev2 hks i0 i1, ho]
          show Except.ok (Vv.b (((sw i k x0.toNat : Nat) : Int) == ((sw i k x1.toNat : Nat) : Int))) = Except.ok (Vv.b (x0 == x1))
          congr 2
          rw [Bool.eq_iff_iff, beq_iff_eq, beq_iff_eq]
          constructor
          · intro e
            have e1 : sw i k x0.toNat = sw i k x1.toNat := by omega
            have e2 : x0.toNat = x1.toNat := by rw [← sw_sw i k x0.toNat, e1, sw_sw]
            omega
          · rintro rfl; rfl
end Go.Proofs.YtlbknhedpjaelaaDoor
