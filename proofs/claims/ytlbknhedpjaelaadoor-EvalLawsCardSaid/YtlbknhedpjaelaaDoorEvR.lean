/-
  The laws of sets, bools, ints and nodes, as terms: they are right, and true.
-/
import Derived.Test.YtlbknhedpjaelaaDoorEvN
import Derived.Test.YtlbknhedpjaelaaDoorEvP
namespace Go.Proofs.YtlbknhedpjaelaaDoor
open Go.RowKit Go.Shelf

theorem ne_four {n : Nat} (h : n = 4) : n ≠ 0 := by omega
theorem t1_size (op n : Int) (g : Nat) (k : Tm) : (t1 op n g k).size = 1 + k.size := by simp [t1, Tm.size, Tm.sizes]
theorem t2_size (op : Int) (g : Nat) (k l : Tm) : (t2 op g k l).size = 1 + (k.size + l.size) := by simp [t2, Tm.size, Tm.sizes]
theorem t1_deep (op n : Int) (g : Nat) (k : Tm) : (t1 op n g k).deep = 1 + k.deep := by simp [t1, Tm.deep, Tm.deeps]
theorem t2_deep (op : Int) (g : Nat) (k l : Tm) : (t2 op g k l).deep = 1 + max k.deep l.deep := by simp [t2, Tm.deep, Tm.deeps]
theorem t1_srt (op n : Int) (g : Nat) (k : Tm) : (t1 op n g k).srt = sortOf op ⟨#[]⟩ n [k.srt] := by rw [srt_eq]; rfl
theorem t2_srt (op : Int) (g : Nat) (k l : Tm) : (t2 op g k l).srt = sortOf op ⟨#[]⟩ 0 [k.srt, l.srt] := by rw [srt_eq]; rfl
theorem t1_ev {W : Wd} {op n : Int} {g : Nat} {k : Tm} {v : Vv} (h : ev W k = .ok v) : ev W (t1 op n g k) = app W op.toNat ⟨#[]⟩ n [v] := ev1 rfl h
theorem t2_ev {W : Wd} {op : Int} {g : Nat} {k l : Tm} {v u : Vv} (h : ev W k = .ok v) (h' : ev W l = .ok u) : ev W (t2 op g k l) = app W op.toNat ⟨#[]⟩ 0 [v, u] := ev2 rfl h h'
theorem evalR_in {W : Wd} {t : Tm} (hr : rightB W = true) (h1 : t.size ≤ 2000) (h2 : t.deep ≤ 100) (h3 : t.srt ≠ 0) : evalR W t = ev W t := by
  have hf : fullB t = false := by unfold fullB; rw [decide_eq_false (by omega), decide_eq_false (by omega)]; rfl
  have he : errR t = 0 := by unfold errR; rw [hf, if_neg (by decide), if_neg h3]
  unfold evalR; rw [if_pos he, if_pos hr]

/-- two terms that a law is about: right, of one sort, not too large, with values -/
structure Lw (W : Wd) (s : Nat) (t u : Tm) : Prop where
  r : rightB W = true
  rt : Rt W
  st : t.srt = s
  su : u.srt = s
  zt : t.size ≤ 200
  zu : u.size ≤ 200
  dt : t.deep ≤ 80
  du : u.deep ≤ 80

def lwS (gl gc gi gb gt gu ge g : Nat) (t u : Tm) : Tm := t2 24 g (t2 4 gb (t1 3 0 gc (t2 11 gl t u)) (t1 3 0 gi (t2 12 gl t u))) (t2 4 ge (t1 3 0 gt t) (t1 3 0 gu u))
def lwB (gl gn go g1 g2 g : Nat) (t u : Tm) : Tm := t2 19 g (t2 21 g1 (t2 20 go (t1 18 0 gn t) u) (t2 21 gl t u)) (t2 21 g2 (t2 21 gl t u) (t2 20 go (t1 18 0 gn t) u))
def lwI (gl gx g : Nat) (t u : Tm) : Tm := t2 20 g (t2 22 gl t u) (t2 23 gx u t)
def lwN (gl go gi g1 g2 g : Nat) (t u : Tm) : Tm := t2 19 g (t2 21 g1 (t2 28 gl t u) (t2 25 gi t (t1 10 0 go u))) (t2 21 g2 (t2 25 gi t (t1 10 0 go u)) (t2 28 gl t u))

theorem cnt_cons (a : Bool) (l : List Bool) : cntB (a :: l) = (if a then 1 else 0) + cntB l := by
  cases a <;> simp [cntB, Nat.add_comm]
theorem cnt_both : ∀ x y : List Bool, x.length = y.length → cntB (List.zipWith (fun a b => a || b) x y) + cntB (List.zipWith (fun a b => a && b) x y) = cntB x + cntB y
  | [], [], _ => rfl
  | a :: x, b :: y, h => by
    have ih := cnt_both x y (by simpa using h)
    simp only [List.zipWith_cons_cons, cnt_cons]
    cases a <;> cases b <;> simp <;> omega
  | [], _ :: _, h => by simp at h
  | _ :: _, [], h => by simp at h
theorem fitE_small {n : Int} (h0 : 0 ≤ n) (h : n ≤ 1000) : fitE n = .ok (.i n) := by
  unfold fitE
  rw [if_pos (by rw [fitB_iff]; omega)]

theorem lwS_val {W : Wd} {t u : Tm} (L : Lw W 2 t u) {v1 v2 : Vv} (h1 : ev W t = .ok v1) (h2 : ev W u = .ok v2) (y1 : Ty W 2 v1) (y2 : Ty W 2 v2) (gl gc gi gb gt gu ge g : Nat) :
    evalR W (lwS gl gc gi gb gt gu ge g t u) = .ok (.b true) := by
  obtain ⟨x, rfl, hx⟩ := Ty.s y1
  obtain ⟨y, rfl, hy⟩ := Ty.s y2
  have hhi := L.rt.hi
  have a1 := L.zt; have a2 := L.zu; have a3 := L.dt; have a4 := L.du
  rw [evalR_in L.r (by unfold lwS; simp only [t1_size, t2_size]; omega) (by unfold lwS; simp only [t1_deep, t2_deep]; omega) (by
    unfold lwS; simp only [t1_srt, t2_srt, L.st, L.su]; exact ne_four (by kernel_rfl))]
  have c1 := cntB_le (List.zipWith (fun a b => a || b) x y)
  have c2 := cntB_le (List.zipWith (fun a b => a && b) x y)
  rw [List.length_zipWith] at c1 c2
  have c3 := cntB_le x
  have c4 := cntB_le y
  have cb := cnt_both x y (by omega)
  have e1 : ev W (t1 3 0 gc (t2 11 gl t u)) = .ok (.i (cntB (List.zipWith (fun a b => a || b) x y))) := t1_ev (v := .s (List.zipWith (fun a b => a || b) x y)) (t2_ev h1 h2)
  have e2 : ev W (t1 3 0 gi (t2 12 gl t u)) = .ok (.i (cntB (List.zipWith (fun a b => a && b) x y))) := t1_ev (v := .s (List.zipWith (fun a b => a && b) x y)) (t2_ev h1 h2)
  have e3 : ev W (t1 3 0 gt t) = .ok (.i (cntB x)) := t1_ev h1
  have e4 : ev W (t1 3 0 gu u) = .ok (.i (cntB y)) := t1_ev h2
  have e5 : ev W (t2 4 gb (t1 3 0 gc (t2 11 gl t u)) (t1 3 0 gi (t2 12 gl t u))) = .ok (.i ((cntB x : Int) + cntB y)) := by
    rw [t2_ev e1 e2]
    show fitE _ = _
    rw [fitE_small (by omega) (by omega)]
    congr 2; omega
  have e6 : ev W (t2 4 ge (t1 3 0 gt t) (t1 3 0 gu u)) = .ok (.i ((cntB x : Int) + cntB y)) := by
    rw [t2_ev e3 e4]
    show fitE _ = _
    rw [fitE_small (by omega) (by omega)]
  unfold lwS
  rw [t2_ev e5 e6]
  show Except.ok (Vv.b (ordB 24 _ _)) = _
  simp [ordB]
theorem lwB_val {W : Wd} {t u : Tm} (L : Lw W 4 t u) {v1 v2 : Vv} (h1 : ev W t = .ok v1) (h2 : ev W u = .ok v2) (y1 : Ty W 4 v1) (y2 : Ty W 4 v2) (gl gn go g1 g2 g : Nat) :
    evalR W (lwB gl gn go g1 g2 g t u) = .ok (.b true) := by
  obtain ⟨x, rfl⟩ := Ty.b y1
  obtain ⟨y, rfl⟩ := Ty.b y2
  have a1 := L.zt; have a2 := L.zu; have a3 := L.dt; have a4 := L.du
  rw [evalR_in L.r (by unfold lwB; simp only [t1_size, t2_size]; omega) (by unfold lwB; simp only [t1_deep, t2_deep]; omega) (by
    unfold lwB; simp only [t1_srt, t2_srt, L.st, L.su]; exact ne_four (by kernel_rfl))]
  have e1 : ev W (t2 20 go (t1 18 0 gn t) u) = .ok (.b ([Vv.b (!x), Vv.b y].any Vv.bit)) := t2_ev (t1_ev h1) h2
  have e2 : ev W (t2 21 gl t u) = .ok (.b (!x || y)) := t2_ev h1 h2
  unfold lwB
  have e3 : ev W (t2 21 g1 (t2 20 go (t1 18 0 gn t) u) (t2 21 gl t u)) = .ok (.b (!([Vv.b (!x), Vv.b y].any Vv.bit) || (!x || y))) := t2_ev e1 e2
  have e4 : ev W (t2 21 g2 (t2 21 gl t u) (t2 20 go (t1 18 0 gn t) u)) = .ok (.b (!(!x || y) || [Vv.b (!x), Vv.b y].any Vv.bit)) := t2_ev e2 e1
  rw [t2_ev e3 e4]
  cases x <;> cases y <;> rfl
theorem lwI_val {W : Wd} {t u : Tm} (L : Lw W 1 t u) {v1 v2 : Vv} (h1 : ev W t = .ok v1) (h2 : ev W u = .ok v2) (y1 : Ty W 1 v1) (y2 : Ty W 1 v2) (gl gx g : Nat) :
    evalR W (lwI gl gx g t u) = .ok (.b true) := by
  obtain ⟨x, rfl, -⟩ := Ty.i y1
  obtain ⟨y, rfl, -⟩ := Ty.i y2
  have a1 := L.zt; have a2 := L.zu; have a3 := L.dt; have a4 := L.du
  rw [evalR_in L.r (by unfold lwI; simp only [t2_size]; omega) (by unfold lwI; simp only [t2_deep]; omega) (by
    unfold lwI; simp only [t2_srt, L.st, L.su]; exact ne_four (by kernel_rfl))]
  have e1 : ev W (t2 22 gl t u) = .ok (.b (ordB 22 x y)) := t2_ev h1 h2
  have e2 : ev W (t2 23 gx u t) = .ok (.b (ordB 23 y x)) := t2_ev h2 h1
  unfold lwI
  rw [t2_ev e1 e2]
  show Except.ok (Vv.b ([Vv.b (ordB 22 x y), Vv.b (ordB 23 y x)].any Vv.bit)) = _
  have : ([Vv.b (ordB 22 x y), Vv.b (ordB 23 y x)].any Vv.bit) = true := by
    simp only [List.any_cons, List.any_nil, Vv.bit, ordB, if_pos, Bool.or_false, Bool.or_eq_true]
    simp
    omega
  rw [this]
theorem oneS_get {N : Nat} {x y : Int} (hx : 0 ≤ x) (hx' : x < N) (hy : 0 ≤ y) (hy' : y < N) : (oneS N y.toNat).getD x.toNat false = (x == y) := by
  unfold oneS
  rw [List.getD_eq_getElem?_getD, List.getElem?_set]
  by_cases h : x = y
  · subst h
    have : x.toNat < N := by omega
    simp [this]
  · rw [if_neg (by omega)]
    have h2 : x.toNat < N := by omega
    simp [h2, h]
theorem lwN_val {W : Wd} {t u : Tm} (L : Lw W 3 t u) {v1 v2 : Vv} (h1 : ev W t = .ok v1) (h2 : ev W u = .ok v2) (y1 : Ty W 3 v1) (y2 : Ty W 3 v2) (gl go gi g1 g2 g : Nat) :
    evalR W (lwN gl go gi g1 g2 g t u) = .ok (.b true) := by
  obtain ⟨x, rfl, hx, hx'⟩ := Ty.d y1
  obtain ⟨y, rfl, hy, hy'⟩ := Ty.d y2
  have a1 := L.zt; have a2 := L.zu; have a3 := L.dt; have a4 := L.du
  rw [evalR_in L.r (by unfold lwN; simp only [t1_size, t2_size]; omega) (by unfold lwN; simp only [t1_deep, t2_deep]; omega) (by
    unfold lwN; simp only [t1_srt, t2_srt, L.st, L.su]; exact ne_four (by kernel_rfl))]
  have e1 : ev W (t2 28 gl t u) = .ok (.b (x == y)) := t2_ev h1 h2
  have e2 : ev W (t2 25 gi t (t1 10 0 go u)) = .ok (.b (x == y)) := by
    rw [t2_ev h1 (t1_ev h2)]
    show Except.ok (Vv.b ((oneS _ _).getD _ _)) = _
    rw [oneS_get hx (by omega) hy (by omega)]
  have e3 : ev W (t2 21 g1 (t2 28 gl t u) (t2 25 gi t (t1 10 0 go u))) = .ok (.b (!(x == y) || (x == y))) := t2_ev e1 e2
  have e4 : ev W (t2 21 g2 (t2 25 gi t (t1 10 0 go u)) (t2 28 gl t u)) = .ok (.b (!(x == y) || (x == y))) := t2_ev e2 e1
  unfold lwN
  rw [t2_ev e3 e4]
  cases (x == y) <;> rfl
end Go.Proofs.YtlbknhedpjaelaaDoor
