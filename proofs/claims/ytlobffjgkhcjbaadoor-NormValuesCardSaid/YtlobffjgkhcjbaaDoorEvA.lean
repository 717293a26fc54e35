/-
  Worlds and values as data, and how they lie in memory; looking a name up.
-/
import Derived.Test.YtlobffjgkhcjbaaDoorTmH
import Derived.Laws.AppendOwn
import Derived.Laws.AppendOwnNone
import Derived.Laws.OwnMore
namespace Go.Proofs.YtlobffjgkhcjbaaDoor
open Go.RowKit

/-- a value: its sort, number, truth, and the set: where it stands, its room, and what is in it -/
structure Vl where
  sort : Int
  n : Int
  b : Bool
  a : Option Addr
  c : Nat
  s : List Bool
/-- a named value -/
structure Nd where
  nm : ByteArray
  v : Vl
/-- a world -/
structure Wd where
  nodes : Int
  a : Option Addr
  c : Nat
  l : List Nd
def Vl.val (v : Vl) : Value := .agg #[.int .i64 v.sort, .int .i64 v.n, .bool v.b, .slice v.a v.s.length v.c]
def Wd.val (W : Wd) : Value := .agg #[.int .i64 W.nodes, .slice W.a W.l.length W.c]
/-- bools lie in memory, in a block below B -/
def BIn (w : World) (B : Nat) (a : Option Addr) (l : List Bool) : Prop :=
  ∀ j (h : j < l.length), ∃ b o, a = some ⟨b, o, none⟩ ∧ b < B ∧ w.cell? ⟨b, o + j, none⟩ = some (.bool l[j])
structure VIn (w : World) (B : Nat) (v : Vl) : Prop where
  s : fitB v.sort = true
  n : fitB v.n = true
  c : v.s.length ≤ v.c
  m : v.c ≤ maxLen
  i : BIn w B v.a v.s
/-- the five cells of a named value -/
def NdAt (w : World) (b o : Nat) (x : Nd) : Prop :=
  w.cell? ⟨b, o, none⟩ = some (.string x.nm) ∧ w.cell? ⟨b, o + 1, none⟩ = some (.int .i64 x.v.sort) ∧ w.cell? ⟨b, o + 2, none⟩ = some (.int .i64 x.v.n) ∧ w.cell? ⟨b, o + 3, none⟩ = some (.bool x.v.b) ∧ w.cell? ⟨b, o + 4, none⟩ = some (.slice x.v.a x.v.s.length x.v.c)
structure WIn (w : World) (B : Nat) (W : Wd) : Prop where
  nd : fitB W.nodes = true
  c : W.l.length ≤ W.c
  m : W.c ≤ maxLen
  at_ : ∀ j (h : j < W.l.length), ∃ b o, W.a = some ⟨b, o, none⟩ ∧ b < B ∧ NdAt w b (o + j * 5) W.l[j]
  vs : ∀ x ∈ W.l, x.nm.size ≤ maxLen ∧ VIn w B x.v

theorem BIn.keep {w w' : World} {B : Nat} {a : Option Addr} {l : List Bool} (h : BIn w B a l) (hb : Below B w w') : BIn w' B a l := fun j hj => by
  obtain ⟨b, o, h1, h2, h3⟩ := h j hj
  exact ⟨b, o, h1, h2, by rw [hb.cell (p := ⟨b, o + j, none⟩) h2]; exact h3⟩
theorem BIn.mono {w : World} {B B' : Nat} {a : Option Addr} {l : List Bool} (h : BIn w B a l) (hB : B ≤ B') : BIn w B' a l := fun j hj => by
  obtain ⟨b, o, h1, h2, h3⟩ := h j hj
  exact ⟨b, o, h1, by omega, h3⟩
theorem VIn.keep {w w' : World} {B : Nat} {v : Vl} (h : VIn w B v) (hb : Below B w w') : VIn w' B v := ⟨h.s, h.n, h.c, h.m, h.i.keep hb⟩
theorem VIn.mono {w : World} {B B' : Nat} {v : Vl} (h : VIn w B v) (hB : B ≤ B') : VIn w B' v := ⟨h.s, h.n, h.c, h.m, h.i.mono hB⟩
theorem NdAt.keep {w w' : World} {b o B : Nat} {x : Nd} (h : NdAt w b o x) (hb : Below B w w') (hB : b < B) : NdAt w' b o x := by
  unfold NdAt at *
  rw [hb.cell (p := ⟨b, o, none⟩) hB, hb.cell (p := ⟨b, o + 1, none⟩) hB, hb.cell (p := ⟨b, o + 2, none⟩) hB, hb.cell (p := ⟨b, o + 3, none⟩) hB, hb.cell (p := ⟨b, o + 4, none⟩) hB]
  exact h
theorem WIn.keep {w w' : World} {B : Nat} {W : Wd} (h : WIn w B W) (hb : Below B w w') : WIn w' B W :=
  ⟨h.nd, h.c, h.m, fun j hj => by
    obtain ⟨b, o, h1, h2, h3⟩ := h.at_ j hj
    exact ⟨b, o, h1, h2, h3.keep hb h2⟩, fun x hx => ⟨(h.vs x hx).1, (h.vs x hx).2.keep hb⟩⟩
theorem WIn.mono {w : World} {B B' : Nat} {W : Wd} (h : WIn w B W) (hB : B ≤ B') : WIn w B' W :=
  ⟨h.nd, h.c, h.m, fun j hj => by
    obtain ⟨b, o, h1, h2, h3⟩ := h.at_ j hj
    exact ⟨b, o, h1, by omega, h3⟩, fun x hx => ⟨(h.vs x hx).1, (h.vs x hx).2.mono hB⟩⟩
theorem WIn.later {w w' : World} {W : Wd} (h : WIn w w.heap.size W) (hb : Below w.heap.size w w') : WIn w' w'.heap.size W := (h.keep hb).mono hb.size
theorem VIn.later {w w' : World} {v : Vl} (h : VIn w w.heap.size v) (hb : Below w.heap.size w w') : VIn w' w'.heap.size v := (h.keep hb).mono hb.size

/-- two cells of a world in a box -/
def TwoW (w : World) (b : Nat) (W : Wd) : Prop := w.cell? ⟨b, 0, none⟩ = some (.int .i64 W.nodes) ∧ w.cell? ⟨b, 1, none⟩ = some (.slice W.a W.l.length W.c)
theorem TwoW.later {w w' : World} {b : Nat} {W : Wd} (h : TwoW w b W) (hb : Below w.heap.size w w') : TwoW w' b W := ⟨cell_later hb h.1, cell_later hb h.2⟩
def boxP (W : Wd) : Obj := .cells #[.int .i64 W.nodes, .slice W.a W.l.length W.c] 89
def boxW (W : Wd) : Obj := .cells #[.int .i64 W.nodes, .slice W.a W.l.length W.c] 50
theorem boxP_two (w : World) (W : Wd) : TwoW (w.alloc (boxP W)) w.heap.size W := by simp [TwoW, boxP, go_sem]
theorem boxW_two (w : World) (W : Wd) : TwoW (w.alloc (boxW W)) w.heap.size W := by simp [TwoW, boxW, go_sem]
def boxN (x : Nd) : Obj := .cells #[.string x.nm, .int .i64 x.v.sort, .int .i64 x.v.n, .bool x.v.b, .slice x.v.a x.v.s.length x.v.c] 91
theorem boxN_five (w : World) (x : Nd) : NdAt (w.alloc (boxN x)) w.heap.size 0 x := by simp [NdAt, boxN, go_sem]

/-- is it this name, of this sort? -/
def hitN (nm : ByteArray) (s : Int) (x : Nd) : Bool := (x.v.sort == s) && (x.nm.toList == nm.toList)
/-- the first place from k on -/
def findN (nm : ByteArray) (s : Int) : List Nd → Nat → Int
  | [], _ => -1
  | x :: l, k => if hitN nm s x then k else findN nm s l (k + 1)
theorem findN_drop (nm : ByteArray) (s : Int) (l : List Nd) (k : Nat) (h : k < l.length) : findN nm s (l.drop k) k = if hitN nm s l[k] then (k : Int) else findN nm s (l.drop (k + 1)) (k + 1) := by
  rw [List.drop_eq_getElem_cons h]; rfl

set_option maxHeartbeats 1000000 in
set_option maxRecDepth 100000 in
theorem find_any (W : Wd) (nm : ByteArray) (s : Int) (w : World) (hin : WIn w w.heap.size W) :
    Calls Tryd.prog 72 #[W.val, .string nm, .int .i64 s] w fun e w' => e = .returned (.int .i64 (findN nm s W.l 0)) ∧ Below w.heap.size w w' := by
  have hlc := hin.c
  have hcm := hin.m
  unfold maxLen at hcm
  have HIN := mkHid hin
  have hB0 := bel_alloc w (boxP W)
  have TW := boxP_two w W
  clear hin
  have hn : W.l.length ≤ 9223372036854775807 := by omega
  generalize hR : findN nm s W.l 0 = R
  have HR : Hid (findN nm s (W.l.drop 0) 0 = R) := hR
  clear hR
  generalize hn' : W.l.length = n at *
  have HN := mkHid hn'
  clear hn' hlc hcm
  have hW : w.alloc (.cells #[.int .i64 W.nodes, .slice W.a n W.c] 89) = w.alloc (boxP W) := by unfold boxP; rw [HN.out]
  generalize w.alloc (boxP W) = W0 at *
  unfold Wd.val
  obtain ⟨a0, a1⟩ := TW
  rw [HN.out] at a1 ⊢
  go_enter Tryd.func72, Tryd.ntmps72
  go_wp2
  clear a0 a1 hW
  go_loopw [13] (fun i w' => ∃ (k : Nat) (x : Int), i = .int .i64 x ∧ x = k ∧ k ≤ n ∧ Below W0.heap.size W0 w' ∧ Hid (findN nm s (W.l.drop k) k = R)) (fun i _ => (n - intOf i).toNat)
  case atStart => exact ⟨0, 0, rfl, rfl, Nat.zero_le _, Below.refl _ _, HR⟩
  case round =>
    obtain ⟨k, x, rfl, hxk, hk, hb, hal⟩ := hrel
    obtain rfl : x = (k : Int) := hxk
    clear HR
    by_cases hlt : k < n
    · have hk' : k < W.l.length := by rw [HN.out]; exact hlt
      have hbw : Below w.heap.size w wr := bon hB0 hb
      obtain ⟨b, o, ha, hbB, kf⟩ := HIN.out.at_ k hk'
      have kf' := kf.keep hbw hbB
      have hsu := hal.out
      rw [findN_drop nm s W.l k hk'] at hsu
      have HSU := mkHid hsu
      rw [ha]
      clear ha kf hsu hal
      generalize W.l[k] = q at *
      clear hk'
      obtain ⟨g0, g1, g2, g3, g4⟩ := kf'
      have hb2 := bon hb (bel_alloc wr (boxN q))
      obtain ⟨f0, f1, f2, f3, f4⟩ := boxN_five wr q
      simp only [Nat.zero_add] at f1 f2 f3 f4
      have hW2 : wr.alloc (.cells #[.string q.nm, .int .i64 q.v.sort, .int .i64 q.v.n, .bool q.v.b, .slice q.v.a q.v.s.length q.v.c] 91) = wr.alloc (boxN q) := rfl
      generalize wr.alloc (boxN q) = W2 at *
      have hBW := bon hB0 hb2
      cases h1 : (q.v.sort == s)
      · have hh : hitN nm s q = false := by unfold hitN; rw [h1]; rfl
        rw [hh] at HSU
        go_wp2
        go_roundw
        case rel => exact ⟨k + 1, _, rfl, by omega, by omega, hb2, by simpa using HSU⟩
        case measure => simp [intOf]; omega
      · cases h2 : (q.nm.toList == nm.toList)
        · have hh : hitN nm s q = false := by unfold hitN; rw [h1, h2]; rfl
          rw [hh] at HSU
          go_wp2
          go_roundw
          case rel => exact ⟨k + 1, _, rfl, by omega, by omega, hb2, by simpa using HSU⟩
          case measure => simp [intOf]; omega
        · have hh : hitN nm s q = true := by unfold hitN; rw [h1, h2]; rfl
          rw [hh] at HSU
          have hR : R = (k : Int) := by have := HSU.out; simpa using this.symm
          subst hR
          clear HSU
          go_wp2
          go_ret
          exact ⟨rfl, hBW⟩
    · have hR : R = -1 := by
        have := hal.out
        rw [List.drop_eq_nil_of_le (by rw [HN.out]; omega)] at this
        exact this.symm
      subst hR
      clear hal
      go_wp2
      go_ret
      exact ⟨rfl, bon hB0 hb⟩
end Go.Proofs.YtlobffjgkhcjbaaDoor
