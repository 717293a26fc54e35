/-
  What TermJoins calls: two terms put together by an operation.
-/
import Derived.Test.YtimnfkdokjdplaaDoorTmR
import Derived.Test.YtimnfkdokjdplaaDoorTmM
import Derived.BigRegion
import Derived.Deep.RegionHeld2
namespace Go.Proofs.YtimnfkdokjdplaaDoor
open Go.RowKit

/-- two terms put together by an operation -/
def jn (op : Int) (g : Nat) (t u : Tm) : Tm := .node op ⟨#[]⟩ 0 (some ⟨g, 0, none⟩) 2 [t, u]
theorem jn_size (op : Int) (g : Nat) (t u : Tm) : (jn op g t u).size = 1 + t.size + u.size := by
  rw [Tm.size_eq]; show 1 + Tm.sizes [t, u] = _; simp [Tm.sizes]; omega
theorem jn_deep (op : Int) (g : Nat) (t u : Tm) : (jn op g t u).deep = 1 + max t.deep u.deep := by
  rw [Tm.deep_eq]; show 1 + Tm.deeps [t, u] = _; simp [Tm.deeps]
theorem jn_srt (op : Int) (g : Nat) (t u : Tm) : (jn op g t u).srt = sortOf op ⟨#[]⟩ 0 [t.srt, u.srt] := by
  rw [srt_eq]; rfl
theorem jn_in {w : World} {B g : Nat} {op : Int} {k0 k1 : Tm} (h1 : fitB op = true) (h : Four w g 0 k0) (h' : Four w g 4 k1) (hk : TIn w B k0) (hk' : TIn w B k1) (hg : g < B) : TIn w B (jn op g k0 k1) :=
  .mk _ h1 (by show fitB 0 = true; decide) (by show (0 : Nat) ≤ _; omega) (by show (2 : Nat) ≤ 2; omega) (by show (2 : Nat) ≤ maxLen; decide)
    (fun j hj => by
      have : j = 0 ∨ j = 1 := by simp [jn, Tm.ks] at hj; omega
      rcases this with rfl | rfl
      · exact ⟨g, 0, rfl, hg, h⟩
      · exact ⟨g, 0, rfl, hg, h'⟩)
    (fun q hq => by
      simp only [jn, Tm.ks, List.mem_cons, List.not_mem_nil, or_false] at hq
      rcases hq with rfl | rfl
      · exact hk
      · exact hk')
theorem jn_full {op : Int} {g : Nat} {t u : Tm} (h1 : t.size ≤ 500) (h2 : u.size ≤ 500) (h3 : t.deep ≤ 50) (h4 : u.deep ≤ 50) : fullB (jn op g t u) = false := by
  simp [fullB, jn_size, jn_deep]; omega
theorem jn_err {op : Int} {g : Nat} {t u : Tm} {s : Nat} (h1 : t.size ≤ 500) (h2 : u.size ≤ 500) (h3 : t.deep ≤ 50) (h4 : u.deep ≤ 50) (h : sortOf op ⟨#[]⟩ 0 [t.srt, u.srt] = s) : errR (jn op g t u) = (if s = 0 then 3 else 0) ∧ srtR (jn op g t u) = s := by
  have e := jn_full (op := op) (g := g) h1 h2 h3 h4
  unfold errR srtR
  rw [e, jn_srt, h]
  exact ⟨rfl, rfl⟩
/-- what lies in memory while TermJoins runs -/
structure SJ (X : Nat) (t u : Tm) (w : World) : Prop where
  bt : Four w X 0 t
  bu : Four w (X + 1) 0 u
  tin : TIn w w.heap.size t
  uin : TIn w w.heap.size u
  s : Shps w
theorem SJ.later {X : Nat} {t u : Tm} {w w' : World} (h : SJ X t u w) (hb : Below w.heap.size w w') : SJ X t u w' := ⟨h.bt.later hb, h.bu.later hb, h.tin.later hb, h.uin.later hb, h.s.later hb⟩
structure SK (X Y : Nat) (t u : Tm) (w : World) : Prop where
  j : SJ X t u w
  k0 : Four w Y 0 t
  k1 : Four w Y 4 u
theorem SK.later {X Y : Nat} {t u : Tm} {w w' : World} (h : SK X Y t u w) (hb : Below w.heap.size w w') : SK X Y t u w' := ⟨h.j.later hb, h.k0.later hb, h.k1.later hb⟩
theorem SK.inn {X Y : Nat} {t u : Tm} {w : World} (h : SK X Y t u w) {op : Int} (ho : fitB op = true) : TIn w w.heap.size (jn op Y t u) := jn_in ho h.k0 h.k1 h.j.tin h.j.uin (four_lt h.k0)
theorem SJ.start {t u : Tm} {w : World} (ht : TIn w w.heap.size t) (hu : TIn w w.heap.size u) (hS : Shps w) : SJ w.heap.size t u ((w.alloc (boxT t)).alloc (boxT u)) := by
  have hb : Below w.heap.size w ((w.alloc (boxT t)).alloc (boxT u)) := bal (bal (Below.refl _ _) _) _
  refine ⟨(box_four w t).later (bel_alloc _ _), ?_, ht.later hb, hu.later hb, hS.later hb⟩
  have := box_four (w.alloc (boxT t)) u
  simpa using this
theorem nodup_len : ∀ (L1 L : List Nm), L1.Nodup → (∀ x ∈ L1, x ∈ L) → L1.length ≤ L.length
  | [], _, _, _ => Nat.zero_le _
  | x :: xs, L, hn, hs => by
    rw [List.nodup_cons] at hn
    have hx := hs x (by simp)
    obtain ⟨s, r, rfl⟩ := List.append_of_mem hx
    have := nodup_len xs (s ++ r) hn.2 (fun y hy => by
      have h1 := hs y (by simp [hy])
      rw [List.mem_append, List.mem_cons] at h1
      rw [List.mem_append]
      rcases h1 with h1 | h1 | h1
      · exact .inl h1
      · subst h1; exact absurd hy hn.1
      · exact .inr h1)
    simp only [List.length_append, List.length_cons] at this ⊢; omega
theorem names_nodup {t : Tm} {L : List Nm} (h : NamesOf t L) : L.Nodup := by
  refine List.Pairwise.imp (fun {a b} hab => ?_) h.1
  intro e
  subst e
  rcases hab with h1 | ⟨-, h1⟩
  · exact List.lt_irrefl _ h1
  · omega
theorem jn_names {op : Int} {g : Nat} {t u : Tm} {L L1 L2 : List Nm} (h : NamesOf (jn op g t u) L) (h1 : NamesOf t L1) (h2 : NamesOf u L2) : L1.length ≤ L.length ∧ L2.length ≤ L.length := by
  have hv : ∀ x, x ∈ t.vars ∨ x ∈ u.vars → x ∈ (jn op g t u).vars := fun x hx => by
    rw [vars_eq]
    refine List.mem_append.2 (.inr ?_)
    show x ∈ Tm.varss [t, u]
    simp only [Tm.varss, List.append_nil, List.mem_append]
    exact hx
  exact ⟨nodup_len _ _ (names_nodup h1) (fun x hx => (h.2 x).2 (hv x (.inl ((h1.2 x).1 hx)))), nodup_len _ _ (names_nodup h2) (fun x hx => (h.2 x).2 (hv x (.inr ((h2.2 x).1 hx))))⟩
theorem eight_keep {w w' : World} {X : Nat} {t u : Tm} (h : w.cell? ⟨X, 0, none⟩ = some (.int .i64 t.op) ∧ w.cell? ⟨X, 1, none⟩ = some (.string t.nm) ∧ w.cell? ⟨X, 2, none⟩ = some (.int .i64 t.n) ∧ w.cell? ⟨X, 3, none⟩ = some (.slice t.a t.ks.length t.c) ∧ w.cell? ⟨X + 1, 0, none⟩ = some (.int .i64 u.op) ∧ w.cell? ⟨X + 1, 1, none⟩ = some (.string u.nm) ∧ w.cell? ⟨X + 1, 2, none⟩ = some (.int .i64 u.n) ∧ w.cell? ⟨X + 1, 3, none⟩ = some (.slice u.a u.ks.length u.c)) (hb : Below w.heap.size w w') :
    w'.cell? ⟨X, 0, none⟩ = some (.int .i64 t.op) ∧ w'.cell? ⟨X, 1, none⟩ = some (.string t.nm) ∧ w'.cell? ⟨X, 2, none⟩ = some (.int .i64 t.n) ∧ w'.cell? ⟨X, 3, none⟩ = some (.slice t.a t.ks.length t.c) ∧ w'.cell? ⟨X + 1, 0, none⟩ = some (.int .i64 u.op) ∧ w'.cell? ⟨X + 1, 1, none⟩ = some (.string u.nm) ∧ w'.cell? ⟨X + 1, 2, none⟩ = some (.int .i64 u.n) ∧ w'.cell? ⟨X + 1, 3, none⟩ = some (.slice u.a u.ks.length u.c) :=
  ⟨cell_later hb h.1, cell_later hb h.2.1, cell_later hb h.2.2.1, cell_later hb h.2.2.2.1, cell_later hb h.2.2.2.2.1, cell_later hb h.2.2.2.2.2.1, cell_later hb h.2.2.2.2.2.2.1, cell_later hb h.2.2.2.2.2.2.2⟩
end Go.Proofs.YtimnfkdokjdplaaDoor
