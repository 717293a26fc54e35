/-
  What 'Names' answers of any right term.
-/
import Derived.Test.YtaibmdikimpooaaDoorTmQ
namespace Go.Proofs.YtaibmdikimpooaaDoor
open Go.RowKit

/-- the names of a term, rising, each once -/
def NamesOf (t : Tm) (L : List Nm) : Prop := L.Pairwise ltA ∧ ∀ x, x ∈ L ↔ x ∈ t.vars
theorem dd_fin (l : List Nm) (hs : ∀ i j, i < j → j < l.length → ¬ ltA (l.getD j noNm) (l.getD i noNm)) : ∀ j, j ≤ l.length → (ddN l j).Pairwise ltA ∧ ∀ x, x ∈ ddN l j ↔ ∃ i, i < j ∧ x = l.getD i noNm := by
  intro j
  induction j with
  | zero => intro _; exact ⟨by simp [ddN], fun x => by simp [ddN]⟩
  | succ j ih =>
    intro hj
    obtain ⟨h1, h2⟩ := ih (by omega)
    unfold ddN
    split
    · rename_i h
      refine ⟨h1, fun x => ⟨fun hx => ?_, fun ⟨i, hi, e⟩ => ?_⟩⟩
      · obtain ⟨i, hi, e⟩ := (h2 x).1 hx
        exact ⟨i, by omega, e⟩
      · by_cases k : i = j
        · subst k
          exact (h2 x).2 ⟨i - 1, by omega, e.trans h.2⟩
        · exact (h2 x).2 ⟨i, by omega, e⟩
    · rename_i h
      refine ⟨List.pairwise_append.2 ⟨h1, by simp, fun x hx y hy => ?_⟩, fun x => ?_⟩
      · rw [List.mem_singleton] at hy
        subst hy
        obtain ⟨i, hi, rfl⟩ := (h2 x).1 hx
        rcases ltA_tri (l.getD i noNm) (l.getD j noNm) with k | k | k
        · exact k
        · exfalso
          by_cases hij : i = j - 1
          · subst hij; exact h ⟨by omega, k.symm⟩
          · have a1 := hs i (j - 1) (by omega) (by omega)
            have a2 := hs (j - 1) j (by omega) (by omega)
            rcases ltA_tri (l.getD (j - 1) noNm) (l.getD j noNm) with q | q | q
            · rw [k] at a1; exact a1 q
            · exact h ⟨by omega, q.symm⟩
            · exact a2 q
        · exact absurd k (hs i j hi (by omega))
      · rw [List.mem_append, List.mem_singleton, h2]
        constructor
        · rintro (⟨i, hi, e⟩ | e)
          · exact ⟨i, by omega, e⟩
          · exact ⟨j, by omega, e⟩
        · rintro ⟨i, hi, e⟩
          by_cases k : i = j
          · subst k; exact .inr e
          · exact .inl ⟨i, by omega, e⟩
theorem mem_getD (l : List Nm) (x : Nm) : x ∈ l ↔ ∃ i, i < l.length ∧ x = l.getD i noNm := by
  constructor
  · intro h
    obtain ⟨i, hi, rfl⟩ := List.mem_iff_getElem.1 h
    exact ⟨i, hi, by simp [List.getD, hi]⟩
  · rintro ⟨i, hi, rfl⟩
    have : l.getD i noNm = l[i] := by simp [List.getD, hi]
    rw [this]; exact List.getElem_mem _
theorem names_fin {t : Tm} {l' : List Nm} (hl : l'.length = t.vars.length) (hp : l'.Perm t.vars) (hs : ∀ i j, i < j → j < t.vars.length → ¬ ltA (l'.getD j noNm) (l'.getD i noNm)) : NamesOf t (ddN l' t.vars.length) := by
  rw [← hl] at hs ⊢
  obtain ⟨h1, h2⟩ := dd_fin l' hs l'.length (Nat.le_refl _)
  exact ⟨h1, fun x => by rw [h2, ← mem_getD]; exact hp.mem_iff⟩
theorem own_caps {w : World} {base e s n cap g : Nat} {xs : List Value} (h : w.ownsRow base e s (.slice (some ⟨g, 0, none⟩) n cap) n xs) : n ≤ cap ∧ cap ≤ maxLen := by
  rcases h.2 with ⟨e, -⟩ | ⟨g', cap', cur, e, -, -, hc, hm, -, -⟩
  · cases e
  · simp only [Value.slice.injEq, Option.some.injEq, Addr.mk.injEq, and_true, true_and] at e
    obtain ⟨-, rfl⟩ := e
    exact ⟨hc, hm⟩

set_option maxRecDepth 100000 in
set_option maxHeartbeats 4000000 in
theorem names_lots (t : Tm) (w : World) (hin : TIn w w.heap.size t) (hS : Shps w) (he : errR t = 0) (hv : 2 ≤ t.vars.length) :
    Calls Tryd.prog 14 #[t.val] w fun e w' => (∃ (L : List Nm) (v : Value), e = .returned v ∧ w'.ownsRow w.heap.size 38 5 v L.length (asgs L) ∧ NamesOf t L) ∧ Below w.heap.size w w' := by
  have hmf : ∀ (fn : Fn) (first cap : Array Value) (w : World), (Instr.makeFunc fn first cap).run Tryd.prog w = .ok (.func fn first cap) w := fun _ _ _ _ => rfl
  obtain ⟨hz, hd, hs0, hsr⟩ := errR_zero he
  have hb1 := bel_alloc w (boxT t)
  have f4 := box_four w t
  have ST := mkHid (sort_any t _ (hin.later hb1) (hS.later hb1))
  rw [he] at ST
  have hg0 : 0 < w.heap.size := World.block_lt_of_cell? _ _ (hS 0 (by omega)).1
  have hW : w.alloc (.cells #[.int .i64 t.op, .string t.nm, .int .i64 t.n, .slice t.a t.ks.length t.c] 24) = w.alloc (boxT t) := rfl
  have HIN := mkHid hin
  have HS := mkHid hS
  have HF := mkHid f4
  have hX1 : w.heap.size < (w.alloc (boxT t)).heap.size := by simp
  have HG := mkHid (fun B base nb fb v W => gather_any t B base nb fb [] v W)
  have hvz : t.vars.length ≤ 2000 := Nat.le_trans (vars_le t) hz
  have TS := mkHid (fun g cap w' ho => sort_many t.vars g t.vars.length cap w.heap.size w' ho rfl hvz)
  generalize hx : srtR t = sr at *
  generalize w.alloc (boxT t) = W at *
  have hval : t.val = .agg #[.int .i64 t.op, .string t.nm, .int .i64 t.n, .slice t.a t.ks.length t.c] := rfl
  have HVL := mkHid hval
  rw [hval]
  clear hval hx hin hS hd he
  obtain ⟨a0, a1, a2, a3⟩ := f4
  simp only [Nat.zero_add] at a1 a2 a3
  unfold Tm.val at ST
  go_enter Tryd.func14, Tryd.ntmps14
  go_wp2_with fail
  ((with_reducible refine ST.out.mono ?_)); rintro e w2 ⟨rfl, hb2⟩
  have B2 := bon hb1 hb2
  have f5 := HF.out.later hb2
  obtain ⟨n1, n2, n3, n4, n5⟩ := namW_facts w2
  have f6 := f5.later n1
  have B3 := bon B2 n1
  have G := mkHid (HG.out w.heap.size w.heap.size w2.heap.size (w2.heap.size + 1) (.slice none 0 0) (namW w2) (HIN.out.keep B3) (HS.out.later B3) hg0 hs0 B2.size (by have := B2.size; omega) (by omega) (Nat.le_refl _) n4 n5 B3.size n2 (World.ownsRow_nil _ _ _ _) n3 (by simp; omega))
  rw [List.nil_append, HVL.out] at G
  have hW2 : ((w2.alloc (.cells #[.slice none 0 0] 31)).alloc (.cells #[.nilFunc] 45)).setCell ⟨w2.heap.size + 1, 0, none⟩ (.func (.func 35) #[] #[.pointer (some ⟨w2.heap.size, 0, none⟩), .pointer (some ⟨w2.heap.size + 1, 0, none⟩)]) = namW w2 := rfl
  clear a0 a1 a2 a3 hW HF f5 HG ST HIN HS hs0 hg0 hz hsr
  unfold gthF at n3
  obtain ⟨m0, m1⟩ := n2
  obtain ⟨a0, a1, a2, a3⟩ := f6
  simp only [Nat.zero_add] at a1 a2 a3
  generalize namW w2 = W2 at *
  have hY : w.heap.size ≤ w2.heap.size := B2.size
  have n6 : Hid (Below w.heap.size w W2) := B3
  clear B3 B2 hb1 hb2 n1 n4 n5 m1
  go_wp2_with fail
  ((with_reducible refine G.out.mono ?_)); rintro e w3 ⟨rfl, ⟨gt3, gn3⟩, ⟨v3, ⟨s3, s4⟩, ov⟩⟩
  have B4 := n6.out.trans (gt3.below (B := w.heap.size) hY n6.out.size)
  have NB0 := own_block ov gn3
  obtain ⟨g, c, rfl⟩ := own_some ov (by omega)
  have NBG : w2.heap.size ≠ g := fun e => NB0 (by rw [e]; rfl)
  have hgl := (ov.lt g rfl).1
  have hgs := (ov.lt g rfl).2
  clear a0 a1 a2 a3 n3 m0 hW2 G gt3 s4 hmf HVL n6
  go_wp2_with fail
  refine (TS.out _ _ _ ov).mono ?_; rintro e w4 ⟨rfl, ⟨l', hl', hpm, hso, ov4⟩, bt4⟩
  have hnr : w2.heap.size ≠ g := NBG
  have s5 := bt4.cell s3 (by simpa using hnr)
  obtain ⟨cc, hcc⟩ := own_caps ov4
  have CP := mkHid (compact_any l' g t.vars.length c w.heap.size w4 ov4 hl' hv hvz cc hcc)
  have B5 := B4.trans (bt4.below (B := w.heap.size) hgl B4.size)
  have FIN := mkHid (names_fin (t := t) hl' hpm hso)
  clear s3 TS ov ov4 bt4 hso hpm B4
  go_wp2_with fail
  ((with_reducible refine CP.out.mono ?_)); rintro e w5 ⟨rfl, ov5, bt5⟩
  go_wp2
  go_ret
  exact ⟨⟨ddN l' t.vars.length, _, rfl, ov5, FIN.out⟩, B5.trans (bt5.below (B := w.heap.size) hgl B5.size)⟩

theorem names_any (t : Tm) (w : World) (hin : TIn w w.heap.size t) (hS : Shps w) (he : errR t = 0) :
    Calls Tryd.prog 14 #[t.val] w fun e w' => (∃ (L : List Nm) (v : Value), e = .returned v ∧ w'.ownsRow w.heap.size 38 5 v L.length (asgs L) ∧ NamesOf t L) ∧ Below w.heap.size w w' := by
  by_cases hv : t.vars.length ≤ 1
  · refine (names_few t w hin hS he hv).mono ?_
    rintro e w' ⟨⟨v, rfl, ho⟩, hb⟩
    refine ⟨⟨t.vars, v, rfl, ho, ?_, fun x => Iff.rfl⟩, hb⟩
    match h : t.vars, hv with
    | [], _ => simp
    | [x], _ => simp
  · exact names_lots t w hin hS he (by omega)
end Go.Proofs.YtaibmdikimpooaaDoor
