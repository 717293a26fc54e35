/-
  SbS: what SubstNone puts: nothing that is there, names for themselves, and closed terms for all of a name.
-/
import Derived.Test.YtaibmdikimpooaaDoorSbQ
namespace Go.Proofs.YtaibmdikimpooaaDoor
open Go.RowKit

/-- a name that stands for itself -/
def vlf (x : Nm) : Tm := .node x.2 x.1 0 none 0 []
theorem leaf_ok {op n : Int} {nm : ByteArray} {s : Nat} (h : Tm.srt (.node op nm n none 0 []) = s) (hs : s ≠ 0) : errR (.node op nm n none 0 []) = 0 ∧ srtR (.node op nm n none 0 []) = s ∧ Tm.size (.node op nm n none 0 []) = 1 ∧ Tm.deep (.node op nm n none 0 []) = 1 := by
  have hz : Tm.size (.node op nm n none 0 []) = 1 := by simp [Tm.size, Tm.sizes]
  have hd : Tm.deep (.node op nm n none 0 []) = 1 := by simp [Tm.deep, Tm.deeps]
  have hf : fullB (.node op nm n none 0 []) = false := by unfold fullB; rw [hz, hd]; rfl
  refine ⟨?_, ?_, hz, hd⟩
  · unfold errR; rw [hf, h]; simp [hs]
  · unfold srtR; rw [hf, h]; rfl
theorem vlf_srt {nm : ByteArray} {op : Int} (hn : nameB nm = true) (ho : op = 2 ∨ op = 7 ∨ op = 14 ∨ op = 15) : Tm.srt (.node op nm 0 none 0 []) = nsN op := by
  rw [srt_eq]
  simp only [Tm.op, Tm.nm, Tm.n, Tm.ks, List.map_nil]
  unfold sortOf
  rcases ho with rfl | rfl | rfl | rfl
  · rw [if_pos (by decide), show namedB (shRow (Int.toNat 2)) nm = true from hn]; rfl
  · rw [if_pos (by decide), show namedB (shRow (Int.toNat 7)) nm = true from hn]; rfl
  · rw [if_pos (by decide), show namedB (shRow (Int.toNat 14)) nm = true from hn]; rfl
  · rw [if_pos (by decide), show namedB (shRow (Int.toNat 15)) nm = true from hn]; rfl
theorem four_ops {op : Int} (h : nsN op ≠ 0) : op = 2 ∨ op = 7 ∨ op = 14 ∨ op = 15 := by
  unfold nsN at h
  repeat' split at h
  all_goals (first | omega | exact absurd rfl h)
theorem nsN_inj {a b : Int} (ha : nsN a ≠ 0) (h : nsN a = nsN b) : a = b := by
  have hb : nsN b ≠ 0 := by rw [← h]; exact ha
  rcases four_ops ha with rfl | rfl | rfl | rfl <;> rcases four_ops hb with rfl | rfl | rfl | rfl <;> first | rfl | (exact absurd h (by decide))
theorem name_rows' : ∀ j : Nat, j < 29 → 1 ≤ j → (shRow j).name = true → nsN (j : Int) ≠ 0 := by decide
theorem svars_ok {t : Tm} : t.srt ≠ 0 → ∀ x ∈ t.vars, nameB x.1 = true ∧ nsN x.2 ≠ 0 := by
  induction t using Tm.ind with
  | h t ih =>
    intro hs x hx
    obtain ⟨ho, hk⟩ := srt_ops hs
    rw [vars_eq, List.mem_append] at hx
    rcases hx with hx | hx
    · cases hn : (shRow t.op.toNat).name
      · rw [hn] at hx; simp at hx
      · rw [hn] at hx
        simp only [if_true, List.mem_singleton] at hx
        subst hx
        refine ⟨?_, ?_⟩
        · rw [srt_eq] at hs
          unfold sortOf at hs
          rw [if_pos ho] at hs
          split at hs
          · rename_i hb
            simp only [Bool.and_eq_true] at hb
            have := hb.1.1
            unfold namedB at this
            rw [hn] at this
            simpa using this
          · simp at hs
        · have := name_rows' t.op.toNat (by omega) (by omega) hn
          rwa [show ((t.op.toNat : Nat) : Int) = t.op by omega] at this
    · obtain ⟨k, hkm, hxk⟩ := nvarss_mem.1 hx
      exact ih k hkm (hk k hkm) x hxk
theorem gE_ok : ∀ l : List As, (∀ x ∈ l, errR x.2 = 0) → gE l = 0 := by
  intro l
  have : ∀ (l : List As) (e : Nat), (∀ x ∈ l, errR x.2 = 0) → l.foldl (fun e x => if errR x.2 = 0 then e else errR x.2) e = e := by
    intro l
    induction l with
    | nil => intro e _; rfl
    | cons a r ih =>
      intro e h
      rw [List.foldl_cons, if_pos (h a (by simp))]
      exact ih e (fun x hx => h x (by simp [hx]))
  exact this l 0
/-- what is put stays, where the term stays -/
theorem putO_same {t : Tm} {l : List As} (ht : errR t = 0) (hl : ∀ x ∈ l, errR x.2 = 0) (h : rp (gF l.reverse) t = t.er) : putO t l = (t.er, 0) := by
  rw [putO_ok ht (gE_ok _ (fun x hx => hl x (List.mem_reverse.1 hx))), h, er_errR, if_neg (by rw [ht]; simp)]
theorem free_no {t : Tm} {nm : ByteArray} (ht : errR t = 0) (h : freeB t nm = false) : ∀ x ∈ t.vars, x.1 ≠ nm := by
  intro x hx e
  unfold freeB at h
  rw [decide_eq_true ht, Bool.true_and, List.any_eq_false] at h
  exact h x hx (by rw [e]; simp)
theorem put_fresh {t a b : Tm} {nm : ByteArray} (ht : errR t = 0) (h : freeB t nm = false) (ha : errR a = 0) (hb : errR b = 0) : putO t [(nm, a), (nm, b)] = (t.er, 0) := by
  refine putO_same ht (fun x hx => ?_) (rp_same t (errR_fine ht).2.2.1 (fun x hx y hy => ?_))
  · simp only [List.mem_cons, List.not_mem_nil, or_false] at hx
    rcases hx with rfl | rfl
    · exact ha
    · exact hb
  · obtain ⟨z, hz, -, -, e, -⟩ := gF_mem _ hy
    have hz := List.mem_reverse.1 hz
    simp only [List.mem_cons, List.not_mem_nil, or_false] at hz
    exact absurd (e ▸ (by rcases hz with rfl | rfl <;> rfl) : x.1 = nm) (free_no ht h x hx)
/-- the names of a term, each for itself -/
def asN (L : List Nm) : List As := L.map (fun x => (x.1, vlf x))
theorem put_names {t : Tm} {L : List Nm} (ht : errR t = 0) (hL : ∀ x ∈ L, x ∈ t.vars) : putO t (asN L) = (t.er, 0) := by
  have hv := svars_ok (errR_fine ht).2.2.1
  have hok : ∀ x ∈ L, errR (vlf x) = 0 ∧ srtR (vlf x) = nsN x.2 := fun x hx => by
    obtain ⟨h1, h2⟩ := hv x (hL x hx)
    have := leaf_ok (vlf_srt h1 (four_ops h2)) h2
    exact ⟨this.1, this.2.1⟩
  refine putO_same ht (fun x hx => ?_) (rp_same t (errR_fine ht).2.2.1 (fun x hx y hy => ?_))
  · obtain ⟨z, hz, rfl⟩ := List.mem_map.1 hx
    exact (hok z hz).1
  · obtain ⟨z, hz, e1, -, e2, e3⟩ := gF_mem _ hy
    obtain ⟨u, hu, rfl⟩ := List.mem_map.1 (List.mem_reverse.1 hz)
    subst e1
    have e4 : nsN x.2 = nsN u.2 := by
      have := (hok u hu).2
      have e3 : (nsN x.2 : Int) = (srtR (vlf u) : Int) := e3
      omega
    have e5 : x.2 = u.2 := nsN_inj (hv x hx).2 e4
    show (vlf u).er = _
    rw [er_eq, e5, ← show u.1 = x.1 from e2]; rfl
/-- sizes stay where what is put is of size one -/
theorem rp_size {F : ByteArray → Int → Option Tm} (hF : ∀ nm s y, F nm s = some y → y.size = 1 ∧ y.deep = 1) : ∀ t : Tm, t.srt ≠ 0 → (rp F t).size = t.size ∧ (rp F t).deep = t.deep := by
  intro t
  induction t using Tm.ind with
  | h t ih =>
    intro h
    by_cases hs : nsN t.op = 0
    · have h1 : ∀ ks : List Tm, (∀ k ∈ ks, (rp F k).size = k.size ∧ (rp F k).deep = k.deep) → Tm.sizes (ks.map (rp F)) = Tm.sizes ks ∧ Tm.deeps (ks.map (rp F)) = Tm.deeps ks := by
        intro ks
        induction ks with
        | nil => intro _; exact ⟨rfl, rfl⟩
        | cons k ks ihk =>
          intro hk
          simp only [List.map_cons, Tm.sizes, Tm.deeps]
          rw [(hk k (by simp)).1, (hk k (by simp)).2, (ihk (fun q hq => hk q (by simp [hq]))).1, (ihk (fun q hq => hk q (by simp [hq]))).2]
          exact ⟨rfl, rfl⟩
      obtain ⟨h2, h3⟩ := h1 t.ks (fun k hk => ih k hk ((srt_ops h).2 k hk))
      rw [rp_part hs, Tm.size_eq, Tm.deep_eq, Tm.size_eq t, Tm.deep_eq t]
      show 1 + Tm.sizes (t.ks.map (rp F)) = _ ∧ 1 + Tm.deeps (t.ks.map (rp F)) = _
      rw [h2, h3]; exact ⟨rfl, rfl⟩
    · obtain ⟨hks, -⟩ := name_none h hs
      rw [rp_name hs]
      cases hy : F t.nm (nsN t.op : Int) with
      | none => exact ⟨er_size t, er_deep t⟩
      | some y =>
        show y.er.size = _ ∧ y.er.deep = _
        rw [er_size, er_deep, (hF _ _ _ hy).1, (hF _ _ _ hy).2, Tm.size_eq t, Tm.deep_eq t, hks]
        simp [Tm.sizes, Tm.deeps]
/-- what names stay -/
theorem rp_vars {F : ByteArray → Int → Option Tm} (hF : ∀ nm s y, F nm s = some y → y.vars = []) (x : Nm) : ∀ t : Tm, t.srt ≠ 0 → (x ∈ (rp F t).vars ↔ x ∈ t.vars ∧ F x.1 (nsN x.2 : Int) = none) := by
  intro t
  induction t using Tm.ind with
  | h t ih =>
    intro h
    by_cases hs : nsN t.op = 0
    · have hn : (shRow t.op.toNat).name = false := by
        cases hn : (shRow t.op.toNat).name
        · rfl
        · have := name_rows' t.op.toNat (by have := (srt_ops h).1; omega) (by have := (srt_ops h).1; omega) hn
          rw [show ((t.op.toNat : Nat) : Int) = t.op by have := (srt_ops h).1; omega] at this
          exact absurd hs this
      rw [rp_part hs, vars_eq, vars_eq t]
      show x ∈ (if (shRow t.op.toNat).name then _ else []) ++ Tm.varss (t.ks.map (rp F)) ↔ _
      rw [hn]
      simp only [Bool.false_eq_true, if_false, List.nil_append, nvarss_mem, List.mem_map]
      constructor
      · rintro ⟨k, ⟨q, hq, rfl⟩, hx⟩
        have := (ih q hq ((srt_ops h).2 q hq)).1 hx
        exact ⟨⟨q, hq, this.1⟩, this.2⟩
      · rintro ⟨⟨q, hq, hx⟩, he⟩
        exact ⟨_, ⟨q, hq, rfl⟩, (ih q hq ((srt_ops h).2 q hq)).2 ⟨hx, he⟩⟩
    · obtain ⟨hks, ho⟩ := name_none h hs
      have hn : (shRow t.op.toNat).name = true := by
        rcases ho with e | e | e | e <;> rw [e] <;> rfl
      have hv : t.vars = [(t.nm, t.op)] := by rw [vars_eq, hn, hks]; simp [Tm.varss]
      rw [rp_name hs, hv, List.mem_singleton]
      cases hy : F t.nm (nsN t.op : Int) with
      | none =>
        show x ∈ t.er.vars ↔ _
        rw [er_vars, hv, List.mem_singleton]
        constructor
        · rintro rfl; exact ⟨rfl, hy⟩
        · exact fun h => h.1
      | some y =>
        show x ∈ y.er.vars ↔ _
        rw [er_vars, hF _ _ _ hy]
        constructor
        · intro h; cases h
        · rintro ⟨rfl, he⟩
          rw [show F t.nm (nsN t.op : Int) = some y from hy] at he
          cases he
/-- the three that are put for a name -/
def sNum (n : Int) : Tm := .node 1 ⟨#[]⟩ n none 0 []
def sEm : Tm := .node 8 ⟨#[]⟩ 0 none 0 []
def sAll : Tm := .node 9 ⟨#[]⟩ 0 none 0 []
def sFa : Tm := .node 17 ⟨#[]⟩ 0 none 0 []
theorem sNum_srt (n : Int) : (sNum n).srt = 1 := by
  rw [srt_eq]
  show sortOf 1 ⟨#[]⟩ n [] = 1
  unfold sortOf
  rw [if_pos (by decide), show (shRow (Int.toNat 1)).number = true from rfl, Bool.true_or, show (namedB (shRow (Int.toNat 1)) ⟨#[]⟩ && true && holdsB (shRow (Int.toNat 1)) []) = true by kernel_rfl, if_pos rfl]
  rfl
theorem sNum_ok (n : Int) : errR (sNum n) = 0 ∧ srtR (sNum n) = 1 ∧ (sNum n).size = 1 ∧ (sNum n).deep = 1 := leaf_ok (sNum_srt n) (by decide)
theorem sEm_ok : errR sEm = 0 ∧ srtR sEm = 2 ∧ sEm.size = 1 ∧ sEm.deep = 1 := leaf_ok (show Tm.srt sEm = 2 by kernel_rfl) (by decide)
theorem sAll_ok : errR sAll = 0 ∧ srtR sAll = 2 ∧ sAll.size = 1 ∧ sAll.deep = 1 := leaf_ok (show Tm.srt sAll = 2 by kernel_rfl) (by decide)
theorem sFa_ok : errR sFa = 0 ∧ srtR sFa = 4 ∧ sFa.size = 1 ∧ sFa.deep = 1 := leaf_ok (show Tm.srt sFa = 4 by kernel_rfl) (by decide)
def threeA (nm : ByteArray) (n : Int) : List As := [(nm, sNum n), (nm, sAll), (nm, sFa)]
theorem gF_three (nm : ByteArray) (a : Int) (n : ByteArray) (s : Int) : gF (threeA nm a).reverse n s = if n = nm ∧ s = 1 then some (sNum a) else if n = nm ∧ s = 2 then some sAll else if n = nm ∧ s = 4 then some sFa else none := by
  show (if errR (sNum a) = 0 then putT (if errR sAll = 0 then putT (if errR sFa = 0 then putT (fun _ _ => none) (nm, sFa) else (fun _ _ => none)) (nm, sAll) else (if errR sFa = 0 then putT (fun _ _ => none) (nm, sFa) else (fun _ _ => none))) (nm, sNum a) else _) n s = _
  rw [if_pos (sNum_ok a).1, if_pos sAll_ok.1, if_pos sFa_ok.1]
  unfold putT
  dsimp only
  rw [(sNum_ok a).2.1, sAll_ok.2.1, sFa_ok.2.1]
  rfl
def nodeB (t : Tm) (nm : ByteArray) : Bool := t.vars.any (fun x => decide (x.2 = 14) && decide (x.1 = nm))
theorem three_some {nm : ByteArray} {a : Int} {n : ByteArray} {s : Int} {y : Tm} (h : gF (threeA nm a).reverse n s = some y) : y.size = 1 ∧ y.deep = 1 ∧ y.vars = [] ∧ (y.srt : Int) = s := by
  rw [gF_three] at h
  split at h
  · rename_i e; cases h; exact ⟨(sNum_ok a).2.2.1, (sNum_ok a).2.2.2, rfl, by rw [sNum_srt, e.2]; rfl⟩
  · split at h
    · rename_i e; cases h; exact ⟨sAll_ok.2.2.1, sAll_ok.2.2.2, by kernel_rfl, by rw [show Tm.srt sAll = 2 by kernel_rfl, e.2]; rfl⟩
    · split at h
      · rename_i e; cases h; exact ⟨sFa_ok.2.2.1, sFa_ok.2.2.2, by kernel_rfl, by rw [show Tm.srt sFa = 4 by kernel_rfl, e.2]; rfl⟩
      · cases h
theorem three_none {nm : ByteArray} {a : Int} {op : Int} (h : nsN op ≠ 0) : gF (threeA nm a).reverse nm (nsN op : Int) = none ↔ op = 14 := by
  rw [gF_three]
  rcases four_ops h with rfl | rfl | rfl | rfl
  · rw [show nsN 2 = 1 by decide, if_pos ⟨rfl, rfl⟩]; simp
  · rw [show nsN 7 = 2 by decide, if_neg (by simp), if_pos ⟨rfl, rfl⟩]; simp
  · rw [show nsN 14 = 3 by decide, if_neg (by simp), if_neg (by simp), if_neg (by simp)]; simp
  · rw [show nsN 15 = 4 by decide, if_neg (by simp), if_neg (by simp), if_pos ⟨rfl, rfl⟩]; simp
theorem put_three {t : Tm} (nm : ByteArray) (a : Int) (ht : errR t = 0) : putO t (threeA nm a) = (rp (gF (threeA nm a).reverse) t, 0) ∧ (rp (gF (threeA nm a).reverse) t).size = t.size ∧ freeB (rp (gF (threeA nm a).reverse) t) nm = nodeB t nm ∧ errR (rp (gF (threeA nm a).reverse) t) = 0 := by
  have hs := (errR_fine ht).2.2.1
  have hz := rp_size (F := gF (threeA nm a).reverse) (fun n s y h => ⟨(three_some h).1, (three_some h).2.1⟩) t hs
  have hr : (rp (gF (threeA nm a).reverse) t).srt = t.srt := rp_srt (F := gF (threeA nm a).reverse) (fun n s x hx => by have := (three_some hx).2.2.2; omega) t hs
  have he : errR (rp (gF (threeA nm a).reverse) t) = 0 := by
    have h0 := ht
    unfold errR fullB at h0 ⊢
    rw [hz.1, hz.2, hr]; exact h0
  refine ⟨?_, hz.1, ?_, he⟩
  · rw [putO_ok ht (gE_ok _ (fun x hx => by
      have hx := List.mem_reverse.1 hx
      simp only [threeA, List.mem_cons, List.not_mem_nil, or_false] at hx
      rcases hx with rfl | rfl | rfl
      · exact (sNum_ok a).1
      · exact sAll_ok.1
      · exact sFa_ok.1)), if_neg (by rw [he]; simp)]
  · have hv := fun x => rp_vars (F := gF (threeA nm a).reverse) (fun n s y h => (three_some h).2.2.1) x t hs
    unfold freeB nodeB
    rw [decide_eq_true he, Bool.true_and, Bool.eq_iff_iff, List.any_eq_true, List.any_eq_true]
    constructor
    · rintro ⟨x, hx, hp⟩
      rw [beq_iff_eq, ByteArray.toList_eq, ByteArray.toList_eq] at hp
      have hp : x.1 = nm := Go.WideShapes.bytes_inj hp
      obtain ⟨h1, h2⟩ := (hv x).1 hx
      rw [hp] at h2
      exact ⟨x, h1, by rw [(three_none (svars_ok hs x h1).2).1 h2, hp]; simp⟩
    · rintro ⟨x, hx, hp⟩
      simp only [Bool.and_eq_true, decide_eq_true_eq] at hp
      refine ⟨x, (hv x).2 ⟨hx, ?_⟩, by rw [hp.2]; simp⟩
      rw [hp.2]
      exact (three_none (svars_ok hs x hx).2).2 hp.1
end Go.Proofs.YtaibmdikimpooaaDoor
