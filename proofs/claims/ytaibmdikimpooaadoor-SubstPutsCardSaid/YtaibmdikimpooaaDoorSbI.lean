/-
  What package subst's 'gather' does: the map of what is put.
-/
import Derived.Sort.QuietIn
import Derived.Test.YtaibmdikimpooaaDoorSbH
namespace Go.Proofs.YtaibmdikimpooaaDoor
open Go.RowKit Go.Shelf
attribute [local go_sem] Oper.semAt_some

/-- what is put at a name of a sort, gathered in order; the last error -/
def putT (F : ByteArray → Int → Option Tm) (x : As) : ByteArray → Int → Option Tm := fun n s => if n = x.1 ∧ s = (srtR x.2 : Int) then some x.2 else F n s
def gF (l : List As) : ByteArray → Int → Option Tm := l.foldl (fun F x => if errR x.2 = 0 then putT F x else F) (fun _ _ => none)
def gE (l : List As) : Nat := l.foldl (fun e x => if errR x.2 = 0 then e else errR x.2) 0
theorem gF_snoc (l : List As) (x : As) : gF (l ++ [x]) = if errR x.2 = 0 then putT (gF l) x else gF l := by simp [gF]
theorem gE_snoc (l : List As) (x : As) : gE (l ++ [x]) = if errR x.2 = 0 then gE l else errR x.2 := by simp [gE]
theorem gF_val (l : List As) (x : As) (h : errR x.2 = 0) : (fun nm s => (gF (l ++ [x]) nm s).map Tm.val) = putF (fun nm s => (gF l nm s).map Tm.val) x.1 (srtR x.2 : Int) x.2.val := by
  funext nm s
  rw [gF_snoc, if_pos h]
  unfold putT putF
  split <;> rfl
/-- five cells in a box -/
def Box5 (W : World) (B : Nat) (x : As) : Prop := W.heap[B]? = some (.cells #[.string x.1, .int .i64 x.2.op, .string x.2.nm, .int .i64 x.2.n, .slice x.2.a x.2.ks.length x.2.c] 38 (0, 0))
theorem Box5.new (W : World) (x : As) : Box5 (W.alloc (.cells #[.string x.1, .int .i64 x.2.op, .string x.2.nm, .int .i64 x.2.n, .slice x.2.a x.2.ks.length x.2.c] 38)) W.heap.size x := World.alloc_heap_new W _
theorem Box5.cells {W : World} {B : Nat} {x : As} (h : Box5 W B x) : W.cell? ⟨B, 0, none⟩ = some (.string x.1) ∧ W.cell? ⟨B, 1, none⟩ = some (.int .i64 x.2.op) ∧ W.cell? ⟨B, 2, none⟩ = some (.string x.2.nm) ∧ W.cell? ⟨B, 3, none⟩ = some (.int .i64 x.2.n) ∧ W.cell? ⟨B, 4, none⟩ = some (.slice x.2.a x.2.ks.length x.2.c) := by
  refine ⟨?_, ?_, ?_, ?_, ?_⟩ <;> simp [World.cell?, show W.heap[B]? = _ from h]
theorem Box5.later {W W' : World} {B : Nat} {x : As} (h : Box5 W B x) (hb : Below W.heap.size W W') : Box5 W' B x := (hb.block B (Array.getElem?_eq_some_iff.1 h).1).trans h
theorem box5_own (B : Nat) (x : As) : Own (fun (_ : Unit) W => Box5 W B x) := fun s X Y row hs hg hr => by
  refine (hg.block B (Array.getElem?_eq_some_iff.1 hs).1 (fun e => ?_)).trans hs
  obtain ⟨o, ho, hc⟩ := hr B e.symm
  have hs' : X.heap[B]? = _ := hs
  rw [ho] at hs'
  cases hs'
  cases hc
theorem boxed_later {W W' : World} {B : Nat} {t : TypeId} {v : Value} (h : Boxed W B t v) (hb : Below W.heap.size W W') : Boxed W' B t v := (hb.block B h.lt).trans h
theorem PMap.kept {W W' : World} {b n : Nat} {f : ByteArray → Int → Option Value} {row : Option Nat} (h : PMap W b n f) (hg : W.grownBy W' row) (hne : some b ≠ row) : PMap W' b n f := by
  obtain ⟨D, hD, hf⟩ := h
  exact ⟨D, hD.kept hg (fun e => hne e), hf⟩
/-- the terms of a row of assignments are right to be read -/
def AsIn (w : World) (x : As) : Prop := TIn w w.heap.size x.2 ∧ x.1.size ≤ maxLen
/-- what gather answers -/
def SGatP (l : List As) (w : World) (e : Ending) (w' : World) : Prop := ∃ n, e = .returned (.tuple #[.map (some w.heap.size), .int .i64 (gE l.reverse : Int)]) ∧ PMap w' w.heap.size n (fun nm s => (gF l.reverse nm s).map Tm.val) ∧ Below w.heap.size w w'
set_option maxRecDepth 100000 in
set_option maxHeartbeats 4000000 in
theorem sgather_any (l : List As) (sv : Value) (w : World) (hI : SbRow w.heap.size w sv l) (hl : l.length ≤ 1000000) (hin : ∀ x ∈ l, AsIn w x) (hS : Shps w) : Calls Tryd.prog 46 #[sv] w (SGatP l w) := by
  obtain ⟨zs, rfl⟩ : ∃ zs : List { x : As // AsIn w x }, zs.map Subtype.val = l := ⟨l.attach.map (fun x => ⟨x.1, hin x.1 x.2⟩), by rw [List.map_map]; exact List.attach_map_subtype_val l⟩
  rw [List.length_map] at hl
  obtain ⟨a, c, e, hrow⟩ := id hI
  rw [List.length_map] at e
  subst e
  clear hrow hin
  have HS := mkHid hS
  have HI := mkHid hI
  have HLEN := mkHid hl
  clear hS hI hl
  refine (callsIn_wide (n := 20)).1 ?_
  have hmm := @run_makeMap Tryd.prog
  refine callsIn_of_wp_marks Tryd.func46 rfl trivial ?_ rfl
  simp only [Tryd.ntmps46, List.size_toArray, List.length_cons, List.length_nil, Nat.reduceAdd, Nat.reduceSub, Array.replicate_succ, Array.replicate_zero, List.push_toArray, List.append_toArray, List.nil_append, List.cons_append]
  gi_wp2_with (refine ⟨trivial, ?_⟩; gi_at_call 61; refine (sback_in Fence.wide _ trivial rfl _ _ _ _).mono ?_; rintro e w' ⟨rfl, rfl⟩)
  clear hmm
  have hP0 := PMap.made w
  have bM := ((Boxed.new (w.alloc (.map #[] 0)) 63 (.map (some w.heap.size))).alloc (.cells #[.int .i64 0] 26)).alloc (.cells #[.slice a zs.length c] 31)
  have bE := (Boxed.new ((w.alloc (.map #[] 0)).alloc (.cells #[.map (some w.heap.size)] 63)) 26 (.int .i64 0)).alloc (.cells #[.slice a zs.length c] 31)
  have bS := Boxed.new (((w.alloc (.map #[] 0)).alloc (.cells #[.map (some w.heap.size)] 63)).alloc (.cells #[.int .i64 0] 26)) 31 (.slice a zs.length c)
  simp only [World.size_alloc] at bM bE bS
  have hB0 : Below w.heap.size w ((((w.alloc (.map #[] 0)).alloc (.cells #[.map (some w.heap.size)] 63)).alloc (.cells #[.int .i64 0] 26)).alloc (.cells #[.slice a zs.length c] 31)) := bal (bal (bal (bal (Below.refl _ _) _) _) _) _
  have hP1 : PMap ((((w.alloc (.map #[] 0)).alloc (.cells #[.map (some w.heap.size)] 63)).alloc (.cells #[.int .i64 0] 26)).alloc (.cells #[.slice a zs.length c] 31)) w.heap.size 0 (fun _ _ => none) := hP0.later (bal (bal (bal (Below.refl _ _) _) _) _)
  have hsz : ((((w.alloc (.map #[] 0)).alloc (.cells #[.map (some w.heap.size)] 63)).alloc (.cells #[.int .i64 0] 26)).alloc (.cells #[.slice a zs.length c] 31)).heap.size = w.heap.size + 4 := by simp
  obtain ⟨W0, hW0⟩ : ∃ W0, ((((w.alloc (.map #[] 0)).alloc (.cells #[.map (some w.heap.size)] 63)).alloc (.cells #[.int .i64 0] 26)).alloc (.cells #[.slice a zs.length c] 31)) = W0 := ⟨_, rfl⟩
  rw [hW0] at bM bE bS hB0 hP1 hsz ⊢
  clear hW0 hP0
  refine wpIn_rangeFunc_ownH rfl (by omega) (gf := 77) (lb := #[.pointer (some ⟨w.heap.size + 1 + 1 + 1, 0, none⟩)]) rfl trivial (enters_of Tryd.func77 (by kernel_rfl) rfl)
    (sback_stops Fence.wide _ trivial rfl (by omega) (w.heap.size + 1 + 1 + 1) w.heap.size _ zs HLEN.out W0 (by omega) bS (HI.out.keep hB0)) sbK_t (sbK_b (by omega)) (Below.refl _ _) (fun _ => rfl)
    (fun pre W => ((Boxed W (w.heap.size + 1) 63 (.map (some w.heap.size)) ∧ Boxed W (w.heap.size + 1 + 1) 26 (.int .i64 (gE (pre.map (fun x => x.2.1)) : Int))) ∧ ∃ cnt, cnt ≤ pre.length ∧ PMap W w.heap.size cnt (fun nm s => (gF (pre.map (fun x => x.2.1)) nm s).map Tm.val)) ∧ Below w.heap.size w W)
    (fun _ _ _ => False)
    (OwnFrom.and (OwnFrom.and (OwnFrom.and (Own.from (boxed_own _ _ (fun _ => _)) _) (Own.from (boxed_own _ _ _) _)) (fun s A B row hs hg hr => by obtain ⟨cnt, h1, h2⟩ := hs; exact ⟨cnt, h1, h2.kept hg (fun e => by have := (hr _ e.symm).1; omega)⟩)) (ownFrom_below (Nat.le_refl _) (by omega)))
    (fun _ _ _ _ _ hs _ _ => hs)
    ⟨⟨⟨bM, bE⟩, 0, Nat.le_refl _, hP1⟩, hB0⟩
    (fun x a' W => ∃ Bx, w.heap.size + 1 + 1 < Bx ∧ Box5 W Bx x.2.1 ∧ a' = { tmps := #[.slice a zs.length c, undef, .map none, .int .i64 0, .pointer (some ⟨w.heap.size + 1, 0, none⟩), .pointer (some ⟨w.heap.size + 1 + 1, 0, none⟩), undef, .pointer (some ⟨Bx, 0, none⟩), undef, undef, .map (some w.heap.size), .slice a zs.length c, .func (.func 77) #[] #[.pointer (some ⟨w.heap.size + 1 + 1 + 1, 0, none⟩)], .int .i64 (x.1 : Int), asV x.2.1, undef, undef, undef, undef, undef, undef, undef, undef, undef, undef, undef, undef, undef, undef, undef, undef, undef, undef], defers := [] })
    (fun x a' _ X Y row hs hg hr => by obtain ⟨Bx, h1, h2, h3⟩ := hs; exact ⟨Bx, h1, box5_own Bx x.2.1 () X Y row h2 hg (fun r e => (hr r e).2), h3⟩)
    ?assign ?body ?done ?stop
  case assign =>
    rintro l pre x W K ⟨⟨⟨bM1, bE1⟩, cnt, hcnt, hP⟩, hB1⟩ hK
    have hle := hB1.size
    unfold asV at hK ⊢
    gi_wp2
    exact hK _ _ ((KeepsOthers.alloc _ _).from _) ⟨(Below.refl _ W).alloc hle _, fun v hv => hv.alloc _⟩ ⟨⟨⟨bM1.alloc _, bE1.alloc _⟩, cnt, hcnt, hP.later (bel_alloc W _)⟩, hB1.alloc hle _⟩ ⟨W.heap.size, bE1.lt, Box5.new W _, rfl⟩
  case body =>
    rintro l pre ⟨i, z, hz⟩ a' W hl ⟨r, hr⟩ ⟨⟨⟨bM1, bE1⟩, cnt, hcnt, hP⟩, hB1⟩ ⟨Bx, hBx, bX, rfl⟩ hlt
    dsimp only at bX ⊢
    obtain ⟨hz1, hz2⟩ := id hz
    have ST := mkHid (sort_any z.2 W (hz1.later hB1) (HS.out.later hB1))
    obtain ⟨x0, x1, x2, x3, x4⟩ := bX.cells
    have hle := hB1.size
    have hd : 1 ≤ 20 - 1 - 1 := by omega
    have HL : Hid (((pre ++ [(i, (⟨z, hz⟩ : { x : As // AsIn w x }))]).map (fun x => x.2.1)) = pre.map (fun x => x.2.1) ++ [z]) := by
      show _ = _
      rw [List.map_append]; rfl
    unfold asV
    unfold Tm.val at ST
    have HLT := mkHid hlt
    have HCN := mkHid hcnt
    have hcm : cnt < maxLen := by have := HLEN.out; unfold maxLen; omega
    clear hlt hcnt
    by_cases he : errR z.2 = 0
    · rw [he] at ST
      obtain ⟨kl, hkl⟩ := tgt_key z.1 (srtR z.2 : Int) hz2 (by
        have h1 := srt_le z.2
        have h2 : srtR z.2 ≤ 4 := by unfold srtR; split <;> omega
        rw [fitB_iff]; omega)
      gi_wp2_with (first
        | (refine ⟨trivial, ?_⟩; gi_at_call 7; refine (CallsIn.inRound l (callsIn_wide.2 ST.out)).mono ?_; rintro e w8 ⟨rfl, hb8⟩; obtain ⟨D, hD, hf⟩ := hP.later hb8; have bM8 := boxed_later bM1 hb8; have bE8 := boxed_later bE1 hb8; have bX8 := bX.later hb8; obtain ⟨y0, y1, y2, y3, y4⟩ := bX8.cells; have cM8 := bM8.cell)
        | (gi_at_mapUpdate; refine wpListIn_mapUpdate_own _ rfl _ _ _ 63 rfl 94 24 tgt_keyed Tryd.underlying63 RV w.heap.size cnt D rfl hD hcm _ _ kl rfl rfl hkl _ [] rfl ?_; intro w1 hown1 hgrow1))
      have hk8 : KeepsOthers W w8 := ⟨hb8.size, fun k o hk _ => (hb8.block k (Array.getElem?_eq_some_iff.1 hk).1).trans hk⟩
      have hB8 : Below w.heap.size w w8 := hB1.trans (hb8.mono hle)
      have hI2 : ((Boxed w1 (w.heap.size + 1) 63 (.map (some w.heap.size)) ∧ Boxed w1 (w.heap.size + 1 + 1) 26 (.int .i64 (gE ((pre ++ [(i, (⟨z, hz⟩ : { x : As // AsIn w x }))]).map (fun x => x.2.1)) : Int))) ∧ ∃ cnt, cnt ≤ (pre ++ [(i, (⟨z, hz⟩ : { x : As // AsIn w x }))]).length ∧ PMap w1 w.heap.size cnt (fun nm s => (gF ((pre ++ [(i, (⟨z, hz⟩ : { x : As // AsIn w x }))]).map (fun x => x.2.1)) nm s).map Tm.val)) ∧ Below w.heap.size w w1 := by
        rw [HL.out]
        refine ⟨⟨⟨bM8.kept hgrow1 (by simp), ?_⟩, cnt + 1, ?_, ?_⟩, hB8.grown hgrow1 hB8.size (fun k e => by cases e; exact Nat.le_refl _)⟩
        · rw [gE_snoc, if_pos he]; exact bE8.kept hgrow1 (by simp; omega)
        · have := HCN.out; simp only [List.length_append, List.length_singleton]; omega
        · rw [gF_val _ _ he]; exact PMap.put hD.isMap hf hkl hown1
      exact ⟨(hk8.from _).trans (KeepsFrom.of_grownBy hgrow1 (fun j e => by cases e; omega)), ⟨(hb8.mono hle).grown hgrow1 hB8.size (fun k e => by cases e; exact Nat.le_refl _), fun v hv => (boxed_later hv hb8).kept hgrow1 (by simp; omega)⟩, hI2⟩
    · have hne : ((errR z.2 : Int) != 0) = true := by rw [bne_iff_ne]; omega
      gi_wp2_with (refine ⟨trivial, ?_⟩; gi_at_call 7; refine (CallsIn.inRound l (callsIn_wide.2 ST.out)).mono ?_; rintro e w8 ⟨rfl, hb8⟩; have bM8 := boxed_later bM1 hb8; have bE8 := boxed_later bE1 hb8; have cE8 := bE8.cell; have fE8 := bE8.frozen)
      have hk8 : KeepsOthers W w8 := ⟨hb8.size, fun k o hk _ => (hb8.block k (Array.getElem?_eq_some_iff.1 hk).1).trans hk⟩
      have hB8 : Below w.heap.size w w8 := hB1.trans (hb8.mono hle)
      have hP8 := hP.later hb8
      have hI2 : ((Boxed (w8.setCell ⟨w.heap.size + 1 + 1, 0, none⟩ (.int .i64 (errR z.2 : Int))) (w.heap.size + 1) 63 (.map (some w.heap.size)) ∧ Boxed (w8.setCell ⟨w.heap.size + 1 + 1, 0, none⟩ (.int .i64 (errR z.2 : Int))) (w.heap.size + 1 + 1) 26 (.int .i64 (gE ((pre ++ [(i, (⟨z, hz⟩ : { x : As // AsIn w x }))]).map (fun x => x.2.1)) : Int))) ∧ ∃ cnt, cnt ≤ (pre ++ [(i, (⟨z, hz⟩ : { x : As // AsIn w x }))]).length ∧ PMap (w8.setCell ⟨w.heap.size + 1 + 1, 0, none⟩ (.int .i64 (errR z.2 : Int))) w.heap.size cnt (fun nm s => (gF ((pre ++ [(i, (⟨z, hz⟩ : { x : As // AsIn w x }))]).map (fun x => x.2.1)) nm s).map Tm.val)) ∧ Below w.heap.size w (w8.setCell ⟨w.heap.size + 1 + 1, 0, none⟩ (.int .i64 (errR z.2 : Int))) := by
        rw [HL.out]
        refine ⟨⟨⟨bM8.other (by omega) _, ?_⟩, cnt, ?_, ?_⟩, hB8.setCell (by show w.heap.size ≤ w.heap.size + 1 + 1; omega) _⟩
        · rw [gE_snoc, if_neg he]; exact bE8.set _
        · have := HCN.out; simp only [List.length_append, List.length_singleton]; omega
        · rw [gF_snoc, if_neg he]; exact hP8.kept (grownBy_setCell' w8 (w.heap.size + 1 + 1) _) (by simp; omega)
      exact ⟨(hk8.from _).trans ((KeepsOthers.setCell _ _ _).from _), ⟨(hb8.mono hle).setCell (by show w.heap.size ≤ w.heap.size + 1 + 1; omega) _, fun v hv => (boxed_later hv hb8).other (by omega) _⟩, hI2⟩
  case done =>
    rintro D ys W hD hys ⟨⟨⟨bM1, bE1⟩, cnt, hcnt, hP⟩, hB1⟩ hK
    have cM1 := bM1.cell
    have cE1 := bE1.cell
    gi_wp2
    gi_quiet (fail)
    gi_wp2
    have hbd : Below W.heap.size W (W.drewN nq) := below_drewN (Below.refl _ _) nq
    have hKd : (W.drewN nq).heap[D]? = some (.deferred (some [])) := (hbd.block D (Array.getElem?_eq_some_iff.1 hK).1).trans hK
    have hys2 : ys.map (fun x => x.2.1) = (zs.map Subtype.val).reverse := by
      have h1 := congrArg (List.map Subtype.val) hys
      rw [List.map_map, List.map_reverse] at h1
      exact h1
    have hPd := (hP.later hbd).kept (grownBy_putObj' (W.drewN nq) D (.deferred none)) (by simp; omega)
    rw [hys2] at hPd
    refine ⟨by simp, .inl ⟨_, _, rfl, run_takeDeferred hKd, ?_⟩⟩
    refine ⟨.tuple #[.map (some w.heap.size), .int .i64 (gE (ys.map (fun x => x.2.1)) : Int)], by simp [results, Tryd.results46, go_sem], cnt, by rw [hys2], hPd, ?_⟩
    exact (hB1.trans (hbd.mono hB1.size)).trans (belowK_b (w := w) (Nat.le_refl _) (W.drewN nq) D _ _ (by omega) hKd rfl rfl)
  case stop =>
    rintro D c pre W _ _ h _
    exact h.elim
end Go.Proofs.YtaibmdikimpooaaDoor
