/-
  Go's sort at rows of names: the shelf's contract, laid at this program; a row of names that is sorted.
-/
import Derived.Test.YtaibmdikimpooaaDoorTmP
import Derived.Shelf.SlSortCmp.WholeK
namespace Go.Proofs.YtaibmdikimpooaaDoor
open Go.Shelf Go.RowKit

def sortAs_ren : Go.Shelf.Ren := ⟨fun | 6 => 36 | 15 => 57 | 14 => 56 | 28 => 73 | 29 => 74 | 20 => 65 | 21 => 66 | 22 => 67 | 23 => 68 | 24 => 69 | 25 => 70 | 26 => 71 | 27 => 72 | 46 => 79 | 47 => 80 | 48 => 81 | 49 => 82 | 50 => 83 | 57 => 85 | n => n, fun | 22 => 31 | 24 => 38 | 25 => 57 | 3 => 3 | 39 => 86 | 0 => 0 | 53 => 107 | 55 => 109 | 4 => 4 | 46 => 100 | 45 => 99 | 50 => 104 | 5 => 5 | 9 => 9 | 66 => 111 | 70 => 115 | 76 => 118 | 77 => 119 | n => n, fun | n => n⟩
theorem sortAs : Go.Proofs.SlLaysF0.n6 Tryd.prog sortAs_ren := {
  mixed := by kernel_rfl
  f6 := ⟨Tryd.f36.name, by decide, Tryd.func36.trans (congrArg some (by kernel_rfl))⟩
  f14 := ⟨Tryd.f56.name, by decide, Tryd.func56.trans (congrArg some (by kernel_rfl))⟩
  f15 := Tryd.func57.trans (congrArg some (by kernel_rfl))
  f20 := ⟨Tryd.f65.name, by decide, Tryd.func65.trans (congrArg some (by kernel_rfl))⟩
  f21 := ⟨Tryd.f66.name, by decide, Tryd.func66.trans (congrArg some (by kernel_rfl))⟩
  f22 := ⟨Tryd.f67.name, by decide, Tryd.func67.trans (congrArg some (by kernel_rfl))⟩
  f23 := ⟨Tryd.f68.name, by decide, Tryd.func68.trans (congrArg some (by kernel_rfl))⟩
  f24 := ⟨Tryd.f69.name, by decide, Tryd.func69.trans (congrArg some (by kernel_rfl))⟩
  f25 := ⟨Tryd.f70.name, by decide, Tryd.func70.trans (congrArg some (by kernel_rfl))⟩
  f26 := ⟨Tryd.f71.name, by decide, Tryd.func71.trans (congrArg some (by kernel_rfl))⟩
  f27 := ⟨Tryd.f72.name, by decide, Tryd.func72.trans (congrArg some (by kernel_rfl))⟩
  f28 := Tryd.func73.trans (congrArg some (by kernel_rfl))
  f29 := Tryd.func74.trans (congrArg some (by kernel_rfl))
  f46 := ⟨Tryd.f79.name, by decide, Tryd.func79.trans (congrArg some (by kernel_rfl))⟩
  f47 := Tryd.func80.trans (congrArg some (by kernel_rfl))
  f48 := Tryd.func81.trans (congrArg some (by kernel_rfl))
  f49 := ⟨Tryd.f82.name, by decide, Tryd.func82.trans (congrArg some (by kernel_rfl))⟩
  f50 := ⟨Tryd.f83.name, by decide, Tryd.func83.trans (congrArg some (by kernel_rfl))⟩
  f57 := ⟨Tryd.f85.name, by decide, Tryd.func85.trans (congrArg some (by kernel_rfl))⟩
  t0 := Tryd.underlying0
  a0 := Tryd.isAgg0
  z0 := Tryd.sizeOf0
  v0 := Tryd.zeroValue0
  t3 := Tryd.underlying3
  a3 := Tryd.isAgg3
  z3 := Tryd.sizeOf3
  v3 := Tryd.zeroValue3
  t4 := Tryd.underlying4
  a4 := Tryd.isAgg4
  z4 := Tryd.sizeOf4
  v4 := Tryd.zeroValue4
  t5 := Tryd.underlying5
  a5 := Tryd.isAgg5
  z5 := Tryd.sizeOf5
  v5 := Tryd.zeroValue5
  t9 := Tryd.underlying9
  a9 := Tryd.isAgg9
  z9 := Tryd.sizeOf9
  v9 := Tryd.zeroValue9
  t22 := Tryd.underlying31
  a22 := Tryd.isAgg31
  z22 := Tryd.sizeOf31
  v22 := Tryd.zeroValue31
  t25 := Tryd.underlying57
  a25 := Tryd.isAgg57
  z25 := Tryd.sizeOf57
  v25 := Tryd.zeroValue57
  t39 := Tryd.underlying86
  a39 := Tryd.isAgg86
  z39 := Tryd.sizeOf86
  v39 := Tryd.zeroValue86
  t45 := Tryd.underlying99
  a45 := Tryd.isAgg99
  z45 := Tryd.sizeOf99
  v45 := Tryd.zeroValue99
  t46 := Tryd.underlying100
  a46 := Tryd.isAgg100
  z46 := Tryd.sizeOf100
  v46 := Tryd.zeroValue100
  t50 := Tryd.underlying104
  a50 := Tryd.isAgg104
  z50 := Tryd.sizeOf104
  v50 := Tryd.zeroValue104
  t53 := Tryd.underlying107
  a53 := Tryd.isAgg107
  z53 := Tryd.sizeOf107
  v53 := Tryd.zeroValue107
  t55 := Tryd.underlying109
  a55 := Tryd.isAgg109
  z55 := Tryd.sizeOf109
  v55 := Tryd.zeroValue109
  t66 := Tryd.underlying111
  a66 := Tryd.isAgg111
  z66 := Tryd.sizeOf111
  v66 := Tryd.zeroValue111
  t70 := Tryd.underlying115
  a70 := Tryd.isAgg115
  z70 := Tryd.sizeOf115
  v70 := Tryd.zeroValue115
  t76 := Tryd.underlying118
  a76 := Tryd.isAgg118
  z76 := Tryd.sizeOf118
  v76 := Tryd.zeroValue118
  t77 := Tryd.underlying119
  a77 := Tryd.isAgg119
  z77 := Tryd.sizeOf119
  v77 := Tryd.zeroValue119 }

theorem mapBlock_get (w : World) (b : Nat) (f : Array Value → Array Value) (k : Nat) (hk : k ≠ b) : (Sort.mapBlock w b f).heap[k]? = w.heap[k]? := by
  unfold Sort.mapBlock
  simp only [Array.getElem?_modify]
  rw [if_neg (fun e => hk e.symm)]
theorem mapBlock_at (w : World) (b : Nat) (f : Array Value → Array Value) (c : Array Value) (e : TypeId) (fr : Nat × Nat) (h : w.heap[b]? = some (.cells c e fr)) : (Sort.mapBlock w b f).heap[b]? = some (.cells (f c) e fr) := by
  unfold Sort.mapBlock
  simp only [Array.getElem?_modify, if_true, h]
  rfl
theorem asg_enc (x : Nm) : (asg x).length = 5 := rfl
instance : Inhabited Nm := ⟨noNm⟩
theorem getBang (l : List Nm) (k : Nat) (hk : k < l.length) : l.toArray[k]! = l.getD k noNm := by
  simp [List.getD, hk]
theorem flat_asgs (l : List Nm) (t : Nat) (ht : t < l.length * 5) : some ((Sort.flatK asg 5 l.toArray)[t]!) = (asgs l)[t]? := by
  rw [Sort.get_flatK asg 5 l.toArray t (by simpa using ht)]
  have h1 : t / 5 < l.length := by omega
  have h2 : t % 5 < 5 := Nat.mod_lt _ (by omega)
  rw [getBang l _ h1]
  have h3 := asgs_get l (t / 5) (t % 5) h1 h2
  rw [show t / 5 * 5 + t % 5 = t by omega] at h3
  rw [h3]
  generalize l.getD (t / 5) noNm = x
  generalize t % 5 = j at *
  rw [List.getElem?_eq_getElem (show j < (asg x).length from h2)]
  simp [show j < (asg x).length from h2]
theorem holds_row {w : World} {base g n cap : Nat} {l : List Nm} (h : w.ownsRow base 38 5 (.slice (some ⟨g, 0, none⟩) n cap) n (asgs l)) (hl : l.length = n) : Sort.HoldsK asg 5 w g 0 l.toArray := by
  intro j hj
  have hj' : j < n * 5 := by rw [Sort.size_flatK] at hj; simpa [hl] using hj
  rw [Nat.zero_add]
  refine ⟨?_, h.frozenAt j⟩
  rw [h.cellAt j hj', ← flat_asgs l j (by omega)]
  rfl
theorem row_put {w : World} {base g n cap m : Nat} {l l' : List Nm} {os : Array Obj} (h : w.ownsRow base 38 5 (.slice (some ⟨g, 0, none⟩) n cap) n (asgs l)) (hl' : l'.length = n) :
    (Go.Proofs.sortWorldK asg 5 w g 0 m l'.toArray os).ownsRow base 38 5 (.slice (some ⟨g, 0, none⟩) n cap) n (asgs l') ∧ But g w (Go.Proofs.sortWorldK asg 5 w g 0 m l'.toArray os) := by
  obtain ⟨h1, h2⟩ := h
  rcases h2 with ⟨e, -⟩ | ⟨g', cap', cur, e, hb, hg, hc, hm, hs, ht⟩
  · cases e
  simp only [Value.slice.injEq, Option.some.injEq, Addr.mk.injEq, and_true, true_and] at e
  obtain ⟨rfl, rfl⟩ := e
  have hlt : g < w.heap.size := by
    rcases Nat.lt_or_ge g w.heap.size with q | q
    · exact q
    · rw [Array.getElem?_eq_none q] at hg; cases hg
  have hga : (Sort.ahead w m).heap[g]? = some (.cells cur 38 (0, 0)) := hg
  have hsz : (Sort.mapBlock (Sort.ahead w m) g (Sort.putCells id 0 (Sort.flatK asg 5 l'.toArray))).heap.size = w.heap.size := by simp [Sort.mapBlock]
  have hblk : ∀ k, k < w.heap.size → (Go.Proofs.sortWorldK asg 5 w g 0 m l'.toArray os).heap[k]? = (Sort.mapBlock (Sort.ahead w m) g (Sort.putCells id 0 (Sort.flatK asg 5 l'.toArray))).heap[k]? := fun k hk => Sort.heap_grow_old _ _ (by rw [show (Sort.putRowK asg 5 (Sort.ahead w m) g 0 l'.toArray) = Sort.mapBlock (Sort.ahead w m) g (Sort.putCells id 0 (Sort.flatK asg 5 l'.toArray)) from rfl, hsz]; exact hk)
  refine ⟨⟨by rw [asgs_len, hl'], .inr ⟨g, cap, Sort.putCells id 0 (Sort.flatK asg 5 l'.toArray) cur, rfl, hb, ?_, hc, hm, by simp [Sort.putCells, hs], ?_⟩⟩, ⟨rfl, rfl, rfl, ?_, ?_⟩⟩
  · rw [hblk g hlt]; exact mapBlock_at _ _ _ _ _ _ hga
  · apply List.ext_getElem?
    intro j
    rw [List.getElem?_take]
    by_cases hj : j < n * 5
    · rw [if_pos hj]
      have hjc : j < cur.size := by have := Nat.mul_le_mul_right 5 hc; omega
      have hfs : (Sort.flatK asg 5 l'.toArray).size = n * 5 := by rw [Sort.size_flatK]; simp [hl']
      rw [← flat_asgs l' j (by omega)]
      simp [Sort.putCells, hjc, hfs, hj]
    · rw [if_neg hj, List.getElem?_eq_none (by rw [asgs_len, hl']; omega)]
  · show w.heap.size ≤ (Sort.grow _ os).heap.size
    rw [Sort.size_grow]
    have : (Sort.putRowK asg 5 (Sort.ahead w m) g 0 l'.toArray).heap.size = w.heap.size := hsz
    omega
  · intro k hk hne
    rw [hblk k hk, mapBlock_get _ _ _ _ hne]; rfl

theorem ltOf_iff (x y : Nm) : Go.Proofs.ltOf cmpA x y = true ↔ ltA x y := by unfold Go.Proofs.ltOf; rw [decide_eq_true_eq]; exact cmpA_neg x y
theorem ltA_irrefl (x : Nm) : ¬ ltA x x := by
  rintro (h | ⟨-, h⟩)
  · exact List.lt_irrefl _ h
  · omega
theorem ltA_trans {x y z : Nm} (h1 : ltA x y) (h2 : ltA y z) : ltA x z := by
  rcases h1 with h1 | ⟨e1, h1⟩
  · rcases h2 with h2 | ⟨e2, h2⟩
    · exact .inl (List.lt_trans h1 h2)
    · exact .inl (e2 ▸ h1)
  · rcases h2 with h2 | ⟨e2, h2⟩
    · exact .inl (e1 ▸ h2)
    · exact .inr ⟨e1.trans e2, by omega⟩
theorem ltA_tri (x y : Nm) : ltA x y ∨ x = y ∨ ltA y x := by
  rcases tri x.1.toList y.1.toList with h | h | h
  · exact .inl (.inl h)
  · have e := toList_inj h
    rcases (show x.2 < y.2 ∨ x.2 = y.2 ∨ y.2 < x.2 by omega) with k | k | k
    · exact .inl (.inr ⟨e, k⟩)
    · exact .inr (.inl (Prod.ext e k))
    · exact .inr (.inr (.inr ⟨e.symm, k⟩))
  · exact .inr (.inr (.inl h))
theorem swoA : Sort.SWO (Go.Proofs.ltOf cmpA) := {
  irrefl := fun x => by rw [Bool.eq_false_iff, ne_eq, ltOf_iff]; exact ltA_irrefl x
  trans := fun x y z h1 h2 => by rw [ltOf_iff] at *; exact ltA_trans h1 h2
  ntrans := fun x y z h1 h2 => by
    rw [Bool.eq_false_iff, ne_eq, ltOf_iff] at *
    intro h3
    rcases ltA_tri x y with k | k | k
    · exact h1 k
    · exact h2 (k ▸ h3)
    · rcases ltA_tri y z with q | q | q
      · exact h2 q
      · exact h1 (q ▸ h3)
      · exact ltA_irrefl x (ltA_trans h3 (ltA_trans q k)) }

theorem enters_order : ∀ args w, (callFunc 37 args).run Tryd.prog w = .ok (.enter 37 args) w := enters_of Tryd.func37 (by kernel_rfl) rfl
theorem sort_many (l : List Nm) (g n cap base : Nat) (w : World) (ho : w.ownsRow base 38 5 (.slice (some ⟨g, 0, none⟩) n cap) n (asgs l)) (hl : l.length = n) (hn : n ≤ 2000) :
    Calls Tryd.prog 36 #[.slice (some ⟨g, 0, none⟩) n cap, .func (.func 37) #[] #[]] w fun e w' =>
      e = .returned (.tuple #[]) ∧ (∃ l' : List Nm, l'.length = n ∧ l'.Perm l ∧ (∀ i j, i < j → j < n → ¬ ltA (l'.getD j noNm) (l'.getD i noNm)) ∧ w'.ownsRow base 38 5 (.slice (some ⟨g, 0, none⟩) n cap) n (asgs l')) ∧ But g w w' := by
  have hblk : g < w.heap.size := (ho.lt g rfl).2
  have h := Go.Proofs.AnyQ.slices_SortFunc sortAs 5 Tryd.isAgg38 Tryd.sizeOf38 asg asg_enc asg_one cmpA swoA 37 #[] g 0 cap l.toArray w enters_order (fun m os dk hs x y => order_any x y _) (holds_row ho hl) hblk (by simp; omega)
  rw [List.size_toArray, hl] at h
  refine h.mono ?_
  rintro e w' ⟨he, d', m, os, hp, hso, rfl⟩
  obtain ⟨p1, -, p3⟩ := hp
  have p1 : d'.size = n := by rw [p1]; simp [hl]
  have e1 : d'.toList.length = n := by simpa using p1
  have hd : d' = d'.toList.toArray := by simp
  have hr := row_put (m := m) (os := os) ho e1
  rw [← hd] at hr
  refine ⟨he, ⟨d'.toList, e1, ?_, ?_, hr.1⟩, hr.2⟩
  · have a1 : (d'.extract 0 n).toList = d'.toList := by rw [Array.extract_eq_self_of_le (by omega)]
    have a2 : (l.toArray.extract 0 n).toList = l := by rw [Array.extract_eq_self_of_le (by simp; omega)]
    rw [a1, a2] at p3; exact p3
  · intro i j hij hj
    have := hso i j (by omega) hij hj
    rw [Bool.eq_false_iff, ne_eq, ltOf_iff] at this
    rw [hd, getBang _ j (by omega), getBang _ i (by omega)] at this
    exact this
end Go.Proofs.YtaibmdikimpooaaDoor
