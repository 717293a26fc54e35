/-
  What the closure of 'Names' gathers.
-/
import Derived.Test.YtaibmdikimpooaaDoorTmI
import Derived.OwnWalk
import Derived.Laws.OwnMore
import Derived.IntWalk
namespace Go.Proofs.YtaibmdikimpooaaDoor
open Go.RowKit

/-- the five cells of a name that stands for itself -/
def asg (x : ByteArray × Int) : List Value := [.string x.1, .int .i64 x.2, .string x.1, .int .i64 0, .slice none 0 0]
def asgs (l : List (ByteArray × Int)) : List Value := l.flatMap asg
theorem asgs_append (l r : List (ByteArray × Int)) : asgs (l ++ r) = asgs l ++ asgs r := by simp [asgs]
theorem asgs_one (x : ByteArray × Int) : asgs [x] = asg x := by simp [asgs]
theorem asgs_len (l : List (ByteArray × Int)) : (asgs l).length = l.length * 5 := by
  induction l with
  | nil => rfl
  | cons x l ih => simp only [asgs, List.flatMap_cons, List.length_append] at *; rw [ih]; simp [asg]; omega
mutual
def Tm.vars : Tm → List (ByteArray × Int)
  | .node op nm _ _ _ ks => (if (shRow op.toNat).name then [(nm, op)] else []) ++ Tm.varss ks
def Tm.varss : List Tm → List (ByteArray × Int)
  | [] => []
  | t :: ts => Tm.vars t ++ Tm.varss ts
end
theorem vars_eq (t : Tm) : t.vars = (if (shRow t.op.toNat).name then [(t.nm, t.op)] else []) ++ Tm.varss t.ks := by
  cases t with
  | node => rw [Tm.vars]; rfl
theorem take_succ_varss (ks : List Tm) (k : Nat) (h : k < ks.length) : Tm.varss (ks.take (k + 1)) = Tm.varss (ks.take k) ++ (ks[k]).vars := by
  induction ks generalizing k with
  | nil => simp at h
  | cons t ts ih =>
    cases k with
    | zero => simp [Tm.varss]
    | succ k => simp only [List.take_succ_cons, Tm.varss, List.getElem_cons_succ, List.append_assoc]; rw [ih k (by simpa using h)]
theorem vars_le (t : Tm) : t.vars.length ≤ t.size := by
  induction t using Tm.ind with
  | h t ih =>
    have hs : ∀ l : List Tm, (∀ k ∈ l, k.vars.length ≤ k.size) → (Tm.varss l).length ≤ Tm.sizes l := by
      intro l
      induction l with
      | nil => intro _; simp [Tm.varss]
      | cons a l ihl =>
        intro h
        have h1 := h a (by simp)
        have h2 := ihl (fun k hk => h k (by simp [hk]))
        simp only [Tm.varss, Tm.sizes, List.length_append]; omega
    have := hs t.ks ih
    rw [vars_eq, Tm.size_eq, List.length_append]
    split <;> simp <;> omega
def okRow (r : Sh) : Bool := (!r.many || decide (1 ≤ r.p0)) && (r.many || ((decide (r.count = 0) || decide (1 ≤ r.p0)) && (decide (r.count ≤ 1) || decide (1 ≤ r.p1))))
theorem shRow_ok : ∀ j, j < 29 → 1 ≤ j → okRow (shRow j) = true := by decide
theorem srt_ops {t : Tm} (h : t.srt ≠ 0) : (1 ≤ t.op ∧ t.op ≤ 28) ∧ ∀ k ∈ t.ks, k.srt ≠ 0 := by
  rw [srt_eq] at h
  unfold sortOf at h
  split at h
  · rename_i ho
    refine ⟨ho, ?_⟩
    split at h
    · rename_i hb
      simp only [Bool.and_eq_true] at hb
      have hh := hb.2
      unfold holdsB at hh
      rw [Bool.and_eq_true] at hh
      intro k hk h0
      obtain ⟨i, hi, rfl⟩ := List.mem_iff_getElem.1 hk
      have h1 := List.all_eq_true.1 hh.2 i (List.mem_range.2 (by simpa using hi))
      have h2 := of_decide_eq_true h1
      rw [getD_map_srt _ _ hi, h0] at h2
      have hw := shRow_ok t.op.toNat (by omega) (by omega)
      unfold Sh.want at h2
      cases hm : (shRow t.op.toNat).many
      · have hl : t.ks.length = (shRow t.op.toNat).count := by simpa [hm] using hh.1
        have hc := (shRow_all t.op.toNat (by omega)).1
        simp only [okRow, hm, Bool.not_false, Bool.true_or, Bool.false_or, Bool.true_and, Bool.and_eq_true, Bool.or_eq_true, decide_eq_true_eq] at hw
        rw [hm] at h2
        simp only [Bool.false_eq_true, if_false] at h2
        by_cases hi0 : i = 0
        · rw [if_pos hi0] at h2; omega
        · rw [if_neg hi0] at h2; omega
      · rw [hm] at h2
        simp only [okRow, hm, Bool.not_true, Bool.true_or, Bool.false_or, Bool.and_true, decide_eq_true_eq] at hw
        simp only [if_true] at h2
        omega
    · simp at h
  · simp at h

/-- a block is no row of names -/
def NotRow (w : World) (k : Nat) : Prop := ∀ cur fz, w.heap[k]? ≠ some (.cells cur 38 fz)
/-- nothing that was there has turned, but what stands in block s, and rows of names from block B on -/
structure Gth (s B : Nat) (w w' : World) : Prop where
  os : w'.os = w.os
  tape : w'.tape = w.tape
  output : w'.output = w.output
  size : w.heap.size ≤ w'.heap.size
  block : ∀ k, k < w.heap.size → k ≠ s → (k < B ∨ NotRow w k) → w'.heap[k]? = w.heap[k]?
theorem Gth.refl (s B : Nat) (w : World) : Gth s B w w := ⟨rfl, rfl, rfl, Nat.le_refl _, fun _ _ _ _ => rfl⟩
theorem NotRow.of_eq {w w' : World} {k : Nat} (h : NotRow w k) (e : w'.heap[k]? = w.heap[k]?) : NotRow w' k := fun cur fz => by rw [e]; exact h cur fz
theorem Gth.trans {s B : Nat} {a b c : World} (h : Gth s B a b) (k : Gth s B b c) : Gth s B a c := by
  refine ⟨k.os.trans h.os, k.tape.trans h.tape, k.output.trans h.output, Nat.le_trans h.size k.size, fun i hi hs hv => ?_⟩
  have e := h.block i hi hs hv
  rw [k.block i (Nat.lt_of_lt_of_le hi h.size) hs (hv.imp id fun hn => hn.of_eq e), e]
theorem Gth.of {s B : Nat} {w w' : World} (h : Below w.heap.size w w') : Gth s B w w' := ⟨h.os, h.tape, h.output, h.size, fun k hk _ _ => h.block k hk⟩
theorem Gth.set {s B : Nat} {a w : World} (h : Gth s B a w) {p : Addr} (hp : p.block = s) (u : Value) : Gth s B a (w.setCell p u) :=
  ⟨h.os, h.tape, h.output, by simpa [World.setCell] using h.size, fun k hk hs hv => by
    rw [Below.heap_setCell w p u k (by omega)]; exact h.block k hk hs hv⟩
theorem Gth.drew {s B : Nat} {a w : World} (h : Gth s B a w) : Gth s B a w.drew := ⟨h.os, h.tape, h.output, h.size, h.block⟩
theorem Gth.notRow {s B k : Nat} {w w' : World} (h : Gth s B w w') (hk : k < w.heap.size) (hs : k ≠ s) (hn : NotRow w k) : NotRow w' k := hn.of_eq (h.block k hk hs (.inr hn))
theorem Gth.cell {s B : Nat} {w w' : World} (h : Gth s B w w') {p : Addr} {x : Value} (hc : w.cell? p = some x) (hp : p.block ≠ s) (hv : NotRow w p.block) : w'.cell? p = some x := by
  have := World.cell?_of_block (w := w) (h.block p.block (World.block_lt_of_cell? _ _ hc) hp (.inr hv))
  rw [this]; exact hc
theorem Gth.below {s B : Nat} {w w' : World} (h : Gth s B w w') (hs : B ≤ s) (hB : B ≤ w.heap.size) : Below B w w' :=
  ⟨h.os, h.tape, h.output, h.size, fun k hk => h.block k (by omega) (by omega) (.inl hk)⟩
theorem Gth.four {s B : Nat} {w w' : World} {b o : Nat} {t : Tm} (h : Gth s B w w') (hc : Four w b o t) (hp : b ≠ s) (hv : NotRow w b) : Four w' b o t :=
  ⟨h.cell hc.1 hp hv, h.cell hc.2.1 hp hv, h.cell hc.2.2.1 hp hv, h.cell hc.2.2.2 hp hv⟩
theorem Gth.grown {s B base size n : Nat} {v : Value} {xs : List Value} {w w' : World} (hown : w.ownsRow base 38 size v n xs) (hB : B ≤ base) (h : w.grownBy w' v.ownBlock) : Gth s B w w' :=
  ⟨h.os, h.tape, h.output, h.size, fun k hk _ hv => h.block k hk (fun e => by
    have h1 := (hown.lt k e.symm).1
    rcases hv with hv | hv
    · omega
    · rcases hown.2 with ⟨rfl, -⟩ | ⟨g, cap, cur, rfl, -, hg, -⟩
      · cases e
      · simp only [Value.ownBlock, Option.some.injEq] at e
        subst e
        exact hv cur (0, 0) hg)⟩
theorem notRow_box (w : World) (t : Tm) : NotRow (w.alloc (boxT t)) w.heap.size := by
  intro cur fz
  show (w.heap.push (boxT t))[w.heap.size]? ≠ _
  simp [boxT]
theorem asg_info : (Tryd.prog.info? 38).map (fun i => (i.zero, i.size, i.bytes)) = some (some (.agg #[.string ⟨#[]⟩, .int .i64 0, .string ⟨#[]⟩, .int .i64 0, .slice none 0 0]), 5, 72) := by kernel_rfl

/-- the closure of Names -/
def gthF (nb fb : Nat) : Value := .func (.func 35) #[] #[.pointer (some ⟨nb, 0, none⟩), .pointer (some ⟨fb, 0, none⟩)]
structure GthR (w0 : World) (B base X nb fb : Nat) (t : Tm) (l : List (ByteArray × Int)) (w : World) : Prop where
  gth : Gth nb B w0 w
  four : Four w X 0 t
  nr : NotRow w X
  nf : NotRow w fb
  nn : NotRow w nb
  row : ∃ v : Value, Single w nb v ∧ w.ownsRow base 38 5 v l.length (asgs l)
  cl : w.cell? ⟨fb, 0, none⟩ = some (gthF nb fb)
theorem varss_le (l : List Tm) : (Tm.varss l).length ≤ Tm.sizes l := by
  induction l with
  | nil => simp [Tm.varss]
  | cons a l ih =>
    have h1 := vars_le a
    simp only [Tm.varss, Tm.sizes, List.length_append]; omega
theorem Shps.keep {w w' : World} {B : Nat} (h : Shps w) (hB : 0 < B) (hb : Below B w w') : Shps w' := fun j hj => by
  have h1 := h j hj
  unfold Seven at *
  rw [hb.cell (p := ⟨_, _, none⟩) hB, hb.cell (p := ⟨_, _, none⟩) hB, hb.cell (p := ⟨_, _, none⟩) hB, hb.cell (p := ⟨_, _, none⟩) hB, hb.cell (p := ⟨_, _, none⟩) hB, hb.cell (p := ⟨_, _, none⟩) hB, hb.cell (p := ⟨_, _, none⟩) hB]
  exact h1
theorem four_lt {w : World} {b o : Nat} {t : Tm} (h : Four w b o t) : b < w.heap.size := World.block_lt_of_cell? _ _ h.1
/-- a block that is no row stays none, also where its cell is written -/
theorem notRow_set {w : World} {k : Nat} (h : NotRow w k) (p : Addr) (u : Value) : NotRow (w.setCell p u) k := by
  intro cur fz e
  by_cases hk : k = p.block
  · subst hk
    simp only [World.setCell, Array.getElem?_modify, if_pos] at e
    cases hh : w.heap[p.block]? with
    | none => rw [hh] at e; simp at e
    | some o =>
      rw [hh] at e
      cases o with
      | cells c t' f => 
        simp at e
        obtain ⟨-, rfl, rfl⟩ := e
        exact h c f hh
      | _ => simp at e
  · rw [Below.heap_setCell w p u k hk] at e
    exact h cur fz e
theorem own_set {w : World} {base n nb : Nat} {v : Value} {xs : List Value} (h : w.ownsRow base 38 5 v n xs) (hn : NotRow w nb) (u : Value) : (w.setCell ⟨nb, 0, none⟩ u).ownsRow base 38 5 v n xs := by
  obtain ⟨h1, h2⟩ := h
  refine ⟨h1, ?_⟩
  rcases h2 with h2 | ⟨g, cap, cur, e, hb, hg, hr⟩
  · exact .inl h2
  · refine .inr ⟨g, cap, cur, e, hb, ?_, hr⟩
    rw [Below.heap_setCell w ⟨nb, 0, none⟩ u g (by rintro rfl; exact hn cur (0, 0) hg)]
    exact hg

theorem cells_five (w : World) (nm : ByteArray) (j : Int) : ∀ i u, (asg (nm, j))[i]? = some u → (w.alloc (.cells #[.string nm, .int .i64 j, .string nm, .int .i64 0, .slice none 0 0] 38)).cell? ((⟨w.heap.size, 0, none⟩ : Addr).add i) = some u := by
  intro i u hu
  unfold asg at hu
  match i, hu with
  | 0, hu => simp at hu; subst hu; simp [Addr.add, go_sem]
  | 1, hu => simp at hu; subst hu; simp [Addr.add, go_sem]
  | 2, hu => simp at hu; subst hu; simp [Addr.add, go_sem]
  | 3, hu => simp at hu; subst hu; simp [Addr.add, go_sem]
  | 4, hu => simp at hu; subst hu; simp [Addr.add, go_sem]
  | i + 5, hu => simp at hu
theorem asg_one (x : ByteArray × Int) : ∀ u ∈ asg x, u.oneCell' = true := by
  intro u hu
  unfold asg at hu
  simp at hu
  rcases hu with rfl | rfl | rfl | rfl | rfl <;> rfl
theorem cell_set_far {w : World} {b i c : Nat} {x : Value} (h : w.cell? ⟨b, i, none⟩ = some x) (hne : b ≠ c) (u : Value) : (w.setCell ⟨c, 0, none⟩ u).cell? ⟨b, i, none⟩ = some x := by
  rw [World.cell?_of_block (w := w) (Below.heap_setCell w ⟨c, 0, none⟩ u b hne)]; exact h
theorem own_some {w : World} {base e size n : Nat} {v : Value} {xs : List Value} (h : w.ownsRow base e size v n xs) (hn : 0 < n) : ∃ g cap, v = .slice (some ⟨g, 0, none⟩) n cap := by
  rcases h.2 with ⟨-, h0⟩ | ⟨g, cap, cur, e, -⟩
  · omega
  · exact ⟨g, cap, e⟩
theorem own_block {w : World} {base n nb : Nat} {v : Value} {xs : List Value} (h : w.ownsRow base 38 5 v n xs) (hn : NotRow w nb) : some nb ≠ v.ownBlock := by
  rcases h.2 with ⟨rfl, -⟩ | ⟨g, cap, cur, rfl, -, hg, -⟩
  · simp [Value.ownBlock]
  · simp only [Value.ownBlock, ne_eq, Option.some.injEq]
    rintro rfl
    exact hn cur (0, 0) hg
theorem grown_single {w w' : World} {base n nb : Nat} {v x : Value} {xs : List Value} (h : w.ownsRow base 38 5 v n xs) (hn : NotRow w nb) (hg : w.grownBy w' v.ownBlock) (hs : Single w nb x) : Single w' nb x := by
  have e := hg.block nb (World.block_lt_of_cell? _ _ hs.1) (own_block h hn)
  exact ⟨by rw [World.cell?_of_block (w := w) e]; exact hs.1, by rw [World.frozen?_of_block (w := w) e]; exact hs.2⟩
theorem GthR.after {w0 W w1 : World} {B base X nb fb n : Nat} {t : Tm} {l : List (ByteArray × Int)} {v : Value} {xs : List Value} {o : Obj} (h : GthR w0 B base X nb fb t l W) (hov : W.ownsRow base 38 5 v n xs) (hbb : B ≤ base) (hg : (W.alloc o).grownBy w1 v.ownBlock) (hXn : X ≠ nb) (hfn : fb ≠ nb) : Gth nb B w0 w1 ∧ Four w1 X 0 t ∧ NotRow w1 X ∧ NotRow w1 fb ∧ NotRow w1 nb ∧ w1.cell? ⟨fb, 0, none⟩ = some (gthF nb fb) := by
  have g1 : Gth nb B W (W.alloc o) := Gth.of (bel_alloc W o)
  have g2 : Gth nb B (W.alloc o) w1 := Gth.grown (hov.alloc o) hbb hg
  have g3 := g1.trans g2
  have hX := four_lt h.four
  obtain ⟨v0, sv, -⟩ := h.row
  have hnb := World.block_lt_of_cell? _ _ sv.1
  have hnn : NotRow (W.alloc o) nb := h.nn.of_eq (Below.heap_alloc _ _ _ hnb)
  refine ⟨h.gth.trans g3, g3.four h.four hXn h.nr, g3.notRow hX hXn h.nr, g3.notRow (World.block_lt_of_cell? _ _ h.cl) hfn h.nf, ?_, g3.cell h.cl hfn h.nf⟩
  exact hnn.of_eq (hg.block nb (by rw [World.size_alloc]; exact Nat.lt_succ_of_lt hnb) (own_block (hov.alloc o) hnn))

set_option maxHeartbeats 4000000 in
set_option maxRecDepth 100000 in
theorem gather_any (t : Tm) : ∀ (B base nb fb : Nat) (l : List (ByteArray × Int)) (v : Value) (w : World), TIn w B t → Shps w → 0 < B → t.srt ≠ 0 → B ≤ nb → B ≤ fb → nb ≠ fb → B ≤ base → NotRow w nb → NotRow w fb → base ≤ w.heap.size →
    Single w nb v → w.ownsRow base 38 5 v l.length (asgs l) → w.cell? ⟨fb, 0, none⟩ = some (gthF nb fb) → l.length + t.size ≤ 2000 →
    Calls Tryd.prog 35 #[t.val, .pointer (some ⟨nb, 0, none⟩), .pointer (some ⟨fb, 0, none⟩)] w fun e w' => e = .returned (.tuple #[]) ∧ (Gth nb B w w' ∧ NotRow w' nb) ∧ ∃ v' : Value, Single w' nb v' ∧ w'.ownsRow base 38 5 v' (l ++ t.vars).length (asgs (l ++ t.vars)) := by
  induction t using Tm.ind with
  | h t ih =>
  intro B base nb fb l v w hin hS hg0 hs0 h1 h2 n1 hbb hnn hnf hbw hsv hov hcl hlen
  obtain ⟨i0, hi0, hz0, hz1, hz2⟩ := info_parts asg_info
  have hnb : nb < w.heap.size := World.block_lt_of_cell? _ _ hsv.1
  have hfb : fb < w.heap.size := World.block_lt_of_cell? _ _ hcl
  have hBw : B ≤ w.heap.size := by omega
  obtain ⟨hops, hks⟩ := srt_ops hs0
  have IH := mkHid ih
  have HKS := mkHid hks
  have hsz := Tm.size_eq t
  clear ih hks hs0
  obtain ⟨j, hj⟩ := Int.eq_ofNat_of_zero_le (show 0 ≤ t.op by omega)
  have j1 : 1 ≤ j := by omega
  have j2 : j ≤ 28 := by omega
  have j3 : (j : Int) < 29 := by omega
  have j4 : (0 : Int) ≤ (j : Int) := by omega
  have j5 : j < 29 := by omega
  have hb1 := bel_alloc w (boxT t)
  have c7 := ((hS j j5).later hb1).2.1
  have hv := vars_eq t
  rw [hj, Int.toNat_natCast] at hv
  have HIN := mkHid hin
  have HS := mkHid hS
  obtain ⟨-, -, -, hlc, hcm⟩ := hin.nums
  unfold maxLen at hcm
  have f4 := box_four w t
  have hcl1 := cell_later hb1 hcl
  have hnr := notRow_box w t
  have hsv1 := single_alloc hsv (boxT t)
  have hov1 := hov.alloc (boxT t)
  have hnn1 : NotRow (w.alloc (boxT t)) nb := hnn.of_eq (Below.heap_alloc _ _ _ hnb)
  have hnf1 : NotRow (w.alloc (boxT t)) fb := hnf.of_eq (Below.heap_alloc _ _ _ hfb)
  have hG1 : Gth nb B w (w.alloc (boxT t)) := Gth.of hb1
  have hW : w.alloc (.cells #[.int .i64 (j : Int), .string t.nm, .int .i64 t.n, .slice t.a t.ks.length t.c] 24) = w.alloc (boxT t) := by rw [← hj]; rfl
  have hXn : w.heap.size ≠ nb := by omega
  have hsW : (w.alloc (boxT t)).heap.size = w.heap.size + 1 := by simp
  have R1 : GthR w B base w.heap.size nb fb t l (w.alloc (boxT t)) := ⟨hG1, f4, hnr, hnf1, hnn1, ⟨v, hsv1, hov1⟩, hcl1⟩
  have hn : t.ks.length ≤ 9223372036854775807 := by omega
  clear hin hS hsv hov hcl hnn hnf hb1 hG1
  unfold Tm.val
  rw [hj]
  rw [Four, hj] at f4
  generalize hn' : t.ks.length = n at *
  have HN := mkHid hn'
  clear hn'
  generalize hX : w.heap.size = X at *
  generalize w.alloc (boxT t) = W at *
  obtain ⟨a0, a1, a2, a3⟩ := f4
  simp only [Nat.zero_add] at a1 a2 a3
  cases hnm : (shRow j).name
  · rw [hnm] at c7 hv
    have HV : Hid (l ++ t.vars = l ++ Tm.varss t.ks) := by show _ = _; rw [hv]; rfl
    obtain ⟨l1, hl1⟩ : ∃ l1, l1 = l := ⟨l, rfl⟩
    have R0 : GthR w B base X nb fb t l1 W := by rw [hl1]; exact R1
    have HV : Hid (l ++ t.vars = l1 ++ Tm.varss t.ks) := by rw [hl1]; exact HV
    have hlen1 : l1.length + Tm.sizes t.ks ≤ 2000 := by rw [hl1]; omega
    clear hv hnm R1 hl1 hj hops
    go_enter Tryd.func35, Tryd.ntmps35
    go_wp2
    clear a0 a1 a2 a3 c7 hW
    go_loopw [25] (fun i w' => ∃ (k : Nat) (x : Int), i = .int .i64 x ∧ x = k ∧ k ≤ n ∧ GthR w B base X nb fb t (l1 ++ Tm.varss (t.ks.take k)) w') (fun i _ => (n - intOf i).toNat)
    case atStart => exact ⟨0, 0, rfl, rfl, Nat.zero_le _, by rw [List.take_zero, Tm.varss, List.append_nil]; exact R0⟩
    case round =>
      clear R0
      obtain ⟨k, x, rfl, hxk, hk, R⟩ := hrel
      obtain rfl : x = (k : Int) := hxk
      by_cases hlt : k < n
      · have hk' : k < t.ks.length := by rw [HN.out]; exact hlt
        have gs : X ≤ wr.heap.size := hX ▸ R.gth.size
        have bB : Below B w wr := R.gth.below h1 (by omega)
        obtain ⟨kin, b, o, ha, hbB, kf⟩ := HIN.out.kid k hk'
        have kin' := kin.keep bB
        have kf' := kf.keep bB hbB
        obtain ⟨v, sv, ov⟩ := R.row
        have hb2 := bel_alloc wr (boxT t.ks[k])
        have f4 := box_four wr t.ks[k]
        have hle := sizes_take_le t.ks (k + 1)
        rw [take_succ_sizes t.ks k hk'] at hle
        have hvl : (Tm.varss (t.ks.take k)).length ≤ Tm.sizes (t.ks.take k) := varss_le _
        have HC := mkHid (IH.out t.ks[k] (List.getElem_mem _) B base nb fb (l1 ++ Tm.varss (t.ks.take k)) v (wr.alloc (boxT t.ks[k])) (kin'.keep (hb2.mono (Nat.le_trans hBw gs))) ((HS.out.keep hg0 bB).later hb2) hg0 (HKS.out _ (List.getElem_mem _)) h1 h2 n1 hbb (R.nn.of_eq (Below.heap_alloc _ _ _ (Nat.lt_of_lt_of_le hnb gs))) (R.nf.of_eq (Below.heap_alloc _ _ _ (Nat.lt_of_lt_of_le hfb gs))) (by simp; omega) (single_alloc sv _) (ov.alloc _) (cell_later hb2 R.cl) (by rw [List.length_append]; omega))
        have HT := mkHid (take_succ_varss t.ks k hk')
        have hW2 : wr.alloc (.cells #[.int .i64 t.ks[k].op, .string t.ks[k].nm, .int .i64 t.ks[k].n, .slice t.ks[k].a t.ks[k].ks.length t.ks[k].c] 24) = wr.alloc (boxT t.ks[k]) := rfl
        have cl := cell_later hb2 R.cl
        unfold gthF at cl
        rw [ha]
        clear ha kin kf IH kin' sv ov HS HKS hle hvl
        generalize t.ks[k] = q at *
        clear hk'
        obtain ⟨g0, g1, g2, g3⟩ := kf'
        obtain ⟨f0, f1, f2, f3⟩ := f4
        simp only [Nat.zero_add] at f1 f2 f3
        have HG2 : Hid (Gth nb B wr (wr.alloc (boxT q))) := Gth.of hb2
        generalize wr.alloc (boxT q) = W2 at *
        unfold Tm.val at HC
        have RD : Hid (GthR w B base X nb fb t (l1 ++ Tm.varss (t.ks.take k)) wr) := R
        clear R hb2
        go_wp2_with (go_at_call 35; ((with_reducible refine HC.out.mono ?_)); rintro e w1 ⟨rfl, ⟨gt1, gt1n⟩, ⟨v1, sv1, ov1⟩⟩)
        go_roundw
        case rel =>
          have R := RD.out
          have G1 := (HG2.out.trans gt1)
          have hXw := four_lt R.four
          refine ⟨k + 1, _, rfl, by omega, by omega, ⟨R.gth.trans G1, G1.four R.four hXn R.nr, G1.notRow hXw hXn R.nr, G1.notRow (World.block_lt_of_cell? _ _ R.cl) (fun e => n1 e.symm) R.nf, gt1n, ⟨v1, sv1, by rw [HT.out, ← List.append_assoc]; exact ov1⟩, G1.cell R.cl (by simpa using fun e => n1 e.symm) R.nf⟩⟩
        case measure => simp [intOf]; omega
      · obtain ⟨v, sv, ov⟩ := R.row
        have e : l ++ t.vars = l1 ++ Tm.varss (t.ks.take k) := by rw [HV.out, List.take_of_length_le (by rw [HN.out]; omega)]
        have E := mkHid e
        clear e
        go_wp2
        go_end0
        exact ⟨rfl, ⟨R.gth, R.nn⟩, v, sv, by rw [E.out]; exact ov⟩
  · rw [hnm] at c7 hv
    have HV : Hid (l ++ t.vars = (l ++ [(t.nm, t.op)]) ++ Tm.varss t.ks) := by show _ = _; rw [hv, hj, List.append_assoc]; rfl
    have hlen1 : (l ++ [(t.nm, t.op)]).length + Tm.sizes t.ks ≤ 2000 := by rw [List.length_append]; simp only [List.length_cons, List.length_nil]; omega
    have RH := mkHid R1
    have HJ := mkHid hj
    have s0 := hsv1.1
    have HSV := mkHid hsv1
    have HOV := mkHid hov1
    have hl2 : l.length ≤ 2000 := by omega
    have hsW2 : base ≤ W.heap.size := by omega
    have hsW3 : nb < W.heap.size := by omega
    clear hsW
    clear hv hnm R1 hj hops hsv1 hov1
    go_enter Tryd.func35, Tryd.ntmps35
    go_wp2_with (at_builtin
                 refine wpList_append_own _ rfl (.tmp 11) (.tmp 20) _ rfl base 38 i0 _ 5 72 Tryd.underlying31 hi0 hz0 hz1 hz2 rfl (by omega) v l.length (asgs l) rfl (HOV.out.alloc _) ⟨W.heap.size, 0, none⟩ 1 1 (asg (t.nm, (j : Int))) rfl rfl (cells_five _ _ _) (asg_one _) (by simp only [maxLen]; omega) (by omega) (by simp; omega) ?_
                 intro v1 w1 hown1 hg1 hv1
                 obtain ⟨g1, cap1, rfl⟩ := own_some hown1 (by omega)
                 have sv1 := grown_single (HOV.out.alloc _) (hnn1.of_eq (Below.heap_alloc _ _ _ (by omega))) hg1 (single_alloc HSV.out _)
                 have s1 := sv1.1
                 have s2 := sv1.2
                 obtain ⟨b1, b2, b3, b4, b5, b6⟩ := RH.out.after HOV.out hbb hg1 hXn (fun e => n1 e.symm)
                 have b7 := b2.2.2.2
                 rw [HN.out] at b7
                 simp only [Nat.zero_add] at b7
                 have b8 := cell_set_far b7 hXn (.slice (some ⟨g1, 0, none⟩) (l.length + 1) cap1))
    have R0 : GthR w B base X nb fb t (l ++ [(t.nm, t.op)]) (w1.setCell ⟨nb, 0, none⟩ (.slice (some ⟨g1, 0, none⟩) (l.length + 1) cap1)) := by
      refine ⟨b1.set rfl _, ⟨cell_set_far b2.1 hXn _, cell_set_far b2.2.1 hXn _, cell_set_far b2.2.2.1 hXn _, cell_set_far b2.2.2.2 hXn _⟩, notRow_set b3 _ _, notRow_set b4 _ _, notRow_set b5 _ _, ⟨_, single_set sv1 _, ?_⟩, cell_set_far b6 (fun e => n1 e.symm) _⟩
      have e1 : (l ++ [(t.nm, t.op)]).length = l.length + 1 := by simp
      rw [e1, asgs_append, asgs_one, HJ.out]
      exact own_set hown1 b5 _
    clear s0 s1 s2 b1 b2 b3 b4 b5 b6 b7 b8 a0 a1 a2 a3 c7 hW HSV HOV RH hg1 hown1 sv1 hv1 hsW2 hsW3
    obtain ⟨l1, hl1⟩ : ∃ l1, l1 = l ++ [(t.nm, t.op)] := ⟨_, rfl⟩
    rw [← hl1] at R0 HV hlen1
    clear hl1
    go_loopw [25] (fun i w' => ∃ (k : Nat) (x : Int), i = .int .i64 x ∧ x = k ∧ k ≤ n ∧ GthR w B base X nb fb t (l1 ++ Tm.varss (t.ks.take k)) w') (fun i _ => (n - intOf i).toNat)
    case atStart => exact ⟨0, 0, rfl, rfl, Nat.zero_le _, by rw [List.take_zero, Tm.varss, List.append_nil]; exact R0⟩
    case round =>
      clear R0
      obtain ⟨k, x, rfl, hxk, hk, R⟩ := hrel
      obtain rfl : x = (k : Int) := hxk
      by_cases hlt : k < n
      · have hk' : k < t.ks.length := by rw [HN.out]; exact hlt
        have gs : X ≤ wr.heap.size := hX ▸ R.gth.size
        have bB : Below B w wr := R.gth.below h1 (by omega)
        obtain ⟨kin, b, o, ha, hbB, kf⟩ := HIN.out.kid k hk'
        have kin' := kin.keep bB
        have kf' := kf.keep bB hbB
        obtain ⟨v, sv, ov⟩ := R.row
        have hb2 := bel_alloc wr (boxT t.ks[k])
        have f4 := box_four wr t.ks[k]
        have hle := sizes_take_le t.ks (k + 1)
        rw [take_succ_sizes t.ks k hk'] at hle
        have hvl : (Tm.varss (t.ks.take k)).length ≤ Tm.sizes (t.ks.take k) := varss_le _
        have HC := mkHid (IH.out t.ks[k] (List.getElem_mem _) B base nb fb (l1 ++ Tm.varss (t.ks.take k)) v (wr.alloc (boxT t.ks[k])) (kin'.keep (hb2.mono (Nat.le_trans hBw gs))) ((HS.out.keep hg0 bB).later hb2) hg0 (HKS.out _ (List.getElem_mem _)) h1 h2 n1 hbb (R.nn.of_eq (Below.heap_alloc _ _ _ (Nat.lt_of_lt_of_le hnb gs))) (R.nf.of_eq (Below.heap_alloc _ _ _ (Nat.lt_of_lt_of_le hfb gs))) (by simp; omega) (single_alloc sv _) (ov.alloc _) (cell_later hb2 R.cl) (by rw [List.length_append]; omega))
        have HT := mkHid (take_succ_varss t.ks k hk')
        have hW2 : wr.alloc (.cells #[.int .i64 t.ks[k].op, .string t.ks[k].nm, .int .i64 t.ks[k].n, .slice t.ks[k].a t.ks[k].ks.length t.ks[k].c] 24) = wr.alloc (boxT t.ks[k]) := rfl
        have cl := cell_later hb2 R.cl
        unfold gthF at cl
        rw [ha]
        clear ha kin kf IH kin' sv ov HS HKS hle hvl
        generalize t.ks[k] = q at *
        clear hk'
        obtain ⟨g0, g1, g2, g3⟩ := kf'
        obtain ⟨f0, f1, f2, f3⟩ := f4
        simp only [Nat.zero_add] at f1 f2 f3
        have HG2 : Hid (Gth nb B wr (wr.alloc (boxT q))) := Gth.of hb2
        generalize wr.alloc (boxT q) = W2 at *
        unfold Tm.val at HC
        have RD : Hid (GthR w B base X nb fb t (l1 ++ Tm.varss (t.ks.take k)) wr) := R
        clear R hb2
        go_wp2_with (go_at_call 35; ((with_reducible refine HC.out.mono ?_)); rintro e w1 ⟨rfl, ⟨gt1, gt1n⟩, ⟨v1, sv1, ov1⟩⟩)
        go_roundw
        case rel =>
          have R := RD.out
          have G1 := (HG2.out.trans gt1)
          have hXw := four_lt R.four
          refine ⟨k + 1, _, rfl, by omega, by omega, ⟨R.gth.trans G1, G1.four R.four hXn R.nr, G1.notRow hXw hXn R.nr, G1.notRow (World.block_lt_of_cell? _ _ R.cl) (fun e => n1 e.symm) R.nf, gt1n, ⟨v1, sv1, by rw [HT.out, ← List.append_assoc]; exact ov1⟩, G1.cell R.cl (by simpa using fun e => n1 e.symm) R.nf⟩⟩
        case measure => simp [intOf]; omega
      · obtain ⟨v, sv, ov⟩ := R.row
        have e : l ++ t.vars = l1 ++ Tm.varss (t.ks.take k) := by rw [HV.out, List.take_of_length_le (by rw [HN.out]; omega)]
        have E := mkHid e
        clear e
        go_wp2
        go_end0
        exact ⟨rfl, ⟨R.gth, R.nn⟩, v, sv, by rw [E.out]; exact ov⟩
end Go.Proofs.YtaibmdikimpooaaDoor
