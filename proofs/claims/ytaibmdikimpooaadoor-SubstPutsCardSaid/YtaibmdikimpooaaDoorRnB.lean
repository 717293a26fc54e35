/-
  Names put into a sorted row one by one, plainly; rows of names that are read; what an append of such a row makes.
  The document's 'with': names put in one by one; and 'Names'.
-/
import Derived.Test.YtaibmdikimpooaaDoorTmO
import Derived.Test.YtaibmdikimpooaaDoorTmJ
import Derived.Test.YtaibmdikimpooaaDoorSbG
import Derived.Test.YtaibmdikimpooaaDoorTmX
import Derived.BigQuiet
import Derived.Deep.RegionHeld2
namespace Go.Proofs.YtaibmdikimpooaaDoor
section
open Go.RowKit

/-- is a name ahead of another one? as the program asks -/
def ltB (x y : Nm) : Bool := Op.bytesLess x.1.toList y.1.toList || ((x.1.toList == y.1.toList) && decide (x.2 < y.2))
theorem str_beq (x y : ByteArray) : (x.toList == y.toList) = true ↔ x = y := by
  rw [beq_iff_eq]
  exact ⟨toList_inj, fun h => by rw [h]⟩
theorem ltB_iff (x y : Nm) : ltB x y = true ↔ ltA x y := by
  unfold ltB ltA
  rw [Bool.or_eq_true, Bool.and_eq_true, less_iff, str_beq, decide_eq_true_eq]
theorem ltA_irr (x : Nm) : ¬ ltA x x := by
  rintro (h | ⟨-, h⟩)
  · exact List.lt_irrefl _ h
  · omega
theorem ltA_trans {x y z : Nm} (h : ltA x y) (k : ltA y z) : ltA x z := by
  rcases h with h | ⟨h, h'⟩ <;> rcases k with k | ⟨k, k'⟩
  · exact .inl (List.lt_trans h k)
  · exact .inl (k ▸ h)
  · exact .inl (h ▸ k)
  · exact .inr ⟨h.trans k, by omega⟩
theorem ltA_tri (x y : Nm) : ltA x y ∨ x = y ∨ ltA y x := by
  obtain ⟨x1, x2⟩ := x
  obtain ⟨y1, y2⟩ := y
  rcases tri x1.toList y1.toList with h | h | h
  · exact .inl (.inl h)
  · obtain rfl := toList_inj h
    rcases Int.lt_trichotomy x2 y2 with k | k | k
    · exact .inl (.inr ⟨rfl, k⟩)
    · exact .inr (.inl (by rw [k]))
    · exact .inr (.inr (.inr ⟨rfl, k⟩))
  · exact .inr (.inr (.inl h))
/-- a name put into a sorted row -/
def insN : List Nm → Nm → List Nm
  | [], x => [x]
  | y :: l, x => if ltB y x then y :: insN l x else if y = x then y :: l else x :: y :: l
theorem insN_mem (l : List Nm) (x z : Nm) : z ∈ insN l x ↔ z = x ∨ z ∈ l := by
  induction l with
  | nil => simp [insN]
  | cons y l ih =>
    unfold insN
    split
    · rw [List.mem_cons, ih, List.mem_cons]
      constructor
      · rintro (h | h | h)
        · exact .inr (.inl h)
        · exact .inl h
        · exact .inr (.inr h)
      · rintro (h | h | h)
        · exact .inr (.inl h)
        · exact .inl h
        · exact .inr (.inr h)
    · split
      · rename_i h
        subst h
        rw [List.mem_cons]
        constructor
        · intro h; exact .inr h
        · rintro (h | h)
          · exact .inl h
          · exact h
      · rw [List.mem_cons]
theorem insN_sorted (l : List Nm) (x : Nm) (h : l.Pairwise ltA) : (insN l x).Pairwise ltA := by
  induction l with
  | nil => simp [insN]
  | cons y l ih =>
    rw [List.pairwise_cons] at h
    unfold insN
    split
    · rename_i hy
      rw [List.pairwise_cons]
      refine ⟨fun z hz => ?_, ih h.2⟩
      rcases (insN_mem l x z).1 hz with rfl | hz
      · exact (ltB_iff _ _).1 hy
      · exact h.1 z hz
    · rename_i hy
      split
      · exact List.pairwise_cons.2 h
      · rename_i hne
        have hxy : ltA x y := by
          rcases ltA_tri y x with k | k | k
          · exact absurd ((ltB_iff _ _).2 k) hy
          · exact absurd k hne
          · exact k
        rw [List.pairwise_cons]
        refine ⟨fun z hz => ?_, List.pairwise_cons.2 h⟩
        rcases List.mem_cons.1 hz with rfl | hz
        · exact hxy
        · exact ltA_trans hxy (h.1 z hz)
theorem insN_len (l : List Nm) (x : Nm) : (insN l x).length ≤ l.length + 1 := by
  induction l with
  | nil => simp [insN]
  | cons y l ih =>
    unfold insN
    split
    · simp only [List.length_cons]; omega
    · split
      · simp
      · simp
/-- what the loop finds -/
theorem insN_at : ∀ (l : List Nm) (x : Nm) (k : Nat), k ≤ l.length → (∀ j, j < k → ltB (l.getD j noNm) x = true) → (k < l.length → ltB (l.getD k noNm) x = false) → insN l x = if k < l.length ∧ l.getD k noNm = x then l else l.take k ++ x :: l.drop k
  | [], x, k, hk, _, _ => by
    have : k = 0 := by simpa using hk
    subst this
    simp [insN]
  | y :: l, x, 0, _, _, h => by
    have hy : ltB y x = false := h (by simp)
    unfold insN
    rw [hy]
    by_cases e : y = x
    · simp [e]
    · simp [e]
  | y :: l, x, k + 1, hk, h0, h => by
    have hy : ltB y x = true := h0 0 (by omega)
    unfold insN
    rw [hy, if_pos rfl, insN_at l x k (by simpa using hk) (fun j hj => h0 (j + 1) (by omega)) (fun hl => h (by simpa using hl))]
    by_cases e : k < l.length ∧ l.getD k noNm = x
    · rw [if_pos e, if_pos ⟨by simpa using e.1, e.2⟩]
    · rw [if_neg e, if_neg (fun c => e ⟨by simpa using c.1, c.2⟩)]
      rfl
/-- all names of a row put in, one by one -/
def insAll (l : List Nm) (xs : List Nm) : List Nm := xs.foldl insN l
theorem insAll_mem : ∀ (xs l : List Nm) (z : Nm), z ∈ insAll l xs ↔ z ∈ l ∨ z ∈ xs
  | [], l, z => by simp [insAll]
  | x :: xs, l, z => by
    show z ∈ insAll (insN l x) xs ↔ _
    rw [insAll_mem xs, insN_mem, List.mem_cons]
    constructor
    · rintro ((h | h) | h)
      · exact .inr (.inl h)
      · exact .inl h
      · exact .inr (.inr h)
    · rintro (h | h | h)
      · exact .inl (.inr h)
      · exact .inl (.inl h)
      · exact .inr h
theorem insAll_sorted : ∀ (xs l : List Nm), l.Pairwise ltA → (insAll l xs).Pairwise ltA
  | [], _, h => h
  | x :: xs, l, h => insAll_sorted xs (insN l x) (insN_sorted l x h)
theorem insAll_len : ∀ (xs l : List Nm), (insAll l xs).length ≤ l.length + xs.length
  | [], l => by simp [insAll]
  | x :: xs, l => by
    have h1 := insAll_len xs (insN l x)
    have h2 := insN_len l x
    show (insAll (insN l x) xs).length ≤ _
    simp only [List.length_cons]
    omega
theorem insAll_app (l xs ys : List Nm) : insAll l (xs ++ ys) = insAll (insAll l xs) ys := by unfold insAll; rw [List.foldl_append]
/-- sorted rows of the same names are one -/
theorem sorted_ext : ∀ {a b : List Nm}, a.Pairwise ltA → b.Pairwise ltA → (∀ z, z ∈ a ↔ z ∈ b) → a = b
  | [], [], _, _, _ => rfl
  | [], y :: b, _, _, h => absurd ((h y).2 (by simp)) (by simp)
  | x :: a, [], _, _, h => absurd ((h x).1 (by simp)) (by simp)
  | x :: a, y :: b, ha, hb, h => by
    rw [List.pairwise_cons] at ha hb
    have e : x = y := by
      rcases List.mem_cons.1 ((h x).1 (by simp)) with e | e
      · exact e
      · rcases List.mem_cons.1 ((h y).2 (by simp)) with e' | e'
        · exact e'.symm
        · exact absurd (ltA_trans (hb.1 x e) (ha.1 y e')) (ltA_irr y)
    subst e
    rw [sorted_ext ha.2 hb.2 (fun z => ?_)]
    have hz := h z
    rw [List.mem_cons, List.mem_cons] at hz
    constructor
    · intro hm
      rcases hz.1 (.inr hm) with e | e
      · subst e; exact absurd (ha.1 z hm) (ltA_irr z)
      · exact e
    · intro hm
      rcases hz.2 (.inr hm) with e | e
      · subst e; exact absurd (hb.1 z hm) (ltA_irr z)
      · exact e
/-- a row of names that is read -/
def NR (w : World) (v : Value) (L : List Nm) : Prop := ∃ a c, v = .slice a L.length c ∧ L.length ≤ c ∧ (a = none → c = 0) ∧ (∀ ad, a = some ad → ∃ g o, ad = ⟨g, o, none⟩) ∧ ∀ j, j < L.length → ∃ g o, a = some ⟨g, o, none⟩ ∧ Five w g (o + j * 5) (L.getD j noNm)
theorem Five.later {w w' : World} {g o : Nat} {x : Nm} (h : Five w g o x) (hb : Below w.heap.size w w') : Five w' g o x :=
  ⟨cell_later hb h.1, cell_later hb h.2.1, cell_later hb h.2.2.1, cell_later hb h.2.2.2.1, cell_later hb h.2.2.2.2⟩
theorem NR.later {w w' : World} {v : Value} {L : List Nm} (h : NR w v L) (hb : Below w.heap.size w w') : NR w' v L := by
  obtain ⟨a, c, e, h1, h2, h4, h3⟩ := h
  refine ⟨a, c, e, h1, h2, h4, fun j hj => ?_⟩
  obtain ⟨g, o, e, hf⟩ := h3 j hj
  exact ⟨g, o, e, hf.later hb⟩
theorem nr_nil (w : World) : NR w (.slice none 0 0) [] := ⟨none, 0, rfl, Nat.le_refl _, fun _ => rfl, fun _ h => (by cases h), fun j hj => absurd hj (by simp)⟩
theorem own_nr {w : World} {base : Nat} {v : Value} {L : List Nm} (h : w.ownsRow base 38 5 v L.length (asgs L)) : NR w v L := by
  rcases h.2 with ⟨rfl, h0⟩ | ⟨g, cap, cur, rfl, -, hh, h1, -⟩
  · have : L = [] := List.length_eq_zero_iff.1 h0
    subst this
    exact nr_nil w
  · refine ⟨some ⟨g, 0, none⟩, cap, rfl, h1, (fun h => by cases h), (fun ad h => ⟨g, 0, (Option.some.inj h).symm⟩), fun j hj => ⟨g, 0, rfl, ?_⟩⟩
    rw [Nat.zero_add]
    exact own_five h rfl j hj
theorem getD_take {L : List Nm} {k j : Nat} (h : j < k) : (L.take k).getD j noNm = L.getD j noNm := by
  simp [List.getD, h]
theorem getD_drop {L : List Nm} {k j : Nat} : (L.drop k).getD j noNm = L.getD (k + j) noNm := by
  simp [List.getD]
theorem nr_take {w : World} {a : Option Addr} {n c k : Nat} {L : List Nm} (h : NR w (.slice a n c) L) (hk : k ≤ n) : NR w (.slice a k c) (L.take k) ∧ (L.take k).length = k := by
  obtain ⟨a', c', e, h1, h2, h4, h3⟩ := h
  simp only [Value.slice.injEq] at e
  obtain ⟨rfl, rfl, rfl⟩ := e
  have hl : (L.take k).length = k := by rw [List.length_take]; omega
  refine ⟨⟨a, c, by rw [hl], by omega, h2, h4, fun j hj => ?_⟩, hl⟩
  rw [hl] at hj
  obtain ⟨g, o, e, hf⟩ := h3 j (by omega)
  exact ⟨g, o, e, by rw [getD_take hj]; exact hf⟩
theorem nr_drop {w : World} {g o n c k : Nat} {L : List Nm} (h : NR w (.slice (some ⟨g, o, none⟩) n c) L) (hk : k ≤ n) : NR w (.slice (some ⟨g, o + k * 5, none⟩) (n - k) (c - k)) (L.drop k) ∧ (L.drop k).length = n - k := by
  obtain ⟨a', c', e, h1, h2, h4, h3⟩ := h
  simp only [Value.slice.injEq] at e
  obtain ⟨rfl, rfl, rfl⟩ := e
  have hl : (L.drop k).length = L.length - k := by rw [List.length_drop]
  refine ⟨⟨_, c - k, by rw [hl], by omega, (fun h => by cases h), (fun ad h => ⟨_, _, (Option.some.inj h).symm⟩), fun j hj => ?_⟩, hl⟩
  rw [hl] at hj
  obtain ⟨g', o', e, hf⟩ := h3 (k + j) (by omega)
  simp only [Option.some.injEq, Addr.mk.injEq, and_true] at e
  obtain ⟨rfl, rfl⟩ := e
  refine ⟨g, o + k * 5, rfl, ?_⟩
  rw [getD_drop, Nat.add_assoc, ← Nat.add_mul]
  exact hf
theorem nr_drop' {w : World} {g o n c k : Nat} {L : List Nm} (h : NR w (.slice (some ⟨g, o, none⟩) n c) L) (hk : k ≤ n) : NR w (.slice (if c = k then some ⟨g, o, none⟩ else some ⟨g, o + k * 5, none⟩) (n - k) (c - k)) (L.drop k) ∧ (L.drop k).length = n - k := by
  by_cases e : c = k
  · rw [if_pos e]
    obtain ⟨a', c', e1, h1, h2, h4, h3⟩ := h
    simp only [Value.slice.injEq] at e1
    obtain ⟨rfl, rfl, rfl⟩ := e1
    have hl : (L.drop k).length = L.length - k := by rw [List.length_drop]
    exact ⟨⟨_, c - k, by rw [hl], by omega, (fun h => by cases h), (fun ad h => ⟨_, _, (Option.some.inj h).symm⟩), fun j hj => absurd hj (by omega)⟩, hl⟩
  · rw [if_neg e]
    exact nr_drop h hk
theorem nr_one {w : World} (x : Nm) : NR (w.alloc (.cells #[.string x.1, .int .i64 x.2, .string x.1, .int .i64 0, .slice none 0 0] 38)) (.slice (some ⟨w.heap.size, 0, none⟩) 1 1) [x] :=
  ⟨_, 1, rfl, Nat.le_refl _, (fun h => by cases h), (fun ad h => ⟨_, _, (Option.some.inj h).symm⟩), fun j hj => ⟨w.heap.size, 0, rfl, by
    have : j = 0 := by simpa using hj
    subst this
    simp [Five, go_sem]⟩⟩
theorem asgs_at {w : World} {g o : Nat} {L : List Nm} (h : ∀ j, j < L.length → Five w g (o + j * 5) (L.getD j noNm)) : ∀ j u, (asgs L)[j]? = some u → w.cell? ((⟨g, o, none⟩ : Addr).add j) = some u := by
  intro j u hu
  have hj : j < (asgs L).length := (List.getElem?_eq_some_iff.1 hu).1
  rw [asgs_len] at hj
  have e : j = (j / 5) * 5 + j % 5 := by omega
  have hm : j % 5 < 5 := Nat.mod_lt _ (by omega)
  have hq : j / 5 < L.length := by omega
  rw [Go.WideShapes.add_plain]
  have hc := h (j / 5) hq
  rw [e, asgs_get L (j / 5) (j % 5) hq hm] at hu
  rw [e, ← Nat.add_assoc]
  obtain ⟨c0, c1, c2, c3, c4⟩ := hc
  generalize j / 5 = q at *
  generalize j % 5 = r at *
  clear e
  match r, hm with
  | 0, _ => rw [Nat.add_zero, c0]; exact hu
  | 1, _ => rw [c1]; exact hu
  | 2, _ => rw [c2]; exact hu
  | 3, _ => rw [c3]; exact hu
  | 4, _ => rw [c4]; exact hu
theorem asgs_one_cell (L : List Nm) : ∀ u ∈ asgs L, u.oneCell' = true := by
  intro u hu
  unfold asgs at hu
  obtain ⟨x, -, hx⟩ := List.mem_flatMap.1 hu
  simp only [asg, List.mem_cons, List.not_mem_nil, or_false] at hx
  rcases hx with rfl | rfl | rfl | rfl | rfl <;> rfl
theorem asgI : (Tryd.prog.info? 38).map (fun i => (i.zero, i.size, i.bytes)) = some (some (.agg #[.string ⟨#[]⟩, .int .i64 0, .string ⟨#[]⟩, .int .i64 0, .slice none 0 0]), 5, 72) := by kernel_rfl
theorem below_gr {w w' : World} {B : Nat} {v : Value} (hg : w.grownBy w' v.ownBlock) (hv : ∀ k, v.ownBlock = some k → B ≤ k) (hB : B ≤ w.heap.size) : Below B w w' :=
  ⟨hg.os, hg.tape, hg.output, hg.size, fun k hk => hg.block k (by omega) (fun e => by have := hv k e.symm; omega)⟩
/-- an append of names that are read to a row of one's own -/
theorem run_nms {w : World} {base : Nat} {v r : Value} {K R : List Nm} (hown : w.ownsRow base 38 5 v K.length (asgs K)) (hr : NR w r R) (hm : K.length + R.length ≤ 100000) (hb : base ≤ w.heap.size) :
    ∃ v' w', (Builtin.append_ #[31, 31] 31 #[v, r]).run Tryd.prog w = .ok v' w' ∧ w'.ownsRow base 38 5 v' (K ++ R).length (asgs (K ++ R)) ∧ Below base w w' ∧ w.grownBy w' v.ownBlock := by
  obtain ⟨i0, hi0, hz0, hz1, hz2⟩ := info_parts asgI
  obtain ⟨a, c, rfl, h1, h2, -, h3⟩ := hr
  cases a with
  | none =>
    obtain rfl := h2 rfl
    have : R = [] := List.length_eq_zero_iff.1 (by omega)
    subst this
    exact ⟨v, w, run_append_owned_none w base 31 31 38 i0 5 Tryd.underlying31 hi0 v K.length (asgs K) hown, by simpa using hown, Below.refl _ _, ⟨rfl, rfl, rfl, Nat.le_refl _, fun _ _ _ => rfl⟩⟩
  | some ad =>
    have hcs : ∀ j u, (asgs R)[j]? = some u → w.cell? (ad.add j) = some u := by
      cases hR : R with
      | nil => intro j u hu; simp [asgs] at hu
      | cons x R' =>
        obtain ⟨g, o, e, -⟩ := h3 0 (by rw [hR]; simp)
        simp only [Option.some.injEq] at e
        subst e
        rw [← hR]
        exact asgs_at (fun j hj => by
          obtain ⟨g', o', e, hf⟩ := h3 j hj
          simp only [Option.some.injEq, Addr.mk.injEq, and_true] at e
          obtain ⟨rfl, rfl⟩ := e
          exact hf)
    obtain ⟨v', w', e, k2, k3, -, -⟩ := run_append_own_at (P := Tryd.prog) w base 31 31 38 i0 _ 5 72 Tryd.underlying31 hi0 hz0 hz1 hz2 rfl (by omega) v K.length (asgs K) hown ad R.length c (asgs R) (asgs_len R) hcs (asgs_one_cell R) (by unfold maxLen; omega) (by omega) hb
    exact ⟨v', w', e, by rw [List.length_append, asgs_append]; exact k2, below_gr k3 (fun k hk => (hown.lt k hk).1) hb, k3⟩
theorem NR.grown {w w' : World} {v : Value} {k : Nat} {x : Nm} (h : NR w (.slice (some ⟨k, 0, none⟩) 1 1) [x]) (hg : w.grownBy w' v.ownBlock) (hk : v.ownBlock ≠ some k) : NR w' (.slice (some ⟨k, 0, none⟩) 1 1) [x] := by
  obtain ⟨a', c', e, h1, h2, h4, h3⟩ := h
  refine ⟨a', c', e, h1, h2, h4, fun j hj => ?_⟩
  obtain ⟨g, o, e', hf⟩ := h3 j hj
  refine ⟨g, o, e', ?_⟩
  simp only [Value.slice.injEq] at e
  have hkg : k = g := by
    have := e.1.trans e'
    simp only [Option.some.injEq, Addr.mk.injEq] at this
    exact this.1
  have key : ∀ (i : Nat) (u : Value), w.cell? ⟨g, i, none⟩ = some u → w'.cell? ⟨g, i, none⟩ = some u := fun i u hu => by
    have hb := World.cell?_of_block (w := w) (w' := w') (a := ⟨g, i, none⟩) (hg.block g (World.block_lt_of_cell? _ _ hu) (fun e => hk (by rw [hkg]; exact e.symm)))
    rw [hb]; exact hu
  obtain ⟨c0, c1, c2, c3, c4⟩ := hf
  exact ⟨key _ _ c0, key _ _ c1, key _ _ c2, key _ _ c3, key _ _ c4⟩
end
section
open Go.RowKit

/-- a builtin append whose run is known, at a step of a region that draws its order -/
theorem step_run' {ops : Array Oper} {o : Oper} {a : Act} {w w' : World} {v r v' : Value} {K : Act → World → Prop} {Q : Exit → Act → World → Prop} {E : Prop} {ts : TypeId} (hgd : o.guard = none) (s x : Operand) (hty : o.type = ts)
    (ho : o.op = .call { callee := .builtin .append, args := #[s, x], argTypes := #[ts, ts] }) (hs : a.eval s = v) (hx : a.eval x = r) (hrun : (Builtin.append_ #[ts, ts] ts #[v, r]).run Tryd.prog w = .ok v' w')
    (h : K (a.put o.dst v') w') : if Region.wanted o (yielded ops a.tmps) = true then Oper.wp Tryd.prog o a w K Q else E := by
  have hw : Region.wanted o (yielded ops a.tmps) = true := by simp [Region.wanted, hgd]
  rw [if_pos hw]
  unfold Oper.wp execOp
  simp only [ho, hty, resolve, invoke, builtin, Sem.run_bind, Sem.run_pure, Result.andThen_ok, List.map_toArray, List.map_cons, List.map_nil, hs, hx, hrun]
  exact h
theorem base_le {V w : World} {B e s n : Nat} {v : Value} {xs : List Value} (_ : w.ownsRow B e s v n xs) (_ : Below V.heap.size V w) (_ : V.heap.size ≤ B) (hB : B ≤ w.heap.size := by first | exact Nat.le_refl _ | (simp; done) | (simp; omega) | assumption) : B ≤ w.heap.size := hB
theorem size_al (w : World) (o : Obj) : (w.alloc o).heap.size = w.heap.size + 1 := by simp [go_sem]
theorem len4 {X : List Nm} (h : X.length ≤ 2000) : ([] : List Nm).length + X.length ≤ 100000 := by simp; omega
theorem len7 {X : List Nm} {x : Nm} (h : X.length ≤ 2000) : (([] : List Nm) ++ X).length + [x].length ≤ 100000 := by simp; omega
theorem len11 {X Y : List Nm} {x : Nm} (h : X.length ≤ 2000) (k : Y.length ≤ 2000) : ((([] : List Nm) ++ X) ++ [x]).length + Y.length ≤ 100000 := by simp; omega
def WithP (R : List Nm) (w : World) (e : Ending) (w' : World) : Prop := ∃ v, e = .returned v ∧ NR w' v R ∧ Below w.heap.size w w'
theorem varss_take (ks : List Tm) (k : Nat) : (Tm.varss (ks.take k)).length ≤ (Tm.varss ks).length := by
  induction ks generalizing k with
  | nil => simp
  | cons x l ih =>
    cases k with
    | zero => simp [Tm.varss]
    | succ k =>
      simp only [List.take_succ_cons, Tm.varss, List.length_append]
      have := ih k
      omega
theorem varB_row : ∀ j : Nat, j < 29 → 1 ≤ j → varB (j : Int) = (shRow j).name := by decide
theorem varB_none {t : Tm} (h : t.srt ≠ 0) (hv : varB t.op = true) : t.ks = [] := by
  have hs : nsN t.op ≠ 0 := by
    unfold varB at hv
    simp only [Bool.or_eq_true, decide_eq_true_eq] at hv
    unfold nsN
    rcases hv with ((hv | hv) | hv) | hv <;> rw [hv] <;> decide
  exact (name_none h hs).1
theorem vars_var {t : Tm} (h : t.srt ≠ 0) (hv : varB t.op = true) : t.vars = [(t.nm, t.op)] := by
  obtain ⟨⟨h1, h2⟩, -⟩ := srt_ops h
  have hj := varB_row t.op.toNat (by omega) (by omega)
  rw [show ((t.op.toNat : Nat) : Int) = t.op by omega, hv] at hj
  rw [vars_eq, ← hj, varB_none h hv]
  rfl
theorem vars_part {t : Tm} (h : t.srt ≠ 0) (hv : varB t.op = false) : t.vars = Tm.varss t.ks := by
  obtain ⟨⟨h1, h2⟩, -⟩ := srt_ops h
  have hj := varB_row t.op.toNat (by omega) (by omega)
  rw [show ((t.op.toNat : Nat) : Int) = t.op by omega, hv] at hj
  rw [vars_eq, ← hj]
  rfl
set_option maxRecDepth 100000 in
set_option maxHeartbeats 16000000 in
theorem with_nil (op : Int) (nm : ByteArray) (tn : Int) (ta : Option Addr) (tl tc : Nat) (hv : varB op = true) (w : World) (hL : NR w (.slice none 0 0) ([] : List Nm)) (hlen : ([] : List Nm).length ≤ 2000) :
    Calls Tryd.prog 40 #[.slice none 0 0, .agg #[.int .i64 op, .string nm, .int .i64 tn, .slice ta tl tc]] w (WithP (insN ([] : List Nm) (nm, op)) w) := by
  have B0 := bel_alloc w (.cells #[.int .i64 op, .string nm, .int .i64 tn, .slice ta tl tc] 24)
  have F0 : (w.alloc (.cells #[.int .i64 op, .string nm, .int .i64 tn, .slice ta tl tc] 24)).cell? ⟨w.heap.size, 0, none⟩ = some (.int .i64 op) ∧ (w.alloc (.cells #[.int .i64 op, .string nm, .int .i64 tn, .slice ta tl tc] 24)).cell? ⟨w.heap.size, 1, none⟩ = some (.string nm) := by simp [go_sem]
  have HL := mkHid (hL.later B0)
  have HB0 := mkHid B0
  have HLEN := mkHid hlen
  clear B0 hL
  generalize hW2 : w.alloc (.cells #[.int .i64 op, .string nm, .int .i64 tn, .slice ta tl tc] 24) = W at *
  obtain ⟨f0, f1⟩ := F0
  have CV := mkHid (var_any op W)
  rw [hv] at CV
  go_enter Tryd.func40, Tryd.ntmps40
  go_wp2_with fail
  ((with_reducible refine CV.out.mono ?_)); rintro e w1 ⟨rfl, rfl⟩
  clear CV hW2
  have HW := mkHid (Below.refl W.heap.size W)
  have HINS : Hid (insN [] (nm, op) = ([] : List Nm).take 0 ++ (nm, op) :: ([] : List Nm).drop 0) := rfl
  obtain ⟨L, HLe⟩ : ∃ L : List Nm, Hid (L = []) := ⟨[], rfl⟩
  rw [← HLe.out] at HL HLEN HINS ⊢
  clear hlen
  have hk : (0 : Nat) ≤ 0 := Nat.le_refl _
  go_wp2
  go_loopw [5] (fun s5 w' => s5 = .int .i64 0 ∧ Hid (Below W.heap.size W w')) (fun s5 _ => (0 : Nat))
  case atStart => exact ⟨rfl, HW⟩
  case round =>
    obtain ⟨rfl, HBW⟩ := hrel
    have e0 := cell_later HBW.out f0
    have e1 := cell_later HBW.out f1
    go_wp2_with fail
    go_quiet (fail)
    have HBW8 : Hid (Below W.heap.size W (wr.drewN nq)) := below_drewN HBW.out nq
    clear e0 e1 HBW
    generalize wr.drewN nq = W8 at *
    have e0 := cell_later HBW8.out f0
    have e1 := cell_later HBW8.out f1
    go_wp2_with fail
    go_quiet (fail)
    have HBW9 : Hid (Below W.heap.size W (W8.drewN nq)) := below_drewN HBW8.out nq
    clear e0 e1 HBW8
    generalize W8.drewN nq = W9 at *
    have e0 := cell_later HBW9.out f0
    have e1 := cell_later HBW9.out f1
    have HBQ := bon HB0.out HBW9.out
    have HLQ := HL.out.later HBW9.out
    go_wp2_with fail
    (try dsimp only [List.append])
    have hb6 : Below w.heap.size w ((W9).alloc (.cells #[.string nm, .int .i64 op, .string nm, .int .i64 0, .slice none 0 0] 38)) := bal HBQ _
    have hx6 : Five ((W9).alloc (.cells #[.string nm, .int .i64 op, .string nm, .int .i64 0, .slice none 0 0] 38)) (W9).heap.size 0 (nm, op) := by simp [Five, go_sem]
    obtain ⟨p0, p1, p2, p3, p4⟩ := hx6
    have HB6 := mkHid hb6
    have HL6 : Hid (NR ((W9).alloc (.cells #[.string nm, .int .i64 op, .string nm, .int .i64 0, .slice none 0 0] 38)) (.slice none 0 0) L) := HLQ.later (bel_alloc _ _)
    clear hb6 HBQ HLQ
    generalize (W9).alloc (.cells #[.string nm, .int .i64 op, .string nm, .int .i64 0, .slice none 0 0] 38) = W6 at *
    generalize (W9).heap.size = X6 at *
    simp only [Nat.zero_add] at p1 p2 p3 p4
    refine wp_region_held_drew (S := fun w' => w'.cell? ⟨X6, 0, none⟩ = some (.string nm) ∧ w'.cell? ⟨X6, 1, none⟩ = some (.int .i64 op) ∧ w'.cell? ⟨X6, 2, none⟩ = some (.string nm) ∧ w'.cell? ⟨X6, 3, none⟩ = some (.int .i64 0) ∧ w'.cell? ⟨X6, 4, none⟩ = some (.slice none 0 0)) (by kernel_rfl) ⟨p0, p1, p2, p3, p4⟩ (fun hHeld => ?_)
    have HBV : Hid (Below w.heap.size w W6.drew) := bdrew HB6.out
    have HLV : Hid (NR W6.drew (.slice none 0 0) L) := HL6.out.later (bdrew (Below.refl _ _))
    have hS0 := mkHid hHeld
    clear p0 p1 p2 p3 p4 HB6 HL6
    generalize W6.drew = V at *
    refine wpAnyH_take (i := 1) (v := ?_) rfl (by kernel_rfl) (by kernel_rfl) (by kernel_rfl) (fun _ _ _ h => h) (Or.inl ⟨by kernel_rfl, ?_⟩) (by assumption) ?_
    rotate_left
    · (intro w hSw; (try dsimp only at hSw); go_simp; try with_reducible rfl)
    simp only [Act.put, List.getElem_toArray, List.getElem_cons_succ, List.getElem_cons_zero, List.setIfInBounds_toArray, List.set_cons_zero, List.set_cons_succ]
    refine wpAnyH_take (i := 2) (v := ?_) rfl (by kernel_rfl) (by kernel_rfl) (by kernel_rfl) (fun _ _ _ h => h) (Or.inl ⟨by kernel_rfl, ?_⟩) (by assumption) ?_
    rotate_left
    · (intro w hSw; (try dsimp only at hSw); go_simp; try with_reducible rfl)
    simp only [Act.put, List.getElem_toArray, List.getElem_cons_succ, List.getElem_cons_zero, List.setIfInBounds_toArray, List.set_cons_zero, List.set_cons_succ]
    refine wpAnyH_take (i := 3) (v := ?_) rfl (by kernel_rfl) (by kernel_rfl) (by kernel_rfl) (fun _ _ _ h => h) (Or.inl ⟨by kernel_rfl, ?_⟩) (by assumption) ?_
    rotate_left
    · (intro w hSw; (try dsimp only at hSw); go_simp; try with_reducible rfl)
    simp only [Act.put, List.getElem_toArray, List.getElem_cons_succ, List.getElem_cons_zero, List.setIfInBounds_toArray, List.set_cons_zero, List.set_cons_succ]
    refine wpAnyH_take (i := 5) (v := ?_) rfl (by kernel_rfl) (by kernel_rfl) (by kernel_rfl) (fun _ _ _ h => h) (Or.inl ⟨by kernel_rfl, ?_⟩) (by assumption) ?_
    rotate_left
    · (intro w hSw; (try dsimp only at hSw); go_simp; try with_reducible rfl)
    simp only [Act.put, List.getElem_toArray, List.getElem_cons_succ, List.getElem_cons_zero, List.setIfInBounds_toArray, List.set_cons_zero, List.set_cons_succ]
    refine wpAnyH_take (i := 8) (v := ?_) rfl (by kernel_rfl) (by kernel_rfl) (by kernel_rfl) (fun _ _ _ h => h) (Or.inl ⟨by kernel_rfl, ?_⟩) (by assumption) ?_
    rotate_left
    · (intro w hSw; (try dsimp only at hSw); go_simp; try with_reducible rfl)
    simp only [Act.put, List.getElem_toArray, List.getElem_cons_succ, List.getElem_cons_zero, List.setIfInBounds_toArray, List.set_cons_zero, List.set_cons_succ]
    refine wpAnyH_take (i := 9) (v := ?_) rfl (by kernel_rfl) (by kernel_rfl) (by kernel_rfl) (fun _ _ _ h => h) (Or.inl ⟨by kernel_rfl, ?_⟩) (by assumption) ?_
    rotate_left
    · (intro w hSw; (try dsimp only at hSw); go_simp; try with_reducible rfl)
    simp only [Act.put, List.getElem_toArray, List.getElem_cons_succ, List.getElem_cons_zero, List.setIfInBounds_toArray, List.set_cons_zero, List.set_cons_succ]
    refine wpAnyH_take (i := 10) (v := ?_) rfl (by kernel_rfl) (by kernel_rfl) (by kernel_rfl) (fun _ _ _ h => h) (Or.inl ⟨by kernel_rfl, ?_⟩) (by assumption) ?_
    rotate_left
    · (intro w hSw; (try dsimp only at hSw); go_simp; try with_reducible rfl)
    simp only [Act.put, List.getElem_toArray, List.getElem_cons_succ, List.getElem_cons_zero, List.setIfInBounds_toArray, List.set_cons_zero, List.set_cons_succ]
    have HT : Hid (∀ w', Below V.heap.size V w' → NR w' (.slice none 0 0) (L.take 0)) := fun w' hb => (nr_take (HLV.out.later hb) hk).1
    have HD : Hid (∀ w', Below V.heap.size V w' → NR w' (.slice none 0 0) (L.drop 0)) := fun w' hb => (by have := HLV.out.later hb; rwa [HLe.out] at this ⊢)
    have HC : Hid (∀ w', Below V.heap.size V w' → w'.cell? ⟨X6, 0, none⟩ = some (.string nm) ∧ w'.cell? ⟨X6, 1, none⟩ = some (.int .i64 op) ∧ w'.cell? ⟨X6, 2, none⟩ = some (.string nm) ∧ w'.cell? ⟨X6, 3, none⟩ = some (.int .i64 0) ∧ w'.cell? ⟨X6, 4, none⟩ = some (.slice none 0 0)) := fun w' hb => by obtain ⟨p0, p1, p2, p3, p4⟩ := hS0.out; exact ⟨cell_later hb p0, cell_later hb p1, cell_later hb p2, cell_later hb p3, cell_later hb p4⟩
    have HNX : Hid (∀ w' : World, NR (w'.alloc (.cells #[.string nm, .int .i64 op, .string nm, .int .i64 0, .slice none 0 0] 38)) (.slice (some ⟨w'.heap.size, 0, none⟩) 1 1) [(nm, op)]) := fun w' => nr_one (nm, op)
    have HO0 : Hid (∀ w' : World, (w'.alloc (.cells #[] 38)).ownsRow w'.heap.size 38 5 (.slice (some ⟨w'.heap.size, 0, none⟩) 0 0) ([] : List Nm).length (asgs [])) := fun w' => World.ownsRow_lit w' #[] 0 (Nat.le_refl _) (by decide) rfl
    have hl1 : (L.take 0).length ≤ 2000 := by have := HLEN.out; rw [List.length_take]; omega
    have hl2 : (L.drop 0).length ≤ 2000 := by have := HLEN.out; rw [List.length_drop]; first | omega | (have := HN.out; omega)
    have bV := Below.refl V.heap.size V
    clear HLV hS0
    refine wpAnyH_ready (rs := [0, 6]) (by kernel_rfl) (by simp) ?_
    refine AllReadyH.cons rfl (fun K hK => ?_) (AllReadyH.cons rfl (fun K hK => ?_) AllReadyH.nil)
    · skip
      have b0 := bal bV (.cells #[] 38)
      have o0 := HO0.out (V)
      have h0 : V.heap.size ≤ (V).heap.size := (bV).size
      have hB0 := (bel_alloc (V) (.cells #[] 38)).size
      go_simp
      refine hK.out _ _ (HC.out _ b0) (fun hHeld => ?_)
      clear hK
      refine wpAnyH_ready (rs := [4, 6]) (by kernel_rfl) (by simp) ?_
      refine AllReadyH.cons rfl (fun K hK => ?_) (AllReadyH.cons rfl (fun K hK => ?_) AllReadyH.nil)
      · skip
        obtain ⟨v4, w4, hrun, o4, k4, g4⟩ := run_nms o0 (HT.out _ b0) (len4 hl1) hB0
        have b4 := (b0).trans (k4.mono h0)
        refine step_run' (by rfl) _ _ (by rfl) (by rfl) (by rfl) (by rfl) hrun ?_
        refine hK.out _ _ (HC.out _ b4) (fun hHeld => ?_)
        clear hK hrun
        have hB4 := Nat.le_trans hB0 k4.size
        refine wpAnyH_ready (rs := [6]) (by kernel_rfl) (by simp) ?_
        refine AllReadyH.cons rfl (fun K hK => ?_) AllReadyH.nil
        · skip
          have b6 := bal b4 (.cells #[.string nm, .int .i64 op, .string nm, .int .i64 0, .slice none 0 0] 38)
          have o6 := own_later o4 (bel_alloc (w4) (.cells #[.string nm, .int .i64 op, .string nm, .int .i64 0, .slice none 0 0] 38))
          have hB6 := Nat.le_trans hB4 (bel_alloc (w4) (.cells #[.string nm, .int .i64 op, .string nm, .int .i64 0, .slice none 0 0] 38)).size
          have x6 := HNX.out (w4)
          go_simp
          refine hK.out _ _ (HC.out _ b6) (fun hHeld => ?_)
          clear hK
          refine wpAnyH_ready (rs := [7]) (by kernel_rfl) (by simp) ?_
          refine AllReadyH.cons rfl (fun K hK => ?_) AllReadyH.nil
          · skip
            obtain ⟨v7, w7, hrun, o7, k7, g7⟩ := run_nms o6 x6 (len7 hl1) hB6
            have b7 := (b6).trans (k7.mono h0)
            refine step_run' (by rfl) _ _ (by rfl) (by rfl) (by rfl) (by rfl) hrun ?_
            refine hK.out _ _ (HC.out _ b7) (fun hHeld => ?_)
            clear hK hrun
            have hB7 := Nat.le_trans hB6 k7.size
            refine wpAnyH_ready (rs := [11]) (by kernel_rfl) (by simp) ?_
            refine AllReadyH.cons rfl (fun K hK => ?_) AllReadyH.nil
            · skip
              obtain ⟨v11, w11, hrun, o11, k11, g11⟩ := run_nms o7 (HD.out _ b7) (len11 hl1 hl2) hB7
              have b11 := (b7).trans (k11.mono h0)
              refine step_run' (by rfl) _ _ (by rfl) (by rfl) (by rfl) (by rfl) hrun ?_
              refine hK.out _ _ (HC.out _ b11) (fun hHeld => ?_)
              clear hK hrun
              have hB11 := Nat.le_trans hB7 k11.size
              refine wpAnyH_take (i := 12) (v := ?_) rfl (by kernel_rfl) (by kernel_rfl) (by kernel_rfl) (fun _ _ _ h => h) (Or.inl ⟨by kernel_rfl, ?_⟩) (by assumption) ?_
              rotate_left
              · (intro w hSw; (try dsimp only at hSw); go_simp; try with_reducible rfl)
              simp only [Act.put, List.getElem_toArray, List.getElem_cons_succ, List.getElem_cons_zero, List.setIfInBounds_toArray, List.set_cons_zero, List.set_cons_succ]
              refine wpAnyH_done (by kernel_rfl) ?_ _
              go_wp2
              all_goals
                go_ret
                exact ⟨_, rfl, by rw [show insN [] (nm, op) = L.take 0 ++ (nm, op) :: L.drop 0 by rw [HLe.out]; rfl]; exact own_nr (by simpa using o11), bon HBV.out b11⟩
      · skip
        have b6 := bal b0 (.cells #[.string nm, .int .i64 op, .string nm, .int .i64 0, .slice none 0 0] 38)
        have o6 := own_later o0 (bel_alloc ((V).alloc (.cells #[] 38)) (.cells #[.string nm, .int .i64 op, .string nm, .int .i64 0, .slice none 0 0] 38))
        have hB6 := Nat.le_trans hB0 (bel_alloc ((V).alloc (.cells #[] 38)) (.cells #[.string nm, .int .i64 op, .string nm, .int .i64 0, .slice none 0 0] 38)).size
        have x6 := HNX.out ((V).alloc (.cells #[] 38))
        rw [size_al V (.cells #[] 38)] at x6
        go_simp
        refine hK.out _ _ (HC.out _ b6) (fun hHeld => ?_)
        clear hK
        refine wpAnyH_ready (rs := [4]) (by kernel_rfl) (by simp) ?_
        refine AllReadyH.cons rfl (fun K hK => ?_) AllReadyH.nil
        · skip
          obtain ⟨v4, w4, hrun, o4, k4, g4⟩ := run_nms o6 (HT.out _ b6) (len4 hl1) hB6
          have b4 := (b6).trans (k4.mono h0)
          have x4 := NR.grown x6 g4 (by simp [Value.ownBlock])
          refine step_run' (by rfl) _ _ (by rfl) (by rfl) (by rfl) (by rfl) hrun ?_
          refine hK.out _ _ (HC.out _ b4) (fun hHeld => ?_)
          clear hK hrun
          have hB4 := Nat.le_trans hB6 k4.size
          refine wpAnyH_ready (rs := [7]) (by kernel_rfl) (by simp) ?_
          refine AllReadyH.cons rfl (fun K hK => ?_) AllReadyH.nil
          · skip
            obtain ⟨v7, w7, hrun, o7, k7, g7⟩ := run_nms o4 x4 (len7 hl1) hB4
            have b7 := (b4).trans (k7.mono h0)
            refine step_run' (by rfl) _ _ (by rfl) (by rfl) (by rfl) (by rfl) hrun ?_
            refine hK.out _ _ (HC.out _ b7) (fun hHeld => ?_)
            clear hK hrun
            have hB7 := Nat.le_trans hB4 k7.size
            refine wpAnyH_ready (rs := [11]) (by kernel_rfl) (by simp) ?_
            refine AllReadyH.cons rfl (fun K hK => ?_) AllReadyH.nil
            · skip
              obtain ⟨v11, w11, hrun, o11, k11, g11⟩ := run_nms o7 (HD.out _ b7) (len11 hl1 hl2) hB7
              have b11 := (b7).trans (k11.mono h0)
              refine step_run' (by rfl) _ _ (by rfl) (by rfl) (by rfl) (by rfl) hrun ?_
              refine hK.out _ _ (HC.out _ b11) (fun hHeld => ?_)
              clear hK hrun
              have hB11 := Nat.le_trans hB7 k11.size
              refine wpAnyH_take (i := 12) (v := ?_) rfl (by kernel_rfl) (by kernel_rfl) (by kernel_rfl) (fun _ _ _ h => h) (Or.inl ⟨by kernel_rfl, ?_⟩) (by assumption) ?_
              rotate_left
              · (intro w hSw; (try dsimp only at hSw); go_simp; try with_reducible rfl)
              simp only [Act.put, List.getElem_toArray, List.getElem_cons_succ, List.getElem_cons_zero, List.setIfInBounds_toArray, List.set_cons_zero, List.set_cons_succ]
              refine wpAnyH_done (by kernel_rfl) ?_ _
              go_wp2
              all_goals
                go_ret
                exact ⟨_, rfl, by rw [show insN [] (nm, op) = L.take 0 ++ (nm, op) :: L.drop 0 by rw [HLe.out]; rfl]; exact own_nr (by simpa using o11), bon HBV.out b11⟩
    · skip
      have b6 := bal bV (.cells #[.string nm, .int .i64 op, .string nm, .int .i64 0, .slice none 0 0] 38)
      have x6 := HNX.out (V)
      go_simp
      refine hK.out _ _ (HC.out _ b6) (fun hHeld => ?_)
      clear hK
      refine wpAnyH_ready (rs := [0]) (by kernel_rfl) (by simp) ?_
      refine AllReadyH.cons rfl (fun K hK => ?_) AllReadyH.nil
      · skip
        have b0 := bal b6 (.cells #[] 38)
        have x0 := x6.later (bel_alloc ((V).alloc (.cells #[.string nm, .int .i64 op, .string nm, .int .i64 0, .slice none 0 0] 38)) (.cells #[] 38))
        have o0 := HO0.out ((V).alloc (.cells #[.string nm, .int .i64 op, .string nm, .int .i64 0, .slice none 0 0] 38))
        have h0 : V.heap.size ≤ ((V).alloc (.cells #[.string nm, .int .i64 op, .string nm, .int .i64 0, .slice none 0 0] 38)).heap.size := (b6).size
        have hB0 := (bel_alloc ((V).alloc (.cells #[.string nm, .int .i64 op, .string nm, .int .i64 0, .slice none 0 0] 38)) (.cells #[] 38)).size
        rw [size_al V (.cells #[.string nm, .int .i64 op, .string nm, .int .i64 0, .slice none 0 0] 38)] at o0 hB0 h0
        go_simp
        refine hK.out _ _ (HC.out _ b0) (fun hHeld => ?_)
        clear hK
        refine wpAnyH_ready (rs := [4]) (by kernel_rfl) (by simp) ?_
        refine AllReadyH.cons rfl (fun K hK => ?_) AllReadyH.nil
        · skip
          obtain ⟨v4, w4, hrun, o4, k4, g4⟩ := run_nms o0 (HT.out _ b0) (len4 hl1) hB0
          have b4 := (b0).trans (k4.mono h0)
          have x4 := NR.grown x0 g4 (by simp [Value.ownBlock])
          refine step_run' (by rfl) _ _ (by rfl) (by rfl) (by rfl) (by rfl) hrun ?_
          refine hK.out _ _ (HC.out _ b4) (fun hHeld => ?_)
          clear hK hrun
          have hB4 := Nat.le_trans hB0 k4.size
          refine wpAnyH_ready (rs := [7]) (by kernel_rfl) (by simp) ?_
          refine AllReadyH.cons rfl (fun K hK => ?_) AllReadyH.nil
          · skip
            obtain ⟨v7, w7, hrun, o7, k7, g7⟩ := run_nms o4 x4 (len7 hl1) hB4
            have b7 := (b4).trans (k7.mono h0)
            refine step_run' (by rfl) _ _ (by rfl) (by rfl) (by rfl) (by rfl) hrun ?_
            refine hK.out _ _ (HC.out _ b7) (fun hHeld => ?_)
            clear hK hrun
            have hB7 := Nat.le_trans hB4 k7.size
            refine wpAnyH_ready (rs := [11]) (by kernel_rfl) (by simp) ?_
            refine AllReadyH.cons rfl (fun K hK => ?_) AllReadyH.nil
            · skip
              obtain ⟨v11, w11, hrun, o11, k11, g11⟩ := run_nms o7 (HD.out _ b7) (len11 hl1 hl2) hB7
              have b11 := (b7).trans (k11.mono h0)
              refine step_run' (by rfl) _ _ (by rfl) (by rfl) (by rfl) (by rfl) hrun ?_
              refine hK.out _ _ (HC.out _ b11) (fun hHeld => ?_)
              clear hK hrun
              have hB11 := Nat.le_trans hB7 k11.size
              refine wpAnyH_take (i := 12) (v := ?_) rfl (by kernel_rfl) (by kernel_rfl) (by kernel_rfl) (fun _ _ _ h => h) (Or.inl ⟨by kernel_rfl, ?_⟩) (by assumption) ?_
              rotate_left
              · (intro w hSw; (try dsimp only at hSw); go_simp; try with_reducible rfl)
              simp only [Act.put, List.getElem_toArray, List.getElem_cons_succ, List.getElem_cons_zero, List.setIfInBounds_toArray, List.set_cons_zero, List.set_cons_succ]
              refine wpAnyH_done (by kernel_rfl) ?_ _
              go_wp2
              all_goals
                go_ret
                exact ⟨_, rfl, by rw [show insN [] (nm, op) = L.take 0 ++ (nm, op) :: L.drop 0 by rw [HLe.out]; rfl]; exact own_nr (by simpa using o11), bon HBV.out b11⟩
set_option maxRecDepth 100000 in
set_option maxHeartbeats 16000000 in
theorem with_some (op : Int) (nm : ByteArray) (tn : Int) (ta : Option Addr) (tl tc : Nat) (hv : varB op = true) (L : List Nm) (g o c : Nat) (w : World) (hL : NR w (.slice (some ⟨g, o, none⟩) L.length c) L) (hlen : L.length ≤ 2000) :
    Calls Tryd.prog 40 #[.slice (some ⟨g, o, none⟩) L.length c, .agg #[.int .i64 op, .string nm, .int .i64 tn, .slice ta tl tc]] w (WithP (insN L (nm, op)) w) := by
  have B0 := bel_alloc w (.cells #[.int .i64 op, .string nm, .int .i64 tn, .slice ta tl tc] 24)
  have F0 : (w.alloc (.cells #[.int .i64 op, .string nm, .int .i64 tn, .slice ta tl tc] 24)).cell? ⟨w.heap.size, 0, none⟩ = some (.int .i64 op) ∧ (w.alloc (.cells #[.int .i64 op, .string nm, .int .i64 tn, .slice ta tl tc] 24)).cell? ⟨w.heap.size, 1, none⟩ = some (.string nm) := by simp [go_sem]
  have HL := mkHid (hL.later B0)
  have HB0 := mkHid B0
  have HLEN := mkHid hlen
  have hcap : L.length ≤ c := by
    obtain ⟨a', c', e, h1, -⟩ := hL
    simp only [Value.slice.injEq] at e
    omega
  have HF : Hid (∀ j, j < L.length → ∀ w', Below (w.alloc (.cells #[.int .i64 op, .string nm, .int .i64 tn, .slice ta tl tc] 24)).heap.size (w.alloc (.cells #[.int .i64 op, .string nm, .int .i64 tn, .slice ta tl tc] 24)) w' → Five w' g (o + j * 5) (L.getD j noNm)) := fun j hj w' hb => by
    obtain ⟨a', c', e, h1, h2, h4, h3⟩ := HL.out.later hb
    obtain ⟨g', o', e', hf⟩ := h3 j hj
    simp only [Value.slice.injEq] at e
    have := e.1.trans e'
    simp only [Option.some.injEq, Addr.mk.injEq, and_true] at this
    obtain ⟨rfl, rfl⟩ := this
    exact hf
  have HA : Hid (∀ k, k ≤ L.length → (∀ j, j < k → ltB (L.getD j noNm) (nm, op) = true) → (k < L.length → ltB (L.getD k noNm) (nm, op) = false) → insN L (nm, op) = if k < L.length ∧ L.getD k noNm = (nm, op) then L else L.take k ++ (nm, op) :: L.drop k) := fun k => insN_at L (nm, op) k
  clear B0 hL
  generalize hW2 : w.alloc (.cells #[.int .i64 op, .string nm, .int .i64 tn, .slice ta tl tc] 24) = W at *
  obtain ⟨f0, f1⟩ := F0
  have CV := mkHid (var_any op W)
  rw [hv] at CV
  go_enter Tryd.func40, Tryd.ntmps40
  go_wp2_with fail
  ((with_reducible refine CV.out.mono ?_)); rintro e w1 ⟨rfl, rfl⟩
  clear CV hW2
  have HW := mkHid (Below.refl W.heap.size W)
  generalize hn' : L.length = n at *
  have HN := mkHid hn'
  have hn : n ≤ 9223372036854775807 := by omega
  clear hn' hlen
  go_wp2
  go_loopw [5] (fun s5 w' => ∃ (k : Nat) (x : Int), s5 = .int .i64 x ∧ x = k ∧ k ≤ n ∧ Hid (∀ j, j < k → ltB (L.getD j noNm) (nm, op) = true) ∧ Hid (Below W.heap.size W w')) (fun s5 _ => (n - intOf s5).toNat)
  case atStart => exact ⟨0, 0, rfl, rfl, Nat.zero_le _, fun j hj => absurd hj (by omega), HW⟩
  case round =>
    obtain ⟨k, x, rfl, hxk, hk, HP, HBW⟩ := hrel
    obtain rfl : x = (k : Int) := hxk
    have e0 := cell_later HBW.out f0
    have e1 := cell_later HBW.out f1
    have hkc : (k : Int) ≤ (c : Int) := by omega
    have hkn : (k : Int) ≤ (n : Int) := by omega
    have hnc : (n : Int) ≤ (c : Int) := by omega
    by_cases hlt : k < n
    · have hlt' : (k : Int) < (n : Int) := by omega
      have HAk := mkHid (HA.out k hk HP.out)
      have HPS : Hid (ltB (L.getD k noNm) (nm, op) = true → ∀ j, j < k + 1 → ltB (L.getD j noNm) (nm, op) = true) := fun h j hj => by
        by_cases hjk : j < k
        · exact HP.out j hjk
        · obtain rfl : j = k := by omega
          exact h
      have HCK : Hid (∀ w', Below W.heap.size W w' → Five w' g (o + k * 5) (L.getD k noNm)) := fun w' hb => HF.out k hlt w' hb
      clear HF HA HP
      generalize L.getD k noNm = cur at *
      obtain ⟨cn, co⟩ := cur
      obtain ⟨c0, c1, c2, c3, c4⟩ := HCK.out wr HBW.out
      simp only at c0 c1 HAk HPS
      clear c2 c3 c4
      cases hbl : Op.bytesLess cn.toList nm.toList
      · cases heq : (cn.toList == nm.toList)
        · skip
          have HINS : Hid (insN L (nm, op) = L.take k ++ (nm, op) :: L.drop k) := by
            have h := HAk.out (fun _ => by unfold ltB; rw [hbl, heq]; rfl)
            rw [h, if_neg (fun hh => by rw [(str_beq cn nm).2 (congrArg (·.1) hh.2)] at heq; cases heq)]
            exact mkHid rfl
          clear HAk HPS
          go_wp2_with fail
          go_quiet (fail)
          have HBW8 : Hid (Below W.heap.size W (wr.drewN nq)) := below_drewN HBW.out nq
          clear e0 e1 c0 c1 HBW
          generalize wr.drewN nq = W8 at *
          have e0 := cell_later HBW8.out f0
          have e1 := cell_later HBW8.out f1
          obtain ⟨c0, c1, c2, c3, c4⟩ := HCK.out _ HBW8.out
          simp only at c0 c1
          clear c2 c3 c4
          go_wp2_with fail
          go_quiet (fail)
          have HBW9 : Hid (Below W.heap.size W (W8.drewN nq)) := below_drewN HBW8.out nq
          clear e0 e1 c0 c1 HBW8
          generalize W8.drewN nq = W9 at *
          have e0 := cell_later HBW9.out f0
          have e1 := cell_later HBW9.out f1
          obtain ⟨c0, c1, c2, c3, c4⟩ := HCK.out _ HBW9.out
          simp only at c0 c1
          clear c2 c3 c4
          have HBQ := bon HB0.out HBW9.out
          have HLQ := HL.out.later HBW9.out
          go_wp2_with fail
          (try dsimp only [List.append])
          have hb6 : Below w.heap.size w ((W9).alloc (.cells #[.string nm, .int .i64 op, .string nm, .int .i64 0, .slice none 0 0] 38)) := bal HBQ _
          have hx6 : Five ((W9).alloc (.cells #[.string nm, .int .i64 op, .string nm, .int .i64 0, .slice none 0 0] 38)) (W9).heap.size 0 (nm, op) := by simp [Five, go_sem]
          obtain ⟨p0, p1, p2, p3, p4⟩ := hx6
          have HB6 := mkHid hb6
          have HL6 : Hid (NR ((W9).alloc (.cells #[.string nm, .int .i64 op, .string nm, .int .i64 0, .slice none 0 0] 38)) (.slice (some ⟨g, o, none⟩) n c) L) := HLQ.later (bel_alloc _ _)
          clear hb6 HBQ HLQ
          generalize (W9).alloc (.cells #[.string nm, .int .i64 op, .string nm, .int .i64 0, .slice none 0 0] 38) = W6 at *
          generalize (W9).heap.size = X6 at *
          simp only [Nat.zero_add] at p1 p2 p3 p4
          refine wp_region_held_drew (S := fun w' => w'.cell? ⟨X6, 0, none⟩ = some (.string nm) ∧ w'.cell? ⟨X6, 1, none⟩ = some (.int .i64 op) ∧ w'.cell? ⟨X6, 2, none⟩ = some (.string nm) ∧ w'.cell? ⟨X6, 3, none⟩ = some (.int .i64 0) ∧ w'.cell? ⟨X6, 4, none⟩ = some (.slice none 0 0)) (by kernel_rfl) ⟨p0, p1, p2, p3, p4⟩ (fun hHeld => ?_)
          have HBV : Hid (Below w.heap.size w W6.drew) := bdrew HB6.out
          have HLV : Hid (NR W6.drew (.slice (some ⟨g, o, none⟩) n c) L) := HL6.out.later (bdrew (Below.refl _ _))
          have hS0 := mkHid hHeld
          clear p0 p1 p2 p3 p4 HB6 HL6
          generalize W6.drew = V at *
          refine wpAnyH_take (i := 1) (v := ?_) rfl (by kernel_rfl) (by kernel_rfl) (by kernel_rfl) (fun _ _ _ h => h) (Or.inl ⟨by kernel_rfl, ?_⟩) (by assumption) ?_
          rotate_left
          · (intro w hSw; (try dsimp only at hSw); go_simp; try with_reducible rfl)
          simp only [Act.put, List.getElem_toArray, List.getElem_cons_succ, List.getElem_cons_zero, List.setIfInBounds_toArray, List.set_cons_zero, List.set_cons_succ]
          refine wpAnyH_take (i := 2) (v := ?_) rfl (by kernel_rfl) (by kernel_rfl) (by kernel_rfl) (fun _ _ _ h => h) (Or.inl ⟨by kernel_rfl, ?_⟩) (by assumption) ?_
          rotate_left
          · (intro w hSw; (try dsimp only at hSw); go_simp; try with_reducible rfl)
          simp only [Act.put, List.getElem_toArray, List.getElem_cons_succ, List.getElem_cons_zero, List.setIfInBounds_toArray, List.set_cons_zero, List.set_cons_succ]
          refine wpAnyH_take (i := 3) (v := ?_) rfl (by kernel_rfl) (by kernel_rfl) (by kernel_rfl) (fun _ _ _ h => h) (Or.inl ⟨by kernel_rfl, ?_⟩) (by assumption) ?_
          rotate_left
          · (intro w hSw; (try dsimp only at hSw); go_simp; try with_reducible rfl)
          simp only [Act.put, List.getElem_toArray, List.getElem_cons_succ, List.getElem_cons_zero, List.setIfInBounds_toArray, List.set_cons_zero, List.set_cons_succ]
          refine wpAnyH_take (i := 5) (v := ?_) rfl (by kernel_rfl) (by kernel_rfl) (by kernel_rfl) (fun _ _ _ h => h) (Or.inl ⟨by kernel_rfl, ?_⟩) (by assumption) ?_
          rotate_left
          · (intro w hSw; (try dsimp only at hSw); go_simp; try with_reducible rfl)
          simp only [Act.put, List.getElem_toArray, List.getElem_cons_succ, List.getElem_cons_zero, List.setIfInBounds_toArray, List.set_cons_zero, List.set_cons_succ]
          refine wpAnyH_take (i := 8) (v := ?_) rfl (by kernel_rfl) (by kernel_rfl) (by kernel_rfl) (fun _ _ _ h => h) (Or.inl ⟨by kernel_rfl, ?_⟩) (by assumption) ?_
          rotate_left
          · (intro w hSw; (try dsimp only at hSw); go_simp; try with_reducible rfl)
          simp only [Act.put, List.getElem_toArray, List.getElem_cons_succ, List.getElem_cons_zero, List.setIfInBounds_toArray, List.set_cons_zero, List.set_cons_succ]
          refine wpAnyH_take (i := 9) (v := ?_) rfl (by kernel_rfl) (by kernel_rfl) (by kernel_rfl) (fun _ _ _ h => h) (Or.inl ⟨by kernel_rfl, ?_⟩) (by assumption) ?_
          rotate_left
          · (intro w hSw; (try dsimp only at hSw); go_simp; try with_reducible rfl)
          simp only [Act.put, List.getElem_toArray, List.getElem_cons_succ, List.getElem_cons_zero, List.setIfInBounds_toArray, List.set_cons_zero, List.set_cons_succ]
          refine wpAnyH_take (i := 10) (v := ?_) rfl (by kernel_rfl) (by kernel_rfl) (by kernel_rfl) (fun _ _ _ h => h) (Or.inl ⟨by kernel_rfl, ?_⟩) (by assumption) ?_
          rotate_left
          · (intro w hSw; (try dsimp only at hSw); go_simp; try with_reducible rfl)
          simp only [Act.put, List.getElem_toArray, List.getElem_cons_succ, List.getElem_cons_zero, List.setIfInBounds_toArray, List.set_cons_zero, List.set_cons_succ]
          have HT : Hid (∀ w', Below V.heap.size V w' → NR w' (.slice (some ⟨g, o, none⟩) k c) (L.take k)) := fun w' hb => (nr_take (HLV.out.later hb) hk).1
          have HD : Hid (∀ w', Below V.heap.size V w' → NR w' (.slice (if c = k then some ⟨g, o, none⟩ else some ⟨g, o + k * 5, none⟩) (n - k) (c - k)) (L.drop k)) := fun w' hb => (nr_drop' (HLV.out.later hb) hk).1
          have HC : Hid (∀ w', Below V.heap.size V w' → w'.cell? ⟨X6, 0, none⟩ = some (.string nm) ∧ w'.cell? ⟨X6, 1, none⟩ = some (.int .i64 op) ∧ w'.cell? ⟨X6, 2, none⟩ = some (.string nm) ∧ w'.cell? ⟨X6, 3, none⟩ = some (.int .i64 0) ∧ w'.cell? ⟨X6, 4, none⟩ = some (.slice none 0 0)) := fun w' hb => by obtain ⟨p0, p1, p2, p3, p4⟩ := hS0.out; exact ⟨cell_later hb p0, cell_later hb p1, cell_later hb p2, cell_later hb p3, cell_later hb p4⟩
          have HNX : Hid (∀ w' : World, NR (w'.alloc (.cells #[.string nm, .int .i64 op, .string nm, .int .i64 0, .slice none 0 0] 38)) (.slice (some ⟨w'.heap.size, 0, none⟩) 1 1) [(nm, op)]) := fun w' => nr_one (nm, op)
          have HO0 : Hid (∀ w' : World, (w'.alloc (.cells #[] 38)).ownsRow w'.heap.size 38 5 (.slice (some ⟨w'.heap.size, 0, none⟩) 0 0) ([] : List Nm).length (asgs [])) := fun w' => World.ownsRow_lit w' #[] 0 (Nat.le_refl _) (by decide) rfl
          have hl1 : (L.take k).length ≤ 2000 := by have := HLEN.out; rw [List.length_take]; omega
          have hl2 : (L.drop k).length ≤ 2000 := by have := HLEN.out; rw [List.length_drop]; first | omega | (have := HN.out; omega)
          have bV := Below.refl V.heap.size V
          clear HLV hS0
          refine wpAnyH_ready (rs := [0, 6]) (by kernel_rfl) (by simp) ?_
          refine AllReadyH.cons rfl (fun K hK => ?_) (AllReadyH.cons rfl (fun K hK => ?_) AllReadyH.nil)
          · skip
            have b0 := bal bV (.cells #[] 38)
            have o0 := HO0.out (V)
            have h0 : V.heap.size ≤ (V).heap.size := (bV).size
            have hB0 := (bel_alloc (V) (.cells #[] 38)).size
            go_simp
            refine hK.out _ _ (HC.out _ b0) (fun hHeld => ?_)
            clear hK
            refine wpAnyH_ready (rs := [4, 6]) (by kernel_rfl) (by simp) ?_
            refine AllReadyH.cons rfl (fun K hK => ?_) (AllReadyH.cons rfl (fun K hK => ?_) AllReadyH.nil)
            · skip
              obtain ⟨v4, w4, hrun, o4, k4, g4⟩ := run_nms o0 (HT.out _ b0) (len4 hl1) hB0
              have b4 := (b0).trans (k4.mono h0)
              refine step_run' (by rfl) _ _ (by rfl) (by rfl) (by rfl) (by rfl) hrun ?_
              refine hK.out _ _ (HC.out _ b4) (fun hHeld => ?_)
              clear hK hrun
              have hB4 := Nat.le_trans hB0 k4.size
              refine wpAnyH_ready (rs := [6]) (by kernel_rfl) (by simp) ?_
              refine AllReadyH.cons rfl (fun K hK => ?_) AllReadyH.nil
              · skip
                have b6 := bal b4 (.cells #[.string nm, .int .i64 op, .string nm, .int .i64 0, .slice none 0 0] 38)
                have o6 := own_later o4 (bel_alloc (w4) (.cells #[.string nm, .int .i64 op, .string nm, .int .i64 0, .slice none 0 0] 38))
                have hB6 := Nat.le_trans hB4 (bel_alloc (w4) (.cells #[.string nm, .int .i64 op, .string nm, .int .i64 0, .slice none 0 0] 38)).size
                have x6 := HNX.out (w4)
                go_simp
                refine hK.out _ _ (HC.out _ b6) (fun hHeld => ?_)
                clear hK
                refine wpAnyH_ready (rs := [7]) (by kernel_rfl) (by simp) ?_
                refine AllReadyH.cons rfl (fun K hK => ?_) AllReadyH.nil
                · skip
                  obtain ⟨v7, w7, hrun, o7, k7, g7⟩ := run_nms o6 x6 (len7 hl1) hB6
                  have b7 := (b6).trans (k7.mono h0)
                  refine step_run' (by rfl) _ _ (by rfl) (by rfl) (by rfl) (by rfl) hrun ?_
                  refine hK.out _ _ (HC.out _ b7) (fun hHeld => ?_)
                  clear hK hrun
                  have hB7 := Nat.le_trans hB6 k7.size
                  refine wpAnyH_ready (rs := [11]) (by kernel_rfl) (by simp) ?_
                  refine AllReadyH.cons rfl (fun K hK => ?_) AllReadyH.nil
                  · skip
                    obtain ⟨v11, w11, hrun, o11, k11, g11⟩ := run_nms o7 (HD.out _ b7) (len11 hl1 hl2) hB7
                    have b11 := (b7).trans (k11.mono h0)
                    refine step_run' (by rfl) _ _ (by rfl) (by rfl) (by rfl) (by rfl) hrun ?_
                    refine hK.out _ _ (HC.out _ b11) (fun hHeld => ?_)
                    clear hK hrun
                    have hB11 := Nat.le_trans hB7 k11.size
                    refine wpAnyH_take (i := 12) (v := ?_) rfl (by kernel_rfl) (by kernel_rfl) (by kernel_rfl) (fun _ _ _ h => h) (Or.inl ⟨by kernel_rfl, ?_⟩) (by assumption) ?_
                    rotate_left
                    · (intro w hSw; (try dsimp only at hSw); go_simp; try with_reducible rfl)
                    simp only [Act.put, List.getElem_toArray, List.getElem_cons_succ, List.getElem_cons_zero, List.setIfInBounds_toArray, List.set_cons_zero, List.set_cons_succ]
                    refine wpAnyH_done (by kernel_rfl) ?_ _
                    go_wp2
                    all_goals
                      go_ret
                      exact ⟨_, rfl, by rw [HINS.out]; exact own_nr (by simpa using o11), bon HBV.out b11⟩
            · skip
              have b6 := bal b0 (.cells #[.string nm, .int .i64 op, .string nm, .int .i64 0, .slice none 0 0] 38)
              have o6 := own_later o0 (bel_alloc ((V).alloc (.cells #[] 38)) (.cells #[.string nm, .int .i64 op, .string nm, .int .i64 0, .slice none 0 0] 38))
              have hB6 := Nat.le_trans hB0 (bel_alloc ((V).alloc (.cells #[] 38)) (.cells #[.string nm, .int .i64 op, .string nm, .int .i64 0, .slice none 0 0] 38)).size
              have x6 := HNX.out ((V).alloc (.cells #[] 38))
              rw [size_al V (.cells #[] 38)] at x6
              go_simp
              refine hK.out _ _ (HC.out _ b6) (fun hHeld => ?_)
              clear hK
              refine wpAnyH_ready (rs := [4]) (by kernel_rfl) (by simp) ?_
              refine AllReadyH.cons rfl (fun K hK => ?_) AllReadyH.nil
              · skip
                obtain ⟨v4, w4, hrun, o4, k4, g4⟩ := run_nms o6 (HT.out _ b6) (len4 hl1) hB6
                have b4 := (b6).trans (k4.mono h0)
                have x4 := NR.grown x6 g4 (by simp [Value.ownBlock])
                refine step_run' (by rfl) _ _ (by rfl) (by rfl) (by rfl) (by rfl) hrun ?_
                refine hK.out _ _ (HC.out _ b4) (fun hHeld => ?_)
                clear hK hrun
                have hB4 := Nat.le_trans hB6 k4.size
                refine wpAnyH_ready (rs := [7]) (by kernel_rfl) (by simp) ?_
                refine AllReadyH.cons rfl (fun K hK => ?_) AllReadyH.nil
                · skip
                  obtain ⟨v7, w7, hrun, o7, k7, g7⟩ := run_nms o4 x4 (len7 hl1) hB4
                  have b7 := (b4).trans (k7.mono h0)
                  refine step_run' (by rfl) _ _ (by rfl) (by rfl) (by rfl) (by rfl) hrun ?_
                  refine hK.out _ _ (HC.out _ b7) (fun hHeld => ?_)
                  clear hK hrun
                  have hB7 := Nat.le_trans hB4 k7.size
                  refine wpAnyH_ready (rs := [11]) (by kernel_rfl) (by simp) ?_
                  refine AllReadyH.cons rfl (fun K hK => ?_) AllReadyH.nil
                  · skip
                    obtain ⟨v11, w11, hrun, o11, k11, g11⟩ := run_nms o7 (HD.out _ b7) (len11 hl1 hl2) hB7
                    have b11 := (b7).trans (k11.mono h0)
                    refine step_run' (by rfl) _ _ (by rfl) (by rfl) (by rfl) (by rfl) hrun ?_
                    refine hK.out _ _ (HC.out _ b11) (fun hHeld => ?_)
                    clear hK hrun
                    have hB11 := Nat.le_trans hB7 k11.size
                    refine wpAnyH_take (i := 12) (v := ?_) rfl (by kernel_rfl) (by kernel_rfl) (by kernel_rfl) (fun _ _ _ h => h) (Or.inl ⟨by kernel_rfl, ?_⟩) (by assumption) ?_
                    rotate_left
                    · (intro w hSw; (try dsimp only at hSw); go_simp; try with_reducible rfl)
                    simp only [Act.put, List.getElem_toArray, List.getElem_cons_succ, List.getElem_cons_zero, List.setIfInBounds_toArray, List.set_cons_zero, List.set_cons_succ]
                    refine wpAnyH_done (by kernel_rfl) ?_ _
                    go_wp2
                    all_goals
                      go_ret
                      exact ⟨_, rfl, by rw [HINS.out]; exact own_nr (by simpa using o11), bon HBV.out b11⟩
          · skip
            have b6 := bal bV (.cells #[.string nm, .int .i64 op, .string nm, .int .i64 0, .slice none 0 0] 38)
            have x6 := HNX.out (V)
            go_simp
            refine hK.out _ _ (HC.out _ b6) (fun hHeld => ?_)
            clear hK
            refine wpAnyH_ready (rs := [0]) (by kernel_rfl) (by simp) ?_
            refine AllReadyH.cons rfl (fun K hK => ?_) AllReadyH.nil
            · skip
              have b0 := bal b6 (.cells #[] 38)
              have x0 := x6.later (bel_alloc ((V).alloc (.cells #[.string nm, .int .i64 op, .string nm, .int .i64 0, .slice none 0 0] 38)) (.cells #[] 38))
              have o0 := HO0.out ((V).alloc (.cells #[.string nm, .int .i64 op, .string nm, .int .i64 0, .slice none 0 0] 38))
              have h0 : V.heap.size ≤ ((V).alloc (.cells #[.string nm, .int .i64 op, .string nm, .int .i64 0, .slice none 0 0] 38)).heap.size := (b6).size
              have hB0 := (bel_alloc ((V).alloc (.cells #[.string nm, .int .i64 op, .string nm, .int .i64 0, .slice none 0 0] 38)) (.cells #[] 38)).size
              rw [size_al V (.cells #[.string nm, .int .i64 op, .string nm, .int .i64 0, .slice none 0 0] 38)] at o0 hB0 h0
              go_simp
              refine hK.out _ _ (HC.out _ b0) (fun hHeld => ?_)
              clear hK
              refine wpAnyH_ready (rs := [4]) (by kernel_rfl) (by simp) ?_
              refine AllReadyH.cons rfl (fun K hK => ?_) AllReadyH.nil
              · skip
                obtain ⟨v4, w4, hrun, o4, k4, g4⟩ := run_nms o0 (HT.out _ b0) (len4 hl1) hB0
                have b4 := (b0).trans (k4.mono h0)
                have x4 := NR.grown x0 g4 (by simp [Value.ownBlock])
                refine step_run' (by rfl) _ _ (by rfl) (by rfl) (by rfl) (by rfl) hrun ?_
                refine hK.out _ _ (HC.out _ b4) (fun hHeld => ?_)
                clear hK hrun
                have hB4 := Nat.le_trans hB0 k4.size
                refine wpAnyH_ready (rs := [7]) (by kernel_rfl) (by simp) ?_
                refine AllReadyH.cons rfl (fun K hK => ?_) AllReadyH.nil
                · skip
                  obtain ⟨v7, w7, hrun, o7, k7, g7⟩ := run_nms o4 x4 (len7 hl1) hB4
                  have b7 := (b4).trans (k7.mono h0)
                  refine step_run' (by rfl) _ _ (by rfl) (by rfl) (by rfl) (by rfl) hrun ?_
                  refine hK.out _ _ (HC.out _ b7) (fun hHeld => ?_)
                  clear hK hrun
                  have hB7 := Nat.le_trans hB4 k7.size
                  refine wpAnyH_ready (rs := [11]) (by kernel_rfl) (by simp) ?_
                  refine AllReadyH.cons rfl (fun K hK => ?_) AllReadyH.nil
                  · skip
                    obtain ⟨v11, w11, hrun, o11, k11, g11⟩ := run_nms o7 (HD.out _ b7) (len11 hl1 hl2) hB7
                    have b11 := (b7).trans (k11.mono h0)
                    refine step_run' (by rfl) _ _ (by rfl) (by rfl) (by rfl) (by rfl) hrun ?_
                    refine hK.out _ _ (HC.out _ b11) (fun hHeld => ?_)
                    clear hK hrun
                    have hB11 := Nat.le_trans hB7 k11.size
                    refine wpAnyH_take (i := 12) (v := ?_) rfl (by kernel_rfl) (by kernel_rfl) (by kernel_rfl) (fun _ _ _ h => h) (Or.inl ⟨by kernel_rfl, ?_⟩) (by assumption) ?_
                    rotate_left
                    · (intro w hSw; (try dsimp only at hSw); go_simp; try with_reducible rfl)
                    simp only [Act.put, List.getElem_toArray, List.getElem_cons_succ, List.getElem_cons_zero, List.setIfInBounds_toArray, List.set_cons_zero, List.set_cons_succ]
                    refine wpAnyH_done (by kernel_rfl) ?_ _
                    go_wp2
                    all_goals
                      go_ret
                      exact ⟨_, rfl, by rw [HINS.out]; exact own_nr (by simpa using o11), bon HBV.out b11⟩

        · by_cases hop : co < op
          · skip
            go_wp2_with fail
            go_quiet (fail)
            go_wp2
            go_roundw
            case rel => exact ⟨k + 1, _, rfl, by omega, by omega, HPS.out (by unfold ltB; rw [hbl, heq]; simp [hop]), below_drewN HBW.out _⟩
            case measure => simp [intOf]; omega
          · have hop2 : decide (co < op) = false := decide_eq_false hop
            by_cases hoe : co = op
            · subst hoe
              have HINS : Hid (insN L (nm, co) = L) := by
                have h := HAk.out (fun _ => by unfold ltB; rw [hbl, heq, hop2]; rfl)
                rw [h, if_pos ⟨hlt, by rw [(str_beq cn nm).1 heq]⟩]
                exact mkHid rfl
              clear HAk HPS
              go_wp2_with fail
              go_quiet (fail)
              have HBW8 : Hid (Below W.heap.size W (wr.drewN nq)) := below_drewN HBW.out nq
              clear e0 e1 c0 c1 HBW
              generalize wr.drewN nq = W8 at *
              have e0 := cell_later HBW8.out f0
              have e1 := cell_later HBW8.out f1
              obtain ⟨c0, c1, c2, c3, c4⟩ := HCK.out _ HBW8.out
              simp only at c0 c1
              clear c2 c3 c4
              go_wp2_with fail
              go_quiet (fail)
              have HBW9 : Hid (Below W.heap.size W (W8.drewN nq)) := below_drewN HBW8.out nq
              clear e0 e1 c0 c1 HBW8
              generalize W8.drewN nq = W9 at *
              have e0 := cell_later HBW9.out f0
              have e1 := cell_later HBW9.out f1
              obtain ⟨c0, c1, c2, c3, c4⟩ := HCK.out _ HBW9.out
              simp only at c0 c1
              clear c2 c3 c4
              go_wp2
              go_ret
              exact ⟨_, rfl, by rw [HINS.out]; exact HL.out.later HBW9.out, bon HB0.out HBW9.out⟩
            · have hoe2 : (co == op) = false := by rw [beq_eq_false_iff_ne]; exact hoe
              have HINS : Hid (insN L (nm, op) = L.take k ++ (nm, op) :: L.drop k) := by
                have h := HAk.out (fun _ => by unfold ltB; rw [hbl, heq, hop2]; rfl)
                rw [h, if_neg (fun hh => hoe (congrArg (·.2) hh.2))]
                exact mkHid rfl
              clear HAk HPS
              go_wp2_with fail
              go_quiet (fail)
              have HBW8 : Hid (Below W.heap.size W (wr.drewN nq)) := below_drewN HBW.out nq
              clear e0 e1 c0 c1 HBW
              generalize wr.drewN nq = W8 at *
              have e0 := cell_later HBW8.out f0
              have e1 := cell_later HBW8.out f1
              obtain ⟨c0, c1, c2, c3, c4⟩ := HCK.out _ HBW8.out
              simp only at c0 c1
              clear c2 c3 c4
              go_wp2_with fail
              go_quiet (fail)
              have HBW9 : Hid (Below W.heap.size W (W8.drewN nq)) := below_drewN HBW8.out nq
              clear e0 e1 c0 c1 HBW8
              generalize W8.drewN nq = W9 at *
              have e0 := cell_later HBW9.out f0
              have e1 := cell_later HBW9.out f1
              obtain ⟨c0, c1, c2, c3, c4⟩ := HCK.out _ HBW9.out
              simp only at c0 c1
              clear c2 c3 c4
              have HBQ := bon HB0.out HBW9.out
              have HLQ := HL.out.later HBW9.out
              go_wp2_with fail
              (try dsimp only [List.append])
              have hb6 : Below w.heap.size w ((W9).alloc (.cells #[.string nm, .int .i64 op, .string nm, .int .i64 0, .slice none 0 0] 38)) := bal HBQ _
              have hx6 : Five ((W9).alloc (.cells #[.string nm, .int .i64 op, .string nm, .int .i64 0, .slice none 0 0] 38)) (W9).heap.size 0 (nm, op) := by simp [Five, go_sem]
              obtain ⟨p0, p1, p2, p3, p4⟩ := hx6
              have HB6 := mkHid hb6
              have HL6 : Hid (NR ((W9).alloc (.cells #[.string nm, .int .i64 op, .string nm, .int .i64 0, .slice none 0 0] 38)) (.slice (some ⟨g, o, none⟩) n c) L) := HLQ.later (bel_alloc _ _)
              clear hb6 HBQ HLQ
              generalize (W9).alloc (.cells #[.string nm, .int .i64 op, .string nm, .int .i64 0, .slice none 0 0] 38) = W6 at *
              generalize (W9).heap.size = X6 at *
              simp only [Nat.zero_add] at p1 p2 p3 p4
              refine wp_region_held_drew (S := fun w' => w'.cell? ⟨X6, 0, none⟩ = some (.string nm) ∧ w'.cell? ⟨X6, 1, none⟩ = some (.int .i64 op) ∧ w'.cell? ⟨X6, 2, none⟩ = some (.string nm) ∧ w'.cell? ⟨X6, 3, none⟩ = some (.int .i64 0) ∧ w'.cell? ⟨X6, 4, none⟩ = some (.slice none 0 0)) (by kernel_rfl) ⟨p0, p1, p2, p3, p4⟩ (fun hHeld => ?_)
              have HBV : Hid (Below w.heap.size w W6.drew) := bdrew HB6.out
              have HLV : Hid (NR W6.drew (.slice (some ⟨g, o, none⟩) n c) L) := HL6.out.later (bdrew (Below.refl _ _))
              have hS0 := mkHid hHeld
              clear p0 p1 p2 p3 p4 HB6 HL6
              generalize W6.drew = V at *
              refine wpAnyH_take (i := 1) (v := ?_) rfl (by kernel_rfl) (by kernel_rfl) (by kernel_rfl) (fun _ _ _ h => h) (Or.inl ⟨by kernel_rfl, ?_⟩) (by assumption) ?_
              rotate_left
              · (intro w hSw; (try dsimp only at hSw); go_simp; try with_reducible rfl)
              simp only [Act.put, List.getElem_toArray, List.getElem_cons_succ, List.getElem_cons_zero, List.setIfInBounds_toArray, List.set_cons_zero, List.set_cons_succ]
              refine wpAnyH_take (i := 2) (v := ?_) rfl (by kernel_rfl) (by kernel_rfl) (by kernel_rfl) (fun _ _ _ h => h) (Or.inl ⟨by kernel_rfl, ?_⟩) (by assumption) ?_
              rotate_left
              · (intro w hSw; (try dsimp only at hSw); go_simp; try with_reducible rfl)
              simp only [Act.put, List.getElem_toArray, List.getElem_cons_succ, List.getElem_cons_zero, List.setIfInBounds_toArray, List.set_cons_zero, List.set_cons_succ]
              refine wpAnyH_take (i := 3) (v := ?_) rfl (by kernel_rfl) (by kernel_rfl) (by kernel_rfl) (fun _ _ _ h => h) (Or.inl ⟨by kernel_rfl, ?_⟩) (by assumption) ?_
              rotate_left
              · (intro w hSw; (try dsimp only at hSw); go_simp; try with_reducible rfl)
              simp only [Act.put, List.getElem_toArray, List.getElem_cons_succ, List.getElem_cons_zero, List.setIfInBounds_toArray, List.set_cons_zero, List.set_cons_succ]
              refine wpAnyH_take (i := 5) (v := ?_) rfl (by kernel_rfl) (by kernel_rfl) (by kernel_rfl) (fun _ _ _ h => h) (Or.inl ⟨by kernel_rfl, ?_⟩) (by assumption) ?_
              rotate_left
              · (intro w hSw; (try dsimp only at hSw); go_simp; try with_reducible rfl)
              simp only [Act.put, List.getElem_toArray, List.getElem_cons_succ, List.getElem_cons_zero, List.setIfInBounds_toArray, List.set_cons_zero, List.set_cons_succ]
              refine wpAnyH_take (i := 8) (v := ?_) rfl (by kernel_rfl) (by kernel_rfl) (by kernel_rfl) (fun _ _ _ h => h) (Or.inl ⟨by kernel_rfl, ?_⟩) (by assumption) ?_
              rotate_left
              · (intro w hSw; (try dsimp only at hSw); go_simp; try with_reducible rfl)
              simp only [Act.put, List.getElem_toArray, List.getElem_cons_succ, List.getElem_cons_zero, List.setIfInBounds_toArray, List.set_cons_zero, List.set_cons_succ]
              refine wpAnyH_take (i := 9) (v := ?_) rfl (by kernel_rfl) (by kernel_rfl) (by kernel_rfl) (fun _ _ _ h => h) (Or.inl ⟨by kernel_rfl, ?_⟩) (by assumption) ?_
              rotate_left
              · (intro w hSw; (try dsimp only at hSw); go_simp; try with_reducible rfl)
              simp only [Act.put, List.getElem_toArray, List.getElem_cons_succ, List.getElem_cons_zero, List.setIfInBounds_toArray, List.set_cons_zero, List.set_cons_succ]
              refine wpAnyH_take (i := 10) (v := ?_) rfl (by kernel_rfl) (by kernel_rfl) (by kernel_rfl) (fun _ _ _ h => h) (Or.inl ⟨by kernel_rfl, ?_⟩) (by assumption) ?_
              rotate_left
              · (intro w hSw; (try dsimp only at hSw); go_simp; try with_reducible rfl)
              simp only [Act.put, List.getElem_toArray, List.getElem_cons_succ, List.getElem_cons_zero, List.setIfInBounds_toArray, List.set_cons_zero, List.set_cons_succ]
              have HT : Hid (∀ w', Below V.heap.size V w' → NR w' (.slice (some ⟨g, o, none⟩) k c) (L.take k)) := fun w' hb => (nr_take (HLV.out.later hb) hk).1
              have HD : Hid (∀ w', Below V.heap.size V w' → NR w' (.slice (if c = k then some ⟨g, o, none⟩ else some ⟨g, o + k * 5, none⟩) (n - k) (c - k)) (L.drop k)) := fun w' hb => (nr_drop' (HLV.out.later hb) hk).1
              have HC : Hid (∀ w', Below V.heap.size V w' → w'.cell? ⟨X6, 0, none⟩ = some (.string nm) ∧ w'.cell? ⟨X6, 1, none⟩ = some (.int .i64 op) ∧ w'.cell? ⟨X6, 2, none⟩ = some (.string nm) ∧ w'.cell? ⟨X6, 3, none⟩ = some (.int .i64 0) ∧ w'.cell? ⟨X6, 4, none⟩ = some (.slice none 0 0)) := fun w' hb => by obtain ⟨p0, p1, p2, p3, p4⟩ := hS0.out; exact ⟨cell_later hb p0, cell_later hb p1, cell_later hb p2, cell_later hb p3, cell_later hb p4⟩
              have HNX : Hid (∀ w' : World, NR (w'.alloc (.cells #[.string nm, .int .i64 op, .string nm, .int .i64 0, .slice none 0 0] 38)) (.slice (some ⟨w'.heap.size, 0, none⟩) 1 1) [(nm, op)]) := fun w' => nr_one (nm, op)
              have HO0 : Hid (∀ w' : World, (w'.alloc (.cells #[] 38)).ownsRow w'.heap.size 38 5 (.slice (some ⟨w'.heap.size, 0, none⟩) 0 0) ([] : List Nm).length (asgs [])) := fun w' => World.ownsRow_lit w' #[] 0 (Nat.le_refl _) (by decide) rfl
              have hl1 : (L.take k).length ≤ 2000 := by have := HLEN.out; rw [List.length_take]; omega
              have hl2 : (L.drop k).length ≤ 2000 := by have := HLEN.out; rw [List.length_drop]; first | omega | (have := HN.out; omega)
              have bV := Below.refl V.heap.size V
              clear HLV hS0
              refine wpAnyH_ready (rs := [0, 6]) (by kernel_rfl) (by simp) ?_
              refine AllReadyH.cons rfl (fun K hK => ?_) (AllReadyH.cons rfl (fun K hK => ?_) AllReadyH.nil)
              · skip
                have b0 := bal bV (.cells #[] 38)
                have o0 := HO0.out (V)
                have h0 : V.heap.size ≤ (V).heap.size := (bV).size
                have hB0 := (bel_alloc (V) (.cells #[] 38)).size
                go_simp
                refine hK.out _ _ (HC.out _ b0) (fun hHeld => ?_)
                clear hK
                refine wpAnyH_ready (rs := [4, 6]) (by kernel_rfl) (by simp) ?_
                refine AllReadyH.cons rfl (fun K hK => ?_) (AllReadyH.cons rfl (fun K hK => ?_) AllReadyH.nil)
                · skip
                  obtain ⟨v4, w4, hrun, o4, k4, g4⟩ := run_nms o0 (HT.out _ b0) (len4 hl1) hB0
                  have b4 := (b0).trans (k4.mono h0)
                  refine step_run' (by rfl) _ _ (by rfl) (by rfl) (by rfl) (by rfl) hrun ?_
                  refine hK.out _ _ (HC.out _ b4) (fun hHeld => ?_)
                  clear hK hrun
                  have hB4 := Nat.le_trans hB0 k4.size
                  refine wpAnyH_ready (rs := [6]) (by kernel_rfl) (by simp) ?_
                  refine AllReadyH.cons rfl (fun K hK => ?_) AllReadyH.nil
                  · skip
                    have b6 := bal b4 (.cells #[.string nm, .int .i64 op, .string nm, .int .i64 0, .slice none 0 0] 38)
                    have o6 := own_later o4 (bel_alloc (w4) (.cells #[.string nm, .int .i64 op, .string nm, .int .i64 0, .slice none 0 0] 38))
                    have hB6 := Nat.le_trans hB4 (bel_alloc (w4) (.cells #[.string nm, .int .i64 op, .string nm, .int .i64 0, .slice none 0 0] 38)).size
                    have x6 := HNX.out (w4)
                    go_simp
                    refine hK.out _ _ (HC.out _ b6) (fun hHeld => ?_)
                    clear hK
                    refine wpAnyH_ready (rs := [7]) (by kernel_rfl) (by simp) ?_
                    refine AllReadyH.cons rfl (fun K hK => ?_) AllReadyH.nil
                    · skip
                      obtain ⟨v7, w7, hrun, o7, k7, g7⟩ := run_nms o6 x6 (len7 hl1) hB6
                      have b7 := (b6).trans (k7.mono h0)
                      refine step_run' (by rfl) _ _ (by rfl) (by rfl) (by rfl) (by rfl) hrun ?_
                      refine hK.out _ _ (HC.out _ b7) (fun hHeld => ?_)
                      clear hK hrun
                      have hB7 := Nat.le_trans hB6 k7.size
                      refine wpAnyH_ready (rs := [11]) (by kernel_rfl) (by simp) ?_
                      refine AllReadyH.cons rfl (fun K hK => ?_) AllReadyH.nil
                      · skip
                        obtain ⟨v11, w11, hrun, o11, k11, g11⟩ := run_nms o7 (HD.out _ b7) (len11 hl1 hl2) hB7
                        have b11 := (b7).trans (k11.mono h0)
                        refine step_run' (by rfl) _ _ (by rfl) (by rfl) (by rfl) (by rfl) hrun ?_
                        refine hK.out _ _ (HC.out _ b11) (fun hHeld => ?_)
                        clear hK hrun
                        have hB11 := Nat.le_trans hB7 k11.size
                        refine wpAnyH_take (i := 12) (v := ?_) rfl (by kernel_rfl) (by kernel_rfl) (by kernel_rfl) (fun _ _ _ h => h) (Or.inl ⟨by kernel_rfl, ?_⟩) (by assumption) ?_
                        rotate_left
                        · (intro w hSw; (try dsimp only at hSw); go_simp; try with_reducible rfl)
                        simp only [Act.put, List.getElem_toArray, List.getElem_cons_succ, List.getElem_cons_zero, List.setIfInBounds_toArray, List.set_cons_zero, List.set_cons_succ]
                        refine wpAnyH_done (by kernel_rfl) ?_ _
                        go_wp2
                        all_goals
                          go_ret
                          exact ⟨_, rfl, by rw [HINS.out]; exact own_nr (by simpa using o11), bon HBV.out b11⟩
                · skip
                  have b6 := bal b0 (.cells #[.string nm, .int .i64 op, .string nm, .int .i64 0, .slice none 0 0] 38)
                  have o6 := own_later o0 (bel_alloc ((V).alloc (.cells #[] 38)) (.cells #[.string nm, .int .i64 op, .string nm, .int .i64 0, .slice none 0 0] 38))
                  have hB6 := Nat.le_trans hB0 (bel_alloc ((V).alloc (.cells #[] 38)) (.cells #[.string nm, .int .i64 op, .string nm, .int .i64 0, .slice none 0 0] 38)).size
                  have x6 := HNX.out ((V).alloc (.cells #[] 38))
                  rw [size_al V (.cells #[] 38)] at x6
                  go_simp
                  refine hK.out _ _ (HC.out _ b6) (fun hHeld => ?_)
                  clear hK
                  refine wpAnyH_ready (rs := [4]) (by kernel_rfl) (by simp) ?_
                  refine AllReadyH.cons rfl (fun K hK => ?_) AllReadyH.nil
                  · skip
                    obtain ⟨v4, w4, hrun, o4, k4, g4⟩ := run_nms o6 (HT.out _ b6) (len4 hl1) hB6
                    have b4 := (b6).trans (k4.mono h0)
                    have x4 := NR.grown x6 g4 (by simp [Value.ownBlock])
                    refine step_run' (by rfl) _ _ (by rfl) (by rfl) (by rfl) (by rfl) hrun ?_
                    refine hK.out _ _ (HC.out _ b4) (fun hHeld => ?_)
                    clear hK hrun
                    have hB4 := Nat.le_trans hB6 k4.size
                    refine wpAnyH_ready (rs := [7]) (by kernel_rfl) (by simp) ?_
                    refine AllReadyH.cons rfl (fun K hK => ?_) AllReadyH.nil
                    · skip
                      obtain ⟨v7, w7, hrun, o7, k7, g7⟩ := run_nms o4 x4 (len7 hl1) hB4
                      have b7 := (b4).trans (k7.mono h0)
                      refine step_run' (by rfl) _ _ (by rfl) (by rfl) (by rfl) (by rfl) hrun ?_
                      refine hK.out _ _ (HC.out _ b7) (fun hHeld => ?_)
                      clear hK hrun
                      have hB7 := Nat.le_trans hB4 k7.size
                      refine wpAnyH_ready (rs := [11]) (by kernel_rfl) (by simp) ?_
                      refine AllReadyH.cons rfl (fun K hK => ?_) AllReadyH.nil
                      · skip
                        obtain ⟨v11, w11, hrun, o11, k11, g11⟩ := run_nms o7 (HD.out _ b7) (len11 hl1 hl2) hB7
                        have b11 := (b7).trans (k11.mono h0)
                        refine step_run' (by rfl) _ _ (by rfl) (by rfl) (by rfl) (by rfl) hrun ?_
                        refine hK.out _ _ (HC.out _ b11) (fun hHeld => ?_)
                        clear hK hrun
                        have hB11 := Nat.le_trans hB7 k11.size
                        refine wpAnyH_take (i := 12) (v := ?_) rfl (by kernel_rfl) (by kernel_rfl) (by kernel_rfl) (fun _ _ _ h => h) (Or.inl ⟨by kernel_rfl, ?_⟩) (by assumption) ?_
                        rotate_left
                        · (intro w hSw; (try dsimp only at hSw); go_simp; try with_reducible rfl)
                        simp only [Act.put, List.getElem_toArray, List.getElem_cons_succ, List.getElem_cons_zero, List.setIfInBounds_toArray, List.set_cons_zero, List.set_cons_succ]
                        refine wpAnyH_done (by kernel_rfl) ?_ _
                        go_wp2
                        all_goals
                          go_ret
                          exact ⟨_, rfl, by rw [HINS.out]; exact own_nr (by simpa using o11), bon HBV.out b11⟩
              · skip
                have b6 := bal bV (.cells #[.string nm, .int .i64 op, .string nm, .int .i64 0, .slice none 0 0] 38)
                have x6 := HNX.out (V)
                go_simp
                refine hK.out _ _ (HC.out _ b6) (fun hHeld => ?_)
                clear hK
                refine wpAnyH_ready (rs := [0]) (by kernel_rfl) (by simp) ?_
                refine AllReadyH.cons rfl (fun K hK => ?_) AllReadyH.nil
                · skip
                  have b0 := bal b6 (.cells #[] 38)
                  have x0 := x6.later (bel_alloc ((V).alloc (.cells #[.string nm, .int .i64 op, .string nm, .int .i64 0, .slice none 0 0] 38)) (.cells #[] 38))
                  have o0 := HO0.out ((V).alloc (.cells #[.string nm, .int .i64 op, .string nm, .int .i64 0, .slice none 0 0] 38))
                  have h0 : V.heap.size ≤ ((V).alloc (.cells #[.string nm, .int .i64 op, .string nm, .int .i64 0, .slice none 0 0] 38)).heap.size := (b6).size
                  have hB0 := (bel_alloc ((V).alloc (.cells #[.string nm, .int .i64 op, .string nm, .int .i64 0, .slice none 0 0] 38)) (.cells #[] 38)).size
                  rw [size_al V (.cells #[.string nm, .int .i64 op, .string nm, .int .i64 0, .slice none 0 0] 38)] at o0 hB0 h0
                  go_simp
                  refine hK.out _ _ (HC.out _ b0) (fun hHeld => ?_)
                  clear hK
                  refine wpAnyH_ready (rs := [4]) (by kernel_rfl) (by simp) ?_
                  refine AllReadyH.cons rfl (fun K hK => ?_) AllReadyH.nil
                  · skip
                    obtain ⟨v4, w4, hrun, o4, k4, g4⟩ := run_nms o0 (HT.out _ b0) (len4 hl1) hB0
                    have b4 := (b0).trans (k4.mono h0)
                    have x4 := NR.grown x0 g4 (by simp [Value.ownBlock])
                    refine step_run' (by rfl) _ _ (by rfl) (by rfl) (by rfl) (by rfl) hrun ?_
                    refine hK.out _ _ (HC.out _ b4) (fun hHeld => ?_)
                    clear hK hrun
                    have hB4 := Nat.le_trans hB0 k4.size
                    refine wpAnyH_ready (rs := [7]) (by kernel_rfl) (by simp) ?_
                    refine AllReadyH.cons rfl (fun K hK => ?_) AllReadyH.nil
                    · skip
                      obtain ⟨v7, w7, hrun, o7, k7, g7⟩ := run_nms o4 x4 (len7 hl1) hB4
                      have b7 := (b4).trans (k7.mono h0)
                      refine step_run' (by rfl) _ _ (by rfl) (by rfl) (by rfl) (by rfl) hrun ?_
                      refine hK.out _ _ (HC.out _ b7) (fun hHeld => ?_)
                      clear hK hrun
                      have hB7 := Nat.le_trans hB4 k7.size
                      refine wpAnyH_ready (rs := [11]) (by kernel_rfl) (by simp) ?_
                      refine AllReadyH.cons rfl (fun K hK => ?_) AllReadyH.nil
                      · skip
                        obtain ⟨v11, w11, hrun, o11, k11, g11⟩ := run_nms o7 (HD.out _ b7) (len11 hl1 hl2) hB7
                        have b11 := (b7).trans (k11.mono h0)
                        refine step_run' (by rfl) _ _ (by rfl) (by rfl) (by rfl) (by rfl) hrun ?_
                        refine hK.out _ _ (HC.out _ b11) (fun hHeld => ?_)
                        clear hK hrun
                        have hB11 := Nat.le_trans hB7 k11.size
                        refine wpAnyH_take (i := 12) (v := ?_) rfl (by kernel_rfl) (by kernel_rfl) (by kernel_rfl) (fun _ _ _ h => h) (Or.inl ⟨by kernel_rfl, ?_⟩) (by assumption) ?_
                        rotate_left
                        · (intro w hSw; (try dsimp only at hSw); go_simp; try with_reducible rfl)
                        simp only [Act.put, List.getElem_toArray, List.getElem_cons_succ, List.getElem_cons_zero, List.setIfInBounds_toArray, List.set_cons_zero, List.set_cons_succ]
                        refine wpAnyH_done (by kernel_rfl) ?_ _
                        go_wp2
                        all_goals
                          go_ret
                          exact ⟨_, rfl, by rw [HINS.out]; exact own_nr (by simpa using o11), bon HBV.out b11⟩

      · skip
        go_wp2_with fail
        go_quiet (fail)
        go_wp2
        go_roundw
        case rel => exact ⟨k + 1, _, rfl, by omega, by omega, HPS.out (by unfold ltB; rw [hbl]; rfl), below_drewN HBW.out _⟩
        case measure => simp [intOf]; omega
    · obtain rfl : k = n := by omega
      have HINS : Hid (insN L (nm, op) = L.take k ++ (nm, op) :: L.drop k) := by
        have h := HA.out k hk HP.out (fun h => absurd h hlt)
        rw [h, if_neg (fun hh => hlt hh.1)]
        exact mkHid rfl
      clear HA HP HF
      go_wp2_with fail
      go_quiet (fail)
      have HBW8 : Hid (Below W.heap.size W (wr.drewN nq)) := below_drewN HBW.out nq
      clear e0 e1 HBW
      generalize wr.drewN nq = W8 at *
      have e0 := cell_later HBW8.out f0
      have e1 := cell_later HBW8.out f1
      go_wp2_with fail
      go_quiet (fail)
      have HBW9 : Hid (Below W.heap.size W (W8.drewN nq)) := below_drewN HBW8.out nq
      clear e0 e1 HBW8
      generalize W8.drewN nq = W9 at *
      have e0 := cell_later HBW9.out f0
      have e1 := cell_later HBW9.out f1
      have HBQ := bon HB0.out HBW9.out
      have HLQ := HL.out.later HBW9.out
      go_wp2_with fail
      (try dsimp only [List.append])
      have hb6 : Below w.heap.size w ((W9).alloc (.cells #[.string nm, .int .i64 op, .string nm, .int .i64 0, .slice none 0 0] 38)) := bal HBQ _
      have hx6 : Five ((W9).alloc (.cells #[.string nm, .int .i64 op, .string nm, .int .i64 0, .slice none 0 0] 38)) (W9).heap.size 0 (nm, op) := by simp [Five, go_sem]
      obtain ⟨p0, p1, p2, p3, p4⟩ := hx6
      have HB6 := mkHid hb6
      have HL6 : Hid (NR ((W9).alloc (.cells #[.string nm, .int .i64 op, .string nm, .int .i64 0, .slice none 0 0] 38)) (.slice (some ⟨g, o, none⟩) k c) L) := HLQ.later (bel_alloc _ _)
      clear hb6 HBQ HLQ
      generalize (W9).alloc (.cells #[.string nm, .int .i64 op, .string nm, .int .i64 0, .slice none 0 0] 38) = W6 at *
      generalize (W9).heap.size = X6 at *
      simp only [Nat.zero_add] at p1 p2 p3 p4
      refine wp_region_held_drew (S := fun w' => w'.cell? ⟨X6, 0, none⟩ = some (.string nm) ∧ w'.cell? ⟨X6, 1, none⟩ = some (.int .i64 op) ∧ w'.cell? ⟨X6, 2, none⟩ = some (.string nm) ∧ w'.cell? ⟨X6, 3, none⟩ = some (.int .i64 0) ∧ w'.cell? ⟨X6, 4, none⟩ = some (.slice none 0 0)) (by kernel_rfl) ⟨p0, p1, p2, p3, p4⟩ (fun hHeld => ?_)
      have HBV : Hid (Below w.heap.size w W6.drew) := bdrew HB6.out
      have HLV : Hid (NR W6.drew (.slice (some ⟨g, o, none⟩) k c) L) := HL6.out.later (bdrew (Below.refl _ _))
      have hS0 := mkHid hHeld
      clear p0 p1 p2 p3 p4 HB6 HL6
      generalize W6.drew = V at *
      refine wpAnyH_take (i := 1) (v := ?_) rfl (by kernel_rfl) (by kernel_rfl) (by kernel_rfl) (fun _ _ _ h => h) (Or.inl ⟨by kernel_rfl, ?_⟩) (by assumption) ?_
      rotate_left
      · (intro w hSw; (try dsimp only at hSw); go_simp; try with_reducible rfl)
      simp only [Act.put, List.getElem_toArray, List.getElem_cons_succ, List.getElem_cons_zero, List.setIfInBounds_toArray, List.set_cons_zero, List.set_cons_succ]
      refine wpAnyH_take (i := 2) (v := ?_) rfl (by kernel_rfl) (by kernel_rfl) (by kernel_rfl) (fun _ _ _ h => h) (Or.inl ⟨by kernel_rfl, ?_⟩) (by assumption) ?_
      rotate_left
      · (intro w hSw; (try dsimp only at hSw); go_simp; try with_reducible rfl)
      simp only [Act.put, List.getElem_toArray, List.getElem_cons_succ, List.getElem_cons_zero, List.setIfInBounds_toArray, List.set_cons_zero, List.set_cons_succ]
      refine wpAnyH_take (i := 3) (v := ?_) rfl (by kernel_rfl) (by kernel_rfl) (by kernel_rfl) (fun _ _ _ h => h) (Or.inl ⟨by kernel_rfl, ?_⟩) (by assumption) ?_
      rotate_left
      · (intro w hSw; (try dsimp only at hSw); go_simp; try with_reducible rfl)
      simp only [Act.put, List.getElem_toArray, List.getElem_cons_succ, List.getElem_cons_zero, List.setIfInBounds_toArray, List.set_cons_zero, List.set_cons_succ]
      refine wpAnyH_take (i := 5) (v := ?_) rfl (by kernel_rfl) (by kernel_rfl) (by kernel_rfl) (fun _ _ _ h => h) (Or.inl ⟨by kernel_rfl, ?_⟩) (by assumption) ?_
      rotate_left
      · (intro w hSw; (try dsimp only at hSw); go_simp; try with_reducible rfl)
      simp only [Act.put, List.getElem_toArray, List.getElem_cons_succ, List.getElem_cons_zero, List.setIfInBounds_toArray, List.set_cons_zero, List.set_cons_succ]
      refine wpAnyH_take (i := 8) (v := ?_) rfl (by kernel_rfl) (by kernel_rfl) (by kernel_rfl) (fun _ _ _ h => h) (Or.inl ⟨by kernel_rfl, ?_⟩) (by assumption) ?_
      rotate_left
      · (intro w hSw; (try dsimp only at hSw); go_simp; try with_reducible rfl)
      simp only [Act.put, List.getElem_toArray, List.getElem_cons_succ, List.getElem_cons_zero, List.setIfInBounds_toArray, List.set_cons_zero, List.set_cons_succ]
      refine wpAnyH_take (i := 9) (v := ?_) rfl (by kernel_rfl) (by kernel_rfl) (by kernel_rfl) (fun _ _ _ h => h) (Or.inl ⟨by kernel_rfl, ?_⟩) (by assumption) ?_
      rotate_left
      · (intro w hSw; (try dsimp only at hSw); go_simp; try with_reducible rfl)
      simp only [Act.put, List.getElem_toArray, List.getElem_cons_succ, List.getElem_cons_zero, List.setIfInBounds_toArray, List.set_cons_zero, List.set_cons_succ]
      refine wpAnyH_take (i := 10) (v := ?_) rfl (by kernel_rfl) (by kernel_rfl) (by kernel_rfl) (fun _ _ _ h => h) (Or.inl ⟨by kernel_rfl, ?_⟩) (by assumption) ?_
      rotate_left
      · (intro w hSw; (try dsimp only at hSw); go_simp; try with_reducible rfl)
      simp only [Act.put, List.getElem_toArray, List.getElem_cons_succ, List.getElem_cons_zero, List.setIfInBounds_toArray, List.set_cons_zero, List.set_cons_succ]
      have HT : Hid (∀ w', Below V.heap.size V w' → NR w' (.slice (some ⟨g, o, none⟩) k c) (L.take k)) := fun w' hb => (nr_take (HLV.out.later hb) hk).1
      have HD : Hid (∀ w', Below V.heap.size V w' → NR w' (.slice (if c = k then some ⟨g, o, none⟩ else some ⟨g, o + k * 5, none⟩) 0 (c - k)) (L.drop k)) := fun w' hb => (by have := (nr_drop' (HLV.out.later hb) hk).1; rwa [Nat.sub_self] at this)
      have HC : Hid (∀ w', Below V.heap.size V w' → w'.cell? ⟨X6, 0, none⟩ = some (.string nm) ∧ w'.cell? ⟨X6, 1, none⟩ = some (.int .i64 op) ∧ w'.cell? ⟨X6, 2, none⟩ = some (.string nm) ∧ w'.cell? ⟨X6, 3, none⟩ = some (.int .i64 0) ∧ w'.cell? ⟨X6, 4, none⟩ = some (.slice none 0 0)) := fun w' hb => by obtain ⟨p0, p1, p2, p3, p4⟩ := hS0.out; exact ⟨cell_later hb p0, cell_later hb p1, cell_later hb p2, cell_later hb p3, cell_later hb p4⟩
      have HNX : Hid (∀ w' : World, NR (w'.alloc (.cells #[.string nm, .int .i64 op, .string nm, .int .i64 0, .slice none 0 0] 38)) (.slice (some ⟨w'.heap.size, 0, none⟩) 1 1) [(nm, op)]) := fun w' => nr_one (nm, op)
      have HO0 : Hid (∀ w' : World, (w'.alloc (.cells #[] 38)).ownsRow w'.heap.size 38 5 (.slice (some ⟨w'.heap.size, 0, none⟩) 0 0) ([] : List Nm).length (asgs [])) := fun w' => World.ownsRow_lit w' #[] 0 (Nat.le_refl _) (by decide) rfl
      have hl1 : (L.take k).length ≤ 2000 := by have := HLEN.out; rw [List.length_take]; omega
      have hl2 : (L.drop k).length ≤ 2000 := by have := HLEN.out; rw [List.length_drop]; first | omega | (have := HN.out; omega)
      have bV := Below.refl V.heap.size V
      clear HLV hS0
      refine wpAnyH_ready (rs := [0, 6]) (by kernel_rfl) (by simp) ?_
      refine AllReadyH.cons rfl (fun K hK => ?_) (AllReadyH.cons rfl (fun K hK => ?_) AllReadyH.nil)
      · skip
        have b0 := bal bV (.cells #[] 38)
        have o0 := HO0.out (V)
        have h0 : V.heap.size ≤ (V).heap.size := (bV).size
        have hB0 := (bel_alloc (V) (.cells #[] 38)).size
        go_simp
        refine hK.out _ _ (HC.out _ b0) (fun hHeld => ?_)
        clear hK
        refine wpAnyH_ready (rs := [4, 6]) (by kernel_rfl) (by simp) ?_
        refine AllReadyH.cons rfl (fun K hK => ?_) (AllReadyH.cons rfl (fun K hK => ?_) AllReadyH.nil)
        · skip
          obtain ⟨v4, w4, hrun, o4, k4, g4⟩ := run_nms o0 (HT.out _ b0) (len4 hl1) hB0
          have b4 := (b0).trans (k4.mono h0)
          refine step_run' (by rfl) _ _ (by rfl) (by rfl) (by rfl) (by rfl) hrun ?_
          refine hK.out _ _ (HC.out _ b4) (fun hHeld => ?_)
          clear hK hrun
          have hB4 := Nat.le_trans hB0 k4.size
          refine wpAnyH_ready (rs := [6]) (by kernel_rfl) (by simp) ?_
          refine AllReadyH.cons rfl (fun K hK => ?_) AllReadyH.nil
          · skip
            have b6 := bal b4 (.cells #[.string nm, .int .i64 op, .string nm, .int .i64 0, .slice none 0 0] 38)
            have o6 := own_later o4 (bel_alloc (w4) (.cells #[.string nm, .int .i64 op, .string nm, .int .i64 0, .slice none 0 0] 38))
            have hB6 := Nat.le_trans hB4 (bel_alloc (w4) (.cells #[.string nm, .int .i64 op, .string nm, .int .i64 0, .slice none 0 0] 38)).size
            have x6 := HNX.out (w4)
            go_simp
            refine hK.out _ _ (HC.out _ b6) (fun hHeld => ?_)
            clear hK
            refine wpAnyH_ready (rs := [7]) (by kernel_rfl) (by simp) ?_
            refine AllReadyH.cons rfl (fun K hK => ?_) AllReadyH.nil
            · skip
              obtain ⟨v7, w7, hrun, o7, k7, g7⟩ := run_nms o6 x6 (len7 hl1) hB6
              have b7 := (b6).trans (k7.mono h0)
              refine step_run' (by rfl) _ _ (by rfl) (by rfl) (by rfl) (by rfl) hrun ?_
              refine hK.out _ _ (HC.out _ b7) (fun hHeld => ?_)
              clear hK hrun
              have hB7 := Nat.le_trans hB6 k7.size
              refine wpAnyH_ready (rs := [11]) (by kernel_rfl) (by simp) ?_
              refine AllReadyH.cons rfl (fun K hK => ?_) AllReadyH.nil
              · skip
                obtain ⟨v11, w11, hrun, o11, k11, g11⟩ := run_nms o7 (HD.out _ b7) (len11 hl1 hl2) hB7
                have b11 := (b7).trans (k11.mono h0)
                refine step_run' (by rfl) _ _ (by rfl) (by rfl) (by rfl) (by rfl) hrun ?_
                refine hK.out _ _ (HC.out _ b11) (fun hHeld => ?_)
                clear hK hrun
                have hB11 := Nat.le_trans hB7 k11.size
                refine wpAnyH_take (i := 12) (v := ?_) rfl (by kernel_rfl) (by kernel_rfl) (by kernel_rfl) (fun _ _ _ h => h) (Or.inl ⟨by kernel_rfl, ?_⟩) (by assumption) ?_
                rotate_left
                · (intro w hSw; (try dsimp only at hSw); go_simp; try with_reducible rfl)
                simp only [Act.put, List.getElem_toArray, List.getElem_cons_succ, List.getElem_cons_zero, List.setIfInBounds_toArray, List.set_cons_zero, List.set_cons_succ]
                refine wpAnyH_done (by kernel_rfl) ?_ _
                go_wp2
                all_goals
                  go_ret
                  exact ⟨_, rfl, by rw [HINS.out]; exact own_nr (by simpa using o11), bon HBV.out b11⟩
        · skip
          have b6 := bal b0 (.cells #[.string nm, .int .i64 op, .string nm, .int .i64 0, .slice none 0 0] 38)
          have o6 := own_later o0 (bel_alloc ((V).alloc (.cells #[] 38)) (.cells #[.string nm, .int .i64 op, .string nm, .int .i64 0, .slice none 0 0] 38))
          have hB6 := Nat.le_trans hB0 (bel_alloc ((V).alloc (.cells #[] 38)) (.cells #[.string nm, .int .i64 op, .string nm, .int .i64 0, .slice none 0 0] 38)).size
          have x6 := HNX.out ((V).alloc (.cells #[] 38))
          rw [size_al V (.cells #[] 38)] at x6
          go_simp
          refine hK.out _ _ (HC.out _ b6) (fun hHeld => ?_)
          clear hK
          refine wpAnyH_ready (rs := [4]) (by kernel_rfl) (by simp) ?_
          refine AllReadyH.cons rfl (fun K hK => ?_) AllReadyH.nil
          · skip
            obtain ⟨v4, w4, hrun, o4, k4, g4⟩ := run_nms o6 (HT.out _ b6) (len4 hl1) hB6
            have b4 := (b6).trans (k4.mono h0)
            have x4 := NR.grown x6 g4 (by simp [Value.ownBlock])
            refine step_run' (by rfl) _ _ (by rfl) (by rfl) (by rfl) (by rfl) hrun ?_
            refine hK.out _ _ (HC.out _ b4) (fun hHeld => ?_)
            clear hK hrun
            have hB4 := Nat.le_trans hB6 k4.size
            refine wpAnyH_ready (rs := [7]) (by kernel_rfl) (by simp) ?_
            refine AllReadyH.cons rfl (fun K hK => ?_) AllReadyH.nil
            · skip
              obtain ⟨v7, w7, hrun, o7, k7, g7⟩ := run_nms o4 x4 (len7 hl1) hB4
              have b7 := (b4).trans (k7.mono h0)
              refine step_run' (by rfl) _ _ (by rfl) (by rfl) (by rfl) (by rfl) hrun ?_
              refine hK.out _ _ (HC.out _ b7) (fun hHeld => ?_)
              clear hK hrun
              have hB7 := Nat.le_trans hB4 k7.size
              refine wpAnyH_ready (rs := [11]) (by kernel_rfl) (by simp) ?_
              refine AllReadyH.cons rfl (fun K hK => ?_) AllReadyH.nil
              · skip
                obtain ⟨v11, w11, hrun, o11, k11, g11⟩ := run_nms o7 (HD.out _ b7) (len11 hl1 hl2) hB7
                have b11 := (b7).trans (k11.mono h0)
                refine step_run' (by rfl) _ _ (by rfl) (by rfl) (by rfl) (by rfl) hrun ?_
                refine hK.out _ _ (HC.out _ b11) (fun hHeld => ?_)
                clear hK hrun
                have hB11 := Nat.le_trans hB7 k11.size
                refine wpAnyH_take (i := 12) (v := ?_) rfl (by kernel_rfl) (by kernel_rfl) (by kernel_rfl) (fun _ _ _ h => h) (Or.inl ⟨by kernel_rfl, ?_⟩) (by assumption) ?_
                rotate_left
                · (intro w hSw; (try dsimp only at hSw); go_simp; try with_reducible rfl)
                simp only [Act.put, List.getElem_toArray, List.getElem_cons_succ, List.getElem_cons_zero, List.setIfInBounds_toArray, List.set_cons_zero, List.set_cons_succ]
                refine wpAnyH_done (by kernel_rfl) ?_ _
                go_wp2
                all_goals
                  go_ret
                  exact ⟨_, rfl, by rw [HINS.out]; exact own_nr (by simpa using o11), bon HBV.out b11⟩
      · skip
        have b6 := bal bV (.cells #[.string nm, .int .i64 op, .string nm, .int .i64 0, .slice none 0 0] 38)
        have x6 := HNX.out (V)
        go_simp
        refine hK.out _ _ (HC.out _ b6) (fun hHeld => ?_)
        clear hK
        refine wpAnyH_ready (rs := [0]) (by kernel_rfl) (by simp) ?_
        refine AllReadyH.cons rfl (fun K hK => ?_) AllReadyH.nil
        · skip
          have b0 := bal b6 (.cells #[] 38)
          have x0 := x6.later (bel_alloc ((V).alloc (.cells #[.string nm, .int .i64 op, .string nm, .int .i64 0, .slice none 0 0] 38)) (.cells #[] 38))
          have o0 := HO0.out ((V).alloc (.cells #[.string nm, .int .i64 op, .string nm, .int .i64 0, .slice none 0 0] 38))
          have h0 : V.heap.size ≤ ((V).alloc (.cells #[.string nm, .int .i64 op, .string nm, .int .i64 0, .slice none 0 0] 38)).heap.size := (b6).size
          have hB0 := (bel_alloc ((V).alloc (.cells #[.string nm, .int .i64 op, .string nm, .int .i64 0, .slice none 0 0] 38)) (.cells #[] 38)).size
          rw [size_al V (.cells #[.string nm, .int .i64 op, .string nm, .int .i64 0, .slice none 0 0] 38)] at o0 hB0 h0
          go_simp
          refine hK.out _ _ (HC.out _ b0) (fun hHeld => ?_)
          clear hK
          refine wpAnyH_ready (rs := [4]) (by kernel_rfl) (by simp) ?_
          refine AllReadyH.cons rfl (fun K hK => ?_) AllReadyH.nil
          · skip
            obtain ⟨v4, w4, hrun, o4, k4, g4⟩ := run_nms o0 (HT.out _ b0) (len4 hl1) hB0
            have b4 := (b0).trans (k4.mono h0)
            have x4 := NR.grown x0 g4 (by simp [Value.ownBlock])
            refine step_run' (by rfl) _ _ (by rfl) (by rfl) (by rfl) (by rfl) hrun ?_
            refine hK.out _ _ (HC.out _ b4) (fun hHeld => ?_)
            clear hK hrun
            have hB4 := Nat.le_trans hB0 k4.size
            refine wpAnyH_ready (rs := [7]) (by kernel_rfl) (by simp) ?_
            refine AllReadyH.cons rfl (fun K hK => ?_) AllReadyH.nil
            · skip
              obtain ⟨v7, w7, hrun, o7, k7, g7⟩ := run_nms o4 x4 (len7 hl1) hB4
              have b7 := (b4).trans (k7.mono h0)
              refine step_run' (by rfl) _ _ (by rfl) (by rfl) (by rfl) (by rfl) hrun ?_
              refine hK.out _ _ (HC.out _ b7) (fun hHeld => ?_)
              clear hK hrun
              have hB7 := Nat.le_trans hB4 k7.size
              refine wpAnyH_ready (rs := [11]) (by kernel_rfl) (by simp) ?_
              refine AllReadyH.cons rfl (fun K hK => ?_) AllReadyH.nil
              · skip
                obtain ⟨v11, w11, hrun, o11, k11, g11⟩ := run_nms o7 (HD.out _ b7) (len11 hl1 hl2) hB7
                have b11 := (b7).trans (k11.mono h0)
                refine step_run' (by rfl) _ _ (by rfl) (by rfl) (by rfl) (by rfl) hrun ?_
                refine hK.out _ _ (HC.out _ b11) (fun hHeld => ?_)
                clear hK hrun
                have hB11 := Nat.le_trans hB7 k11.size
                refine wpAnyH_take (i := 12) (v := ?_) rfl (by kernel_rfl) (by kernel_rfl) (by kernel_rfl) (fun _ _ _ h => h) (Or.inl ⟨by kernel_rfl, ?_⟩) (by assumption) ?_
                rotate_left
                · (intro w hSw; (try dsimp only at hSw); go_simp; try with_reducible rfl)
                simp only [Act.put, List.getElem_toArray, List.getElem_cons_succ, List.getElem_cons_zero, List.setIfInBounds_toArray, List.set_cons_zero, List.set_cons_succ]
                refine wpAnyH_done (by kernel_rfl) ?_ _
                go_wp2
                all_goals
                  go_ret
                  exact ⟨_, rfl, by rw [HINS.out]; exact own_nr (by simpa using o11), bon HBV.out b11⟩
end
end Go.Proofs.YtaibmdikimpooaaDoor
