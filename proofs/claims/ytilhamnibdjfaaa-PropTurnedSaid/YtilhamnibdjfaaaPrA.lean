/-
  Plain facts of clauses and assignments: what follows at once is the least closed assignment.
-/
namespace Go.Proofs.Ytilhamnibdjfaaa

/-- what a literal is: 1 true, 0 open, -1 neither -/
def wh (A : List Int) (x : Int) : Int :=
  if x.natAbs = 0 ∨ A.length ≤ x.natAbs then -1 else if A.getD x.natAbs 0 = 0 then 0 else if (0 < A.getD x.natAbs 0) = (0 < x) then 1 else -1
theorem wh_cases (A : List Int) (x : Int) : wh A x = 1 ∨ wh A x = 0 ∨ wh A x = -1 := by
  unfold wh
  split <;> try split <;> try split <;> simp
  all_goals simp
/-- the one literal that a clause asks for (0: none can), or nothing -/
def askGo (A : List Int) : Int → List Int → Option Int
  | o, [] => some o
  | o, x :: c => if wh A x = 1 then none else if wh A x = 0 then (if o ≠ 0 ∧ o ≠ x then none else askGo A x c) else askGo A o c
def ask (A : List Int) (c : List Int) : Option Int := askGo A 0 c
/-- a clause has a true literal, or two unlike open ones -/
def okC (A : List Int) (c : List Int) : Prop := (∃ x ∈ c, wh A x = 1) ∨ ∃ x ∈ c, ∃ y ∈ c, x ≠ y ∧ wh A x = 0 ∧ wh A y = 0
theorem wh_zero {A : List Int} {x : Int} (h : wh A x ≠ -1) : x ≠ 0 ∧ 0 < x.natAbs ∧ x.natAbs < A.length := by
  unfold wh at h
  by_cases h0 : x.natAbs = 0 ∨ A.length ≤ x.natAbs
  · rw [if_pos h0] at h; exact absurd rfl h
  · omega
theorem askGo_none {A : List Int} : ∀ {c : List Int} {o : Int}, askGo A o c = none ↔ (∃ x ∈ c, wh A x = 1) ∨ (∃ x ∈ c, o ≠ 0 ∧ o ≠ x ∧ wh A x = 0) ∨ ∃ x ∈ c, ∃ y ∈ c, x ≠ y ∧ wh A x = 0 ∧ wh A y = 0 := by
  intro c
  induction c with
  | nil => intro o; simp [askGo]
  | cons z c ih =>
    intro o
    unfold askGo
    by_cases h1 : wh A z = 1
    · simp [h1]
    · rw [if_neg h1]
      by_cases h0 : wh A z = 0
      · rw [if_pos h0]
        have hz : z ≠ 0 := (wh_zero (A := A) (x := z) (by omega)).1
        by_cases ho : o ≠ 0 ∧ o ≠ z
        · rw [if_pos ho]
          simp only [true_iff]
          exact .inr (.inl ⟨z, List.mem_cons_self, ho.1, ho.2, h0⟩)
        · rw [if_neg ho, ih]
          constructor
          · rintro (⟨x, hx, e⟩ | ⟨x, hx, -, hne, e⟩ | ⟨x, hx, y, hy, hne, e1, e2⟩)
            · exact .inl ⟨x, List.mem_cons_of_mem _ hx, e⟩
            · exact .inr (.inr ⟨z, List.mem_cons_self, x, List.mem_cons_of_mem _ hx, hne, h0, e⟩)
            · exact .inr (.inr ⟨x, List.mem_cons_of_mem _ hx, y, List.mem_cons_of_mem _ hy, hne, e1, e2⟩)
          · rintro (⟨x, hx, e⟩ | ⟨x, hx, ho1, hne, e⟩ | ⟨x, hx, y, hy, hne, e1, e2⟩)
            · rcases List.mem_cons.1 hx with hx | hx
              · exact absurd (hx ▸ e) h1
              · exact .inl ⟨x, hx, e⟩
            · have hoz : o = z := by
                by_cases h9 : o = z
                · exact h9
                · exact absurd ⟨ho1, h9⟩ ho
              subst hoz
              rcases List.mem_cons.1 hx with rfl | hx
              · exact absurd rfl hne
              · exact .inr (.inl ⟨x, hx, hz, hne, e⟩)
            · rcases List.mem_cons.1 hx with gx | gx
              · rcases List.mem_cons.1 hy with gy | gy
                · exact absurd (gx.trans gy.symm) hne
                · exact .inr (.inl ⟨y, gy, hz, gx ▸ hne, e2⟩)
              · rcases List.mem_cons.1 hy with gy | gy
                · exact .inr (.inl ⟨x, gx, hz, fun e => hne (e.symm.trans gy.symm), e1⟩)
                · exact .inr (.inr ⟨x, gx, y, gy, hne, e1, e2⟩)
      · rw [if_neg h0, ih]
        constructor
        · rintro (⟨x, hx, e⟩ | ⟨x, hx, e⟩ | ⟨x, hx, y, hy, e⟩)
          · exact .inl ⟨x, List.mem_cons_of_mem _ hx, e⟩
          · exact .inr (.inl ⟨x, List.mem_cons_of_mem _ hx, e⟩)
          · exact .inr (.inr ⟨x, List.mem_cons_of_mem _ hx, y, List.mem_cons_of_mem _ hy, e⟩)
        · rintro (⟨x, hx, e⟩ | ⟨x, hx, ho1, hne, e⟩ | ⟨x, hx, y, hy, hne, e1, e2⟩)
          · rcases List.mem_cons.1 hx with rfl | hx
            · exact absurd e h1
            · exact .inl ⟨x, hx, e⟩
          · rcases List.mem_cons.1 hx with rfl | hx
            · exact absurd e h0
            · exact .inr (.inl ⟨x, hx, ho1, hne, e⟩)
          · rcases List.mem_cons.1 hx with hx | hx
            · exact absurd (hx ▸ e1) h0
            · rcases List.mem_cons.1 hy with hy | hy
              · exact absurd (hy ▸ e2) h0
              · exact .inr (.inr ⟨x, hx, y, hy, hne, e1, e2⟩)
theorem ask_none {A c : List Int} : ask A c = none ↔ okC A c := by
  unfold ask okC
  rw [askGo_none]
  constructor
  · rintro (h | ⟨x, -, h, -⟩ | h)
    · exact .inl h
    · exact absurd rfl h
    · exact .inr h
  · rintro (h | h)
    · exact .inl h
    · exact .inr (.inr h)
theorem askGo_some {A : List Int} : ∀ {c : List Int} {o r : Int}, askGo A o c = some r → (r = o ∨ (r ∈ c ∧ wh A r = 0)) ∧ (∀ x ∈ c, wh A x ≠ 1) ∧ (∀ x ∈ c, wh A x = 0 → x = r) ∧ (o ≠ 0 → r = o) := by
  intro c
  induction c with
  | nil => intro o r h; simp [askGo] at h; subst h; simp
  | cons z c ih =>
    intro o r h
    unfold askGo at h
    by_cases h1 : wh A z = 1
    · rw [if_pos h1] at h; cases h
    · rw [if_neg h1] at h
      by_cases h0 : wh A z = 0
      · rw [if_pos h0] at h
        have hz : z ≠ 0 := (wh_zero (A := A) (x := z) (by omega)).1
        by_cases ho : o ≠ 0 ∧ o ≠ z
        · rw [if_pos ho] at h; cases h
        · rw [if_neg ho] at h
          obtain ⟨-, a2, a3, a4⟩ := ih h
          have hr := a4 hz
          subst hr
          refine ⟨.inr ⟨List.mem_cons_self, h0⟩, fun x hx => ?_, fun x hx e => ?_, fun h9 => ?_⟩
          · rcases List.mem_cons.1 hx with rfl | hx
            · exact h1
            · exact a2 x hx
          · rcases List.mem_cons.1 hx with rfl | hx
            · rfl
            · exact a3 x hx e
          · by_cases h8 : o = r
            · exact h8.symm
            · exact absurd ⟨h9, h8⟩ ho
      · rw [if_neg h0] at h
        obtain ⟨a1, a2, a3, a4⟩ := ih h
        refine ⟨?_, fun x hx => ?_, fun x hx e => ?_, a4⟩
        · rcases a1 with a1 | ⟨a1, a5⟩
          · exact .inl a1
          · exact .inr ⟨List.mem_cons_of_mem _ a1, a5⟩
        · rcases List.mem_cons.1 hx with rfl | hx
          · exact h1
          · exact a2 x hx
        · rcases List.mem_cons.1 hx with rfl | hx
          · exact absurd e h0
          · exact a3 x hx e
theorem ask_some {A c : List Int} {r : Int} (h : ask A c = some r) : (r = 0 ∨ (r ∈ c ∧ wh A r = 0)) ∧ (∀ x ∈ c, wh A x ≠ 1) ∧ (∀ x ∈ c, wh A x = 0 → x = r) :=
  ⟨(askGo_some h).1, (askGo_some h).2.1, (askGo_some h).2.2.1⟩
/-- what becomes of an assignment with a literal made true -/
def put (A : List Int) (x : Int) : List Int := A.set x.natAbs (if x < 0 then -1 else 1)
def zer (A : List Int) : Nat := A.countP (fun a => a == 0)
theorem zer_set : ∀ {A : List Int} {i : Nat} {v : Int}, i < A.length → A.getD i 0 = 0 → v ≠ 0 → zer (A.set i v) + 1 = zer A := by
  intro A
  induction A with
  | nil => intro i v h; simp at h
  | cons a A ih =>
    intro i v h e hv
    cases i with
    | zero =>
      simp at e
      subst e
      simp [zer, hv]
    | succ i =>
      simp at h e
      have := ih h (by simpa using e) hv
      unfold zer at this ⊢
      simp only [List.set_cons_succ, List.countP_cons]
      omega
theorem wh_open {A : List Int} {x : Int} (h : wh A x = 0) : A.getD x.natAbs 0 = 0 := by
  have h1 := wh_zero (A := A) (x := x) (by omega)
  unfold wh at h
  rw [if_neg (by omega)] at h
  by_cases h0 : A.getD x.natAbs 0 = 0
  · exact h0
  · rw [if_neg h0] at h
    split at h <;> omega
theorem zer_put {A : List Int} {x : Int} (h : wh A x = 0) : zer (put A x) + 1 = zer A :=
  zer_set (wh_zero (A := A) (x := x) (by omega)).2.2 (wh_open h) (by split <;> omega)
def unitF (L : List (List Int)) : Nat → List Int → List Int × Bool
  | 0, A => (A, false)
  | n + 1, A => match L.findSome? (ask A) with
    | none => (A, false)
    | some x => if x = 0 then (A, true) else unitF L n (put A x)
def unit (L : List (List Int)) (A : List Int) : List Int × Bool := unitF L (zer A + 1) A
theorem unit_none {L : List (List Int)} {A : List Int} (h : L.findSome? (ask A) = none) : unit L A = (A, false) := by
  unfold unit unitF; rw [h]
theorem unit_conf {L : List (List Int)} {A : List Int} (h : L.findSome? (ask A) = some 0) : unit L A = (A, true) := by
  unfold unit unitF; rw [h]; rfl
theorem findSome_open {L : List (List Int)} {A : List Int} {x : Int} (h : L.findSome? (ask A) = some x) (hx : x ≠ 0) : wh A x = 0 := by
  obtain ⟨c, -, hc⟩ := List.exists_of_findSome?_eq_some h
  rcases (ask_some hc).1 with e | ⟨-, e⟩
  · exact absurd e hx
  · exact e
theorem unit_step {L : List (List Int)} {A : List Int} {x : Int} (h : L.findSome? (ask A) = some x) (hx : x ≠ 0) : unit L A = unit L (put A x) := by
  have := zer_put (findSome_open h hx)
  conv => lhs; unfold unit; unfold unitF
  rw [h]
  simp only [if_neg hx]
  unfold unit
  rw [this]
/-- induction along the steps -/
theorem unit_ind {L : List (List Int)} {P : List Int → Prop} (hn : ∀ A, L.findSome? (ask A) = none → P A) (hc : ∀ A, L.findSome? (ask A) = some 0 → P A)
    (hs : ∀ A x, L.findSome? (ask A) = some x → x ≠ 0 → P (put A x) → P A) : ∀ A, P A := by
  have main : ∀ n A, zer A = n → P A := by
    intro n
    induction n using Nat.strongRecOn with
    | ind n ih =>
      intro A hA
      match hf : L.findSome? (ask A) with
      | none => exact hn A hf
      | some x =>
        by_cases hx : x = 0
        · subst hx; exact hc A hf
        · have := zer_put (findSome_open hf hx)
          exact hs A x hf hx (ih _ (by omega) _ rfl)
  exact fun A => main _ A rfl
theorem put_len (A : List Int) (x : Int) : (put A x).length = A.length := by simp [put]
theorem put_at (A : List Int) (x : Int) (i : Nat) (h : x.natAbs < A.length) : (put A x).getD i 0 = if i = x.natAbs then (if x < 0 then -1 else 1) else A.getD i 0 := by
  unfold put
  rw [List.getD_eq_getElem?_getD, List.getD_eq_getElem?_getD, List.getElem?_set]
  by_cases e : x.natAbs = i
  · subst e; simp [h]
  · rw [if_neg e, if_neg (fun h => e h.symm)]
/-- the other says all that this one says, and where this one is open 1, -1 or nothing -/
def ovr (A B : List Int) : Prop := A.length = B.length ∧ ∀ i, (A.getD i 0 ≠ 0 → B.getD i 0 = A.getD i 0) ∧ (A.getD i 0 = 0 → B.getD i 0 = 0 ∨ B.getD i 0 = 1 ∨ B.getD i 0 = -1)
theorem ovr_refl (A : List Int) : ovr A A := ⟨rfl, fun _ => ⟨fun _ => rfl, fun h => .inl h⟩⟩
theorem ovr_trans {A B C : List Int} (h : ovr A B) (k : ovr B C) : ovr A C := by
  refine ⟨h.1.trans k.1, fun i => ⟨fun e => ?_, fun e => ?_⟩⟩
  · have h1 := (h.2 i).1 e
    rw [(k.2 i).1 (by rw [h1]; exact e), h1]
  · rcases (h.2 i).2 e with h1 | h1 | h1
    · exact (k.2 i).2 h1
    · exact .inr (.inl (by rw [(k.2 i).1 (by omega), h1]))
    · exact .inr (.inr (by rw [(k.2 i).1 (by omega), h1]))
theorem ovr_put {A : List Int} {x : Int} (h : wh A x = 0) : ovr A (put A x) := by
  have h1 := wh_zero (A := A) (x := x) (by omega)
  have h0 := wh_open h
  refine ⟨(put_len A x).symm, fun i => ?_⟩
  rw [put_at A x i h1.2.2]
  by_cases e : i = x.natAbs
  · subst e
    rw [if_pos rfl]
    refine ⟨fun e => absurd h0 e, fun _ => ?_⟩
    split
    · exact .inr (.inr rfl)
    · exact .inr (.inl rfl)
  · rw [if_neg e]; exact ⟨fun _ => rfl, fun e => .inl e⟩
theorem ovr_ext {A B : List Int} (h : ovr A B) (k : ovr B A) : A = B := by
  refine List.ext_getElem h.1 (fun i h1 h2 => ?_)
  have e1 := h.2 i
  have e2 := k.2 i
  have g1 : A.getD i 0 = A[i] := by rw [List.getD_eq_getElem?_getD, List.getElem?_eq_getElem h1]; rfl
  have g2 : B.getD i 0 = B[i] := by rw [List.getD_eq_getElem?_getD, List.getElem?_eq_getElem h2]; rfl
  rw [g1, g2] at e1
  rw [g1, g2] at e2
  by_cases h0 : A[i] = 0
  · by_cases h9 : B[i] = 0
    · omega
    · exact e2.1 h9
  · exact (e1.1 h0).symm
theorem wh_ovr {A B : List Int} (h : ovr A B) (x : Int) (hx : wh A x ≠ 0) : wh B x = wh A x := by
  unfold wh at hx ⊢
  by_cases h0 : x.natAbs = 0 ∨ A.length ≤ x.natAbs
  · rw [if_pos h0, if_pos (by rw [← h.1]; exact h0)]
  · rw [if_neg h0] at hx ⊢
    rw [if_neg (by rw [← h.1]; exact h0)]
    by_cases h9 : A.getD x.natAbs 0 = 0
    · rw [if_pos h9] at hx; exact absurd rfl hx
    · rw [(h.2 _).1 h9]
theorem wh_ovr0 {A B : List Int} (h : ovr A B) (x : Int) (hx : wh B x = 0) : wh A x = 0 := by
  by_cases h0 : wh A x = 0
  · exact h0
  · rw [wh_ovr h x h0] at hx; exact hx
def closed (L : List (List Int)) (A : List Int) : Prop := ∀ c ∈ L, okC A c
theorem closed_iff {L : List (List Int)} {A : List Int} : closed L A ↔ L.findSome? (ask A) = none := by
  rw [List.findSome?_eq_none_iff]
  exact ⟨fun h c hc => ask_none.2 (h c hc), fun h c hc => ask_none.1 (h c hc)⟩
theorem sign_of {B : List Int} {x : Int} (h : wh B x = 1) : 0 < B.getD x.natAbs 0 ∧ 0 < x ∨ B.getD x.natAbs 0 < 0 ∧ x < 0 := by
  have h1 := wh_zero (A := B) (x := x) (by omega)
  unfold wh at h
  rw [if_neg (by omega)] at h
  by_cases h0 : B.getD x.natAbs 0 = 0
  · rw [if_pos h0] at h; omega
  · rw [if_neg h0] at h
    by_cases h2 : (0 < B.getD x.natAbs 0) = (0 < x)
    · by_cases h3 : 0 < x
      · exact .inl ⟨h2.symm ▸ h3, h3⟩
      · have h4 : ¬ 0 < B.getD x.natAbs 0 := fun h => h3 (h2 ▸ h)
        exact .inr ⟨by omega, by omega⟩
    · rw [if_neg h2] at h; omega
/-- what a clause asks for is so in each closed one that says more -/
theorem asked_so {A B c : List Int} {x : Int} (h : ask A c = some x) (ho : ovr A B) (hc : okC B c) : x ≠ 0 ∧ ovr (put A x) B := by
  obtain ⟨h1, h2, h3⟩ := ask_some h
  rcases hc with ⟨y, hy, e⟩ | ⟨y, hy, z, hz, hne, e1, e2⟩
  · have hA : wh A y = 0 := by
      by_cases h0 : wh A y = 0
      · exact h0
      · rw [wh_ovr ho y h0] at e; exact absurd e (h2 y hy)
    have hyx := h3 y hy hA
    subst hyx
    have hz := wh_zero (A := A) (x := y) (by omega)
    have hw := wh_open hA
    have hs := sign_of e
    refine ⟨hz.1, (put_len A y).trans ho.1, fun i => ?_⟩
    rw [put_at A y i hz.2.2]
    by_cases ei : i = y.natAbs
    · subst ei
      rw [if_pos rfl]
      have h4 := (ho.2 y.natAbs).2 hw
      constructor
      · intro _
        split <;> omega
      · intro h5
        split at h5 <;> omega
    · rw [if_neg ei]; exact ho.2 i
  · have hy0 := h3 y hy (wh_ovr0 ho y e1)
    have hz0 := h3 z hz (wh_ovr0 ho z e2)
    exact absurd (hy0.trans hz0.symm) hne
/-- what follows is the least closed one -/
theorem unit_least {L : List (List Int)} {B : List Int} (hB : closed L B) : ∀ A, ovr A B → (unit L A).2 = false ∧ ovr (unit L A).1 B := by
  refine unit_ind (L := L) (fun A h ho => ?_) (fun A h ho => ?_) (fun A x h hx ih ho => ?_)
  · rw [unit_none h]; exact ⟨rfl, ho⟩
  · obtain ⟨c, hc, e⟩ := List.exists_of_findSome?_eq_some h
    exact absurd rfl (asked_so e ho (hB c hc)).1
  · obtain ⟨c, hc, e⟩ := List.exists_of_findSome?_eq_some h
    rw [unit_step h hx]
    exact ih (asked_so e ho (hB c hc)).2
theorem unit_ovr {L : List (List Int)} : ∀ A, ovr A (unit L A).1 := by
  refine unit_ind (L := L) (fun A h => ?_) (fun A h => ?_) (fun A x h hx ih => ?_)
  · rw [unit_none h]; exact ovr_refl A
  · rw [unit_conf h]; exact ovr_refl A
  · rw [unit_step h hx]
    exact ovr_trans (ovr_put (findSome_open h hx)) ih
theorem unit_closed {L : List (List Int)} : ∀ A, (unit L A).2 = false → closed L (unit L A).1 := by
  refine unit_ind (L := L) (fun A h => ?_) (fun A h => ?_) (fun A x h hx ih => ?_)
  · rw [unit_none h]; exact fun _ => closed_iff.2 h
  · rw [unit_conf h]; exact fun h => by cases h
  · rw [unit_step h hx]; exact ih
/-- a conflict: some clause has neither a true literal nor an open one -/
theorem unit_dead {L : List (List Int)} : ∀ A, (unit L A).2 = true → ∃ c ∈ L, ∀ x ∈ c, wh (unit L A).1 x = -1 := by
  refine unit_ind (L := L) (fun A h => ?_) (fun A h => ?_) (fun A x h hx ih => ?_)
  · rw [unit_none h]; exact fun h => by cases h
  · rw [unit_conf h]
    intro _
    obtain ⟨c, hc, e⟩ := List.exists_of_findSome?_eq_some h
    obtain ⟨h1, h2, h3⟩ := ask_some e
    refine ⟨c, hc, fun x hx => ?_⟩
    rcases wh_cases A x with h4 | h4 | h4
    · exact absurd h4 (h2 x hx)
    · exact absurd (h3 x hx h4) (wh_zero (A := A) (x := x) (by omega)).1
    · exact h4
  · rw [unit_step h hx]; exact ih
/-- the same closed ones: the same follows -/
theorem unit_same {L M : List (List Int)} (A : List Int) (h : ∀ B, closed L B ↔ closed M B) : (unit L A).2 = (unit M A).2 ∧ ((unit L A).2 = false → (unit L A).1 = (unit M A).1) := by
  have key : ∀ {L M : List (List Int)}, (∀ B, closed L B → closed M B) → (unit L A).2 = false → (unit M A).2 = false ∧ ovr (unit M A).1 (unit L A).1 :=
    fun h e => unit_least (h _ (unit_closed A e)) A (unit_ovr A)
  have k1 := key (fun B => (h B).1)
  have k2 := key (fun B => (h B).2)
  cases e : (unit L A).2 with
  | false => exact ⟨(k1 e).1.symm, fun _ => ovr_ext (k2 (k1 e).1).2 (k1 e).2⟩
  | true =>
    refine ⟨?_, fun h => by cases h⟩
    cases e' : (unit M A).2 with
    | false => rw [(k2 e').1] at e; cases e
    | true => rfl
/-- fewer closed ones: no less follows -/
theorem unit_more {L M : List (List Int)} (A : List Int) (h : ∀ B, closed L B → closed M B) (e : (unit L A).2 = false) : (unit M A).2 = false ∧ ovr (unit M A).1 (unit L A).1 :=
  unit_least (h _ (unit_closed A e)) A (unit_ovr A)
/-- the most that a clause's literal is; the least of all -/
def best (A c : List Int) : Int := c.foldl (fun m x => max m (wh A x)) (-1)
def evl (L : List (List Int)) (A : List Int) : Int := L.foldl (fun m c => min m (best A c)) 1
theorem foldl_max (A : List Int) : ∀ (c : List Int) (m : Int), -1 ≤ m → m ≤ 1 → (c.foldl (fun m x => max m (wh A x)) m = 1 ↔ m = 1 ∨ ∃ x ∈ c, wh A x = 1) ∧ (c.foldl (fun m x => max m (wh A x)) m = -1 ↔ m = -1 ∧ ∀ x ∈ c, wh A x = -1) ∧ -1 ≤ c.foldl (fun m x => max m (wh A x)) m ∧ c.foldl (fun m x => max m (wh A x)) m ≤ 1 := by
  intro c
  induction c with
  | nil => intro m h1 h2; simp [h1, h2]
  | cons z c ih =>
    intro m h1 h2
    have hz := wh_cases A z
    obtain ⟨i1, i2, i3, i4⟩ := ih (max m (wh A z)) (by omega) (by omega)
    rw [List.foldl_cons]
    refine ⟨?_, ?_, i3, i4⟩
    · rw [i1]
      simp only [List.mem_cons, exists_eq_or_imp]
      clear i1 i2 i3 i4 ih
      generalize (∃ x, x ∈ c ∧ wh A x = 1) = Q
      generalize wh A z = k at *
      constructor
      · rintro (h | h)
        · rcases (show m = 1 ∨ k = 1 by omega) with h | h
          · exact .inl h
          · exact .inr (.inl h)
        · exact .inr (.inr h)
      · rintro (h | h | h)
        · left; omega
        · left; omega
        · exact .inr h
    · rw [i2]
      simp only [List.mem_cons, forall_eq_or_imp]
      constructor
      · rintro ⟨h, k⟩; exact ⟨by omega, by omega, k⟩
      · rintro ⟨h, k, l⟩; exact ⟨by omega, l⟩
theorem best_spec (A c : List Int) : (best A c = 1 ↔ ∃ x ∈ c, wh A x = 1) ∧ (best A c = -1 ↔ ∀ x ∈ c, wh A x = -1) ∧ -1 ≤ best A c ∧ best A c ≤ 1 := by
  obtain ⟨h1, h2, h3, h4⟩ := foldl_max A c (-1) (by omega) (by omega)
  exact ⟨by unfold best; rw [h1]; simp, by unfold best; rw [h2]; simp, h3, h4⟩
theorem foldl_min (A : List Int) : ∀ (L : List (List Int)) (m : Int), -1 ≤ m → m ≤ 1 → (L.foldl (fun m c => min m (best A c)) m = 1 ↔ m = 1 ∧ ∀ c ∈ L, best A c = 1) ∧ (L.foldl (fun m c => min m (best A c)) m = -1 ↔ m = -1 ∨ ∃ c ∈ L, best A c = -1) ∧ -1 ≤ L.foldl (fun m c => min m (best A c)) m ∧ L.foldl (fun m c => min m (best A c)) m ≤ 1 := by
  intro L
  induction L with
  | nil => intro m h1 h2; simp [h1, h2]
  | cons z c ih =>
    intro m h1 h2
    have hz := (best_spec A z).2.2
    obtain ⟨i1, i2, i3, i4⟩ := ih (min m (best A z)) (by omega) (by omega)
    rw [List.foldl_cons]
    refine ⟨?_, ?_, i3, i4⟩
    · rw [i1]
      simp only [List.mem_cons, forall_eq_or_imp]
      constructor
      · rintro ⟨h, k⟩; exact ⟨by omega, by omega, k⟩
      · rintro ⟨h, k, l⟩; exact ⟨by omega, l⟩
    · rw [i2]
      simp only [List.mem_cons, exists_eq_or_imp]
      constructor
      · rintro (h | h)
        · rcases (show m = -1 ∨ best A z = -1 by omega) with h | h
          · exact .inl h
          · exact .inr (.inl h)
        · exact .inr (.inr h)
      · rintro (h | h | h)
        · left; omega
        · left; omega
        · exact .inr h
theorem evl_spec (L : List (List Int)) (A : List Int) : (evl L A = 1 ↔ ∀ c ∈ L, ∃ x ∈ c, wh A x = 1) ∧ (evl L A = -1 ↔ ∃ c ∈ L, ∀ x ∈ c, wh A x = -1) ∧ -1 ≤ evl L A ∧ evl L A ≤ 1 := by
  obtain ⟨h1, h2, h3, h4⟩ := foldl_min A L 1 (by omega) (by omega)
  refine ⟨?_, ?_, h3, h4⟩
  · unfold evl
    rw [h1]
    simp only [true_and, (best_spec A _).1]
  · unfold evl
    rw [h2]
    simp only [(best_spec A _).2.1]
    simp
end Go.Proofs.Ytilhamnibdjfaaa
