/-
  Names and errors: what has a value has all its names; where a name is missing there is none.
-/
import Derived.Test.YtlobffjgkhcjbaaDoorEvI
import Derived.Test.YtlobffjgkhcjbaaDoorTmJ
namespace Go.Proofs.YtlobffjgkhcjbaaDoor
open Go.RowKit

/-- is a name there, with a value of its sort? -/
def thereB (W : Wd) (x : ByteArray × Int) : Bool := (look W x.1 (shRow x.2.toNat).sort).isSome
theorem varss_mem {x : ByteArray × Int} : ∀ {ks : List Tm}, x ∈ Tm.varss ks ↔ ∃ k ∈ ks, x ∈ k.vars
  | [] => by simp [Tm.varss]
  | k :: ks => by simp [Tm.varss, varss_mem (ks := ks)]
theorem evs_ok_all {W : Wd} : ∀ {ks : List Tm} {vs : List Vv}, evs W ks = .ok vs → ∀ k ∈ ks, ∃ v, ev W k = .ok v
  | [], _, _, k, hk => by cases hk
  | k0 :: ks, vs, h, k, hk => by
    simp only [evs] at h
    split at h
    · cases h
    · rename_i v hv
      split at h
      · cases h
      · rename_i us hu
        rcases List.mem_cons.1 hk with rfl | hk
        · exact ⟨v, hv⟩
        · exact evs_ok_all hu k hk
theorem evs_err_ex {W : Wd} {e : Int} : ∀ {ks : List Tm}, evs W ks = .error e → ∃ k ∈ ks, ev W k = .error e
  | [], h => by cases h
  | k0 :: ks, h => by
    simp only [evs] at h
    split at h
    · rename_i e' hv
      cases h
      exact ⟨k0, by simp, hv⟩
    · split at h
      · rename_i e' hu
        cases h
        obtain ⟨k, hk, hk'⟩ := evs_err_ex hu
        exact ⟨k, by simp [hk], hk'⟩
      · cases h
theorem fitE_err {n e : Int} (h : fitE n = .error e) : e = 5 := by
  unfold fitE at h
  split at h
  · cases h
  · cases h; rfl
/-- only names make the error of names -/
theorem app_err {W : Wd} {j : Nat} {nm : ByteArray} {n : Int} {vs : List Vv} (h : app W j nm n vs = .error 4) : j = 2 ∨ j = 7 ∨ j = 14 ∨ j = 15 := by
  unfold app at h
  split at h <;> first | omega | (cases h; done) | (have := fitE_err h; omega) | simp at h
theorem app_name {W : Wd} {j : Nat} {nm : ByteArray} {n : Int} (h : j = 2 ∨ j = 7 ∨ j = 14 ∨ j = 15) (r : Except Int Vv) (hr : app W j nm n [] = r) : (∃ v, r = .ok v ∧ (look W nm (shRow j).sort).isSome = true) ∨ (r = .error 4 ∧ (look W nm (shRow j).sort).isSome = false) := by
  subst hr
  rcases h with rfl | rfl | rfl | rfl
  · show _ ∨ _
    cases hl : look W nm 1 with
    | none => exact .inr ⟨by show lookE (look W nm 1) _ = _; rw [hl]; rfl, by show (look W nm 1).isSome = false; rw [hl]; rfl⟩
    | some v => exact .inl ⟨_, by show lookE (look W nm 1) _ = _; rw [hl]; rfl, by show (look W nm 1).isSome = true; rw [hl]; rfl⟩
  · cases hl : look W nm 2 with
    | none => exact .inr ⟨by show lookE (look W nm 2) _ = _; rw [hl]; rfl, by show (look W nm 2).isSome = false; rw [hl]; rfl⟩
    | some v => exact .inl ⟨_, by show lookE (look W nm 2) _ = _; rw [hl]; rfl, by show (look W nm 2).isSome = true; rw [hl]; rfl⟩
  · cases hl : look W nm 3 with
    | none => exact .inr ⟨by show lookE (look W nm 3) _ = _; rw [hl]; rfl, by show (look W nm 3).isSome = false; rw [hl]; rfl⟩
    | some v => exact .inl ⟨_, by show lookE (look W nm 3) _ = _; rw [hl]; rfl, by show (look W nm 3).isSome = true; rw [hl]; rfl⟩
  · cases hl : look W nm 4 with
    | none => exact .inr ⟨by show lookE (look W nm 4) _ = _; rw [hl]; rfl, by show (look W nm 4).isSome = false; rw [hl]; rfl⟩
    | some v => exact .inl ⟨_, by show lookE (look W nm 4) _ = _; rw [hl]; rfl, by show (look W nm 4).isSome = true; rw [hl]; rfl⟩
theorem name_ops : ∀ j, j < 29 → (shRow j).name = true → (j = 2 ∨ j = 7 ∨ j = 14 ∨ j = 15) ∧ (shRow j).many = false ∧ (shRow j).count = 0 := by decide
theorem name_ops' : ∀ j, (j = 2 ∨ j = 7 ∨ j = 14 ∨ j = 15) → (shRow j).name = true := by
  intro j h; rcases h with rfl | rfl | rfl | rfl <;> rfl
theorem ev_names {W : Wd} : ∀ t : Tm, t.srt ≠ 0 → ((∃ v, ev W t = .ok v) → ∀ x ∈ t.vars, thereB W x = true) ∧ (ev W t = .error 4 → ∃ x ∈ t.vars, thereB W x = false) := by
  intro t
  induction t using Tm.ind with
  | h t ih =>
    intro hs
    obtain ⟨j, hj, j1, j2, -⟩ := srt_form hs
    obtain ⟨-, hk⟩ := srt_ops hs
    have ho : t.op.toNat = j := by omega
    cases hn : (shRow j).name
    · have hv : t.vars = Tm.varss t.ks := by rw [vars_eq, ho, hn]; rfl
      rw [hv]
      refine ⟨fun ⟨v, h⟩ x hx => ?_, fun h => ?_⟩
      · obtain ⟨k, hkm, hxk⟩ := varss_mem.1 hx
        rw [ev_eq] at h
        split at h
        · cases h
        · rename_i vs hvs
          exact (ih k hkm (hk k hkm)).1 (evs_ok_all hvs k hkm) x hxk
      · rw [ev_eq] at h
        split at h
        · rename_i e he
          cases h
          obtain ⟨k, hkm, hke⟩ := evs_err_ex he
          obtain ⟨x, hx, hx'⟩ := (ih k hkm (hk k hkm)).2 hke
          exact ⟨x, varss_mem.2 ⟨k, hkm, hx⟩, hx'⟩
        · have := app_err h
          rw [ho] at this
          rw [name_ops' j this] at hn
          cases hn
    · obtain ⟨h4, hm, hc⟩ := name_ops j (by omega) hn
      obtain ⟨hks, -⟩ := form0 j hs hj hm hc
      have hv : t.vars = [(t.nm, t.op)] := by rw [vars_eq, ho, hn, hks]; rfl
      rw [hv]
      have ha := app_name (W := W) (nm := t.nm) (n := t.n) h4 (ev W t) (by rw [ev0 hks, ho])
      have ht : thereB W (t.nm, t.op) = (look W t.nm (shRow j).sort).isSome := by unfold thereB; simp only; rw [ho]
      refine ⟨fun ⟨v, h⟩ x hx => ?_, fun h => ?_⟩
      · rw [List.mem_singleton] at hx
        subst hx
        rcases ha with ⟨v', h1, h2⟩ | ⟨h1, h2⟩
        · rw [ht]; exact h2
        · rw [h] at h1; cases h1
      · refine ⟨_, List.mem_singleton.2 rfl, ?_⟩
        rcases ha with ⟨v', h1, h2⟩ | ⟨h1, h2⟩
        · rw [h] at h1; cases h1
        · rw [ht]; exact h2
end Go.Proofs.YtlobffjgkhcjbaaDoor
