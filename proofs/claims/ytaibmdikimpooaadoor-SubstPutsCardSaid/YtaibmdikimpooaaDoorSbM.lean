/-
  All names of some terms, counted: subst.namesOf.
-/
import Derived.Maps.OwnOps
import Derived.StringKeys
import Derived.Test.YtaibmdikimpooaaDoorSbB
import Derived.Test.YtaibmdikimpooaaDoorSbC
namespace Go.Proofs.YtaibmdikimpooaaDoor
open Go.RowKit Go.Maps

theorem snodup_len : ∀ (L1 L : List Nm), L1.Nodup → (∀ x ∈ L1, x ∈ L) → L1.length ≤ L.length
  | [], _, _, _ => Nat.zero_le _
  | x :: xs, L, hn, hs => by
    rw [List.nodup_cons] at hn
    have hx := hs x (by simp)
    obtain ⟨s, r, rfl⟩ := List.append_of_mem hx
    have := snodup_len xs (s ++ r) hn.2 (fun y hy => by
      have h1 := hs y (by simp [hy])
      rw [List.mem_append, List.mem_cons] at h1
      rw [List.mem_append]
      rcases h1 with h1 | h1 | h1
      · exact .inl h1
      · subst h1; exact absurd hy hn.1
      · exact .inr h1)
    simp only [List.length_append, List.length_cons] at this ⊢; omega
theorem snames_nodup {t : Tm} {L : List Nm} (h : NamesOf t L) : L.Nodup := by
  refine List.Pairwise.imp (fun {a b} hab => ?_) h.1
  intro e
  subst e
  rcases hab with h1 | ⟨-, h1⟩
  · exact List.lt_irrefl _ h1
  · omega
theorem vars_size {w : World} {B : Nat} : ∀ {t : Tm}, TIn w B t → ∀ x ∈ t.vars, x.1.size ≤ maxLen := by
  intro t
  induction t using Tm.ind with
  | h t ih =>
    intro h x hx
    rw [vars_eq] at hx
    cases h with
    | mk _ ho hn hsz hc hm hk hi =>
      rcases List.mem_append.1 hx with hx | hx
      · split at hx
        · rw [List.mem_singleton.1 hx]; exact hsz
        · cases hx
      · have hs : ∀ ks : List Tm, x ∈ Tm.varss ks → ∃ k ∈ ks, x ∈ k.vars := by
          intro ks
          induction ks with
          | nil => intro h; simp [Tm.varss] at h
          | cons a l ihl =>
            intro h
            simp only [Tm.varss, List.mem_append] at h
            rcases h with h | h
            · exact ⟨a, by simp, h⟩
            · obtain ⟨k, hk, h⟩ := ihl h
              exact ⟨k, by simp [hk], h⟩
        obtain ⟨k, hk', hx⟩ := hs t.ks hx
        exact ih k hk' (hi k hk') x hx
/-- Names, of any term, and what is in them -/
theorem snames_any (t : Tm) (w : World) (hin : TIn w w.heap.size t) (hS : Shps w) :
    Calls Tryd.prog 14 #[t.val] w fun e w' => (∃ (L : List Nm) (v : Value), e = .returned v ∧ w'.ownsRow w.heap.size 38 5 v L.length (asgs L) ∧ L.length ≤ 2000 ∧ (∀ x ∈ L, x.1.size ≤ maxLen) ∧ ∀ nm : ByteArray, (∀ x ∈ L, x.1 ≠ nm) ↔ freeB t nm = false) ∧ Below w.heap.size w w' := by
  have hb : ∀ (x : Nm) (nm : ByteArray), (x.1.toList == nm.toList) = true ↔ x.1 = nm := fun x nm => by
    rw [beq_iff_eq, ByteArray.toList_eq, ByteArray.toList_eq]
    exact ⟨fun h => Go.WideShapes.bytes_inj h, fun h => by rw [h]⟩
  by_cases he : errR t = 0
  · refine (names_any t w hin hS he).mono ?_
    rintro e w' ⟨⟨L, v, h1, h2, h3⟩, hb'⟩
    have hz : t.size ≤ 2000 := by
      unfold errR fullB at he
      split at he
      · cases he
      · rename_i hf
        simp only [Bool.or_eq_true, decide_eq_true_eq, not_or] at hf
        omega
    refine ⟨⟨L, v, h1, h2, ?_, fun x hx => vars_size hin x ((h3.2 x).1 hx), fun nm => ?_⟩, hb'⟩
    · have := snodup_len L t.vars (snames_nodup h3) (fun x hx => (h3.2 x).1 hx)
      have := vars_le t
      omega
    · unfold freeB
      rw [decide_eq_true he, Bool.true_and, List.any_eq_false]
      constructor
      · intro h x hx e
        exact h x ((h3.2 x).2 hx) ((hb x nm).1 e)
      · intro h x hx e
        exact h x ((h3.2 x).1 hx) ((hb x nm).2 e)
  · refine (names_wrong t w hin hS he).mono ?_
    rintro e w' ⟨h1, hb'⟩
    refine ⟨⟨[], _, h1, World.ownsRow_nil _ _ _ _, by simp, fun x hx => (by cases hx), fun nm => ?_⟩, hb'⟩
    unfold freeB
    rw [decide_eq_false he]
    simp
/-- block b is a map of texts to numbers -/
def NMap (w : World) (b n : Nat) (f : ByteArray → Int) : Prop :=
  ∃ D : DataW Unit, w.ownsMap Tryd.prog 9 (plainElem Tryd.prog 3) b n D ∧ ∀ s : ByteArray, D.atKey (.string s.data.toList) (.lit (.int .i64 0)) = .lit (.int .i64 (f s))
theorem NMap.made (w : World) : NMap (w.alloc (.map #[] 0)) w.heap.size 0 (fun _ => 0) :=
  ⟨.map [], World.ownsMap_made w _ _ _, fun _ => rfl⟩
theorem str_keyed : Maps.Keyed Tryd.prog 9 := string_keyed Tryd.underlying9
theorem str_key {s : ByteArray} (hs : s.size ≤ maxLen) : keyOf Tryd.prog 9 (.string s) = some (.string s.data.toList) := Go.WideMaps.keyOf_string_mk Tryd.underlying9 hs
theorem int_zero (w : World) : (zeroValue 3).run Tryd.prog w = .ok (.int .i64 0) w := by
  obtain ⟨i0, hi0, hz0⟩ : ∃ i, Tryd.prog.info? 3 = some i ∧ i.zero = some (.int .i64 0) := by
    have h : (Tryd.prog.info? 3).map (fun i => i.zero) = some (some (.int .i64 0)) := by kernel_rfl
    obtain ⟨i, hi, he⟩ := Option.map_eq_some_iff.1 h
    exact ⟨i, hi, he⟩
  simp [zeroValue, typeInfo, hi0, hz0, go_sem]
/-- what a map of texts to numbers has -/
theorem NMap.look {w : World} {b n : Nat} {f : ByteArray → Int} (h : NMap w b n f) {s : ByteArray} (hs : s.size ≤ maxLen) :
    (Instr.lookup 69 (.map (some b)) (.string s) false).run Tryd.prog w = .ok (.int .i64 (f s)) w := by
  obtain ⟨D, hD, hf⟩ := h
  obtain ⟨c, hrun, hat, -⟩ := hD.lookup_int str_keyed Tryd.underlying69 Tryd.underlying3 (int_zero w) (str_key hs)
  rw [hf s] at hat
  cases hat
  exact hrun
theorem NMap.put {w' : World} {b n : Nat} {f : ByteArray → Int} {D : DataW Unit} {s : ByteArray} {v : Int} (hm : IsMap D) (hf : ∀ s : ByteArray, D.atKey (.string s.data.toList) (.lit (.int .i64 0)) = .lit (.int .i64 (f s))) (hs : s.size ≤ maxLen)
    (hD : w'.ownsMap Tryd.prog 9 (plainElem Tryd.prog 3) b (n + 1) (D.put (.string s.data.toList) (.lit (.int .i64 v)))) : NMap w' b (n + 1) (fun x => if x = s then v else f x) := by
  refine ⟨_, hD, fun x => ?_⟩
  show _ = DataW.lit (Lit.int .i64 (if x = s then v else f x))
  by_cases e : x = s
  · subst e
    rw [if_pos rfl, atKey_put_same hm (str_keyed.key (str_key hs))]
  · have hne : (Lit.string x.data.toList) ≠ .string s.data.toList := by
      intro h
      injection h with h
      exact e (Go.WideShapes.bytes_inj h)
    rw [if_neg e, atKey_put_other hne, hf x]
theorem NMap.later {w w' : World} {b n : Nat} {f : ByteArray → Int} (h : NMap w b n f) (hb : Below w.heap.size w w') : NMap w' b n f := by
  obtain ⟨D, ⟨es, clock, he, hr⟩, hf⟩ := h
  refine ⟨D, ⟨es, clock, ?_, hr⟩, hf⟩
  rw [hb.block b (Array.getElem?_eq_some_iff.1 he).1]
  exact he
/-- a row of terms that can be read -/
def SbTs (w : World) (v : Value) (ts : List Tm) : Prop := ∃ a c, v = .slice a ts.length c ∧ ∀ j (h : j < ts.length), ∃ b o, a = some ⟨b, o, none⟩ ∧ b < w.heap.size ∧ Four w b (o + j * 4) ts[j]
theorem SbTs.later {w w' : World} {v : Value} {ts : List Tm} (h : SbTs w v ts) (hb : Below w.heap.size w w') : SbTs w' v ts := by
  obtain ⟨a, c, e, hr⟩ := h
  refine ⟨a, c, e, fun j hj => ?_⟩
  obtain ⟨b, o, e, hb1, f⟩ := hr j hj
  exact ⟨b, o, e, Nat.lt_of_lt_of_le hb1 hb.size, f.later hb⟩
/-- what a count of names says -/
def CntP (f : ByteArray → Int) (n : Nat) (ts : List Tm) : Prop := ∀ s, 0 ≤ f s ∧ f s ≤ n ∧ (f s = 0 ↔ ∀ t ∈ ts, freeB t s = false)
def CntQ (f f' : ByteArray → Int) (n j : Nat) (L : List Nm) : Prop := ∀ s, 0 ≤ f' s ∧ f' s ≤ n ∧ (f' s = 0 ↔ f s = 0 ∧ ∀ i, i < j → (L.getD i noNm).1 ≠ s)
theorem CntQ.start {f : ByteArray → Int} {n : Nat} {ts : List Tm} (h : CntP f n ts) (L : List Nm) : CntQ f f n 0 L := fun s => ⟨(h s).1, (h s).2.1, by simp⟩
theorem CntQ.step {f f' : ByteArray → Int} {n j : Nat} {L : List Nm} (h : CntQ f f' n j L) : CntQ f (fun x => if x = (L.getD j noNm).1 then f' (L.getD j noNm).1 + 1 else f' x) (n + 1) (j + 1) L := by
  intro s
  show 0 ≤ (if s = _ then _ else _) ∧ (if s = _ then _ else _) ≤ _ ∧ ((if s = _ then _ else _) = 0 ↔ _)
  by_cases e : s = (L.getD j noNm).1
  · rw [if_pos e]
    obtain ⟨h1, h2, -⟩ := h (L.getD j noNm).1
    refine ⟨by omega, by omega, ⟨fun h => by omega, fun ⟨_, h⟩ => absurd e.symm (h j (by omega))⟩⟩
  · rw [if_neg e]
    obtain ⟨h1, h2, h3⟩ := h s
    refine ⟨h1, by omega, ?_⟩
    rw [h3]
    constructor
    · rintro ⟨a, b⟩
      refine ⟨a, fun i hi => ?_⟩
      by_cases e2 : i = j
      · rw [e2]; exact fun h => e h.symm
      · exact b i (by omega)
    · rintro ⟨a, b⟩
      exact ⟨a, fun i hi => b i (by omega)⟩
theorem CntQ.fin {f f' : ByteArray → Int} {n n0 : Nat} {L : List Nm} {ts : List Tm} {t : Tm} (h0 : CntP f n0 ts) (h : CntQ f f' n L.length L) (hL : ∀ nm : ByteArray, (∀ x ∈ L, x.1 ≠ nm) ↔ freeB t nm = false) : CntP f' n (ts ++ [t]) := by
  intro s
  obtain ⟨h1, h2, h3⟩ := h s
  refine ⟨h1, h2, ?_⟩
  rw [h3, (h0 s).2.2]
  constructor
  · rintro ⟨a, b⟩ u hu
    rcases List.mem_append.1 hu with hu | hu
    · exact a u hu
    · rw [List.mem_singleton.1 hu]
      refine (hL s).1 (fun x hx => ?_)
      obtain ⟨i, hi, rfl⟩ := (mem_getD L x).1 hx
      exact b i hi
  · intro a
    refine ⟨fun u hu => a u (by simp [hu]), fun i hi => (hL s).2 (a t (by simp)) _ ((mem_getD L _).2 ⟨i, hi, rfl⟩)⟩
/-- what namesOf answers -/
def NmsP (ts : List Tm) (w : World) (e : Ending) (w' : World) : Prop := ∃ n f, e = .returned (.map (some w.heap.size)) ∧ NMap w' w.heap.size n f ∧ CntP f n ts ∧ Below w.heap.size w w'
theorem own_but {w w' : World} {s base e z n : Nat} {v : Value} {xs : List Value} (h : w.ownsRow base e z v n xs) (hb : But s w w') (hs : s < base) : w'.ownsRow base e z v n xs := by
  refine ⟨h.1, ?_⟩
  rcases h.2 with h0 | ⟨g, cap, cur, hv, hbg, hg, hr⟩
  · exact .inl h0
  · exact .inr ⟨g, cap, cur, hv, hbg, by rw [hb.block g (Array.getElem?_eq_some_iff.1 hg).1 (by omega)]; exact hg, hr⟩
end Go.Proofs.YtaibmdikimpooaaDoor
