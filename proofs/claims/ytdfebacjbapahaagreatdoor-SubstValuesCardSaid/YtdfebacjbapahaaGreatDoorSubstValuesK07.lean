/-
  What SubstValues's proof stands on, part 7: SbM, SbN, SbO, TmS.
-/
import Derived.Maps.OwnOps
import Derived.StringKeys
import Derived.Test.YtdfebacjbapahaaGreatDoorSubstValuesK06
import Derived.Test.YtdfebacjbapahaaGreatDoorSubstValuesK02
import Derived.Sort.QuietIn
import Derived.Test.YtdfebacjbapahaaGreatDoorSubstValuesK05
import Derived.BigRegion
import Derived.Deep.RegionHeld2
namespace Go.Proofs.YtdfebacjbapahaaGreatDoor
section
open Go.RowKit Go.Maps

theorem snodup_len : ∀ (L1 L : List Nm), L1.Nodup → (∀ x ∈ L1, x ∈ L) → L1.length ≤ L.length
  | [], _, _, _ => Nat.zero_le _
  | x :: xs, L, hn, hs => by
    rw [List.nodup_cons] at hn
    have hx := hs x (by simp)
    obtain ⟨s, r, rfl⟩ := List.append_of_mem hx
    have := snodup_len xs (s ++ r) hn.2 (fun y hy => by
      have h1 := hs y (by simp [hy])
      rw [List.mem_append, List.mem_cons] at h1
      rw [List.mem_append]
      rcases h1 with h1 | h1 | h1
      · exact .inl h1
      · subst h1; exact absurd hy hn.1
      · exact .inr h1)
    simp only [List.length_append, List.length_cons] at this ⊢; omega
theorem snames_nodup {t : Tm} {L : List Nm} (h : NamesOf t L) : L.Nodup := by
  refine List.Pairwise.imp (fun {a b} hab => ?_) h.1
  intro e
  subst e
  rcases hab with h1 | ⟨-, h1⟩
  · exact List.lt_irrefl _ h1
  · omega
theorem vars_size {w : World} {B : Nat} : ∀ {t : Tm}, TIn w B t → ∀ x ∈ t.vars, x.1.size ≤ maxLen := by
  intro t
  induction t using Tm.ind with
  | h t ih =>
    intro h x hx
    rw [vars_eq] at hx
    cases h with
    | mk _ ho hn hsz hc hm hk hi =>
      rcases List.mem_append.1 hx with hx | hx
      · split at hx
        · rw [List.mem_singleton.1 hx]; exact hsz
        · cases hx
      · have hs : ∀ ks : List Tm, x ∈ Tm.varss ks → ∃ k ∈ ks, x ∈ k.vars := by
          intro ks
          induction ks with
          | nil => intro h; simp [Tm.varss] at h
          | cons a l ihl =>
            intro h
            simp only [Tm.varss, List.mem_append] at h
            rcases h with h | h
            · exact ⟨a, by simp, h⟩
            · obtain ⟨k, hk, h⟩ := ihl h
              exact ⟨k, by simp [hk], h⟩
        obtain ⟨k, hk', hx⟩ := hs t.ks hx
        exact ih k hk' (hi k hk') x hx
/-- Names, of any term, and what is in them -/
theorem snames_any (t : Tm) (w : World) (hin : TIn w w.heap.size t) (hS : Shps w) :
    Calls Tryz.prog 32 #[t.val] w fun e w' => (∃ (L : List Nm) (v : Value), e = .returned v ∧ w'.ownsRow w.heap.size 41 5 v L.length (asgs L) ∧ L.length ≤ 2000 ∧ (∀ x ∈ L, x.1.size ≤ maxLen) ∧ ∀ nm : ByteArray, (∀ x ∈ L, x.1 ≠ nm) ↔ freeB t nm = false) ∧ Below w.heap.size w w' := by
  have hb : ∀ (x : Nm) (nm : ByteArray), (x.1.toList == nm.toList) = true ↔ x.1 = nm := fun x nm => by
    rw [beq_iff_eq, ByteArray.toList_eq, ByteArray.toList_eq]
    exact ⟨fun h => Go.WideShapes.bytes_inj h, fun h => by rw [h]⟩
  by_cases he : errR t = 0
  · refine (names_any t w hin hS he).mono ?_
    rintro e w' ⟨⟨L, v, h1, h2, h3⟩, hb'⟩
    have hz : t.size ≤ 2000 := by
      unfold errR fullB at he
      split at he
      · cases he
      · rename_i hf
        simp only [Bool.or_eq_true, decide_eq_true_eq, not_or] at hf
        omega
    refine ⟨⟨L, v, h1, h2, ?_, fun x hx => vars_size hin x ((h3.2 x).1 hx), fun nm => ?_⟩, hb'⟩
    · have := snodup_len L t.vars (snames_nodup h3) (fun x hx => (h3.2 x).1 hx)
      have := vars_le t
      omega
    · unfold freeB
      rw [decide_eq_true he, Bool.true_and, List.any_eq_false]
      constructor
      · intro h x hx e
        exact h x ((h3.2 x).2 hx) ((hb x nm).1 e)
      · intro h x hx e
        exact h x ((h3.2 x).1 hx) ((hb x nm).2 e)
  · refine (names_wrong t w hin hS he).mono ?_
    rintro e w' ⟨h1, hb'⟩
    refine ⟨⟨[], _, h1, World.ownsRow_nil _ _ _ _, by simp, fun x hx => (by cases hx), fun nm => ?_⟩, hb'⟩
    unfold freeB
    rw [decide_eq_false he]
    simp
/-- block b is a map of texts to numbers -/
def NMap (w : World) (b n : Nat) (f : ByteArray → Int) : Prop :=
  ∃ D : DataW Unit, w.ownsMap Tryz.prog 9 (plainElem Tryz.prog 3) b n D ∧ ∀ s : ByteArray, D.atKey (.string s.data.toList) (.lit (.int .i64 0)) = .lit (.int .i64 (f s))
theorem NMap.made (w : World) : NMap (w.alloc (.map #[] 0)) w.heap.size 0 (fun _ => 0) :=
  ⟨.map [], World.ownsMap_made w _ _ _, fun _ => rfl⟩
theorem str_keyed : Maps.Keyed Tryz.prog 9 := string_keyed Tryz.underlying9
theorem str_key {s : ByteArray} (hs : s.size ≤ maxLen) : keyOf Tryz.prog 9 (.string s) = some (.string s.data.toList) := Go.WideMaps.keyOf_string_mk Tryz.underlying9 hs
theorem int_zero (w : World) : (zeroValue 3).run Tryz.prog w = .ok (.int .i64 0) w := by
  obtain ⟨i0, hi0, hz0⟩ : ∃ i, Tryz.prog.info? 3 = some i ∧ i.zero = some (.int .i64 0) := by
    have h : (Tryz.prog.info? 3).map (fun i => i.zero) = some (some (.int .i64 0)) := by kernel_rfl
    obtain ⟨i, hi, he⟩ := Option.map_eq_some_iff.1 h
    exact ⟨i, hi, he⟩
  simp [zeroValue, typeInfo, hi0, hz0, go_sem]
/-- what a map of texts to numbers has -/
theorem NMap.look {w : World} {b n : Nat} {f : ByteArray → Int} (h : NMap w b n f) {s : ByteArray} (hs : s.size ≤ maxLen) :
    (Instr.lookup 71 (.map (some b)) (.string s) false).run Tryz.prog w = .ok (.int .i64 (f s)) w := by
  obtain ⟨D, hD, hf⟩ := h
  obtain ⟨c, hrun, hat, -⟩ := hD.lookup_int str_keyed Tryz.underlying71 Tryz.underlying3 (int_zero w) (str_key hs)
  rw [hf s] at hat
  cases hat
  exact hrun
theorem NMap.put {w' : World} {b n : Nat} {f : ByteArray → Int} {D : DataW Unit} {s : ByteArray} {v : Int} (hm : IsMap D) (hf : ∀ s : ByteArray, D.atKey (.string s.data.toList) (.lit (.int .i64 0)) = .lit (.int .i64 (f s))) (hs : s.size ≤ maxLen)
    (hD : w'.ownsMap Tryz.prog 9 (plainElem Tryz.prog 3) b (n + 1) (D.put (.string s.data.toList) (.lit (.int .i64 v)))) : NMap w' b (n + 1) (fun x => if x = s then v else f x) := by
  refine ⟨_, hD, fun x => ?_⟩
  show _ = DataW.lit (Lit.int .i64 (if x = s then v else f x))
  by_cases e : x = s
  · subst e
    rw [if_pos rfl, atKey_put_same hm (str_keyed.key (str_key hs))]
  · have hne : (Lit.string x.data.toList) ≠ .string s.data.toList := by
      intro h
      injection h with h
      exact e (Go.WideShapes.bytes_inj h)
    rw [if_neg e, atKey_put_other hne, hf x]
theorem NMap.later {w w' : World} {b n : Nat} {f : ByteArray → Int} (h : NMap w b n f) (hb : Below w.heap.size w w') : NMap w' b n f := by
  obtain ⟨D, ⟨es, clock, he, hr⟩, hf⟩ := h
  refine ⟨D, ⟨es, clock, ?_, hr⟩, hf⟩
  rw [hb.block b (Array.getElem?_eq_some_iff.1 he).1]
  exact he
/-- a row of terms that can be read -/
def SbTs (w : World) (v : Value) (ts : List Tm) : Prop := ∃ a c, v = .slice a ts.length c ∧ ∀ j (h : j < ts.length), ∃ b o, a = some ⟨b, o, none⟩ ∧ b < w.heap.size ∧ Four w b (o + j * 4) ts[j]
theorem SbTs.later {w w' : World} {v : Value} {ts : List Tm} (h : SbTs w v ts) (hb : Below w.heap.size w w') : SbTs w' v ts := by
  obtain ⟨a, c, e, hr⟩ := h
  refine ⟨a, c, e, fun j hj => ?_⟩
  obtain ⟨b, o, e, hb1, f⟩ := hr j hj
  exact ⟨b, o, e, Nat.lt_of_lt_of_le hb1 hb.size, f.later hb⟩
/-- what a count of names says -/
def CntP (f : ByteArray → Int) (n : Nat) (ts : List Tm) : Prop := ∀ s, 0 ≤ f s ∧ f s ≤ n ∧ (f s = 0 ↔ ∀ t ∈ ts, freeB t s = false)
def CntQ (f f' : ByteArray → Int) (n j : Nat) (L : List Nm) : Prop := ∀ s, 0 ≤ f' s ∧ f' s ≤ n ∧ (f' s = 0 ↔ f s = 0 ∧ ∀ i, i < j → (L.getD i noNm).1 ≠ s)
theorem CntQ.start {f : ByteArray → Int} {n : Nat} {ts : List Tm} (h : CntP f n ts) (L : List Nm) : CntQ f f n 0 L := fun s => ⟨(h s).1, (h s).2.1, by simp⟩
theorem CntQ.step {f f' : ByteArray → Int} {n j : Nat} {L : List Nm} (h : CntQ f f' n j L) : CntQ f (fun x => if x = (L.getD j noNm).1 then f' (L.getD j noNm).1 + 1 else f' x) (n + 1) (j + 1) L := by
  intro s
  show 0 ≤ (if s = _ then _ else _) ∧ (if s = _ then _ else _) ≤ _ ∧ ((if s = _ then _ else _) = 0 ↔ _)
  by_cases e : s = (L.getD j noNm).1
  · rw [if_pos e]
    obtain ⟨h1, h2, -⟩ := h (L.getD j noNm).1
    refine ⟨by omega, by omega, ⟨fun h => by omega, fun ⟨_, h⟩ => absurd e.symm (h j (by omega))⟩⟩
  · rw [if_neg e]
    obtain ⟨h1, h2, h3⟩ := h s
    refine ⟨h1, by omega, ?_⟩
    rw [h3]
    constructor
    · rintro ⟨a, b⟩
      refine ⟨a, fun i hi => ?_⟩
      by_cases e2 : i = j
      · rw [e2]; exact fun h => e h.symm
      · exact b i (by omega)
    · rintro ⟨a, b⟩
      exact ⟨a, fun i hi => b i (by omega)⟩
theorem CntQ.fin {f f' : ByteArray → Int} {n n0 : Nat} {L : List Nm} {ts : List Tm} {t : Tm} (h0 : CntP f n0 ts) (h : CntQ f f' n L.length L) (hL : ∀ nm : ByteArray, (∀ x ∈ L, x.1 ≠ nm) ↔ freeB t nm = false) : CntP f' n (ts ++ [t]) := by
  intro s
  obtain ⟨h1, h2, h3⟩ := h s
  refine ⟨h1, h2, ?_⟩
  rw [h3, (h0 s).2.2]
  constructor
  · rintro ⟨a, b⟩ u hu
    rcases List.mem_append.1 hu with hu | hu
    · exact a u hu
    · rw [List.mem_singleton.1 hu]
      refine (hL s).1 (fun x hx => ?_)
      obtain ⟨i, hi, rfl⟩ := (mem_getD L x).1 hx
      exact b i hi
  · intro a
    refine ⟨fun u hu => a u (by simp [hu]), fun i hi => (hL s).2 (a t (by simp)) _ ((mem_getD L _).2 ⟨i, hi, rfl⟩)⟩
/-- what namesOf answers -/
def NmsP (ts : List Tm) (w : World) (e : Ending) (w' : World) : Prop := ∃ n f, e = .returned (.map (some w.heap.size)) ∧ NMap w' w.heap.size n f ∧ CntP f n ts ∧ Below w.heap.size w w'
theorem own_but {w w' : World} {s base e z n : Nat} {v : Value} {xs : List Value} (h : w.ownsRow base e z v n xs) (hb : But s w w') (hs : s < base) : w'.ownsRow base e z v n xs := by
  refine ⟨h.1, ?_⟩
  rcases h.2 with h0 | ⟨g, cap, cur, hv, hbg, hg, hr⟩
  · exact .inl h0
  · exact .inr ⟨g, cap, cur, hv, hbg, by rw [hb.block g (Array.getElem?_eq_some_iff.1 hg).1 (by omega)]; exact hg, hr⟩
end
section
open Go.RowKit Go.Maps

set_option maxRecDepth 100000 in
set_option maxHeartbeats 8000000 in
theorem namesOf_any (ts : List Tm) (sv : Value) (w : World) (hr : SbTs w sv ts) (hl : ts.length ≤ 1000) (hin : ∀ t ∈ ts, TIn w w.heap.size t) (hS : Shps w) : Calls Tryz.prog 33 #[sv] w (NmsP ts w) := by
  have hmm := @run_makeMap Tryz.prog
  have HR := mkHid hr
  have HIN := mkHid hin
  have HS := mkHid hS
  obtain ⟨a, c, rfl, -⟩ := hr
  obtain ⟨n, hn⟩ : ∃ n, ts.length = n := ⟨_, rfl⟩
  have HN := mkHid hn
  rw [hn] at hl ⊢
  clear hin hS hn
  have hn9 : n ≤ 9223372036854775807 := by omega
  have HM0 := mkHid (NMap.made w)
  have HB0 := mkHid (bel_alloc w (.map #[] 0))
  have HC0 : Hid (CntP (fun _ => 0) 0 (ts.take 0)) := fun s => ⟨by simp, by simp, by simp⟩
  go_enter Tryz.func33, Tryz.ntmps33
  go_wp2
  clear hmm
  go_loopw [11] (fun i w' => ∃ (k : Nat) (x : Int) (q : Nat) (f : ByteArray → Int), i = .int .i64 x ∧ x = k ∧ k ≤ n ∧ q ≤ k * 2000 ∧ Hid (NMap w' w.heap.size q f) ∧ Hid (CntP f q (ts.take k)) ∧ Hid (Below w.heap.size w w') ∧ Hid (w.heap.size < w'.heap.size)) (fun i _ => (n - intOf i).toNat)
  case atStart => exact ⟨0, 0, 0, _, rfl, rfl, Nat.zero_le _, Nat.zero_le _, HM0, HC0, HB0, mkHid (by simp)⟩
  case round =>
    clear HM0 HC0 HB0
    obtain ⟨k, x, q, f, rfl, hxk, hk, hq, HM, HC, HB, HSZ⟩ := hrel
    obtain rfl : x = (k : Int) := hxk
    by_cases hlt : k < n
    · have hk' : k < ts.length := by rw [HN.out]; exact hlt
      obtain ⟨a', c', e, hrow⟩ := HR.out.later HB.out
      simp only [Value.slice.injEq] at e
      obtain ⟨rfl, -, rfl⟩ := e
      obtain ⟨b, o, rfl, -, kf⟩ := hrow k hk'
      have hb1 := bel_alloc wr (boxT ts[k])
      have F0 := box_four wr ts[k]
      have NA := mkHid (snames_any ts[k] (wr.alloc (boxT ts[k])) ((HIN.out _ (List.getElem_mem hk')).later (bon HB.out hb1)) (HS.out.later (bon HB.out hb1)))
      have hW : wr.alloc (.cells #[.int .i64 ts[k].op, .string ts[k].nm, .int .i64 ts[k].n, .slice ts[k].a ts[k].ks.length ts[k].c] 24) = wr.alloc (boxT ts[k]) := rfl
      have HT : Hid (ts.take (k + 1) = ts.take k ++ [ts[k]]) := List.take_succ_eq_append_getElem hk'
      have HM1 := mkHid (HM.out.later hb1)
      have HB1 := mkHid (bon HB.out hb1)
      have HSZ1 : Hid (w.heap.size < (wr.alloc (boxT ts[k])).heap.size) := Nat.lt_of_lt_of_le HSZ.out hb1.size
      clear hrow hb1 HM HB HSZ
      generalize ts[k] = t at *
      clear hk'
      generalize wr.alloc (boxT t) = W1 at *
      obtain ⟨g0, g1, g2, g3⟩ := kf
      obtain ⟨u0, u1, u2, u3⟩ := F0
      simp only [Nat.zero_add] at u1 u2 u3
      unfold Tm.val at NA
      have hk2 : (k : Int) < (n : Int) := by omega
      go_wp2_with fail
      ((with_reducible refine NA.out.mono ?_)); rintro e w4 ⟨⟨L, v, rfl, own, hll, hsz, hfr⟩, hb4⟩
      obtain ⟨A, cL, rfl⟩ := own_slice own
      have HOWN := mkHid own
      have HFR := mkHid hfr
      have HSS := mkHid hsz
      have HM4 := mkHid (HM1.out.later hb4)
      have HB4 := mkHid (bon HB1.out hb4)
      have HSZ4 : Hid (w.heap.size < W1.heap.size ∧ W1.heap.size ≤ w4.heap.size) := ⟨HSZ1.out, hb4.size⟩
      have HQ0 := mkHid (CntQ.start HC.out L)
      have HCC := mkHid (fun (f' : ByteArray → Int) (n : Nat) (h : CntQ f f' n L.length L) => CntQ.fin HC.out h hfr)
      clear own hfr hsz NA hb4 u0 u1 u2 u3 hW HM1 HB1 HSZ1 HC g0 g1 g2 g3
      generalize hn' : L.length = m at *
      have HMM := mkHid hn'
      clear hn'
      have hm9 : m ≤ 9223372036854775807 := by omega
      go_wp2
      go_loopw [18] (fun i w' => ∃ (j : Nat) (x : Int) (f' : ByteArray → Int), i = .int .i64 x ∧ x = j ∧ j ≤ m ∧ Hid (NMap w' w.heap.size (q + j) f') ∧ Hid (CntQ f f' (q + j) j L) ∧ Hid (But w.heap.size w4 w')) (fun i _ => (m - intOf i).toNat)
      case atStart => exact ⟨0, 0, _, rfl, rfl, Nat.zero_le _, HM4, HQ0, mkHid (But.refl _ _)⟩
      case round =>
        clear HM4 HQ0
        obtain ⟨j, x, f', rfl, hxj, hj, HM, HQ, HBT⟩ := hrel
        obtain rfl : x = (j : Int) := hxj
        by_cases hlj : j < m
        · have own := own_but HOWN.out HBT.out HSZ4.out.1
          obtain ⟨g, c', e⟩ := own_some own (by omega)
          simp only [Value.slice.injEq, true_and] at e
          obtain ⟨rfl, rfl⟩ := e
          obtain ⟨y0, y1, y2, y3, y4⟩ := own_five own HMM.out j hlj
          have hns := HSS.out (L.getD j noNm) ((mem_getD L _).2 ⟨j, by rw [HMM.out]; exact hlj, rfl⟩)
          have HQ1 := mkHid HQ.out.step
          obtain ⟨hp0, hp1, -⟩ := HQ.out (L.getD j noNm).1
          clear own HQ
          generalize L.getD j noNm = cur at *
          obtain ⟨cn, co⟩ := cur
          dsimp only at y0 y1 y2 y3 y4 hns HQ1 hp0 hp1
          have hb5 := bel_alloc wr (.cells #[.string cn, .int .i64 co, .string cn, .int .i64 0, .slice none 0 0] 41)
          have HM5 := mkHid (HM.out.later hb5)
          have HBT5 := mkHid (HBT.out.trans (But.of hb5))
          have hlook := HM5.out.look hns
          obtain ⟨D, hD, hf⟩ := HM5.out
          have HD := mkHid hD
          have HF := mkHid hf
          have hj2 : (j : Int) < (m : Int) := by omega
          have hv1 : f' cn + 1 ≤ 9223372036854775807 := by omega
          have hv2 : -9223372036854775808 ≤ f' cn + 1 := by omega
          have hqm : q + j < maxLen := by unfold maxLen; omega
          have hwf : (Lit.int .i64 (f' cn + 1)).wf = true := by
            have h1 : IntKind.i64.min = -9223372036854775808 := by decide
            have h2 : IntKind.i64.max = 9223372036854775807 := by decide
            simp only [Lit.wf, h1, h2, Bool.and_eq_true, decide_eq_true_eq]
            omega
          clear hD hf HM hb5 HM5 hp0 hp1
          go_wp2_with (at_mapUpdate; refine wpList_mapUpdate_own _ rfl _ _ _ 71 rfl 9 3 str_keyed Tryz.underlying71 (plainElem Tryz.prog 3) w.heap.size (q + j) D rfl HD.out hqm _ _ _ rfl rfl (str_key hns) _ [] (plainElem_int Tryz.underlying3 hwf) ?_; intro w7 hown7 hgrow7)
          have HM7 := mkHid (NMap.put HD.out.isMap HF.out hns hown7)
          have HBT7 := mkHid (HBT5.out.trans (⟨hgrow7.os, hgrow7.tape, hgrow7.output, hgrow7.size, fun k hk hs => hgrow7.block k hk (by intro e; cases e; exact hs rfl)⟩ : But w.heap.size _ w7))
          go_roundw
          case rel => exact ⟨j + 1, _, _, rfl, by omega, by omega, HM7, HQ1, HBT7⟩
          case measure => simp [intOf]; omega
        · obtain rfl : j = m := by omega
          have HB5 := mkHid (HB4.out.trans (HBT.out.below (Nat.le_refl _) (by have := HSZ4.out; omega)))
          have HS5 : Hid (w.heap.size < wr.heap.size) := by have := HSZ4.out; have := HBT.out.size; show _ < _; omega
          have HC5 := mkHid (HCC.out f' (q + j) HQ.out)
          rw [← HT.out] at HC5
          go_wp2
          go_roundw
          case rel => exact ⟨k + 1, _, q + j, f', rfl, by omega, by omega, by omega, HM, HC5, HB5, HS5⟩
          case measure => simp [intOf]; omega
    · obtain rfl : k = n := by omega
      have htk : ts.take k = ts := List.take_of_length_le (by rw [HN.out]; exact Nat.le_refl _)
      rw [htk] at HC
      clear htk
      go_wp2
      go_ret
      exact ⟨q, f, rfl, HM.out, HC.out, HB.out⟩
end
section
open Go.RowKit Go.Shelf
attribute [local go_sem] Oper.semAt_some

def xN : ByteArray := ⟨#[120]⟩
/-- is a name in none of some terms? -/
def noneB (ts : List Tm) (s : ByteArray) : Bool := ts.all (fun t => !freeB t s)
/-- the fresh name -/
def frN (ts : List Tm) (nm : ByteArray) : ByteArray := (((List.range 101).map (chN nm)).find? (noneB ts)).getD (chN nm 100)
def frS (ts : List Tm) (name : ByteArray) : ByteArray := frN ts (if nameB name then name else xN)
theorem find_first {g : Nat → ByteArray} {p : ByteArray → Bool} {k : Nat} (hk : p (g k) = true) (h : ∀ j, j < k → p (g j) = false) : ∀ n, k < n → ((List.range n).map g).find? p = some (g k)
  | 0, hn => absurd hn (by omega)
  | n + 1, hn => by
    rw [List.range_succ, List.map_append, List.find?_append]
    by_cases e : k < n
    · rw [find_first hk h n e]; rfl
    · obtain rfl : k = n := by omega
      have : ((List.range k).map g).find? p = none := by
        rw [List.find?_eq_none]
        intro x hx
        obtain ⟨j, hj, rfl⟩ := List.mem_map.1 hx
        rw [h j (List.mem_range.1 hj)]; decide
      rw [this]
      simp [hk]
theorem find_none {g : Nat → ByteArray} {p : ByteArray → Bool} {n : Nat} (h : ∀ j, j < n → p (g j) = false) : ((List.range n).map g).find? p = none := by
  rw [List.find?_eq_none]
  intro x hx
  obtain ⟨j, hj, rfl⟩ := List.mem_map.1 hx
  rw [h j (List.mem_range.1 hj)]; decide
theorem frN_at {ts : List Tm} {nm : ByteArray} {k : Nat} (hk : k < 101) (h0 : noneB ts (chN nm k) = true) (h : ∀ j, j < k → noneB ts (chN nm j) = false) : frN ts nm = chN nm k := by
  unfold frN
  rw [find_first h0 h 101 hk]; rfl
theorem frN_last {ts : List Tm} {nm : ByteArray} (h : ∀ j, j < 101 → noneB ts (chN nm j) = false) : frN ts nm = chN nm 100 := by
  unfold frN
  rw [find_none h]; rfl
theorem cnt_none {f : ByteArray → Int} {n : Nat} {ts : List Tm} (h : CntP f n ts) (s : ByteArray) : f s = 0 ↔ noneB ts s = true := by
  rw [(h s).2.2]
  unfold noneB
  rw [List.all_eq_true]
  constructor
  · intro h t ht; rw [h t ht]; rfl
  · intro h t ht
    have := h t ht
    simpa using this
theorem nmap_kept {W W' : World} {b n : Nat} {f : ByteArray → Int} {row : Option Nat} (h : NMap W b n f) (hg : W.grownBy W' row) (hne : some b ≠ row) : NMap W' b n f := by
  obtain ⟨D, hD, hf⟩ := h
  exact ⟨D, hD.kept hg (fun e => hne e), hf⟩
theorem upto_get {α : Type} {f : Nat → α} {k : Nat} {x : α} (h : x ∈ upto f k) : ∃ j, j < k ∧ x = f j := by
  obtain ⟨j, hj, rfl⟩ := List.mem_map.1 h
  exact ⟨j, List.mem_range.1 hj, rfl⟩
/-- what has been tried last -/
def lastN (nm : ByteArray) (pre : List St) : ByteArray := (pre.getLast?.map (fun x => x.1)).getD nm
theorem lastN_snoc (nm : ByteArray) (pre : List St) (x : St) : lastN nm (pre ++ [x]) = x.1 := by simp [lastN]
theorem boxed_later' {W W' : World} {B : Nat} {t : TypeId} {v : Value} (h : Boxed W B t v) (hb : Below W.heap.size W W') : Boxed W' B t v := (hb.block B h.lt).trans h
set_option maxRecDepth 100000 in
set_option maxHeartbeats 4000000 in
theorem fresh_name (ts : List Tm) (sv : Value) (name : ByteArray) (w : World) (hr : SbTs w sv ts) (hl : ts.length ≤ 1000) (hin : ∀ t ∈ ts, TIn w w.heap.size t) (hS : Shps w) (hz : name.size ≤ maxLen) (hg : nameB name = true) :
    Calls Tryz.prog 15 #[sv, .string name] w (fun e w' => e = .returned (.string (frN ts name)) ∧ Below w.heap.size w w') := by
  have hnm : (name).size ≤ 16 := by unfold nameB at hg; simp only [Bool.and_eq_true, decide_eq_true_eq] at hg; exact hg.1.1.2
  have B1 := bel_alloc w (.cells #[.string ⟨#[]⟩] 9)
  have NA := mkHid (name_any name (w.alloc (.cells #[.string ⟨#[]⟩] 9)) hz)
  rw [hg] at NA
  have NO := mkHid (namesOf_any ts sv (w.alloc (.cells #[.string ⟨#[]⟩] 9)) (hr.later B1) hl (fun t ht => (hin t ht).later B1) (hS.later B1))
  have b4 := Boxed.new w 9 (.string ⟨#[]⟩)
  have HB1 := mkHid B1
  have HSZ1 := mkHid (show (w.alloc (.cells #[.string ⟨#[]⟩] 9)).heap.size = w.heap.size + 1 by simp)
  clear hr hl hin hS hz hg B1
  refine (callsIn_wide (n := 20)).1 ?_
  refine callsIn_of_wp_marks Tryz.func15 rfl trivial ?_ rfl
  simp only [Tryz.ntmps15, List.size_toArray, List.length_cons, List.length_nil, Nat.reduceAdd, Nat.reduceSub, Array.replicate_succ, Array.replicate_zero, List.push_toArray, List.append_toArray, List.nil_append, List.cons_append]
  gi_wp2_with (first
    | (refine ⟨trivial, ?_⟩; gi_at_call 9; refine (callsIn_wide.2 NA.out).mono ?_; rintro e w' ⟨rfl, hw⟩; subst hw)
    | (refine ⟨trivial, ?_⟩; gi_at_call 33; refine (callsIn_wide.2 NO.out).mono ?_; rintro e w2 ⟨q, f, rfl, hm, hcn, hb2⟩; have HM := mkHid hm; have HCN := mkHid hcn; have HB2 := mkHid hb2; have HB2x := hb2; clear hm hcn hb2)
    | (refine ⟨trivial, ?_⟩; gi_at_call 34; refine (choi_in _ _ _).mono ?_; rintro e w' ⟨rfl, rfl⟩))
  clear NA NO
  have hm := HM.out
  rw [HSZ1.out] at hm
  have hlt2 : w.heap.size + 1 < w2.heap.size := by
    obtain ⟨D, ⟨es, ck, he, -⟩, -⟩ := hm
    exact (Array.getElem?_eq_some_iff.1 he).1
  have b42 := boxed_later' b4 HB2x
  have hB2 : Below w.heap.size w w2 := bon HB1.out HB2x
  have b5 := ((Boxed.new w2 71 (.map (some (w.heap.size + 1)))).alloc (.cells #[.string name] 9)).alloc (.cells #[.string name] 9)
  have b6 := (Boxed.new (w2.alloc (.cells #[.map (some (w.heap.size + 1))] 71)) 9 (.string name)).alloc (.cells #[.string name] 9)
  have bS := Boxed.new ((w2.alloc (.cells #[.map (some (w.heap.size + 1))] 71)).alloc (.cells #[.string name] 9)) 9 (.string name)
  have b4' := ((b42.alloc (.cells #[.map (some (w.heap.size + 1))] 71)).alloc (.cells #[.string name] 9)).alloc (.cells #[.string name] 9)
  simp only [World.size_alloc] at b5 b6 bS
  have hb3 : Below w2.heap.size w2 (((w2.alloc (.cells #[.map (some (w.heap.size + 1))] 71)).alloc (.cells #[.string name] 9)).alloc (.cells #[.string name] 9)) := bal (bal (bal (Below.refl _ _) _) _) _
  have hm3 := hm.later hb3
  have hB3 := bon hB2 hb3
  have hsz : (((w2.alloc (.cells #[.map (some (w.heap.size + 1))] 71)).alloc (.cells #[.string name] 9)).alloc (.cells #[.string name] 9)).heap.size = w2.heap.size + 3 := by simp
  obtain ⟨W0, hW0⟩ : ∃ W0, (((w2.alloc (.cells #[.map (some (w.heap.size + 1))] 71)).alloc (.cells #[.string name] 9)).alloc (.cells #[.string name] 9)) = W0 := ⟨_, rfl⟩
  rw [hW0] at b4' b5 b6 bS hm3 hB3 hsz ⊢
  clear hW0 hb3 hm b42 b4 hB2 HB2x HB1
  refine wpIn_rangeFunc_ownG rfl (by omega) (gf := 52) (lb := #[.pointer (some ⟨w2.heap.size + 1 + 1, 0, none⟩)]) rfl trivial (enters_of Tryz.func52 (by kernel_rfl) rfl)
    (choi_stops _ (by omega) (w2.heap.size + 1 + 1) w.heap.size name hnm W0 bS) stK_t (stK_b (by omega)) (Below.refl _ _) (fun _ => rfl)
    (fun pre W => ((((Boxed W w.heap.size 9 (.string ⟨#[]⟩) ∧ Boxed W w2.heap.size 71 (.map (some (w.heap.size + 1)))) ∧ Boxed W (w2.heap.size + 1) 9 (.string (lastN name pre))) ∧ NMap W (w.heap.size + 1) q f) ∧ (∀ x ∈ pre, f x.1 ≠ 0)) ∧ Below w.heap.size w W)
    (fun c pre W => (c = .ret ∧ ∃ ini last, pre = ini ++ [last] ∧ (∀ x ∈ ini, f x.1 ≠ 0) ∧ f last.1 = 0 ∧ Boxed W w.heap.size 9 (.string last.1)) ∧ Below w.heap.size w W)
    (OwnFrom.and (OwnFrom.and (OwnFrom.and (OwnFrom.and (OwnFrom.and (Own.from (boxed_own _ _ (fun _ => _)) _) (Own.from (boxed_own _ _ (fun _ => _)) _)) (Own.from (boxed_own _ _ _) _)) (fun s A B row hs hg hr => nmap_kept hs hg (fun e => by have := (hr _ e.symm).1; omega))) (fun s A B row hs hg hr => hs)) (ownFrom_below (Nat.le_refl _) (by omega)))
    (fun c => OwnFrom.and (Own.from (fun s A B row hs hg hr => by obtain ⟨hc, ini, last, e1, e2, e3, e4⟩ := hs; exact ⟨hc, ini, last, e1, e2, e3, boxed_own _ _ (fun (_ : Unit) => _) () A B row e4 hg hr⟩) _) (ownFrom_below (Nat.le_refl _) (by omega)))
    ⟨⟨⟨⟨⟨b4', b5⟩, b6⟩, hm3⟩, fun x hx => (by cases hx)⟩, hB3⟩
    (fun x => { tmps := #[sv, .string name, undef, undef, .pointer (some ⟨w.heap.size, 0, none⟩), .pointer (some ⟨w2.heap.size, 0, none⟩), .pointer (some ⟨w2.heap.size + 1, 0, none⟩), .string x.1, .string name, .bool true, .bool false, sv, .map (some (w.heap.size + 1)), .string name, .string name, .func (.func 52) #[] #[.pointer (some ⟨w2.heap.size + 1 + 1, 0, none⟩)], .string x.1, undef, undef, undef, undef, undef, undef, undef], defers := [] }) ?assign ?body ?done ?stop
  case assign =>
    intro l x W K hK
    gi_wp2
    exact hK
  case body =>
    rintro l pre x W ⟨⟨⟨⟨⟨c4, c5⟩, c6⟩, hmW⟩, hne⟩, hB⟩ _
    have hlook := hmW.look (s := x.1) (by have := x.2; unfold maxLen; omega)
    have k5 := c5.cell
    have k6 := c6.cell
    have j6 := c6.frozen
    have k4 := c4.cell
    have j4 := c4.frozen
    by_cases h0 : f x.1 = 0
    · rw [h0] at hlook
      gi_wp2
      exact ⟨(KeepsOthers.setCell _ _ _).from _, ⟨rfl, pre, x, rfl, hne, h0, c4.set _⟩, hB.setCell (p := ⟨w.heap.size, 0, none⟩) (Nat.le_refl _) _⟩
    · have h1 : (f x.1 == 0) = false := by simpa using h0
      gi_wp2
      have hI2 : ((((Boxed (W.setCell ⟨w2.heap.size + 1, 0, none⟩ (.string x.1)) w.heap.size 9 (.string ⟨#[]⟩) ∧ Boxed (W.setCell ⟨w2.heap.size + 1, 0, none⟩ (.string x.1)) w2.heap.size 71 (.map (some (w.heap.size + 1)))) ∧ Boxed (W.setCell ⟨w2.heap.size + 1, 0, none⟩ (.string x.1)) (w2.heap.size + 1) 9 (.string (lastN name (pre ++ [x])))) ∧ NMap (W.setCell ⟨w2.heap.size + 1, 0, none⟩ (.string x.1)) (w.heap.size + 1) q f) ∧ (∀ y ∈ pre ++ [x], f y.1 ≠ 0)) ∧ Below w.heap.size w (W.setCell ⟨w2.heap.size + 1, 0, none⟩ (.string x.1)) := by
        rw [lastN_snoc]
        refine ⟨⟨⟨⟨⟨c4.other (by omega) _, c5.other (by omega) _⟩, c6.set _⟩, nmap_kept hmW (grownBy_setCell' W (w2.heap.size + 1) _) (by simp; omega)⟩, fun y hy => ?_⟩, hB.setCell (p := ⟨w2.heap.size + 1, 0, none⟩) (by show w.heap.size ≤ w2.heap.size + 1; omega) _⟩
        rcases List.mem_append.1 hy with hy | hy
        · exact hne y hy
        · rw [List.mem_singleton.1 hy]; exact h0
      exact ⟨(KeepsOthers.setCell _ _ _).from _, ⟨(Below.refl _ W).setCell (p := ⟨w2.heap.size + 1, 0, none⟩) (by show w.heap.size ≤ w2.heap.size + 1; omega) _, fun v hv => hv.other (by omega) _⟩, hI2⟩
  case done =>
    rintro D ys W hD rfl ⟨⟨⟨⟨⟨c4, c5⟩, c6⟩, hmW⟩, hne⟩, hB⟩ hK
    have k6 := c6.cell
    have k4 := c4.cell
    have j4 := c4.frozen
    gi_wp2
    have hlast : lastN name (upto (chS name hnm) 101) = chN name 100 := by
      rw [show (101 : Nat) = 100 + 1 by rfl, upto_succ, lastN_snoc, chS_is hnm (by omega)]
    rw [hlast]
    have hfr : frN ts name = chN name 100 := frN_last (fun j hj => by
      have h1 := hne (chS name hnm j) (List.mem_map.2 ⟨j, List.mem_range.2 hj, rfl⟩)
      rw [chS_is hnm hj] at h1
      have h2 := cnt_none HCN.out (chN name j)
      cases hb : noneB ts (chN name j) with
      | false => rfl
      | true => exact absurd (h2.2 hb) h1)
    have hK' := (KeepsOthers.setCell W ⟨w.heap.size, 0, none⟩ (.string (chN name 100))).same D _ hK rfl
    refine ⟨by simp, .inl ⟨_, _, rfl, run_takeDeferred hK', ?_⟩⟩
    have hc5 := cell_kept (World.cell?_setCell_same' W ⟨w.heap.size, 0, none⟩ (.string (chN name 100)) (by rw [k4]; rfl)) (grownBy_putObj' _ D (.deferred none)) (fun r e => by cases e; exact ⟨_, hK', rfl⟩)
    refine ⟨.string (chN name 100), by simp [results, Tryz.results15, go_sem, hc5], by rw [hfr], (hB.setCell (p := ⟨w.heap.size, 0, none⟩) (Nat.le_refl _) _).trans (belowK_b (w := w) (Nat.le_refl _) _ D _ _ (by omega) hK' rfl rfl)⟩
  case stop =>
    rintro D c pre W hD ⟨k, hk, rfl⟩ ⟨⟨rfl, ini, last, e1, e2, e3, c4⟩, hB⟩ hK
    gi_wp2
    obtain ⟨k', rfl⟩ : ∃ k', k = k' + 1 := by
      cases k with
      | zero => simp [upto] at e1
      | succ k' => exact ⟨k', rfl⟩
    rw [upto_succ] at e1
    obtain ⟨rfl, e5⟩ := List.append_inj' e1 rfl
    obtain rfl : chS name hnm k' = last := by simpa using e5
    rw [chS_is hnm (by omega)] at e3 c4
    have hfr : frN ts name = chN name k' := frN_at (by omega) ((cnt_none HCN.out _).1 e3) (fun j hj => by
      have h1 := e2 (chS name hnm j) (List.mem_map.2 ⟨j, List.mem_range.2 hj, rfl⟩)
      rw [chS_is hnm (by omega)] at h1
      have h2 := cnt_none HCN.out (chN name j)
      cases hb : noneB ts (chN name j) with
      | false => rfl
      | true => exact absurd (h2.2 hb) h1)
    have k4 := c4.cell
    refine ⟨by simp, .inl ⟨_, _, rfl, run_takeDeferred hK, ?_⟩⟩
    have hc5 := cell_kept k4 (grownBy_putObj' _ D (.deferred none)) (fun r e => by cases e; exact ⟨_, hK, rfl⟩)
    refine ⟨.string (chN name k'), by simp [results, Tryz.results15, go_sem, hc5], by rw [hfr], hB.trans (belowK_b (w := w) (Nat.le_refl _) _ D _ _ (by omega) hK rfl rfl)⟩
set_option maxRecDepth 100000 in
set_option maxHeartbeats 4000000 in
theorem fresh_x (ts : List Tm) (sv : Value) (name : ByteArray) (w : World) (hr : SbTs w sv ts) (hl : ts.length ≤ 1000) (hin : ∀ t ∈ ts, TIn w w.heap.size t) (hS : Shps w) (hz : name.size ≤ maxLen) (hg : nameB name = false) :
    Calls Tryz.prog 15 #[sv, .string name] w (fun e w' => e = .returned (.string (frN ts (⟨#[120]⟩ : ByteArray))) ∧ Below w.heap.size w w') := by
  have hnm : ((⟨#[120]⟩ : ByteArray)).size ≤ 16 := by decide
  have B1 := bel_alloc w (.cells #[.string ⟨#[]⟩] 9)
  have NA := mkHid (name_any name (w.alloc (.cells #[.string ⟨#[]⟩] 9)) hz)
  rw [hg] at NA
  have NO := mkHid (namesOf_any ts sv (w.alloc (.cells #[.string ⟨#[]⟩] 9)) (hr.later B1) hl (fun t ht => (hin t ht).later B1) (hS.later B1))
  have b4 := Boxed.new w 9 (.string ⟨#[]⟩)
  have HB1 := mkHid B1
  have HSZ1 := mkHid (show (w.alloc (.cells #[.string ⟨#[]⟩] 9)).heap.size = w.heap.size + 1 by simp)
  clear hr hl hin hS hz hg B1
  refine (callsIn_wide (n := 20)).1 ?_
  refine callsIn_of_wp_marks Tryz.func15 rfl trivial ?_ rfl
  simp only [Tryz.ntmps15, List.size_toArray, List.length_cons, List.length_nil, Nat.reduceAdd, Nat.reduceSub, Array.replicate_succ, Array.replicate_zero, List.push_toArray, List.append_toArray, List.nil_append, List.cons_append]
  gi_wp2_with (first
    | (refine ⟨trivial, ?_⟩; gi_at_call 9; refine (callsIn_wide.2 NA.out).mono ?_; rintro e w' ⟨rfl, hw⟩; subst hw)
    | (refine ⟨trivial, ?_⟩; gi_at_call 33; refine (callsIn_wide.2 NO.out).mono ?_; rintro e w2 ⟨q, f, rfl, hm, hcn, hb2⟩; have HM := mkHid hm; have HCN := mkHid hcn; have HB2 := mkHid hb2; have HB2x := hb2; clear hm hcn hb2)
    | (refine ⟨trivial, ?_⟩; gi_at_call 34; refine (choi_in _ _ _).mono ?_; rintro e w' ⟨rfl, rfl⟩))
  clear NA NO
  have hm := HM.out
  rw [HSZ1.out] at hm
  have hlt2 : w.heap.size + 1 < w2.heap.size := by
    obtain ⟨D, ⟨es, ck, he, -⟩, -⟩ := hm
    exact (Array.getElem?_eq_some_iff.1 he).1
  have b42 := boxed_later' b4 HB2x
  have hB2 : Below w.heap.size w w2 := bon HB1.out HB2x
  have b5 := ((Boxed.new w2 71 (.map (some (w.heap.size + 1)))).alloc (.cells #[.string ⟨#[120]⟩] 9)).alloc (.cells #[.string ⟨#[120]⟩] 9)
  have b6 := (Boxed.new (w2.alloc (.cells #[.map (some (w.heap.size + 1))] 71)) 9 (.string ⟨#[120]⟩)).alloc (.cells #[.string ⟨#[120]⟩] 9)
  have bS := Boxed.new ((w2.alloc (.cells #[.map (some (w.heap.size + 1))] 71)).alloc (.cells #[.string ⟨#[120]⟩] 9)) 9 (.string ⟨#[120]⟩)
  have b4' := ((b42.alloc (.cells #[.map (some (w.heap.size + 1))] 71)).alloc (.cells #[.string ⟨#[120]⟩] 9)).alloc (.cells #[.string ⟨#[120]⟩] 9)
  simp only [World.size_alloc] at b5 b6 bS
  have hb3 : Below w2.heap.size w2 (((w2.alloc (.cells #[.map (some (w.heap.size + 1))] 71)).alloc (.cells #[.string ⟨#[120]⟩] 9)).alloc (.cells #[.string ⟨#[120]⟩] 9)) := bal (bal (bal (Below.refl _ _) _) _) _
  have hm3 := hm.later hb3
  have hB3 := bon hB2 hb3
  have hsz : (((w2.alloc (.cells #[.map (some (w.heap.size + 1))] 71)).alloc (.cells #[.string ⟨#[120]⟩] 9)).alloc (.cells #[.string ⟨#[120]⟩] 9)).heap.size = w2.heap.size + 3 := by simp
  obtain ⟨W0, hW0⟩ : ∃ W0, (((w2.alloc (.cells #[.map (some (w.heap.size + 1))] 71)).alloc (.cells #[.string ⟨#[120]⟩] 9)).alloc (.cells #[.string ⟨#[120]⟩] 9)) = W0 := ⟨_, rfl⟩
  rw [hW0] at b4' b5 b6 bS hm3 hB3 hsz ⊢
  clear hW0 hb3 hm b42 b4 hB2 HB2x HB1
  refine wpIn_rangeFunc_ownG rfl (by omega) (gf := 52) (lb := #[.pointer (some ⟨w2.heap.size + 1 + 1, 0, none⟩)]) rfl trivial (enters_of Tryz.func52 (by kernel_rfl) rfl)
    (choi_stops _ (by omega) (w2.heap.size + 1 + 1) w.heap.size (⟨#[120]⟩ : ByteArray) hnm W0 bS) stK_t (stK_b (by omega)) (Below.refl _ _) (fun _ => rfl)
    (fun pre W => ((((Boxed W w.heap.size 9 (.string ⟨#[]⟩) ∧ Boxed W w2.heap.size 71 (.map (some (w.heap.size + 1)))) ∧ Boxed W (w2.heap.size + 1) 9 (.string (lastN (⟨#[120]⟩ : ByteArray) pre))) ∧ NMap W (w.heap.size + 1) q f) ∧ (∀ x ∈ pre, f x.1 ≠ 0)) ∧ Below w.heap.size w W)
    (fun c pre W => (c = .ret ∧ ∃ ini last, pre = ini ++ [last] ∧ (∀ x ∈ ini, f x.1 ≠ 0) ∧ f last.1 = 0 ∧ Boxed W w.heap.size 9 (.string last.1)) ∧ Below w.heap.size w W)
    (OwnFrom.and (OwnFrom.and (OwnFrom.and (OwnFrom.and (OwnFrom.and (Own.from (boxed_own _ _ (fun _ => _)) _) (Own.from (boxed_own _ _ (fun _ => _)) _)) (Own.from (boxed_own _ _ _) _)) (fun s A B row hs hg hr => nmap_kept hs hg (fun e => by have := (hr _ e.symm).1; omega))) (fun s A B row hs hg hr => hs)) (ownFrom_below (Nat.le_refl _) (by omega)))
    (fun c => OwnFrom.and (Own.from (fun s A B row hs hg hr => by obtain ⟨hc, ini, last, e1, e2, e3, e4⟩ := hs; exact ⟨hc, ini, last, e1, e2, e3, boxed_own _ _ (fun (_ : Unit) => _) () A B row e4 hg hr⟩) _) (ownFrom_below (Nat.le_refl _) (by omega)))
    ⟨⟨⟨⟨⟨b4', b5⟩, b6⟩, hm3⟩, fun x hx => (by cases hx)⟩, hB3⟩
    (fun x => { tmps := #[sv, .string ⟨#[120]⟩, undef, undef, .pointer (some ⟨w.heap.size, 0, none⟩), .pointer (some ⟨w2.heap.size, 0, none⟩), .pointer (some ⟨w2.heap.size + 1, 0, none⟩), .string x.1, .string name, .bool false, .bool true, sv, .map (some (w.heap.size + 1)), .string ⟨#[120]⟩, .string ⟨#[120]⟩, .func (.func 52) #[] #[.pointer (some ⟨w2.heap.size + 1 + 1, 0, none⟩)], .string x.1, undef, undef, undef, undef, undef, undef, undef], defers := [] }) ?assign ?body ?done ?stop
  case assign =>
    intro l x W K hK
    gi_wp2
    exact hK
  case body =>
    rintro l pre x W ⟨⟨⟨⟨⟨c4, c5⟩, c6⟩, hmW⟩, hne⟩, hB⟩ _
    have hlook := hmW.look (s := x.1) (by have := x.2; unfold maxLen; omega)
    have k5 := c5.cell
    have k6 := c6.cell
    have j6 := c6.frozen
    have k4 := c4.cell
    have j4 := c4.frozen
    by_cases h0 : f x.1 = 0
    · rw [h0] at hlook
      gi_wp2
      exact ⟨(KeepsOthers.setCell _ _ _).from _, ⟨rfl, pre, x, rfl, hne, h0, c4.set _⟩, hB.setCell (p := ⟨w.heap.size, 0, none⟩) (Nat.le_refl _) _⟩
    · have h1 : (f x.1 == 0) = false := by simpa using h0
      gi_wp2
      have hI2 : ((((Boxed (W.setCell ⟨w2.heap.size + 1, 0, none⟩ (.string x.1)) w.heap.size 9 (.string ⟨#[]⟩) ∧ Boxed (W.setCell ⟨w2.heap.size + 1, 0, none⟩ (.string x.1)) w2.heap.size 71 (.map (some (w.heap.size + 1)))) ∧ Boxed (W.setCell ⟨w2.heap.size + 1, 0, none⟩ (.string x.1)) (w2.heap.size + 1) 9 (.string (lastN (⟨#[120]⟩ : ByteArray) (pre ++ [x])))) ∧ NMap (W.setCell ⟨w2.heap.size + 1, 0, none⟩ (.string x.1)) (w.heap.size + 1) q f) ∧ (∀ y ∈ pre ++ [x], f y.1 ≠ 0)) ∧ Below w.heap.size w (W.setCell ⟨w2.heap.size + 1, 0, none⟩ (.string x.1)) := by
        rw [lastN_snoc]
        refine ⟨⟨⟨⟨⟨c4.other (by omega) _, c5.other (by omega) _⟩, c6.set _⟩, nmap_kept hmW (grownBy_setCell' W (w2.heap.size + 1) _) (by simp; omega)⟩, fun y hy => ?_⟩, hB.setCell (p := ⟨w2.heap.size + 1, 0, none⟩) (by show w.heap.size ≤ w2.heap.size + 1; omega) _⟩
        rcases List.mem_append.1 hy with hy | hy
        · exact hne y hy
        · rw [List.mem_singleton.1 hy]; exact h0
      exact ⟨(KeepsOthers.setCell _ _ _).from _, ⟨(Below.refl _ W).setCell (p := ⟨w2.heap.size + 1, 0, none⟩) (by show w.heap.size ≤ w2.heap.size + 1; omega) _, fun v hv => hv.other (by omega) _⟩, hI2⟩
  case done =>
    rintro D ys W hD rfl ⟨⟨⟨⟨⟨c4, c5⟩, c6⟩, hmW⟩, hne⟩, hB⟩ hK
    have k6 := c6.cell
    have k4 := c4.cell
    have j4 := c4.frozen
    gi_wp2
    have hlast : lastN (⟨#[120]⟩ : ByteArray) (upto (chS (⟨#[120]⟩ : ByteArray) hnm) 101) = chN (⟨#[120]⟩ : ByteArray) 100 := by
      rw [show (101 : Nat) = 100 + 1 by rfl, upto_succ, lastN_snoc, chS_is hnm (by omega)]
    rw [hlast]
    have hfr : frN ts (⟨#[120]⟩ : ByteArray) = chN (⟨#[120]⟩ : ByteArray) 100 := frN_last (fun j hj => by
      have h1 := hne (chS (⟨#[120]⟩ : ByteArray) hnm j) (List.mem_map.2 ⟨j, List.mem_range.2 hj, rfl⟩)
      rw [chS_is hnm hj] at h1
      have h2 := cnt_none HCN.out (chN (⟨#[120]⟩ : ByteArray) j)
      cases hb : noneB ts (chN (⟨#[120]⟩ : ByteArray) j) with
      | false => rfl
      | true => exact absurd (h2.2 hb) h1)
    have hK' := (KeepsOthers.setCell W ⟨w.heap.size, 0, none⟩ (.string (chN (⟨#[120]⟩ : ByteArray) 100))).same D _ hK rfl
    refine ⟨by simp, .inl ⟨_, _, rfl, run_takeDeferred hK', ?_⟩⟩
    have hc5 := cell_kept (World.cell?_setCell_same' W ⟨w.heap.size, 0, none⟩ (.string (chN (⟨#[120]⟩ : ByteArray) 100)) (by rw [k4]; rfl)) (grownBy_putObj' _ D (.deferred none)) (fun r e => by cases e; exact ⟨_, hK', rfl⟩)
    refine ⟨.string (chN (⟨#[120]⟩ : ByteArray) 100), by simp [results, Tryz.results15, go_sem, hc5], by rw [hfr], (hB.setCell (p := ⟨w.heap.size, 0, none⟩) (Nat.le_refl _) _).trans (belowK_b (w := w) (Nat.le_refl _) _ D _ _ (by omega) hK' rfl rfl)⟩
  case stop =>
    rintro D c pre W hD ⟨k, hk, rfl⟩ ⟨⟨rfl, ini, last, e1, e2, e3, c4⟩, hB⟩ hK
    gi_wp2
    obtain ⟨k', rfl⟩ : ∃ k', k = k' + 1 := by
      cases k with
      | zero => simp [upto] at e1
      | succ k' => exact ⟨k', rfl⟩
    rw [upto_succ] at e1
    obtain ⟨rfl, e5⟩ := List.append_inj' e1 rfl
    obtain rfl : chS (⟨#[120]⟩ : ByteArray) hnm k' = last := by simpa using e5
    rw [chS_is hnm (by omega)] at e3 c4
    have hfr : frN ts (⟨#[120]⟩ : ByteArray) = chN (⟨#[120]⟩ : ByteArray) k' := frN_at (by omega) ((cnt_none HCN.out _).1 e3) (fun j hj => by
      have h1 := e2 (chS (⟨#[120]⟩ : ByteArray) hnm j) (List.mem_map.2 ⟨j, List.mem_range.2 hj, rfl⟩)
      rw [chS_is hnm (by omega)] at h1
      have h2 := cnt_none HCN.out (chN (⟨#[120]⟩ : ByteArray) j)
      cases hb : noneB ts (chN (⟨#[120]⟩ : ByteArray) j) with
      | false => rfl
      | true => exact absurd (h2.2 hb) h1)
    have k4 := c4.cell
    refine ⟨by simp, .inl ⟨_, _, rfl, run_takeDeferred hK, ?_⟩⟩
    have hc5 := cell_kept k4 (grownBy_putObj' _ D (.deferred none)) (fun r e => by cases e; exact ⟨_, hK, rfl⟩)
    refine ⟨.string (chN (⟨#[120]⟩ : ByteArray) k'), by simp [results, Tryz.results15, go_sem, hc5], by rw [hfr], hB.trans (belowK_b (w := w) (Nat.le_refl _) _ D _ _ (by omega) hK rfl rfl)⟩
/-- subst.Fresh -/
theorem fresh_any (ts : List Tm) (sv : Value) (name : ByteArray) (w : World) (hr : SbTs w sv ts) (hl : ts.length ≤ 1000) (hin : ∀ t ∈ ts, TIn w w.heap.size t) (hS : Shps w) (hz : name.size ≤ maxLen) :
    Calls Tryz.prog 15 #[sv, .string name] w (fun e w' => e = .returned (.string (frS ts name)) ∧ Below w.heap.size w w') := by
  unfold frS
  cases hg : nameB name with
  | true => exact fresh_name ts sv name w hr hl hin hS hz hg
  | false => exact fresh_x ts sv name w hr hl hin hS hz hg
end
section
open Go.RowKit

mutual
/-- are two terms the same, wherever they lie? -/
def eqT : Tm → Tm → Bool
  | .node o s n _ _ ks, .node o' s' n' _ _ ks' => (o == o') && (s.toList == s'.toList) && (n == n') && eqTs ks ks'
def eqTs : List Tm → List Tm → Bool
  | [], [] => true
  | a :: l, b :: l' => eqT a b && eqTs l l'
  | _, _ => false
end
theorem eqT_eq (a b : Tm) : eqT a b = ((a.op == b.op) && (a.nm.toList == b.nm.toList) && (a.n == b.n) && eqTs a.ks b.ks) := by
  cases a; cases b; simp only [eqT, Tm.op, Tm.nm, Tm.n, Tm.ks]
theorem eqTs_len : ∀ {l l' : List Tm}, l.length ≠ l'.length → eqTs l l' = false
  | [], [], h => absurd rfl h
  | [], _ :: _, _ => by simp [eqTs]
  | _ :: _, [], _ => by simp [eqTs]
  | a :: l, b :: l', h => by simp only [eqTs]; rw [eqTs_len (l := l) (l' := l') (by simpa using h), Bool.and_false]
theorem eqTs_drop {l l' : List Tm} {k : Nat} (h : k < l.length) (h' : k < l'.length) : eqTs (l.drop k) (l'.drop k) = (eqT l[k] l'[k] && eqTs (l.drop (k + 1)) (l'.drop (k + 1))) := by
  rw [List.drop_eq_getElem_cons h, List.drop_eq_getElem_cons h']; simp only [eqTs]
theorem eqT_self : ∀ t : Tm, eqT t t = true := by
  intro t
  induction t using Tm.ind with
  | h t ih =>
    have : ∀ ks : List Tm, (∀ k ∈ ks, eqT k k = true) → eqTs ks ks = true := by
      intro ks
      induction ks with
      | nil => intro _; simp [eqTs]
      | cons a l ihl => intro h; simp only [eqTs]; rw [h a (by simp), ihl (fun k hk => h k (by simp [hk]))]; rfl
    rw [eqT_eq, this t.ks ih]
    simp
theorem eight_cells {w w' : World} {p0 p1 p2 p3 p4 p5 p6 p7 p8 p9 : Addr} {v0 v1 v2 v3 v4 v5 v6 v7 v8 v9 : Value} (h : w.cell? p0 = some v0 ∧ w.cell? p1 = some v1 ∧ w.cell? p2 = some v2 ∧ w.cell? p3 = some v3 ∧ w.cell? p4 = some v4 ∧ w.cell? p5 = some v5 ∧ w.cell? p6 = some v6 ∧ w.cell? p7 = some v7 ∧ w.cell? p8 = some v8 ∧ w.cell? p9 = some v9) (hb : Below w.heap.size w w') : w'.cell? p0 = some v0 ∧ w'.cell? p1 = some v1 ∧ w'.cell? p2 = some v2 ∧ w'.cell? p3 = some v3 ∧ w'.cell? p4 = some v4 ∧ w'.cell? p5 = some v5 ∧ w'.cell? p6 = some v6 ∧ w'.cell? p7 = some v7 ∧ w'.cell? p8 = some v8 ∧ w'.cell? p9 = some v9 := by
  obtain ⟨x0, x1, x2, x3, x4, x5, x6, x7, x8, x9⟩ := h
  exact ⟨cell_later hb x0, cell_later hb x1, cell_later hb x2, cell_later hb x3, cell_later hb x4, cell_later hb x5, cell_later hb x6, cell_later hb x7, cell_later hb x8, cell_later hb x9⟩

set_option maxRecDepth 100000 in
set_option maxHeartbeats 4000000 in
theorem rsame_any : ∀ (t u : Tm) (w : World), TIn w w.heap.size t → TIn w w.heap.size u →
    Calls Tryz.prog 31 #[t.val, u.val] w fun e w' => e = .returned (.bool (eqT t u)) ∧ Below w.heap.size w w' := by
  intro t
  induction t using Tm.ind with
  | h t ih =>
    intro u w ht hu
    have IH := mkHid ih
    clear ih
    have hlt := ht.nums.2.2.2
    have hlu := hu.nums.2.2.2
    unfold maxLen at hlt hlu
    have HT := mkHid ht
    have HU := mkHid hu
    clear ht hu
    have B0 : Below w.heap.size w ((w.alloc (boxT t)).alloc (boxT u)) := bal (bal (Below.refl _ _) _) _
    have F1 : Four ((w.alloc (boxT t)).alloc (boxT u)) w.heap.size 0 t := (box_four w t).later (bel_alloc _ _)
    have F2 : Four ((w.alloc (boxT t)).alloc (boxT u)) (w.heap.size + 1) 0 u := by have := box_four (w.alloc (boxT t)) u; simpa using this
    have hW2 : (w.alloc (.cells #[.int .i64 t.op, .string t.nm, .int .i64 t.n, .slice t.a t.ks.length t.c] 24)).alloc (.cells #[.int .i64 u.op, .string u.nm, .int .i64 u.n, .slice u.a u.ks.length u.c] 24) = (w.alloc (boxT t)).alloc (boxT u) := rfl
    generalize (w.alloc (boxT t)).alloc (boxT u) = W2 at *
    have HR := mkHid (eqT_eq t u)
    generalize eqT t u = R at *
    obtain ⟨x0, x1, x2, x3⟩ := id F1
    obtain ⟨y0, y1, y2, y3⟩ := id F2
    simp only [Nat.zero_add] at x1 x2 x3 y1 y2 y3
    unfold Tm.val
    cases c1 : (t.op == u.op)
    · rw [c1] at HR
      have hR : R = false := HR.out
      subst hR
      have n1 : (t.op != u.op) = true := by rw [bne, c1]; rfl
      clear HR c1
      go_enter Tryz.func31, Tryz.ntmps31
      go_wp2
      go_ret
      exact ⟨rfl, B0⟩
    · have n1 : (t.op != u.op) = false := by rw [bne, c1]; rfl
      rw [c1] at HR
      cases c2 : (t.nm.toList == u.nm.toList)
      · rw [c2] at HR
        have hR : R = false := HR.out
        subst hR
        clear HR c1
        go_enter Tryz.func31, Tryz.ntmps31
        go_wp2
        go_ret
        exact ⟨rfl, B0⟩
      · rw [c2] at HR
        cases c3 : (t.n == u.n)
        · rw [c3] at HR
          have hR : R = false := HR.out
          subst hR
          have n3 : (t.n != u.n) = true := by rw [bne, c3]; rfl
          clear HR c1 c3
          go_enter Tryz.func31, Tryz.ntmps31
          go_wp2
          go_ret
          exact ⟨rfl, B0⟩
        · rw [c3] at HR
          have n3 : (t.n != u.n) = false := by rw [bne, c3]; rfl
          have HR2 : Hid (R = eqTs (t.ks.drop 0) (u.ks.drop 0)) := by
            show _ = _
            have := HR.out
            simpa using this
          clear HR c1 c3
          by_cases hl : t.ks.length = u.ks.length
          · have HL := mkHid hl
            clear hl
            generalize hm' : u.ks.length = m at *
            have HM := mkHid hm'
            clear hm'
            generalize hn' : t.ks.length = n at *
            have HN := mkHid hn'
            clear hn'
            obtain rfl : n = m := HL.out
            have n4 : ((n : Int) != (n : Int)) = false := by simp
            go_enter Tryz.func31, Tryz.ntmps31
            go_wp2
            clear x0 x1 x2 x3 y0 y1 y2 y3 hW2
            go_loopw [5] (fun i w' => ∃ (k : Nat) (x : Int), i = .int .i64 x ∧ x = k ∧ k ≤ n ∧ Below W2.heap.size W2 w' ∧ Hid (R = eqTs (t.ks.drop k) (u.ks.drop k))) (fun i _ => (n - intOf i).toNat)
            case atStart => exact ⟨0, 0, rfl, rfl, Nat.zero_le _, Below.refl _ _, HR2⟩
            case round =>
              obtain ⟨k, x, rfl, hxk, hk, hb, hal⟩ := hrel
              obtain rfl : x = (k : Int) := hxk
              clear HR2
              have BB := bon B0 hb
              have x3 := (F1.later hb).2.2.2
              have y3 := (F2.later hb).2.2.2
              simp only [Nat.zero_add] at x3 y3
              rw [HN.out] at x3
              rw [HM.out] at y3
              by_cases hlt2 : k < n
              · have hk1 : k < t.ks.length := by rw [HN.out]; exact hlt2
                have hk2 : k < u.ks.length := by rw [HM.out]; exact hlt2
                obtain ⟨kin1, b1, o1, ha1, hB1, kf1⟩ := HT.out.kid k hk1
                obtain ⟨kin2, b2, o2, ha2, hB2, kf2⟩ := HU.out.kid k hk2
                have C := mkHid (fun w' (hb' : Below wr.heap.size wr w') => IH.out t.ks[k] (List.getElem_mem _) u.ks[k] w' (kin1.later (bon BB hb')) (kin2.later (bon BB hb')))
                have q1 := kf1.keep BB hB1
                have q2 := kf2.keep BB hB2
                rw [eqTs_drop hk1 hk2] at hal
                rw [ha1] at x3
                rw [ha2] at y3
                clear kf1 kf2 kin1 kin2 ha1 ha2 IH
                generalize t.ks[k] = p at *
                generalize u.ks[k] = q at *
                clear hk1 hk2
                obtain ⟨q10, q11, q12, q13⟩ := q1
                obtain ⟨q20, q21, q22, q23⟩ := q2
                unfold Tm.val at C
                cases he : eqT p q
                all_goals
                  rw [he] at C hal
                  clear he
                  go_wp2_with fail
                  (try dsimp only [List.append])
                  refine wp_region_held_drew (S := fun w' => w'.cell? ⟨w.heap.size, 3, none⟩ = some (.slice (some ⟨b1, o1, none⟩) n t.c) ∧ w'.cell? ⟨w.heap.size + 1, 3, none⟩ = some (.slice (some ⟨b2, o2, none⟩) n u.c) ∧ w'.cell? ⟨b1, o1 + k * 4, none⟩ = some (.int .i64 p.op) ∧ w'.cell? ⟨b1, o1 + k * 4 + 1, none⟩ = some (.string p.nm) ∧ w'.cell? ⟨b1, o1 + k * 4 + 2, none⟩ = some (.int .i64 p.n) ∧ w'.cell? ⟨b1, o1 + k * 4 + 3, none⟩ = some (.slice p.a p.ks.length p.c) ∧ w'.cell? ⟨b2, o2 + k * 4, none⟩ = some (.int .i64 q.op) ∧ w'.cell? ⟨b2, o2 + k * 4 + 1, none⟩ = some (.string q.nm) ∧ w'.cell? ⟨b2, o2 + k * 4 + 2, none⟩ = some (.int .i64 q.n) ∧ w'.cell? ⟨b2, o2 + k * 4 + 3, none⟩ = some (.slice q.a q.ks.length q.c)) (by kernel_rfl) ⟨x3, y3, q10, q11, q12, q13, q20, q21, q22, q23⟩ (fun hHeld => ?_)
                  refine wpAnyH_take (i := 0) (v := ?_) rfl (by kernel_rfl) (by kernel_rfl) (by kernel_rfl) (fun _ _ _ h => h) (Or.inl ⟨by kernel_rfl, ?_⟩) (by assumption) ?_
                  rotate_left
                  · (intro w hSw; (try dsimp only at hSw); go_simp; try with_reducible rfl)
                  simp only [Act.put, List.getElem_toArray, List.getElem_cons_zero, List.setIfInBounds_toArray, List.set_cons_zero, List.set_cons_succ]
                  refine wpAnyH_take (i := 1) (v := ?_) rfl (by kernel_rfl) (by kernel_rfl) (by kernel_rfl) (fun _ _ _ h => h) (Or.inl ⟨by kernel_rfl, ?_⟩) (by assumption) ?_
                  rotate_left
                  · (intro w hSw; (try dsimp only at hSw); go_simp; try with_reducible rfl)
                  simp only [Act.put, List.getElem_toArray, List.getElem_cons_succ, List.getElem_cons_zero, List.setIfInBounds_toArray, List.set_cons_zero, List.set_cons_succ]
                  refine wpAnyH_take (i := 2) (v := ?_) rfl (by kernel_rfl) (by kernel_rfl) (by kernel_rfl) (fun _ _ _ h => h) (Or.inl ⟨by kernel_rfl, ?_⟩) (by assumption) ?_
                  rotate_left
                  · (intro w hSw; (try dsimp only at hSw); go_simp; try with_reducible rfl)
                  simp only [Act.put, List.getElem_toArray, List.getElem_cons_succ, List.getElem_cons_zero, List.setIfInBounds_toArray, List.set_cons_zero, List.set_cons_succ]
                  refine wpAnyH_take (i := 3) (v := ?_) rfl (by kernel_rfl) (by kernel_rfl) (by kernel_rfl) (fun _ _ _ h => h) (Or.inl ⟨by kernel_rfl, ?_⟩) (by assumption) ?_
                  rotate_left
                  · (intro w hSw; (try dsimp only at hSw); go_simp; try with_reducible rfl)
                  simp only [Act.put, List.getElem_toArray, List.getElem_cons_succ, List.getElem_cons_zero, List.setIfInBounds_toArray, List.set_cons_zero, List.set_cons_succ]
                  refine wpAnyH_take (i := 4) (v := ?_) rfl (by kernel_rfl) (by kernel_rfl) (by kernel_rfl) (fun _ _ _ h => h) (Or.inl ⟨by kernel_rfl, ?_⟩) (by assumption) ?_
                  rotate_left
                  · (intro w hSw; (try dsimp only at hSw); go_simp; try with_reducible rfl)
                  simp only [Act.put, List.getElem_toArray, List.getElem_cons_succ, List.getElem_cons_zero, List.setIfInBounds_toArray, List.set_cons_zero, List.set_cons_succ]
                  refine wpAnyH_take (i := 5) (v := ?_) rfl (by kernel_rfl) (by kernel_rfl) (by kernel_rfl) (fun _ _ _ h => h) (Or.inl ⟨by kernel_rfl, ?_⟩) (by assumption) ?_
                  rotate_left
                  · (intro w hSw; (try dsimp only at hSw); go_simp; try with_reducible rfl)
                  simp only [Act.put, List.getElem_toArray, List.getElem_cons_succ, List.getElem_cons_zero, List.setIfInBounds_toArray, List.set_cons_zero, List.set_cons_succ]
                  refine wpAnyH_take (i := 6) (v := ?_) rfl (by kernel_rfl) (by kernel_rfl) (by kernel_rfl) (fun _ _ _ h => h) (Or.inl ⟨by kernel_rfl, ?_⟩) (by assumption) ?_
                  rotate_left
                  · (intro w hSw; (try dsimp only at hSw); go_simp; try with_reducible rfl)
                  simp only [Act.put, List.getElem_toArray, List.getElem_cons_succ, List.getElem_cons_zero, List.setIfInBounds_toArray, List.set_cons_zero, List.set_cons_succ]
                  refine wpAnyH_take (i := 7) (v := ?_) rfl (by kernel_rfl) (by kernel_rfl) (by kernel_rfl) (fun _ _ _ h => h) (Or.inl ⟨by kernel_rfl, ?_⟩) (by assumption) ?_
                  rotate_left
                  · (intro w hSw; (try dsimp only at hSw); go_simp; try with_reducible rfl)
                  simp only [Act.put, List.getElem_toArray, List.getElem_cons_succ, List.getElem_cons_zero, List.setIfInBounds_toArray, List.set_cons_zero, List.set_cons_succ]
                  refine wpAnyH_take (i := 8) (v := ?_) rfl (by kernel_rfl) (by kernel_rfl) (by kernel_rfl) (fun _ _ _ h => h) (Or.inl ⟨by kernel_rfl, ?_⟩) (by assumption) ?_
                  rotate_left
                  · (intro w hSw; (try dsimp only at hSw); go_simp; try with_reducible rfl)
                  simp only [Act.put, List.getElem_toArray, List.getElem_cons_succ, List.getElem_cons_zero, List.setIfInBounds_toArray, List.set_cons_zero, List.set_cons_succ]
                  refine wpAnyH_take (i := 9) (v := ?_) rfl (by kernel_rfl) (by kernel_rfl) (by kernel_rfl) (fun _ _ _ h => h) (Or.inl ⟨by kernel_rfl, ?_⟩) (by assumption) ?_
                  rotate_left
                  · (intro w hSw; (try dsimp only at hSw); go_simp; try with_reducible rfl)
                  simp only [Act.put, List.getElem_toArray, List.getElem_cons_succ, List.getElem_cons_zero, List.setIfInBounds_toArray, List.set_cons_zero, List.set_cons_succ]
                  refine wpAnyH_ready (rs := [10]) (by kernel_rfl) (by simp) ?_
                  refine AllReadyH.cons rfl (fun K hK => ?_) AllReadyH.nil
                  go_simp
                  go_wp2_with (go_at_call 31; ((with_reducible refine (C.out _ (bdrew (Below.refl _ _))).mono ?_)); rintro e w5 ⟨rfl, hb5⟩)
                  refine hK.out _ _ (eight_cells (by assumption) hb5) (fun hHeld => ?_)
                  clear hK
                  refine wpAnyH_take (i := 11) (v := ?_) rfl (by kernel_rfl) (by kernel_rfl) (by kernel_rfl) (fun _ _ _ h => h) (Or.inl ⟨by kernel_rfl, ?_⟩) (by assumption) ?_
                  rotate_left
                  · (intro w hSw; (try dsimp only at hSw); go_simp; try with_reducible rfl)
                  simp only [Act.put, List.getElem_toArray, List.getElem_cons_succ, List.getElem_cons_zero, List.setIfInBounds_toArray, List.set_cons_zero, List.set_cons_succ]
                  refine wpAnyH_done (by kernel_rfl) ?_ _
                  have B5 := bon (bdrew hb) hb5
                · have hR : R = false := by have := hal.out; simpa using this
                  subst hR
                  clear hal
                  go_wp2
                  go_ret
                  exact ⟨rfl, bon B0 B5⟩
                · go_wp2
                  go_roundw
                  case rel => exact ⟨k + 1, _, rfl, by omega, by omega, B5, by simpa using hal⟩
                  case measure => simp [intOf]; omega
              · have hR : R = true := by
                  have := hal.out
                  rw [List.drop_eq_nil_of_le (by rw [HN.out]; omega), List.drop_eq_nil_of_le (by rw [HM.out]; omega)] at this
                  simpa [eqTs] using this
                subst hR
                clear hal
                go_wp2
                go_ret
                exact ⟨rfl, BB⟩
          · have hR : R = false := by
              have := HR2.out
              rw [List.drop_zero, List.drop_zero, eqTs_len hl] at this
              exact this
            subst hR
            have n4 : ((t.ks.length : Int) != (u.ks.length : Int)) = true := by rw [bne_iff_ne]; omega
            clear HR2 hl
            go_enter Tryz.func31, Tryz.ntmps31
            go_wp2
            go_ret
            exact ⟨rfl, B0⟩
end
end Go.Proofs.YtdfebacjbapahaaGreatDoor
