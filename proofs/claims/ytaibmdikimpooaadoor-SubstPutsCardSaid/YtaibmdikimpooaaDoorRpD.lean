/-
  The document's 'put' of a name; of any term.
  The document's Put.
-/
import Derived.Test.YtaibmdikimpooaaDoorRpB
import Derived.Test.YtaibmdikimpooaaDoorSbQ
import Derived.BigQuiet
import Derived.Test.YtaibmdikimpooaaDoorSbJ
namespace Go.Proofs.YtaibmdikimpooaaDoor
section
open Go.RowKit

theorem bytes_beq (x y : ByteArray) : (x.toList == y.toList) = true ↔ x = y := str_beq x y
theorem var_sort {t : Tm} (hs : t.srt ≠ 0) (hv : varB t.op = true) : (nsN t.op : Int) = (srtR t : Int) ∧ nsN t.op ≠ 0 ∧ t.size ≤ 2000 := by
  have hns : nsN t.op ≠ 0 := by
    unfold varB at hv
    simp only [Bool.or_eq_true, decide_eq_true_eq] at hv
    unfold nsN
    rcases hv with ((hv | hv) | hv) | hv <;> rw [hv] <;> decide
  obtain ⟨hk, -⟩ := name_none hs hns
  have hz : t.size = 1 := by rw [Tm.size_eq, hk]; rfl
  have hd : t.deep = 1 := by rw [Tm.deep_eq, hk]; rfl
  have e1 : srtR t = t.srt := by
    unfold srtR fullB
    rw [hz, hd]
    rfl
  obtain ⟨⟨o1, o2⟩, -⟩ := srt_ops hs
  obtain ⟨j, hj⟩ : ∃ j : Nat, (j : Int) = t.op := ⟨t.op.toNat, by omega⟩
  have j1 : 1 ≤ j := by omega
  have j2 : j ≤ 28 := by omega
  refine ⟨?_, hns, by omega⟩
  have h2 := nsN_row j (by omega) j1
  rw [hj] at h2
  rw [e1]
  have h3 := varB_row j (by omega) j1
  rw [hj, hv] at h3
  rw [h2, ← h3, if_pos rfl]
  have : t.srt = (shRow j).sort := by
    have e := srt_eq t
    rw [← hj, sortOf_in j1 j2] at e
    split at e
    · exact e
    · exact absurd e hs
  rw [this]
set_option maxRecDepth 100000 in
set_option maxHeartbeats 8000000 in
theorem rput_name (l : List As) (sv : Value) (t : Tm) (hs : t.srt ≠ 0) (hv : varB t.op = true) (hln : l.length ≤ 1000000) (B : Nat) (w : World) (hB : B ≤ w.heap.size) (ht : TIn w B t) (hsv : SbRow B w sv l) (hli : ∀ x ∈ l, TIn w B x.2) :
    Calls Tryd.prog 49 #[t.val, sv] w (RpP (rF l) B t w) := by
  obtain ⟨hsr, hns, -⟩ := var_sort hs hv
  have HRP : Hid (rp (rF l) t = match rF l t.nm (srtR t : Int) with | some x => x.er | none => t.er) := by
    have h := rp_name (F := rF l) hns
    rw [hsr] at h
    exact h
  have HB0 := mkHid hB
  have HT := mkHid ht
  have HLI := mkHid hli
  have HSV := mkHid hsv
  have hb2 : Below w.heap.size w (putW t w) := bal (bal (Below.refl _ _) _) _
  have F2 : Four (putW t w) w.heap.size 0 t := (box_four w t).later (bel_alloc _ _)
  have FR : FourV' (putW t w) (w.heap.size + 1) (.int .i64 0) (.string ⟨#[]⟩) (.int .i64 0) (.slice none 0 0) := by simp [FourV', putW, boxT, go_sem]
  have hW2 : (w.alloc (.cells #[.int .i64 t.op, .string t.nm, .int .i64 t.n, .slice t.a t.ks.length t.c] 24)).alloc (.cells #[.int .i64 0, .string ⟨#[]⟩, .int .i64 0, .slice none 0 0] 24) = putW t w := rfl
  have CV := mkHid (var_any t.op (putW t w))
  rw [hv] at CV
  have CS := mkHid (rSort_any t (putW t w) ((ht.mono hB).later hb2))
  have HB2 := mkHid hb2
  have HFR := mkHid FR
  have HF2 := mkHid F2
  obtain ⟨la, lc, rfl, hrow⟩ := hsv
  have HROW := mkHid hrow
  clear hrow hli ht hb2 FR hB
  generalize putW t w = W2 at *
  obtain ⟨f0, f1, f2, f3⟩ := F2
  simp only [Nat.zero_add] at f1 f2 f3
  obtain ⟨n, HN⟩ : ∃ n, Hid (l.length = n) := ⟨_, rfl⟩
  have hn : n ≤ 9223372036854775807 := by rw [← HN.out]; omega
  rw [HN.out]
  rw [HN.out] at HSV
  unfold Tm.val at CS ⊢
  go_enter Tryd.func49, Tryd.ntmps49
  go_wp2_with fail
  ((with_reducible refine CV.out.mono ?_)); rintro e w1 ⟨rfl, rfl⟩
  clear CV
  go_wp2_with fail
  ((with_reducible refine CS.out.mono ?_)); rintro e w3 ⟨rfl, hb3⟩
  clear CS f0 f1 f2 f3 hW2
  have HB3 := mkHid hb3
  clear hb3
  generalize hsv' : srtR t = st at *
  have HST := mkHid hsv'
  clear hsv'
  go_wp2
  go_loopw [8, 9, 10] (fun s8 s9 s10 w' => ∃ (k : Nat) (x : Int), s8 = .int .i64 x ∧ x = k ∧ k ≤ n ∧ Hid (∀ j (h : j < l.length), j < k → ¬ (l[j].1 = t.nm ∧ (srtR l[j].2 : Int) = (st : Int))) ∧ Hid (Below W2.heap.size W2 w')) (fun s8 _ _ _ => (n - intOf s8).toNat)
  case atStart => exact ⟨0, 0, rfl, rfl, Nat.zero_le _, fun j h hj => absurd hj (by omega), HB3⟩
  case round =>
    obtain ⟨k, x, rfl, hxk, hk, HP, HBW⟩ := hrel
    obtain rfl : x = (k : Int) := hxk
    have HBB := mkHid (bon HB2.out HBW.out)
    by_cases hlt : k < n
    · have hk' : k < l.length := by rw [HN.out]; exact hlt
      have hlt' : (k : Int) < (n : Int) := by omega
      obtain ⟨b, o, rfl, hbl, hf⟩ := HROW.out k hk'
      have hbw := Nat.lt_of_lt_of_le hbl HB0.out
      have HFV : Hid (∀ w', Below w.heap.size w w' → Five5 w' b (o + k * 5) l[k]) := fun w' hb => hf.keep hb hbw
      have HXI := mkHid (HLI.out _ (List.getElem_mem hk'))
      have HPS : Hid (¬ (l[k].1 = t.nm ∧ (srtR l[k].2 : Int) = (st : Int)) → ∀ j (h : j < l.length), j < k + 1 → ¬ (l[j].1 = t.nm ∧ (srtR l[j].2 : Int) = (st : Int))) := fun h j hj hjk => by
        by_cases e : j < k
        · exact HP.out j hj e
        · obtain rfl : j = k := by omega
          exact h
      have HHIT : Hid (l[k].1 = t.nm → (srtR l[k].2 : Int) = (st : Int) → l[k].2.er = rp (rF l) t) := fun e1 e2 => by
        rw [HRP.out, rF_at hk' HP.out ⟨e1, e2⟩]
      clear hf hbl HP HROW HLI
      generalize l[k] = cur at *
      obtain ⟨xn, xt⟩ := cur
      simp only at HXI HPS HHIT
      have C1 := mkHid (rSort_any xt wr ((HXI.out.mono HB0.out).later HBB.out))
      unfold Tm.val at C1
      obtain ⟨c0, c1, c2, c3, c4⟩ := HFV.out wr HBB.out
      clear hk'
      go_wp2_with fail
      ((with_reducible refine C1.out.mono ?_)); rintro e w5 ⟨rfl, hb5⟩
      clear C1 c0 c1 c2 c3 c4
      have HB5 := mkHid (bon HBW.out hb5)
      have HBB5 := mkHid (bon HB2.out HB5.out)
      clear hb5
      obtain ⟨c0, c1, c2, c3, c4⟩ := HFV.out w5 HBB5.out
      obtain ⟨f0, f1, f2, f3⟩ := HF2.out.later HB5.out
      simp only [Nat.zero_add] at f1 f2 f3 c0
      generalize hsx : srtR xt = sx at *
      cases he1 : (xn.toList == t.nm.toList)
      · have HPS1 := mkHid (HPS.out (fun h => by rw [(bytes_beq xn t.nm).2 h.1] at he1; cases he1))
        clear HPS HHIT
        go_wp2_with fail
        go_quiet (fail)
        have HB6 := mkHid (below_drewN HB5.out nq)
        go_wp2
        go_roundw
        case rel => exact ⟨k + 1, _, rfl, by omega, by omega, HPS1.out, HB6⟩
        case measure => simp [intOf]; omega
      · by_cases he2 : (sx : Int) = (st : Int)
        · have HZ := mkHid (HHIT.out ((bytes_beq xn t.nm).1 he1) he2)
          have he3 : ((sx : Int) == (st : Int)) = true := by rw [he2]; simp
          clear HPS HHIT
          go_wp2_with fail
          go_quiet (fail)
          have HB6 := mkHid (below_drewN HB5.out nq)
          clear c0 c1 c2 c3 c4 f0 f1 f2 f3
          generalize w5.drewN nq = w6 at *
          have HBB6 := mkHid (bon HB2.out HB6.out)
          obtain ⟨c0, c1, c2, c3, c4⟩ := HFV.out w6 HBB6.out
          obtain ⟨m0, m1, m2, m3, n0, n1, n2, n3⟩ := HFR.out.later HB6.out
          have MR : Pa w B w6 xt := ⟨(HXI.out.mono HB0.out).later HBB6.out, fun R h1 h2 => HXI.out.aw h1⟩
          have FI := mkHid (rp_fin (F := rF l) (t := t) MR HB0.out HBB6.out HZ.out)
          unfold Tm.val at FI
          clear MR
          go_wp2
          exact bodyPost_ret (v := .agg #[.int .i64 xt.op, .string xt.nm, .int .i64 xt.n, .slice xt.a xt.ks.length xt.c]) (by simp [results, Tryd.results49, go_sem, m0, m1, m2, m3]) rfl FI.out
        · have he3 : ((sx : Int) == (st : Int)) = false := by rw [beq_eq_false_iff_ne]; exact he2
          have HPS1 := mkHid (HPS.out (fun h => he2 h.2))
          clear HPS HHIT
          go_wp2_with fail
          go_quiet (fail)
          have HB6 := mkHid (below_drewN HB5.out nq)
          go_wp2
          go_roundw
          case rel => exact ⟨k + 1, _, rfl, by omega, by omega, HPS1.out, HB6⟩
          case measure => simp [intOf]; omega
    · obtain rfl : k = n := by omega
      have HZ : Hid (t.er = rp (rF l) t) := by
        rw [HRP.out, rF_none (fun j hj => HP.out j hj (by rw [← HN.out]; exact hj))]
        exact mkHid rfl
      obtain ⟨f0, f1, f2, f3⟩ := HF2.out.later HBW.out
      simp only [Nat.zero_add] at f1 f2 f3
      obtain ⟨m0, m1, m2, m3, n0, n1, n2, n3⟩ := HFR.out.later HBW.out
      have MR : Pa w B wr t := ⟨(HT.out.mono HB0.out).later HBB.out, fun R h1 h2 => HT.out.aw h1⟩
      have FI := mkHid (rp_fin (F := rF l) (t := t) MR HB0.out HBB.out HZ.out)
      unfold Tm.val at FI
      clear MR HP HROW HLI
      go_wp2
      exact bodyPost_ret (v := .agg #[.int .i64 t.op, .string t.nm, .int .i64 t.n, .slice t.a t.ks.length t.c]) (by simp [results, Tryd.results49, go_sem, m0, m1, m2, m3]) rfl FI.out
theorem kids_le {t : Tm} : t.ks.length ≤ t.size := by
  rw [Tm.size_eq]
  have : ∀ l : List Tm, l.length ≤ Tm.sizes l := by
    intro l
    induction l with
    | nil => simp
    | cons x l ih =>
      have h1 : 1 ≤ x.size := by rw [Tm.size_eq]; omega
      simp only [List.length_cons, Tm.sizes]
      omega
  have := this t.ks
  omega
theorem kid_le {t k : Tm} (hk : k ∈ t.ks) : k.size ≤ t.size := by
  rw [Tm.size_eq t]
  have : ∀ l : List Tm, k ∈ l → k.size ≤ Tm.sizes l := by
    intro l
    induction l with
    | nil => intro h; simp at h
    | cons x l ih =>
      intro h
      simp only [Tm.sizes]
      rcases List.mem_cons.1 h with rfl | h
      · omega
      · have := ih h; omega
  have := this t.ks hk
  omega
theorem rput_any (l : List As) (sv : Value) (hln : l.length ≤ 1000000) (B : Nat) : ∀ (t : Tm), t.srt ≠ 0 → t.size ≤ 2000 → ∀ (w : World), B ≤ w.heap.size → TIn w B t → SbRow B w sv l → (∀ x ∈ l, TIn w B x.2) →
    Calls Tryd.prog 49 #[t.val, sv] w (RpP (rF l) B t w) := by
  intro t
  induction t using Tm.ind with
  | h t ih =>
    intro hs hz w hB ht hsv hli
    cases hv : varB t.op
    · have hk := srt_ops hs
      have h3 := varB_row t.op.toNat (by omega) (by omega)
      have h2 := nsN_row t.op.toNat (by omega) (by omega)
      rw [show ((t.op.toNat : Nat) : Int) = t.op by omega] at h2 h3
      rw [hv] at h3
      rw [← h3] at h2
      have hlen := kids_le (t := t)
      have hsz : ∀ k ∈ t.ks, k.size ≤ 2000 := fun k h => by have := kid_le h; omega
      obtain ⟨op, nm, n, a, c, ks⟩ := t
      exact rput_part l sv op nm n a c ks hv h2 (by have : ks.length ≤ _ := hlen; omega) B (fun k hk' w' h1 h4 h5 h6 => ih k hk' (hk.2 k hk') (hsz k hk') w' h1 h4 h5 h6) w hB ht hsv hli
    · exact rput_name l sv t hs hv hln B w hB ht hsv hli
end
section
open Go.RowKit

theorem gE_drop {l : List As} {k : Nat} (hk : k < l.length) : gE (l.drop k).reverse = if errR l[k].2 = 0 then gE (l.drop (k + 1)).reverse else errR l[k].2 := by
  rw [List.drop_eq_getElem_cons hk, List.reverse_cons]
  unfold gE
  rw [List.foldl_append]
  rfl
theorem gE_zero : ∀ {l : List As}, gE l.reverse = 0 → ∀ x ∈ l, errR x.2 = 0
  | [], _, x, hx => absurd hx (by simp)
  | y :: l, h, x, hx => by
    have h1 := gE_drop (l := y :: l) (k := 0) (by simp)
    simp only [List.drop_zero, List.drop_succ_cons] at h1
    rw [h] at h1
    by_cases hy : errR y.2 = 0
    · rw [if_pos (show errR (y :: l)[0].2 = 0 from hy)] at h1
      rcases List.mem_cons.1 hx with rfl | hx
      · exact hy
      · exact gE_zero h1.symm x hx
    · rw [if_neg (show ¬ errR (y :: l)[0].2 = 0 from hy)] at h1
      exact absurd h1.symm hy
theorem rp_rF {l : List As} (h : ∀ x ∈ l, errR x.2 = 0) (t : Tm) : rp (rF l) t = rp (gF l.reverse) t := by
  rw [show rF l = gF l.reverse from funext fun nm => funext fun s => rF_gF l h nm s]
set_option maxRecDepth 100000 in
set_option maxHeartbeats 8000000 in
theorem rPut_any (t : Tm) (l : List As) (sv : Value) (w : World) (hin : TIn w w.heap.size t) (hI : SbRow w.heap.size w sv l) (hl : l.length ≤ 1000000) (hli : ∀ x ∈ l, AsIn w x) : Calls Tryd.prog 23 #[t.val, sv] w (SPutP t l w) := by
  have hb2 : Below w.heap.size w (putW t w) := bal (bal (Below.refl _ _) _) _
  have F2 : Four (putW t w) w.heap.size 0 t := (box_four w t).later (bel_alloc _ _)
  have FR : FourV' (putW t w) (w.heap.size + 1) (.int .i64 0) (.string ⟨#[]⟩) (.int .i64 0) (.slice none 0 0) := by simp [FourV', putW, boxT, go_sem]
  have hW2 : (w.alloc (.cells #[.int .i64 t.op, .string t.nm, .int .i64 t.n, .slice t.a t.ks.length t.c] 24)).alloc (.cells #[.int .i64 0, .string ⟨#[]⟩, .int .i64 0, .slice none 0 0] 24) = putW t w := rfl
  have ST := mkHid (rSort_any t (putW t w) (hin.later hb2))
  have CP : Hid (∀ w', Below w.heap.size w w' → errR t = 0 → Calls Tryd.prog 49 #[t.val, sv] w' (RpP (rF l) w.heap.size t w')) := fun w' hb he =>
    rput_any l sv hl w.heap.size t (errR_fine he).2.2.1 (errR_fine he).1 w' hb.size (hin.keep hb) (SbRow.keep hb hI) (fun x hx => (hli x hx).1.keep hb)
  have HB2 := mkHid hb2
  have HFR := mkHid FR
  have HF2 := mkHid F2
  have HLI : Hid (∀ x ∈ l, TIn w w.heap.size x.2) := fun x hx => (hli x hx).1
  have HOV : Hid (∀ er : Nat, er ≠ 0 → (errR t = er ∨ (errR t = 0 ∧ gE l.reverse = er)) → putO t l = (zT, er)) := fun er h0 h => by
    unfold putO
    rcases h with h | ⟨h, h'⟩
    · rw [if_pos (by rw [h]; exact h0), h]
    · rw [if_neg (by omega), if_pos (by rw [h']; exact h0), h']
  have HGD : Hid (∀ k (hk : k < l.length), gE (l.drop k).reverse = if errR l[k].2 = 0 then gE (l.drop (k + 1)).reverse else errR l[k].2) := fun k hk => gE_drop hk
  have HO2 : Hid (errR t = 0 → gE l.reverse = 0 → ∀ z : Tm, z.er = rp (rF l) t → (errR z = 0 → putO t l = (z.er, 0)) ∧ (errR z ≠ 0 → putO t l = (zT, errR z))) := fun h1 h2 z hz => by
    rw [rp_rF (gE_zero h2)] at hz
    have e : errR z = errR (rp (gF l.reverse) t) := by rw [← er_errR, hz]
    refine ⟨fun h => ?_, fun h => ?_⟩
    · unfold putO
      rw [if_neg (by omega), if_neg (by omega), if_neg (by rw [← e]; omega), hz]
    · unfold putO
      rw [if_neg (by omega), if_neg (by omega), if_pos (by rw [← e]; exact h), e]
  obtain ⟨la, lc, rfl, hrow⟩ := hI
  have HROW := mkHid hrow
  clear hrow hli hin hb2 FR
  generalize putW t w = W2 at *
  obtain ⟨f0, f1, f2, f3⟩ := F2
  simp only [Nat.zero_add] at f1 f2 f3
  obtain ⟨n, HN⟩ : ∃ n, Hid (l.length = n) := ⟨_, rfl⟩
  have hn : n ≤ 9223372036854775807 := by rw [← HN.out]; omega
  have h0 : gE l.reverse = gE (l.drop 0).reverse := by rw [List.drop_zero]
  rw [HN.out] at CP ⊢
  have HG0 := mkHid h0
  clear h0 hl
  unfold Tm.val at ST CP ⊢
  go_enter Tryd.func23, Tryd.ntmps23
  go_wp2_with fail
  ((with_reducible refine ST.out.mono ?_)); rintro e w3 ⟨rfl, hb3⟩
  clear f0 f1 f2 f3 ST hW2
  have HB3 := mkHid hb3
  clear hb3
  generalize het : errR t = et at *
  have HET := mkHid het
  clear het
  go_wp2
  go_loopw [7, 8] (fun s7 s8 w' => ∃ (k er : Nat) (x y : Int), s8 = .int .i64 x ∧ x = k ∧ k ≤ n ∧ s7 = .int .i64 y ∧ y = er ∧ Hid ((et ≠ 0 ∧ er = et) ∨ (et = 0 ∧ gE l.reverse = if er = 0 then gE (l.drop k).reverse else er)) ∧ Hid (Below W2.heap.size W2 w')) (fun _ s8 _ => (n - intOf s8).toNat)
  case atStart => exact ⟨0, et, 0, _, rfl, rfl, Nat.zero_le _, rfl, rfl, by
    by_cases h : et = 0
    · exact .inr ⟨h, by rw [if_pos h]; exact HG0.out⟩
    · exact .inl ⟨h, rfl⟩, HB3⟩
  case round =>
    obtain ⟨k, er, x, y, rfl, hxk, hk, rfl, hye, HE, HBW⟩ := hrel
    obtain rfl : x = (k : Int) := hxk
    obtain rfl : y = (er : Int) := hye
    have HBB := mkHid (bon HB2.out HBW.out)
    by_cases hgo : k < n ∧ er = 0
    · obtain ⟨hlt, rfl⟩ := hgo
      have hk' : k < l.length := by rw [HN.out]; exact hlt
      have hlt' : (k : Int) < (n : Int) := by omega
      obtain ⟨b, o, rfl, hbl, hf⟩ := HROW.out k hk'
      have HXI := mkHid (HLI.out _ (List.getElem_mem hk'))
      have HGK := mkHid (HGD.out k hk')
      have c := hf.keep HBB.out hbl
      clear hf hbl HROW HLI HGD
      generalize l[k] = cur at *
      obtain ⟨xn, xt⟩ := cur
      simp only at HXI HGK
      have C1 := mkHid (rSort_any xt wr (HXI.out.later HBB.out))
      unfold Tm.val at C1
      obtain ⟨c0, c1, c2, c3, c4⟩ := c
      have HE2 : Hid ((et ≠ 0 ∧ errR xt = et) ∨ (et = 0 ∧ gE l.reverse = if errR xt = 0 then gE (l.drop (k + 1)).reverse else errR xt)) := by
        rcases HE.out with ⟨h1, h2⟩ | ⟨h1, h2⟩
        · exact absurd h2.symm h1
        · exact .inr ⟨h1, by rw [h2, if_pos rfl, HGK.out]⟩
      clear hk' HE HGK
      generalize errR xt = ex at *
      go_wp2_with fail
      ((with_reducible refine C1.out.mono ?_)); rintro e w5 ⟨rfl, hb5⟩
      clear C1 c0 c1 c2 c3 c4
      have HB5 := mkHid (bon HBW.out hb5)
      clear hb5
      go_wp2
      go_roundw
      case rel => exact ⟨k + 1, ex, _, _, rfl, by omega, by omega, rfl, rfl, HE2, HB5⟩
      case measure => simp [intOf]; omega
    · have hstop : ¬ (k : Int) < (n : Int) ∨ ((k : Int) < (n : Int) ∧ ¬ (er : Int) = 0) := by omega
      have HE3 : Hid (er = 0 → et = 0 ∧ gE l.reverse = 0) := fun h => by
        rcases HE.out with ⟨h1, h2⟩ | ⟨h1, h2⟩
        · exact absurd (h2.symm.trans h) h1
        · refine ⟨h1, ?_⟩
          rw [h2, if_pos h, List.drop_of_length_le (by rw [HN.out]; omega)]
          rfl
      have HE4 : Hid (er ≠ 0 → putO t l = (zT, er)) := fun h => HOV.out er h (by
        rcases HE.out with ⟨h1, h2⟩ | ⟨h1, h2⟩
        · exact .inl h2.symm
        · rw [if_neg h] at h2
          exact .inr ⟨h1, h2⟩)
      obtain ⟨m0, m1, m2, m3, n0, n1, n2, n3⟩ := HFR.out.later HBW.out
      clear HE HROW HLI HGD HOV
      by_cases he : er = 0
      · subst he
        obtain ⟨h1, h2⟩ := HE3.out rfl
        subst h1
        obtain ⟨f0, f1, f2, f3⟩ := HF2.out.later HBW.out
        simp only [Nat.zero_add] at f1 f2 f3
        have HO3 := mkHid (HO2.out rfl h2)
        have C2 := mkHid (CP.out wr HBB.out rfl)
        have hstop2 : ¬ (k : Int) < (n : Int) := by omega
        clear HE3 HE4 HO2 CP m0 m1 m2 m3 n0 n1 n2 n3 hstop h2
        go_wp2_with fail
        ((with_reducible refine C2.out.mono ?_)); rintro e w5 ⟨z, rfl, ze, zt, zw, hb5⟩
        clear C2 f0 f1 f2 f3
        have hX1 : w.heap.size + 1 < wr.heap.size := World.block_lt_of_cell? _ _ (HFR.out.later HBW.out).1
        have HZW : Hid (TAw (w.heap.size + 1) z) := zw _ (by omega) hX1
        clear zw hX1
        have hbx := bel_alloc w5 (boxT z)
        have CS := mkHid (rSort_any z (w5.alloc (boxT z)) (zt.later hbx))
        have HB6 := mkHid (bon HBW.out (bon hb5 hbx))
        have HBB6 := mkHid (bon HB2.out HB6.out)
        have HZT := mkHid (zt.later hbx)
        have g4 := box_four w5 z
        have HZ1 := mkHid (HO3.out z ze)
        have hWx : w5.alloc (.cells #[.int .i64 z.op, .string z.nm, .int .i64 z.n, .slice z.a z.ks.length z.c] 24) = w5.alloc (boxT z) := rfl
        clear hb5 hbx zt ze HO3
        unfold Tm.val
        generalize w5.alloc (boxT z) = w6 at *
        have HG4 := mkHid g4
        obtain ⟨f0, f1, f2, f3⟩ := g4
        simp only [Nat.zero_add] at f1 f2 f3
        unfold Tm.val at CS
        go_wp2_with fail
        ((with_reducible refine CS.out.mono ?_)); rintro e w7 ⟨rfl, hb7⟩
        clear CS f0 f1 f2 f3 hWx
        have HB7 := mkHid (bon HB6.out hb7)
        have HBB7 := mkHid (bon HB2.out HB7.out)
        have HZT7 := mkHid (HZT.out.later hb7)
        obtain ⟨f0, f1, f2, f3⟩ := HG4.out.later hb7
        simp only [Nat.zero_add] at f1 f2 f3
        obtain ⟨m0, m1, m2, m3, n0, n1, n2, n3⟩ := HFR.out.later HB7.out
        clear hb7
        by_cases hz : errR z = 0
        · have HO := mkHid (HZ1.out.1 hz)
          rw [hz]
          clear HZ1 hz
          go_wp2
          refine bodyPost_ret (v := .tuple #[z.val, .int .i64 0]) (by simp [results, Tryd.results23, go_sem, m0, m1, m2, m3, Tm.val]) rfl ?_
          refine ⟨z, by rw [HO.out]; rfl, by rw [HO.out], ?_, bset (bset (bset (bset HBB7.out (by simp) _) (by simp) _) (by simp) _) (by simp) _⟩
          have e : ∀ (W : World) p u, (W.setCell p u).heap.size = W.heap.size := fun W p u => by simp [World.setCell]
          rw [e, e, e, e]
          exact (((HZT7.out.setAw (p := ⟨w.heap.size + 1, 0, none⟩) HZW.out _).setAw (p := ⟨w.heap.size + 1, 1, none⟩) HZW.out _).setAw (p := ⟨w.heap.size + 1, 2, none⟩) HZW.out _).setAw (p := ⟨w.heap.size + 1, 3, none⟩) HZW.out _
        · have HO := mkHid (HZ1.out.2 hz)
          have hzi : ¬ (errR z : Int) = 0 := by omega
          have hne : ((errR z : Int) != 0) = true := by rw [bne_iff_ne]; exact hzi
          clear HZ1 hz
          generalize errR z = er at *
          go_wp2
          refine bodyPost_ret (v := .tuple #[.agg #[.int .i64 0, .string ⟨#[]⟩, .int .i64 0, .slice none 0 0], .int .i64 (er : Int)]) (by simp [results, Tryd.results23, go_sem, m0, m1, m2, m3]) rfl ?_
          exact SPutP.err HO.out (bset (bset (bset (bset HBB7.out (by simp) _) (by simp) _) (by simp) _) (by simp) _)
      · have hn0 : ¬ (er : Int) = 0 := by omega
        have HPE := mkHid (HE4.out he)
        clear HE3 HE4 HO2 CP
        have hne : ((er : Int) != 0) = true := by rw [bne_iff_ne]; exact hn0
        have HBX := HBB.out
        rcases hstop with h1 | ⟨h1, h2⟩
        all_goals
          go_wp2
          refine bodyPost_ret (v := .tuple #[.agg #[.int .i64 0, .string ⟨#[]⟩, .int .i64 0, .slice none 0 0], .int .i64 (er : Int)]) (by simp [results, Tryd.results23, go_sem, m0, m1, m2, m3]) rfl ?_
          exact SPutP.err HPE.out (bset (bset (bset (bset HBX (by simp) _) (by simp) _) (by simp) _) (by simp) _)
end
end Go.Proofs.YtaibmdikimpooaaDoor
