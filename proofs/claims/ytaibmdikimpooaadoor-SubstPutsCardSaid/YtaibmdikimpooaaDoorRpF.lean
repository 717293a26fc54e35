/-
  The document's Free.
  The document's Fresh.
-/
import Derived.Test.YtaibmdikimpooaaDoorRnC
import Derived.Test.YtaibmdikimpooaaDoorSbO
import Derived.Test.YtaibmdikimpooaaDoorTmV
import Derived.Laws.IdiomStrings
import Derived.Laws.Concat
namespace Go.Proofs.YtaibmdikimpooaaDoor
section
open Go.RowKit

theorem rNm_free (t : Tm) (nm : ByteArray) : ((rNm t).any (fun x => x.1.toList == nm.toList)) = freeB t nm := by
  unfold freeB
  by_cases h : errR t = 0
  · rw [decide_eq_true h, Bool.true_and, Bool.eq_iff_iff, List.any_eq_true, List.any_eq_true]
    exact ⟨fun ⟨x, hx, e⟩ => ⟨x, (rNm_mem h x).1 hx, e⟩, fun ⟨x, hx, e⟩ => ⟨x, (rNm_mem h x).2 hx, e⟩⟩
  · rw [decide_eq_false h, Bool.false_and]
    unfold rNm
    rw [if_neg h]
    rfl
set_option maxRecDepth 100000 in
set_option maxHeartbeats 4000000 in
theorem rFree_any (t : Tm) (nm : ByteArray) (w : World) (ht : TIn w w.heap.size t) : Calls Tryd.prog 25 #[t.val, .string nm] w (RetB (freeB t nm) w) := by
  have B0 := bel_alloc w (boxT t)
  have F1 := box_four w t
  have hW2 : w.alloc (.cells #[.int .i64 t.op, .string t.nm, .int .i64 t.n, .slice t.a t.ks.length t.c] 24) = w.alloc (boxT t) := rfl
  have C := mkHid (rNames_any t (w.alloc (boxT t)) (ht.later B0))
  have HB0 := mkHid B0
  have HLN := mkHid (rNm_len t)
  rw [← rNm_free]
  clear B0 ht
  generalize w.alloc (boxT t) = W2 at *
  unfold Tm.val at C ⊢
  obtain ⟨x0, x1, x2, x3⟩ := F1
  simp only [Nat.zero_add] at x1 x2 x3
  generalize rNm t = L at *
  go_enter Tryd.func25, Tryd.ntmps25
  go_wp2_with fail
  ((with_reducible refine C.out.mono ?_)); rintro e w3 ⟨v, rfl, hr3, hb3⟩
  clear C x0 x1 x2 x3 hW2
  have HB3 := mkHid (bon HB0.out hb3)
  obtain ⟨a, c, rfl, -, -, -, hr⟩ := hr3
  have HR := mkHid hr
  have hl := HLN.out
  clear hr hb3
  obtain ⟨n, HN⟩ : ∃ n, Hid (L.length = n) := ⟨_, rfl⟩
  rw [HN.out] at hl ⊢
  go_wp2
  go_loopw [6] (fun s6 w' => ∃ (k : Nat) (x : Int), s6 = .int .i64 x ∧ x = k ∧ k ≤ n ∧ Hid (∀ j (h : j < L.length), j < k → (L[j].1.toList == nm.toList) = false) ∧ w' = w3) (fun s6 _ => (n - intOf s6).toNat)
  case atStart => exact ⟨0, 0, rfl, rfl, Nat.zero_le _, fun j h hj => absurd hj (by omega), rfl⟩
  case round =>
    obtain ⟨k, x, rfl, hxk, hk, HP, rfl⟩ := hrel
    obtain rfl : x = (k : Int) := hxk
    by_cases hlt : k < n
    · have hk' : k < L.length := by rw [HN.out]; exact hlt
      have hlt' : (k : Int) < (n : Int) := by omega
      obtain ⟨g, o, rfl, hf⟩ := HR.out k hk'
      have HPS : Hid ((L[k].1.toList == nm.toList) = false → ∀ j (h : j < L.length), j < k + 1 → (L[j].1.toList == nm.toList) = false) := fun h j hj hjk => by
        by_cases e : j < k
        · exact HP.out j hj e
        · obtain rfl : j = k := by omega
          exact h
      have HHIT : Hid ((L[k].1.toList == nm.toList) = true → L.any (fun x => x.1.toList == nm.toList) = true) := fun h => List.any_eq_true.2 ⟨L[k], List.getElem_mem _, h⟩
      rw [show L.getD k noNm = L[k] by simp [List.getD, hk']] at hf
      clear HP HR
      generalize L[k] = cur at *
      obtain ⟨cn, co⟩ := cur
      simp only at HPS HHIT
      clear hk'
      obtain ⟨c0, c1, c2, c3, c4⟩ := hf
      cases he : (cn.toList == nm.toList)
      · have HP1 := mkHid (HPS.out he)
        clear HPS HHIT
        go_wp2
        go_roundw
        case rel => exact ⟨k + 1, _, rfl, by omega, by omega, HP1, trivial⟩
        case measure => simp [intOf]; omega
      · have HH := mkHid (HHIT.out he)
        clear HPS HHIT
        go_wp2
        go_ret
        exact ⟨by rw [HH.out]; rfl, HB3.out⟩
    · obtain rfl : k = n := by omega
      have HH : Hid (L.any (fun x => x.1.toList == nm.toList) = false) := by
        show _ = _
        rw [List.any_eq_false]
        intro y hy
        obtain ⟨j, hj, rfl⟩ := List.mem_iff_getElem.1 hy
        have := HP.out j hj (by rw [← HN.out]; exact hj)
        simp [this]
      clear HP HR
      go_wp2
      go_ret
      exact ⟨by rw [HH.out]; rfl, HB3.out⟩
end
section
open Go.RowKit

/-- does one of the first i terms have the name? -/
def someB (ts : List Tm) (s : ByteArray) (i : Nat) : Bool := (ts.take i).any (fun t => freeB t s)
theorem someB_succ {ts : List Tm} {s : ByteArray} {i : Nat} (h : i < ts.length) : someB ts s (i + 1) = (someB ts s i || freeB ts[i] s) := by
  unfold someB
  rw [List.take_succ_eq_append_getElem h, List.any_append]
  simp
theorem someB_all (ts : List Tm) (s : ByteArray) : someB ts s ts.length = !noneB ts s := by
  unfold someB noneB
  rw [List.take_length]
  rw [List.not_all_eq_any_not]
  congr 1
  funext t
  simp
theorem own_small {nm : ByteArray} (h : nameB nm = true) : nm.size ≤ 16 := by
  unfold nameB at h
  simp only [Bool.and_eq_true, decide_eq_true_eq] at h
  exact h.1.1.2
theorem size_al5 (w : World) (o : Obj) : (w.alloc o).heap.size = w.heap.size + 1 := by simp [go_sem]
theorem conv_one (w : World) (d : Nat) (h : d < 10) : (convert 74 9 (.slice (some ⟨w.heap.size, 0, none⟩) 1 1)).run Tryd.prog (w.alloc (.cells #[.int .u8 (48 + (d : Int))] 5)) = .ok (.string ⟨#[UInt8.ofNat (48 + d)]⟩) (w.alloc (.cells #[.int .u8 (48 + (d : Int))] 5)) := by
  have hb : ((UInt8.ofNat (48 + d)).toNat : Int) = 48 + (d : Int) := by
    have : ∀ d, d < 10 → ((UInt8.ofNat (48 + d)).toNat : Int) = 48 + (d : Int) := by decide
    exact this d h
  have := run_convert_bytes_back (P := Tryd.prog) (w.alloc (.cells #[.int .u8 (48 + (d : Int))] 5)) 74 9 5 ⟨w.heap.size, 0, none⟩ 1 [UInt8.ofNat (48 + d)] Tryd.underlying74 Tryd.underlying5 Tryd.underlying9 (fun j hj => by
    have : j = 0 := by simpa using hj
    subst this
    rw [List.getElem_cons_zero, hb]
    simp [go_sem, Addr.add])
  exact this
set_option maxRecDepth 100000 in
set_option maxHeartbeats 8000000 in
theorem rFresh_any (ts : List Tm) (sv : Value) (name : ByteArray) (w : World) (hr : SbTs w sv ts) (hl : ts.length ≤ 1000) (hin : ∀ t ∈ ts, TIn w w.heap.size t) (hz : name.size ≤ maxLen) :
    Calls Tryd.prog 27 #[sv, .string name] w (fun e w' => e = .returned (.string (frS ts name)) ∧ Below w.heap.size w w') := by
  have CN := mkHid (rName_any name w hz)
  have HIN := mkHid hin
  obtain ⟨a, c, rfl, hrow⟩ := hr
  have HROW := mkHid hrow
  have HB0 : Hid (Below w.heap.size w w) := Below.refl _ _
  have HF : Hid (∀ j (h : j < ts.length), ∀ s (w' : World), Below w.heap.size w w' → Calls Tryd.prog 25 #[ts[j].val, .string s] w' (RetB (freeB ts[j] s) w')) := fun j h s w' hb => rFree_any ts[j] s w' ((hin _ (List.getElem_mem h)).later hb)
  obtain ⟨n, HN⟩ : ∃ n, Hid (ts.length = n) := ⟨_, rfl⟩
  have hn : n ≤ 1000 := by rw [← HN.out]; exact hl
  rw [HN.out]
  clear hrow hin hl
  have HFS : Hid (frS ts name = frN ts (if nameB name then name else xN)) := rfl
  rw [HFS.out]
  obtain ⟨own, HOW, HOS⟩ : ∃ own, Hid ((if nameB name then name else xN) = own) ∧ Hid (nameB own = true) := ⟨_, rfl, by
    show nameB (if nameB name = true then name else xN) = true
    split
    · assumption
    · decide⟩
  have HOZ := mkHid (own_small HOS.out)
  rw [HOW.out]
  go_enter Tryd.func27, Tryd.ntmps27
  go_wp2_with fail
  ((with_reducible refine CN.out.mono ?_)); rintro e w1 ⟨rfl, rfl⟩
  clear CN
  cases hg : nameB name
  · have HX : Hid ((⟨#[120]⟩ : ByteArray) = own) := by rw [← HOW.out, hg]; exact mkHid rfl
    go_wp2
    rw [HX.out]
    go_loopw [6, 7] (fun s6 s7 w' => ∃ (k : Nat) (x : Int), s7 = .int .i64 x ∧ x = k ∧ k ≤ 100 ∧ s6 = .string (chN own k) ∧ Hid (∀ j, j < k → noneB ts (chN own j) = false) ∧ Hid (Below w.heap.size w w')) (fun _ s7 _ => (100 - intOf s7).toNat)
    case atStart => exact ⟨0, 0, rfl, rfl, Nat.zero_le _, rfl, fun j hj => absurd hj (by omega), HB0⟩
    case round =>
      obtain ⟨k, x, rfl, hxk, hk, rfl, HP, HB⟩ := hrel
      obtain rfl : x = (k : Int) := hxk
      by_cases hlt : k < 100
      · have hk1 : (k : Int) < 100 := by omega
        have HCS : Hid (chN own (k + 1) = own.extract 0 (min own.size 13) ++ ⟨#[95]⟩ ++ ⟨(Lib.decDigits k).toArray⟩) := by
          unfold chN hdN
          rw [if_neg (by omega)]
          exact mkHid rfl
        generalize hch : chN own k = ch at *
        have HCH := mkHid hch
        clear hch
        go_wp2
        go_loopw [8, 9] (fun s8 s9 w' => ∃ (i : Nat) (y : Int), s9 = .int .i64 y ∧ y = i ∧ i ≤ n ∧ s8 = .bool (someB ts ch i) ∧ Hid (Below w.heap.size w w')) (fun _ s9 _ => (n - intOf s9).toNat)
        case atStart => exact ⟨0, 0, rfl, rfl, Nat.zero_le _, rfl, HB⟩
        case round =>
          obtain ⟨i, y, rfl, hyi, hi, rfl, HBi⟩ := hrel
          obtain rfl : y = (i : Int) := hyi
          by_cases hlt2 : i < n
          · have hi' : i < ts.length := by rw [HN.out]; exact hlt2
            have hi2 : (i : Int) < (n : Int) := by omega
            have HSU := mkHid (someB_succ (s := ch) hi')
            cases hsb : someB ts ch i
            · obtain ⟨b, o, rfl, -, hf⟩ := HROW.out i hi'
              have hf2 := hf.later HBi.out
              have C := mkHid (HF.out i hi' ch _ HBi.out)
              clear hf
              generalize ts[i] = t at *
              unfold Tm.val at C
              obtain ⟨g0, g1, g2, g3⟩ := hf2
              clear hi'
              go_wp2_with fail
              ((with_reducible refine C.out.mono ?_)); rintro e w5 ⟨rfl, hb5⟩
              have HB5 := mkHid (bon HBi.out hb5)
              clear C g0 g1 g2 g3 hb5
              go_wp2
              go_roundw
              case rel => exact ⟨i + 1, _, rfl, by omega, by omega, by rw [HSU.out, hsb]; rfl, HB5⟩
              case measure => simp [intOf]; omega
            · clear HSU
              have HSU := mkHid (someB_succ (s := ch) hi')
              have HSU2 : Hid (someB ts ch (i + 1) = true) := by rw [HSU.out, hsb]; exact mkHid rfl
              clear HSU hi'
              go_wp2
              go_roundw
              case rel => exact ⟨i + 1, _, rfl, by omega, by omega, by rw [HSU2.out], HBi⟩
              case measure => simp [intOf]; omega
          · obtain rfl : i = n := by omega
            have HSA : Hid (someB ts ch i = !noneB ts ch) := by rw [← HN.out]; exact mkHid (someB_all ts ch)
            rw [HSA.out]
            cases hnb : noneB ts ch
            · clear HSA HROW HF
              have HP2 : Hid (∀ j, j < k + 1 → noneB ts (chN own j) = false) := fun j hj => by
                by_cases e : j < k
                · exact HP.out j e
                · obtain rfl : j = k := by omega
                  rw [HCH.out]; exact hnb
              have hcv1 := conv_one wr (k % 10) (by omega)
              rw [show (48 + ((k % 10 : Nat) : Int)) = 48 + (k : Int) % 10 by omega] at hcv1
              have hmin : min (own.size : Int) 13 = ((min own.size 13 : Nat) : Int) := by omega
              have hmle : min own.size 13 ≤ own.size := Nat.min_le_left _ _
              have hm13 : min own.size 13 ≤ 13 := Nat.min_le_right _ _
              generalize min own.size 13 = kk at *
              have hes : (own.extract 0 kk).size ≤ 13 := by rw [ByteArray.size_extract]; omega
              have hsa1 : ∀ w : World, (Op.stringOp .add (own.extract 0 kk) ⟨#[95]⟩).run Tryd.prog w = .ok (.string (own.extract 0 kk ++ ⟨#[95]⟩)) w := fun w => run_string_add_sum w _ _ (by
                have : (⟨#[95]⟩ : ByteArray).size = 1 := rfl
                omega)
              have hes2 : (own.extract 0 kk ++ (⟨#[95]⟩ : ByteArray)).size ≤ 14 := by
                rw [ByteArray.size_append]
                have : (⟨#[95]⟩ : ByteArray).size = 1 := rfl
                omega
              by_cases h10 : k < 10
              · have h101 : ¬ (10 : Int) ≤ (k : Int) := by omega
                have hd : (⟨(Lib.decDigits k).toArray⟩ : ByteArray) = ⟨#[UInt8.ofNat (48 + k % 10)]⟩ := by
                  rw [Lib.decDigits_one h10, Nat.mod_eq_of_lt h10]
                rw [hd] at HCS
                have hsa2 : ∀ w : World, (Op.stringOp .add (own.extract 0 kk ++ ⟨#[95]⟩) ⟨#[UInt8.ofNat (48 + k % 10)]⟩).run Tryd.prog w = .ok (.string (own.extract 0 kk ++ ⟨#[95]⟩ ++ ⟨#[UInt8.ofNat (48 + k % 10)]⟩)) w := fun w => run_string_add_sum w _ _ (by
                  have : (⟨#[UInt8.ofNat (48 + k % 10)]⟩ : ByteArray).size = 1 := rfl
                  omega)
                have HB9 := mkHid (bal HBi.out (.cells #[.int .u8 (48 + (k : Int) % 10)] 5))
                clear hd HP
                go_wp2
                go_roundw
                case rel => exact ⟨k + 1, _, rfl, by omega, by omega, by rw [HCS.out]; simp only [UInt8.ofNat_add]; rfl, HP2, HB9⟩
                case measure => simp [intOf]; omega
              · have h101 : (10 : Int) ≤ (k : Int) := by omega
                have hd : (⟨(Lib.decDigits k).toArray⟩ : ByteArray) = ⟨#[UInt8.ofNat (48 + k / 10)]⟩ ++ ⟨#[UInt8.ofNat (48 + k % 10)]⟩ := by
                  rw [Lib.decDigits_two h10 hlt]
                  rfl
                rw [hd] at HCS
                have hcv2 := conv_one (wr.alloc (.cells #[.int .u8 (48 + (k : Int) % 10)] 5)) (k / 10) (by omega)
                rw [show (48 + ((k / 10 : Nat) : Int)) = 48 + (k : Int) / 10 by omega, size_al5] at hcv2
                have hsa3 : ∀ w : World, (Op.stringOp .add ⟨#[UInt8.ofNat (48 + k / 10)]⟩ ⟨#[UInt8.ofNat (48 + k % 10)]⟩).run Tryd.prog w = .ok (.string (⟨#[UInt8.ofNat (48 + k / 10)]⟩ ++ ⟨#[UInt8.ofNat (48 + k % 10)]⟩)) w := fun w => run_string_add_sum w _ _ (by
                  have h1 : (⟨#[UInt8.ofNat (48 + k % 10)]⟩ : ByteArray).size = 1 := rfl
                  have h2 : (⟨#[UInt8.ofNat (48 + k / 10)]⟩ : ByteArray).size = 1 := rfl
                  omega)
                have hsa2 : ∀ w : World, (Op.stringOp .add (own.extract 0 kk ++ ⟨#[95]⟩) (⟨#[UInt8.ofNat (48 + k / 10)]⟩ ++ ⟨#[UInt8.ofNat (48 + k % 10)]⟩)).run Tryd.prog w = .ok (.string (own.extract 0 kk ++ ⟨#[95]⟩ ++ (⟨#[UInt8.ofNat (48 + k / 10)]⟩ ++ ⟨#[UInt8.ofNat (48 + k % 10)]⟩))) w := fun w => run_string_add_sum w _ _ (by
                  have h1 : (⟨#[UInt8.ofNat (48 + k % 10)]⟩ : ByteArray).size = 1 := rfl
                  have h2 : (⟨#[UInt8.ofNat (48 + k / 10)]⟩ : ByteArray).size = 1 := rfl
                  rw [ByteArray.size_append (a := ⟨#[UInt8.ofNat (48 + k / 10)]⟩)]
                  omega)
                have HB9 := mkHid (bal (bal HBi.out (.cells #[.int .u8 (48 + (k : Int) % 10)] 5)) (.cells #[.int .u8 (48 + (k : Int) / 10)] 5))
                clear hd HP
                go_wp2
                go_roundw
                case rel => exact ⟨k + 1, _, rfl, by omega, by omega, by rw [HCS.out]; simp only [UInt8.ofNat_add]; rfl, HP2, HB9⟩
                case measure => simp [intOf]; omega
            · have HR : Hid (frN ts own = ch) := by
                show _ = _
                rw [← HCH.out]
                exact frN_at (by omega) (by rw [HCH.out]; exact hnb) HP.out
              go_wp2
              go_ret
              exact ⟨by rw [HR.out]; rfl, HBi.out⟩
      · obtain rfl : k = 100 := by omega
        have HR : Hid (frN ts own = chN own 100) := by
          unfold frN
          cases h100 : noneB ts (chN own 100)
          · exact mkHid (frN_last (fun j hj => by
              by_cases e : j < 100
              · exact HP.out j e
              · obtain rfl : j = 100 := by omega
                exact h100))
          · exact mkHid (frN_at (by omega) h100 HP.out)
        go_wp2
        go_ret
        exact ⟨by rw [HR.out]; rfl, HB.out⟩
  · have HX : Hid (name = own) := by rw [← HOW.out, hg]; exact mkHid rfl
    obtain rfl : own = name := HX.out.symm
    go_wp2
    go_loopw [6, 7] (fun s6 s7 w' => ∃ (k : Nat) (x : Int), s7 = .int .i64 x ∧ x = k ∧ k ≤ 100 ∧ s6 = .string (chN own k) ∧ Hid (∀ j, j < k → noneB ts (chN own j) = false) ∧ Hid (Below w.heap.size w w')) (fun _ s7 _ => (100 - intOf s7).toNat)
    case atStart => exact ⟨0, 0, rfl, rfl, Nat.zero_le _, rfl, fun j hj => absurd hj (by omega), HB0⟩
    case round =>
      obtain ⟨k, x, rfl, hxk, hk, rfl, HP, HB⟩ := hrel
      obtain rfl : x = (k : Int) := hxk
      by_cases hlt : k < 100
      · have hk1 : (k : Int) < 100 := by omega
        have HCS : Hid (chN own (k + 1) = own.extract 0 (min own.size 13) ++ ⟨#[95]⟩ ++ ⟨(Lib.decDigits k).toArray⟩) := by
          unfold chN hdN
          rw [if_neg (by omega)]
          exact mkHid rfl
        generalize hch : chN own k = ch at *
        have HCH := mkHid hch
        clear hch
        go_wp2
        go_loopw [8, 9] (fun s8 s9 w' => ∃ (i : Nat) (y : Int), s9 = .int .i64 y ∧ y = i ∧ i ≤ n ∧ s8 = .bool (someB ts ch i) ∧ Hid (Below w.heap.size w w')) (fun _ s9 _ => (n - intOf s9).toNat)
        case atStart => exact ⟨0, 0, rfl, rfl, Nat.zero_le _, rfl, HB⟩
        case round =>
          obtain ⟨i, y, rfl, hyi, hi, rfl, HBi⟩ := hrel
          obtain rfl : y = (i : Int) := hyi
          by_cases hlt2 : i < n
          · have hi' : i < ts.length := by rw [HN.out]; exact hlt2
            have hi2 : (i : Int) < (n : Int) := by omega
            have HSU := mkHid (someB_succ (s := ch) hi')
            cases hsb : someB ts ch i
            · obtain ⟨b, o, rfl, -, hf⟩ := HROW.out i hi'
              have hf2 := hf.later HBi.out
              have C := mkHid (HF.out i hi' ch _ HBi.out)
              clear hf
              generalize ts[i] = t at *
              unfold Tm.val at C
              obtain ⟨g0, g1, g2, g3⟩ := hf2
              clear hi'
              go_wp2_with fail
              ((with_reducible refine C.out.mono ?_)); rintro e w5 ⟨rfl, hb5⟩
              have HB5 := mkHid (bon HBi.out hb5)
              clear C g0 g1 g2 g3 hb5
              go_wp2
              go_roundw
              case rel => exact ⟨i + 1, _, rfl, by omega, by omega, by rw [HSU.out, hsb]; rfl, HB5⟩
              case measure => simp [intOf]; omega
            · clear HSU
              have HSU := mkHid (someB_succ (s := ch) hi')
              have HSU2 : Hid (someB ts ch (i + 1) = true) := by rw [HSU.out, hsb]; exact mkHid rfl
              clear HSU hi'
              go_wp2
              go_roundw
              case rel => exact ⟨i + 1, _, rfl, by omega, by omega, by rw [HSU2.out], HBi⟩
              case measure => simp [intOf]; omega
          · obtain rfl : i = n := by omega
            have HSA : Hid (someB ts ch i = !noneB ts ch) := by rw [← HN.out]; exact mkHid (someB_all ts ch)
            rw [HSA.out]
            cases hnb : noneB ts ch
            · clear HSA HROW HF
              have HP2 : Hid (∀ j, j < k + 1 → noneB ts (chN own j) = false) := fun j hj => by
                by_cases e : j < k
                · exact HP.out j e
                · obtain rfl : j = k := by omega
                  rw [HCH.out]; exact hnb
              have hcv1 := conv_one wr (k % 10) (by omega)
              rw [show (48 + ((k % 10 : Nat) : Int)) = 48 + (k : Int) % 10 by omega] at hcv1
              have hmin : min (own.size : Int) 13 = ((min own.size 13 : Nat) : Int) := by omega
              have hmle : min own.size 13 ≤ own.size := Nat.min_le_left _ _
              have hm13 : min own.size 13 ≤ 13 := Nat.min_le_right _ _
              generalize min own.size 13 = kk at *
              have hes : (own.extract 0 kk).size ≤ 13 := by rw [ByteArray.size_extract]; omega
              have hsa1 : ∀ w : World, (Op.stringOp .add (own.extract 0 kk) ⟨#[95]⟩).run Tryd.prog w = .ok (.string (own.extract 0 kk ++ ⟨#[95]⟩)) w := fun w => run_string_add_sum w _ _ (by
                have : (⟨#[95]⟩ : ByteArray).size = 1 := rfl
                omega)
              have hes2 : (own.extract 0 kk ++ (⟨#[95]⟩ : ByteArray)).size ≤ 14 := by
                rw [ByteArray.size_append]
                have : (⟨#[95]⟩ : ByteArray).size = 1 := rfl
                omega
              by_cases h10 : k < 10
              · have h101 : ¬ (10 : Int) ≤ (k : Int) := by omega
                have hd : (⟨(Lib.decDigits k).toArray⟩ : ByteArray) = ⟨#[UInt8.ofNat (48 + k % 10)]⟩ := by
                  rw [Lib.decDigits_one h10, Nat.mod_eq_of_lt h10]
                rw [hd] at HCS
                have hsa2 : ∀ w : World, (Op.stringOp .add (own.extract 0 kk ++ ⟨#[95]⟩) ⟨#[UInt8.ofNat (48 + k % 10)]⟩).run Tryd.prog w = .ok (.string (own.extract 0 kk ++ ⟨#[95]⟩ ++ ⟨#[UInt8.ofNat (48 + k % 10)]⟩)) w := fun w => run_string_add_sum w _ _ (by
                  have : (⟨#[UInt8.ofNat (48 + k % 10)]⟩ : ByteArray).size = 1 := rfl
                  omega)
                have HB9 := mkHid (bal HBi.out (.cells #[.int .u8 (48 + (k : Int) % 10)] 5))
                clear hd HP
                go_wp2
                go_roundw
                case rel => exact ⟨k + 1, _, rfl, by omega, by omega, by rw [HCS.out]; simp only [UInt8.ofNat_add]; rfl, HP2, HB9⟩
                case measure => simp [intOf]; omega
              · have h101 : (10 : Int) ≤ (k : Int) := by omega
                have hd : (⟨(Lib.decDigits k).toArray⟩ : ByteArray) = ⟨#[UInt8.ofNat (48 + k / 10)]⟩ ++ ⟨#[UInt8.ofNat (48 + k % 10)]⟩ := by
                  rw [Lib.decDigits_two h10 hlt]
                  rfl
                rw [hd] at HCS
                have hcv2 := conv_one (wr.alloc (.cells #[.int .u8 (48 + (k : Int) % 10)] 5)) (k / 10) (by omega)
                rw [show (48 + ((k / 10 : Nat) : Int)) = 48 + (k : Int) / 10 by omega, size_al5] at hcv2
                have hsa3 : ∀ w : World, (Op.stringOp .add ⟨#[UInt8.ofNat (48 + k / 10)]⟩ ⟨#[UInt8.ofNat (48 + k % 10)]⟩).run Tryd.prog w = .ok (.string (⟨#[UInt8.ofNat (48 + k / 10)]⟩ ++ ⟨#[UInt8.ofNat (48 + k % 10)]⟩)) w := fun w => run_string_add_sum w _ _ (by
                  have h1 : (⟨#[UInt8.ofNat (48 + k % 10)]⟩ : ByteArray).size = 1 := rfl
                  have h2 : (⟨#[UInt8.ofNat (48 + k / 10)]⟩ : ByteArray).size = 1 := rfl
                  omega)
                have hsa2 : ∀ w : World, (Op.stringOp .add (own.extract 0 kk ++ ⟨#[95]⟩) (⟨#[UInt8.ofNat (48 + k / 10)]⟩ ++ ⟨#[UInt8.ofNat (48 + k % 10)]⟩)).run Tryd.prog w = .ok (.string (own.extract 0 kk ++ ⟨#[95]⟩ ++ (⟨#[UInt8.ofNat (48 + k / 10)]⟩ ++ ⟨#[UInt8.ofNat (48 + k % 10)]⟩))) w := fun w => run_string_add_sum w _ _ (by
                  have h1 : (⟨#[UInt8.ofNat (48 + k % 10)]⟩ : ByteArray).size = 1 := rfl
                  have h2 : (⟨#[UInt8.ofNat (48 + k / 10)]⟩ : ByteArray).size = 1 := rfl
                  rw [ByteArray.size_append (a := ⟨#[UInt8.ofNat (48 + k / 10)]⟩)]
                  omega)
                have HB9 := mkHid (bal (bal HBi.out (.cells #[.int .u8 (48 + (k : Int) % 10)] 5)) (.cells #[.int .u8 (48 + (k : Int) / 10)] 5))
                clear hd HP
                go_wp2
                go_roundw
                case rel => exact ⟨k + 1, _, rfl, by omega, by omega, by rw [HCS.out]; simp only [UInt8.ofNat_add]; rfl, HP2, HB9⟩
                case measure => simp [intOf]; omega
            · have HR : Hid (frN ts own = ch) := by
                show _ = _
                rw [← HCH.out]
                exact frN_at (by omega) (by rw [HCH.out]; exact hnb) HP.out
              go_wp2
              go_ret
              exact ⟨by rw [HR.out]; rfl, HBi.out⟩
      · obtain rfl : k = 100 := by omega
        have HR : Hid (frN ts own = chN own 100) := by
          unfold frN
          cases h100 : noneB ts (chN own 100)
          · exact mkHid (frN_last (fun j hj => by
              by_cases e : j < 100
              · exact HP.out j e
              · obtain rfl : j = 100 := by omega
                exact h100))
          · exact mkHid (frN_at (by omega) h100 HP.out)
        go_wp2
        go_ret
        exact ⟨by rw [HR.out]; rfl, HB.out⟩
end
end Go.Proofs.YtaibmdikimpooaaDoor
