/-
  SubstFresh, walked: it returns true.
-/
import Derived.Test.YtaibmdikimpooaaDoorSbV
import Derived.BigQuiet
namespace Go.Proofs.YtaibmdikimpooaaDoor
open Go.RowKit

theorem quietF {P : Program} {f : FuncId} {args : Array Value} {w : World} {n : Nat} {v : Value}
    (h : Calls P f args (w.drewN n) fun e w' => e = .returned v ∧ w.drewN n = w') : Calls P f args (w.drewN n) fun e w'' => e = .returned v ∧ ∃ m, w'' = w.drewN m :=
  h.mono fun _ _ ⟨he, hm⟩ => ⟨he, n, hm.symm⟩
/-- the names of the first k terms, as a list, and how many -/
def NmL (ts : List Tm) (k n : Nat) : Prop := n ≤ 2000 * k ∧ ∃ all : List ByteArray, all.length = n ∧ ∀ t ∈ ts.take k, ∀ s : ByteArray, freeB t s = true → s ∈ all
theorem NmL.step {ts : List Tm} {k n : Nat} (h : NmL ts k n) (hk : k < ts.length) {L : List Nm} (hl : L.length ≤ 2000) (hf : ∀ nm : ByteArray, (∀ x ∈ L, x.1 ≠ nm) ↔ freeB ts[k] nm = false) : NmL ts (k + 1) (n + L.length) := by
  obtain ⟨h1, all, h2, h3⟩ := h
  refine ⟨by omega, all ++ L.map (·.1), by simp [h2], fun t ht s hs => ?_⟩
  rw [List.take_succ_eq_append_getElem hk] at ht
  rcases List.mem_append.1 ht with ht | ht
  · exact List.mem_append_left _ (h3 t ht s hs)
  · rw [List.mem_singleton] at ht
    subst ht
    refine List.mem_append_right _ ?_
    by_cases hm : s ∈ L.map (·.1)
    · exact hm
    · have := (hf s).1 (fun x hx e => hm (List.mem_map.2 ⟨x, hx, e⟩))
      rw [this] at hs; cases hs
theorem by_extract (s : ByteArray) (k : Nat) : by_ (s.extract 0 k) = (by_ s).take k := by
  unfold by_
  rw [ByteArray.data_extract, Array.toList_extract, List.extract_eq_take_drop, List.drop_zero, Nat.sub_zero]
theorem fr_all (ts : List Tm) (nm : ByteArray) : nameB (frS ts nm) = true ∧ min (ownN nm).size 13 ≤ (frS ts nm).size ∧ (frS ts nm).extract 0 (min (ownN nm).size 13) = (ownN nm).extract 0 (min (ownN nm).size 13) := by
  obtain ⟨j, hj, e⟩ := frS_choice ts nm
  rw [e]
  obtain ⟨h1, h2⟩ := ch_begin (ownN nm) j
  refine ⟨ch_name (ownN_name nm) hj, h1, by_inj ?_⟩
  rw [by_extract, by_extract, h2]
set_option maxRecDepth 100000 in
set_option maxHeartbeats 16000000 in
theorem fresh_law (ts : List Tm) (a : Option Addr) (m len c : Nat) (nm : ByteArray) (w : World) (hm : m = min len 10) (hl : ts.length = m) (hcap : len ≤ c) (hcm : c ≤ maxLen) (hr : ∀ j (h : j < ts.length), ∃ b o, a = some ⟨b, o, none⟩ ∧ b < w.heap.size ∧ Four w b (o + j * 4) ts[j]) (hin : ∀ t ∈ ts, TIn w w.heap.size t) (hz : nm.size ≤ maxLen) (hS : Shps w) : Calls Tryd.prog 5 #[.slice a len c, .string nm] w (RetB true w) := by
  have HR : Hid (SbTs w (.slice a m c) ts) := ⟨a, c, by rw [hl], hr⟩
  have HIN := mkHid hin
  have HS := mkHid hS
  have HL := mkHid hl
  have HZ := mkHid hz
  have hm10 : m ≤ 10 := by omega
  have hml : m ≤ len := by omega
  have CS := mkHid (sshown_any w hS)
  have hmin : min (len : Int) 10 = (m : Int) := by omega
  have hc9 : c ≤ 9223372036854775807 := by unfold maxLen at hcm; omega
  clear hr hin hS hl hz hm
  go_enter Tryd.func5, Tryd.ntmps5
  go_wp2_with fail
  ((with_reducible refine CS.out.mono ?_)); rintro e w1 ⟨rfl, hb1⟩
  have HB1 := mkHid hb1
  clear CS hb1
  go_wp2
  go_loopw [6, 7] (fun s6 s7 w' => ∃ (k n : Nat) (x y : Int), s7 = .int .i64 x ∧ x = k ∧ k ≤ m ∧ s6 = .int .i64 y ∧ y = n ∧ n ≤ 2000 * k ∧ Hid (NmL ts k n) ∧ Hid (Below w.heap.size w w')) (fun _ s7 _ => (m - intOf s7).toNat)
  case atStart => exact ⟨0, 0, 0, 0, rfl, rfl, Nat.zero_le _, rfl, rfl, Nat.zero_le _, mkHid ⟨Nat.zero_le _, [], rfl, fun t ht => by simp at ht⟩, HB1⟩
  case round =>
    obtain ⟨k, n, x, y, rfl, hxk, hk, rfl, hyn, hn, HNL, HB⟩ := hrel
    obtain rfl : x = (k : Int) := hxk
    obtain rfl : y = (n : Int) := hyn
    by_cases hlt : k < m
    · have hk' : k < ts.length := by rw [HL.out]; exact hlt
      obtain ⟨a', c', e, hrow⟩ := HR.out.later HB.out
      simp only [Value.slice.injEq] at e
      obtain ⟨rfl, -, rfl⟩ := e
      obtain ⟨b, o, rfl, -, kf⟩ := hrow k hk'
      have HST : Hid (∀ L : List Nm, L.length ≤ 2000 → (∀ nm : ByteArray, (∀ x ∈ L, x.1 ≠ nm) ↔ freeB ts[k] nm = false) → NmL ts (k + 1) (n + L.length)) := fun L h1 h2 => HNL.out.step hk' h1 h2
      have HTI := mkHid ((HIN.out _ (List.getElem_mem hk')).later HB.out)
      have HF := mkHid kf
      clear hrow
      generalize ts[k] = t at *
      clear hk'
      have C1 := mkHid (small_any t wr HTI.out (HS.out.later HB.out))
      unfold Tm.val at C1
      obtain ⟨g0, g1, g2, g3⟩ := kf
      have hk2 : (k : Int) < (m : Int) := by omega
      go_wp2_with fail
      ((with_reducible refine C1.out.mono ?_)); rintro e w4 ⟨rfl, hb4⟩
      clear g0 g1 g2 g3 C1
      have HB4 := mkHid (bon HB.out hb4)
      by_cases h1 : smallB t = true
      · rw [h1]
        obtain ⟨g0, g1, g2, g3⟩ := HF.out.later hb4
        have C2 := mkHid (snames_any t w4 (HTI.out.later hb4) (HS.out.later HB4.out))
        unfold Tm.val at C2
        clear hb4
        go_wp2_with fail
        ((with_reducible refine C2.out.mono ?_)); rintro e w5 ⟨⟨L, v, rfl, own, hll, hsz, hfr⟩, hb5⟩
        obtain ⟨A, cL, rfl⟩ := own_slice own
        have HB5 := mkHid (bon HB4.out hb5)
        have HN2 := mkHid (HST.out L hll hfr)
        clear own hsz hfr hb5 C2 g0 g1 g2 g3 HST
        generalize L.length = q at *
        go_wp2
        go_roundw
        case rel => exact ⟨k + 1, n + q, _, _, rfl, by omega, by omega, rfl, by omega, by omega, HN2, HB5⟩
        case measure => simp [intOf]; omega
      · rw [show smallB t = false by simpa using h1]
        go_wp2
        go_ret
        exact ⟨rfl, HB4.out⟩
    · obtain rfl : k = m := by omega
      have CF := mkHid (fresh_any ts (.slice a k c) nm wr (HR.out.later HB.out) (by rw [HL.out]; omega) (fun t ht => (HIN.out t ht).later HB.out) (HS.out.later HB.out) HZ.out)
      go_wp2_with fail
      ((with_reducible refine CF.out.mono ?_)); rintro e w6 ⟨rfl, hb6⟩
      have HB6 := mkHid (bon HB.out hb6)
      have CN := mkHid (name_any nm w6 HZ.out)
      clear CF hb6
      go_wp2_with fail
      ((with_reducible refine CN.out.mono ?_)); rintro e w7 ⟨rfl, rfl⟩
      clear CN
      obtain ⟨f1, f2, f3⟩ := fr_all ts nm
      have HZS := mkHid (frS_size ts nm)
      have HFR : Hid (n < 100 → ∀ t ∈ ts, freeB t (frS ts nm) = false) := fun h t ht => by
        obtain ⟨-, all, h2, h3⟩ := HNL.out
        rw [List.take_of_length_le (by rw [HL.out]; omega)] at h3
        have := fr_free nm h3 (by omega)
        unfold noneB at this
        have := List.all_eq_true.1 this t ht
        simpa using this
      have CN := mkHid (fun q => name_any (frS ts nm) (w6.drewN q) HZS.out)
      rw [f1] at CN
      cases hg : nameB nm
      · rw [show ownN nm = xN by unfold ownN; rw [hg]; rfl] at f2 f3
        generalize frS ts nm = s at *
        have f4 : min xN.size 13 ≤ (⟨#[120]⟩ : ByteArray).size := by decide
        have f5 : min (1 : Int) 13 = ((min xN.size 13 : Nat) : Int) := by decide
        have f3' : s.extract 0 (min xN.size 13) = (⟨#[120]⟩ : ByteArray).extract 0 (min xN.size 13) := f3
        clear f3
        generalize min xN.size 13 = kk at *
        have f6 : (kk : Int) ≤ 1 := by have : (⟨#[120]⟩ : ByteArray).size = 1 := rfl; omega
        have f2' : (kk : Int) ≤ (s.size : Int) := by omega
        clear f1
        go_wp2_with fail
        have hd : decide ((s.size : Int) < (kk : Int)) = false := decide_eq_false (by omega)
        go_quiet ((go_at_call 18; with_reducible exact quietF (CN.out _)))
        have HB7 : Hid (∀ q, Below w.heap.size w (w6.drewN q)) := fun q => below_drewN HB6.out q
        clear CN HB6 HB HNL
        go_wp2
        have hd2 : decide (s.size < kk) = false := decide_eq_false (by omega)
        rw [hd2]
        clear hd hd2
        go_loopw [13] (fun s13 w' => ∃ (j : Nat) (x : Int), s13 = .int .i64 x ∧ x = j ∧ j ≤ k ∧ Hid (Below w.heap.size w w')) (fun s13 _ => (k - intOf s13).toNat)
        case atStart => exact ⟨0, 0, rfl, rfl, Nat.zero_le _, mkHid (HB7.out _)⟩
        case round =>
          obtain ⟨j, x, rfl, hxj, hj, HB⟩ := hrel
          obtain rfl : x = (j : Int) := hxj
          by_cases hlt : j < k
          · have hjk : (j : Int) < (k : Int) := by omega
            by_cases hn1 : n < 100
            · have hn2 : (n : Int) < 100 := by omega
              have hj' : j < ts.length := by rw [HL.out]; exact hlt
              obtain ⟨a', c', e, hrow⟩ := HR.out.later HB.out
              simp only [Value.slice.injEq] at e
              obtain ⟨rfl, -, rfl⟩ := e
              obtain ⟨b, o, rfl, -, kf⟩ := hrow j hj'
              have hfr := HFR.out hn1 ts[j] (List.getElem_mem hj')
              have CFr := mkHid (free_any ts[j] s wr ((HIN.out _ (List.getElem_mem hj')).later HB.out) (HS.out.later HB.out))
              rw [hfr] at CFr
              clear hrow hfr
              generalize ts[j] = t at *
              clear hj'
              unfold Tm.val at CFr
              obtain ⟨g0, g1, g2, g3⟩ := kf
              go_wp2_with fail
              ((with_reducible refine CFr.out.mono ?_)); rintro e w9 ⟨rfl, hb9⟩
              have HB9 := mkHid (bon HB.out hb9)
              clear g0 g1 g2 g3 CFr hb9
              go_wp2
              go_roundw
              case rel => exact ⟨j + 1, _, rfl, by omega, by omega, HB9⟩
              case measure => simp [intOf]; omega
            · have hn2 : ¬ (n : Int) < 100 := by omega
              go_wp2
              go_ret
              exact ⟨rfl, HB.out⟩
          · obtain rfl : j = k := by omega
            go_wp2
            go_ret
            exact ⟨rfl, HB.out⟩
      · rw [show ownN nm = nm by unfold ownN; rw [hg]; rfl] at f2 f3
        generalize frS ts nm = s at *
        have f4 : min nm.size 13 ≤ nm.size := Nat.min_le_left _ _
        have f5 : min (nm.size : Int) 13 = ((min nm.size 13 : Nat) : Int) := by omega
        generalize min nm.size 13 = kk at *
        have f2' : (kk : Int) ≤ (s.size : Int) := by omega
        clear f1
        go_wp2_with fail
        have hd : decide ((s.size : Int) < (kk : Int)) = false := decide_eq_false (by omega)
        go_quiet ((go_at_call 18; with_reducible exact quietF (CN.out _)))
        have HB7 : Hid (∀ q, Below w.heap.size w (w6.drewN q)) := fun q => below_drewN HB6.out q
        clear CN HB6 HB HNL
        go_wp2
        have hd2 : decide (s.size < kk) = false := decide_eq_false (by omega)
        rw [hd2]
        clear hd hd2
        go_loopw [13] (fun s13 w' => ∃ (j : Nat) (x : Int), s13 = .int .i64 x ∧ x = j ∧ j ≤ k ∧ Hid (Below w.heap.size w w')) (fun s13 _ => (k - intOf s13).toNat)
        case atStart => exact ⟨0, 0, rfl, rfl, Nat.zero_le _, mkHid (HB7.out _)⟩
        case round =>
          obtain ⟨j, x, rfl, hxj, hj, HB⟩ := hrel
          obtain rfl : x = (j : Int) := hxj
          by_cases hlt : j < k
          · have hjk : (j : Int) < (k : Int) := by omega
            by_cases hn1 : n < 100
            · have hn2 : (n : Int) < 100 := by omega
              have hj' : j < ts.length := by rw [HL.out]; exact hlt
              obtain ⟨a', c', e, hrow⟩ := HR.out.later HB.out
              simp only [Value.slice.injEq] at e
              obtain ⟨rfl, -, rfl⟩ := e
              obtain ⟨b, o, rfl, -, kf⟩ := hrow j hj'
              have hfr := HFR.out hn1 ts[j] (List.getElem_mem hj')
              have CFr := mkHid (free_any ts[j] s wr ((HIN.out _ (List.getElem_mem hj')).later HB.out) (HS.out.later HB.out))
              rw [hfr] at CFr
              clear hrow hfr
              generalize ts[j] = t at *
              clear hj'
              unfold Tm.val at CFr
              obtain ⟨g0, g1, g2, g3⟩ := kf
              go_wp2_with fail
              ((with_reducible refine CFr.out.mono ?_)); rintro e w9 ⟨rfl, hb9⟩
              have HB9 := mkHid (bon HB.out hb9)
              clear g0 g1 g2 g3 CFr hb9
              go_wp2
              go_roundw
              case rel => exact ⟨j + 1, _, rfl, by omega, by omega, HB9⟩
              case measure => simp [intOf]; omega
            · have hn2 : ¬ (n : Int) < 100 := by omega
              go_wp2
              go_ret
              exact ⟨rfl, HB.out⟩
          · obtain rfl : j = k := by omega
            go_wp2
            go_ret
            exact ⟨rfl, HB.out⟩
theorem fresh_row (a : Option Addr) (n c : Nat) (l : List Tm) (nm : ByteArray) (w : World) (hcap : n ≤ c) (hcm : c ≤ maxLen) (hl : l.length = n) (hr : ∀ j (h : j < l.length), ∃ b o, a = some ⟨b, o, none⟩ ∧ b < w.heap.size ∧ Four w b (o + j * 4) l[j]) (hin : ∀ t ∈ l, TIn w w.heap.size t) (hz : nm.size ≤ maxLen) (hS : Shps w) : Calls Tryd.prog 5 #[.slice a n c, .string nm] w (RetB true w) := by
  refine fresh_law (l.take 10) a (min n 10) n c nm w rfl (by rw [List.length_take, hl]; omega) hcap hcm (fun j h => ?_) (fun t ht => hin t (List.mem_of_mem_take ht)) hz hS
  rw [List.length_take] at h
  obtain ⟨b, o, e, hb, hf⟩ := hr j (by omega)
  exact ⟨b, o, e, hb, by rw [List.getElem_take]; exact hf⟩
end Go.Proofs.YtaibmdikimpooaaDoor
