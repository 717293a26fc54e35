/-
  What 'Same' does, where there are few parts.
-/
import Derived.Test.YtaibmdikimpooaaDoorTmH
namespace Go.Proofs.YtaibmdikimpooaaDoor
open Go.RowKit

mutual
def Tm.sm : Nat → Tm → Tm → Bool
  | l, .node o s n _ _ ks, u => decide (l ≤ 100) && decide (o = u.op) && decide (s = u.nm) && decide (n = u.n) && Tm.sms (l + 1) ks u.ks
def Tm.sms : Nat → List Tm → List Tm → Bool
  | _, [], [] => true
  | l, t :: ts, u :: us => Tm.sm l t u && Tm.sms l ts us
  | _, [], _ :: _ => false
  | _, _ :: _, [] => false
end
theorem sm_eq (l : Nat) (t u : Tm) : Tm.sm l t u = (decide (l ≤ 100) && decide (t.op = u.op) && decide (t.nm = u.nm) && decide (t.n = u.n) && Tm.sms (l + 1) t.ks u.ks) := by
  cases t with
  | node => rw [Tm.sm]; rfl
theorem sms_len {l : Nat} {ts us : List Tm} (h : Tm.sms l ts us = true) : ts.length = us.length := by
  induction ts generalizing us with
  | nil => cases us with
    | nil => rfl
    | cons u us => simp [Tm.sms] at h
  | cons t ts ih => cases us with
    | nil => simp [Tm.sms] at h
    | cons u us =>
      simp only [Tm.sms, Bool.and_eq_true] at h
      simp [ih h.2]
theorem sms_get {l : Nat} {ts us : List Tm} (h : Tm.sms l ts us = true) (k : Nat) (h1 : k < ts.length) (h2 : k < us.length) : Tm.sm l ts[k] us[k] = true := by
  induction ts generalizing us k with
  | nil => simp at h1
  | cons t ts ih => cases us with
    | nil => simp at h2
    | cons u us =>
      simp only [Tm.sms, Bool.and_eq_true] at h
      cases k with
      | zero => simpa using h.1
      | succ k => simpa using ih h.2 k (by simpa using h1) (by simpa using h2)
theorem sms_all {l : Nat} {ts us : List Tm} (hl : ts.length = us.length) (h : ∀ k (h1 : k < ts.length) (h2 : k < us.length), Tm.sm l ts[k] us[k] = true) : Tm.sms l ts us = true := by
  induction ts generalizing us with
  | nil => cases us with
    | nil => simp [Tm.sms]
    | cons u us => simp at hl
  | cons t ts ih => cases us with
    | nil => simp at hl
    | cons u us =>
      simp only [Tm.sms, Bool.and_eq_true]
      exact ⟨h 0 (by simp) (by simp), ih (by simpa using hl) (fun k h1 h2 => h (k + 1) (by simpa using h1) (by simpa using h2))⟩
theorem deep_mem {ks : List Tm} {k : Tm} (h : k ∈ ks) : k.deep ≤ Tm.deeps ks := by
  induction ks with
  | nil => simp at h
  | cons t ts ih =>
    simp only [Tm.deeps]
    rcases List.mem_cons.1 h with rfl | h
    · omega
    · have := ih h; omega
theorem sm_refl (t : Tm) : ∀ l, l + t.deep ≤ 101 → Tm.sm l t t = true := by
  induction t using Tm.ind with
  | h t ih =>
    intro l hl
    rw [Tm.deep_eq] at hl
    rw [sm_eq]
    have : Tm.sms (l + 1) t.ks t.ks = true := sms_all rfl (fun k h1 h2 => ih _ (List.getElem_mem _) _ (by have := deep_mem (List.getElem_mem h1); omega))
    rw [this]
    simp; omega

/-- the closure of Same -/
def samF (gb sb : Nat) : Value := .func (.func 41) #[] #[.pointer (some ⟨gb, 0, none⟩), .pointer (some ⟨sb, 0, none⟩)]
structure SamR (w0 : World) (X gb sb p : Nat) (t u : Tm) (k : Nat) (w : World) : Prop where
  but : But gb w0 w
  four : Four w X 0 t
  five : Four w (X + 1) 0 u
  two : ∃ q : Nat, q ≤ p + 1 + Tm.sizes (t.ks.take k) ∧ Two w gb (.int .i64 q) (.map none)
  cl : w.cell? ⟨sb, 0, none⟩ = some (samF gb sb)
def samW (t u : Tm) (w : World) : World := (w.alloc (boxT t)).alloc (boxT u)

set_option maxHeartbeats 4000000 in
set_option maxRecDepth 100000 in
theorem same_call (t : Tm) : ∀ (u : Tm) (B gb sb l p : Nat) (w : World), TIn w B t → TIn w B u → B ≤ gb → B ≤ sb → gb ≠ sb → Two w gb (.int .i64 p) (.map none) → w.cell? ⟨sb, 0, none⟩ = some (samF gb sb) → l ≤ 101 → p + t.size ≤ 2000 →
    Calls Tryd.prog 41 #[t.val, u.val, .int .i64 l, .pointer (some ⟨gb, 0, none⟩), .pointer (some ⟨sb, 0, none⟩)] w fun e w' => e = .returned (.bool (Tm.sm l t u)) ∧ But gb w w' ∧ ∃ q : Nat, q ≤ p + t.size ∧ Two w' gb (.int .i64 q) (.map none) := by
  induction t using Tm.ind with
  | h t ih =>
  intro u B gb sb l p w hin hiu h1 h2 n1 hg hs hl hp
  have hgb : gb < w.heap.size := World.block_lt_of_cell? _ _ hg.1
  have hsb : sb < w.heap.size := World.block_lt_of_cell? _ _ hs
  have hsz := Tm.size_eq t
  have IH := mkHid ih
  have hp1 : p + 1 ≤ 2000 := by have := size_pos t; omega
  clear ih
  have b2 : Below w.heap.size w (samW t u w) := bal (bel_alloc w (boxT t)) (boxT u)
  have G1 : Two (samW t u w) gb (.int .i64 p) (.map none) := two_later b2 hg
  have F1 : Four (samW t u w) w.heap.size 0 t := (box_four w t).later (bel_alloc _ (boxT u))
  have F2 : Four (samW t u w) (w.heap.size + 1) 0 u := by
    have := box_four (w.alloc (boxT t)) u
    rwa [World.size_alloc] at this
  have C1 : (samW t u w).cell? ⟨sb, 0, none⟩ = some (samF gb sb) := cell_later b2 hs
  have hW : (w.alloc (.cells #[.int .i64 t.op, .string t.nm, .int .i64 t.n, .slice t.a t.ks.length t.c] 24)).alloc (.cells #[.int .i64 u.op, .string u.nm, .int .i64 u.n, .slice u.a u.ks.length u.c] 24) = samW t u w := rfl
  have BF := mkHid (fun A n c A' n' c' => before_small gb p (.map none) A A' n c n' c' l _ G1 hp1)
  have HIN := mkHid hin
  have HIU := mkHid hiu
  obtain ⟨-, -, -, hlc, hcm⟩ := hin.nums
  obtain ⟨-, -, -, hlc', hcm'⟩ := hiu.nums
  unfold maxLen at hcm hcm'
  generalize hR : Tm.sm l t u = R
  have HR := mkHid hR
  clear hin hiu hg hs hR
  have HF1 := mkHid F1
  have HF2 := mkHid F2
  obtain ⟨a0, a1, a2, a3⟩ := F1
  obtain ⟨c0, c1, c2, c3⟩ := F2
  simp only [Nat.zero_add] at a1 a2 a3 c1 c2 c3
  unfold Tm.val
  generalize hX : w.heap.size = X at *
  generalize samW t u w = W at *
  have HSM := mkHid (sm_eq l t u)
  rw [HR.out] at HSM
  have e1 : (t.nm.toList == u.nm.toList) = decide (t.nm = u.nm) := by
    rw [Bool.eq_iff_iff]
    simp only [beq_iff_eq, decide_eq_true_eq, ByteArray.toList_eq]
    exact ⟨fun h => Go.WideShapes.bytes_inj h, fun h => by rw [h]⟩
  have HE1 := mkHid e1
  clear e1 HR
  have b3 : Below w.heap.size w W := by rw [hX]; exact b2
  have b4 : But gb w W := But.of b3
  have b5 : But gb w (W.setCell ⟨gb, 0, none⟩ (.int .i64 (p + 1))) := b4.set (.inl rfl) _
  by_cases hl2 : l ≤ 100
  · have hd : decide ((100 : Int) < (l : Int)) = false := decide_eq_false (by omega)
    by_cases hop : t.op = u.op
    · have x1 : (t.op != u.op) = false := by rw [hop]; simp
      by_cases hnm : t.nm = u.nm
      · have x2 : (t.nm.toList == u.nm.toList) = true := by rw [HE1.out]; exact decide_eq_true hnm
        by_cases hn : t.n = u.n
        · have x3 : (t.n != u.n) = false := by rw [hn]; simp
          by_cases hln : t.ks.length = u.ks.length
          · have x4 : ((t.ks.length : Int) != (u.ks.length : Int)) = false := by rw [hln]; simp
            have HRS : Hid (R = Tm.sms (l + 1) t.ks u.ks) := by
              show R = _
              rw [HSM.out, decide_eq_true hl2, decide_eq_true hop, decide_eq_true hnm, decide_eq_true hn]; rfl
            have HLN := mkHid hln
            clear hop hnm hn hln HSM
            have R0 : SamR w X gb sb p t u 0 (W.setCell ⟨gb, 0, none⟩ (.int .i64 (p + 1))) := by
              refine ⟨b5, four_set HF1.out (by omega) _, four_set HF2.out (by omega) _, ⟨p + 1, by omega, two_set0 G1 _⟩, ?_⟩
              exact ((But.refl gb W).set (.inl rfl) _).cell C1 (by simpa using fun e => n1 e.symm)
            go_enter Tryd.func41, Tryd.ntmps41
            go_wp2_with fail
            ((with_reducible refine (BF.out _ _ _ _ _ _).mono ?_)); rintro e w1 ⟨rfl, rfl⟩
            have f4 := R0.four
            rw [Four] at f4
            obtain ⟨d0, d1, d2, d3⟩ := f4
            simp only [Nat.zero_add] at d1 d2 d3
            clear a0 a1 a2 a3 c0 c1 c2 c3 BF HF1 HF2 C1 x1 x2 x3 x4 hW G1
            go_wp2
            clear d0 d1 d2 d3
            generalize hn' : t.ks.length = n at *
            have HN := mkHid hn'
            clear hn'
            have hn9 : n ≤ 9223372036854775807 := by omega
            go_loopw [51] (fun i w' => ∃ (k : Nat) (x : Int), i = .int .i64 x ∧ x = k ∧ k ≤ n ∧ SamR w X gb sb p t u k w' ∧ ∀ i (h1 : i < t.ks.length) (h2 : i < u.ks.length), i < k → Tm.sm (l + 1) t.ks[i] u.ks[i] = true) (fun i _ => (n - intOf i).toNat)
            case atStart => exact ⟨0, 0, rfl, rfl, Nat.zero_le _, R0, fun i _ _ h => by omega⟩
            case round =>
              clear R0
              obtain ⟨k, x, rfl, hxk, hk, R1, hal⟩ := hrel
              obtain rfl : x = (k : Int) := hxk
              have HA := mkHid hal
              clear hal
              obtain ⟨q0, hq0, tw⟩ := R1.two
              by_cases hlt : k < n
              · have hk' : k < t.ks.length := by rw [HN.out]; exact hlt
                have hk2 : k < u.ks.length := by have := HLN.out; omega
                have bB : Below B w wr := R1.but.below h1 (by omega)
                obtain ⟨kin, b, o, ha, hbB, kf⟩ := HIN.out.kid k hk'
                obtain ⟨kiu, b', o', ha', hbB', kf'⟩ := HIU.out.kid k hk2
                have kin' := kin.keep bB
                have kiu' := kiu.keep bB
                have kf1 := kf.keep bB hbB
                have kf2 := kf'.keep bB hbB'
                have hf := R1.four
                have hf' := R1.five
                rw [Four, HN.out] at hf
                rw [Four, ← HLN.out] at hf'
                obtain ⟨f0, f1, f2, f3⟩ := hf
                obtain ⟨y0, y1, y2, y3⟩ := hf'
                simp only [Nat.zero_add] at f1 f2 f3 y1 y2 y3
                have HI := mkHid (IH.out t.ks[k] (List.getElem_mem _) u.ks[k] B gb sb (l + 1) q0)
                have HT := mkHid (take_succ_sizes t.ks k hk')
                have hle := sizes_take_le t.ks (k + 1)
                rw [HT.out] at hle
                have HG : Hid (Tm.sm (l + 1) t.ks[k] u.ks[k] = false → R = false) := by
                  intro h
                  rw [HRS.out, Bool.eq_false_iff]
                  intro hh
                  have := sms_get hh k hk' hk2
                  rw [h] at this; cases this
                have HAA : Hid (Tm.sm (l + 1) t.ks[k] u.ks[k] = true → ∀ i (h1 : i < t.ks.length) (h2 : i < u.ks.length), i < k + 1 → Tm.sm (l + 1) t.ks[i] u.ks[i] = true) := by
                  intro h i g1 g2 g3
                  by_cases e : i < k
                  · exact HA.out i g1 g2 e
                  · obtain rfl : i = k := by omega
                    exact h
                rw [ha] at f3
                rw [ha'] at y3
                have cl := R1.cl
                unfold samF at cl
                clear ha ha' kin kiu kf kf' IH HA HRS
                generalize t.ks[k] = q at *
                generalize u.ks[k] = q' at *
                clear hk' hk2
                obtain ⟨g0, g1, g2, g3⟩ := kf1
                obtain ⟨i0, i1, i2, i3⟩ := kf2
                have RD : Hid (SamR w X gb sb p t u k wr) := R1
                clear R1
                go_wp2_with fail
                have d0 : wr.drew.cell? ⟨b, o + k * 4, none⟩ = some (.int .i64 q.op) := g0
                have d1 : wr.drew.cell? ⟨b, o + k * 4 + 1, none⟩ = some (.string q.nm) := g1
                have d2 : wr.drew.cell? ⟨b, o + k * 4 + 2, none⟩ = some (.int .i64 q.n) := g2
                have d3 : wr.drew.cell? ⟨b, o + k * 4 + 3, none⟩ = some (.slice q.a q.ks.length q.c) := g3
                have j0 : wr.drew.cell? ⟨b', o' + k * 4, none⟩ = some (.int .i64 q'.op) := i0
                have j1 : wr.drew.cell? ⟨b', o' + k * 4 + 1, none⟩ = some (.string q'.nm) := i1
                have j2 : wr.drew.cell? ⟨b', o' + k * 4 + 2, none⟩ = some (.int .i64 q'.n) := i2
                have j3 : wr.drew.cell? ⟨b', o' + k * 4 + 3, none⟩ = some (.slice q'.a q'.ks.length q'.c) := i3
                have e3 : wr.drew.cell? ⟨X, 3, none⟩ = some (.slice (some ⟨b, o, none⟩) n t.c) := f3
                have e4 : wr.drew.cell? ⟨X + 1, 3, none⟩ = some (.slice (some ⟨b', o', none⟩) n u.c) := y3
                have dl : wr.drew.cell? ⟨sb, 0, none⟩ = some (.func (.func 41) #[] #[.pointer (some ⟨gb, 0, none⟩), .pointer (some ⟨sb, 0, none⟩)]) := cl
                have HC := mkHid (HI.out wr.drew (kin'.keep (Below.refl B wr).drew) (kiu'.keep (Below.refl B wr).drew) h1 h2 n1 tw cl (by omega) (by omega))
                rw [show ((l + 1 : Nat) : Int) = (l : Int) + 1 by omega] at HC
                have HB := mkHid (RD.out.but.drew)
                have HF := mkHid (show Four wr.drew X 0 t from RD.out.four)
                have HF' := mkHid (show Four wr.drew (X + 1) 0 u from RD.out.five)
                clear g0 g1 g2 g3 i0 i1 i2 i3 f0 f1 f2 f3 y0 y1 y2 y3 cl HI kin' kiu' RD tw
                refine wp_region_still_tail 13 (by kernel_rfl) (by kernel_rfl) ?_
                change wpStill _ _ wr.drew (fun a' => wpList _ _ _ _ a' wr.drew) _ _
                generalize wr.drew = wd at *
                simp only [List.take_succ_cons, List.take_zero, List.drop_succ_cons, List.drop_zero]
                repeat still_step
                refine wpStill_nil ?_
                unfold Tm.val at HC
                generalize Tm.sm (l + 1) q q' = r1 at *
                cases r1
                · obtain rfl : R = false := HG.out rfl
                  clear HG HAA
                  go_wp2_with (go_at_call 41; ((with_reducible refine HC.out.mono ?_)); rintro e w1 ⟨rfl, hb1, ⟨q1, hq1, tw1⟩⟩)
                  go_ret
                  exact ⟨rfl, HB.out.trans hb1, q1, by omega, tw1⟩
                · clear HG
                  go_wp2_with (go_at_call 41; ((with_reducible refine HC.out.mono ?_)); rintro e w1 ⟨rfl, hb1, ⟨q1, hq1, tw1⟩⟩)
                  go_roundw
                  case rel => exact ⟨k + 1, _, rfl, by omega, by omega, ⟨HB.out.trans hb1, hb1.four HF.out (by omega), hb1.four HF'.out (by omega), ⟨q1, by rw [HT.out]; omega, tw1⟩, hb1.cell dl (by simpa using fun e => n1 e.symm)⟩, HAA.out (by first | rfl | trivial)⟩
                  case measure => simp [intOf]; omega
              · have hRt : R = true := by
                  rw [HRS.out]
                  exact sms_all (by rw [HN.out]; exact HLN.out) (fun i h1 h2 => HA.out i h1 h2 (by rw [HN.out] at h1; omega))
                have hq : q0 ≤ p + t.size := by have := sizes_take_le t.ks k; omega
                subst hRt
                clear HRS hsz
                go_wp2
                go_ret
                exact ⟨rfl, R1.but, q0, hq, tw⟩
          · have x4 : ((t.ks.length : Int) != (u.ks.length : Int)) = true := by rw [bne_iff_ne]; omega
            have hRf : R = false := by rw [HSM.out, Bool.eq_false_iff]; intro h; rw [Bool.and_eq_true] at h; exact hln (sms_len h.2)
            subst hRf
            clear HSM hop hnm hn hln
            go_enter Tryd.func41, Tryd.ntmps41
            go_wp2
            go_ret
            exact ⟨rfl, b4, p, by omega, G1⟩
        · have x3 : (t.n != u.n) = true := by rw [bne_iff_ne]; exact hn
          have hRf : R = false := by rw [HSM.out, decide_eq_false hn]; simp
          subst hRf
          clear HSM hop hnm hn
          go_enter Tryd.func41, Tryd.ntmps41
          go_wp2
          go_ret
          exact ⟨rfl, b4, p, by omega, G1⟩
      · have x2 : (t.nm.toList == u.nm.toList) = false := by rw [HE1.out]; exact decide_eq_false hnm
        have hRf : R = false := by rw [HSM.out, decide_eq_false hnm]; simp
        subst hRf
        clear HSM hop hnm
        go_enter Tryd.func41, Tryd.ntmps41
        go_wp2
        go_ret
        exact ⟨rfl, b4, p, by omega, G1⟩
    · have x1 : (t.op != u.op) = true := by rw [bne_iff_ne]; exact hop
      have hRf : R = false := by rw [HSM.out, decide_eq_false hop]; simp
      subst hRf
      clear HSM hop
      go_enter Tryd.func41, Tryd.ntmps41
      go_wp2
      go_ret
      exact ⟨rfl, b4, p, by omega, G1⟩
  · have hd : decide ((100 : Int) < (l : Int)) = true := decide_eq_true (by omega)
    have hRf : R = false := by rw [HSM.out, decide_eq_false hl2]; simp
    subst hRf
    clear HSM
    go_enter Tryd.func41, Tryd.ntmps41
    go_wp2
    go_ret
    exact ⟨rfl, b4, p, by omega, G1⟩

def sameW (t u : Tm) (w : World) : World :=
  ((((w.alloc (boxT t)).alloc (boxT u)).alloc (.cells #[.int .i64 0, .map none] 49)).alloc (.cells #[.nilFunc] 61)).setCell ⟨w.heap.size + 1 + 1 + 1, 0, none⟩ (samF (w.heap.size + 1 + 1) (w.heap.size + 1 + 1 + 1))
theorem sameW_facts (t u : Tm) (w : World) : Below w.heap.size w (sameW t u w) ∧ Two (sameW t u w) (w.heap.size + 1 + 1) (.int .i64 0) (.map none) ∧ (sameW t u w).cell? ⟨w.heap.size + 1 + 1 + 1, 0, none⟩ = some (samF (w.heap.size + 1 + 1) (w.heap.size + 1 + 1 + 1)) ∧ Four (sameW t u w) w.heap.size 0 t ∧ Four (sameW t u w) (w.heap.size + 1) 0 u := by
  refine ⟨?_, ?_, ?_, ?_, ?_⟩
  · exact bset (bal (bal (bal (bal (Below.refl _ _) _) _) _) _) (by simp; omega) _
  · simp [sameW, Two, go_sem]
  · simp [sameW, go_sem]
  · simp [sameW, Four, boxT, go_sem]
  · simp [sameW, Four, boxT, go_sem]

set_option maxRecDepth 100000 in
set_option maxHeartbeats 2000000 in
theorem same_small (t u : Tm) (w : World) (h : TIn w w.heap.size t) (h' : TIn w w.heap.size u) (hz : t.size ≤ 2000) :
    Calls Tryd.prog 16 #[t.val, u.val] w fun e w' => e = .returned (.bool (Tm.sm 1 t u)) ∧ Below w.heap.size w w' := by
  have hmf : ∀ (fn : Fn) (first cap : Array Value) (w : World), (Instr.makeFunc fn first cap).run Tryd.prog w = .ok (.func fn first cap) w := fun _ _ _ _ => rfl
  obtain ⟨hb, h2, h3, h4, h5⟩ := sameW_facts t u w
  have CN := mkHid (same_call t u w.heap.size (w.heap.size + 1 + 1) (w.heap.size + 1 + 1 + 1) 1 0 (sameW t u w) (h.keep hb) (h'.keep hb) (by omega) (by omega) (by omega) h2 h3 (by omega) (by omega))
  rw [show ((1 : Nat) : Int) = 1 by rfl] at CN
  generalize Tm.sm 1 t u = m at *
  have hW : ((((w.alloc (.cells #[.int .i64 t.op, .string t.nm, .int .i64 t.n, .slice t.a t.ks.length t.c] 24)).alloc (.cells #[.int .i64 u.op, .string u.nm, .int .i64 u.n, .slice u.a u.ks.length u.c] 24)).alloc (.cells #[.int .i64 0, .map none] 49)).alloc (.cells #[.nilFunc] 61)).setCell ⟨w.heap.size + 1 + 1 + 1, 0, none⟩ (.func (.func 41) #[] #[.pointer (some ⟨w.heap.size + 1 + 1, 0, none⟩), .pointer (some ⟨w.heap.size + 1 + 1 + 1, 0, none⟩)]) = sameW t u w := rfl
  unfold samF at h3
  obtain ⟨f0, f1, f2, f3⟩ := h4
  obtain ⟨g0, g1, g2, g3⟩ := h5
  simp only [Nat.zero_add] at f1 f2 f3 g1 g2 g3
  generalize sameW t u w = W at *
  clear h h' h2 hz
  unfold Tm.val at *
  go_enter Tryd.func16, Tryd.ntmps16
  go_wp2_with fail
  clear f0 f1 f2 f3 g0 g1 g2 g3 h3 hW hmf
  ((with_reducible refine CN.out.mono ?_)); rintro e w1 ⟨rfl, hb1, -⟩
  have hB := hb.trans (hb1.below (B := w.heap.size) (by omega) hb.size)
  clear CN hb hb1
  go_wp2
  go_ret
  exact ⟨rfl, hB⟩
end Go.Proofs.YtaibmdikimpooaaDoor
