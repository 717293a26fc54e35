/-
  SubstNone, walked: it returns true.
-/
import Derived.Test.YtaiachmolkjedaaDoorSbU
import Derived.Deep.RegionHeld2
import Derived.Deep.DeepCutAuto
import Derived.Deep.CutBlock
namespace Go.Proofs.YtaiachmolkjedaaDoor
open Go.RowKit

/-- a term in a box -/
structure T1 (X : Nat) (t : Tm) (w : World) : Prop where
  f0 : Four w X 0 t
  t0 : TIn w w.heap.size t
  sh : Shps w
theorem T1.later {X : Nat} {t : Tm} {w w' : World} (h : T1 X t w) (hb : Below w.heap.size w w') : T1 X t w' :=
  ⟨h.f0.later hb, h.t0.later hb, h.sh.later hb⟩
/-- is one of the first k names a node's of this text? -/
def ndB (L : List Nm) (nm : ByteArray) (k : Nat) : Bool := (List.range k).any (fun j => ((L.getD j noNm).2 == 14) && ((L.getD j noNm).1.toList == nm.toList))
theorem ndB_succ (L : List Nm) (nm : ByteArray) (k : Nat) : ndB L nm (k + 1) = (ndB L nm k || (((L.getD k noNm).2 == 14) && ((L.getD k noNm).1.toList == nm.toList))) := by
  simp only [ndB, List.range_succ, List.any_append, List.any_cons, List.any_nil, Bool.or_false]
theorem ndB_all {t : Tm} {L : List Nm} (nm : ByteArray) (hL : ∀ x, x ∈ L ↔ x ∈ t.vars) : ndB L nm L.length = nodeB t nm := by
  have hb : ∀ (x : Nm), (x.1.toList == nm.toList) = true ↔ x.1 = nm := fun x => by
    rw [beq_iff_eq, ByteArray.toList_eq, ByteArray.toList_eq]
    exact ⟨fun h => Go.WideShapes.bytes_inj h, fun h => by rw [h]⟩
  unfold ndB nodeB
  rw [Bool.eq_iff_iff, List.any_eq_true, List.any_eq_true]
  constructor
  · rintro ⟨j, hj, hp⟩
    simp only [Bool.and_eq_true, beq_iff_eq] at hp
    refine ⟨L.getD j noNm, (hL _).1 ((mem_getD L _).2 ⟨j, List.mem_range.1 hj, rfl⟩), ?_⟩
    rw [hp.1, (hb _).1 (by rw [hp.2]; simp)]; simp
  · rintro ⟨x, hx, hp⟩
    obtain ⟨j, hj, rfl⟩ := (mem_getD L x).1 ((hL _).2 hx)
    simp only [Bool.and_eq_true, decide_eq_true_eq] at hp
    refine ⟨j, List.mem_range.2 hj, ?_⟩
    rw [hp.1, (hb _).2 hp.2]; rfl
set_option maxRecDepth 100000 in
set_option maxHeartbeats 16000000 in
theorem none_any (t : Tm) (nm : ByteArray) (n : Int) (w : World) (ht : TIn w w.heap.size t) (hz : nm.size ≤ maxLen) (hn : fitB n = true) (hS : Shps w) : Calls Tryd.prog 5 #[t.val, .string nm, .int .i64 n] w (RetB true w) := by
  have B0 := bel_alloc w (boxT t)
  have K0 : T1 w.heap.size t (w.alloc (boxT t)) := ⟨box_four w t, ht.later B0, hS.later B0⟩
  have hW : w.alloc (.cells #[.int .i64 t.op, .string t.nm, .int .i64 t.n, .slice t.a t.ks.length t.c] 24) = w.alloc (boxT t) := rfl
  have HB0 := mkHid B0
  have HK := mkHid K0
  clear B0 K0 ht hS
  generalize w.alloc (boxT t) = W at *
  have CS := mkHid (sshown_any W HK.out.sh)
  have C1 := mkHid (fun (w' : World) (hb : Below W.heap.size W w') => small_any t w' (HK.out.t0.later hb) (HK.out.sh.later hb))
  unfold Tm.val at C1 ⊢
  go_enter Tryd.func5, Tryd.ntmps5
  go_wp2_with fail
  ((with_reducible refine CS.out.mono ?_)); rintro e w4 ⟨rfl, hb4⟩
  clear CS hW
  have HB4 := mkHid hb4
  clear hb4
  obtain ⟨k0, k1, k2, k3⟩ := (HK.out.later HB4.out).f0
  simp only [Nat.zero_add] at k1 k2 k3
  go_wp2_with fail
  ((with_reducible refine (C1.out _ HB4.out).mono ?_)); rintro e w5 ⟨rfl, hbx⟩
  clear k0 k1 k2 k3
  have HB5 := mkHid (bon HB4.out hbx)
  clear hbx C1 HB4
  by_cases h1 : smallB t = true
  · rw [h1]
    obtain ⟨et, hsz, -⟩ := smallB_is.1 h1
    have HT5 := mkHid (HK.out.later HB5.out)
    have C2 := mkHid (sn_fr t nm w5 HT5.out.t0 hz HT5.out.sh)
    unfold boxT at C2
    obtain ⟨k0, k1, k2, k3⟩ := HT5.out.f0
    simp only [Nat.zero_add] at k1 k2 k3
    go_wp2_with fail
    ((with_reducible refine C2.out.mono ?_)); rintro e w6 ⟨rfl, hb6⟩
    clear C2 k0 k1 k2 k3
    have hfz := frS_size [t] nm
    generalize frS [t] nm = f at *
    have HB6 := mkHid (bon HB5.out hb6)
    clear hb6 HB5 HT5
    have HT6 := mkHid (HK.out.later HB6.out)
    have C3 := mkHid (free_any t f w6 HT6.out.t0 HT6.out.sh)
    unfold Tm.val at C3
    obtain ⟨k0, k1, k2, k3⟩ := HT6.out.f0
    simp only [Nat.zero_add] at k1 k2 k3
    go_wp2_with fail
    ((with_reducible refine C3.out.mono ?_)); rintro e w7 ⟨rfl, hb7⟩
    clear C3 k0 k1 k2 k3
    have HB7 := mkHid (bon HB6.out hb7)
    clear hb7 HB6 HT6
    cases hf : freeB t f
    · have HT7 := mkHid (HK.out.later HB7.out)
      have C4 := mkHid (sn_p2 t f n w7 HT7.out.t0 et hf hfz hn HT7.out.sh)
      unfold row2 Tm.val at C4
      obtain ⟨k0, k1, k2, k3⟩ := HT7.out.f0
      simp only [Nat.zero_add] at k1 k2 k3
      go_wp2_with fail
      ((with_reducible refine C4.out.mono ?_)); rintro e w8 ⟨a, rfl, ha, hai, hb8⟩
      clear C4 k0 k1 k2 k3 hf
      have HB8 := mkHid (bon HB7.out hb8)
      have b9 := bel_alloc w8 (boxT a)
      have HB9 := mkHid (bon HB8.out b9)
      have HFA := mkHid (box_four w8 a)
      have HAI := mkHid (hai.later b9)
      have HA := mkHid ha
      have hW9 : w8.alloc (.cells #[.int .i64 a.op, .string a.nm, .int .i64 a.n, .slice a.a a.ks.length a.c] 24) = w8.alloc (boxT a) := rfl
      clear ha hai hb8 b9 HT7 HB7 HB8
      unfold Tm.val
      generalize w8.alloc (boxT a) = w9 at *
      have CN := mkHid (fun (w' : World) (hb : Below W.heap.size W w') => sn_names t w' (HK.out.later hb).t0 et (HK.out.later hb).sh)
      have CP := mkHid (fun (w' : World) (hb : Below W.heap.size W w') (L : List Nm) (v : Value) (base : Nat) (ho : w'.ownsRow base 43 5 v L.length (asgs L)) (hl : L.length ≤ 2000) (hz : ∀ x ∈ L, x.1.size ≤ maxLen) (hL : ∀ x, x ∈ L ↔ x ∈ t.vars) => sn_pf t L v base w' (HK.out.later hb).t0 et ho hl hz hL (HK.out.later hb).sh)
      have HS9 : Hid (∀ w', Below W.heap.size W w' → w'.cell? ⟨w.heap.size, 0, none⟩ = some (.int .i64 t.op) ∧ w'.cell? ⟨w.heap.size, 1, none⟩ = some (.string t.nm) ∧ w'.cell? ⟨w.heap.size, 2, none⟩ = some (.int .i64 t.n) ∧ w'.cell? ⟨w.heap.size, 3, none⟩ = some (.slice t.a t.ks.length t.c)) := fun w' hb => by
        obtain ⟨k0, k1, k2, k3⟩ := (HK.out.later hb).f0
        simp only [Nat.zero_add] at k1 k2 k3
        exact ⟨k0, k1, k2, k3⟩
      have e1 : Below W.heap.size W w9.drew := bdrew HB9.out
      have e2 : Below W.heap.size W (w9.alloc (.cells #[.int .i64 0, .string ⟨#[]⟩, .int .i64 0, .slice none 0 0] 24)).drew := bdrew (bal HB9.out _)
      have FZ : FourV' (w9.alloc (.cells #[.int .i64 0, .string ⟨#[]⟩, .int .i64 0, .slice none 0 0] 24)).drew w9.heap.size (.int .i64 0) (.string ⟨#[]⟩) (.int .i64 0) (.slice none 0 0) := by simp [FourV', go_sem]
      have h9 := HB9.out.size
      unfold Tm.val at CN
      unfold PutFr Tm.val at CP
      go_wp2_with fail
      clear hW9
      go_cut [12, 13] (fun s12 s13 wx => ∃ (blk : Nat) (b : Tm), s12 = .pointer (some ⟨blk, 0, none⟩) ∧ s13 = .int .i64 0 ∧ b.er = t.er ∧ Four wx blk 0 b ∧ TIn wx wx.heap.size b ∧ Below w9.heap.size w9 wx)
      case first =>
        go_region_held2 (fun w' => w'.cell? ⟨w.heap.size, 0, none⟩ = some (.int .i64 t.op) ∧ w'.cell? ⟨w.heap.size, 1, none⟩ = some (.string t.nm) ∧ w'.cell? ⟨w.heap.size, 2, none⟩ = some (.int .i64 t.n) ∧ w'.cell? ⟨w.heap.size, 3, none⟩ = some (.slice t.a t.ks.length t.c))
          ((refine HS9.out _ ?_; first | assumption | exact bal (by assumption) _ | exact bset (bset (bset (bset (by assumption) (by assumption) _) (by assumption) _) (by assumption) _) (by assumption) _ | exact bset (bset (bset (bset (bal (by assumption) _) (by assumption) _) (by assumption) _) (by assumption) _) (by assumption) _))
          (first
            | (go_at_call 18; ((with_reducible refine (CN.out _ e2).mono ?_)); rintro e w10 ⟨⟨L, v, rfl, own, hlen, hzs, hL⟩, hb10⟩; have FZ10 := FZ.later hb10; have hx10 := bon e2 hb10; have h10 := hx10.size; have h910 : w9.heap.size < w10.heap.size := World.block_lt_of_cell? _ _ FZ10.1)
            | (go_at_call 18; ((with_reducible refine (CN.out _ e1).mono ?_)); rintro e w10 ⟨⟨L, v, rfl, own, hlen, hzs, hL⟩, hb10⟩; have hx10 := bon e1 hb10; have h10 := hx10.size)
            | (go_at_call 28; ((with_reducible refine (CP.out _ hx10 L v _ own hlen hzs hL).mono ?_)); rintro e w11 ⟨b, rfl, hbe, hbi, hbf, hb11⟩; have hx11 := bon hx10 hb11; have h11 := hx11.size; obtain ⟨z0, z1, z2, z3, z4, z5, z6, z7⟩ := FZ10.later hb11)
            | (go_at_call 28; ((with_reducible refine (CP.out _ hx10 L v _ own hlen hzs hL).mono ?_)); rintro e w11 ⟨b, rfl, hbe, hbi, hbf, hb11⟩; have hx11 := bon hx10 hb11; have h11 := hx11.size)
            | (go_at_call 28; ((with_reducible refine (CP.out _ (bal hx10 _) L v _ (own_later own (bel_alloc _ _)) hlen hzs hL).mono ?_)); rintro e w11 ⟨b, rfl, hbe, hbi, hbf, hb11⟩; have hx11 := bon (bal hx10 _) hb11; have h11 := hx11.size; obtain ⟨z0, z1, z2, z3, z4, z5, z6, z7⟩ := FourV'.later (show FourV' (w10.alloc (.cells #[.int .i64 0, .string ⟨#[]⟩, .int .i64 0, .slice none 0 0] 24)) w10.heap.size (.int .i64 0) (.string ⟨#[]⟩) (.int .i64 0) (.slice none 0 0) by simp [FourV', go_sem]) hb11))
        all_goals
          go_wp2_with fail
          go_meet
          first
            | (refine ⟨w9.heap.size, b, rfl, rfl, hbe, ?_, in_set4 hbi hbf h910 _ _ _ _, bset (bset (bset (bset (bon (bon (bdrew (bal (Below.refl _ _) _)) hb10) hb11) (Nat.le_refl _) _) (Nat.le_refl _) _) (Nat.le_refl _) _) (Nat.le_refl _) _⟩
               simp [Four, go_sem, z0, z1, z2, z3])
            | (have h910 : w9.heap.size ≤ w10.heap.size := (bon (bdrew (Below.refl _ _)) hb10).size
               refine ⟨w10.heap.size, b, rfl, rfl, hbe, ?_, in_set4 hbi hbf (by simp) _ _ _ _, bset (bset (bset (bset (bon (bal (bon (bdrew (Below.refl _ _)) hb10) _) hb11) h910 _) h910 _) h910 _) h910 _⟩
               simp [Four, go_sem, z0, z1, z2, z3])
            | exact ⟨w11.heap.size, b, rfl, rfl, hbe, box_four w11 b, hbi.later (bel_alloc _ _), bal (bon (bon (bdrew (Below.refl _ _)) hb10) hb11) _⟩
            | trace_state
      case rest =>
        obtain ⟨blk, b, rfl, rfl, hbe, hbF, hbi, hb12⟩ := hcut
        have HB12 := mkHid (bon HB9.out hb12)
        have HFA12 := mkHid (HFA.out.later hb12)
        have HAI12 := mkHid (HAI.out.later hb12)
        have HFB := mkHid hbF
        have HBI := mkHid hbi
        have HBE := mkHid hbe
        clear hbe hbF hbi hb12 CN CP HS9 e1 e2 FZ h9 HFA HAI HB9
        have HT12 := mkHid (HK.out.later HB12.out)
        have C6 := mkHid (sn_p3 t nm n wc HT12.out.t0 et hz hn HT12.out.sh)
        unfold row3 PutOk Tm.val at C6
        have b13 := bel_alloc wc (.cells #[.string nm, .int .i64 1, .string ⟨#[]⟩, .int .i64 n, .slice none 0 0, .string nm, .int .i64 9, .string ⟨#[]⟩, .int .i64 0, .slice none 0 0, .string nm, .int .i64 17, .string ⟨#[]⟩, .int .i64 0, .slice none 0 0] 43)
        obtain ⟨k0, k1, k2, k3⟩ := (HK.out.later (bon HB12.out b13)).f0
        simp only [Nat.zero_add] at k1 k2 k3
        clear b13
        go_wp2_with fail
        ((with_reducible refine C6.out.mono ?_)); rintro e w14 ⟨c, rfl, hc, hci, hb14⟩
        clear C6 k0 k1 k2 k3 HT12
        have b15 := bel_alloc w14 (boxT c)
        have HB15 := mkHid (bon HB12.out (bon hb14 b15))
        have HFA15 := mkHid (HFA12.out.later (bon hb14 b15))
        have HAI15 := mkHid (HAI12.out.later (bon hb14 b15))
        have HFB15 := mkHid (HFB.out.later (bon hb14 b15))
        have HBI15 := mkHid (HBI.out.later (bon hb14 b15))
        have HFC15 := mkHid (box_four w14 c)
        have HCI15 := mkHid (hci.later b15)
        have HC := mkHid hc
        have hW15 : w14.alloc (.cells #[.int .i64 c.op, .string c.nm, .int .i64 c.n, .slice c.a c.ks.length c.c] 24) = w14.alloc (boxT c) := rfl
        clear hc hci hb14 b15 HFA12 HAI12 HFB HBI HB12
        generalize w14.alloc (boxT c) = w15 at *
        have HT15 := mkHid (HK.out.later HB15.out)
        have C7 := mkHid (sn_names t w15 HT15.out.t0 et HT15.out.sh)
        unfold Tm.val at C7
        obtain ⟨k0, k1, k2, k3⟩ := HT15.out.f0
        simp only [Nat.zero_add] at k1 k2 k3
        go_wp2_with fail
        ((with_reducible refine C7.out.mono ?_)); rintro e w16 ⟨⟨L, v, rfl, own, hlen, hzs, hL⟩, hb16⟩
        clear C7 k0 k1 k2 k3 hW15 hzs HT15
        have HB16 := mkHid (bon HB15.out hb16)
        have HFA := mkHid (HFA15.out.later hb16)
        have HAI := mkHid (HAI15.out.later hb16)
        have HFB := mkHid (HFB15.out.later hb16)
        have HBI := mkHid (HBI15.out.later hb16)
        have HFC := mkHid (HFC15.out.later hb16)
        have HCI := mkHid (HCI15.out.later hb16)
        have HND := mkHid (ndB_all nm hL)
        obtain ⟨A, cap, rfl⟩ := own_slice own
        have HOWN := mkHid own
        clear hb16 own hL HFA15 HAI15 HFB15 HBI15 HFC15 HCI15 HB15
        generalize hn' : L.length = m at *
        have HN := mkHid hn'
        clear hn'
        have HSZ := mkHid hsz
        clear hsz
        go_wp2
        go_loopw [17, 19] (fun s17 s19 w' => ∃ (k : Nat) (x : Int), s19 = .int .i64 x ∧ x = k ∧ k ≤ m ∧ s17 = .bool (ndB L nm k) ∧ w' = w16) (fun _ s19 _ => (m - intOf s19).toNat)
        case atStart => exact ⟨0, 0, rfl, rfl, Nat.zero_le _, rfl, rfl⟩
        case round =>
          obtain ⟨k, x, rfl, hxk, hk, rfl, rfl⟩ := hrel
          obtain rfl : x = (k : Int) := hxk
          by_cases hlt : k < m
          · have own := HOWN.out
            obtain ⟨g, c', e⟩ := own_some own (by omega)
            simp only [Value.slice.injEq, true_and] at e
            obtain ⟨rfl, rfl⟩ := e
            obtain ⟨y0, y1, y2, y3, y4⟩ := own_five own HN.out k hlt
            have HSU := mkHid (ndB_succ L nm k)
            clear own
            generalize L.getD k noNm = cur at *
            obtain ⟨cn, co⟩ := cur
            simp only at y0 y1 y2 y3 y4 HSU
            cases hz1 : ndB L nm k
            · by_cases h3 : co = 14
              · subst h3
                cases h2 : (cn.toList == nm.toList)
                · go_wp2
                  go_roundw
                  case rel => exact ⟨k + 1, _, rfl, by omega, by omega, by rw [HSU.out, hz1, h2]; rfl, trivial⟩
                  case measure => simp [intOf]; omega
                · go_wp2
                  go_roundw
                  case rel => exact ⟨k + 1, _, rfl, by omega, by omega, by rw [HSU.out, hz1, h2]; rfl, trivial⟩
                  case measure => simp [intOf]; omega
              · have h4 : (co == 14) = false := by simpa using h3
                go_wp2
                go_roundw
                case rel => exact ⟨k + 1, _, rfl, by omega, by omega, by rw [HSU.out, hz1, h4]; rfl, trivial⟩
                case measure => simp [intOf]; omega
            · go_wp2
              go_roundw
              case rel => exact ⟨k + 1, _, rfl, by omega, by omega, by rw [HSU.out, hz1]; rfl, trivial⟩
              case measure => simp [intOf]; omega
          · obtain rfl : k = m := by omega
            rw [HND.out]
            have hcz := put_three nm n et
            have hC := HC.out
            have hcs : c.size = t.size := by rw [← er_size c, hC]; exact hcz.2.1
            have hcf : freeB c nm = nodeB t nm := by rw [← freeB_er c, hC]; exact hcz.2.2.1
            have CA := mkHid (fun (w' : World) (hb : Below wr.heap.size wr w') => rSame_any a t w' (HAI.out.later hb) ((HK.out.later HB16.out).later hb).t0)
            have CB := mkHid (fun (w' : World) (hb : Below wr.heap.size wr w') => rSame_any b t w' (HBI.out.later hb) ((HK.out.later HB16.out).later hb).t0)
            have CF := mkHid (fun (w' : World) (hb : Below wr.heap.size wr w') => free_any c nm w' (HCI.out.later hb) ((HK.out.later HB16.out).later hb).sh)
            have CC := mkHid (fun (w' : World) (hb : Below wr.heap.size wr w') => size_any c w' (HCI.out.later hb))
            have CT := mkHid (fun (w' : World) (hb : Below wr.heap.size wr w') => size_any t w' ((HK.out.later HB16.out).later hb).t0)
            have ea : errR a = 0 := by rw [← er_errR a, HA.out, er_errR]; exact et
            have eb : errR b = 0 := by rw [← er_errR b, HBE.out, er_errR]; exact et
            rw [(eqT_iff' a t).2 HA.out, decide_eq_true (errR_fine ea).2.1, decide_eq_true (errR_fine et).2.1] at CA
            rw [(eqT_iff' b t).2 HBE.out, decide_eq_true (errR_fine eb).2.1, decide_eq_true (errR_fine et).2.1] at CB
            rw [hcs] at CC
            rw [hcf] at CF
            have HS : Hid (∀ w', Below wr.heap.size wr w' → w'.cell? ⟨w.heap.size, 0, none⟩ = some (.int .i64 t.op) ∧ w'.cell? ⟨w.heap.size, 1, none⟩ = some (.string t.nm) ∧ w'.cell? ⟨w.heap.size, 2, none⟩ = some (.int .i64 t.n) ∧ w'.cell? ⟨w.heap.size, 3, none⟩ = some (.slice t.a t.ks.length t.c) ∧ w'.cell? ⟨w8.heap.size, 0, none⟩ = some (.int .i64 a.op) ∧ w'.cell? ⟨w8.heap.size, 1, none⟩ = some (.string a.nm) ∧ w'.cell? ⟨w8.heap.size, 2, none⟩ = some (.int .i64 a.n) ∧ w'.cell? ⟨w8.heap.size, 3, none⟩ = some (.slice a.a a.ks.length a.c) ∧ w'.cell? ⟨blk, 0, none⟩ = some (.int .i64 b.op) ∧ w'.cell? ⟨blk, 1, none⟩ = some (.string b.nm) ∧ w'.cell? ⟨blk, 2, none⟩ = some (.int .i64 b.n) ∧ w'.cell? ⟨blk, 3, none⟩ = some (.slice b.a b.ks.length b.c) ∧ w'.cell? ⟨w14.heap.size, 0, none⟩ = some (.int .i64 c.op) ∧ w'.cell? ⟨w14.heap.size, 1, none⟩ = some (.string c.nm) ∧ w'.cell? ⟨w14.heap.size, 2, none⟩ = some (.int .i64 c.n) ∧ w'.cell? ⟨w14.heap.size, 3, none⟩ = some (.slice c.a c.ks.length c.c)) := fun w' hb => by
              obtain ⟨k0, k1, k2, k3⟩ := ((HK.out.later HB16.out).later hb).f0
              obtain ⟨l0, l1, l2, l3⟩ := HFA.out.later hb
              obtain ⟨m0, m1, m2, m3⟩ := HFB.out.later hb
              obtain ⟨n0, n1, n2, n3⟩ := HFC.out.later hb
              simp only [Nat.zero_add] at k1 k2 k3 l1 l2 l3 m1 m2 m3 n1 n2 n3
              exact ⟨k0, k1, k2, k3, l0, l1, l2, l3, m0, m1, m2, m3, n0, n1, n2, n3⟩
            clear hcz hC hcs hcf ea eb HC HA HBE HND HOWN HFA HFB HFC HAI HBI HCI
            generalize nodeB t nm = z at *
            generalize (min 2001 t.size : Nat) = sz at *
            have hzz : (z == z) = true := by simp
            unfold Tm.val at CA CB CF CC CT
            have e0 : Below wr.heap.size wr wr.drew := bdrew (Below.refl _ _)
            go_wp2_with fail
            (try dsimp only [List.append])
            go_region_held2 (fun w' => w'.cell? ⟨w.heap.size, 0, none⟩ = some (.int .i64 t.op) ∧ w'.cell? ⟨w.heap.size, 1, none⟩ = some (.string t.nm) ∧ w'.cell? ⟨w.heap.size, 2, none⟩ = some (.int .i64 t.n) ∧ w'.cell? ⟨w.heap.size, 3, none⟩ = some (.slice t.a t.ks.length t.c) ∧ w'.cell? ⟨w8.heap.size, 0, none⟩ = some (.int .i64 a.op) ∧ w'.cell? ⟨w8.heap.size, 1, none⟩ = some (.string a.nm) ∧ w'.cell? ⟨w8.heap.size, 2, none⟩ = some (.int .i64 a.n) ∧ w'.cell? ⟨w8.heap.size, 3, none⟩ = some (.slice a.a a.ks.length a.c) ∧ w'.cell? ⟨blk, 0, none⟩ = some (.int .i64 b.op) ∧ w'.cell? ⟨blk, 1, none⟩ = some (.string b.nm) ∧ w'.cell? ⟨blk, 2, none⟩ = some (.int .i64 b.n) ∧ w'.cell? ⟨blk, 3, none⟩ = some (.slice b.a b.ks.length b.c) ∧ w'.cell? ⟨w14.heap.size, 0, none⟩ = some (.int .i64 c.op) ∧ w'.cell? ⟨w14.heap.size, 1, none⟩ = some (.string c.nm) ∧ w'.cell? ⟨w14.heap.size, 2, none⟩ = some (.int .i64 c.n) ∧ w'.cell? ⟨w14.heap.size, 3, none⟩ = some (.slice c.a c.ks.length c.c))
              ((refine HS.out _ ?_; first | assumption))
              (first
                | (go_at_call 21; ((with_reducible refine (CA.out _ e0).mono ?_)); rintro e v1 ⟨rfl, g1⟩; have j1 := bon e0 g1)
                | (go_at_call 21; ((with_reducible refine (CB.out _ j1).mono ?_)); rintro e v2 ⟨rfl, g2⟩; have j2 := bon j1 g2)
                | (go_at_call 27; ((with_reducible refine (CF.out _ j2).mono ?_)); rintro e v3 ⟨rfl, g3⟩; have j3 := bon j2 g3)
                | (go_at_call 13; ((with_reducible refine (CC.out _ j3).mono ?_)); rintro e v4 ⟨rfl, g4⟩; have j4 := bon j3 g4)
                | (go_at_call 13; ((with_reducible refine (CT.out _ j4).mono ?_)); rintro e v5 ⟨rfl, g5⟩; have j5 := bon j4 g5)
                | (go_at_call 13; ((with_reducible refine (CT.out _ j3).mono ?_)); rintro e v4 ⟨rfl, g4⟩; have j4 := bon j3 g4)
                | (go_at_call 13; ((with_reducible refine (CC.out _ j4).mono ?_)); rintro e v5 ⟨rfl, g5⟩; have j5 := bon j4 g5))
            all_goals
              first
                | go_ret
                | (go_wp2; go_ret)
              exact ⟨rfl, bon HB0.out (bon HB16.out j5)⟩
    · go_wp2
      go_ret
      exact ⟨rfl, bon HB0.out HB7.out⟩
  · rw [show smallB t = false by simpa using h1]
    clear h1
    go_wp2
    go_ret
    exact ⟨rfl, bon HB0.out HB5.out⟩
end Go.Proofs.YtaiachmolkjedaaDoor
