/-
  What WeighRows does: it returns true, whatever the row is.
-/
import Derived.Test.YtbdopdfnccnflabWgK
import Derived.StillTailTactics
namespace Go.Proofs.Ytbdopdfnccnflab
open Go.RowKit

/-- what a round of WeighRows reads, and what its call of 'floats' wants -/
def RowsAt (p q r b o k : Nat) (y x : Nat) (rest : List Nat) (w : World) : Prop :=
  w.cell? ⟨p, k, none⟩ = some (.float .f64 y) ∧ w.cell? ⟨q, k, none⟩ = some (.float .f64 y) ∧ w.cell? ⟨r, k, none⟩ = some (.float .f64 x) ∧ ILies w (some ⟨b, o + k, none⟩) rest
theorem RowsAt.rest {p q r b o k y x : Nat} {rest : List Nat} {w : World} (h : RowsAt p q r b o k y x rest w) : ILies w (some ⟨b, o + k, none⟩) rest := h.2.2.2
theorem RowsAt.later {p q r b o k y x : Nat} {rest : List Nat} {w w' : World} (h : RowsAt p q r b o k y x rest w) (hb : Below w.heap.size w w') : RowsAt p q r b o k y x rest w' :=
  ⟨cell_keep hb h.1, cell_keep hb h.2.1, cell_keep hb h.2.2.1, h.2.2.2.later hb⟩

theorem stillC {P : Program} {f : FuncId} {args : Array Value} {w : World} {v : Value} (h : Calls P f args w fun e w' => e = .returned v ∧ w = w') : Calls P f args w fun e w' => e = .returned v ∧ w' = w :=
  h.mono fun _ _ ⟨he, hw⟩ => ⟨he, hw.symm⟩

set_option maxHeartbeats 8000000 in
set_option maxRecDepth 100000 in
theorem weigh_rows_any (A : Option Addr) (c : Nat) (xs : List Nat) (w : World) (hx : ILies w A xs) (hw : Words xs) (hn : xs.length ≤ maxLen) (hcap : xs.length ≤ c) :
    Calls Try.prog 3 #[.slice A xs.length c] w fun e w' => e = .returned (.bool true) ∧ Below w.heap.size w w' := by
  have Fl := mkHidW (fun w h => floats_some A c xs w h hn)
  have hw' := words_take hw 100
  have hl := len_take xs
  have hln : (xs.take 100).length ≤ xs.length := by simp; omega
  have Fk : Hid (∀ k (b o cc : Nat) w, k < (xs.take 100).length → ILies w (some ⟨b, o + k, none⟩) (xs.drop k) → Calls Try.prog 12 #[.slice (some ⟨b, o + k, none⟩) (xs.length - k) cc] w fun e w' =>
      (∃ g n d, e = .returned (.slice (some ⟨g, 0, none⟩) n d) ∧ 0 < n ∧ w'.cell? ⟨g, 0, none⟩ = some (.float .f64 ((xs.take 100).getD k 0))) ∧ Below w.heap.size w w') := by
    intro k b o cc w hk h
    have hd : (xs.drop k).length = xs.length - k := List.length_drop
    have F := floats_some (some ⟨b, o + k, none⟩) cc (xs.drop k) w h (by omega)
    rw [hd] at F
    refine F.mono ?_
    rintro e w' ⟨⟨v, rfl, g, d, rfl, -, hc⟩, hb⟩
    have hp : 0 < ((xs.drop k).take 100).length := by simp; omega
    have h0 := hc 0 hp
    have e1 : ((xs.drop k).take 100).getD 0 0 = (xs.take 100).getD k 0 := by
      have : k < 100 := by omega
      simp [List.getD, this]
    rw [e1] at h0
    exact ⟨⟨g, _, d, rfl, hp, h0⟩, hb⟩
  have rdI : Hid (∀ k, k < (xs.take 100).length → ∃ b o, A = some ⟨b, o, none⟩ ∧ ∀ w', Below w.heap.size w w' → ILies w' (some ⟨b, o + k, none⟩) (xs.drop k)) := by
    intro k hk
    rcases hx with rfl | ⟨b, o, rfl, hc⟩
    · simp at hk
    · refine ⟨b, o, rfl, fun w' hb => Or.inr ⟨b, o + k, rfl, fun j hj => ?_⟩⟩
      simp at hj
      have := cell_keep hb (hc (k + j) (by omega))
      rw [← Nat.add_assoc] at this
      rw [this]
      simp [List.getD, List.getElem?_drop]
  generalize xs.take 100 = ds at *
  have hlr := len_resc ds
  have hfr := fins_resc ds
  have Rs := mkHidW (fun A c w h => rescale_any A c ds w h (by omega))
  have Rr := mkHidW (fun A c w h => rrescale_any A c ds w h (by omega))
  have Hv := mkHidW (fun A c w h => heavy_any A c ds w h (by omega) hw')
  have Hr := mkHidW (fun A c w h => rheavy_any A c ds w h (by omega) hw')
  have Sm := mkHidW (fun j w => same_self ((rescW ds).getD j 0) w (decide_eq_false (by have := hfr.get j; omega)))
  have fr : Hid (∀ w v, FRow w v (rescW ds) → ∃ A c, v = .slice A ds.length c ∧ ds.length ≤ c ∧ ∀ k : Nat, k < ds.length → ∃ g, A = some ⟨g, 0, none⟩ ∧ ∀ w', Below w.heap.size w w' → w'.cell? ⟨g, k, none⟩ = some (.float .f64 ((rescW ds).getD k 0))) := by
    rintro w v ⟨A, c, rfl, hc, h⟩
    rw [hlr] at hc ⊢
    refine ⟨A, c, rfl, hc, fun k hk => ?_⟩
    rcases h with h | ⟨g, rfl, hc⟩
    · rw [h] at hlr; simp at hlr; omega
    · exact ⟨g, rfl, fun w' hb => cell_keep hb (hc k (by omega))⟩
  have fs1 : Hid (∀ w v, FSome w v ds → ∃ (g c : Nat), v = .slice (some ⟨g, 0, none⟩) ds.length c ∧ ds.length ≤ c ∧ FLies w (some ⟨g, 0, none⟩) ds ∧ ∀ j : Nat, j < ds.length → w.cell? ⟨g, j, none⟩ = some (.float .f64 (ds.getD j 0))) := by
    rintro w v ⟨g, c, rfl, hc, h⟩; exact ⟨g, c, rfl, hc, Or.inr ⟨g, rfl, h⟩, h⟩
  clear hfr hlr hw' hw
  generalize farAny (ds.map tameW) = far at *
  generalize rescW ds = rs at *
  generalize heavyW ds = hv at *
  generalize hh : (fun j => rs.getD j 0) = h at *
  have eh : ∀ j, rs.getD j 0 = h j := fun j => by rw [← hh]
  generalize hf : (fun j => ds.getD j 0) = f at *
  have ef : ∀ j, ds.getD j 0 = f j := fun j => by rw [← hf]
  simp only [ef, eh] at *
  clear ef hf eh hh
  generalize hdn : ds.length = n at *
  clear hdn
  generalize hxn : xs.length = N at *
  unfold maxLen at hn
  go_enter Try.func3, Try.ntmps3
  go_wp2_with fail
  refine (shown_any _).mono ?_; rintro e w1 ⟨rfl, hb1⟩
  go_wp2_with fail
  refine (Fl.out _ (hx.later hb1)).mono ?_; rintro e w2 ⟨⟨v, rfl, hr2⟩, hb2⟩
  obtain ⟨g, c2, rfl, hc2, hf2, hcell⟩ := fs1.out _ _ hr2
  have hB2 := bonW hb1 hb2
  clear Fl fs1 hr2 hb1 hb2 hx
  go_wp2_with fail
  refine (Rs.out _ _ _ hf2).mono ?_; rintro e w3 ⟨⟨v, rfl, hr3⟩, hb3⟩
  obtain ⟨A3, c3, rfl, hc3, rd3⟩ := fr.out _ _ hr3
  have hf3 := hf2.later hb3
  clear Rs hr3
  go_wp2_with fail
  refine (Rr.out _ _ _ hf3).mono ?_; rintro e w4 ⟨⟨v, rfl, hr4⟩, hb4⟩
  obtain ⟨A4, c4, rfl, hc4, rd4⟩ := fr.out _ _ hr4
  have hf4 := hf3.later hb4
  clear Rr hr4 fr
  have RD3 := mkHidW rd3
  have RD4 := mkHidW rd4
  clear rd3 rd4
  have hne : (far != far) = false := by cases far <;> rfl
  go_wp2_with fail
  refine (Hv.out _ _ _ hf4).mono ?_; rintro e w5 ⟨rfl, rfl⟩
  go_wp2_with fail
  refine (Hr.out _ _ _ hf4).mono ?_; rintro e w5 ⟨rfl, hb5⟩
  clear Hv Hr
  have hB5 := bonW hB2 (bonW hb3 (bonW hb4 hb5))
  have HX : Hid (∀ w', Below w5.heap.size w5 w' → ∀ k, k < n → ∃ p q b o, A3 = some ⟨p, 0, none⟩ ∧ A4 = some ⟨q, 0, none⟩ ∧ A = some ⟨b, o, none⟩ ∧ RowsAt p q g b o k (h k) (f k) (xs.drop k) w') := by
    intro w' hb k hk
    obtain ⟨p, hp, h3⟩ := RD3.out k hk
    obtain ⟨q, hq, h4⟩ := RD4.out k hk
    obtain ⟨b, o, ho, h5⟩ := rdI.out k hk
    exact ⟨p, q, b, o, hp, hq, ho, h3 w' (bonW hb4 (bonW hb5 hb)), h4 w' (bonW hb5 hb), cell_keep hb (cell_keep hb5 (cell_keep hb4 (cell_keep hb3 (hcell k hk)))), h5 w' (bonW hB5 hb)⟩
  clear RD3 RD4 rdI hcell hf2 hf3 hf4 hb3 hb4 hb5 hB2 hne
  go_wp2_with fail
  go_loopw [9] (fun i w' => ∃ (k : Nat) (x : Int), k ≤ n ∧ i = .int .i64 x ∧ x = k ∧ Below w5.heap.size w5 w') (fun i _ => (n - intOf i).toNat)
  case atStart => exact ⟨0, 0, by omega, rfl, rfl, Below.refl _ _⟩
  case round =>
    obtain ⟨k, x, hk, rfl, hxk, hb⟩ := hrel
    obtain rfl : x = (k : Int) := hxk
    by_cases hlt : k < n
    · obtain ⟨p, q, b, o, rfl, rfl, rfl, hR⟩ := HX.out _ hb k hlt
      have S1 := mkHidW (Sm.out k)
      have F1 := mkHidW (fun cc w h => Fk.out k b o cc w hlt h)
      have k1 : k ≤ N := by omega
      have k2 : k ≤ c := by omega
      have k3 : k < c := by omega
      have k4 : ¬ c = k := by omega
      have k5 : ¬ c - k = 0 := by omega
      have k6 : ¬ k = c := by omega
      clear HX Sm Fk
      go_wp2_with fail
      have hI := hR.2.2.2.later (bdrewW (Below.refl wr.heap.size wr))
      have r1 : wr.drew.cell? ⟨p, k, none⟩ = some (.float .f64 (h k)) := hR.1
      have r2 : wr.drew.cell? ⟨q, k, none⟩ = some (.float .f64 (h k)) := hR.2.1
      have r3 : wr.drew.cell? ⟨g, k, none⟩ = some (.float .f64 (f k)) := hR.2.2.1
      have hbd := bdrewW hb
      have SC := stillC (S1.out wr.drew)
      clear hR S1
      refine wp_region_still_tail 19 (by kernel_rfl) (by kernel_rfl) ?_
      change wpStill _ _ wr.drew (fun a' => wpList _ _ _ _ a' wr.drew) _ _
      generalize wr.drew = wd at *
      simp only [List.take_succ_cons, List.take_zero, List.drop_succ_cons, List.drop_zero]
      repeat still_step
      still_call SC
      repeat still_step
      refine wpStill_nil ?_
      go_wp2_with (go_at_call 12; refine (F1.out _ _ hI).mono ?_; rintro e w51 ⟨⟨g', n', d', rfl, hn', c0⟩, hb51⟩)
      go_roundw
      case rel => exact ⟨k + 1, _, by omega, rfl, by omega, bonW hbd hb51⟩
      case measure => simp [intOf]; omega
    · clear HX Sm Fk
      go_wp2
      go_ret
      exact ⟨rfl, bonW hB5 hb⟩
end Go.Proofs.Ytbdopdfnccnflab
