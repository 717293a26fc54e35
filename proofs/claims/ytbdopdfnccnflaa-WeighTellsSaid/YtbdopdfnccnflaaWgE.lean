/-
  What 'Rescale' does; what the document's 'Rescale' does.
-/
import Derived.Test.YtbdopdfnccnflaaWgD
namespace Go.Proofs.Ytbdopdfnccnflaa
open Go.RowKit

def rescW (ds : List Nat) : List Nat := if farAny (ds.map tameW) = true then (ds.map tameW).map scaleW else ds.map tameW
theorem fins_tame (ds : List Nat) : Fins (ds.map tameW) := by
  intro d hd
  obtain ⟨x, -, rfl⟩ := List.mem_map.1 hd
  exact tame_rung x

set_option maxHeartbeats 2000000 in
set_option maxRecDepth 100000 in
theorem rescale_any (A : Option Addr) (c : Nat) (ds : List Nat) (w : World) (hx : FLies w A ds) (hn : ds.length ≤ 1000000) :
    Calls Try.prog 88 #[.slice A ds.length c] w fun e w' => (∃ v, e = .returned (.tuple #[v, .bool (farAny (ds.map tameW))]) ∧ FRow w' v (rescW ds)) ∧ Below w.heap.size w w' := by
  have E1 := mkHidW (each_any 46 tameW A c ds w hx hn (.inl rfl) (fun j _ w => tame_any _ w))
  have E2 := mkHidW (fun A c w h => beyond_any A c (ds.map tameW) w h (by simpa using hn) (fins_tame ds))
  have E3 := mkHidW (fun A c w h => each_any 104 scaleW A c (ds.map tameW) w h (by simpa using hn) (.inr rfl) (fun j _ w => shrink_any _ w ((fins_tame ds).get j)))
  clear hx
  unfold rescW
  have hl : (ds.map tameW).length = ds.length := List.length_map _
  generalize ds.map tameW = ts at *
  rw [← hl] at hn E1 ⊢
  generalize ds.length = n at *
  clear hl ds
  cases hb : farAny ts
  · rw [hb] at E2; clear hb
    rw [if_neg (by decide)]
    go_enter Try.func88, Try.ntmps88
    go_wp2_with fail
    refine E1.out.mono ?_; rintro e w1 ⟨⟨v, rfl, B, d, rfl, hd, hr⟩, hb1⟩
    go_wp2_with fail
    refine (E2.out _ _ _ hr).mono ?_; rintro e w2 ⟨rfl, rfl⟩
    go_wp2
    go_ret2
    exact ⟨⟨_, rfl, B, d, rfl, hd, hr⟩, hb1⟩
  · rw [hb] at E2; clear hb
    rw [if_pos rfl]
    go_enter Try.func88, Try.ntmps88
    go_wp2_with fail
    refine E1.out.mono ?_; rintro e w1 ⟨⟨v, rfl, B, d, rfl, hd, hr⟩, hb1⟩
    go_wp2_with fail
    refine (E2.out _ _ _ hr).mono ?_; rintro e w2 ⟨rfl, rfl⟩
    go_wp2_with fail
    refine (E3.out _ _ _ hr).mono ?_; rintro e w3 ⟨⟨v3, rfl, hr3⟩, hb3⟩
    go_wp2
    go_ret2
    exact ⟨⟨_, rfl, hr3⟩, bonW hb1 hb3⟩

theorem own_forms {w : World} {base size n : Nat} {e : TypeId} {v : Value} {xs : List Value} (h : w.ownsRow base e size v n xs) : (v = .slice none 0 0 ∧ n = 0) ∨ ∃ g cap, v = .slice (some ⟨g, 0, none⟩) n cap := by
  rcases h.2 with h | ⟨g, cap, cur, rfl, _⟩
  · exact .inl h
  · exact .inr ⟨g, cap, rfl⟩
theorem take_map_snoc (ds : List Nat) (k : Nat) (h : k < ds.length) : (ds.take (k + 1)).map tameW = (ds.take k).map tameW ++ [tameW (ds.getD k 0)] := by
  rw [take_succW ds k h]; simp
theorem farAny_snoc (l : List Nat) (x : Nat) : farAny (l ++ [x]) = (farAny l || farB x) := by
  unfold farAny; simp

end Go.Proofs.Ytbdopdfnccnflaa
