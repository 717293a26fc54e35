/-
  What TermJoins does: it returns true, whatever the two terms are.
-/
import Derived.Test.YtimnfkdokjdplaaDoorTj1
import Derived.Test.YtimnfkdokjdplaaDoorTj2
import Derived.Test.YtimnfkdokjdplaaDoorTj3
import Derived.Test.YtimnfkdokjdplaaDoorTj4
import Derived.Test.YtimnfkdokjdplaaDoorTjE
namespace Go.Proofs.YtimnfkdokjdplaaDoor
open Go.RowKit

theorem ljoins_any (t u : Tm) (w : World) (ht : TIn w w.heap.size t) (hu : TIn w w.heap.size u) (hS : Shps w) :
    Calls Tryd.prog 5 #[t.val, u.val] w fun e w' => e = .returned (.bool true) ∧ Below w.heap.size w w' := by
  by_cases he : errR t = 0
  · by_cases he' : errR u = 0
    · rcases Nat.lt_or_ge 500 t.size with y0 | y0
      · exact joins_s0 t u w ht hu hS he he' y0
      · rcases Nat.lt_or_ge 500 u.size with y1 | y1
        · exact joins_s1 t u w ht hu hS he he' y0 y1
        · rcases Nat.lt_or_ge 50 t.deep with y2 | y2
          · exact joins_s2 t u w ht hu hS he he' y0 y1 y2
          · rcases Nat.lt_or_ge 50 u.deep with y3 | y3
            · exact joins_s3 t u w ht hu hS he he' y0 y1 y2 y3
            · obtain ⟨-, -, a0, -⟩ := errR_zero he
              obtain ⟨-, -, b0, -⟩ := errR_zero he'
              have a4 := srt_le t
              have b4 := srt_le u
              rcases (show t.srt = 1 ∨ t.srt = 2 ∨ t.srt = 3 ∨ t.srt = 4 by omega) with ha | ha | ha | ha
              · rcases (show u.srt = 1 ∨ u.srt = 2 ∨ u.srt = 3 ∨ u.srt = 4 by omega) with hb | hb | hb | hb
                · exact joins11 t u w ht hu hS he he' y0 y1 y2 y3 ha hb
                · exact joins12 t u w ht hu hS he he' y0 y1 y2 y3 ha hb
                · exact joins13 t u w ht hu hS he he' y0 y1 y2 y3 ha hb
                · exact joins14 t u w ht hu hS he he' y0 y1 y2 y3 ha hb
              · rcases (show u.srt = 1 ∨ u.srt = 2 ∨ u.srt = 3 ∨ u.srt = 4 by omega) with hb | hb | hb | hb
                · exact joins21 t u w ht hu hS he he' y0 y1 y2 y3 ha hb
                · exact joins22 t u w ht hu hS he he' y0 y1 y2 y3 ha hb
                · exact joins23 t u w ht hu hS he he' y0 y1 y2 y3 ha hb
                · exact joins24 t u w ht hu hS he he' y0 y1 y2 y3 ha hb
              · rcases (show u.srt = 1 ∨ u.srt = 2 ∨ u.srt = 3 ∨ u.srt = 4 by omega) with hb | hb | hb | hb
                · exact joins31 t u w ht hu hS he he' y0 y1 y2 y3 ha hb
                · exact joins32 t u w ht hu hS he he' y0 y1 y2 y3 ha hb
                · exact joins33 t u w ht hu hS he he' y0 y1 y2 y3 ha hb
                · exact joins34 t u w ht hu hS he he' y0 y1 y2 y3 ha hb
              · rcases (show u.srt = 1 ∨ u.srt = 2 ∨ u.srt = 3 ∨ u.srt = 4 by omega) with hb | hb | hb | hb
                · exact joins41 t u w ht hu hS he he' y0 y1 y2 y3 ha hb
                · exact joins42 t u w ht hu hS he he' y0 y1 y2 y3 ha hb
                · exact joins43 t u w ht hu hS he he' y0 y1 y2 y3 ha hb
                · exact joins44 t u w ht hu hS he he' y0 y1 y2 y3 ha hb
    · exact joins_e2 t u w ht hu hS he he'
  · exact joins_e1 t u w ht hu hS he
end Go.Proofs.YtimnfkdokjdplaaDoor
