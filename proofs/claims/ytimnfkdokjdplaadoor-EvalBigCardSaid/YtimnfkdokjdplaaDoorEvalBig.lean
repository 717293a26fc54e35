/-
  What EvalBig does: it returns true, whatever the two numbers are.
-/
import Derived.Test.YtimnfkdokjdplaaDoorEvBig1
import Derived.Test.YtimnfkdokjdplaaDoorEvBig2
import Derived.Test.YtimnfkdokjdplaaDoorEvBig3
import Derived.Test.YtimnfkdokjdplaaDoorEvBig4
namespace Go.Proofs.YtimnfkdokjdplaaDoor
open Go.RowKit

theorem lbig_any (a b : Int) (w : World) (ha : fitB a = true) (hb : fitB b = true) (hS : Shps w) : Calls Tryd.prog 12 #[.int .i64 a, .int .i64 b] w (RetB true w) := by
  cases h4 : fitB (a + b) <;> cases h5 : fitB (a - b) <;> cases h6 : fitB (a * b)
  · exact bigFFF a b w hS ha hb h4 h5 h6
  · exact bigFFT a b w hS ha hb h4 h5 h6
  · exact bigFTF a b w hS ha hb h4 h5 h6
  · exact bigFTT a b w hS ha hb h4 h5 h6
  · exact bigTFF a b w hS ha hb h4 h5 h6
  · exact bigTFT a b w hS ha hb h4 h5 h6
  · exact bigTTF a b w hS ha hb h4 h5 h6
  · exact bigTTT a b w hS ha hb h4 h5 h6
end Go.Proofs.YtimnfkdokjdplaaDoor
