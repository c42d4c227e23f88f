/- Layer 10: its laws' walks. -/
import Derived.Test.YtinpdamfdaefmaaDoorW10c
namespace Go.Proofs.YtinpdamfdaefmaaDoor
open Go.ChangeShapes Go.WideShapes Go.ChangeAt Go.RowKit
set_option linter.unusedVariables false
set_option maxRecDepth 100000
theorem HebNext_walk (y n : Int) (l : Bool) (d z k : Int) (h : Bool) (f : Int) (hy : I64 y) (hn : I64 n) (hd : I64 d) (hz : I64 z) (hk : I64 k) (hf : I64 f) (w : World) (hT : Tab w 2 kevCells) (hL : Tab w 1 lenCells) :
    Calls Tryd.prog 5 #[.agg #[.int .i64 y, .int .i64 n, .bool l, .int .i64 d], .agg #[.int .i64 z, .int .i64 k, .bool h, .int .i64 f]] w fun e w' => e = .returned (.bool true) ∧ Below w.heap.size w w' := by
  by_cases h1 : D10.dateE y n l d = 0
  · by_cases h2 : D10.dateE z k h f = 0
    · obtain ⟨_, b1, b2⟩ := D10.dayV_ok y n l d h1
      by_cases c : 2278650 < D10.dayV y n l d + 1
      · by_cases c1 : y = z
        · by_cases c2 : n = k
          · by_cases c3 : l = h
            · by_cases c4 : d = f
              · subst c1 c2 c3 c4
                exact HebNext_no_same y n l d hy w hT hL h1 c
              · exact HebNext_no_d y n l d z k h f hy hz w hT hL h1 h2 c4 c
            · exact HebNext_no_l y n l d z k h f hy hz w hT hL h1 h2 c3 c
          · exact HebNext_no_n y n l d z k h f hy hz w hT hL h1 h2 c2 c
        · exact HebNext_no_y y n l d z k h f hy hz w hT hL h1 h2 c1 c
      · obtain ⟨ry, rm, rd, hv, e⟩ := D10.day_there (D10.dayV y n l d + 1) (by omega) (by omega)
        by_cases c1 : y = z
        · by_cases c2 : n = k
          · by_cases c3 : l = h
            · by_cases c4 : d = f
              · subst c1 c2 c3 c4
                exact HebNext_at_same y n l d hy w hT hL h1 ry rm rd hv e
              · exact HebNext_at_d y n l d z k h f hy hz w hT hL h1 h2 c4 ry rm rd hv e
            · exact HebNext_at_l y n l d z k h f hy hz w hT hL h1 h2 c3 ry rm rd hv e
          · exact HebNext_at_n y n l d z k h f hy hz w hT hL h1 h2 c2 ry rm rd hv e
        · exact HebNext_at_y y n l d z k h f hy hz w hT hL h1 h2 c1 ry rm rd hv e
    · exact HebNext_b y n l d z k h f hy hz w hT hL h1 h2
  · exact HebNext_a y n l d z k h f hy hz w hT hL h1
end Go.Proofs.YtinpdamfdaefmaaDoor
