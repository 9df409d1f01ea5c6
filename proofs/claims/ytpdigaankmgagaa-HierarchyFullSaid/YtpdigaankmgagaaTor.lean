/- telref1.order. No condition. -/
import Derived.Test.YtpdigaankmgagaaTo1
set_option linter.unusedVariables false
set_option linter.unusedSimpArgs false
namespace Go.Proofs.Ytpdigaankmgagaa
open Go.RowKit Sx

set_option maxHeartbeats 1000000 in
theorem order_any (b : Bool) (w : World) :
    Calls Try.prog 38 #[.bool b] w fun e w' => e = .returned (.int .i64 (if b then -1 else 1)) ∧ w' = w := by
  go_enter Try.func38, Try.ntmps38
  cases b
  all_goals
    go_wp2_with (fail)
    go_ret
    exact ⟨rfl, rfl⟩

end Go.Proofs.Ytpdigaankmgagaa
