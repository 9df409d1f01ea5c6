/- A term in one piece. No condition. -/
import Derived.Test.YtpdigaankmgagaaTMem
set_option linter.unusedVariables false
set_option linter.unusedSimpArgs false
namespace Go.Proofs.Ytpdigaankmgagaa.Sx
structure Tm where
  k : Int
  t : List UInt8
  kids : Fo
  o : Int
def Tm.fo (x : Tm) : Fo := .one x.k x.t x.kids x.o
end Go.Proofs.Ytpdigaankmgagaa.Sx
