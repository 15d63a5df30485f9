/- Two sets compared: the words lie in ClsS. -/
import Derived.Test.YtiiaheaadbhomaaClsG
namespace Go.Proofs.Ytiiaheaadbhomaa
end Go.Proofs.Ytiiaheaadbhomaa
