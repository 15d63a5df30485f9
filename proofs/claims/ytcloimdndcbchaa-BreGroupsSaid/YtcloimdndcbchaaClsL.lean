/- Two sets compared: the words lie in ClsS. -/
import Derived.Test.YtcloimdndcbchaaClsG
set_option maxRecDepth 100000
namespace Go.Proofs.Ytcloimdndcbchaa
end Go.Proofs.Ytcloimdndcbchaa
