/- Two sets compared: the words lie in ClsS. -/
import Derived.Test.YtcloimdndcbchaaClsG
namespace Go.Proofs.Ytcloimdndcbchaa
end Go.Proofs.Ytcloimdndcbchaa
