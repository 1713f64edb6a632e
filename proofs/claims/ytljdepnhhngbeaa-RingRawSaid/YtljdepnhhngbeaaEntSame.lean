
/- The walk of the document's Same, for equal lists. -/
import Derived.Test.YtljdepnhhngbeaaEntDrop
namespace Go.Proofs.Ytljdepnhhngbeaa.Ents
open Go.RowKit Plan EntMath
end Go.Proofs.Ytljdepnhhngbeaa.Ents
