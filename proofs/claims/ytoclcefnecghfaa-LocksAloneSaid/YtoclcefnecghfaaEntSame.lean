
/- The walk of the document's Same, for equal lists. -/
import Derived.Test.YtoclcefnecghfaaEntDrop
namespace Go.Proofs.Ytoclcefnecghfaa.Ents
open Go.RowKit Plan EntMath
end Go.Proofs.Ytoclcefnecghfaa.Ents
