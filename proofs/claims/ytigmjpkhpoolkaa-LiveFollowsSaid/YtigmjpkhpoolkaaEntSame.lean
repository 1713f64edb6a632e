
/- The walk of the document's Same, for equal lists. -/
import Derived.Test.YtigmjpkhpoolkaaEntDrop
namespace Go.Proofs.Ytigmjpkhpoolkaa.Ents
open Go.RowKit Plan EntMath
end Go.Proofs.Ytigmjpkhpoolkaa.Ents
