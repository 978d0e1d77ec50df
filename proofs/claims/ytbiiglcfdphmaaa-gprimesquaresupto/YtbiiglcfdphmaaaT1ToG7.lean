/- Texts with a sign: CutPrefix, the references Is and Parse. -/
import Derived.Test.YtbiiglcfdphmaaaG3ToR10
import Derived.Test.YtbiiglcfdphmaaaR11
import Derived.Test.YtbiiglcfdphmaaaR12

namespace Go.Proofs.Ytbiiglcfdphmaaa
open Go.RowKit Dig

end Go.Proofs.Ytbiiglcfdphmaaa


/- zint.Parse, Text; the reference's Text. -/
namespace Go.Proofs.Ytbiiglcfdphmaaa
open Go.RowKit Dig

end Go.Proofs.Ytbiiglcfdphmaaa


/- Texts with a sign, in one piece: what is a number, and which. -/
namespace Go.Proofs.Ytbiiglcfdphmaaa
open Go Go.RowKit Dig
set_option linter.unusedVariables false

end Go.Proofs.Ytbiiglcfdphmaaa


/- gint: Text; the law's awake. -/
namespace Go.Proofs.Ytbiiglcfdphmaaa
open Go Go.RowKit Dig
set_option linter.unusedVariables false

section
variable {w : World} {va vb : Value} {x y u v : Int} {l m k n : Nat}
end
end Go.Proofs.Ytbiiglcfdphmaaa


/- The reference's Round, Zero; what quotients and rests are. -/
namespace Go.Proofs.Ytbiiglcfdphmaaa
open Go Go.RowKit Dig
set_option linter.unusedVariables false

section
variable {w : World} {va vb : Value} {x y u v : Int} {l m k n : Nat}
end
end Go.Proofs.Ytbiiglcfdphmaaa


/- gint: Cmp, IsUnit, Canon; the reference's. -/
namespace Go.Proofs.Ytbiiglcfdphmaaa
open Go Go.RowKit Dig
set_option linter.unusedVariables false

section
variable {w : World} {va vb : Value} {x y u v : Int} {l m k n : Nat}
end
end Go.Proofs.Ytbiiglcfdphmaaa

