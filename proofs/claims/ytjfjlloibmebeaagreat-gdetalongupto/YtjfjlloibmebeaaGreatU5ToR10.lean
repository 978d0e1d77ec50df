/- gdet: Minors. -/
import Derived.Test.YtjfjlloibmebeaaGreatGpToU4
import Derived.Test.YtjfjlloibmebeaaGreatI3ToN4
import Derived.Test.YtjfjlloibmebeaaGreatE14ToRt
import Derived.Test.YtjfjlloibmebeaaGreatO5ToN5
import Derived.Test.YtjfjlloibmebeaaGreatO11ToE5
import Derived.Test.YtjfjlloibmebeaaGreatZ8
import Derived.Test.YtjfjlloibmebeaaGreatR7
import Derived.Test.YtjfjlloibmebeaaGreatMx
import Derived.Test.YtjfjlloibmebeaaGreatR2aToZ1
import Derived.Test.YtjfjlloibmebeaaGreatW8
import Derived.Test.YtjfjlloibmebeaaGreatR1
import Derived.Lib.Strings

namespace Go.Proofs.YtjfjlloibmebeaaGreat
open Go Go.RowKit Dig
set_option linter.unusedVariables false
set_option linter.unusedSimpArgs false
section
variable {w : World} {la n k L ca : Nat} {oa : Option Addr} {A : List (List (Int × Int))}
end
end Go.Proofs.YtjfjlloibmebeaaGreat


/- The reference's Minors. -/
namespace Go.Proofs.YtjfjlloibmebeaaGreat
open Go Go.RowKit Dig
set_option linter.unusedVariables false
set_option linter.unusedSimpArgs false
section
variable {w0 w : World} {v u x : Value} {m n p q K J : Nat} {rs ts r1 r2 s1 s2 : List Rw} {C : En} {xs xs' ys : List Value} {Ms Ns : List (List (Int × Int))}
end
end Go.Proofs.YtjfjlloibmebeaaGreat


/- The reference's Adjugate. -/
namespace Go.Proofs.YtjfjlloibmebeaaGreat
open Go Go.RowKit Dig
set_option linter.unusedVariables false
set_option linter.unusedSimpArgs false
section
variable {w : World} {l n cm L m : Nat} {om : Option Addr} {M : List (List (Int × Int))}
end
end Go.Proofs.YtjfjlloibmebeaaGreat


/- zint.Int. -/
namespace Go.Proofs.YtjfjlloibmebeaaGreat
open Go.RowKit Dig
end Go.Proofs.YtjfjlloibmebeaaGreat


/- nat.isDigits, groupValue and putGroup: what a text's digits are worth. -/
namespace Go.Proofs.YtjfjlloibmebeaaGreat
open Go.RowKit Dig

end Go.Proofs.YtjfjlloibmebeaaGreat


/- nat.Parse: the number of a text of digits, or the error. -/
namespace Go.Proofs.YtjfjlloibmebeaaGreat
open Go.RowKit Dig

end Go.Proofs.YtjfjlloibmebeaaGreat


/- The reference's Digits and Parse: what a text's digits are worth. -/
namespace Go.Proofs.YtjfjlloibmebeaaGreat
open Go.RowKit Dig
end Go.Proofs.YtjfjlloibmebeaaGreat

