/- zint.Int. -/
import Derived.Test.YthmolpepinolkaaGreatZ8
import Derived.Test.YthmolpepinolkaaGreatR7
import Derived.Test.YthmolpepinolkaaGreatMx
import Derived.Test.YthmolpepinolkaaGreatR2aToZ1
import Derived.Test.YthmolpepinolkaaGreatW8
import Derived.Test.YthmolpepinolkaaGreatR1
import Derived.Lib.Strings
