/- zint.Int. -/
import Derived.Test.YthmolpepinolkaaGreatZ8
import Derived.Test.YthmolpepinolkaaGreatR7
import Derived.Lib.Strings
