/- A region that draws, at whose end two operations are ready at once: both orders (else as Rf). -/
import Derived.Test.YthmolpepinolkaaGreatX7ToU4
