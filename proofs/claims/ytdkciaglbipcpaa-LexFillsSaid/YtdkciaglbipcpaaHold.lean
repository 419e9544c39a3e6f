/-
  Blocks that are known whole, as networks, flows and sides: they lie in Seen.
-/
import Derived.Test.YtdkciaglbipcpaaSeen
import Derived.Test.YtdkciaglbipcpaaLaw