/-
  Blocks that are known whole, as networks, flows and sides: they lie in Seen.
-/
import Derived.Test.YthchlfoebkachaaSeen
import Derived.Test.YthchlfoebkachaaLaw