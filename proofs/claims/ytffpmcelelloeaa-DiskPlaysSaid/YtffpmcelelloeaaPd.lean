/-
  The program's disk, whole: what a world says of it (PDisk), and each of its methods' contracts.
-/
import Derived.Test.YtffpmcelelloeaaPrest
