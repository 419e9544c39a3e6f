/-
  What my second kit's texts begin with, out of the first kit.
-/
import Derived.Test.YtffpmcelelloeaaKit
