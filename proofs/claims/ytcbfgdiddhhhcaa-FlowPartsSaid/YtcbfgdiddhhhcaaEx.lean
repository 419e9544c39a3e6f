import Derived.Test.YtcbfgdiddhhhcaaQmax
import Derived.KernelRfl
namespace Go.Proofs.Ytcbfgdiddhhhcaa
open Go.RowKit Gm
theorem ex_max : maxF 3 [(0, 1, 3), (1, 2, 2)] 0 2 = ([2, 2], 2, 0) := by kernel_rfl
theorem ex_more : pushF 3 [(0, 1, 3), (1, 2, 2)] [2, 2] 0 2 5 = ([2, 2], 0, 0) := by kernel_rfl
theorem ex_one : pushF 3 [(0, 1, 3), (1, 2, 2)] [0, 0] 0 2 1 = ([1, 1], 1, 0) := by kernel_rfl
theorem ex_no : pushF 3 [(0, 1, 3), (1, 2, 2)] [2, 2] 0 2 (-1) = ([], 0, 50) := by kernel_rfl
end Go.Proofs.Ytcbfgdiddhhhcaa
