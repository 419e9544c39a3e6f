/-
  The program's leases and books: all of it.
-/
import Derived.Test.YtgkpkegbjkjhiaaLpheld
import Derived.Test.YtgkpkegbjkjhiaaLpsent
import Derived.Test.YtgkpkegbjkjhiaaLpass
namespace Go.Proofs.Ytgkpkegbjkjhiaa
open Go.RowKit Gm

theorem pbook_is : Lawful PBook := pbook_law
end Go.Proofs.Ytgkpkegbjkjhiaa
