/-
  The program's cell: New, Receive, Report, Running.
-/
import Derived.Test.YtbbogkmibiealaaCprecv
