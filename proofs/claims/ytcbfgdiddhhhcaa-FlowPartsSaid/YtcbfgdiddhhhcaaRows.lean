/-
  No cell of these rows narrows 'for every input' (looked for: loops, veiled, ifaces, maps, wideKeys, modest, calm, conditions, laid).
  DERIVED. THE GIVEN ROWS OF THIS SEAT. 8 by the template 'for every input the law returns true; each argument reads behind the call as it read before'; 0 by the template 'total and deterministic' (their statements: YtcbfgdiddhhhcaaTotals.lean).
  GIVEN WITH THE SEED: the statements are not yours to turn. If you find one false, say at which input.
  Laid BY PROGRAM, IN A SANDBOX (cutbox-rows.mjs): the forced cells as the released guide's own fill.sh prints them over the translation 8f373a2adb6d1045… (all of the seat's roots in one cut). By AI agents, Wed Nov 11 2026. No macro, syntax, notation, axiom, sorry.
-/
import Derived.Test.YtcbfgdiddhhhcaaChecked
import GoSem.Claim
import GoSem.ClaimJoined
import GoSem.ClaimMapViews
import Derived.JoinedTies
import Derived.KernelRfl
namespace Go.Proofs.Ytcbfgdiddhhhcaa
/- THE CELL 'sum', in the pinned program and in every row, IS THE sha256 OF THE DUMP (.gsa) THAT YtcbfgdiddhhhcaaProg.lean LOADS. Nothing in Lean hashes anything: it is a label: what it is worth is what the hold of that sum in a sandbox is worth. -/
noncomputable def Try.pinned : Pinned := { name := "ytcbfgdiddhhhcaa", sum := "8f373a2adb6d10457a7457116c14ce798c2cb7996a9bde79510abfbe7b2536d0", checked := Try.checked }
namespace Rows
def none {H : Type} : Left H := { results := [], args := [] }

/-- 'billetlaw06.FlowTells': WHATEVER THE INPUT: true; the input reads as it did. -/
def flowTellsSpec : ChangeSpec := { name := "flowTells", fn := fun _ => fun
  | [d1, d2, d3, d4, d5] => { results := [.lit (.bool true)], args := [d1, d2, d3, d4, d5] }
  | _ => none }
def flowTellsRow : OpenClaim := { program := "ytcbfgdiddhhhcaa", sum := "8f373a2adb6d10457a7457116c14ce798c2cb7996a9bde79510abfbe7b2536d0", func := "billet/billetlaw06.FlowTells", spec := "flowTells", unfollowed := true, recurses := true, apart := false }
def FlowTellsSaid : Prop := flowTellsRow.holds Try.pinned (OpenSpec.ofChange flowTellsSpec)

/-- ITS FALSE NEIGHBOUR: 'it returns false'. Refute it at one input. -/
def flowTellsWrong : ChangeSpec := { name := "flowTells", fn := fun _ => fun
  | [d1, d2, d3, d4, d5] => { results := [.lit (.bool false)], args := [d1, d2, d3, d4, d5] }
  | _ => none }
def FlowTellsWrongFalsely : Prop := flowTellsRow.holds Try.pinned (OpenSpec.ofChange flowTellsWrong)

/-- 'billetlaw06.FlowPushes': WHATEVER THE INPUT: true; the input reads as it did. -/
def flowPushesSpec : ChangeSpec := { name := "flowPushes", fn := fun _ => fun
  | [d1, d2, d3] => { results := [.lit (.bool true)], args := [d1, d2, d3] }
  | _ => none }
def flowPushesRow : OpenClaim := { program := "ytcbfgdiddhhhcaa", sum := "8f373a2adb6d10457a7457116c14ce798c2cb7996a9bde79510abfbe7b2536d0", func := "billet/billetlaw06.FlowPushes", spec := "flowPushes", unfollowed := true, recurses := true, apart := false }
def FlowPushesSaid : Prop := flowPushesRow.holds Try.pinned (OpenSpec.ofChange flowPushesSpec)

/-- ITS FALSE NEIGHBOUR: 'it returns false'. Refute it at one input. -/
def flowPushesWrong : ChangeSpec := { name := "flowPushes", fn := fun _ => fun
  | [d1, d2, d3] => { results := [.lit (.bool false)], args := [d1, d2, d3] }
  | _ => none }
def FlowPushesWrongFalsely : Prop := flowPushesRow.holds Try.pinned (OpenSpec.ofChange flowPushesWrong)

/-- 'billetlaw06.FlowMost': WHATEVER THE INPUT: true; the input reads as it did. -/
def flowMostSpec : ChangeSpec := { name := "flowMost", fn := fun _ => fun
  | [d1, d2, d3, d4] => { results := [.lit (.bool true)], args := [d1, d2, d3, d4] }
  | _ => none }
def flowMostRow : OpenClaim := { program := "ytcbfgdiddhhhcaa", sum := "8f373a2adb6d10457a7457116c14ce798c2cb7996a9bde79510abfbe7b2536d0", func := "billet/billetlaw06.FlowMost", spec := "flowMost", unfollowed := true, recurses := true, apart := false }
def FlowMostSaid : Prop := flowMostRow.holds Try.pinned (OpenSpec.ofChange flowMostSpec)

/-- ITS FALSE NEIGHBOUR: 'it returns false'. Refute it at one input. -/
def flowMostWrong : ChangeSpec := { name := "flowMost", fn := fun _ => fun
  | [d1, d2, d3, d4] => { results := [.lit (.bool false)], args := [d1, d2, d3, d4] }
  | _ => none }
def FlowMostWrongFalsely : Prop := flowMostRow.holds Try.pinned (OpenSpec.ofChange flowMostWrong)

/-- 'billetlaw06.FlowAdds': WHATEVER THE INPUT: true; the input reads as it did. -/
def flowAddsSpec : ChangeSpec := { name := "flowAdds", fn := fun _ => fun
  | [d1, d2, d3] => { results := [.lit (.bool true)], args := [d1, d2, d3] }
  | _ => none }
def flowAddsRow : OpenClaim := { program := "ytcbfgdiddhhhcaa", sum := "8f373a2adb6d10457a7457116c14ce798c2cb7996a9bde79510abfbe7b2536d0", func := "billet/billetlaw06.FlowAdds", spec := "flowAdds", unfollowed := true, recurses := true, apart := false }
def FlowAddsSaid : Prop := flowAddsRow.holds Try.pinned (OpenSpec.ofChange flowAddsSpec)

/-- ITS FALSE NEIGHBOUR: 'it returns false'. Refute it at one input. -/
def flowAddsWrong : ChangeSpec := { name := "flowAdds", fn := fun _ => fun
  | [d1, d2, d3] => { results := [.lit (.bool false)], args := [d1, d2, d3] }
  | _ => none }
def FlowAddsWrongFalsely : Prop := flowAddsRow.holds Try.pinned (OpenSpec.ofChange flowAddsWrong)

/-- 'billetlaw06.FlowTwice': WHATEVER THE INPUT: true; the input reads as it did. -/
def flowTwiceSpec : ChangeSpec := { name := "flowTwice", fn := fun _ => fun
  | [d1, d2, d3, d4] => { results := [.lit (.bool true)], args := [d1, d2, d3, d4] }
  | _ => none }
def flowTwiceRow : OpenClaim := { program := "ytcbfgdiddhhhcaa", sum := "8f373a2adb6d10457a7457116c14ce798c2cb7996a9bde79510abfbe7b2536d0", func := "billet/billetlaw06.FlowTwice", spec := "flowTwice", unfollowed := true, recurses := true, apart := false }
def FlowTwiceSaid : Prop := flowTwiceRow.holds Try.pinned (OpenSpec.ofChange flowTwiceSpec)

/-- ITS FALSE NEIGHBOUR: 'it returns false'. Refute it at one input. -/
def flowTwiceWrong : ChangeSpec := { name := "flowTwice", fn := fun _ => fun
  | [d1, d2, d3, d4] => { results := [.lit (.bool false)], args := [d1, d2, d3, d4] }
  | _ => none }
def FlowTwiceWrongFalsely : Prop := flowTwiceRow.holds Try.pinned (OpenSpec.ofChange flowTwiceWrong)

/-- 'billetlaw06.FlowSame': WHATEVER THE INPUT: true; the input reads as it did. -/
def flowSameSpec : ChangeSpec := { name := "flowSame", fn := fun _ => fun
  | [d1, d2, d3] => { results := [.lit (.bool true)], args := [d1, d2, d3] }
  | _ => none }
def flowSameRow : OpenClaim := { program := "ytcbfgdiddhhhcaa", sum := "8f373a2adb6d10457a7457116c14ce798c2cb7996a9bde79510abfbe7b2536d0", func := "billet/billetlaw06.FlowSame", spec := "flowSame", unfollowed := true, recurses := true, apart := false }
def FlowSameSaid : Prop := flowSameRow.holds Try.pinned (OpenSpec.ofChange flowSameSpec)

/-- ITS FALSE NEIGHBOUR: 'it returns false'. Refute it at one input. -/
def flowSameWrong : ChangeSpec := { name := "flowSame", fn := fun _ => fun
  | [d1, d2, d3] => { results := [.lit (.bool false)], args := [d1, d2, d3] }
  | _ => none }
def FlowSameWrongFalsely : Prop := flowSameRow.holds Try.pinned (OpenSpec.ofChange flowSameWrong)

/-- 'billetlaw06.FlowMirror': WHATEVER THE INPUT: true; the input reads as it did. -/
def flowMirrorSpec : ChangeSpec := { name := "flowMirror", fn := fun _ => fun
  | [d] => { results := [.lit (.bool true)], args := [d] }
  | _ => none }
def flowMirrorRow : OpenClaim := { program := "ytcbfgdiddhhhcaa", sum := "8f373a2adb6d10457a7457116c14ce798c2cb7996a9bde79510abfbe7b2536d0", func := "billet/billetlaw06.FlowMirror", spec := "flowMirror", unfollowed := true, recurses := true, apart := false }
def FlowMirrorSaid : Prop := flowMirrorRow.holds Try.pinned (OpenSpec.ofChange flowMirrorSpec)

/-- ITS FALSE NEIGHBOUR: 'it returns false'. Refute it at one input. -/
def flowMirrorWrong : ChangeSpec := { name := "flowMirror", fn := fun _ => fun
  | [d] => { results := [.lit (.bool false)], args := [d] }
  | _ => none }
def FlowMirrorWrongFalsely : Prop := flowMirrorRow.holds Try.pinned (OpenSpec.ofChange flowMirrorWrong)

/-- 'billetlaw06.FlowParts': WHATEVER THE INPUT: true; the input reads as it did. -/
def flowPartsSpec : ChangeSpec := { name := "flowParts", fn := fun _ => fun
  | [d1, d2, d3] => { results := [.lit (.bool true)], args := [d1, d2, d3] }
  | _ => none }
def flowPartsRow : OpenClaim := { program := "ytcbfgdiddhhhcaa", sum := "8f373a2adb6d10457a7457116c14ce798c2cb7996a9bde79510abfbe7b2536d0", func := "billet/billetlaw06.FlowParts", spec := "flowParts", unfollowed := true, recurses := true, apart := false }
def FlowPartsSaid : Prop := flowPartsRow.holds Try.pinned (OpenSpec.ofChange flowPartsSpec)

/-- ITS FALSE NEIGHBOUR: 'it returns false'. Refute it at one input. -/
def flowPartsWrong : ChangeSpec := { name := "flowParts", fn := fun _ => fun
  | [d1, d2, d3] => { results := [.lit (.bool false)], args := [d1, d2, d3] }
  | _ => none }
def FlowPartsWrongFalsely : Prop := flowPartsRow.holds Try.pinned (OpenSpec.ofChange flowPartsWrong)

/- THE SECOND FORM. 'bulk': how many values and letters a reading holds, each counted each time it is reached (what is shared counts as often as it is met; a slice's spare places count too). A statement '..UptoSaid' is the law's where the arguments, and the package variables that the reading takes, are together of bulk at most 1048576: NARROWER than '..Said'. Prove '..Said' where nothing that the law and all that it calls make is longer than what came in: it says more and counts as full. Else prove '..UptoSaid'. A law counts once. -/
mutual
def uptoBulk {H : Type} : DataW H → Nat
  | .lit (.string bytes) => bytes.length + 1
  | .lit _ => 1
  | .nil => 1
  | .ptr d => uptoBulk d + 1
  | .slice elems spare => uptoBulkAll elems + uptoBulkAll spare + 1
  | .agg parts => uptoBulkAll parts + 1
  | .iface _ d => uptoBulk d + 1
  | .map entries => uptoBulkEntries entries + 1
  | .held _ => 1
def uptoBulkAll {H : Type} : List (DataW H) → Nat
  | [] => 0
  | d :: r => uptoBulk d + uptoBulkAll r
def uptoBulkEntries {H : Type} : List (Lit × DataW H) → Nat
  | [] => 0
  | x :: r => uptoBulkEntry x + uptoBulkEntries r
def uptoBulkEntry {H : Type} : Lit × DataW H → Nat
  | (.string bytes, d) => bytes.length + uptoBulk d + 1
  | (_, d) => uptoBulk d + 1
 end
def uptoSmall : (H : Type) → List (DataW H) → Bool := fun _ ds => decide (uptoBulkAll ds ≤ 1048576)
def OpenSpec.upto (s : _root_.Go.ChangeSpec) : _root_.Go.OpenSpec := { _root_.Go.OpenSpec.ofChange s with cond := some uptoSmall }

/-- 'billetlaw06.FlowTells', WHERE WHAT IT READS IS OF BULK AT MOST 1048576: true; the input reads as it did. -/
def flowTellsUptoRow : OpenClaim := { program := "ytcbfgdiddhhhcaa", sum := "8f373a2adb6d10457a7457116c14ce798c2cb7996a9bde79510abfbe7b2536d0", func := "billet/billetlaw06.FlowTells", spec := "flowTells", unfollowed := true, recurses := true, apart := false, narrowed := true }
def FlowTellsUptoSaid : Prop := flowTellsUptoRow.holds Try.pinned (OpenSpec.upto flowTellsSpec)

/-- 'billetlaw06.FlowPushes', WHERE WHAT IT READS IS OF BULK AT MOST 1048576: true; the input reads as it did. -/
def flowPushesUptoRow : OpenClaim := { program := "ytcbfgdiddhhhcaa", sum := "8f373a2adb6d10457a7457116c14ce798c2cb7996a9bde79510abfbe7b2536d0", func := "billet/billetlaw06.FlowPushes", spec := "flowPushes", unfollowed := true, recurses := true, apart := false, narrowed := true }
def FlowPushesUptoSaid : Prop := flowPushesUptoRow.holds Try.pinned (OpenSpec.upto flowPushesSpec)

/-- 'billetlaw06.FlowMost', WHERE WHAT IT READS IS OF BULK AT MOST 1048576: true; the input reads as it did. -/
def flowMostUptoRow : OpenClaim := { program := "ytcbfgdiddhhhcaa", sum := "8f373a2adb6d10457a7457116c14ce798c2cb7996a9bde79510abfbe7b2536d0", func := "billet/billetlaw06.FlowMost", spec := "flowMost", unfollowed := true, recurses := true, apart := false, narrowed := true }
def FlowMostUptoSaid : Prop := flowMostUptoRow.holds Try.pinned (OpenSpec.upto flowMostSpec)

/-- 'billetlaw06.FlowAdds', WHERE WHAT IT READS IS OF BULK AT MOST 1048576: true; the input reads as it did. -/
def flowAddsUptoRow : OpenClaim := { program := "ytcbfgdiddhhhcaa", sum := "8f373a2adb6d10457a7457116c14ce798c2cb7996a9bde79510abfbe7b2536d0", func := "billet/billetlaw06.FlowAdds", spec := "flowAdds", unfollowed := true, recurses := true, apart := false, narrowed := true }
def FlowAddsUptoSaid : Prop := flowAddsUptoRow.holds Try.pinned (OpenSpec.upto flowAddsSpec)

/-- 'billetlaw06.FlowTwice', WHERE WHAT IT READS IS OF BULK AT MOST 1048576: true; the input reads as it did. -/
def flowTwiceUptoRow : OpenClaim := { program := "ytcbfgdiddhhhcaa", sum := "8f373a2adb6d10457a7457116c14ce798c2cb7996a9bde79510abfbe7b2536d0", func := "billet/billetlaw06.FlowTwice", spec := "flowTwice", unfollowed := true, recurses := true, apart := false, narrowed := true }
def FlowTwiceUptoSaid : Prop := flowTwiceUptoRow.holds Try.pinned (OpenSpec.upto flowTwiceSpec)

/-- 'billetlaw06.FlowSame', WHERE WHAT IT READS IS OF BULK AT MOST 1048576: true; the input reads as it did. -/
def flowSameUptoRow : OpenClaim := { program := "ytcbfgdiddhhhcaa", sum := "8f373a2adb6d10457a7457116c14ce798c2cb7996a9bde79510abfbe7b2536d0", func := "billet/billetlaw06.FlowSame", spec := "flowSame", unfollowed := true, recurses := true, apart := false, narrowed := true }
def FlowSameUptoSaid : Prop := flowSameUptoRow.holds Try.pinned (OpenSpec.upto flowSameSpec)

/-- 'billetlaw06.FlowMirror', WHERE WHAT IT READS IS OF BULK AT MOST 1048576: true; the input reads as it did. -/
def flowMirrorUptoRow : OpenClaim := { program := "ytcbfgdiddhhhcaa", sum := "8f373a2adb6d10457a7457116c14ce798c2cb7996a9bde79510abfbe7b2536d0", func := "billet/billetlaw06.FlowMirror", spec := "flowMirror", unfollowed := true, recurses := true, apart := false, narrowed := true }
def FlowMirrorUptoSaid : Prop := flowMirrorUptoRow.holds Try.pinned (OpenSpec.upto flowMirrorSpec)

/-- 'billetlaw06.FlowParts', WHERE WHAT IT READS IS OF BULK AT MOST 1048576: true; the input reads as it did. -/
def flowPartsUptoRow : OpenClaim := { program := "ytcbfgdiddhhhcaa", sum := "8f373a2adb6d10457a7457116c14ce798c2cb7996a9bde79510abfbe7b2536d0", func := "billet/billetlaw06.FlowParts", spec := "flowParts", unfollowed := true, recurses := true, apart := false, narrowed := true }
def FlowPartsUptoSaid : Prop := flowPartsUptoRow.holds Try.pinned (OpenSpec.upto flowPartsSpec)

end Rows
end Go.Proofs.Ytcbfgdiddhhhcaa
