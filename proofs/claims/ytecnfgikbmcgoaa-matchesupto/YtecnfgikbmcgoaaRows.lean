/-
  No cell of these rows narrows 'for every input' (looked for: loops, veiled, ifaces, maps, wideKeys, modest, calm, conditions, laid).
  DERIVED. THE GIVEN ROWS OF THIS SEAT. 4 by the template 'for every input the law returns true; each argument reads behind the call as it read before'; 0 by the template 'total and deterministic' (their statements: YtecnfgikbmcgoaaTotals.lean).
  GIVEN WITH THE SEED: the statements are not yours to turn. If you find one false, say at which input.
  Laid BY PROGRAM, IN A SANDBOX (cutbox-rows.mjs): the forced cells as the released guide's own fill.sh prints them over the translation c8c180721e6721c2… (all of the seat's roots in one cut). By AI agents, Wed Nov 11 2026. No macro, syntax, notation, axiom, sorry.
-/
import Derived.Test.YtecnfgikbmcgoaaChecked
import GoSem.Claim
import GoSem.ClaimJoined
import GoSem.ClaimMapViews
import Derived.JoinedTies
import Derived.KernelRfl
namespace Go.Proofs.Ytecnfgikbmcgoaa
/- THE CELL 'sum', in the pinned program and in every row, IS THE sha256 OF THE DUMP (.gsa) THAT YtecnfgikbmcgoaaProg.lean LOADS. Nothing in Lean hashes anything: it is a label: what it is worth is what the hold of that sum in a sandbox is worth. -/
noncomputable def Try.pinned : Pinned := { name := "ytecnfgikbmcgoaa", sum := "c8c180721e6721c2a30c009a9609a4636668f01a595a785f408271a598c7f5b2", checked := Try.checked }
namespace Rows
def none {H : Type} : Left H := { results := [], args := [] }

/-- 'heraldlaw.Matches': WHATEVER THE INPUT: true; the input reads as it did. -/
def matchesSpec : ChangeSpec := { name := "matches", fn := fun _ => fun
  | [d1, d2] => { results := [.lit (.bool true)], args := [d1, d2] }
  | _ => none }
def matchesRow : OpenClaim := { program := "ytecnfgikbmcgoaa", sum := "c8c180721e6721c2a30c009a9609a4636668f01a595a785f408271a598c7f5b2", func := "herald/heraldlaw.Matches", spec := "matches", inPlace := ["internal/bytealg.IndexByteString", "internal/bytealg.IndexString"], named := ["internal/bytealg.MaxLen"], apart := false }
def MatchesSaid : Prop := matchesRow.holds Try.pinned (OpenSpec.ofChange matchesSpec)

/-- ITS FALSE NEIGHBOUR: 'it returns false'. Refute it at one input. -/
def matchesWrong : ChangeSpec := { name := "matches", fn := fun _ => fun
  | [d1, d2] => { results := [.lit (.bool false)], args := [d1, d2] }
  | _ => none }
def MatchesWrongFalsely : Prop := matchesRow.holds Try.pinned (OpenSpec.ofChange matchesWrong)

/-- 'heraldlaw.Implied': WHATEVER THE INPUT: true; the input reads as it did. -/
def impliedSpec : ChangeSpec := { name := "implied", fn := fun _ => fun
  | [d1, d2, d3, d4] => { results := [.lit (.bool true)], args := [d1, d2, d3, d4] }
  | _ => none }
def impliedRow : OpenClaim := { program := "ytecnfgikbmcgoaa", sum := "c8c180721e6721c2a30c009a9609a4636668f01a595a785f408271a598c7f5b2", func := "herald/heraldlaw.Implied", spec := "implied", inPlace := ["internal/bytealg.IndexByteString", "internal/bytealg.IndexString"], named := ["internal/bytealg.MaxLen"], apart := false }
def ImpliedSaid : Prop := impliedRow.holds Try.pinned (OpenSpec.ofChange impliedSpec)

/-- ITS FALSE NEIGHBOUR: 'it returns false'. Refute it at one input. -/
def impliedWrong : ChangeSpec := { name := "implied", fn := fun _ => fun
  | [d1, d2, d3, d4] => { results := [.lit (.bool false)], args := [d1, d2, d3, d4] }
  | _ => none }
def ImpliedWrongFalsely : Prop := impliedRow.holds Try.pinned (OpenSpec.ofChange impliedWrong)

/-- 'heraldkeep.Narrow': WHATEVER THE INPUT: true; the input reads as it did. -/
def narrowSpec : ChangeSpec := { name := "narrow", fn := fun _ => fun
  | [d1, d2, d3, d4, d5] => { results := [.lit (.bool true)], args := [d1, d2, d3, d4, d5] }
  | _ => none }
def narrowRow : OpenClaim := { program := "ytecnfgikbmcgoaa", sum := "c8c180721e6721c2a30c009a9609a4636668f01a595a785f408271a598c7f5b2", func := "herald/heraldkeep.Narrow", spec := "narrow", inPlace := ["internal/bytealg.IndexByteString", "internal/bytealg.IndexString"], named := ["internal/bytealg.MaxLen"], apart := false }
def NarrowSaid : Prop := narrowRow.holds Try.pinned (OpenSpec.ofChange narrowSpec)

/-- ITS FALSE NEIGHBOUR: 'it returns false'. Refute it at one input. -/
def narrowWrong : ChangeSpec := { name := "narrow", fn := fun _ => fun
  | [d1, d2, d3, d4, d5] => { results := [.lit (.bool false)], args := [d1, d2, d3, d4, d5] }
  | _ => none }
def NarrowWrongFalsely : Prop := narrowRow.holds Try.pinned (OpenSpec.ofChange narrowWrong)

/-- 'heraldkeep.Ordered': WHATEVER THE INPUT: true; the input reads as it did. -/
def orderedSpec : ChangeSpec := { name := "ordered", fn := fun _ => fun
  | [d1, d2, d3, d4, d5, d6] => { results := [.lit (.bool true)], args := [d1, d2, d3, d4, d5, d6] }
  | _ => none }
def orderedRow : OpenClaim := { program := "ytecnfgikbmcgoaa", sum := "c8c180721e6721c2a30c009a9609a4636668f01a595a785f408271a598c7f5b2", func := "herald/heraldkeep.Ordered", spec := "ordered", inPlace := ["internal/bytealg.IndexByteString", "internal/bytealg.IndexString"], named := ["internal/bytealg.MaxLen"], apart := false }
def OrderedSaid : Prop := orderedRow.holds Try.pinned (OpenSpec.ofChange orderedSpec)

/-- ITS FALSE NEIGHBOUR: 'it returns false'. Refute it at one input. -/
def orderedWrong : ChangeSpec := { name := "ordered", fn := fun _ => fun
  | [d1, d2, d3, d4, d5, d6] => { results := [.lit (.bool false)], args := [d1, d2, d3, d4, d5, d6] }
  | _ => none }
def OrderedWrongFalsely : Prop := orderedRow.holds Try.pinned (OpenSpec.ofChange orderedWrong)

/- THE SECOND FORM. 'bulk': how many values and letters a reading holds, each counted each time it is reached (what is shared counts as often as it is met; a slice's spare places count too). A statement '..UptoSaid' is the law's where the arguments, and the package variables that the reading takes, are together of bulk at most 1048576: NARROWER than '..Said'. Prove '..Said' where nothing that the law and all that it calls make is longer than what came in: it says more and counts as full. Else prove '..UptoSaid'. A law counts once. -/
mutual
def uptoBulk {H : Type} : DataW H → Nat
  | .lit (.string bytes) => bytes.length + 1
  | .lit _ => 1
  | .nil => 1
  | .ptr d => uptoBulk d + 1
  | .slice elems spare => uptoBulkAll elems + uptoBulkAll spare + 1
  | .agg parts => uptoBulkAll parts + 1
  | .iface _ d => uptoBulk d + 1
  | .map entries => uptoBulkEntries entries + 1
  | .held _ => 1
def uptoBulkAll {H : Type} : List (DataW H) → Nat
  | [] => 0
  | d :: r => uptoBulk d + uptoBulkAll r
def uptoBulkEntries {H : Type} : List (Lit × DataW H) → Nat
  | [] => 0
  | x :: r => uptoBulkEntry x + uptoBulkEntries r
def uptoBulkEntry {H : Type} : Lit × DataW H → Nat
  | (.string bytes, d) => bytes.length + uptoBulk d + 1
  | (_, d) => uptoBulk d + 1
 end
def uptoSmall : (H : Type) → List (DataW H) → Bool := fun _ ds => decide (uptoBulkAll ds ≤ 1048576)
def OpenSpec.upto (s : _root_.Go.ChangeSpec) : _root_.Go.OpenSpec := { _root_.Go.OpenSpec.ofChange s with cond := some uptoSmall }

/-- 'heraldlaw.Matches', WHERE WHAT IT READS IS OF BULK AT MOST 1048576: true; the input reads as it did. -/
def matchesUptoRow : OpenClaim := { program := "ytecnfgikbmcgoaa", sum := "c8c180721e6721c2a30c009a9609a4636668f01a595a785f408271a598c7f5b2", func := "herald/heraldlaw.Matches", spec := "matches", inPlace := ["internal/bytealg.IndexByteString", "internal/bytealg.IndexString"], named := ["internal/bytealg.MaxLen"], apart := false, narrowed := true }
def MatchesUptoSaid : Prop := matchesUptoRow.holds Try.pinned (OpenSpec.upto matchesSpec)

/-- 'heraldlaw.Implied', WHERE WHAT IT READS IS OF BULK AT MOST 1048576: true; the input reads as it did. -/
def impliedUptoRow : OpenClaim := { program := "ytecnfgikbmcgoaa", sum := "c8c180721e6721c2a30c009a9609a4636668f01a595a785f408271a598c7f5b2", func := "herald/heraldlaw.Implied", spec := "implied", inPlace := ["internal/bytealg.IndexByteString", "internal/bytealg.IndexString"], named := ["internal/bytealg.MaxLen"], apart := false, narrowed := true }
def ImpliedUptoSaid : Prop := impliedUptoRow.holds Try.pinned (OpenSpec.upto impliedSpec)

/-- 'heraldkeep.Narrow', WHERE WHAT IT READS IS OF BULK AT MOST 1048576: true; the input reads as it did. -/
def narrowUptoRow : OpenClaim := { program := "ytecnfgikbmcgoaa", sum := "c8c180721e6721c2a30c009a9609a4636668f01a595a785f408271a598c7f5b2", func := "herald/heraldkeep.Narrow", spec := "narrow", inPlace := ["internal/bytealg.IndexByteString", "internal/bytealg.IndexString"], named := ["internal/bytealg.MaxLen"], apart := false, narrowed := true }
def NarrowUptoSaid : Prop := narrowUptoRow.holds Try.pinned (OpenSpec.upto narrowSpec)

/-- 'heraldkeep.Ordered', WHERE WHAT IT READS IS OF BULK AT MOST 1048576: true; the input reads as it did. -/
def orderedUptoRow : OpenClaim := { program := "ytecnfgikbmcgoaa", sum := "c8c180721e6721c2a30c009a9609a4636668f01a595a785f408271a598c7f5b2", func := "herald/heraldkeep.Ordered", spec := "ordered", inPlace := ["internal/bytealg.IndexByteString", "internal/bytealg.IndexString"], named := ["internal/bytealg.MaxLen"], apart := false, narrowed := true }
def OrderedUptoSaid : Prop := orderedUptoRow.holds Try.pinned (OpenSpec.upto orderedSpec)

end Rows
end Go.Proofs.Ytecnfgikbmcgoaa
