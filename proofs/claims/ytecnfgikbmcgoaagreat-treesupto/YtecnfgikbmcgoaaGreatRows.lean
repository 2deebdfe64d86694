/-
  No cell of these rows narrows 'for every input' (looked for: loops, veiled, ifaces, maps, wideKeys, modest, calm, conditions, laid).
  DERIVED. THE GIVEN ROWS OF THIS SEAT. 5 by the template 'for every input the law returns true; each argument reads behind the call as it read before'; 0 by the template 'total and deterministic' (their statements: YtecnfgikbmcgoaaGreatTotals.lean).
  GIVEN WITH THE SEED: the statements are not yours to turn. If you find one false, say at which input.
  Laid BY PROGRAM, IN A SANDBOX (cutbox-rows.mjs): the forced cells as the released guide's own fill.sh prints them over the translation 3d6ef0f4f5f24fd5… (all of the seat's roots in one cut). By AI agents, Wed Nov 11 2026. No macro, syntax, notation, axiom, sorry.
-/
import Derived.Test.YtecnfgikbmcgoaaGreatChecked
import GoSem.Claim
import GoSem.ClaimJoined
import GoSem.ClaimMapViews
import Derived.JoinedTies
import Derived.KernelRfl
namespace Go.Proofs.YtecnfgikbmcgoaaGreat
/- THE CELL 'sum', in the pinned program and in every row, IS THE sha256 OF THE DUMP (.gsa) THAT YtecnfgikbmcgoaaGreatProg.lean LOADS. Nothing in Lean hashes anything: it is a label: what it is worth is what the hold of that sum in a sandbox is worth. -/
noncomputable def Tryz.pinned : Pinned := { name := "ytecnfgikbmcgoaagreat", sum := "3d6ef0f4f5f24fd5d27c42404c892e8f9eb1f1ed0409abfc378aaba7eefd4aeb", checked := Tryz.checked }
namespace Rows
def none {H : Type} : Left H := { results := [], args := [] }

/-- 'heraldlaw.Trees': WHATEVER THE INPUT: true; the input reads as it did. -/
def treesSpec : ChangeSpec := { name := "trees", fn := fun _ => fun
  | [d1, d2, d3, d4, d5] => { results := [.lit (.bool true)], args := [d1, d2, d3, d4, d5] }
  | _ => none }
def treesRow : OpenClaim := { program := "ytecnfgikbmcgoaagreat", sum := "3d6ef0f4f5f24fd5d27c42404c892e8f9eb1f1ed0409abfc378aaba7eefd4aeb", func := "herald/heraldlaw.Trees", spec := "trees", inPlace := ["internal/bytealg.IndexByteString", "internal/bytealg.IndexString"], unfollowed := true, recurses := true, named := ["internal/bytealg.MaxLen"], plainKeys := false, apart := false }
def TreesSaid : Prop := treesRow.holds Tryz.pinned (OpenSpec.ofChange treesSpec)

/-- ITS FALSE NEIGHBOUR: 'it returns false'. Refute it at one input. -/
def treesWrong : ChangeSpec := { name := "trees", fn := fun _ => fun
  | [d1, d2, d3, d4, d5] => { results := [.lit (.bool false)], args := [d1, d2, d3, d4, d5] }
  | _ => none }
def TreesWrongFalsely : Prop := treesRow.holds Tryz.pinned (OpenSpec.ofChange treesWrong)

/-- 'heraldkeep.Settled': WHATEVER THE INPUT: true; the input reads as it did. -/
def settledSpec : ChangeSpec := { name := "settled", fn := fun _ => fun
  | [d1, d2, d3, d4] => { results := [.lit (.bool true)], args := [d1, d2, d3, d4] }
  | _ => none }
def settledRow : OpenClaim := { program := "ytecnfgikbmcgoaagreat", sum := "3d6ef0f4f5f24fd5d27c42404c892e8f9eb1f1ed0409abfc378aaba7eefd4aeb", func := "herald/heraldkeep.Settled", spec := "settled", inPlace := ["internal/bytealg.IndexByteString", "internal/bytealg.IndexString"], unfollowed := true, recurses := true, named := ["internal/bytealg.MaxLen"], plainKeys := false, apart := false }
def SettledSaid : Prop := settledRow.holds Tryz.pinned (OpenSpec.ofChange settledSpec)

/-- ITS FALSE NEIGHBOUR: 'it returns false'. Refute it at one input. -/
def settledWrong : ChangeSpec := { name := "settled", fn := fun _ => fun
  | [d1, d2, d3, d4] => { results := [.lit (.bool false)], args := [d1, d2, d3, d4] }
  | _ => none }
def SettledWrongFalsely : Prop := settledRow.holds Tryz.pinned (OpenSpec.ofChange settledWrong)

/-- 'heraldkeep.Quiet': WHATEVER THE INPUT: true; the input reads as it did. -/
def quietSpec : ChangeSpec := { name := "quiet", fn := fun _ => fun
  | [d1, d2, d3, d4, d5] => { results := [.lit (.bool true)], args := [d1, d2, d3, d4, d5] }
  | _ => none }
def quietRow : OpenClaim := { program := "ytecnfgikbmcgoaagreat", sum := "3d6ef0f4f5f24fd5d27c42404c892e8f9eb1f1ed0409abfc378aaba7eefd4aeb", func := "herald/heraldkeep.Quiet", spec := "quiet", inPlace := ["internal/bytealg.IndexByteString", "internal/bytealg.IndexString"], unfollowed := true, recurses := true, named := ["internal/bytealg.MaxLen"], plainKeys := false, apart := false }
def QuietSaid : Prop := quietRow.holds Tryz.pinned (OpenSpec.ofChange quietSpec)

/-- ITS FALSE NEIGHBOUR: 'it returns false'. Refute it at one input. -/
def quietWrong : ChangeSpec := { name := "quiet", fn := fun _ => fun
  | [d1, d2, d3, d4, d5] => { results := [.lit (.bool false)], args := [d1, d2, d3, d4, d5] }
  | _ => none }
def QuietWrongFalsely : Prop := quietRow.holds Tryz.pinned (OpenSpec.ofChange quietWrong)

/-- 'heraldkeep.Heard': WHATEVER THE INPUT: true; the input reads as it did. -/
def heardSpec : ChangeSpec := { name := "heard", fn := fun _ => fun
  | [d1, d2, d3, d4, d5] => { results := [.lit (.bool true)], args := [d1, d2, d3, d4, d5] }
  | _ => none }
def heardRow : OpenClaim := { program := "ytecnfgikbmcgoaagreat", sum := "3d6ef0f4f5f24fd5d27c42404c892e8f9eb1f1ed0409abfc378aaba7eefd4aeb", func := "herald/heraldkeep.Heard", spec := "heard", inPlace := ["internal/bytealg.IndexByteString", "internal/bytealg.IndexString"], unfollowed := true, recurses := true, named := ["internal/bytealg.MaxLen"], plainKeys := false, apart := false }
def HeardSaid : Prop := heardRow.holds Tryz.pinned (OpenSpec.ofChange heardSpec)

/-- ITS FALSE NEIGHBOUR: 'it returns false'. Refute it at one input. -/
def heardWrong : ChangeSpec := { name := "heard", fn := fun _ => fun
  | [d1, d2, d3, d4, d5] => { results := [.lit (.bool false)], args := [d1, d2, d3, d4, d5] }
  | _ => none }
def HeardWrongFalsely : Prop := heardRow.holds Tryz.pinned (OpenSpec.ofChange heardWrong)

/-- 'heraldkeep.Room': WHATEVER THE INPUT: true; the input reads as it did. -/
def roomSpec : ChangeSpec := { name := "room", fn := fun _ => fun
  | [d1, d2, d3, d4] => { results := [.lit (.bool true)], args := [d1, d2, d3, d4] }
  | _ => none }
def roomRow : OpenClaim := { program := "ytecnfgikbmcgoaagreat", sum := "3d6ef0f4f5f24fd5d27c42404c892e8f9eb1f1ed0409abfc378aaba7eefd4aeb", func := "herald/heraldkeep.Room", spec := "room", inPlace := ["internal/bytealg.IndexByteString", "internal/bytealg.IndexString"], unfollowed := true, recurses := true, named := ["internal/bytealg.MaxLen"], plainKeys := false, apart := false }
def RoomSaid : Prop := roomRow.holds Tryz.pinned (OpenSpec.ofChange roomSpec)

/-- ITS FALSE NEIGHBOUR: 'it returns false'. Refute it at one input. -/
def roomWrong : ChangeSpec := { name := "room", fn := fun _ => fun
  | [d1, d2, d3, d4] => { results := [.lit (.bool false)], args := [d1, d2, d3, d4] }
  | _ => none }
def RoomWrongFalsely : Prop := roomRow.holds Tryz.pinned (OpenSpec.ofChange roomWrong)

/- THE SECOND FORM. 'bulk': how many values and letters a reading holds, each counted each time it is reached (what is shared counts as often as it is met; a slice's spare places count too). A statement '..UptoSaid' is the law's where the arguments, and the package variables that the reading takes, are together of bulk at most 1048576: NARROWER than '..Said'. Prove '..Said' where nothing that the law and all that it calls make is longer than what came in: it says more and counts as full. Else prove '..UptoSaid'. A law counts once. -/
mutual
def uptoBulk {H : Type} : DataW H → Nat
  | .lit (.string bytes) => bytes.length + 1
  | .lit _ => 1
  | .nil => 1
  | .ptr d => uptoBulk d + 1
  | .slice elems spare => uptoBulkAll elems + uptoBulkAll spare + 1
  | .agg parts => uptoBulkAll parts + 1
  | .iface _ d => uptoBulk d + 1
  | .map entries => uptoBulkEntries entries + 1
  | .held _ => 1
def uptoBulkAll {H : Type} : List (DataW H) → Nat
  | [] => 0
  | d :: r => uptoBulk d + uptoBulkAll r
def uptoBulkEntries {H : Type} : List (Lit × DataW H) → Nat
  | [] => 0
  | x :: r => uptoBulkEntry x + uptoBulkEntries r
def uptoBulkEntry {H : Type} : Lit × DataW H → Nat
  | (.string bytes, d) => bytes.length + uptoBulk d + 1
  | (_, d) => uptoBulk d + 1
 end
def uptoSmall : (H : Type) → List (DataW H) → Bool := fun _ ds => decide (uptoBulkAll ds ≤ 1048576)
def OpenSpec.upto (s : _root_.Go.ChangeSpec) : _root_.Go.OpenSpec := { _root_.Go.OpenSpec.ofChange s with cond := some uptoSmall }

/-- 'heraldlaw.Trees', WHERE WHAT IT READS IS OF BULK AT MOST 1048576: true; the input reads as it did. -/
def treesUptoRow : OpenClaim := { program := "ytecnfgikbmcgoaagreat", sum := "3d6ef0f4f5f24fd5d27c42404c892e8f9eb1f1ed0409abfc378aaba7eefd4aeb", func := "herald/heraldlaw.Trees", spec := "trees", inPlace := ["internal/bytealg.IndexByteString", "internal/bytealg.IndexString"], unfollowed := true, recurses := true, named := ["internal/bytealg.MaxLen"], plainKeys := false, apart := false, narrowed := true }
def TreesUptoSaid : Prop := treesUptoRow.holds Tryz.pinned (OpenSpec.upto treesSpec)

/-- 'heraldkeep.Settled', WHERE WHAT IT READS IS OF BULK AT MOST 1048576: true; the input reads as it did. -/
def settledUptoRow : OpenClaim := { program := "ytecnfgikbmcgoaagreat", sum := "3d6ef0f4f5f24fd5d27c42404c892e8f9eb1f1ed0409abfc378aaba7eefd4aeb", func := "herald/heraldkeep.Settled", spec := "settled", inPlace := ["internal/bytealg.IndexByteString", "internal/bytealg.IndexString"], unfollowed := true, recurses := true, named := ["internal/bytealg.MaxLen"], plainKeys := false, apart := false, narrowed := true }
def SettledUptoSaid : Prop := settledUptoRow.holds Tryz.pinned (OpenSpec.upto settledSpec)

/-- 'heraldkeep.Quiet', WHERE WHAT IT READS IS OF BULK AT MOST 1048576: true; the input reads as it did. -/
def quietUptoRow : OpenClaim := { program := "ytecnfgikbmcgoaagreat", sum := "3d6ef0f4f5f24fd5d27c42404c892e8f9eb1f1ed0409abfc378aaba7eefd4aeb", func := "herald/heraldkeep.Quiet", spec := "quiet", inPlace := ["internal/bytealg.IndexByteString", "internal/bytealg.IndexString"], unfollowed := true, recurses := true, named := ["internal/bytealg.MaxLen"], plainKeys := false, apart := false, narrowed := true }
def QuietUptoSaid : Prop := quietUptoRow.holds Tryz.pinned (OpenSpec.upto quietSpec)

/-- 'heraldkeep.Heard', WHERE WHAT IT READS IS OF BULK AT MOST 1048576: true; the input reads as it did. -/
def heardUptoRow : OpenClaim := { program := "ytecnfgikbmcgoaagreat", sum := "3d6ef0f4f5f24fd5d27c42404c892e8f9eb1f1ed0409abfc378aaba7eefd4aeb", func := "herald/heraldkeep.Heard", spec := "heard", inPlace := ["internal/bytealg.IndexByteString", "internal/bytealg.IndexString"], unfollowed := true, recurses := true, named := ["internal/bytealg.MaxLen"], plainKeys := false, apart := false, narrowed := true }
def HeardUptoSaid : Prop := heardUptoRow.holds Tryz.pinned (OpenSpec.upto heardSpec)

/-- 'heraldkeep.Room', WHERE WHAT IT READS IS OF BULK AT MOST 1048576: true; the input reads as it did. -/
def roomUptoRow : OpenClaim := { program := "ytecnfgikbmcgoaagreat", sum := "3d6ef0f4f5f24fd5d27c42404c892e8f9eb1f1ed0409abfc378aaba7eefd4aeb", func := "herald/heraldkeep.Room", spec := "room", inPlace := ["internal/bytealg.IndexByteString", "internal/bytealg.IndexString"], unfollowed := true, recurses := true, named := ["internal/bytealg.MaxLen"], plainKeys := false, apart := false, narrowed := true }
def RoomUptoSaid : Prop := roomUptoRow.holds Tryz.pinned (OpenSpec.upto roomSpec)

end Rows
end Go.Proofs.YtecnfgikbmcgoaaGreat
