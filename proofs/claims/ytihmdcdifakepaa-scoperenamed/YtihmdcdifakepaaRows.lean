/-
  NARROWER THAN 'FOR EVERY INPUT', by the rows' own cells (each row's printed sentence says how): ScopeRights: loops · ScopeUses: loops · ScopeRenamed: loops · ScopeWrapped: loops.
  DERIVED. THE GIVEN ROWS OF THIS SEAT. 5 by the template 'for every input the law returns true; each argument reads behind the call as it read before'; 0 by the template 'total and deterministic' (their statements: YtihmdcdifakepaaTotals.lean).
  GIVEN WITH THE SEED: the statements are not yours to turn. If you find one false, say at which input.
  Laid BY PROGRAM, IN A SANDBOX (cutbox-rows.mjs): the forced cells as the released guide's own fill.sh prints them over the translation 813b3288a7d24d97… (all of the seat's roots in one cut). By AI agents, Wed Nov 11 2026. No macro, syntax, notation, axiom, sorry.
-/
import Derived.Test.YtihmdcdifakepaaChecked
import GoSem.Claim
import GoSem.ClaimJoined
import GoSem.ClaimMapViews
import Derived.JoinedTies
import Derived.KernelRfl
namespace Go.Proofs.Ytihmdcdifakepaa
/- THE CELL 'sum', in the pinned program and in every row, IS THE sha256 OF THE DUMP (.gsa) THAT YtihmdcdifakepaaProg.lean LOADS. Nothing in Lean hashes anything: it is a label: what it is worth is what the hold of that sum in a sandbox is worth. -/
noncomputable def Try.pinned : Pinned := { name := "ytihmdcdifakepaa", sum := "813b3288a7d24d976133c1a9501dd7a970cad9d2b3ed2bdac797850c476b4a32", checked := Try.checked }
namespace Rows
def none {H : Type} : Left H := { results := [], args := [] }

/-- 'brazierlaw07.ScopeRights': WHATEVER THE INPUT: true; the input reads as it did. -/
def scopeRightsSpec : ChangeSpec := { name := "scopeRights", fn := fun _ => fun
  | [d] => { results := [.lit (.bool true)], args := [d] }
  | _ => none }
def scopeRightsRow : OpenClaim := { program := "ytihmdcdifakepaa", sum := "813b3288a7d24d976133c1a9501dd7a970cad9d2b3ed2bdac797850c476b4a32", func := "brazier/brazierlaw07.ScopeRights", spec := "scopeRights", inPlace := ["internal/abi.NoEscape", "internal/bytealg.MakeNoZero"], unfollowed := true, recurses := true, loops := true, apart := false }
def ScopeRightsSaid : Prop := scopeRightsRow.holds Try.pinned (OpenSpec.ofChange scopeRightsSpec)

/-- ITS FALSE NEIGHBOUR: 'it returns false'. Refute it at one input. -/
def scopeRightsWrong : ChangeSpec := { name := "scopeRights", fn := fun _ => fun
  | [d] => { results := [.lit (.bool false)], args := [d] }
  | _ => none }
def ScopeRightsWrongFalsely : Prop := scopeRightsRow.holds Try.pinned (OpenSpec.ofChange scopeRightsWrong)

/-- 'brazierlaw07.ScopeBuiltins': WHATEVER THE INPUT: true; the input reads as it did. -/
def scopeBuiltinsSpec : ChangeSpec := { name := "scopeBuiltins", fn := fun _ => fun
  | [d] => { results := [.lit (.bool true)], args := [d] }
  | _ => none }
def scopeBuiltinsRow : OpenClaim := { program := "ytihmdcdifakepaa", sum := "813b3288a7d24d976133c1a9501dd7a970cad9d2b3ed2bdac797850c476b4a32", func := "brazier/brazierlaw07.ScopeBuiltins", spec := "scopeBuiltins", inPlace := ["internal/abi.NoEscape", "internal/bytealg.MakeNoZero"], unfollowed := true, recurses := true, apart := false }
def ScopeBuiltinsSaid : Prop := scopeBuiltinsRow.holds Try.pinned (OpenSpec.ofChange scopeBuiltinsSpec)

/-- ITS FALSE NEIGHBOUR: 'it returns false'. Refute it at one input. -/
def scopeBuiltinsWrong : ChangeSpec := { name := "scopeBuiltins", fn := fun _ => fun
  | [d] => { results := [.lit (.bool false)], args := [d] }
  | _ => none }
def ScopeBuiltinsWrongFalsely : Prop := scopeBuiltinsRow.holds Try.pinned (OpenSpec.ofChange scopeBuiltinsWrong)

/-- 'brazierlaw07.ScopeUses': WHATEVER THE INPUT: true; the input reads as it did. -/
def scopeUsesSpec : ChangeSpec := { name := "scopeUses", fn := fun _ => fun
  | [d] => { results := [.lit (.bool true)], args := [d] }
  | _ => none }
def scopeUsesRow : OpenClaim := { program := "ytihmdcdifakepaa", sum := "813b3288a7d24d976133c1a9501dd7a970cad9d2b3ed2bdac797850c476b4a32", func := "brazier/brazierlaw07.ScopeUses", spec := "scopeUses", inPlace := ["internal/abi.NoEscape", "internal/bytealg.MakeNoZero"], unfollowed := true, recurses := true, loops := true, apart := false }
def ScopeUsesSaid : Prop := scopeUsesRow.holds Try.pinned (OpenSpec.ofChange scopeUsesSpec)

/-- ITS FALSE NEIGHBOUR: 'it returns false'. Refute it at one input. -/
def scopeUsesWrong : ChangeSpec := { name := "scopeUses", fn := fun _ => fun
  | [d] => { results := [.lit (.bool false)], args := [d] }
  | _ => none }
def ScopeUsesWrongFalsely : Prop := scopeUsesRow.holds Try.pinned (OpenSpec.ofChange scopeUsesWrong)

/-- 'brazierlaw07.ScopeRenamed': WHATEVER THE INPUT: true; the input reads as it did. -/
def scopeRenamedSpec : ChangeSpec := { name := "scopeRenamed", fn := fun _ => fun
  | [d1, d2] => { results := [.lit (.bool true)], args := [d1, d2] }
  | _ => none }
def scopeRenamedRow : OpenClaim := { program := "ytihmdcdifakepaa", sum := "813b3288a7d24d976133c1a9501dd7a970cad9d2b3ed2bdac797850c476b4a32", func := "brazier/brazierlaw07.ScopeRenamed", spec := "scopeRenamed", inPlace := ["internal/abi.NoEscape", "internal/bytealg.MakeNoZero"], unfollowed := true, recurses := true, loops := true, apart := false }
def ScopeRenamedSaid : Prop := scopeRenamedRow.holds Try.pinned (OpenSpec.ofChange scopeRenamedSpec)

/-- ITS FALSE NEIGHBOUR: 'it returns false'. Refute it at one input. -/
def scopeRenamedWrong : ChangeSpec := { name := "scopeRenamed", fn := fun _ => fun
  | [d1, d2] => { results := [.lit (.bool false)], args := [d1, d2] }
  | _ => none }
def ScopeRenamedWrongFalsely : Prop := scopeRenamedRow.holds Try.pinned (OpenSpec.ofChange scopeRenamedWrong)

/-- 'brazierlaw07.ScopeWrapped': WHATEVER THE INPUT: true; the input reads as it did. -/
def scopeWrappedSpec : ChangeSpec := { name := "scopeWrapped", fn := fun _ => fun
  | [d] => { results := [.lit (.bool true)], args := [d] }
  | _ => none }
def scopeWrappedRow : OpenClaim := { program := "ytihmdcdifakepaa", sum := "813b3288a7d24d976133c1a9501dd7a970cad9d2b3ed2bdac797850c476b4a32", func := "brazier/brazierlaw07.ScopeWrapped", spec := "scopeWrapped", inPlace := ["internal/abi.NoEscape", "internal/bytealg.MakeNoZero"], unfollowed := true, recurses := true, loops := true, apart := false }
def ScopeWrappedSaid : Prop := scopeWrappedRow.holds Try.pinned (OpenSpec.ofChange scopeWrappedSpec)

/-- ITS FALSE NEIGHBOUR: 'it returns false'. Refute it at one input. -/
def scopeWrappedWrong : ChangeSpec := { name := "scopeWrapped", fn := fun _ => fun
  | [d] => { results := [.lit (.bool false)], args := [d] }
  | _ => none }
def ScopeWrappedWrongFalsely : Prop := scopeWrappedRow.holds Try.pinned (OpenSpec.ofChange scopeWrappedWrong)

/- THE SECOND FORM. 'bulk': how many values and letters a reading holds, each counted each time it is reached (what is shared counts as often as it is met; a slice's spare places count too). A statement '..UptoSaid' is the law's where the arguments, and the package variables that the reading takes, are together of bulk at most 1048576: NARROWER than '..Said'. Prove '..Said' where nothing that the law and all that it calls make is longer than what came in: it says more and counts as full. Else prove '..UptoSaid'. A law counts once. -/
mutual
def uptoBulk {H : Type} : DataW H → Nat
  | .lit (.string bytes) => bytes.length + 1
  | .lit _ => 1
  | .nil => 1
  | .ptr d => uptoBulk d + 1
  | .slice elems spare => uptoBulkAll elems + uptoBulkAll spare + 1
  | .agg parts => uptoBulkAll parts + 1
  | .iface _ d => uptoBulk d + 1
  | .map entries => uptoBulkEntries entries + 1
  | .held _ => 1
def uptoBulkAll {H : Type} : List (DataW H) → Nat
  | [] => 0
  | d :: r => uptoBulk d + uptoBulkAll r
def uptoBulkEntries {H : Type} : List (Lit × DataW H) → Nat
  | [] => 0
  | x :: r => uptoBulkEntry x + uptoBulkEntries r
def uptoBulkEntry {H : Type} : Lit × DataW H → Nat
  | (.string bytes, d) => bytes.length + uptoBulk d + 1
  | (_, d) => uptoBulk d + 1
 end
def uptoSmall : (H : Type) → List (DataW H) → Bool := fun _ ds => decide (uptoBulkAll ds ≤ 1048576)
def OpenSpec.upto (s : _root_.Go.ChangeSpec) : _root_.Go.OpenSpec := { _root_.Go.OpenSpec.ofChange s with cond := some uptoSmall }

/-- 'brazierlaw07.ScopeRights', WHERE WHAT IT READS IS OF BULK AT MOST 1048576: true; the input reads as it did. -/
def scopeRightsUptoRow : OpenClaim := { program := "ytihmdcdifakepaa", sum := "813b3288a7d24d976133c1a9501dd7a970cad9d2b3ed2bdac797850c476b4a32", func := "brazier/brazierlaw07.ScopeRights", spec := "scopeRights", inPlace := ["internal/abi.NoEscape", "internal/bytealg.MakeNoZero"], unfollowed := true, recurses := true, loops := true, apart := false, narrowed := true }
def ScopeRightsUptoSaid : Prop := scopeRightsUptoRow.holds Try.pinned (OpenSpec.upto scopeRightsSpec)

/-- 'brazierlaw07.ScopeBuiltins', WHERE WHAT IT READS IS OF BULK AT MOST 1048576: true; the input reads as it did. -/
def scopeBuiltinsUptoRow : OpenClaim := { program := "ytihmdcdifakepaa", sum := "813b3288a7d24d976133c1a9501dd7a970cad9d2b3ed2bdac797850c476b4a32", func := "brazier/brazierlaw07.ScopeBuiltins", spec := "scopeBuiltins", inPlace := ["internal/abi.NoEscape", "internal/bytealg.MakeNoZero"], unfollowed := true, recurses := true, apart := false, narrowed := true }
def ScopeBuiltinsUptoSaid : Prop := scopeBuiltinsUptoRow.holds Try.pinned (OpenSpec.upto scopeBuiltinsSpec)

/-- 'brazierlaw07.ScopeUses', WHERE WHAT IT READS IS OF BULK AT MOST 1048576: true; the input reads as it did. -/
def scopeUsesUptoRow : OpenClaim := { program := "ytihmdcdifakepaa", sum := "813b3288a7d24d976133c1a9501dd7a970cad9d2b3ed2bdac797850c476b4a32", func := "brazier/brazierlaw07.ScopeUses", spec := "scopeUses", inPlace := ["internal/abi.NoEscape", "internal/bytealg.MakeNoZero"], unfollowed := true, recurses := true, loops := true, apart := false, narrowed := true }
def ScopeUsesUptoSaid : Prop := scopeUsesUptoRow.holds Try.pinned (OpenSpec.upto scopeUsesSpec)

/-- 'brazierlaw07.ScopeRenamed', WHERE WHAT IT READS IS OF BULK AT MOST 1048576: true; the input reads as it did. -/
def scopeRenamedUptoRow : OpenClaim := { program := "ytihmdcdifakepaa", sum := "813b3288a7d24d976133c1a9501dd7a970cad9d2b3ed2bdac797850c476b4a32", func := "brazier/brazierlaw07.ScopeRenamed", spec := "scopeRenamed", inPlace := ["internal/abi.NoEscape", "internal/bytealg.MakeNoZero"], unfollowed := true, recurses := true, loops := true, apart := false, narrowed := true }
def ScopeRenamedUptoSaid : Prop := scopeRenamedUptoRow.holds Try.pinned (OpenSpec.upto scopeRenamedSpec)

/-- 'brazierlaw07.ScopeWrapped', WHERE WHAT IT READS IS OF BULK AT MOST 1048576: true; the input reads as it did. -/
def scopeWrappedUptoRow : OpenClaim := { program := "ytihmdcdifakepaa", sum := "813b3288a7d24d976133c1a9501dd7a970cad9d2b3ed2bdac797850c476b4a32", func := "brazier/brazierlaw07.ScopeWrapped", spec := "scopeWrapped", inPlace := ["internal/abi.NoEscape", "internal/bytealg.MakeNoZero"], unfollowed := true, recurses := true, loops := true, apart := false, narrowed := true }
def ScopeWrappedUptoSaid : Prop := scopeWrappedUptoRow.holds Try.pinned (OpenSpec.upto scopeWrappedSpec)

end Rows
end Go.Proofs.Ytihmdcdifakepaa
