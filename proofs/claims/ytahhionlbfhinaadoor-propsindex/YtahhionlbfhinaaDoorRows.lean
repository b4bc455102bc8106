/-
  NARROWER THAN 'FOR EVERY INPUT', by the rows' own cells (each row's printed sentence says how): PropsIndex: laid.
  DERIVED. THE GIVEN ROWS OF THIS SEAT. 1 by the template 'for every input the law returns true; each argument reads behind the call as it read before'; 0 by the template 'total and deterministic' (their statements: YtahhionlbfhinaaDoorTotals.lean).
  GIVEN WITH THE SEED: the statements are not yours to turn. If you find one false, say at which input.
  Laid BY PROGRAM, IN A SANDBOX (cutbox-rows.mjs): the forced cells as the released guide's own fill.sh prints them over the translation a1a4c5a4cf4e23ae… (all of the seat's roots in one cut). By AI agents, Wed Nov 11 2026. No macro, syntax, notation, axiom, sorry.
-/
import Derived.Test.YtahhionlbfhinaaDoorChecked
import GoSem.Claim
import GoSem.ClaimJoined
import GoSem.ClaimMapViews
import Derived.JoinedTies
import Derived.KernelRfl
namespace Go.Proofs.YtahhionlbfhinaaDoor
/- THE CELL 'sum', in the pinned program and in every row, IS THE sha256 OF THE DUMP (.gsa) THAT YtahhionlbfhinaaDoorProg.lean LOADS. Nothing in Lean hashes anything: it is a label: what it is worth is what the hold of that sum in a sandbox is worth. -/
noncomputable def Tryd.pinned : Pinned := { name := "ytahhionlbfhinaadoor", sum := "a1a4c5a4cf4e23ae2ee04b447a1ac2f48fc485cb71117336cb970452218049fd", checked := Tryd.checked }
namespace Rows
def none {H : Type} : Left H := { results := [], args := [] }

/- WHAT THE LISTED PACKAGE-LEVEL VARIABLES READ AS WHEN THE CALL BEGINS. Each datum BY PROGRAM (the guide's laid-datum.mjs) off the statement by which the dump's own 'gosem.cut.vars' lays the variable. In a bare row this is a premise. The card (YtahhionlbfhinaaDoorCards.lean) ties it to the program's text. -/
def laid_brazier_props_flagPairs {H : Type} : DataW H := .agg [.agg [.lit (.int .i64 2), .lit (.int .i64 1)], .agg [.lit (.int .i64 4), .lit (.int .i64 2)], .agg [.lit (.int .i64 8), .lit (.int .i64 4)]]

/-- 'brazierlaw14.PropsIndex': WHATEVER THE INPUT: true; the input reads as it did. -/
def propsIndexSpec : ChangeSpec := { name := "propsIndex", fn := fun _ => fun
  | [d1, d2] => { results := [.lit (.bool true)], args := [d1, d2] }
  | _ => none }
def propsIndexRow : OpenClaim := { program := "ytahhionlbfhinaadoor", sum := "a1a4c5a4cf4e23ae2ee04b447a1ac2f48fc485cb71117336cb970452218049fd", func := "brazier/brazierlaw14.PropsIndex", spec := "propsIndex", unfollowed := true, recurses := true, named := ["brazier/props.flagPairs"], plainKeys := false, apart := false, laid := [("brazier/props.flagPairs", laid_brazier_props_flagPairs)] }
def PropsIndexSaid : Prop := propsIndexRow.holds Tryd.pinned (OpenSpec.ofChange propsIndexSpec)

/-- ITS FALSE NEIGHBOUR: 'it returns false'. Refute it at one input. -/
def propsIndexWrong : ChangeSpec := { name := "propsIndex", fn := fun _ => fun
  | [d1, d2] => { results := [.lit (.bool false)], args := [d1, d2] }
  | _ => none }
def PropsIndexWrongFalsely : Prop := propsIndexRow.holds Tryd.pinned (OpenSpec.ofChange propsIndexWrong)

/- THE SECOND FORM. 'bulk': how many values and letters a reading holds, each counted each time it is reached (what is shared counts as often as it is met; a slice's spare places count too). A statement '..UptoSaid' is the law's where the arguments, and the package variables that the reading takes, are together of bulk at most 1048576: NARROWER than '..Said'. Prove '..Said' where nothing that the law and all that it calls make is longer than what came in: it says more and counts as full. Else prove '..UptoSaid'. A law counts once. -/
mutual
def uptoBulk {H : Type} : DataW H → Nat
  | .lit (.string bytes) => bytes.length + 1
  | .lit _ => 1
  | .nil => 1
  | .ptr d => uptoBulk d + 1
  | .slice elems spare => uptoBulkAll elems + uptoBulkAll spare + 1
  | .agg parts => uptoBulkAll parts + 1
  | .iface _ d => uptoBulk d + 1
  | .map entries => uptoBulkEntries entries + 1
  | .held _ => 1
def uptoBulkAll {H : Type} : List (DataW H) → Nat
  | [] => 0
  | d :: r => uptoBulk d + uptoBulkAll r
def uptoBulkEntries {H : Type} : List (Lit × DataW H) → Nat
  | [] => 0
  | x :: r => uptoBulkEntry x + uptoBulkEntries r
def uptoBulkEntry {H : Type} : Lit × DataW H → Nat
  | (.string bytes, d) => bytes.length + uptoBulk d + 1
  | (_, d) => uptoBulk d + 1
 end
def uptoSmall : (H : Type) → List (DataW H) → Bool := fun _ ds => decide (uptoBulkAll ds ≤ 1048576)
def OpenSpec.upto (s : _root_.Go.ChangeSpec) : _root_.Go.OpenSpec := { _root_.Go.OpenSpec.ofChange s with cond := some uptoSmall }

/-- 'brazierlaw14.PropsIndex', WHERE WHAT IT READS IS OF BULK AT MOST 1048576: true; the input reads as it did. -/
def propsIndexUptoRow : OpenClaim := { program := "ytahhionlbfhinaadoor", sum := "a1a4c5a4cf4e23ae2ee04b447a1ac2f48fc485cb71117336cb970452218049fd", func := "brazier/brazierlaw14.PropsIndex", spec := "propsIndex", unfollowed := true, recurses := true, named := ["brazier/props.flagPairs"], plainKeys := false, apart := false, laid := [("brazier/props.flagPairs", laid_brazier_props_flagPairs)], narrowed := true }
def PropsIndexUptoSaid : Prop := propsIndexUptoRow.holds Tryd.pinned (OpenSpec.upto propsIndexSpec)

end Rows
end Go.Proofs.YtahhionlbfhinaaDoor
