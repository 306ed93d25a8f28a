/-
  No cell of these rows narrows 'for every input' (looked for: loops, veiled, ifaces, maps, wideKeys, modest, calm, conditions, laid).
  DERIVED. THE GIVEN ROWS OF THIS SEAT. 3 by the template 'for every input the law returns true; each argument reads behind the call as it read before'; 0 by the template 'total and deterministic' (their statements: YtofamdfpghdmiaaTotals.lean).
  GIVEN WITH THE SEED: the statements are not yours to turn. If you find one false, say at which input.
  Laid BY PROGRAM, IN A SANDBOX (cutbox-rows.mjs): the forced cells as the released guide's own fill.sh prints them over the translation d8b16405f21b36ce… (all of the seat's roots in one cut). By AI agents, Wed Nov 11 2026. No macro, syntax, notation, axiom, sorry.
-/
import Derived.Test.YtofamdfpghdmiaaChecked
import GoSem.Claim
import GoSem.ClaimJoined
import GoSem.ClaimMapViews
import Derived.JoinedTies
import Derived.KernelRfl
namespace Go.Proofs.Ytofamdfpghdmiaa
/- THE CELL 'sum', in the pinned program and in every row, IS THE sha256 OF THE DUMP (.gsa) THAT YtofamdfpghdmiaaProg.lean LOADS. Nothing in Lean hashes anything: it is a label: what it is worth is what the hold of that sum in a sandbox is worth. -/
noncomputable def Try.pinned : Pinned := { name := "ytofamdfpghdmiaa", sum := "d8b16405f21b36ce07d4c6b31ab433e540396ba2ccfe2d8fa126382b055b69ca", checked := Try.checked }
namespace Rows
def none {H : Type} : Left H := { results := [], args := [] }

/-- 'sealbidlaw.Clears': WHATEVER THE INPUT: true; the input reads as it did. -/
def clearsSpec : ChangeSpec := { name := "clears", fn := fun _ => fun
  | [d1, d2] => { results := [.lit (.bool true)], args := [d1, d2] }
  | _ => none }
def clearsRow : OpenClaim := { program := "ytofamdfpghdmiaa", sum := "d8b16405f21b36ce07d4c6b31ab433e540396ba2ccfe2d8fa126382b055b69ca", func := "sealbid/sealbidlaw.Clears", spec := "clears", inPlace := ["math.Float64bits"], unfollowed := true, recurses := true, apart := false }
def ClearsSaid : Prop := clearsRow.holds Try.pinned (OpenSpec.ofChange clearsSpec)

/-- ITS FALSE NEIGHBOUR: 'it returns false'. Refute it at one input. -/
def clearsWrong : ChangeSpec := { name := "clears", fn := fun _ => fun
  | [d1, d2] => { results := [.lit (.bool false)], args := [d1, d2] }
  | _ => none }
def ClearsWrongFalsely : Prop := clearsRow.holds Try.pinned (OpenSpec.ofChange clearsWrong)

/-- 'sealbidkeep.Fair': WHATEVER THE INPUT: true; the input reads as it did. -/
def fairSpec : ChangeSpec := { name := "fair", fn := fun _ => fun
  | [d] => { results := [.lit (.bool true)], args := [d] }
  | _ => none }
def fairRow : OpenClaim := { program := "ytofamdfpghdmiaa", sum := "d8b16405f21b36ce07d4c6b31ab433e540396ba2ccfe2d8fa126382b055b69ca", func := "sealbid/sealbidkeep.Fair", spec := "fair", inPlace := ["math.Float64bits"], unfollowed := true, recurses := true, apart := false }
def FairSaid : Prop := fairRow.holds Try.pinned (OpenSpec.ofChange fairSpec)

/-- ITS FALSE NEIGHBOUR: 'it returns false'. Refute it at one input. -/
def fairWrong : ChangeSpec := { name := "fair", fn := fun _ => fun
  | [d] => { results := [.lit (.bool false)], args := [d] }
  | _ => none }
def FairWrongFalsely : Prop := fairRow.holds Try.pinned (OpenSpec.ofChange fairWrong)

/-- 'sealbidkeep.Truthful': WHATEVER THE INPUT: true; the input reads as it did. -/
def truthfulSpec : ChangeSpec := { name := "truthful", fn := fun _ => fun
  | [d1, d2, d3] => { results := [.lit (.bool true)], args := [d1, d2, d3] }
  | _ => none }
def truthfulRow : OpenClaim := { program := "ytofamdfpghdmiaa", sum := "d8b16405f21b36ce07d4c6b31ab433e540396ba2ccfe2d8fa126382b055b69ca", func := "sealbid/sealbidkeep.Truthful", spec := "truthful", inPlace := ["math.Float64bits"], unfollowed := true, recurses := true, apart := false }
def TruthfulSaid : Prop := truthfulRow.holds Try.pinned (OpenSpec.ofChange truthfulSpec)

/-- ITS FALSE NEIGHBOUR: 'it returns false'. Refute it at one input. -/
def truthfulWrong : ChangeSpec := { name := "truthful", fn := fun _ => fun
  | [d1, d2, d3] => { results := [.lit (.bool false)], args := [d1, d2, d3] }
  | _ => none }
def TruthfulWrongFalsely : Prop := truthfulRow.holds Try.pinned (OpenSpec.ofChange truthfulWrong)

/- THE SECOND FORM. 'bulk': how many values and letters a reading holds, each counted each time it is reached (what is shared counts as often as it is met; a slice's spare places count too). A statement '..UptoSaid' is the law's where the arguments, and the package variables that the reading takes, are together of bulk at most 1048576: NARROWER than '..Said'. Prove '..Said' where nothing that the law and all that it calls make is longer than what came in: it says more and counts as full. Else prove '..UptoSaid'. A law counts once. -/
mutual
def uptoBulk {H : Type} : DataW H → Nat
  | .lit (.string bytes) => bytes.length + 1
  | .lit _ => 1
  | .nil => 1
  | .ptr d => uptoBulk d + 1
  | .slice elems spare => uptoBulkAll elems + uptoBulkAll spare + 1
  | .agg parts => uptoBulkAll parts + 1
  | .iface _ d => uptoBulk d + 1
  | .map entries => uptoBulkEntries entries + 1
  | .held _ => 1
def uptoBulkAll {H : Type} : List (DataW H) → Nat
  | [] => 0
  | d :: r => uptoBulk d + uptoBulkAll r
def uptoBulkEntries {H : Type} : List (Lit × DataW H) → Nat
  | [] => 0
  | x :: r => uptoBulkEntry x + uptoBulkEntries r
def uptoBulkEntry {H : Type} : Lit × DataW H → Nat
  | (.string bytes, d) => bytes.length + uptoBulk d + 1
  | (_, d) => uptoBulk d + 1
 end
def uptoSmall : (H : Type) → List (DataW H) → Bool := fun _ ds => decide (uptoBulkAll ds ≤ 1048576)
def OpenSpec.upto (s : _root_.Go.ChangeSpec) : _root_.Go.OpenSpec := { _root_.Go.OpenSpec.ofChange s with cond := some uptoSmall }

/-- 'sealbidlaw.Clears', WHERE WHAT IT READS IS OF BULK AT MOST 1048576: true; the input reads as it did. -/
def clearsUptoRow : OpenClaim := { program := "ytofamdfpghdmiaa", sum := "d8b16405f21b36ce07d4c6b31ab433e540396ba2ccfe2d8fa126382b055b69ca", func := "sealbid/sealbidlaw.Clears", spec := "clears", inPlace := ["math.Float64bits"], unfollowed := true, recurses := true, apart := false, narrowed := true }
def ClearsUptoSaid : Prop := clearsUptoRow.holds Try.pinned (OpenSpec.upto clearsSpec)

/-- 'sealbidkeep.Fair', WHERE WHAT IT READS IS OF BULK AT MOST 1048576: true; the input reads as it did. -/
def fairUptoRow : OpenClaim := { program := "ytofamdfpghdmiaa", sum := "d8b16405f21b36ce07d4c6b31ab433e540396ba2ccfe2d8fa126382b055b69ca", func := "sealbid/sealbidkeep.Fair", spec := "fair", inPlace := ["math.Float64bits"], unfollowed := true, recurses := true, apart := false, narrowed := true }
def FairUptoSaid : Prop := fairUptoRow.holds Try.pinned (OpenSpec.upto fairSpec)

/-- 'sealbidkeep.Truthful', WHERE WHAT IT READS IS OF BULK AT MOST 1048576: true; the input reads as it did. -/
def truthfulUptoRow : OpenClaim := { program := "ytofamdfpghdmiaa", sum := "d8b16405f21b36ce07d4c6b31ab433e540396ba2ccfe2d8fa126382b055b69ca", func := "sealbid/sealbidkeep.Truthful", spec := "truthful", inPlace := ["math.Float64bits"], unfollowed := true, recurses := true, apart := false, narrowed := true }
def TruthfulUptoSaid : Prop := truthfulUptoRow.holds Try.pinned (OpenSpec.upto truthfulSpec)

end Rows
end Go.Proofs.Ytofamdfpghdmiaa
