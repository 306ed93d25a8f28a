/-
  No cell of these rows narrows 'for every input' (looked for: loops, veiled, ifaces, maps, wideKeys, modest, calm, conditions, laid).
  DERIVED. THE GIVEN ROWS OF THIS SEAT. 10 by the template 'for every input the law returns true; each argument reads behind the call as it read before'; 0 by the template 'total and deterministic' (their statements: YtjfifaooimgbaaaTotals.lean).
  GIVEN WITH THE SEED: the statements are not yours to turn. If you find one false, say at which input.
  Laid BY PROGRAM, IN A SANDBOX (cutbox-rows.mjs): the forced cells as the released guide's own fill.sh prints them over the translation eec4423f3bc8ec59… (all of the seat's roots in one cut). By AI agents, Wed Nov 11 2026. No macro, syntax, notation, axiom, sorry.
-/
import Derived.Test.YtjfifaooimgbaaaChecked
import GoSem.Claim
import GoSem.ClaimJoined
import GoSem.ClaimMapViews
import Derived.JoinedTies
import Derived.KernelRfl
namespace Go.Proofs.Ytjfifaooimgbaaa
/- THE CELL 'sum', in the pinned program and in every row, IS THE sha256 OF THE DUMP (.gsa) THAT YtjfifaooimgbaaaProg.lean LOADS. Nothing in Lean hashes anything: it is a label: what it is worth is what the hold of that sum in a sandbox is worth. -/
noncomputable def Try.pinned : Pinned := { name := "ytjfifaooimgbaaa", sum := "eec4423f3bc8ec59ccc4f034015ffa7ca5e86cfd6cd12d67116141ee645082d3", checked := Try.checked }
namespace Rows
def none {H : Type} : Left H := { results := [], args := [] }

/-- 'sealbidlaw.Clears': WHATEVER THE INPUT: true; the input reads as it did. -/
def clearsSpec : ChangeSpec := { name := "clears", fn := fun _ => fun
  | [d1, d2] => { results := [.lit (.bool true)], args := [d1, d2] }
  | _ => none }
def clearsRow : OpenClaim := { program := "ytjfifaooimgbaaa", sum := "eec4423f3bc8ec59ccc4f034015ffa7ca5e86cfd6cd12d67116141ee645082d3", func := "sealbid/sealbidlaw.Clears", spec := "clears", inPlace := ["math.Float64bits"], unfollowed := true, recurses := true, apart := false }
def ClearsSaid : Prop := clearsRow.holds Try.pinned (OpenSpec.ofChange clearsSpec)

/-- ITS FALSE NEIGHBOUR: 'it returns false'. Refute it at one input. -/
def clearsWrong : ChangeSpec := { name := "clears", fn := fun _ => fun
  | [d1, d2] => { results := [.lit (.bool false)], args := [d1, d2] }
  | _ => none }
def ClearsWrongFalsely : Prop := clearsRow.holds Try.pinned (OpenSpec.ofChange clearsWrong)

/-- 'sealbidkeep.Fair': WHATEVER THE INPUT: true; the input reads as it did. -/
def fairSpec : ChangeSpec := { name := "fair", fn := fun _ => fun
  | [d] => { results := [.lit (.bool true)], args := [d] }
  | _ => none }
def fairRow : OpenClaim := { program := "ytjfifaooimgbaaa", sum := "eec4423f3bc8ec59ccc4f034015ffa7ca5e86cfd6cd12d67116141ee645082d3", func := "sealbid/sealbidkeep.Fair", spec := "fair", inPlace := ["math.Float64bits"], unfollowed := true, recurses := true, apart := false }
def FairSaid : Prop := fairRow.holds Try.pinned (OpenSpec.ofChange fairSpec)

/-- ITS FALSE NEIGHBOUR: 'it returns false'. Refute it at one input. -/
def fairWrong : ChangeSpec := { name := "fair", fn := fun _ => fun
  | [d] => { results := [.lit (.bool false)], args := [d] }
  | _ => none }
def FairWrongFalsely : Prop := fairRow.holds Try.pinned (OpenSpec.ofChange fairWrong)

/-- 'sealbidkeep.Truthful': WHATEVER THE INPUT: true; the input reads as it did. -/
def truthfulSpec : ChangeSpec := { name := "truthful", fn := fun _ => fun
  | [d1, d2, d3] => { results := [.lit (.bool true)], args := [d1, d2, d3] }
  | _ => none }
def truthfulRow : OpenClaim := { program := "ytjfifaooimgbaaa", sum := "eec4423f3bc8ec59ccc4f034015ffa7ca5e86cfd6cd12d67116141ee645082d3", func := "sealbid/sealbidkeep.Truthful", spec := "truthful", inPlace := ["math.Float64bits"], unfollowed := true, recurses := true, apart := false }
def TruthfulSaid : Prop := truthfulRow.holds Try.pinned (OpenSpec.ofChange truthfulSpec)

/-- ITS FALSE NEIGHBOUR: 'it returns false'. Refute it at one input. -/
def truthfulWrong : ChangeSpec := { name := "truthful", fn := fun _ => fun
  | [d1, d2, d3] => { results := [.lit (.bool false)], args := [d1, d2, d3] }
  | _ => none }
def TruthfulWrongFalsely : Prop := truthfulRow.holds Try.pinned (OpenSpec.ofChange truthfulWrong)

/-- 'sealbidlaw.Answers': WHATEVER THE INPUT: true; the input reads as it did. -/
def answersSpec : ChangeSpec := { name := "answers", fn := fun _ => fun
  | [d] => { results := [.lit (.bool true)], args := [d] }
  | _ => none }
def answersRow : OpenClaim := { program := "ytjfifaooimgbaaa", sum := "eec4423f3bc8ec59ccc4f034015ffa7ca5e86cfd6cd12d67116141ee645082d3", func := "sealbid/sealbidlaw.Answers", spec := "answers", inPlace := ["math.Float64bits"], unfollowed := true, recurses := true, apart := false }
def AnswersSaid : Prop := answersRow.holds Try.pinned (OpenSpec.ofChange answersSpec)

/-- ITS FALSE NEIGHBOUR: 'it returns false'. Refute it at one input. -/
def answersWrong : ChangeSpec := { name := "answers", fn := fun _ => fun
  | [d] => { results := [.lit (.bool false)], args := [d] }
  | _ => none }
def AnswersWrongFalsely : Prop := answersRow.holds Try.pinned (OpenSpec.ofChange answersWrong)

/-- 'sealbidkeep.Conserved': WHATEVER THE INPUT: true; the input reads as it did. -/
def conservedSpec : ChangeSpec := { name := "conserved", fn := fun _ => fun
  | [d1, d2, d3] => { results := [.lit (.bool true)], args := [d1, d2, d3] }
  | _ => none }
def conservedRow : OpenClaim := { program := "ytjfifaooimgbaaa", sum := "eec4423f3bc8ec59ccc4f034015ffa7ca5e86cfd6cd12d67116141ee645082d3", func := "sealbid/sealbidkeep.Conserved", spec := "conserved", inPlace := ["math.Float64bits"], unfollowed := true, recurses := true, apart := false }
def ConservedSaid : Prop := conservedRow.holds Try.pinned (OpenSpec.ofChange conservedSpec)

/-- ITS FALSE NEIGHBOUR: 'it returns false'. Refute it at one input. -/
def conservedWrong : ChangeSpec := { name := "conserved", fn := fun _ => fun
  | [d1, d2, d3] => { results := [.lit (.bool false)], args := [d1, d2, d3] }
  | _ => none }
def ConservedWrongFalsely : Prop := conservedRow.holds Try.pinned (OpenSpec.ofChange conservedWrong)

/-- 'sealbidkeep.Sealed': WHATEVER THE INPUT: true; the input reads as it did. -/
def sealedSpec : ChangeSpec := { name := "sealed", fn := fun _ => fun
  | [d1, d2] => { results := [.lit (.bool true)], args := [d1, d2] }
  | _ => none }
def sealedRow : OpenClaim := { program := "ytjfifaooimgbaaa", sum := "eec4423f3bc8ec59ccc4f034015ffa7ca5e86cfd6cd12d67116141ee645082d3", func := "sealbid/sealbidkeep.Sealed", spec := "sealed", inPlace := ["math.Float64bits"], unfollowed := true, recurses := true, apart := false }
def SealedSaid : Prop := sealedRow.holds Try.pinned (OpenSpec.ofChange sealedSpec)

/-- ITS FALSE NEIGHBOUR: 'it returns false'. Refute it at one input. -/
def sealedWrong : ChangeSpec := { name := "sealed", fn := fun _ => fun
  | [d1, d2] => { results := [.lit (.bool false)], args := [d1, d2] }
  | _ => none }
def SealedWrongFalsely : Prop := sealedRow.holds Try.pinned (OpenSpec.ofChange sealedWrong)

/-- 'sealbidkeep.Honest': WHATEVER THE INPUT: true; the input reads as it did. -/
def honestSpec : ChangeSpec := { name := "honest", fn := fun _ => fun
  | [d1, d2, d3, d4, d5] => { results := [.lit (.bool true)], args := [d1, d2, d3, d4, d5] }
  | _ => none }
def honestRow : OpenClaim := { program := "ytjfifaooimgbaaa", sum := "eec4423f3bc8ec59ccc4f034015ffa7ca5e86cfd6cd12d67116141ee645082d3", func := "sealbid/sealbidkeep.Honest", spec := "honest", inPlace := ["math.Float64bits"], unfollowed := true, recurses := true, apart := false }
def HonestSaid : Prop := honestRow.holds Try.pinned (OpenSpec.ofChange honestSpec)

/-- ITS FALSE NEIGHBOUR: 'it returns false'. Refute it at one input. -/
def honestWrong : ChangeSpec := { name := "honest", fn := fun _ => fun
  | [d1, d2, d3, d4, d5] => { results := [.lit (.bool false)], args := [d1, d2, d3, d4, d5] }
  | _ => none }
def HonestWrongFalsely : Prop := honestRow.holds Try.pinned (OpenSpec.ofChange honestWrong)

/-- 'sealbidlaw.Opens': WHATEVER THE INPUT: true; the input reads as it did. -/
def opensSpec : ChangeSpec := { name := "opens", fn := fun _ => fun
  | [d1, d2, d3, d4] => { results := [.lit (.bool true)], args := [d1, d2, d3, d4] }
  | _ => none }
def opensRow : OpenClaim := { program := "ytjfifaooimgbaaa", sum := "eec4423f3bc8ec59ccc4f034015ffa7ca5e86cfd6cd12d67116141ee645082d3", func := "sealbid/sealbidlaw.Opens", spec := "opens", inPlace := ["math.Float64bits"], unfollowed := true, recurses := true, apart := false }
def OpensSaid : Prop := opensRow.holds Try.pinned (OpenSpec.ofChange opensSpec)

/-- ITS FALSE NEIGHBOUR: 'it returns false'. Refute it at one input. -/
def opensWrong : ChangeSpec := { name := "opens", fn := fun _ => fun
  | [d1, d2, d3, d4] => { results := [.lit (.bool false)], args := [d1, d2, d3, d4] }
  | _ => none }
def OpensWrongFalsely : Prop := opensRow.holds Try.pinned (OpenSpec.ofChange opensWrong)

/-- 'sealbidlaw.All': WHATEVER THE INPUT: true; the input reads as it did. -/
def allSpec : ChangeSpec := { name := "all", fn := fun _ => fun
  | [d] => { results := [.lit (.bool true)], args := [d] }
  | _ => none }
def allRow : OpenClaim := { program := "ytjfifaooimgbaaa", sum := "eec4423f3bc8ec59ccc4f034015ffa7ca5e86cfd6cd12d67116141ee645082d3", func := "sealbid/sealbidlaw.All", spec := "all", inPlace := ["math.Float64bits"], unfollowed := true, recurses := true, apart := false }
def AllSaid : Prop := allRow.holds Try.pinned (OpenSpec.ofChange allSpec)

/-- ITS FALSE NEIGHBOUR: 'it returns false'. Refute it at one input. -/
def allWrong : ChangeSpec := { name := "all", fn := fun _ => fun
  | [d] => { results := [.lit (.bool false)], args := [d] }
  | _ => none }
def AllWrongFalsely : Prop := allRow.holds Try.pinned (OpenSpec.ofChange allWrong)

/-- 'sealbidkeep.Lasting': WHATEVER THE INPUT: true; the input reads as it did. -/
def lastingSpec : ChangeSpec := { name := "lasting", fn := fun _ => fun
  | [d1, d2, d3, d4, d5] => { results := [.lit (.bool true)], args := [d1, d2, d3, d4, d5] }
  | _ => none }
def lastingRow : OpenClaim := { program := "ytjfifaooimgbaaa", sum := "eec4423f3bc8ec59ccc4f034015ffa7ca5e86cfd6cd12d67116141ee645082d3", func := "sealbid/sealbidkeep.Lasting", spec := "lasting", inPlace := ["math.Float64bits"], unfollowed := true, recurses := true, apart := false }
def LastingSaid : Prop := lastingRow.holds Try.pinned (OpenSpec.ofChange lastingSpec)

/-- ITS FALSE NEIGHBOUR: 'it returns false'. Refute it at one input. -/
def lastingWrong : ChangeSpec := { name := "lasting", fn := fun _ => fun
  | [d1, d2, d3, d4, d5] => { results := [.lit (.bool false)], args := [d1, d2, d3, d4, d5] }
  | _ => none }
def LastingWrongFalsely : Prop := lastingRow.holds Try.pinned (OpenSpec.ofChange lastingWrong)

/- THE SECOND FORM. 'bulk': how many values and letters a reading holds, each counted each time it is reached (what is shared counts as often as it is met; a slice's spare places count too). A statement '..UptoSaid' is the law's where the arguments, and the package variables that the reading takes, are together of bulk at most 1048576: NARROWER than '..Said'. Prove '..Said' where nothing that the law and all that it calls make is longer than what came in: it says more and counts as full. Else prove '..UptoSaid'. A law counts once. -/
mutual
def uptoBulk {H : Type} : DataW H → Nat
  | .lit (.string bytes) => bytes.length + 1
  | .lit _ => 1
  | .nil => 1
  | .ptr d => uptoBulk d + 1
  | .slice elems spare => uptoBulkAll elems + uptoBulkAll spare + 1
  | .agg parts => uptoBulkAll parts + 1
  | .iface _ d => uptoBulk d + 1
  | .map entries => uptoBulkEntries entries + 1
  | .held _ => 1
def uptoBulkAll {H : Type} : List (DataW H) → Nat
  | [] => 0
  | d :: r => uptoBulk d + uptoBulkAll r
def uptoBulkEntries {H : Type} : List (Lit × DataW H) → Nat
  | [] => 0
  | x :: r => uptoBulkEntry x + uptoBulkEntries r
def uptoBulkEntry {H : Type} : Lit × DataW H → Nat
  | (.string bytes, d) => bytes.length + uptoBulk d + 1
  | (_, d) => uptoBulk d + 1
 end
def uptoSmall : (H : Type) → List (DataW H) → Bool := fun _ ds => decide (uptoBulkAll ds ≤ 1048576)
def OpenSpec.upto (s : _root_.Go.ChangeSpec) : _root_.Go.OpenSpec := { _root_.Go.OpenSpec.ofChange s with cond := some uptoSmall }

/-- 'sealbidlaw.Clears', WHERE WHAT IT READS IS OF BULK AT MOST 1048576: true; the input reads as it did. -/
def clearsUptoRow : OpenClaim := { program := "ytjfifaooimgbaaa", sum := "eec4423f3bc8ec59ccc4f034015ffa7ca5e86cfd6cd12d67116141ee645082d3", func := "sealbid/sealbidlaw.Clears", spec := "clears", inPlace := ["math.Float64bits"], unfollowed := true, recurses := true, apart := false, narrowed := true }
def ClearsUptoSaid : Prop := clearsUptoRow.holds Try.pinned (OpenSpec.upto clearsSpec)

/-- 'sealbidkeep.Fair', WHERE WHAT IT READS IS OF BULK AT MOST 1048576: true; the input reads as it did. -/
def fairUptoRow : OpenClaim := { program := "ytjfifaooimgbaaa", sum := "eec4423f3bc8ec59ccc4f034015ffa7ca5e86cfd6cd12d67116141ee645082d3", func := "sealbid/sealbidkeep.Fair", spec := "fair", inPlace := ["math.Float64bits"], unfollowed := true, recurses := true, apart := false, narrowed := true }
def FairUptoSaid : Prop := fairUptoRow.holds Try.pinned (OpenSpec.upto fairSpec)

/-- 'sealbidkeep.Truthful', WHERE WHAT IT READS IS OF BULK AT MOST 1048576: true; the input reads as it did. -/
def truthfulUptoRow : OpenClaim := { program := "ytjfifaooimgbaaa", sum := "eec4423f3bc8ec59ccc4f034015ffa7ca5e86cfd6cd12d67116141ee645082d3", func := "sealbid/sealbidkeep.Truthful", spec := "truthful", inPlace := ["math.Float64bits"], unfollowed := true, recurses := true, apart := false, narrowed := true }
def TruthfulUptoSaid : Prop := truthfulUptoRow.holds Try.pinned (OpenSpec.upto truthfulSpec)

/-- 'sealbidlaw.Answers', WHERE WHAT IT READS IS OF BULK AT MOST 1048576: true; the input reads as it did. -/
def answersUptoRow : OpenClaim := { program := "ytjfifaooimgbaaa", sum := "eec4423f3bc8ec59ccc4f034015ffa7ca5e86cfd6cd12d67116141ee645082d3", func := "sealbid/sealbidlaw.Answers", spec := "answers", inPlace := ["math.Float64bits"], unfollowed := true, recurses := true, apart := false, narrowed := true }
def AnswersUptoSaid : Prop := answersUptoRow.holds Try.pinned (OpenSpec.upto answersSpec)

/-- 'sealbidkeep.Conserved', WHERE WHAT IT READS IS OF BULK AT MOST 1048576: true; the input reads as it did. -/
def conservedUptoRow : OpenClaim := { program := "ytjfifaooimgbaaa", sum := "eec4423f3bc8ec59ccc4f034015ffa7ca5e86cfd6cd12d67116141ee645082d3", func := "sealbid/sealbidkeep.Conserved", spec := "conserved", inPlace := ["math.Float64bits"], unfollowed := true, recurses := true, apart := false, narrowed := true }
def ConservedUptoSaid : Prop := conservedUptoRow.holds Try.pinned (OpenSpec.upto conservedSpec)

/-- 'sealbidkeep.Sealed', WHERE WHAT IT READS IS OF BULK AT MOST 1048576: true; the input reads as it did. -/
def sealedUptoRow : OpenClaim := { program := "ytjfifaooimgbaaa", sum := "eec4423f3bc8ec59ccc4f034015ffa7ca5e86cfd6cd12d67116141ee645082d3", func := "sealbid/sealbidkeep.Sealed", spec := "sealed", inPlace := ["math.Float64bits"], unfollowed := true, recurses := true, apart := false, narrowed := true }
def SealedUptoSaid : Prop := sealedUptoRow.holds Try.pinned (OpenSpec.upto sealedSpec)

/-- 'sealbidkeep.Honest', WHERE WHAT IT READS IS OF BULK AT MOST 1048576: true; the input reads as it did. -/
def honestUptoRow : OpenClaim := { program := "ytjfifaooimgbaaa", sum := "eec4423f3bc8ec59ccc4f034015ffa7ca5e86cfd6cd12d67116141ee645082d3", func := "sealbid/sealbidkeep.Honest", spec := "honest", inPlace := ["math.Float64bits"], unfollowed := true, recurses := true, apart := false, narrowed := true }
def HonestUptoSaid : Prop := honestUptoRow.holds Try.pinned (OpenSpec.upto honestSpec)

/-- 'sealbidlaw.Opens', WHERE WHAT IT READS IS OF BULK AT MOST 1048576: true; the input reads as it did. -/
def opensUptoRow : OpenClaim := { program := "ytjfifaooimgbaaa", sum := "eec4423f3bc8ec59ccc4f034015ffa7ca5e86cfd6cd12d67116141ee645082d3", func := "sealbid/sealbidlaw.Opens", spec := "opens", inPlace := ["math.Float64bits"], unfollowed := true, recurses := true, apart := false, narrowed := true }
def OpensUptoSaid : Prop := opensUptoRow.holds Try.pinned (OpenSpec.upto opensSpec)

/-- 'sealbidlaw.All', WHERE WHAT IT READS IS OF BULK AT MOST 1048576: true; the input reads as it did. -/
def allUptoRow : OpenClaim := { program := "ytjfifaooimgbaaa", sum := "eec4423f3bc8ec59ccc4f034015ffa7ca5e86cfd6cd12d67116141ee645082d3", func := "sealbid/sealbidlaw.All", spec := "all", inPlace := ["math.Float64bits"], unfollowed := true, recurses := true, apart := false, narrowed := true }
def AllUptoSaid : Prop := allUptoRow.holds Try.pinned (OpenSpec.upto allSpec)

/-- 'sealbidkeep.Lasting', WHERE WHAT IT READS IS OF BULK AT MOST 1048576: true; the input reads as it did. -/
def lastingUptoRow : OpenClaim := { program := "ytjfifaooimgbaaa", sum := "eec4423f3bc8ec59ccc4f034015ffa7ca5e86cfd6cd12d67116141ee645082d3", func := "sealbid/sealbidkeep.Lasting", spec := "lasting", inPlace := ["math.Float64bits"], unfollowed := true, recurses := true, apart := false, narrowed := true }
def LastingUptoSaid : Prop := lastingUptoRow.holds Try.pinned (OpenSpec.upto lastingSpec)

end Rows
end Go.Proofs.Ytjfifaooimgbaaa
