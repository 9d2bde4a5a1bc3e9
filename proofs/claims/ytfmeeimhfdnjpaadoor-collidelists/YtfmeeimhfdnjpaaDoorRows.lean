/-
  NARROWER THAN 'FOR EVERY INPUT', by the rows' own cells (each row's printed sentence says how): CollideRight: laid · CollideLists: laid · CollideIn: laid · CollideOn: laid · CollideTrue: laid.
  DERIVED. THE GIVEN ROWS OF THIS SEAT. 5 by the template 'for every input the law returns true; each argument reads behind the call as it read before'; 0 by the template 'total and deterministic' (their statements: YtfmeeimhfdnjpaaDoorTotals.lean).
  GIVEN WITH THE SEED: the statements are not yours to turn. If you find one false, say at which input.
  Laid BY PROGRAM, IN A SANDBOX (cutbox-rows.mjs): the forced cells as the released guide's own fill.sh prints them over the translation 2b9c5a15408e298d… (all of the seat's roots in one cut). By AI agents, Wed Nov 11 2026. No macro, syntax, notation, axiom, sorry.
-/
import Derived.Test.YtfmeeimhfdnjpaaDoorChecked
import GoSem.Claim
import GoSem.ClaimJoined
import GoSem.ClaimMapViews
import Derived.JoinedTies
import Derived.KernelRfl
namespace Go.Proofs.YtfmeeimhfdnjpaaDoor
/- THE CELL 'sum', in the pinned program and in every row, IS THE sha256 OF THE DUMP (.gsa) THAT YtfmeeimhfdnjpaaDoorProg.lean LOADS. Nothing in Lean hashes anything: it is a label: what it is worth is what the hold of that sum in a sandbox is worth. -/
noncomputable def Tryd.pinned : Pinned := { name := "ytfmeeimhfdnjpaadoor", sum := "2b9c5a15408e298db2e7a2cfbf881875cde2dbb5ceba09202286105e8a549200", checked := Tryd.checked }
namespace Rows
def none {H : Type} : Left H := { results := [], args := [] }

/- WHAT THE LISTED PACKAGE-LEVEL VARIABLES READ AS WHEN THE CALL BEGINS. Each datum BY PROGRAM (the guide's laid-datum.mjs) off the statement by which the dump's own 'gosem.cut.vars' lays the variable. In a bare row this is a premise. The card (YtfmeeimhfdnjpaaDoorCards.lean) ties it to the program's text. -/
def laid_syngraph_sha_roundNumbers {H : Type} : DataW H := .agg [.lit (.int .u32 1116352408), .lit (.int .u32 1899447441), .lit (.int .u32 3049323471), .lit (.int .u32 3921009573), .lit (.int .u32 961987163), .lit (.int .u32 1508970993), .lit (.int .u32 2453635748), .lit (.int .u32 2870763221), .lit (.int .u32 3624381080), .lit (.int .u32 310598401), .lit (.int .u32 607225278), .lit (.int .u32 1426881987), .lit (.int .u32 1925078388), .lit (.int .u32 2162078206), .lit (.int .u32 2614888103), .lit (.int .u32 3248222580), .lit (.int .u32 3835390401), .lit (.int .u32 4022224774), .lit (.int .u32 264347078), .lit (.int .u32 604807628), .lit (.int .u32 770255983), .lit (.int .u32 1249150122), .lit (.int .u32 1555081692), .lit (.int .u32 1996064986), .lit (.int .u32 2554220882), .lit (.int .u32 2821834349), .lit (.int .u32 2952996808), .lit (.int .u32 3210313671), .lit (.int .u32 3336571891), .lit (.int .u32 3584528711), .lit (.int .u32 113926993), .lit (.int .u32 338241895), .lit (.int .u32 666307205), .lit (.int .u32 773529912), .lit (.int .u32 1294757372), .lit (.int .u32 1396182291), .lit (.int .u32 1695183700), .lit (.int .u32 1986661051), .lit (.int .u32 2177026350), .lit (.int .u32 2456956037), .lit (.int .u32 2730485921), .lit (.int .u32 2820302411), .lit (.int .u32 3259730800), .lit (.int .u32 3345764771), .lit (.int .u32 3516065817), .lit (.int .u32 3600352804), .lit (.int .u32 4094571909), .lit (.int .u32 275423344), .lit (.int .u32 430227734), .lit (.int .u32 506948616), .lit (.int .u32 659060556), .lit (.int .u32 883997877), .lit (.int .u32 958139571), .lit (.int .u32 1322822218), .lit (.int .u32 1537002063), .lit (.int .u32 1747873779), .lit (.int .u32 1955562222), .lit (.int .u32 2024104815), .lit (.int .u32 2227730452), .lit (.int .u32 2361852424), .lit (.int .u32 2428436474), .lit (.int .u32 2756734187), .lit (.int .u32 3204031479), .lit (.int .u32 3329325298)]

/-- 'syngraphlaw10.CollideRight': WHATEVER THE INPUT: true; the input reads as it did. -/
def collideRightSpec : ChangeSpec := { name := "collideRight", fn := fun _ => fun
  | [d1, d2] => { results := [.lit (.bool true)], args := [d1, d2] }
  | _ => none }
def collideRightRow : OpenClaim := { program := "ytfmeeimhfdnjpaadoor", sum := "2b9c5a15408e298db2e7a2cfbf881875cde2dbb5ceba09202286105e8a549200", func := "syngraph/syngraphlaw10.CollideRight", spec := "collideRight", recurses := true, named := ["syngraph/sha.roundNumbers"], apart := false, laid := [("syngraph/sha.roundNumbers", laid_syngraph_sha_roundNumbers)] }
def CollideRightSaid : Prop := collideRightRow.holds Tryd.pinned (OpenSpec.ofChange collideRightSpec)

/-- ITS FALSE NEIGHBOUR: 'it returns false'. Refute it at one input. -/
def collideRightWrong : ChangeSpec := { name := "collideRight", fn := fun _ => fun
  | [d1, d2] => { results := [.lit (.bool false)], args := [d1, d2] }
  | _ => none }
def CollideRightWrongFalsely : Prop := collideRightRow.holds Tryd.pinned (OpenSpec.ofChange collideRightWrong)

/-- 'syngraphlaw10.CollideLists': WHATEVER THE INPUT: true; the input reads as it did. -/
def collideListsSpec : ChangeSpec := { name := "collideLists", fn := fun _ => fun
  | [d1, d2] => { results := [.lit (.bool true)], args := [d1, d2] }
  | _ => none }
def collideListsRow : OpenClaim := { program := "ytfmeeimhfdnjpaadoor", sum := "2b9c5a15408e298db2e7a2cfbf881875cde2dbb5ceba09202286105e8a549200", func := "syngraph/syngraphlaw10.CollideLists", spec := "collideLists", recurses := true, named := ["syngraph/sha.roundNumbers"], apart := false, laid := [("syngraph/sha.roundNumbers", laid_syngraph_sha_roundNumbers)] }
def CollideListsSaid : Prop := collideListsRow.holds Tryd.pinned (OpenSpec.ofChange collideListsSpec)

/-- ITS FALSE NEIGHBOUR: 'it returns false'. Refute it at one input. -/
def collideListsWrong : ChangeSpec := { name := "collideLists", fn := fun _ => fun
  | [d1, d2] => { results := [.lit (.bool false)], args := [d1, d2] }
  | _ => none }
def CollideListsWrongFalsely : Prop := collideListsRow.holds Tryd.pinned (OpenSpec.ofChange collideListsWrong)

/-- 'syngraphlaw10.CollideIn': WHATEVER THE INPUT: true; the input reads as it did. -/
def collideInSpec : ChangeSpec := { name := "collideIn", fn := fun _ => fun
  | [d1, d2] => { results := [.lit (.bool true)], args := [d1, d2] }
  | _ => none }
def collideInRow : OpenClaim := { program := "ytfmeeimhfdnjpaadoor", sum := "2b9c5a15408e298db2e7a2cfbf881875cde2dbb5ceba09202286105e8a549200", func := "syngraph/syngraphlaw10.CollideIn", spec := "collideIn", recurses := true, named := ["syngraph/sha.roundNumbers"], apart := false, laid := [("syngraph/sha.roundNumbers", laid_syngraph_sha_roundNumbers)] }
def CollideInSaid : Prop := collideInRow.holds Tryd.pinned (OpenSpec.ofChange collideInSpec)

/-- ITS FALSE NEIGHBOUR: 'it returns false'. Refute it at one input. -/
def collideInWrong : ChangeSpec := { name := "collideIn", fn := fun _ => fun
  | [d1, d2] => { results := [.lit (.bool false)], args := [d1, d2] }
  | _ => none }
def CollideInWrongFalsely : Prop := collideInRow.holds Tryd.pinned (OpenSpec.ofChange collideInWrong)

/-- 'syngraphlaw10.CollideOn': WHATEVER THE INPUT: true; the input reads as it did. -/
def collideOnSpec : ChangeSpec := { name := "collideOn", fn := fun _ => fun
  | [d] => { results := [.lit (.bool true)], args := [d] }
  | _ => none }
def collideOnRow : OpenClaim := { program := "ytfmeeimhfdnjpaadoor", sum := "2b9c5a15408e298db2e7a2cfbf881875cde2dbb5ceba09202286105e8a549200", func := "syngraph/syngraphlaw10.CollideOn", spec := "collideOn", recurses := true, named := ["syngraph/sha.roundNumbers"], apart := false, laid := [("syngraph/sha.roundNumbers", laid_syngraph_sha_roundNumbers)] }
def CollideOnSaid : Prop := collideOnRow.holds Tryd.pinned (OpenSpec.ofChange collideOnSpec)

/-- ITS FALSE NEIGHBOUR: 'it returns false'. Refute it at one input. -/
def collideOnWrong : ChangeSpec := { name := "collideOn", fn := fun _ => fun
  | [d] => { results := [.lit (.bool false)], args := [d] }
  | _ => none }
def CollideOnWrongFalsely : Prop := collideOnRow.holds Tryd.pinned (OpenSpec.ofChange collideOnWrong)

/-- 'syngraphlaw10.CollideTrue': WHATEVER THE INPUT: true; the input reads as it did. -/
def collideTrueSpec : ChangeSpec := { name := "collideTrue", fn := fun _ => fun
  | [d1, d2, d3] => { results := [.lit (.bool true)], args := [d1, d2, d3] }
  | _ => none }
def collideTrueRow : OpenClaim := { program := "ytfmeeimhfdnjpaadoor", sum := "2b9c5a15408e298db2e7a2cfbf881875cde2dbb5ceba09202286105e8a549200", func := "syngraph/syngraphlaw10.CollideTrue", spec := "collideTrue", recurses := true, named := ["syngraph/sha.roundNumbers"], apart := false, laid := [("syngraph/sha.roundNumbers", laid_syngraph_sha_roundNumbers)] }
def CollideTrueSaid : Prop := collideTrueRow.holds Tryd.pinned (OpenSpec.ofChange collideTrueSpec)

/-- ITS FALSE NEIGHBOUR: 'it returns false'. Refute it at one input. -/
def collideTrueWrong : ChangeSpec := { name := "collideTrue", fn := fun _ => fun
  | [d1, d2, d3] => { results := [.lit (.bool false)], args := [d1, d2, d3] }
  | _ => none }
def CollideTrueWrongFalsely : Prop := collideTrueRow.holds Tryd.pinned (OpenSpec.ofChange collideTrueWrong)

/- THE SECOND FORM. 'bulk': how many values and letters a reading holds, each counted each time it is reached (what is shared counts as often as it is met; a slice's spare places count too). A statement '..UptoSaid' is the law's where the arguments, and the package variables that the reading takes, are together of bulk at most 1048576: NARROWER than '..Said'. Prove '..Said' where nothing that the law and all that it calls make is longer than what came in: it says more and counts as full. Else prove '..UptoSaid'. A law counts once. -/
mutual
def uptoBulk {H : Type} : DataW H → Nat
  | .lit (.string bytes) => bytes.length + 1
  | .lit _ => 1
  | .nil => 1
  | .ptr d => uptoBulk d + 1
  | .slice elems spare => uptoBulkAll elems + uptoBulkAll spare + 1
  | .agg parts => uptoBulkAll parts + 1
  | .iface _ d => uptoBulk d + 1
  | .map entries => uptoBulkEntries entries + 1
  | .held _ => 1
def uptoBulkAll {H : Type} : List (DataW H) → Nat
  | [] => 0
  | d :: r => uptoBulk d + uptoBulkAll r
def uptoBulkEntries {H : Type} : List (Lit × DataW H) → Nat
  | [] => 0
  | x :: r => uptoBulkEntry x + uptoBulkEntries r
def uptoBulkEntry {H : Type} : Lit × DataW H → Nat
  | (.string bytes, d) => bytes.length + uptoBulk d + 1
  | (_, d) => uptoBulk d + 1
 end
def uptoSmall : (H : Type) → List (DataW H) → Bool := fun _ ds => decide (uptoBulkAll ds ≤ 1048576)
def OpenSpec.upto (s : _root_.Go.ChangeSpec) : _root_.Go.OpenSpec := { _root_.Go.OpenSpec.ofChange s with cond := some uptoSmall }

/-- 'syngraphlaw10.CollideRight', WHERE WHAT IT READS IS OF BULK AT MOST 1048576: true; the input reads as it did. -/
def collideRightUptoRow : OpenClaim := { program := "ytfmeeimhfdnjpaadoor", sum := "2b9c5a15408e298db2e7a2cfbf881875cde2dbb5ceba09202286105e8a549200", func := "syngraph/syngraphlaw10.CollideRight", spec := "collideRight", recurses := true, named := ["syngraph/sha.roundNumbers"], apart := false, laid := [("syngraph/sha.roundNumbers", laid_syngraph_sha_roundNumbers)], narrowed := true }
def CollideRightUptoSaid : Prop := collideRightUptoRow.holds Tryd.pinned (OpenSpec.upto collideRightSpec)

/-- 'syngraphlaw10.CollideLists', WHERE WHAT IT READS IS OF BULK AT MOST 1048576: true; the input reads as it did. -/
def collideListsUptoRow : OpenClaim := { program := "ytfmeeimhfdnjpaadoor", sum := "2b9c5a15408e298db2e7a2cfbf881875cde2dbb5ceba09202286105e8a549200", func := "syngraph/syngraphlaw10.CollideLists", spec := "collideLists", recurses := true, named := ["syngraph/sha.roundNumbers"], apart := false, laid := [("syngraph/sha.roundNumbers", laid_syngraph_sha_roundNumbers)], narrowed := true }
def CollideListsUptoSaid : Prop := collideListsUptoRow.holds Tryd.pinned (OpenSpec.upto collideListsSpec)

/-- 'syngraphlaw10.CollideIn', WHERE WHAT IT READS IS OF BULK AT MOST 1048576: true; the input reads as it did. -/
def collideInUptoRow : OpenClaim := { program := "ytfmeeimhfdnjpaadoor", sum := "2b9c5a15408e298db2e7a2cfbf881875cde2dbb5ceba09202286105e8a549200", func := "syngraph/syngraphlaw10.CollideIn", spec := "collideIn", recurses := true, named := ["syngraph/sha.roundNumbers"], apart := false, laid := [("syngraph/sha.roundNumbers", laid_syngraph_sha_roundNumbers)], narrowed := true }
def CollideInUptoSaid : Prop := collideInUptoRow.holds Tryd.pinned (OpenSpec.upto collideInSpec)

/-- 'syngraphlaw10.CollideOn', WHERE WHAT IT READS IS OF BULK AT MOST 1048576: true; the input reads as it did. -/
def collideOnUptoRow : OpenClaim := { program := "ytfmeeimhfdnjpaadoor", sum := "2b9c5a15408e298db2e7a2cfbf881875cde2dbb5ceba09202286105e8a549200", func := "syngraph/syngraphlaw10.CollideOn", spec := "collideOn", recurses := true, named := ["syngraph/sha.roundNumbers"], apart := false, laid := [("syngraph/sha.roundNumbers", laid_syngraph_sha_roundNumbers)], narrowed := true }
def CollideOnUptoSaid : Prop := collideOnUptoRow.holds Tryd.pinned (OpenSpec.upto collideOnSpec)

/-- 'syngraphlaw10.CollideTrue', WHERE WHAT IT READS IS OF BULK AT MOST 1048576: true; the input reads as it did. -/
def collideTrueUptoRow : OpenClaim := { program := "ytfmeeimhfdnjpaadoor", sum := "2b9c5a15408e298db2e7a2cfbf881875cde2dbb5ceba09202286105e8a549200", func := "syngraph/syngraphlaw10.CollideTrue", spec := "collideTrue", recurses := true, named := ["syngraph/sha.roundNumbers"], apart := false, laid := [("syngraph/sha.roundNumbers", laid_syngraph_sha_roundNumbers)], narrowed := true }
def CollideTrueUptoSaid : Prop := collideTrueUptoRow.holds Tryd.pinned (OpenSpec.upto collideTrueSpec)

end Rows
end Go.Proofs.YtfmeeimhfdnjpaaDoor
