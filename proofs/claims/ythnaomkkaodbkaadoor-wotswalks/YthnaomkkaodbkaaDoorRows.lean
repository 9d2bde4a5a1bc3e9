/-
  NARROWER THAN 'FOR EVERY INPUT', by the rows' own cells (each row's printed sentence says how): WotsDigits: laid · WotsSigns: laid · WotsRecovers: laid · WotsWalks: laid · WotsForges: laid.
  DERIVED. THE GIVEN ROWS OF THIS SEAT. 5 by the template 'for every input the law returns true; each argument reads behind the call as it read before'; 0 by the template 'total and deterministic' (their statements: YthnaomkkaodbkaaDoorTotals.lean).
  GIVEN WITH THE SEED: the statements are not yours to turn. If you find one false, say at which input.
  Laid BY PROGRAM, IN A SANDBOX (cutbox-rows.mjs): the forced cells as the released guide's own fill.sh prints them over the translation b851dd56009fb7a8… (all of the seat's roots in one cut). By AI agents, Wed Nov 11 2026. No macro, syntax, notation, axiom, sorry.
-/
import Derived.Test.YthnaomkkaodbkaaDoorChecked
import GoSem.Claim
import GoSem.ClaimJoined
import GoSem.ClaimMapViews
import Derived.JoinedTies
import Derived.KernelRfl
namespace Go.Proofs.YthnaomkkaodbkaaDoor
/- THE CELL 'sum', in the pinned program and in every row, IS THE sha256 OF THE DUMP (.gsa) THAT YthnaomkkaodbkaaDoorProg.lean LOADS. Nothing in Lean hashes anything: it is a label: what it is worth is what the hold of that sum in a sandbox is worth. -/
noncomputable def Tryd.pinned : Pinned := { name := "ythnaomkkaodbkaadoor", sum := "b851dd56009fb7a8c5700e34cd18b167be686d519e9ec80debd2bc22b541ce80", checked := Tryd.checked }
namespace Rows
def none {H : Type} : Left H := { results := [], args := [] }

/- WHAT THE LISTED PACKAGE-LEVEL VARIABLES READ AS WHEN THE CALL BEGINS. Each datum BY PROGRAM (the guide's laid-datum.mjs) off the statement by which the dump's own 'gosem.cut.vars' lays the variable. In a bare row this is a premise. The card (YthnaomkkaodbkaaDoorCards.lean) ties it to the program's text. -/
def laid_syngraph_sha_roundNumbers {H : Type} : DataW H := .agg [.lit (.int .u32 1116352408), .lit (.int .u32 1899447441), .lit (.int .u32 3049323471), .lit (.int .u32 3921009573), .lit (.int .u32 961987163), .lit (.int .u32 1508970993), .lit (.int .u32 2453635748), .lit (.int .u32 2870763221), .lit (.int .u32 3624381080), .lit (.int .u32 310598401), .lit (.int .u32 607225278), .lit (.int .u32 1426881987), .lit (.int .u32 1925078388), .lit (.int .u32 2162078206), .lit (.int .u32 2614888103), .lit (.int .u32 3248222580), .lit (.int .u32 3835390401), .lit (.int .u32 4022224774), .lit (.int .u32 264347078), .lit (.int .u32 604807628), .lit (.int .u32 770255983), .lit (.int .u32 1249150122), .lit (.int .u32 1555081692), .lit (.int .u32 1996064986), .lit (.int .u32 2554220882), .lit (.int .u32 2821834349), .lit (.int .u32 2952996808), .lit (.int .u32 3210313671), .lit (.int .u32 3336571891), .lit (.int .u32 3584528711), .lit (.int .u32 113926993), .lit (.int .u32 338241895), .lit (.int .u32 666307205), .lit (.int .u32 773529912), .lit (.int .u32 1294757372), .lit (.int .u32 1396182291), .lit (.int .u32 1695183700), .lit (.int .u32 1986661051), .lit (.int .u32 2177026350), .lit (.int .u32 2456956037), .lit (.int .u32 2730485921), .lit (.int .u32 2820302411), .lit (.int .u32 3259730800), .lit (.int .u32 3345764771), .lit (.int .u32 3516065817), .lit (.int .u32 3600352804), .lit (.int .u32 4094571909), .lit (.int .u32 275423344), .lit (.int .u32 430227734), .lit (.int .u32 506948616), .lit (.int .u32 659060556), .lit (.int .u32 883997877), .lit (.int .u32 958139571), .lit (.int .u32 1322822218), .lit (.int .u32 1537002063), .lit (.int .u32 1747873779), .lit (.int .u32 1955562222), .lit (.int .u32 2024104815), .lit (.int .u32 2227730452), .lit (.int .u32 2361852424), .lit (.int .u32 2428436474), .lit (.int .u32 2756734187), .lit (.int .u32 3204031479), .lit (.int .u32 3329325298)]

/-- 'syngraphlaw04.WotsDigits': WHATEVER THE INPUT: true; the input reads as it did. -/
def wotsDigitsSpec : ChangeSpec := { name := "wotsDigits", fn := fun _ => fun
  | [d1, d2] => { results := [.lit (.bool true)], args := [d1, d2] }
  | _ => none }
def wotsDigitsRow : OpenClaim := { program := "ythnaomkkaodbkaadoor", sum := "b851dd56009fb7a8c5700e34cd18b167be686d519e9ec80debd2bc22b541ce80", func := "syngraph/syngraphlaw04.WotsDigits", spec := "wotsDigits", named := ["syngraph/sha.roundNumbers"], apart := false, laid := [("syngraph/sha.roundNumbers", laid_syngraph_sha_roundNumbers)] }
def WotsDigitsSaid : Prop := wotsDigitsRow.holds Tryd.pinned (OpenSpec.ofChange wotsDigitsSpec)

/-- ITS FALSE NEIGHBOUR: 'it returns false'. Refute it at one input. -/
def wotsDigitsWrong : ChangeSpec := { name := "wotsDigits", fn := fun _ => fun
  | [d1, d2] => { results := [.lit (.bool false)], args := [d1, d2] }
  | _ => none }
def WotsDigitsWrongFalsely : Prop := wotsDigitsRow.holds Tryd.pinned (OpenSpec.ofChange wotsDigitsWrong)

/-- 'syngraphlaw04.WotsSigns': WHATEVER THE INPUT: true; the input reads as it did. -/
def wotsSignsSpec : ChangeSpec := { name := "wotsSigns", fn := fun _ => fun
  | [d1, d2, d3] => { results := [.lit (.bool true)], args := [d1, d2, d3] }
  | _ => none }
def wotsSignsRow : OpenClaim := { program := "ythnaomkkaodbkaadoor", sum := "b851dd56009fb7a8c5700e34cd18b167be686d519e9ec80debd2bc22b541ce80", func := "syngraph/syngraphlaw04.WotsSigns", spec := "wotsSigns", named := ["syngraph/sha.roundNumbers"], apart := false, laid := [("syngraph/sha.roundNumbers", laid_syngraph_sha_roundNumbers)] }
def WotsSignsSaid : Prop := wotsSignsRow.holds Tryd.pinned (OpenSpec.ofChange wotsSignsSpec)

/-- ITS FALSE NEIGHBOUR: 'it returns false'. Refute it at one input. -/
def wotsSignsWrong : ChangeSpec := { name := "wotsSigns", fn := fun _ => fun
  | [d1, d2, d3] => { results := [.lit (.bool false)], args := [d1, d2, d3] }
  | _ => none }
def WotsSignsWrongFalsely : Prop := wotsSignsRow.holds Tryd.pinned (OpenSpec.ofChange wotsSignsWrong)

/-- 'syngraphlaw04.WotsRecovers': WHATEVER THE INPUT: true; the input reads as it did. -/
def wotsRecoversSpec : ChangeSpec := { name := "wotsRecovers", fn := fun _ => fun
  | [d1, d2] => { results := [.lit (.bool true)], args := [d1, d2] }
  | _ => none }
def wotsRecoversRow : OpenClaim := { program := "ythnaomkkaodbkaadoor", sum := "b851dd56009fb7a8c5700e34cd18b167be686d519e9ec80debd2bc22b541ce80", func := "syngraph/syngraphlaw04.WotsRecovers", spec := "wotsRecovers", named := ["syngraph/sha.roundNumbers"], apart := false, laid := [("syngraph/sha.roundNumbers", laid_syngraph_sha_roundNumbers)] }
def WotsRecoversSaid : Prop := wotsRecoversRow.holds Tryd.pinned (OpenSpec.ofChange wotsRecoversSpec)

/-- ITS FALSE NEIGHBOUR: 'it returns false'. Refute it at one input. -/
def wotsRecoversWrong : ChangeSpec := { name := "wotsRecovers", fn := fun _ => fun
  | [d1, d2] => { results := [.lit (.bool false)], args := [d1, d2] }
  | _ => none }
def WotsRecoversWrongFalsely : Prop := wotsRecoversRow.holds Tryd.pinned (OpenSpec.ofChange wotsRecoversWrong)

/-- 'syngraphlaw04.WotsWalks': WHATEVER THE INPUT: true; the input reads as it did. -/
def wotsWalksSpec : ChangeSpec := { name := "wotsWalks", fn := fun _ => fun
  | [d1, d2, d3] => { results := [.lit (.bool true)], args := [d1, d2, d3] }
  | _ => none }
def wotsWalksRow : OpenClaim := { program := "ythnaomkkaodbkaadoor", sum := "b851dd56009fb7a8c5700e34cd18b167be686d519e9ec80debd2bc22b541ce80", func := "syngraph/syngraphlaw04.WotsWalks", spec := "wotsWalks", named := ["syngraph/sha.roundNumbers"], apart := false, laid := [("syngraph/sha.roundNumbers", laid_syngraph_sha_roundNumbers)] }
def WotsWalksSaid : Prop := wotsWalksRow.holds Tryd.pinned (OpenSpec.ofChange wotsWalksSpec)

/-- ITS FALSE NEIGHBOUR: 'it returns false'. Refute it at one input. -/
def wotsWalksWrong : ChangeSpec := { name := "wotsWalks", fn := fun _ => fun
  | [d1, d2, d3] => { results := [.lit (.bool false)], args := [d1, d2, d3] }
  | _ => none }
def WotsWalksWrongFalsely : Prop := wotsWalksRow.holds Tryd.pinned (OpenSpec.ofChange wotsWalksWrong)

/-- 'syngraphlaw04.WotsForges': WHATEVER THE INPUT: true; the input reads as it did. -/
def wotsForgesSpec : ChangeSpec := { name := "wotsForges", fn := fun _ => fun
  | [d1, d2, d3] => { results := [.lit (.bool true)], args := [d1, d2, d3] }
  | _ => none }
def wotsForgesRow : OpenClaim := { program := "ythnaomkkaodbkaadoor", sum := "b851dd56009fb7a8c5700e34cd18b167be686d519e9ec80debd2bc22b541ce80", func := "syngraph/syngraphlaw04.WotsForges", spec := "wotsForges", named := ["syngraph/sha.roundNumbers"], apart := false, laid := [("syngraph/sha.roundNumbers", laid_syngraph_sha_roundNumbers)] }
def WotsForgesSaid : Prop := wotsForgesRow.holds Tryd.pinned (OpenSpec.ofChange wotsForgesSpec)

/-- ITS FALSE NEIGHBOUR: 'it returns false'. Refute it at one input. -/
def wotsForgesWrong : ChangeSpec := { name := "wotsForges", fn := fun _ => fun
  | [d1, d2, d3] => { results := [.lit (.bool false)], args := [d1, d2, d3] }
  | _ => none }
def WotsForgesWrongFalsely : Prop := wotsForgesRow.holds Tryd.pinned (OpenSpec.ofChange wotsForgesWrong)

/- THE SECOND FORM. 'bulk': how many values and letters a reading holds, each counted each time it is reached (what is shared counts as often as it is met; a slice's spare places count too). A statement '..UptoSaid' is the law's where the arguments, and the package variables that the reading takes, are together of bulk at most 1048576: NARROWER than '..Said'. Prove '..Said' where nothing that the law and all that it calls make is longer than what came in: it says more and counts as full. Else prove '..UptoSaid'. A law counts once. -/
mutual
def uptoBulk {H : Type} : DataW H → Nat
  | .lit (.string bytes) => bytes.length + 1
  | .lit _ => 1
  | .nil => 1
  | .ptr d => uptoBulk d + 1
  | .slice elems spare => uptoBulkAll elems + uptoBulkAll spare + 1
  | .agg parts => uptoBulkAll parts + 1
  | .iface _ d => uptoBulk d + 1
  | .map entries => uptoBulkEntries entries + 1
  | .held _ => 1
def uptoBulkAll {H : Type} : List (DataW H) → Nat
  | [] => 0
  | d :: r => uptoBulk d + uptoBulkAll r
def uptoBulkEntries {H : Type} : List (Lit × DataW H) → Nat
  | [] => 0
  | x :: r => uptoBulkEntry x + uptoBulkEntries r
def uptoBulkEntry {H : Type} : Lit × DataW H → Nat
  | (.string bytes, d) => bytes.length + uptoBulk d + 1
  | (_, d) => uptoBulk d + 1
 end
def uptoSmall : (H : Type) → List (DataW H) → Bool := fun _ ds => decide (uptoBulkAll ds ≤ 1048576)
def OpenSpec.upto (s : _root_.Go.ChangeSpec) : _root_.Go.OpenSpec := { _root_.Go.OpenSpec.ofChange s with cond := some uptoSmall }

/-- 'syngraphlaw04.WotsDigits', WHERE WHAT IT READS IS OF BULK AT MOST 1048576: true; the input reads as it did. -/
def wotsDigitsUptoRow : OpenClaim := { program := "ythnaomkkaodbkaadoor", sum := "b851dd56009fb7a8c5700e34cd18b167be686d519e9ec80debd2bc22b541ce80", func := "syngraph/syngraphlaw04.WotsDigits", spec := "wotsDigits", named := ["syngraph/sha.roundNumbers"], apart := false, laid := [("syngraph/sha.roundNumbers", laid_syngraph_sha_roundNumbers)], narrowed := true }
def WotsDigitsUptoSaid : Prop := wotsDigitsUptoRow.holds Tryd.pinned (OpenSpec.upto wotsDigitsSpec)

/-- 'syngraphlaw04.WotsSigns', WHERE WHAT IT READS IS OF BULK AT MOST 1048576: true; the input reads as it did. -/
def wotsSignsUptoRow : OpenClaim := { program := "ythnaomkkaodbkaadoor", sum := "b851dd56009fb7a8c5700e34cd18b167be686d519e9ec80debd2bc22b541ce80", func := "syngraph/syngraphlaw04.WotsSigns", spec := "wotsSigns", named := ["syngraph/sha.roundNumbers"], apart := false, laid := [("syngraph/sha.roundNumbers", laid_syngraph_sha_roundNumbers)], narrowed := true }
def WotsSignsUptoSaid : Prop := wotsSignsUptoRow.holds Tryd.pinned (OpenSpec.upto wotsSignsSpec)

/-- 'syngraphlaw04.WotsRecovers', WHERE WHAT IT READS IS OF BULK AT MOST 1048576: true; the input reads as it did. -/
def wotsRecoversUptoRow : OpenClaim := { program := "ythnaomkkaodbkaadoor", sum := "b851dd56009fb7a8c5700e34cd18b167be686d519e9ec80debd2bc22b541ce80", func := "syngraph/syngraphlaw04.WotsRecovers", spec := "wotsRecovers", named := ["syngraph/sha.roundNumbers"], apart := false, laid := [("syngraph/sha.roundNumbers", laid_syngraph_sha_roundNumbers)], narrowed := true }
def WotsRecoversUptoSaid : Prop := wotsRecoversUptoRow.holds Tryd.pinned (OpenSpec.upto wotsRecoversSpec)

/-- 'syngraphlaw04.WotsWalks', WHERE WHAT IT READS IS OF BULK AT MOST 1048576: true; the input reads as it did. -/
def wotsWalksUptoRow : OpenClaim := { program := "ythnaomkkaodbkaadoor", sum := "b851dd56009fb7a8c5700e34cd18b167be686d519e9ec80debd2bc22b541ce80", func := "syngraph/syngraphlaw04.WotsWalks", spec := "wotsWalks", named := ["syngraph/sha.roundNumbers"], apart := false, laid := [("syngraph/sha.roundNumbers", laid_syngraph_sha_roundNumbers)], narrowed := true }
def WotsWalksUptoSaid : Prop := wotsWalksUptoRow.holds Tryd.pinned (OpenSpec.upto wotsWalksSpec)

/-- 'syngraphlaw04.WotsForges', WHERE WHAT IT READS IS OF BULK AT MOST 1048576: true; the input reads as it did. -/
def wotsForgesUptoRow : OpenClaim := { program := "ythnaomkkaodbkaadoor", sum := "b851dd56009fb7a8c5700e34cd18b167be686d519e9ec80debd2bc22b541ce80", func := "syngraph/syngraphlaw04.WotsForges", spec := "wotsForges", named := ["syngraph/sha.roundNumbers"], apart := false, laid := [("syngraph/sha.roundNumbers", laid_syngraph_sha_roundNumbers)], narrowed := true }
def WotsForgesUptoSaid : Prop := wotsForgesUptoRow.holds Tryd.pinned (OpenSpec.upto wotsForgesSpec)

end Rows
end Go.Proofs.YthnaomkkaodbkaaDoor
