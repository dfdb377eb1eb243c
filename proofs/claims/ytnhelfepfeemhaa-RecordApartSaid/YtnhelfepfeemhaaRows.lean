/-
  No cell of these rows narrows 'for every input' (looked for: loops, veiled, ifaces, maps, wideKeys, modest, calm, conditions, laid).
  DERIVED. THE GIVEN ROWS OF THIS SEAT. 7 by the template 'for every input the law returns true; each argument reads behind the call as it read before'; 0 by the template 'total and deterministic' (their statements: YtnhelfepfeemhaaTotals.lean).
  GIVEN WITH THE SEED: the statements are not yours to turn. If you find one false, say at which input.
  Laid BY PROGRAM, IN A SANDBOX (cutbox-rows.mjs): the forced cells as the released guide's own fill.sh prints them over the translation d3d2901e27347611… (all of the seat's roots in one cut). By AI agents, Wed Nov 11 2026. No macro, syntax, notation, axiom, sorry.
-/
import Derived.Test.YtnhelfepfeemhaaChecked
import GoSem.Claim
import GoSem.ClaimJoined
import GoSem.ClaimMapViews
import Derived.JoinedTies
import Derived.KernelRfl
namespace Go.Proofs.Ytnhelfepfeemhaa
/- THE CELL 'sum', in the pinned program and in every row, IS THE sha256 OF THE DUMP (.gsa) THAT YtnhelfepfeemhaaProg.lean LOADS. Nothing in Lean hashes anything: it is a label: what it is worth is what the hold of that sum in a sandbox is worth. -/
noncomputable def Try.pinned : Pinned := { name := "ytnhelfepfeemhaa", sum := "d3d2901e27347611e5a47f2d91925d557246defaf0f3cb5b03e9d7eaf409656e", checked := Try.checked }
namespace Rows
def none {H : Type} : Left H := { results := [], args := [] }

/-- 'gloaminglaw07.TermsMatch': WHATEVER THE INPUT: true; the input reads as it did. -/
def termsMatchSpec : ChangeSpec := { name := "termsMatch", fn := fun _ => fun
  | [d1, d2, d3, d4, d5] => { results := [.lit (.bool true)], args := [d1, d2, d3, d4, d5] }
  | _ => none }
def termsMatchRow : OpenClaim := { program := "ytnhelfepfeemhaa", sum := "d3d2901e27347611e5a47f2d91925d557246defaf0f3cb5b03e9d7eaf409656e", func := "gloaming/gloaminglaw07.TermsMatch", spec := "termsMatch", apart := false }
def TermsMatchSaid : Prop := termsMatchRow.holds Try.pinned (OpenSpec.ofChange termsMatchSpec)

/-- ITS FALSE NEIGHBOUR: 'it returns false'. Refute it at one input. -/
def termsMatchWrong : ChangeSpec := { name := "termsMatch", fn := fun _ => fun
  | [d1, d2, d3, d4, d5] => { results := [.lit (.bool false)], args := [d1, d2, d3, d4, d5] }
  | _ => none }
def TermsMatchWrongFalsely : Prop := termsMatchRow.holds Try.pinned (OpenSpec.ofChange termsMatchWrong)

/-- 'gloaminglaw07.TermsFair': WHATEVER THE INPUT: true; the input reads as it did. -/
def termsFairSpec : ChangeSpec := { name := "termsFair", fn := fun _ => fun
  | [d1, d2, d3, d4] => { results := [.lit (.bool true)], args := [d1, d2, d3, d4] }
  | _ => none }
def termsFairRow : OpenClaim := { program := "ytnhelfepfeemhaa", sum := "d3d2901e27347611e5a47f2d91925d557246defaf0f3cb5b03e9d7eaf409656e", func := "gloaming/gloaminglaw07.TermsFair", spec := "termsFair", apart := false }
def TermsFairSaid : Prop := termsFairRow.holds Try.pinned (OpenSpec.ofChange termsFairSpec)

/-- ITS FALSE NEIGHBOUR: 'it returns false'. Refute it at one input. -/
def termsFairWrong : ChangeSpec := { name := "termsFair", fn := fun _ => fun
  | [d1, d2, d3, d4] => { results := [.lit (.bool false)], args := [d1, d2, d3, d4] }
  | _ => none }
def TermsFairWrongFalsely : Prop := termsFairRow.holds Try.pinned (OpenSpec.ofChange termsFairWrong)

/-- 'gloaminglaw07.TermsMore': WHATEVER THE INPUT: true; the input reads as it did. -/
def termsMoreSpec : ChangeSpec := { name := "termsMore", fn := fun _ => fun
  | [d1, d2, d3, d4, d5] => { results := [.lit (.bool true)], args := [d1, d2, d3, d4, d5] }
  | _ => none }
def termsMoreRow : OpenClaim := { program := "ytnhelfepfeemhaa", sum := "d3d2901e27347611e5a47f2d91925d557246defaf0f3cb5b03e9d7eaf409656e", func := "gloaming/gloaminglaw07.TermsMore", spec := "termsMore", apart := false }
def TermsMoreSaid : Prop := termsMoreRow.holds Try.pinned (OpenSpec.ofChange termsMoreSpec)

/-- ITS FALSE NEIGHBOUR: 'it returns false'. Refute it at one input. -/
def termsMoreWrong : ChangeSpec := { name := "termsMore", fn := fun _ => fun
  | [d1, d2, d3, d4, d5] => { results := [.lit (.bool false)], args := [d1, d2, d3, d4, d5] }
  | _ => none }
def TermsMoreWrongFalsely : Prop := termsMoreRow.holds Try.pinned (OpenSpec.ofChange termsMoreWrong)

/-- 'gloaminglaw08.RecordNext': WHATEVER THE INPUT: true; the input reads as it did. -/
def recordNextSpec : ChangeSpec := { name := "recordNext", fn := fun _ => fun
  | [d1, d2, d3, d4] => { results := [.lit (.bool true)], args := [d1, d2, d3, d4] }
  | _ => none }
def recordNextRow : OpenClaim := { program := "ytnhelfepfeemhaa", sum := "d3d2901e27347611e5a47f2d91925d557246defaf0f3cb5b03e9d7eaf409656e", func := "gloaming/gloaminglaw08.RecordNext", spec := "recordNext", apart := false }
def RecordNextSaid : Prop := recordNextRow.holds Try.pinned (OpenSpec.ofChange recordNextSpec)

/-- ITS FALSE NEIGHBOUR: 'it returns false'. Refute it at one input. -/
def recordNextWrong : ChangeSpec := { name := "recordNext", fn := fun _ => fun
  | [d1, d2, d3, d4] => { results := [.lit (.bool false)], args := [d1, d2, d3, d4] }
  | _ => none }
def RecordNextWrongFalsely : Prop := recordNextRow.holds Try.pinned (OpenSpec.ofChange recordNextWrong)

/-- 'gloaminglaw08.RecordReads': WHATEVER THE INPUT: true; the input reads as it did. -/
def recordReadsSpec : ChangeSpec := { name := "recordReads", fn := fun _ => fun
  | [d1, d2, d3] => { results := [.lit (.bool true)], args := [d1, d2, d3] }
  | _ => none }
def recordReadsRow : OpenClaim := { program := "ytnhelfepfeemhaa", sum := "d3d2901e27347611e5a47f2d91925d557246defaf0f3cb5b03e9d7eaf409656e", func := "gloaming/gloaminglaw08.RecordReads", spec := "recordReads", apart := false }
def RecordReadsSaid : Prop := recordReadsRow.holds Try.pinned (OpenSpec.ofChange recordReadsSpec)

/-- ITS FALSE NEIGHBOUR: 'it returns false'. Refute it at one input. -/
def recordReadsWrong : ChangeSpec := { name := "recordReads", fn := fun _ => fun
  | [d1, d2, d3] => { results := [.lit (.bool false)], args := [d1, d2, d3] }
  | _ => none }
def RecordReadsWrongFalsely : Prop := recordReadsRow.holds Try.pinned (OpenSpec.ofChange recordReadsWrong)

/-- 'gloaminglaw08.RecordApart': WHATEVER THE INPUT: true; the input reads as it did. -/
def recordApartSpec : ChangeSpec := { name := "recordApart", fn := fun _ => fun
  | [d1, d2, d3, d4] => { results := [.lit (.bool true)], args := [d1, d2, d3, d4] }
  | _ => none }
def recordApartRow : OpenClaim := { program := "ytnhelfepfeemhaa", sum := "d3d2901e27347611e5a47f2d91925d557246defaf0f3cb5b03e9d7eaf409656e", func := "gloaming/gloaminglaw08.RecordApart", spec := "recordApart", apart := false }
def RecordApartSaid : Prop := recordApartRow.holds Try.pinned (OpenSpec.ofChange recordApartSpec)

/-- ITS FALSE NEIGHBOUR: 'it returns false'. Refute it at one input. -/
def recordApartWrong : ChangeSpec := { name := "recordApart", fn := fun _ => fun
  | [d1, d2, d3, d4] => { results := [.lit (.bool false)], args := [d1, d2, d3, d4] }
  | _ => none }
def RecordApartWrongFalsely : Prop := recordApartRow.holds Try.pinned (OpenSpec.ofChange recordApartWrong)

/-- 'gloaminglaw08.RecordWaits': WHATEVER THE INPUT: true; the input reads as it did. -/
def recordWaitsSpec : ChangeSpec := { name := "recordWaits", fn := fun _ => fun
  | [d1, d2, d3, d4] => { results := [.lit (.bool true)], args := [d1, d2, d3, d4] }
  | _ => none }
def recordWaitsRow : OpenClaim := { program := "ytnhelfepfeemhaa", sum := "d3d2901e27347611e5a47f2d91925d557246defaf0f3cb5b03e9d7eaf409656e", func := "gloaming/gloaminglaw08.RecordWaits", spec := "recordWaits", apart := false }
def RecordWaitsSaid : Prop := recordWaitsRow.holds Try.pinned (OpenSpec.ofChange recordWaitsSpec)

/-- ITS FALSE NEIGHBOUR: 'it returns false'. Refute it at one input. -/
def recordWaitsWrong : ChangeSpec := { name := "recordWaits", fn := fun _ => fun
  | [d1, d2, d3, d4] => { results := [.lit (.bool false)], args := [d1, d2, d3, d4] }
  | _ => none }
def RecordWaitsWrongFalsely : Prop := recordWaitsRow.holds Try.pinned (OpenSpec.ofChange recordWaitsWrong)

/- THE SECOND FORM. 'bulk': how many values and letters a reading holds, each counted each time it is reached (what is shared counts as often as it is met; a slice's spare places count too). A statement '..UptoSaid' is the law's where the arguments, and the package variables that the reading takes, are together of bulk at most 1048576: NARROWER than '..Said'. Prove '..Said' where nothing that the law and all that it calls make is longer than what came in: it says more and counts as full. Else prove '..UptoSaid'. A law counts once. -/
mutual
def uptoBulk {H : Type} : DataW H → Nat
  | .lit (.string bytes) => bytes.length + 1
  | .lit _ => 1
  | .nil => 1
  | .ptr d => uptoBulk d + 1
  | .slice elems spare => uptoBulkAll elems + uptoBulkAll spare + 1
  | .agg parts => uptoBulkAll parts + 1
  | .iface _ d => uptoBulk d + 1
  | .map entries => uptoBulkEntries entries + 1
  | .held _ => 1
def uptoBulkAll {H : Type} : List (DataW H) → Nat
  | [] => 0
  | d :: r => uptoBulk d + uptoBulkAll r
def uptoBulkEntries {H : Type} : List (Lit × DataW H) → Nat
  | [] => 0
  | x :: r => uptoBulkEntry x + uptoBulkEntries r
def uptoBulkEntry {H : Type} : Lit × DataW H → Nat
  | (.string bytes, d) => bytes.length + uptoBulk d + 1
  | (_, d) => uptoBulk d + 1
 end
def uptoSmall : (H : Type) → List (DataW H) → Bool := fun _ ds => decide (uptoBulkAll ds ≤ 1048576)
def OpenSpec.upto (s : _root_.Go.ChangeSpec) : _root_.Go.OpenSpec := { _root_.Go.OpenSpec.ofChange s with cond := some uptoSmall }

/-- 'gloaminglaw07.TermsMatch', WHERE WHAT IT READS IS OF BULK AT MOST 1048576: true; the input reads as it did. -/
def termsMatchUptoRow : OpenClaim := { program := "ytnhelfepfeemhaa", sum := "d3d2901e27347611e5a47f2d91925d557246defaf0f3cb5b03e9d7eaf409656e", func := "gloaming/gloaminglaw07.TermsMatch", spec := "termsMatch", apart := false, narrowed := true }
def TermsMatchUptoSaid : Prop := termsMatchUptoRow.holds Try.pinned (OpenSpec.upto termsMatchSpec)

/-- 'gloaminglaw07.TermsFair', WHERE WHAT IT READS IS OF BULK AT MOST 1048576: true; the input reads as it did. -/
def termsFairUptoRow : OpenClaim := { program := "ytnhelfepfeemhaa", sum := "d3d2901e27347611e5a47f2d91925d557246defaf0f3cb5b03e9d7eaf409656e", func := "gloaming/gloaminglaw07.TermsFair", spec := "termsFair", apart := false, narrowed := true }
def TermsFairUptoSaid : Prop := termsFairUptoRow.holds Try.pinned (OpenSpec.upto termsFairSpec)

/-- 'gloaminglaw07.TermsMore', WHERE WHAT IT READS IS OF BULK AT MOST 1048576: true; the input reads as it did. -/
def termsMoreUptoRow : OpenClaim := { program := "ytnhelfepfeemhaa", sum := "d3d2901e27347611e5a47f2d91925d557246defaf0f3cb5b03e9d7eaf409656e", func := "gloaming/gloaminglaw07.TermsMore", spec := "termsMore", apart := false, narrowed := true }
def TermsMoreUptoSaid : Prop := termsMoreUptoRow.holds Try.pinned (OpenSpec.upto termsMoreSpec)

/-- 'gloaminglaw08.RecordNext', WHERE WHAT IT READS IS OF BULK AT MOST 1048576: true; the input reads as it did. -/
def recordNextUptoRow : OpenClaim := { program := "ytnhelfepfeemhaa", sum := "d3d2901e27347611e5a47f2d91925d557246defaf0f3cb5b03e9d7eaf409656e", func := "gloaming/gloaminglaw08.RecordNext", spec := "recordNext", apart := false, narrowed := true }
def RecordNextUptoSaid : Prop := recordNextUptoRow.holds Try.pinned (OpenSpec.upto recordNextSpec)

/-- 'gloaminglaw08.RecordReads', WHERE WHAT IT READS IS OF BULK AT MOST 1048576: true; the input reads as it did. -/
def recordReadsUptoRow : OpenClaim := { program := "ytnhelfepfeemhaa", sum := "d3d2901e27347611e5a47f2d91925d557246defaf0f3cb5b03e9d7eaf409656e", func := "gloaming/gloaminglaw08.RecordReads", spec := "recordReads", apart := false, narrowed := true }
def RecordReadsUptoSaid : Prop := recordReadsUptoRow.holds Try.pinned (OpenSpec.upto recordReadsSpec)

/-- 'gloaminglaw08.RecordApart', WHERE WHAT IT READS IS OF BULK AT MOST 1048576: true; the input reads as it did. -/
def recordApartUptoRow : OpenClaim := { program := "ytnhelfepfeemhaa", sum := "d3d2901e27347611e5a47f2d91925d557246defaf0f3cb5b03e9d7eaf409656e", func := "gloaming/gloaminglaw08.RecordApart", spec := "recordApart", apart := false, narrowed := true }
def RecordApartUptoSaid : Prop := recordApartUptoRow.holds Try.pinned (OpenSpec.upto recordApartSpec)

/-- 'gloaminglaw08.RecordWaits', WHERE WHAT IT READS IS OF BULK AT MOST 1048576: true; the input reads as it did. -/
def recordWaitsUptoRow : OpenClaim := { program := "ytnhelfepfeemhaa", sum := "d3d2901e27347611e5a47f2d91925d557246defaf0f3cb5b03e9d7eaf409656e", func := "gloaming/gloaminglaw08.RecordWaits", spec := "recordWaits", apart := false, narrowed := true }
def RecordWaitsUptoSaid : Prop := recordWaitsUptoRow.holds Try.pinned (OpenSpec.upto recordWaitsSpec)

end Rows
end Go.Proofs.Ytnhelfepfeemhaa
