/-
  No cell of these rows narrows 'for every input' (looked for: loops, veiled, ifaces, maps, wideKeys, modest, calm, conditions, laid).
  DERIVED. THE GIVEN ROWS OF THIS SEAT. 6 by the template 'for every input the law returns true; each argument reads behind the call as it read before'; 0 by the template 'total and deterministic' (their statements: YtdjdpbgemdmpiaaTotals.lean).
  GIVEN WITH THE SEED: the statements are not yours to turn. If you find one false, say at which input.
  Laid BY PROGRAM, IN A SANDBOX (cutbox-rows.mjs): the forced cells as the released guide's own fill.sh prints them over the translation 653603bf6362ce4b… (all of the seat's roots in one cut). By AI agents, Wed Nov 11 2026. No macro, syntax, notation, axiom, sorry.
-/
import Derived.Test.YtdjdpbgemdmpiaaChecked
import GoSem.Claim
import GoSem.ClaimJoined
import GoSem.ClaimMapViews
import Derived.JoinedTies
import Derived.KernelRfl
namespace Go.Proofs.Ytdjdpbgemdmpiaa
/- THE CELL 'sum', in the pinned program and in every row, IS THE sha256 OF THE DUMP (.gsa) THAT YtdjdpbgemdmpiaaProg.lean LOADS. Nothing in Lean hashes anything: it is a label: what it is worth is what the hold of that sum in a sandbox is worth. -/
noncomputable def Try.pinned : Pinned := { name := "ytdjdpbgemdmpiaa", sum := "653603bf6362ce4b745a872ce31eb869eb10e0bc7b925bce7b8b890bbb160d0d", checked := Try.checked }
namespace Rows
def none {H : Type} : Left H := { results := [], args := [] }

/-- 'gloaminglaw03.MemTwins': WHATEVER THE INPUT: true; the input reads as it did. -/
def memTwinsSpec : ChangeSpec := { name := "memTwins", fn := fun _ => fun
  | [d1, d2, d3] => { results := [.lit (.bool true)], args := [d1, d2, d3] }
  | _ => none }
def memTwinsRow : OpenClaim := { program := "ytdjdpbgemdmpiaa", sum := "653603bf6362ce4b745a872ce31eb869eb10e0bc7b925bce7b8b890bbb160d0d", func := "gloaming/gloaminglaw03.MemTwins", spec := "memTwins", unfollowed := true, recurses := true, apart := false }
def MemTwinsSaid : Prop := memTwinsRow.holds Try.pinned (OpenSpec.ofChange memTwinsSpec)

/-- ITS FALSE NEIGHBOUR: 'it returns false'. Refute it at one input. -/
def memTwinsWrong : ChangeSpec := { name := "memTwins", fn := fun _ => fun
  | [d1, d2, d3] => { results := [.lit (.bool false)], args := [d1, d2, d3] }
  | _ => none }
def MemTwinsWrongFalsely : Prop := memTwinsRow.holds Try.pinned (OpenSpec.ofChange memTwinsWrong)

/-- 'gloaminglaw04.TickDraws': WHATEVER THE INPUT: true; the input reads as it did. -/
def tickDrawsSpec : ChangeSpec := { name := "tickDraws", fn := fun _ => fun
  | [d1, d2] => { results := [.lit (.bool true)], args := [d1, d2] }
  | _ => none }
def tickDrawsRow : OpenClaim := { program := "ytdjdpbgemdmpiaa", sum := "653603bf6362ce4b745a872ce31eb869eb10e0bc7b925bce7b8b890bbb160d0d", func := "gloaming/gloaminglaw04.TickDraws", spec := "tickDraws", apart := false }
def TickDrawsSaid : Prop := tickDrawsRow.holds Try.pinned (OpenSpec.ofChange tickDrawsSpec)

/-- ITS FALSE NEIGHBOUR: 'it returns false'. Refute it at one input. -/
def tickDrawsWrong : ChangeSpec := { name := "tickDraws", fn := fun _ => fun
  | [d1, d2] => { results := [.lit (.bool false)], args := [d1, d2] }
  | _ => none }
def TickDrawsWrongFalsely : Prop := tickDrawsRow.holds Try.pinned (OpenSpec.ofChange tickDrawsWrong)

/-- 'gloaminglaw05.RulesPlaces': WHATEVER THE INPUT: true; the input reads as it did. -/
def rulesPlacesSpec : ChangeSpec := { name := "rulesPlaces", fn := fun _ => fun
  | [d1, d2, d3, d4] => { results := [.lit (.bool true)], args := [d1, d2, d3, d4] }
  | _ => none }
def rulesPlacesRow : OpenClaim := { program := "ytdjdpbgemdmpiaa", sum := "653603bf6362ce4b745a872ce31eb869eb10e0bc7b925bce7b8b890bbb160d0d", func := "gloaming/gloaminglaw05.RulesPlaces", spec := "rulesPlaces", apart := false }
def RulesPlacesSaid : Prop := rulesPlacesRow.holds Try.pinned (OpenSpec.ofChange rulesPlacesSpec)

/-- ITS FALSE NEIGHBOUR: 'it returns false'. Refute it at one input. -/
def rulesPlacesWrong : ChangeSpec := { name := "rulesPlaces", fn := fun _ => fun
  | [d1, d2, d3, d4] => { results := [.lit (.bool false)], args := [d1, d2, d3, d4] }
  | _ => none }
def RulesPlacesWrongFalsely : Prop := rulesPlacesRow.holds Try.pinned (OpenSpec.ofChange rulesPlacesWrong)

/-- 'gloaminglaw05.RulesAgents': WHATEVER THE INPUT: true; the input reads as it did. -/
def rulesAgentsSpec : ChangeSpec := { name := "rulesAgents", fn := fun _ => fun
  | [d] => { results := [.lit (.bool true)], args := [d] }
  | _ => none }
def rulesAgentsRow : OpenClaim := { program := "ytdjdpbgemdmpiaa", sum := "653603bf6362ce4b745a872ce31eb869eb10e0bc7b925bce7b8b890bbb160d0d", func := "gloaming/gloaminglaw05.RulesAgents", spec := "rulesAgents", apart := false }
def RulesAgentsSaid : Prop := rulesAgentsRow.holds Try.pinned (OpenSpec.ofChange rulesAgentsSpec)

/-- ITS FALSE NEIGHBOUR: 'it returns false'. Refute it at one input. -/
def rulesAgentsWrong : ChangeSpec := { name := "rulesAgents", fn := fun _ => fun
  | [d] => { results := [.lit (.bool false)], args := [d] }
  | _ => none }
def RulesAgentsWrongFalsely : Prop := rulesAgentsRow.holds Try.pinned (OpenSpec.ofChange rulesAgentsWrong)

/-- 'gloaminglaw08.RecordReads': WHATEVER THE INPUT: true; the input reads as it did. -/
def recordReadsSpec : ChangeSpec := { name := "recordReads", fn := fun _ => fun
  | [d1, d2, d3] => { results := [.lit (.bool true)], args := [d1, d2, d3] }
  | _ => none }
def recordReadsRow : OpenClaim := { program := "ytdjdpbgemdmpiaa", sum := "653603bf6362ce4b745a872ce31eb869eb10e0bc7b925bce7b8b890bbb160d0d", func := "gloaming/gloaminglaw08.RecordReads", spec := "recordReads", apart := false }
def RecordReadsSaid : Prop := recordReadsRow.holds Try.pinned (OpenSpec.ofChange recordReadsSpec)

/-- ITS FALSE NEIGHBOUR: 'it returns false'. Refute it at one input. -/
def recordReadsWrong : ChangeSpec := { name := "recordReads", fn := fun _ => fun
  | [d1, d2, d3] => { results := [.lit (.bool false)], args := [d1, d2, d3] }
  | _ => none }
def RecordReadsWrongFalsely : Prop := recordReadsRow.holds Try.pinned (OpenSpec.ofChange recordReadsWrong)

/-- 'gloaminglaw21.PlanMixes': WHATEVER THE INPUT: true; the input reads as it did. -/
def planMixesSpec : ChangeSpec := { name := "planMixes", fn := fun _ => fun
  | [d1, d2] => { results := [.lit (.bool true)], args := [d1, d2] }
  | _ => none }
def planMixesRow : OpenClaim := { program := "ytdjdpbgemdmpiaa", sum := "653603bf6362ce4b745a872ce31eb869eb10e0bc7b925bce7b8b890bbb160d0d", func := "gloaming/gloaminglaw21.PlanMixes", spec := "planMixes", unfollowed := true, recurses := true, apart := false }
def PlanMixesSaid : Prop := planMixesRow.holds Try.pinned (OpenSpec.ofChange planMixesSpec)

/-- ITS FALSE NEIGHBOUR: 'it returns false'. Refute it at one input. -/
def planMixesWrong : ChangeSpec := { name := "planMixes", fn := fun _ => fun
  | [d1, d2] => { results := [.lit (.bool false)], args := [d1, d2] }
  | _ => none }
def PlanMixesWrongFalsely : Prop := planMixesRow.holds Try.pinned (OpenSpec.ofChange planMixesWrong)

/- THE SECOND FORM. 'bulk': how many values and letters a reading holds, each counted each time it is reached (what is shared counts as often as it is met; a slice's spare places count too). A statement '..UptoSaid' is the law's where the arguments, and the package variables that the reading takes, are together of bulk at most 1048576: NARROWER than '..Said'. Prove '..Said' where nothing that the law and all that it calls make is longer than what came in: it says more and counts as full. Else prove '..UptoSaid'. A law counts once. -/
mutual
def uptoBulk {H : Type} : DataW H → Nat
  | .lit (.string bytes) => bytes.length + 1
  | .lit _ => 1
  | .nil => 1
  | .ptr d => uptoBulk d + 1
  | .slice elems spare => uptoBulkAll elems + uptoBulkAll spare + 1
  | .agg parts => uptoBulkAll parts + 1
  | .iface _ d => uptoBulk d + 1
  | .map entries => uptoBulkEntries entries + 1
  | .held _ => 1
def uptoBulkAll {H : Type} : List (DataW H) → Nat
  | [] => 0
  | d :: r => uptoBulk d + uptoBulkAll r
def uptoBulkEntries {H : Type} : List (Lit × DataW H) → Nat
  | [] => 0
  | x :: r => uptoBulkEntry x + uptoBulkEntries r
def uptoBulkEntry {H : Type} : Lit × DataW H → Nat
  | (.string bytes, d) => bytes.length + uptoBulk d + 1
  | (_, d) => uptoBulk d + 1
 end
def uptoSmall : (H : Type) → List (DataW H) → Bool := fun _ ds => decide (uptoBulkAll ds ≤ 1048576)
def OpenSpec.upto (s : _root_.Go.ChangeSpec) : _root_.Go.OpenSpec := { _root_.Go.OpenSpec.ofChange s with cond := some uptoSmall }

/-- 'gloaminglaw03.MemTwins', WHERE WHAT IT READS IS OF BULK AT MOST 1048576: true; the input reads as it did. -/
def memTwinsUptoRow : OpenClaim := { program := "ytdjdpbgemdmpiaa", sum := "653603bf6362ce4b745a872ce31eb869eb10e0bc7b925bce7b8b890bbb160d0d", func := "gloaming/gloaminglaw03.MemTwins", spec := "memTwins", unfollowed := true, recurses := true, apart := false, narrowed := true }
def MemTwinsUptoSaid : Prop := memTwinsUptoRow.holds Try.pinned (OpenSpec.upto memTwinsSpec)

/-- 'gloaminglaw04.TickDraws', WHERE WHAT IT READS IS OF BULK AT MOST 1048576: true; the input reads as it did. -/
def tickDrawsUptoRow : OpenClaim := { program := "ytdjdpbgemdmpiaa", sum := "653603bf6362ce4b745a872ce31eb869eb10e0bc7b925bce7b8b890bbb160d0d", func := "gloaming/gloaminglaw04.TickDraws", spec := "tickDraws", apart := false, narrowed := true }
def TickDrawsUptoSaid : Prop := tickDrawsUptoRow.holds Try.pinned (OpenSpec.upto tickDrawsSpec)

/-- 'gloaminglaw05.RulesPlaces', WHERE WHAT IT READS IS OF BULK AT MOST 1048576: true; the input reads as it did. -/
def rulesPlacesUptoRow : OpenClaim := { program := "ytdjdpbgemdmpiaa", sum := "653603bf6362ce4b745a872ce31eb869eb10e0bc7b925bce7b8b890bbb160d0d", func := "gloaming/gloaminglaw05.RulesPlaces", spec := "rulesPlaces", apart := false, narrowed := true }
def RulesPlacesUptoSaid : Prop := rulesPlacesUptoRow.holds Try.pinned (OpenSpec.upto rulesPlacesSpec)

/-- 'gloaminglaw05.RulesAgents', WHERE WHAT IT READS IS OF BULK AT MOST 1048576: true; the input reads as it did. -/
def rulesAgentsUptoRow : OpenClaim := { program := "ytdjdpbgemdmpiaa", sum := "653603bf6362ce4b745a872ce31eb869eb10e0bc7b925bce7b8b890bbb160d0d", func := "gloaming/gloaminglaw05.RulesAgents", spec := "rulesAgents", apart := false, narrowed := true }
def RulesAgentsUptoSaid : Prop := rulesAgentsUptoRow.holds Try.pinned (OpenSpec.upto rulesAgentsSpec)

/-- 'gloaminglaw08.RecordReads', WHERE WHAT IT READS IS OF BULK AT MOST 1048576: true; the input reads as it did. -/
def recordReadsUptoRow : OpenClaim := { program := "ytdjdpbgemdmpiaa", sum := "653603bf6362ce4b745a872ce31eb869eb10e0bc7b925bce7b8b890bbb160d0d", func := "gloaming/gloaminglaw08.RecordReads", spec := "recordReads", apart := false, narrowed := true }
def RecordReadsUptoSaid : Prop := recordReadsUptoRow.holds Try.pinned (OpenSpec.upto recordReadsSpec)

/-- 'gloaminglaw21.PlanMixes', WHERE WHAT IT READS IS OF BULK AT MOST 1048576: true; the input reads as it did. -/
def planMixesUptoRow : OpenClaim := { program := "ytdjdpbgemdmpiaa", sum := "653603bf6362ce4b745a872ce31eb869eb10e0bc7b925bce7b8b890bbb160d0d", func := "gloaming/gloaminglaw21.PlanMixes", spec := "planMixes", unfollowed := true, recurses := true, apart := false, narrowed := true }
def PlanMixesUptoSaid : Prop := planMixesUptoRow.holds Try.pinned (OpenSpec.upto planMixesSpec)

end Rows
end Go.Proofs.Ytdjdpbgemdmpiaa
