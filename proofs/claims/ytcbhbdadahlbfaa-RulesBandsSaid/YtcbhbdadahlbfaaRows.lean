/-
  No cell of these rows narrows 'for every input' (looked for: loops, veiled, ifaces, maps, wideKeys, modest, calm, conditions, laid).
  DERIVED. THE GIVEN ROWS OF THIS SEAT. 6 by the template 'for every input the law returns true; each argument reads behind the call as it read before'; 0 by the template 'total and deterministic' (their statements: YtcbhbdadahlbfaaTotals.lean).
  GIVEN WITH THE SEED: the statements are not yours to turn. If you find one false, say at which input.
  Laid BY PROGRAM, IN A SANDBOX (cutbox-rows.mjs): the forced cells as the released guide's own fill.sh prints them over the translation bd988c5da7b426c1… (all of the seat's roots in one cut). By AI agents, Wed Nov 11 2026. No macro, syntax, notation, axiom, sorry.
-/
import Derived.Test.YtcbhbdadahlbfaaChecked
import GoSem.Claim
import GoSem.ClaimJoined
import GoSem.ClaimMapViews
import Derived.JoinedTies
import Derived.KernelRfl
namespace Go.Proofs.Ytcbhbdadahlbfaa
/- THE CELL 'sum', in the pinned program and in every row, IS THE sha256 OF THE DUMP (.gsa) THAT YtcbhbdadahlbfaaProg.lean LOADS. Nothing in Lean hashes anything: it is a label: what it is worth is what the hold of that sum in a sandbox is worth. -/
noncomputable def Try.pinned : Pinned := { name := "ytcbhbdadahlbfaa", sum := "bd988c5da7b426c1850b98a12138c80e0c3aa537831e08dc6c56afe24475c010", checked := Try.checked }
namespace Rows
def none {H : Type} : Left H := { results := [], args := [] }

/-- 'gloaminglaw02.FieldBack': WHATEVER THE INPUT: true; the input reads as it did. -/
def fieldBackSpec : ChangeSpec := { name := "fieldBack", fn := fun _ => fun
  | [d1, d2] => { results := [.lit (.bool true)], args := [d1, d2] }
  | _ => none }
def fieldBackRow : OpenClaim := { program := "ytcbhbdadahlbfaa", sum := "bd988c5da7b426c1850b98a12138c80e0c3aa537831e08dc6c56afe24475c010", func := "gloaming/gloaminglaw02.FieldBack", spec := "fieldBack", apart := false }
def FieldBackSaid : Prop := fieldBackRow.holds Try.pinned (OpenSpec.ofChange fieldBackSpec)

/-- ITS FALSE NEIGHBOUR: 'it returns false'. Refute it at one input. -/
def fieldBackWrong : ChangeSpec := { name := "fieldBack", fn := fun _ => fun
  | [d1, d2] => { results := [.lit (.bool false)], args := [d1, d2] }
  | _ => none }
def FieldBackWrongFalsely : Prop := fieldBackRow.holds Try.pinned (OpenSpec.ofChange fieldBackWrong)

/-- 'gloaminglaw02.FieldSums': WHATEVER THE INPUT: true; the input reads as it did. -/
def fieldSumsSpec : ChangeSpec := { name := "fieldSums", fn := fun _ => fun
  | [d1, d2, d3, d4] => { results := [.lit (.bool true)], args := [d1, d2, d3, d4] }
  | _ => none }
def fieldSumsRow : OpenClaim := { program := "ytcbhbdadahlbfaa", sum := "bd988c5da7b426c1850b98a12138c80e0c3aa537831e08dc6c56afe24475c010", func := "gloaming/gloaminglaw02.FieldSums", spec := "fieldSums", apart := false }
def FieldSumsSaid : Prop := fieldSumsRow.holds Try.pinned (OpenSpec.ofChange fieldSumsSpec)

/-- ITS FALSE NEIGHBOUR: 'it returns false'. Refute it at one input. -/
def fieldSumsWrong : ChangeSpec := { name := "fieldSums", fn := fun _ => fun
  | [d1, d2, d3, d4] => { results := [.lit (.bool false)], args := [d1, d2, d3, d4] }
  | _ => none }
def FieldSumsWrongFalsely : Prop := fieldSumsRow.holds Try.pinned (OpenSpec.ofChange fieldSumsWrong)

/-- 'gloaminglaw02.FieldApart': WHATEVER THE INPUT: true; the input reads as it did. -/
def fieldApartSpec : ChangeSpec := { name := "fieldApart", fn := fun _ => fun
  | [d1, d2, d3] => { results := [.lit (.bool true)], args := [d1, d2, d3] }
  | _ => none }
def fieldApartRow : OpenClaim := { program := "ytcbhbdadahlbfaa", sum := "bd988c5da7b426c1850b98a12138c80e0c3aa537831e08dc6c56afe24475c010", func := "gloaming/gloaminglaw02.FieldApart", spec := "fieldApart", apart := false }
def FieldApartSaid : Prop := fieldApartRow.holds Try.pinned (OpenSpec.ofChange fieldApartSpec)

/-- ITS FALSE NEIGHBOUR: 'it returns false'. Refute it at one input. -/
def fieldApartWrong : ChangeSpec := { name := "fieldApart", fn := fun _ => fun
  | [d1, d2, d3] => { results := [.lit (.bool false)], args := [d1, d2, d3] }
  | _ => none }
def FieldApartWrongFalsely : Prop := fieldApartRow.holds Try.pinned (OpenSpec.ofChange fieldApartWrong)

/-- 'gloaminglaw03.MemTwins': WHATEVER THE INPUT: true; the input reads as it did. -/
def memTwinsSpec : ChangeSpec := { name := "memTwins", fn := fun _ => fun
  | [d1, d2, d3] => { results := [.lit (.bool true)], args := [d1, d2, d3] }
  | _ => none }
def memTwinsRow : OpenClaim := { program := "ytcbhbdadahlbfaa", sum := "bd988c5da7b426c1850b98a12138c80e0c3aa537831e08dc6c56afe24475c010", func := "gloaming/gloaminglaw03.MemTwins", spec := "memTwins", unfollowed := true, recurses := true, apart := false }
def MemTwinsSaid : Prop := memTwinsRow.holds Try.pinned (OpenSpec.ofChange memTwinsSpec)

/-- ITS FALSE NEIGHBOUR: 'it returns false'. Refute it at one input. -/
def memTwinsWrong : ChangeSpec := { name := "memTwins", fn := fun _ => fun
  | [d1, d2, d3] => { results := [.lit (.bool false)], args := [d1, d2, d3] }
  | _ => none }
def MemTwinsWrongFalsely : Prop := memTwinsRow.holds Try.pinned (OpenSpec.ofChange memTwinsWrong)

/-- 'gloaminglaw05.RulesPlaces': WHATEVER THE INPUT: true; the input reads as it did. -/
def rulesPlacesSpec : ChangeSpec := { name := "rulesPlaces", fn := fun _ => fun
  | [d1, d2, d3, d4] => { results := [.lit (.bool true)], args := [d1, d2, d3, d4] }
  | _ => none }
def rulesPlacesRow : OpenClaim := { program := "ytcbhbdadahlbfaa", sum := "bd988c5da7b426c1850b98a12138c80e0c3aa537831e08dc6c56afe24475c010", func := "gloaming/gloaminglaw05.RulesPlaces", spec := "rulesPlaces", apart := false }
def RulesPlacesSaid : Prop := rulesPlacesRow.holds Try.pinned (OpenSpec.ofChange rulesPlacesSpec)

/-- ITS FALSE NEIGHBOUR: 'it returns false'. Refute it at one input. -/
def rulesPlacesWrong : ChangeSpec := { name := "rulesPlaces", fn := fun _ => fun
  | [d1, d2, d3, d4] => { results := [.lit (.bool false)], args := [d1, d2, d3, d4] }
  | _ => none }
def RulesPlacesWrongFalsely : Prop := rulesPlacesRow.holds Try.pinned (OpenSpec.ofChange rulesPlacesWrong)

/-- 'gloaminglaw05.RulesBands': WHATEVER THE INPUT: true; the input reads as it did. -/
def rulesBandsSpec : ChangeSpec := { name := "rulesBands", fn := fun _ => fun
  | [d1, d2, d3, d4] => { results := [.lit (.bool true)], args := [d1, d2, d3, d4] }
  | _ => none }
def rulesBandsRow : OpenClaim := { program := "ytcbhbdadahlbfaa", sum := "bd988c5da7b426c1850b98a12138c80e0c3aa537831e08dc6c56afe24475c010", func := "gloaming/gloaminglaw05.RulesBands", spec := "rulesBands", apart := false }
def RulesBandsSaid : Prop := rulesBandsRow.holds Try.pinned (OpenSpec.ofChange rulesBandsSpec)

/-- ITS FALSE NEIGHBOUR: 'it returns false'. Refute it at one input. -/
def rulesBandsWrong : ChangeSpec := { name := "rulesBands", fn := fun _ => fun
  | [d1, d2, d3, d4] => { results := [.lit (.bool false)], args := [d1, d2, d3, d4] }
  | _ => none }
def RulesBandsWrongFalsely : Prop := rulesBandsRow.holds Try.pinned (OpenSpec.ofChange rulesBandsWrong)

/- THE SECOND FORM. 'bulk': how many values and letters a reading holds, each counted each time it is reached (what is shared counts as often as it is met; a slice's spare places count too). A statement '..UptoSaid' is the law's where the arguments, and the package variables that the reading takes, are together of bulk at most 1048576: NARROWER than '..Said'. Prove '..Said' where nothing that the law and all that it calls make is longer than what came in: it says more and counts as full. Else prove '..UptoSaid'. A law counts once. -/
mutual
def uptoBulk {H : Type} : DataW H → Nat
  | .lit (.string bytes) => bytes.length + 1
  | .lit _ => 1
  | .nil => 1
  | .ptr d => uptoBulk d + 1
  | .slice elems spare => uptoBulkAll elems + uptoBulkAll spare + 1
  | .agg parts => uptoBulkAll parts + 1
  | .iface _ d => uptoBulk d + 1
  | .map entries => uptoBulkEntries entries + 1
  | .held _ => 1
def uptoBulkAll {H : Type} : List (DataW H) → Nat
  | [] => 0
  | d :: r => uptoBulk d + uptoBulkAll r
def uptoBulkEntries {H : Type} : List (Lit × DataW H) → Nat
  | [] => 0
  | x :: r => uptoBulkEntry x + uptoBulkEntries r
def uptoBulkEntry {H : Type} : Lit × DataW H → Nat
  | (.string bytes, d) => bytes.length + uptoBulk d + 1
  | (_, d) => uptoBulk d + 1
 end
def uptoSmall : (H : Type) → List (DataW H) → Bool := fun _ ds => decide (uptoBulkAll ds ≤ 1048576)
def OpenSpec.upto (s : _root_.Go.ChangeSpec) : _root_.Go.OpenSpec := { _root_.Go.OpenSpec.ofChange s with cond := some uptoSmall }

/-- 'gloaminglaw02.FieldBack', WHERE WHAT IT READS IS OF BULK AT MOST 1048576: true; the input reads as it did. -/
def fieldBackUptoRow : OpenClaim := { program := "ytcbhbdadahlbfaa", sum := "bd988c5da7b426c1850b98a12138c80e0c3aa537831e08dc6c56afe24475c010", func := "gloaming/gloaminglaw02.FieldBack", spec := "fieldBack", apart := false, narrowed := true }
def FieldBackUptoSaid : Prop := fieldBackUptoRow.holds Try.pinned (OpenSpec.upto fieldBackSpec)

/-- 'gloaminglaw02.FieldSums', WHERE WHAT IT READS IS OF BULK AT MOST 1048576: true; the input reads as it did. -/
def fieldSumsUptoRow : OpenClaim := { program := "ytcbhbdadahlbfaa", sum := "bd988c5da7b426c1850b98a12138c80e0c3aa537831e08dc6c56afe24475c010", func := "gloaming/gloaminglaw02.FieldSums", spec := "fieldSums", apart := false, narrowed := true }
def FieldSumsUptoSaid : Prop := fieldSumsUptoRow.holds Try.pinned (OpenSpec.upto fieldSumsSpec)

/-- 'gloaminglaw02.FieldApart', WHERE WHAT IT READS IS OF BULK AT MOST 1048576: true; the input reads as it did. -/
def fieldApartUptoRow : OpenClaim := { program := "ytcbhbdadahlbfaa", sum := "bd988c5da7b426c1850b98a12138c80e0c3aa537831e08dc6c56afe24475c010", func := "gloaming/gloaminglaw02.FieldApart", spec := "fieldApart", apart := false, narrowed := true }
def FieldApartUptoSaid : Prop := fieldApartUptoRow.holds Try.pinned (OpenSpec.upto fieldApartSpec)

/-- 'gloaminglaw03.MemTwins', WHERE WHAT IT READS IS OF BULK AT MOST 1048576: true; the input reads as it did. -/
def memTwinsUptoRow : OpenClaim := { program := "ytcbhbdadahlbfaa", sum := "bd988c5da7b426c1850b98a12138c80e0c3aa537831e08dc6c56afe24475c010", func := "gloaming/gloaminglaw03.MemTwins", spec := "memTwins", unfollowed := true, recurses := true, apart := false, narrowed := true }
def MemTwinsUptoSaid : Prop := memTwinsUptoRow.holds Try.pinned (OpenSpec.upto memTwinsSpec)

/-- 'gloaminglaw05.RulesPlaces', WHERE WHAT IT READS IS OF BULK AT MOST 1048576: true; the input reads as it did. -/
def rulesPlacesUptoRow : OpenClaim := { program := "ytcbhbdadahlbfaa", sum := "bd988c5da7b426c1850b98a12138c80e0c3aa537831e08dc6c56afe24475c010", func := "gloaming/gloaminglaw05.RulesPlaces", spec := "rulesPlaces", apart := false, narrowed := true }
def RulesPlacesUptoSaid : Prop := rulesPlacesUptoRow.holds Try.pinned (OpenSpec.upto rulesPlacesSpec)

/-- 'gloaminglaw05.RulesBands', WHERE WHAT IT READS IS OF BULK AT MOST 1048576: true; the input reads as it did. -/
def rulesBandsUptoRow : OpenClaim := { program := "ytcbhbdadahlbfaa", sum := "bd988c5da7b426c1850b98a12138c80e0c3aa537831e08dc6c56afe24475c010", func := "gloaming/gloaminglaw05.RulesBands", spec := "rulesBands", apart := false, narrowed := true }
def RulesBandsUptoSaid : Prop := rulesBandsUptoRow.holds Try.pinned (OpenSpec.upto rulesBandsSpec)

end Rows
end Go.Proofs.Ytcbhbdadahlbfaa
