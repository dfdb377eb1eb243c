/-
  DERIVED. GIVEN WITH THE SEED: THE CARDS: each row of YtdjdpbgemdmpiaaDoorRows.lean that lists a variable, with what it lists TIED to the program's text (the seventh form; the later family's looks); each row that meets fmt, with fmt's text TOLD by the authors' own Lean function (tested against real Go, not proved from fmt's source: count such statements apart). THE CARD IS WHAT COUNTS. Prove the row's statement (the work); the ties are given (YtdjdpbgemdmpiaaDoorTie.lean); close each card by the builder's one call (the guide's Derived/Test/ToyasCard.lean, 'card_holds'). Laid BY PROGRAM, IN A SANDBOX (cutbox-door.mjs). By AI agents, Wed Nov 11 2026. No macro, syntax, notation, axiom, sorry.
-/
import Derived.Test.YtdjdpbgemdmpiaaDoorRows
import GoSem.ClaimSeven
namespace Go.Proofs.YtdjdpbgemdmpiaaDoor
namespace Rows

/-- THE TIED CARD OF 'gloaminglaw01.FaultWraps'. -/
def faultWrapsCard : Claim7 := { stood := { row := faultWrapsRow, standIns := [], harness := (true, "4d2c1256137214e69d91b700fc8de221a5894abc35443fc3e0c16d52bd9b1ce5"), looks := true }, kinds := [], alts := [], laidByText := true, laidKinds := [.handle], laidTests := true, laidLooks := .later }
def FaultWrapsCardSaid : Prop := Claim7.holds Tryd.pinned (.plain (OpenSpec.ofChange faultWrapsSpec)) faultWrapsCard

/-- THE TIED CARD OF 'gloaminglaw01.FaultMany'. -/
def faultManyCard : Claim7 := { stood := { row := faultManyRow, standIns := [], harness := (true, "4d2c1256137214e69d91b700fc8de221a5894abc35443fc3e0c16d52bd9b1ce5"), looks := true }, kinds := [], alts := [], laidByText := true, laidKinds := [.handle], laidTests := true, laidLooks := .later }
def FaultManyCardSaid : Prop := Claim7.holds Tryd.pinned (.plain (OpenSpec.ofChange faultManySpec)) faultManyCard

/-- THE TIED CARD OF 'gloaminglaw01.FaultDeep'. -/
def faultDeepCard : Claim7 := { stood := { row := faultDeepRow, standIns := [], harness := (true, "4d2c1256137214e69d91b700fc8de221a5894abc35443fc3e0c16d52bd9b1ce5"), looks := true }, kinds := [], alts := [], laidByText := true, laidKinds := [.handle], laidTests := true, laidLooks := .later }
def FaultDeepCardSaid : Prop := Claim7.holds Tryd.pinned (.plain (OpenSpec.ofChange faultDeepSpec)) faultDeepCard

/-- THE TIED CARD OF 'gloaminglaw03.MemPlays'. -/
def memPlaysCard : Claim7 := { stood := { row := memPlaysRow, standIns := [], harness := (true, "4d2c1256137214e69d91b700fc8de221a5894abc35443fc3e0c16d52bd9b1ce5"), looks := true }, kinds := [], alts := [], laidByText := true, laidKinds := [.handle], laidTests := true, laidLooks := .later }
def MemPlaysCardSaid : Prop := Claim7.holds Tryd.pinned (.plain (OpenSpec.ofChange memPlaysSpec)) memPlaysCard

/-- THE TIED CARD OF 'gloaminglaw05.RulesCounts'. -/
def rulesCountsCard : Claim7 := { stood := { row := rulesCountsRow, standIns := [], harness := (true, "4d2c1256137214e69d91b700fc8de221a5894abc35443fc3e0c16d52bd9b1ce5"), looks := true }, kinds := [], alts := [], laidByText := true, laidKinds := [.handle], laidTests := true, laidLooks := .later }
def RulesCountsCardSaid : Prop := Claim7.holds Tryd.pinned (.plain (OpenSpec.ofChange rulesCountsSpec)) rulesCountsCard

/-- THE SECOND FORM's CARD OF 'gloaminglaw01.FaultWraps'. -/
def faultWrapsUptoCard : Claim7 := { stood := { row := faultWrapsUptoRow, standIns := [], harness := (true, "4d2c1256137214e69d91b700fc8de221a5894abc35443fc3e0c16d52bd9b1ce5"), looks := true }, kinds := [], alts := [], laidByText := true, laidKinds := [.handle], laidTests := true, laidLooks := .later }
def FaultWrapsUptoCardSaid : Prop := Claim7.holds Tryd.pinned (.plain (OpenSpec.upto faultWrapsSpec)) faultWrapsUptoCard

/-- THE SECOND FORM's CARD OF 'gloaminglaw01.FaultMany'. -/
def faultManyUptoCard : Claim7 := { stood := { row := faultManyUptoRow, standIns := [], harness := (true, "4d2c1256137214e69d91b700fc8de221a5894abc35443fc3e0c16d52bd9b1ce5"), looks := true }, kinds := [], alts := [], laidByText := true, laidKinds := [.handle], laidTests := true, laidLooks := .later }
def FaultManyUptoCardSaid : Prop := Claim7.holds Tryd.pinned (.plain (OpenSpec.upto faultManySpec)) faultManyUptoCard

/-- THE SECOND FORM's CARD OF 'gloaminglaw01.FaultDeep'. -/
def faultDeepUptoCard : Claim7 := { stood := { row := faultDeepUptoRow, standIns := [], harness := (true, "4d2c1256137214e69d91b700fc8de221a5894abc35443fc3e0c16d52bd9b1ce5"), looks := true }, kinds := [], alts := [], laidByText := true, laidKinds := [.handle], laidTests := true, laidLooks := .later }
def FaultDeepUptoCardSaid : Prop := Claim7.holds Tryd.pinned (.plain (OpenSpec.upto faultDeepSpec)) faultDeepUptoCard

/-- THE SECOND FORM's CARD OF 'gloaminglaw03.MemPlays'. -/
def memPlaysUptoCard : Claim7 := { stood := { row := memPlaysUptoRow, standIns := [], harness := (true, "4d2c1256137214e69d91b700fc8de221a5894abc35443fc3e0c16d52bd9b1ce5"), looks := true }, kinds := [], alts := [], laidByText := true, laidKinds := [.handle], laidTests := true, laidLooks := .later }
def MemPlaysUptoCardSaid : Prop := Claim7.holds Tryd.pinned (.plain (OpenSpec.upto memPlaysSpec)) memPlaysUptoCard

/-- THE SECOND FORM's CARD OF 'gloaminglaw05.RulesCounts'. -/
def rulesCountsUptoCard : Claim7 := { stood := { row := rulesCountsUptoRow, standIns := [], harness := (true, "4d2c1256137214e69d91b700fc8de221a5894abc35443fc3e0c16d52bd9b1ce5"), looks := true }, kinds := [], alts := [], laidByText := true, laidKinds := [.handle], laidTests := true, laidLooks := .later }
def RulesCountsUptoCardSaid : Prop := Claim7.holds Tryd.pinned (.plain (OpenSpec.upto rulesCountsSpec)) rulesCountsUptoCard
end Rows
end Go.Proofs.YtdjdpbgemdmpiaaDoor
