/-
  DERIVED. GIVEN WITH THE SEED: THE CARDS: each row of YtjkojbaphdlhlaaDoorRows.lean that lists a variable, with what it lists TIED to the program's text (the seventh form; the later family's looks); each row that meets fmt, with fmt's text TOLD by the authors' own Lean function (tested against real Go, not proved from fmt's source: count such statements apart). THE CARD IS WHAT COUNTS. Prove the row's statement (the work); the ties are given (YtjkojbaphdlhlaaDoorTie.lean); close each card by the builder's one call (the guide's Derived/Test/ToyasCard.lean, 'card_holds'). Laid BY PROGRAM, IN A SANDBOX (cutbox-door.mjs). By AI agents, Wed Nov 11 2026. No macro, syntax, notation, axiom, sorry.
-/
import Derived.Test.YtjkojbaphdlhlaaDoorRows
import GoSem.ClaimSeven
namespace Go.Proofs.YtjkojbaphdlhlaaDoor
namespace Rows

/-- THE TIED CARD OF 'gloaminglaw02.FieldPacks'. -/
def fieldPacksCard : Claim7 := { stood := { row := fieldPacksRow, standIns := [], harness := (true, "3308c582ee8c3661959282591316935215ec1f196a816163d11a4f6637c3fb33"), looks := true }, kinds := [], alts := [], laidByText := true, laidKinds := [.handle], laidTests := true, laidLooks := .later }
def FieldPacksCardSaid : Prop := Claim7.holds Tryd.pinned (.plain (OpenSpec.ofChange fieldPacksSpec)) fieldPacksCard

/-- THE TIED CARD OF 'gloaminglaw03.MemPlays'. -/
def memPlaysCard : Claim7 := { stood := { row := memPlaysRow, standIns := [], harness := (true, "3308c582ee8c3661959282591316935215ec1f196a816163d11a4f6637c3fb33"), looks := true }, kinds := [], alts := [], laidByText := true, laidKinds := [.handle], laidTests := true, laidLooks := .later }
def MemPlaysCardSaid : Prop := Claim7.holds Tryd.pinned (.plain (OpenSpec.ofChange memPlaysSpec)) memPlaysCard

/-- THE TIED CARD OF 'gloaminglaw05.RulesCounts'. -/
def rulesCountsCard : Claim7 := { stood := { row := rulesCountsRow, standIns := [], harness := (true, "3308c582ee8c3661959282591316935215ec1f196a816163d11a4f6637c3fb33"), looks := true }, kinds := [], alts := [], laidByText := true, laidKinds := [.handle], laidTests := true, laidLooks := .later }
def RulesCountsCardSaid : Prop := Claim7.holds Tryd.pinned (.plain (OpenSpec.ofChange rulesCountsSpec)) rulesCountsCard

/-- THE SECOND FORM's CARD OF 'gloaminglaw02.FieldPacks'. -/
def fieldPacksUptoCard : Claim7 := { stood := { row := fieldPacksUptoRow, standIns := [], harness := (true, "3308c582ee8c3661959282591316935215ec1f196a816163d11a4f6637c3fb33"), looks := true }, kinds := [], alts := [], laidByText := true, laidKinds := [.handle], laidTests := true, laidLooks := .later }
def FieldPacksUptoCardSaid : Prop := Claim7.holds Tryd.pinned (.plain (OpenSpec.upto fieldPacksSpec)) fieldPacksUptoCard

/-- THE SECOND FORM's CARD OF 'gloaminglaw03.MemPlays'. -/
def memPlaysUptoCard : Claim7 := { stood := { row := memPlaysUptoRow, standIns := [], harness := (true, "3308c582ee8c3661959282591316935215ec1f196a816163d11a4f6637c3fb33"), looks := true }, kinds := [], alts := [], laidByText := true, laidKinds := [.handle], laidTests := true, laidLooks := .later }
def MemPlaysUptoCardSaid : Prop := Claim7.holds Tryd.pinned (.plain (OpenSpec.upto memPlaysSpec)) memPlaysUptoCard

/-- THE SECOND FORM's CARD OF 'gloaminglaw05.RulesCounts'. -/
def rulesCountsUptoCard : Claim7 := { stood := { row := rulesCountsUptoRow, standIns := [], harness := (true, "3308c582ee8c3661959282591316935215ec1f196a816163d11a4f6637c3fb33"), looks := true }, kinds := [], alts := [], laidByText := true, laidKinds := [.handle], laidTests := true, laidLooks := .later }
def RulesCountsUptoCardSaid : Prop := Claim7.holds Tryd.pinned (.plain (OpenSpec.upto rulesCountsSpec)) rulesCountsUptoCard
end Rows
end Go.Proofs.YtjkojbaphdlhlaaDoor
