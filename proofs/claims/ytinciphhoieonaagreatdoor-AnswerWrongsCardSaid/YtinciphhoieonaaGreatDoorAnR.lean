/-
  A right reply is told to be right: all ways.
-/
import Derived.Test.YtinciphhoieonaaGreatDoorRows
import Derived.Test.YtinciphhoieonaaGreatDoorKit
import Derived.Test.YtinciphhoieonaaGreatDoorApp
import Derived.Test.YtinciphhoieonaaGreatDoorQuiet
import Derived.WalkKit
import Derived.ProofKit
import Derived.OpenShut
import Derived.ShutString
import Derived.Below
import Derived.Outline
import Derived.WalkLawsBesides
import Derived.WalkSpells
import Derived.Handy
import Derived.Deep.QuietTactic
import Derived.BigQuiet
import Derived.RegionTactic
import Derived.ChangeAlike
import Derived.Lib.Hide
import Derived.Laws.Rows
import Derived.Laws.Tables
import Derived.Laws.CopyOwn
import Derived.Laws.MakeOwn
import Derived.Laws.Entries
import Derived.Laws.OwnMore
import Derived.Deep.WholeRow
import Derived.Deep.LoopGhost
import Derived.Deep.AppendLies
import Derived.Deep.Draws
import Derived.Maps.AppendAt
import Derived.OwnWalk
import Derived.Deep.RegionHeld3
import Derived.Deep.Cut
import Derived.Deep.CutRange
import Derived.Deep.DeepCutAuto
import Derived.Deep.CutBlock
import Derived.Lib.SliceRun
import Derived.IntWalk
import Derived.Laws.Strings
import Derived.Lib.Bytealg
import Derived.Lib.Strings
import Derived.Laws.Externs
import Derived.Test.YtinciphhoieonaaGreatDoorAnB
namespace Go.Proofs.YtinciphhoieonaaGreatDoor
open Go.ChangeShapes Go.WideShapes Go.ChangeAt Go.RowKit
/-- A reply's cells. -/
def rv (r : Rp) (A : Option Addr) (cap : Nat) : List Value := [.int .i64 r.k, .int .i64 r.cd, .int .i64 r.t, .int .i64 r.i, .int .i64 r.c, .bool r.ask, .int .i64 r.r0, .int .i64 r.r1, .int .i64 r.r2, .int .i64 r.r3, .int .i64 r.r4, .int .i64 r.r5, .slice A r.L.length cap]
theorem right_is (r : Rp) (h : Rt r) (A : Option Addr) (cap : Nat) (w : World) (hL : LkAt A r.L w) (hl : r.L.length ≤ 1000) : Calls Tryz.prog 9 #[.agg (rv r A cap).toArray] w fun e w' => e = .returned (.bool true) ∧ Below w.heap.size w w' := by
  have hrec := h.recs
  have hlook := h.look
  obtain ⟨hk, ht, hcd, hi, hc, hi3, hc4, ha, _, _⟩ := h
  obtain ⟨k, cd, t, i, c, ask, r0, r1, r2, r3, r4, r5, L⟩ := r
  unfold rv
  simp only at hrec hlook hk ht hcd hi hc hi3 hc4 ha hL hl ⊢
  rcases hlook with rfl | ⟨hl1, hl2, hl3⟩
  · rcases hrec with ⟨rfl, rfl, rfl, rfl, rfl, rfl⟩ | ⟨p1, p2, p3, p4, p5, p6, rfl, rfl⟩
    · by_cases h1 : i = 0
      · subst h1
        by_cases h2 : c = 0
        · subst h2
          cases ask with
          | false => exact right_00000 k cd t A cap hk ht hcd w
          | true => exact right_00100 k cd t A cap hk ht hcd (ha rfl) w
        · cases ask with
          | false => exact right_01000 k cd t c A cap hk ht hcd (by omega) (hc4 h2) w
          | true => exact right_01100 k cd t c A cap hk ht hcd (by omega) (hc4 h2) (ha rfl) w
      · by_cases h2 : c = 0
        · subst h2
          cases ask with
          | false => exact right_10000 k cd t i A cap hk ht hcd (by omega) (hi3 h1) w
          | true => exact right_10100 k cd t i A cap hk ht hcd (by omega) (hi3 h1) (ha rfl) w
        · cases ask with
          | false => exact right_11000 k cd t i c A cap hk ht hcd (by omega) (hi3 h1) (by omega) (hc4 h2) w
          | true => exact right_11100 k cd t i c A cap hk ht hcd (by omega) (hi3 h1) (by omega) (hc4 h2) (ha rfl) w
    · have e1 : i = 0 := by
        by_cases h1 : i = 0
        · exact h1
        · have := hi3 h1; omega
      subst e1
      cases ask with
      | true => exfalso; have := ha rfl; omega
      | false =>
        by_cases h2 : c = 0
        · subst h2
          exact right_00010 k cd t r0 r1 r2 r3 A cap hk ht hcd ⟨p1, p2⟩ p3 p4 p5 p6 w
        · exact right_01010 k cd t c r0 r1 r2 r3 A cap hk ht hcd (by omega) (hc4 h2) ⟨p1, p2⟩ p3 p4 p5 p6 w
  · have e1 : i = 0 := by
      by_cases h1 : i = 0
      · exact h1
      · have := hi3 h1; omega
    have e2 : c = 0 := by
      by_cases h1 : c = 0
      · exact h1
      · have := hc4 h1; omega
    subst e1 e2
    cases ask with
    | true => exfalso; have := ha rfl; omega
    | false =>
      rcases hrec with ⟨rfl, rfl, rfl, rfl, rfl, rfl⟩ | ⟨p1, _⟩
      · by_cases h0 : 0 < L.length
        · exact right_00001 k cd t A L cap hk ht hcd ⟨hl1, hl2⟩ h0 hl hl3 w hL
        · have : L = [] := List.eq_nil_of_length_eq_zero (by omega)
          subst this
          exact right_00000 k cd t A cap hk ht hcd w
      · exfalso; omega

end Go.Proofs.YtinciphhoieonaaGreatDoor
