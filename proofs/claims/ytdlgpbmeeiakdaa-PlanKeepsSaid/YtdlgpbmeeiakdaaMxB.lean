/-
  The first row that has come to its end.
-/
import Derived.Test.YtdlgpbmeeiakdaaRows
import Derived.Test.YtdlgpbmeeiakdaaKit
import Derived.Test.YtdlgpbmeeiakdaaApp
import Derived.Test.YtdlgpbmeeiakdaaEv
import Derived.Test.YtdlgpbmeeiakdaaEvP
import Derived.Test.YtdlgpbmeeiakdaaEvQ
import Derived.Test.YtdlgpbmeeiakdaaEvR
import Derived.Test.YtdlgpbmeeiakdaaQuiet
import Derived.Test.YtdlgpbmeeiakdaaPlA
import Derived.Test.YtdlgpbmeeiakdaaPlB
import Derived.Test.YtdlgpbmeeiakdaaPlF
import Derived.Test.YtdlgpbmeeiakdaaPlI
import Derived.Test.YtdlgpbmeeiakdaaMxA
import Derived.WalkKit
import Derived.ProofKit
import Derived.OpenShut
import Derived.ShutString
import Derived.Below
import Derived.Outline
import Derived.WalkLawsBesides
import Derived.WalkSpells
import Derived.Handy
import Derived.Deep.QuietTactic
import Derived.BigQuiet
import Derived.RegionTactic
import Derived.ChangeAlike
import Derived.Lib.Hide
import Derived.Laws.Rows
import Derived.Laws.Tables
import Derived.Laws.CopyOwn
import Derived.Laws.MakeOwn
import Derived.Laws.Entries
import Derived.Laws.OwnMore
import Derived.Deep.WholeRow
import Derived.Deep.LoopGhost
import Derived.Deep.AppendLies
import Derived.Deep.Draws
import Derived.Maps.AppendAt
import Derived.OwnWalk
import Derived.Deep.RegionHeld3
import Derived.Deep.Cut
import Derived.Deep.CutRange
import Derived.Deep.DeepCutAuto
import Derived.Deep.CutBlock
import Derived.Lib.SliceRun
import Derived.IntWalk
namespace Go.Proofs.Ytdlgpbmeeiakdaa
open Go.ChangeShapes Go.WideShapes Go.ChangeAt Go.RowKit
/-- The rows' values stand in block g. -/
def RIn (w : World) (g : Nat) (rs : List Rw) : Prop := g < w.heap.size ∧ ∀ (t : Nat) (r : Rw), rs[t]? = some r → w.cell? ⟨g, t, none⟩ = some r.v
theorem RIn.below {w w' : World} {g : Nat} {rs : List Rw} (h : RIn w g rs) (hb : Below w.heap.size w w') : RIn w' g rs :=
  ⟨Nat.lt_of_lt_of_le h.1 hb.size, fun t r hr => (hb.cell (p := ⟨g, t, none⟩) h.1).trans (h.2 t r hr)⟩
set_option maxRecDepth 100000 in
set_option maxHeartbeats 2000000 in
theorem index_none (g cap ib i : Nat) (rs : List Rw) (w : World) (h : RIn w g rs) (hl : rs.length ≤ 1000) (hi : w.cell? ⟨ib, 0, none⟩ = some (.int .i64 (i : Int))) (hib : ib < w.heap.size) (hn : ∀ (t : Nat) (r : Rw), rs[t]? = some r → i < r.L.length) :
    Calls Try.prog 59 #[.slice (some ⟨g, 0, none⟩) rs.length cap, (.func (.func 51) #[] #[.pointer (some ⟨ib, 0, none⟩)])] w fun e w' => e = .returned (.int .i64 (-1)) ∧ Below w.heap.size w w' := by
  have H := Lib.hid h
  have HN := Lib.hid hn
  have HI := Lib.hid hi
  have HC := Lib.hid (fun (r : Rw) W (h : W.cell? ⟨ib, 0, none⟩ = some (.int .i64 (i : Int))) => clo_is r ib i W h)
  clear h hn hi
  go_enter Try.func59, Try.ntmps59
  go_wp2_with fail
  go_loopw [8] (fun j wr => ∃ k : Nat, k ≤ rs.length ∧ j = .int .i64 (k : Int) ∧ Below w.heap.size w wr) (fun j _ => rs.length + 1 - (intOf j).toNat)
  case atStart => exact ⟨0, Nat.zero_le _, rfl, Below.refl _ _⟩
  case round =>
    obtain ⟨k, hk, rfl, hB⟩ := hrel
    have k0 : (0 : Int) ≤ (k : Int) := by omega
    by_cases hlt : k < rs.length
    · have k1 : (k : Int) < (rs.length : Int) := by omega
      have k2 : (rs.length : Int) ≤ 1000 := by omega
      obtain ⟨r, hr⟩ : ∃ e, rs[k]? = some e := ⟨_, List.getElem?_eq_getElem hlt⟩
      have hc := (H.out.below hB).2 k r hr
      have hlen := HN.out k r hr
      have hcl := (hB.cell (p := ⟨ib, 0, none⟩) hib).trans HI.out
      have HCR := Lib.hid (HC.out r wr hcl)
      have hdd : decide (r.L.length ≤ i) = false := decide_eq_false (by omega)
      clear hr hcl
      go_wp2_with fail
      refine HCR.out.mono ?_
      rintro e w2 ⟨rfl, hb2⟩
      rw [hdd]
      have hB2 := Below.step hB hb2
      go_wp2_with fail
      go_roundw
      case rel => exact ⟨k + 1, by omega, by go_num, hB2⟩
      case measure => simp [intOf]; omega
    · obtain rfl : k = rs.length := by omega
      have hd : decide ((rs.length : Int) < (rs.length : Int)) = false := decide_eq_false (by omega)
      go_wp2_with fail
      go_ret
      exact ⟨rfl, hB⟩
set_option maxRecDepth 100000 in
set_option maxHeartbeats 2000000 in
theorem index_some (g cap ib i q : Nat) (rs : List Rw) (r0 : Rw) (w : World) (h : RIn w g rs) (hl : rs.length ≤ 1000) (hi : w.cell? ⟨ib, 0, none⟩ = some (.int .i64 (i : Int))) (hib : ib < w.heap.size) (hq : rs[q]? = some r0) (hq0 : r0.L.length ≤ i) (hn : ∀ (t : Nat) (r : Rw), t < q → rs[t]? = some r → i < r.L.length) :
    Calls Try.prog 59 #[.slice (some ⟨g, 0, none⟩) rs.length cap, (.func (.func 51) #[] #[.pointer (some ⟨ib, 0, none⟩)])] w fun e w' => e = .returned (.int .i64 (q : Int)) ∧ Below w.heap.size w w' := by
  have H := Lib.hid h
  have HN := Lib.hid hn
  have HI := Lib.hid hi
  have hql : q < rs.length := (List.getElem?_eq_some_iff.1 hq).1
  have HQ := Lib.hid hq
  have HC := Lib.hid (fun (r : Rw) W (h : W.cell? ⟨ib, 0, none⟩ = some (.int .i64 (i : Int))) => clo_is r ib i W h)
  clear h hn hi hq
  go_enter Try.func59, Try.ntmps59
  go_wp2_with fail
  go_loopw [8] (fun j wr => ∃ k : Nat, k ≤ q ∧ j = .int .i64 (k : Int) ∧ Below w.heap.size w wr) (fun j _ => q + 1 - (intOf j).toNat)
  case atStart => exact ⟨0, Nat.zero_le _, rfl, Below.refl _ _⟩
  case round =>
    obtain ⟨k, hk, rfl, hB⟩ := hrel
    have k0 : (0 : Int) ≤ (k : Int) := by omega
    have k1 : (k : Int) < (rs.length : Int) := by omega
    have k2 : (rs.length : Int) ≤ 1000 := by omega
    obtain ⟨r, hr⟩ : ∃ e, rs[k]? = some e := ⟨_, List.getElem?_eq_getElem (by omega)⟩
    have hc := (H.out.below hB).2 k r hr
    have hcl := (hB.cell (p := ⟨ib, 0, none⟩) hib).trans HI.out
    have HCR := Lib.hid (HC.out r wr hcl)
    by_cases hlt : k < q
    · have hlen := HN.out k r hlt hr
      have hdd : decide (r.L.length ≤ i) = false := decide_eq_false (by omega)
      clear hr hcl
      go_wp2_with fail
      refine HCR.out.mono ?_
      rintro e w2 ⟨rfl, hb2⟩
      rw [hdd]
      have hB2 := Below.step hB hb2
      go_wp2_with fail
      go_roundw
      case rel => exact ⟨k + 1, by omega, by go_num, hB2⟩
      case measure => simp [intOf]; omega
    · obtain rfl : q = k := by omega
      have hrr : r = r0 := by rw [HQ.out] at hr; injection hr with hr; exact hr.symm
      subst hrr
      have hdd : decide (r.L.length ≤ i) = true := decide_eq_true hq0
      clear hr hcl
      go_wp2_with fail
      refine HCR.out.mono ?_
      rintro e w2 ⟨rfl, hb2⟩
      rw [hdd]
      have hB2 := Below.step hB hb2
      go_wp2_with fail
      go_ret
      exact ⟨rfl, hB2⟩
end Go.Proofs.Ytdlgpbmeeiakdaa
