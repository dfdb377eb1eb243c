/-
  FaultDeep: the walk.
-/
import Derived.Test.YtdjdpbgemdmpiaaDoorRows
import Derived.Test.YtdjdpbgemdmpiaaDoorKit
import Derived.Test.YtdjdpbgemdmpiaaDoorAsF
import Derived.Test.YtdjdpbgemdmpiaaDoorAsC
import Derived.Test.YtdjdpbgemdmpiaaDoorAsD
import Derived.Test.YtdjdpbgemdmpiaaDoorAsE
import Derived.Test.YtdjdpbgemdmpiaaDoorApp
import Derived.Test.YtdjdpbgemdmpiaaDoorAsG
import Derived.Test.YtdjdpbgemdmpiaaDoorWraps
import Derived.Deep.Slices
import Derived.Deep.Fields
import Derived.ChangeSame
import Derived.Deep.RegionLaw
import Derived.Deep.AppendLies
import Derived.WalkKit
import Derived.ProofKit
import Derived.OpenShut
import Derived.ShutString
import Derived.Below
import Derived.Outline
import Derived.WalkLawsBesides
import Derived.WalkSpells
import Derived.Handy
import Derived.Deep.QuietTactic
import Derived.BigQuiet
import Derived.RegionTactic
import Derived.ChangeAlike
import Derived.Lib.Hide
import Derived.Deep.LoopGhost
import Derived.Deep.RegionHeld3
import Derived.Deep.Cut
import Derived.Deep.CutRange
import Derived.Deep.DeepCutAuto
import Derived.Deep.CutBlock
import Derived.Deep.RegionLaw
import Derived.LaidEql
import Derived.Stop.Asserts
import Derived.RowKitTokens
import Derived.Defers
import Derived.Recover
namespace Go.Proofs.YtdjdpbgemdmpiaaDoor
open Go.ChangeShapes Go.WideShapes Go.ChangeAt Go.RowKit
def plN (l : List Wr) : Int := (firstPl l).getD 0
def plB (l : List Wr) : Bool := (firstPl l).isSome
theorem place_is (l : List Wr) (c : Int) (v : Value) (w : World) (h : Ch w c l v) (hg : w.cell? ⟨0, 0, none⟩ = some (.iface 127 (.agg #[.pointer (some ⟨1, 25, none⟩)]))) (hgl : 0 < w.heap.size) : Calls Tryd.prog 10 #[v] w fun e w' => e = .returned (.tuple #[.int .i64 (plN l), .bool (plB l)]) ∧ Below w.heap.size w w' := by
  unfold plN plB
  cases hf : firstPl l with
  | none => exact place_none l c v w h hg hgl hf
  | some n => exact place_some n l c v w h hg hgl hf
def WordsAt (L : List ByteArray) (e : Ending) (w w' : World) : Prop := ∃ A cp, e = .returned (.slice A L.length cp) ∧ (∀ s r, L = s :: r → ∃ g, A = some ⟨g, 0, none⟩ ∧ g < w'.heap.size ∧ w'.cell? ⟨g, 0, none⟩ = some (.string s)) ∧ Below w.heap.size w w'
theorem words_at (l : List Wr) (L : List ByteArray) (hL : wos l = L) (c : Int) (v : Value) (w : World) (h : Ch w c l v) (hg : w.cell? ⟨0, 0, none⟩ = some (.iface 127 (.agg #[.pointer (some ⟨1, 25, none⟩)]))) (hgl : 0 < w.heap.size) (hl : L.length ≤ 1000) : Calls Tryd.prog 12 #[v] w fun e w' => WordsAt L e w w' := by
  subst hL
  refine (words_is l c v w h hg hgl hl).mono fun e w' ⟨r, he, hr, hb⟩ => ?_
  obtain ⟨A, cp, rfl⟩ := own_shape hr
  refine ⟨A, cp, he, fun s t hst => ?_, hb⟩
  obtain ⟨g, cap, hv, hg1, hg2⟩ := World.ownsRow.form hr (by rw [hst]; exact Nat.succ_pos _)
  have hA : A = some ⟨g, 0, none⟩ := by injection hv
  subst hA
  refine ⟨g, rfl, hg2, ?_⟩
  have hc := World.ownsRow.cells hr (g := g) rfl 0 (.string s) (by rw [hst]; rfl)
  exact hc
set_option maxHeartbeats 2000000 in
theorem awake01 (w : World) (hg : w.cell? ⟨0, 0, none⟩ = some (.iface 127 (.agg #[.pointer (some ⟨1, 25, none⟩)]))) (hgl : 0 < w.heap.size) : Calls Tryd.prog 8 #[] w fun e w' => e = .returned (.bool true) ∧ Below w.heap.size w w' := by
  have HGG := Lib.hid hg
  clear hg
  go_enter Tryd.func8, Tryd.ntmps8
  go_wp2_with fail
  refine (at_ch 3 [] 27 _ _ rfl).mono ?_
  rintro e w1 ⟨v, rfl, hc1, hb1⟩
  obtain ⟨T, x, hx⟩ := hc1.iface
  subst hx
  have HC1 := Lib.hid hc1
  have HB1 := Lib.hid hb1
  have HG1 := Lib.hid ((hb1.cell (p := ⟨0, 0, none⟩) hgl).trans HGG.out)
  have hl1 := Nat.lt_of_lt_of_le hgl hb1.size
  clear hc1 hb1
  go_wp2_with fail
  refine (place_some 3 _ _ _ _ HC1.out HG1.out hl1 rfl).mono ?_
  rintro e w2 ⟨rfl, hb2⟩
  have HC2 := Lib.hid (HC1.out.below hb2)
  have HB2 := Lib.hid (Below.step HB1.out hb2)
  have HG2 := Lib.hid ((hb2.cell (p := ⟨0, 0, none⟩) hl1).trans HG1.out)
  have hl2 := Nat.lt_of_lt_of_le hl1 hb2.size
  clear hb2
  go_wp2_with fail
  refine (code_is _ _ _ _ HC2.out HG2.out hl2).mono ?_
  rintro e w3 ⟨rfl, hb3⟩
  have HB3 := Lib.hid (Below.step HB2.out hb3)
  clear hb3
  go_wp2_with fail
  refine (at_nil 3 _).mono ?_
  rintro e w4 ⟨rfl, rfl⟩
  go_wp2
  go_ret
  exact ⟨rfl, HB3.out⟩
end Go.Proofs.YtdjdpbgemdmpiaaDoor
