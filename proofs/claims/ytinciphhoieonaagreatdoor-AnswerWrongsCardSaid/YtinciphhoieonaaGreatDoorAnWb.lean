/-
  Wrong.
-/
import Derived.Test.YtinciphhoieonaaGreatDoorRows
import Derived.Test.YtinciphhoieonaaGreatDoorKit
import Derived.Test.YtinciphhoieonaaGreatDoorApp
import Derived.Test.YtinciphhoieonaaGreatDoorQuiet
import Derived.WalkKit
import Derived.ProofKit
import Derived.OpenShut
import Derived.ShutString
import Derived.Below
import Derived.Outline
import Derived.WalkLawsBesides
import Derived.WalkSpells
import Derived.Handy
import Derived.Deep.QuietTactic
import Derived.BigQuiet
import Derived.RegionTactic
import Derived.ChangeAlike
import Derived.Lib.Hide
import Derived.Laws.Rows
import Derived.Laws.Tables
import Derived.Laws.CopyOwn
import Derived.Laws.MakeOwn
import Derived.Laws.Entries
import Derived.Laws.OwnMore
import Derived.Deep.WholeRow
import Derived.Deep.LoopGhost
import Derived.Deep.AppendLies
import Derived.Deep.Draws
import Derived.Maps.AppendAt
import Derived.OwnWalk
import Derived.Deep.RegionHeld3
import Derived.Deep.Cut
import Derived.Deep.CutRange
import Derived.Deep.DeepCutAuto
import Derived.Deep.CutBlock
import Derived.Lib.SliceRun
import Derived.IntWalk
import Derived.Laws.Strings
import Derived.Lib.Bytealg
import Derived.Lib.Strings
import Derived.Laws.Externs
import Derived.Test.YtinciphhoieonaaGreatDoorAnD
import Derived.Test.YtinciphhoieonaaGreatDoorAnJ
import Derived.Test.YtinciphhoieonaaGreatDoorNsE
import Derived.Test.YtinciphhoieonaaGreatDoorNsD
import Derived.Test.YtinciphhoieonaaGreatDoorNsC
import Derived.Test.YtinciphhoieonaaGreatDoorNsF
namespace Go.Proofs.YtinciphhoieonaaGreatDoor
open Go.ChangeShapes Go.WideShapes Go.ChangeAt Go.RowKit
theorem itoa_int (x : Int) (h : -9223372036854775808 ≤ x ∧ x ≤ 9223372036854775807) (w : World) (ht : Tb w) : Calls Tryz.prog 21 #[.int .i64 x] w fun e w' => e = .returned (.string (Bs (itl x))) ∧ Below w.heap.size w w' :=
  (Any.strconv_Itoa laysM171 x (by omega) (by omega) w ht.tab).mono fun e w' ⟨h1, k, os, h2⟩ => by
    refine ⟨?_, by rw [h2]; exact grow_bel _ _ _⟩
    rw [h1]
    have : Lib.itoa x = itl x := by
      unfold Lib.itoa itl
      split <;> rw [dcl_dec]
    rw [this]; rfl
/-- The line that answers one that asks nothing. -/
def wl (tick code at_ : Int) : ByteArray := Bs (itl tick) ++ ⟨#[32, 119, 114, 111, 110, 103, 32]⟩ ++ Bs (itl code) ++ ⟨#[32, 97, 116, 32]⟩ ++ Bs (itl at_)
set_option maxRecDepth 100000 in
set_option maxHeartbeats 8000000 in
theorem rwrong_is (tick code at_ : Int) (h1 : -9223372036854775808 ≤ tick ∧ tick ≤ 9223372036854775807) (h2 : -9223372036854775808 ≤ code ∧ code ≤ 9223372036854775807) (h3 : -9223372036854775808 ≤ at_ ∧ at_ ≤ 9223372036854775807) (w : World) : Calls Tryz.prog 18 #[.int .i64 tick, .int .i64 code, .int .i64 at_] w fun e w' => e = .returned (.string (wl tick code at_)) ∧ Below w.heap.size w w' := by
  have l1 := itl_len tick h1.1 h1.2
  have l2 := itl_len code h2.1 h2.2
  have l3 := itl_len at_ h3.1 h3.2
  have b1 := Bs_size (itl tick)
  have b2 := Bs_size (itl code)
  have b3 := Bs_size (itl at_)
  have H := Lib.hid (And.intro h1 (And.intro h2 h3))
  clear h1 h2 h3
  go_enter Tryz.func18, Tryz.ntmps18
  go_wp2_with fail
  refine (decimal_any tick H.out.1.1 H.out.1.2 _).mono ?_
  rintro e1 w1 ⟨rfl, hb1⟩
  have HB1 := Lib.hid hb1
  clear hb1
  go_wp2_with fail
  refine (decimal_any code H.out.2.1.1 H.out.2.1.2 _).mono ?_
  rintro e2 w2 ⟨rfl, hb2⟩
  have HB2 := Lib.hid (Below.step HB1.out hb2)
  clear hb2
  go_wp2_with fail
  refine (decimal_any at_ H.out.2.2.1 H.out.2.2.2 _).mono ?_
  rintro e3 w3 ⟨rfl, hb3⟩
  have HB3 := Lib.hid (Below.step HB2.out hb3)
  clear hb3
  go_wp2_with fail
  go_ret
  exact ⟨rfl, HB3.out⟩
set_option maxRecDepth 100000 in
set_option maxHeartbeats 8000000 in
theorem wrong_bare (tick code : Int) (h1 : -9223372036854775808 ≤ tick ∧ tick ≤ 9223372036854775807) (h2 : -9223372036854775808 ≤ code ∧ code ≤ 9223372036854775807) (v : Value) (w : World) (hc : Ch w code [] v) (hg : w.cell? ⟨1, 0, none⟩ = some (.iface 100 (.agg #[.pointer (some ⟨10, 35, none⟩)]))) (hgl : 1 < w.heap.size) (ht : Tb w) : Calls Tryz.prog 17 #[.int .i64 tick, v] w fun e w' => e = .returned (.string (wl tick code 0)) ∧ Below w.heap.size w w' := by
  have l1 := itl_len tick h1.1 h1.2
  have l2 := itl_len code h2.1 h2.2
  have l3 := itl_len 0 (by decide) (by decide)
  have b1 := Bs_size (itl tick)
  have b2 := Bs_size (itl code)
  have b3 := Bs_size (itl 0)
  have H := Lib.hid (And.intro h1 (And.intro h2 (show -9223372036854775808 ≤ (0 : Int) ∧ (0 : Int) ≤ 9223372036854775807 from ⟨by decide, by decide⟩)))
  have HC := Lib.hid hc
  have HG := Lib.hid hg
  have HGL := Lib.hid hgl
  have HT := Lib.hid ht
  clear h1 h2  hc hg hgl ht
  go_enter Tryz.func17, Tryz.ntmps17
  go_wp2_with fail
  refine (place_none [] code v w HC.out HG.out HGL.out rfl).mono ?_
  rintro e1 w1 ⟨rfl, hb1⟩
  have HB1 := Lib.hid hb1
  clear hb1
  go_wp2_with fail
  refine (itoa_int tick H.out.1 _ (HT.out.below HB1.out)).mono ?_
  rintro e2 w2 ⟨rfl, hb2⟩
  have HB2 := Lib.hid (Below.step HB1.out hb2)
  clear hb2
  go_wp2_with fail
  refine (code_is [] code v _ (HC.out.below HB2.out) ((HB2.out.cell (p := ⟨1, 0, none⟩) HGL.out).trans HG.out) (Nat.lt_of_lt_of_le HGL.out HB2.out.size)).mono ?_
  rintro e3 w3 ⟨rfl, hb3⟩
  have HB3 := Lib.hid (Below.step HB2.out hb3)
  clear hb3
  go_wp2_with fail
  refine (itoa_int code H.out.2.1 _ (HT.out.below HB3.out)).mono ?_
  rintro e4 w4 ⟨rfl, hb4⟩
  have HB4 := Lib.hid (Below.step HB3.out hb4)
  clear hb4
  go_wp2_with fail
  refine (itoa_int 0 H.out.2.2 _ (HT.out.below HB4.out)).mono ?_
  rintro e5 w5 ⟨rfl, hb5⟩
  have HB5 := Lib.hid (Below.step HB4.out hb5)
  clear hb5
  go_wp2_with fail
  go_ret
  exact ⟨rfl, HB5.out⟩
set_option maxRecDepth 100000 in
set_option maxHeartbeats 8000000 in
theorem wrong_at (tick code at_ : Int) (h1 : -9223372036854775808 ≤ tick ∧ tick ≤ 9223372036854775807) (h2 : -9223372036854775808 ≤ code ∧ code ≤ 9223372036854775807) (h3 : -9223372036854775808 ≤ at_ ∧ at_ ≤ 9223372036854775807) (v : Value) (w : World) (hc : Ch w code [.pl at_] v) (hg : w.cell? ⟨1, 0, none⟩ = some (.iface 100 (.agg #[.pointer (some ⟨10, 35, none⟩)]))) (hgl : 1 < w.heap.size) (ht : Tb w) : Calls Tryz.prog 17 #[.int .i64 tick, v] w fun e w' => e = .returned (.string (wl tick code at_)) ∧ Below w.heap.size w w' := by
  have l1 := itl_len tick h1.1 h1.2
  have l2 := itl_len code h2.1 h2.2
  have l3 := itl_len at_ h3.1 h3.2
  have b1 := Bs_size (itl tick)
  have b2 := Bs_size (itl code)
  have b3 := Bs_size (itl at_)
  have H := Lib.hid (And.intro h1 (And.intro h2 (show -9223372036854775808 ≤ at_ ∧ at_ ≤ 9223372036854775807 from h3)))
  have HC := Lib.hid hc
  have HG := Lib.hid hg
  have HGL := Lib.hid hgl
  have HT := Lib.hid ht
  clear h1 h2 h3 hc hg hgl ht
  go_enter Tryz.func17, Tryz.ntmps17
  go_wp2_with fail
  refine (place_some at_ [.pl at_] code v w HC.out HG.out HGL.out rfl).mono ?_
  rintro e1 w1 ⟨rfl, hb1⟩
  have HB1 := Lib.hid hb1
  clear hb1
  go_wp2_with fail
  refine (itoa_int tick H.out.1 _ (HT.out.below HB1.out)).mono ?_
  rintro e2 w2 ⟨rfl, hb2⟩
  have HB2 := Lib.hid (Below.step HB1.out hb2)
  clear hb2
  go_wp2_with fail
  refine (code_is [.pl at_] code v _ (HC.out.below HB2.out) ((HB2.out.cell (p := ⟨1, 0, none⟩) HGL.out).trans HG.out) (Nat.lt_of_lt_of_le HGL.out HB2.out.size)).mono ?_
  rintro e3 w3 ⟨rfl, hb3⟩
  have HB3 := Lib.hid (Below.step HB2.out hb3)
  clear hb3
  go_wp2_with fail
  refine (itoa_int code H.out.2.1 _ (HT.out.below HB3.out)).mono ?_
  rintro e4 w4 ⟨rfl, hb4⟩
  have HB4 := Lib.hid (Below.step HB3.out hb4)
  clear hb4
  go_wp2_with fail
  refine (itoa_int at_ H.out.2.2 _ (HT.out.below HB4.out)).mono ?_
  rintro e5 w5 ⟨rfl, hb5⟩
  have HB5 := Lib.hid (Below.step HB4.out hb5)
  clear hb5
  go_wp2_with fail
  go_ret
  exact ⟨rfl, HB5.out⟩

end Go.Proofs.YtinciphhoieonaaGreatDoor
