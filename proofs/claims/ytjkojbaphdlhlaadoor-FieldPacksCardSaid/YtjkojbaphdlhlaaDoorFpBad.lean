/-
  The walk of FieldPacks.
-/
import Derived.Test.YtjkojbaphdlhlaaDoorRows
import Derived.Test.YtjkojbaphdlhlaaDoorKit
import Derived.Test.YtjkojbaphdlhlaaDoorApp
import Derived.Test.YtjkojbaphdlhlaaDoorQuiet
import Derived.Test.YtjkojbaphdlhlaaDoorAsF
import Derived.Test.YtjkojbaphdlhlaaDoorAsC
import Derived.Test.YtjkojbaphdlhlaaDoorAsD
import Derived.Test.YtjkojbaphdlhlaaDoorAsE
import Derived.Test.YtjkojbaphdlhlaaDoorAsG
import Derived.Test.YtjkojbaphdlhlaaDoorWraps
import Derived.Test.YtjkojbaphdlhlaaDoorAwake1
import Derived.Test.YtjkojbaphdlhlaaDoorIsC
import Derived.Test.YtjkojbaphdlhlaaDoorFpLay
import Derived.Test.YtjkojbaphdlhlaaDoorFpAny
import Derived.Test.YtjkojbaphdlhlaaDoorFpGet
import Derived.Test.YtjkojbaphdlhlaaDoorFpRefTwo
import Derived.Test.YtjkojbaphdlhlaaDoorFpAwakeB
import Derived.Test.YtjkojbaphdlhlaaDoorFpAll
import Derived.Test.YtjkojbaphdlhlaaDoorFpCheck
import Derived.WalkKit
import Derived.ProofKit
import Derived.OpenShut
import Derived.ShutString
import Derived.Below
import Derived.Outline
import Derived.WalkLawsBesides
import Derived.WalkSpells
import Derived.Handy
import Derived.Deep.QuietTactic
import Derived.BigQuiet
import Derived.RegionTactic
import Derived.ChangeAlike
import Derived.Lib.Hide
import Derived.Laws.Rows
import Derived.Laws.Tables
import Derived.Laws.CopyOwn
import Derived.Deep.WholeRow
import Derived.Deep.LoopGhost
import Derived.Laws.BitsAllLaws
import Derived.Laws.BitsLemmas
import Derived.IntWalk
import Derived.Laws.MakeOwn
import Derived.Laws.Entries
import Derived.Deep.RegionLaw
import Derived.Deep.Cut
import Derived.Deep.CutRange
import Derived.Deep.DeepCutAuto
namespace Go.Proofs.YtjkojbaphdlhlaaDoor.Fp
set_option linter.unusedVariables false
set_option linter.unusedSimpArgs false
open Go.ChangeShapes Go.WideShapes Go.ChangeAt Go.RowKit
theorem AtF.ch {w w' : World} {c i : Int} {v : Value} (h : AtF w w' c i v) : Ch w' c [.pl i] v := by
  obtain ⟨pb, e, _, h1, h2, h3⟩ := h
  exact ⟨pb, _, e, h1, h2, h3, rfl⟩
theorem fields_is {cs : Array Value} {n : Nat} {s : Nat → Int} (hL : Lay cs n s) (w : World) : Calls Tryd.prog 12 #[.agg cs] w fun e w' => e = .returned (.int .i64 (n : Int)) ∧ Below w.heap.size w w' := by
  have c0 := lay_cell w 0 _ hL.cnt
  go_enter Tryd.func12, Tryd.ntmps12
  go_wp2
  go_ret
  exact ⟨rfl, by go_grown⟩
theorem row_at {B n : Nat} {z : Nat → Int} {w : World} (h : RowI w (some ⟨B, 0, none⟩) n z) (k : Nat) (hk : k < n) : B < w.heap.size ∧ w.cell? ⟨B, k, none⟩ = some (.int .i64 (z k)) := by
  obtain ⟨g, off, e, hg, hc, _, _⟩ := h k hk
  have e2 := Option.some.inj e
  injection e2 with e3 e4
  subst e3 e4
  rw [Nat.zero_add] at hc
  exact ⟨hg, hc⟩
set_option maxHeartbeats 1000000 in
theorem long0 (A C : Option Addr) (n cap m cap1 : Nat) (x i : Int) (w : World) (hn : 70 < n) :
    Calls Tryd.prog 3 #[.slice A n cap, .slice C m cap1, .int .u64 x, .int .i64 i] w fun e w' => e = .returned (.bool true) ∧ Below w.heap.size w w' := by
  go_enter Tryd.func3, Tryd.ntmps3
  go_wp2_with fail
  refine (dark02 A n cap _ hn).mono ?_
  rintro e w' ⟨rfl, rfl⟩
  go_wp2_with fail
  refine (awake02 _).mono ?_
  rintro e w1 ⟨rfl, hb1⟩
  go_wp2
  go_ret
  exact ⟨rfl, hb1⟩
set_option maxHeartbeats 1000000 in
theorem long1 (A C : Option Addr) (n cap m cap1 : Nat) (x i : Int) (w : World) (hn : n ≤ 70) (hm : 70 < m) :
    Calls Tryd.prog 3 #[.slice A n cap, .slice C m cap1, .int .u64 x, .int .i64 i] w fun e w' => e = .returned (.bool true) ∧ Below w.heap.size w w' := by
  have hd : decide ((70 : Int) < (m : Int)) = true := decide_eq_true (by omega)
  go_enter Tryd.func3, Tryd.ntmps3
  go_wp2_with fail
  refine (light02 A n cap _ hn).mono ?_
  rintro e w' ⟨rfl, rfl⟩
  go_wp2_with fail
  refine (awake02 _).mono ?_
  rintro e w1 ⟨rfl, hb1⟩
  go_wp2
  go_ret
  exact ⟨rfl, hb1⟩
set_option maxRecDepth 100000 in
set_option maxHeartbeats 4000000 in
theorem bad (A C : Option Addr) (n cap m cap1 : Nat) (ws : Nat → Int) (x i : Int) (c : Nat) (j : Int) (w : World) (hg : w.cell? ⟨0, 0, none⟩ = some (.iface 126 (.agg #[.pointer (some ⟨1, 30, none⟩)]))) (hgl : 0 < w.heap.size) (hn : n ≤ 70) (hm : m ≤ 70) (hc : c = 4 ∨ c = 5)
    (hN : ∀ W, RowI W A n ws → Calls Tryd.prog 8 #[.slice A n cap] W (NewBad c j W)) (hK : ∀ W, RowI W A n ws → Calls Tryd.prog 9 #[.slice A n cap] W fun e w' => e = .returned (.tuple #[.int .i64 c, .int .i64 j]) ∧ W = w') (hR : RowI w A n ws) :
    Calls Tryd.prog 3 #[.slice A n cap, .slice C m cap1, .int .u64 x, .int .i64 i] w fun e w' => e = .returned (.bool true) ∧ Below w.heap.size w w' := by
  have hd : decide ((70 : Int) < (m : Int)) = false := decide_eq_false (by omega)
  have hcc : ((c : Int) != (c : Int)) = false := by simp
  have hc0 : ((c : Int) != 0) = true := by rw [bne_iff_ne]; omega
  have hjj : ((j : Int) == (j : Int)) = true := by simp
  have hzero := zero70
  have HN := Lib.hid (hN w hR)
  have HK := Lib.hid hK
  have HR := Lib.hid hR
  have HG0 := Lib.hid hg
  have HC1 := Lib.hid (show 1 ≤ c by omega)
  have HC2 := Lib.hid (show c ≤ 29 by omega)
  clear hN hR hK hg hc
  go_enter Tryd.func3, Tryd.ntmps3
  go_wp2_with fail
  refine (light02 A n cap _ hn).mono ?_
  rintro e w' ⟨rfl, rfl⟩
  go_wp2_with fail
  refine HN.out.mono ?_
  rintro e w1 ⟨y, rfl, hat, hb1⟩
  have hz1 := hb1.size
  have HL0 := Lib.hid (lay_zero (fun _ => 0) rfl)
  have HSZ := Lib.hid (lay_info HL0.out)
  have HON := Lib.hid HL0.out.one
  have HG1 := Lib.hid (heap_alloc_new w1 (Obj.cells Z0 28))
  have HB2 := Lib.hid (hb1.alloc hz1 (Obj.cells Z0 28))
  have HB1 := Lib.hid hb1
  obtain ⟨T, X, hy⟩ := hat.ch.iface
  subst hy
  have hA1 : Below w1.heap.size w1 (w1.alloc (Obj.cells Z0 28)) := by go_grown
  have HCH := Lib.hid (hat.ch.below hA1)
  have hl2 : 0 < (w1.alloc (Obj.cells Z0 28)).heap.size := by simp
  have HGG := Lib.hid ((HB2.out.cell (p := ⟨0, 0, none⟩) hgl).trans HG0.out)
  clear hb1 hat hA1
  go_wp2_with (refine wpList_store_row rfl 28 _ _ rfl w1.heap.size Z0 rfl rfl 28 Z0 HG1.out HSZ.out rfl HON.out ?_; rw [World.setRow_alloc_new])
  refine (HK.out _ (row_below HR.out HB2.out)).mono ?_
  rintro e w' ⟨rfl, rfl⟩
  go_wp2_with fail
  refine (num_ch [.pl j] c HC1.out HC2.out (.iface T X) _ HCH.out).mono ?_
  rintro e w2 ⟨rfl, hb2⟩
  have HB3 := Lib.hid (Below.step HB2.out hb2)
  have HG3 := Lib.hid ((hb2.cell (p := ⟨0, 0, none⟩) hl2).trans HGG.out)
  have hl3 := Nat.lt_of_lt_of_le hl2 hb2.size
  have HCH3 := Lib.hid (HCH.out.below hb2)
  have HS3 := Lib.hid ((hb2.block _ (blk_lt HG1.out)).trans HG1.out)
  clear hb2
  go_wp2_with fail
  refine (place_some j [.pl j] c (.iface T X) _ HCH3.out HG3.out hl3 rfl).mono ?_
  rintro e w3 ⟨rfl, hb3⟩
  have HB4 := Lib.hid (Below.step HB3.out hb3)
  have HS4 := Lib.hid ((hb3.block _ (blk_lt HS3.out)).trans HS3.out)
  clear hb3
  go_wp2_with fail
  refine (awake02 _).mono ?_
  rintro e w4 ⟨rfl, hb4⟩
  have HB5 := Lib.hid (Below.step HB4.out hb4)
  have HS5 := Lib.hid ((hb4.block _ (blk_lt HS4.out)).trans HS4.out)
  clear hb4
  go_wp2_with (refine wpList_load_row_on rfl 28 _ rfl w1.heap.size rfl 28 _ (0, 0) _ HS5.out Tryd.underlying28 rfl HSZ.out ?_)
  refine (fields_is HL0.out _).mono ?_
  rintro e w5 ⟨rfl, hb5⟩
  have HB6 := Lib.hid (Below.step HB5.out hb5)
  clear hb5
  go_wp2
  go_ret
  exact ⟨rfl, HB6.out⟩
end Go.Proofs.YtjkojbaphdlhlaaDoor.Fp
