/-
  The law LineBack, walked.
-/
import Derived.Test.YtnppopeoloigeaaDoorRows
import Derived.Test.YtnppopeoloigeaaDoorKit
import Derived.Test.YtnppopeoloigeaaDoorApp
import Derived.Test.YtnppopeoloigeaaDoorQuiet
import Derived.WalkKit
import Derived.ProofKit
import Derived.OpenShut
import Derived.ShutString
import Derived.Below
import Derived.Outline
import Derived.WalkLawsBesides
import Derived.WalkSpells
import Derived.Handy
import Derived.Deep.QuietTactic
import Derived.BigQuiet
import Derived.RegionTactic
import Derived.ChangeAlike
import Derived.Lib.Hide
import Derived.Laws.Rows
import Derived.Laws.Tables
import Derived.Laws.CopyOwn
import Derived.Laws.MakeOwn
import Derived.Laws.Entries
import Derived.Laws.OwnMore
import Derived.Deep.WholeRow
import Derived.Deep.LoopGhost
import Derived.Deep.AppendLies
import Derived.Deep.Draws
import Derived.Maps.AppendAt
import Derived.OwnWalk
import Derived.Deep.RegionHeld3
import Derived.Deep.Cut
import Derived.Deep.CutRange
import Derived.Deep.DeepCutAuto
import Derived.Deep.CutBlock
import Derived.Lib.SliceRun
import Derived.IntWalk
import Derived.Laws.Strings
import Derived.Lib.Bytealg
import Derived.Lib.Strings
import Derived.Laws.Externs
import Derived.Test.YtnppopeoloigeaaDoorLnV
import Derived.Test.YtnppopeoloigeaaDoorLnCk
import Derived.Test.YtnppopeoloigeaaDoorLnDp
import Derived.Test.YtnppopeoloigeaaDoorLnX
import Derived.Test.YtnppopeoloigeaaDoorLnN
import Derived.Deep.RegionHeld3
namespace Go.Proofs.YtnppopeoloigeaaDoor
open Go.ChangeShapes Go.WideShapes Go.ChangeAt Go.RowKit
theorem eqlRef (c0 c1 c2 c3 c4 c5 c6 c7 c8 : Int) (w : World) : (binOp .eql 31 (.agg (List.toArray [.int .i64 c0, .int .i64 c1, .int .i64 c2, .int .i64 c3, .int .i64 c4, .int .i64 c5, .int .i64 c6, .int .i64 c7, .int .i64 c8])) (.agg (List.toArray [.int .i64 c0, .int .i64 c1, .int .i64 c2, .int .i64 c3, .int .i64 c4, .int .i64 c5, .int .i64 c6, .int .i64 c7, .int .i64 c8]))).run Tryd.prog w = .ok (.bool true) w := by
  simp only [binOp]
  simp [Op.equal, Op.maxDepth, eqRef c0 c1 c2 c3 c4 c5 c6 c7 c8 9997 w]
theorem pp_bad (c0 c1 c2 c3 c4 c5 c6 c7 c8 : Int) (x p : Int) (h : pt [c0, c1, c2, c3, c4, c5, c6, c7, c8] = .er x p) (w : World) (hv : Vb w) (ht : Tb w) : Calls Tryd.prog 15 #[.agg (List.toArray [.int .i64 c0, .int .i64 c1, .int .i64 c2, .int .i64 c3, .int .i64 c4, .int .i64 c5, .int .i64 c6, .int .i64 c7, .int .i64 c8])] w fun e w' => ∃ T y, e = .returned (.tuple #[.string ⟨#[]⟩, .iface T y]) ∧ Below w.heap.size w w' :=
  (print_is c0 c1 c2 c3 c4 c5 c6 c7 c8 w hv ht).mono fun e w' hp => by
    rw [h] at hp
    obtain ⟨v, ll, h1, h2, h3, h4⟩ := hp
    obtain ⟨T, y, rfl⟩ := h2.iface
    exact ⟨T, y, h1, h4⟩
theorem par_er (s : ByteArray) (hs : s.size ≤ 1000) (x p : Int) (h : lp s = .er x p) (w : World) (hv : Vb w) : Calls Tryd.prog 8 #[.string s] w fun e w' => ∃ b, e = .returned (.tuple #[.agg (List.toArray [.int .i64 0, .int .i64 0, .int .i64 0, .int .i64 0, .int .i64 0, .int .i64 0, .int .i64 0, .int .i64 0, .int .i64 0]), .iface 73 (.pointer (some ⟨b, 0, none⟩))]) ∧ Below w.heap.size w w' :=
  (parse_is s hs w hv).mono fun e w' hp => by
    rw [h] at hp
    obtain ⟨v, e1, ⟨b, e2, _⟩, hb⟩ := hp
    exact ⟨b, by rw [e1, e2], hb⟩
theorem par_ok (s : ByteArray) (hs : s.size ≤ 1000) (c0 c1 c2 c3 c4 c5 c6 c7 c8 : Int) (h : lp s = .ok [c0, c1, c2, c3, c4, c5, c6, c7, c8]) (w : World) (hv : Vb w) : Calls Tryd.prog 8 #[.string s] w fun e w' => e = .returned (.tuple #[.agg (List.toArray [.int .i64 c0, .int .i64 c1, .int .i64 c2, .int .i64 c3, .int .i64 c4, .int .i64 c5, .int .i64 c6, .int .i64 c7, .int .i64 c8]), .nilIface]) ∧ Below w.heap.size w w' :=
  (parse_is s hs w hv).mono fun e w' hp => by
    rw [h] at hp
    exact hp
set_option maxRecDepth 100000 in
set_option maxHeartbeats 16000000 in
theorem way_long (s : ByteArray) (c0 c1 c2 c3 c4 c5 c6 c7 c8 : Int) (w : World) (hw : Wd w) (h : 1000 < s.size) : Calls Tryd.prog 5 #[.string s, .agg (List.toArray [.int .i64 c0, .int .i64 c1, .int .i64 c2, .int .i64 c3, .int .i64 c4, .int .i64 c5, .int .i64 c6, .int .i64 c7, .int .i64 c8])] w fun e w' => e = .returned (.bool true) ∧ Below w.heap.size w w' := by
  have HA := Lib.hid (fun W hW => awake_is W hW)
  have HW := Lib.hid hw
  have g1 : (1000 : Int) < (s.size : Int) := by omega
  have gA : Below w.heap.size w (w.alloc (.cells (List.toArray [.int .i64 c0, .int .i64 c1, .int .i64 c2, .int .i64 c3, .int .i64 c4, .int .i64 c5, .int .i64 c6, .int .i64 c7, .int .i64 c8]) 31)) := by go_grown
  have HG := Lib.hid gA
  clear hw h gA
  go_enter Tryd.func5, Tryd.ntmps5
  go_wp2_with fail
  refine (HA.out _ (HW.out.below HG.out)).mono ?_
  rintro e w' ⟨rfl, hb⟩
  have HB := Lib.hid (Below.step HG.out hb)
  clear hb
  go_wp2_with fail
  go_ret
  exact ⟨rfl, HB.out⟩
set_option maxRecDepth 100000 in
set_option maxHeartbeats 16000000 in
theorem way_er_er (s : ByteArray) (c0 c1 c2 c3 c4 c5 c6 c7 c8 : Int) (w : World) (hw : Wd w) (ht0 : Tb w) (hs : s.size ≤ 1000) (x1 p1 : Int) (h1 : lp s = .er x1 p1) (x2 p2 : Int) (h2 : pt [c0, c1, c2, c3, c4, c5, c6, c7, c8] = .er x2 p2) : Calls Tryd.prog 5 #[.string s, .agg (List.toArray [.int .i64 c0, .int .i64 c1, .int .i64 c2, .int .i64 c3, .int .i64 c4, .int .i64 c5, .int .i64 c6, .int .i64 c7, .int .i64 c8])] w fun e w' => e = .returned (.bool true) ∧ Below w.heap.size w w' := by
  have HA := Lib.hid (fun W hW => awake_is W hW)
  have HW := Lib.hid hw
  have HT := Lib.hid ht0
  have HTO := Lib.hid (fun W => to_is c0 c1 c2 c3 c4 c5 c6 c7 c8 W)
  have g0 : decide ((1000 : Int) < (s.size : Int)) = false := decide_eq_false (by omega)
  have gA : Below w.heap.size w (w.alloc (.cells (List.toArray [.int .i64 c0, .int .i64 c1, .int .i64 c2, .int .i64 c3, .int .i64 c4, .int .i64 c5, .int .i64 c6, .int .i64 c7, .int .i64 c8]) 31)) := by go_grown
  have bA := Bl.new w [.int .i64 c0, .int .i64 c1, .int .i64 c2, .int .i64 c3, .int .i64 c4, .int .i64 c5, .int .i64 c6, .int .i64 c7, .int .i64 c8] 31
  have HG := Lib.hid (And.intro gA bA)
  have HP1 := Lib.hid (fun W hv => par_er s hs x1 p1 h1 W hv)
  have HQ2 := Lib.hid (fun W hv ht => pp_bad c0 c1 c2 c3 c4 c5 c6 c7 c8 x2 p2 h2 W hv ht)
  clear h1 h2 gA bA hw ht0 hs
  go_enter Tryd.func5, Tryd.ntmps5
  go_wp2_with fail
  refine (HP1.out _ (HW.out.below HG.out.1).vb).mono ?_
  rintro e1 w1 ⟨b1, rfl, hb1⟩
  have ga : Below w1.heap.size w1 (w1.alloc (.cells (List.toArray [.int .i64 0, .int .i64 0, .int .i64 0, .int .i64 0, .int .i64 0, .int .i64 0, .int .i64 0, .int .i64 0, .int .i64 0]) 26)) := by go_grown
  have hg1 := Below.step hb1 ga
  have ba := Bl.new w1 [.int .i64 0, .int .i64 0, .int .i64 0, .int .i64 0, .int .i64 0, .int .i64 0, .int .i64 0, .int .i64 0, .int .i64 0] 26
  have HG1 := Lib.hid (And.intro (Below.step HG.out.1 hg1) (And.intro (HG.out.2.below hg1) ba))
  clear ga hg1 ba hb1 HP1
  have bz := HG1.out.2.1
  have x0 := bz.cell 0 _ rfl
  have x1 := bz.cell 1 _ rfl
  have x2 := bz.cell 2 _ rfl
  have x3 := bz.cell 3 _ rfl
  have x4 := bz.cell 4 _ rfl
  have x5 := bz.cell 5 _ rfl
  have x6 := bz.cell 6 _ rfl
  have x7 := bz.cell 7 _ rfl
  have x8 := bz.cell 8 _ rfl
  clear bz
  have HG3 := Lib.hid (And.intro HG1.out.1 HG1.out.2.1)
  go_wp2_with fail
  refine (HTO.out _).mono ?_
  rintro e4 w4 ⟨rfl, hb4⟩
  have HG4 := Lib.hid (And.intro (Below.step HG3.out.1 hb4) (HG3.out.2.below hb4))
  clear hb4 HTO x0 x1 x2 x3 x4 x5 x6 x7 x8
  go_wp2_with fail
  refine (HQ2.out _ (HW.out.below HG4.out.1).vb (HT.out.below HG4.out.1)).mono ?_
  rintro e5 w5 ⟨T5, y5, rfl, hb5⟩
  have HG5 := Lib.hid (Below.step HG4.out.1 hb5)
  clear hb5 HQ2
  go_wp2_with fail
  refine (HA.out _ (HW.out.below HG5.out)).mono ?_
  rintro e6 w6 ⟨rfl, hb6⟩
  have HG6 := Lib.hid (Below.step HG5.out hb6)
  clear hb6
  go_wp2_with fail
  go_ret
  exact ⟨rfl, HG6.out⟩
set_option maxRecDepth 100000 in
set_option maxHeartbeats 16000000 in
theorem way_er_one (s : ByteArray) (c1 c2 c3 c4 c5 c6 c7 c8 : Int) (w : World) (hw : Wd w) (ht0 : Tb w) (hs : s.size ≤ 1000) (x1 p1 : Int) (h1 : lp s = .er x1 p1) (l : List UInt8) (hl : l.length ≤ 200) (h2 : pt [(1 : Int), c1, c2, c3, c4, c5, c6, c7, c8] = .ok l) (h3 : lp (Bs l) = .ok [(1 : Int), c1, c2, c3, c4, c5, c6, c7, c8]) : Calls Tryd.prog 5 #[.string s, .agg (List.toArray [.int .i64 1, .int .i64 c1, .int .i64 c2, .int .i64 c3, .int .i64 c4, .int .i64 c5, .int .i64 c6, .int .i64 c7, .int .i64 c8])] w fun e w' => e = .returned (.bool true) ∧ Below w.heap.size w w' := by
  have HA := Lib.hid (fun W hW => awake_is W hW)
  have HW := Lib.hid hw
  have HT := Lib.hid ht0
  have HTO := Lib.hid (fun W => to_is 1 c1 c2 c3 c4 c5 c6 c7 c8 W)
  have g0 : decide ((1000 : Int) < (s.size : Int)) = false := decide_eq_false (by omega)
  have gA : Below w.heap.size w (w.alloc (.cells (List.toArray [.int .i64 1, .int .i64 c1, .int .i64 c2, .int .i64 c3, .int .i64 c4, .int .i64 c5, .int .i64 c6, .int .i64 c7, .int .i64 c8]) 31)) := by go_grown
  have bA := Bl.new w [.int .i64 1, .int .i64 c1, .int .i64 c2, .int .i64 c3, .int .i64 c4, .int .i64 c5, .int .i64 c6, .int .i64 c7, .int .i64 c8] 31
  have HG := Lib.hid (And.intro gA bA)
  have HP1 := Lib.hid (fun W hv => par_er s hs x1 p1 h1 W hv)
  have HQ2 := Lib.hid (fun W hv ht => pp_ok 1 c1 c2 c3 c4 c5 c6 c7 c8 l h2 W hv ht)
  have HP3 := Lib.hid (fun W hv => par_ok (Bs l) (by rw [Bs_size]; omega) 1 c1 c2 c3 c4 c5 c6 c7 c8 h3 W hv)
  have HQ4 := Lib.hid (fun W hv ht => pp_ok 1 c1 c2 c3 c4 c5 c6 c7 c8 l h2 W hv ht)
  have HF := Lib.hid (fun W => from_is 1 c1 c2 c3 c4 c5 c6 c7 c8 W)
  have HEQ := Lib.hid (fun W => eqlRef 1 c1 c2 c3 c4 c5 c6 c7 c8 W)
  obtain ⟨BL, hBL⟩ : ∃ BL, BL = Bs l := ⟨_, rfl⟩
  rw [← hBL] at HQ2 HP3 HQ4
  clear hBL h3 hl
  clear h1 h2 gA bA hw ht0 hs
  go_enter Tryd.func5, Tryd.ntmps5
  go_wp2_with fail
  refine (HP1.out _ (HW.out.below HG.out.1).vb).mono ?_
  rintro e1 w1 ⟨b1, rfl, hb1⟩
  have ga : Below w1.heap.size w1 (w1.alloc (.cells (List.toArray [.int .i64 0, .int .i64 0, .int .i64 0, .int .i64 0, .int .i64 0, .int .i64 0, .int .i64 0, .int .i64 0, .int .i64 0]) 26)) := by go_grown
  have hg1 := Below.step hb1 ga
  have ba := Bl.new w1 [.int .i64 0, .int .i64 0, .int .i64 0, .int .i64 0, .int .i64 0, .int .i64 0, .int .i64 0, .int .i64 0, .int .i64 0] 26
  have HG1 := Lib.hid (And.intro (Below.step HG.out.1 hg1) (And.intro (HG.out.2.below hg1) ba))
  clear ga hg1 ba hb1 HP1
  have bz := HG1.out.2.1
  have x0 := bz.cell 0 _ rfl
  have x1 := bz.cell 1 _ rfl
  have x2 := bz.cell 2 _ rfl
  have x3 := bz.cell 3 _ rfl
  have x4 := bz.cell 4 _ rfl
  have x5 := bz.cell 5 _ rfl
  have x6 := bz.cell 6 _ rfl
  have x7 := bz.cell 7 _ rfl
  have x8 := bz.cell 8 _ rfl
  clear bz
  have HG3 := Lib.hid (And.intro HG1.out.1 HG1.out.2.1)
  go_wp2_with fail
  refine (HTO.out _).mono ?_
  rintro e4 w4 ⟨rfl, hb4⟩
  have HG4 := Lib.hid (And.intro (Below.step HG3.out.1 hb4) (HG3.out.2.below hb4))
  clear hb4 HTO x0 x1 x2 x3 x4 x5 x6 x7 x8
  go_wp2_with fail
  refine (HQ2.out _ (HW.out.below HG4.out.1).vb (HT.out.below HG4.out.1)).mono ?_
  rintro e5 w5 ⟨rfl, hb5⟩
  have HG5 := Lib.hid (And.intro (Below.step HG4.out.1 hb5) (HG4.out.2.below hb5))
  clear hb5 HQ2
  go_wp2_with fail
  refine (HP3.out _ (HW.out.below HG5.out.1).vb).mono ?_
  rintro e6 w6 ⟨rfl, hb6⟩
  have ga : Below w6.heap.size w6 (w6.alloc (.cells (List.toArray [.int .i64 1, .int .i64 c1, .int .i64 c2, .int .i64 c3, .int .i64 c4, .int .i64 c5, .int .i64 c6, .int .i64 c7, .int .i64 c8]) 26)) := by go_grown
  have hg6 := Below.step hb6 ga
  have ba := Bl.new w6 [.int .i64 1, .int .i64 c1, .int .i64 c2, .int .i64 c3, .int .i64 c4, .int .i64 c5, .int .i64 c6, .int .i64 c7, .int .i64 c8] 26
  have HG6 := Lib.hid (And.intro (Below.step HG5.out.1 hg6) (And.intro (HG5.out.2.below hg6) ba))
  clear ga hg6 ba hb6 HP3
  go_wp2_with fail
  refine (HQ4.out _ (HW.out.below HG6.out.1).vb (HT.out.below HG6.out.1)).mono ?_
  rintro e7 w7 ⟨rfl, hb7⟩
  have HG7 := Lib.hid (And.intro (Below.step HG6.out.1 hb7) (And.intro (HG6.out.2.1.below hb7) (HG6.out.2.2.below hb7)))
  clear hb7 HQ4
  go_wp2_with fail
  have gd : Below w7.heap.size w7 w7.drew := (Below.refl _ _).drew
  have hd : (Below w.heap.size w w7.drew ∧ Bl w.heap.size [.int .i64 1, .int .i64 c1, .int .i64 c2, .int .i64 c3, .int .i64 c4, .int .i64 c5, .int .i64 c6, .int .i64 c7, .int .i64 c8] w7.drew ∧ Bl w6.heap.size [.int .i64 1, .int .i64 c1, .int .i64 c2, .int .i64 c3, .int .i64 c4, .int .i64 c5, .int .i64 c6, .int .i64 c7, .int .i64 c8] w7.drew) := ⟨HG7.out.1.drew, HG7.out.2.1.below gd, HG7.out.2.2.below gd⟩
  clear gd
  refine wp_region_held_drew (S := fun w' => Below w.heap.size w w' ∧ Bl w.heap.size [.int .i64 1, .int .i64 c1, .int .i64 c2, .int .i64 c3, .int .i64 c4, .int .i64 c5, .int .i64 c6, .int .i64 c7, .int .i64 c8] w' ∧ Bl w6.heap.size [.int .i64 1, .int .i64 c1, .int .i64 c2, .int .i64 c3, .int .i64 c4, .int .i64 c5, .int .i64 c6, .int .i64 c7, .int .i64 c8] w') (by kernel_rfl) hd (fun hHeld => ?_)
  refine wpAnyH_ready (rs := [0]) (by as_aux_lemma => kernel_rfl) (by simp) ?_
  refine AllReadyH.cons (o := { dst := some 61, op := Op.call { callee := Callee.value (Operand.func 7), args := #[], argTypes := #[] }, type := 4, pos := "law.go:82", after := #[], guard := none }) rfl (fun K2 hK => ?_) AllReadyH.nil
  go_simp
  go_at_call 7
  refine (HA.out _ (HW.out.below hd.1)).mono ?_
  rintro e8 w8 ⟨rfl, hb8⟩
  have hd3 : (Below w.heap.size w w8 ∧ Bl w.heap.size [.int .i64 1, .int .i64 c1, .int .i64 c2, .int .i64 c3, .int .i64 c4, .int .i64 c5, .int .i64 c6, .int .i64 c7, .int .i64 c8] w8 ∧ Bl w6.heap.size [.int .i64 1, .int .i64 c1, .int .i64 c2, .int .i64 c3, .int .i64 c4, .int .i64 c5, .int .i64 c6, .int .i64 c7, .int .i64 c8] w8) := ⟨Below.step hd.1 hb8, hd.2.1.below hb8, hd.2.2.below hb8⟩
  clear hd hb8
  have hd := hd3
  clear hd3
  refine hK.out _ _ hd (fun hHeld => ?_)
  clear hK K2
  try simp only [Act.put, List.setIfInBounds_toArray, List.set_cons_zero, List.set_cons_succ]
  refine wpAnyH_take (i := 1) (oi := { dst := some 62, op := Op.move (Operand.tmp 61), type := 4, pos := "law.go:82", after := #[{ on := 0, ground := Ground.data }, { on := 0, ground := Ground.chain }], guard := none }) (v := .bool true) rfl (by as_aux_lemma => kernel_rfl) (by as_aux_lemma => kernel_rfl) (by as_aux_lemma => kernel_rfl) (fun _ _ _ h => h) (Or.inl ⟨by rfl, ?_⟩) (by assumption) ?_
  · intro wq hSw
    go_simp
    try with_reducible rfl
  simp only [Act.put, List.setIfInBounds_toArray, List.set_cons_zero, List.set_cons_succ]
  refine wpAnyH_take (i := 2) (oi := { dst := some 63, op := Op.move (Operand.tmp 12), type := 28, pos := "law.go:82", after := #[{ on := 1, ground := Ground.guard }], guard := some (1, true) }) (v := .nilIface) rfl (by as_aux_lemma => kernel_rfl) (by as_aux_lemma => kernel_rfl) (by as_aux_lemma => kernel_rfl) (fun _ _ _ h => h) (Or.inl ⟨by rfl, ?_⟩) (by assumption) ?_
  · intro wq hSw
    go_simp
    try with_reducible rfl
  simp only [Act.put, List.setIfInBounds_toArray, List.set_cons_zero, List.set_cons_succ]
  refine wpAnyH_take (i := 3) (oi := { dst := some 64, op := Op.binOp BinOp.eql 28 (Operand.tmp 63) (Operand.const Value.nilIface) 28, type := 4, pos := "law.go:82", after := #[{ on := 2, ground := Ground.data }, { on := 1, ground := Ground.guard }], guard := some (1, true) }) (v := .bool true) rfl (by as_aux_lemma => kernel_rfl) (by as_aux_lemma => kernel_rfl) (by as_aux_lemma => kernel_rfl) (fun _ _ _ h => h) (Or.inl ⟨by rfl, ?_⟩) (by assumption) ?_
  · intro wq hSw
    go_simp
    try with_reducible rfl
  simp only [Act.put, List.setIfInBounds_toArray, List.set_cons_zero, List.set_cons_succ]
  refine wpAnyH_take (i := 4) (oi := { dst := some 65, op := Op.pick (Operand.tmp 62) (Operand.tmp 64) (Operand.const (Value.bool false)), type := 4, pos := "law.go:82", after := #[{ on := 1, ground := Ground.data }, { on := 3, ground := Ground.data }], guard := none }) (v := .bool true) rfl (by as_aux_lemma => kernel_rfl) (by as_aux_lemma => kernel_rfl) (by as_aux_lemma => kernel_rfl) (fun _ _ _ h => h) (Or.inl ⟨by rfl, ?_⟩) (by assumption) ?_
  · intro wq hSw
    go_simp
    try with_reducible rfl
  simp only [Act.put, List.setIfInBounds_toArray, List.set_cons_zero, List.set_cons_succ]
  refine wpAnyH_take (i := 5) (oi := { dst := some 66, op := Op.move (Operand.tmp 65), type := 4, pos := "law.go:82", after := #[{ on := 4, ground := Ground.data }, { on := 1, ground := Ground.chain }], guard := none }) (v := .bool true) rfl (by as_aux_lemma => kernel_rfl) (by as_aux_lemma => kernel_rfl) (by as_aux_lemma => kernel_rfl) (fun _ _ _ h => h) (Or.inl ⟨by rfl, ?_⟩) (by assumption) ?_
  · intro wq hSw
    go_simp
    try with_reducible rfl
  simp only [Act.put, List.setIfInBounds_toArray, List.set_cons_zero, List.set_cons_succ]
  refine wpAnyH_take (i := 6) (oi := { dst := some 67, op := Op.move (Operand.tmp 14), type := 28, pos := "law.go:82", after := #[{ on := 5, ground := Ground.guard }], guard := some (5, true) }) (v := .nilIface) rfl (by as_aux_lemma => kernel_rfl) (by as_aux_lemma => kernel_rfl) (by as_aux_lemma => kernel_rfl) (fun _ _ _ h => h) (Or.inl ⟨by rfl, ?_⟩) (by assumption) ?_
  · intro wq hSw
    go_simp
    try with_reducible rfl
  simp only [Act.put, List.setIfInBounds_toArray, List.set_cons_zero, List.set_cons_succ]
  refine wpAnyH_take (i := 7) (oi := { dst := some 68, op := Op.binOp BinOp.eql 28 (Operand.tmp 67) (Operand.const Value.nilIface) 28, type := 4, pos := "law.go:82", after := #[{ on := 6, ground := Ground.data }, { on := 5, ground := Ground.guard }], guard := some (5, true) }) (v := .bool true) rfl (by as_aux_lemma => kernel_rfl) (by as_aux_lemma => kernel_rfl) (by as_aux_lemma => kernel_rfl) (fun _ _ _ h => h) (Or.inl ⟨by rfl, ?_⟩) (by assumption) ?_
  · intro wq hSw
    go_simp
    try with_reducible rfl
  simp only [Act.put, List.setIfInBounds_toArray, List.set_cons_zero, List.set_cons_succ]
  refine wpAnyH_take (i := 8) (oi := { dst := some 69, op := Op.pick (Operand.tmp 66) (Operand.tmp 68) (Operand.const (Value.bool false)), type := 4, pos := "law.go:82", after := #[{ on := 5, ground := Ground.data }, { on := 7, ground := Ground.data }], guard := none }) (v := .bool true) rfl (by as_aux_lemma => kernel_rfl) (by as_aux_lemma => kernel_rfl) (by as_aux_lemma => kernel_rfl) (fun _ _ _ h => h) (Or.inl ⟨by rfl, ?_⟩) (by assumption) ?_
  · intro wq hSw
    go_simp
    try with_reducible rfl
  simp only [Act.put, List.setIfInBounds_toArray, List.set_cons_zero, List.set_cons_succ]
  refine wpAnyH_take (i := 9) (oi := { dst := some 70, op := Op.move (Operand.tmp 69), type := 4, pos := "law.go:82", after := #[{ on := 8, ground := Ground.data }, { on := 5, ground := Ground.chain }], guard := none }) (v := .bool true) rfl (by as_aux_lemma => kernel_rfl) (by as_aux_lemma => kernel_rfl) (by as_aux_lemma => kernel_rfl) (fun _ _ _ h => h) (Or.inl ⟨by rfl, ?_⟩) (by assumption) ?_
  · intro wq hSw
    go_simp
    try with_reducible rfl
  simp only [Act.put, List.setIfInBounds_toArray, List.set_cons_zero, List.set_cons_succ]
  refine wpAnyH_take (i := 10) (oi := { dst := some 71, op := Op.move (Operand.tmp 9), type := 9, pos := "law.go:82", after := #[{ on := 9, ground := Ground.guard }], guard := some (9, true) }) (v := .string BL) rfl (by as_aux_lemma => kernel_rfl) (by as_aux_lemma => kernel_rfl) (by as_aux_lemma => kernel_rfl) (fun _ _ _ h => h) (Or.inl ⟨by rfl, ?_⟩) (by assumption) ?_
  · intro wq hSw
    go_simp
    try with_reducible rfl
  simp only [Act.put, List.setIfInBounds_toArray, List.set_cons_zero, List.set_cons_succ]
  refine wpAnyH_take (i := 11) (oi := { dst := some 72, op := Op.move (Operand.tmp 13), type := 9, pos := "law.go:82", after := #[{ on := 9, ground := Ground.guard }], guard := some (9, true) }) (v := .string BL) rfl (by as_aux_lemma => kernel_rfl) (by as_aux_lemma => kernel_rfl) (by as_aux_lemma => kernel_rfl) (fun _ _ _ h => h) (Or.inl ⟨by rfl, ?_⟩) (by assumption) ?_
  · intro wq hSw
    go_simp
    try with_reducible rfl
  simp only [Act.put, List.setIfInBounds_toArray, List.set_cons_zero, List.set_cons_succ]
  refine wpAnyH_take (i := 12) (oi := { dst := some 73, op := Op.binOp BinOp.eql 9 (Operand.tmp 71) (Operand.tmp 72) 9, type := 4, pos := "law.go:82", after := #[{ on := 10, ground := Ground.data }, { on := 11, ground := Ground.data }, { on := 9, ground := Ground.guard }], guard := some (9, true) }) (v := .bool true) rfl (by as_aux_lemma => kernel_rfl) (by as_aux_lemma => kernel_rfl) (by as_aux_lemma => kernel_rfl) (fun _ _ _ h => h) (Or.inl ⟨by rfl, ?_⟩) (by assumption) ?_
  · intro wq hSw
    go_simp
    try with_reducible rfl
  simp only [Act.put, List.setIfInBounds_toArray, List.set_cons_zero, List.set_cons_succ]
  refine wpAnyH_take (i := 13) (oi := { dst := some 74, op := Op.pick (Operand.tmp 70) (Operand.tmp 73) (Operand.const (Value.bool false)), type := 4, pos := "law.go:82", after := #[{ on := 9, ground := Ground.data }, { on := 12, ground := Ground.data }], guard := none }) (v := .bool true) rfl (by as_aux_lemma => kernel_rfl) (by as_aux_lemma => kernel_rfl) (by as_aux_lemma => kernel_rfl) (fun _ _ _ h => h) (Or.inl ⟨by rfl, ?_⟩) (by assumption) ?_
  · intro wq hSw
    go_simp
    try with_reducible rfl
  simp only [Act.put, List.setIfInBounds_toArray, List.set_cons_zero, List.set_cons_succ]
  refine wpAnyH_take (i := 14) (oi := { dst := some 75, op := Op.move (Operand.tmp 74), type := 4, pos := "law.go:82", after := #[{ on := 13, ground := Ground.data }, { on := 9, ground := Ground.chain }], guard := none }) (v := .bool true) rfl (by as_aux_lemma => kernel_rfl) (by as_aux_lemma => kernel_rfl) (by as_aux_lemma => kernel_rfl) (fun _ _ _ h => h) (Or.inl ⟨by rfl, ?_⟩) (by assumption) ?_
  · intro wq hSw
    go_simp
    try with_reducible rfl
  simp only [Act.put, List.setIfInBounds_toArray, List.set_cons_zero, List.set_cons_succ]
  refine wpAnyH_take (i := 15) (oi := { dst := some 76, op := Op.fieldAddr 26 (Operand.tmp 11) 0, type := 0, pos := "law.go:82", after := #[{ on := 14, ground := Ground.guard }], guard := some (14, true) }) (v := ?_) rfl (by as_aux_lemma => kernel_rfl) (by as_aux_lemma => kernel_rfl) (by as_aux_lemma => kernel_rfl) (fun _ _ _ h => h) (Or.inl ⟨by rfl, ?_⟩) (by assumption) ?_
  rotate_left
  · intro wq hSw
    go_simp
    try with_reducible rfl
  simp only [Act.put, List.setIfInBounds_toArray, List.set_cons_zero, List.set_cons_succ]
  refine wpAnyH_take (i := 16) (oi := { dst := some 77, op := Op.load 3 (Operand.tmp 76), type := 3, pos := "law.go:82", after := #[{ on := 15, ground := Ground.data }, { on := 14, ground := Ground.guard }], guard := some (14, true) }) (v := .int .i64 1) rfl (by as_aux_lemma => kernel_rfl) (by as_aux_lemma => kernel_rfl) (by as_aux_lemma => kernel_rfl) (fun _ _ _ h => h) (Or.inl ⟨by rfl, ?_⟩) (by assumption) ?_
  · intro wq hSw
    obtain ⟨q1, q2, q3⟩ := hSw
    have z := q3.cell 0 _ rfl
    go_simp
    try with_reducible rfl
  simp only [Act.put, List.setIfInBounds_toArray, List.set_cons_zero, List.set_cons_succ]
  refine wpAnyH_take (i := 17) (oi := { dst := some 78, op := Op.fieldAddr 31 (Operand.tmp 3) 0, type := 0, pos := "law.go:82", after := #[{ on := 14, ground := Ground.guard }], guard := some (14, true) }) (v := ?_) rfl (by as_aux_lemma => kernel_rfl) (by as_aux_lemma => kernel_rfl) (by as_aux_lemma => kernel_rfl) (fun _ _ _ h => h) (Or.inl ⟨by rfl, ?_⟩) (by assumption) ?_
  rotate_left
  · intro wq hSw
    go_simp
    try with_reducible rfl
  simp only [Act.put, List.setIfInBounds_toArray, List.set_cons_zero, List.set_cons_succ]
  refine wpAnyH_take (i := 18) (oi := { dst := some 79, op := Op.load 3 (Operand.tmp 78), type := 3, pos := "law.go:82", after := #[{ on := 17, ground := Ground.data }, { on := 14, ground := Ground.guard }], guard := some (14, true) }) (v := .int .i64 1) rfl (by as_aux_lemma => kernel_rfl) (by as_aux_lemma => kernel_rfl) (by as_aux_lemma => kernel_rfl) (fun _ _ _ h => h) (Or.inl ⟨by rfl, ?_⟩) (by assumption) ?_
  · intro wq hSw
    obtain ⟨q1, q2, q3⟩ := hSw
    have z := q2.cell 0 _ rfl
    go_simp
    try with_reducible rfl
  simp only [Act.put, List.setIfInBounds_toArray, List.set_cons_zero, List.set_cons_succ]
  refine wpAnyH_take (i := 19) (oi := { dst := some 80, op := Op.binOp BinOp.eql 3 (Operand.tmp 77) (Operand.tmp 79) 3, type := 4, pos := "law.go:82", after := #[{ on := 16, ground := Ground.data }, { on := 18, ground := Ground.data }, { on := 14, ground := Ground.guard }], guard := some (14, true) }) (v := .bool true) rfl (by as_aux_lemma => kernel_rfl) (by as_aux_lemma => kernel_rfl) (by as_aux_lemma => kernel_rfl) (fun _ _ _ h => h) (Or.inl ⟨by rfl, ?_⟩) (by assumption) ?_
  · intro wq hSw
    go_simp
    try with_reducible rfl
  simp only [Act.put, List.setIfInBounds_toArray, List.set_cons_zero, List.set_cons_succ]
  refine wpAnyH_take (i := 20) (oi := { dst := some 81, op := Op.pick (Operand.tmp 75) (Operand.tmp 80) (Operand.const (Value.bool false)), type := 4, pos := "law.go:82", after := #[{ on := 14, ground := Ground.data }, { on := 19, ground := Ground.data }], guard := none }) (v := .bool true) rfl (by as_aux_lemma => kernel_rfl) (by as_aux_lemma => kernel_rfl) (by as_aux_lemma => kernel_rfl) (fun _ _ _ h => h) (Or.inl ⟨by rfl, ?_⟩) (by assumption) ?_
  · intro wq hSw
    go_simp
    try with_reducible rfl
  simp only [Act.put, List.setIfInBounds_toArray, List.set_cons_zero, List.set_cons_succ]
  refine wpAnyH_take (i := 21) (oi := { dst := some 82, op := Op.move (Operand.tmp 81), type := 4, pos := "law.go:82", after := #[{ on := 20, ground := Ground.data }, { on := 14, ground := Ground.chain }], guard := none }) (v := .bool true) rfl (by as_aux_lemma => kernel_rfl) (by as_aux_lemma => kernel_rfl) (by as_aux_lemma => kernel_rfl) (fun _ _ _ h => h) (Or.inl ⟨by rfl, ?_⟩) (by assumption) ?_
  · intro wq hSw
    go_simp
    try with_reducible rfl
  simp only [Act.put, List.setIfInBounds_toArray, List.set_cons_zero, List.set_cons_succ]
  refine wpAnyH_take (i := 22) (oi := { dst := some 83, op := Op.fieldAddr 31 (Operand.tmp 3) 0, type := 0, pos := "law.go:82", after := #[{ on := 21, ground := Ground.guard }], guard := some (21, true) }) (v := ?_) rfl (by as_aux_lemma => kernel_rfl) (by as_aux_lemma => kernel_rfl) (by as_aux_lemma => kernel_rfl) (fun _ _ _ h => h) (Or.inl ⟨by rfl, ?_⟩) (by assumption) ?_
  rotate_left
  · intro wq hSw
    go_simp
    try with_reducible rfl
  simp only [Act.put, List.setIfInBounds_toArray, List.set_cons_zero, List.set_cons_succ]
  refine wpAnyH_take (i := 23) (oi := { dst := some 84, op := Op.load 3 (Operand.tmp 83), type := 3, pos := "law.go:82", after := #[{ on := 22, ground := Ground.data }, { on := 21, ground := Ground.guard }], guard := some (21, true) }) (v := .int .i64 1) rfl (by as_aux_lemma => kernel_rfl) (by as_aux_lemma => kernel_rfl) (by as_aux_lemma => kernel_rfl) (fun _ _ _ h => h) (Or.inl ⟨by rfl, ?_⟩) (by assumption) ?_
  · intro wq hSw
    obtain ⟨q1, q2, q3⟩ := hSw
    have z := q2.cell 0 _ rfl
    go_simp
    try with_reducible rfl
  simp only [Act.put, List.setIfInBounds_toArray, List.set_cons_zero, List.set_cons_succ]
  refine wpAnyH_take (i := 24) (oi := { dst := some 85, op := Op.binOp BinOp.neq 3 (Operand.tmp 84) (Operand.const (Value.int IntKind.i64 1)) 3, type := 4, pos := "law.go:82", after := #[{ on := 23, ground := Ground.data }, { on := 21, ground := Ground.guard }], guard := some (21, true) }) (v := .bool false) rfl (by as_aux_lemma => kernel_rfl) (by as_aux_lemma => kernel_rfl) (by as_aux_lemma => kernel_rfl) (fun _ _ _ h => h) (Or.inl ⟨by rfl, ?_⟩) (by assumption) ?_
  · intro wq hSw
    go_simp
    try with_reducible rfl
  simp only [Act.put, List.setIfInBounds_toArray, List.set_cons_zero, List.set_cons_succ]
  refine wpAnyH_take (i := 25) (oi := { dst := some 86, op := Op.move (Operand.tmp 85), type := 4, pos := "law.go:82", after := #[{ on := 24, ground := Ground.data }, { on := 21, ground := Ground.chain }, { on := 21, ground := Ground.guard }], guard := some (21, true) }) (v := .bool false) rfl (by as_aux_lemma => kernel_rfl) (by as_aux_lemma => kernel_rfl) (by as_aux_lemma => kernel_rfl) (fun _ _ _ h => h) (Or.inl ⟨by rfl, ?_⟩) (by assumption) ?_
  · intro wq hSw
    go_simp
    try with_reducible rfl
  simp only [Act.put, List.setIfInBounds_toArray, List.set_cons_zero, List.set_cons_succ]
  refine wpAnyH_take (i := 26) (oi := { dst := some 87, op := Op.load 26 (Operand.tmp 11), type := 26, pos := "law.go:82", after := #[{ on := 25, ground := Ground.guard }], guard := some (25, false) }) (v := .agg (List.toArray [.int .i64 1, .int .i64 c1, .int .i64 c2, .int .i64 c3, .int .i64 c4, .int .i64 c5, .int .i64 c6, .int .i64 c7, .int .i64 c8])) rfl (by as_aux_lemma => kernel_rfl) (by as_aux_lemma => kernel_rfl) (by as_aux_lemma => kernel_rfl) (fun _ _ _ h => h) (Or.inl ⟨by rfl, ?_⟩) (by assumption) ?_
  · intro wq hSw
    obtain ⟨q1, q2, q3⟩ := hSw
    have x0 := q3.cell 0 _ rfl
    have x1 := q3.cell 1 _ rfl
    have x2 := q3.cell 2 _ rfl
    have x3 := q3.cell 3 _ rfl
    have x4 := q3.cell 4 _ rfl
    have x5 := q3.cell 5 _ rfl
    have x6 := q3.cell 6 _ rfl
    have x7 := q3.cell 7 _ rfl
    have x8 := q3.cell 8 _ rfl
    go_simp
    try with_reducible rfl
  simp only [Act.put, List.setIfInBounds_toArray, List.set_cons_zero, List.set_cons_succ]
  refine wpAnyH_take (i := 28) (oi := { dst := some 89, op := Op.load 31 (Operand.tmp 3), type := 31, pos := "law.go:82", after := #[{ on := 25, ground := Ground.guard }], guard := some (25, false) }) (v := .agg (List.toArray [.int .i64 1, .int .i64 c1, .int .i64 c2, .int .i64 c3, .int .i64 c4, .int .i64 c5, .int .i64 c6, .int .i64 c7, .int .i64 c8])) rfl (by as_aux_lemma => kernel_rfl) (by as_aux_lemma => kernel_rfl) (by as_aux_lemma => kernel_rfl) (fun _ _ _ h => h) (Or.inl ⟨by rfl, ?_⟩) (by assumption) ?_
  · intro wq hSw
    obtain ⟨q1, q2, q3⟩ := hSw
    have x0 := q2.cell 0 _ rfl
    have x1 := q2.cell 1 _ rfl
    have x2 := q2.cell 2 _ rfl
    have x3 := q2.cell 3 _ rfl
    have x4 := q2.cell 4 _ rfl
    have x5 := q2.cell 5 _ rfl
    have x6 := q2.cell 6 _ rfl
    have x7 := q2.cell 7 _ rfl
    have x8 := q2.cell 8 _ rfl
    go_simp
    try with_reducible rfl
  simp only [Act.put, List.setIfInBounds_toArray, List.set_cons_zero, List.set_cons_succ]
  refine wpAnyH_ready (rs := [27]) (by as_aux_lemma => kernel_rfl) (by simp) ?_
  refine AllReadyH.cons (o := { dst := some 88, op := Op.call { callee := Callee.value (Operand.func 11), args := #[Operand.tmp 87], argTypes := #[26] }, type := 31, pos := "law.go:82", after := #[{ on := 26, ground := Ground.data }, { on := 25, ground := Ground.chain }, { on := 25, ground := Ground.guard }], guard := some (25, false) }) rfl (fun K2 hK => ?_) AllReadyH.nil
  go_simp
  go_at_call 11
  refine (HF.out _).mono ?_
  rintro e9 w9 ⟨rfl, hb8⟩
  have hd3 : (Below w.heap.size w w9 ∧ Bl w.heap.size [.int .i64 1, .int .i64 c1, .int .i64 c2, .int .i64 c3, .int .i64 c4, .int .i64 c5, .int .i64 c6, .int .i64 c7, .int .i64 c8] w9 ∧ Bl w6.heap.size [.int .i64 1, .int .i64 c1, .int .i64 c2, .int .i64 c3, .int .i64 c4, .int .i64 c5, .int .i64 c6, .int .i64 c7, .int .i64 c8] w9) := ⟨Below.step hd.1 hb8, hd.2.1.below hb8, hd.2.2.below hb8⟩
  clear hd hb8
  have hd := hd3
  clear hd3
  refine hK.out _ _ hd (fun hHeld => ?_)
  clear hK K2
  try simp only [Act.put, List.setIfInBounds_toArray, List.set_cons_zero, List.set_cons_succ]
  refine wpAnyH_take (i := 29) (oi := { dst := some 90, op := Op.binOp BinOp.eql 31 (Operand.tmp 88) (Operand.tmp 89) 31, type := 4, pos := "law.go:82", after := #[{ on := 27, ground := Ground.data }, { on := 28, ground := Ground.data }, { on := 25, ground := Ground.guard }], guard := some (25, false) }) (v := .bool true) rfl (by as_aux_lemma => kernel_rfl) (by as_aux_lemma => kernel_rfl) (by as_aux_lemma => kernel_rfl) (fun _ _ _ h => h) (Or.inl ⟨by rfl, ?_⟩) (by assumption) ?_
  · intro wq hSw
    have heq := HEQ.out wq
    go_simp
    try with_reducible rfl
  simp only [Act.put, List.setIfInBounds_toArray, List.set_cons_zero, List.set_cons_succ]
  refine wpAnyH_take (i := 30) (oi := { dst := some 91, op := Op.pick (Operand.tmp 86) (Operand.const (Value.bool true)) (Operand.tmp 90), type := 4, pos := "law.go:82", after := #[{ on := 25, ground := Ground.data }, { on := 29, ground := Ground.data }, { on := 21, ground := Ground.guard }], guard := some (21, true) }) (v := .bool true) rfl (by as_aux_lemma => kernel_rfl) (by as_aux_lemma => kernel_rfl) (by as_aux_lemma => kernel_rfl) (fun _ _ _ h => h) (Or.inl ⟨by rfl, ?_⟩) (by assumption) ?_
  · intro wq hSw
    go_simp
    try with_reducible rfl
  simp only [Act.put, List.setIfInBounds_toArray, List.set_cons_zero, List.set_cons_succ]
  refine wpAnyH_take (i := 31) (oi := { dst := some 92, op := Op.pick (Operand.tmp 82) (Operand.tmp 91) (Operand.const (Value.bool false)), type := 4, pos := "law.go:82", after := #[{ on := 21, ground := Ground.data }, { on := 30, ground := Ground.data }], guard := none }) (v := .bool true) rfl (by as_aux_lemma => kernel_rfl) (by as_aux_lemma => kernel_rfl) (by as_aux_lemma => kernel_rfl) (fun _ _ _ h => h) (Or.inl ⟨by rfl, ?_⟩) (by assumption) ?_
  · intro wq hSw
    go_simp
    try with_reducible rfl
  simp only [Act.put, List.setIfInBounds_toArray, List.set_cons_zero, List.set_cons_succ]
  refine wpAnyH_take (i := 32) (oi := { dst := some 4, op := Op.assign (Operand.tmp 92), type := 4, pos := "law.go:82", after := #[{ on := 31, ground := Ground.data }, { on := 27, ground := Ground.chain }, { on := 0, ground := Ground.phase }, { on := 1, ground := Ground.phase }, { on := 2, ground := Ground.phase }, { on := 3, ground := Ground.phase }, { on := 4, ground := Ground.phase }, { on := 5, ground := Ground.phase }, { on := 6, ground := Ground.phase }, { on := 7, ground := Ground.phase }, { on := 8, ground := Ground.phase }, { on := 9, ground := Ground.phase }, { on := 10, ground := Ground.phase }, { on := 11, ground := Ground.phase }, { on := 12, ground := Ground.phase }, { on := 13, ground := Ground.phase }, { on := 14, ground := Ground.phase }, { on := 15, ground := Ground.phase }, { on := 16, ground := Ground.phase }, { on := 17, ground := Ground.phase }, { on := 18, ground := Ground.phase }, { on := 19, ground := Ground.phase }, { on := 20, ground := Ground.phase }, { on := 21, ground := Ground.phase }, { on := 22, ground := Ground.phase }, { on := 23, ground := Ground.phase }, { on := 24, ground := Ground.phase }, { on := 25, ground := Ground.phase }, { on := 26, ground := Ground.phase }, { on := 27, ground := Ground.phase }, { on := 28, ground := Ground.phase }, { on := 29, ground := Ground.phase }, { on := 30, ground := Ground.phase }, { on := 31, ground := Ground.phase }], guard := none }) (v := .bool true) rfl (by as_aux_lemma => kernel_rfl) (by as_aux_lemma => kernel_rfl) (by as_aux_lemma => kernel_rfl) (fun _ _ _ h => h) (Or.inl ⟨by rfl, ?_⟩) (by assumption) ?_
  · intro wq hSw
    go_simp
    try with_reducible rfl
  simp only [Act.put, List.setIfInBounds_toArray, List.set_cons_zero, List.set_cons_succ]
  refine wpAnyH_done (by as_aux_lemma => kernel_rfl) ?_ _
  go_wp2_with fail
  go_ret
  exact ⟨rfl, hd.1⟩
set_option maxRecDepth 100000 in
set_option maxHeartbeats 16000000 in
theorem way_er_other (s : ByteArray) (c0 c1 c2 c3 c4 c5 c6 c7 c8 : Int) (w : World) (hw : Wd w) (ht0 : Tb w) (hs : s.size ≤ 1000) (x1 p1 : Int) (h1 : lp s = .er x1 p1) (l : List UInt8) (hl : l.length ≤ 200) (hk : c0 ≠ 1) (d1 d2 d3 d4 d5 d6 d7 d8 : Int) (h2 : pt [c0, c1, c2, c3, c4, c5, c6, c7, c8] = .ok l) (h3 : lp (Bs l) = .ok [c0, d1, d2, d3, d4, d5, d6, d7, d8]) (h4 : pt [c0, d1, d2, d3, d4, d5, d6, d7, d8] = .ok l) : Calls Tryd.prog 5 #[.string s, .agg (List.toArray [.int .i64 c0, .int .i64 c1, .int .i64 c2, .int .i64 c3, .int .i64 c4, .int .i64 c5, .int .i64 c6, .int .i64 c7, .int .i64 c8])] w fun e w' => e = .returned (.bool true) ∧ Below w.heap.size w w' := by
  have HA := Lib.hid (fun W hW => awake_is W hW)
  have HW := Lib.hid hw
  have HT := Lib.hid ht0
  have HTO := Lib.hid (fun W => to_is c0 c1 c2 c3 c4 c5 c6 c7 c8 W)
  have g0 : decide ((1000 : Int) < (s.size : Int)) = false := decide_eq_false (by omega)
  have gA : Below w.heap.size w (w.alloc (.cells (List.toArray [.int .i64 c0, .int .i64 c1, .int .i64 c2, .int .i64 c3, .int .i64 c4, .int .i64 c5, .int .i64 c6, .int .i64 c7, .int .i64 c8]) 31)) := by go_grown
  have bA := Bl.new w [.int .i64 c0, .int .i64 c1, .int .i64 c2, .int .i64 c3, .int .i64 c4, .int .i64 c5, .int .i64 c6, .int .i64 c7, .int .i64 c8] 31
  have HG := Lib.hid (And.intro gA bA)
  have HP1 := Lib.hid (fun W hv => par_er s hs x1 p1 h1 W hv)
  have HQ2 := Lib.hid (fun W hv ht => pp_ok c0 c1 c2 c3 c4 c5 c6 c7 c8 l h2 W hv ht)
  have HP3 := Lib.hid (fun W hv => par_ok (Bs l) (by rw [Bs_size]; omega) c0 d1 d2 d3 d4 d5 d6 d7 d8 h3 W hv)
  have HQ4 := Lib.hid (fun W hv ht => pp_ok c0 d1 d2 d3 d4 d5 d6 d7 d8 l h4 W hv ht)
  have k1 : (c0 != 1) = true := bne_iff_ne.2 hk
  clear hk h4
  obtain ⟨BL, hBL⟩ : ∃ BL, BL = Bs l := ⟨_, rfl⟩
  rw [← hBL] at HQ2 HP3 HQ4
  clear hBL h3 hl
  clear h1 h2 gA bA hw ht0 hs
  go_enter Tryd.func5, Tryd.ntmps5
  go_wp2_with fail
  refine (HP1.out _ (HW.out.below HG.out.1).vb).mono ?_
  rintro e1 w1 ⟨b1, rfl, hb1⟩
  have ga : Below w1.heap.size w1 (w1.alloc (.cells (List.toArray [.int .i64 0, .int .i64 0, .int .i64 0, .int .i64 0, .int .i64 0, .int .i64 0, .int .i64 0, .int .i64 0, .int .i64 0]) 26)) := by go_grown
  have hg1 := Below.step hb1 ga
  have ba := Bl.new w1 [.int .i64 0, .int .i64 0, .int .i64 0, .int .i64 0, .int .i64 0, .int .i64 0, .int .i64 0, .int .i64 0, .int .i64 0] 26
  have HG1 := Lib.hid (And.intro (Below.step HG.out.1 hg1) (And.intro (HG.out.2.below hg1) ba))
  clear ga hg1 ba hb1 HP1
  have bz := HG1.out.2.1
  have x0 := bz.cell 0 _ rfl
  have x1 := bz.cell 1 _ rfl
  have x2 := bz.cell 2 _ rfl
  have x3 := bz.cell 3 _ rfl
  have x4 := bz.cell 4 _ rfl
  have x5 := bz.cell 5 _ rfl
  have x6 := bz.cell 6 _ rfl
  have x7 := bz.cell 7 _ rfl
  have x8 := bz.cell 8 _ rfl
  clear bz
  have HG3 := Lib.hid (And.intro HG1.out.1 HG1.out.2.1)
  go_wp2_with fail
  refine (HTO.out _).mono ?_
  rintro e4 w4 ⟨rfl, hb4⟩
  have HG4 := Lib.hid (And.intro (Below.step HG3.out.1 hb4) (HG3.out.2.below hb4))
  clear hb4 HTO x0 x1 x2 x3 x4 x5 x6 x7 x8
  go_wp2_with fail
  refine (HQ2.out _ (HW.out.below HG4.out.1).vb (HT.out.below HG4.out.1)).mono ?_
  rintro e5 w5 ⟨rfl, hb5⟩
  have HG5 := Lib.hid (And.intro (Below.step HG4.out.1 hb5) (HG4.out.2.below hb5))
  clear hb5 HQ2
  go_wp2_with fail
  refine (HP3.out _ (HW.out.below HG5.out.1).vb).mono ?_
  rintro e6 w6 ⟨rfl, hb6⟩
  have ga : Below w6.heap.size w6 (w6.alloc (.cells (List.toArray [.int .i64 c0, .int .i64 d1, .int .i64 d2, .int .i64 d3, .int .i64 d4, .int .i64 d5, .int .i64 d6, .int .i64 d7, .int .i64 d8]) 26)) := by go_grown
  have hg6 := Below.step hb6 ga
  have ba := Bl.new w6 [.int .i64 c0, .int .i64 d1, .int .i64 d2, .int .i64 d3, .int .i64 d4, .int .i64 d5, .int .i64 d6, .int .i64 d7, .int .i64 d8] 26
  have HG6 := Lib.hid (And.intro (Below.step HG5.out.1 hg6) (And.intro (HG5.out.2.below hg6) ba))
  clear ga hg6 ba hb6 HP3
  go_wp2_with fail
  refine (HQ4.out _ (HW.out.below HG6.out.1).vb (HT.out.below HG6.out.1)).mono ?_
  rintro e7 w7 ⟨rfl, hb7⟩
  have HG7 := Lib.hid (And.intro (Below.step HG6.out.1 hb7) (And.intro (HG6.out.2.1.below hb7) (HG6.out.2.2.below hb7)))
  clear hb7 HQ4
  go_wp2_with fail
  have gd : Below w7.heap.size w7 w7.drew := (Below.refl _ _).drew
  have hd : (Below w.heap.size w w7.drew ∧ Bl w.heap.size [.int .i64 c0, .int .i64 c1, .int .i64 c2, .int .i64 c3, .int .i64 c4, .int .i64 c5, .int .i64 c6, .int .i64 c7, .int .i64 c8] w7.drew ∧ Bl w6.heap.size [.int .i64 c0, .int .i64 d1, .int .i64 d2, .int .i64 d3, .int .i64 d4, .int .i64 d5, .int .i64 d6, .int .i64 d7, .int .i64 d8] w7.drew) := ⟨HG7.out.1.drew, HG7.out.2.1.below gd, HG7.out.2.2.below gd⟩
  clear gd
  refine wp_region_held_drew (S := fun w' => Below w.heap.size w w' ∧ Bl w.heap.size [.int .i64 c0, .int .i64 c1, .int .i64 c2, .int .i64 c3, .int .i64 c4, .int .i64 c5, .int .i64 c6, .int .i64 c7, .int .i64 c8] w' ∧ Bl w6.heap.size [.int .i64 c0, .int .i64 d1, .int .i64 d2, .int .i64 d3, .int .i64 d4, .int .i64 d5, .int .i64 d6, .int .i64 d7, .int .i64 d8] w') (by kernel_rfl) hd (fun hHeld => ?_)
  refine wpAnyH_ready (rs := [0]) (by as_aux_lemma => kernel_rfl) (by simp) ?_
  refine AllReadyH.cons (o := { dst := some 61, op := Op.call { callee := Callee.value (Operand.func 7), args := #[], argTypes := #[] }, type := 4, pos := "law.go:82", after := #[], guard := none }) rfl (fun K2 hK => ?_) AllReadyH.nil
  go_simp
  go_at_call 7
  refine (HA.out _ (HW.out.below hd.1)).mono ?_
  rintro e8 w8 ⟨rfl, hb8⟩
  have hd3 : (Below w.heap.size w w8 ∧ Bl w.heap.size [.int .i64 c0, .int .i64 c1, .int .i64 c2, .int .i64 c3, .int .i64 c4, .int .i64 c5, .int .i64 c6, .int .i64 c7, .int .i64 c8] w8 ∧ Bl w6.heap.size [.int .i64 c0, .int .i64 d1, .int .i64 d2, .int .i64 d3, .int .i64 d4, .int .i64 d5, .int .i64 d6, .int .i64 d7, .int .i64 d8] w8) := ⟨Below.step hd.1 hb8, hd.2.1.below hb8, hd.2.2.below hb8⟩
  clear hd hb8
  have hd := hd3
  clear hd3
  refine hK.out _ _ hd (fun hHeld => ?_)
  clear hK K2
  try simp only [Act.put, List.setIfInBounds_toArray, List.set_cons_zero, List.set_cons_succ]
  refine wpAnyH_take (i := 1) (oi := { dst := some 62, op := Op.move (Operand.tmp 61), type := 4, pos := "law.go:82", after := #[{ on := 0, ground := Ground.data }, { on := 0, ground := Ground.chain }], guard := none }) (v := .bool true) rfl (by as_aux_lemma => kernel_rfl) (by as_aux_lemma => kernel_rfl) (by as_aux_lemma => kernel_rfl) (fun _ _ _ h => h) (Or.inl ⟨by rfl, ?_⟩) (by assumption) ?_
  · intro wq hSw
    go_simp
    try with_reducible rfl
  simp only [Act.put, List.setIfInBounds_toArray, List.set_cons_zero, List.set_cons_succ]
  refine wpAnyH_take (i := 2) (oi := { dst := some 63, op := Op.move (Operand.tmp 12), type := 28, pos := "law.go:82", after := #[{ on := 1, ground := Ground.guard }], guard := some (1, true) }) (v := .nilIface) rfl (by as_aux_lemma => kernel_rfl) (by as_aux_lemma => kernel_rfl) (by as_aux_lemma => kernel_rfl) (fun _ _ _ h => h) (Or.inl ⟨by rfl, ?_⟩) (by assumption) ?_
  · intro wq hSw
    go_simp
    try with_reducible rfl
  simp only [Act.put, List.setIfInBounds_toArray, List.set_cons_zero, List.set_cons_succ]
  refine wpAnyH_take (i := 3) (oi := { dst := some 64, op := Op.binOp BinOp.eql 28 (Operand.tmp 63) (Operand.const Value.nilIface) 28, type := 4, pos := "law.go:82", after := #[{ on := 2, ground := Ground.data }, { on := 1, ground := Ground.guard }], guard := some (1, true) }) (v := .bool true) rfl (by as_aux_lemma => kernel_rfl) (by as_aux_lemma => kernel_rfl) (by as_aux_lemma => kernel_rfl) (fun _ _ _ h => h) (Or.inl ⟨by rfl, ?_⟩) (by assumption) ?_
  · intro wq hSw
    go_simp
    try with_reducible rfl
  simp only [Act.put, List.setIfInBounds_toArray, List.set_cons_zero, List.set_cons_succ]
  refine wpAnyH_take (i := 4) (oi := { dst := some 65, op := Op.pick (Operand.tmp 62) (Operand.tmp 64) (Operand.const (Value.bool false)), type := 4, pos := "law.go:82", after := #[{ on := 1, ground := Ground.data }, { on := 3, ground := Ground.data }], guard := none }) (v := .bool true) rfl (by as_aux_lemma => kernel_rfl) (by as_aux_lemma => kernel_rfl) (by as_aux_lemma => kernel_rfl) (fun _ _ _ h => h) (Or.inl ⟨by rfl, ?_⟩) (by assumption) ?_
  · intro wq hSw
    go_simp
    try with_reducible rfl
  simp only [Act.put, List.setIfInBounds_toArray, List.set_cons_zero, List.set_cons_succ]
  refine wpAnyH_take (i := 5) (oi := { dst := some 66, op := Op.move (Operand.tmp 65), type := 4, pos := "law.go:82", after := #[{ on := 4, ground := Ground.data }, { on := 1, ground := Ground.chain }], guard := none }) (v := .bool true) rfl (by as_aux_lemma => kernel_rfl) (by as_aux_lemma => kernel_rfl) (by as_aux_lemma => kernel_rfl) (fun _ _ _ h => h) (Or.inl ⟨by rfl, ?_⟩) (by assumption) ?_
  · intro wq hSw
    go_simp
    try with_reducible rfl
  simp only [Act.put, List.setIfInBounds_toArray, List.set_cons_zero, List.set_cons_succ]
  refine wpAnyH_take (i := 6) (oi := { dst := some 67, op := Op.move (Operand.tmp 14), type := 28, pos := "law.go:82", after := #[{ on := 5, ground := Ground.guard }], guard := some (5, true) }) (v := .nilIface) rfl (by as_aux_lemma => kernel_rfl) (by as_aux_lemma => kernel_rfl) (by as_aux_lemma => kernel_rfl) (fun _ _ _ h => h) (Or.inl ⟨by rfl, ?_⟩) (by assumption) ?_
  · intro wq hSw
    go_simp
    try with_reducible rfl
  simp only [Act.put, List.setIfInBounds_toArray, List.set_cons_zero, List.set_cons_succ]
  refine wpAnyH_take (i := 7) (oi := { dst := some 68, op := Op.binOp BinOp.eql 28 (Operand.tmp 67) (Operand.const Value.nilIface) 28, type := 4, pos := "law.go:82", after := #[{ on := 6, ground := Ground.data }, { on := 5, ground := Ground.guard }], guard := some (5, true) }) (v := .bool true) rfl (by as_aux_lemma => kernel_rfl) (by as_aux_lemma => kernel_rfl) (by as_aux_lemma => kernel_rfl) (fun _ _ _ h => h) (Or.inl ⟨by rfl, ?_⟩) (by assumption) ?_
  · intro wq hSw
    go_simp
    try with_reducible rfl
  simp only [Act.put, List.setIfInBounds_toArray, List.set_cons_zero, List.set_cons_succ]
  refine wpAnyH_take (i := 8) (oi := { dst := some 69, op := Op.pick (Operand.tmp 66) (Operand.tmp 68) (Operand.const (Value.bool false)), type := 4, pos := "law.go:82", after := #[{ on := 5, ground := Ground.data }, { on := 7, ground := Ground.data }], guard := none }) (v := .bool true) rfl (by as_aux_lemma => kernel_rfl) (by as_aux_lemma => kernel_rfl) (by as_aux_lemma => kernel_rfl) (fun _ _ _ h => h) (Or.inl ⟨by rfl, ?_⟩) (by assumption) ?_
  · intro wq hSw
    go_simp
    try with_reducible rfl
  simp only [Act.put, List.setIfInBounds_toArray, List.set_cons_zero, List.set_cons_succ]
  refine wpAnyH_take (i := 9) (oi := { dst := some 70, op := Op.move (Operand.tmp 69), type := 4, pos := "law.go:82", after := #[{ on := 8, ground := Ground.data }, { on := 5, ground := Ground.chain }], guard := none }) (v := .bool true) rfl (by as_aux_lemma => kernel_rfl) (by as_aux_lemma => kernel_rfl) (by as_aux_lemma => kernel_rfl) (fun _ _ _ h => h) (Or.inl ⟨by rfl, ?_⟩) (by assumption) ?_
  · intro wq hSw
    go_simp
    try with_reducible rfl
  simp only [Act.put, List.setIfInBounds_toArray, List.set_cons_zero, List.set_cons_succ]
  refine wpAnyH_take (i := 10) (oi := { dst := some 71, op := Op.move (Operand.tmp 9), type := 9, pos := "law.go:82", after := #[{ on := 9, ground := Ground.guard }], guard := some (9, true) }) (v := .string BL) rfl (by as_aux_lemma => kernel_rfl) (by as_aux_lemma => kernel_rfl) (by as_aux_lemma => kernel_rfl) (fun _ _ _ h => h) (Or.inl ⟨by rfl, ?_⟩) (by assumption) ?_
  · intro wq hSw
    go_simp
    try with_reducible rfl
  simp only [Act.put, List.setIfInBounds_toArray, List.set_cons_zero, List.set_cons_succ]
  refine wpAnyH_take (i := 11) (oi := { dst := some 72, op := Op.move (Operand.tmp 13), type := 9, pos := "law.go:82", after := #[{ on := 9, ground := Ground.guard }], guard := some (9, true) }) (v := .string BL) rfl (by as_aux_lemma => kernel_rfl) (by as_aux_lemma => kernel_rfl) (by as_aux_lemma => kernel_rfl) (fun _ _ _ h => h) (Or.inl ⟨by rfl, ?_⟩) (by assumption) ?_
  · intro wq hSw
    go_simp
    try with_reducible rfl
  simp only [Act.put, List.setIfInBounds_toArray, List.set_cons_zero, List.set_cons_succ]
  refine wpAnyH_take (i := 12) (oi := { dst := some 73, op := Op.binOp BinOp.eql 9 (Operand.tmp 71) (Operand.tmp 72) 9, type := 4, pos := "law.go:82", after := #[{ on := 10, ground := Ground.data }, { on := 11, ground := Ground.data }, { on := 9, ground := Ground.guard }], guard := some (9, true) }) (v := .bool true) rfl (by as_aux_lemma => kernel_rfl) (by as_aux_lemma => kernel_rfl) (by as_aux_lemma => kernel_rfl) (fun _ _ _ h => h) (Or.inl ⟨by rfl, ?_⟩) (by assumption) ?_
  · intro wq hSw
    go_simp
    try with_reducible rfl
  simp only [Act.put, List.setIfInBounds_toArray, List.set_cons_zero, List.set_cons_succ]
  refine wpAnyH_take (i := 13) (oi := { dst := some 74, op := Op.pick (Operand.tmp 70) (Operand.tmp 73) (Operand.const (Value.bool false)), type := 4, pos := "law.go:82", after := #[{ on := 9, ground := Ground.data }, { on := 12, ground := Ground.data }], guard := none }) (v := .bool true) rfl (by as_aux_lemma => kernel_rfl) (by as_aux_lemma => kernel_rfl) (by as_aux_lemma => kernel_rfl) (fun _ _ _ h => h) (Or.inl ⟨by rfl, ?_⟩) (by assumption) ?_
  · intro wq hSw
    go_simp
    try with_reducible rfl
  simp only [Act.put, List.setIfInBounds_toArray, List.set_cons_zero, List.set_cons_succ]
  refine wpAnyH_take (i := 14) (oi := { dst := some 75, op := Op.move (Operand.tmp 74), type := 4, pos := "law.go:82", after := #[{ on := 13, ground := Ground.data }, { on := 9, ground := Ground.chain }], guard := none }) (v := .bool true) rfl (by as_aux_lemma => kernel_rfl) (by as_aux_lemma => kernel_rfl) (by as_aux_lemma => kernel_rfl) (fun _ _ _ h => h) (Or.inl ⟨by rfl, ?_⟩) (by assumption) ?_
  · intro wq hSw
    go_simp
    try with_reducible rfl
  simp only [Act.put, List.setIfInBounds_toArray, List.set_cons_zero, List.set_cons_succ]
  refine wpAnyH_take (i := 15) (oi := { dst := some 76, op := Op.fieldAddr 26 (Operand.tmp 11) 0, type := 0, pos := "law.go:82", after := #[{ on := 14, ground := Ground.guard }], guard := some (14, true) }) (v := ?_) rfl (by as_aux_lemma => kernel_rfl) (by as_aux_lemma => kernel_rfl) (by as_aux_lemma => kernel_rfl) (fun _ _ _ h => h) (Or.inl ⟨by rfl, ?_⟩) (by assumption) ?_
  rotate_left
  · intro wq hSw
    go_simp
    try with_reducible rfl
  simp only [Act.put, List.setIfInBounds_toArray, List.set_cons_zero, List.set_cons_succ]
  refine wpAnyH_take (i := 16) (oi := { dst := some 77, op := Op.load 3 (Operand.tmp 76), type := 3, pos := "law.go:82", after := #[{ on := 15, ground := Ground.data }, { on := 14, ground := Ground.guard }], guard := some (14, true) }) (v := .int .i64 c0) rfl (by as_aux_lemma => kernel_rfl) (by as_aux_lemma => kernel_rfl) (by as_aux_lemma => kernel_rfl) (fun _ _ _ h => h) (Or.inl ⟨by rfl, ?_⟩) (by assumption) ?_
  · intro wq hSw
    obtain ⟨q1, q2, q3⟩ := hSw
    have z := q3.cell 0 _ rfl
    go_simp
    try with_reducible rfl
  simp only [Act.put, List.setIfInBounds_toArray, List.set_cons_zero, List.set_cons_succ]
  refine wpAnyH_take (i := 17) (oi := { dst := some 78, op := Op.fieldAddr 31 (Operand.tmp 3) 0, type := 0, pos := "law.go:82", after := #[{ on := 14, ground := Ground.guard }], guard := some (14, true) }) (v := ?_) rfl (by as_aux_lemma => kernel_rfl) (by as_aux_lemma => kernel_rfl) (by as_aux_lemma => kernel_rfl) (fun _ _ _ h => h) (Or.inl ⟨by rfl, ?_⟩) (by assumption) ?_
  rotate_left
  · intro wq hSw
    go_simp
    try with_reducible rfl
  simp only [Act.put, List.setIfInBounds_toArray, List.set_cons_zero, List.set_cons_succ]
  refine wpAnyH_take (i := 18) (oi := { dst := some 79, op := Op.load 3 (Operand.tmp 78), type := 3, pos := "law.go:82", after := #[{ on := 17, ground := Ground.data }, { on := 14, ground := Ground.guard }], guard := some (14, true) }) (v := .int .i64 c0) rfl (by as_aux_lemma => kernel_rfl) (by as_aux_lemma => kernel_rfl) (by as_aux_lemma => kernel_rfl) (fun _ _ _ h => h) (Or.inl ⟨by rfl, ?_⟩) (by assumption) ?_
  · intro wq hSw
    obtain ⟨q1, q2, q3⟩ := hSw
    have z := q2.cell 0 _ rfl
    go_simp
    try with_reducible rfl
  simp only [Act.put, List.setIfInBounds_toArray, List.set_cons_zero, List.set_cons_succ]
  refine wpAnyH_take (i := 19) (oi := { dst := some 80, op := Op.binOp BinOp.eql 3 (Operand.tmp 77) (Operand.tmp 79) 3, type := 4, pos := "law.go:82", after := #[{ on := 16, ground := Ground.data }, { on := 18, ground := Ground.data }, { on := 14, ground := Ground.guard }], guard := some (14, true) }) (v := .bool true) rfl (by as_aux_lemma => kernel_rfl) (by as_aux_lemma => kernel_rfl) (by as_aux_lemma => kernel_rfl) (fun _ _ _ h => h) (Or.inl ⟨by rfl, ?_⟩) (by assumption) ?_
  · intro wq hSw
    go_simp
    try with_reducible rfl
  simp only [Act.put, List.setIfInBounds_toArray, List.set_cons_zero, List.set_cons_succ]
  refine wpAnyH_take (i := 20) (oi := { dst := some 81, op := Op.pick (Operand.tmp 75) (Operand.tmp 80) (Operand.const (Value.bool false)), type := 4, pos := "law.go:82", after := #[{ on := 14, ground := Ground.data }, { on := 19, ground := Ground.data }], guard := none }) (v := .bool true) rfl (by as_aux_lemma => kernel_rfl) (by as_aux_lemma => kernel_rfl) (by as_aux_lemma => kernel_rfl) (fun _ _ _ h => h) (Or.inl ⟨by rfl, ?_⟩) (by assumption) ?_
  · intro wq hSw
    go_simp
    try with_reducible rfl
  simp only [Act.put, List.setIfInBounds_toArray, List.set_cons_zero, List.set_cons_succ]
  refine wpAnyH_take (i := 21) (oi := { dst := some 82, op := Op.move (Operand.tmp 81), type := 4, pos := "law.go:82", after := #[{ on := 20, ground := Ground.data }, { on := 14, ground := Ground.chain }], guard := none }) (v := .bool true) rfl (by as_aux_lemma => kernel_rfl) (by as_aux_lemma => kernel_rfl) (by as_aux_lemma => kernel_rfl) (fun _ _ _ h => h) (Or.inl ⟨by rfl, ?_⟩) (by assumption) ?_
  · intro wq hSw
    go_simp
    try with_reducible rfl
  simp only [Act.put, List.setIfInBounds_toArray, List.set_cons_zero, List.set_cons_succ]
  refine wpAnyH_take (i := 22) (oi := { dst := some 83, op := Op.fieldAddr 31 (Operand.tmp 3) 0, type := 0, pos := "law.go:82", after := #[{ on := 21, ground := Ground.guard }], guard := some (21, true) }) (v := ?_) rfl (by as_aux_lemma => kernel_rfl) (by as_aux_lemma => kernel_rfl) (by as_aux_lemma => kernel_rfl) (fun _ _ _ h => h) (Or.inl ⟨by rfl, ?_⟩) (by assumption) ?_
  rotate_left
  · intro wq hSw
    go_simp
    try with_reducible rfl
  simp only [Act.put, List.setIfInBounds_toArray, List.set_cons_zero, List.set_cons_succ]
  refine wpAnyH_take (i := 23) (oi := { dst := some 84, op := Op.load 3 (Operand.tmp 83), type := 3, pos := "law.go:82", after := #[{ on := 22, ground := Ground.data }, { on := 21, ground := Ground.guard }], guard := some (21, true) }) (v := .int .i64 c0) rfl (by as_aux_lemma => kernel_rfl) (by as_aux_lemma => kernel_rfl) (by as_aux_lemma => kernel_rfl) (fun _ _ _ h => h) (Or.inl ⟨by rfl, ?_⟩) (by assumption) ?_
  · intro wq hSw
    obtain ⟨q1, q2, q3⟩ := hSw
    have z := q2.cell 0 _ rfl
    go_simp
    try with_reducible rfl
  simp only [Act.put, List.setIfInBounds_toArray, List.set_cons_zero, List.set_cons_succ]
  refine wpAnyH_take (i := 24) (oi := { dst := some 85, op := Op.binOp BinOp.neq 3 (Operand.tmp 84) (Operand.const (Value.int IntKind.i64 1)) 3, type := 4, pos := "law.go:82", after := #[{ on := 23, ground := Ground.data }, { on := 21, ground := Ground.guard }], guard := some (21, true) }) (v := .bool true) rfl (by as_aux_lemma => kernel_rfl) (by as_aux_lemma => kernel_rfl) (by as_aux_lemma => kernel_rfl) (fun _ _ _ h => h) (Or.inl ⟨by rfl, ?_⟩) (by assumption) ?_
  · intro wq hSw
    go_simp
    try with_reducible rfl
  simp only [Act.put, List.setIfInBounds_toArray, List.set_cons_zero, List.set_cons_succ]
  refine wpAnyH_take (i := 25) (oi := { dst := some 86, op := Op.move (Operand.tmp 85), type := 4, pos := "law.go:82", after := #[{ on := 24, ground := Ground.data }, { on := 21, ground := Ground.chain }, { on := 21, ground := Ground.guard }], guard := some (21, true) }) (v := .bool true) rfl (by as_aux_lemma => kernel_rfl) (by as_aux_lemma => kernel_rfl) (by as_aux_lemma => kernel_rfl) (fun _ _ _ h => h) (Or.inl ⟨by rfl, ?_⟩) (by assumption) ?_
  · intro wq hSw
    go_simp
    try with_reducible rfl
  simp only [Act.put, List.setIfInBounds_toArray, List.set_cons_zero, List.set_cons_succ]
  refine wpAnyH_take (i := 26) (oi := { dst := some 87, op := Op.load 26 (Operand.tmp 11), type := 26, pos := "law.go:82", after := #[{ on := 25, ground := Ground.guard }], guard := some (25, false) }) (v := undef) rfl (by as_aux_lemma => kernel_rfl) (by as_aux_lemma => kernel_rfl) (by as_aux_lemma => kernel_rfl) (fun _ _ _ h => h) (Or.inr ⟨by rfl, rfl⟩) (by assumption) ?_
  simp only [Act.put, List.setIfInBounds_toArray, List.set_cons_zero, List.set_cons_succ]
  refine wpAnyH_take (i := 27) (oi := { dst := some 88, op := Op.call { callee := Callee.value (Operand.func 11), args := #[Operand.tmp 87], argTypes := #[26] }, type := 31, pos := "law.go:82", after := #[{ on := 26, ground := Ground.data }, { on := 25, ground := Ground.chain }, { on := 25, ground := Ground.guard }], guard := some (25, false) }) (v := undef) rfl (by as_aux_lemma => kernel_rfl) (by as_aux_lemma => kernel_rfl) (by as_aux_lemma => kernel_rfl) (fun _ _ _ h => h) (Or.inr ⟨by rfl, rfl⟩) (by assumption) ?_
  simp only [Act.put, List.setIfInBounds_toArray, List.set_cons_zero, List.set_cons_succ]
  refine wpAnyH_take (i := 28) (oi := { dst := some 89, op := Op.load 31 (Operand.tmp 3), type := 31, pos := "law.go:82", after := #[{ on := 25, ground := Ground.guard }], guard := some (25, false) }) (v := undef) rfl (by as_aux_lemma => kernel_rfl) (by as_aux_lemma => kernel_rfl) (by as_aux_lemma => kernel_rfl) (fun _ _ _ h => h) (Or.inr ⟨by rfl, rfl⟩) (by assumption) ?_
  simp only [Act.put, List.setIfInBounds_toArray, List.set_cons_zero, List.set_cons_succ]
  refine wpAnyH_take (i := 29) (oi := { dst := some 90, op := Op.binOp BinOp.eql 31 (Operand.tmp 88) (Operand.tmp 89) 31, type := 4, pos := "law.go:82", after := #[{ on := 27, ground := Ground.data }, { on := 28, ground := Ground.data }, { on := 25, ground := Ground.guard }], guard := some (25, false) }) (v := undef) rfl (by as_aux_lemma => kernel_rfl) (by as_aux_lemma => kernel_rfl) (by as_aux_lemma => kernel_rfl) (fun _ _ _ h => h) (Or.inr ⟨by rfl, rfl⟩) (by assumption) ?_
  simp only [Act.put, List.setIfInBounds_toArray, List.set_cons_zero, List.set_cons_succ]
  refine wpAnyH_take (i := 30) (oi := { dst := some 91, op := Op.pick (Operand.tmp 86) (Operand.const (Value.bool true)) (Operand.tmp 90), type := 4, pos := "law.go:82", after := #[{ on := 25, ground := Ground.data }, { on := 29, ground := Ground.data }, { on := 21, ground := Ground.guard }], guard := some (21, true) }) (v := .bool true) rfl (by as_aux_lemma => kernel_rfl) (by as_aux_lemma => kernel_rfl) (by as_aux_lemma => kernel_rfl) (fun _ _ _ h => h) (Or.inl ⟨by rfl, ?_⟩) (by assumption) ?_
  · intro wq hSw
    go_simp
    try with_reducible rfl
  simp only [Act.put, List.setIfInBounds_toArray, List.set_cons_zero, List.set_cons_succ]
  refine wpAnyH_take (i := 31) (oi := { dst := some 92, op := Op.pick (Operand.tmp 82) (Operand.tmp 91) (Operand.const (Value.bool false)), type := 4, pos := "law.go:82", after := #[{ on := 21, ground := Ground.data }, { on := 30, ground := Ground.data }], guard := none }) (v := .bool true) rfl (by as_aux_lemma => kernel_rfl) (by as_aux_lemma => kernel_rfl) (by as_aux_lemma => kernel_rfl) (fun _ _ _ h => h) (Or.inl ⟨by rfl, ?_⟩) (by assumption) ?_
  · intro wq hSw
    go_simp
    try with_reducible rfl
  simp only [Act.put, List.setIfInBounds_toArray, List.set_cons_zero, List.set_cons_succ]
  refine wpAnyH_take (i := 32) (oi := { dst := some 4, op := Op.assign (Operand.tmp 92), type := 4, pos := "law.go:82", after := #[{ on := 31, ground := Ground.data }, { on := 27, ground := Ground.chain }, { on := 0, ground := Ground.phase }, { on := 1, ground := Ground.phase }, { on := 2, ground := Ground.phase }, { on := 3, ground := Ground.phase }, { on := 4, ground := Ground.phase }, { on := 5, ground := Ground.phase }, { on := 6, ground := Ground.phase }, { on := 7, ground := Ground.phase }, { on := 8, ground := Ground.phase }, { on := 9, ground := Ground.phase }, { on := 10, ground := Ground.phase }, { on := 11, ground := Ground.phase }, { on := 12, ground := Ground.phase }, { on := 13, ground := Ground.phase }, { on := 14, ground := Ground.phase }, { on := 15, ground := Ground.phase }, { on := 16, ground := Ground.phase }, { on := 17, ground := Ground.phase }, { on := 18, ground := Ground.phase }, { on := 19, ground := Ground.phase }, { on := 20, ground := Ground.phase }, { on := 21, ground := Ground.phase }, { on := 22, ground := Ground.phase }, { on := 23, ground := Ground.phase }, { on := 24, ground := Ground.phase }, { on := 25, ground := Ground.phase }, { on := 26, ground := Ground.phase }, { on := 27, ground := Ground.phase }, { on := 28, ground := Ground.phase }, { on := 29, ground := Ground.phase }, { on := 30, ground := Ground.phase }, { on := 31, ground := Ground.phase }], guard := none }) (v := .bool true) rfl (by as_aux_lemma => kernel_rfl) (by as_aux_lemma => kernel_rfl) (by as_aux_lemma => kernel_rfl) (fun _ _ _ h => h) (Or.inl ⟨by rfl, ?_⟩) (by assumption) ?_
  · intro wq hSw
    go_simp
    try with_reducible rfl
  simp only [Act.put, List.setIfInBounds_toArray, List.set_cons_zero, List.set_cons_succ]
  refine wpAnyH_done (by as_aux_lemma => kernel_rfl) ?_ _
  go_wp2_with fail
  go_ret
  exact ⟨rfl, hd.1⟩
set_option maxRecDepth 100000 in
set_option maxHeartbeats 16000000 in
theorem way_ok_er (s : ByteArray) (c0 c1 c2 c3 c4 c5 c6 c7 c8 : Int) (w : World) (hw : Wd w) (ht0 : Tb w) (hs : s.size ≤ 1000) (s0 s1 s2 s3 s4 s5 s6 s7 s8 : Int) (h1 : lp s = .ok [s0, s1, s2, s3, s4, s5, s6, s7, s8]) (x2 p2 : Int) (h2 : pt [c0, c1, c2, c3, c4, c5, c6, c7, c8] = .er x2 p2) : Calls Tryd.prog 5 #[.string s, .agg (List.toArray [.int .i64 c0, .int .i64 c1, .int .i64 c2, .int .i64 c3, .int .i64 c4, .int .i64 c5, .int .i64 c6, .int .i64 c7, .int .i64 c8])] w fun e w' => e = .returned (.bool true) ∧ Below w.heap.size w w' := by
  have HA := Lib.hid (fun W hW => awake_is W hW)
  have HW := Lib.hid hw
  have HT := Lib.hid ht0
  have HTO := Lib.hid (fun W => to_is c0 c1 c2 c3 c4 c5 c6 c7 c8 W)
  have g0 : decide ((1000 : Int) < (s.size : Int)) = false := decide_eq_false (by omega)
  have gA : Below w.heap.size w (w.alloc (.cells (List.toArray [.int .i64 c0, .int .i64 c1, .int .i64 c2, .int .i64 c3, .int .i64 c4, .int .i64 c5, .int .i64 c6, .int .i64 c7, .int .i64 c8]) 31)) := by go_grown
  have bA := Bl.new w [.int .i64 c0, .int .i64 c1, .int .i64 c2, .int .i64 c3, .int .i64 c4, .int .i64 c5, .int .i64 c6, .int .i64 c7, .int .i64 c8] 31
  have HG := Lib.hid (And.intro gA bA)
  have HP1 := Lib.hid (fun W hv => par_ok s hs s0 s1 s2 s3 s4 s5 s6 s7 s8 h1 W hv)
  have HQ1 := Lib.hid (fun W hv ht => pp_ok s0 s1 s2 s3 s4 s5 s6 s7 s8 s.data.toList (lp_pt h1) W hv ht)
  rw [Bs_of] at HQ1
  have HQ2 := Lib.hid (fun W hv ht => pp_bad c0 c1 c2 c3 c4 c5 c6 c7 c8 x2 p2 h2 W hv ht)
  clear h1 h2 gA bA hw ht0 hs
  go_enter Tryd.func5, Tryd.ntmps5
  go_wp2_with fail
  refine (HP1.out _ (HW.out.below HG.out.1).vb).mono ?_
  rintro e1 w1 ⟨rfl, hb1⟩
  have ga : Below w1.heap.size w1 (w1.alloc (.cells (List.toArray [.int .i64 s0, .int .i64 s1, .int .i64 s2, .int .i64 s3, .int .i64 s4, .int .i64 s5, .int .i64 s6, .int .i64 s7, .int .i64 s8]) 26)) := by go_grown
  have hg1 := Below.step hb1 ga
  have ba := Bl.new w1 [.int .i64 s0, .int .i64 s1, .int .i64 s2, .int .i64 s3, .int .i64 s4, .int .i64 s5, .int .i64 s6, .int .i64 s7, .int .i64 s8] 26
  have HG1 := Lib.hid (And.intro (Below.step HG.out.1 hg1) (And.intro (HG.out.2.below hg1) ba))
  clear ga hg1 ba hb1 HP1
  have bz := HG1.out.2.1
  have x0 := bz.cell 0 _ rfl
  have x1 := bz.cell 1 _ rfl
  have x2 := bz.cell 2 _ rfl
  have x3 := bz.cell 3 _ rfl
  have x4 := bz.cell 4 _ rfl
  have x5 := bz.cell 5 _ rfl
  have x6 := bz.cell 6 _ rfl
  have x7 := bz.cell 7 _ rfl
  have x8 := bz.cell 8 _ rfl
  clear bz
  go_wp2_with fail
  refine (HQ1.out _ (HW.out.below HG1.out.1).vb (HT.out.below HG1.out.1)).mono ?_
  rintro e2 w2 ⟨rfl, hb2⟩
  have HG2 := Lib.hid (And.intro (Below.step HG1.out.1 hb2) (HG1.out.2.1.below hb2))
  clear hb2 HQ1 x0 x1 x2 x3 x4 x5 x6 x7 x8
  have bz := HG2.out.2
  have x0 := bz.cell 0 _ rfl
  have x1 := bz.cell 1 _ rfl
  have x2 := bz.cell 2 _ rfl
  have x3 := bz.cell 3 _ rfl
  have x4 := bz.cell 4 _ rfl
  have x5 := bz.cell 5 _ rfl
  have x6 := bz.cell 6 _ rfl
  have x7 := bz.cell 7 _ rfl
  have x8 := bz.cell 8 _ rfl
  clear bz
  have HG3 := Lib.hid (And.intro HG2.out.1 HG2.out.2)
  go_wp2_with fail
  refine (HTO.out _).mono ?_
  rintro e4 w4 ⟨rfl, hb4⟩
  have HG4 := Lib.hid (And.intro (Below.step HG3.out.1 hb4) (HG3.out.2.below hb4))
  clear hb4 HTO x0 x1 x2 x3 x4 x5 x6 x7 x8
  go_wp2_with fail
  refine (HQ2.out _ (HW.out.below HG4.out.1).vb (HT.out.below HG4.out.1)).mono ?_
  rintro e5 w5 ⟨T5, y5, rfl, hb5⟩
  have HG5 := Lib.hid (Below.step HG4.out.1 hb5)
  clear hb5 HQ2
  go_wp2_with fail
  refine (HA.out _ (HW.out.below HG5.out)).mono ?_
  rintro e6 w6 ⟨rfl, hb6⟩
  have HG6 := Lib.hid (Below.step HG5.out hb6)
  clear hb6
  go_wp2_with fail
  go_ret
  exact ⟨rfl, HG6.out⟩
set_option maxRecDepth 100000 in
set_option maxHeartbeats 16000000 in
theorem way_ok_one (s : ByteArray) (c1 c2 c3 c4 c5 c6 c7 c8 : Int) (w : World) (hw : Wd w) (ht0 : Tb w) (hs : s.size ≤ 1000) (s0 s1 s2 s3 s4 s5 s6 s7 s8 : Int) (h1 : lp s = .ok [s0, s1, s2, s3, s4, s5, s6, s7, s8]) (l : List UInt8) (hl : l.length ≤ 200) (h2 : pt [(1 : Int), c1, c2, c3, c4, c5, c6, c7, c8] = .ok l) (h3 : lp (Bs l) = .ok [(1 : Int), c1, c2, c3, c4, c5, c6, c7, c8]) : Calls Tryd.prog 5 #[.string s, .agg (List.toArray [.int .i64 1, .int .i64 c1, .int .i64 c2, .int .i64 c3, .int .i64 c4, .int .i64 c5, .int .i64 c6, .int .i64 c7, .int .i64 c8])] w fun e w' => e = .returned (.bool true) ∧ Below w.heap.size w w' := by
  have HA := Lib.hid (fun W hW => awake_is W hW)
  have HW := Lib.hid hw
  have HT := Lib.hid ht0
  have HTO := Lib.hid (fun W => to_is 1 c1 c2 c3 c4 c5 c6 c7 c8 W)
  have g0 : decide ((1000 : Int) < (s.size : Int)) = false := decide_eq_false (by omega)
  have gA : Below w.heap.size w (w.alloc (.cells (List.toArray [.int .i64 1, .int .i64 c1, .int .i64 c2, .int .i64 c3, .int .i64 c4, .int .i64 c5, .int .i64 c6, .int .i64 c7, .int .i64 c8]) 31)) := by go_grown
  have bA := Bl.new w [.int .i64 1, .int .i64 c1, .int .i64 c2, .int .i64 c3, .int .i64 c4, .int .i64 c5, .int .i64 c6, .int .i64 c7, .int .i64 c8] 31
  have HG := Lib.hid (And.intro gA bA)
  have HP1 := Lib.hid (fun W hv => par_ok s hs s0 s1 s2 s3 s4 s5 s6 s7 s8 h1 W hv)
  have HQ1 := Lib.hid (fun W hv ht => pp_ok s0 s1 s2 s3 s4 s5 s6 s7 s8 s.data.toList (lp_pt h1) W hv ht)
  rw [Bs_of] at HQ1
  have HQ2 := Lib.hid (fun W hv ht => pp_ok 1 c1 c2 c3 c4 c5 c6 c7 c8 l h2 W hv ht)
  have HP3 := Lib.hid (fun W hv => par_ok (Bs l) (by rw [Bs_size]; omega) 1 c1 c2 c3 c4 c5 c6 c7 c8 h3 W hv)
  have HQ4 := Lib.hid (fun W hv ht => pp_ok 1 c1 c2 c3 c4 c5 c6 c7 c8 l h2 W hv ht)
  have HF := Lib.hid (fun W => from_is 1 c1 c2 c3 c4 c5 c6 c7 c8 W)
  have HEQ := Lib.hid (fun W => eqlRef 1 c1 c2 c3 c4 c5 c6 c7 c8 W)
  obtain ⟨BL, hBL⟩ : ∃ BL, BL = Bs l := ⟨_, rfl⟩
  rw [← hBL] at HQ2 HP3 HQ4
  clear hBL h3 hl
  clear h1 h2 gA bA hw ht0 hs
  go_enter Tryd.func5, Tryd.ntmps5
  go_wp2_with fail
  refine (HP1.out _ (HW.out.below HG.out.1).vb).mono ?_
  rintro e1 w1 ⟨rfl, hb1⟩
  have ga : Below w1.heap.size w1 (w1.alloc (.cells (List.toArray [.int .i64 s0, .int .i64 s1, .int .i64 s2, .int .i64 s3, .int .i64 s4, .int .i64 s5, .int .i64 s6, .int .i64 s7, .int .i64 s8]) 26)) := by go_grown
  have hg1 := Below.step hb1 ga
  have ba := Bl.new w1 [.int .i64 s0, .int .i64 s1, .int .i64 s2, .int .i64 s3, .int .i64 s4, .int .i64 s5, .int .i64 s6, .int .i64 s7, .int .i64 s8] 26
  have HG1 := Lib.hid (And.intro (Below.step HG.out.1 hg1) (And.intro (HG.out.2.below hg1) ba))
  clear ga hg1 ba hb1 HP1
  have bz := HG1.out.2.1
  have x0 := bz.cell 0 _ rfl
  have x1 := bz.cell 1 _ rfl
  have x2 := bz.cell 2 _ rfl
  have x3 := bz.cell 3 _ rfl
  have x4 := bz.cell 4 _ rfl
  have x5 := bz.cell 5 _ rfl
  have x6 := bz.cell 6 _ rfl
  have x7 := bz.cell 7 _ rfl
  have x8 := bz.cell 8 _ rfl
  clear bz
  go_wp2_with fail
  refine (HQ1.out _ (HW.out.below HG1.out.1).vb (HT.out.below HG1.out.1)).mono ?_
  rintro e2 w2 ⟨rfl, hb2⟩
  have HG2 := Lib.hid (And.intro (Below.step HG1.out.1 hb2) (HG1.out.2.1.below hb2))
  clear hb2 HQ1 x0 x1 x2 x3 x4 x5 x6 x7 x8
  have bz := HG2.out.2
  have x0 := bz.cell 0 _ rfl
  have x1 := bz.cell 1 _ rfl
  have x2 := bz.cell 2 _ rfl
  have x3 := bz.cell 3 _ rfl
  have x4 := bz.cell 4 _ rfl
  have x5 := bz.cell 5 _ rfl
  have x6 := bz.cell 6 _ rfl
  have x7 := bz.cell 7 _ rfl
  have x8 := bz.cell 8 _ rfl
  clear bz
  have HG3 := Lib.hid (And.intro HG2.out.1 HG2.out.2)
  go_wp2_with fail
  refine (HTO.out _).mono ?_
  rintro e4 w4 ⟨rfl, hb4⟩
  have HG4 := Lib.hid (And.intro (Below.step HG3.out.1 hb4) (HG3.out.2.below hb4))
  clear hb4 HTO x0 x1 x2 x3 x4 x5 x6 x7 x8
  go_wp2_with fail
  refine (HQ2.out _ (HW.out.below HG4.out.1).vb (HT.out.below HG4.out.1)).mono ?_
  rintro e5 w5 ⟨rfl, hb5⟩
  have HG5 := Lib.hid (And.intro (Below.step HG4.out.1 hb5) (HG4.out.2.below hb5))
  clear hb5 HQ2
  go_wp2_with fail
  refine (HP3.out _ (HW.out.below HG5.out.1).vb).mono ?_
  rintro e6 w6 ⟨rfl, hb6⟩
  have ga : Below w6.heap.size w6 (w6.alloc (.cells (List.toArray [.int .i64 1, .int .i64 c1, .int .i64 c2, .int .i64 c3, .int .i64 c4, .int .i64 c5, .int .i64 c6, .int .i64 c7, .int .i64 c8]) 26)) := by go_grown
  have hg6 := Below.step hb6 ga
  have ba := Bl.new w6 [.int .i64 1, .int .i64 c1, .int .i64 c2, .int .i64 c3, .int .i64 c4, .int .i64 c5, .int .i64 c6, .int .i64 c7, .int .i64 c8] 26
  have HG6 := Lib.hid (And.intro (Below.step HG5.out.1 hg6) (And.intro (HG5.out.2.below hg6) ba))
  clear ga hg6 ba hb6 HP3
  go_wp2_with fail
  refine (HQ4.out _ (HW.out.below HG6.out.1).vb (HT.out.below HG6.out.1)).mono ?_
  rintro e7 w7 ⟨rfl, hb7⟩
  have HG7 := Lib.hid (And.intro (Below.step HG6.out.1 hb7) (And.intro (HG6.out.2.1.below hb7) (HG6.out.2.2.below hb7)))
  clear hb7 HQ4
  go_wp2_with fail
  have gd : Below w7.heap.size w7 w7.drew := (Below.refl _ _).drew
  have hd : (Below w.heap.size w w7.drew ∧ Bl w.heap.size [.int .i64 1, .int .i64 c1, .int .i64 c2, .int .i64 c3, .int .i64 c4, .int .i64 c5, .int .i64 c6, .int .i64 c7, .int .i64 c8] w7.drew ∧ Bl w6.heap.size [.int .i64 1, .int .i64 c1, .int .i64 c2, .int .i64 c3, .int .i64 c4, .int .i64 c5, .int .i64 c6, .int .i64 c7, .int .i64 c8] w7.drew) := ⟨HG7.out.1.drew, HG7.out.2.1.below gd, HG7.out.2.2.below gd⟩
  clear gd
  refine wp_region_held_drew (S := fun w' => Below w.heap.size w w' ∧ Bl w.heap.size [.int .i64 1, .int .i64 c1, .int .i64 c2, .int .i64 c3, .int .i64 c4, .int .i64 c5, .int .i64 c6, .int .i64 c7, .int .i64 c8] w' ∧ Bl w6.heap.size [.int .i64 1, .int .i64 c1, .int .i64 c2, .int .i64 c3, .int .i64 c4, .int .i64 c5, .int .i64 c6, .int .i64 c7, .int .i64 c8] w') (by kernel_rfl) hd (fun hHeld => ?_)
  refine wpAnyH_ready (rs := [0]) (by as_aux_lemma => kernel_rfl) (by simp) ?_
  refine AllReadyH.cons (o := { dst := some 61, op := Op.call { callee := Callee.value (Operand.func 7), args := #[], argTypes := #[] }, type := 4, pos := "law.go:82", after := #[], guard := none }) rfl (fun K2 hK => ?_) AllReadyH.nil
  go_simp
  go_at_call 7
  refine (HA.out _ (HW.out.below hd.1)).mono ?_
  rintro e8 w8 ⟨rfl, hb8⟩
  have hd3 : (Below w.heap.size w w8 ∧ Bl w.heap.size [.int .i64 1, .int .i64 c1, .int .i64 c2, .int .i64 c3, .int .i64 c4, .int .i64 c5, .int .i64 c6, .int .i64 c7, .int .i64 c8] w8 ∧ Bl w6.heap.size [.int .i64 1, .int .i64 c1, .int .i64 c2, .int .i64 c3, .int .i64 c4, .int .i64 c5, .int .i64 c6, .int .i64 c7, .int .i64 c8] w8) := ⟨Below.step hd.1 hb8, hd.2.1.below hb8, hd.2.2.below hb8⟩
  clear hd hb8
  have hd := hd3
  clear hd3
  refine hK.out _ _ hd (fun hHeld => ?_)
  clear hK K2
  try simp only [Act.put, List.setIfInBounds_toArray, List.set_cons_zero, List.set_cons_succ]
  refine wpAnyH_take (i := 1) (oi := { dst := some 62, op := Op.move (Operand.tmp 61), type := 4, pos := "law.go:82", after := #[{ on := 0, ground := Ground.data }, { on := 0, ground := Ground.chain }], guard := none }) (v := .bool true) rfl (by as_aux_lemma => kernel_rfl) (by as_aux_lemma => kernel_rfl) (by as_aux_lemma => kernel_rfl) (fun _ _ _ h => h) (Or.inl ⟨by rfl, ?_⟩) (by assumption) ?_
  · intro wq hSw
    go_simp
    try with_reducible rfl
  simp only [Act.put, List.setIfInBounds_toArray, List.set_cons_zero, List.set_cons_succ]
  refine wpAnyH_take (i := 2) (oi := { dst := some 63, op := Op.move (Operand.tmp 12), type := 28, pos := "law.go:82", after := #[{ on := 1, ground := Ground.guard }], guard := some (1, true) }) (v := .nilIface) rfl (by as_aux_lemma => kernel_rfl) (by as_aux_lemma => kernel_rfl) (by as_aux_lemma => kernel_rfl) (fun _ _ _ h => h) (Or.inl ⟨by rfl, ?_⟩) (by assumption) ?_
  · intro wq hSw
    go_simp
    try with_reducible rfl
  simp only [Act.put, List.setIfInBounds_toArray, List.set_cons_zero, List.set_cons_succ]
  refine wpAnyH_take (i := 3) (oi := { dst := some 64, op := Op.binOp BinOp.eql 28 (Operand.tmp 63) (Operand.const Value.nilIface) 28, type := 4, pos := "law.go:82", after := #[{ on := 2, ground := Ground.data }, { on := 1, ground := Ground.guard }], guard := some (1, true) }) (v := .bool true) rfl (by as_aux_lemma => kernel_rfl) (by as_aux_lemma => kernel_rfl) (by as_aux_lemma => kernel_rfl) (fun _ _ _ h => h) (Or.inl ⟨by rfl, ?_⟩) (by assumption) ?_
  · intro wq hSw
    go_simp
    try with_reducible rfl
  simp only [Act.put, List.setIfInBounds_toArray, List.set_cons_zero, List.set_cons_succ]
  refine wpAnyH_take (i := 4) (oi := { dst := some 65, op := Op.pick (Operand.tmp 62) (Operand.tmp 64) (Operand.const (Value.bool false)), type := 4, pos := "law.go:82", after := #[{ on := 1, ground := Ground.data }, { on := 3, ground := Ground.data }], guard := none }) (v := .bool true) rfl (by as_aux_lemma => kernel_rfl) (by as_aux_lemma => kernel_rfl) (by as_aux_lemma => kernel_rfl) (fun _ _ _ h => h) (Or.inl ⟨by rfl, ?_⟩) (by assumption) ?_
  · intro wq hSw
    go_simp
    try with_reducible rfl
  simp only [Act.put, List.setIfInBounds_toArray, List.set_cons_zero, List.set_cons_succ]
  refine wpAnyH_take (i := 5) (oi := { dst := some 66, op := Op.move (Operand.tmp 65), type := 4, pos := "law.go:82", after := #[{ on := 4, ground := Ground.data }, { on := 1, ground := Ground.chain }], guard := none }) (v := .bool true) rfl (by as_aux_lemma => kernel_rfl) (by as_aux_lemma => kernel_rfl) (by as_aux_lemma => kernel_rfl) (fun _ _ _ h => h) (Or.inl ⟨by rfl, ?_⟩) (by assumption) ?_
  · intro wq hSw
    go_simp
    try with_reducible rfl
  simp only [Act.put, List.setIfInBounds_toArray, List.set_cons_zero, List.set_cons_succ]
  refine wpAnyH_take (i := 6) (oi := { dst := some 67, op := Op.move (Operand.tmp 14), type := 28, pos := "law.go:82", after := #[{ on := 5, ground := Ground.guard }], guard := some (5, true) }) (v := .nilIface) rfl (by as_aux_lemma => kernel_rfl) (by as_aux_lemma => kernel_rfl) (by as_aux_lemma => kernel_rfl) (fun _ _ _ h => h) (Or.inl ⟨by rfl, ?_⟩) (by assumption) ?_
  · intro wq hSw
    go_simp
    try with_reducible rfl
  simp only [Act.put, List.setIfInBounds_toArray, List.set_cons_zero, List.set_cons_succ]
  refine wpAnyH_take (i := 7) (oi := { dst := some 68, op := Op.binOp BinOp.eql 28 (Operand.tmp 67) (Operand.const Value.nilIface) 28, type := 4, pos := "law.go:82", after := #[{ on := 6, ground := Ground.data }, { on := 5, ground := Ground.guard }], guard := some (5, true) }) (v := .bool true) rfl (by as_aux_lemma => kernel_rfl) (by as_aux_lemma => kernel_rfl) (by as_aux_lemma => kernel_rfl) (fun _ _ _ h => h) (Or.inl ⟨by rfl, ?_⟩) (by assumption) ?_
  · intro wq hSw
    go_simp
    try with_reducible rfl
  simp only [Act.put, List.setIfInBounds_toArray, List.set_cons_zero, List.set_cons_succ]
  refine wpAnyH_take (i := 8) (oi := { dst := some 69, op := Op.pick (Operand.tmp 66) (Operand.tmp 68) (Operand.const (Value.bool false)), type := 4, pos := "law.go:82", after := #[{ on := 5, ground := Ground.data }, { on := 7, ground := Ground.data }], guard := none }) (v := .bool true) rfl (by as_aux_lemma => kernel_rfl) (by as_aux_lemma => kernel_rfl) (by as_aux_lemma => kernel_rfl) (fun _ _ _ h => h) (Or.inl ⟨by rfl, ?_⟩) (by assumption) ?_
  · intro wq hSw
    go_simp
    try with_reducible rfl
  simp only [Act.put, List.setIfInBounds_toArray, List.set_cons_zero, List.set_cons_succ]
  refine wpAnyH_take (i := 9) (oi := { dst := some 70, op := Op.move (Operand.tmp 69), type := 4, pos := "law.go:82", after := #[{ on := 8, ground := Ground.data }, { on := 5, ground := Ground.chain }], guard := none }) (v := .bool true) rfl (by as_aux_lemma => kernel_rfl) (by as_aux_lemma => kernel_rfl) (by as_aux_lemma => kernel_rfl) (fun _ _ _ h => h) (Or.inl ⟨by rfl, ?_⟩) (by assumption) ?_
  · intro wq hSw
    go_simp
    try with_reducible rfl
  simp only [Act.put, List.setIfInBounds_toArray, List.set_cons_zero, List.set_cons_succ]
  refine wpAnyH_take (i := 10) (oi := { dst := some 71, op := Op.move (Operand.tmp 9), type := 9, pos := "law.go:82", after := #[{ on := 9, ground := Ground.guard }], guard := some (9, true) }) (v := .string BL) rfl (by as_aux_lemma => kernel_rfl) (by as_aux_lemma => kernel_rfl) (by as_aux_lemma => kernel_rfl) (fun _ _ _ h => h) (Or.inl ⟨by rfl, ?_⟩) (by assumption) ?_
  · intro wq hSw
    go_simp
    try with_reducible rfl
  simp only [Act.put, List.setIfInBounds_toArray, List.set_cons_zero, List.set_cons_succ]
  refine wpAnyH_take (i := 11) (oi := { dst := some 72, op := Op.move (Operand.tmp 13), type := 9, pos := "law.go:82", after := #[{ on := 9, ground := Ground.guard }], guard := some (9, true) }) (v := .string BL) rfl (by as_aux_lemma => kernel_rfl) (by as_aux_lemma => kernel_rfl) (by as_aux_lemma => kernel_rfl) (fun _ _ _ h => h) (Or.inl ⟨by rfl, ?_⟩) (by assumption) ?_
  · intro wq hSw
    go_simp
    try with_reducible rfl
  simp only [Act.put, List.setIfInBounds_toArray, List.set_cons_zero, List.set_cons_succ]
  refine wpAnyH_take (i := 12) (oi := { dst := some 73, op := Op.binOp BinOp.eql 9 (Operand.tmp 71) (Operand.tmp 72) 9, type := 4, pos := "law.go:82", after := #[{ on := 10, ground := Ground.data }, { on := 11, ground := Ground.data }, { on := 9, ground := Ground.guard }], guard := some (9, true) }) (v := .bool true) rfl (by as_aux_lemma => kernel_rfl) (by as_aux_lemma => kernel_rfl) (by as_aux_lemma => kernel_rfl) (fun _ _ _ h => h) (Or.inl ⟨by rfl, ?_⟩) (by assumption) ?_
  · intro wq hSw
    go_simp
    try with_reducible rfl
  simp only [Act.put, List.setIfInBounds_toArray, List.set_cons_zero, List.set_cons_succ]
  refine wpAnyH_take (i := 13) (oi := { dst := some 74, op := Op.pick (Operand.tmp 70) (Operand.tmp 73) (Operand.const (Value.bool false)), type := 4, pos := "law.go:82", after := #[{ on := 9, ground := Ground.data }, { on := 12, ground := Ground.data }], guard := none }) (v := .bool true) rfl (by as_aux_lemma => kernel_rfl) (by as_aux_lemma => kernel_rfl) (by as_aux_lemma => kernel_rfl) (fun _ _ _ h => h) (Or.inl ⟨by rfl, ?_⟩) (by assumption) ?_
  · intro wq hSw
    go_simp
    try with_reducible rfl
  simp only [Act.put, List.setIfInBounds_toArray, List.set_cons_zero, List.set_cons_succ]
  refine wpAnyH_take (i := 14) (oi := { dst := some 75, op := Op.move (Operand.tmp 74), type := 4, pos := "law.go:82", after := #[{ on := 13, ground := Ground.data }, { on := 9, ground := Ground.chain }], guard := none }) (v := .bool true) rfl (by as_aux_lemma => kernel_rfl) (by as_aux_lemma => kernel_rfl) (by as_aux_lemma => kernel_rfl) (fun _ _ _ h => h) (Or.inl ⟨by rfl, ?_⟩) (by assumption) ?_
  · intro wq hSw
    go_simp
    try with_reducible rfl
  simp only [Act.put, List.setIfInBounds_toArray, List.set_cons_zero, List.set_cons_succ]
  refine wpAnyH_take (i := 15) (oi := { dst := some 76, op := Op.fieldAddr 26 (Operand.tmp 11) 0, type := 0, pos := "law.go:82", after := #[{ on := 14, ground := Ground.guard }], guard := some (14, true) }) (v := ?_) rfl (by as_aux_lemma => kernel_rfl) (by as_aux_lemma => kernel_rfl) (by as_aux_lemma => kernel_rfl) (fun _ _ _ h => h) (Or.inl ⟨by rfl, ?_⟩) (by assumption) ?_
  rotate_left
  · intro wq hSw
    go_simp
    try with_reducible rfl
  simp only [Act.put, List.setIfInBounds_toArray, List.set_cons_zero, List.set_cons_succ]
  refine wpAnyH_take (i := 16) (oi := { dst := some 77, op := Op.load 3 (Operand.tmp 76), type := 3, pos := "law.go:82", after := #[{ on := 15, ground := Ground.data }, { on := 14, ground := Ground.guard }], guard := some (14, true) }) (v := .int .i64 1) rfl (by as_aux_lemma => kernel_rfl) (by as_aux_lemma => kernel_rfl) (by as_aux_lemma => kernel_rfl) (fun _ _ _ h => h) (Or.inl ⟨by rfl, ?_⟩) (by assumption) ?_
  · intro wq hSw
    obtain ⟨q1, q2, q3⟩ := hSw
    have z := q3.cell 0 _ rfl
    go_simp
    try with_reducible rfl
  simp only [Act.put, List.setIfInBounds_toArray, List.set_cons_zero, List.set_cons_succ]
  refine wpAnyH_take (i := 17) (oi := { dst := some 78, op := Op.fieldAddr 31 (Operand.tmp 3) 0, type := 0, pos := "law.go:82", after := #[{ on := 14, ground := Ground.guard }], guard := some (14, true) }) (v := ?_) rfl (by as_aux_lemma => kernel_rfl) (by as_aux_lemma => kernel_rfl) (by as_aux_lemma => kernel_rfl) (fun _ _ _ h => h) (Or.inl ⟨by rfl, ?_⟩) (by assumption) ?_
  rotate_left
  · intro wq hSw
    go_simp
    try with_reducible rfl
  simp only [Act.put, List.setIfInBounds_toArray, List.set_cons_zero, List.set_cons_succ]
  refine wpAnyH_take (i := 18) (oi := { dst := some 79, op := Op.load 3 (Operand.tmp 78), type := 3, pos := "law.go:82", after := #[{ on := 17, ground := Ground.data }, { on := 14, ground := Ground.guard }], guard := some (14, true) }) (v := .int .i64 1) rfl (by as_aux_lemma => kernel_rfl) (by as_aux_lemma => kernel_rfl) (by as_aux_lemma => kernel_rfl) (fun _ _ _ h => h) (Or.inl ⟨by rfl, ?_⟩) (by assumption) ?_
  · intro wq hSw
    obtain ⟨q1, q2, q3⟩ := hSw
    have z := q2.cell 0 _ rfl
    go_simp
    try with_reducible rfl
  simp only [Act.put, List.setIfInBounds_toArray, List.set_cons_zero, List.set_cons_succ]
  refine wpAnyH_take (i := 19) (oi := { dst := some 80, op := Op.binOp BinOp.eql 3 (Operand.tmp 77) (Operand.tmp 79) 3, type := 4, pos := "law.go:82", after := #[{ on := 16, ground := Ground.data }, { on := 18, ground := Ground.data }, { on := 14, ground := Ground.guard }], guard := some (14, true) }) (v := .bool true) rfl (by as_aux_lemma => kernel_rfl) (by as_aux_lemma => kernel_rfl) (by as_aux_lemma => kernel_rfl) (fun _ _ _ h => h) (Or.inl ⟨by rfl, ?_⟩) (by assumption) ?_
  · intro wq hSw
    go_simp
    try with_reducible rfl
  simp only [Act.put, List.setIfInBounds_toArray, List.set_cons_zero, List.set_cons_succ]
  refine wpAnyH_take (i := 20) (oi := { dst := some 81, op := Op.pick (Operand.tmp 75) (Operand.tmp 80) (Operand.const (Value.bool false)), type := 4, pos := "law.go:82", after := #[{ on := 14, ground := Ground.data }, { on := 19, ground := Ground.data }], guard := none }) (v := .bool true) rfl (by as_aux_lemma => kernel_rfl) (by as_aux_lemma => kernel_rfl) (by as_aux_lemma => kernel_rfl) (fun _ _ _ h => h) (Or.inl ⟨by rfl, ?_⟩) (by assumption) ?_
  · intro wq hSw
    go_simp
    try with_reducible rfl
  simp only [Act.put, List.setIfInBounds_toArray, List.set_cons_zero, List.set_cons_succ]
  refine wpAnyH_take (i := 21) (oi := { dst := some 82, op := Op.move (Operand.tmp 81), type := 4, pos := "law.go:82", after := #[{ on := 20, ground := Ground.data }, { on := 14, ground := Ground.chain }], guard := none }) (v := .bool true) rfl (by as_aux_lemma => kernel_rfl) (by as_aux_lemma => kernel_rfl) (by as_aux_lemma => kernel_rfl) (fun _ _ _ h => h) (Or.inl ⟨by rfl, ?_⟩) (by assumption) ?_
  · intro wq hSw
    go_simp
    try with_reducible rfl
  simp only [Act.put, List.setIfInBounds_toArray, List.set_cons_zero, List.set_cons_succ]
  refine wpAnyH_take (i := 22) (oi := { dst := some 83, op := Op.fieldAddr 31 (Operand.tmp 3) 0, type := 0, pos := "law.go:82", after := #[{ on := 21, ground := Ground.guard }], guard := some (21, true) }) (v := ?_) rfl (by as_aux_lemma => kernel_rfl) (by as_aux_lemma => kernel_rfl) (by as_aux_lemma => kernel_rfl) (fun _ _ _ h => h) (Or.inl ⟨by rfl, ?_⟩) (by assumption) ?_
  rotate_left
  · intro wq hSw
    go_simp
    try with_reducible rfl
  simp only [Act.put, List.setIfInBounds_toArray, List.set_cons_zero, List.set_cons_succ]
  refine wpAnyH_take (i := 23) (oi := { dst := some 84, op := Op.load 3 (Operand.tmp 83), type := 3, pos := "law.go:82", after := #[{ on := 22, ground := Ground.data }, { on := 21, ground := Ground.guard }], guard := some (21, true) }) (v := .int .i64 1) rfl (by as_aux_lemma => kernel_rfl) (by as_aux_lemma => kernel_rfl) (by as_aux_lemma => kernel_rfl) (fun _ _ _ h => h) (Or.inl ⟨by rfl, ?_⟩) (by assumption) ?_
  · intro wq hSw
    obtain ⟨q1, q2, q3⟩ := hSw
    have z := q2.cell 0 _ rfl
    go_simp
    try with_reducible rfl
  simp only [Act.put, List.setIfInBounds_toArray, List.set_cons_zero, List.set_cons_succ]
  refine wpAnyH_take (i := 24) (oi := { dst := some 85, op := Op.binOp BinOp.neq 3 (Operand.tmp 84) (Operand.const (Value.int IntKind.i64 1)) 3, type := 4, pos := "law.go:82", after := #[{ on := 23, ground := Ground.data }, { on := 21, ground := Ground.guard }], guard := some (21, true) }) (v := .bool false) rfl (by as_aux_lemma => kernel_rfl) (by as_aux_lemma => kernel_rfl) (by as_aux_lemma => kernel_rfl) (fun _ _ _ h => h) (Or.inl ⟨by rfl, ?_⟩) (by assumption) ?_
  · intro wq hSw
    go_simp
    try with_reducible rfl
  simp only [Act.put, List.setIfInBounds_toArray, List.set_cons_zero, List.set_cons_succ]
  refine wpAnyH_take (i := 25) (oi := { dst := some 86, op := Op.move (Operand.tmp 85), type := 4, pos := "law.go:82", after := #[{ on := 24, ground := Ground.data }, { on := 21, ground := Ground.chain }, { on := 21, ground := Ground.guard }], guard := some (21, true) }) (v := .bool false) rfl (by as_aux_lemma => kernel_rfl) (by as_aux_lemma => kernel_rfl) (by as_aux_lemma => kernel_rfl) (fun _ _ _ h => h) (Or.inl ⟨by rfl, ?_⟩) (by assumption) ?_
  · intro wq hSw
    go_simp
    try with_reducible rfl
  simp only [Act.put, List.setIfInBounds_toArray, List.set_cons_zero, List.set_cons_succ]
  refine wpAnyH_take (i := 26) (oi := { dst := some 87, op := Op.load 26 (Operand.tmp 11), type := 26, pos := "law.go:82", after := #[{ on := 25, ground := Ground.guard }], guard := some (25, false) }) (v := .agg (List.toArray [.int .i64 1, .int .i64 c1, .int .i64 c2, .int .i64 c3, .int .i64 c4, .int .i64 c5, .int .i64 c6, .int .i64 c7, .int .i64 c8])) rfl (by as_aux_lemma => kernel_rfl) (by as_aux_lemma => kernel_rfl) (by as_aux_lemma => kernel_rfl) (fun _ _ _ h => h) (Or.inl ⟨by rfl, ?_⟩) (by assumption) ?_
  · intro wq hSw
    obtain ⟨q1, q2, q3⟩ := hSw
    have x0 := q3.cell 0 _ rfl
    have x1 := q3.cell 1 _ rfl
    have x2 := q3.cell 2 _ rfl
    have x3 := q3.cell 3 _ rfl
    have x4 := q3.cell 4 _ rfl
    have x5 := q3.cell 5 _ rfl
    have x6 := q3.cell 6 _ rfl
    have x7 := q3.cell 7 _ rfl
    have x8 := q3.cell 8 _ rfl
    go_simp
    try with_reducible rfl
  simp only [Act.put, List.setIfInBounds_toArray, List.set_cons_zero, List.set_cons_succ]
  refine wpAnyH_take (i := 28) (oi := { dst := some 89, op := Op.load 31 (Operand.tmp 3), type := 31, pos := "law.go:82", after := #[{ on := 25, ground := Ground.guard }], guard := some (25, false) }) (v := .agg (List.toArray [.int .i64 1, .int .i64 c1, .int .i64 c2, .int .i64 c3, .int .i64 c4, .int .i64 c5, .int .i64 c6, .int .i64 c7, .int .i64 c8])) rfl (by as_aux_lemma => kernel_rfl) (by as_aux_lemma => kernel_rfl) (by as_aux_lemma => kernel_rfl) (fun _ _ _ h => h) (Or.inl ⟨by rfl, ?_⟩) (by assumption) ?_
  · intro wq hSw
    obtain ⟨q1, q2, q3⟩ := hSw
    have x0 := q2.cell 0 _ rfl
    have x1 := q2.cell 1 _ rfl
    have x2 := q2.cell 2 _ rfl
    have x3 := q2.cell 3 _ rfl
    have x4 := q2.cell 4 _ rfl
    have x5 := q2.cell 5 _ rfl
    have x6 := q2.cell 6 _ rfl
    have x7 := q2.cell 7 _ rfl
    have x8 := q2.cell 8 _ rfl
    go_simp
    try with_reducible rfl
  simp only [Act.put, List.setIfInBounds_toArray, List.set_cons_zero, List.set_cons_succ]
  refine wpAnyH_ready (rs := [27]) (by as_aux_lemma => kernel_rfl) (by simp) ?_
  refine AllReadyH.cons (o := { dst := some 88, op := Op.call { callee := Callee.value (Operand.func 11), args := #[Operand.tmp 87], argTypes := #[26] }, type := 31, pos := "law.go:82", after := #[{ on := 26, ground := Ground.data }, { on := 25, ground := Ground.chain }, { on := 25, ground := Ground.guard }], guard := some (25, false) }) rfl (fun K2 hK => ?_) AllReadyH.nil
  go_simp
  go_at_call 11
  refine (HF.out _).mono ?_
  rintro e9 w9 ⟨rfl, hb8⟩
  have hd3 : (Below w.heap.size w w9 ∧ Bl w.heap.size [.int .i64 1, .int .i64 c1, .int .i64 c2, .int .i64 c3, .int .i64 c4, .int .i64 c5, .int .i64 c6, .int .i64 c7, .int .i64 c8] w9 ∧ Bl w6.heap.size [.int .i64 1, .int .i64 c1, .int .i64 c2, .int .i64 c3, .int .i64 c4, .int .i64 c5, .int .i64 c6, .int .i64 c7, .int .i64 c8] w9) := ⟨Below.step hd.1 hb8, hd.2.1.below hb8, hd.2.2.below hb8⟩
  clear hd hb8
  have hd := hd3
  clear hd3
  refine hK.out _ _ hd (fun hHeld => ?_)
  clear hK K2
  try simp only [Act.put, List.setIfInBounds_toArray, List.set_cons_zero, List.set_cons_succ]
  refine wpAnyH_take (i := 29) (oi := { dst := some 90, op := Op.binOp BinOp.eql 31 (Operand.tmp 88) (Operand.tmp 89) 31, type := 4, pos := "law.go:82", after := #[{ on := 27, ground := Ground.data }, { on := 28, ground := Ground.data }, { on := 25, ground := Ground.guard }], guard := some (25, false) }) (v := .bool true) rfl (by as_aux_lemma => kernel_rfl) (by as_aux_lemma => kernel_rfl) (by as_aux_lemma => kernel_rfl) (fun _ _ _ h => h) (Or.inl ⟨by rfl, ?_⟩) (by assumption) ?_
  · intro wq hSw
    have heq := HEQ.out wq
    go_simp
    try with_reducible rfl
  simp only [Act.put, List.setIfInBounds_toArray, List.set_cons_zero, List.set_cons_succ]
  refine wpAnyH_take (i := 30) (oi := { dst := some 91, op := Op.pick (Operand.tmp 86) (Operand.const (Value.bool true)) (Operand.tmp 90), type := 4, pos := "law.go:82", after := #[{ on := 25, ground := Ground.data }, { on := 29, ground := Ground.data }, { on := 21, ground := Ground.guard }], guard := some (21, true) }) (v := .bool true) rfl (by as_aux_lemma => kernel_rfl) (by as_aux_lemma => kernel_rfl) (by as_aux_lemma => kernel_rfl) (fun _ _ _ h => h) (Or.inl ⟨by rfl, ?_⟩) (by assumption) ?_
  · intro wq hSw
    go_simp
    try with_reducible rfl
  simp only [Act.put, List.setIfInBounds_toArray, List.set_cons_zero, List.set_cons_succ]
  refine wpAnyH_take (i := 31) (oi := { dst := some 92, op := Op.pick (Operand.tmp 82) (Operand.tmp 91) (Operand.const (Value.bool false)), type := 4, pos := "law.go:82", after := #[{ on := 21, ground := Ground.data }, { on := 30, ground := Ground.data }], guard := none }) (v := .bool true) rfl (by as_aux_lemma => kernel_rfl) (by as_aux_lemma => kernel_rfl) (by as_aux_lemma => kernel_rfl) (fun _ _ _ h => h) (Or.inl ⟨by rfl, ?_⟩) (by assumption) ?_
  · intro wq hSw
    go_simp
    try with_reducible rfl
  simp only [Act.put, List.setIfInBounds_toArray, List.set_cons_zero, List.set_cons_succ]
  refine wpAnyH_take (i := 32) (oi := { dst := some 4, op := Op.assign (Operand.tmp 92), type := 4, pos := "law.go:82", after := #[{ on := 31, ground := Ground.data }, { on := 27, ground := Ground.chain }, { on := 0, ground := Ground.phase }, { on := 1, ground := Ground.phase }, { on := 2, ground := Ground.phase }, { on := 3, ground := Ground.phase }, { on := 4, ground := Ground.phase }, { on := 5, ground := Ground.phase }, { on := 6, ground := Ground.phase }, { on := 7, ground := Ground.phase }, { on := 8, ground := Ground.phase }, { on := 9, ground := Ground.phase }, { on := 10, ground := Ground.phase }, { on := 11, ground := Ground.phase }, { on := 12, ground := Ground.phase }, { on := 13, ground := Ground.phase }, { on := 14, ground := Ground.phase }, { on := 15, ground := Ground.phase }, { on := 16, ground := Ground.phase }, { on := 17, ground := Ground.phase }, { on := 18, ground := Ground.phase }, { on := 19, ground := Ground.phase }, { on := 20, ground := Ground.phase }, { on := 21, ground := Ground.phase }, { on := 22, ground := Ground.phase }, { on := 23, ground := Ground.phase }, { on := 24, ground := Ground.phase }, { on := 25, ground := Ground.phase }, { on := 26, ground := Ground.phase }, { on := 27, ground := Ground.phase }, { on := 28, ground := Ground.phase }, { on := 29, ground := Ground.phase }, { on := 30, ground := Ground.phase }, { on := 31, ground := Ground.phase }], guard := none }) (v := .bool true) rfl (by as_aux_lemma => kernel_rfl) (by as_aux_lemma => kernel_rfl) (by as_aux_lemma => kernel_rfl) (fun _ _ _ h => h) (Or.inl ⟨by rfl, ?_⟩) (by assumption) ?_
  · intro wq hSw
    go_simp
    try with_reducible rfl
  simp only [Act.put, List.setIfInBounds_toArray, List.set_cons_zero, List.set_cons_succ]
  refine wpAnyH_done (by as_aux_lemma => kernel_rfl) ?_ _
  go_wp2_with fail
  go_ret
  exact ⟨rfl, hd.1⟩
set_option maxRecDepth 100000 in
set_option maxHeartbeats 16000000 in
theorem way_ok_other (s : ByteArray) (c0 c1 c2 c3 c4 c5 c6 c7 c8 : Int) (w : World) (hw : Wd w) (ht0 : Tb w) (hs : s.size ≤ 1000) (s0 s1 s2 s3 s4 s5 s6 s7 s8 : Int) (h1 : lp s = .ok [s0, s1, s2, s3, s4, s5, s6, s7, s8]) (l : List UInt8) (hl : l.length ≤ 200) (hk : c0 ≠ 1) (d1 d2 d3 d4 d5 d6 d7 d8 : Int) (h2 : pt [c0, c1, c2, c3, c4, c5, c6, c7, c8] = .ok l) (h3 : lp (Bs l) = .ok [c0, d1, d2, d3, d4, d5, d6, d7, d8]) (h4 : pt [c0, d1, d2, d3, d4, d5, d6, d7, d8] = .ok l) : Calls Tryd.prog 5 #[.string s, .agg (List.toArray [.int .i64 c0, .int .i64 c1, .int .i64 c2, .int .i64 c3, .int .i64 c4, .int .i64 c5, .int .i64 c6, .int .i64 c7, .int .i64 c8])] w fun e w' => e = .returned (.bool true) ∧ Below w.heap.size w w' := by
  have HA := Lib.hid (fun W hW => awake_is W hW)
  have HW := Lib.hid hw
  have HT := Lib.hid ht0
  have HTO := Lib.hid (fun W => to_is c0 c1 c2 c3 c4 c5 c6 c7 c8 W)
  have g0 : decide ((1000 : Int) < (s.size : Int)) = false := decide_eq_false (by omega)
  have gA : Below w.heap.size w (w.alloc (.cells (List.toArray [.int .i64 c0, .int .i64 c1, .int .i64 c2, .int .i64 c3, .int .i64 c4, .int .i64 c5, .int .i64 c6, .int .i64 c7, .int .i64 c8]) 31)) := by go_grown
  have bA := Bl.new w [.int .i64 c0, .int .i64 c1, .int .i64 c2, .int .i64 c3, .int .i64 c4, .int .i64 c5, .int .i64 c6, .int .i64 c7, .int .i64 c8] 31
  have HG := Lib.hid (And.intro gA bA)
  have HP1 := Lib.hid (fun W hv => par_ok s hs s0 s1 s2 s3 s4 s5 s6 s7 s8 h1 W hv)
  have HQ1 := Lib.hid (fun W hv ht => pp_ok s0 s1 s2 s3 s4 s5 s6 s7 s8 s.data.toList (lp_pt h1) W hv ht)
  rw [Bs_of] at HQ1
  have HQ2 := Lib.hid (fun W hv ht => pp_ok c0 c1 c2 c3 c4 c5 c6 c7 c8 l h2 W hv ht)
  have HP3 := Lib.hid (fun W hv => par_ok (Bs l) (by rw [Bs_size]; omega) c0 d1 d2 d3 d4 d5 d6 d7 d8 h3 W hv)
  have HQ4 := Lib.hid (fun W hv ht => pp_ok c0 d1 d2 d3 d4 d5 d6 d7 d8 l h4 W hv ht)
  have k1 : (c0 != 1) = true := bne_iff_ne.2 hk
  clear hk h4
  obtain ⟨BL, hBL⟩ : ∃ BL, BL = Bs l := ⟨_, rfl⟩
  rw [← hBL] at HQ2 HP3 HQ4
  clear hBL h3 hl
  clear h1 h2 gA bA hw ht0 hs
  go_enter Tryd.func5, Tryd.ntmps5
  go_wp2_with fail
  refine (HP1.out _ (HW.out.below HG.out.1).vb).mono ?_
  rintro e1 w1 ⟨rfl, hb1⟩
  have ga : Below w1.heap.size w1 (w1.alloc (.cells (List.toArray [.int .i64 s0, .int .i64 s1, .int .i64 s2, .int .i64 s3, .int .i64 s4, .int .i64 s5, .int .i64 s6, .int .i64 s7, .int .i64 s8]) 26)) := by go_grown
  have hg1 := Below.step hb1 ga
  have ba := Bl.new w1 [.int .i64 s0, .int .i64 s1, .int .i64 s2, .int .i64 s3, .int .i64 s4, .int .i64 s5, .int .i64 s6, .int .i64 s7, .int .i64 s8] 26
  have HG1 := Lib.hid (And.intro (Below.step HG.out.1 hg1) (And.intro (HG.out.2.below hg1) ba))
  clear ga hg1 ba hb1 HP1
  have bz := HG1.out.2.1
  have x0 := bz.cell 0 _ rfl
  have x1 := bz.cell 1 _ rfl
  have x2 := bz.cell 2 _ rfl
  have x3 := bz.cell 3 _ rfl
  have x4 := bz.cell 4 _ rfl
  have x5 := bz.cell 5 _ rfl
  have x6 := bz.cell 6 _ rfl
  have x7 := bz.cell 7 _ rfl
  have x8 := bz.cell 8 _ rfl
  clear bz
  go_wp2_with fail
  refine (HQ1.out _ (HW.out.below HG1.out.1).vb (HT.out.below HG1.out.1)).mono ?_
  rintro e2 w2 ⟨rfl, hb2⟩
  have HG2 := Lib.hid (And.intro (Below.step HG1.out.1 hb2) (HG1.out.2.1.below hb2))
  clear hb2 HQ1 x0 x1 x2 x3 x4 x5 x6 x7 x8
  have bz := HG2.out.2
  have x0 := bz.cell 0 _ rfl
  have x1 := bz.cell 1 _ rfl
  have x2 := bz.cell 2 _ rfl
  have x3 := bz.cell 3 _ rfl
  have x4 := bz.cell 4 _ rfl
  have x5 := bz.cell 5 _ rfl
  have x6 := bz.cell 6 _ rfl
  have x7 := bz.cell 7 _ rfl
  have x8 := bz.cell 8 _ rfl
  clear bz
  have HG3 := Lib.hid (And.intro HG2.out.1 HG2.out.2)
  go_wp2_with fail
  refine (HTO.out _).mono ?_
  rintro e4 w4 ⟨rfl, hb4⟩
  have HG4 := Lib.hid (And.intro (Below.step HG3.out.1 hb4) (HG3.out.2.below hb4))
  clear hb4 HTO x0 x1 x2 x3 x4 x5 x6 x7 x8
  go_wp2_with fail
  refine (HQ2.out _ (HW.out.below HG4.out.1).vb (HT.out.below HG4.out.1)).mono ?_
  rintro e5 w5 ⟨rfl, hb5⟩
  have HG5 := Lib.hid (And.intro (Below.step HG4.out.1 hb5) (HG4.out.2.below hb5))
  clear hb5 HQ2
  go_wp2_with fail
  refine (HP3.out _ (HW.out.below HG5.out.1).vb).mono ?_
  rintro e6 w6 ⟨rfl, hb6⟩
  have ga : Below w6.heap.size w6 (w6.alloc (.cells (List.toArray [.int .i64 c0, .int .i64 d1, .int .i64 d2, .int .i64 d3, .int .i64 d4, .int .i64 d5, .int .i64 d6, .int .i64 d7, .int .i64 d8]) 26)) := by go_grown
  have hg6 := Below.step hb6 ga
  have ba := Bl.new w6 [.int .i64 c0, .int .i64 d1, .int .i64 d2, .int .i64 d3, .int .i64 d4, .int .i64 d5, .int .i64 d6, .int .i64 d7, .int .i64 d8] 26
  have HG6 := Lib.hid (And.intro (Below.step HG5.out.1 hg6) (And.intro (HG5.out.2.below hg6) ba))
  clear ga hg6 ba hb6 HP3
  go_wp2_with fail
  refine (HQ4.out _ (HW.out.below HG6.out.1).vb (HT.out.below HG6.out.1)).mono ?_
  rintro e7 w7 ⟨rfl, hb7⟩
  have HG7 := Lib.hid (And.intro (Below.step HG6.out.1 hb7) (And.intro (HG6.out.2.1.below hb7) (HG6.out.2.2.below hb7)))
  clear hb7 HQ4
  go_wp2_with fail
  have gd : Below w7.heap.size w7 w7.drew := (Below.refl _ _).drew
  have hd : (Below w.heap.size w w7.drew ∧ Bl w.heap.size [.int .i64 c0, .int .i64 c1, .int .i64 c2, .int .i64 c3, .int .i64 c4, .int .i64 c5, .int .i64 c6, .int .i64 c7, .int .i64 c8] w7.drew ∧ Bl w6.heap.size [.int .i64 c0, .int .i64 d1, .int .i64 d2, .int .i64 d3, .int .i64 d4, .int .i64 d5, .int .i64 d6, .int .i64 d7, .int .i64 d8] w7.drew) := ⟨HG7.out.1.drew, HG7.out.2.1.below gd, HG7.out.2.2.below gd⟩
  clear gd
  refine wp_region_held_drew (S := fun w' => Below w.heap.size w w' ∧ Bl w.heap.size [.int .i64 c0, .int .i64 c1, .int .i64 c2, .int .i64 c3, .int .i64 c4, .int .i64 c5, .int .i64 c6, .int .i64 c7, .int .i64 c8] w' ∧ Bl w6.heap.size [.int .i64 c0, .int .i64 d1, .int .i64 d2, .int .i64 d3, .int .i64 d4, .int .i64 d5, .int .i64 d6, .int .i64 d7, .int .i64 d8] w') (by kernel_rfl) hd (fun hHeld => ?_)
  refine wpAnyH_ready (rs := [0]) (by as_aux_lemma => kernel_rfl) (by simp) ?_
  refine AllReadyH.cons (o := { dst := some 61, op := Op.call { callee := Callee.value (Operand.func 7), args := #[], argTypes := #[] }, type := 4, pos := "law.go:82", after := #[], guard := none }) rfl (fun K2 hK => ?_) AllReadyH.nil
  go_simp
  go_at_call 7
  refine (HA.out _ (HW.out.below hd.1)).mono ?_
  rintro e8 w8 ⟨rfl, hb8⟩
  have hd3 : (Below w.heap.size w w8 ∧ Bl w.heap.size [.int .i64 c0, .int .i64 c1, .int .i64 c2, .int .i64 c3, .int .i64 c4, .int .i64 c5, .int .i64 c6, .int .i64 c7, .int .i64 c8] w8 ∧ Bl w6.heap.size [.int .i64 c0, .int .i64 d1, .int .i64 d2, .int .i64 d3, .int .i64 d4, .int .i64 d5, .int .i64 d6, .int .i64 d7, .int .i64 d8] w8) := ⟨Below.step hd.1 hb8, hd.2.1.below hb8, hd.2.2.below hb8⟩
  clear hd hb8
  have hd := hd3
  clear hd3
  refine hK.out _ _ hd (fun hHeld => ?_)
  clear hK K2
  try simp only [Act.put, List.setIfInBounds_toArray, List.set_cons_zero, List.set_cons_succ]
  refine wpAnyH_take (i := 1) (oi := { dst := some 62, op := Op.move (Operand.tmp 61), type := 4, pos := "law.go:82", after := #[{ on := 0, ground := Ground.data }, { on := 0, ground := Ground.chain }], guard := none }) (v := .bool true) rfl (by as_aux_lemma => kernel_rfl) (by as_aux_lemma => kernel_rfl) (by as_aux_lemma => kernel_rfl) (fun _ _ _ h => h) (Or.inl ⟨by rfl, ?_⟩) (by assumption) ?_
  · intro wq hSw
    go_simp
    try with_reducible rfl
  simp only [Act.put, List.setIfInBounds_toArray, List.set_cons_zero, List.set_cons_succ]
  refine wpAnyH_take (i := 2) (oi := { dst := some 63, op := Op.move (Operand.tmp 12), type := 28, pos := "law.go:82", after := #[{ on := 1, ground := Ground.guard }], guard := some (1, true) }) (v := .nilIface) rfl (by as_aux_lemma => kernel_rfl) (by as_aux_lemma => kernel_rfl) (by as_aux_lemma => kernel_rfl) (fun _ _ _ h => h) (Or.inl ⟨by rfl, ?_⟩) (by assumption) ?_
  · intro wq hSw
    go_simp
    try with_reducible rfl
  simp only [Act.put, List.setIfInBounds_toArray, List.set_cons_zero, List.set_cons_succ]
  refine wpAnyH_take (i := 3) (oi := { dst := some 64, op := Op.binOp BinOp.eql 28 (Operand.tmp 63) (Operand.const Value.nilIface) 28, type := 4, pos := "law.go:82", after := #[{ on := 2, ground := Ground.data }, { on := 1, ground := Ground.guard }], guard := some (1, true) }) (v := .bool true) rfl (by as_aux_lemma => kernel_rfl) (by as_aux_lemma => kernel_rfl) (by as_aux_lemma => kernel_rfl) (fun _ _ _ h => h) (Or.inl ⟨by rfl, ?_⟩) (by assumption) ?_
  · intro wq hSw
    go_simp
    try with_reducible rfl
  simp only [Act.put, List.setIfInBounds_toArray, List.set_cons_zero, List.set_cons_succ]
  refine wpAnyH_take (i := 4) (oi := { dst := some 65, op := Op.pick (Operand.tmp 62) (Operand.tmp 64) (Operand.const (Value.bool false)), type := 4, pos := "law.go:82", after := #[{ on := 1, ground := Ground.data }, { on := 3, ground := Ground.data }], guard := none }) (v := .bool true) rfl (by as_aux_lemma => kernel_rfl) (by as_aux_lemma => kernel_rfl) (by as_aux_lemma => kernel_rfl) (fun _ _ _ h => h) (Or.inl ⟨by rfl, ?_⟩) (by assumption) ?_
  · intro wq hSw
    go_simp
    try with_reducible rfl
  simp only [Act.put, List.setIfInBounds_toArray, List.set_cons_zero, List.set_cons_succ]
  refine wpAnyH_take (i := 5) (oi := { dst := some 66, op := Op.move (Operand.tmp 65), type := 4, pos := "law.go:82", after := #[{ on := 4, ground := Ground.data }, { on := 1, ground := Ground.chain }], guard := none }) (v := .bool true) rfl (by as_aux_lemma => kernel_rfl) (by as_aux_lemma => kernel_rfl) (by as_aux_lemma => kernel_rfl) (fun _ _ _ h => h) (Or.inl ⟨by rfl, ?_⟩) (by assumption) ?_
  · intro wq hSw
    go_simp
    try with_reducible rfl
  simp only [Act.put, List.setIfInBounds_toArray, List.set_cons_zero, List.set_cons_succ]
  refine wpAnyH_take (i := 6) (oi := { dst := some 67, op := Op.move (Operand.tmp 14), type := 28, pos := "law.go:82", after := #[{ on := 5, ground := Ground.guard }], guard := some (5, true) }) (v := .nilIface) rfl (by as_aux_lemma => kernel_rfl) (by as_aux_lemma => kernel_rfl) (by as_aux_lemma => kernel_rfl) (fun _ _ _ h => h) (Or.inl ⟨by rfl, ?_⟩) (by assumption) ?_
  · intro wq hSw
    go_simp
    try with_reducible rfl
  simp only [Act.put, List.setIfInBounds_toArray, List.set_cons_zero, List.set_cons_succ]
  refine wpAnyH_take (i := 7) (oi := { dst := some 68, op := Op.binOp BinOp.eql 28 (Operand.tmp 67) (Operand.const Value.nilIface) 28, type := 4, pos := "law.go:82", after := #[{ on := 6, ground := Ground.data }, { on := 5, ground := Ground.guard }], guard := some (5, true) }) (v := .bool true) rfl (by as_aux_lemma => kernel_rfl) (by as_aux_lemma => kernel_rfl) (by as_aux_lemma => kernel_rfl) (fun _ _ _ h => h) (Or.inl ⟨by rfl, ?_⟩) (by assumption) ?_
  · intro wq hSw
    go_simp
    try with_reducible rfl
  simp only [Act.put, List.setIfInBounds_toArray, List.set_cons_zero, List.set_cons_succ]
  refine wpAnyH_take (i := 8) (oi := { dst := some 69, op := Op.pick (Operand.tmp 66) (Operand.tmp 68) (Operand.const (Value.bool false)), type := 4, pos := "law.go:82", after := #[{ on := 5, ground := Ground.data }, { on := 7, ground := Ground.data }], guard := none }) (v := .bool true) rfl (by as_aux_lemma => kernel_rfl) (by as_aux_lemma => kernel_rfl) (by as_aux_lemma => kernel_rfl) (fun _ _ _ h => h) (Or.inl ⟨by rfl, ?_⟩) (by assumption) ?_
  · intro wq hSw
    go_simp
    try with_reducible rfl
  simp only [Act.put, List.setIfInBounds_toArray, List.set_cons_zero, List.set_cons_succ]
  refine wpAnyH_take (i := 9) (oi := { dst := some 70, op := Op.move (Operand.tmp 69), type := 4, pos := "law.go:82", after := #[{ on := 8, ground := Ground.data }, { on := 5, ground := Ground.chain }], guard := none }) (v := .bool true) rfl (by as_aux_lemma => kernel_rfl) (by as_aux_lemma => kernel_rfl) (by as_aux_lemma => kernel_rfl) (fun _ _ _ h => h) (Or.inl ⟨by rfl, ?_⟩) (by assumption) ?_
  · intro wq hSw
    go_simp
    try with_reducible rfl
  simp only [Act.put, List.setIfInBounds_toArray, List.set_cons_zero, List.set_cons_succ]
  refine wpAnyH_take (i := 10) (oi := { dst := some 71, op := Op.move (Operand.tmp 9), type := 9, pos := "law.go:82", after := #[{ on := 9, ground := Ground.guard }], guard := some (9, true) }) (v := .string BL) rfl (by as_aux_lemma => kernel_rfl) (by as_aux_lemma => kernel_rfl) (by as_aux_lemma => kernel_rfl) (fun _ _ _ h => h) (Or.inl ⟨by rfl, ?_⟩) (by assumption) ?_
  · intro wq hSw
    go_simp
    try with_reducible rfl
  simp only [Act.put, List.setIfInBounds_toArray, List.set_cons_zero, List.set_cons_succ]
  refine wpAnyH_take (i := 11) (oi := { dst := some 72, op := Op.move (Operand.tmp 13), type := 9, pos := "law.go:82", after := #[{ on := 9, ground := Ground.guard }], guard := some (9, true) }) (v := .string BL) rfl (by as_aux_lemma => kernel_rfl) (by as_aux_lemma => kernel_rfl) (by as_aux_lemma => kernel_rfl) (fun _ _ _ h => h) (Or.inl ⟨by rfl, ?_⟩) (by assumption) ?_
  · intro wq hSw
    go_simp
    try with_reducible rfl
  simp only [Act.put, List.setIfInBounds_toArray, List.set_cons_zero, List.set_cons_succ]
  refine wpAnyH_take (i := 12) (oi := { dst := some 73, op := Op.binOp BinOp.eql 9 (Operand.tmp 71) (Operand.tmp 72) 9, type := 4, pos := "law.go:82", after := #[{ on := 10, ground := Ground.data }, { on := 11, ground := Ground.data }, { on := 9, ground := Ground.guard }], guard := some (9, true) }) (v := .bool true) rfl (by as_aux_lemma => kernel_rfl) (by as_aux_lemma => kernel_rfl) (by as_aux_lemma => kernel_rfl) (fun _ _ _ h => h) (Or.inl ⟨by rfl, ?_⟩) (by assumption) ?_
  · intro wq hSw
    go_simp
    try with_reducible rfl
  simp only [Act.put, List.setIfInBounds_toArray, List.set_cons_zero, List.set_cons_succ]
  refine wpAnyH_take (i := 13) (oi := { dst := some 74, op := Op.pick (Operand.tmp 70) (Operand.tmp 73) (Operand.const (Value.bool false)), type := 4, pos := "law.go:82", after := #[{ on := 9, ground := Ground.data }, { on := 12, ground := Ground.data }], guard := none }) (v := .bool true) rfl (by as_aux_lemma => kernel_rfl) (by as_aux_lemma => kernel_rfl) (by as_aux_lemma => kernel_rfl) (fun _ _ _ h => h) (Or.inl ⟨by rfl, ?_⟩) (by assumption) ?_
  · intro wq hSw
    go_simp
    try with_reducible rfl
  simp only [Act.put, List.setIfInBounds_toArray, List.set_cons_zero, List.set_cons_succ]
  refine wpAnyH_take (i := 14) (oi := { dst := some 75, op := Op.move (Operand.tmp 74), type := 4, pos := "law.go:82", after := #[{ on := 13, ground := Ground.data }, { on := 9, ground := Ground.chain }], guard := none }) (v := .bool true) rfl (by as_aux_lemma => kernel_rfl) (by as_aux_lemma => kernel_rfl) (by as_aux_lemma => kernel_rfl) (fun _ _ _ h => h) (Or.inl ⟨by rfl, ?_⟩) (by assumption) ?_
  · intro wq hSw
    go_simp
    try with_reducible rfl
  simp only [Act.put, List.setIfInBounds_toArray, List.set_cons_zero, List.set_cons_succ]
  refine wpAnyH_take (i := 15) (oi := { dst := some 76, op := Op.fieldAddr 26 (Operand.tmp 11) 0, type := 0, pos := "law.go:82", after := #[{ on := 14, ground := Ground.guard }], guard := some (14, true) }) (v := ?_) rfl (by as_aux_lemma => kernel_rfl) (by as_aux_lemma => kernel_rfl) (by as_aux_lemma => kernel_rfl) (fun _ _ _ h => h) (Or.inl ⟨by rfl, ?_⟩) (by assumption) ?_
  rotate_left
  · intro wq hSw
    go_simp
    try with_reducible rfl
  simp only [Act.put, List.setIfInBounds_toArray, List.set_cons_zero, List.set_cons_succ]
  refine wpAnyH_take (i := 16) (oi := { dst := some 77, op := Op.load 3 (Operand.tmp 76), type := 3, pos := "law.go:82", after := #[{ on := 15, ground := Ground.data }, { on := 14, ground := Ground.guard }], guard := some (14, true) }) (v := .int .i64 c0) rfl (by as_aux_lemma => kernel_rfl) (by as_aux_lemma => kernel_rfl) (by as_aux_lemma => kernel_rfl) (fun _ _ _ h => h) (Or.inl ⟨by rfl, ?_⟩) (by assumption) ?_
  · intro wq hSw
    obtain ⟨q1, q2, q3⟩ := hSw
    have z := q3.cell 0 _ rfl
    go_simp
    try with_reducible rfl
  simp only [Act.put, List.setIfInBounds_toArray, List.set_cons_zero, List.set_cons_succ]
  refine wpAnyH_take (i := 17) (oi := { dst := some 78, op := Op.fieldAddr 31 (Operand.tmp 3) 0, type := 0, pos := "law.go:82", after := #[{ on := 14, ground := Ground.guard }], guard := some (14, true) }) (v := ?_) rfl (by as_aux_lemma => kernel_rfl) (by as_aux_lemma => kernel_rfl) (by as_aux_lemma => kernel_rfl) (fun _ _ _ h => h) (Or.inl ⟨by rfl, ?_⟩) (by assumption) ?_
  rotate_left
  · intro wq hSw
    go_simp
    try with_reducible rfl
  simp only [Act.put, List.setIfInBounds_toArray, List.set_cons_zero, List.set_cons_succ]
  refine wpAnyH_take (i := 18) (oi := { dst := some 79, op := Op.load 3 (Operand.tmp 78), type := 3, pos := "law.go:82", after := #[{ on := 17, ground := Ground.data }, { on := 14, ground := Ground.guard }], guard := some (14, true) }) (v := .int .i64 c0) rfl (by as_aux_lemma => kernel_rfl) (by as_aux_lemma => kernel_rfl) (by as_aux_lemma => kernel_rfl) (fun _ _ _ h => h) (Or.inl ⟨by rfl, ?_⟩) (by assumption) ?_
  · intro wq hSw
    obtain ⟨q1, q2, q3⟩ := hSw
    have z := q2.cell 0 _ rfl
    go_simp
    try with_reducible rfl
  simp only [Act.put, List.setIfInBounds_toArray, List.set_cons_zero, List.set_cons_succ]
  refine wpAnyH_take (i := 19) (oi := { dst := some 80, op := Op.binOp BinOp.eql 3 (Operand.tmp 77) (Operand.tmp 79) 3, type := 4, pos := "law.go:82", after := #[{ on := 16, ground := Ground.data }, { on := 18, ground := Ground.data }, { on := 14, ground := Ground.guard }], guard := some (14, true) }) (v := .bool true) rfl (by as_aux_lemma => kernel_rfl) (by as_aux_lemma => kernel_rfl) (by as_aux_lemma => kernel_rfl) (fun _ _ _ h => h) (Or.inl ⟨by rfl, ?_⟩) (by assumption) ?_
  · intro wq hSw
    go_simp
    try with_reducible rfl
  simp only [Act.put, List.setIfInBounds_toArray, List.set_cons_zero, List.set_cons_succ]
  refine wpAnyH_take (i := 20) (oi := { dst := some 81, op := Op.pick (Operand.tmp 75) (Operand.tmp 80) (Operand.const (Value.bool false)), type := 4, pos := "law.go:82", after := #[{ on := 14, ground := Ground.data }, { on := 19, ground := Ground.data }], guard := none }) (v := .bool true) rfl (by as_aux_lemma => kernel_rfl) (by as_aux_lemma => kernel_rfl) (by as_aux_lemma => kernel_rfl) (fun _ _ _ h => h) (Or.inl ⟨by rfl, ?_⟩) (by assumption) ?_
  · intro wq hSw
    go_simp
    try with_reducible rfl
  simp only [Act.put, List.setIfInBounds_toArray, List.set_cons_zero, List.set_cons_succ]
  refine wpAnyH_take (i := 21) (oi := { dst := some 82, op := Op.move (Operand.tmp 81), type := 4, pos := "law.go:82", after := #[{ on := 20, ground := Ground.data }, { on := 14, ground := Ground.chain }], guard := none }) (v := .bool true) rfl (by as_aux_lemma => kernel_rfl) (by as_aux_lemma => kernel_rfl) (by as_aux_lemma => kernel_rfl) (fun _ _ _ h => h) (Or.inl ⟨by rfl, ?_⟩) (by assumption) ?_
  · intro wq hSw
    go_simp
    try with_reducible rfl
  simp only [Act.put, List.setIfInBounds_toArray, List.set_cons_zero, List.set_cons_succ]
  refine wpAnyH_take (i := 22) (oi := { dst := some 83, op := Op.fieldAddr 31 (Operand.tmp 3) 0, type := 0, pos := "law.go:82", after := #[{ on := 21, ground := Ground.guard }], guard := some (21, true) }) (v := ?_) rfl (by as_aux_lemma => kernel_rfl) (by as_aux_lemma => kernel_rfl) (by as_aux_lemma => kernel_rfl) (fun _ _ _ h => h) (Or.inl ⟨by rfl, ?_⟩) (by assumption) ?_
  rotate_left
  · intro wq hSw
    go_simp
    try with_reducible rfl
  simp only [Act.put, List.setIfInBounds_toArray, List.set_cons_zero, List.set_cons_succ]
  refine wpAnyH_take (i := 23) (oi := { dst := some 84, op := Op.load 3 (Operand.tmp 83), type := 3, pos := "law.go:82", after := #[{ on := 22, ground := Ground.data }, { on := 21, ground := Ground.guard }], guard := some (21, true) }) (v := .int .i64 c0) rfl (by as_aux_lemma => kernel_rfl) (by as_aux_lemma => kernel_rfl) (by as_aux_lemma => kernel_rfl) (fun _ _ _ h => h) (Or.inl ⟨by rfl, ?_⟩) (by assumption) ?_
  · intro wq hSw
    obtain ⟨q1, q2, q3⟩ := hSw
    have z := q2.cell 0 _ rfl
    go_simp
    try with_reducible rfl
  simp only [Act.put, List.setIfInBounds_toArray, List.set_cons_zero, List.set_cons_succ]
  refine wpAnyH_take (i := 24) (oi := { dst := some 85, op := Op.binOp BinOp.neq 3 (Operand.tmp 84) (Operand.const (Value.int IntKind.i64 1)) 3, type := 4, pos := "law.go:82", after := #[{ on := 23, ground := Ground.data }, { on := 21, ground := Ground.guard }], guard := some (21, true) }) (v := .bool true) rfl (by as_aux_lemma => kernel_rfl) (by as_aux_lemma => kernel_rfl) (by as_aux_lemma => kernel_rfl) (fun _ _ _ h => h) (Or.inl ⟨by rfl, ?_⟩) (by assumption) ?_
  · intro wq hSw
    go_simp
    try with_reducible rfl
  simp only [Act.put, List.setIfInBounds_toArray, List.set_cons_zero, List.set_cons_succ]
  refine wpAnyH_take (i := 25) (oi := { dst := some 86, op := Op.move (Operand.tmp 85), type := 4, pos := "law.go:82", after := #[{ on := 24, ground := Ground.data }, { on := 21, ground := Ground.chain }, { on := 21, ground := Ground.guard }], guard := some (21, true) }) (v := .bool true) rfl (by as_aux_lemma => kernel_rfl) (by as_aux_lemma => kernel_rfl) (by as_aux_lemma => kernel_rfl) (fun _ _ _ h => h) (Or.inl ⟨by rfl, ?_⟩) (by assumption) ?_
  · intro wq hSw
    go_simp
    try with_reducible rfl
  simp only [Act.put, List.setIfInBounds_toArray, List.set_cons_zero, List.set_cons_succ]
  refine wpAnyH_take (i := 26) (oi := { dst := some 87, op := Op.load 26 (Operand.tmp 11), type := 26, pos := "law.go:82", after := #[{ on := 25, ground := Ground.guard }], guard := some (25, false) }) (v := undef) rfl (by as_aux_lemma => kernel_rfl) (by as_aux_lemma => kernel_rfl) (by as_aux_lemma => kernel_rfl) (fun _ _ _ h => h) (Or.inr ⟨by rfl, rfl⟩) (by assumption) ?_
  simp only [Act.put, List.setIfInBounds_toArray, List.set_cons_zero, List.set_cons_succ]
  refine wpAnyH_take (i := 27) (oi := { dst := some 88, op := Op.call { callee := Callee.value (Operand.func 11), args := #[Operand.tmp 87], argTypes := #[26] }, type := 31, pos := "law.go:82", after := #[{ on := 26, ground := Ground.data }, { on := 25, ground := Ground.chain }, { on := 25, ground := Ground.guard }], guard := some (25, false) }) (v := undef) rfl (by as_aux_lemma => kernel_rfl) (by as_aux_lemma => kernel_rfl) (by as_aux_lemma => kernel_rfl) (fun _ _ _ h => h) (Or.inr ⟨by rfl, rfl⟩) (by assumption) ?_
  simp only [Act.put, List.setIfInBounds_toArray, List.set_cons_zero, List.set_cons_succ]
  refine wpAnyH_take (i := 28) (oi := { dst := some 89, op := Op.load 31 (Operand.tmp 3), type := 31, pos := "law.go:82", after := #[{ on := 25, ground := Ground.guard }], guard := some (25, false) }) (v := undef) rfl (by as_aux_lemma => kernel_rfl) (by as_aux_lemma => kernel_rfl) (by as_aux_lemma => kernel_rfl) (fun _ _ _ h => h) (Or.inr ⟨by rfl, rfl⟩) (by assumption) ?_
  simp only [Act.put, List.setIfInBounds_toArray, List.set_cons_zero, List.set_cons_succ]
  refine wpAnyH_take (i := 29) (oi := { dst := some 90, op := Op.binOp BinOp.eql 31 (Operand.tmp 88) (Operand.tmp 89) 31, type := 4, pos := "law.go:82", after := #[{ on := 27, ground := Ground.data }, { on := 28, ground := Ground.data }, { on := 25, ground := Ground.guard }], guard := some (25, false) }) (v := undef) rfl (by as_aux_lemma => kernel_rfl) (by as_aux_lemma => kernel_rfl) (by as_aux_lemma => kernel_rfl) (fun _ _ _ h => h) (Or.inr ⟨by rfl, rfl⟩) (by assumption) ?_
  simp only [Act.put, List.setIfInBounds_toArray, List.set_cons_zero, List.set_cons_succ]
  refine wpAnyH_take (i := 30) (oi := { dst := some 91, op := Op.pick (Operand.tmp 86) (Operand.const (Value.bool true)) (Operand.tmp 90), type := 4, pos := "law.go:82", after := #[{ on := 25, ground := Ground.data }, { on := 29, ground := Ground.data }, { on := 21, ground := Ground.guard }], guard := some (21, true) }) (v := .bool true) rfl (by as_aux_lemma => kernel_rfl) (by as_aux_lemma => kernel_rfl) (by as_aux_lemma => kernel_rfl) (fun _ _ _ h => h) (Or.inl ⟨by rfl, ?_⟩) (by assumption) ?_
  · intro wq hSw
    go_simp
    try with_reducible rfl
  simp only [Act.put, List.setIfInBounds_toArray, List.set_cons_zero, List.set_cons_succ]
  refine wpAnyH_take (i := 31) (oi := { dst := some 92, op := Op.pick (Operand.tmp 82) (Operand.tmp 91) (Operand.const (Value.bool false)), type := 4, pos := "law.go:82", after := #[{ on := 21, ground := Ground.data }, { on := 30, ground := Ground.data }], guard := none }) (v := .bool true) rfl (by as_aux_lemma => kernel_rfl) (by as_aux_lemma => kernel_rfl) (by as_aux_lemma => kernel_rfl) (fun _ _ _ h => h) (Or.inl ⟨by rfl, ?_⟩) (by assumption) ?_
  · intro wq hSw
    go_simp
    try with_reducible rfl
  simp only [Act.put, List.setIfInBounds_toArray, List.set_cons_zero, List.set_cons_succ]
  refine wpAnyH_take (i := 32) (oi := { dst := some 4, op := Op.assign (Operand.tmp 92), type := 4, pos := "law.go:82", after := #[{ on := 31, ground := Ground.data }, { on := 27, ground := Ground.chain }, { on := 0, ground := Ground.phase }, { on := 1, ground := Ground.phase }, { on := 2, ground := Ground.phase }, { on := 3, ground := Ground.phase }, { on := 4, ground := Ground.phase }, { on := 5, ground := Ground.phase }, { on := 6, ground := Ground.phase }, { on := 7, ground := Ground.phase }, { on := 8, ground := Ground.phase }, { on := 9, ground := Ground.phase }, { on := 10, ground := Ground.phase }, { on := 11, ground := Ground.phase }, { on := 12, ground := Ground.phase }, { on := 13, ground := Ground.phase }, { on := 14, ground := Ground.phase }, { on := 15, ground := Ground.phase }, { on := 16, ground := Ground.phase }, { on := 17, ground := Ground.phase }, { on := 18, ground := Ground.phase }, { on := 19, ground := Ground.phase }, { on := 20, ground := Ground.phase }, { on := 21, ground := Ground.phase }, { on := 22, ground := Ground.phase }, { on := 23, ground := Ground.phase }, { on := 24, ground := Ground.phase }, { on := 25, ground := Ground.phase }, { on := 26, ground := Ground.phase }, { on := 27, ground := Ground.phase }, { on := 28, ground := Ground.phase }, { on := 29, ground := Ground.phase }, { on := 30, ground := Ground.phase }, { on := 31, ground := Ground.phase }], guard := none }) (v := .bool true) rfl (by as_aux_lemma => kernel_rfl) (by as_aux_lemma => kernel_rfl) (by as_aux_lemma => kernel_rfl) (fun _ _ _ h => h) (Or.inl ⟨by rfl, ?_⟩) (by assumption) ?_
  · intro wq hSw
    go_simp
    try with_reducible rfl
  simp only [Act.put, List.setIfInBounds_toArray, List.set_cons_zero, List.set_cons_succ]
  refine wpAnyH_done (by as_aux_lemma => kernel_rfl) ?_ _
  go_wp2_with fail
  go_ret
  exact ⟨rfl, hd.1⟩
theorem walk (s : ByteArray) (c0 c1 c2 c3 c4 c5 c6 c7 c8 : Int) (w : World) (hw : Wd w) (ht : Tb w) : Calls Tryd.prog 5 #[.string s, .agg (List.toArray [.int .i64 c0, .int .i64 c1, .int .i64 c2, .int .i64 c3, .int .i64 c4, .int .i64 c5, .int .i64 c6, .int .i64 c7, .int .i64 c8])] w fun e w' => e = .returned (.bool true) ∧ Below w.heap.size w w' := by
  by_cases hs : 1000 < s.size
  · exact way_long s c0 c1 c2 c3 c4 c5 c6 c7 c8 w hw hs
  have hs : s.size ≤ 1000 := by omega
  rcases h1 : lp s with ⟨x1, p1⟩ | cl
  · skip
    rcases h2 : pt [c0, c1, c2, c3, c4, c5, c6, c7, c8] with ⟨x2, p2⟩ | l
    · exact way_er_er s c0 c1 c2 c3 c4 c5 c6 c7 c8 w hw ht hs x1 p1 h1 x2 p2 h2
    · obtain ⟨d1, d2, d3, d4, d5, d6, d7, d8, h3, h4, h5, _, _, hl⟩ := pt_lp h2
      by_cases hk : c0 = 1
      · subst hk
        obtain ⟨rfl, rfl, rfl, rfl, rfl, rfl, rfl, rfl⟩ := h5 rfl
        exact way_er_one s d1 d2 d3 d4 d5 d6 d7 d8 w hw ht hs x1 p1 h1 l hl h2 h3
      · exact way_er_other s c0 c1 c2 c3 c4 c5 c6 c7 c8 w hw ht hs x1 p1 h1 l hl hk d1 d2 d3 d4 d5 d6 d7 d8 h2 h3 h4
  · obtain ⟨s0, s1, s2, s3, s4, s5, s6, s7, s8, rfl⟩ := lp_nine' h1
    rcases h2 : pt [c0, c1, c2, c3, c4, c5, c6, c7, c8] with ⟨x2, p2⟩ | l
    · exact way_ok_er s c0 c1 c2 c3 c4 c5 c6 c7 c8 w hw ht hs s0 s1 s2 s3 s4 s5 s6 s7 s8 h1 x2 p2 h2
    · obtain ⟨d1, d2, d3, d4, d5, d6, d7, d8, h3, h4, h5, _, _, hl⟩ := pt_lp h2
      by_cases hk : c0 = 1
      · subst hk
        obtain ⟨rfl, rfl, rfl, rfl, rfl, rfl, rfl, rfl⟩ := h5 rfl
        exact way_ok_one s d1 d2 d3 d4 d5 d6 d7 d8 w hw ht hs s0 s1 s2 s3 s4 s5 s6 s7 s8 h1 l hl h2 h3
      · exact way_ok_other s c0 c1 c2 c3 c4 c5 c6 c7 c8 w hw ht hs s0 s1 s2 s3 s4 s5 s6 s7 s8 h1 l hl hk d1 d2 d3 d4 d5 d6 d7 d8 h2 h3 h4

end Go.Proofs.YtnppopeoloigeaaDoor
