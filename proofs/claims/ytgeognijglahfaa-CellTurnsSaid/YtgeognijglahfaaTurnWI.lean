/-
  The walk of CellTurns, part I.
-/
import Derived.Test.YtgeognijglahfaaRows
import Derived.WalkKit
import Derived.ProofKit
import Derived.OpenShut
import Derived.ShutString
import Derived.Below
import Derived.Outline
import Derived.WalkLawsBesides
import Derived.WalkSpells
import Derived.Handy
import Derived.Deep.QuietTactic
import Derived.BigQuiet
import Derived.RegionTactic
import Derived.ChangeAlike
import Derived.Lib.Hide
import Derived.Deep.RegionHeld3
import Derived.Deep.LoopGhost
import Derived.Deep.CutRange
import Derived.Deep.DeepCutAuto
import Derived.Deep.CutBlock
import Derived.Test.YtgeognijglahfaaKit
import Derived.Test.YtgeognijglahfaaGive
import Derived.Test.YtgeognijglahfaaBox
import Derived.Test.YtgeognijglahfaaIs
import Derived.Test.YtgeognijglahfaaHold
import Derived.Test.YtgeognijglahfaaQuiet
import Derived.Test.YtgeognijglahfaaTurnK
namespace Go.Proofs.Ytgeognijglahfaa.cellTurns
open Go.ChangeShapes Go.WideShapes Go.ChangeAt Go.RowKit
set_option maxRecDepth 100000 in
set_option maxHeartbeats 4000000 in
theorem main_in_1 (g l f q m n K1 G1 L1 F1 c1 K2 G2 L2 F2 c2 K3 G3 L3 F3 c3 K4 G4 L4 F4 c4 : Int) (b B1 B2 B3 B4 : Bool) (x1 x2 x3 x4 : Value) (w : World)
   (g1 : g < 1099511627776) (g2 : -1099511627776 < g)
   (hT1 : ∀ w, Calls Try.prog 36 #[.agg #[.int .i64 1, .bool b, .int .i64 g, .int .i64 l, .int .i64 f], .int .i64 q, .int .i64 m] w (Gives w K1 G1 L1 F1 B1 x1))
   (hU1 : ∀ w, Calls Try.prog 37 #[.agg #[.int .i64 1, .bool b, .int .i64 g, .int .i64 l, .int .i64 f], .int .i64 q, .int .i64 m] w (Gives w K1 G1 L1 F1 B1 (.int .i64 c1)))
   (hN1 : ∀ w, Calls Try.prog 12 #[x1] w (IsNum w c1))
   (hT2 : ∀ w, Calls Try.prog 38 #[.agg #[.int .i64 1, .bool b, .int .i64 g, .int .i64 l, .int .i64 f], .int .i64 q, .int .i64 m] w (Gives w K2 G2 L2 F2 B2 x2))
   (hU2 : ∀ w, Calls Try.prog 39 #[.agg #[.int .i64 1, .bool b, .int .i64 g, .int .i64 l, .int .i64 f], .int .i64 q, .int .i64 m] w (Gives w K2 G2 L2 F2 B2 (.int .i64 c2)))
   (hN2 : ∀ w, Calls Try.prog 12 #[x2] w (IsNum w c2))
   (hT3 : ∀ w, Calls Try.prog 40 #[.agg #[.int .i64 1, .bool b, .int .i64 g, .int .i64 l, .int .i64 f]] w (Gives w K3 G3 L3 F3 B3 x3))
   (hU3 : ∀ w, Calls Try.prog 41 #[.agg #[.int .i64 1, .bool b, .int .i64 g, .int .i64 l, .int .i64 f]] w (Gives w K3 G3 L3 F3 B3 (.int .i64 c3)))
   (hN3 : ∀ w, Calls Try.prog 12 #[x3] w (IsNum w c3))
   (hT4 : ∀ w, Calls Try.prog 42 #[.agg #[.int .i64 1, .bool b, .int .i64 g, .int .i64 l, .int .i64 f], .int .i64 q, .int .i64 n] w (Gives w K4 G4 L4 F4 B4 x4))
   (hU4 : ∀ w, Calls Try.prog 43 #[.agg #[.int .i64 1, .bool b, .int .i64 g, .int .i64 l, .int .i64 f], .int .i64 q, .int .i64 n] w (Gives w K4 G4 L4 F4 B4 (.int .i64 c4)))
   (hN4 : ∀ w, Calls Try.prog 12 #[x4] w (IsNum w c4))
   : Calls Try.prog 6 #[.agg #[.int .i64 1, .bool b, .int .i64 g, .int .i64 l, .int .i64 f], .int .i64 q, .int .i64 m, .int .i64 n] w fun e w' => e = .returned (.bool true) ∧ Below w.heap.size w w' := by
  have HT1 := Lib.hid hT1
  have HU1 := Lib.hid hU1
  have HN1 := Lib.hid hN1
  clear hT1 hU1 hN1
  have HT2 := Lib.hid hT2
  have HU2 := Lib.hid hU2
  have HN2 := Lib.hid hN2
  clear hT2 hU2 hN2
  have HT3 := Lib.hid hT3
  have HU3 := Lib.hid hU3
  have HN3 := Lib.hid hN3
  clear hT3 hU3 hN3
  have HT4 := Lib.hid hT4
  have HU4 := Lib.hid hU4
  have HN4 := Lib.hid hN4
  clear hT4 hU4 hN4
  go_enter Try.func6, Try.ntmps6
  go_wp2_with fail
  refine (HT1.out _).mono ?_
  rintro e w1 ⟨rfl, hb1⟩
  have bS1 := Box.below (Box.new w 1 g l f b) hb1
  have hB1 : Below w.heap.size w w1 := Below.step (by go_grown) hb1
  have hz1 := hb1.size
  try simp only [World.size_alloc, World.size_setCell] at hz1
  clear hb1
  have hs1 : w.heap.size < w1.heap.size := bS1.2.2
  obtain ⟨⟨s0, s1, s2, s3, s4⟩, ⟨sf0, sf1, sf2, sf3, sf4⟩, _⟩ := id bS1
  go_wp2_with fail
  refine (HU1.out _).mono ?_
  rintro e w2 ⟨rfl, hb2⟩
  have bS2 := Box.below (bS1.below (by go_grown)) hb2
  have bA2 := Box.below (Box.new w1 K1 G1 L1 F1 B1) hb2
  have hB2 : Below w.heap.size w w2 := Below.step (by go_grown) hb2
  have hz2 := hb2.size
  try simp only [World.size_alloc, World.size_setCell] at hz2
  clear hb2
  have hs2 : w1.heap.size < w2.heap.size := bA2.2.2
  clear s0 sf0 s1 sf1 s2 sf2 s3 sf3 s4 sf4
  obtain ⟨⟨s0, s1, s2, s3, s4⟩, ⟨sf0, sf1, sf2, sf3, sf4⟩, _⟩ := id bS2
  obtain ⟨⟨a0, a1, a2, a3, a4⟩, ⟨af0, af1, af2, af3, af4⟩, _⟩ := id bA2
  go_wp2_with fail
  refine (HN1.out _).mono ?_
  rintro e w3 ⟨rfl, hb3⟩
  have bS3 := Box.below (bS2.below (by go_grown)) hb3
  have bA3 := Box.below (bA2.below (by go_grown)) hb3
  have bB3 := Box.below (Box.new w2 K1 G1 L1 F1 B1) hb3
  have hB3 : Below w.heap.size w w3 := Below.step (by go_grown) hb3
  have hz3 := hb3.size
  try simp only [World.size_alloc, World.size_setCell] at hz3
  clear hb3
  have hs3 : w2.heap.size < w3.heap.size := bB3.2.2
  clear s0 sf0 s1 sf1 s2 sf2 s3 sf3 s4 sf4 a0 af0 a1 af1 a2 af2 a3 af3 a4 af4
  obtain ⟨⟨s0, s1, s2, s3, s4⟩, ⟨sf0, sf1, sf2, sf3, sf4⟩, _⟩ := id bS3
  have hcc1 : (c1 != c1) = false := by simp
  have nSA : w.heap.size ≠ w1.heap.size := by omega
  have nSB : w.heap.size ≠ w2.heap.size := by omega
  have nAB : w1.heap.size ≠ w2.heap.size := by omega
  go_wp2_with fail
  refine (HT2.out _).mono ?_
  rintro e w4 ⟨rfl, hb4⟩
  have bS4 := Box.below (bS3) hb4
  have bA4 := Box.below (bA3) hb4
  have bB4 := Box.below (bB3) hb4
  have hB4 : Below w.heap.size w w4 := Below.step (by go_grown) hb4
  have hz4 := hb4.size
  try simp only [World.size_alloc, World.size_setCell] at hz4
  clear hb4
  clear s0 sf0 s1 sf1 s2 sf2 s3 sf3 s4 sf4
  obtain ⟨⟨s0, s1, s2, s3, s4⟩, ⟨sf0, sf1, sf2, sf3, sf4⟩, _⟩ := id bS4
  obtain ⟨⟨a0, a1, a2, a3, a4⟩, ⟨af0, af1, af2, af3, af4⟩, _⟩ := id bA4
  go_wp2_with fail
  refine (HU2.out _).mono ?_
  rintro e w5 ⟨rfl, hb5⟩
  have bS5 := Box.below (bS4.set5_other nSA.symm K2 G2 L2 F2 B2) hb5
  have bA5 := Box.below (bA4.set5_same K2 G2 L2 F2 B2) hb5
  have bB5 := Box.below (bB4.set5_other nAB K2 G2 L2 F2 B2) hb5
  have hB5 : Below w.heap.size w w5 := Below.step (by go_grown) hb5
  have hz5 := hb5.size
  try simp only [World.size_alloc, World.size_setCell] at hz5
  clear hb5
  clear s0 sf0 s1 sf1 s2 sf2 s3 sf3 s4 sf4 a0 af0 a1 af1 a2 af2 a3 af3 a4 af4
  obtain ⟨⟨s0, s1, s2, s3, s4⟩, ⟨sf0, sf1, sf2, sf3, sf4⟩, _⟩ := id bS5
  obtain ⟨⟨a0, a1, a2, a3, a4⟩, ⟨af0, af1, af2, af3, af4⟩, _⟩ := id bA5
  obtain ⟨⟨t0, t1, t2, t3, t4⟩, ⟨tf0, tf1, tf2, tf3, tf4⟩, _⟩ := id bB5
  go_wp2_with fail
  refine (HN2.out _).mono ?_
  rintro e w6 ⟨rfl, hb6⟩
  have bS6 := Box.below (bS5.set5_other nSB.symm K2 G2 L2 F2 B2) hb6
  have bA6 := Box.below (bA5.set5_other nAB.symm K2 G2 L2 F2 B2) hb6
  have bB6 := Box.below (bB5.set5_same K2 G2 L2 F2 B2) hb6
  have hB6 : Below w.heap.size w w6 := Below.step (by go_grown) hb6
  have hz6 := hb6.size
  try simp only [World.size_alloc, World.size_setCell] at hz6
  clear hb6
  clear s0 sf0 s1 sf1 s2 sf2 s3 sf3 s4 sf4 a0 af0 a1 af1 a2 af2 a3 af3 a4 af4 t0 tf0 t1 tf1 t2 tf2 t3 tf3 t4 tf4
  obtain ⟨⟨s0, s1, s2, s3, s4⟩, ⟨sf0, sf1, sf2, sf3, sf4⟩, _⟩ := id bS6
  have hcc2 : (c2 != c2) = false := by simp
  go_wp2_with fail
  refine (HT3.out _).mono ?_
  rintro e w7 ⟨rfl, hb7⟩
  have bS7 := Box.below (bS6) hb7
  have bA7 := Box.below (bA6) hb7
  have bB7 := Box.below (bB6) hb7
  have hB7 : Below w.heap.size w w7 := Below.step (by go_grown) hb7
  have hz7 := hb7.size
  try simp only [World.size_alloc, World.size_setCell] at hz7
  clear hb7
  clear s0 sf0 s1 sf1 s2 sf2 s3 sf3 s4 sf4
  obtain ⟨⟨s0, s1, s2, s3, s4⟩, ⟨sf0, sf1, sf2, sf3, sf4⟩, _⟩ := id bS7
  obtain ⟨⟨a0, a1, a2, a3, a4⟩, ⟨af0, af1, af2, af3, af4⟩, _⟩ := id bA7
  go_wp2_with fail
  refine (HU3.out _).mono ?_
  rintro e w8 ⟨rfl, hb8⟩
  have bS8 := Box.below (bS7.set5_other nSA.symm K3 G3 L3 F3 B3) hb8
  have bA8 := Box.below (bA7.set5_same K3 G3 L3 F3 B3) hb8
  have bB8 := Box.below (bB7.set5_other nAB K3 G3 L3 F3 B3) hb8
  have hB8 : Below w.heap.size w w8 := Below.step (by go_grown) hb8
  have hz8 := hb8.size
  try simp only [World.size_alloc, World.size_setCell] at hz8
  clear hb8
  clear s0 sf0 s1 sf1 s2 sf2 s3 sf3 s4 sf4 a0 af0 a1 af1 a2 af2 a3 af3 a4 af4
  obtain ⟨⟨s0, s1, s2, s3, s4⟩, ⟨sf0, sf1, sf2, sf3, sf4⟩, _⟩ := id bS8
  obtain ⟨⟨a0, a1, a2, a3, a4⟩, ⟨af0, af1, af2, af3, af4⟩, _⟩ := id bA8
  obtain ⟨⟨t0, t1, t2, t3, t4⟩, ⟨tf0, tf1, tf2, tf3, tf4⟩, _⟩ := id bB8
  go_wp2_with fail
  refine (HN3.out _).mono ?_
  rintro e w9 ⟨rfl, hb9⟩
  have bS9 := Box.below (bS8.set5_other nSB.symm K3 G3 L3 F3 B3) hb9
  have bA9 := Box.below (bA8.set5_other nAB.symm K3 G3 L3 F3 B3) hb9
  have bB9 := Box.below (bB8.set5_same K3 G3 L3 F3 B3) hb9
  have hB9 : Below w.heap.size w w9 := Below.step (by go_grown) hb9
  have hz9 := hb9.size
  try simp only [World.size_alloc, World.size_setCell] at hz9
  clear hb9
  clear s0 sf0 s1 sf1 s2 sf2 s3 sf3 s4 sf4 a0 af0 a1 af1 a2 af2 a3 af3 a4 af4 t0 tf0 t1 tf1 t2 tf2 t3 tf3 t4 tf4
  obtain ⟨⟨s0, s1, s2, s3, s4⟩, ⟨sf0, sf1, sf2, sf3, sf4⟩, _⟩ := id bS9
  have hcc3 : (c3 != c3) = false := by simp
  go_wp2_with fail
  refine (HT4.out _).mono ?_
  rintro e w10 ⟨rfl, hb10⟩
  have bS10 := Box.below (bS9) hb10
  have bA10 := Box.below (bA9) hb10
  have bB10 := Box.below (bB9) hb10
  have hB10 : Below w.heap.size w w10 := Below.step (by go_grown) hb10
  have hz10 := hb10.size
  try simp only [World.size_alloc, World.size_setCell] at hz10
  clear hb10
  clear s0 sf0 s1 sf1 s2 sf2 s3 sf3 s4 sf4
  obtain ⟨⟨s0, s1, s2, s3, s4⟩, ⟨sf0, sf1, sf2, sf3, sf4⟩, _⟩ := id bS10
  obtain ⟨⟨a0, a1, a2, a3, a4⟩, ⟨af0, af1, af2, af3, af4⟩, _⟩ := id bA10
  go_wp2_with fail
  refine (HU4.out _).mono ?_
  rintro e w11 ⟨rfl, hb11⟩
  have bS11 := Box.below (bS10.set5_other nSA.symm K4 G4 L4 F4 B4) hb11
  have bA11 := Box.below (bA10.set5_same K4 G4 L4 F4 B4) hb11
  have bB11 := Box.below (bB10.set5_other nAB K4 G4 L4 F4 B4) hb11
  have hB11 : Below w.heap.size w w11 := Below.step (by go_grown) hb11
  have hz11 := hb11.size
  try simp only [World.size_alloc, World.size_setCell] at hz11
  clear hb11
  clear s0 sf0 s1 sf1 s2 sf2 s3 sf3 s4 sf4 a0 af0 a1 af1 a2 af2 a3 af3 a4 af4
  obtain ⟨⟨s0, s1, s2, s3, s4⟩, ⟨sf0, sf1, sf2, sf3, sf4⟩, _⟩ := id bS11
  obtain ⟨⟨a0, a1, a2, a3, a4⟩, ⟨af0, af1, af2, af3, af4⟩, _⟩ := id bA11
  obtain ⟨⟨t0, t1, t2, t3, t4⟩, ⟨tf0, tf1, tf2, tf3, tf4⟩, _⟩ := id bB11
  go_wp2_with fail
  refine (HN4.out _).mono ?_
  rintro e w12 ⟨rfl, hb12⟩
  have bS12 := Box.below (bS11.set5_other nSB.symm K4 G4 L4 F4 B4) hb12
  have bA12 := Box.below (bA11.set5_other nAB.symm K4 G4 L4 F4 B4) hb12
  have bB12 := Box.below (bB11.set5_same K4 G4 L4 F4 B4) hb12
  have hB12 : Below w.heap.size w w12 := Below.step (by go_grown) hb12
  have hz12 := hb12.size
  try simp only [World.size_alloc, World.size_setCell] at hz12
  clear hb12
  clear s0 sf0 s1 sf1 s2 sf2 s3 sf3 s4 sf4 a0 af0 a1 af1 a2 af2 a3 af3 a4 af4 t0 tf0 t1 tf1 t2 tf2 t3 tf3 t4 tf4
  obtain ⟨⟨s0, s1, s2, s3, s4⟩, ⟨sf0, sf1, sf2, sf3, sf4⟩, _⟩ := id bS12
  have hcc4 : (c4 != c4) = false := by simp
  have hlS12 : w.heap.size < w12.heap.size := bS12.2.2
  go_upto_region 19 with fail
  have bSa : Box w.heap.size 1 g l f b (((w12.alloc (.cells #[.int .i64 1, .bool b, .int .i64 g, .int .i64 l, .int .i64 f] 52)).alloc (.cells #[.int .i64 0, .bool false, .int .i64 0, .int .i64 0, .int .i64 0] 52)).alloc (.cells #[.int .i64 0, .bool false, .int .i64 0, .int .i64 0, .int .i64 0] 52)) := Box.below bS12 (by go_grown)
  have bHa : Box w12.heap.size 1 g l f b (((w12.alloc (.cells #[.int .i64 1, .bool b, .int .i64 g, .int .i64 l, .int .i64 f] 52)).alloc (.cells #[.int .i64 0, .bool false, .int .i64 0, .int .i64 0, .int .i64 0] 52)).alloc (.cells #[.int .i64 0, .bool false, .int .i64 0, .int .i64 0, .int .i64 0] 52)) := Box.below (Box.new w12 1 g l f b) (by go_grown)
  have bEa : Box (w12.heap.size + 1) 0 0 0 0 false (((w12.alloc (.cells #[.int .i64 1, .bool b, .int .i64 g, .int .i64 l, .int .i64 f] 52)).alloc (.cells #[.int .i64 0, .bool false, .int .i64 0, .int .i64 0, .int .i64 0] 52)).alloc (.cells #[.int .i64 0, .bool false, .int .i64 0, .int .i64 0, .int .i64 0] 52)) := Box.below (by have := Box.new (w12.alloc (.cells #[.int .i64 1, .bool b, .int .i64 g, .int .i64 l, .int .i64 f] 52)) 0 0 0 0 false; rw [World.size_alloc] at this; exact this) (by go_grown)
  have bRa : Box (w12.heap.size + 1 + 1) 0 0 0 0 false (((w12.alloc (.cells #[.int .i64 1, .bool b, .int .i64 g, .int .i64 l, .int .i64 f] 52)).alloc (.cells #[.int .i64 0, .bool false, .int .i64 0, .int .i64 0, .int .i64 0] 52)).alloc (.cells #[.int .i64 0, .bool false, .int .i64 0, .int .i64 0, .int .i64 0] 52)) := by have := Box.new ((w12.alloc (.cells #[.int .i64 1, .bool b, .int .i64 g, .int .i64 l, .int .i64 f] 52)).alloc (.cells #[.int .i64 0, .bool false, .int .i64 0, .int .i64 0, .int .i64 0] 52)) 0 0 0 0 false; rw [World.size_alloc, World.size_alloc] at this; exact this
  have hBa : Below w.heap.size w (((w12.alloc (.cells #[.int .i64 1, .bool b, .int .i64 g, .int .i64 l, .int .i64 f] 52)).alloc (.cells #[.int .i64 0, .bool false, .int .i64 0, .int .i64 0, .int .i64 0] 52)).alloc (.cells #[.int .i64 0, .bool false, .int .i64 0, .int .i64 0, .int .i64 0] 52)) := by go_grown
  generalize (((w12.alloc (.cells #[.int .i64 1, .bool b, .int .i64 g, .int .i64 l, .int .i64 f] 52)).alloc (.cells #[.int .i64 0, .bool false, .int .i64 0, .int .i64 0, .int .i64 0] 52)).alloc (.cells #[.int .i64 0, .bool false, .int .i64 0, .int .i64 0, .int .i64 0] 52)) = wa at bSa bHa bEa bRa hBa ⊢
  have nSH : w.heap.size ≠ w12.heap.size := by omega
  have nSE : w.heap.size ≠ w12.heap.size + 1 := by omega
  have nSR : w.heap.size ≠ w12.heap.size + 1 + 1 := by omega
  clear s0 sf0 s1 sf1 s2 sf2 s3 sf3 s4 sf4
  obtain ⟨⟨s0, s1, s2, s3, s4⟩, ⟨sf0, sf1, sf2, sf3, sf4⟩, _⟩ := id bSa
  go_wp2_with fail
  refine (loose_yes_1 _).mono ?_
  rintro e wb ⟨rfl, hbb⟩
  have bSb := bSa.below hbb
  have bHb := bHa.below hbb
  have bEb := bEa.below hbb
  have bRb := bRa.below hbb
  have hBb : Below w.heap.size w wb := Below.step (by go_grown) hbb
  clear hbb
  clear s0 sf0 s1 sf1 s2 sf2 s3 sf3 s4 sf4
  obtain ⟨⟨s0, s1, s2, s3, s4⟩, ⟨sf0, sf1, sf2, sf3, sf4⟩, _⟩ := id bSb
  obtain ⟨⟨h0, h1, h2, h3, h4⟩, ⟨hf0, hf1, hf2, hf3, hf4⟩, _⟩ := id bHb
  go_upto_region 22 with fail
  have bSc : Box w.heap.size 1 g l f b (wb.setCell ⟨w12.heap.size, 0, none⟩ (.int .i64 3)) := bSb.set0_other nSH.symm 3
  have bHc : Box w12.heap.size 3 g l f b (wb.setCell ⟨w12.heap.size, 0, none⟩ (.int .i64 3)) := bHb.set0_same 3
  have bEc : Box (w12.heap.size + 1) 0 0 0 0 false (wb.setCell ⟨w12.heap.size, 0, none⟩ (.int .i64 3)) := bEb.set0_other (by omega) 3
  have bRc : Box (w12.heap.size + 1 + 1) 0 0 0 0 false (wb.setCell ⟨w12.heap.size, 0, none⟩ (.int .i64 3)) := bRb.set0_other (by omega) 3
  have hBc : Below w.heap.size w (wb.setCell ⟨w12.heap.size, 0, none⟩ (.int .i64 3)) := hBb.setCell (show w.heap.size ≤ w12.heap.size by omega) _
  generalize (wb.setCell ⟨w12.heap.size, 0, none⟩ (.int .i64 3)) = wc at bSc bHc bEc bRc hBc ⊢
  clear s0 sf0 s1 sf1 s2 sf2 s3 sf3 s4 sf4 h0 hf0 h1 hf1 h2 hf2 h3 hf3 h4 hf4
  obtain ⟨⟨s0, s1, s2, s3, s4⟩, ⟨sf0, sf1, sf2, sf3, sf4⟩, _⟩ := id bSc
  obtain ⟨⟨e0, e1, e2, e3, e4⟩, ⟨ef0, ef1, ef2, ef3, ef4⟩, _⟩ := id bEc
  go_upto_region 23 with fail
  have bSd : Box w.heap.size 1 g l f b (set5 wc (w12.heap.size + 1) 1 g l f b) := bSc.set5_other nSE.symm 1 g l f b
  have bHd : Box w12.heap.size 3 g l f b (set5 wc (w12.heap.size + 1) 1 g l f b) := bHc.set5_other (by omega) 1 g l f b
  have bEd : Box (w12.heap.size + 1) 1 g l f b (set5 wc (w12.heap.size + 1) 1 g l f b) := bEc.set5_same 1 g l f b
  have bRd : Box (w12.heap.size + 1 + 1) 0 0 0 0 false (set5 wc (w12.heap.size + 1) 1 g l f b) := bRc.set5_other (by omega) 1 g l f b
  have hBd : Below w.heap.size w (set5 wc (w12.heap.size + 1) 1 g l f b) := below_set5 hBc (by omega) _ _ _ _ _
  change Code.wp _ _ _ _ (set5 wc (w12.heap.size + 1) 1 g l f b)
  generalize (set5 wc (w12.heap.size + 1) 1 g l f b) = wd at bSd bHd bEd bRd hBd ⊢
  clear s0 sf0 s1 sf1 s2 sf2 s3 sf3 s4 sf4 e0 ef0 e1 ef1 e2 ef2 e3 ef3 e4 ef4
  obtain ⟨⟨s0, s1, s2, s3, s4⟩, ⟨sf0, sf1, sf2, sf3, sf4⟩, _⟩ := id bSd
  obtain ⟨⟨e0, e1, e2, e3, e4⟩, ⟨ef0, ef1, ef2, ef3, ef4⟩, _⟩ := id bEd
  go_upto_region 24 with fail
  have bSe : Box w.heap.size 1 g l f b (wd.setCell ⟨(w12.heap.size + 1), 0, none⟩ (.int .i64 7)) := bSd.set0_other nSE.symm 7
  have bHe : Box w12.heap.size 3 g l f b (wd.setCell ⟨(w12.heap.size + 1), 0, none⟩ (.int .i64 7)) := bHd.set0_other (by omega) 7
  have bEe : Box (w12.heap.size + 1) 7 g l f b (wd.setCell ⟨(w12.heap.size + 1), 0, none⟩ (.int .i64 7)) := bEd.set0_same 7
  have bRe : Box (w12.heap.size + 1 + 1) 0 0 0 0 false (wd.setCell ⟨(w12.heap.size + 1), 0, none⟩ (.int .i64 7)) := bRd.set0_other (by omega) 7
  have hBe : Below w.heap.size w (wd.setCell ⟨(w12.heap.size + 1), 0, none⟩ (.int .i64 7)) := hBd.setCell (show w.heap.size ≤ (w12.heap.size + 1) by omega) _
  generalize (wd.setCell ⟨(w12.heap.size + 1), 0, none⟩ (.int .i64 7)) = we at bSe bHe bEe bRe hBe ⊢
  clear s0 sf0 s1 sf1 s2 sf2 s3 sf3 s4 sf4 e0 ef0 e1 ef1 e2 ef2 e3 ef3 e4 ef4
  obtain ⟨⟨s0, s1, s2, s3, s4⟩, ⟨sf0, sf1, sf2, sf3, sf4⟩, _⟩ := id bSe
  obtain ⟨⟨r0, r1, r2, r3, r4⟩, ⟨rf0, rf1, rf2, rf3, rf4⟩, _⟩ := id bRe
  go_upto_region 26 with fail
  have bSf : Box w.heap.size 1 g l f b (set5 we (w12.heap.size + 1 + 1) 1 g l f b) := bSe.set5_other nSR.symm 1 g l f b
  have bHf : Box w12.heap.size 3 g l f b (set5 we (w12.heap.size + 1 + 1) 1 g l f b) := bHe.set5_other (by omega) 1 g l f b
  have bEf : Box (w12.heap.size + 1) 7 g l f b (set5 we (w12.heap.size + 1 + 1) 1 g l f b) := bEe.set5_other (by omega) 1 g l f b
  have bRf : Box (w12.heap.size + 1 + 1) 1 g l f b (set5 we (w12.heap.size + 1 + 1) 1 g l f b) := bRe.set5_same 1 g l f b
  have hBf : Below w.heap.size w (set5 we (w12.heap.size + 1 + 1) 1 g l f b) := below_set5 hBe (by omega) _ _ _ _ _
  change Code.wp _ _ _ _ (set5 we (w12.heap.size + 1 + 1) 1 g l f b)
  generalize (set5 we (w12.heap.size + 1 + 1) 1 g l f b) = wf at bSf bHf bEf bRf hBf ⊢
  clear s0 sf0 s1 sf1 s2 sf2 s3 sf3 s4 sf4 r0 rf0 r1 rf1 r2 rf2 r3 rf3 r4 rf4
  obtain ⟨⟨s0, s1, s2, s3, s4⟩, ⟨sf0, sf1, sf2, sf3, sf4⟩, _⟩ := id bSf
  obtain ⟨⟨r0, r1, r2, r3, r4⟩, ⟨rf0, rf1, rf2, rf3, rf4⟩, _⟩ := id bRf
  go_upto_region 27 with fail
  have bSg : Box w.heap.size 1 g l f b (wf.setCell ⟨(w12.heap.size + 1 + 1), 0, none⟩ (.int .i64 2)) := bSf.set0_other nSR.symm 2
  have bHg : Box w12.heap.size 3 g l f b (wf.setCell ⟨(w12.heap.size + 1 + 1), 0, none⟩ (.int .i64 2)) := bHf.set0_other (by omega) 2
  have bEg : Box (w12.heap.size + 1) 7 g l f b (wf.setCell ⟨(w12.heap.size + 1 + 1), 0, none⟩ (.int .i64 2)) := bEf.set0_other (by omega) 2
  have bRg : Box (w12.heap.size + 1 + 1) 2 g l f b (wf.setCell ⟨(w12.heap.size + 1 + 1), 0, none⟩ (.int .i64 2)) := bRf.set0_same 2
  have hBg : Below w.heap.size w (wf.setCell ⟨(w12.heap.size + 1 + 1), 0, none⟩ (.int .i64 2)) := hBf.setCell (show w.heap.size ≤ (w12.heap.size + 1 + 1) by omega) _
  generalize (wf.setCell ⟨(w12.heap.size + 1 + 1), 0, none⟩ (.int .i64 2)) = wg at bSg bHg bEg bRg hBg ⊢
  clear s0 sf0 s1 sf1 s2 sf2 s3 sf3 s4 sf4 r0 rf0 r1 rf1 r2 rf2 r3 rf3 r4 rf4
  obtain ⟨⟨s0, s1, s2, s3, s4⟩, ⟨sf0, sf1, sf2, sf3, sf4⟩, _⟩ := id bSg
  go_wp2_with fail
  refine (exp_1 g l f b _).mono ?_
  rintro e wx ⟨rfl, hbx⟩
  have bSx := bSg.below hbx
  have bHx := bHg.below hbx
  have bEx := bEg.below hbx
  have bRx := bRg.below hbx
  have hBx : Below w.heap.size w wx := Below.step (by go_grown) hbx
  clear hbx
  clear s0 sf0 s1 sf1 s2 sf2 s3 sf3 s4 sf4
  obtain ⟨⟨s0, s1, s2, s3, s4⟩, ⟨sf0, sf1, sf2, sf3, sf4⟩, _⟩ := id bSx
  go_wp2_with fail
  refine (prom_1 g l f b _).mono ?_
  rintro e wy ⟨rfl, hby⟩
  have bSy := (bSx.below (by go_grown)).below hby
  have bHy := (bHx.below (by go_grown)).below hby
  have bEy := (bEx.below (by go_grown)).below hby
  have bRy := (bRx.below (by go_grown)).below hby
  have bCy := (Box.new wx 7 g l f b).below hby
  have hBy : Below w.heap.size w wy := Below.step (by go_grown) hby
  clear hby
  clear s0 sf0 s1 sf1 s2 sf2 s3 sf3 s4 sf4
  obtain ⟨⟨s0, s1, s2, s3, s4⟩, ⟨sf0, sf1, sf2, sf3, sf4⟩, _⟩ := id bSy
  go_upto_region 29 with fail
  have bSz := Box.below bSy (show Below wy.heap.size wy (wy.alloc (.cells #[.int .i64 2, .bool b, .int .i64 g, .int .i64 l, .int .i64 f] 52)) by go_grown)
  have bHz := Box.below bHy (show Below wy.heap.size wy (wy.alloc (.cells #[.int .i64 2, .bool b, .int .i64 g, .int .i64 l, .int .i64 f] 52)) by go_grown)
  have bEz := Box.below bEy (show Below wy.heap.size wy (wy.alloc (.cells #[.int .i64 2, .bool b, .int .i64 g, .int .i64 l, .int .i64 f] 52)) by go_grown)
  have bRz := Box.below bRy (show Below wy.heap.size wy (wy.alloc (.cells #[.int .i64 2, .bool b, .int .i64 g, .int .i64 l, .int .i64 f] 52)) by go_grown)
  have bCz := Box.below bCy (show Below wy.heap.size wy (wy.alloc (.cells #[.int .i64 2, .bool b, .int .i64 g, .int .i64 l, .int .i64 f] 52)) by go_grown)
  have bDz : Box wy.heap.size 2 g l f b (wy.alloc (.cells #[.int .i64 2, .bool b, .int .i64 g, .int .i64 l, .int .i64 f] 52)) := Box.new wy 2 g l f b
  have hBz : Below w.heap.size w (wy.alloc (.cells #[.int .i64 2, .bool b, .int .i64 g, .int .i64 l, .int .i64 f] 52)) := by go_grown
  generalize (wy.alloc (.cells #[.int .i64 2, .bool b, .int .i64 g, .int .i64 l, .int .i64 f] 52)) = wz at bSz bHz bEz bRz bCz bDz hBz ⊢
  clear s0 sf0 s1 sf1 s2 sf2 s3 sf3 s4 sf4
  refine region_sc (by kernel_rfl) (by kernel_rfl) ?_
  go_big_quiet_want
  go_big_quiet_op
  refine ⟨_, fun wq hq => Sc.call (fun w => awake06 w) hq, ?_⟩
  go_big_quiet_on
  iterate 1 (first | go_big_quiet_skip | (go_big_quiet_want; go_big_quiet_op; first | go_big_quiet_on | (refine ⟨_, fun _ _ => rfl, ?_⟩; go_big_quiet_on)))
  go_big_quiet_want
  refine ⟨.agg #[.int .i64 1, .bool b, .int .i64 g, .int .i64 l, .int .i64 f], fun wq hq => ?_, ?_⟩
  · obtain ⟨⟨q0, q1, q2, q3, q4⟩, _, _⟩ := Box.below bSz hq
    unfold Oper.quietAt
    simp [go_sem, q0, q1, q2, q3, q4, Oper.quietUpon]
  simp only [Act.put, List.setIfInBounds_toArray, List.set_cons_zero, List.set_cons_succ]
  go_big_quiet_on
  go_big_quiet_want
  go_big_quiet_op
  refine ⟨_, fun wq hq => Sc.call (fun w => hold_1 g l f b w) hq, ?_⟩
  go_big_quiet_on
  go_big_quiet_want
  refine ⟨.agg #[.int .i64 3, .bool b, .int .i64 g, .int .i64 l, .int .i64 f], fun wq hq => ?_, ?_⟩
  · obtain ⟨⟨q0, q1, q2, q3, q4⟩, _, _⟩ := Box.below bHz hq
    unfold Oper.quietAt
    simp [go_sem, q0, q1, q2, q3, q4, Oper.quietUpon]
  simp only [Act.put, List.setIfInBounds_toArray, List.set_cons_zero, List.set_cons_succ]
  go_big_quiet_on
  iterate 3 (first | go_big_quiet_skip | (go_big_quiet_want; go_big_quiet_op; first | go_big_quiet_on | (refine ⟨_, fun _ _ => rfl, ?_⟩; go_big_quiet_on)))
  go_big_quiet_want
  refine ⟨.agg #[.int .i64 7, .bool b, .int .i64 g, .int .i64 l, .int .i64 f], fun wq hq => ?_, ?_⟩
  · obtain ⟨⟨q0, q1, q2, q3, q4⟩, _, _⟩ := Box.below bCz hq
    unfold Oper.quietAt
    simp [go_sem, q0, q1, q2, q3, q4, Oper.quietUpon]
  simp only [Act.put, List.setIfInBounds_toArray, List.set_cons_zero, List.set_cons_succ]
  go_big_quiet_on
  go_big_quiet_want
  refine ⟨.agg #[.int .i64 7, .bool b, .int .i64 g, .int .i64 l, .int .i64 f], fun wq hq => ?_, ?_⟩
  · obtain ⟨⟨q0, q1, q2, q3, q4⟩, _, _⟩ := Box.below bEz hq
    unfold Oper.quietAt
    simp [go_sem, q0, q1, q2, q3, q4, Oper.quietUpon]
  simp only [Act.put, List.setIfInBounds_toArray, List.set_cons_zero, List.set_cons_succ]
  go_big_quiet_on
  iterate 4 (first | go_big_quiet_skip | (go_big_quiet_want; go_big_quiet_op; first | go_big_quiet_on | (refine ⟨_, fun _ _ => rfl, ?_⟩; go_big_quiet_on)))
  go_big_quiet_want
  go_big_quiet_op
  refine ⟨_, fun wq hq => Sc.call (fun w => num_nil w) hq, ?_⟩
  go_big_quiet_on
  iterate 4 (first | go_big_quiet_skip | (go_big_quiet_want; go_big_quiet_op; first | go_big_quiet_on | (refine ⟨_, fun _ _ => rfl, ?_⟩; go_big_quiet_on)))
  go_big_quiet_want
  refine ⟨.agg #[.int .i64 2, .bool b, .int .i64 g, .int .i64 l, .int .i64 f], fun wq hq => ?_, ?_⟩
  · obtain ⟨⟨q0, q1, q2, q3, q4⟩, _, _⟩ := Box.below bDz hq
    unfold Oper.quietAt
    simp [go_sem, q0, q1, q2, q3, q4, Oper.quietUpon]
  simp only [Act.put, List.setIfInBounds_toArray, List.set_cons_zero, List.set_cons_succ]
  go_big_quiet_on
  go_big_quiet_want
  refine ⟨.agg #[.int .i64 2, .bool b, .int .i64 g, .int .i64 l, .int .i64 f], fun wq hq => ?_, ?_⟩
  · obtain ⟨⟨q0, q1, q2, q3, q4⟩, _, _⟩ := Box.below bRz hq
    unfold Oper.quietAt
    simp [go_sem, q0, q1, q2, q3, q4, Oper.quietUpon]
  simp only [Act.put, List.setIfInBounds_toArray, List.set_cons_zero, List.set_cons_succ]
  go_big_quiet_on
  iterate 4 (first | go_big_quiet_skip | (go_big_quiet_want; go_big_quiet_op; first | go_big_quiet_on | (refine ⟨_, fun _ _ => rfl, ?_⟩; go_big_quiet_on)))
  go_big_quiet_want
  go_big_quiet_op
  refine ⟨_, fun wq hq => Sc.call (fun w => num_nil w) hq, ?_⟩
  go_big_quiet_on
  iterate 4 (first | go_big_quiet_skip | (go_big_quiet_want; go_big_quiet_op; first | go_big_quiet_on | (refine ⟨_, fun _ _ => rfl, ?_⟩; go_big_quiet_on)))
  refine wpQuiet_nil ?_
  intro wv hv
  have hBv : Below w.heap.size w wv := Below.step hBz hv
  go_wp2
  go_ret
  exact ⟨rfl, hBv⟩
set_option maxRecDepth 100000 in
set_option maxHeartbeats 4000000 in
theorem main_in_2 (g l f q m n K1 G1 L1 F1 c1 K2 G2 L2 F2 c2 K3 G3 L3 F3 c3 K4 G4 L4 F4 c4 : Int) (b B1 B2 B3 B4 : Bool) (x1 x2 x3 x4 : Value) (w : World)
   (g1 : g < 1099511627776) (g2 : -1099511627776 < g)
   (hT1 : ∀ w, Calls Try.prog 36 #[.agg #[.int .i64 2, .bool b, .int .i64 g, .int .i64 l, .int .i64 f], .int .i64 q, .int .i64 m] w (Gives w K1 G1 L1 F1 B1 x1))
   (hU1 : ∀ w, Calls Try.prog 37 #[.agg #[.int .i64 2, .bool b, .int .i64 g, .int .i64 l, .int .i64 f], .int .i64 q, .int .i64 m] w (Gives w K1 G1 L1 F1 B1 (.int .i64 c1)))
   (hN1 : ∀ w, Calls Try.prog 12 #[x1] w (IsNum w c1))
   (hT2 : ∀ w, Calls Try.prog 38 #[.agg #[.int .i64 2, .bool b, .int .i64 g, .int .i64 l, .int .i64 f], .int .i64 q, .int .i64 m] w (Gives w K2 G2 L2 F2 B2 x2))
   (hU2 : ∀ w, Calls Try.prog 39 #[.agg #[.int .i64 2, .bool b, .int .i64 g, .int .i64 l, .int .i64 f], .int .i64 q, .int .i64 m] w (Gives w K2 G2 L2 F2 B2 (.int .i64 c2)))
   (hN2 : ∀ w, Calls Try.prog 12 #[x2] w (IsNum w c2))
   (hT3 : ∀ w, Calls Try.prog 40 #[.agg #[.int .i64 2, .bool b, .int .i64 g, .int .i64 l, .int .i64 f]] w (Gives w K3 G3 L3 F3 B3 x3))
   (hU3 : ∀ w, Calls Try.prog 41 #[.agg #[.int .i64 2, .bool b, .int .i64 g, .int .i64 l, .int .i64 f]] w (Gives w K3 G3 L3 F3 B3 (.int .i64 c3)))
   (hN3 : ∀ w, Calls Try.prog 12 #[x3] w (IsNum w c3))
   (hT4 : ∀ w, Calls Try.prog 42 #[.agg #[.int .i64 2, .bool b, .int .i64 g, .int .i64 l, .int .i64 f], .int .i64 q, .int .i64 n] w (Gives w K4 G4 L4 F4 B4 x4))
   (hU4 : ∀ w, Calls Try.prog 43 #[.agg #[.int .i64 2, .bool b, .int .i64 g, .int .i64 l, .int .i64 f], .int .i64 q, .int .i64 n] w (Gives w K4 G4 L4 F4 B4 (.int .i64 c4)))
   (hN4 : ∀ w, Calls Try.prog 12 #[x4] w (IsNum w c4))
   : Calls Try.prog 6 #[.agg #[.int .i64 2, .bool b, .int .i64 g, .int .i64 l, .int .i64 f], .int .i64 q, .int .i64 m, .int .i64 n] w fun e w' => e = .returned (.bool true) ∧ Below w.heap.size w w' := by
  have HT1 := Lib.hid hT1
  have HU1 := Lib.hid hU1
  have HN1 := Lib.hid hN1
  clear hT1 hU1 hN1
  have HT2 := Lib.hid hT2
  have HU2 := Lib.hid hU2
  have HN2 := Lib.hid hN2
  clear hT2 hU2 hN2
  have HT3 := Lib.hid hT3
  have HU3 := Lib.hid hU3
  have HN3 := Lib.hid hN3
  clear hT3 hU3 hN3
  have HT4 := Lib.hid hT4
  have HU4 := Lib.hid hU4
  have HN4 := Lib.hid hN4
  clear hT4 hU4 hN4
  go_enter Try.func6, Try.ntmps6
  go_wp2_with fail
  refine (HT1.out _).mono ?_
  rintro e w1 ⟨rfl, hb1⟩
  have bS1 := Box.below (Box.new w 2 g l f b) hb1
  have hB1 : Below w.heap.size w w1 := Below.step (by go_grown) hb1
  have hz1 := hb1.size
  try simp only [World.size_alloc, World.size_setCell] at hz1
  clear hb1
  have hs1 : w.heap.size < w1.heap.size := bS1.2.2
  obtain ⟨⟨s0, s1, s2, s3, s4⟩, ⟨sf0, sf1, sf2, sf3, sf4⟩, _⟩ := id bS1
  go_wp2_with fail
  refine (HU1.out _).mono ?_
  rintro e w2 ⟨rfl, hb2⟩
  have bS2 := Box.below (bS1.below (by go_grown)) hb2
  have bA2 := Box.below (Box.new w1 K1 G1 L1 F1 B1) hb2
  have hB2 : Below w.heap.size w w2 := Below.step (by go_grown) hb2
  have hz2 := hb2.size
  try simp only [World.size_alloc, World.size_setCell] at hz2
  clear hb2
  have hs2 : w1.heap.size < w2.heap.size := bA2.2.2
  clear s0 sf0 s1 sf1 s2 sf2 s3 sf3 s4 sf4
  obtain ⟨⟨s0, s1, s2, s3, s4⟩, ⟨sf0, sf1, sf2, sf3, sf4⟩, _⟩ := id bS2
  obtain ⟨⟨a0, a1, a2, a3, a4⟩, ⟨af0, af1, af2, af3, af4⟩, _⟩ := id bA2
  go_wp2_with fail
  refine (HN1.out _).mono ?_
  rintro e w3 ⟨rfl, hb3⟩
  have bS3 := Box.below (bS2.below (by go_grown)) hb3
  have bA3 := Box.below (bA2.below (by go_grown)) hb3
  have bB3 := Box.below (Box.new w2 K1 G1 L1 F1 B1) hb3
  have hB3 : Below w.heap.size w w3 := Below.step (by go_grown) hb3
  have hz3 := hb3.size
  try simp only [World.size_alloc, World.size_setCell] at hz3
  clear hb3
  have hs3 : w2.heap.size < w3.heap.size := bB3.2.2
  clear s0 sf0 s1 sf1 s2 sf2 s3 sf3 s4 sf4 a0 af0 a1 af1 a2 af2 a3 af3 a4 af4
  obtain ⟨⟨s0, s1, s2, s3, s4⟩, ⟨sf0, sf1, sf2, sf3, sf4⟩, _⟩ := id bS3
  have hcc1 : (c1 != c1) = false := by simp
  have nSA : w.heap.size ≠ w1.heap.size := by omega
  have nSB : w.heap.size ≠ w2.heap.size := by omega
  have nAB : w1.heap.size ≠ w2.heap.size := by omega
  go_wp2_with fail
  refine (HT2.out _).mono ?_
  rintro e w4 ⟨rfl, hb4⟩
  have bS4 := Box.below (bS3) hb4
  have bA4 := Box.below (bA3) hb4
  have bB4 := Box.below (bB3) hb4
  have hB4 : Below w.heap.size w w4 := Below.step (by go_grown) hb4
  have hz4 := hb4.size
  try simp only [World.size_alloc, World.size_setCell] at hz4
  clear hb4
  clear s0 sf0 s1 sf1 s2 sf2 s3 sf3 s4 sf4
  obtain ⟨⟨s0, s1, s2, s3, s4⟩, ⟨sf0, sf1, sf2, sf3, sf4⟩, _⟩ := id bS4
  obtain ⟨⟨a0, a1, a2, a3, a4⟩, ⟨af0, af1, af2, af3, af4⟩, _⟩ := id bA4
  go_wp2_with fail
  refine (HU2.out _).mono ?_
  rintro e w5 ⟨rfl, hb5⟩
  have bS5 := Box.below (bS4.set5_other nSA.symm K2 G2 L2 F2 B2) hb5
  have bA5 := Box.below (bA4.set5_same K2 G2 L2 F2 B2) hb5
  have bB5 := Box.below (bB4.set5_other nAB K2 G2 L2 F2 B2) hb5
  have hB5 : Below w.heap.size w w5 := Below.step (by go_grown) hb5
  have hz5 := hb5.size
  try simp only [World.size_alloc, World.size_setCell] at hz5
  clear hb5
  clear s0 sf0 s1 sf1 s2 sf2 s3 sf3 s4 sf4 a0 af0 a1 af1 a2 af2 a3 af3 a4 af4
  obtain ⟨⟨s0, s1, s2, s3, s4⟩, ⟨sf0, sf1, sf2, sf3, sf4⟩, _⟩ := id bS5
  obtain ⟨⟨a0, a1, a2, a3, a4⟩, ⟨af0, af1, af2, af3, af4⟩, _⟩ := id bA5
  obtain ⟨⟨t0, t1, t2, t3, t4⟩, ⟨tf0, tf1, tf2, tf3, tf4⟩, _⟩ := id bB5
  go_wp2_with fail
  refine (HN2.out _).mono ?_
  rintro e w6 ⟨rfl, hb6⟩
  have bS6 := Box.below (bS5.set5_other nSB.symm K2 G2 L2 F2 B2) hb6
  have bA6 := Box.below (bA5.set5_other nAB.symm K2 G2 L2 F2 B2) hb6
  have bB6 := Box.below (bB5.set5_same K2 G2 L2 F2 B2) hb6
  have hB6 : Below w.heap.size w w6 := Below.step (by go_grown) hb6
  have hz6 := hb6.size
  try simp only [World.size_alloc, World.size_setCell] at hz6
  clear hb6
  clear s0 sf0 s1 sf1 s2 sf2 s3 sf3 s4 sf4 a0 af0 a1 af1 a2 af2 a3 af3 a4 af4 t0 tf0 t1 tf1 t2 tf2 t3 tf3 t4 tf4
  obtain ⟨⟨s0, s1, s2, s3, s4⟩, ⟨sf0, sf1, sf2, sf3, sf4⟩, _⟩ := id bS6
  have hcc2 : (c2 != c2) = false := by simp
  go_wp2_with fail
  refine (HT3.out _).mono ?_
  rintro e w7 ⟨rfl, hb7⟩
  have bS7 := Box.below (bS6) hb7
  have bA7 := Box.below (bA6) hb7
  have bB7 := Box.below (bB6) hb7
  have hB7 : Below w.heap.size w w7 := Below.step (by go_grown) hb7
  have hz7 := hb7.size
  try simp only [World.size_alloc, World.size_setCell] at hz7
  clear hb7
  clear s0 sf0 s1 sf1 s2 sf2 s3 sf3 s4 sf4
  obtain ⟨⟨s0, s1, s2, s3, s4⟩, ⟨sf0, sf1, sf2, sf3, sf4⟩, _⟩ := id bS7
  obtain ⟨⟨a0, a1, a2, a3, a4⟩, ⟨af0, af1, af2, af3, af4⟩, _⟩ := id bA7
  go_wp2_with fail
  refine (HU3.out _).mono ?_
  rintro e w8 ⟨rfl, hb8⟩
  have bS8 := Box.below (bS7.set5_other nSA.symm K3 G3 L3 F3 B3) hb8
  have bA8 := Box.below (bA7.set5_same K3 G3 L3 F3 B3) hb8
  have bB8 := Box.below (bB7.set5_other nAB K3 G3 L3 F3 B3) hb8
  have hB8 : Below w.heap.size w w8 := Below.step (by go_grown) hb8
  have hz8 := hb8.size
  try simp only [World.size_alloc, World.size_setCell] at hz8
  clear hb8
  clear s0 sf0 s1 sf1 s2 sf2 s3 sf3 s4 sf4 a0 af0 a1 af1 a2 af2 a3 af3 a4 af4
  obtain ⟨⟨s0, s1, s2, s3, s4⟩, ⟨sf0, sf1, sf2, sf3, sf4⟩, _⟩ := id bS8
  obtain ⟨⟨a0, a1, a2, a3, a4⟩, ⟨af0, af1, af2, af3, af4⟩, _⟩ := id bA8
  obtain ⟨⟨t0, t1, t2, t3, t4⟩, ⟨tf0, tf1, tf2, tf3, tf4⟩, _⟩ := id bB8
  go_wp2_with fail
  refine (HN3.out _).mono ?_
  rintro e w9 ⟨rfl, hb9⟩
  have bS9 := Box.below (bS8.set5_other nSB.symm K3 G3 L3 F3 B3) hb9
  have bA9 := Box.below (bA8.set5_other nAB.symm K3 G3 L3 F3 B3) hb9
  have bB9 := Box.below (bB8.set5_same K3 G3 L3 F3 B3) hb9
  have hB9 : Below w.heap.size w w9 := Below.step (by go_grown) hb9
  have hz9 := hb9.size
  try simp only [World.size_alloc, World.size_setCell] at hz9
  clear hb9
  clear s0 sf0 s1 sf1 s2 sf2 s3 sf3 s4 sf4 a0 af0 a1 af1 a2 af2 a3 af3 a4 af4 t0 tf0 t1 tf1 t2 tf2 t3 tf3 t4 tf4
  obtain ⟨⟨s0, s1, s2, s3, s4⟩, ⟨sf0, sf1, sf2, sf3, sf4⟩, _⟩ := id bS9
  have hcc3 : (c3 != c3) = false := by simp
  go_wp2_with fail
  refine (HT4.out _).mono ?_
  rintro e w10 ⟨rfl, hb10⟩
  have bS10 := Box.below (bS9) hb10
  have bA10 := Box.below (bA9) hb10
  have bB10 := Box.below (bB9) hb10
  have hB10 : Below w.heap.size w w10 := Below.step (by go_grown) hb10
  have hz10 := hb10.size
  try simp only [World.size_alloc, World.size_setCell] at hz10
  clear hb10
  clear s0 sf0 s1 sf1 s2 sf2 s3 sf3 s4 sf4
  obtain ⟨⟨s0, s1, s2, s3, s4⟩, ⟨sf0, sf1, sf2, sf3, sf4⟩, _⟩ := id bS10
  obtain ⟨⟨a0, a1, a2, a3, a4⟩, ⟨af0, af1, af2, af3, af4⟩, _⟩ := id bA10
  go_wp2_with fail
  refine (HU4.out _).mono ?_
  rintro e w11 ⟨rfl, hb11⟩
  have bS11 := Box.below (bS10.set5_other nSA.symm K4 G4 L4 F4 B4) hb11
  have bA11 := Box.below (bA10.set5_same K4 G4 L4 F4 B4) hb11
  have bB11 := Box.below (bB10.set5_other nAB K4 G4 L4 F4 B4) hb11
  have hB11 : Below w.heap.size w w11 := Below.step (by go_grown) hb11
  have hz11 := hb11.size
  try simp only [World.size_alloc, World.size_setCell] at hz11
  clear hb11
  clear s0 sf0 s1 sf1 s2 sf2 s3 sf3 s4 sf4 a0 af0 a1 af1 a2 af2 a3 af3 a4 af4
  obtain ⟨⟨s0, s1, s2, s3, s4⟩, ⟨sf0, sf1, sf2, sf3, sf4⟩, _⟩ := id bS11
  obtain ⟨⟨a0, a1, a2, a3, a4⟩, ⟨af0, af1, af2, af3, af4⟩, _⟩ := id bA11
  obtain ⟨⟨t0, t1, t2, t3, t4⟩, ⟨tf0, tf1, tf2, tf3, tf4⟩, _⟩ := id bB11
  go_wp2_with fail
  refine (HN4.out _).mono ?_
  rintro e w12 ⟨rfl, hb12⟩
  have bS12 := Box.below (bS11.set5_other nSB.symm K4 G4 L4 F4 B4) hb12
  have bA12 := Box.below (bA11.set5_other nAB.symm K4 G4 L4 F4 B4) hb12
  have bB12 := Box.below (bB11.set5_same K4 G4 L4 F4 B4) hb12
  have hB12 : Below w.heap.size w w12 := Below.step (by go_grown) hb12
  have hz12 := hb12.size
  try simp only [World.size_alloc, World.size_setCell] at hz12
  clear hb12
  clear s0 sf0 s1 sf1 s2 sf2 s3 sf3 s4 sf4 a0 af0 a1 af1 a2 af2 a3 af3 a4 af4 t0 tf0 t1 tf1 t2 tf2 t3 tf3 t4 tf4
  obtain ⟨⟨s0, s1, s2, s3, s4⟩, ⟨sf0, sf1, sf2, sf3, sf4⟩, _⟩ := id bS12
  have hcc4 : (c4 != c4) = false := by simp
  have hlS12 : w.heap.size < w12.heap.size := bS12.2.2
  go_upto_region 19 with fail
  have bSa : Box w.heap.size 2 g l f b (((w12.alloc (.cells #[.int .i64 2, .bool b, .int .i64 g, .int .i64 l, .int .i64 f] 52)).alloc (.cells #[.int .i64 0, .bool false, .int .i64 0, .int .i64 0, .int .i64 0] 52)).alloc (.cells #[.int .i64 0, .bool false, .int .i64 0, .int .i64 0, .int .i64 0] 52)) := Box.below bS12 (by go_grown)
  have bHa : Box w12.heap.size 2 g l f b (((w12.alloc (.cells #[.int .i64 2, .bool b, .int .i64 g, .int .i64 l, .int .i64 f] 52)).alloc (.cells #[.int .i64 0, .bool false, .int .i64 0, .int .i64 0, .int .i64 0] 52)).alloc (.cells #[.int .i64 0, .bool false, .int .i64 0, .int .i64 0, .int .i64 0] 52)) := Box.below (Box.new w12 2 g l f b) (by go_grown)
  have bEa : Box (w12.heap.size + 1) 0 0 0 0 false (((w12.alloc (.cells #[.int .i64 2, .bool b, .int .i64 g, .int .i64 l, .int .i64 f] 52)).alloc (.cells #[.int .i64 0, .bool false, .int .i64 0, .int .i64 0, .int .i64 0] 52)).alloc (.cells #[.int .i64 0, .bool false, .int .i64 0, .int .i64 0, .int .i64 0] 52)) := Box.below (by have := Box.new (w12.alloc (.cells #[.int .i64 2, .bool b, .int .i64 g, .int .i64 l, .int .i64 f] 52)) 0 0 0 0 false; rw [World.size_alloc] at this; exact this) (by go_grown)
  have bRa : Box (w12.heap.size + 1 + 1) 0 0 0 0 false (((w12.alloc (.cells #[.int .i64 2, .bool b, .int .i64 g, .int .i64 l, .int .i64 f] 52)).alloc (.cells #[.int .i64 0, .bool false, .int .i64 0, .int .i64 0, .int .i64 0] 52)).alloc (.cells #[.int .i64 0, .bool false, .int .i64 0, .int .i64 0, .int .i64 0] 52)) := by have := Box.new ((w12.alloc (.cells #[.int .i64 2, .bool b, .int .i64 g, .int .i64 l, .int .i64 f] 52)).alloc (.cells #[.int .i64 0, .bool false, .int .i64 0, .int .i64 0, .int .i64 0] 52)) 0 0 0 0 false; rw [World.size_alloc, World.size_alloc] at this; exact this
  have hBa : Below w.heap.size w (((w12.alloc (.cells #[.int .i64 2, .bool b, .int .i64 g, .int .i64 l, .int .i64 f] 52)).alloc (.cells #[.int .i64 0, .bool false, .int .i64 0, .int .i64 0, .int .i64 0] 52)).alloc (.cells #[.int .i64 0, .bool false, .int .i64 0, .int .i64 0, .int .i64 0] 52)) := by go_grown
  generalize (((w12.alloc (.cells #[.int .i64 2, .bool b, .int .i64 g, .int .i64 l, .int .i64 f] 52)).alloc (.cells #[.int .i64 0, .bool false, .int .i64 0, .int .i64 0, .int .i64 0] 52)).alloc (.cells #[.int .i64 0, .bool false, .int .i64 0, .int .i64 0, .int .i64 0] 52)) = wa at bSa bHa bEa bRa hBa ⊢
  have nSH : w.heap.size ≠ w12.heap.size := by omega
  have nSE : w.heap.size ≠ w12.heap.size + 1 := by omega
  have nSR : w.heap.size ≠ w12.heap.size + 1 + 1 := by omega
  clear s0 sf0 s1 sf1 s2 sf2 s3 sf3 s4 sf4
  obtain ⟨⟨s0, s1, s2, s3, s4⟩, ⟨sf0, sf1, sf2, sf3, sf4⟩, _⟩ := id bSa
  go_wp2_with fail
  refine (loose_yes_2 _).mono ?_
  rintro e wb ⟨rfl, hbb⟩
  have bSb := bSa.below hbb
  have bHb := bHa.below hbb
  have bEb := bEa.below hbb
  have bRb := bRa.below hbb
  have hBb : Below w.heap.size w wb := Below.step (by go_grown) hbb
  clear hbb
  clear s0 sf0 s1 sf1 s2 sf2 s3 sf3 s4 sf4
  obtain ⟨⟨s0, s1, s2, s3, s4⟩, ⟨sf0, sf1, sf2, sf3, sf4⟩, _⟩ := id bSb
  obtain ⟨⟨h0, h1, h2, h3, h4⟩, ⟨hf0, hf1, hf2, hf3, hf4⟩, _⟩ := id bHb
  go_upto_region 22 with fail
  have bSc : Box w.heap.size 2 g l f b (wb.setCell ⟨w12.heap.size, 0, none⟩ (.int .i64 4)) := bSb.set0_other nSH.symm 4
  have bHc : Box w12.heap.size 4 g l f b (wb.setCell ⟨w12.heap.size, 0, none⟩ (.int .i64 4)) := bHb.set0_same 4
  have bEc : Box (w12.heap.size + 1) 0 0 0 0 false (wb.setCell ⟨w12.heap.size, 0, none⟩ (.int .i64 4)) := bEb.set0_other (by omega) 4
  have bRc : Box (w12.heap.size + 1 + 1) 0 0 0 0 false (wb.setCell ⟨w12.heap.size, 0, none⟩ (.int .i64 4)) := bRb.set0_other (by omega) 4
  have hBc : Below w.heap.size w (wb.setCell ⟨w12.heap.size, 0, none⟩ (.int .i64 4)) := hBb.setCell (show w.heap.size ≤ w12.heap.size by omega) _
  generalize (wb.setCell ⟨w12.heap.size, 0, none⟩ (.int .i64 4)) = wc at bSc bHc bEc bRc hBc ⊢
  clear s0 sf0 s1 sf1 s2 sf2 s3 sf3 s4 sf4 h0 hf0 h1 hf1 h2 hf2 h3 hf3 h4 hf4
  obtain ⟨⟨s0, s1, s2, s3, s4⟩, ⟨sf0, sf1, sf2, sf3, sf4⟩, _⟩ := id bSc
  obtain ⟨⟨e0, e1, e2, e3, e4⟩, ⟨ef0, ef1, ef2, ef3, ef4⟩, _⟩ := id bEc
  go_upto_region 23 with fail
  have bSd : Box w.heap.size 2 g l f b (set5 wc (w12.heap.size + 1) 2 g l f b) := bSc.set5_other nSE.symm 2 g l f b
  have bHd : Box w12.heap.size 4 g l f b (set5 wc (w12.heap.size + 1) 2 g l f b) := bHc.set5_other (by omega) 2 g l f b
  have bEd : Box (w12.heap.size + 1) 2 g l f b (set5 wc (w12.heap.size + 1) 2 g l f b) := bEc.set5_same 2 g l f b
  have bRd : Box (w12.heap.size + 1 + 1) 0 0 0 0 false (set5 wc (w12.heap.size + 1) 2 g l f b) := bRc.set5_other (by omega) 2 g l f b
  have hBd : Below w.heap.size w (set5 wc (w12.heap.size + 1) 2 g l f b) := below_set5 hBc (by omega) _ _ _ _ _
  change Code.wp _ _ _ _ (set5 wc (w12.heap.size + 1) 2 g l f b)
  generalize (set5 wc (w12.heap.size + 1) 2 g l f b) = wd at bSd bHd bEd bRd hBd ⊢
  clear s0 sf0 s1 sf1 s2 sf2 s3 sf3 s4 sf4 e0 ef0 e1 ef1 e2 ef2 e3 ef3 e4 ef4
  obtain ⟨⟨s0, s1, s2, s3, s4⟩, ⟨sf0, sf1, sf2, sf3, sf4⟩, _⟩ := id bSd
  obtain ⟨⟨e0, e1, e2, e3, e4⟩, ⟨ef0, ef1, ef2, ef3, ef4⟩, _⟩ := id bEd
  go_upto_region 24 with fail
  have bSe : Box w.heap.size 2 g l f b (wd.setCell ⟨(w12.heap.size + 1), 0, none⟩ (.int .i64 7)) := bSd.set0_other nSE.symm 7
  have bHe : Box w12.heap.size 4 g l f b (wd.setCell ⟨(w12.heap.size + 1), 0, none⟩ (.int .i64 7)) := bHd.set0_other (by omega) 7
  have bEe : Box (w12.heap.size + 1) 7 g l f b (wd.setCell ⟨(w12.heap.size + 1), 0, none⟩ (.int .i64 7)) := bEd.set0_same 7
  have bRe : Box (w12.heap.size + 1 + 1) 0 0 0 0 false (wd.setCell ⟨(w12.heap.size + 1), 0, none⟩ (.int .i64 7)) := bRd.set0_other (by omega) 7
  have hBe : Below w.heap.size w (wd.setCell ⟨(w12.heap.size + 1), 0, none⟩ (.int .i64 7)) := hBd.setCell (show w.heap.size ≤ (w12.heap.size + 1) by omega) _
  generalize (wd.setCell ⟨(w12.heap.size + 1), 0, none⟩ (.int .i64 7)) = we at bSe bHe bEe bRe hBe ⊢
  clear s0 sf0 s1 sf1 s2 sf2 s3 sf3 s4 sf4 e0 ef0 e1 ef1 e2 ef2 e3 ef3 e4 ef4
  obtain ⟨⟨s0, s1, s2, s3, s4⟩, ⟨sf0, sf1, sf2, sf3, sf4⟩, _⟩ := id bSe
  go_wp2_with fail
  refine (exp_2 g l f b _).mono ?_
  rintro e wx ⟨rfl, hbx⟩
  have bSx := bSe.below hbx
  have bHx := bHe.below hbx
  have bEx := bEe.below hbx
  have bRx := bRe.below hbx
  have hBx : Below w.heap.size w wx := Below.step (by go_grown) hbx
  clear hbx
  clear s0 sf0 s1 sf1 s2 sf2 s3 sf3 s4 sf4
  obtain ⟨⟨s0, s1, s2, s3, s4⟩, ⟨sf0, sf1, sf2, sf3, sf4⟩, _⟩ := id bSx
  go_wp2_with fail
  refine (prom_gone 2 g l f b _ (by decide)).mono ?_
  rintro e wy ⟨rfl, hby⟩
  have bSy := (bSx.below (by go_grown)).below hby
  have bHy := (bHx.below (by go_grown)).below hby
  have bEy := (bEx.below (by go_grown)).below hby
  have bRy := (bRx.below (by go_grown)).below hby
  have bCy := (Box.new wx 7 g l f b).below hby
  have hBy : Below w.heap.size w wy := Below.step (by go_grown) hby
  clear hby
  clear s0 sf0 s1 sf1 s2 sf2 s3 sf3 s4 sf4
  obtain ⟨⟨s0, s1, s2, s3, s4⟩, ⟨sf0, sf1, sf2, sf3, sf4⟩, _⟩ := id bSy
  go_upto_region 29 with fail
  have bSz := Box.below bSy (show Below wy.heap.size wy (wy.alloc (.cells #[.int .i64 0, .bool false, .int .i64 0, .int .i64 0, .int .i64 0] 52)) by go_grown)
  have bHz := Box.below bHy (show Below wy.heap.size wy (wy.alloc (.cells #[.int .i64 0, .bool false, .int .i64 0, .int .i64 0, .int .i64 0] 52)) by go_grown)
  have bEz := Box.below bEy (show Below wy.heap.size wy (wy.alloc (.cells #[.int .i64 0, .bool false, .int .i64 0, .int .i64 0, .int .i64 0] 52)) by go_grown)
  have bRz := Box.below bRy (show Below wy.heap.size wy (wy.alloc (.cells #[.int .i64 0, .bool false, .int .i64 0, .int .i64 0, .int .i64 0] 52)) by go_grown)
  have bCz := Box.below bCy (show Below wy.heap.size wy (wy.alloc (.cells #[.int .i64 0, .bool false, .int .i64 0, .int .i64 0, .int .i64 0] 52)) by go_grown)
  have bDz : Box wy.heap.size 0 0 0 0 false (wy.alloc (.cells #[.int .i64 0, .bool false, .int .i64 0, .int .i64 0, .int .i64 0] 52)) := Box.new wy 0 0 0 0 false
  have hBz : Below w.heap.size w (wy.alloc (.cells #[.int .i64 0, .bool false, .int .i64 0, .int .i64 0, .int .i64 0] 52)) := by go_grown
  generalize (wy.alloc (.cells #[.int .i64 0, .bool false, .int .i64 0, .int .i64 0, .int .i64 0] 52)) = wz at bSz bHz bEz bRz bCz bDz hBz ⊢
  clear s0 sf0 s1 sf1 s2 sf2 s3 sf3 s4 sf4
  refine region_sc (by kernel_rfl) (by kernel_rfl) ?_
  go_big_quiet_want
  go_big_quiet_op
  refine ⟨_, fun wq hq => Sc.call (fun w => awake06 w) hq, ?_⟩
  go_big_quiet_on
  iterate 1 (first | go_big_quiet_skip | (go_big_quiet_want; go_big_quiet_op; first | go_big_quiet_on | (refine ⟨_, fun _ _ => rfl, ?_⟩; go_big_quiet_on)))
  go_big_quiet_want
  refine ⟨.agg #[.int .i64 2, .bool b, .int .i64 g, .int .i64 l, .int .i64 f], fun wq hq => ?_, ?_⟩
  · obtain ⟨⟨q0, q1, q2, q3, q4⟩, _, _⟩ := Box.below bSz hq
    unfold Oper.quietAt
    simp [go_sem, q0, q1, q2, q3, q4, Oper.quietUpon]
  simp only [Act.put, List.setIfInBounds_toArray, List.set_cons_zero, List.set_cons_succ]
  go_big_quiet_on
  go_big_quiet_want
  go_big_quiet_op
  refine ⟨_, fun wq hq => Sc.call (fun w => hold_2 g l f b w) hq, ?_⟩
  go_big_quiet_on
  go_big_quiet_want
  refine ⟨.agg #[.int .i64 4, .bool b, .int .i64 g, .int .i64 l, .int .i64 f], fun wq hq => ?_, ?_⟩
  · obtain ⟨⟨q0, q1, q2, q3, q4⟩, _, _⟩ := Box.below bHz hq
    unfold Oper.quietAt
    simp [go_sem, q0, q1, q2, q3, q4, Oper.quietUpon]
  simp only [Act.put, List.setIfInBounds_toArray, List.set_cons_zero, List.set_cons_succ]
  go_big_quiet_on
  iterate 3 (first | go_big_quiet_skip | (go_big_quiet_want; go_big_quiet_op; first | go_big_quiet_on | (refine ⟨_, fun _ _ => rfl, ?_⟩; go_big_quiet_on)))
  go_big_quiet_want
  refine ⟨.agg #[.int .i64 7, .bool b, .int .i64 g, .int .i64 l, .int .i64 f], fun wq hq => ?_, ?_⟩
  · obtain ⟨⟨q0, q1, q2, q3, q4⟩, _, _⟩ := Box.below bCz hq
    unfold Oper.quietAt
    simp [go_sem, q0, q1, q2, q3, q4, Oper.quietUpon]
  simp only [Act.put, List.setIfInBounds_toArray, List.set_cons_zero, List.set_cons_succ]
  go_big_quiet_on
  go_big_quiet_want
  refine ⟨.agg #[.int .i64 7, .bool b, .int .i64 g, .int .i64 l, .int .i64 f], fun wq hq => ?_, ?_⟩
  · obtain ⟨⟨q0, q1, q2, q3, q4⟩, _, _⟩ := Box.below bEz hq
    unfold Oper.quietAt
    simp [go_sem, q0, q1, q2, q3, q4, Oper.quietUpon]
  simp only [Act.put, List.setIfInBounds_toArray, List.set_cons_zero, List.set_cons_succ]
  go_big_quiet_on
  iterate 4 (first | go_big_quiet_skip | (go_big_quiet_want; go_big_quiet_op; first | go_big_quiet_on | (refine ⟨_, fun _ _ => rfl, ?_⟩; go_big_quiet_on)))
  go_big_quiet_want
  go_big_quiet_op
  refine ⟨_, fun wq hq => Sc.call (fun w => num_nil w) hq, ?_⟩
  go_big_quiet_on
  iterate 4 (first | go_big_quiet_skip | (go_big_quiet_want; go_big_quiet_op; first | go_big_quiet_on | (refine ⟨_, fun _ _ => rfl, ?_⟩; go_big_quiet_on)))
  go_big_quiet_want
  refine ⟨.agg #[.int .i64 0, .bool false, .int .i64 0, .int .i64 0, .int .i64 0], fun wq hq => ?_, ?_⟩
  · obtain ⟨⟨q0, q1, q2, q3, q4⟩, _, _⟩ := Box.below bDz hq
    unfold Oper.quietAt
    simp [go_sem, q0, q1, q2, q3, q4, Oper.quietUpon]
  simp only [Act.put, List.setIfInBounds_toArray, List.set_cons_zero, List.set_cons_succ]
  go_big_quiet_on
  go_big_quiet_want
  refine ⟨.agg #[.int .i64 0, .bool false, .int .i64 0, .int .i64 0, .int .i64 0], fun wq hq => ?_, ?_⟩
  · obtain ⟨⟨q0, q1, q2, q3, q4⟩, _, _⟩ := Box.below bRz hq
    unfold Oper.quietAt
    simp [go_sem, q0, q1, q2, q3, q4, Oper.quietUpon]
  simp only [Act.put, List.setIfInBounds_toArray, List.set_cons_zero, List.set_cons_succ]
  go_big_quiet_on
  iterate 4 (first | go_big_quiet_skip | (go_big_quiet_want; go_big_quiet_op; first | go_big_quiet_on | (refine ⟨_, fun _ _ => rfl, ?_⟩; go_big_quiet_on)))
  go_big_quiet_want
  go_big_quiet_op
  refine ⟨_, fun wq hq => Sc.call (fun w => num_code 29 (by decide) (by decide) w) hq, ?_⟩
  go_big_quiet_on
  iterate 4 (first | go_big_quiet_skip | (go_big_quiet_want; go_big_quiet_op; first | go_big_quiet_on | (refine ⟨_, fun _ _ => rfl, ?_⟩; go_big_quiet_on)))
  refine wpQuiet_nil ?_
  intro wv hv
  have hBv : Below w.heap.size w wv := Below.step hBz hv
  go_wp2
  go_ret
  exact ⟨rfl, hBv⟩
set_option maxRecDepth 100000 in
set_option maxHeartbeats 4000000 in
theorem main_in_o (k g l f q m n K1 G1 L1 F1 c1 K2 G2 L2 F2 c2 K3 G3 L3 F3 c3 K4 G4 L4 F4 c4 : Int) (b B1 B2 B3 B4 : Bool) (x1 x2 x3 x4 : Value) (w : World)
   (n1 : k ≠ 1) (n2 : k ≠ 2)
   (g1 : g < 1099511627776) (g2 : -1099511627776 < g)
   (hT1 : ∀ w, Calls Try.prog 36 #[.agg #[.int .i64 k, .bool b, .int .i64 g, .int .i64 l, .int .i64 f], .int .i64 q, .int .i64 m] w (Gives w K1 G1 L1 F1 B1 x1))
   (hU1 : ∀ w, Calls Try.prog 37 #[.agg #[.int .i64 k, .bool b, .int .i64 g, .int .i64 l, .int .i64 f], .int .i64 q, .int .i64 m] w (Gives w K1 G1 L1 F1 B1 (.int .i64 c1)))
   (hN1 : ∀ w, Calls Try.prog 12 #[x1] w (IsNum w c1))
   (hT2 : ∀ w, Calls Try.prog 38 #[.agg #[.int .i64 k, .bool b, .int .i64 g, .int .i64 l, .int .i64 f], .int .i64 q, .int .i64 m] w (Gives w K2 G2 L2 F2 B2 x2))
   (hU2 : ∀ w, Calls Try.prog 39 #[.agg #[.int .i64 k, .bool b, .int .i64 g, .int .i64 l, .int .i64 f], .int .i64 q, .int .i64 m] w (Gives w K2 G2 L2 F2 B2 (.int .i64 c2)))
   (hN2 : ∀ w, Calls Try.prog 12 #[x2] w (IsNum w c2))
   (hT3 : ∀ w, Calls Try.prog 40 #[.agg #[.int .i64 k, .bool b, .int .i64 g, .int .i64 l, .int .i64 f]] w (Gives w K3 G3 L3 F3 B3 x3))
   (hU3 : ∀ w, Calls Try.prog 41 #[.agg #[.int .i64 k, .bool b, .int .i64 g, .int .i64 l, .int .i64 f]] w (Gives w K3 G3 L3 F3 B3 (.int .i64 c3)))
   (hN3 : ∀ w, Calls Try.prog 12 #[x3] w (IsNum w c3))
   (hT4 : ∀ w, Calls Try.prog 42 #[.agg #[.int .i64 k, .bool b, .int .i64 g, .int .i64 l, .int .i64 f], .int .i64 q, .int .i64 n] w (Gives w K4 G4 L4 F4 B4 x4))
   (hU4 : ∀ w, Calls Try.prog 43 #[.agg #[.int .i64 k, .bool b, .int .i64 g, .int .i64 l, .int .i64 f], .int .i64 q, .int .i64 n] w (Gives w K4 G4 L4 F4 B4 (.int .i64 c4)))
   (hN4 : ∀ w, Calls Try.prog 12 #[x4] w (IsNum w c4))
   : Calls Try.prog 6 #[.agg #[.int .i64 k, .bool b, .int .i64 g, .int .i64 l, .int .i64 f], .int .i64 q, .int .i64 m, .int .i64 n] w fun e w' => e = .returned (.bool true) ∧ Below w.heap.size w w' := by
  have HT1 := Lib.hid hT1
  have HU1 := Lib.hid hU1
  have HN1 := Lib.hid hN1
  clear hT1 hU1 hN1
  have HT2 := Lib.hid hT2
  have HU2 := Lib.hid hU2
  have HN2 := Lib.hid hN2
  clear hT2 hU2 hN2
  have HT3 := Lib.hid hT3
  have HU3 := Lib.hid hU3
  have HN3 := Lib.hid hN3
  clear hT3 hU3 hN3
  have HT4 := Lib.hid hT4
  have HU4 := Lib.hid hU4
  have HN4 := Lib.hid hN4
  clear hT4 hU4 hN4
  have e1 : (k == 1) = false := by rw [beq_eq_false_iff_ne]; exact n1
  go_enter Try.func6, Try.ntmps6
  go_wp2_with fail
  refine (HT1.out _).mono ?_
  rintro e w1 ⟨rfl, hb1⟩
  have bS1 := Box.below (Box.new w k g l f b) hb1
  have hB1 : Below w.heap.size w w1 := Below.step (by go_grown) hb1
  have hz1 := hb1.size
  try simp only [World.size_alloc, World.size_setCell] at hz1
  clear hb1
  have hs1 : w.heap.size < w1.heap.size := bS1.2.2
  obtain ⟨⟨s0, s1, s2, s3, s4⟩, ⟨sf0, sf1, sf2, sf3, sf4⟩, _⟩ := id bS1
  go_wp2_with fail
  refine (HU1.out _).mono ?_
  rintro e w2 ⟨rfl, hb2⟩
  have bS2 := Box.below (bS1.below (by go_grown)) hb2
  have bA2 := Box.below (Box.new w1 K1 G1 L1 F1 B1) hb2
  have hB2 : Below w.heap.size w w2 := Below.step (by go_grown) hb2
  have hz2 := hb2.size
  try simp only [World.size_alloc, World.size_setCell] at hz2
  clear hb2
  have hs2 : w1.heap.size < w2.heap.size := bA2.2.2
  clear s0 sf0 s1 sf1 s2 sf2 s3 sf3 s4 sf4
  obtain ⟨⟨s0, s1, s2, s3, s4⟩, ⟨sf0, sf1, sf2, sf3, sf4⟩, _⟩ := id bS2
  obtain ⟨⟨a0, a1, a2, a3, a4⟩, ⟨af0, af1, af2, af3, af4⟩, _⟩ := id bA2
  go_wp2_with fail
  refine (HN1.out _).mono ?_
  rintro e w3 ⟨rfl, hb3⟩
  have bS3 := Box.below (bS2.below (by go_grown)) hb3
  have bA3 := Box.below (bA2.below (by go_grown)) hb3
  have bB3 := Box.below (Box.new w2 K1 G1 L1 F1 B1) hb3
  have hB3 : Below w.heap.size w w3 := Below.step (by go_grown) hb3
  have hz3 := hb3.size
  try simp only [World.size_alloc, World.size_setCell] at hz3
  clear hb3
  have hs3 : w2.heap.size < w3.heap.size := bB3.2.2
  clear s0 sf0 s1 sf1 s2 sf2 s3 sf3 s4 sf4 a0 af0 a1 af1 a2 af2 a3 af3 a4 af4
  obtain ⟨⟨s0, s1, s2, s3, s4⟩, ⟨sf0, sf1, sf2, sf3, sf4⟩, _⟩ := id bS3
  have hcc1 : (c1 != c1) = false := by simp
  have nSA : w.heap.size ≠ w1.heap.size := by omega
  have nSB : w.heap.size ≠ w2.heap.size := by omega
  have nAB : w1.heap.size ≠ w2.heap.size := by omega
  go_wp2_with fail
  refine (HT2.out _).mono ?_
  rintro e w4 ⟨rfl, hb4⟩
  have bS4 := Box.below (bS3) hb4
  have bA4 := Box.below (bA3) hb4
  have bB4 := Box.below (bB3) hb4
  have hB4 : Below w.heap.size w w4 := Below.step (by go_grown) hb4
  have hz4 := hb4.size
  try simp only [World.size_alloc, World.size_setCell] at hz4
  clear hb4
  clear s0 sf0 s1 sf1 s2 sf2 s3 sf3 s4 sf4
  obtain ⟨⟨s0, s1, s2, s3, s4⟩, ⟨sf0, sf1, sf2, sf3, sf4⟩, _⟩ := id bS4
  obtain ⟨⟨a0, a1, a2, a3, a4⟩, ⟨af0, af1, af2, af3, af4⟩, _⟩ := id bA4
  go_wp2_with fail
  refine (HU2.out _).mono ?_
  rintro e w5 ⟨rfl, hb5⟩
  have bS5 := Box.below (bS4.set5_other nSA.symm K2 G2 L2 F2 B2) hb5
  have bA5 := Box.below (bA4.set5_same K2 G2 L2 F2 B2) hb5
  have bB5 := Box.below (bB4.set5_other nAB K2 G2 L2 F2 B2) hb5
  have hB5 : Below w.heap.size w w5 := Below.step (by go_grown) hb5
  have hz5 := hb5.size
  try simp only [World.size_alloc, World.size_setCell] at hz5
  clear hb5
  clear s0 sf0 s1 sf1 s2 sf2 s3 sf3 s4 sf4 a0 af0 a1 af1 a2 af2 a3 af3 a4 af4
  obtain ⟨⟨s0, s1, s2, s3, s4⟩, ⟨sf0, sf1, sf2, sf3, sf4⟩, _⟩ := id bS5
  obtain ⟨⟨a0, a1, a2, a3, a4⟩, ⟨af0, af1, af2, af3, af4⟩, _⟩ := id bA5
  obtain ⟨⟨t0, t1, t2, t3, t4⟩, ⟨tf0, tf1, tf2, tf3, tf4⟩, _⟩ := id bB5
  go_wp2_with fail
  refine (HN2.out _).mono ?_
  rintro e w6 ⟨rfl, hb6⟩
  have bS6 := Box.below (bS5.set5_other nSB.symm K2 G2 L2 F2 B2) hb6
  have bA6 := Box.below (bA5.set5_other nAB.symm K2 G2 L2 F2 B2) hb6
  have bB6 := Box.below (bB5.set5_same K2 G2 L2 F2 B2) hb6
  have hB6 : Below w.heap.size w w6 := Below.step (by go_grown) hb6
  have hz6 := hb6.size
  try simp only [World.size_alloc, World.size_setCell] at hz6
  clear hb6
  clear s0 sf0 s1 sf1 s2 sf2 s3 sf3 s4 sf4 a0 af0 a1 af1 a2 af2 a3 af3 a4 af4 t0 tf0 t1 tf1 t2 tf2 t3 tf3 t4 tf4
  obtain ⟨⟨s0, s1, s2, s3, s4⟩, ⟨sf0, sf1, sf2, sf3, sf4⟩, _⟩ := id bS6
  have hcc2 : (c2 != c2) = false := by simp
  go_wp2_with fail
  refine (HT3.out _).mono ?_
  rintro e w7 ⟨rfl, hb7⟩
  have bS7 := Box.below (bS6) hb7
  have bA7 := Box.below (bA6) hb7
  have bB7 := Box.below (bB6) hb7
  have hB7 : Below w.heap.size w w7 := Below.step (by go_grown) hb7
  have hz7 := hb7.size
  try simp only [World.size_alloc, World.size_setCell] at hz7
  clear hb7
  clear s0 sf0 s1 sf1 s2 sf2 s3 sf3 s4 sf4
  obtain ⟨⟨s0, s1, s2, s3, s4⟩, ⟨sf0, sf1, sf2, sf3, sf4⟩, _⟩ := id bS7
  obtain ⟨⟨a0, a1, a2, a3, a4⟩, ⟨af0, af1, af2, af3, af4⟩, _⟩ := id bA7
  go_wp2_with fail
  refine (HU3.out _).mono ?_
  rintro e w8 ⟨rfl, hb8⟩
  have bS8 := Box.below (bS7.set5_other nSA.symm K3 G3 L3 F3 B3) hb8
  have bA8 := Box.below (bA7.set5_same K3 G3 L3 F3 B3) hb8
  have bB8 := Box.below (bB7.set5_other nAB K3 G3 L3 F3 B3) hb8
  have hB8 : Below w.heap.size w w8 := Below.step (by go_grown) hb8
  have hz8 := hb8.size
  try simp only [World.size_alloc, World.size_setCell] at hz8
  clear hb8
  clear s0 sf0 s1 sf1 s2 sf2 s3 sf3 s4 sf4 a0 af0 a1 af1 a2 af2 a3 af3 a4 af4
  obtain ⟨⟨s0, s1, s2, s3, s4⟩, ⟨sf0, sf1, sf2, sf3, sf4⟩, _⟩ := id bS8
  obtain ⟨⟨a0, a1, a2, a3, a4⟩, ⟨af0, af1, af2, af3, af4⟩, _⟩ := id bA8
  obtain ⟨⟨t0, t1, t2, t3, t4⟩, ⟨tf0, tf1, tf2, tf3, tf4⟩, _⟩ := id bB8
  go_wp2_with fail
  refine (HN3.out _).mono ?_
  rintro e w9 ⟨rfl, hb9⟩
  have bS9 := Box.below (bS8.set5_other nSB.symm K3 G3 L3 F3 B3) hb9
  have bA9 := Box.below (bA8.set5_other nAB.symm K3 G3 L3 F3 B3) hb9
  have bB9 := Box.below (bB8.set5_same K3 G3 L3 F3 B3) hb9
  have hB9 : Below w.heap.size w w9 := Below.step (by go_grown) hb9
  have hz9 := hb9.size
  try simp only [World.size_alloc, World.size_setCell] at hz9
  clear hb9
  clear s0 sf0 s1 sf1 s2 sf2 s3 sf3 s4 sf4 a0 af0 a1 af1 a2 af2 a3 af3 a4 af4 t0 tf0 t1 tf1 t2 tf2 t3 tf3 t4 tf4
  obtain ⟨⟨s0, s1, s2, s3, s4⟩, ⟨sf0, sf1, sf2, sf3, sf4⟩, _⟩ := id bS9
  have hcc3 : (c3 != c3) = false := by simp
  go_wp2_with fail
  refine (HT4.out _).mono ?_
  rintro e w10 ⟨rfl, hb10⟩
  have bS10 := Box.below (bS9) hb10
  have bA10 := Box.below (bA9) hb10
  have bB10 := Box.below (bB9) hb10
  have hB10 : Below w.heap.size w w10 := Below.step (by go_grown) hb10
  have hz10 := hb10.size
  try simp only [World.size_alloc, World.size_setCell] at hz10
  clear hb10
  clear s0 sf0 s1 sf1 s2 sf2 s3 sf3 s4 sf4
  obtain ⟨⟨s0, s1, s2, s3, s4⟩, ⟨sf0, sf1, sf2, sf3, sf4⟩, _⟩ := id bS10
  obtain ⟨⟨a0, a1, a2, a3, a4⟩, ⟨af0, af1, af2, af3, af4⟩, _⟩ := id bA10
  go_wp2_with fail
  refine (HU4.out _).mono ?_
  rintro e w11 ⟨rfl, hb11⟩
  have bS11 := Box.below (bS10.set5_other nSA.symm K4 G4 L4 F4 B4) hb11
  have bA11 := Box.below (bA10.set5_same K4 G4 L4 F4 B4) hb11
  have bB11 := Box.below (bB10.set5_other nAB K4 G4 L4 F4 B4) hb11
  have hB11 : Below w.heap.size w w11 := Below.step (by go_grown) hb11
  have hz11 := hb11.size
  try simp only [World.size_alloc, World.size_setCell] at hz11
  clear hb11
  clear s0 sf0 s1 sf1 s2 sf2 s3 sf3 s4 sf4 a0 af0 a1 af1 a2 af2 a3 af3 a4 af4
  obtain ⟨⟨s0, s1, s2, s3, s4⟩, ⟨sf0, sf1, sf2, sf3, sf4⟩, _⟩ := id bS11
  obtain ⟨⟨a0, a1, a2, a3, a4⟩, ⟨af0, af1, af2, af3, af4⟩, _⟩ := id bA11
  obtain ⟨⟨t0, t1, t2, t3, t4⟩, ⟨tf0, tf1, tf2, tf3, tf4⟩, _⟩ := id bB11
  go_wp2_with fail
  refine (HN4.out _).mono ?_
  rintro e w12 ⟨rfl, hb12⟩
  have bS12 := Box.below (bS11.set5_other nSB.symm K4 G4 L4 F4 B4) hb12
  have bA12 := Box.below (bA11.set5_other nAB.symm K4 G4 L4 F4 B4) hb12
  have bB12 := Box.below (bB11.set5_same K4 G4 L4 F4 B4) hb12
  have hB12 : Below w.heap.size w w12 := Below.step (by go_grown) hb12
  have hz12 := hb12.size
  try simp only [World.size_alloc, World.size_setCell] at hz12
  clear hb12
  clear s0 sf0 s1 sf1 s2 sf2 s3 sf3 s4 sf4 a0 af0 a1 af1 a2 af2 a3 af3 a4 af4 t0 tf0 t1 tf1 t2 tf2 t3 tf3 t4 tf4
  obtain ⟨⟨s0, s1, s2, s3, s4⟩, ⟨sf0, sf1, sf2, sf3, sf4⟩, _⟩ := id bS12
  have hcc4 : (c4 != c4) = false := by simp
  have hlS12 : w.heap.size < w12.heap.size := bS12.2.2
  go_upto_region 19 with fail
  have bSa : Box w.heap.size k g l f b (((w12.alloc (.cells #[.int .i64 k, .bool b, .int .i64 g, .int .i64 l, .int .i64 f] 52)).alloc (.cells #[.int .i64 0, .bool false, .int .i64 0, .int .i64 0, .int .i64 0] 52)).alloc (.cells #[.int .i64 0, .bool false, .int .i64 0, .int .i64 0, .int .i64 0] 52)) := Box.below bS12 (by go_grown)
  have bHa : Box w12.heap.size k g l f b (((w12.alloc (.cells #[.int .i64 k, .bool b, .int .i64 g, .int .i64 l, .int .i64 f] 52)).alloc (.cells #[.int .i64 0, .bool false, .int .i64 0, .int .i64 0, .int .i64 0] 52)).alloc (.cells #[.int .i64 0, .bool false, .int .i64 0, .int .i64 0, .int .i64 0] 52)) := Box.below (Box.new w12 k g l f b) (by go_grown)
  have bEa : Box (w12.heap.size + 1) 0 0 0 0 false (((w12.alloc (.cells #[.int .i64 k, .bool b, .int .i64 g, .int .i64 l, .int .i64 f] 52)).alloc (.cells #[.int .i64 0, .bool false, .int .i64 0, .int .i64 0, .int .i64 0] 52)).alloc (.cells #[.int .i64 0, .bool false, .int .i64 0, .int .i64 0, .int .i64 0] 52)) := Box.below (by have := Box.new (w12.alloc (.cells #[.int .i64 k, .bool b, .int .i64 g, .int .i64 l, .int .i64 f] 52)) 0 0 0 0 false; rw [World.size_alloc] at this; exact this) (by go_grown)
  have bRa : Box (w12.heap.size + 1 + 1) 0 0 0 0 false (((w12.alloc (.cells #[.int .i64 k, .bool b, .int .i64 g, .int .i64 l, .int .i64 f] 52)).alloc (.cells #[.int .i64 0, .bool false, .int .i64 0, .int .i64 0, .int .i64 0] 52)).alloc (.cells #[.int .i64 0, .bool false, .int .i64 0, .int .i64 0, .int .i64 0] 52)) := by have := Box.new ((w12.alloc (.cells #[.int .i64 k, .bool b, .int .i64 g, .int .i64 l, .int .i64 f] 52)).alloc (.cells #[.int .i64 0, .bool false, .int .i64 0, .int .i64 0, .int .i64 0] 52)) 0 0 0 0 false; rw [World.size_alloc, World.size_alloc] at this; exact this
  have hBa : Below w.heap.size w (((w12.alloc (.cells #[.int .i64 k, .bool b, .int .i64 g, .int .i64 l, .int .i64 f] 52)).alloc (.cells #[.int .i64 0, .bool false, .int .i64 0, .int .i64 0, .int .i64 0] 52)).alloc (.cells #[.int .i64 0, .bool false, .int .i64 0, .int .i64 0, .int .i64 0] 52)) := by go_grown
  generalize (((w12.alloc (.cells #[.int .i64 k, .bool b, .int .i64 g, .int .i64 l, .int .i64 f] 52)).alloc (.cells #[.int .i64 0, .bool false, .int .i64 0, .int .i64 0, .int .i64 0] 52)).alloc (.cells #[.int .i64 0, .bool false, .int .i64 0, .int .i64 0, .int .i64 0] 52)) = wa at bSa bHa bEa bRa hBa ⊢
  have nSH : w.heap.size ≠ w12.heap.size := by omega
  have nSE : w.heap.size ≠ w12.heap.size + 1 := by omega
  have nSR : w.heap.size ≠ w12.heap.size + 1 + 1 := by omega
  clear s0 sf0 s1 sf1 s2 sf2 s3 sf3 s4 sf4
  obtain ⟨⟨s0, s1, s2, s3, s4⟩, ⟨sf0, sf1, sf2, sf3, sf4⟩, _⟩ := id bSa
  go_wp2_with fail
  refine (loose_not _ n1 n2 _).mono ?_
  rintro e wb ⟨rfl, hbb⟩
  have bSb := bSa.below hbb
  have bHb := bHa.below hbb
  have bEb := bEa.below hbb
  have bRb := bRa.below hbb
  have hBb : Below w.heap.size w wb := Below.step (by go_grown) hbb
  clear hbb
  clear s0 sf0 s1 sf1 s2 sf2 s3 sf3 s4 sf4
  obtain ⟨⟨s0, s1, s2, s3, s4⟩, ⟨sf0, sf1, sf2, sf3, sf4⟩, _⟩ := id bSb
  go_wp2_with fail
  refine (exp_busy k g l f b _ n1 n2).mono ?_
  rintro e wx ⟨rfl, hbx⟩
  have bSx := bSb.below hbx
  have bHx := bHb.below hbx
  have bEx := bEb.below hbx
  have bRx := bRb.below hbx
  have hBx : Below w.heap.size w wx := Below.step (by go_grown) hbx
  clear hbx
  clear s0 sf0 s1 sf1 s2 sf2 s3 sf3 s4 sf4
  obtain ⟨⟨s0, s1, s2, s3, s4⟩, ⟨sf0, sf1, sf2, sf3, sf4⟩, _⟩ := id bSx
  go_wp2_with fail
  refine (prom_gone k g l f b _ n1).mono ?_
  rintro e wy ⟨rfl, hby⟩
  have bSy := (bSx.below (by go_grown)).below hby
  have bHy := (bHx.below (by go_grown)).below hby
  have bEy := (bEx.below (by go_grown)).below hby
  have bRy := (bRx.below (by go_grown)).below hby
  have bCy := (Box.new wx 0 0 0 0 false).below hby
  have hBy : Below w.heap.size w wy := Below.step (by go_grown) hby
  clear hby
  clear s0 sf0 s1 sf1 s2 sf2 s3 sf3 s4 sf4
  obtain ⟨⟨s0, s1, s2, s3, s4⟩, ⟨sf0, sf1, sf2, sf3, sf4⟩, _⟩ := id bSy
  go_upto_region 29 with fail
  have bSz := Box.below bSy (show Below wy.heap.size wy (wy.alloc (.cells #[.int .i64 0, .bool false, .int .i64 0, .int .i64 0, .int .i64 0] 52)) by go_grown)
  have bHz := Box.below bHy (show Below wy.heap.size wy (wy.alloc (.cells #[.int .i64 0, .bool false, .int .i64 0, .int .i64 0, .int .i64 0] 52)) by go_grown)
  have bEz := Box.below bEy (show Below wy.heap.size wy (wy.alloc (.cells #[.int .i64 0, .bool false, .int .i64 0, .int .i64 0, .int .i64 0] 52)) by go_grown)
  have bRz := Box.below bRy (show Below wy.heap.size wy (wy.alloc (.cells #[.int .i64 0, .bool false, .int .i64 0, .int .i64 0, .int .i64 0] 52)) by go_grown)
  have bCz := Box.below bCy (show Below wy.heap.size wy (wy.alloc (.cells #[.int .i64 0, .bool false, .int .i64 0, .int .i64 0, .int .i64 0] 52)) by go_grown)
  have bDz : Box wy.heap.size 0 0 0 0 false (wy.alloc (.cells #[.int .i64 0, .bool false, .int .i64 0, .int .i64 0, .int .i64 0] 52)) := Box.new wy 0 0 0 0 false
  have hBz : Below w.heap.size w (wy.alloc (.cells #[.int .i64 0, .bool false, .int .i64 0, .int .i64 0, .int .i64 0] 52)) := by go_grown
  generalize (wy.alloc (.cells #[.int .i64 0, .bool false, .int .i64 0, .int .i64 0, .int .i64 0] 52)) = wz at bSz bHz bEz bRz bCz bDz hBz ⊢
  clear s0 sf0 s1 sf1 s2 sf2 s3 sf3 s4 sf4
  refine region_sc (by kernel_rfl) (by kernel_rfl) ?_
  go_big_quiet_want
  go_big_quiet_op
  refine ⟨_, fun wq hq => Sc.call (fun w => awake06 w) hq, ?_⟩
  go_big_quiet_on
  iterate 1 (first | go_big_quiet_skip | (go_big_quiet_want; go_big_quiet_op; first | go_big_quiet_on | (refine ⟨_, fun _ _ => rfl, ?_⟩; go_big_quiet_on)))
  go_big_quiet_want
  refine ⟨.agg #[.int .i64 k, .bool b, .int .i64 g, .int .i64 l, .int .i64 f], fun wq hq => ?_, ?_⟩
  · obtain ⟨⟨q0, q1, q2, q3, q4⟩, _, _⟩ := Box.below bSz hq
    unfold Oper.quietAt
    simp [go_sem, q0, q1, q2, q3, q4, Oper.quietUpon]
  simp only [Act.put, List.setIfInBounds_toArray, List.set_cons_zero, List.set_cons_succ]
  go_big_quiet_on
  go_big_quiet_want
  go_big_quiet_op
  refine ⟨_, fun wq hq => Sc.call (fun w => hold_same k g l f b w n1 n2) hq, ?_⟩
  go_big_quiet_on
  go_big_quiet_want
  refine ⟨.agg #[.int .i64 k, .bool b, .int .i64 g, .int .i64 l, .int .i64 f], fun wq hq => ?_, ?_⟩
  · obtain ⟨⟨q0, q1, q2, q3, q4⟩, _, _⟩ := Box.below bHz hq
    unfold Oper.quietAt
    simp [go_sem, q0, q1, q2, q3, q4, Oper.quietUpon]
  simp only [Act.put, List.setIfInBounds_toArray, List.set_cons_zero, List.set_cons_succ]
  go_big_quiet_on
  iterate 3 (first | go_big_quiet_skip | (go_big_quiet_want; go_big_quiet_op; first | go_big_quiet_on | (refine ⟨_, fun _ _ => rfl, ?_⟩; go_big_quiet_on)))
  go_big_quiet_want
  refine ⟨.agg #[.int .i64 0, .bool false, .int .i64 0, .int .i64 0, .int .i64 0], fun wq hq => ?_, ?_⟩
  · obtain ⟨⟨q0, q1, q2, q3, q4⟩, _, _⟩ := Box.below bCz hq
    unfold Oper.quietAt
    simp [go_sem, q0, q1, q2, q3, q4, Oper.quietUpon]
  simp only [Act.put, List.setIfInBounds_toArray, List.set_cons_zero, List.set_cons_succ]
  go_big_quiet_on
  go_big_quiet_want
  refine ⟨.agg #[.int .i64 0, .bool false, .int .i64 0, .int .i64 0, .int .i64 0], fun wq hq => ?_, ?_⟩
  · obtain ⟨⟨q0, q1, q2, q3, q4⟩, _, _⟩ := Box.below bEz hq
    unfold Oper.quietAt
    simp [go_sem, q0, q1, q2, q3, q4, Oper.quietUpon]
  simp only [Act.put, List.setIfInBounds_toArray, List.set_cons_zero, List.set_cons_succ]
  go_big_quiet_on
  iterate 4 (first | go_big_quiet_skip | (go_big_quiet_want; go_big_quiet_op; first | go_big_quiet_on | (refine ⟨_, fun _ _ => rfl, ?_⟩; go_big_quiet_on)))
  go_big_quiet_want
  go_big_quiet_op
  refine ⟨_, fun wq hq => Sc.call (fun w => num_code 27 (by decide) (by decide) w) hq, ?_⟩
  go_big_quiet_on
  iterate 4 (first | go_big_quiet_skip | (go_big_quiet_want; go_big_quiet_op; first | go_big_quiet_on | (refine ⟨_, fun _ _ => rfl, ?_⟩; go_big_quiet_on)))
  go_big_quiet_want
  refine ⟨.agg #[.int .i64 0, .bool false, .int .i64 0, .int .i64 0, .int .i64 0], fun wq hq => ?_, ?_⟩
  · obtain ⟨⟨q0, q1, q2, q3, q4⟩, _, _⟩ := Box.below bDz hq
    unfold Oper.quietAt
    simp [go_sem, q0, q1, q2, q3, q4, Oper.quietUpon]
  simp only [Act.put, List.setIfInBounds_toArray, List.set_cons_zero, List.set_cons_succ]
  go_big_quiet_on
  go_big_quiet_want
  refine ⟨.agg #[.int .i64 0, .bool false, .int .i64 0, .int .i64 0, .int .i64 0], fun wq hq => ?_, ?_⟩
  · obtain ⟨⟨q0, q1, q2, q3, q4⟩, _, _⟩ := Box.below bRz hq
    unfold Oper.quietAt
    simp [go_sem, q0, q1, q2, q3, q4, Oper.quietUpon]
  simp only [Act.put, List.setIfInBounds_toArray, List.set_cons_zero, List.set_cons_succ]
  go_big_quiet_on
  iterate 4 (first | go_big_quiet_skip | (go_big_quiet_want; go_big_quiet_op; first | go_big_quiet_on | (refine ⟨_, fun _ _ => rfl, ?_⟩; go_big_quiet_on)))
  go_big_quiet_want
  go_big_quiet_op
  refine ⟨_, fun wq hq => Sc.call (fun w => num_code 29 (by decide) (by decide) w) hq, ?_⟩
  go_big_quiet_on
  iterate 4 (first | go_big_quiet_skip | (go_big_quiet_want; go_big_quiet_op; first | go_big_quiet_on | (refine ⟨_, fun _ _ => rfl, ?_⟩; go_big_quiet_on)))
  refine wpQuiet_nil ?_
  intro wv hv
  have hBv : Below w.heap.size w wv := Below.step hBz hv
  go_wp2
  go_ret
  exact ⟨rfl, hBv⟩
end Go.Proofs.Ytgeognijglahfaa.cellTurns
