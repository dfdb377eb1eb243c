/-
  What is asked, drawn.
-/
import Derived.Test.YtgakgnofflnjoaaRows
import Derived.Test.YtgakgnofflnjoaaKit
import Derived.Test.YtgakgnofflnjoaaQuiet
import Derived.Test.YtgakgnofflnjoaaSt
import Derived.WalkKit
import Derived.ProofKit
import Derived.OpenShut
import Derived.ShutString
import Derived.Below
import Derived.Outline
import Derived.WalkLawsBesides
import Derived.WalkSpells
import Derived.Handy
import Derived.Deep.QuietTactic
import Derived.BigQuiet
import Derived.RegionTactic
import Derived.ChangeAlike
import Derived.Lib.Hide
import Derived.Laws.Rows
import Derived.Laws.Tables
import Derived.Laws.CopyOwn
import Derived.Laws.MakeOwn
import Derived.Laws.Entries
import Derived.Laws.OwnMore
import Derived.Deep.WholeRow
import Derived.Deep.LoopGhost
import Derived.Deep.AppendLies
import Derived.Deep.Draws
import Derived.Maps.AppendAt
import Derived.OwnWalk
import Derived.Deep.RegionHeld3
import Derived.Deep.Cut
import Derived.Deep.CutRange
import Derived.Deep.DeepCutAuto
import Derived.Deep.CutBlock
import Derived.Lib.SliceRun
import Derived.IntWalk
import Derived.Deep.RegionWith
import Derived.Test.YtgakgnofflnjoaaStA
import Derived.Test.YtgakgnofflnjoaaStT
namespace Go.Proofs.Ytgakgnofflnjoaa
open Go.ChangeShapes Go.WideShapes Go.ChangeAt Go.RowKit
/-- What kind is asked. -/
def kd (k : Int) : Int := if k < 3 then 1 else if k < 4 then 2 else if k < 5 then 3 else 4
theorem kd_at (k : Int) (h0 : 0 ≤ k) (h1 : k < 6) : ([.int .i64 1, .int .i64 1, .int .i64 1, .int .i64 2, .int .i64 3, .int .i64 4] : List Value)[k.toNat]? = some (.int .i64 (kd k)) := by
  rcases (show k = 0 ∨ k = 1 ∨ k = 2 ∨ k = 3 ∨ k = 4 ∨ k = 5 from by omega) with rfl | rfl | rfl | rfl | rfl | rfl <;> rfl
theorem pick_src (b L : Nat) (N : Int) (w w1 : World) (hL : Bl L [.int .i64 1, .int .i64 1, .int .i64 1, .int .i64 2, .int .i64 3, .int .i64 4] w1) (hne : L ≠ b) (h : Src w w1 b N) : Calls Try.prog 28 #[.pointer (some ⟨b, 0, none⟩), .slice (some ⟨L, 0, none⟩) 6 6] w1 fun e w' => e = .returned (.int .i64 (kd (bl (nx N) 6))) ∧ Src w1 w' b (nx N) :=
  (pick42 b N L 0 6 6 (kd (bl (nx N) 6)) w1 (by omega) (by omega) hne (by rw [Nat.zero_add]; exact hL.cell _ _ (kd_at _ (bl_lo _ _) (bl_hi _ _ (by omega)))) h.c h.f).mono fun _ _ hD => ⟨hD.1, (Src.refl h.c h.f).drew1 hD⟩
theorem Src.keepAll {w w1 w2 : World} {b : Nat} {N : Int} (h : Src w w1 b N) (hb : Below w1.heap.size w1 w2) : Src w w2 b N := h.keep hb
/-- The number of what is cancelled. -/
def cid (id B : Int) : Int := if id - 1 - B < 1 then 1 else id - 1 - B
set_option maxRecDepth 100000 in
set_option maxHeartbeats 8000000 in
theorem ask_look3 (b : Nat) (N : Int) (p c n bd r f g ma mt md ms mp mw id now : Int) (w : World) (hc : w.cell? ⟨b, 0, none⟩ = some (.int .u64 N)) (hf : w.frozen? ⟨b, 0, none⟩ = false) (hcc : 1 ≤ c ∧ c ≤ 4) (hn : 1 ≤ n ∧ n ≤ 3) (hmp : -10000 ≤ mp ∧ mp ≤ 10000) (hmw : 0 ≤ mw ∧ mw ≤ 10000) (hid : 0 ≤ id ∧ id ≤ 1048576) (hnow : 0 ≤ now ∧ now ≤ 1000000) (hkd : kd (bl (nx N) 6) = 3) :
    Calls Try.prog 23 #[.agg #[.int .i64 p, .int .i64 c, .int .i64 n, .int .i64 bd, .int .i64 r, .int .i64 f, .int .i64 g], .pointer (some ⟨b, 0, none⟩), .agg #[.int .i64 ma, .int .i64 mt, .int .i64 md, .int .i64 ms, .int .i64 mp, .int .i64 mw], .int .i64 id, .int .i64 now] w fun e w' => e = .returned (.agg #[.int .i64 (3), .int .i64 (0), .int .i64 (bl (nx (nx (N))) c), .int .i64 (0), .int .i64 (0), .int .i64 (0), .int .i64 (0), .int .i64 (0), .int .i64 (0)]) ∧ Src w w' b (nx (nx (N))) := by
  have hbl := lt_of_cell hc
  have h0 := Src.refl hc hf
  obtain ⟨c1', c2'⟩ := hcc
  obtain ⟨p1, p2⟩ := hmp
  obtain ⟨i1, i2⟩ := hid
  obtain ⟨t1', t2'⟩ := hnow
  go_enter Try.func23, Try.ntmps23
  go_wp2_with fail
  obtain ⟨W0, hW0⟩ : ∃ W0, W0 = (((w.alloc (.cells #[.int .i64 p, .int .i64 c, .int .i64 n, .int .i64 bd, .int .i64 r, .int .i64 f, .int .i64 g] 28)).alloc (.cells #[.int .i64 ma, .int .i64 mt, .int .i64 md, .int .i64 ms, .int .i64 mp, .int .i64 mw] 38)).alloc (.cells #[.int .i64 0, .int .i64 0, .int .i64 0, .int .i64 0, .int .i64 0, .int .i64 0, .int .i64 0, .int .i64 0, .int .i64 0] 45)).alloc (.cells #[.int .i64 1, .int .i64 1, .int .i64 1, .int .i64 2, .int .i64 3, .int .i64 4] 3) := ⟨_, rfl⟩
  have bA0 : Bl w.heap.size [.int .i64 (p), .int .i64 (c), .int .i64 (n), .int .i64 (bd), .int .i64 (r), .int .i64 (f), .int .i64 (g)] W0 := by rw [hW0]; exact (Bl.new w [.int .i64 (p), .int .i64 (c), .int .i64 (n), .int .i64 (bd), .int .i64 (r), .int .i64 (f), .int .i64 (g)] 28).below (by go_grown)
  have bB0 : Bl (w.heap.size + 1) [.int .i64 (ma), .int .i64 (mt), .int .i64 (md), .int .i64 (ms), .int .i64 (mp), .int .i64 (mw)] W0 := by
    rw [hW0]
    have h := Bl.new (w.alloc (.cells #[.int .i64 p, .int .i64 c, .int .i64 n, .int .i64 bd, .int .i64 r, .int .i64 f, .int .i64 g] 28)) [.int .i64 (ma), .int .i64 (mt), .int .i64 (md), .int .i64 (ms), .int .i64 (mp), .int .i64 (mw)] 38
    rw [World.size_alloc] at h
    exact h.below (by go_grown)
  have bR0 : Bl (w.heap.size + 1 + 1) [.int .i64 0, .int .i64 0, .int .i64 0, .int .i64 0, .int .i64 0, .int .i64 0, .int .i64 0, .int .i64 0, .int .i64 0] W0 := by
    rw [hW0]
    have h := Bl.new ((w.alloc (.cells #[.int .i64 p, .int .i64 c, .int .i64 n, .int .i64 bd, .int .i64 r, .int .i64 f, .int .i64 g] 28)).alloc (.cells #[.int .i64 ma, .int .i64 mt, .int .i64 md, .int .i64 ms, .int .i64 mp, .int .i64 mw] 38)) [.int .i64 0, .int .i64 0, .int .i64 0, .int .i64 0, .int .i64 0, .int .i64 0, .int .i64 0, .int .i64 0, .int .i64 0] 45
    rw [World.size_alloc, World.size_alloc] at h
    exact h.below (by go_grown)
  have bL0 : Bl (w.heap.size + 1 + 1 + 1) [.int .i64 1, .int .i64 1, .int .i64 1, .int .i64 2, .int .i64 3, .int .i64 4] W0 := by
    rw [hW0]
    have h := Bl.new (((w.alloc (.cells #[.int .i64 p, .int .i64 c, .int .i64 n, .int .i64 bd, .int .i64 r, .int .i64 f, .int .i64 g] 28)).alloc (.cells #[.int .i64 ma, .int .i64 mt, .int .i64 md, .int .i64 ms, .int .i64 mp, .int .i64 mw] 38)).alloc (.cells #[.int .i64 0, .int .i64 0, .int .i64 0, .int .i64 0, .int .i64 0, .int .i64 0, .int .i64 0, .int .i64 0, .int .i64 0] 45)) [.int .i64 1, .int .i64 1, .int .i64 1, .int .i64 2, .int .i64 3, .int .i64 4] 3
    rw [World.size_alloc, World.size_alloc, World.size_alloc] at h
    exact h
  have HK0 : Src w W0 b N := h0.keep (by rw [hW0]; go_grown)
  have hz0 : W0.heap.size = w.heap.size + 1 + 1 + 1 + 1 := by rw [hW0]; simp only [World.size_alloc]
  rw [← hW0]
  obtain ⟨L, hL⟩ : ∃ L, L = w.heap.size + 1 + 1 + 1 := ⟨_, rfl⟩
  obtain ⟨R, hR⟩ : ∃ R, R = w.heap.size + 1 + 1 := ⟨_, rfl⟩
  obtain ⟨B, hB⟩ : ∃ B, B = w.heap.size + 1 := ⟨_, rfl⟩
  obtain ⟨A, hA⟩ : ∃ A, A = w.heap.size := ⟨_, rfl⟩
  rw [← hL] at bL0 ⊢
  rw [← hR] at bR0 ⊢
  rw [← hB] at bB0 ⊢
  rw [← hA] at bA0
  have hwA : w.heap.size = A := hA.symm
  simp only [hwA]
  have eA : A ≠ b := by omega
  have eB : B ≠ b := by omega
  have eR : R ≠ b := by omega
  have eL : L ≠ b := by omega
  have eRw : w.heap.size ≤ R := by omega
  refine (pick_src b L N w W0 bL0 eL HK0).mono ?_
  rintro e v1 ⟨rfl, hs⟩
  have HK1a := HK0.step hs
  have bA1a := bA0.src hs eA
  have bB1a := bB0.src hs eB
  have bR1a := bR0.src hs eR
  have hz1 := hs.size
  have eT : v1.heap.size ≠ b := by omega
  have eTw : w.heap.size ≤ v1.heap.size := by omega
  have eTA : v1.heap.size ≠ A := by omega
  have eTB : v1.heap.size ≠ B := by omega
  have eTR : v1.heap.size ≠ R := by omega
  clear hs HK0 bA0 bB0 bR0 bL0 hz0 hz1 hL hR hB hA hW0 h0 hwA hbl hc hf eL
  have HNA := Lib.hid (show Below v1.heap.size v1 (v1.alloc (.cells #[.int .i64 (kd (bl (nx N) 6)), .int .i64 0, .int .i64 0, .int .i64 0, .int .i64 0, .int .i64 0, .int .i64 0, .int .i64 0, .int .i64 0] 45)) from by go_grown)
  have HK1 := HK1a.keep HNA.out
  have bA1 := bA1a.below HNA.out
  have bB1 := bB1a.below HNA.out
  have bR1 := bR1a.below HNA.out
  have bT1 := Bl.new v1 [.int .i64 (kd (bl (nx N) 6)), .int .i64 0, .int .i64 0, .int .i64 0, .int .i64 0, .int .i64 0, .int .i64 0, .int .i64 0, .int .i64 0] 45
  rw [hkd] at HNA HK1 bA1 bB1 bR1 bT1 ⊢
  have a1 := bA1a.cell 1 _ rfl
  have al := bA1a.lt
  clear HK1a bA1a bB1a bR1a HNA
  go_wp2_with fail
  clear a1 al
  generalize hW1 : v1.alloc (Obj.cells #[.int .i64 3, .int .i64 0, .int .i64 0, .int .i64 0, .int .i64 0, .int .i64 0, .int .i64 0, .int .i64 0, .int .i64 0] 45) = W1 at *
  clear hW1
  generalize v1.heap.size = T at *
  refine (below_src b (nx (N)) c w _ (by omega) HK1).mono ?_
  rintro e v2 ⟨rfl, hs⟩
  have HK2 := HK1.step hs
  have bA2 := bA1.src hs eA
  have bB2 := bB1.src hs eB
  have bR2 := bR1.src hs eR
  have bT2 := bT1.src hs eT
  clear hs HK1 bA1 bB1 bR1 bT1
  have t0 := bT2.cell 0 _ rfl
  have tf0 := bT2.frz 0
  have t1 := bT2.cell 1 _ rfl
  have tf1 := bT2.frz 1
  have t2 := bT2.cell 2 _ rfl
  have tf2 := bT2.frz 2
  have t3 := bT2.cell 3 _ rfl
  have tf3 := bT2.frz 3
  have t4 := bT2.cell 4 _ rfl
  have tf4 := bT2.frz 4
  have t5 := bT2.cell 5 _ rfl
  have tf5 := bT2.frz 5
  have t6 := bT2.cell 6 _ rfl
  have tf6 := bT2.frz 6
  have t7 := bT2.cell 7 _ rfl
  have tf7 := bT2.frz 7
  have t8 := bT2.cell 8 _ rfl
  have tf8 := bT2.frz 8
  have r0 := bR2.cell 0 _ rfl
  have rf0 := bR2.frz 0
  have r1 := bR2.cell 1 _ rfl
  have rf1 := bR2.frz 1
  have r2 := bR2.cell 2 _ rfl
  have rf2 := bR2.frz 2
  have r3 := bR2.cell 3 _ rfl
  have rf3 := bR2.frz 3
  have r4 := bR2.cell 4 _ rfl
  have rf4 := bR2.frz 4
  have r5 := bR2.cell 5 _ rfl
  have rf5 := bR2.frz 5
  have r6 := bR2.cell 6 _ rfl
  have rf6 := bR2.frz 6
  have r7 := bR2.cell 7 _ rfl
  have rf7 := bR2.frz 7
  have r8 := bR2.cell 8 _ rfl
  have rf8 := bR2.frz 8
  have HK2s := HK2.far (p := ⟨T, 2, none⟩) eTw eT (.int .i64 (bl (nx (nx (N))) c))
  have bA2s := bA2.far (p := ⟨T, 2, none⟩) eTA (.int .i64 (bl (nx (nx (N))) c))
  have bB2s := bB2.far (p := ⟨T, 2, none⟩) eTB (.int .i64 (bl (nx (nx (N))) c))
  have bR2s := bR2.far (p := ⟨T, 2, none⟩) eTR (.int .i64 (bl (nx (nx (N))) c))
  have bT2s := bT2.set 2 (.int .i64 (bl (nx (nx (N))) c))
  clear HK2 bA2 bB2 bR2 bT2
  have HK2sr := HK2s.far (p := ⟨R, 0, none⟩) eRw eR (.int .i64 (3))
  have bR2sr := bR2s.set 0 (.int .i64 (3))
  clear HK2s bR2s
  have HK2srr := HK2sr.far (p := ⟨R, 1, none⟩) eRw eR (.int .i64 (0))
  have bR2srr := bR2sr.set 1 (.int .i64 (0))
  clear HK2sr bR2sr
  have HK2srrr := HK2srr.far (p := ⟨R, 2, none⟩) eRw eR (.int .i64 (bl (nx (nx (N))) c))
  have bR2srrr := bR2srr.set 2 (.int .i64 (bl (nx (nx (N))) c))
  clear HK2srr bR2srr
  have HK2srrrr := HK2srrr.far (p := ⟨R, 3, none⟩) eRw eR (.int .i64 (0))
  have bR2srrrr := bR2srrr.set 3 (.int .i64 (0))
  clear HK2srrr bR2srrr
  have HK2srrrrr := HK2srrrr.far (p := ⟨R, 4, none⟩) eRw eR (.int .i64 (0))
  have bR2srrrrr := bR2srrrr.set 4 (.int .i64 (0))
  clear HK2srrrr bR2srrrr
  have HK2srrrrrr := HK2srrrrr.far (p := ⟨R, 5, none⟩) eRw eR (.int .i64 (0))
  have bR2srrrrrr := bR2srrrrr.set 5 (.int .i64 (0))
  clear HK2srrrrr bR2srrrrr
  have HK2srrrrrrr := HK2srrrrrr.far (p := ⟨R, 6, none⟩) eRw eR (.int .i64 (0))
  have bR2srrrrrrr := bR2srrrrrr.set 6 (.int .i64 (0))
  clear HK2srrrrrr bR2srrrrrr
  have HK2srrrrrrrr := HK2srrrrrrr.far (p := ⟨R, 7, none⟩) eRw eR (.int .i64 (0))
  have bR2srrrrrrrr := bR2srrrrrrr.set 7 (.int .i64 (0))
  clear HK2srrrrrrr bR2srrrrrrr
  have HK2srrrrrrrrr := HK2srrrrrrrr.far (p := ⟨R, 8, none⟩) eRw eR (.int .i64 (0))
  have bR2srrrrrrrrr := bR2srrrrrrrr.set 8 (.int .i64 (0))
  clear HK2srrrrrrrr bR2srrrrrrrr
  have HKL := Lib.hid HK2srrrrrrrrr
  have bRL := Lib.hid bR2srrrrrrrrr
  clear HK2srrrrrrrrr bR2srrrrrrrrr
  go_wp2_with fail
  obtain ⟨tt, hh⟩ := bRL.out
  refine bodyPost_ret (results_cell_row rfl _ _ R _ _ (0, 0) _ rfl hh Try.underlying45 rfl (by kernel_rfl)) rfl ⟨rfl, HKL.out⟩
set_option maxRecDepth 100000 in
set_option maxHeartbeats 8000000 in
theorem ask_look4 (b : Nat) (N : Int) (p c n bd r f g ma mt md ms mp mw id now : Int) (w : World) (hc : w.cell? ⟨b, 0, none⟩ = some (.int .u64 N)) (hf : w.frozen? ⟨b, 0, none⟩ = false) (hcc : 1 ≤ c ∧ c ≤ 4) (hn : 1 ≤ n ∧ n ≤ 3) (hmp : -10000 ≤ mp ∧ mp ≤ 10000) (hmw : 0 ≤ mw ∧ mw ≤ 10000) (hid : 0 ≤ id ∧ id ≤ 1048576) (hnow : 0 ≤ now ∧ now ≤ 1000000) (hkd : kd (bl (nx N) 6) = 4) :
    Calls Try.prog 23 #[.agg #[.int .i64 p, .int .i64 c, .int .i64 n, .int .i64 bd, .int .i64 r, .int .i64 f, .int .i64 g], .pointer (some ⟨b, 0, none⟩), .agg #[.int .i64 ma, .int .i64 mt, .int .i64 md, .int .i64 ms, .int .i64 mp, .int .i64 mw], .int .i64 id, .int .i64 now] w fun e w' => e = .returned (.agg #[.int .i64 (4), .int .i64 (0), .int .i64 (bl (nx (nx (N))) c), .int .i64 (0), .int .i64 (0), .int .i64 (0), .int .i64 (0), .int .i64 (0), .int .i64 (0)]) ∧ Src w w' b (nx (nx (N))) := by
  have hbl := lt_of_cell hc
  have h0 := Src.refl hc hf
  obtain ⟨c1', c2'⟩ := hcc
  obtain ⟨p1, p2⟩ := hmp
  obtain ⟨i1, i2⟩ := hid
  obtain ⟨t1', t2'⟩ := hnow
  go_enter Try.func23, Try.ntmps23
  go_wp2_with fail
  obtain ⟨W0, hW0⟩ : ∃ W0, W0 = (((w.alloc (.cells #[.int .i64 p, .int .i64 c, .int .i64 n, .int .i64 bd, .int .i64 r, .int .i64 f, .int .i64 g] 28)).alloc (.cells #[.int .i64 ma, .int .i64 mt, .int .i64 md, .int .i64 ms, .int .i64 mp, .int .i64 mw] 38)).alloc (.cells #[.int .i64 0, .int .i64 0, .int .i64 0, .int .i64 0, .int .i64 0, .int .i64 0, .int .i64 0, .int .i64 0, .int .i64 0] 45)).alloc (.cells #[.int .i64 1, .int .i64 1, .int .i64 1, .int .i64 2, .int .i64 3, .int .i64 4] 3) := ⟨_, rfl⟩
  have bA0 : Bl w.heap.size [.int .i64 (p), .int .i64 (c), .int .i64 (n), .int .i64 (bd), .int .i64 (r), .int .i64 (f), .int .i64 (g)] W0 := by rw [hW0]; exact (Bl.new w [.int .i64 (p), .int .i64 (c), .int .i64 (n), .int .i64 (bd), .int .i64 (r), .int .i64 (f), .int .i64 (g)] 28).below (by go_grown)
  have bB0 : Bl (w.heap.size + 1) [.int .i64 (ma), .int .i64 (mt), .int .i64 (md), .int .i64 (ms), .int .i64 (mp), .int .i64 (mw)] W0 := by
    rw [hW0]
    have h := Bl.new (w.alloc (.cells #[.int .i64 p, .int .i64 c, .int .i64 n, .int .i64 bd, .int .i64 r, .int .i64 f, .int .i64 g] 28)) [.int .i64 (ma), .int .i64 (mt), .int .i64 (md), .int .i64 (ms), .int .i64 (mp), .int .i64 (mw)] 38
    rw [World.size_alloc] at h
    exact h.below (by go_grown)
  have bR0 : Bl (w.heap.size + 1 + 1) [.int .i64 0, .int .i64 0, .int .i64 0, .int .i64 0, .int .i64 0, .int .i64 0, .int .i64 0, .int .i64 0, .int .i64 0] W0 := by
    rw [hW0]
    have h := Bl.new ((w.alloc (.cells #[.int .i64 p, .int .i64 c, .int .i64 n, .int .i64 bd, .int .i64 r, .int .i64 f, .int .i64 g] 28)).alloc (.cells #[.int .i64 ma, .int .i64 mt, .int .i64 md, .int .i64 ms, .int .i64 mp, .int .i64 mw] 38)) [.int .i64 0, .int .i64 0, .int .i64 0, .int .i64 0, .int .i64 0, .int .i64 0, .int .i64 0, .int .i64 0, .int .i64 0] 45
    rw [World.size_alloc, World.size_alloc] at h
    exact h.below (by go_grown)
  have bL0 : Bl (w.heap.size + 1 + 1 + 1) [.int .i64 1, .int .i64 1, .int .i64 1, .int .i64 2, .int .i64 3, .int .i64 4] W0 := by
    rw [hW0]
    have h := Bl.new (((w.alloc (.cells #[.int .i64 p, .int .i64 c, .int .i64 n, .int .i64 bd, .int .i64 r, .int .i64 f, .int .i64 g] 28)).alloc (.cells #[.int .i64 ma, .int .i64 mt, .int .i64 md, .int .i64 ms, .int .i64 mp, .int .i64 mw] 38)).alloc (.cells #[.int .i64 0, .int .i64 0, .int .i64 0, .int .i64 0, .int .i64 0, .int .i64 0, .int .i64 0, .int .i64 0, .int .i64 0] 45)) [.int .i64 1, .int .i64 1, .int .i64 1, .int .i64 2, .int .i64 3, .int .i64 4] 3
    rw [World.size_alloc, World.size_alloc, World.size_alloc] at h
    exact h
  have HK0 : Src w W0 b N := h0.keep (by rw [hW0]; go_grown)
  have hz0 : W0.heap.size = w.heap.size + 1 + 1 + 1 + 1 := by rw [hW0]; simp only [World.size_alloc]
  rw [← hW0]
  obtain ⟨L, hL⟩ : ∃ L, L = w.heap.size + 1 + 1 + 1 := ⟨_, rfl⟩
  obtain ⟨R, hR⟩ : ∃ R, R = w.heap.size + 1 + 1 := ⟨_, rfl⟩
  obtain ⟨B, hB⟩ : ∃ B, B = w.heap.size + 1 := ⟨_, rfl⟩
  obtain ⟨A, hA⟩ : ∃ A, A = w.heap.size := ⟨_, rfl⟩
  rw [← hL] at bL0 ⊢
  rw [← hR] at bR0 ⊢
  rw [← hB] at bB0 ⊢
  rw [← hA] at bA0
  have hwA : w.heap.size = A := hA.symm
  simp only [hwA]
  have eA : A ≠ b := by omega
  have eB : B ≠ b := by omega
  have eR : R ≠ b := by omega
  have eL : L ≠ b := by omega
  have eRw : w.heap.size ≤ R := by omega
  refine (pick_src b L N w W0 bL0 eL HK0).mono ?_
  rintro e v1 ⟨rfl, hs⟩
  have HK1a := HK0.step hs
  have bA1a := bA0.src hs eA
  have bB1a := bB0.src hs eB
  have bR1a := bR0.src hs eR
  have hz1 := hs.size
  have eT : v1.heap.size ≠ b := by omega
  have eTw : w.heap.size ≤ v1.heap.size := by omega
  have eTA : v1.heap.size ≠ A := by omega
  have eTB : v1.heap.size ≠ B := by omega
  have eTR : v1.heap.size ≠ R := by omega
  clear hs HK0 bA0 bB0 bR0 bL0 hz0 hz1 hL hR hB hA hW0 h0 hwA hbl hc hf eL
  have HNA := Lib.hid (show Below v1.heap.size v1 (v1.alloc (.cells #[.int .i64 (kd (bl (nx N) 6)), .int .i64 0, .int .i64 0, .int .i64 0, .int .i64 0, .int .i64 0, .int .i64 0, .int .i64 0, .int .i64 0] 45)) from by go_grown)
  have HK1 := HK1a.keep HNA.out
  have bA1 := bA1a.below HNA.out
  have bB1 := bB1a.below HNA.out
  have bR1 := bR1a.below HNA.out
  have bT1 := Bl.new v1 [.int .i64 (kd (bl (nx N) 6)), .int .i64 0, .int .i64 0, .int .i64 0, .int .i64 0, .int .i64 0, .int .i64 0, .int .i64 0, .int .i64 0] 45
  rw [hkd] at HNA HK1 bA1 bB1 bR1 bT1 ⊢
  have a1 := bA1a.cell 1 _ rfl
  have al := bA1a.lt
  clear HK1a bA1a bB1a bR1a HNA
  go_wp2_with fail
  clear a1 al
  generalize hW1 : v1.alloc (Obj.cells #[.int .i64 4, .int .i64 0, .int .i64 0, .int .i64 0, .int .i64 0, .int .i64 0, .int .i64 0, .int .i64 0, .int .i64 0] 45) = W1 at *
  clear hW1
  generalize v1.heap.size = T at *
  refine (below_src b (nx (N)) c w _ (by omega) HK1).mono ?_
  rintro e v2 ⟨rfl, hs⟩
  have HK2 := HK1.step hs
  have bA2 := bA1.src hs eA
  have bB2 := bB1.src hs eB
  have bR2 := bR1.src hs eR
  have bT2 := bT1.src hs eT
  clear hs HK1 bA1 bB1 bR1 bT1
  have t0 := bT2.cell 0 _ rfl
  have tf0 := bT2.frz 0
  have t1 := bT2.cell 1 _ rfl
  have tf1 := bT2.frz 1
  have t2 := bT2.cell 2 _ rfl
  have tf2 := bT2.frz 2
  have t3 := bT2.cell 3 _ rfl
  have tf3 := bT2.frz 3
  have t4 := bT2.cell 4 _ rfl
  have tf4 := bT2.frz 4
  have t5 := bT2.cell 5 _ rfl
  have tf5 := bT2.frz 5
  have t6 := bT2.cell 6 _ rfl
  have tf6 := bT2.frz 6
  have t7 := bT2.cell 7 _ rfl
  have tf7 := bT2.frz 7
  have t8 := bT2.cell 8 _ rfl
  have tf8 := bT2.frz 8
  have r0 := bR2.cell 0 _ rfl
  have rf0 := bR2.frz 0
  have r1 := bR2.cell 1 _ rfl
  have rf1 := bR2.frz 1
  have r2 := bR2.cell 2 _ rfl
  have rf2 := bR2.frz 2
  have r3 := bR2.cell 3 _ rfl
  have rf3 := bR2.frz 3
  have r4 := bR2.cell 4 _ rfl
  have rf4 := bR2.frz 4
  have r5 := bR2.cell 5 _ rfl
  have rf5 := bR2.frz 5
  have r6 := bR2.cell 6 _ rfl
  have rf6 := bR2.frz 6
  have r7 := bR2.cell 7 _ rfl
  have rf7 := bR2.frz 7
  have r8 := bR2.cell 8 _ rfl
  have rf8 := bR2.frz 8
  have HK2s := HK2.far (p := ⟨T, 2, none⟩) eTw eT (.int .i64 (bl (nx (nx (N))) c))
  have bA2s := bA2.far (p := ⟨T, 2, none⟩) eTA (.int .i64 (bl (nx (nx (N))) c))
  have bB2s := bB2.far (p := ⟨T, 2, none⟩) eTB (.int .i64 (bl (nx (nx (N))) c))
  have bR2s := bR2.far (p := ⟨T, 2, none⟩) eTR (.int .i64 (bl (nx (nx (N))) c))
  have bT2s := bT2.set 2 (.int .i64 (bl (nx (nx (N))) c))
  clear HK2 bA2 bB2 bR2 bT2
  have HK2sr := HK2s.far (p := ⟨R, 0, none⟩) eRw eR (.int .i64 (4))
  have bR2sr := bR2s.set 0 (.int .i64 (4))
  clear HK2s bR2s
  have HK2srr := HK2sr.far (p := ⟨R, 1, none⟩) eRw eR (.int .i64 (0))
  have bR2srr := bR2sr.set 1 (.int .i64 (0))
  clear HK2sr bR2sr
  have HK2srrr := HK2srr.far (p := ⟨R, 2, none⟩) eRw eR (.int .i64 (bl (nx (nx (N))) c))
  have bR2srrr := bR2srr.set 2 (.int .i64 (bl (nx (nx (N))) c))
  clear HK2srr bR2srr
  have HK2srrrr := HK2srrr.far (p := ⟨R, 3, none⟩) eRw eR (.int .i64 (0))
  have bR2srrrr := bR2srrr.set 3 (.int .i64 (0))
  clear HK2srrr bR2srrr
  have HK2srrrrr := HK2srrrr.far (p := ⟨R, 4, none⟩) eRw eR (.int .i64 (0))
  have bR2srrrrr := bR2srrrr.set 4 (.int .i64 (0))
  clear HK2srrrr bR2srrrr
  have HK2srrrrrr := HK2srrrrr.far (p := ⟨R, 5, none⟩) eRw eR (.int .i64 (0))
  have bR2srrrrrr := bR2srrrrr.set 5 (.int .i64 (0))
  clear HK2srrrrr bR2srrrrr
  have HK2srrrrrrr := HK2srrrrrr.far (p := ⟨R, 6, none⟩) eRw eR (.int .i64 (0))
  have bR2srrrrrrr := bR2srrrrrr.set 6 (.int .i64 (0))
  clear HK2srrrrrr bR2srrrrrr
  have HK2srrrrrrrr := HK2srrrrrrr.far (p := ⟨R, 7, none⟩) eRw eR (.int .i64 (0))
  have bR2srrrrrrrr := bR2srrrrrrr.set 7 (.int .i64 (0))
  clear HK2srrrrrrr bR2srrrrrrr
  have HK2srrrrrrrrr := HK2srrrrrrrr.far (p := ⟨R, 8, none⟩) eRw eR (.int .i64 (0))
  have bR2srrrrrrrrr := bR2srrrrrrrr.set 8 (.int .i64 (0))
  clear HK2srrrrrrrr bR2srrrrrrrr
  have HKL := Lib.hid HK2srrrrrrrrr
  have bRL := Lib.hid bR2srrrrrrrrr
  clear HK2srrrrrrrrr bR2srrrrrrrrr
  go_wp2_with fail
  obtain ⟨tt, hh⟩ := bRL.out
  refine bodyPost_ret (results_cell_row rfl _ _ R _ _ (0, 0) _ rfl hh Try.underlying45 rfl (by kernel_rfl)) rfl ⟨rfl, HKL.out⟩
set_option maxRecDepth 100000 in
set_option maxHeartbeats 8000000 in
theorem ask_can_a (b : Nat) (N : Int) (p c n bd r f g ma mt md ms mp mw id now : Int) (w : World) (hc : w.cell? ⟨b, 0, none⟩ = some (.int .u64 N)) (hf : w.frozen? ⟨b, 0, none⟩ = false) (hcc : 1 ≤ c ∧ c ≤ 4) (hn : 1 ≤ n ∧ n ≤ 3) (hmp : -10000 ≤ mp ∧ mp ≤ 10000) (hmw : 0 ≤ mw ∧ mw ≤ 10000) (hid : 0 ≤ id ∧ id ≤ 1048576) (hnow : 0 ≤ now ∧ now ≤ 1000000) (hkd : kd (bl (nx N) 6) = 2) (hw : id ≤ 1) :
    Calls Try.prog 23 #[.agg #[.int .i64 p, .int .i64 c, .int .i64 n, .int .i64 bd, .int .i64 r, .int .i64 f, .int .i64 g], .pointer (some ⟨b, 0, none⟩), .agg #[.int .i64 ma, .int .i64 mt, .int .i64 md, .int .i64 ms, .int .i64 mp, .int .i64 mw], .int .i64 id, .int .i64 now] w fun e w' => e = .returned (.agg #[.int .i64 (2), .int .i64 (1), .int .i64 (bl (nx (nx (N))) c), .int .i64 (0), .int .i64 (0), .int .i64 (0), .int .i64 (0), .int .i64 (0), .int .i64 (0)]) ∧ Src w w' b (nx (nx (nx (N)))) := by
  have hbl := lt_of_cell hc
  have h0 := Src.refl hc hf
  obtain ⟨c1', c2'⟩ := hcc
  obtain ⟨p1, p2⟩ := hmp
  obtain ⟨i1, i2⟩ := hid
  obtain ⟨t1', t2'⟩ := hnow
  go_enter Try.func23, Try.ntmps23
  go_wp2_with fail
  obtain ⟨W0, hW0⟩ : ∃ W0, W0 = (((w.alloc (.cells #[.int .i64 p, .int .i64 c, .int .i64 n, .int .i64 bd, .int .i64 r, .int .i64 f, .int .i64 g] 28)).alloc (.cells #[.int .i64 ma, .int .i64 mt, .int .i64 md, .int .i64 ms, .int .i64 mp, .int .i64 mw] 38)).alloc (.cells #[.int .i64 0, .int .i64 0, .int .i64 0, .int .i64 0, .int .i64 0, .int .i64 0, .int .i64 0, .int .i64 0, .int .i64 0] 45)).alloc (.cells #[.int .i64 1, .int .i64 1, .int .i64 1, .int .i64 2, .int .i64 3, .int .i64 4] 3) := ⟨_, rfl⟩
  have bA0 : Bl w.heap.size [.int .i64 (p), .int .i64 (c), .int .i64 (n), .int .i64 (bd), .int .i64 (r), .int .i64 (f), .int .i64 (g)] W0 := by rw [hW0]; exact (Bl.new w [.int .i64 (p), .int .i64 (c), .int .i64 (n), .int .i64 (bd), .int .i64 (r), .int .i64 (f), .int .i64 (g)] 28).below (by go_grown)
  have bB0 : Bl (w.heap.size + 1) [.int .i64 (ma), .int .i64 (mt), .int .i64 (md), .int .i64 (ms), .int .i64 (mp), .int .i64 (mw)] W0 := by
    rw [hW0]
    have h := Bl.new (w.alloc (.cells #[.int .i64 p, .int .i64 c, .int .i64 n, .int .i64 bd, .int .i64 r, .int .i64 f, .int .i64 g] 28)) [.int .i64 (ma), .int .i64 (mt), .int .i64 (md), .int .i64 (ms), .int .i64 (mp), .int .i64 (mw)] 38
    rw [World.size_alloc] at h
    exact h.below (by go_grown)
  have bR0 : Bl (w.heap.size + 1 + 1) [.int .i64 0, .int .i64 0, .int .i64 0, .int .i64 0, .int .i64 0, .int .i64 0, .int .i64 0, .int .i64 0, .int .i64 0] W0 := by
    rw [hW0]
    have h := Bl.new ((w.alloc (.cells #[.int .i64 p, .int .i64 c, .int .i64 n, .int .i64 bd, .int .i64 r, .int .i64 f, .int .i64 g] 28)).alloc (.cells #[.int .i64 ma, .int .i64 mt, .int .i64 md, .int .i64 ms, .int .i64 mp, .int .i64 mw] 38)) [.int .i64 0, .int .i64 0, .int .i64 0, .int .i64 0, .int .i64 0, .int .i64 0, .int .i64 0, .int .i64 0, .int .i64 0] 45
    rw [World.size_alloc, World.size_alloc] at h
    exact h.below (by go_grown)
  have bL0 : Bl (w.heap.size + 1 + 1 + 1) [.int .i64 1, .int .i64 1, .int .i64 1, .int .i64 2, .int .i64 3, .int .i64 4] W0 := by
    rw [hW0]
    have h := Bl.new (((w.alloc (.cells #[.int .i64 p, .int .i64 c, .int .i64 n, .int .i64 bd, .int .i64 r, .int .i64 f, .int .i64 g] 28)).alloc (.cells #[.int .i64 ma, .int .i64 mt, .int .i64 md, .int .i64 ms, .int .i64 mp, .int .i64 mw] 38)).alloc (.cells #[.int .i64 0, .int .i64 0, .int .i64 0, .int .i64 0, .int .i64 0, .int .i64 0, .int .i64 0, .int .i64 0, .int .i64 0] 45)) [.int .i64 1, .int .i64 1, .int .i64 1, .int .i64 2, .int .i64 3, .int .i64 4] 3
    rw [World.size_alloc, World.size_alloc, World.size_alloc] at h
    exact h
  have HK0 : Src w W0 b N := h0.keep (by rw [hW0]; go_grown)
  have hz0 : W0.heap.size = w.heap.size + 1 + 1 + 1 + 1 := by rw [hW0]; simp only [World.size_alloc]
  rw [← hW0]
  obtain ⟨L, hL⟩ : ∃ L, L = w.heap.size + 1 + 1 + 1 := ⟨_, rfl⟩
  obtain ⟨R, hR⟩ : ∃ R, R = w.heap.size + 1 + 1 := ⟨_, rfl⟩
  obtain ⟨B, hB⟩ : ∃ B, B = w.heap.size + 1 := ⟨_, rfl⟩
  obtain ⟨A, hA⟩ : ∃ A, A = w.heap.size := ⟨_, rfl⟩
  rw [← hL] at bL0 ⊢
  rw [← hR] at bR0 ⊢
  rw [← hB] at bB0 ⊢
  rw [← hA] at bA0
  have hwA : w.heap.size = A := hA.symm
  simp only [hwA]
  have eA : A ≠ b := by omega
  have eB : B ≠ b := by omega
  have eR : R ≠ b := by omega
  have eL : L ≠ b := by omega
  have eRw : w.heap.size ≤ R := by omega
  refine (pick_src b L N w W0 bL0 eL HK0).mono ?_
  rintro e v1 ⟨rfl, hs⟩
  have HK1a := HK0.step hs
  have bA1a := bA0.src hs eA
  have bB1a := bB0.src hs eB
  have bR1a := bR0.src hs eR
  have hz1 := hs.size
  have eT : v1.heap.size ≠ b := by omega
  have eTw : w.heap.size ≤ v1.heap.size := by omega
  have eTA : v1.heap.size ≠ A := by omega
  have eTB : v1.heap.size ≠ B := by omega
  have eTR : v1.heap.size ≠ R := by omega
  clear hs HK0 bA0 bB0 bR0 bL0 hz0 hz1 hL hR hB hA hW0 h0 hwA hbl hc hf eL
  have HNA := Lib.hid (show Below v1.heap.size v1 (v1.alloc (.cells #[.int .i64 (kd (bl (nx N) 6)), .int .i64 0, .int .i64 0, .int .i64 0, .int .i64 0, .int .i64 0, .int .i64 0, .int .i64 0, .int .i64 0] 45)) from by go_grown)
  have HK1 := HK1a.keep HNA.out
  have bA1 := bA1a.below HNA.out
  have bB1 := bB1a.below HNA.out
  have bR1 := bR1a.below HNA.out
  have bT1 := Bl.new v1 [.int .i64 (kd (bl (nx N) 6)), .int .i64 0, .int .i64 0, .int .i64 0, .int .i64 0, .int .i64 0, .int .i64 0, .int .i64 0, .int .i64 0] 45
  rw [hkd] at HNA HK1 bA1 bB1 bR1 bT1 ⊢
  have a1 := bA1a.cell 1 _ rfl
  have al := bA1a.lt
  clear HK1a bA1a bB1a bR1a HNA
  go_wp2_with fail
  clear a1 al
  generalize hW1 : v1.alloc (Obj.cells #[.int .i64 2, .int .i64 0, .int .i64 0, .int .i64 0, .int .i64 0, .int .i64 0, .int .i64 0, .int .i64 0, .int .i64 0] 45) = W1 at *
  clear hW1
  generalize v1.heap.size = T at *
  refine (below_src b (nx (N)) c w _ (by omega) HK1).mono ?_
  rintro e v2 ⟨rfl, hs⟩
  have HK2 := HK1.step hs
  have bA2 := bA1.src hs eA
  have bB2 := bB1.src hs eB
  have bR2 := bR1.src hs eR
  have bT2 := bT1.src hs eT
  clear hs HK1 bA1 bB1 bR1 bT1
  have q0 := bl_lo (nx (nx (nx (N)))) 3
  have q1 := bl_hi (nx (nx (nx (N)))) 3 (by omega)
  have t0 := bT2.cell 0 _ rfl
  have tf0 := bT2.frz 0
  have t1 := bT2.cell 1 _ rfl
  have tf1 := bT2.frz 1
  have t2 := bT2.cell 2 _ rfl
  have tf2 := bT2.frz 2
  have t3 := bT2.cell 3 _ rfl
  have tf3 := bT2.frz 3
  have t4 := bT2.cell 4 _ rfl
  have tf4 := bT2.frz 4
  have t5 := bT2.cell 5 _ rfl
  have tf5 := bT2.frz 5
  have t6 := bT2.cell 6 _ rfl
  have tf6 := bT2.frz 6
  have t7 := bT2.cell 7 _ rfl
  have tf7 := bT2.frz 7
  have t8 := bT2.cell 8 _ rfl
  have tf8 := bT2.frz 8
  have HK2s := HK2.far (p := ⟨T, 2, none⟩) eTw eT (.int .i64 (bl (nx (nx (N))) c))
  have bA2s := bA2.far (p := ⟨T, 2, none⟩) eTA (.int .i64 (bl (nx (nx (N))) c))
  have bB2s := bB2.far (p := ⟨T, 2, none⟩) eTB (.int .i64 (bl (nx (nx (N))) c))
  have bR2s := bR2.far (p := ⟨T, 2, none⟩) eTR (.int .i64 (bl (nx (nx (N))) c))
  have bT2s := bT2.set 2 (.int .i64 (bl (nx (nx (N))) c))
  clear HK2 bA2 bB2 bR2 bT2
  go_wp2_with fail
  clear t0 t1 t2 t3 t4 t5 t6 t7 t8 tf0 tf1 tf2 tf3 tf4 tf5 tf6 tf7 tf8
  have HK2 := HK2s
  have bA2 := bA2s
  have bB2 := bB2s
  have bR2 := bR2s
  have bT2 := bT2s
  clear HK2s bA2s bB2s bR2s bT2s
  refine (below_src b (nx (nx (N))) 3 w _ (by omega) HK2).mono ?_
  rintro e v3 ⟨rfl, hs⟩
  have HK3 := HK2.step hs
  have bA3 := bA2.src hs eA
  have bB3 := bB2.src hs eB
  have bR3 := bR2.src hs eR
  have bT3 := bT2.src hs eT
  clear hs HK2 bA2 bB2 bR2 bT2
  have t0 := bT3.cell 0 _ rfl
  have tf0 := bT3.frz 0
  have t1 := bT3.cell 1 _ rfl
  have tf1 := bT3.frz 1
  have t2 := bT3.cell 2 _ rfl
  have tf2 := bT3.frz 2
  have t3 := bT3.cell 3 _ rfl
  have tf3 := bT3.frz 3
  have t4 := bT3.cell 4 _ rfl
  have tf4 := bT3.frz 4
  have t5 := bT3.cell 5 _ rfl
  have tf5 := bT3.frz 5
  have t6 := bT3.cell 6 _ rfl
  have tf6 := bT3.frz 6
  have t7 := bT3.cell 7 _ rfl
  have tf7 := bT3.frz 7
  have t8 := bT3.cell 8 _ rfl
  have tf8 := bT3.frz 8
  have r0 := bR3.cell 0 _ rfl
  have rf0 := bR3.frz 0
  have r1 := bR3.cell 1 _ rfl
  have rf1 := bR3.frz 1
  have r2 := bR3.cell 2 _ rfl
  have rf2 := bR3.frz 2
  have r3 := bR3.cell 3 _ rfl
  have rf3 := bR3.frz 3
  have r4 := bR3.cell 4 _ rfl
  have rf4 := bR3.frz 4
  have r5 := bR3.cell 5 _ rfl
  have rf5 := bR3.frz 5
  have r6 := bR3.cell 6 _ rfl
  have rf6 := bR3.frz 6
  have r7 := bR3.cell 7 _ rfl
  have rf7 := bR3.frz 7
  have r8 := bR3.cell 8 _ rfl
  have rf8 := bR3.frz 8
  have HK3s := HK3.far (p := ⟨T, 1, none⟩) eTw eT (.int .i64 (1))
  have bA3s := bA3.far (p := ⟨T, 1, none⟩) eTA (.int .i64 (1))
  have bB3s := bB3.far (p := ⟨T, 1, none⟩) eTB (.int .i64 (1))
  have bR3s := bR3.far (p := ⟨T, 1, none⟩) eTR (.int .i64 (1))
  have bT3s := bT3.set 1 (.int .i64 (1))
  clear HK3 bA3 bB3 bR3 bT3
  have HK3sr := HK3s.far (p := ⟨R, 0, none⟩) eRw eR (.int .i64 (2))
  have bR3sr := bR3s.set 0 (.int .i64 (2))
  clear HK3s bR3s
  have HK3srr := HK3sr.far (p := ⟨R, 1, none⟩) eRw eR (.int .i64 (1))
  have bR3srr := bR3sr.set 1 (.int .i64 (1))
  clear HK3sr bR3sr
  have HK3srrr := HK3srr.far (p := ⟨R, 2, none⟩) eRw eR (.int .i64 (bl (nx (nx (N))) c))
  have bR3srrr := bR3srr.set 2 (.int .i64 (bl (nx (nx (N))) c))
  clear HK3srr bR3srr
  have HK3srrrr := HK3srrr.far (p := ⟨R, 3, none⟩) eRw eR (.int .i64 (0))
  have bR3srrrr := bR3srrr.set 3 (.int .i64 (0))
  clear HK3srrr bR3srrr
  have HK3srrrrr := HK3srrrr.far (p := ⟨R, 4, none⟩) eRw eR (.int .i64 (0))
  have bR3srrrrr := bR3srrrr.set 4 (.int .i64 (0))
  clear HK3srrrr bR3srrrr
  have HK3srrrrrr := HK3srrrrr.far (p := ⟨R, 5, none⟩) eRw eR (.int .i64 (0))
  have bR3srrrrrr := bR3srrrrr.set 5 (.int .i64 (0))
  clear HK3srrrrr bR3srrrrr
  have HK3srrrrrrr := HK3srrrrrr.far (p := ⟨R, 6, none⟩) eRw eR (.int .i64 (0))
  have bR3srrrrrrr := bR3srrrrrr.set 6 (.int .i64 (0))
  clear HK3srrrrrr bR3srrrrrr
  have HK3srrrrrrrr := HK3srrrrrrr.far (p := ⟨R, 7, none⟩) eRw eR (.int .i64 (0))
  have bR3srrrrrrrr := bR3srrrrrrr.set 7 (.int .i64 (0))
  clear HK3srrrrrrr bR3srrrrrrr
  have HK3srrrrrrrrr := HK3srrrrrrrr.far (p := ⟨R, 8, none⟩) eRw eR (.int .i64 (0))
  have bR3srrrrrrrrr := bR3srrrrrrrr.set 8 (.int .i64 (0))
  clear HK3srrrrrrrr bR3srrrrrrrr
  have HKL := Lib.hid HK3srrrrrrrrr
  have bRL := Lib.hid bR3srrrrrrrrr
  clear HK3srrrrrrrrr bR3srrrrrrrrr
  go_wp2_with fail
  obtain ⟨tt, hh⟩ := bRL.out
  refine bodyPost_ret (results_cell_row rfl _ _ R _ _ (0, 0) _ rfl hh Try.underlying45 rfl (by kernel_rfl)) rfl ⟨rfl, HKL.out⟩
set_option maxRecDepth 100000 in
set_option maxHeartbeats 8000000 in
theorem ask_can_b (b : Nat) (N : Int) (p c n bd r f g ma mt md ms mp mw id now : Int) (w : World) (hc : w.cell? ⟨b, 0, none⟩ = some (.int .u64 N)) (hf : w.frozen? ⟨b, 0, none⟩ = false) (hcc : 1 ≤ c ∧ c ≤ 4) (hn : 1 ≤ n ∧ n ≤ 3) (hmp : -10000 ≤ mp ∧ mp ≤ 10000) (hmw : 0 ≤ mw ∧ mw ≤ 10000) (hid : 0 ≤ id ∧ id ≤ 1048576) (hnow : 0 ≤ now ∧ now ≤ 1000000) (hkd : kd (bl (nx N) 6) = 2) (hw : 1 < id ∧ id - 1 - bl (nx (nx (nx (N)))) 3 ≤ 1) :
    Calls Try.prog 23 #[.agg #[.int .i64 p, .int .i64 c, .int .i64 n, .int .i64 bd, .int .i64 r, .int .i64 f, .int .i64 g], .pointer (some ⟨b, 0, none⟩), .agg #[.int .i64 ma, .int .i64 mt, .int .i64 md, .int .i64 ms, .int .i64 mp, .int .i64 mw], .int .i64 id, .int .i64 now] w fun e w' => e = .returned (.agg #[.int .i64 (2), .int .i64 (1), .int .i64 (bl (nx (nx (N))) c), .int .i64 (0), .int .i64 (0), .int .i64 (0), .int .i64 (0), .int .i64 (0), .int .i64 (0)]) ∧ Src w w' b (nx (nx (nx (N)))) := by
  have hbl := lt_of_cell hc
  have h0 := Src.refl hc hf
  obtain ⟨c1', c2'⟩ := hcc
  obtain ⟨p1, p2⟩ := hmp
  obtain ⟨i1, i2⟩ := hid
  obtain ⟨t1', t2'⟩ := hnow
  go_enter Try.func23, Try.ntmps23
  go_wp2_with fail
  obtain ⟨W0, hW0⟩ : ∃ W0, W0 = (((w.alloc (.cells #[.int .i64 p, .int .i64 c, .int .i64 n, .int .i64 bd, .int .i64 r, .int .i64 f, .int .i64 g] 28)).alloc (.cells #[.int .i64 ma, .int .i64 mt, .int .i64 md, .int .i64 ms, .int .i64 mp, .int .i64 mw] 38)).alloc (.cells #[.int .i64 0, .int .i64 0, .int .i64 0, .int .i64 0, .int .i64 0, .int .i64 0, .int .i64 0, .int .i64 0, .int .i64 0] 45)).alloc (.cells #[.int .i64 1, .int .i64 1, .int .i64 1, .int .i64 2, .int .i64 3, .int .i64 4] 3) := ⟨_, rfl⟩
  have bA0 : Bl w.heap.size [.int .i64 (p), .int .i64 (c), .int .i64 (n), .int .i64 (bd), .int .i64 (r), .int .i64 (f), .int .i64 (g)] W0 := by rw [hW0]; exact (Bl.new w [.int .i64 (p), .int .i64 (c), .int .i64 (n), .int .i64 (bd), .int .i64 (r), .int .i64 (f), .int .i64 (g)] 28).below (by go_grown)
  have bB0 : Bl (w.heap.size + 1) [.int .i64 (ma), .int .i64 (mt), .int .i64 (md), .int .i64 (ms), .int .i64 (mp), .int .i64 (mw)] W0 := by
    rw [hW0]
    have h := Bl.new (w.alloc (.cells #[.int .i64 p, .int .i64 c, .int .i64 n, .int .i64 bd, .int .i64 r, .int .i64 f, .int .i64 g] 28)) [.int .i64 (ma), .int .i64 (mt), .int .i64 (md), .int .i64 (ms), .int .i64 (mp), .int .i64 (mw)] 38
    rw [World.size_alloc] at h
    exact h.below (by go_grown)
  have bR0 : Bl (w.heap.size + 1 + 1) [.int .i64 0, .int .i64 0, .int .i64 0, .int .i64 0, .int .i64 0, .int .i64 0, .int .i64 0, .int .i64 0, .int .i64 0] W0 := by
    rw [hW0]
    have h := Bl.new ((w.alloc (.cells #[.int .i64 p, .int .i64 c, .int .i64 n, .int .i64 bd, .int .i64 r, .int .i64 f, .int .i64 g] 28)).alloc (.cells #[.int .i64 ma, .int .i64 mt, .int .i64 md, .int .i64 ms, .int .i64 mp, .int .i64 mw] 38)) [.int .i64 0, .int .i64 0, .int .i64 0, .int .i64 0, .int .i64 0, .int .i64 0, .int .i64 0, .int .i64 0, .int .i64 0] 45
    rw [World.size_alloc, World.size_alloc] at h
    exact h.below (by go_grown)
  have bL0 : Bl (w.heap.size + 1 + 1 + 1) [.int .i64 1, .int .i64 1, .int .i64 1, .int .i64 2, .int .i64 3, .int .i64 4] W0 := by
    rw [hW0]
    have h := Bl.new (((w.alloc (.cells #[.int .i64 p, .int .i64 c, .int .i64 n, .int .i64 bd, .int .i64 r, .int .i64 f, .int .i64 g] 28)).alloc (.cells #[.int .i64 ma, .int .i64 mt, .int .i64 md, .int .i64 ms, .int .i64 mp, .int .i64 mw] 38)).alloc (.cells #[.int .i64 0, .int .i64 0, .int .i64 0, .int .i64 0, .int .i64 0, .int .i64 0, .int .i64 0, .int .i64 0, .int .i64 0] 45)) [.int .i64 1, .int .i64 1, .int .i64 1, .int .i64 2, .int .i64 3, .int .i64 4] 3
    rw [World.size_alloc, World.size_alloc, World.size_alloc] at h
    exact h
  have HK0 : Src w W0 b N := h0.keep (by rw [hW0]; go_grown)
  have hz0 : W0.heap.size = w.heap.size + 1 + 1 + 1 + 1 := by rw [hW0]; simp only [World.size_alloc]
  rw [← hW0]
  obtain ⟨L, hL⟩ : ∃ L, L = w.heap.size + 1 + 1 + 1 := ⟨_, rfl⟩
  obtain ⟨R, hR⟩ : ∃ R, R = w.heap.size + 1 + 1 := ⟨_, rfl⟩
  obtain ⟨B, hB⟩ : ∃ B, B = w.heap.size + 1 := ⟨_, rfl⟩
  obtain ⟨A, hA⟩ : ∃ A, A = w.heap.size := ⟨_, rfl⟩
  rw [← hL] at bL0 ⊢
  rw [← hR] at bR0 ⊢
  rw [← hB] at bB0 ⊢
  rw [← hA] at bA0
  have hwA : w.heap.size = A := hA.symm
  simp only [hwA]
  have eA : A ≠ b := by omega
  have eB : B ≠ b := by omega
  have eR : R ≠ b := by omega
  have eL : L ≠ b := by omega
  have eRw : w.heap.size ≤ R := by omega
  refine (pick_src b L N w W0 bL0 eL HK0).mono ?_
  rintro e v1 ⟨rfl, hs⟩
  have HK1a := HK0.step hs
  have bA1a := bA0.src hs eA
  have bB1a := bB0.src hs eB
  have bR1a := bR0.src hs eR
  have hz1 := hs.size
  have eT : v1.heap.size ≠ b := by omega
  have eTw : w.heap.size ≤ v1.heap.size := by omega
  have eTA : v1.heap.size ≠ A := by omega
  have eTB : v1.heap.size ≠ B := by omega
  have eTR : v1.heap.size ≠ R := by omega
  clear hs HK0 bA0 bB0 bR0 bL0 hz0 hz1 hL hR hB hA hW0 h0 hwA hbl hc hf eL
  have HNA := Lib.hid (show Below v1.heap.size v1 (v1.alloc (.cells #[.int .i64 (kd (bl (nx N) 6)), .int .i64 0, .int .i64 0, .int .i64 0, .int .i64 0, .int .i64 0, .int .i64 0, .int .i64 0, .int .i64 0] 45)) from by go_grown)
  have HK1 := HK1a.keep HNA.out
  have bA1 := bA1a.below HNA.out
  have bB1 := bB1a.below HNA.out
  have bR1 := bR1a.below HNA.out
  have bT1 := Bl.new v1 [.int .i64 (kd (bl (nx N) 6)), .int .i64 0, .int .i64 0, .int .i64 0, .int .i64 0, .int .i64 0, .int .i64 0, .int .i64 0, .int .i64 0] 45
  rw [hkd] at HNA HK1 bA1 bB1 bR1 bT1 ⊢
  have a1 := bA1a.cell 1 _ rfl
  have al := bA1a.lt
  clear HK1a bA1a bB1a bR1a HNA
  go_wp2_with fail
  clear a1 al
  generalize hW1 : v1.alloc (Obj.cells #[.int .i64 2, .int .i64 0, .int .i64 0, .int .i64 0, .int .i64 0, .int .i64 0, .int .i64 0, .int .i64 0, .int .i64 0] 45) = W1 at *
  clear hW1
  generalize v1.heap.size = T at *
  refine (below_src b (nx (N)) c w _ (by omega) HK1).mono ?_
  rintro e v2 ⟨rfl, hs⟩
  have HK2 := HK1.step hs
  have bA2 := bA1.src hs eA
  have bB2 := bB1.src hs eB
  have bR2 := bR1.src hs eR
  have bT2 := bT1.src hs eT
  clear hs HK1 bA1 bB1 bR1 bT1
  have q0 := bl_lo (nx (nx (nx (N)))) 3
  have q1 := bl_hi (nx (nx (nx (N)))) 3 (by omega)
  have t0 := bT2.cell 0 _ rfl
  have tf0 := bT2.frz 0
  have t1 := bT2.cell 1 _ rfl
  have tf1 := bT2.frz 1
  have t2 := bT2.cell 2 _ rfl
  have tf2 := bT2.frz 2
  have t3 := bT2.cell 3 _ rfl
  have tf3 := bT2.frz 3
  have t4 := bT2.cell 4 _ rfl
  have tf4 := bT2.frz 4
  have t5 := bT2.cell 5 _ rfl
  have tf5 := bT2.frz 5
  have t6 := bT2.cell 6 _ rfl
  have tf6 := bT2.frz 6
  have t7 := bT2.cell 7 _ rfl
  have tf7 := bT2.frz 7
  have t8 := bT2.cell 8 _ rfl
  have tf8 := bT2.frz 8
  have HK2s := HK2.far (p := ⟨T, 2, none⟩) eTw eT (.int .i64 (bl (nx (nx (N))) c))
  have bA2s := bA2.far (p := ⟨T, 2, none⟩) eTA (.int .i64 (bl (nx (nx (N))) c))
  have bB2s := bB2.far (p := ⟨T, 2, none⟩) eTB (.int .i64 (bl (nx (nx (N))) c))
  have bR2s := bR2.far (p := ⟨T, 2, none⟩) eTR (.int .i64 (bl (nx (nx (N))) c))
  have bT2s := bT2.set 2 (.int .i64 (bl (nx (nx (N))) c))
  clear HK2 bA2 bB2 bR2 bT2
  go_wp2_with fail
  clear t0 t1 t2 t3 t4 t5 t6 t7 t8 tf0 tf1 tf2 tf3 tf4 tf5 tf6 tf7 tf8
  have HK2 := HK2s
  have bA2 := bA2s
  have bB2 := bB2s
  have bR2 := bR2s
  have bT2 := bT2s
  clear HK2s bA2s bB2s bR2s bT2s
  refine (below_src b (nx (nx (N))) 3 w _ (by omega) HK2).mono ?_
  rintro e v3 ⟨rfl, hs⟩
  have HK3 := HK2.step hs
  have bA3 := bA2.src hs eA
  have bB3 := bB2.src hs eB
  have bR3 := bR2.src hs eR
  have bT3 := bT2.src hs eT
  clear hs HK2 bA2 bB2 bR2 bT2
  have t0 := bT3.cell 0 _ rfl
  have tf0 := bT3.frz 0
  have t1 := bT3.cell 1 _ rfl
  have tf1 := bT3.frz 1
  have t2 := bT3.cell 2 _ rfl
  have tf2 := bT3.frz 2
  have t3 := bT3.cell 3 _ rfl
  have tf3 := bT3.frz 3
  have t4 := bT3.cell 4 _ rfl
  have tf4 := bT3.frz 4
  have t5 := bT3.cell 5 _ rfl
  have tf5 := bT3.frz 5
  have t6 := bT3.cell 6 _ rfl
  have tf6 := bT3.frz 6
  have t7 := bT3.cell 7 _ rfl
  have tf7 := bT3.frz 7
  have t8 := bT3.cell 8 _ rfl
  have tf8 := bT3.frz 8
  have r0 := bR3.cell 0 _ rfl
  have rf0 := bR3.frz 0
  have r1 := bR3.cell 1 _ rfl
  have rf1 := bR3.frz 1
  have r2 := bR3.cell 2 _ rfl
  have rf2 := bR3.frz 2
  have r3 := bR3.cell 3 _ rfl
  have rf3 := bR3.frz 3
  have r4 := bR3.cell 4 _ rfl
  have rf4 := bR3.frz 4
  have r5 := bR3.cell 5 _ rfl
  have rf5 := bR3.frz 5
  have r6 := bR3.cell 6 _ rfl
  have rf6 := bR3.frz 6
  have r7 := bR3.cell 7 _ rfl
  have rf7 := bR3.frz 7
  have r8 := bR3.cell 8 _ rfl
  have rf8 := bR3.frz 8
  have HK3s := HK3.far (p := ⟨T, 1, none⟩) eTw eT (.int .i64 (1))
  have bA3s := bA3.far (p := ⟨T, 1, none⟩) eTA (.int .i64 (1))
  have bB3s := bB3.far (p := ⟨T, 1, none⟩) eTB (.int .i64 (1))
  have bR3s := bR3.far (p := ⟨T, 1, none⟩) eTR (.int .i64 (1))
  have bT3s := bT3.set 1 (.int .i64 (1))
  clear HK3 bA3 bB3 bR3 bT3
  have HK3sr := HK3s.far (p := ⟨R, 0, none⟩) eRw eR (.int .i64 (2))
  have bR3sr := bR3s.set 0 (.int .i64 (2))
  clear HK3s bR3s
  have HK3srr := HK3sr.far (p := ⟨R, 1, none⟩) eRw eR (.int .i64 (1))
  have bR3srr := bR3sr.set 1 (.int .i64 (1))
  clear HK3sr bR3sr
  have HK3srrr := HK3srr.far (p := ⟨R, 2, none⟩) eRw eR (.int .i64 (bl (nx (nx (N))) c))
  have bR3srrr := bR3srr.set 2 (.int .i64 (bl (nx (nx (N))) c))
  clear HK3srr bR3srr
  have HK3srrrr := HK3srrr.far (p := ⟨R, 3, none⟩) eRw eR (.int .i64 (0))
  have bR3srrrr := bR3srrr.set 3 (.int .i64 (0))
  clear HK3srrr bR3srrr
  have HK3srrrrr := HK3srrrr.far (p := ⟨R, 4, none⟩) eRw eR (.int .i64 (0))
  have bR3srrrrr := bR3srrrr.set 4 (.int .i64 (0))
  clear HK3srrrr bR3srrrr
  have HK3srrrrrr := HK3srrrrr.far (p := ⟨R, 5, none⟩) eRw eR (.int .i64 (0))
  have bR3srrrrrr := bR3srrrrr.set 5 (.int .i64 (0))
  clear HK3srrrrr bR3srrrrr
  have HK3srrrrrrr := HK3srrrrrr.far (p := ⟨R, 6, none⟩) eRw eR (.int .i64 (0))
  have bR3srrrrrrr := bR3srrrrrr.set 6 (.int .i64 (0))
  clear HK3srrrrrr bR3srrrrrr
  have HK3srrrrrrrr := HK3srrrrrrr.far (p := ⟨R, 7, none⟩) eRw eR (.int .i64 (0))
  have bR3srrrrrrrr := bR3srrrrrrr.set 7 (.int .i64 (0))
  clear HK3srrrrrrr bR3srrrrrrr
  have HK3srrrrrrrrr := HK3srrrrrrrr.far (p := ⟨R, 8, none⟩) eRw eR (.int .i64 (0))
  have bR3srrrrrrrrr := bR3srrrrrrrr.set 8 (.int .i64 (0))
  clear HK3srrrrrrrr bR3srrrrrrrr
  have HKL := Lib.hid HK3srrrrrrrrr
  have bRL := Lib.hid bR3srrrrrrrrr
  clear HK3srrrrrrrrr bR3srrrrrrrrr
  go_wp2_with fail
  obtain ⟨tt, hh⟩ := bRL.out
  refine bodyPost_ret (results_cell_row rfl _ _ R _ _ (0, 0) _ rfl hh Try.underlying45 rfl (by kernel_rfl)) rfl ⟨rfl, HKL.out⟩
set_option maxRecDepth 100000 in
set_option maxHeartbeats 8000000 in
theorem ask_can_c (b : Nat) (N : Int) (p c n bd r f g ma mt md ms mp mw id now : Int) (w : World) (hc : w.cell? ⟨b, 0, none⟩ = some (.int .u64 N)) (hf : w.frozen? ⟨b, 0, none⟩ = false) (hcc : 1 ≤ c ∧ c ≤ 4) (hn : 1 ≤ n ∧ n ≤ 3) (hmp : -10000 ≤ mp ∧ mp ≤ 10000) (hmw : 0 ≤ mw ∧ mw ≤ 10000) (hid : 0 ≤ id ∧ id ≤ 1048576) (hnow : 0 ≤ now ∧ now ≤ 1000000) (hkd : kd (bl (nx N) 6) = 2) (hw : 1 < id ∧ 1 < id - 1 - bl (nx (nx (nx (N)))) 3) :
    Calls Try.prog 23 #[.agg #[.int .i64 p, .int .i64 c, .int .i64 n, .int .i64 bd, .int .i64 r, .int .i64 f, .int .i64 g], .pointer (some ⟨b, 0, none⟩), .agg #[.int .i64 ma, .int .i64 mt, .int .i64 md, .int .i64 ms, .int .i64 mp, .int .i64 mw], .int .i64 id, .int .i64 now] w fun e w' => e = .returned (.agg #[.int .i64 (2), .int .i64 (id - 1 - bl (nx (nx (nx (N)))) 3), .int .i64 (bl (nx (nx (N))) c), .int .i64 (0), .int .i64 (0), .int .i64 (0), .int .i64 (0), .int .i64 (0), .int .i64 (0)]) ∧ Src w w' b (nx (nx (nx (N)))) := by
  have hbl := lt_of_cell hc
  have h0 := Src.refl hc hf
  obtain ⟨c1', c2'⟩ := hcc
  obtain ⟨p1, p2⟩ := hmp
  obtain ⟨i1, i2⟩ := hid
  obtain ⟨t1', t2'⟩ := hnow
  go_enter Try.func23, Try.ntmps23
  go_wp2_with fail
  obtain ⟨W0, hW0⟩ : ∃ W0, W0 = (((w.alloc (.cells #[.int .i64 p, .int .i64 c, .int .i64 n, .int .i64 bd, .int .i64 r, .int .i64 f, .int .i64 g] 28)).alloc (.cells #[.int .i64 ma, .int .i64 mt, .int .i64 md, .int .i64 ms, .int .i64 mp, .int .i64 mw] 38)).alloc (.cells #[.int .i64 0, .int .i64 0, .int .i64 0, .int .i64 0, .int .i64 0, .int .i64 0, .int .i64 0, .int .i64 0, .int .i64 0] 45)).alloc (.cells #[.int .i64 1, .int .i64 1, .int .i64 1, .int .i64 2, .int .i64 3, .int .i64 4] 3) := ⟨_, rfl⟩
  have bA0 : Bl w.heap.size [.int .i64 (p), .int .i64 (c), .int .i64 (n), .int .i64 (bd), .int .i64 (r), .int .i64 (f), .int .i64 (g)] W0 := by rw [hW0]; exact (Bl.new w [.int .i64 (p), .int .i64 (c), .int .i64 (n), .int .i64 (bd), .int .i64 (r), .int .i64 (f), .int .i64 (g)] 28).below (by go_grown)
  have bB0 : Bl (w.heap.size + 1) [.int .i64 (ma), .int .i64 (mt), .int .i64 (md), .int .i64 (ms), .int .i64 (mp), .int .i64 (mw)] W0 := by
    rw [hW0]
    have h := Bl.new (w.alloc (.cells #[.int .i64 p, .int .i64 c, .int .i64 n, .int .i64 bd, .int .i64 r, .int .i64 f, .int .i64 g] 28)) [.int .i64 (ma), .int .i64 (mt), .int .i64 (md), .int .i64 (ms), .int .i64 (mp), .int .i64 (mw)] 38
    rw [World.size_alloc] at h
    exact h.below (by go_grown)
  have bR0 : Bl (w.heap.size + 1 + 1) [.int .i64 0, .int .i64 0, .int .i64 0, .int .i64 0, .int .i64 0, .int .i64 0, .int .i64 0, .int .i64 0, .int .i64 0] W0 := by
    rw [hW0]
    have h := Bl.new ((w.alloc (.cells #[.int .i64 p, .int .i64 c, .int .i64 n, .int .i64 bd, .int .i64 r, .int .i64 f, .int .i64 g] 28)).alloc (.cells #[.int .i64 ma, .int .i64 mt, .int .i64 md, .int .i64 ms, .int .i64 mp, .int .i64 mw] 38)) [.int .i64 0, .int .i64 0, .int .i64 0, .int .i64 0, .int .i64 0, .int .i64 0, .int .i64 0, .int .i64 0, .int .i64 0] 45
    rw [World.size_alloc, World.size_alloc] at h
    exact h.below (by go_grown)
  have bL0 : Bl (w.heap.size + 1 + 1 + 1) [.int .i64 1, .int .i64 1, .int .i64 1, .int .i64 2, .int .i64 3, .int .i64 4] W0 := by
    rw [hW0]
    have h := Bl.new (((w.alloc (.cells #[.int .i64 p, .int .i64 c, .int .i64 n, .int .i64 bd, .int .i64 r, .int .i64 f, .int .i64 g] 28)).alloc (.cells #[.int .i64 ma, .int .i64 mt, .int .i64 md, .int .i64 ms, .int .i64 mp, .int .i64 mw] 38)).alloc (.cells #[.int .i64 0, .int .i64 0, .int .i64 0, .int .i64 0, .int .i64 0, .int .i64 0, .int .i64 0, .int .i64 0, .int .i64 0] 45)) [.int .i64 1, .int .i64 1, .int .i64 1, .int .i64 2, .int .i64 3, .int .i64 4] 3
    rw [World.size_alloc, World.size_alloc, World.size_alloc] at h
    exact h
  have HK0 : Src w W0 b N := h0.keep (by rw [hW0]; go_grown)
  have hz0 : W0.heap.size = w.heap.size + 1 + 1 + 1 + 1 := by rw [hW0]; simp only [World.size_alloc]
  rw [← hW0]
  obtain ⟨L, hL⟩ : ∃ L, L = w.heap.size + 1 + 1 + 1 := ⟨_, rfl⟩
  obtain ⟨R, hR⟩ : ∃ R, R = w.heap.size + 1 + 1 := ⟨_, rfl⟩
  obtain ⟨B, hB⟩ : ∃ B, B = w.heap.size + 1 := ⟨_, rfl⟩
  obtain ⟨A, hA⟩ : ∃ A, A = w.heap.size := ⟨_, rfl⟩
  rw [← hL] at bL0 ⊢
  rw [← hR] at bR0 ⊢
  rw [← hB] at bB0 ⊢
  rw [← hA] at bA0
  have hwA : w.heap.size = A := hA.symm
  simp only [hwA]
  have eA : A ≠ b := by omega
  have eB : B ≠ b := by omega
  have eR : R ≠ b := by omega
  have eL : L ≠ b := by omega
  have eRw : w.heap.size ≤ R := by omega
  refine (pick_src b L N w W0 bL0 eL HK0).mono ?_
  rintro e v1 ⟨rfl, hs⟩
  have HK1a := HK0.step hs
  have bA1a := bA0.src hs eA
  have bB1a := bB0.src hs eB
  have bR1a := bR0.src hs eR
  have hz1 := hs.size
  have eT : v1.heap.size ≠ b := by omega
  have eTw : w.heap.size ≤ v1.heap.size := by omega
  have eTA : v1.heap.size ≠ A := by omega
  have eTB : v1.heap.size ≠ B := by omega
  have eTR : v1.heap.size ≠ R := by omega
  clear hs HK0 bA0 bB0 bR0 bL0 hz0 hz1 hL hR hB hA hW0 h0 hwA hbl hc hf eL
  have HNA := Lib.hid (show Below v1.heap.size v1 (v1.alloc (.cells #[.int .i64 (kd (bl (nx N) 6)), .int .i64 0, .int .i64 0, .int .i64 0, .int .i64 0, .int .i64 0, .int .i64 0, .int .i64 0, .int .i64 0] 45)) from by go_grown)
  have HK1 := HK1a.keep HNA.out
  have bA1 := bA1a.below HNA.out
  have bB1 := bB1a.below HNA.out
  have bR1 := bR1a.below HNA.out
  have bT1 := Bl.new v1 [.int .i64 (kd (bl (nx N) 6)), .int .i64 0, .int .i64 0, .int .i64 0, .int .i64 0, .int .i64 0, .int .i64 0, .int .i64 0, .int .i64 0] 45
  rw [hkd] at HNA HK1 bA1 bB1 bR1 bT1 ⊢
  have a1 := bA1a.cell 1 _ rfl
  have al := bA1a.lt
  clear HK1a bA1a bB1a bR1a HNA
  go_wp2_with fail
  clear a1 al
  generalize hW1 : v1.alloc (Obj.cells #[.int .i64 2, .int .i64 0, .int .i64 0, .int .i64 0, .int .i64 0, .int .i64 0, .int .i64 0, .int .i64 0, .int .i64 0] 45) = W1 at *
  clear hW1
  generalize v1.heap.size = T at *
  refine (below_src b (nx (N)) c w _ (by omega) HK1).mono ?_
  rintro e v2 ⟨rfl, hs⟩
  have HK2 := HK1.step hs
  have bA2 := bA1.src hs eA
  have bB2 := bB1.src hs eB
  have bR2 := bR1.src hs eR
  have bT2 := bT1.src hs eT
  clear hs HK1 bA1 bB1 bR1 bT1
  have q0 := bl_lo (nx (nx (nx (N)))) 3
  have q1 := bl_hi (nx (nx (nx (N)))) 3 (by omega)
  have t0 := bT2.cell 0 _ rfl
  have tf0 := bT2.frz 0
  have t1 := bT2.cell 1 _ rfl
  have tf1 := bT2.frz 1
  have t2 := bT2.cell 2 _ rfl
  have tf2 := bT2.frz 2
  have t3 := bT2.cell 3 _ rfl
  have tf3 := bT2.frz 3
  have t4 := bT2.cell 4 _ rfl
  have tf4 := bT2.frz 4
  have t5 := bT2.cell 5 _ rfl
  have tf5 := bT2.frz 5
  have t6 := bT2.cell 6 _ rfl
  have tf6 := bT2.frz 6
  have t7 := bT2.cell 7 _ rfl
  have tf7 := bT2.frz 7
  have t8 := bT2.cell 8 _ rfl
  have tf8 := bT2.frz 8
  have HK2s := HK2.far (p := ⟨T, 2, none⟩) eTw eT (.int .i64 (bl (nx (nx (N))) c))
  have bA2s := bA2.far (p := ⟨T, 2, none⟩) eTA (.int .i64 (bl (nx (nx (N))) c))
  have bB2s := bB2.far (p := ⟨T, 2, none⟩) eTB (.int .i64 (bl (nx (nx (N))) c))
  have bR2s := bR2.far (p := ⟨T, 2, none⟩) eTR (.int .i64 (bl (nx (nx (N))) c))
  have bT2s := bT2.set 2 (.int .i64 (bl (nx (nx (N))) c))
  clear HK2 bA2 bB2 bR2 bT2
  go_wp2_with fail
  clear t0 t1 t2 t3 t4 t5 t6 t7 t8 tf0 tf1 tf2 tf3 tf4 tf5 tf6 tf7 tf8
  have HK2 := HK2s
  have bA2 := bA2s
  have bB2 := bB2s
  have bR2 := bR2s
  have bT2 := bT2s
  clear HK2s bA2s bB2s bR2s bT2s
  refine (below_src b (nx (nx (N))) 3 w _ (by omega) HK2).mono ?_
  rintro e v3 ⟨rfl, hs⟩
  have HK3 := HK2.step hs
  have bA3 := bA2.src hs eA
  have bB3 := bB2.src hs eB
  have bR3 := bR2.src hs eR
  have bT3 := bT2.src hs eT
  clear hs HK2 bA2 bB2 bR2 bT2
  have t0 := bT3.cell 0 _ rfl
  have tf0 := bT3.frz 0
  have t1 := bT3.cell 1 _ rfl
  have tf1 := bT3.frz 1
  have t2 := bT3.cell 2 _ rfl
  have tf2 := bT3.frz 2
  have t3 := bT3.cell 3 _ rfl
  have tf3 := bT3.frz 3
  have t4 := bT3.cell 4 _ rfl
  have tf4 := bT3.frz 4
  have t5 := bT3.cell 5 _ rfl
  have tf5 := bT3.frz 5
  have t6 := bT3.cell 6 _ rfl
  have tf6 := bT3.frz 6
  have t7 := bT3.cell 7 _ rfl
  have tf7 := bT3.frz 7
  have t8 := bT3.cell 8 _ rfl
  have tf8 := bT3.frz 8
  have r0 := bR3.cell 0 _ rfl
  have rf0 := bR3.frz 0
  have r1 := bR3.cell 1 _ rfl
  have rf1 := bR3.frz 1
  have r2 := bR3.cell 2 _ rfl
  have rf2 := bR3.frz 2
  have r3 := bR3.cell 3 _ rfl
  have rf3 := bR3.frz 3
  have r4 := bR3.cell 4 _ rfl
  have rf4 := bR3.frz 4
  have r5 := bR3.cell 5 _ rfl
  have rf5 := bR3.frz 5
  have r6 := bR3.cell 6 _ rfl
  have rf6 := bR3.frz 6
  have r7 := bR3.cell 7 _ rfl
  have rf7 := bR3.frz 7
  have r8 := bR3.cell 8 _ rfl
  have rf8 := bR3.frz 8
  have HK3s := HK3.far (p := ⟨T, 1, none⟩) eTw eT (.int .i64 (id - 1 - bl (nx (nx (nx (N)))) 3))
  have bA3s := bA3.far (p := ⟨T, 1, none⟩) eTA (.int .i64 (id - 1 - bl (nx (nx (nx (N)))) 3))
  have bB3s := bB3.far (p := ⟨T, 1, none⟩) eTB (.int .i64 (id - 1 - bl (nx (nx (nx (N)))) 3))
  have bR3s := bR3.far (p := ⟨T, 1, none⟩) eTR (.int .i64 (id - 1 - bl (nx (nx (nx (N)))) 3))
  have bT3s := bT3.set 1 (.int .i64 (id - 1 - bl (nx (nx (nx (N)))) 3))
  clear HK3 bA3 bB3 bR3 bT3
  have HK3sr := HK3s.far (p := ⟨R, 0, none⟩) eRw eR (.int .i64 (2))
  have bR3sr := bR3s.set 0 (.int .i64 (2))
  clear HK3s bR3s
  have HK3srr := HK3sr.far (p := ⟨R, 1, none⟩) eRw eR (.int .i64 (id - 1 - bl (nx (nx (nx (N)))) 3))
  have bR3srr := bR3sr.set 1 (.int .i64 (id - 1 - bl (nx (nx (nx (N)))) 3))
  clear HK3sr bR3sr
  have HK3srrr := HK3srr.far (p := ⟨R, 2, none⟩) eRw eR (.int .i64 (bl (nx (nx (N))) c))
  have bR3srrr := bR3srr.set 2 (.int .i64 (bl (nx (nx (N))) c))
  clear HK3srr bR3srr
  have HK3srrrr := HK3srrr.far (p := ⟨R, 3, none⟩) eRw eR (.int .i64 (0))
  have bR3srrrr := bR3srrr.set 3 (.int .i64 (0))
  clear HK3srrr bR3srrr
  have HK3srrrrr := HK3srrrr.far (p := ⟨R, 4, none⟩) eRw eR (.int .i64 (0))
  have bR3srrrrr := bR3srrrr.set 4 (.int .i64 (0))
  clear HK3srrrr bR3srrrr
  have HK3srrrrrr := HK3srrrrr.far (p := ⟨R, 5, none⟩) eRw eR (.int .i64 (0))
  have bR3srrrrrr := bR3srrrrr.set 5 (.int .i64 (0))
  clear HK3srrrrr bR3srrrrr
  have HK3srrrrrrr := HK3srrrrrr.far (p := ⟨R, 6, none⟩) eRw eR (.int .i64 (0))
  have bR3srrrrrrr := bR3srrrrrr.set 6 (.int .i64 (0))
  clear HK3srrrrrr bR3srrrrrr
  have HK3srrrrrrrr := HK3srrrrrrr.far (p := ⟨R, 7, none⟩) eRw eR (.int .i64 (0))
  have bR3srrrrrrrr := bR3srrrrrrr.set 7 (.int .i64 (0))
  clear HK3srrrrrrr bR3srrrrrrr
  have HK3srrrrrrrrr := HK3srrrrrrrr.far (p := ⟨R, 8, none⟩) eRw eR (.int .i64 (0))
  have bR3srrrrrrrrr := bR3srrrrrrrr.set 8 (.int .i64 (0))
  clear HK3srrrrrrrr bR3srrrrrrrr
  have HKL := Lib.hid HK3srrrrrrrrr
  have bRL := Lib.hid bR3srrrrrrrrr
  clear HK3srrrrrrrrr bR3srrrrrrrrr
  go_wp2_with fail
  obtain ⟨tt, hh⟩ := bRL.out
  refine bodyPost_ret (results_cell_row rfl _ _ R _ _ (0, 0) _ rfl hh Try.underlying45 rfl (by kernel_rfl)) rfl ⟨rfl, HKL.out⟩
end Go.Proofs.Ytgakgnofflnjoaa
