/-
  A submit, drawn.
-/
import Derived.Test.YtgakgnofflnjoaaRows
import Derived.Test.YtgakgnofflnjoaaKit
import Derived.Test.YtgakgnofflnjoaaQuiet
import Derived.Test.YtgakgnofflnjoaaSt
import Derived.WalkKit
import Derived.ProofKit
import Derived.OpenShut
import Derived.ShutString
import Derived.Below
import Derived.Outline
import Derived.WalkLawsBesides
import Derived.WalkSpells
import Derived.Handy
import Derived.Deep.QuietTactic
import Derived.BigQuiet
import Derived.RegionTactic
import Derived.ChangeAlike
import Derived.Lib.Hide
import Derived.Laws.Rows
import Derived.Laws.Tables
import Derived.Laws.CopyOwn
import Derived.Laws.MakeOwn
import Derived.Laws.Entries
import Derived.Laws.OwnMore
import Derived.Deep.WholeRow
import Derived.Deep.LoopGhost
import Derived.Deep.AppendLies
import Derived.Deep.Draws
import Derived.Maps.AppendAt
import Derived.OwnWalk
import Derived.Deep.RegionHeld3
import Derived.Deep.Cut
import Derived.Deep.CutRange
import Derived.Deep.DeepCutAuto
import Derived.Deep.CutBlock
import Derived.Lib.SliceRun
import Derived.IntWalk
import Derived.Deep.RegionWith
import Derived.Test.YtgakgnofflnjoaaStA
import Derived.Test.YtgakgnofflnjoaaStT
import Derived.Test.YtgakgnofflnjoaaStK
namespace Go.Proofs.Ytgakgnofflnjoaa
open Go.ChangeShapes Go.WideShapes Go.ChangeAt Go.RowKit
set_option maxRecDepth 100000 in
set_option maxHeartbeats 8000000 in
theorem ask_sub (b : Nat) (N : Int) (p c n bd r f g ma mt md ms mp mw id now : Int) (w : World) (hc : w.cell? ⟨b, 0, none⟩ = some (.int .u64 N)) (hf : w.frozen? ⟨b, 0, none⟩ = false) (hcc : 1 ≤ c ∧ c ≤ 4) (hn : 1 ≤ n ∧ n ≤ 3) (hmp : -10000 ≤ mp ∧ mp ≤ 10000) (hmw : 0 ≤ mw ∧ mw ≤ 10000) (hid : 0 ≤ id ∧ id ≤ 1048576) (hnow : 0 ≤ now ∧ now ≤ 1000000) (hkd : kd (bl (nx N) 6) = 1) :
    Calls Try.prog 23 #[.agg #[.int .i64 p, .int .i64 c, .int .i64 n, .int .i64 bd, .int .i64 r, .int .i64 f, .int .i64 g], .pointer (some ⟨b, 0, none⟩), .agg #[.int .i64 ma, .int .i64 mt, .int .i64 md, .int .i64 ms, .int .i64 mp, .int .i64 mw], .int .i64 id, .int .i64 now] w fun e w' => e = .returned (.agg #[.int .i64 (1), .int .i64 (id), .int .i64 (bl (nx (nx (N))) c), .int .i64 (bl (nx (nx (nx (nx (N))))) n), .int .i64 (bl (nx (nx (nx (nx (nx (N)))))) 2), .int .i64 (hold3 (mp + bl (nx (nx (nx (nx (nx (nx (N))))))) (2 * mw + 1) - mw)), .int .i64 (1 + bl (nx (nx (nx (nx (nx (nx (nx (N)))))))) (1 + bl (nx (nx (nx (N)))) 9)), .int .i64 (hold2 (now + 1 + bl (nx (nx (nx (nx (nx (nx (nx (nx (N))))))))) 50)), .int .i64 (1 + bl (nx (nx (nx (N)))) 9)]) ∧ Src w w' b (nx (nx (nx (nx (nx (nx (nx (nx (N))))))))) := by
  have hbl := lt_of_cell hc
  have h0 := Src.refl hc hf
  obtain ⟨c1', c2'⟩ := hcc
  obtain ⟨p1, p2⟩ := hmp
  obtain ⟨i1, i2⟩ := hid
  obtain ⟨t1', t2'⟩ := hnow
  go_enter Try.func23, Try.ntmps23
  go_wp2_with fail
  obtain ⟨W0, hW0⟩ : ∃ W0, W0 = (((w.alloc (.cells #[.int .i64 p, .int .i64 c, .int .i64 n, .int .i64 bd, .int .i64 r, .int .i64 f, .int .i64 g] 28)).alloc (.cells #[.int .i64 ma, .int .i64 mt, .int .i64 md, .int .i64 ms, .int .i64 mp, .int .i64 mw] 38)).alloc (.cells #[.int .i64 0, .int .i64 0, .int .i64 0, .int .i64 0, .int .i64 0, .int .i64 0, .int .i64 0, .int .i64 0, .int .i64 0] 45)).alloc (.cells #[.int .i64 1, .int .i64 1, .int .i64 1, .int .i64 2, .int .i64 3, .int .i64 4] 3) := ⟨_, rfl⟩
  have bA0 : Bl w.heap.size [.int .i64 (p), .int .i64 (c), .int .i64 (n), .int .i64 (bd), .int .i64 (r), .int .i64 (f), .int .i64 (g)] W0 := by rw [hW0]; exact (Bl.new w [.int .i64 (p), .int .i64 (c), .int .i64 (n), .int .i64 (bd), .int .i64 (r), .int .i64 (f), .int .i64 (g)] 28).below (by go_grown)
  have bB0 : Bl (w.heap.size + 1) [.int .i64 (ma), .int .i64 (mt), .int .i64 (md), .int .i64 (ms), .int .i64 (mp), .int .i64 (mw)] W0 := by
    rw [hW0]
    have h := Bl.new (w.alloc (.cells #[.int .i64 p, .int .i64 c, .int .i64 n, .int .i64 bd, .int .i64 r, .int .i64 f, .int .i64 g] 28)) [.int .i64 (ma), .int .i64 (mt), .int .i64 (md), .int .i64 (ms), .int .i64 (mp), .int .i64 (mw)] 38
    rw [World.size_alloc] at h
    exact h.below (by go_grown)
  have bR0 : Bl (w.heap.size + 1 + 1) [.int .i64 0, .int .i64 0, .int .i64 0, .int .i64 0, .int .i64 0, .int .i64 0, .int .i64 0, .int .i64 0, .int .i64 0] W0 := by
    rw [hW0]
    have h := Bl.new ((w.alloc (.cells #[.int .i64 p, .int .i64 c, .int .i64 n, .int .i64 bd, .int .i64 r, .int .i64 f, .int .i64 g] 28)).alloc (.cells #[.int .i64 ma, .int .i64 mt, .int .i64 md, .int .i64 ms, .int .i64 mp, .int .i64 mw] 38)) [.int .i64 0, .int .i64 0, .int .i64 0, .int .i64 0, .int .i64 0, .int .i64 0, .int .i64 0, .int .i64 0, .int .i64 0] 45
    rw [World.size_alloc, World.size_alloc] at h
    exact h.below (by go_grown)
  have bL0 : Bl (w.heap.size + 1 + 1 + 1) [.int .i64 1, .int .i64 1, .int .i64 1, .int .i64 2, .int .i64 3, .int .i64 4] W0 := by
    rw [hW0]
    have h := Bl.new (((w.alloc (.cells #[.int .i64 p, .int .i64 c, .int .i64 n, .int .i64 bd, .int .i64 r, .int .i64 f, .int .i64 g] 28)).alloc (.cells #[.int .i64 ma, .int .i64 mt, .int .i64 md, .int .i64 ms, .int .i64 mp, .int .i64 mw] 38)).alloc (.cells #[.int .i64 0, .int .i64 0, .int .i64 0, .int .i64 0, .int .i64 0, .int .i64 0, .int .i64 0, .int .i64 0, .int .i64 0] 45)) [.int .i64 1, .int .i64 1, .int .i64 1, .int .i64 2, .int .i64 3, .int .i64 4] 3
    rw [World.size_alloc, World.size_alloc, World.size_alloc] at h
    exact h
  have HK0 : Src w W0 b N := h0.keep (by rw [hW0]; go_grown)
  have hz0 : W0.heap.size = w.heap.size + 1 + 1 + 1 + 1 := by rw [hW0]; simp only [World.size_alloc]
  rw [← hW0]
  obtain ⟨L, hL⟩ : ∃ L, L = w.heap.size + 1 + 1 + 1 := ⟨_, rfl⟩
  obtain ⟨R, hR⟩ : ∃ R, R = w.heap.size + 1 + 1 := ⟨_, rfl⟩
  obtain ⟨B, hB⟩ : ∃ B, B = w.heap.size + 1 := ⟨_, rfl⟩
  obtain ⟨A, hA⟩ : ∃ A, A = w.heap.size := ⟨_, rfl⟩
  rw [← hL] at bL0 ⊢
  rw [← hR] at bR0 ⊢
  rw [← hB] at bB0 ⊢
  rw [← hA] at bA0
  have hwA : w.heap.size = A := hA.symm
  simp only [hwA]
  have eA : A ≠ b := by omega
  have eB : B ≠ b := by omega
  have eR : R ≠ b := by omega
  have eL : L ≠ b := by omega
  have eRw : w.heap.size ≤ R := by omega
  refine (pick_src b L N w W0 bL0 eL HK0).mono ?_
  rintro e v1 ⟨rfl, hs⟩
  have HK1a := HK0.step hs
  have bA1a := bA0.src hs eA
  have bB1a := bB0.src hs eB
  have bR1a := bR0.src hs eR
  have hz1 := hs.size
  have eT : v1.heap.size ≠ b := by omega
  have eTw : w.heap.size ≤ v1.heap.size := by omega
  have eTA : v1.heap.size ≠ A := by omega
  have eTB : v1.heap.size ≠ B := by omega
  have eTR : v1.heap.size ≠ R := by omega
  clear hs HK0 bA0 bB0 bR0 bL0 hz0 hz1 hL hR hB hA hW0 h0 hwA hbl hc hf eL
  have HNA := Lib.hid (show Below v1.heap.size v1 (v1.alloc (.cells #[.int .i64 (kd (bl (nx N) 6)), .int .i64 0, .int .i64 0, .int .i64 0, .int .i64 0, .int .i64 0, .int .i64 0, .int .i64 0, .int .i64 0] 45)) from by go_grown)
  have HK1 := HK1a.keep HNA.out
  have bA1 := bA1a.below HNA.out
  have bB1 := bB1a.below HNA.out
  have bR1 := bR1a.below HNA.out
  have bT1 := Bl.new v1 [.int .i64 (kd (bl (nx N) 6)), .int .i64 0, .int .i64 0, .int .i64 0, .int .i64 0, .int .i64 0, .int .i64 0, .int .i64 0, .int .i64 0] 45
  rw [hkd] at HNA HK1 bA1 bB1 bR1 bT1 ⊢
  have a1 := bA1a.cell 1 _ rfl
  have al := bA1a.lt
  clear HK1a bA1a bB1a bR1a HNA
  go_wp2_with fail
  clear a1 al
  generalize hW1 : v1.alloc (Obj.cells #[.int .i64 1, .int .i64 0, .int .i64 0, .int .i64 0, .int .i64 0, .int .i64 0, .int .i64 0, .int .i64 0, .int .i64 0] 45) = W1 at *
  clear hW1
  generalize v1.heap.size = T at *
  refine (below_src b (nx (N)) c w _ (by omega) HK1).mono ?_
  rintro e v2 ⟨rfl, hs⟩
  have HK2 := HK1.step hs
  have bA2 := bA1.src hs eA
  have bB2 := bB1.src hs eB
  have bR2 := bR1.src hs eR
  have bT2 := bT1.src hs eT
  clear hs HK1 bA1 bB1 bR1 bT1
  generalize h_y1 : bl (nx (nx (N))) c = y1 at *
  have H_y1 := Lib.hid h_y1
  clear h_y1
  have t0 := bT2.cell 0 _ rfl
  have tf0 := bT2.frz 0
  have t1 := bT2.cell 1 _ rfl
  have tf1 := bT2.frz 1
  have t2 := bT2.cell 2 _ rfl
  have tf2 := bT2.frz 2
  have t3 := bT2.cell 3 _ rfl
  have tf3 := bT2.frz 3
  have t4 := bT2.cell 4 _ rfl
  have tf4 := bT2.frz 4
  have t5 := bT2.cell 5 _ rfl
  have tf5 := bT2.frz 5
  have t6 := bT2.cell 6 _ rfl
  have tf6 := bT2.frz 6
  have t7 := bT2.cell 7 _ rfl
  have tf7 := bT2.frz 7
  have t8 := bT2.cell 8 _ rfl
  have tf8 := bT2.frz 8
  have HK2s := HK2.far (p := ⟨T, 2, none⟩) eTw eT (.int .i64 (y1))
  have bA2s := bA2.far (p := ⟨T, 2, none⟩) eTA (.int .i64 (y1))
  have bB2s := bB2.far (p := ⟨T, 2, none⟩) eTB (.int .i64 (y1))
  have bR2s := bR2.far (p := ⟨T, 2, none⟩) eTR (.int .i64 (y1))
  have bT2s := bT2.set 2 (.int .i64 (y1))
  clear HK2 bA2 bB2 bR2 bT2
  have HK2ss := HK2s.far (p := ⟨T, 1, none⟩) eTw eT (.int .i64 (id))
  have bA2ss := bA2s.far (p := ⟨T, 1, none⟩) eTA (.int .i64 (id))
  have bB2ss := bB2s.far (p := ⟨T, 1, none⟩) eTB (.int .i64 (id))
  have bR2ss := bR2s.far (p := ⟨T, 1, none⟩) eTR (.int .i64 (id))
  have bT2ss := bT2s.set 1 (.int .i64 (id))
  clear HK2s bA2s bB2s bR2s bT2s
  go_wp2_with fail
  clear t0 t1 t2 t3 t4 t5 t6 t7 t8 tf0 tf1 tf2 tf3 tf4 tf5 tf6 tf7 tf8
  have HK2 := HK2ss
  have bA2 := bA2ss
  have bB2 := bB2ss
  have bR2 := bR2ss
  have bT2 := bT2ss
  clear HK2ss bA2ss bB2ss bR2ss bT2ss
  refine (below_src b (nx (nx (N))) 9 w _ (by omega) HK2).mono ?_
  rintro e v3 ⟨rfl, hs⟩
  have HK3 := HK2.step hs
  have bA3 := bA2.src hs eA
  have bB3 := bB2.src hs eB
  have bR3 := bR2.src hs eR
  have bT3 := bT2.src hs eT
  clear hs HK2 bA2 bB2 bR2 bT2
  have q0 := bl_lo (nx (nx (nx (N)))) 9
  have q1 := bl_hi (nx (nx (nx (N)))) 9 (by omega)
  generalize h_y2 : bl (nx (nx (nx (N)))) 9 = y2 at *
  have H_y2 := Lib.hid h_y2
  clear h_y2
  have t0 := bT3.cell 0 _ rfl
  have tf0 := bT3.frz 0
  have t1 := bT3.cell 1 _ rfl
  have tf1 := bT3.frz 1
  have t2 := bT3.cell 2 _ rfl
  have tf2 := bT3.frz 2
  have t3 := bT3.cell 3 _ rfl
  have tf3 := bT3.frz 3
  have t4 := bT3.cell 4 _ rfl
  have tf4 := bT3.frz 4
  have t5 := bT3.cell 5 _ rfl
  have tf5 := bT3.frz 5
  have t6 := bT3.cell 6 _ rfl
  have tf6 := bT3.frz 6
  have t7 := bT3.cell 7 _ rfl
  have tf7 := bT3.frz 7
  have t8 := bT3.cell 8 _ rfl
  have tf8 := bT3.frz 8
  have m0 := bB3.cell 0 _ rfl
  have m1 := bB3.cell 1 _ rfl
  have m2 := bB3.cell 2 _ rfl
  have m3 := bB3.cell 3 _ rfl
  have m4 := bB3.cell 4 _ rfl
  have m5 := bB3.cell 5 _ rfl
  have a0 := bA3.cell 0 _ rfl
  have a1 := bA3.cell 1 _ rfl
  have a2 := bA3.cell 2 _ rfl
  have a3 := bA3.cell 3 _ rfl
  have a4 := bA3.cell 4 _ rfl
  have a5 := bA3.cell 5 _ rfl
  have a6 := bA3.cell 6 _ rfl
  have al := bA3.lt
  have ml := bB3.lt
  have HK3s := HK3.far (p := ⟨T, 8, none⟩) eTw eT (.int .i64 (1 + y2))
  have bA3s := bA3.far (p := ⟨T, 8, none⟩) eTA (.int .i64 (1 + y2))
  have bB3s := bB3.far (p := ⟨T, 8, none⟩) eTB (.int .i64 (1 + y2))
  have bR3s := bR3.far (p := ⟨T, 8, none⟩) eTR (.int .i64 (1 + y2))
  have bT3s := bT3.set 8 (.int .i64 (1 + y2))
  clear HK3 bA3 bB3 bR3 bT3
  go_wp2_with fail
  clear t0 t1 t2 t3 t4 t5 t6 t7 t8 tf0 tf1 tf2 tf3 tf4 tf5 tf6 tf7 tf8
  clear m0 m1 m2 m3 m4 m5
  clear a0 a1 a2 a3 a4 a5 a6
  clear al ml
  have HK3 := HK3s
  have bA3 := bA3s
  have bB3 := bB3s
  have bR3 := bR3s
  have bT3 := bT3s
  clear HK3s bA3s bB3s bR3s bT3s
  refine (terms_is b (nx (nx (nx (N)))) p c n bd r f g ma mt md ms mp mw (1 + y2) now _ HK3.c HK3.f hn ⟨p1, p2⟩ hmw ⟨by omega, by omega⟩ ⟨t1', t2'⟩).mono ?_
  rintro e v4 ⟨rfl, hs⟩
  have HK4 := HK3.step hs
  have bA4 := bA3.src hs eA
  have bB4 := bB3.src hs eB
  have bR4 := bR3.src hs eR
  have bT4 := bT3.src hs eT
  clear hs HK3 bA3 bB3 bR3 bT3
  generalize h_z0 : bl (nx (nx (nx (nx (N))))) n = z0 at *
  have H_z0 := Lib.hid h_z0
  clear h_z0
  generalize h_z1 : bl (nx (nx (nx (nx (nx (N)))))) 2 = z1 at *
  have H_z1 := Lib.hid h_z1
  clear h_z1
  generalize h_z2 : hold3 (mp + bl (nx (nx (nx (nx (nx (nx (N))))))) (2 * mw + 1) - mw) = z2 at *
  have H_z2 := Lib.hid h_z2
  clear h_z2
  generalize h_z3 : bl (nx (nx (nx (nx (nx (nx (nx (N)))))))) (1 + y2) = z3 at *
  have H_z3 := Lib.hid h_z3
  clear h_z3
  generalize h_z4 : hold2 (now + 1 + bl (nx (nx (nx (nx (nx (nx (nx (nx (N))))))))) 50) = z4 at *
  have H_z4 := Lib.hid h_z4
  clear h_z4
  generalize h_z5 : 1 + z3 = z5 at *
  have H_z5 := Lib.hid h_z5
  clear h_z5
  have t0 := bT4.cell 0 _ rfl
  have tf0 := bT4.frz 0
  have t1 := bT4.cell 1 _ rfl
  have tf1 := bT4.frz 1
  have t2 := bT4.cell 2 _ rfl
  have tf2 := bT4.frz 2
  have t3 := bT4.cell 3 _ rfl
  have tf3 := bT4.frz 3
  have t4 := bT4.cell 4 _ rfl
  have tf4 := bT4.frz 4
  have t5 := bT4.cell 5 _ rfl
  have tf5 := bT4.frz 5
  have t6 := bT4.cell 6 _ rfl
  have tf6 := bT4.frz 6
  have t7 := bT4.cell 7 _ rfl
  have tf7 := bT4.frz 7
  have t8 := bT4.cell 8 _ rfl
  have tf8 := bT4.frz 8
  have HK4s := HK4.far (p := ⟨T, 3, none⟩) eTw eT (.int .i64 (z0))
  have bA4s := bA4.far (p := ⟨T, 3, none⟩) eTA (.int .i64 (z0))
  have bB4s := bB4.far (p := ⟨T, 3, none⟩) eTB (.int .i64 (z0))
  have bR4s := bR4.far (p := ⟨T, 3, none⟩) eTR (.int .i64 (z0))
  have bT4s := bT4.set 3 (.int .i64 (z0))
  clear HK4 bA4 bB4 bR4 bT4
  have HK4ss := HK4s.far (p := ⟨T, 4, none⟩) eTw eT (.int .i64 (z1))
  have bA4ss := bA4s.far (p := ⟨T, 4, none⟩) eTA (.int .i64 (z1))
  have bB4ss := bB4s.far (p := ⟨T, 4, none⟩) eTB (.int .i64 (z1))
  have bR4ss := bR4s.far (p := ⟨T, 4, none⟩) eTR (.int .i64 (z1))
  have bT4ss := bT4s.set 4 (.int .i64 (z1))
  clear HK4s bA4s bB4s bR4s bT4s
  have HK4sss := HK4ss.far (p := ⟨T, 5, none⟩) eTw eT (.int .i64 (z2))
  have bA4sss := bA4ss.far (p := ⟨T, 5, none⟩) eTA (.int .i64 (z2))
  have bB4sss := bB4ss.far (p := ⟨T, 5, none⟩) eTB (.int .i64 (z2))
  have bR4sss := bR4ss.far (p := ⟨T, 5, none⟩) eTR (.int .i64 (z2))
  have bT4sss := bT4ss.set 5 (.int .i64 (z2))
  clear HK4ss bA4ss bB4ss bR4ss bT4ss
  have HK4ssss := HK4sss.far (p := ⟨T, 6, none⟩) eTw eT (.int .i64 (z5))
  have bA4ssss := bA4sss.far (p := ⟨T, 6, none⟩) eTA (.int .i64 (z5))
  have bB4ssss := bB4sss.far (p := ⟨T, 6, none⟩) eTB (.int .i64 (z5))
  have bR4ssss := bR4sss.far (p := ⟨T, 6, none⟩) eTR (.int .i64 (z5))
  have bT4ssss := bT4sss.set 6 (.int .i64 (z5))
  clear HK4sss bA4sss bB4sss bR4sss bT4sss
  have HK4sssss := HK4ssss.far (p := ⟨T, 7, none⟩) eTw eT (.int .i64 (z4))
  have bA4sssss := bA4ssss.far (p := ⟨T, 7, none⟩) eTA (.int .i64 (z4))
  have bB4sssss := bB4ssss.far (p := ⟨T, 7, none⟩) eTB (.int .i64 (z4))
  have bR4sssss := bR4ssss.far (p := ⟨T, 7, none⟩) eTR (.int .i64 (z4))
  have bT4sssss := bT4ssss.set 7 (.int .i64 (z4))
  clear HK4ssss bA4ssss bB4ssss bR4ssss bT4ssss
  go_upto_region 10 with fail
  clear t0 t1 t2 t3 t4 t5 t6 t7 t8 tf0 tf1 tf2 tf3 tf4 tf5 tf6 tf7 tf8
  generalize (((((v4.setCell ⟨T, 3, none⟩ (.int .i64 (z0))).setCell ⟨T, 4, none⟩ (.int .i64 (z1))).setCell ⟨T, 5, none⟩ (.int .i64 (z2))).setCell ⟨T, 6, none⟩ (.int .i64 (z5))).setCell ⟨T, 7, none⟩ (.int .i64 (z4))) = W8 at *
  have HK8 := HK4sssss
  have bA8 := bA4sssss
  have bB8 := bB4sssss
  have bR8 := bR4sssss
  have bT8 := bT4sssss
  clear HK4sssss bA4sssss bB4sssss bR4sssss bT4sssss bA8 bB8
  have t0 := bT8.cell 0 _ rfl
  have tf0 := bT8.frz 0
  have t1 := bT8.cell 1 _ rfl
  have tf1 := bT8.frz 1
  have t2 := bT8.cell 2 _ rfl
  have tf2 := bT8.frz 2
  have t3 := bT8.cell 3 _ rfl
  have tf3 := bT8.frz 3
  have t4 := bT8.cell 4 _ rfl
  have tf4 := bT8.frz 4
  have t5 := bT8.cell 5 _ rfl
  have tf5 := bT8.frz 5
  have t6 := bT8.cell 6 _ rfl
  have tf6 := bT8.frz 6
  have t7 := bT8.cell 7 _ rfl
  have tf7 := bT8.frz 7
  have t8 := bT8.cell 8 _ rfl
  have tf8 := bT8.frz 8
  have r0 := bR8.cell 0 _ rfl
  have rf0 := bR8.frz 0
  have r1 := bR8.cell 1 _ rfl
  have rf1 := bR8.frz 1
  have r2 := bR8.cell 2 _ rfl
  have rf2 := bR8.frz 2
  have r3 := bR8.cell 3 _ rfl
  have rf3 := bR8.frz 3
  have r4 := bR8.cell 4 _ rfl
  have rf4 := bR8.frz 4
  have r5 := bR8.cell 5 _ rfl
  have rf5 := bR8.frz 5
  have r6 := bR8.cell 6 _ rfl
  have rf6 := bR8.frz 6
  have r7 := bR8.cell 7 _ rfl
  have rf7 := bR8.frz 7
  have r8 := bR8.cell 8 _ rfl
  have rf8 := bR8.frz 8
  have HK8r := HK8.far (p := ⟨R, 0, none⟩) eRw eR (.int .i64 (1))
  have bR8r := bR8.set 0 (.int .i64 (1))
  clear HK8 bR8
  have HK8rr := HK8r.far (p := ⟨R, 1, none⟩) eRw eR (.int .i64 (id))
  have bR8rr := bR8r.set 1 (.int .i64 (id))
  clear HK8r bR8r
  have HK8rrr := HK8rr.far (p := ⟨R, 2, none⟩) eRw eR (.int .i64 (y1))
  have bR8rrr := bR8rr.set 2 (.int .i64 (y1))
  clear HK8rr bR8rr
  have HK8rrrr := HK8rrr.far (p := ⟨R, 3, none⟩) eRw eR (.int .i64 (z0))
  have bR8rrrr := bR8rrr.set 3 (.int .i64 (z0))
  clear HK8rrr bR8rrr
  have HK8rrrrr := HK8rrrr.far (p := ⟨R, 4, none⟩) eRw eR (.int .i64 (z1))
  have bR8rrrrr := bR8rrrr.set 4 (.int .i64 (z1))
  clear HK8rrrr bR8rrrr
  have HK8rrrrrr := HK8rrrrr.far (p := ⟨R, 5, none⟩) eRw eR (.int .i64 (z2))
  have bR8rrrrrr := bR8rrrrr.set 5 (.int .i64 (z2))
  clear HK8rrrrr bR8rrrrr
  have HK8rrrrrrr := HK8rrrrrr.far (p := ⟨R, 6, none⟩) eRw eR (.int .i64 (z5))
  have bR8rrrrrrr := bR8rrrrrr.set 6 (.int .i64 (z5))
  clear HK8rrrrrr bR8rrrrrr
  have HK8rrrrrrrr := HK8rrrrrrr.far (p := ⟨R, 7, none⟩) eRw eR (.int .i64 (z4))
  have bR8rrrrrrrr := bR8rrrrrrr.set 7 (.int .i64 (z4))
  clear HK8rrrrrrr bR8rrrrrrr
  have HK8rrrrrrrrr := HK8rrrrrrrr.far (p := ⟨R, 8, none⟩) eRw eR (.int .i64 (1 + y2))
  have bR8rrrrrrrrr := bR8rrrrrrrr.set 8 (.int .i64 (1 + y2))
  clear HK8rrrrrrrr bR8rrrrrrrr
  have HKL := Lib.hid HK8rrrrrrrrr
  have bRL := Lib.hid bR8rrrrrrrrr
  clear HK8rrrrrrrrr bR8rrrrrrrrr
  go_wp2_with fail
  obtain ⟨tt, hh⟩ := bRL.out
  refine bodyPost_ret (results_cell_row rfl _ _ R _ _ (0, 0) _ rfl hh Try.underlying45 rfl (by kernel_rfl)) rfl ⟨by rw [← H_z5.out, ← H_z4.out, ← H_z3.out, ← H_z2.out, ← H_z1.out, ← H_z0.out, ← H_y2.out, ← H_y1.out]; rfl, HKL.out⟩
end Go.Proofs.Ytgakgnofflnjoaa
