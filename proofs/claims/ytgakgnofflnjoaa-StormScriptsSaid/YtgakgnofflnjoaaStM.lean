/-
  A submit that the document asks, drawn.
-/
import Derived.Test.YtgakgnofflnjoaaRows
import Derived.Test.YtgakgnofflnjoaaKit
import Derived.Test.YtgakgnofflnjoaaQuiet
import Derived.Test.YtgakgnofflnjoaaSt
import Derived.WalkKit
import Derived.ProofKit
import Derived.OpenShut
import Derived.ShutString
import Derived.Below
import Derived.Outline
import Derived.WalkLawsBesides
import Derived.WalkSpells
import Derived.Handy
import Derived.Deep.QuietTactic
import Derived.BigQuiet
import Derived.RegionTactic
import Derived.ChangeAlike
import Derived.Lib.Hide
import Derived.Laws.Rows
import Derived.Laws.Tables
import Derived.Laws.CopyOwn
import Derived.Laws.MakeOwn
import Derived.Laws.Entries
import Derived.Laws.OwnMore
import Derived.Deep.WholeRow
import Derived.Deep.LoopGhost
import Derived.Deep.AppendLies
import Derived.Deep.Draws
import Derived.Maps.AppendAt
import Derived.OwnWalk
import Derived.Deep.RegionHeld3
import Derived.Deep.Cut
import Derived.Deep.CutRange
import Derived.Deep.DeepCutAuto
import Derived.Deep.CutBlock
import Derived.Lib.SliceRun
import Derived.IntWalk
import Derived.Deep.RegionWith
import Derived.Test.YtgakgnofflnjoaaStA
import Derived.Test.YtgakgnofflnjoaaStT
import Derived.Test.YtgakgnofflnjoaaStK
import Derived.Test.YtgakgnofflnjoaaStR
import Derived.Test.YtgakgnofflnjoaaStL
namespace Go.Proofs.Ytgakgnofflnjoaa
open Go.ChangeShapes Go.WideShapes Go.ChangeAt Go.RowKit
theorem keep2 {T B : Nat} {w : World} {u a c : Value} (h : T ≠ B) (hS : w.cell? ⟨B, 4, none⟩ = some a ∧ w.cell? ⟨B, 5, none⟩ = some c) : (w.setCell ⟨T, 5, none⟩ u).cell? ⟨B, 4, none⟩ = some a ∧ (w.setCell ⟨T, 5, none⟩ u).cell? ⟨B, 5, none⟩ = some c := by
  constructor
  · rw [World.cell?_setCell_other _ _ _ _ (by intro e; injection e with e; exact h e)]; exact hS.1
  · rw [World.cell?_setCell_other _ _ _ _ (by intro e; injection e with e; exact h e)]; exact hS.2
set_option maxRecDepth 100000 in
set_option maxHeartbeats 8000000 in
theorem ref_sub (b : Nat) (N : Int) (p c n bd r f g ma mt md ms mp mw id now : Int) (w : World) (hc : w.cell? ⟨b, 0, none⟩ = some (.int .u64 N)) (hf : w.frozen? ⟨b, 0, none⟩ = false) (hcc : 1 ≤ c ∧ c ≤ 4) (hn : 1 ≤ n ∧ n ≤ 3) (hmp : -10000 ≤ mp ∧ mp ≤ 10000) (hmw : 0 ≤ mw ∧ mw ≤ 10000) (hid : 0 ≤ id ∧ id ≤ 1048576) (hnow : 0 ≤ now ∧ now ≤ 1000000) (hkd : kd (bl (nx N) 6) = 1) :
    Calls Try.prog 21 #[.agg #[.int .i64 p, .int .i64 c, .int .i64 n, .int .i64 bd, .int .i64 r, .int .i64 f, .int .i64 g], .pointer (some ⟨b, 0, none⟩), .agg #[.int .i64 ma, .int .i64 mt, .int .i64 md, .int .i64 ms, .int .i64 mp, .int .i64 mw], .int .i64 id, .int .i64 now] w fun e w' => e = .returned (.agg #[.int .i64 (1), .int .i64 (id), .int .i64 (bl (nx (nx (N))) c), .int .i64 (bl (nx (nx (nx (nx (N))))) n), .int .i64 (bl (nx (nx (nx (nx (nx (N)))))) 2), .int .i64 (holdS (mp + bl (nx (nx (nx (nx (nx (nx (N))))))) (2 * mw + 1) - mw) 1 9999), .int .i64 (1 + bl (nx (nx (nx (nx (nx (nx (nx (N)))))))) (1 + bl (nx (nx (nx (N)))) 9)), .int .i64 (holdS (now + 1 + bl (nx (nx (nx (nx (nx (nx (nx (nx (N))))))))) 50) now 1000000), .int .i64 (1 + bl (nx (nx (nx (N)))) 9)]) ∧ Src w w' b (nx (nx (nx (nx (nx (nx (nx (nx (N))))))))) := by
  have hbl := lt_of_cell hc
  have h0 := Src.refl hc hf
  obtain ⟨c1', c2'⟩ := hcc
  obtain ⟨p1, p2⟩ := hmp
  obtain ⟨i1, i2⟩ := hid
  obtain ⟨t1', t2'⟩ := hnow
  go_enter Try.func21, Try.ntmps21
  go_wp2_with fail
  obtain ⟨W0, hW0⟩ : ∃ W0, W0 = (((w.alloc (.cells #[.int .i64 p, .int .i64 c, .int .i64 n, .int .i64 bd, .int .i64 r, .int .i64 f, .int .i64 g] 23)).alloc (.cells #[.int .i64 ma, .int .i64 mt, .int .i64 md, .int .i64 ms, .int .i64 mp, .int .i64 mw] 26)).alloc (.cells #[.int .i64 0, .int .i64 0, .int .i64 0, .int .i64 0, .int .i64 0, .int .i64 0, .int .i64 0, .int .i64 0, .int .i64 0] 65)).alloc (.cells #[.int .i64 1, .int .i64 1, .int .i64 1, .int .i64 2, .int .i64 3, .int .i64 4] 3) := ⟨_, rfl⟩
  have bA0 : Bl w.heap.size [.int .i64 (p), .int .i64 (c), .int .i64 (n), .int .i64 (bd), .int .i64 (r), .int .i64 (f), .int .i64 (g)] W0 := by rw [hW0]; exact (Bl.new w [.int .i64 (p), .int .i64 (c), .int .i64 (n), .int .i64 (bd), .int .i64 (r), .int .i64 (f), .int .i64 (g)] 23).below (by go_grown)
  have bB0 : Bl (w.heap.size + 1) [.int .i64 (ma), .int .i64 (mt), .int .i64 (md), .int .i64 (ms), .int .i64 (mp), .int .i64 (mw)] W0 := by
    rw [hW0]
    have h := Bl.new (w.alloc (.cells #[.int .i64 p, .int .i64 c, .int .i64 n, .int .i64 bd, .int .i64 r, .int .i64 f, .int .i64 g] 23)) [.int .i64 (ma), .int .i64 (mt), .int .i64 (md), .int .i64 (ms), .int .i64 (mp), .int .i64 (mw)] 26
    rw [World.size_alloc] at h
    exact h.below (by go_grown)
  have bR0 : Bl (w.heap.size + 1 + 1) [.int .i64 0, .int .i64 0, .int .i64 0, .int .i64 0, .int .i64 0, .int .i64 0, .int .i64 0, .int .i64 0, .int .i64 0] W0 := by
    rw [hW0]
    have h := Bl.new ((w.alloc (.cells #[.int .i64 p, .int .i64 c, .int .i64 n, .int .i64 bd, .int .i64 r, .int .i64 f, .int .i64 g] 23)).alloc (.cells #[.int .i64 ma, .int .i64 mt, .int .i64 md, .int .i64 ms, .int .i64 mp, .int .i64 mw] 26)) [.int .i64 0, .int .i64 0, .int .i64 0, .int .i64 0, .int .i64 0, .int .i64 0, .int .i64 0, .int .i64 0, .int .i64 0] 65
    rw [World.size_alloc, World.size_alloc] at h
    exact h.below (by go_grown)
  have bL0 : Bl (w.heap.size + 1 + 1 + 1) [.int .i64 1, .int .i64 1, .int .i64 1, .int .i64 2, .int .i64 3, .int .i64 4] W0 := by
    rw [hW0]
    have h := Bl.new (((w.alloc (.cells #[.int .i64 p, .int .i64 c, .int .i64 n, .int .i64 bd, .int .i64 r, .int .i64 f, .int .i64 g] 23)).alloc (.cells #[.int .i64 ma, .int .i64 mt, .int .i64 md, .int .i64 ms, .int .i64 mp, .int .i64 mw] 26)).alloc (.cells #[.int .i64 0, .int .i64 0, .int .i64 0, .int .i64 0, .int .i64 0, .int .i64 0, .int .i64 0, .int .i64 0, .int .i64 0] 65)) [.int .i64 1, .int .i64 1, .int .i64 1, .int .i64 2, .int .i64 3, .int .i64 4] 3
    rw [World.size_alloc, World.size_alloc, World.size_alloc] at h
    exact h
  have HK0 : Src w W0 b N := h0.keep (by rw [hW0]; go_grown)
  have hz0 : W0.heap.size = w.heap.size + 1 + 1 + 1 + 1 := by rw [hW0]; simp only [World.size_alloc]
  rw [← hW0]
  obtain ⟨L, hL⟩ : ∃ L, L = w.heap.size + 1 + 1 + 1 := ⟨_, rfl⟩
  obtain ⟨R, hR⟩ : ∃ R, R = w.heap.size + 1 + 1 := ⟨_, rfl⟩
  obtain ⟨B, hB⟩ : ∃ B, B = w.heap.size + 1 := ⟨_, rfl⟩
  obtain ⟨A, hA⟩ : ∃ A, A = w.heap.size := ⟨_, rfl⟩
  rw [← hL] at bL0 ⊢
  rw [← hR] at bR0 ⊢
  rw [← hB] at bB0 ⊢
  rw [← hA] at bA0
  have hwA : w.heap.size = A := hA.symm
  simp only [hwA]
  have eA : A ≠ b := by omega
  have eB : B ≠ b := by omega
  have eR : R ≠ b := by omega
  have eL : L ≠ b := by omega
  have eRw : w.heap.size ≤ R := by omega
  refine (below_ref b N 6 w W0 (by omega) HK0).mono ?_
  rintro e v1 ⟨rfl, hs⟩
  have HK1a := HK0.step hs
  have bA1a := bA0.src hs eA
  have bB1a := bB0.src hs eB
  have bR1a := bR0.src hs eR
  have bL1 := bL0.src hs eL
  have k0 := bl_lo (nx N) 6
  have k1 := bl_hi (nx N) 6 (by omega)
  have lk := bL1.cell _ _ (kd_at _ k0 k1)
  have hz1 := hs.size
  have eT : v1.heap.size ≠ b := by omega
  have eTw : w.heap.size ≤ v1.heap.size := by omega
  have eTA : v1.heap.size ≠ A := by omega
  have eTB : v1.heap.size ≠ B := by omega
  have eTR : v1.heap.size ≠ R := by omega
  clear hs HK0 bA0 bB0 bR0 bL0 hz0 hz1 hL hR hB hA hW0 h0 hwA hbl hc hf eL
  have HNA := Lib.hid (show Below v1.heap.size v1 (v1.alloc (.cells #[.int .i64 (kd (bl (nx N) 6)), .int .i64 0, .int .i64 0, .int .i64 0, .int .i64 0, .int .i64 0, .int .i64 0, .int .i64 0, .int .i64 0] 65)) from by go_grown)
  have HK1 := HK1a.keep HNA.out
  have bA1 := bA1a.below HNA.out
  have bB1 := bB1a.below HNA.out
  have bR1 := bR1a.below HNA.out
  have bT1 := Bl.new v1 [.int .i64 (kd (bl (nx N) 6)), .int .i64 0, .int .i64 0, .int .i64 0, .int .i64 0, .int .i64 0, .int .i64 0, .int .i64 0, .int .i64 0] 65
  rw [hkd] at HNA HK1 bA1 bB1 bR1 bT1 lk
  have ll := bL1.lt
  have a1 := bA1a.cell 1 _ rfl
  have al := bA1a.lt
  clear HK1a bA1a bB1a bR1a HNA
  go_wp2_with fail
  clear a1 al lk ll bL1 k0 k1
  generalize hW1 : v1.alloc (Obj.cells #[.int .i64 1, .int .i64 0, .int .i64 0, .int .i64 0, .int .i64 0, .int .i64 0, .int .i64 0, .int .i64 0, .int .i64 0] 65) = W1 at *
  clear hW1
  generalize v1.heap.size = T at *
  refine (below_ref b (nx (N)) c w _ (by omega) HK1).mono ?_
  rintro e v2 ⟨rfl, hs⟩
  have HK2 := HK1.step hs
  have bA2 := bA1.src hs eA
  have bB2 := bB1.src hs eB
  have bR2 := bR1.src hs eR
  have bT2 := bT1.src hs eT
  clear hs HK1 bA1 bB1 bR1 bT1
  generalize h_y1 : bl (nx (nx (N))) c = y1 at *
  have H_y1 := Lib.hid h_y1
  clear h_y1
  have t0 := bT2.cell 0 _ rfl
  have tf0 := bT2.frz 0
  have t1 := bT2.cell 1 _ rfl
  have tf1 := bT2.frz 1
  have t2 := bT2.cell 2 _ rfl
  have tf2 := bT2.frz 2
  have t3 := bT2.cell 3 _ rfl
  have tf3 := bT2.frz 3
  have t4 := bT2.cell 4 _ rfl
  have tf4 := bT2.frz 4
  have t5 := bT2.cell 5 _ rfl
  have tf5 := bT2.frz 5
  have t6 := bT2.cell 6 _ rfl
  have tf6 := bT2.frz 6
  have t7 := bT2.cell 7 _ rfl
  have tf7 := bT2.frz 7
  have t8 := bT2.cell 8 _ rfl
  have tf8 := bT2.frz 8
  have HK2s := HK2.far (p := ⟨T, 2, none⟩) eTw eT (.int .i64 (y1))
  have bA2s := bA2.far (p := ⟨T, 2, none⟩) eTA (.int .i64 (y1))
  have bB2s := bB2.far (p := ⟨T, 2, none⟩) eTB (.int .i64 (y1))
  have bR2s := bR2.far (p := ⟨T, 2, none⟩) eTR (.int .i64 (y1))
  have bT2s := bT2.set 2 (.int .i64 (y1))
  clear HK2 bA2 bB2 bR2 bT2
  have HK2ss := HK2s.far (p := ⟨T, 1, none⟩) eTw eT (.int .i64 (id))
  have bA2ss := bA2s.far (p := ⟨T, 1, none⟩) eTA (.int .i64 (id))
  have bB2ss := bB2s.far (p := ⟨T, 1, none⟩) eTB (.int .i64 (id))
  have bR2ss := bR2s.far (p := ⟨T, 1, none⟩) eTR (.int .i64 (id))
  have bT2ss := bT2s.set 1 (.int .i64 (id))
  clear HK2s bA2s bB2s bR2s bT2s
  go_wp2_with fail
  clear t0 t1 t2 t3 t4 t5 t6 t7 t8 tf0 tf1 tf2 tf3 tf4 tf5 tf6 tf7 tf8
  have HK2 := HK2ss
  have bA2 := bA2ss
  have bB2 := bB2ss
  have bR2 := bR2ss
  have bT2 := bT2ss
  clear HK2ss bA2ss bB2ss bR2ss bT2ss
  refine (below_ref b (nx (nx (N))) 9 w _ (by omega) HK2).mono ?_
  rintro e v3 ⟨rfl, hs⟩
  have HK3 := HK2.step hs
  have bA3 := bA2.src hs eA
  have bB3 := bB2.src hs eB
  have bR3 := bR2.src hs eR
  have bT3 := bT2.src hs eT
  clear hs HK2 bA2 bB2 bR2 bT2
  have q0 := bl_lo (nx (nx (nx (N)))) 9
  have q1 := bl_hi (nx (nx (nx (N)))) 9 (by omega)
  generalize h_y2 : bl (nx (nx (nx (N)))) 9 = y2 at *
  have H_y2 := Lib.hid h_y2
  clear h_y2
  obtain ⟨n1', n2'⟩ := hn
  obtain ⟨g1', g2'⟩ := hmw
  have t0 := bT3.cell 0 _ rfl
  have tf0 := bT3.frz 0
  have t1 := bT3.cell 1 _ rfl
  have tf1 := bT3.frz 1
  have t2 := bT3.cell 2 _ rfl
  have tf2 := bT3.frz 2
  have t3 := bT3.cell 3 _ rfl
  have tf3 := bT3.frz 3
  have t4 := bT3.cell 4 _ rfl
  have tf4 := bT3.frz 4
  have t5 := bT3.cell 5 _ rfl
  have tf5 := bT3.frz 5
  have t6 := bT3.cell 6 _ rfl
  have tf6 := bT3.frz 6
  have t7 := bT3.cell 7 _ rfl
  have tf7 := bT3.frz 7
  have t8 := bT3.cell 8 _ rfl
  have tf8 := bT3.frz 8
  have a2 := bA3.cell 2 _ rfl
  have al := bA3.lt
  have HK3s := HK3.far (p := ⟨T, 8, none⟩) eTw eT (.int .i64 (1 + y2))
  have bA3s := bA3.far (p := ⟨T, 8, none⟩) eTA (.int .i64 (1 + y2))
  have bB3s := bB3.far (p := ⟨T, 8, none⟩) eTB (.int .i64 (1 + y2))
  have bR3s := bR3.far (p := ⟨T, 8, none⟩) eTR (.int .i64 (1 + y2))
  have bT3s := bT3.set 8 (.int .i64 (1 + y2))
  clear HK3 bA3 bB3 bR3 bT3
  go_wp2_with fail
  clear t0 t1 t2 t3 t4 t5 t6 t7 t8 tf0 tf1 tf2 tf3 tf4 tf5 tf6 tf7 tf8
  clear a2 al
  have HK3 := HK3s
  have bA3 := bA3s
  have bB3 := bB3s
  have bR3 := bR3s
  have bT3 := bT3s
  clear HK3s bA3s bB3s bR3s bT3s
  refine (below_ref b (nx (nx (nx (N)))) n w _ (by omega) HK3).mono ?_
  rintro e v4 ⟨rfl, hs⟩
  have HK4 := HK3.step hs
  have bA4 := bA3.src hs eA
  have bB4 := bB3.src hs eB
  have bR4 := bR3.src hs eR
  have bT4 := bT3.src hs eT
  clear hs HK3 bA3 bB3 bR3 bT3
  generalize h_z0 : bl (nx (nx (nx (nx (N))))) n = z0 at *
  have H_z0 := Lib.hid h_z0
  clear h_z0
  have t0 := bT4.cell 0 _ rfl
  have tf0 := bT4.frz 0
  have t1 := bT4.cell 1 _ rfl
  have tf1 := bT4.frz 1
  have t2 := bT4.cell 2 _ rfl
  have tf2 := bT4.frz 2
  have t3 := bT4.cell 3 _ rfl
  have tf3 := bT4.frz 3
  have t4 := bT4.cell 4 _ rfl
  have tf4 := bT4.frz 4
  have t5 := bT4.cell 5 _ rfl
  have tf5 := bT4.frz 5
  have t6 := bT4.cell 6 _ rfl
  have tf6 := bT4.frz 6
  have t7 := bT4.cell 7 _ rfl
  have tf7 := bT4.frz 7
  have t8 := bT4.cell 8 _ rfl
  have tf8 := bT4.frz 8
  have HK4s := HK4.far (p := ⟨T, 3, none⟩) eTw eT (.int .i64 (z0))
  have bA4s := bA4.far (p := ⟨T, 3, none⟩) eTA (.int .i64 (z0))
  have bB4s := bB4.far (p := ⟨T, 3, none⟩) eTB (.int .i64 (z0))
  have bR4s := bR4.far (p := ⟨T, 3, none⟩) eTR (.int .i64 (z0))
  have bT4s := bT4.set 3 (.int .i64 (z0))
  clear HK4 bA4 bB4 bR4 bT4
  go_wp2_with fail
  clear t0 t1 t2 t3 t4 t5 t6 t7 t8 tf0 tf1 tf2 tf3 tf4 tf5 tf6 tf7 tf8
  have HK4 := HK4s
  have bA4 := bA4s
  have bB4 := bB4s
  have bR4 := bR4s
  have bT4 := bT4s
  clear HK4s bA4s bB4s bR4s bT4s
  refine (below_ref b (nx (nx (nx (nx (N))))) 2 w _ (by omega) HK4).mono ?_
  rintro e v5 ⟨rfl, hs⟩
  have HK5 := HK4.step hs
  have bA5 := bA4.src hs eA
  have bB5 := bB4.src hs eB
  have bR5 := bR4.src hs eR
  have bT5 := bT4.src hs eT
  clear hs HK4 bA4 bB4 bR4 bT4
  generalize h_z1 : bl (nx (nx (nx (nx (nx (N)))))) 2 = z1 at *
  have H_z1 := Lib.hid h_z1
  clear h_z1
  have t0 := bT5.cell 0 _ rfl
  have tf0 := bT5.frz 0
  have t1 := bT5.cell 1 _ rfl
  have tf1 := bT5.frz 1
  have t2 := bT5.cell 2 _ rfl
  have tf2 := bT5.frz 2
  have t3 := bT5.cell 3 _ rfl
  have tf3 := bT5.frz 3
  have t4 := bT5.cell 4 _ rfl
  have tf4 := bT5.frz 4
  have t5 := bT5.cell 5 _ rfl
  have tf5 := bT5.frz 5
  have t6 := bT5.cell 6 _ rfl
  have tf6 := bT5.frz 6
  have t7 := bT5.cell 7 _ rfl
  have tf7 := bT5.frz 7
  have t8 := bT5.cell 8 _ rfl
  have tf8 := bT5.frz 8
  have HK5s := HK5.far (p := ⟨T, 4, none⟩) eTw eT (.int .i64 (z1))
  have bA5s := bA5.far (p := ⟨T, 4, none⟩) eTA (.int .i64 (z1))
  have bB5s := bB5.far (p := ⟨T, 4, none⟩) eTB (.int .i64 (z1))
  have bR5s := bR5.far (p := ⟨T, 4, none⟩) eTR (.int .i64 (z1))
  have bT5s := bT5.set 4 (.int .i64 (z1))
  clear HK5 bA5 bB5 bR5 bT5
  go_wp2_with fail
  clear t0 t1 t2 t3 t4 t5 t6 t7 t8 tf0 tf1 tf2 tf3 tf4 tf5 tf6 tf7 tf8
  have HK5 := HK5s
  have bA5 := bA5s
  have bB5 := bB5s
  have bR5 := bR5s
  have bT5 := bT5s
  clear HK5s bA5s bB5s bR5s bT5s
  generalize v5.setCell ⟨T, 4, none⟩ (.int .i64 (z1)) = W5 at *
  have hDD : Below W5.heap.size W5 W5.drew := Below.drew (Below.refl _ _)
  have HKd := HK5.keep hDD
  have bAd := bA5.below hDD
  have bBd := bB5.below hDD
  have bRd := bR5.below hDD
  have bTd := bT5.below hDD
  clear HK5 bA5 bB5 bR5 bT5 hDD
  have q2 := bl_lo (nx (nx (nx (nx (nx (nx (N))))))) (2 * mw + 1)
  have q3 := bl_hi (nx (nx (nx (nx (nx (nx (N))))))) (2 * mw + 1) (by omega)
  have W1 : IntKind.i64.wrap (2 * mw) = 2 * mw := IntWalk.i64_in _ (by omega)
  have W2 : IntKind.i64.wrap (2 * mw + 1) = 2 * mw + 1 := IntWalk.i64_in _ (by omega)
  have W3 : IntKind.i64.wrap (mp + bl (nx (nx (nx (nx (nx (nx (N))))))) (2 * mw + 1)) = mp + bl (nx (nx (nx (nx (nx (nx (N))))))) (2 * mw + 1) := IntWalk.i64_in _ (by omega)
  have W4 : IntKind.i64.wrap (mp + bl (nx (nx (nx (nx (nx (nx (N))))))) (2 * mw + 1) - mw) = mp + bl (nx (nx (nx (nx (nx (nx (N))))))) (2 * mw + 1) - mw := IntWalk.i64_in _ (by omega)
  have hS := And.intro (bBd.cell 4 _ rfl) (bBd.cell 5 _ rfl)
  go_region_held3 (fun w' => w'.cell? ⟨B, 4, none⟩ = some (.int .i64 mp) ∧ w'.cell? ⟨B, 5, none⟩ = some (.int .i64 mw)) (first | with_reducible exact hS | exact keep2 eTB hS | fail) (first | (go_at_call 20; (with_reducible refine (below_ref b (nx (nx (nx (nx (nx (N)))))) (2 * mw + 1) w _ (by omega) HKd).mono ?_); rintro e v6 ⟨rfl, hs⟩; have HKd := HKd.step hs; have bAd := bAd.src hs eA; have bBd := bBd.src hs eB; have bRd := bRd.src hs eR; have bTd := bTd.src hs eT; have hS := And.intro (bBd.cell 4 _ rfl) (bBd.cell 5 _ rfl); clear hs) | (go_at_call 19; (with_reducible refine (hold_is (mp + bl (nx (nx (nx (nx (nx (nx (N))))))) (2 * mw + 1) - mw) 1 9999 _).mono ?_); rintro e v7 ⟨rfl, hs⟩; have HKd := HKd.keep hs; have bAd := bAd.below hs; have bBd := bBd.below hs; have bRd := bRd.below hs; have bTd := bTd.below hs; have hS := And.intro (bBd.cell 4 _ rfl) (bBd.cell 5 _ rfl); have t5 := bTd.cell 5 _ rfl; have tf5 := bTd.frz 5; clear hs) | fail)
  generalize h_z2 : holdS (mp + bl (nx (nx (nx (nx (nx (nx (N))))))) (2 * mw + 1) - mw) 1 9999 = z2 at *
  have H_z2 := Lib.hid h_z2
  clear h_z2
  clear t5 tf5 hS W1 W2 W3 W4 q2 q3
  have HKds := HKd.far (p := ⟨T, 5, none⟩) eTw eT (.int .i64 (z2))
  have bAds := bAd.far (p := ⟨T, 5, none⟩) eTA (.int .i64 (z2))
  have bBds := bBd.far (p := ⟨T, 5, none⟩) eTB (.int .i64 (z2))
  have bRds := bRd.far (p := ⟨T, 5, none⟩) eTR (.int .i64 (z2))
  have bTds := bTd.set 5 (.int .i64 (z2))
  clear HKd bAd bBd bRd bTd
  have HK7 := HKds
  have bA7 := bAds
  have bB7 := bBds
  have bR7 := bRds
  have bT7 := bTds
  clear HKds bAds bBds bRds bTds
  generalize v7.setCell ⟨T, 5, none⟩ (.int .i64 (z2)) = W7 at *
  have t8 := bT7.cell 8 _ rfl
  have tl := bT7.lt
  go_wp2_with fail
  clear t8 tl
  refine (below_ref b (nx (nx (nx (nx (nx (nx (N))))))) (1 + y2) w _ (by omega) HK7).mono ?_
  rintro e v8 ⟨rfl, hs⟩
  have HK8 := HK7.step hs
  have bA8 := bA7.src hs eA
  have bB8 := bB7.src hs eB
  have bR8 := bR7.src hs eR
  have bT8 := bT7.src hs eT
  clear hs HK7 bA7 bB7 bR7 bT7
  have q2 := bl_lo (nx (nx (nx (nx (nx (nx (nx (N)))))))) (1 + y2)
  have q3 := bl_hi (nx (nx (nx (nx (nx (nx (nx (N)))))))) (1 + y2) (by omega)
  generalize h_z3 : bl (nx (nx (nx (nx (nx (nx (nx (N)))))))) (1 + y2) = z3 at *
  have H_z3 := Lib.hid h_z3
  clear h_z3
  have t0 := bT8.cell 0 _ rfl
  have tf0 := bT8.frz 0
  have t1 := bT8.cell 1 _ rfl
  have tf1 := bT8.frz 1
  have t2 := bT8.cell 2 _ rfl
  have tf2 := bT8.frz 2
  have t3 := bT8.cell 3 _ rfl
  have tf3 := bT8.frz 3
  have t4 := bT8.cell 4 _ rfl
  have tf4 := bT8.frz 4
  have t5 := bT8.cell 5 _ rfl
  have tf5 := bT8.frz 5
  have t6 := bT8.cell 6 _ rfl
  have tf6 := bT8.frz 6
  have t7 := bT8.cell 7 _ rfl
  have tf7 := bT8.frz 7
  have t8 := bT8.cell 8 _ rfl
  have tf8 := bT8.frz 8
  have HK8s := HK8.far (p := ⟨T, 6, none⟩) eTw eT (.int .i64 (1 + z3))
  have bA8s := bA8.far (p := ⟨T, 6, none⟩) eTA (.int .i64 (1 + z3))
  have bB8s := bB8.far (p := ⟨T, 6, none⟩) eTB (.int .i64 (1 + z3))
  have bR8s := bR8.far (p := ⟨T, 6, none⟩) eTR (.int .i64 (1 + z3))
  have bT8s := bT8.set 6 (.int .i64 (1 + z3))
  clear HK8 bA8 bB8 bR8 bT8
  go_wp2_with fail
  clear t0 t1 t2 t3 t4 t5 t6 t7 t8 tf0 tf1 tf2 tf3 tf4 tf5 tf6 tf7 tf8
  have HK8 := HK8s
  have bA8 := bA8s
  have bB8 := bB8s
  have bR8 := bR8s
  have bT8 := bT8s
  clear HK8s bA8s bB8s bR8s bT8s
  generalize v8.setCell ⟨T, 6, none⟩ (.int .i64 (1 + z3)) = W8 at *
  refine (below_ref b (nx (nx (nx (nx (nx (nx (nx (N)))))))) 50 w _ (by omega) HK8).mono ?_
  rintro e v9 ⟨rfl, hs⟩
  have HK9 := HK8.step hs
  have bA9 := bA8.src hs eA
  have bB9 := bB8.src hs eB
  have bR9 := bR8.src hs eR
  have bT9 := bT8.src hs eT
  clear hs HK8 bA8 bB8 bR8 bT8
  have q4 := bl_lo (nx (nx (nx (nx (nx (nx (nx (nx (N))))))))) 50
  have q5 := bl_hi (nx (nx (nx (nx (nx (nx (nx (nx (N))))))))) 50 (by omega)
  go_wp2_with fail
  refine (hold_is (now + 1 + bl (nx (nx (nx (nx (nx (nx (nx (nx (N))))))))) 50) (now) (1000000) _).mono ?_
  rintro e v10 ⟨rfl, hs⟩
  have HK10 := HK9.keep hs
  have bA10 := bA9.below hs
  have bB10 := bB9.below hs
  have bR10 := bR9.below hs
  have bT10 := bT9.below hs
  clear hs HK9 bA9 bB9 bR9 bT9
  generalize h_z4 : holdS (now + 1 + bl (nx (nx (nx (nx (nx (nx (nx (nx (N))))))))) 50) now 1000000 = z4 at *
  have H_z4 := Lib.hid h_z4
  clear h_z4
  have t0 := bT10.cell 0 _ rfl
  have tf0 := bT10.frz 0
  have t1 := bT10.cell 1 _ rfl
  have tf1 := bT10.frz 1
  have t2 := bT10.cell 2 _ rfl
  have tf2 := bT10.frz 2
  have t3 := bT10.cell 3 _ rfl
  have tf3 := bT10.frz 3
  have t4 := bT10.cell 4 _ rfl
  have tf4 := bT10.frz 4
  have t5 := bT10.cell 5 _ rfl
  have tf5 := bT10.frz 5
  have t6 := bT10.cell 6 _ rfl
  have tf6 := bT10.frz 6
  have t7 := bT10.cell 7 _ rfl
  have tf7 := bT10.frz 7
  have t8 := bT10.cell 8 _ rfl
  have tf8 := bT10.frz 8
  have HK10s := HK10.far (p := ⟨T, 7, none⟩) eTw eT (.int .i64 (z4))
  have bA10s := bA10.far (p := ⟨T, 7, none⟩) eTA (.int .i64 (z4))
  have bB10s := bB10.far (p := ⟨T, 7, none⟩) eTB (.int .i64 (z4))
  have bR10s := bR10.far (p := ⟨T, 7, none⟩) eTR (.int .i64 (z4))
  have bT10s := bT10.set 7 (.int .i64 (z4))
  clear HK10 bA10 bB10 bR10 bT10
  go_upto_region 13 with fail
  clear t0 t1 t2 t3 t4 t5 t6 t7 t8 tf0 tf1 tf2 tf3 tf4 tf5 tf6 tf7 tf8
  generalize v10.setCell ⟨T, 7, none⟩ (.int .i64 (z4)) = W9 at *
  have HK11 := HK10s
  have bR11 := bR10s
  have bT11 := bT10s
  clear HK10s bA10s bB10s bR10s bT10s
  have t0 := bT11.cell 0 _ rfl
  have tf0 := bT11.frz 0
  have t1 := bT11.cell 1 _ rfl
  have tf1 := bT11.frz 1
  have t2 := bT11.cell 2 _ rfl
  have tf2 := bT11.frz 2
  have t3 := bT11.cell 3 _ rfl
  have tf3 := bT11.frz 3
  have t4 := bT11.cell 4 _ rfl
  have tf4 := bT11.frz 4
  have t5 := bT11.cell 5 _ rfl
  have tf5 := bT11.frz 5
  have t6 := bT11.cell 6 _ rfl
  have tf6 := bT11.frz 6
  have t7 := bT11.cell 7 _ rfl
  have tf7 := bT11.frz 7
  have t8 := bT11.cell 8 _ rfl
  have tf8 := bT11.frz 8
  have r0 := bR11.cell 0 _ rfl
  have rf0 := bR11.frz 0
  have r1 := bR11.cell 1 _ rfl
  have rf1 := bR11.frz 1
  have r2 := bR11.cell 2 _ rfl
  have rf2 := bR11.frz 2
  have r3 := bR11.cell 3 _ rfl
  have rf3 := bR11.frz 3
  have r4 := bR11.cell 4 _ rfl
  have rf4 := bR11.frz 4
  have r5 := bR11.cell 5 _ rfl
  have rf5 := bR11.frz 5
  have r6 := bR11.cell 6 _ rfl
  have rf6 := bR11.frz 6
  have r7 := bR11.cell 7 _ rfl
  have rf7 := bR11.frz 7
  have r8 := bR11.cell 8 _ rfl
  have rf8 := bR11.frz 8
  generalize h_z5 : 1 + z3 = z5 at *
  have H_z5 := Lib.hid h_z5
  clear h_z5
  generalize h_y3 : 1 + y2 = y3 at *
  have H_y3 := Lib.hid h_y3
  clear h_y3
  have HK11r := HK11.far (p := ⟨R, 0, none⟩) eRw eR (.int .i64 (1))
  have bR11r := bR11.set 0 (.int .i64 (1))
  clear HK11 bR11
  have HK11rr := HK11r.far (p := ⟨R, 1, none⟩) eRw eR (.int .i64 (id))
  have bR11rr := bR11r.set 1 (.int .i64 (id))
  clear HK11r bR11r
  have HK11rrr := HK11rr.far (p := ⟨R, 2, none⟩) eRw eR (.int .i64 (y1))
  have bR11rrr := bR11rr.set 2 (.int .i64 (y1))
  clear HK11rr bR11rr
  have HK11rrrr := HK11rrr.far (p := ⟨R, 3, none⟩) eRw eR (.int .i64 (z0))
  have bR11rrrr := bR11rrr.set 3 (.int .i64 (z0))
  clear HK11rrr bR11rrr
  have HK11rrrrr := HK11rrrr.far (p := ⟨R, 4, none⟩) eRw eR (.int .i64 (z1))
  have bR11rrrrr := bR11rrrr.set 4 (.int .i64 (z1))
  clear HK11rrrr bR11rrrr
  have HK11rrrrrr := HK11rrrrr.far (p := ⟨R, 5, none⟩) eRw eR (.int .i64 (z2))
  have bR11rrrrrr := bR11rrrrr.set 5 (.int .i64 (z2))
  clear HK11rrrrr bR11rrrrr
  have HK11rrrrrrr := HK11rrrrrr.far (p := ⟨R, 6, none⟩) eRw eR (.int .i64 (z5))
  have bR11rrrrrrr := bR11rrrrrr.set 6 (.int .i64 (z5))
  clear HK11rrrrrr bR11rrrrrr
  have HK11rrrrrrrr := HK11rrrrrrr.far (p := ⟨R, 7, none⟩) eRw eR (.int .i64 (z4))
  have bR11rrrrrrrr := bR11rrrrrrr.set 7 (.int .i64 (z4))
  clear HK11rrrrrrr bR11rrrrrrr
  have HK11rrrrrrrrr := HK11rrrrrrrr.far (p := ⟨R, 8, none⟩) eRw eR (.int .i64 (y3))
  have bR11rrrrrrrrr := bR11rrrrrrrr.set 8 (.int .i64 (y3))
  clear HK11rrrrrrrr bR11rrrrrrrr
  have HKL := Lib.hid HK11rrrrrrrrr
  have bRL := Lib.hid bR11rrrrrrrrr
  clear HK11rrrrrrrrr bR11rrrrrrrrr
  go_wp2_with fail
  obtain ⟨tt, hh⟩ := bRL.out
  refine bodyPost_ret (results_cell_row rfl _ _ R _ _ (0, 0) _ rfl hh Try.underlying65 rfl (by kernel_rfl)) rfl ⟨by rw [← H_z5.out, ← H_z4.out, ← H_z3.out, ← H_z2.out, ← H_z1.out, ← H_z0.out, ← H_y3.out, ← H_y2.out, ← H_y1.out]; rfl, HKL.out⟩
end Go.Proofs.Ytgakgnofflnjoaa
