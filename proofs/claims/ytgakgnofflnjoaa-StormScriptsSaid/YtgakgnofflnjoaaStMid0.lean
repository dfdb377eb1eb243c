/-
  Terms drawn: one way of the price.
-/
import Derived.Test.YtgakgnofflnjoaaRows
import Derived.Test.YtgakgnofflnjoaaKit
import Derived.Test.YtgakgnofflnjoaaQuiet
import Derived.Test.YtgakgnofflnjoaaSt
import Derived.WalkKit
import Derived.ProofKit
import Derived.OpenShut
import Derived.ShutString
import Derived.Below
import Derived.Outline
import Derived.WalkLawsBesides
import Derived.WalkSpells
import Derived.Handy
import Derived.Deep.QuietTactic
import Derived.BigQuiet
import Derived.RegionTactic
import Derived.ChangeAlike
import Derived.Lib.Hide
import Derived.Laws.Rows
import Derived.Laws.Tables
import Derived.Laws.CopyOwn
import Derived.Laws.MakeOwn
import Derived.Laws.Entries
import Derived.Laws.OwnMore
import Derived.Deep.WholeRow
import Derived.Deep.LoopGhost
import Derived.Deep.AppendLies
import Derived.Deep.Draws
import Derived.Maps.AppendAt
import Derived.OwnWalk
import Derived.Deep.RegionHeld3
import Derived.Deep.Cut
import Derived.Deep.CutRange
import Derived.Deep.DeepCutAuto
import Derived.Deep.CutBlock
import Derived.Lib.SliceRun
import Derived.IntWalk
import Derived.Deep.RegionWith
import Derived.Test.YtgakgnofflnjoaaStA
namespace Go.Proofs.Ytgakgnofflnjoaa
open Go.ChangeShapes Go.WideShapes Go.ChangeAt Go.RowKit
set_option maxRecDepth 100000 in
set_option maxHeartbeats 4000000 in
theorem terms_mid0 (b : Nat) (N : Int) (p c n bd r f g ma mt md ms mp mw qty now : Int) (w : World) (hc : w.cell? ⟨b, 0, none⟩ = some (.int .u64 N)) (hf : w.frozen? ⟨b, 0, none⟩ = false) (hn : 1 ≤ n ∧ n ≤ 3) (hmp : -10000 ≤ mp ∧ mp ≤ 10000) (hmw : mw ≤ 0 ∧ 0 ≤ mw) (hq : 1 ≤ qty ∧ qty ≤ 9) (hnow : 0 ≤ now ∧ now ≤ 1000000)
   (hX : 1 < mp + bl (nx (nx (nx (N)))) 1 ∧ mp + bl (nx (nx (nx (N)))) 1 ≤ 9999) :
    Calls Try.prog 30 #[.agg #[.int .i64 p, .int .i64 c, .int .i64 n, .int .i64 bd, .int .i64 r, .int .i64 f, .int .i64 g], .pointer (some ⟨b, 0, none⟩), .agg #[.int .i64 ma, .int .i64 mt, .int .i64 md, .int .i64 ms, .int .i64 mp, .int .i64 mw], .int .i64 qty, .int .i64 now] w fun e w' => e = .returned (.agg #[.int .i64 (bl (nx (N)) n), .int .i64 (bl (nx (nx (N))) 2), .int .i64 (mp + bl (nx (nx (nx (N)))) 1), .int .i64 (1 + bl (nx (nx (nx (nx (N))))) qty), .int .i64 (hold2 (now + 1 + bl (nx (nx (nx (nx (nx (N)))))) 50))]) ∧ Src w w' b (nx (nx (nx (nx (nx (N)))))) := by
  have hbl := lt_of_cell hc
  have h0 := Src.refl hc hf
  obtain ⟨n1, n2⟩ := hn
  obtain ⟨p1, p2⟩ := hmp
  obtain ⟨w1', w2'⟩ := hmw
  obtain ⟨q1, q2⟩ := hq
  obtain ⟨t1, t2⟩ := hnow
  go_enter Try.func30, Try.ntmps30
  go_wp2_with fail
  obtain ⟨W0, hW0⟩ : ∃ W0, W0 = (((w.alloc (.cells #[.int .i64 p, .int .i64 c, .int .i64 n, .int .i64 bd, .int .i64 r, .int .i64 f, .int .i64 g] 28)).alloc (.cells #[.int .i64 ma, .int .i64 mt, .int .i64 md, .int .i64 ms, .int .i64 mp, .int .i64 mw] 38)).alloc (.cells #[.int .i64 0, .int .i64 0, .int .i64 0, .int .i64 0, .int .i64 0] 43)).alloc (.cells #[.int .i64 0, .int .i64 0, .int .i64 0, .int .i64 0, .int .i64 0] 43) := ⟨_, rfl⟩
  have bA0 : Bl w.heap.size [.int .i64 (p), .int .i64 (c), .int .i64 (n), .int .i64 (bd), .int .i64 (r), .int .i64 (f), .int .i64 (g)] W0 := by rw [hW0]; exact (Bl.new w [.int .i64 (p), .int .i64 (c), .int .i64 (n), .int .i64 (bd), .int .i64 (r), .int .i64 (f), .int .i64 (g)] 28).below (by go_grown)
  have bB0 : Bl (w.heap.size + 1) [.int .i64 (ma), .int .i64 (mt), .int .i64 (md), .int .i64 (ms), .int .i64 (mp), .int .i64 (mw)] W0 := by
    rw [hW0]
    have h := Bl.new (w.alloc (.cells #[.int .i64 p, .int .i64 c, .int .i64 n, .int .i64 bd, .int .i64 r, .int .i64 f, .int .i64 g] 28)) [.int .i64 (ma), .int .i64 (mt), .int .i64 (md), .int .i64 (ms), .int .i64 (mp), .int .i64 (mw)] 38
    rw [World.size_alloc] at h
    exact h.below (by go_grown)
  have bR0 : Bl (w.heap.size + 1 + 1) [.int .i64 (0), .int .i64 (0), .int .i64 (0), .int .i64 (0), .int .i64 (0)] W0 := by
    rw [hW0]
    have h := Bl.new ((w.alloc (.cells #[.int .i64 p, .int .i64 c, .int .i64 n, .int .i64 bd, .int .i64 r, .int .i64 f, .int .i64 g] 28)).alloc (.cells #[.int .i64 ma, .int .i64 mt, .int .i64 md, .int .i64 ms, .int .i64 mp, .int .i64 mw] 38)) [.int .i64 (0), .int .i64 (0), .int .i64 (0), .int .i64 (0), .int .i64 (0)] 43
    rw [World.size_alloc, World.size_alloc] at h
    exact h.below (by go_grown)
  have bT0 : Bl (w.heap.size + 1 + 1 + 1) [.int .i64 (0), .int .i64 (0), .int .i64 (0), .int .i64 (0), .int .i64 (0)] W0 := by
    rw [hW0]
    have h := Bl.new (((w.alloc (.cells #[.int .i64 p, .int .i64 c, .int .i64 n, .int .i64 bd, .int .i64 r, .int .i64 f, .int .i64 g] 28)).alloc (.cells #[.int .i64 ma, .int .i64 mt, .int .i64 md, .int .i64 ms, .int .i64 mp, .int .i64 mw] 38)).alloc (.cells #[.int .i64 0, .int .i64 0, .int .i64 0, .int .i64 0, .int .i64 0] 43)) [.int .i64 (0), .int .i64 (0), .int .i64 (0), .int .i64 (0), .int .i64 (0)] 43
    rw [World.size_alloc, World.size_alloc, World.size_alloc] at h
    exact h
  have HK0 : Src w W0 b N := h0.keep (by rw [hW0]; go_grown)
  rw [← hW0]
  obtain ⟨T, hT⟩ : ∃ T, T = w.heap.size + 1 + 1 + 1 := ⟨_, rfl⟩
  obtain ⟨R, hR⟩ : ∃ R, R = w.heap.size + 1 + 1 := ⟨_, rfl⟩
  obtain ⟨B, hB⟩ : ∃ B, B = w.heap.size + 1 := ⟨_, rfl⟩
  obtain ⟨A, hA⟩ : ∃ A, A = w.heap.size := ⟨_, rfl⟩
  rw [← hT] at bT0 ⊢
  rw [← hR] at bR0 ⊢
  rw [← hB] at bB0 ⊢
  rw [← hA] at bA0
  have hwA : w.heap.size = A := hA.symm
  simp only [hwA]
  have eA : A ≠ b := by omega
  have eB : B ≠ b := by omega
  have eR : R ≠ b := by omega
  have eT : T ≠ b := by omega
  have eTw : w.heap.size ≤ T := by omega
  have eRw : w.heap.size ≤ R := by omega
  have eTA : T ≠ A := by omega
  have eTB : T ≠ B := by omega
  have eTR : T ≠ R := by omega
  clear hT hR hB hA hW0 h0 hwA hbl hc hf
  refine (below_src b (N) (n) w _ (by omega) HK0).mono ?_
  rintro e v1 ⟨rfl, hs⟩
  have HK1 := HK0.step hs
  have bA1 := bA0.src hs eA
  have bB1 := bB0.src hs eB
  have bR1 := bR0.src hs eR
  have bT1 := bT0.src hs eT
  clear hs HK0 bA0 bB0 bR0 bT0
  have t0 := bT1.cell 0 _ rfl
  have tf0 := bT1.frz 0
  have t1 := bT1.cell 1 _ rfl
  have tf1 := bT1.frz 1
  have t2 := bT1.cell 2 _ rfl
  have tf2 := bT1.frz 2
  have t3 := bT1.cell 3 _ rfl
  have tf3 := bT1.frz 3
  have t4 := bT1.cell 4 _ rfl
  have tf4 := bT1.frz 4
  have m0 := bB1.cell 0 _ rfl
  have m1 := bB1.cell 1 _ rfl
  have m2 := bB1.cell 2 _ rfl
  have m3 := bB1.cell 3 _ rfl
  have m4 := bB1.cell 4 _ rfl
  have m5 := bB1.cell 5 _ rfl
  have a0 := bA1.cell 0 _ rfl
  have a1 := bA1.cell 1 _ rfl
  have a2 := bA1.cell 2 _ rfl
  have a3 := bA1.cell 3 _ rfl
  have a4 := bA1.cell 4 _ rfl
  have a5 := bA1.cell 5 _ rfl
  have a6 := bA1.cell 6 _ rfl
  go_wp2_with fail
  clear t0 t1 t2 t3 t4 tf0 tf1 tf2 tf3 tf4
  clear m0 m1 m2 m3 m4 m5
  clear a0 a1 a2 a3 a4 a5 a6
  have HK1s := HK1.far (p := ⟨T, 0, none⟩) eTw eT (.int .i64 (bl (nx (N)) n))
  have bA1s := bA1.far (p := ⟨T, 0, none⟩) eTA (.int .i64 (bl (nx (N)) n))
  have bB1s := bB1.far (p := ⟨T, 0, none⟩) eTB (.int .i64 (bl (nx (N)) n))
  have bR1s := bR1.far (p := ⟨T, 0, none⟩) eTR (.int .i64 (bl (nx (N)) n))
  have bT1s := bT1.set 0 (.int .i64 (bl (nx (N)) n))
  clear HK1 bA1 bB1 bR1 bT1
  have HK1 := HK1s
  have bA1 := bA1s
  have bB1 := bB1s
  have bR1 := bR1s
  have bT1 := bT1s
  clear HK1s bA1s bB1s bR1s bT1s
  refine (below_src b (nx (N)) (2) w _ (by omega) HK1).mono ?_
  rintro e v2 ⟨rfl, hs⟩
  have HK2 := HK1.step hs
  have bA2 := bA1.src hs eA
  have bB2 := bB1.src hs eB
  have bR2 := bR1.src hs eR
  have bT2 := bT1.src hs eT
  clear hs HK1 bA1 bB1 bR1 bT1
  have t0 := bT2.cell 0 _ rfl
  have tf0 := bT2.frz 0
  have t1 := bT2.cell 1 _ rfl
  have tf1 := bT2.frz 1
  have t2 := bT2.cell 2 _ rfl
  have tf2 := bT2.frz 2
  have t3 := bT2.cell 3 _ rfl
  have tf3 := bT2.frz 3
  have t4 := bT2.cell 4 _ rfl
  have tf4 := bT2.frz 4
  have m0 := bB2.cell 0 _ rfl
  have m1 := bB2.cell 1 _ rfl
  have m2 := bB2.cell 2 _ rfl
  have m3 := bB2.cell 3 _ rfl
  have m4 := bB2.cell 4 _ rfl
  have m5 := bB2.cell 5 _ rfl
  have a0 := bA2.cell 0 _ rfl
  have a1 := bA2.cell 1 _ rfl
  have a2 := bA2.cell 2 _ rfl
  have a3 := bA2.cell 3 _ rfl
  have a4 := bA2.cell 4 _ rfl
  have a5 := bA2.cell 5 _ rfl
  have a6 := bA2.cell 6 _ rfl
  have b0' := bl_lo (nx (nx (nx (N)))) 1
  have b1' := bl_hi (nx (nx (nx (N)))) 1 (by omega)
  go_wp2_with fail
  clear t0 t1 t2 t3 t4 tf0 tf1 tf2 tf3 tf4
  clear m0 m1 m2 m3 m4 m5
  clear a0 a1 a2 a3 a4 a5 a6
  have HK2s := HK2.far (p := ⟨T, 1, none⟩) eTw eT (.int .i64 (bl (nx (nx (N))) 2))
  have bA2s := bA2.far (p := ⟨T, 1, none⟩) eTA (.int .i64 (bl (nx (nx (N))) 2))
  have bB2s := bB2.far (p := ⟨T, 1, none⟩) eTB (.int .i64 (bl (nx (nx (N))) 2))
  have bR2s := bR2.far (p := ⟨T, 1, none⟩) eTR (.int .i64 (bl (nx (nx (N))) 2))
  have bT2s := bT2.set 1 (.int .i64 (bl (nx (nx (N))) 2))
  clear HK2 bA2 bB2 bR2 bT2
  have HK2 := HK2s
  have bA2 := bA2s
  have bB2 := bB2s
  have bR2 := bR2s
  have bT2 := bT2s
  clear HK2s bA2s bB2s bR2s bT2s
  generalize v2.setCell ⟨T, 1, none⟩ (.int .i64 (bl (nx (nx (N))) 2)) = W2 at *
  have HKd := Lib.hid (HK2.keep (Below.drew (Below.refl _ _)))
  have bAd := Lib.hid (bA2.below (Below.drew (Below.refl _ _)))
  have bBd := Lib.hid (bB2.below (Below.drew (Below.refl _ _)))
  have bRd := Lib.hid (bR2.below (Below.drew (Below.refl _ _)))
  have bTd := Lib.hid (bT2.below (Below.drew (Below.refl _ _)))
  have m4d := bBd.out.cell 4 _ rfl
  clear HK2 bA2 bB2 bR2 bT2
  have W3 : IntKind.i64.wrap (mp + bl (nx (nx (nx (N)))) 1) = mp + bl (nx (nx (nx (N)))) 1 := IntWalk.i64_in _ (by omega)
  have W4 : IntKind.i64.wrap (mp + bl (nx (nx (nx (N)))) 1) = mp + bl (nx (nx (nx (N)))) 1 := IntWalk.i64_in _ (by omega)
  go_region_with (go_at_call 22; refine (below_src b (nx (nx (N))) 1 w _ (by omega) HKd.out).mono ?_; rintro e v3 ⟨rfl, hs⟩; have HK3 := HKd.out.step hs; have bA3 := bAd.out.src hs eA; have bB3 := bBd.out.src hs eB; have bR3 := bRd.out.src hs eR; have bT3 := bTd.out.src hs eT; have m4 := bB3.cell 4 _ rfl; have t2 := bT3.cell 2 _ rfl; have tf2 := bT3.frz 2)
  all_goals go_wp2_with fail
  all_goals
    have HK3s := HK3.far (p := ⟨T, 2, none⟩) eTw eT (.int .i64 (mp + bl (nx (nx (nx (N)))) 1))
    have bA3s := bA3.far (p := ⟨T, 2, none⟩) eTA (.int .i64 (mp + bl (nx (nx (nx (N)))) 1))
    have bB3s := bB3.far (p := ⟨T, 2, none⟩) eTB (.int .i64 (mp + bl (nx (nx (nx (N)))) 1))
    have bR3s := bR3.far (p := ⟨T, 2, none⟩) eTR (.int .i64 (mp + bl (nx (nx (nx (N)))) 1))
    have bT3s := bT3.set 2 (.int .i64 (mp + bl (nx (nx (nx (N)))) 1))
    clear HK3 bA3 bB3 bR3 bT3 m4 t2 tf2 hX W3 W4 m4d HKd bAd bBd bRd bTd
    have HK3 := HK3s
    have bA3 := bA3s
    have bB3 := bB3s
    have bR3 := bR3s
    have bT3 := bT3s
    clear HK3s bA3s bB3s bR3s bT3s
    refine (below_src b (nx (nx (nx (N)))) (qty) w _ (by omega) HK3).mono ?_
    rintro e v4 ⟨rfl, hs⟩
    have HK4 := HK3.step hs
    have bA4 := bA3.src hs eA
    have bB4 := bB3.src hs eB
    have bR4 := bR3.src hs eR
    have bT4 := bT3.src hs eT
    clear hs HK3 bA3 bB3 bR3 bT3
    have b2' := bl_lo (nx (nx (nx (nx (N))))) qty
    have b3' := bl_hi (nx (nx (nx (nx (N))))) qty (by omega)
    have t0 := bT4.cell 0 _ rfl
    have tf0 := bT4.frz 0
    have t1 := bT4.cell 1 _ rfl
    have tf1 := bT4.frz 1
    have t2 := bT4.cell 2 _ rfl
    have tf2 := bT4.frz 2
    have t3 := bT4.cell 3 _ rfl
    have tf3 := bT4.frz 3
    have t4 := bT4.cell 4 _ rfl
    have tf4 := bT4.frz 4
    have m0 := bB4.cell 0 _ rfl
    have m1 := bB4.cell 1 _ rfl
    have m2 := bB4.cell 2 _ rfl
    have m3 := bB4.cell 3 _ rfl
    have m4 := bB4.cell 4 _ rfl
    have m5 := bB4.cell 5 _ rfl
    have a0 := bA4.cell 0 _ rfl
    have a1 := bA4.cell 1 _ rfl
    have a2 := bA4.cell 2 _ rfl
    have a3 := bA4.cell 3 _ rfl
    have a4 := bA4.cell 4 _ rfl
    have a5 := bA4.cell 5 _ rfl
    have a6 := bA4.cell 6 _ rfl
    go_wp2_with fail
    clear t0 t1 t2 t3 t4 tf0 tf1 tf2 tf3 tf4
    clear m0 m1 m2 m3 m4 m5
    clear a0 a1 a2 a3 a4 a5 a6
    have HK4s := HK4.far (p := ⟨T, 3, none⟩) eTw eT (.int .i64 (1 + bl (nx (nx (nx (nx (N))))) qty))
    have bA4s := bA4.far (p := ⟨T, 3, none⟩) eTA (.int .i64 (1 + bl (nx (nx (nx (nx (N))))) qty))
    have bB4s := bB4.far (p := ⟨T, 3, none⟩) eTB (.int .i64 (1 + bl (nx (nx (nx (nx (N))))) qty))
    have bR4s := bR4.far (p := ⟨T, 3, none⟩) eTR (.int .i64 (1 + bl (nx (nx (nx (nx (N))))) qty))
    have bT4s := bT4.set 3 (.int .i64 (1 + bl (nx (nx (nx (nx (N))))) qty))
    clear HK4 bA4 bB4 bR4 bT4
    have HK4 := HK4s
    have bA4 := bA4s
    have bB4 := bB4s
    have bR4 := bR4s
    have bT4 := bT4s
    clear HK4s bA4s bB4s bR4s bT4s
    refine (below_src b (nx (nx (nx (nx (N))))) (50) w _ (by omega) HK4).mono ?_
    rintro e v5 ⟨rfl, hs⟩
    have HK5 := HK4.step hs
    have bA5 := bA4.src hs eA
    have bB5 := bB4.src hs eB
    have bR5 := bR4.src hs eR
    have bT5 := bT4.src hs eT
    clear hs HK4 bA4 bB4 bR4 bT4
    have b4' := bl_lo (nx (nx (nx (nx (nx (N)))))) 50
    have b5' := bl_hi (nx (nx (nx (nx (nx (N)))))) 50 (by omega)
    have t0 := bT5.cell 0 _ rfl
    have tf0 := bT5.frz 0
    have t1 := bT5.cell 1 _ rfl
    have tf1 := bT5.frz 1
    have t2 := bT5.cell 2 _ rfl
    have tf2 := bT5.frz 2
    have t3 := bT5.cell 3 _ rfl
    have tf3 := bT5.frz 3
    have t4 := bT5.cell 4 _ rfl
    have tf4 := bT5.frz 4
    have m0 := bB5.cell 0 _ rfl
    have m1 := bB5.cell 1 _ rfl
    have m2 := bB5.cell 2 _ rfl
    have m3 := bB5.cell 3 _ rfl
    have m4 := bB5.cell 4 _ rfl
    have m5 := bB5.cell 5 _ rfl
    have a0 := bA5.cell 0 _ rfl
    have a1 := bA5.cell 1 _ rfl
    have a2 := bA5.cell 2 _ rfl
    have a3 := bA5.cell 3 _ rfl
    have a4 := bA5.cell 4 _ rfl
    have a5 := bA5.cell 5 _ rfl
    have a6 := bA5.cell 6 _ rfl
    have r0 := bR5.cell 0 _ rfl
    have rf0 := bR5.frz 0
    have r1 := bR5.cell 1 _ rfl
    have rf1 := bR5.frz 1
    have r2 := bR5.cell 2 _ rfl
    have rf2 := bR5.frz 2
    have r3 := bR5.cell 3 _ rfl
    have rf3 := bR5.frz 3
    have r4 := bR5.cell 4 _ rfl
    have rf4 := bR5.frz 4
    by_cases hU : now + 1 + bl (nx (nx (nx (nx (nx (N)))))) 50 ≤ 1000000
    · have HH := Lib.hid (show hold2 (now + 1 + bl (nx (nx (nx (nx (nx (N)))))) 50) = now + 1 + bl (nx (nx (nx (nx (nx (N)))))) 50 from by unfold hold2; rw [if_neg (by omega)])
      have HK6 := HK5.far (p := ⟨T, 4, none⟩) eTw eT (.int .i64 (now + 1 + bl (nx (nx (nx (nx (nx (N)))))) 50))
      have bR6 := bR5.far (p := ⟨T, 4, none⟩) eTR (.int .i64 (now + 1 + bl (nx (nx (nx (nx (nx (N)))))) 50))
      have HK7 := HK6.far (p := ⟨R, 0, none⟩) eRw eR (.int .i64 (bl (nx (N)) n))
      have bR7 := bR6.set 0 (.int .i64 (bl (nx (N)) n))
      have HK8 := HK7.far (p := ⟨R, 1, none⟩) eRw eR (.int .i64 (bl (nx (nx (N))) 2))
      have bR8 := bR7.set 1 (.int .i64 (bl (nx (nx (N))) 2))
      have HK9 := HK8.far (p := ⟨R, 2, none⟩) eRw eR (.int .i64 (mp + bl (nx (nx (nx (N)))) 1))
      have bR9 := bR8.set 2 (.int .i64 (mp + bl (nx (nx (nx (N)))) 1))
      have HK10 := HK9.far (p := ⟨R, 3, none⟩) eRw eR (.int .i64 (1 + bl (nx (nx (nx (nx (N))))) qty))
      have bR10 := bR9.set 3 (.int .i64 (1 + bl (nx (nx (nx (nx (N))))) qty))
      have HK11 := HK10.far (p := ⟨R, 4, none⟩) eRw eR (.int .i64 (now + 1 + bl (nx (nx (nx (nx (nx (N)))))) 50))
      have bR11 := bR10.set 4 (.int .i64 (now + 1 + bl (nx (nx (nx (nx (nx (N)))))) 50))
      have HKL := Lib.hid HK11
      have bRL := Lib.hid bR11
      clear HK6 bR6 HK7 bR7 HK8 bR8 HK9 bR9 HK10 bR10 HK11 bR11
      go_wp2_with fail
      rw [HH.out]
      obtain ⟨tt, hh⟩ := bRL.out
      refine bodyPost_ret (results_cell_row rfl _ _ R _ _ (0, 0) _ rfl hh Try.underlying43 rfl (by kernel_rfl)) rfl ⟨rfl, HKL.out⟩
    · have HH := Lib.hid (show hold2 (now + 1 + bl (nx (nx (nx (nx (nx (N)))))) 50) = 1000000 from by unfold hold2; rw [if_pos (by omega)])
      have hU2 : 1000000 < now + 1 + bl (nx (nx (nx (nx (nx (N)))))) 50 := by omega
      have HK6 := HK5.far (p := ⟨T, 4, none⟩) eTw eT (.int .i64 (1000000))
      have bR6 := bR5.far (p := ⟨T, 4, none⟩) eTR (.int .i64 (1000000))
      have HK7 := HK6.far (p := ⟨R, 0, none⟩) eRw eR (.int .i64 (bl (nx (N)) n))
      have bR7 := bR6.set 0 (.int .i64 (bl (nx (N)) n))
      have HK8 := HK7.far (p := ⟨R, 1, none⟩) eRw eR (.int .i64 (bl (nx (nx (N))) 2))
      have bR8 := bR7.set 1 (.int .i64 (bl (nx (nx (N))) 2))
      have HK9 := HK8.far (p := ⟨R, 2, none⟩) eRw eR (.int .i64 (mp + bl (nx (nx (nx (N)))) 1))
      have bR9 := bR8.set 2 (.int .i64 (mp + bl (nx (nx (nx (N)))) 1))
      have HK10 := HK9.far (p := ⟨R, 3, none⟩) eRw eR (.int .i64 (1 + bl (nx (nx (nx (nx (N))))) qty))
      have bR10 := bR9.set 3 (.int .i64 (1 + bl (nx (nx (nx (nx (N))))) qty))
      have HK11 := HK10.far (p := ⟨R, 4, none⟩) eRw eR (.int .i64 (1000000))
      have bR11 := bR10.set 4 (.int .i64 (1000000))
      have HKL := Lib.hid HK11
      have bRL := Lib.hid bR11
      clear HK6 bR6 HK7 bR7 HK8 bR8 HK9 bR9 HK10 bR10 HK11 bR11
      go_wp2_with fail
      rw [HH.out]
      obtain ⟨tt, hh⟩ := bRL.out
      refine bodyPost_ret (results_cell_row rfl _ _ R _ _ (0, 0) _ rfl hh Try.underlying43 rfl (by kernel_rfl)) rfl ⟨rfl, HKL.out⟩
end Go.Proofs.Ytgakgnofflnjoaa
