/-
  StormScripts: the walk.
-/
import Derived.Test.YtgakgnofflnjoaaRows
import Derived.Test.YtgakgnofflnjoaaKit
import Derived.Test.YtgakgnofflnjoaaApp
import Derived.Test.YtgakgnofflnjoaaQuiet
import Derived.Test.YtgakgnofflnjoaaRules
import Derived.Test.YtgakgnofflnjoaaCheck
import Derived.Test.YtgakgnofflnjoaaChk2
import Derived.Test.YtgakgnofflnjoaaSt
import Derived.Test.YtgakgnofflnjoaaStA
import Derived.Test.YtgakgnofflnjoaaStT
import Derived.Test.YtgakgnofflnjoaaStK
import Derived.Test.YtgakgnofflnjoaaStR
import Derived.Test.YtgakgnofflnjoaaStL
import Derived.Test.YtgakgnofflnjoaaStM
import Derived.Test.YtgakgnofflnjoaaStS
import Derived.Test.YtgakgnofflnjoaaStV
import Derived.Test.YtgakgnofflnjoaaStD
import Derived.Test.YtgakgnofflnjoaaSxP
import Derived.Test.YtgakgnofflnjoaaSxA
import Derived.Test.YtgakgnofflnjoaaSxB
import Derived.Test.YtgakgnofflnjoaaSxT
import Derived.Test.YtgakgnofflnjoaaSxD
import Derived.Test.YtgakgnofflnjoaaSxK
import Derived.Test.YtgakgnofflnjoaaSxQ
import Derived.Test.YtgakgnofflnjoaaSxM
import Derived.Test.YtgakgnofflnjoaaSxL
import Derived.Test.YtgakgnofflnjoaaSxC
import Derived.Test.YtgakgnofflnjoaaSyR
import Derived.Test.YtgakgnofflnjoaaSyS
import Derived.Test.YtgakgnofflnjoaaSyA
import Derived.Test.YtgakgnofflnjoaaStormScriptsB
import Derived.WalkKit
import Derived.ProofKit
import Derived.OpenShut
import Derived.ShutString
import Derived.Below
import Derived.Outline
import Derived.WalkLawsBesides
import Derived.WalkSpells
import Derived.Handy
import Derived.Deep.QuietTactic
import Derived.BigQuiet
import Derived.RegionTactic
import Derived.ChangeAlike
import Derived.Lib.Hide
import Derived.Laws.Rows
import Derived.Laws.Tables
import Derived.Laws.CopyOwn
import Derived.Laws.MakeOwn
import Derived.Laws.Entries
import Derived.Laws.OwnMore
import Derived.Deep.WholeRow
import Derived.Deep.LoopGhost
import Derived.Deep.AppendLies
import Derived.Deep.Draws
import Derived.Maps.AppendAt
import Derived.OwnWalk
import Derived.Deep.RegionHeld3
import Derived.Deep.Cut
import Derived.Deep.CutRange
import Derived.Deep.DeepCutAuto
import Derived.Deep.CutBlock
import Derived.Lib.SliceRun
import Derived.IntWalk
namespace Go.Proofs.Ytgakgnofflnjoaa.stormScripts
open Go.ChangeShapes Go.WideShapes Go.ChangeAt Go.RowKit
theorem eqSeatAsk (d : Nat) (k i c a1 a2 a3 a4 a5 q : Int) (w : World) : (Op.equalIn (d + 3) 45 (.agg #[.int .i64 k, .int .i64 i, .int .i64 c, .int .i64 a1, .int .i64 a2, .int .i64 a3, .int .i64 a4, .int .i64 a5, .int .i64 q]) (.agg #[.int .i64 k, .int .i64 i, .int .i64 c, .int .i64 a1, .int .i64 a2, .int .i64 a3, .int .i64 a4, .int .i64 a5, .int .i64 q])).run Try.prog w = .ok true w := by
  have u3 := Try.underlying3
  have a3' := Try.isAgg3
  have z3 := Try.sizeOf3
  have a63 := Try.isAgg43
  have z63 := Try.sizeOf43
  have hS : Try.prog.underlying 45 = some (.struct (Try.prog.fieldsOf 45)) := by kernel_rfl
  have hp : Try.prog.stoodInHeld 45 = false := by kernel_rfl
  have hT := eqTerms a1 a2 a3 a4 a5 d
  rw [show d + 3 = (d + 2) + 1 from rfl, run_equalIn_agg w (d + 2) 45 _ _ hS hp]
  simp only [Program.fieldsOf, Try.underlying45]
  go_simp
  try simp [hT]
theorem eqEv (q0 q1 q2 q3 q4 q5 q6 q7 q8 q9 q10 q11 : Int) (w : World) : (Op.equalIn 10000 47 (.agg (List.toArray [Value.int .i64 q0, Value.int .i64 q1, Value.int .i64 q2, Value.int .i64 q3, Value.int .i64 q4, Value.int .i64 q5, Value.int .i64 q6, Value.int .i64 q7, Value.int .i64 q8, Value.int .i64 q9, Value.int .i64 q10, Value.int .i64 q11])) (.agg (List.toArray [Value.int .i64 q0, Value.int .i64 q1, Value.int .i64 q2, Value.int .i64 q3, Value.int .i64 q4, Value.int .i64 q5, Value.int .i64 q6, Value.int .i64 q7, Value.int .i64 q8, Value.int .i64 q9, Value.int .i64 q10, Value.int .i64 q11]))).run Try.prog w = .ok true w := by
  have u3 := Try.underlying3
  have a3' := Try.isAgg3
  have z3 := Try.sizeOf3
  have a63 := Try.isAgg45
  have z63 := Try.sizeOf45
  have hS : Try.prog.underlying 47 = some (.struct (Try.prog.fieldsOf 47)) := by kernel_rfl
  have hp : Try.prog.stoodInHeld 47 = false := by kernel_rfl
  have hT := eqSeatAsk 9996 q3 q4 q5 q6 q7 q8 q9 q10 q11
  rw [show (10000 : Nat) = 9999 + 1 from rfl, run_equalIn_agg w 9999 47 _ _ hS hp]
  simp only [Program.fieldsOf, Try.underlying47]
  go_simp
  try simp [hT]
theorem infoE12 : (Try.prog.info? 47).map (·.size) = some 12 := by kernel_rfl
theorem rowcells {w wr : World} {bs g n c k : Nat} {L : List (List Int)} {x : List Int} (h : w.ownsRow bs 47 12 (.slice (some ⟨g, 0, none⟩) n c) n (lv L)) (h12 : ∀ x ∈ L, x.length = 12) (hb : Below w.heap.size w wr) (hx : L[k]? = some x) (hn : k < n) : ∀ j u, j < 12 → x[j]? = some u → wr.cell? ⟨g, k * 12 + j, none⟩ = some (.int .i64 u) := fun j u hj hu => by
  have h1 := flat_get L k j _ h12 hx hj
  rw [hu] at h1
  have h2 : (lv L)[k * 12 + j]? = some (.int .i64 u) := by unfold lv; rw [List.getElem?_map, h1]; rfl
  exact (hb.cell (p := ⟨g, k * 12 + j, none⟩) (h.lt g rfl).2).trans ((World.ownsRow.cellAt h (k * 12 + j) (by omega)).trans h2)
set_option maxRecDepth 100000 in
set_option maxHeartbeats 16000000 in
theorem main (p c n b r f g ma mt md ms mp mw seed most : Int) (w : World) (hp : 1 ≤ p ∧ p ≤ 6) (hc : 1 ≤ c ∧ c ≤ 4) (hn : 1 ≤ n ∧ n ≤ 3) (hb : 1 ≤ b ∧ b ≤ 4) (hm1 : -10000 ≤ ma ∧ ma ≤ 10000) (hm2 : -10000 ≤ mt ∧ mt ≤ 10000) (hm3 : -10000 ≤ md ∧ md ≤ 10000) (hm4 : -10000 ≤ ms ∧ ms ≤ 10000) (hm5 : -10000 ≤ mp ∧ mp ≤ 10000) (hm6 : 0 ≤ mw ∧ mw ≤ 10000) (hr : 0 ≤ r ∧ r ≤ 4) (hf : 1 ≤ f ∧ f ≤ 4) (hg : 1 ≤ g ∧ g ≤ 15) (hmost : most ≤ 2000) (hF : ∀ W, Calls Try.prog 7 #[.agg #[.int .i64 ma, .int .i64 mt, .int .i64 md, .int .i64 ms, .int .i64 mp, .int .i64 mw]] W fun e w' => e = .returned (.bool true) ∧ Below W.heap.size W w') : Calls Try.prog 3 #[.agg #[.int .i64 p, .int .i64 c, .int .i64 n, .int .i64 b, .int .i64 r, .int .i64 f, .int .i64 g], .int .u64 seed, .agg #[.int .i64 ma, .int .i64 mt, .int .i64 md, .int .i64 ms, .int .i64 mp, .int .i64 mw], .int .i64 most] w fun e w' => e = .returned (.bool true) ∧ Below w.heap.size w w' := by
  have HN := Lib.hid (fun W => rnew_ok p c n b r f g W hp hc hn hb hr hf hg)
  have HCK := Lib.hid (fun W => check_ok p c n b r f g W hp hc hn hb hr hf hg)
  have HF := Lib.hid hF
  obtain ⟨mst, hmst⟩ : ∃ mst : Nat, most.toNat = mst := ⟨_, rfl⟩
  have HS1 := Lib.hid (fun W => show Calls Try.prog 9 #[.agg #[.int .i64 p, .int .i64 c, .int .i64 n, .int .i64 b, .int .i64 r, .int .i64 f, .int .i64 g], .int .u64 seed, .agg #[.int .i64 ma, .int .i64 mt, .int .i64 md, .int .i64 ms, .int .i64 mp, .int .i64 mw], .int .i64 most] W (fun e w' => ∃ A cp, e = .returned (.slice A mst cp) ∧ w'.ownsRow W.heap.size 47 12 (.slice A mst cp) mst (lv (scr p c n b ma mt md ms mp mw seed mst)) ∧ Below W.heap.size W w') from by have h := script_is p c n b r f g ma mt md ms mp mw seed most W hp hc hn hb hm1 hm2 hm3 hm4 hm5 hm6 (by omega); rw [hmst] at h; exact h)
  have HS2 := Lib.hid (fun W => show Calls Try.prog 11 #[.agg #[.int .i64 p, .int .i64 c, .int .i64 n, .int .i64 b, .int .i64 r, .int .i64 f, .int .i64 g], .int .u64 seed, .agg #[.int .i64 ma, .int .i64 mt, .int .i64 md, .int .i64 ms, .int .i64 mp, .int .i64 mw], .int .i64 most] W (fun e w' => ∃ A cp, e = .returned (.slice A mst cp) ∧ w'.ownsRow W.heap.size 67 12 (.slice A mst cp) mst (lv (scr p c n b ma mt md ms mp mw seed mst)) ∧ Below W.heap.size W w') from by have h := refscr_is p c n b r f g ma mt md ms mp mw seed most W hp hc hn hb hm1 hm2 hm3 hm4 hm5 hm6 hmost; rw [hmst] at h; exact h)
  have hL := scr_len p c n b ma mt md ms mp mw seed mst
  have h12 : ∀ x ∈ scr p c n b ma mt md ms mp mw seed mst, x.length = 12 := fun x hx => itS_12 p c n b ma mt md ms mp mw seed mst x (List.mem_of_mem_take hx)
  have HS3 := Lib.hid (fun (W : World) (bs cap : Nat) (A : Option Addr) (h : W.ownsRow bs 67 12 (.slice A mst cap) mst (lv (scr p c n b ma mt md ms mp mw seed mst))) => show Calls Try.prog 10 #[.slice A mst cap] W (fun e w' => ∃ A' c', e = .returned (.slice A' mst c') ∧ w'.ownsRow W.heap.size 47 12 (.slice A' mst c') mst (lv (scr p c n b ma mt md ms mp mw seed mst)) ∧ Below W.heap.size W w') from by have h2 := all_is bs cap A (scr p c n b ma mt md ms mp mw seed mst) W (by rw [hL]; exact h) h12 (by omega); rw [hL] at h2; exact h2)
  have H12 := Lib.hid h12
  have HL := Lib.hid hL
  have q2 : (mst : Int) ≤ 2000 := by omega
  have q3 : (0 : Int) ≤ (mst : Int) := by omega
  clear hp hc hn hb hm1 hm2 hm3 hm4 hm5 hm6 hr hf hg hF hmst h12 hL
  go_enter Try.func3, Try.ntmps3
  go_wp2_with fail
  obtain ⟨W0, hW0⟩ : ∃ W0, W0 = (w.alloc (.cells (List.toArray [.int .i64 p, .int .i64 c, .int .i64 n, .int .i64 b, .int .i64 r, .int .i64 f, .int .i64 g]) 23)).alloc (.cells (List.toArray [.int .i64 ma, .int .i64 mt, .int .i64 md, .int .i64 ms, .int .i64 mp, .int .i64 mw]) 26) := ⟨_, rfl⟩
  have bC0 : Bl w.heap.size [.int .i64 p, .int .i64 c, .int .i64 n, .int .i64 b, .int .i64 r, .int .i64 f, .int .i64 g] W0 := by rw [hW0]; exact (Bl.new w [.int .i64 p, .int .i64 c, .int .i64 n, .int .i64 b, .int .i64 r, .int .i64 f, .int .i64 g] 23).below (by go_grown)
  have bM0 : Bl (w.heap.size + 1) [.int .i64 ma, .int .i64 mt, .int .i64 md, .int .i64 ms, .int .i64 mp, .int .i64 mw] W0 := by
    rw [hW0]
    have h := Bl.new (w.alloc (.cells (List.toArray [.int .i64 p, .int .i64 c, .int .i64 n, .int .i64 b, .int .i64 r, .int .i64 f, .int .i64 g]) 23)) [.int .i64 ma, .int .i64 mt, .int .i64 md, .int .i64 ms, .int .i64 mp, .int .i64 mw] 26
    rw [World.size_alloc] at h
    exact h
  have hB0 : Below w.heap.size w W0 := by rw [hW0]; go_grown
  rw [← hW0]
  obtain ⟨C, hC⟩ : ∃ C, C = w.heap.size := ⟨_, rfl⟩
  obtain ⟨M, hM⟩ : ∃ M, M = w.heap.size + 1 := ⟨_, rfl⟩
  rw [← hM] at bM0 ⊢
  rw [← hC] at bC0
  have hwC : w.heap.size = C := hC.symm
  simp only [hwC]
  have HWC := Lib.hid hwC
  clear hwC hC hM hW0
  refine (HN.out _).mono ?_
  rintro e w1 ⟨rfl, hb1⟩
  have bC1 := bC0.below hb1
  have bM1 := bM0.below hb1
  have hB1 := Below.step hB0 hb1
  have bR := Bl.new w1 [.int .i64 p, .int .i64 c, .int .i64 n, .int .i64 b, .int .i64 r, .int .i64 f, .int .i64 g] 28
  have hD1 : Below w1.heap.size w1 (w1.alloc (.cells (List.toArray [.int .i64 p, .int .i64 c, .int .i64 n, .int .i64 b, .int .i64 r, .int .i64 f, .int .i64 g]) 28)) := by go_grown
  have bM := bM1.below hD1
  have bC := bC1.below hD1
  have hB := Below.step hB1 hD1
  obtain ⟨R, hR⟩ : ∃ R, R = w1.heap.size := ⟨_, rfl⟩
  rw [← hR] at bR
  have i0 := bC1.cell 0 _ rfl
  have i1 := bC1.cell 1 _ rfl
  have i2 := bC1.cell 2 _ rfl
  have i3 := bC1.cell 3 _ rfl
  have i4 := bC1.cell 4 _ rfl
  have i5 := bC1.cell 5 _ rfl
  have i6 := bC1.cell 6 _ rfl
  clear hb1 bC0 bM0 hB0 hB1 hD1 bM1
  have hCl := bC1.lt
  clear bC1
  go_wp2_with fail
  rw [← hR]
  have HRR := Lib.hid hR
  clear hR
  generalize w1.alloc (.cells (List.toArray [.int .i64 p, .int .i64 c, .int .i64 n, .int .i64 b, .int .i64 r, .int .i64 f, .int .i64 g]) 28) = w1a at *
  refine (HCK.out _).mono ?_
  rintro e w2 ⟨rfl, hb2⟩
  have bC := bC.below hb2
  have bM := bM.below hb2
  have bR := bR.below hb2
  have hB := Below.step hB hb2
  have j0 := bM.cell 0 _ rfl
  have j1 := bM.cell 1 _ rfl
  have j2 := bM.cell 2 _ rfl
  have j3 := bM.cell 3 _ rfl
  have j4 := bM.cell 4 _ rfl
  have j5 := bM.cell 5 _ rfl
  clear hb2 i0 i1 i2 i3 i4 i5 i6
  go_wp2_with fail
  refine (HF.out _).mono ?_
  rintro e w3 ⟨rfl, hb3⟩
  have bC := bC.below hb3
  have bM := bM.below hb3
  have bR := bR.below hb3
  have hB := Below.step hB hb3
  have dm : decide ((2000 : Int) < most) = false := decide_eq_false (by omega)
  clear hb3 j0 j1 j2 j3 j4 j5
  go_wp2_with fail
  have bC := bC.below (Below.drew (Below.refl _ _))
  have bM := bM.below (Below.drew (Below.refl _ _))
  have bR := bR.below (Below.drew (Below.refl _ _))
  have hB := Below.drew hB
  have hS := (And.intro (bC.cell 0 _ rfl) (And.intro (bC.cell 1 _ rfl) (And.intro (bC.cell 2 _ rfl) (And.intro (bC.cell 3 _ rfl) (And.intro (bC.cell 4 _ rfl) (And.intro (bC.cell 5 _ rfl) (And.intro (bC.cell 6 _ rfl) (And.intro (bM.cell 0 _ rfl) (And.intro (bM.cell 1 _ rfl) (And.intro (bM.cell 2 _ rfl) (And.intro (bM.cell 3 _ rfl) (And.intro (bM.cell 4 _ rfl) (And.intro (bM.cell 5 _ rfl) (And.intro (bR.cell 0 _ rfl) (And.intro (bR.cell 1 _ rfl) (And.intro (bR.cell 2 _ rfl) (And.intro (bR.cell 3 _ rfl) (And.intro (bR.cell 4 _ rfl) (And.intro (bR.cell 5 _ rfl) (bR.cell 6 _ rfl))))))))))))))))))))
  go_cut [11, 12] (fun a2 b2 wx => ∃ A1 c1 A2 c2, a2 = .slice A1 mst c1 ∧ b2 = .slice A2 mst c2 ∧ Hid (∃ bs, wx.ownsRow bs 47 12 (.slice A1 mst c1) mst (lv (scr p c n b ma mt md ms mp mw seed mst))) ∧ Hid (∃ bs, wx.ownsRow bs 47 12 (.slice A2 mst c2) mst (lv (scr p c n b ma mt md ms mp mw seed mst))) ∧ Hid (Below w.heap.size w wx))
  case first =>
    go_region_held3 (fun w' => w'.cell? ⟨C, 0, none⟩ = some (.int .i64 p) ∧ w'.cell? ⟨C, 1, none⟩ = some (.int .i64 c) ∧ w'.cell? ⟨C, 2, none⟩ = some (.int .i64 n) ∧ w'.cell? ⟨C, 3, none⟩ = some (.int .i64 b) ∧ w'.cell? ⟨C, 4, none⟩ = some (.int .i64 r) ∧ w'.cell? ⟨C, 5, none⟩ = some (.int .i64 f) ∧ w'.cell? ⟨C, 6, none⟩ = some (.int .i64 g) ∧ w'.cell? ⟨M, 0, none⟩ = some (.int .i64 ma) ∧ w'.cell? ⟨M, 1, none⟩ = some (.int .i64 mt) ∧ w'.cell? ⟨M, 2, none⟩ = some (.int .i64 md) ∧ w'.cell? ⟨M, 3, none⟩ = some (.int .i64 ms) ∧ w'.cell? ⟨M, 4, none⟩ = some (.int .i64 mp) ∧ w'.cell? ⟨M, 5, none⟩ = some (.int .i64 mw) ∧ w'.cell? ⟨R, 0, none⟩ = some (.int .i64 p) ∧ w'.cell? ⟨R, 1, none⟩ = some (.int .i64 c) ∧ w'.cell? ⟨R, 2, none⟩ = some (.int .i64 n) ∧ w'.cell? ⟨R, 3, none⟩ = some (.int .i64 b) ∧ w'.cell? ⟨R, 4, none⟩ = some (.int .i64 r) ∧ w'.cell? ⟨R, 5, none⟩ = some (.int .i64 f) ∧ w'.cell? ⟨R, 6, none⟩ = some (.int .i64 g)) (first | with_reducible exact hS | fail) (first | (go_at_call 9; (with_reducible refine (HS1.out _).mono ?_); rintro e wx ⟨A1, c1, rfl, hO1, hb1⟩; (try have hO2 := row_kept hO2 hb1); (try have hO3 := row_kept hO3 hb1); have bC := bC.below hb1; have bM := bM.below hb1; have bR := bR.below hb1; have hB := Below.step hB hb1; have hS := (And.intro (bC.cell 0 _ rfl) (And.intro (bC.cell 1 _ rfl) (And.intro (bC.cell 2 _ rfl) (And.intro (bC.cell 3 _ rfl) (And.intro (bC.cell 4 _ rfl) (And.intro (bC.cell 5 _ rfl) (And.intro (bC.cell 6 _ rfl) (And.intro (bM.cell 0 _ rfl) (And.intro (bM.cell 1 _ rfl) (And.intro (bM.cell 2 _ rfl) (And.intro (bM.cell 3 _ rfl) (And.intro (bM.cell 4 _ rfl) (And.intro (bM.cell 5 _ rfl) (And.intro (bR.cell 0 _ rfl) (And.intro (bR.cell 1 _ rfl) (And.intro (bR.cell 2 _ rfl) (And.intro (bR.cell 3 _ rfl) (And.intro (bR.cell 4 _ rfl) (And.intro (bR.cell 5 _ rfl) (bR.cell 6 _ rfl)))))))))))))))))))); clear hb1) | (go_at_call 11; (with_reducible refine (HS2.out _).mono ?_); rintro e wx ⟨A2, c2, rfl, hO2, hb1⟩; (try have hO1 := row_kept hO1 hb1); have bC := bC.below hb1; have bM := bM.below hb1; have bR := bR.below hb1; have hB := Below.step hB hb1; have hS := (And.intro (bC.cell 0 _ rfl) (And.intro (bC.cell 1 _ rfl) (And.intro (bC.cell 2 _ rfl) (And.intro (bC.cell 3 _ rfl) (And.intro (bC.cell 4 _ rfl) (And.intro (bC.cell 5 _ rfl) (And.intro (bC.cell 6 _ rfl) (And.intro (bM.cell 0 _ rfl) (And.intro (bM.cell 1 _ rfl) (And.intro (bM.cell 2 _ rfl) (And.intro (bM.cell 3 _ rfl) (And.intro (bM.cell 4 _ rfl) (And.intro (bM.cell 5 _ rfl) (And.intro (bR.cell 0 _ rfl) (And.intro (bR.cell 1 _ rfl) (And.intro (bR.cell 2 _ rfl) (And.intro (bR.cell 3 _ rfl) (And.intro (bR.cell 4 _ rfl) (And.intro (bR.cell 5 _ rfl) (bR.cell 6 _ rfl)))))))))))))))))))); clear hb1) | (go_at_call 10; (with_reducible refine (HS3.out _ _ _ _ hO2).mono ?_); rintro e wx ⟨A3, c3, rfl, hO3, hb1⟩; (try have hO1 := row_kept hO1 hb1); have bC := bC.below hb1; have bM := bM.below hb1; have bR := bR.below hb1; have hB := Below.step hB hb1; have hS := (And.intro (bC.cell 0 _ rfl) (And.intro (bC.cell 1 _ rfl) (And.intro (bC.cell 2 _ rfl) (And.intro (bC.cell 3 _ rfl) (And.intro (bC.cell 4 _ rfl) (And.intro (bC.cell 5 _ rfl) (And.intro (bC.cell 6 _ rfl) (And.intro (bM.cell 0 _ rfl) (And.intro (bM.cell 1 _ rfl) (And.intro (bM.cell 2 _ rfl) (And.intro (bM.cell 3 _ rfl) (And.intro (bM.cell 4 _ rfl) (And.intro (bM.cell 5 _ rfl) (And.intro (bR.cell 0 _ rfl) (And.intro (bR.cell 1 _ rfl) (And.intro (bR.cell 2 _ rfl) (And.intro (bR.cell 3 _ rfl) (And.intro (bR.cell 4 _ rfl) (And.intro (bR.cell 5 _ rfl) (bR.cell 6 _ rfl)))))))))))))))))))); clear hb1) | fail)
    all_goals ((apply meet_of); (focus (assumption)); (go_meet; exact ⟨A1, c1, A3, c3, rfl, rfl, ⟨_, hO1⟩, ⟨_, hO3⟩, hB⟩))
  case rest =>
    obtain ⟨A1, c1, A2, c2, rfl, rfl, HR1, HR2, HB⟩ := hcut
    clear bC bM bR hB hS
    have e1 : ((mst : Int) != (mst : Int)) = false := by simp
    generalize wc = w4 at *
    go_wp2_with fail
    go_loopw [13, 58] (fun _ i wr => ∃ q : Nat, q ≤ mst ∧ i = .int .i64 (q : Int) ∧ Below w4.heap.size w4 wr) (fun _ i _ => mst + 1 - (intOf i).toNat)
    case atStart => exact ⟨0, Nat.zero_le _, rfl, Below.refl _ _⟩
    case round =>
      obtain ⟨q, hq, rfl, hBq⟩ := hrel
      have q0 : (0 : Int) ≤ (q : Int) := by omega
      by_cases hqx : q < mst
      · have q1 : (q : Int) < (mst : Int) := by omega
        obtain ⟨x, hx⟩ : ∃ x, (scr p c n b ma mt md ms mp mw seed mst)[q]? = some x := ⟨_, List.getElem?_eq_getElem (by rw [HL.out]; exact hqx)⟩
        obtain ⟨q0, q1, q2, q3, q4, q5, q6, q7, q8, q9, q10, q11, rfl⟩ := lst12 (H12.out x (List.mem_of_getElem? hx))
        obtain ⟨bs1, hO1⟩ := HR1.out
        obtain ⟨bs2, hO2⟩ := HR2.out
        obtain ⟨g3, cp3, hv3, _, _⟩ := World.ownsRow.form hO1 (by omega)
        obtain ⟨g4, cp4, hv4, _, _⟩ := World.ownsRow.form hO2 (by omega)
        obtain ⟨rfl, rfl⟩ : A1 = some ⟨g3, 0, none⟩ ∧ cp3 = c1 := by
          injection hv3 with h1 h2 h3
          exact ⟨h1, h3.symm⟩
        obtain ⟨rfl, rfl⟩ : A2 = some ⟨g4, 0, none⟩ ∧ cp4 = c2 := by
          injection hv4 with h1 h2 h3
          exact ⟨h1, h3.symm⟩
        have ha := rowcells hO1 H12.out (Below.drew hBq) hx hqx
        have hb := rowcells hO2 H12.out (Below.drew hBq) hx hqx
        have hS : wr.drew.cell? ⟨g3, q * 12, none⟩ = some (.int .i64 q0) ∧ wr.drew.cell? ⟨g3, q * 12 + 1, none⟩ = some (.int .i64 q1) ∧ wr.drew.cell? ⟨g3, q * 12 + 2, none⟩ = some (.int .i64 q2) ∧ wr.drew.cell? ⟨g3, q * 12 + 3, none⟩ = some (.int .i64 q3) ∧ wr.drew.cell? ⟨g3, q * 12 + 4, none⟩ = some (.int .i64 q4) ∧ wr.drew.cell? ⟨g3, q * 12 + 5, none⟩ = some (.int .i64 q5) ∧ wr.drew.cell? ⟨g3, q * 12 + 6, none⟩ = some (.int .i64 q6) ∧ wr.drew.cell? ⟨g3, q * 12 + 7, none⟩ = some (.int .i64 q7) ∧ wr.drew.cell? ⟨g3, q * 12 + 8, none⟩ = some (.int .i64 q8) ∧ wr.drew.cell? ⟨g3, q * 12 + 9, none⟩ = some (.int .i64 q9) ∧ wr.drew.cell? ⟨g3, q * 12 + 10, none⟩ = some (.int .i64 q10) ∧ wr.drew.cell? ⟨g3, q * 12 + 11, none⟩ = some (.int .i64 q11) ∧ wr.drew.cell? ⟨g4, q * 12, none⟩ = some (.int .i64 q0) ∧ wr.drew.cell? ⟨g4, q * 12 + 1, none⟩ = some (.int .i64 q1) ∧ wr.drew.cell? ⟨g4, q * 12 + 2, none⟩ = some (.int .i64 q2) ∧ wr.drew.cell? ⟨g4, q * 12 + 3, none⟩ = some (.int .i64 q3) ∧ wr.drew.cell? ⟨g4, q * 12 + 4, none⟩ = some (.int .i64 q4) ∧ wr.drew.cell? ⟨g4, q * 12 + 5, none⟩ = some (.int .i64 q5) ∧ wr.drew.cell? ⟨g4, q * 12 + 6, none⟩ = some (.int .i64 q6) ∧ wr.drew.cell? ⟨g4, q * 12 + 7, none⟩ = some (.int .i64 q7) ∧ wr.drew.cell? ⟨g4, q * 12 + 8, none⟩ = some (.int .i64 q8) ∧ wr.drew.cell? ⟨g4, q * 12 + 9, none⟩ = some (.int .i64 q9) ∧ wr.drew.cell? ⟨g4, q * 12 + 10, none⟩ = some (.int .i64 q10) ∧ wr.drew.cell? ⟨g4, q * 12 + 11, none⟩ = some (.int .i64 q11) := (And.intro (ha 0 _ (by omega) rfl) (And.intro (ha 1 _ (by omega) rfl) (And.intro (ha 2 _ (by omega) rfl) (And.intro (ha 3 _ (by omega) rfl) (And.intro (ha 4 _ (by omega) rfl) (And.intro (ha 5 _ (by omega) rfl) (And.intro (ha 6 _ (by omega) rfl) (And.intro (ha 7 _ (by omega) rfl) (And.intro (ha 8 _ (by omega) rfl) (And.intro (ha 9 _ (by omega) rfl) (And.intro (ha 10 _ (by omega) rfl) (And.intro (ha 11 _ (by omega) rfl) (And.intro (hb 0 _ (by omega) rfl) (And.intro (hb 1 _ (by omega) rfl) (And.intro (hb 2 _ (by omega) rfl) (And.intro (hb 3 _ (by omega) rfl) (And.intro (hb 4 _ (by omega) rfl) (And.intro (hb 5 _ (by omega) rfl) (And.intro (hb 6 _ (by omega) rfl) (And.intro (hb 7 _ (by omega) rfl) (And.intro (hb 8 _ (by omega) rfl) (And.intro (hb 9 _ (by omega) rfl) (And.intro (hb 10 _ (by omega) rfl) (hb 11 _ (by omega) rfl))))))))))))))))))))))))
        have heq := eqEv q0 q1 q2 q3 q4 q5 q6 q7 q8 q9 q10 q11
        clear hO1 hO2 ha hb hx hv3 hv4
        go_wp2_with fail
        go_region_held3 (fun w' => w'.cell? ⟨g3, q * 12, none⟩ = some (.int .i64 q0) ∧ w'.cell? ⟨g3, q * 12 + 1, none⟩ = some (.int .i64 q1) ∧ w'.cell? ⟨g3, q * 12 + 2, none⟩ = some (.int .i64 q2) ∧ w'.cell? ⟨g3, q * 12 + 3, none⟩ = some (.int .i64 q3) ∧ w'.cell? ⟨g3, q * 12 + 4, none⟩ = some (.int .i64 q4) ∧ w'.cell? ⟨g3, q * 12 + 5, none⟩ = some (.int .i64 q5) ∧ w'.cell? ⟨g3, q * 12 + 6, none⟩ = some (.int .i64 q6) ∧ w'.cell? ⟨g3, q * 12 + 7, none⟩ = some (.int .i64 q7) ∧ w'.cell? ⟨g3, q * 12 + 8, none⟩ = some (.int .i64 q8) ∧ w'.cell? ⟨g3, q * 12 + 9, none⟩ = some (.int .i64 q9) ∧ w'.cell? ⟨g3, q * 12 + 10, none⟩ = some (.int .i64 q10) ∧ w'.cell? ⟨g3, q * 12 + 11, none⟩ = some (.int .i64 q11) ∧ w'.cell? ⟨g4, q * 12, none⟩ = some (.int .i64 q0) ∧ w'.cell? ⟨g4, q * 12 + 1, none⟩ = some (.int .i64 q1) ∧ w'.cell? ⟨g4, q * 12 + 2, none⟩ = some (.int .i64 q2) ∧ w'.cell? ⟨g4, q * 12 + 3, none⟩ = some (.int .i64 q3) ∧ w'.cell? ⟨g4, q * 12 + 4, none⟩ = some (.int .i64 q4) ∧ w'.cell? ⟨g4, q * 12 + 5, none⟩ = some (.int .i64 q5) ∧ w'.cell? ⟨g4, q * 12 + 6, none⟩ = some (.int .i64 q6) ∧ w'.cell? ⟨g4, q * 12 + 7, none⟩ = some (.int .i64 q7) ∧ w'.cell? ⟨g4, q * 12 + 8, none⟩ = some (.int .i64 q8) ∧ w'.cell? ⟨g4, q * 12 + 9, none⟩ = some (.int .i64 q9) ∧ w'.cell? ⟨g4, q * 12 + 10, none⟩ = some (.int .i64 q10) ∧ w'.cell? ⟨g4, q * 12 + 11, none⟩ = some (.int .i64 q11)) (first | with_reducible exact hS | fail) (first | fail)
        go_wp2_with fail
        go_roundw
        case rel => exact ⟨q + 1, by omega, by go_num, Below.drew hBq⟩
        case measure => simp [intOf]; omega
      · obtain rfl : q = mst := by omega
        have hd : decide ((q : Int) < (q : Int)) = false := decide_eq_false (by omega)
        go_wp2_with fail
        refine (awake38 _).mono ?_
        rintro e w5 ⟨rfl, hb5⟩
        go_wp2_with fail
        go_ret
        exact ⟨rfl, Below.step (Below.step HB.out hBq) hb5⟩
theorem walk (a0_0 a0_1 a0_2 a0_3 a0_4 a0_5 a0_6 : Int) (a1 : Int) (a2_0 a2_1 a2_2 a2_3 a2_4 a2_5 : Int) (a3 : Int) (w : World) (_ : (Lit.int .i64 a0_0).wf = true) (_ : (Lit.int .i64 a0_1).wf = true) (_ : (Lit.int .i64 a0_2).wf = true) (_ : (Lit.int .i64 a0_3).wf = true) (_ : (Lit.int .i64 a0_4).wf = true) (_ : (Lit.int .i64 a0_5).wf = true) (_ : (Lit.int .i64 a0_6).wf = true) (_ : (Lit.int .u64 a1).wf = true) (_ : (Lit.int .i64 a2_0).wf = true) (_ : (Lit.int .i64 a2_1).wf = true) (_ : (Lit.int .i64 a2_2).wf = true) (_ : (Lit.int .i64 a2_3).wf = true) (_ : (Lit.int .i64 a2_4).wf = true) (_ : (Lit.int .i64 a2_5).wf = true) (_ : (Lit.int .i64 a3).wf = true) :
    Calls Try.prog 3 #[.agg #[.int .i64 a0_0, .int .i64 a0_1, .int .i64 a0_2, .int .i64 a0_3, .int .i64 a0_4, .int .i64 a0_5, .int .i64 a0_6], .int .u64 a1, .agg #[.int .i64 a2_0, .int .i64 a2_1, .int .i64 a2_2, .int .i64 a2_3, .int .i64 a2_4, .int .i64 a2_5], .int .i64 a3] w fun e w' => e = .returned (.bool true) ∧ Below w.heap.size w w' := by
  by_cases h : (1 ≤ a0_0 ∧ a0_0 ≤ 6) ∧ (1 ≤ a0_1 ∧ a0_1 ≤ 4) ∧ (1 ≤ a0_2 ∧ a0_2 ≤ 3) ∧ (1 ≤ a0_3 ∧ a0_3 ≤ 4) ∧ (0 ≤ a0_4 ∧ a0_4 ≤ 4) ∧ (1 ≤ a0_5 ∧ a0_5 ≤ 4) ∧ (1 ≤ a0_6 ∧ a0_6 ≤ 15)
  · obtain ⟨hp, hc, hn, hb, hr, hf, hg⟩ := h
    by_cases hin : (-10000 ≤ a2_0 ∧ a2_0 ≤ 10000) ∧ (-10000 ≤ a2_1 ∧ a2_1 ≤ 10000) ∧ (-10000 ≤ a2_2 ∧ a2_2 ≤ 10000) ∧ (-10000 ≤ a2_3 ∧ a2_3 ≤ 10000) ∧ (-10000 ≤ a2_4 ∧ a2_4 ≤ 10000) ∧ (-10000 ≤ a2_5 ∧ a2_5 ≤ 10000)
    · by_cases h0 : a2_5 < 0
      · exact r1 _ _ _ _ _ _ _ a1 a2_0 a2_1 a2_2 a2_3 a2_4 a2_5 a3 w hp hc hn hb hr hf hg (fun W => fits_neg _ _ _ _ _ _ W hin h0)
      · have hF := fun W => fits_yes _ _ _ _ _ _ W hin (by omega)
        by_cases h2 : 2000 < a3
        · exact r3 _ _ _ _ _ _ _ a1 a2_0 a2_1 a2_2 a2_3 a2_4 a2_5 a3 w hp hc hn hb hr hf hg hF h2
        · exact main _ _ _ _ _ _ _ _ _ _ _ _ _ a1 a3 w hp hc hn hb hin.1 hin.2.1 hin.2.2.1 hin.2.2.2.1 hin.2.2.2.2.1 ⟨by omega, hin.2.2.2.2.2.2⟩ hr hf hg (by omega) hF
    · exact r1 _ _ _ _ _ _ _ a1 a2_0 a2_1 a2_2 a2_3 a2_4 a2_5 a3 w hp hc hn hb hr hf hg (fun W => fits_no _ _ _ _ _ _ W hin)
  · exact bad _ _ _ _ _ _ _ a1 a2_0 a2_1 a2_2 a2_3 a2_4 a2_5 a3 w h
end Go.Proofs.Ytgakgnofflnjoaa.stormScripts
