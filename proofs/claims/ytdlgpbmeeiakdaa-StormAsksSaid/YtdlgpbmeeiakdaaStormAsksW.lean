/-
  StormAsks: the walk.
-/
import Derived.Test.YtdlgpbmeeiakdaaRows
import Derived.Test.YtdlgpbmeeiakdaaKit
import Derived.Test.YtdlgpbmeeiakdaaApp
import Derived.Test.YtdlgpbmeeiakdaaEv
import Derived.Test.YtdlgpbmeeiakdaaEvP
import Derived.Test.YtdlgpbmeeiakdaaQuiet
import Derived.Test.YtdlgpbmeeiakdaaRules
import Derived.Test.YtdlgpbmeeiakdaaCheck
import Derived.Test.YtdlgpbmeeiakdaaChk2
import Derived.Test.YtdlgpbmeeiakdaaPlA
import Derived.Test.YtdlgpbmeeiakdaaStA
import Derived.Test.YtdlgpbmeeiakdaaStT
import Derived.Test.YtdlgpbmeeiakdaaStK
import Derived.Test.YtdlgpbmeeiakdaaStR
import Derived.Test.YtdlgpbmeeiakdaaStL
import Derived.Test.YtdlgpbmeeiakdaaStS
import Derived.Test.YtdlgpbmeeiakdaaStM
import Derived.Test.YtdlgpbmeeiakdaaStV
import Derived.Test.YtdlgpbmeeiakdaaStD
import Derived.Test.YtdlgpbmeeiakdaaStormAsksB
import Derived.WalkKit
import Derived.ProofKit
import Derived.OpenShut
import Derived.ShutString
import Derived.Below
import Derived.Outline
import Derived.WalkLawsBesides
import Derived.WalkSpells
import Derived.Handy
import Derived.Deep.QuietTactic
import Derived.BigQuiet
import Derived.RegionTactic
import Derived.ChangeAlike
import Derived.Lib.Hide
import Derived.Laws.Rows
import Derived.Laws.Tables
import Derived.Laws.CopyOwn
import Derived.Laws.MakeOwn
import Derived.Laws.Entries
import Derived.Laws.OwnMore
import Derived.Deep.WholeRow
import Derived.Deep.LoopGhost
import Derived.Deep.AppendLies
import Derived.Deep.Draws
import Derived.Maps.AppendAt
import Derived.OwnWalk
import Derived.Deep.RegionHeld3
import Derived.Deep.Cut
import Derived.Deep.CutRange
import Derived.Deep.DeepCutAuto
import Derived.Deep.CutBlock
import Derived.Lib.SliceRun
import Derived.IntWalk
namespace Go.Proofs.Ytdlgpbmeeiakdaa.stormAsks
open Go.ChangeShapes Go.WideShapes Go.ChangeAt Go.RowKit
/-- The source's number behind so many asks. -/
def itN (c n mp mw id now seed : Int) : Nat → Int
  | 0 => seed
  | k + 1 => (askV c n mp mw id now (itN c n mp mw id now seed k)).2
set_option maxRecDepth 100000 in
set_option maxHeartbeats 16000000 in
theorem main (p c n b r f g seed ma mt md ms mp mw id now : Int) (w : World) (hp : 1 ≤ p ∧ p ≤ 6) (hc : 1 ≤ c ∧ c ≤ 4) (hn : 1 ≤ n ∧ n ≤ 3) (hb : 1 ≤ b ∧ b ≤ 4) (hr : 0 ≤ r ∧ r ≤ 4) (hf : 1 ≤ f ∧ f ≤ 4) (hg : 1 ≤ g ∧ g ≤ 15) (hF : ∀ W, Calls Try.prog 34 #[.agg #[.int .i64 ma, .int .i64 mt, .int .i64 md, .int .i64 ms, .int .i64 mp, .int .i64 mw]] W fun e w' => e = .returned (.bool true) ∧ Below W.heap.size W w') (hmp : -10000 ≤ mp ∧ mp ≤ 10000) (hmw : 0 ≤ mw ∧ mw ≤ 10000) (hid : 0 ≤ id ∧ id ≤ 1048576) (hnow : 0 ≤ now ∧ now ≤ 1000000) :
    Calls Try.prog 9 #[.agg #[.int .i64 p, .int .i64 c, .int .i64 n, .int .i64 b, .int .i64 r, .int .i64 f, .int .i64 g], .int .u64 seed, .agg #[.int .i64 ma, .int .i64 mt, .int .i64 md, .int .i64 ms, .int .i64 mp, .int .i64 mw], .int .i64 id, .int .i64 now] w fun e w' => e = .returned (.bool true) ∧ Below w.heap.size w w' := by
  have HN := Lib.hid (fun W => rnew_ok p c n b r f g W hp hc hn hb hr hf hg)
  have HCK := Lib.hid (fun W => check_ok p c n b r f g W hp hc hn hb hr hf hg)
  have HF := Lib.hid hF
  have HAI := Lib.hid (fun (bb : Nat) (NN : Int) (W : World) (h1 : W.cell? ⟨bb, 0, none⟩ = some (.int .u64 NN)) (h2 : W.frozen? ⟨bb, 0, none⟩ = false) => ask_is bb NN p c n b r f g ma mt md ms mp mw id now W h1 h2 hc hn hmp hmw hid hnow)
  have HRI := Lib.hid (fun (bb : Nat) (NN : Int) (W : World) (h1 : W.cell? ⟨bb, 0, none⟩ = some (.int .u64 NN)) (h2 : W.frozen? ⟨bb, 0, none⟩ = false) => ref_is bb NN p c n b r f g ma mt md ms mp mw id now W h1 h2 hc hn hmp hmw hid hnow)
  obtain ⟨i1, i2⟩ := hid
  obtain ⟨t1, t2⟩ := hnow
  have d1 : decide (id < 0) = false := decide_eq_false (by omega)
  have d2 : decide (1048576 < id) = false := decide_eq_false (by omega)
  have d3 : decide (now < 0) = false := decide_eq_false (by omega)
  have d4 : decide (1000000 < now) = false := decide_eq_false (by omega)
  clear hp hc hn hb hr hf hg hF hmp hmw
  go_enter Try.func9, Try.ntmps9
  go_wp2_with fail
  obtain ⟨W0, hW0⟩ : ∃ W0, W0 = (w.alloc (.cells #[.int .i64 p, .int .i64 c, .int .i64 n, .int .i64 b, .int .i64 r, .int .i64 f, .int .i64 g] 23)).alloc (.cells #[.int .i64 ma, .int .i64 mt, .int .i64 md, .int .i64 ms, .int .i64 mp, .int .i64 mw] 71) := ⟨_, rfl⟩
  have bC0 : Bl w.heap.size [.int .i64 p, .int .i64 c, .int .i64 n, .int .i64 b, .int .i64 r, .int .i64 f, .int .i64 g] W0 := by rw [hW0]; exact (Bl.new w [.int .i64 p, .int .i64 c, .int .i64 n, .int .i64 b, .int .i64 r, .int .i64 f, .int .i64 g] 23).below (by go_grown)
  have bM0 : Bl (w.heap.size + 1) [.int .i64 ma, .int .i64 mt, .int .i64 md, .int .i64 ms, .int .i64 mp, .int .i64 mw] W0 := by
    rw [hW0]
    have h := Bl.new (w.alloc (.cells #[.int .i64 p, .int .i64 c, .int .i64 n, .int .i64 b, .int .i64 r, .int .i64 f, .int .i64 g] 23)) [.int .i64 ma, .int .i64 mt, .int .i64 md, .int .i64 ms, .int .i64 mp, .int .i64 mw] 71
    rw [World.size_alloc] at h
    exact h
  have hB0 : Below w.heap.size w W0 := by rw [hW0]; go_grown
  rw [← hW0]
  obtain ⟨C, hC⟩ : ∃ C, C = w.heap.size := ⟨_, rfl⟩
  obtain ⟨M, hM⟩ : ∃ M, M = w.heap.size + 1 := ⟨_, rfl⟩
  rw [← hM] at bM0 ⊢
  rw [← hC] at bC0
  have hwC : w.heap.size = C := hC.symm
  simp only [hwC]
  clear hwC hC hM
  refine (HN.out _).mono ?_
  rintro e w1 ⟨rfl, hb1⟩
  have bC1 := bC0.below hb1
  have bM1 := bM0.below hb1
  have hB1 := Below.step hB0 hb1
  have bR1 := Bl.new w1 [.int .i64 p, .int .i64 c, .int .i64 n, .int .i64 b, .int .i64 r, .int .i64 f, .int .i64 g] 25
  have hD1 : Below w1.heap.size w1 (w1.alloc (.cells #[.int .i64 p, .int .i64 c, .int .i64 n, .int .i64 b, .int .i64 r, .int .i64 f, .int .i64 g] 25)) := by go_grown
  have bC2 := bC1.below hD1
  have bM2 := bM1.below hD1
  have hB2 := Below.step hB1 hD1
  have hRlt : M < w1.heap.size := bM1.lt
  have c0 := bC1.cell 0 _ rfl
  have c1 := bC1.cell 1 _ rfl
  have c2 := bC1.cell 2 _ rfl
  have c3 := bC1.cell 3 _ rfl
  have c4 := bC1.cell 4 _ rfl
  have c5 := bC1.cell 5 _ rfl
  have c6 := bC1.cell 6 _ rfl
  have cl := bC1.lt
  clear hb1 bC0 bM0 hB0 hW0 hD1 hRlt
  go_wp2_with fail
  clear c0 c1 c2 c3 c4 c5 c6 cl bC1 bM1
  generalize w1.alloc (.cells #[.int .i64 p, .int .i64 c, .int .i64 n, .int .i64 b, .int .i64 r, .int .i64 f, .int .i64 g] 25) = W1 at *
  generalize w1.heap.size = R at *
  refine (HCK.out _).mono ?_
  rintro e w2 ⟨rfl, hb2⟩
  have bC3 := bC2.below hb2
  have bM3 := bM2.below hb2
  have bR3 := bR1.below hb2
  have hB3 := Below.step hB2 hb2
  clear hb2 bC2 bM2 bR1 hB1 hB2
  have m0 := bM3.cell 0 _ rfl
  have m1 := bM3.cell 1 _ rfl
  have m2 := bM3.cell 2 _ rfl
  have m3 := bM3.cell 3 _ rfl
  have m4 := bM3.cell 4 _ rfl
  have m5 := bM3.cell 5 _ rfl
  go_wp2_with fail
  clear m0 m1 m2 m3 m4 m5
  refine (HF.out _).mono ?_
  rintro e w3 ⟨rfl, hb3⟩
  have bC4 := bC3.below hb3
  have bM4 := bM3.below hb3
  have bR4 := bR3.below hb3
  have hB4 := Below.step hB3 hb3
  clear hb3 bC3 bM3 bR3 hB3
  go_wp2_with fail
  refine (from39 _ _).mono ?_
  rintro e w4 ⟨rfl, rfl⟩
  go_wp2_with fail
  obtain ⟨W5, hW5⟩ : ∃ W5, W5 = (w3.alloc (.cells #[.int .u64 seed] 99)).alloc (.cells #[.int .u64 seed] 77) := ⟨_, rfl⟩
  have hD5 : Below w3.heap.size w3 W5 := by rw [hW5]; go_grown
  have bC5 := Lib.hid (bC4.below hD5)
  have bM5 := Lib.hid (bM4.below hD5)
  have bR5 := Lib.hid (bR4.below hD5)
  have HD5 : Dbl w W5 w3.heap.size (w3.heap.size + 1) seed seed := by
    rw [hW5]
    refine ⟨by simp [go_sem], by simp [go_sem], by simp [go_sem], by simp [go_sem], ?_, hB4.size, by have := hB4.size; omega, by omega⟩
    rw [← hW5]; exact Below.step hB4 hD5
  have eC1 : C ≠ w3.heap.size := by have := bC4.lt; omega
  have eM1 : M ≠ w3.heap.size := by have := bM4.lt; omega
  have eR1 : R ≠ w3.heap.size := by have := bR4.lt; omega
  have eC2 : C ≠ w3.heap.size + 1 := by have := bC4.lt; omega
  have eM2 : M ≠ w3.heap.size + 1 := by have := bM4.lt; omega
  have eR2 : R ≠ w3.heap.size + 1 := by have := bR4.lt; omega
  rw [← hW5]
  have HD5 := Lib.hid HD5
  clear bC4 bM4 bR4 hB4 hD5 hW5
  obtain ⟨b2, hb2'⟩ : ∃ b2, b2 = w3.heap.size + 1 := ⟨_, rfl⟩
  rw [← hb2'] at HD5 eC2 eM2 eR2 ⊢
  clear hb2'
  generalize w3.heap.size = b1 at *
  go_loopw [58] (fun i wr => ∃ k : Nat, k ≤ 5 ∧ i = .int .i64 (k : Int) ∧ Hid (Dbl w wr b1 b2 (itN c n mp mw id now seed k) (itN c n mp mw id now seed k)) ∧ Hid (Bl C [.int .i64 p, .int .i64 c, .int .i64 n, .int .i64 b, .int .i64 r, .int .i64 f, .int .i64 g] wr) ∧ Hid (Bl M [.int .i64 ma, .int .i64 mt, .int .i64 md, .int .i64 ms, .int .i64 mp, .int .i64 mw] wr) ∧ Hid (Bl R [.int .i64 p, .int .i64 c, .int .i64 n, .int .i64 b, .int .i64 r, .int .i64 f, .int .i64 g] wr)) (fun i _ => 6 - (intOf i).toNat)
  case atStart => exact ⟨0, by omega, rfl, HD5, bC5, bM5, bR5⟩
  case round =>
    clear HD5 bC5 bM5 bR5
    obtain ⟨k, hk, rfl, HD, HC, HM, HR⟩ := hrel
    have k0 : (0 : Int) ≤ (k : Int) := by omega
    by_cases hk5 : k < 5
    · have k1 : (k : Int) < 5 := by omega
      have HNX := Lib.hid (show itN c n mp mw id now seed (k + 1) = (askV c n mp mw id now (itN c n mp mw id now seed k)).2 from rfl)
      generalize itN c n mp mw id now seed k = N at *
      have HA1 := HAI.out b1 N
      have HR1 := HRI.out b2 N
      obtain ⟨V, N', hV⟩ : ∃ V N', askV c n mp mw id now N = (V, N') := ⟨_, _, rfl⟩
      rw [hV] at HA1 HR1 HNX
      obtain ⟨k1, k2, k3, k4, k5, k6, k7, k8, k9⟩ := V
      have HASK := Lib.hid (fun W (h1 : W.cell? ⟨b1, 0, none⟩ = some (.int .u64 N)) (h2 : W.frozen? ⟨b1, 0, none⟩ = false) => show Calls Try.prog 38 #[.agg #[.int .i64 p, .int .i64 c, .int .i64 n, .int .i64 b, .int .i64 r, .int .i64 f, .int .i64 g], .pointer (some ⟨b1, 0, none⟩), .agg #[.int .i64 ma, .int .i64 mt, .int .i64 md, .int .i64 ms, .int .i64 mp, .int .i64 mw], .int .i64 id, .int .i64 now] W (fun e w' => e = .returned (.agg #[.int .i64 k1, .int .i64 k2, .int .i64 k3, .int .i64 k4, .int .i64 k5, .int .i64 k6, .int .i64 k7, .int .i64 k8, .int .i64 k9]) ∧ Src W w' b1 N') from HA1 W h1 h2)
      have HREF := Lib.hid (fun W (h1 : W.cell? ⟨b2, 0, none⟩ = some (.int .u64 N)) (h2 : W.frozen? ⟨b2, 0, none⟩ = false) => show Calls Try.prog 39 #[.agg #[.int .i64 p, .int .i64 c, .int .i64 n, .int .i64 b, .int .i64 r, .int .i64 f, .int .i64 g], .pointer (some ⟨b2, 0, none⟩), .agg #[.int .i64 ma, .int .i64 mt, .int .i64 md, .int .i64 ms, .int .i64 mp, .int .i64 mw], .int .i64 id, .int .i64 now] W (fun e w' => e = .returned (.agg #[.int .i64 k1, .int .i64 k2, .int .i64 k3, .int .i64 k4, .int .i64 k5, .int .i64 k6, .int .i64 k7, .int .i64 k8, .int .i64 k9]) ∧ Src W w' b2 N') from HR1 W h1 h2)
      have HFR := Lib.hid (fun W => from_is k1 k2 k3 k4 k5 k6 k7 k8 k9 W)
      have heq : ∀ W, (Op.equalIn 10000 78 (.agg #[.int .i64 k1, .int .i64 k2, .int .i64 k3, .int .i64 k4, .int .i64 k5, .int .i64 k6, .int .i64 k7, .int .i64 k8, .int .i64 k9]) (.agg #[.int .i64 k1, .int .i64 k2, .int .i64 k3, .int .i64 k4, .int .i64 k5, .int .i64 k6, .int .i64 k7, .int .i64 k8, .int .i64 k9])).run Try.prog W = .ok true W := fun W => eqAsk k1 k2 k3 k4 k5 k6 k7 k8 k9 W
      clear HA1 HR1 hV
      go_wp2_with fail
      have hDR : Below wr.heap.size wr wr.drew := Below.drew (Below.refl _ _)
      have bC := HC.out.below hDR
      have bM := HM.out.below hDR
      have bR := HR.out.below hDR
      have hD := HD.out.below hDR
      have hS := (And.intro (bC.cell 0 (.int .i64 p) rfl) (And.intro (bC.cell 1 (.int .i64 c) rfl) (And.intro (bC.cell 2 (.int .i64 n) rfl) (And.intro (bC.cell 3 (.int .i64 b) rfl) (And.intro (bC.cell 4 (.int .i64 r) rfl) (And.intro (bC.cell 5 (.int .i64 f) rfl) (And.intro (bC.cell 6 (.int .i64 g) rfl) (And.intro (bM.cell 0 (.int .i64 ma) rfl) (And.intro (bM.cell 1 (.int .i64 mt) rfl) (And.intro (bM.cell 2 (.int .i64 md) rfl) (And.intro (bM.cell 3 (.int .i64 ms) rfl) (And.intro (bM.cell 4 (.int .i64 mp) rfl) (And.intro (bM.cell 5 (.int .i64 mw) rfl) (And.intro (bR.cell 0 (.int .i64 p) rfl) (And.intro (bR.cell 1 (.int .i64 c) rfl) (And.intro (bR.cell 2 (.int .i64 n) rfl) (And.intro (bR.cell 3 (.int .i64 b) rfl) (And.intro (bR.cell 4 (.int .i64 r) rfl) (And.intro (bR.cell 5 (.int .i64 f) rfl) (bR.cell 6 (.int .i64 g) rfl))))))))))))))))))))
      clear HC HM HR HD hDR
      go_region_held3 (fun w' => w'.cell? ⟨C, 0, none⟩ = some (.int .i64 p) ∧ w'.cell? ⟨C, 1, none⟩ = some (.int .i64 c) ∧ w'.cell? ⟨C, 2, none⟩ = some (.int .i64 n) ∧ w'.cell? ⟨C, 3, none⟩ = some (.int .i64 b) ∧ w'.cell? ⟨C, 4, none⟩ = some (.int .i64 r) ∧ w'.cell? ⟨C, 5, none⟩ = some (.int .i64 f) ∧ w'.cell? ⟨C, 6, none⟩ = some (.int .i64 g) ∧ w'.cell? ⟨M, 0, none⟩ = some (.int .i64 ma) ∧ w'.cell? ⟨M, 1, none⟩ = some (.int .i64 mt) ∧ w'.cell? ⟨M, 2, none⟩ = some (.int .i64 md) ∧ w'.cell? ⟨M, 3, none⟩ = some (.int .i64 ms) ∧ w'.cell? ⟨M, 4, none⟩ = some (.int .i64 mp) ∧ w'.cell? ⟨M, 5, none⟩ = some (.int .i64 mw) ∧ w'.cell? ⟨R, 0, none⟩ = some (.int .i64 p) ∧ w'.cell? ⟨R, 1, none⟩ = some (.int .i64 c) ∧ w'.cell? ⟨R, 2, none⟩ = some (.int .i64 n) ∧ w'.cell? ⟨R, 3, none⟩ = some (.int .i64 b) ∧ w'.cell? ⟨R, 4, none⟩ = some (.int .i64 r) ∧ w'.cell? ⟨R, 5, none⟩ = some (.int .i64 f) ∧ w'.cell? ⟨R, 6, none⟩ = some (.int .i64 g)) (first | with_reducible exact hS | fail) (first | (go_at_call 38; (with_reducible refine (HASK.out _ hD.c1 hD.f1).mono ?_); rintro e wx ⟨rfl, hs⟩; have bC := bC.src hs eC1; have bM := bM.src hs eM1; have bR := bR.src hs eR1; have hD := hD.left hs; have hS := (And.intro (bC.cell 0 (.int .i64 p) rfl) (And.intro (bC.cell 1 (.int .i64 c) rfl) (And.intro (bC.cell 2 (.int .i64 n) rfl) (And.intro (bC.cell 3 (.int .i64 b) rfl) (And.intro (bC.cell 4 (.int .i64 r) rfl) (And.intro (bC.cell 5 (.int .i64 f) rfl) (And.intro (bC.cell 6 (.int .i64 g) rfl) (And.intro (bM.cell 0 (.int .i64 ma) rfl) (And.intro (bM.cell 1 (.int .i64 mt) rfl) (And.intro (bM.cell 2 (.int .i64 md) rfl) (And.intro (bM.cell 3 (.int .i64 ms) rfl) (And.intro (bM.cell 4 (.int .i64 mp) rfl) (And.intro (bM.cell 5 (.int .i64 mw) rfl) (And.intro (bR.cell 0 (.int .i64 p) rfl) (And.intro (bR.cell 1 (.int .i64 c) rfl) (And.intro (bR.cell 2 (.int .i64 n) rfl) (And.intro (bR.cell 3 (.int .i64 b) rfl) (And.intro (bR.cell 4 (.int .i64 r) rfl) (And.intro (bR.cell 5 (.int .i64 f) rfl) (bR.cell 6 (.int .i64 g) rfl)))))))))))))))))))); clear hs) | (go_at_call 39; (with_reducible refine (HREF.out _ hD.c2 hD.f2).mono ?_); rintro e wx ⟨rfl, hs⟩; have bC := bC.src hs eC2; have bM := bM.src hs eM2; have bR := bR.src hs eR2; have hD := hD.right hs; have hS := (And.intro (bC.cell 0 (.int .i64 p) rfl) (And.intro (bC.cell 1 (.int .i64 c) rfl) (And.intro (bC.cell 2 (.int .i64 n) rfl) (And.intro (bC.cell 3 (.int .i64 b) rfl) (And.intro (bC.cell 4 (.int .i64 r) rfl) (And.intro (bC.cell 5 (.int .i64 f) rfl) (And.intro (bC.cell 6 (.int .i64 g) rfl) (And.intro (bM.cell 0 (.int .i64 ma) rfl) (And.intro (bM.cell 1 (.int .i64 mt) rfl) (And.intro (bM.cell 2 (.int .i64 md) rfl) (And.intro (bM.cell 3 (.int .i64 ms) rfl) (And.intro (bM.cell 4 (.int .i64 mp) rfl) (And.intro (bM.cell 5 (.int .i64 mw) rfl) (And.intro (bR.cell 0 (.int .i64 p) rfl) (And.intro (bR.cell 1 (.int .i64 c) rfl) (And.intro (bR.cell 2 (.int .i64 n) rfl) (And.intro (bR.cell 3 (.int .i64 b) rfl) (And.intro (bR.cell 4 (.int .i64 r) rfl) (And.intro (bR.cell 5 (.int .i64 f) rfl) (bR.cell 6 (.int .i64 g) rfl)))))))))))))))))))); clear hs) | (go_at_call 37; (with_reducible refine (HFR.out _).mono ?_); rintro e wx ⟨rfl, hs⟩; have bC := bC.below hs; have bM := bM.below hs; have bR := bR.below hs; have hD := hD.below hs; have hS := (And.intro (bC.cell 0 (.int .i64 p) rfl) (And.intro (bC.cell 1 (.int .i64 c) rfl) (And.intro (bC.cell 2 (.int .i64 n) rfl) (And.intro (bC.cell 3 (.int .i64 b) rfl) (And.intro (bC.cell 4 (.int .i64 r) rfl) (And.intro (bC.cell 5 (.int .i64 f) rfl) (And.intro (bC.cell 6 (.int .i64 g) rfl) (And.intro (bM.cell 0 (.int .i64 ma) rfl) (And.intro (bM.cell 1 (.int .i64 mt) rfl) (And.intro (bM.cell 2 (.int .i64 md) rfl) (And.intro (bM.cell 3 (.int .i64 ms) rfl) (And.intro (bM.cell 4 (.int .i64 mp) rfl) (And.intro (bM.cell 5 (.int .i64 mw) rfl) (And.intro (bR.cell 0 (.int .i64 p) rfl) (And.intro (bR.cell 1 (.int .i64 c) rfl) (And.intro (bR.cell 2 (.int .i64 n) rfl) (And.intro (bR.cell 3 (.int .i64 b) rfl) (And.intro (bR.cell 4 (.int .i64 r) rfl) (And.intro (bR.cell 5 (.int .i64 f) rfl) (bR.cell 6 (.int .i64 g) rfl)))))))))))))))))))); clear hs) | fail)
      all_goals (go_wp2_with fail; go_roundw)
      all_goals first | exact ⟨k + 1, by omega, by go_num, by rw [HNX.out]; exact Lib.hid hD, Lib.hid bC, Lib.hid bM, Lib.hid bR⟩ | (simp [intOf]; omega)
    · obtain rfl : k = 5 := by omega
      generalize itN c n mp mw id now seed 5 = N at *
      go_wp2_with fail
      refine (awake38 _).mono ?_
      rintro e wa ⟨rfl, hba⟩
      have hDa := HD.out.below hba
      go_wp2_with fail
      refine (below_src b1 N 1000 wa wa (by omega) (Src.refl hDa.c1 hDa.f1)).mono ?_
      rintro e wb ⟨rfl, hsb⟩
      have hDb := hDa.left hsb
      go_wp2_with fail
      refine (below_ref b2 N 1000 wb wb (by omega) (Src.refl hDb.c2 hDb.f2)).mono ?_
      rintro e wc ⟨rfl, hsc⟩
      have hDc := hDb.right hsc
      have hqq : (bl (nx N) 1000 == bl (nx N) 1000) = true := by simp
      go_wp2_with fail
      go_ret
      exact ⟨rfl, hDc.bel⟩
theorem walk (a0_0 a0_1 a0_2 a0_3 a0_4 a0_5 a0_6 : Int) (a1 : Int) (a2_0 a2_1 a2_2 a2_3 a2_4 a2_5 : Int) (a3 a4 : Int) (w : World) (_ : (Lit.int .i64 a0_0).wf = true) (_ : (Lit.int .i64 a0_1).wf = true) (_ : (Lit.int .i64 a0_2).wf = true) (_ : (Lit.int .i64 a0_3).wf = true) (_ : (Lit.int .i64 a0_4).wf = true) (_ : (Lit.int .i64 a0_5).wf = true) (_ : (Lit.int .i64 a0_6).wf = true) (_ : (Lit.int .u64 a1).wf = true) (_ : (Lit.int .i64 a2_0).wf = true) (_ : (Lit.int .i64 a2_1).wf = true) (_ : (Lit.int .i64 a2_2).wf = true) (_ : (Lit.int .i64 a2_3).wf = true) (_ : (Lit.int .i64 a2_4).wf = true) (_ : (Lit.int .i64 a2_5).wf = true) (_ : (Lit.int .i64 a3).wf = true) (_ : (Lit.int .i64 a4).wf = true) :
    Calls Try.prog 9 #[.agg #[.int .i64 a0_0, .int .i64 a0_1, .int .i64 a0_2, .int .i64 a0_3, .int .i64 a0_4, .int .i64 a0_5, .int .i64 a0_6], .int .u64 a1, .agg #[.int .i64 a2_0, .int .i64 a2_1, .int .i64 a2_2, .int .i64 a2_3, .int .i64 a2_4, .int .i64 a2_5], .int .i64 a3, .int .i64 a4] w fun e w' => e = .returned (.bool true) ∧ Below w.heap.size w w' := by
  by_cases h : (1 ≤ a0_0 ∧ a0_0 ≤ 6) ∧ (1 ≤ a0_1 ∧ a0_1 ≤ 4) ∧ (1 ≤ a0_2 ∧ a0_2 ≤ 3) ∧ (1 ≤ a0_3 ∧ a0_3 ≤ 4) ∧ (0 ≤ a0_4 ∧ a0_4 ≤ 4) ∧ (1 ≤ a0_5 ∧ a0_5 ≤ 4) ∧ (1 ≤ a0_6 ∧ a0_6 ≤ 15)
  · obtain ⟨hp, hc, hn, hb, hr, hf, hg⟩ := h
    by_cases hin : (-10000 ≤ a2_0 ∧ a2_0 ≤ 10000) ∧ (-10000 ≤ a2_1 ∧ a2_1 ≤ 10000) ∧ (-10000 ≤ a2_2 ∧ a2_2 ≤ 10000) ∧ (-10000 ≤ a2_3 ∧ a2_3 ≤ 10000) ∧ (-10000 ≤ a2_4 ∧ a2_4 ≤ 10000) ∧ (-10000 ≤ a2_5 ∧ a2_5 ≤ 10000)
    · by_cases h0 : a2_5 < 0
      · exact r1 _ _ _ _ _ _ _ a1 a2_0 a2_1 a2_2 a2_3 a2_4 a2_5 a3 a4 w hp hc hn hb hr hf hg (fun W => fits_neg _ _ _ _ _ _ W hin h0)
      · have hF := fun W => fits_yes _ _ _ _ _ _ W hin (by omega)
        by_cases h1 : a3 < 0
        · exact r2 _ _ _ _ _ _ _ a1 a2_0 a2_1 a2_2 a2_3 a2_4 a2_5 a3 a4 w hp hc hn hb hr hf hg hF h1
        · by_cases h2 : 1048576 < a3
          · exact r3 _ _ _ _ _ _ _ a1 a2_0 a2_1 a2_2 a2_3 a2_4 a2_5 a3 a4 w hp hc hn hb hr hf hg hF h2
          · by_cases h3 : a4 < 0
            · exact r4 _ _ _ _ _ _ _ a1 a2_0 a2_1 a2_2 a2_3 a2_4 a2_5 a3 a4 w hp hc hn hb hr hf hg hF ⟨by omega, by omega⟩ h3
            · by_cases h4 : 1000000 < a4
              · exact r5 _ _ _ _ _ _ _ a1 a2_0 a2_1 a2_2 a2_3 a2_4 a2_5 a3 a4 w hp hc hn hb hr hf hg hF ⟨by omega, by omega⟩ h4
              · exact main _ _ _ _ _ _ _ a1 a2_0 a2_1 a2_2 a2_3 a2_4 a2_5 a3 a4 w hp hc hn hb hr hf hg hF hin.2.2.2.2.1 ⟨by omega, hin.2.2.2.2.2.2⟩ ⟨by omega, by omega⟩ ⟨by omega, by omega⟩
    · exact r1 _ _ _ _ _ _ _ a1 a2_0 a2_1 a2_2 a2_3 a2_4 a2_5 a3 a4 w hp hc hn hb hr hf hg (fun W => fits_no _ _ _ _ _ _ W hin)
  · exact bad _ _ _ _ _ _ _ a1 a2_0 a2_1 a2_2 a2_3 a2_4 a2_5 a3 a4 w h
end Go.Proofs.Ytdlgpbmeeiakdaa.stormAsks
