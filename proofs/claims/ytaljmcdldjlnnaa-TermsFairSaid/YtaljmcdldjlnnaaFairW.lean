/-
  The walk of TermsFair.
-/
import Derived.Test.YtaljmcdldjlnnaaRows
import Derived.WalkKit
import Derived.ProofKit
import Derived.OpenShut
import Derived.ShutString
import Derived.Below
import Derived.Outline
import Derived.WalkLawsBesides
import Derived.WalkSpells
import Derived.Handy
import Derived.Deep.QuietTactic
import Derived.BigQuiet
import Derived.RegionTactic
import Derived.ChangeAlike
import Derived.Lib.Hide
import Derived.Deep.RegionHeld3
import Derived.Deep.DeepCutAuto
import Derived.Test.YtaljmcdldjlnnaaKit
import Derived.Test.YtaljmcdldjlnnaaTerms
namespace Go.Proofs.Ytaljmcdldjlnnaa.termsFair
open Go.ChangeShapes Go.WideShapes Go.ChangeAt Go.RowKit

theorem keep_alloc {an as_ ap al au bn bs bp bl bu : Int} {w wx : World} (h : Below w.heap.size w wx ∧ w.heap.size + 1 < wx.heap.size ∧ wx.cell? ⟨w.heap.size, 0, none⟩ = some (.int .i64 an) ∧ wx.cell? ⟨w.heap.size, 1, none⟩ = some (.int .i64 as_) ∧ wx.cell? ⟨w.heap.size, 2, none⟩ = some (.int .i64 ap) ∧ wx.cell? ⟨w.heap.size, 3, none⟩ = some (.int .i64 al) ∧ wx.cell? ⟨w.heap.size, 4, none⟩ = some (.int .i64 au) ∧ wx.cell? ⟨w.heap.size + 1, 0, none⟩ = some (.int .i64 bn) ∧ wx.cell? ⟨w.heap.size + 1, 1, none⟩ = some (.int .i64 bs) ∧ wx.cell? ⟨w.heap.size + 1, 2, none⟩ = some (.int .i64 bp) ∧ wx.cell? ⟨w.heap.size + 1, 3, none⟩ = some (.int .i64 bl) ∧ wx.cell? ⟨w.heap.size + 1, 4, none⟩ = some (.int .i64 bu)) (o : Obj) : Below w.heap.size w (wx.alloc o) ∧ w.heap.size + 1 < (wx.alloc o).heap.size ∧ (wx.alloc o).cell? ⟨w.heap.size, 0, none⟩ = some (.int .i64 an) ∧ (wx.alloc o).cell? ⟨w.heap.size, 1, none⟩ = some (.int .i64 as_) ∧ (wx.alloc o).cell? ⟨w.heap.size, 2, none⟩ = some (.int .i64 ap) ∧ (wx.alloc o).cell? ⟨w.heap.size, 3, none⟩ = some (.int .i64 al) ∧ (wx.alloc o).cell? ⟨w.heap.size, 4, none⟩ = some (.int .i64 au) ∧ (wx.alloc o).cell? ⟨w.heap.size + 1, 0, none⟩ = some (.int .i64 bn) ∧ (wx.alloc o).cell? ⟨w.heap.size + 1, 1, none⟩ = some (.int .i64 bs) ∧ (wx.alloc o).cell? ⟨w.heap.size + 1, 2, none⟩ = some (.int .i64 bp) ∧ (wx.alloc o).cell? ⟨w.heap.size + 1, 3, none⟩ = some (.int .i64 bl) ∧ (wx.alloc o).cell? ⟨w.heap.size + 1, 4, none⟩ = some (.int .i64 bu) := by
  obtain ⟨hb, hs, c0, c1, c2, c3, c4, c5, c6, c7, c8, c9⟩ := h
  have hx : ∀ b i, b < wx.heap.size → (wx.alloc o).cell? ⟨b, i, none⟩ = wx.cell? ⟨b, i, none⟩ := fun b i hl => World.cell?_alloc_lt wx o ⟨b, i, none⟩ hl
  refine ⟨hb.alloc hb.size o, by simp only [World.size_alloc]; omega, ?_⟩
  refine ⟨(hx _ _ (by omega)).trans c0, (hx _ _ (by omega)).trans c1, (hx _ _ (by omega)).trans c2, (hx _ _ (by omega)).trans c3, (hx _ _ (by omega)).trans c4, (hx _ _ (by omega)).trans c5, (hx _ _ (by omega)).trans c6, (hx _ _ (by omega)).trans c7, (hx _ _ (by omega)).trans c8, (hx _ _ (by omega)).trans c9⟩
theorem keep_below {an as_ ap al au bn bs bp bl bu : Int} {w wx wy : World} (hy : Below wx.heap.size wx wy) (h : Below w.heap.size w wx ∧ w.heap.size + 1 < wx.heap.size ∧ wx.cell? ⟨w.heap.size, 0, none⟩ = some (.int .i64 an) ∧ wx.cell? ⟨w.heap.size, 1, none⟩ = some (.int .i64 as_) ∧ wx.cell? ⟨w.heap.size, 2, none⟩ = some (.int .i64 ap) ∧ wx.cell? ⟨w.heap.size, 3, none⟩ = some (.int .i64 al) ∧ wx.cell? ⟨w.heap.size, 4, none⟩ = some (.int .i64 au) ∧ wx.cell? ⟨w.heap.size + 1, 0, none⟩ = some (.int .i64 bn) ∧ wx.cell? ⟨w.heap.size + 1, 1, none⟩ = some (.int .i64 bs) ∧ wx.cell? ⟨w.heap.size + 1, 2, none⟩ = some (.int .i64 bp) ∧ wx.cell? ⟨w.heap.size + 1, 3, none⟩ = some (.int .i64 bl) ∧ wx.cell? ⟨w.heap.size + 1, 4, none⟩ = some (.int .i64 bu)) : Below w.heap.size w wy ∧ w.heap.size + 1 < wy.heap.size ∧ wy.cell? ⟨w.heap.size, 0, none⟩ = some (.int .i64 an) ∧ wy.cell? ⟨w.heap.size, 1, none⟩ = some (.int .i64 as_) ∧ wy.cell? ⟨w.heap.size, 2, none⟩ = some (.int .i64 ap) ∧ wy.cell? ⟨w.heap.size, 3, none⟩ = some (.int .i64 al) ∧ wy.cell? ⟨w.heap.size, 4, none⟩ = some (.int .i64 au) ∧ wy.cell? ⟨w.heap.size + 1, 0, none⟩ = some (.int .i64 bn) ∧ wy.cell? ⟨w.heap.size + 1, 1, none⟩ = some (.int .i64 bs) ∧ wy.cell? ⟨w.heap.size + 1, 2, none⟩ = some (.int .i64 bp) ∧ wy.cell? ⟨w.heap.size + 1, 3, none⟩ = some (.int .i64 bl) ∧ wy.cell? ⟨w.heap.size + 1, 4, none⟩ = some (.int .i64 bu) := by
  obtain ⟨hb, hs, c0, c1, c2, c3, c4, c5, c6, c7, c8, c9⟩ := h
  have hx : ∀ b i, b < wx.heap.size → wy.cell? ⟨b, i, none⟩ = wx.cell? ⟨b, i, none⟩ := fun b i hl => hy.cell (p := ⟨b, i, none⟩) hl
  have hz := hy.size
  refine ⟨Below.step hb hy, by omega, ?_⟩
  refine ⟨(hx _ _ (by omega)).trans c0, (hx _ _ (by omega)).trans c1, (hx _ _ (by omega)).trans c2, (hx _ _ (by omega)).trans c3, (hx _ _ (by omega)).trans c4, (hx _ _ (by omega)).trans c5, (hx _ _ (by omega)).trans c6, (hx _ _ (by omega)).trans c7, (hx _ _ (by omega)).trans c8, (hx _ _ (by omega)).trans c9⟩
theorem keep_drew {an as_ ap al au bn bs bp bl bu : Int} {w wx : World} (h : Below w.heap.size w wx ∧ w.heap.size + 1 < wx.heap.size ∧ wx.cell? ⟨w.heap.size, 0, none⟩ = some (.int .i64 an) ∧ wx.cell? ⟨w.heap.size, 1, none⟩ = some (.int .i64 as_) ∧ wx.cell? ⟨w.heap.size, 2, none⟩ = some (.int .i64 ap) ∧ wx.cell? ⟨w.heap.size, 3, none⟩ = some (.int .i64 al) ∧ wx.cell? ⟨w.heap.size, 4, none⟩ = some (.int .i64 au) ∧ wx.cell? ⟨w.heap.size + 1, 0, none⟩ = some (.int .i64 bn) ∧ wx.cell? ⟨w.heap.size + 1, 1, none⟩ = some (.int .i64 bs) ∧ wx.cell? ⟨w.heap.size + 1, 2, none⟩ = some (.int .i64 bp) ∧ wx.cell? ⟨w.heap.size + 1, 3, none⟩ = some (.int .i64 bl) ∧ wx.cell? ⟨w.heap.size + 1, 4, none⟩ = some (.int .i64 bu)) : Below w.heap.size w wx.drew ∧ w.heap.size + 1 < wx.drew.heap.size ∧ wx.drew.cell? ⟨w.heap.size, 0, none⟩ = some (.int .i64 an) ∧ wx.drew.cell? ⟨w.heap.size, 1, none⟩ = some (.int .i64 as_) ∧ wx.drew.cell? ⟨w.heap.size, 2, none⟩ = some (.int .i64 ap) ∧ wx.drew.cell? ⟨w.heap.size, 3, none⟩ = some (.int .i64 al) ∧ wx.drew.cell? ⟨w.heap.size, 4, none⟩ = some (.int .i64 au) ∧ wx.drew.cell? ⟨w.heap.size + 1, 0, none⟩ = some (.int .i64 bn) ∧ wx.drew.cell? ⟨w.heap.size + 1, 1, none⟩ = some (.int .i64 bs) ∧ wx.drew.cell? ⟨w.heap.size + 1, 2, none⟩ = some (.int .i64 bp) ∧ wx.drew.cell? ⟨w.heap.size + 1, 3, none⟩ = some (.int .i64 bl) ∧ wx.drew.cell? ⟨w.heap.size + 1, 4, none⟩ = some (.int .i64 bu) := by
  obtain ⟨hb, hs, c0, c1, c2, c3, c4, c5, c6, c7, c8, c9⟩ := h
  exact ⟨hb.drew, hs, c0, c1, c2, c3, c4, c5, c6, c7, c8, c9⟩
theorem keep_gen {an as_ ap al au bn bs bp bl bu : Int} {w wx wy : World} (h : Below w.heap.size w wx ∧ w.heap.size + 1 < wx.heap.size ∧ wx.cell? ⟨w.heap.size, 0, none⟩ = some (.int .i64 an) ∧ wx.cell? ⟨w.heap.size, 1, none⟩ = some (.int .i64 as_) ∧ wx.cell? ⟨w.heap.size, 2, none⟩ = some (.int .i64 ap) ∧ wx.cell? ⟨w.heap.size, 3, none⟩ = some (.int .i64 al) ∧ wx.cell? ⟨w.heap.size, 4, none⟩ = some (.int .i64 au) ∧ wx.cell? ⟨w.heap.size + 1, 0, none⟩ = some (.int .i64 bn) ∧ wx.cell? ⟨w.heap.size + 1, 1, none⟩ = some (.int .i64 bs) ∧ wx.cell? ⟨w.heap.size + 1, 2, none⟩ = some (.int .i64 bp) ∧ wx.cell? ⟨w.heap.size + 1, 3, none⟩ = some (.int .i64 bl) ∧ wx.cell? ⟨w.heap.size + 1, 4, none⟩ = some (.int .i64 bu)) (hy : Below (w.heap.size + 2) wx wy) : Below w.heap.size w wy ∧ w.heap.size + 1 < wy.heap.size ∧ wy.cell? ⟨w.heap.size, 0, none⟩ = some (.int .i64 an) ∧ wy.cell? ⟨w.heap.size, 1, none⟩ = some (.int .i64 as_) ∧ wy.cell? ⟨w.heap.size, 2, none⟩ = some (.int .i64 ap) ∧ wy.cell? ⟨w.heap.size, 3, none⟩ = some (.int .i64 al) ∧ wy.cell? ⟨w.heap.size, 4, none⟩ = some (.int .i64 au) ∧ wy.cell? ⟨w.heap.size + 1, 0, none⟩ = some (.int .i64 bn) ∧ wy.cell? ⟨w.heap.size + 1, 1, none⟩ = some (.int .i64 bs) ∧ wy.cell? ⟨w.heap.size + 1, 2, none⟩ = some (.int .i64 bp) ∧ wy.cell? ⟨w.heap.size + 1, 3, none⟩ = some (.int .i64 bl) ∧ wy.cell? ⟨w.heap.size + 1, 4, none⟩ = some (.int .i64 bu) := by
  obtain ⟨hb, hs, c0, c1, c2, c3, c4, c5, c6, c7, c8, c9⟩ := h
  have hx : ∀ b i, b < w.heap.size + 2 → wy.cell? ⟨b, i, none⟩ = wx.cell? ⟨b, i, none⟩ := fun b i hl => hy.cell (p := ⟨b, i, none⟩) hl
  have hz := hy.size
  refine ⟨hb.trans (hy.mono (by omega)), by omega, ?_⟩
  refine ⟨(hx _ _ (by omega)).trans c0, (hx _ _ (by omega)).trans c1, (hx _ _ (by omega)).trans c2, (hx _ _ (by omega)).trans c3, (hx _ _ (by omega)).trans c4, (hx _ _ (by omega)).trans c5, (hx _ _ (by omega)).trans c6, (hx _ _ (by omega)).trans c7, (hx _ _ (by omega)).trans c8, (hx _ _ (by omega)).trans c9⟩

set_option maxRecDepth 100000 in
set_option maxHeartbeats 1600000 in
theorem first (an as_ ap al au bn bs bp bl bu left other q p : Int) (w : World) (g1 : 1 ≤ ap) (g2 : ap ≤ 9999) (g3 : 1 ≤ bp) (g4 : bp ≤ 9999) (g5 : left ≤ 9223372036854775807)
    (hX : ∀ W, Calls Try.prog 12 #[.agg #[.int .i64 an, .int .i64 as_, .int .i64 ap, .int .i64 al, .int .i64 au], .agg #[.int .i64 bn, .int .i64 bs, .int .i64 bp, .int .i64 bl, .int .i64 bu], .int .i64 left, .int .i64 other] W (MatchPost W q p))
    (hY : ∀ W, Calls Try.prog 12 #[.agg #[.int .i64 bn, .int .i64 bs, .int .i64 bp, .int .i64 bl, .int .i64 bu], .agg #[.int .i64 an, .int .i64 as_, .int .i64 ap, .int .i64 al, .int .i64 au], .int .i64 other, .int .i64 left] W (MatchPost W q p))
    (hNo : q = 0 → p = 0 ∧ (1 ≤ left → ∀ W, Calls Try.prog 12 #[.agg #[.int .i64 an, .int .i64 as_, .int .i64 ap, .int .i64 al, .int .i64 au], .agg #[.int .i64 bn, .int .i64 bs, .int .i64 bp, .int .i64 bl, .int .i64 bu], .int .i64 (left - 1), .int .i64 other] W (MatchPost W 0 0)))
    (hYes : q ≠ 0 → 1 ≤ q ∧ q ≤ left ∧ q ≤ other ∧ al ≤ q ∧ bl ≤ q ∧ (ap ≤ p ∧ p ≤ bp ∨ bp ≤ p ∧ p ≤ ap) ∧ an = bn ∧ as_ ≠ bs) :
    Calls Try.prog 4 #[.agg #[.int .i64 an, .int .i64 as_, .int .i64 ap, .int .i64 al, .int .i64 au], .agg #[.int .i64 bn, .int .i64 bs, .int .i64 bp, .int .i64 bl, .int .i64 bu], .int .i64 left, .int .i64 other] w fun e w' => e = .returned (.bool true) ∧ Below w.heap.size w w' := by
  have hfl : ∀ (W : World) (a b : Int), (Instr.field 27 (.agg #[.int .i64 a, .int .i64 b]) 0).run Try.prog W = .ok (.int .i64 a) W := fun _ _ _ => by kernel_rfl
  have HX := Lib.hid hX
  have HY := Lib.hid hY
  clear hX hY
  go_enter Try.func4, Try.ntmps4
  go_wp2_with fail
  refine (priced_yes (w.heap.size + 1 + 1) an as_ ap al au bn bs bp bl bu _ ⟨by simp, by simp [go_sem], by simp [go_sem], by simp [go_sem], by simp [go_sem], by simp [go_sem], by simp [go_sem], by simp [go_sem], by simp [go_sem], by simp [go_sem], by simp [go_sem]⟩ g1 g2 g3 g4).mono ?_
  rintro e w1 ⟨rfl, hb1⟩
  obtain ⟨hc1, hf1⟩ := bcell hb1
  have hz1 := hb1.size
  have hB1 : Below w.heap.size w w1 := Below.step (by go_grown) hb1
  try simp only [World.size_alloc, World.size_setCell, World.size_drew] at hz1 hc1 hf1
  have hy1_0 : w.heap.size < w1.heap.size := by omega
  have hy1_1 : w.heap.size + 1 < w1.heap.size := by omega
  go_upto_region 3 with fail
  have hS1 : Below w.heap.size w w1 ∧ w.heap.size + 1 < w1.heap.size ∧ w1.cell? ⟨w.heap.size, 0, none⟩ = some (.int .i64 an) ∧ w1.cell? ⟨w.heap.size, 1, none⟩ = some (.int .i64 as_) ∧ w1.cell? ⟨w.heap.size, 2, none⟩ = some (.int .i64 ap) ∧ w1.cell? ⟨w.heap.size, 3, none⟩ = some (.int .i64 al) ∧ w1.cell? ⟨w.heap.size, 4, none⟩ = some (.int .i64 au) ∧ w1.cell? ⟨w.heap.size + 1, 0, none⟩ = some (.int .i64 bn) ∧ w1.cell? ⟨w.heap.size + 1, 1, none⟩ = some (.int .i64 bs) ∧ w1.cell? ⟨w.heap.size + 1, 2, none⟩ = some (.int .i64 bp) ∧ w1.cell? ⟨w.heap.size + 1, 3, none⟩ = some (.int .i64 bl) ∧ w1.cell? ⟨w.heap.size + 1, 4, none⟩ = some (.int .i64 bu) := ⟨hB1, by omega, (hc1 _ _ (by omega)).trans (by simp [go_sem]), (hc1 _ _ (by omega)).trans (by simp [go_sem]), (hc1 _ _ (by omega)).trans (by simp [go_sem]), (hc1 _ _ (by omega)).trans (by simp [go_sem]), (hc1 _ _ (by omega)).trans (by simp [go_sem]), (hc1 _ _ (by omega)).trans (by simp [go_sem]), (hc1 _ _ (by omega)).trans (by simp [go_sem]), (hc1 _ _ (by omega)).trans (by simp [go_sem]), (hc1 _ _ (by omega)).trans (by simp [go_sem]), (hc1 _ _ (by omega)).trans (by simp [go_sem])⟩
  go_cut [9, 10] (fun s9 s10 wx => ∃ g h : Nat, s9 = .pointer (some ⟨g, 0, none⟩) ∧ s10 = .pointer (some ⟨h, 0, none⟩) ∧ g < wx.heap.size ∧ h < wx.heap.size ∧ wx.cell? ⟨g, 0, none⟩ = some (.int .i64 q) ∧ wx.cell? ⟨g, 1, none⟩ = some (.int .i64 p) ∧ wx.cell? ⟨h, 0, none⟩ = some (.int .i64 q) ∧ wx.cell? ⟨h, 1, none⟩ = some (.int .i64 p) ∧ (Below w.heap.size w wx ∧ w.heap.size + 1 < wx.heap.size ∧ wx.cell? ⟨w.heap.size, 0, none⟩ = some (.int .i64 an) ∧ wx.cell? ⟨w.heap.size, 1, none⟩ = some (.int .i64 as_) ∧ wx.cell? ⟨w.heap.size, 2, none⟩ = some (.int .i64 ap) ∧ wx.cell? ⟨w.heap.size, 3, none⟩ = some (.int .i64 al) ∧ wx.cell? ⟨w.heap.size, 4, none⟩ = some (.int .i64 au) ∧ wx.cell? ⟨w.heap.size + 1, 0, none⟩ = some (.int .i64 bn) ∧ wx.cell? ⟨w.heap.size + 1, 1, none⟩ = some (.int .i64 bs) ∧ wx.cell? ⟨w.heap.size + 1, 2, none⟩ = some (.int .i64 bp) ∧ wx.cell? ⟨w.heap.size + 1, 3, none⟩ = some (.int .i64 bl) ∧ wx.cell? ⟨w.heap.size + 1, 4, none⟩ = some (.int .i64 bu)))
  case first =>
    go_region_held3 (fun w' => Below w.heap.size w w' ∧ w.heap.size + 1 < w'.heap.size ∧ w'.cell? ⟨w.heap.size, 0, none⟩ = some (.int .i64 an) ∧ w'.cell? ⟨w.heap.size, 1, none⟩ = some (.int .i64 as_) ∧ w'.cell? ⟨w.heap.size, 2, none⟩ = some (.int .i64 ap) ∧ w'.cell? ⟨w.heap.size, 3, none⟩ = some (.int .i64 al) ∧ w'.cell? ⟨w.heap.size, 4, none⟩ = some (.int .i64 au) ∧ w'.cell? ⟨w.heap.size + 1, 0, none⟩ = some (.int .i64 bn) ∧ w'.cell? ⟨w.heap.size + 1, 1, none⟩ = some (.int .i64 bs) ∧ w'.cell? ⟨w.heap.size + 1, 2, none⟩ = some (.int .i64 bp) ∧ w'.cell? ⟨w.heap.size + 1, 3, none⟩ = some (.int .i64 bl) ∧ w'.cell? ⟨w.heap.size + 1, 4, none⟩ = some (.int .i64 bu)) (first | exact keep_drew hS1 | (refine keep_gen HSz.out ?_; go_grown; done) | (refine keep_gen HSy.out ?_; go_grown; done) | (refine keep_gen hS1 ?_; go_grown; done))
      (first
        | (have _t := HSy; (with_reducible refine (HX.out _).mono ?_); rintro e wz ⟨rfl, hbz⟩; have hSz := keep_below hbz (by assumption); have HSz := Lib.hid hSz; have hsz := hSz.2.1; clear hSz; obtain ⟨hcz, hfz⟩ := bcell hbz; have hzz := hbz.size; (try simp only [World.size_alloc, World.size_drew, World.size_setCell] at hcz hfz hzz); (try (have hqz_0_0 : w1.heap.size < wz.heap.size := by omega)); (try (have hqz_0_1 : w1.heap.size + 1 < wz.heap.size := by omega)); (try (have hqz_1_0 : wy.heap.size < wz.heap.size := by omega)); (try (have hqz_1_1 : wy.heap.size + 1 < wz.heap.size := by omega)); (try (have hvz_0_0_0 : wz.cell? ⟨w1.heap.size, 0, none⟩ = some (.int .i64 0) := by (rw [hcz _ _ (by omega)]; first | (simp [go_sem]; done) | (simp [go_sem, *]; done)))); (try (have hvz_0_0_1 : wz.cell? ⟨w1.heap.size, 1, none⟩ = some (.int .i64 0) := by (rw [hcz _ _ (by omega)]; first | (simp [go_sem]; done) | (simp [go_sem, *]; done)))); (try (have hvz_0_1_0 : wz.cell? ⟨w1.heap.size + 1, 0, none⟩ = some (.int .i64 0) := by (rw [hcz _ _ (by omega)]; first | (simp [go_sem]; done) | (simp [go_sem, *]; done)))); (try (have hvz_0_1_1 : wz.cell? ⟨w1.heap.size + 1, 1, none⟩ = some (.int .i64 0) := by (rw [hcz _ _ (by omega)]; first | (simp [go_sem]; done) | (simp [go_sem, *]; done)))); (try (have hvz_1_0_0 : wz.cell? ⟨wy.heap.size, 0, none⟩ = some (.int .i64 0) := by (rw [hcz _ _ (by omega)]; first | (simp [go_sem]; done) | (simp [go_sem, *]; done)))); (try (have hvz_1_0_1 : wz.cell? ⟨wy.heap.size, 1, none⟩ = some (.int .i64 0) := by (rw [hcz _ _ (by omega)]; first | (simp [go_sem]; done) | (simp [go_sem, *]; done)))); (try (have hvz_1_1_0 : wz.cell? ⟨wy.heap.size + 1, 0, none⟩ = some (.int .i64 0) := by (rw [hcz _ _ (by omega)]; first | (simp [go_sem]; done) | (simp [go_sem, *]; done)))); (try (have hvz_1_1_1 : wz.cell? ⟨wy.heap.size + 1, 1, none⟩ = some (.int .i64 0) := by (rw [hcz _ _ (by omega)]; first | (simp [go_sem]; done) | (simp [go_sem, *]; done)))))
        | (have _t := HSy; (with_reducible refine (HY.out _).mono ?_); rintro e wz ⟨rfl, hbz⟩; have hSz := keep_below hbz (by assumption); have HSz := Lib.hid hSz; have hsz := hSz.2.1; clear hSz; obtain ⟨hcz, hfz⟩ := bcell hbz; have hzz := hbz.size; (try simp only [World.size_alloc, World.size_drew, World.size_setCell] at hcz hfz hzz); (try (have hqz_0_0 : w1.heap.size < wz.heap.size := by omega)); (try (have hqz_0_1 : w1.heap.size + 1 < wz.heap.size := by omega)); (try (have hqz_1_0 : wy.heap.size < wz.heap.size := by omega)); (try (have hqz_1_1 : wy.heap.size + 1 < wz.heap.size := by omega)); (try (have hvz_0_0_0 : wz.cell? ⟨w1.heap.size, 0, none⟩ = some (.int .i64 0) := by (rw [hcz _ _ (by omega)]; first | (simp [go_sem]; done) | (simp [go_sem, *]; done)))); (try (have hvz_0_0_1 : wz.cell? ⟨w1.heap.size, 1, none⟩ = some (.int .i64 0) := by (rw [hcz _ _ (by omega)]; first | (simp [go_sem]; done) | (simp [go_sem, *]; done)))); (try (have hvz_0_1_0 : wz.cell? ⟨w1.heap.size + 1, 0, none⟩ = some (.int .i64 0) := by (rw [hcz _ _ (by omega)]; first | (simp [go_sem]; done) | (simp [go_sem, *]; done)))); (try (have hvz_0_1_1 : wz.cell? ⟨w1.heap.size + 1, 1, none⟩ = some (.int .i64 0) := by (rw [hcz _ _ (by omega)]; first | (simp [go_sem]; done) | (simp [go_sem, *]; done)))); (try (have hvz_1_0_0 : wz.cell? ⟨wy.heap.size, 0, none⟩ = some (.int .i64 0) := by (rw [hcz _ _ (by omega)]; first | (simp [go_sem]; done) | (simp [go_sem, *]; done)))); (try (have hvz_1_0_1 : wz.cell? ⟨wy.heap.size, 1, none⟩ = some (.int .i64 0) := by (rw [hcz _ _ (by omega)]; first | (simp [go_sem]; done) | (simp [go_sem, *]; done)))); (try (have hvz_1_1_0 : wz.cell? ⟨wy.heap.size + 1, 0, none⟩ = some (.int .i64 0) := by (rw [hcz _ _ (by omega)]; first | (simp [go_sem]; done) | (simp [go_sem, *]; done)))); (try (have hvz_1_1_1 : wz.cell? ⟨wy.heap.size + 1, 1, none⟩ = some (.int .i64 0) := by (rw [hcz _ _ (by omega)]; first | (simp [go_sem]; done) | (simp [go_sem, *]; done)))))
        | ((with_reducible refine (HX.out _).mono ?_); rintro e wy ⟨rfl, hby⟩; have hSy := keep_below hby (by assumption); have HSy := Lib.hid hSy; have hsy := hSy.2.1; clear hSy; obtain ⟨hcy, hfy⟩ := bcell hby; have hzy := hby.size; (try simp only [World.size_alloc, World.size_drew, World.size_setCell] at hcy hfy hzy); (try (have hqy_0_0 : w1.heap.size < wy.heap.size := by omega)); (try (have hqy_0_1 : w1.heap.size + 1 < wy.heap.size := by omega)); (try (have hvy_0_0_0 : wy.cell? ⟨w1.heap.size, 0, none⟩ = some (.int .i64 0) := by (rw [hcy _ _ (by omega)]; first | (simp [go_sem]; done) | (simp [go_sem, *]; done)))); (try (have hvy_0_0_1 : wy.cell? ⟨w1.heap.size, 1, none⟩ = some (.int .i64 0) := by (rw [hcy _ _ (by omega)]; first | (simp [go_sem]; done) | (simp [go_sem, *]; done)))); (try (have hvy_0_1_0 : wy.cell? ⟨w1.heap.size + 1, 0, none⟩ = some (.int .i64 0) := by (rw [hcy _ _ (by omega)]; first | (simp [go_sem]; done) | (simp [go_sem, *]; done)))); (try (have hvy_0_1_1 : wy.cell? ⟨w1.heap.size + 1, 1, none⟩ = some (.int .i64 0) := by (rw [hcy _ _ (by omega)]; first | (simp [go_sem]; done) | (simp [go_sem, *]; done)))))
        | ((with_reducible refine (HY.out _).mono ?_); rintro e wy ⟨rfl, hby⟩; have hSy := keep_below hby (by assumption); have HSy := Lib.hid hSy; have hsy := hSy.2.1; clear hSy; obtain ⟨hcy, hfy⟩ := bcell hby; have hzy := hby.size; (try simp only [World.size_alloc, World.size_drew, World.size_setCell] at hcy hfy hzy); (try (have hqy_0_0 : w1.heap.size < wy.heap.size := by omega)); (try (have hqy_0_1 : w1.heap.size + 1 < wy.heap.size := by omega)); (try (have hvy_0_0_0 : wy.cell? ⟨w1.heap.size, 0, none⟩ = some (.int .i64 0) := by (rw [hcy _ _ (by omega)]; first | (simp [go_sem]; done) | (simp [go_sem, *]; done)))); (try (have hvy_0_0_1 : wy.cell? ⟨w1.heap.size, 1, none⟩ = some (.int .i64 0) := by (rw [hcy _ _ (by omega)]; first | (simp [go_sem]; done) | (simp [go_sem, *]; done)))); (try (have hvy_0_1_0 : wy.cell? ⟨w1.heap.size + 1, 0, none⟩ = some (.int .i64 0) := by (rw [hcy _ _ (by omega)]; first | (simp [go_sem]; done) | (simp [go_sem, *]; done)))); (try (have hvy_0_1_1 : wy.cell? ⟨w1.heap.size + 1, 1, none⟩ = some (.int .i64 0) := by (rw [hcy _ _ (by omega)]; first | (simp [go_sem]; done) | (simp [go_sem, *]; done))))))
    all_goals (go_wp2_with fail; go_meet; refine ⟨_, _, rfl, rfl, ?_, ?_, ?_, ?_, ?_, ?_, ?_⟩)
    all_goals (try (first | (refine keep_gen HSz.out ?_; go_grown; done) | go_size | go_cell | (simp [*]; done)))
  case rest =>
    obtain ⟨g, h, rfl, rfl, hg, hh, cg0, cg1, ch0, ch1, hbc, hsc, cc0, cc1, cc2, cc3, cc4, cc5, cc6, cc7, cc8, cc9⟩ := hcut
    have hsc0 : w.heap.size < wc.heap.size := by omega
    have hqq : (q == q) = true := by simp
    have hpp : (p == p) = true := by simp
    by_cases hq : q = 0
    · subst hq
      have HN := Lib.hid (hNo rfl)
      obtain rfl : p = 0 := HN.out.1
      clear hNo hYes
      by_cases hl : left < 1
      · go_wp2_with fail
        refine (awake11 _).mono ?_
        rintro e w3 ⟨rfl, hb3⟩
        obtain ⟨hc3, hf3⟩ := bcell hb3
        have hz3 := hb3.size
        have hB3 : Below w.heap.size w w3 := Below.step (by go_grown) hb3
        try simp only [World.size_alloc, World.size_setCell, World.size_drew] at hz3 hc3 hf3
        have hy3_0 : g < w3.heap.size := by omega
        have hy3_1 : h < w3.heap.size := by omega
        have hy3_2 : w.heap.size < w3.heap.size := by omega
        have hy3_3 : w.heap.size + 1 < w3.heap.size := by omega
        go_wp2
        go_ret
        exact ⟨rfl, by go_grown⟩
      · have hl1 : 1 ≤ left := by omega
        go_wp2_with fail
        refine (awake11 _).mono ?_
        rintro e w3 ⟨rfl, hb3⟩
        obtain ⟨hc3, hf3⟩ := bcell hb3
        have hz3 := hb3.size
        have hB3 : Below w.heap.size w w3 := Below.step (by go_grown) hb3
        try simp only [World.size_alloc, World.size_setCell, World.size_drew] at hz3 hc3 hf3
        have hy3_0 : g < w3.heap.size := by omega
        have hy3_1 : h < w3.heap.size := by omega
        have hy3_2 : w.heap.size < w3.heap.size := by omega
        have hy3_3 : w.heap.size + 1 < w3.heap.size := by omega
        go_wp2_with fail
        refine ((HN.out.2 hl1) _).mono ?_
        rintro e w4 ⟨rfl, hb4⟩
        obtain ⟨hc4, hf4⟩ := bcell hb4
        have hz4 := hb4.size
        have hB4 : Below w.heap.size w w4 := Below.step (by go_grown) hb4
        try simp only [World.size_alloc, World.size_setCell, World.size_drew] at hz4 hc4 hf4
        have hy4_0 : g < w4.heap.size := by omega
        have hy4_1 : h < w4.heap.size := by omega
        have hy4_2 : w.heap.size < w4.heap.size := by omega
        have hy4_3 : w.heap.size + 1 < w4.heap.size := by omega
        have hx4_0 : g < w3.heap.size := by omega
        have hx4_1 : h < w3.heap.size := by omega
        go_wp2
        go_ret
        exact ⟨rfl, by go_grown⟩
    · obtain ⟨y1, y2, y3, y4, y5, y6, y7, y8⟩ := hYes hq
      clear hNo hYes
      have hq0 : (q == 0) = false := by simpa using hq
      have hab : (an == bn) = true := by simpa using y7
      have hss : (as_ != bs) = true := by simpa using y8
      have HX7 := Lib.hid y7
      clear y7 y8 hq
      rcases y6 with ⟨y6, y7⟩ | ⟨y6, y7⟩
      · go_wp2_with fail
        refine (awake11 _).mono ?_
        rintro e w3 ⟨rfl, hb3⟩
        obtain ⟨hc3, hf3⟩ := bcell hb3
        have hz3 := hb3.size
        have hB3 : Below w.heap.size w w3 := Below.step (by go_grown) hb3
        try simp only [World.size_alloc, World.size_setCell, World.size_drew] at hz3 hc3 hf3
        have hy3_0 : g < w3.heap.size := by omega
        have hy3_1 : h < w3.heap.size := by omega
        have hy3_2 : w.heap.size < w3.heap.size := by omega
        have hy3_3 : w.heap.size + 1 < w3.heap.size := by omega
        go_wp2
        all_goals go_ret
        all_goals exact ⟨rfl, by go_grown⟩
      · go_wp2_with fail
        refine (awake11 _).mono ?_
        rintro e w3 ⟨rfl, hb3⟩
        obtain ⟨hc3, hf3⟩ := bcell hb3
        have hz3 := hb3.size
        have hB3 : Below w.heap.size w w3 := Below.step (by go_grown) hb3
        try simp only [World.size_alloc, World.size_setCell, World.size_drew] at hz3 hc3 hf3
        have hy3_0 : g < w3.heap.size := by omega
        have hy3_1 : h < w3.heap.size := by omega
        have hy3_2 : w.heap.size < w3.heap.size := by omega
        have hy3_3 : w.heap.size + 1 < w3.heap.size := by omega
        go_wp2
        all_goals go_ret
        all_goals exact ⟨rfl, by go_grown⟩


set_option maxHeartbeats 1600000 in
theorem unpriced (an as_ ap al au bn bs bp bl bu left other : Int) (w : World)
    (hP : ∀ (W : World) (b : Nat), Two W b an as_ ap al au bn bs bp bl bu → Calls Try.prog 10 #[.slice (some ⟨b, 0, none⟩) 2 2] W fun e w' => e = .returned (.bool false) ∧ Below W.heap.size W w') :
    Calls Try.prog 4 #[.agg #[.int .i64 an, .int .i64 as_, .int .i64 ap, .int .i64 al, .int .i64 au], .agg #[.int .i64 bn, .int .i64 bs, .int .i64 bp, .int .i64 bl, .int .i64 bu], .int .i64 left, .int .i64 other] w fun e w' => e = .returned (.bool true) ∧ Below w.heap.size w w' := by
  have HP := Lib.hid hP
  clear hP
  go_enter Try.func4, Try.ntmps4
  go_wp2_with fail
  refine (HP.out _ (w.heap.size + 1 + 1) ⟨by simp, by simp [go_sem], by simp [go_sem], by simp [go_sem], by simp [go_sem], by simp [go_sem], by simp [go_sem], by simp [go_sem], by simp [go_sem], by simp [go_sem], by simp [go_sem]⟩).mono ?_
  rintro e w1 ⟨rfl, hb1⟩
  obtain ⟨hc1, hf1⟩ := bcell hb1
  have hz1 := hb1.size
  have hB1 : Below w.heap.size w w1 := Below.step (by go_grown) hb1
  try simp only [World.size_alloc, World.size_setCell, World.size_drew] at hz1 hc1 hf1
  have hy1_0 : w.heap.size < w1.heap.size := by omega
  have hy1_1 : w.heap.size + 1 < w1.heap.size := by omega
  go_wp2_with fail
  refine (awake11 _).mono ?_
  rintro e w2 ⟨rfl, hb2⟩
  obtain ⟨hc2, hf2⟩ := bcell hb2
  have hz2 := hb2.size
  have hB2 : Below w.heap.size w w2 := Below.step (by go_grown) hb2
  try simp only [World.size_alloc, World.size_setCell, World.size_drew] at hz2 hc2 hf2
  go_wp2
  go_ret
  exact ⟨rfl, by go_grown⟩

theorem no_sym (an as_ ap al bn bs bp bl left other : Int) (h : No an as_ ap al bn bs bp bl left other) : No bn bs bp bl an as_ ap al other left := by
  unfold No at *; omega
theorem no_less (an as_ ap al bn bs bp bl left other : Int) (h : No an as_ ap al bn bs bp bl left other) : No an as_ ap al bn bs bp bl (left - 1) other := by
  unfold No at *; omega
theorem yes_sym (an as_ ap al bn bs bp bl left other m p : Int) (h : Yes an as_ ap al bn bs bp bl left other m p) : Yes bn bs bp bl an as_ ap al other left m p := by
  unfold Yes at *; omega
theorem yes_facts (an as_ ap al bn bs bp bl left other q p : Int) (h : Yes an as_ ap al bn bs bp bl left other q p) : 1 ≤ q ∧ q ≤ left ∧ q ≤ other ∧ al ≤ q ∧ bl ≤ q ∧ (ap ≤ p ∧ p ≤ bp ∨ bp ≤ p ∧ p ≤ ap) ∧ an = bn ∧ as_ ≠ bs := by
  unfold Yes at h; omega
theorem yes_or_no (an as_ ap al bn bs bp bl left other : Int) : No an as_ ap al bn bs bp bl left other ∨ Yes an as_ ap al bn bs bp bl left other (min left other) ((ap + bp) / 2) := by
  unfold No Yes; omega

theorem walk (a0_0 : Int) (a0_1 : Int) (a0_2 : Int) (a0_3 : Int) (a0_4 : Int) (a1_0 : Int) (a1_1 : Int) (a1_2 : Int) (a1_3 : Int) (a1_4 : Int) (a2 : Int) (a3 : Int) (w : World) (w0_0 : (Lit.int .i64 a0_0).wf = true) (w0_1 : (Lit.int .i64 a0_1).wf = true) (w0_2 : (Lit.int .i64 a0_2).wf = true) (w0_3 : (Lit.int .i64 a0_3).wf = true) (w0_4 : (Lit.int .i64 a0_4).wf = true) (w1_0 : (Lit.int .i64 a1_0).wf = true) (w1_1 : (Lit.int .i64 a1_1).wf = true) (w1_2 : (Lit.int .i64 a1_2).wf = true) (w1_3 : (Lit.int .i64 a1_3).wf = true) (w1_4 : (Lit.int .i64 a1_4).wf = true) (w2 : (Lit.int .i64 a2).wf = true) (w3 : (Lit.int .i64 a3).wf = true) :
    Calls Try.prog 4 #[.agg #[.int .i64 a0_0, .int .i64 a0_1, .int .i64 a0_2, .int .i64 a0_3, .int .i64 a0_4], .agg #[.int .i64 a1_0, .int .i64 a1_1, .int .i64 a1_2, .int .i64 a1_3, .int .i64 a1_4], .int .i64 a2, .int .i64 a3] w fun e w' => e = .returned (.bool true) ∧ Below w.heap.size w w' := by
  have hb := (bounds_i64 w2).2
  by_cases h1 : a0_2 < 1
  · exact unpriced _ _ _ _ _ _ _ _ _ _ _ _ w (fun W b t => priced_a0 b _ _ _ _ _ _ _ _ _ _ W t h1)
  by_cases h2 : 9999 < a0_2
  · exact unpriced _ _ _ _ _ _ _ _ _ _ _ _ w (fun W b t => priced_a1 b _ _ _ _ _ _ _ _ _ _ W t (by omega) h2)
  by_cases h3 : a1_2 < 1
  · exact unpriced _ _ _ _ _ _ _ _ _ _ _ _ w (fun W b t => priced_b0 b _ _ _ _ _ _ _ _ _ _ W t (by omega) (by omega) h3)
  by_cases h4 : 9999 < a1_2
  · exact unpriced _ _ _ _ _ _ _ _ _ _ _ _ w (fun W b t => priced_b1 b _ _ _ _ _ _ _ _ _ _ W t (by omega) (by omega) (by omega) h4)
  rcases yes_or_no a0_0 a0_1 a0_2 a0_3 a1_0 a1_1 a1_2 a1_3 a2 a3 with h | h
  · exact first _ _ _ _ _ _ _ _ _ _ _ _ 0 0 w (by omega) (by omega) (by omega) (by omega) (by omega) (fun W => match_no _ _ _ _ _ _ _ _ _ _ _ _ W h) (fun W => match_no _ _ _ _ _ _ _ _ _ _ _ _ W (no_sym _ _ _ _ _ _ _ _ _ _ h))
      (fun _ => ⟨rfl, fun _ W => match_no _ _ _ _ _ _ _ _ _ _ _ _ W (no_less _ _ _ _ _ _ _ _ _ _ h)⟩) (fun hq => absurd rfl hq)
  · have hf := yes_facts _ _ _ _ _ _ _ _ _ _ _ _ h
    exact first _ _ _ _ _ _ _ _ _ _ _ _ _ _ w (by omega) (by omega) (by omega) (by omega) (by omega) (fun W => match_yes _ _ _ _ _ _ _ _ _ _ _ _ _ _ W h (by omega) (by omega) (by omega) (by omega)) (fun W => match_yes _ _ _ _ _ _ _ _ _ _ _ _ _ _ W (yes_sym _ _ _ _ _ _ _ _ _ _ _ _ h) (by omega) (by omega) (by omega) (by omega))
      (fun hq => absurd hq (by omega)) (fun _ => hf)
end Go.Proofs.Ytaljmcdldjlnnaa.termsFair
