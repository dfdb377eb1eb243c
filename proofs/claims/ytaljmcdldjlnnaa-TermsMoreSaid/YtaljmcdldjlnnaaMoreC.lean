/-
  Of TermsMore: MoreC.
-/
import Derived.Test.YtaljmcdldjlnnaaRows
import Derived.WalkKit
import Derived.ProofKit
import Derived.OpenShut
import Derived.ShutString
import Derived.Below
import Derived.Outline
import Derived.WalkLawsBesides
import Derived.WalkSpells
import Derived.Handy
import Derived.Deep.QuietTactic
import Derived.BigQuiet
import Derived.RegionTactic
import Derived.ChangeAlike
import Derived.Lib.Hide
import Derived.Deep.RegionHeld3
import Derived.Deep.DeepCutAuto
import Derived.Test.YtaljmcdldjlnnaaKit
import Derived.Test.YtaljmcdldjlnnaaTerms
import Derived.Test.YtaljmcdldjlnnaaMoreK
namespace Go.Proofs.Ytaljmcdldjlnnaa.termsMore
open Go.ChangeShapes Go.WideShapes Go.ChangeAt Go.RowKit

set_option maxRecDepth 100000 in
set_option maxHeartbeats 4000000 in
theorem yes_low (an ap al au bn bs bp bl bu left other mo q p p2 p3 : Int) (w : World) (g1 : 1 ≤ ap) (g2 : ap ≤ 9999) (g3 : 1 ≤ bp) (g4 : bp ≤ 9999) (g5 : 0 ≤ mo) (g6 : ap + mo ≤ 9999) (g7 : bp - mo ≤ 1) (y1 : 0 < q) (y2 : p ≤ p2) (y3 : p3 ≤ p)
    (hX : ∀ W, Calls Try.prog 12 #[.agg #[.int .i64 an, .int .i64 0, .int .i64 ap, .int .i64 al, .int .i64 au], .agg #[.int .i64 bn, .int .i64 bs, .int .i64 bp, .int .i64 bl, .int .i64 bu], .int .i64 left, .int .i64 other] W (MatchPost W q p))
    (hY : ∀ W, Calls Try.prog 12 #[.agg #[.int .i64 an, .int .i64 0, .int .i64 (ap + mo), .int .i64 al, .int .i64 au], .agg #[.int .i64 bn, .int .i64 bs, .int .i64 bp, .int .i64 bl, .int .i64 bu], .int .i64 left, .int .i64 other] W (MatchPost W q p2))
    (hZ : ∀ W, Calls Try.prog 12 #[.agg #[.int .i64 an, .int .i64 0, .int .i64 ap, .int .i64 al, .int .i64 au], .agg #[.int .i64 bn, .int .i64 bs, .int .i64 1, .int .i64 bl, .int .i64 bu], .int .i64 left, .int .i64 other] W (MatchPost W q p3)) :
    Calls Try.prog 5 #[.agg #[.int .i64 an, .int .i64 0, .int .i64 ap, .int .i64 al, .int .i64 au], .agg #[.int .i64 bn, .int .i64 bs, .int .i64 bp, .int .i64 bl, .int .i64 bu], .int .i64 left, .int .i64 other, .int .u16 mo] w fun e w' => e = .returned (.bool true) ∧ Below w.heap.size w w' := by
  have HX := Lib.hid hX
  have HY := Lib.hid hY
  have HZ := Lib.hid hZ
  clear hX hY hZ
  have hq0 : (q == 0) = false := by rw [beq_eq_false_iff_ne]; omega
  have hq1 : (q != q) = false := by simp
  have hq2 : (q == q) = true := by simp
  go_enter Try.func5, Try.ntmps5
  go_wp2_with fail
  refine (priced_yes (w.heap.size + 1 + 1) an 0 ap al au bn bs bp bl bu _ ⟨by simp, by simp [go_sem], by simp [go_sem], by simp [go_sem], by simp [go_sem], by simp [go_sem], by simp [go_sem], by simp [go_sem], by simp [go_sem], by simp [go_sem], by simp [go_sem]⟩ g1 g2 g3 g4).mono ?_
  rintro e w1 ⟨rfl, hb1⟩
  obtain ⟨hc1, hf1⟩ := bcell hb1
  have hz1 := hb1.size
  have hB1 : Below w.heap.size w w1 := Below.step (by go_grown) hb1
  try simp only [World.size_alloc, World.size_setCell, World.size_drew] at hz1 hc1 hf1
  have hy1_0 : w.heap.size < w1.heap.size := by omega
  have hy1_1 : w.heap.size + 1 < w1.heap.size := by omega
  go_upto_region 5 with fail
  have hS1 : Below w.heap.size w (w1.alloc (Obj.cells #[.int .i64 an, .int .i64 0, .int .i64 (ap + mo), .int .i64 al, .int .i64 au] 23)) ∧ w.heap.size + 1 < w1.heap.size ∧ w1.heap.size < (w1.alloc (Obj.cells #[.int .i64 an, .int .i64 0, .int .i64 (ap + mo), .int .i64 al, .int .i64 au] 23)).heap.size ∧ (w1.alloc (Obj.cells #[.int .i64 an, .int .i64 0, .int .i64 (ap + mo), .int .i64 al, .int .i64 au] 23)).cell? ⟨w.heap.size, 0, none⟩ = some (.int .i64 an) ∧ (w1.alloc (Obj.cells #[.int .i64 an, .int .i64 0, .int .i64 (ap + mo), .int .i64 al, .int .i64 au] 23)).cell? ⟨w.heap.size, 1, none⟩ = some (.int .i64 0) ∧ (w1.alloc (Obj.cells #[.int .i64 an, .int .i64 0, .int .i64 (ap + mo), .int .i64 al, .int .i64 au] 23)).cell? ⟨w.heap.size, 2, none⟩ = some (.int .i64 ap) ∧ (w1.alloc (Obj.cells #[.int .i64 an, .int .i64 0, .int .i64 (ap + mo), .int .i64 al, .int .i64 au] 23)).cell? ⟨w.heap.size, 3, none⟩ = some (.int .i64 al) ∧ (w1.alloc (Obj.cells #[.int .i64 an, .int .i64 0, .int .i64 (ap + mo), .int .i64 al, .int .i64 au] 23)).cell? ⟨w.heap.size, 4, none⟩ = some (.int .i64 au) ∧ (w1.alloc (Obj.cells #[.int .i64 an, .int .i64 0, .int .i64 (ap + mo), .int .i64 al, .int .i64 au] 23)).cell? ⟨w.heap.size + 1, 0, none⟩ = some (.int .i64 bn) ∧ (w1.alloc (Obj.cells #[.int .i64 an, .int .i64 0, .int .i64 (ap + mo), .int .i64 al, .int .i64 au] 23)).cell? ⟨w.heap.size + 1, 1, none⟩ = some (.int .i64 bs) ∧ (w1.alloc (Obj.cells #[.int .i64 an, .int .i64 0, .int .i64 (ap + mo), .int .i64 al, .int .i64 au] 23)).cell? ⟨w.heap.size + 1, 2, none⟩ = some (.int .i64 bp) ∧ (w1.alloc (Obj.cells #[.int .i64 an, .int .i64 0, .int .i64 (ap + mo), .int .i64 al, .int .i64 au] 23)).cell? ⟨w.heap.size + 1, 3, none⟩ = some (.int .i64 bl) ∧ (w1.alloc (Obj.cells #[.int .i64 an, .int .i64 0, .int .i64 (ap + mo), .int .i64 al, .int .i64 au] 23)).cell? ⟨w.heap.size + 1, 4, none⟩ = some (.int .i64 bu) ∧ (w1.alloc (Obj.cells #[.int .i64 an, .int .i64 0, .int .i64 (ap + mo), .int .i64 al, .int .i64 au] 23)).cell? ⟨w1.heap.size, 0, none⟩ = some (.int .i64 an) ∧ (w1.alloc (Obj.cells #[.int .i64 an, .int .i64 0, .int .i64 (ap + mo), .int .i64 al, .int .i64 au] 23)).cell? ⟨w1.heap.size, 1, none⟩ = some (.int .i64 0) ∧ (w1.alloc (Obj.cells #[.int .i64 an, .int .i64 0, .int .i64 (ap + mo), .int .i64 al, .int .i64 au] 23)).cell? ⟨w1.heap.size, 2, none⟩ = some (.int .i64 (ap + mo)) ∧ (w1.alloc (Obj.cells #[.int .i64 an, .int .i64 0, .int .i64 (ap + mo), .int .i64 al, .int .i64 au] 23)).cell? ⟨w1.heap.size, 3, none⟩ = some (.int .i64 al) ∧ (w1.alloc (Obj.cells #[.int .i64 an, .int .i64 0, .int .i64 (ap + mo), .int .i64 al, .int .i64 au] 23)).cell? ⟨w1.heap.size, 4, none⟩ = some (.int .i64 au) := ⟨by go_grown, by omega, by simp, (World.cell?_alloc_lt w1 _ ⟨w.heap.size, 0, none⟩ (by show w.heap.size < w1.heap.size; omega)).trans ((hc1 _ _ (by omega)).trans (by simp [go_sem])), (World.cell?_alloc_lt w1 _ ⟨w.heap.size, 1, none⟩ (by show w.heap.size < w1.heap.size; omega)).trans ((hc1 _ _ (by omega)).trans (by simp [go_sem])), (World.cell?_alloc_lt w1 _ ⟨w.heap.size, 2, none⟩ (by show w.heap.size < w1.heap.size; omega)).trans ((hc1 _ _ (by omega)).trans (by simp [go_sem])), (World.cell?_alloc_lt w1 _ ⟨w.heap.size, 3, none⟩ (by show w.heap.size < w1.heap.size; omega)).trans ((hc1 _ _ (by omega)).trans (by simp [go_sem])), (World.cell?_alloc_lt w1 _ ⟨w.heap.size, 4, none⟩ (by show w.heap.size < w1.heap.size; omega)).trans ((hc1 _ _ (by omega)).trans (by simp [go_sem])), (World.cell?_alloc_lt w1 _ ⟨w.heap.size + 1, 0, none⟩ (by show w.heap.size + 1 < w1.heap.size; omega)).trans ((hc1 _ _ (by omega)).trans (by simp [go_sem])), (World.cell?_alloc_lt w1 _ ⟨w.heap.size + 1, 1, none⟩ (by show w.heap.size + 1 < w1.heap.size; omega)).trans ((hc1 _ _ (by omega)).trans (by simp [go_sem])), (World.cell?_alloc_lt w1 _ ⟨w.heap.size + 1, 2, none⟩ (by show w.heap.size + 1 < w1.heap.size; omega)).trans ((hc1 _ _ (by omega)).trans (by simp [go_sem])), (World.cell?_alloc_lt w1 _ ⟨w.heap.size + 1, 3, none⟩ (by show w.heap.size + 1 < w1.heap.size; omega)).trans ((hc1 _ _ (by omega)).trans (by simp [go_sem])), (World.cell?_alloc_lt w1 _ ⟨w.heap.size + 1, 4, none⟩ (by show w.heap.size + 1 < w1.heap.size; omega)).trans ((hc1 _ _ (by omega)).trans (by simp [go_sem])), by simp [go_sem], by simp [go_sem], by simp [go_sem], by simp [go_sem], by simp [go_sem]⟩
  go_cut [12, 13] (fun s12 s13 wx => ∃ g h : Nat, s12 = .pointer (some ⟨g, 0, none⟩) ∧ s13 = .pointer (some ⟨h, 0, none⟩) ∧ g < wx.heap.size ∧ h < wx.heap.size ∧ wx.cell? ⟨g, 0, none⟩ = some (.int .i64 q) ∧ wx.cell? ⟨g, 1, none⟩ = some (.int .i64 p) ∧ wx.cell? ⟨h, 0, none⟩ = some (.int .i64 q) ∧ wx.cell? ⟨h, 1, none⟩ = some (.int .i64 p2) ∧ (Below w.heap.size w wx ∧ w.heap.size + 1 < w1.heap.size ∧ w1.heap.size < wx.heap.size ∧ wx.cell? ⟨w.heap.size, 0, none⟩ = some (.int .i64 an) ∧ wx.cell? ⟨w.heap.size, 1, none⟩ = some (.int .i64 0) ∧ wx.cell? ⟨w.heap.size, 2, none⟩ = some (.int .i64 ap) ∧ wx.cell? ⟨w.heap.size, 3, none⟩ = some (.int .i64 al) ∧ wx.cell? ⟨w.heap.size, 4, none⟩ = some (.int .i64 au) ∧ wx.cell? ⟨w.heap.size + 1, 0, none⟩ = some (.int .i64 bn) ∧ wx.cell? ⟨w.heap.size + 1, 1, none⟩ = some (.int .i64 bs) ∧ wx.cell? ⟨w.heap.size + 1, 2, none⟩ = some (.int .i64 bp) ∧ wx.cell? ⟨w.heap.size + 1, 3, none⟩ = some (.int .i64 bl) ∧ wx.cell? ⟨w.heap.size + 1, 4, none⟩ = some (.int .i64 bu) ∧ wx.cell? ⟨w1.heap.size, 0, none⟩ = some (.int .i64 an) ∧ wx.cell? ⟨w1.heap.size, 1, none⟩ = some (.int .i64 0) ∧ wx.cell? ⟨w1.heap.size, 2, none⟩ = some (.int .i64 (ap + mo)) ∧ wx.cell? ⟨w1.heap.size, 3, none⟩ = some (.int .i64 al) ∧ wx.cell? ⟨w1.heap.size, 4, none⟩ = some (.int .i64 au)))
  case first =>
    go_region_held3 (fun w' => Below w.heap.size w w' ∧ w.heap.size + 1 < w1.heap.size ∧ w1.heap.size < w'.heap.size ∧ w'.cell? ⟨w.heap.size, 0, none⟩ = some (.int .i64 an) ∧ w'.cell? ⟨w.heap.size, 1, none⟩ = some (.int .i64 0) ∧ w'.cell? ⟨w.heap.size, 2, none⟩ = some (.int .i64 ap) ∧ w'.cell? ⟨w.heap.size, 3, none⟩ = some (.int .i64 al) ∧ w'.cell? ⟨w.heap.size, 4, none⟩ = some (.int .i64 au) ∧ w'.cell? ⟨w.heap.size + 1, 0, none⟩ = some (.int .i64 bn) ∧ w'.cell? ⟨w.heap.size + 1, 1, none⟩ = some (.int .i64 bs) ∧ w'.cell? ⟨w.heap.size + 1, 2, none⟩ = some (.int .i64 bp) ∧ w'.cell? ⟨w.heap.size + 1, 3, none⟩ = some (.int .i64 bl) ∧ w'.cell? ⟨w.heap.size + 1, 4, none⟩ = some (.int .i64 bu) ∧ w'.cell? ⟨w1.heap.size, 0, none⟩ = some (.int .i64 an) ∧ w'.cell? ⟨w1.heap.size, 1, none⟩ = some (.int .i64 0) ∧ w'.cell? ⟨w1.heap.size, 2, none⟩ = some (.int .i64 (ap + mo)) ∧ w'.cell? ⟨w1.heap.size, 3, none⟩ = some (.int .i64 al) ∧ w'.cell? ⟨w1.heap.size, 4, none⟩ = some (.int .i64 au)) (first | exact keep_drew hS1 | (refine keep_gen HSz.out ?_; go_grown; done) | (refine keep_gen HSy.out ?_; go_grown; done) | (refine keep_gen hS1 ?_; go_grown; done))
      (first
        | (have _t := HSy; (with_reducible refine (HX.out _).mono ?_); rintro e wz ⟨rfl, hbz⟩; have hSz := keep_below hbz (by assumption); have HSz := Lib.hid hSz; have hsz := hSz.2.2.1; clear hSz; obtain ⟨hcz, hfz⟩ := bcell hbz; have hzz := hbz.size; (try simp only [World.size_alloc, World.size_drew, World.size_setCell] at hcz hfz hzz); (try (have hqz_0_0 : w1.heap.size + 1 < wz.heap.size := by omega)); (try (have hqz_0_1 : w1.heap.size + 1 + 1 < wz.heap.size := by omega)); (try (have hqz_1_0 : wy.heap.size < wz.heap.size := by omega)); (try (have hqz_1_1 : wy.heap.size + 1 < wz.heap.size := by omega)); (try (have hvz_0_0_0 : wz.cell? ⟨w1.heap.size + 1, 0, none⟩ = some (.int .i64 0) := by (rw [hcz _ _ (by omega)]; first | (simp [go_sem]; done) | (simp [go_sem, *]; done)))); (try (have hvz_0_0_1 : wz.cell? ⟨w1.heap.size + 1, 1, none⟩ = some (.int .i64 0) := by (rw [hcz _ _ (by omega)]; first | (simp [go_sem]; done) | (simp [go_sem, *]; done)))); (try (have hvz_0_1_0 : wz.cell? ⟨w1.heap.size + 1 + 1, 0, none⟩ = some (.int .i64 0) := by (rw [hcz _ _ (by omega)]; first | (simp [go_sem]; done) | (simp [go_sem, *]; done)))); (try (have hvz_0_1_1 : wz.cell? ⟨w1.heap.size + 1 + 1, 1, none⟩ = some (.int .i64 0) := by (rw [hcz _ _ (by omega)]; first | (simp [go_sem]; done) | (simp [go_sem, *]; done)))); (try (have hvz_1_0_0 : wz.cell? ⟨wy.heap.size, 0, none⟩ = some (.int .i64 0) := by (rw [hcz _ _ (by omega)]; first | (simp [go_sem]; done) | (simp [go_sem, *]; done)))); (try (have hvz_1_0_1 : wz.cell? ⟨wy.heap.size, 1, none⟩ = some (.int .i64 0) := by (rw [hcz _ _ (by omega)]; first | (simp [go_sem]; done) | (simp [go_sem, *]; done)))); (try (have hvz_1_1_0 : wz.cell? ⟨wy.heap.size + 1, 0, none⟩ = some (.int .i64 0) := by (rw [hcz _ _ (by omega)]; first | (simp [go_sem]; done) | (simp [go_sem, *]; done)))); (try (have hvz_1_1_1 : wz.cell? ⟨wy.heap.size + 1, 1, none⟩ = some (.int .i64 0) := by (rw [hcz _ _ (by omega)]; first | (simp [go_sem]; done) | (simp [go_sem, *]; done)))))
        | (have _t := HSy; (with_reducible refine (HY.out _).mono ?_); rintro e wz ⟨rfl, hbz⟩; have hSz := keep_below hbz (by assumption); have HSz := Lib.hid hSz; have hsz := hSz.2.2.1; clear hSz; obtain ⟨hcz, hfz⟩ := bcell hbz; have hzz := hbz.size; (try simp only [World.size_alloc, World.size_drew, World.size_setCell] at hcz hfz hzz); (try (have hqz_0_0 : w1.heap.size + 1 < wz.heap.size := by omega)); (try (have hqz_0_1 : w1.heap.size + 1 + 1 < wz.heap.size := by omega)); (try (have hqz_1_0 : wy.heap.size < wz.heap.size := by omega)); (try (have hqz_1_1 : wy.heap.size + 1 < wz.heap.size := by omega)); (try (have hvz_0_0_0 : wz.cell? ⟨w1.heap.size + 1, 0, none⟩ = some (.int .i64 0) := by (rw [hcz _ _ (by omega)]; first | (simp [go_sem]; done) | (simp [go_sem, *]; done)))); (try (have hvz_0_0_1 : wz.cell? ⟨w1.heap.size + 1, 1, none⟩ = some (.int .i64 0) := by (rw [hcz _ _ (by omega)]; first | (simp [go_sem]; done) | (simp [go_sem, *]; done)))); (try (have hvz_0_1_0 : wz.cell? ⟨w1.heap.size + 1 + 1, 0, none⟩ = some (.int .i64 0) := by (rw [hcz _ _ (by omega)]; first | (simp [go_sem]; done) | (simp [go_sem, *]; done)))); (try (have hvz_0_1_1 : wz.cell? ⟨w1.heap.size + 1 + 1, 1, none⟩ = some (.int .i64 0) := by (rw [hcz _ _ (by omega)]; first | (simp [go_sem]; done) | (simp [go_sem, *]; done)))); (try (have hvz_1_0_0 : wz.cell? ⟨wy.heap.size, 0, none⟩ = some (.int .i64 0) := by (rw [hcz _ _ (by omega)]; first | (simp [go_sem]; done) | (simp [go_sem, *]; done)))); (try (have hvz_1_0_1 : wz.cell? ⟨wy.heap.size, 1, none⟩ = some (.int .i64 0) := by (rw [hcz _ _ (by omega)]; first | (simp [go_sem]; done) | (simp [go_sem, *]; done)))); (try (have hvz_1_1_0 : wz.cell? ⟨wy.heap.size + 1, 0, none⟩ = some (.int .i64 0) := by (rw [hcz _ _ (by omega)]; first | (simp [go_sem]; done) | (simp [go_sem, *]; done)))); (try (have hvz_1_1_1 : wz.cell? ⟨wy.heap.size + 1, 1, none⟩ = some (.int .i64 0) := by (rw [hcz _ _ (by omega)]; first | (simp [go_sem]; done) | (simp [go_sem, *]; done)))))
        | ((with_reducible refine (HX.out _).mono ?_); rintro e wy ⟨rfl, hby⟩; have hSy := keep_below hby (by assumption); have HSy := Lib.hid hSy; have hsy := hSy.2.2.1; clear hSy; obtain ⟨hcy, hfy⟩ := bcell hby; have hzy := hby.size; (try simp only [World.size_alloc, World.size_drew, World.size_setCell] at hcy hfy hzy); (try (have hqy_0_0 : w1.heap.size + 1 < wy.heap.size := by omega)); (try (have hqy_0_1 : w1.heap.size + 1 + 1 < wy.heap.size := by omega)); (try (have hvy_0_0_0 : wy.cell? ⟨w1.heap.size + 1, 0, none⟩ = some (.int .i64 0) := by (rw [hcy _ _ (by omega)]; first | (simp [go_sem]; done) | (simp [go_sem, *]; done)))); (try (have hvy_0_0_1 : wy.cell? ⟨w1.heap.size + 1, 1, none⟩ = some (.int .i64 0) := by (rw [hcy _ _ (by omega)]; first | (simp [go_sem]; done) | (simp [go_sem, *]; done)))); (try (have hvy_0_1_0 : wy.cell? ⟨w1.heap.size + 1 + 1, 0, none⟩ = some (.int .i64 0) := by (rw [hcy _ _ (by omega)]; first | (simp [go_sem]; done) | (simp [go_sem, *]; done)))); (try (have hvy_0_1_1 : wy.cell? ⟨w1.heap.size + 1 + 1, 1, none⟩ = some (.int .i64 0) := by (rw [hcy _ _ (by omega)]; first | (simp [go_sem]; done) | (simp [go_sem, *]; done)))))
        | ((with_reducible refine (HY.out _).mono ?_); rintro e wy ⟨rfl, hby⟩; have hSy := keep_below hby (by assumption); have HSy := Lib.hid hSy; have hsy := hSy.2.2.1; clear hSy; obtain ⟨hcy, hfy⟩ := bcell hby; have hzy := hby.size; (try simp only [World.size_alloc, World.size_drew, World.size_setCell] at hcy hfy hzy); (try (have hqy_0_0 : w1.heap.size + 1 < wy.heap.size := by omega)); (try (have hqy_0_1 : w1.heap.size + 1 + 1 < wy.heap.size := by omega)); (try (have hvy_0_0_0 : wy.cell? ⟨w1.heap.size + 1, 0, none⟩ = some (.int .i64 0) := by (rw [hcy _ _ (by omega)]; first | (simp [go_sem]; done) | (simp [go_sem, *]; done)))); (try (have hvy_0_0_1 : wy.cell? ⟨w1.heap.size + 1, 1, none⟩ = some (.int .i64 0) := by (rw [hcy _ _ (by omega)]; first | (simp [go_sem]; done) | (simp [go_sem, *]; done)))); (try (have hvy_0_1_0 : wy.cell? ⟨w1.heap.size + 1 + 1, 0, none⟩ = some (.int .i64 0) := by (rw [hcy _ _ (by omega)]; first | (simp [go_sem]; done) | (simp [go_sem, *]; done)))); (try (have hvy_0_1_1 : wy.cell? ⟨w1.heap.size + 1 + 1, 1, none⟩ = some (.int .i64 0) := by (rw [hcy _ _ (by omega)]; first | (simp [go_sem]; done) | (simp [go_sem, *]; done))))))
    all_goals (go_wp2_with fail; go_meet; refine ⟨_, _, rfl, rfl, ?_, ?_, ?_, ?_, ?_, ?_, ?_⟩)
    all_goals (try (first | (refine keep_gen HSz.out ?_; go_grown; done) | go_size | go_cell | (simp [*]; done)))
  case rest =>
    obtain ⟨g, h, rfl, rfl, hg, hh, cg0, cg1, ch0, ch1, hbc, hsc, hsn, cc0, cc1, cc2, cc3, cc4, cc5, cc6, cc7, cc8, cc9, cc10, cc11, cc12, cc13, cc14⟩ := hcut
    have hsc0 : w.heap.size < wc.heap.size := by omega
    have hsc1 : w.heap.size + 1 < wc.heap.size := by omega
    go_wp2_with fail
    refine (HZ.out _).mono ?_
    rintro e w3 ⟨rfl, hb3⟩
    obtain ⟨hc3, hf3⟩ := bcell hb3
    have hz3 := hb3.size
    have hB3 : Below w.heap.size w w3 := Below.step (by go_grown) hb3
    try simp only [World.size_alloc, World.size_setCell, World.size_drew] at hz3 hc3 hf3
    have hy3_0 : g < w3.heap.size := by omega
    have hy3_1 : h < w3.heap.size := by omega
    have hy3_2 : w.heap.size < w3.heap.size := by omega
    have hy3_3 : w.heap.size + 1 < w3.heap.size := by omega
    have hy3_4 : w1.heap.size < w3.heap.size := by omega
    go_wp2_with fail
    refine (awake11 _).mono ?_
    rintro e w4 ⟨rfl, hb4⟩
    obtain ⟨hc4, hf4⟩ := bcell hb4
    have hz4 := hb4.size
    have hB4 : Below w.heap.size w w4 := Below.step (by go_grown) hb4
    try simp only [World.size_alloc, World.size_setCell, World.size_drew] at hz4 hc4 hf4
    have hy4_0 : g < w4.heap.size := by omega
    have hy4_1 : h < w4.heap.size := by omega
    have hy4_2 : w.heap.size < w4.heap.size := by omega
    have hy4_3 : w.heap.size + 1 < w4.heap.size := by omega
    have hy4_4 : w1.heap.size < w4.heap.size := by omega
    have hy4_5 : w3.heap.size < w4.heap.size := by omega
    have hx4_0 : g < w3.heap.size + 1 := by omega
    have hx4_1 : h < w3.heap.size + 1 := by omega
    have hx4_2 : w.heap.size < w3.heap.size + 1 := by omega
    have hx4_3 : w.heap.size + 1 < w3.heap.size + 1 := by omega
    have hx4_4 : w1.heap.size < w3.heap.size + 1 := by omega
    go_wp2
    go_ret
    exact ⟨rfl, by go_grown⟩
end Go.Proofs.Ytaljmcdldjlnnaa.termsMore
