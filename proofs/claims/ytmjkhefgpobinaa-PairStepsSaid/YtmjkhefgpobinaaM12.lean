/-
  Texts of the machine of pairs, part 12.
-/
import Derived.Test.YtmjkhefgpobinaaM1
import Derived.Test.YtmjkhefgpobinaaM11
namespace Go.Proofs.Ytmjkhefgpobinaa
open Go.ChangeShapes Go.WideShapes Go.ChangeAt Go.RowKit
theorem hold_any (s : Cs) (w : World) : Calls Try.prog 60 #[sc s] w fun e w' => e = .returned (sc (holdS s)) ∧ Below w.heap.size w w' := by
  obtain ⟨k, fl, g, l, f⟩ := s
  by_cases h1 : k = 1
  · subst h1; exact hold_1 g l f fl w
  by_cases h2 : k = 2
  · subst h2; exact hold_2 g l f fl w
  have h3 : holdS ⟨k, fl, g, l, f⟩ = ⟨k, fl, g, l, f⟩ := by unfold holdS; rw [if_neg h1, if_neg h2]
  rw [h3]
  exact hold_same k g l f fl w h1 h2
theorem fit_of {s : Cs} (h0 : 0 ≤ s.kind ∧ s.kind ≤ 8) (h1 : 0 ≤ s.gen ∧ s.gen < 256) (h2 : 0 ≤ s.left ∧ s.left < 65536) (h3 : 0 ≤ s.fills ∧ s.fills < 256) : FitS s := by
  refine ⟨h0.2, fun j hj => ?_⟩
  match j, hj with
  | 0, _ => exact ⟨h0.1, show s.kind < 16 by omega⟩
  | 1, _ =>
    show 0 ≤ (if s.flag = true then (1 : Int) else 0) ∧ (if s.flag = true then (1 : Int) else 0) < 2
    split <;> decide
  | 2, _ => exact ⟨h1.1, show s.gen < 256 from h1.2⟩
  | 3, _ => exact ⟨h2.1, show s.left < 65536 from h2.2⟩
  | 4, _ => exact ⟨h3.1, show s.fills < 256 from h3.2⟩
theorem fit_bd {s : Cs} (h : FitS s) : (0 ≤ s.kind ∧ s.kind ≤ 8) ∧ (0 ≤ s.gen ∧ s.gen < 256) ∧ (0 ≤ s.left ∧ s.left < 65536) ∧ (0 ≤ s.fills ∧ s.fills < 256) := by
  have e0 : 0 ≤ s.kind ∧ s.kind < 16 := h.2 0 (by decide)
  have e2 : 0 ≤ s.gen ∧ s.gen < 256 := h.2 2 (by decide)
  have e3 : 0 ≤ s.left ∧ s.left < 65536 := h.2 3 (by decide)
  have e4 : 0 ≤ s.fills ∧ s.fills < 256 := h.2 4 (by decide)
  exact ⟨⟨e0.1, h.1⟩, e2, e3, e4⟩
theorem fit_hold {s : Cs} (h : FitS s) : FitS (holdS s) := by
  obtain ⟨a, b, c, d⟩ := fit_bd h
  unfold holdS
  split
  · exact fit_of (by dsimp only; omega) b c d
  · split
    · exact fit_of (by dsimp only; omega) b c d
    · exact h
section
variable {K : Nat} {C : Cfg} {W M B Ck p : Nat} {ws ws' : Nat → Int} {st st' now : Int} {lv : Value} {L : List Lg} {w w' : World} {aX aY : Int} {t : Tr Tm5}
set_option maxRecDepth 100000 in
set_option maxHeartbeats 8000000 in
theorem try_2n (h : PW K C W M B Ck ws st now lv L w) (hC : C.Ok) (ha : Ap K W M B Ck p) (hp : Bl p (prc aX aY t) w) (hm : mayHold (PmC C) t = false) :
    Calls Try.prog 38 #[.pointer (some ⟨p, 0, none⟩), .pointer (some ⟨W, 0, none⟩), .int .i64 2] w fun e w' => e = .returned (.tuple #[]) ∧ PW K C W M B Ck ws st now lv L w' ∧ Bl p (prc aX aY t) w' ∧ Fq M B p w w' := by
  have HM := Lib.hid (fun (W' : World) (hb : Bl p (prc aX aY t) W') => mayHold_is hC hb)
  rw [hm] at HM
  obtain ⟨c0, c1, c2, c3, c4, c5, c6, c7⟩ := w8_fm h
  have hl := hp.lt
  have hW := h.blk.lt
  have H := Lib.hid h
  have HP := Lib.hid hp
  clear h hp hm hC ha
  unfold RC at HM
  go_enter Try.func38, Try.ntmps38
  go_wp2_with fail
  refine (HM.out _ HP.out).mono ?_
  rintro e w1 ⟨rfl, hb1⟩
  have HB1 := Lib.hid hb1
  clear hb1
  go_wp2
  go_end0
  exact ⟨rfl, H.out.below HB1.out, HP.out.below HB1.out, Fq.of (Fm.of HB1.out)⟩
set_option maxRecDepth 100000 in
set_option maxHeartbeats 8000000 in
theorem try_2y (h : PW K C W M B Ck ws st now lv L w) (hC : C.Ok) (ha : Ap K W M B Ck p) (hp : Bl p (prc aX aY t) w) (hm : mayHold (PmC C) t = true) (i : Nat) (hi : i < C.A) (hax : aX = (i : Int)) (hf : FitS t.sx) (ho : ws (2 * i) = (cw t.sx : Int)) (hst : 0 ≤ st ∧ st ≤ 1000000) :
    Calls Try.prog 38 #[.pointer (some ⟨p, 0, none⟩), .pointer (some ⟨W, 0, none⟩), .int .i64 2] w fun e w' => e = .returned (.tuple #[]) ∧ PW K C W M B Ck (Mm.upd ws (2 * i) (cw (holdS t.sx) : Int)) (st + 1) now lv L w' ∧ Bl p (prc aX aY { t with held := true }) w' ∧ Fq M B p w w' := by
  have HM := Lib.hid (fun (W' : World) (hb : Bl p (prc aX aY t) W') => mayHold_is hC hb)
  rw [hm] at HM
  have HHO := Lib.hid (fun (W' : World) => hold_any t.sx W')
  have HTU := Lib.hid (fun (W' : World) (hW' : PW K C W M B Ck ws st now lv L W') => turn_yes hW' hC i hi (cw t.sx) (holdS t.sx) (fit_hold hf) ho hst)
  subst hax
  obtain ⟨c0, c1, c2, c3, c4, c5, c6, c7⟩ := w8_fm h
  have hl := hp.lt
  have hW := h.blk.lt
  have H := Lib.hid h
  have HP := Lib.hid hp
  have HA := Lib.hid ha
  clear h hp hm hC ha hf hst ho
  unfold RC at HM
  unfold sc at HHO HTU
  generalize holdS t.sx = hs at *
  go_enter Try.func38, Try.ntmps38
  go_wp2_with fail
  refine (HM.out _ HP.out).mono ?_
  rintro e w1 ⟨rfl, hb1⟩
  have HB1 := Lib.hid hb1
  have hp1 := HP.out.below hb1.drew
  have HP1 := Lib.hid hp1
  have HW1 := Lib.hid (H.out.below hb1.drew)
  have hS0 : w1.drew.cell? ⟨p, 1, none⟩ = some (.int .i64 (i : Int)) ∧ w1.drew.cell? ⟨p, 6, none⟩ = some (.int .u64 (cw t.sx : Int)) ∧ w1.drew.cell? ⟨p, 7, none⟩ = some (.int .i64 t.sx.kind) ∧ w1.drew.cell? ⟨p, 8, none⟩ = some (.bool t.sx.flag) ∧ w1.drew.cell? ⟨p, 9, none⟩ = some (.int .i64 t.sx.gen) ∧ w1.drew.cell? ⟨p, 10, none⟩ = some (.int .i64 t.sx.left) ∧ w1.drew.cell? ⟨p, 11, none⟩ = some (.int .i64 t.sx.fills) := ⟨hp1.cell 1 _ rfl, hp1.cell 6 _ rfl, hp1.cell 7 _ rfl, hp1.cell 8 _ rfl, hp1.cell 9 _ rfl, hp1.cell 10 _ rfl, hp1.cell 11 _ rfl⟩
  clear hb1 hp1
  go_wp2_with fail
  go_region_held3 (fun w' => w'.cell? ⟨p, 1, none⟩ = some (.int .i64 (i : Int)) ∧ w'.cell? ⟨p, 6, none⟩ = some (.int .u64 (cw t.sx : Int)) ∧ w'.cell? ⟨p, 7, none⟩ = some (.int .i64 t.sx.kind) ∧ w'.cell? ⟨p, 8, none⟩ = some (.bool t.sx.flag) ∧ w'.cell? ⟨p, 9, none⟩ = some (.int .i64 t.sx.gen) ∧ w'.cell? ⟨p, 10, none⟩ = some (.int .i64 t.sx.left) ∧ w'.cell? ⟨p, 11, none⟩ = some (.int .i64 t.sx.fills)) (first | with_reducible exact hS0 | with_reducible exact hS1 | with_reducible exact hS2 | with_reducible exact hS3 | fail)
    (first
      | ((with_reducible refine (HHO.out _).mono ?_); rintro e wy1 ⟨rfl, hby1⟩; have HP2 := Lib.hid (HP1.out.below hby1); have HW2 := Lib.hid (HW1.out.below hby1); have HB2 := Lib.hid hby1; have hS1 : wy1.cell? ⟨p, 1, none⟩ = some (.int .i64 (i : Int)) ∧ wy1.cell? ⟨p, 6, none⟩ = some (.int .u64 (cw t.sx : Int)) ∧ wy1.cell? ⟨p, 7, none⟩ = some (.int .i64 t.sx.kind) ∧ wy1.cell? ⟨p, 8, none⟩ = some (.bool t.sx.flag) ∧ wy1.cell? ⟨p, 9, none⟩ = some (.int .i64 t.sx.gen) ∧ wy1.cell? ⟨p, 10, none⟩ = some (.int .i64 t.sx.left) ∧ wy1.cell? ⟨p, 11, none⟩ = some (.int .i64 t.sx.fills) := ⟨HP2.out.cell 1 _ rfl, HP2.out.cell 6 _ rfl, HP2.out.cell 7 _ rfl, HP2.out.cell 8 _ rfl, HP2.out.cell 9 _ rfl, HP2.out.cell 10 _ rfl, HP2.out.cell 11 _ rfl⟩; clear hby1)
      | ((with_reducible refine (HTU.out _ HW2.out).mono ?_); rintro e wy2 ⟨rfl, hw3, hf3⟩; have HW3 := Lib.hid hw3; have HF3 := Lib.hid hf3; have HP3 := Lib.hid (hf3.bl HP2.out HA.out.nM HA.out.nB); have hS2 : wy2.cell? ⟨p, 1, none⟩ = some (.int .i64 (i : Int)) ∧ wy2.cell? ⟨p, 6, none⟩ = some (.int .u64 (cw t.sx : Int)) ∧ wy2.cell? ⟨p, 7, none⟩ = some (.int .i64 t.sx.kind) ∧ wy2.cell? ⟨p, 8, none⟩ = some (.bool t.sx.flag) ∧ wy2.cell? ⟨p, 9, none⟩ = some (.int .i64 t.sx.gen) ∧ wy2.cell? ⟨p, 10, none⟩ = some (.int .i64 t.sx.left) ∧ wy2.cell? ⟨p, 11, none⟩ = some (.int .i64 t.sx.fills) := ⟨HP3.out.cell 1 _ rfl, HP3.out.cell 6 _ rfl, HP3.out.cell 7 _ rfl, HP3.out.cell 8 _ rfl, HP3.out.cell 9 _ rfl, HP3.out.cell 10 _ rfl, HP3.out.cell 11 _ rfl⟩; have d28 := HP3.out.cell 28 _ rfl; have f28 := HP3.out.frz 28; have l28 := HP3.out.lt; have hp4 := HP3.out.set 28 (.bool true); have hS3 : (wy2.setCell ⟨p, 28, none⟩ (.bool true)).cell? ⟨p, 1, none⟩ = some (.int .i64 (i : Int)) ∧ (wy2.setCell ⟨p, 28, none⟩ (.bool true)).cell? ⟨p, 6, none⟩ = some (.int .u64 (cw t.sx : Int)) ∧ (wy2.setCell ⟨p, 28, none⟩ (.bool true)).cell? ⟨p, 7, none⟩ = some (.int .i64 t.sx.kind) ∧ (wy2.setCell ⟨p, 28, none⟩ (.bool true)).cell? ⟨p, 8, none⟩ = some (.bool t.sx.flag) ∧ (wy2.setCell ⟨p, 28, none⟩ (.bool true)).cell? ⟨p, 9, none⟩ = some (.int .i64 t.sx.gen) ∧ (wy2.setCell ⟨p, 28, none⟩ (.bool true)).cell? ⟨p, 10, none⟩ = some (.int .i64 t.sx.left) ∧ (wy2.setCell ⟨p, 28, none⟩ (.bool true)).cell? ⟨p, 11, none⟩ = some (.int .i64 t.sx.fills) := ⟨hp4.cell 1 _ rfl, hp4.cell 6 _ rfl, hp4.cell 7 _ rfl, hp4.cell 8 _ rfl, hp4.cell 9 _ rfl, hp4.cell 10 _ rfl, hp4.cell 11 _ rfl⟩; clear hw3 hf3 hp4)
      | fail)
  go_end0
  refine ⟨rfl, HW3.out.pset HA.out 28 _, HP3.out.set 28 _, ?_⟩
  exact ((Fq.of (Fm.of HB1.out.drew)).trans ((Fq.of (Fm.of HB2.out)).trans (Fq.of HF3.out))).set 28 _
set_option maxRecDepth 100000 in
set_option maxHeartbeats 8000000 in
theorem try_2x (h : PW K C W M B Ck ws st now lv L w) (hC : C.Ok) (ha : Ap K W M B Ck p) (hp : Bl p (prc aX aY t) w) (hm : mayHold (PmC C) t = true) (i : Nat) (hi : i < C.A) (hax : aX = (i : Int)) (hf : FitS t.sx) (ho : ws (2 * i) ≠ (cw t.sx : Int)) (hst : 0 ≤ st ∧ st ≤ 1000000) :
    Calls Try.prog 38 #[.pointer (some ⟨p, 0, none⟩), .pointer (some ⟨W, 0, none⟩), .int .i64 2] w fun e w' => e = .returned (.tuple #[]) ∧ PW K C W M B Ck ws (st + 1) now lv L w' ∧ Bl p (prc aX aY { t with held := false }) w' ∧ Fq M B p w w' := by
  have HM := Lib.hid (fun (W' : World) (hb : Bl p (prc aX aY t) W') => mayHold_is hC hb)
  rw [hm] at HM
  have HHO := Lib.hid (fun (W' : World) => hold_any t.sx W')
  have HTU := Lib.hid (fun (W' : World) (hW' : PW K C W M B Ck ws st now lv L W') => turn_no hW' hC i hi (cw t.sx) (holdS t.sx) (fit_hold hf) ho hst)
  subst hax
  obtain ⟨c0, c1, c2, c3, c4, c5, c6, c7⟩ := w8_fm h
  have hl := hp.lt
  have hW := h.blk.lt
  have H := Lib.hid h
  have HP := Lib.hid hp
  have HA := Lib.hid ha
  clear h hp hm hC ha hf hst ho
  unfold RC at HM
  unfold sc at HHO HTU
  generalize holdS t.sx = hs at *
  go_enter Try.func38, Try.ntmps38
  go_wp2_with fail
  refine (HM.out _ HP.out).mono ?_
  rintro e w1 ⟨rfl, hb1⟩
  have HB1 := Lib.hid hb1
  have hp1 := HP.out.below hb1.drew
  have HP1 := Lib.hid hp1
  have HW1 := Lib.hid (H.out.below hb1.drew)
  have hS0 : w1.drew.cell? ⟨p, 1, none⟩ = some (.int .i64 (i : Int)) ∧ w1.drew.cell? ⟨p, 6, none⟩ = some (.int .u64 (cw t.sx : Int)) ∧ w1.drew.cell? ⟨p, 7, none⟩ = some (.int .i64 t.sx.kind) ∧ w1.drew.cell? ⟨p, 8, none⟩ = some (.bool t.sx.flag) ∧ w1.drew.cell? ⟨p, 9, none⟩ = some (.int .i64 t.sx.gen) ∧ w1.drew.cell? ⟨p, 10, none⟩ = some (.int .i64 t.sx.left) ∧ w1.drew.cell? ⟨p, 11, none⟩ = some (.int .i64 t.sx.fills) := ⟨hp1.cell 1 _ rfl, hp1.cell 6 _ rfl, hp1.cell 7 _ rfl, hp1.cell 8 _ rfl, hp1.cell 9 _ rfl, hp1.cell 10 _ rfl, hp1.cell 11 _ rfl⟩
  clear hb1 hp1
  go_wp2_with fail
  go_region_held3 (fun w' => w'.cell? ⟨p, 1, none⟩ = some (.int .i64 (i : Int)) ∧ w'.cell? ⟨p, 6, none⟩ = some (.int .u64 (cw t.sx : Int)) ∧ w'.cell? ⟨p, 7, none⟩ = some (.int .i64 t.sx.kind) ∧ w'.cell? ⟨p, 8, none⟩ = some (.bool t.sx.flag) ∧ w'.cell? ⟨p, 9, none⟩ = some (.int .i64 t.sx.gen) ∧ w'.cell? ⟨p, 10, none⟩ = some (.int .i64 t.sx.left) ∧ w'.cell? ⟨p, 11, none⟩ = some (.int .i64 t.sx.fills)) (first | with_reducible exact hS0 | with_reducible exact hS1 | with_reducible exact hS2 | with_reducible exact hS3 | fail)
    (first
      | ((with_reducible refine (HHO.out _).mono ?_); rintro e wy1 ⟨rfl, hby1⟩; have HP2 := Lib.hid (HP1.out.below hby1); have HW2 := Lib.hid (HW1.out.below hby1); have HB2 := Lib.hid hby1; have hS1 : wy1.cell? ⟨p, 1, none⟩ = some (.int .i64 (i : Int)) ∧ wy1.cell? ⟨p, 6, none⟩ = some (.int .u64 (cw t.sx : Int)) ∧ wy1.cell? ⟨p, 7, none⟩ = some (.int .i64 t.sx.kind) ∧ wy1.cell? ⟨p, 8, none⟩ = some (.bool t.sx.flag) ∧ wy1.cell? ⟨p, 9, none⟩ = some (.int .i64 t.sx.gen) ∧ wy1.cell? ⟨p, 10, none⟩ = some (.int .i64 t.sx.left) ∧ wy1.cell? ⟨p, 11, none⟩ = some (.int .i64 t.sx.fills) := ⟨HP2.out.cell 1 _ rfl, HP2.out.cell 6 _ rfl, HP2.out.cell 7 _ rfl, HP2.out.cell 8 _ rfl, HP2.out.cell 9 _ rfl, HP2.out.cell 10 _ rfl, HP2.out.cell 11 _ rfl⟩; clear hby1)
      | ((with_reducible refine (HTU.out _ HW2.out).mono ?_); rintro e wy2 ⟨rfl, hw3, hf3⟩; have HW3 := Lib.hid hw3; have HF3 := Lib.hid hf3; have HP3 := Lib.hid (hf3.bl HP2.out HA.out.nM HA.out.nB); have hS2 : wy2.cell? ⟨p, 1, none⟩ = some (.int .i64 (i : Int)) ∧ wy2.cell? ⟨p, 6, none⟩ = some (.int .u64 (cw t.sx : Int)) ∧ wy2.cell? ⟨p, 7, none⟩ = some (.int .i64 t.sx.kind) ∧ wy2.cell? ⟨p, 8, none⟩ = some (.bool t.sx.flag) ∧ wy2.cell? ⟨p, 9, none⟩ = some (.int .i64 t.sx.gen) ∧ wy2.cell? ⟨p, 10, none⟩ = some (.int .i64 t.sx.left) ∧ wy2.cell? ⟨p, 11, none⟩ = some (.int .i64 t.sx.fills) := ⟨HP3.out.cell 1 _ rfl, HP3.out.cell 6 _ rfl, HP3.out.cell 7 _ rfl, HP3.out.cell 8 _ rfl, HP3.out.cell 9 _ rfl, HP3.out.cell 10 _ rfl, HP3.out.cell 11 _ rfl⟩; have d28 := HP3.out.cell 28 _ rfl; have f28 := HP3.out.frz 28; have l28 := HP3.out.lt; have hp4 := HP3.out.set 28 (.bool false); have hS3 : (wy2.setCell ⟨p, 28, none⟩ (.bool false)).cell? ⟨p, 1, none⟩ = some (.int .i64 (i : Int)) ∧ (wy2.setCell ⟨p, 28, none⟩ (.bool false)).cell? ⟨p, 6, none⟩ = some (.int .u64 (cw t.sx : Int)) ∧ (wy2.setCell ⟨p, 28, none⟩ (.bool false)).cell? ⟨p, 7, none⟩ = some (.int .i64 t.sx.kind) ∧ (wy2.setCell ⟨p, 28, none⟩ (.bool false)).cell? ⟨p, 8, none⟩ = some (.bool t.sx.flag) ∧ (wy2.setCell ⟨p, 28, none⟩ (.bool false)).cell? ⟨p, 9, none⟩ = some (.int .i64 t.sx.gen) ∧ (wy2.setCell ⟨p, 28, none⟩ (.bool false)).cell? ⟨p, 10, none⟩ = some (.int .i64 t.sx.left) ∧ (wy2.setCell ⟨p, 28, none⟩ (.bool false)).cell? ⟨p, 11, none⟩ = some (.int .i64 t.sx.fills) := ⟨hp4.cell 1 _ rfl, hp4.cell 6 _ rfl, hp4.cell 7 _ rfl, hp4.cell 8 _ rfl, hp4.cell 9 _ rfl, hp4.cell 10 _ rfl, hp4.cell 11 _ rfl⟩; clear hw3 hf3 hp4)
      | fail)
  go_end0
  refine ⟨rfl, HW3.out.pset HA.out 28 _, HP3.out.set 28 _, ?_⟩
  exact ((Fq.of (Fm.of HB1.out.drew)).trans ((Fq.of (Fm.of HB2.out)).trans (Fq.of HF3.out))).set 28 _
end
end Go.Proofs.Ytmjkhefgpobinaa
namespace Go.Proofs.Ytmjkhefgpobinaa
open Go.ChangeShapes Go.WideShapes Go.ChangeAt Go.RowKit
theorem take_any (s : Cs) (q F : Int) (hs : FitS s) (hF : 0 ≤ F ∧ F ≤ 4) :
    (takeS s q F = none ∧ ∃ v : Int, ∀ w, Calls Try.prog 75 #[sc s, .int .i64 q, .int .i64 F] w (Gives w 0 0 0 0 false (.iface 126 (.int .i64 v))))
    ∨ ∃ s', takeS s q F = some s' ∧ ∀ w, Calls Try.prog 75 #[sc s, .int .i64 q, .int .i64 F] w (Gives w s'.kind s'.gen s'.left s'.fills s'.flag .nilIface) := by
  obtain ⟨hb0, hb1, hb2, hb3⟩ := fit_bd hs
  clear hs
  obtain ⟨k, fl, g, l, f⟩ := s
  dsimp only at hb0 hb1 hb2 hb3
  unfold sc
  by_cases hk1 : k = 1
  · clear hb0
    subst hk1
    by_cases q1 : q < 1
    · refine .inl ⟨?_, _, fun w => c_take_low_1 g l f q F fl w q1⟩
      unfold takeS; rw [if_neg (by simp [looseS]), if_pos (.inl q1)]
    by_cases q2 : l < q
    · refine .inl ⟨?_, _, fun w => c_take_high_1 g l f q F fl w (by omega) q2⟩
      unfold takeS; rw [if_neg (by simp [looseS]), if_pos (.inr q2)]
    by_cases q3 : F ≤ f
    · refine .inl ⟨?_, _, fun w => c_take_limit_1 g l f q F fl w (by omega) (by omega) q3⟩
      unfold takeS; rw [if_neg (by simp [looseS]), if_neg (by dsimp only; omega), if_pos q3]
    refine .inr ⟨spendS ⟨1, fl, g, l, f⟩ q F, ?_, ?_⟩
    · unfold takeS; rw [if_neg (by simp [looseS]), if_neg (by dsimp only; omega), if_neg q3]
    · have hsp : spendS ⟨1, fl, g, l, f⟩ q F = endS ⟨1, fl, g, l - q, f + 1⟩ F := by
        unfold spendS paidS; rw [if_pos (by omega)]
      rw [hsp]
      by_cases q4 : l - q = 0
      · have e : endS ⟨1, fl, g, l - q, f + 1⟩ F = ⟨5, false, g, l - q, f + 1⟩ := by unfold endS; rw [if_pos q4]
        rw [e]
        exact fun w => c_take_full_1 g l f q F fl w (by omega) (by omega) (by omega) (by omega) (by omega) (by omega) q4
      · by_cases q5 : F ≤ f + 1
        · have e : endS ⟨1, fl, g, l - q, f + 1⟩ F = ⟨8, false, g, l - q, f + 1⟩ := by unfold endS; rw [if_neg q4, if_pos q5]
          rw [e]
          exact fun w => c_take_retire_1 g l f q F fl w (by omega) (by omega) (by omega) (by omega) (by omega) (by omega) q4 q5
        · have e : endS ⟨1, fl, g, l - q, f + 1⟩ F = ⟨1, fl, g, l - q, f + 1⟩ := by unfold endS; rw [if_neg q4, if_neg q5]
          rw [e]
          exact fun w => c_take_on_1 g l f q F fl w (by omega) (by omega) (by omega) (by omega) (by omega) (by omega) q4 (by omega)
  by_cases hk2 : k = 2
  · clear hb0
    subst hk2
    by_cases q1 : q < 1
    · refine .inl ⟨?_, _, fun w => c_take_low_2 g l f q F fl w q1⟩
      unfold takeS; rw [if_neg (by simp [looseS]), if_pos (.inl q1)]
    by_cases q2 : l < q
    · refine .inl ⟨?_, _, fun w => c_take_high_2 g l f q F fl w (by omega) q2⟩
      unfold takeS; rw [if_neg (by simp [looseS]), if_pos (.inr q2)]
    by_cases q3 : F ≤ f
    · refine .inl ⟨?_, _, fun w => c_take_limit_2 g l f q F fl w (by omega) (by omega) q3⟩
      unfold takeS; rw [if_neg (by simp [looseS]), if_neg (by dsimp only; omega), if_pos q3]
    refine .inr ⟨spendS ⟨2, fl, g, l, f⟩ q F, ?_, ?_⟩
    · unfold takeS; rw [if_neg (by simp [looseS]), if_neg (by dsimp only; omega), if_neg q3]
    · have hsp : spendS ⟨2, fl, g, l, f⟩ q F = endS ⟨2, fl, g, l - q, f + 1⟩ F := by
        unfold spendS paidS; rw [if_pos (by omega)]
      rw [hsp]
      by_cases q4 : l - q = 0
      · have e : endS ⟨2, fl, g, l - q, f + 1⟩ F = ⟨5, false, g, l - q, f + 1⟩ := by unfold endS; rw [if_pos q4]
        rw [e]
        exact fun w => c_take_full_2 g l f q F fl w (by omega) (by omega) (by omega) (by omega) (by omega) (by omega) q4
      · by_cases q5 : F ≤ f + 1
        · have e : endS ⟨2, fl, g, l - q, f + 1⟩ F = ⟨8, false, g, l - q, f + 1⟩ := by unfold endS; rw [if_neg q4, if_pos q5]
          rw [e]
          exact fun w => c_take_retire_2 g l f q F fl w (by omega) (by omega) (by omega) (by omega) (by omega) (by omega) q4 q5
        · have e : endS ⟨2, fl, g, l - q, f + 1⟩ F = ⟨2, fl, g, l - q, f + 1⟩ := by unfold endS; rw [if_neg q4, if_neg q5]
          rw [e]
          exact fun w => c_take_on_2 g l f q F fl w (by omega) (by omega) (by omega) (by omega) (by omega) (by omega) q4 (by omega)
  refine .inl ⟨?_, _, fun w => c_take_busy k g l f q F fl w hk1 hk2⟩
  unfold takeS looseS
  rw [if_pos (by simp [hk1, hk2])]
theorem fit_take {s s' : Cs} {q F : Int} (hs : FitS s) (hF : 0 ≤ F ∧ F ≤ 4) (h : takeS s q F = some s') : FitS s' := by
  obtain ⟨h0, h1, h2, h3⟩ := fit_bd hs
  unfold takeS at h
  split at h
  · cases h
  split at h
  · cases h
  split at h
  · cases h
  injection h with h
  subst h
  rename_i g1 g2 g3
  unfold spendS paidS
  rw [if_pos (by omega)]
  unfold endS
  split
  · exact fit_of (by dsimp only; omega) h1 (by dsimp only; omega) (by dsimp only; omega)
  · split
    · exact fit_of (by dsimp only; omega) h1 (by dsimp only; omega) (by dsimp only; omega)
    · exact fit_of h0 h1 (by dsimp only; omega) (by dsimp only; omega)
end Go.Proofs.Ytmjkhefgpobinaa
namespace Go.Proofs.Ytmjkhefgpobinaa
open Go.ChangeShapes Go.WideShapes Go.ChangeAt Go.RowKit
theorem release_any (s : Cs) (q F : Int) (hs : FitS s) (hF : 0 ≤ F ∧ F ≤ 4) :
    (releaseS s q F = none ∧ ∃ v : Int, ∀ w, Calls Try.prog 63 #[sc s, .int .i64 q, .int .i64 F] w (Gives w 0 0 0 0 false (.iface 126 (.int .i64 v))))
    ∨ ∃ s', releaseS s q F = some s' ∧ ∀ w, Calls Try.prog 63 #[sc s, .int .i64 q, .int .i64 F] w (Gives w s'.kind s'.gen s'.left s'.fills s'.flag .nilIface) := by
  obtain ⟨hb0, hb1, hb2, hb3⟩ := fit_bd hs
  clear hs
  obtain ⟨k, fl, g, l, f⟩ := s
  dsimp only at hb0 hb1 hb2 hb3
  unfold sc
  by_cases hk3 : k = 3
  · clear hb0
    subst hk3
    by_cases q1 : q < 0
    · refine .inl ⟨?_, _, fun w => c_rel_low_3 g l f q F fl w q1⟩
      unfold releaseS; rw [if_neg (by simp [heldS]), if_pos (.inl q1)]
    by_cases q2 : l < q
    · refine .inl ⟨?_, _, fun w => c_rel_high_3 g l f q F fl w (by omega) q2⟩
      unfold releaseS; rw [if_neg (by simp [heldS]), if_pos (.inr q2)]
    by_cases q0 : q = 0
    · subst q0
      refine .inr ⟨wishS (spendS (loosenS ⟨3, fl, g, l, f⟩) 0 F), ?_, ?_⟩
      · unfold releaseS; rw [if_neg (by simp [heldS]), if_neg (by dsimp only; omega), if_neg (fun e => e.1 rfl)]
      by_cases q4 : l = 0
      · subst q4
        have e : wishS (spendS (loosenS ⟨3, fl, g, 0, f⟩) 0 F) = ⟨5, false, g, 0, f⟩ := by simp [wishS, spendS, loosenS, paidS, endS, overS]
        rw [e]
        exact fun w => c_relz_full_3 g f F fl w
      by_cases q5 : F ≤ f
      · have e : wishS (spendS (loosenS ⟨3, fl, g, l, f⟩) 0 F) = ⟨8, false, g, l, f⟩ := by simp [wishS, spendS, loosenS, paidS, endS, overS, q4, q5]
        rw [e]
        exact fun w => c_relz_retire_3 g l f F fl w (by omega) q5
      cases fl
      · have e : wishS (spendS (loosenS ⟨3, false, g, l, f⟩) 0 F) = ⟨1, false, g, l, f⟩ := by simp [wishS, spendS, loosenS, paidS, endS, overS, q4, q5]
        rw [e]
        exact fun w => c_relz_on_false_3 g l f F w (by omega) (by omega)
      · have e : wishS (spendS (loosenS ⟨3, true, g, l, f⟩) 0 F) = ⟨6, false, g, l, f⟩ := by simp [wishS, spendS, loosenS, paidS, endS, overS, q4, q5]
        rw [e]
        exact fun w => c_relz_on_true_3 g l f F w (by omega) (by omega)
    by_cases q3 : F ≤ f
    · refine .inl ⟨?_, _, fun w => c_rel_limit_3 g l f q F fl w (by omega) (by omega) q3⟩
      unfold releaseS; rw [if_neg (by simp [heldS]), if_neg (by dsimp only; omega), if_pos ⟨q0, q3⟩]
    refine .inr ⟨wishS (spendS (loosenS ⟨3, fl, g, l, f⟩) q F), ?_, ?_⟩
    · unfold releaseS; rw [if_neg (by simp [heldS]), if_neg (by dsimp only; omega), if_neg (fun e => q3 e.2)]
    have qp : 0 < q := by omega
    by_cases q4 : l - q = 0
    · have e : wishS (spendS (loosenS ⟨3, fl, g, l, f⟩) q F) = ⟨5, false, g, l - q, f + 1⟩ := by simp [wishS, spendS, loosenS, paidS, endS, overS, qp, q4]
      rw [e]
      exact fun w => c_rel_full_3 g l f q F fl w (by omega) (by omega) (by omega) (by omega) (by omega) (by omega) q4
    by_cases q5 : F ≤ f + 1
    · have e : wishS (spendS (loosenS ⟨3, fl, g, l, f⟩) q F) = ⟨8, false, g, l - q, f + 1⟩ := by simp [wishS, spendS, loosenS, paidS, endS, overS, qp, q4, q5]
      rw [e]
      exact fun w => c_rel_retire_3 g l f q F fl w (by omega) (by omega) (by omega) (by omega) (by omega) (by omega) q4 q5
    cases fl
    · have e : wishS (spendS (loosenS ⟨3, false, g, l, f⟩) q F) = ⟨1, false, g, l - q, f + 1⟩ := by simp [wishS, spendS, loosenS, paidS, endS, overS, qp, q4, q5]
      rw [e]
      exact fun w => c_rel_on_false_3 g l f q F w (by omega) (by omega) (by omega) (by omega) (by omega) (by omega) q4 (by omega)
    · have e : wishS (spendS (loosenS ⟨3, true, g, l, f⟩) q F) = ⟨6, false, g, l - q, f + 1⟩ := by simp [wishS, spendS, loosenS, paidS, endS, overS, qp, q4, q5]
      rw [e]
      exact fun w => c_rel_on_true_3 g l f q F w (by omega) (by omega) (by omega) (by omega) (by omega) (by omega) q4 (by omega)
  by_cases hk4 : k = 4
  · clear hb0
    subst hk4
    by_cases q1 : q < 0
    · refine .inl ⟨?_, _, fun w => c_rel_low_4 g l f q F fl w q1⟩
      unfold releaseS; rw [if_neg (by simp [heldS]), if_pos (.inl q1)]
    by_cases q2 : l < q
    · refine .inl ⟨?_, _, fun w => c_rel_high_4 g l f q F fl w (by omega) q2⟩
      unfold releaseS; rw [if_neg (by simp [heldS]), if_pos (.inr q2)]
    by_cases q0 : q = 0
    · subst q0
      refine .inr ⟨wishS (spendS (loosenS ⟨4, fl, g, l, f⟩) 0 F), ?_, ?_⟩
      · unfold releaseS; rw [if_neg (by simp [heldS]), if_neg (by dsimp only; omega), if_neg (fun e => e.1 rfl)]
      by_cases q4 : l = 0
      · subst q4
        have e : wishS (spendS (loosenS ⟨4, fl, g, 0, f⟩) 0 F) = ⟨5, false, g, 0, f⟩ := by simp [wishS, spendS, loosenS, paidS, endS, overS]
        rw [e]
        exact fun w => c_relz_full_4 g f F fl w
      by_cases q5 : F ≤ f
      · have e : wishS (spendS (loosenS ⟨4, fl, g, l, f⟩) 0 F) = ⟨8, false, g, l, f⟩ := by simp [wishS, spendS, loosenS, paidS, endS, overS, q4, q5]
        rw [e]
        exact fun w => c_relz_retire_4 g l f F fl w (by omega) q5
      cases fl
      · have e : wishS (spendS (loosenS ⟨4, false, g, l, f⟩) 0 F) = ⟨2, false, g, l, f⟩ := by simp [wishS, spendS, loosenS, paidS, endS, overS, q4, q5]
        rw [e]
        exact fun w => c_relz_on_false_4 g l f F w (by omega) (by omega)
      · have e : wishS (spendS (loosenS ⟨4, true, g, l, f⟩) 0 F) = ⟨6, false, g, l, f⟩ := by simp [wishS, spendS, loosenS, paidS, endS, overS, q4, q5]
        rw [e]
        exact fun w => c_relz_on_true_4 g l f F w (by omega) (by omega)
    by_cases q3 : F ≤ f
    · refine .inl ⟨?_, _, fun w => c_rel_limit_4 g l f q F fl w (by omega) (by omega) q3⟩
      unfold releaseS; rw [if_neg (by simp [heldS]), if_neg (by dsimp only; omega), if_pos ⟨q0, q3⟩]
    refine .inr ⟨wishS (spendS (loosenS ⟨4, fl, g, l, f⟩) q F), ?_, ?_⟩
    · unfold releaseS; rw [if_neg (by simp [heldS]), if_neg (by dsimp only; omega), if_neg (fun e => q3 e.2)]
    have qp : 0 < q := by omega
    by_cases q4 : l - q = 0
    · have e : wishS (spendS (loosenS ⟨4, fl, g, l, f⟩) q F) = ⟨5, false, g, l - q, f + 1⟩ := by simp [wishS, spendS, loosenS, paidS, endS, overS, qp, q4]
      rw [e]
      exact fun w => c_rel_full_4 g l f q F fl w (by omega) (by omega) (by omega) (by omega) (by omega) (by omega) q4
    by_cases q5 : F ≤ f + 1
    · have e : wishS (spendS (loosenS ⟨4, fl, g, l, f⟩) q F) = ⟨8, false, g, l - q, f + 1⟩ := by simp [wishS, spendS, loosenS, paidS, endS, overS, qp, q4, q5]
      rw [e]
      exact fun w => c_rel_retire_4 g l f q F fl w (by omega) (by omega) (by omega) (by omega) (by omega) (by omega) q4 q5
    cases fl
    · have e : wishS (spendS (loosenS ⟨4, false, g, l, f⟩) q F) = ⟨2, false, g, l - q, f + 1⟩ := by simp [wishS, spendS, loosenS, paidS, endS, overS, qp, q4, q5]
      rw [e]
      exact fun w => c_rel_on_false_4 g l f q F w (by omega) (by omega) (by omega) (by omega) (by omega) (by omega) q4 (by omega)
    · have e : wishS (spendS (loosenS ⟨4, true, g, l, f⟩) q F) = ⟨6, false, g, l - q, f + 1⟩ := by simp [wishS, spendS, loosenS, paidS, endS, overS, qp, q4, q5]
      rw [e]
      exact fun w => c_rel_on_true_4 g l f q F w (by omega) (by omega) (by omega) (by omega) (by omega) (by omega) q4 (by omega)
  refine .inl ⟨?_, _, fun w => c_rel_arg k g l f q F fl w hk3 hk4⟩
  unfold releaseS heldS
  rw [if_pos (by simp [hk3, hk4])]
theorem fit_release {s s' : Cs} {q F : Int} (hs : FitS s) (hF : 0 ≤ F ∧ F ≤ 4) (h : releaseS s q F = some s') : FitS s' := by
  obtain ⟨h0, h1, h2, h3⟩ := fit_bd hs
  unfold releaseS at h
  split at h
  · cases h
  split at h
  · cases h
  split at h
  · cases h
  injection h with h
  subst h
  rename_i g1 g2 g3
  have a1 : FitS (loosenS s) ∧ (loosenS s).left = s.left ∧ (loosenS s).fills = s.fills := by
    unfold loosenS
    split
    · exact ⟨fit_of (by dsimp only; omega) h1 h2 h3, rfl, rfl⟩
    · split
      · exact ⟨fit_of (by dsimp only; omega) h1 h2 h3, rfl, rfl⟩
      · exact ⟨hs, rfl, rfl⟩
  obtain ⟨a1, a2, a3⟩ := a1
  generalize loosenS s = u at a1 a2 a3 ⊢
  obtain ⟨b0, b1, b2, b3⟩ := fit_bd a1
  have c1 : FitS (paidS u q) := by
    unfold paidS
    split
    · rename_i hq
      have hf : ¬ F ≤ s.fills := fun e => g3 ⟨by omega, e⟩
      exact fit_of b0 b1 (by dsimp only; omega) (by dsimp only; omega)
    · exact a1
  have c2 : FitS (spendS u q F) := by
    unfold spendS
    generalize paidS u q = y at c1 ⊢
    obtain ⟨y0, y1, y2, y3⟩ := fit_bd c1
    unfold endS
    split
    · exact fit_of (by dsimp only; omega) y1 y2 y3
    · split
      · exact fit_of (by dsimp only; omega) y1 y2 y3
      · exact c1
  generalize spendS u q F = y at c2 ⊢
  obtain ⟨y0, y1, y2, y3⟩ := fit_bd c2
  unfold wishS
  split
  · exact fit_of (by dsimp only; omega) y1 y2 y3
  · exact c2
end Go.Proofs.Ytmjkhefgpobinaa
namespace Go.Proofs.Ytmjkhefgpobinaa
open Go.ChangeShapes Go.WideShapes Go.ChangeAt Go.RowKit
theorem over_any (s : Cs) (w : World) : Calls Try.prog 64 #[sc s] w fun e w' => e = .returned (.bool (overS s)) ∧ Below w.heap.size w w' := by
  obtain ⟨k, fl, g, l, f⟩ := s
  unfold sc
  by_cases h1 : k = 1
  · subst h1; exact overL1 g l f fl w
  by_cases h2 : k = 2
  · subst h2; exact overL2 g l f fl w
  by_cases h3 : k = 3
  · subst h3; exact overH3 g l f fl w
  by_cases h4 : k = 4
  · subst h4; exact overH4 g l f fl w
  by_cases h5 : k < 5
  · have e : overS ⟨k, fl, g, l, f⟩ = false := by simp [overS]; omega
    rw [e]; exact overN k g l f fl w h5 h1 h2 h3 h4
  by_cases h8 : 8 < k
  · have e : overS ⟨k, fl, g, l, f⟩ = false := by simp [overS]; omega
    rw [e]; exact overX k g l f fl w h8
  have e : overS ⟨k, fl, g, l, f⟩ = true := by simp [overS]; omega
  rw [e]; exact overO k g l f fl w (by omega) (by omega)
theorem held_any (s : Cs) (w : World) : Calls Try.prog 15 #[sc s] w fun e w' => e = .returned (.bool (heldS s)) ∧ Below w.heap.size w w' := by
  obtain ⟨k, fl, g, l, f⟩ := s
  unfold sc
  by_cases h1 : k = 1
  · subst h1; exact heldL1 g l f fl w
  by_cases h2 : k = 2
  · subst h2; exact heldL2 g l f fl w
  by_cases h3 : k = 3
  · subst h3; exact heldH3 g l f fl w
  by_cases h4 : k = 4
  · subst h4; exact heldH4 g l f fl w
  by_cases h5 : k < 5
  · have e : heldS ⟨k, fl, g, l, f⟩ = false := by simp [heldS]; omega
    rw [e]; exact heldN k g l f fl w h5 h1 h2 h3 h4
  by_cases h8 : 8 < k
  · have e : heldS ⟨k, fl, g, l, f⟩ = false := by simp [heldS]; omega
    rw [e]; exact heldX k g l f fl w h8
  have e : heldS ⟨k, fl, g, l, f⟩ = false := by simp [heldS]; omega
  rw [e]; exact heldO k g l f fl w (by omega) (by omega)
/-- The record of an order's end. -/
def endR (s : Cs) (t : Int) : Rc := if overS s = true then ⟨s.kind - 3, s.left, s.fills, t, 0, 0⟩ else ⟨0, 0, 0, 0, 0, 0⟩
theorem end_any (s : Cs) (t : Int) (w : World) : Calls Try.prog 66 #[sc s, .int .i64 t] w fun e w' => e = .returned (.tuple #[rcv (endR s t), .bool (overS s)]) ∧ Below w.heap.size w w' := by
  obtain ⟨k, fl, g, l, f⟩ := s
  unfold sc rcv endR
  by_cases h5 : k < 5
  · have e : overS ⟨k, fl, g, l, f⟩ = false := by simp [overS]; omega
    rw [e]; exact end_low k g l f t fl w h5
  by_cases h8 : 8 < k
  · have e : overS ⟨k, fl, g, l, f⟩ = false := by simp [overS]; omega
    rw [e]; exact end_high k g l f t fl w h8
  have e : overS ⟨k, fl, g, l, f⟩ = true := by simp [overS]; omega
  rw [e]; exact end_yes k g l f t fl w (by omega) (by omega)
end Go.Proofs.Ytmjkhefgpobinaa
namespace Go.Proofs.Ytmjkhefgpobinaa
open Go.ChangeShapes Go.WideShapes Go.ChangeAt Go.RowKit
theorem fitR_of {r : Rc} (h0 : 0 ≤ r.k ∧ r.k ≤ 5) (h1 : 0 ≤ r.q ∧ r.q < 65536) (h2 : 0 ≤ r.p ∧ r.p < 65536) (h3 : 0 ≤ r.t ∧ r.t < 1048576) (h4 : 0 ≤ r.c ∧ r.c < 32) (h5 : 0 ≤ r.g ∧ r.g < 16) : FitRc r := by
  refine ⟨h0.2, fun j hj => ?_⟩
  match j, hj with
  | 0, _ => exact ⟨h0.1, show r.k < 8 by omega⟩
  | 1, _ => exact ⟨h1.1, show r.q < 65536 from h1.2⟩
  | 2, _ => exact ⟨h2.1, show r.p < 65536 from h2.2⟩
  | 3, _ => exact ⟨h3.1, show r.t < 1048576 from h3.2⟩
  | 4, _ => exact ⟨h4.1, show r.c < 32 from h4.2⟩
  | 5, _ => exact ⟨h5.1, show r.g < 16 from h5.2⟩
theorem fitT_of {t : Tm5} (h0 : 0 ≤ t.n ∧ t.n < 16) (h1 : 0 ≤ t.s ∧ t.s < 2) (h2 : 0 ≤ t.p ∧ t.p < 65536) (h3 : 0 ≤ t.l ∧ t.l < 65536) (h4 : 0 ≤ t.u ∧ t.u < 16777216) : FitT5 t := by
  intro j hj
  match j, hj with
  | 0, _ => exact ⟨h0.1, show t.n < 16 from h0.2⟩
  | 1, _ => exact ⟨h1.1, show t.s < 2 from h1.2⟩
  | 2, _ => exact ⟨h2.1, show t.p < 65536 from h2.2⟩
  | 3, _ => exact ⟨h3.1, show t.l < 65536 from h3.2⟩
  | 4, _ => exact ⟨h4.1, show t.u < 16777216 from h4.2⟩
theorem cw_zero : cw ⟨0, false, 0, 0, 0⟩ = 0 := by decide
theorem tw_zero : tw ⟨0, 0, 0, 0, 0⟩ = 0 := by decide
theorem fit_zero : FitS ⟨0, false, 0, 0, 0⟩ := fit_of (by decide) (by decide) (by decide) (by decide)
theorem fitT_zero : FitT5 ⟨0, 0, 0, 0, 0⟩ := fitT_of (by decide) (by decide) (by decide) (by decide) (by decide)
end Go.Proofs.Ytmjkhefgpobinaa
namespace Go.Proofs.Ytmjkhefgpobinaa
open Go.ChangeShapes Go.WideShapes Go.ChangeAt Go.RowKit
section
variable {aX aY : Int} {t : Tr Tm5} {p : Nat} {w : World}
set_option maxRecDepth 100000 in
set_option maxHeartbeats 2000000 in
theorem done_no (hp : Bl p (prc aX aY t) w) (h : t.pc < 14) : Calls Try.prog 21 #[.pointer (some ⟨p, 0, none⟩)] w fun e w' => e = .returned (.bool false) ∧ Below w.heap.size w w' := by
  have c5 := hp.cell 5 _ rfl
  have hl := hp.lt
  have h1 : decide ((14 : Int) ≤ (t.pc : Int)) = false := decide_eq_false (by omega)
  have h2 : (t.pc : Int) < 14 := by omega
  clear hp h
  go_enter Try.func21, Try.ntmps21
  go_wp2
  go_ret
  exact ⟨rfl, by go_grown⟩
set_option maxRecDepth 100000 in
set_option maxHeartbeats 2000000 in
theorem done_yes (hp : Bl p (prc aX aY t) w) (h : 14 ≤ t.pc) : Calls Try.prog 21 #[.pointer (some ⟨p, 0, none⟩)] w fun e w' => e = .returned (.bool true) ∧ Below w.heap.size w w' := by
  have c5 := hp.cell 5 _ rfl
  have hl := hp.lt
  have h2 : (14 : Int) ≤ (t.pc : Int) := by omega
  clear hp h
  go_enter Try.func21, Try.ntmps21
  go_wp2
  go_ret
  exact ⟨rfl, by go_grown⟩
set_option maxRecDepth 100000 in
set_option maxHeartbeats 2000000 in
theorem made_is (hp : Bl p (prc aX aY t) w) : Calls Try.prog 14 #[.pointer (some ⟨p, 0, none⟩)] w fun e w' => e = .returned (.bool t.made) ∧ Below w.heap.size w w' := by
  have c29 := hp.cell 29 _ rfl
  have hl := hp.lt
  clear hp
  go_enter Try.func14, Try.ntmps14
  go_wp2
  go_ret
  exact ⟨rfl, by go_grown⟩
end
end Go.Proofs.Ytmjkhefgpobinaa
namespace Go.Proofs.Ytmjkhefgpobinaa
open Go.ChangeShapes Go.WideShapes Go.ChangeAt Go.RowKit
section
variable {K : Nat} {C : Cfg} {W M B Ck p : Nat} {ws ws' : Nat → Int} {st st' now : Int} {lv : Value} {L : List Lg} {w w' : World} {aX aY : Int} {t : Tr Tm5}
set_option maxRecDepth 100000 in
set_option maxHeartbeats 8000000 in
theorem take_n (h : PW K C W M B Ck ws st now lv L w) (ha : Ap K W M B Ck p) (hp : Bl p (prc aX aY t) w) (hm : ∀ w, Calls Try.prog 74 #[tc t.tx, tc t.ty, .int .i64 t.sx.left, .int .i64 t.sy.left] w (MatchPost w 0 0)) :
    Calls Try.prog 62 #[.pointer (some ⟨p, 0, none⟩), .pointer (some ⟨W, 0, none⟩)] w fun e w' => e = .returned (.tuple #[]) ∧ Below w.heap.size w w' := by
  have HMT := Lib.hid (fun (W' : World) => show Calls Try.prog 74 #[tc t.tx, tc t.ty, .int .i64 t.sx.left, .int .i64 t.sy.left] W' (MatchPost W' 0 0) from hm W')
  have H := Lib.hid h
  have HP := Lib.hid hp
  have HA := Lib.hid ha
  have hl := hp.lt
  have HNE : Hid (w.heap.size ≠ p) := fun e => by omega
  have hp0 : Bl p (prc aX aY t) w.drew := hp
  have HP0 := Lib.hid hp0
  have hS0 : w.drew.cell? ⟨p, 10, none⟩ = some (.int .i64 t.sx.left) ∧ w.drew.cell? ⟨p, 21, none⟩ = some (.int .i64 t.sy.left) ∧ w.drew.cell? ⟨p, 12, none⟩ = some (.int .i64 t.tx.n) ∧ w.drew.cell? ⟨p, 13, none⟩ = some (.int .i64 t.tx.s) ∧ w.drew.cell? ⟨p, 14, none⟩ = some (.int .i64 t.tx.p) ∧ w.drew.cell? ⟨p, 15, none⟩ = some (.int .i64 t.tx.l) ∧ w.drew.cell? ⟨p, 16, none⟩ = some (.int .i64 t.tx.u) ∧ w.drew.cell? ⟨p, 23, none⟩ = some (.int .i64 t.ty.n) ∧ w.drew.cell? ⟨p, 24, none⟩ = some (.int .i64 t.ty.s) ∧ w.drew.cell? ⟨p, 25, none⟩ = some (.int .i64 t.ty.p) ∧ w.drew.cell? ⟨p, 26, none⟩ = some (.int .i64 t.ty.l) ∧ w.drew.cell? ⟨p, 27, none⟩ = some (.int .i64 t.ty.u) := ⟨hp0.cell 10 _ rfl, hp0.cell 21 _ rfl, hp0.cell 12 _ rfl, hp0.cell 13 _ rfl, hp0.cell 14 _ rfl, hp0.cell 15 _ rfl, hp0.cell 16 _ rfl, hp0.cell 23 _ rfl, hp0.cell 24 _ rfl, hp0.cell 25 _ rfl, hp0.cell 26 _ rfl, hp0.cell 27 _ rfl⟩
  have hpz : Bl p (prc aX aY t) (w.alloc (Obj.cells #[.int .i64 0, .int .i64 0] 107)).drew := hp.below (by go_grown)
  have HPZ := Lib.hid hpz
  have HFZ : Hid (Bl w.heap.size [.int .i64 0, .int .i64 0] (w.alloc (Obj.cells #[.int .i64 0, .int .i64 0] 107)).drew) := Bl.new w [.int .i64 0, .int .i64 0] 107
  have hSz : (w.alloc (Obj.cells #[.int .i64 0, .int .i64 0] 107)).drew.cell? ⟨p, 10, none⟩ = some (.int .i64 t.sx.left) ∧ (w.alloc (Obj.cells #[.int .i64 0, .int .i64 0] 107)).drew.cell? ⟨p, 21, none⟩ = some (.int .i64 t.sy.left) ∧ (w.alloc (Obj.cells #[.int .i64 0, .int .i64 0] 107)).drew.cell? ⟨p, 12, none⟩ = some (.int .i64 t.tx.n) ∧ (w.alloc (Obj.cells #[.int .i64 0, .int .i64 0] 107)).drew.cell? ⟨p, 13, none⟩ = some (.int .i64 t.tx.s) ∧ (w.alloc (Obj.cells #[.int .i64 0, .int .i64 0] 107)).drew.cell? ⟨p, 14, none⟩ = some (.int .i64 t.tx.p) ∧ (w.alloc (Obj.cells #[.int .i64 0, .int .i64 0] 107)).drew.cell? ⟨p, 15, none⟩ = some (.int .i64 t.tx.l) ∧ (w.alloc (Obj.cells #[.int .i64 0, .int .i64 0] 107)).drew.cell? ⟨p, 16, none⟩ = some (.int .i64 t.tx.u) ∧ (w.alloc (Obj.cells #[.int .i64 0, .int .i64 0] 107)).drew.cell? ⟨p, 23, none⟩ = some (.int .i64 t.ty.n) ∧ (w.alloc (Obj.cells #[.int .i64 0, .int .i64 0] 107)).drew.cell? ⟨p, 24, none⟩ = some (.int .i64 t.ty.s) ∧ (w.alloc (Obj.cells #[.int .i64 0, .int .i64 0] 107)).drew.cell? ⟨p, 25, none⟩ = some (.int .i64 t.ty.p) ∧ (w.alloc (Obj.cells #[.int .i64 0, .int .i64 0] 107)).drew.cell? ⟨p, 26, none⟩ = some (.int .i64 t.ty.l) ∧ (w.alloc (Obj.cells #[.int .i64 0, .int .i64 0] 107)).drew.cell? ⟨p, 27, none⟩ = some (.int .i64 t.ty.u) := ⟨hpz.cell 10 _ rfl, hpz.cell 21 _ rfl, hpz.cell 12 _ rfl, hpz.cell 13 _ rfl, hpz.cell 14 _ rfl, hpz.cell 15 _ rfl, hpz.cell 16 _ rfl, hpz.cell 23 _ rfl, hpz.cell 24 _ rfl, hpz.cell 25 _ rfl, hpz.cell 26 _ rfl, hpz.cell 27 _ rfl⟩
  unfold tc at HMT
  clear h hp ha hp0 hpz
  go_enter Try.func62, Try.ntmps62
  go_wp2_with fail
  go_region_held3 (fun w' => w'.cell? ⟨p, 10, none⟩ = some (.int .i64 t.sx.left) ∧ w'.cell? ⟨p, 21, none⟩ = some (.int .i64 t.sy.left) ∧ w'.cell? ⟨p, 12, none⟩ = some (.int .i64 t.tx.n) ∧ w'.cell? ⟨p, 13, none⟩ = some (.int .i64 t.tx.s) ∧ w'.cell? ⟨p, 14, none⟩ = some (.int .i64 t.tx.p) ∧ w'.cell? ⟨p, 15, none⟩ = some (.int .i64 t.tx.l) ∧ w'.cell? ⟨p, 16, none⟩ = some (.int .i64 t.tx.u) ∧ w'.cell? ⟨p, 23, none⟩ = some (.int .i64 t.ty.n) ∧ w'.cell? ⟨p, 24, none⟩ = some (.int .i64 t.ty.s) ∧ w'.cell? ⟨p, 25, none⟩ = some (.int .i64 t.ty.p) ∧ w'.cell? ⟨p, 26, none⟩ = some (.int .i64 t.ty.l) ∧ w'.cell? ⟨p, 27, none⟩ = some (.int .i64 t.ty.u)) (first | with_reducible exact hS0 | with_reducible exact hSz | with_reducible exact hS1 | with_reducible exact hS2 | with_reducible exact hS3 | with_reducible exact hSb1 | with_reducible exact hSb2 | fail)
    (first
      | ((with_reducible refine (HMT.out w.drew).mono ?_); rintro e wy1 ⟨rfl, hby1⟩; have hp1 := HP0.out.below hby1; have HP1 := Lib.hid hp1; have HB1 := Lib.hid hby1; have l1 := hp1.lt; have hS1 : wy1.cell? ⟨p, 10, none⟩ = some (.int .i64 t.sx.left) ∧ wy1.cell? ⟨p, 21, none⟩ = some (.int .i64 t.sy.left) ∧ wy1.cell? ⟨p, 12, none⟩ = some (.int .i64 t.tx.n) ∧ wy1.cell? ⟨p, 13, none⟩ = some (.int .i64 t.tx.s) ∧ wy1.cell? ⟨p, 14, none⟩ = some (.int .i64 t.tx.p) ∧ wy1.cell? ⟨p, 15, none⟩ = some (.int .i64 t.tx.l) ∧ wy1.cell? ⟨p, 16, none⟩ = some (.int .i64 t.tx.u) ∧ wy1.cell? ⟨p, 23, none⟩ = some (.int .i64 t.ty.n) ∧ wy1.cell? ⟨p, 24, none⟩ = some (.int .i64 t.ty.s) ∧ wy1.cell? ⟨p, 25, none⟩ = some (.int .i64 t.ty.p) ∧ wy1.cell? ⟨p, 26, none⟩ = some (.int .i64 t.ty.l) ∧ wy1.cell? ⟨p, 27, none⟩ = some (.int .i64 t.ty.u) := ⟨hp1.cell 10 _ rfl, hp1.cell 21 _ rfl, hp1.cell 12 _ rfl, hp1.cell 13 _ rfl, hp1.cell 14 _ rfl, hp1.cell 15 _ rfl, hp1.cell 16 _ rfl, hp1.cell 23 _ rfl, hp1.cell 24 _ rfl, hp1.cell 25 _ rfl, hp1.cell 26 _ rfl, hp1.cell 27 _ rfl⟩; have hp2 := hp1.below (w' := wy1.alloc (Obj.cells #[.int .i64 0, .int .i64 0] 107)) (by go_grown); have hS2 : (wy1.alloc (Obj.cells #[.int .i64 0, .int .i64 0] 107)).cell? ⟨p, 10, none⟩ = some (.int .i64 t.sx.left) ∧ (wy1.alloc (Obj.cells #[.int .i64 0, .int .i64 0] 107)).cell? ⟨p, 21, none⟩ = some (.int .i64 t.sy.left) ∧ (wy1.alloc (Obj.cells #[.int .i64 0, .int .i64 0] 107)).cell? ⟨p, 12, none⟩ = some (.int .i64 t.tx.n) ∧ (wy1.alloc (Obj.cells #[.int .i64 0, .int .i64 0] 107)).cell? ⟨p, 13, none⟩ = some (.int .i64 t.tx.s) ∧ (wy1.alloc (Obj.cells #[.int .i64 0, .int .i64 0] 107)).cell? ⟨p, 14, none⟩ = some (.int .i64 t.tx.p) ∧ (wy1.alloc (Obj.cells #[.int .i64 0, .int .i64 0] 107)).cell? ⟨p, 15, none⟩ = some (.int .i64 t.tx.l) ∧ (wy1.alloc (Obj.cells #[.int .i64 0, .int .i64 0] 107)).cell? ⟨p, 16, none⟩ = some (.int .i64 t.tx.u) ∧ (wy1.alloc (Obj.cells #[.int .i64 0, .int .i64 0] 107)).cell? ⟨p, 23, none⟩ = some (.int .i64 t.ty.n) ∧ (wy1.alloc (Obj.cells #[.int .i64 0, .int .i64 0] 107)).cell? ⟨p, 24, none⟩ = some (.int .i64 t.ty.s) ∧ (wy1.alloc (Obj.cells #[.int .i64 0, .int .i64 0] 107)).cell? ⟨p, 25, none⟩ = some (.int .i64 t.ty.p) ∧ (wy1.alloc (Obj.cells #[.int .i64 0, .int .i64 0] 107)).cell? ⟨p, 26, none⟩ = some (.int .i64 t.ty.l) ∧ (wy1.alloc (Obj.cells #[.int .i64 0, .int .i64 0] 107)).cell? ⟨p, 27, none⟩ = some (.int .i64 t.ty.u) := ⟨hp2.cell 10 _ rfl, hp2.cell 21 _ rfl, hp2.cell 12 _ rfl, hp2.cell 13 _ rfl, hp2.cell 14 _ rfl, hp2.cell 15 _ rfl, hp2.cell 16 _ rfl, hp2.cell 23 _ rfl, hp2.cell 24 _ rfl, hp2.cell 25 _ rfl, hp2.cell 26 _ rfl, hp2.cell 27 _ rfl⟩; have hp3 := hp1.below (w' := wy1.alloc (Obj.cells #[.int .i64 0, .int .i64 0] 107)) (by go_grown); have hS3 : (wy1.alloc (Obj.cells #[.int .i64 0, .int .i64 0] 107)).cell? ⟨p, 10, none⟩ = some (.int .i64 t.sx.left) ∧ (wy1.alloc (Obj.cells #[.int .i64 0, .int .i64 0] 107)).cell? ⟨p, 21, none⟩ = some (.int .i64 t.sy.left) ∧ (wy1.alloc (Obj.cells #[.int .i64 0, .int .i64 0] 107)).cell? ⟨p, 12, none⟩ = some (.int .i64 t.tx.n) ∧ (wy1.alloc (Obj.cells #[.int .i64 0, .int .i64 0] 107)).cell? ⟨p, 13, none⟩ = some (.int .i64 t.tx.s) ∧ (wy1.alloc (Obj.cells #[.int .i64 0, .int .i64 0] 107)).cell? ⟨p, 14, none⟩ = some (.int .i64 t.tx.p) ∧ (wy1.alloc (Obj.cells #[.int .i64 0, .int .i64 0] 107)).cell? ⟨p, 15, none⟩ = some (.int .i64 t.tx.l) ∧ (wy1.alloc (Obj.cells #[.int .i64 0, .int .i64 0] 107)).cell? ⟨p, 16, none⟩ = some (.int .i64 t.tx.u) ∧ (wy1.alloc (Obj.cells #[.int .i64 0, .int .i64 0] 107)).cell? ⟨p, 23, none⟩ = some (.int .i64 t.ty.n) ∧ (wy1.alloc (Obj.cells #[.int .i64 0, .int .i64 0] 107)).cell? ⟨p, 24, none⟩ = some (.int .i64 t.ty.s) ∧ (wy1.alloc (Obj.cells #[.int .i64 0, .int .i64 0] 107)).cell? ⟨p, 25, none⟩ = some (.int .i64 t.ty.p) ∧ (wy1.alloc (Obj.cells #[.int .i64 0, .int .i64 0] 107)).cell? ⟨p, 26, none⟩ = some (.int .i64 t.ty.l) ∧ (wy1.alloc (Obj.cells #[.int .i64 0, .int .i64 0] 107)).cell? ⟨p, 27, none⟩ = some (.int .i64 t.ty.u) := ⟨hp3.cell 10 _ rfl, hp3.cell 21 _ rfl, hp3.cell 12 _ rfl, hp3.cell 13 _ rfl, hp3.cell 14 _ rfl, hp3.cell 15 _ rfl, hp3.cell 16 _ rfl, hp3.cell 23 _ rfl, hp3.cell 24 _ rfl, hp3.cell 25 _ rfl, hp3.cell 26 _ rfl, hp3.cell 27 _ rfl⟩; have HP3 := Lib.hid hp3; clear hby1 hp1 hp2 hp3)
      | ((with_reducible refine (HMT.out (w.alloc (Obj.cells #[.int .i64 0, .int .i64 0] 107)).drew).mono ?_); rintro e wyb ⟨rfl, hbyb⟩; have hpb := HPZ.out.below hbyb; have HBB := Lib.hid hbyb; have lb := hpb.lt; have hfb := HFZ.out.below hbyb; have LFB := hfb.lt; have fb0 := hfb.cell 0 _ rfl; have fb1 := hfb.cell 1 _ rfl; have ff0 := hfb.frz 0; have ff1 := hfb.frz 1; have hSb1 : wyb.cell? ⟨p, 10, none⟩ = some (.int .i64 t.sx.left) ∧ wyb.cell? ⟨p, 21, none⟩ = some (.int .i64 t.sy.left) ∧ wyb.cell? ⟨p, 12, none⟩ = some (.int .i64 t.tx.n) ∧ wyb.cell? ⟨p, 13, none⟩ = some (.int .i64 t.tx.s) ∧ wyb.cell? ⟨p, 14, none⟩ = some (.int .i64 t.tx.p) ∧ wyb.cell? ⟨p, 15, none⟩ = some (.int .i64 t.tx.l) ∧ wyb.cell? ⟨p, 16, none⟩ = some (.int .i64 t.tx.u) ∧ wyb.cell? ⟨p, 23, none⟩ = some (.int .i64 t.ty.n) ∧ wyb.cell? ⟨p, 24, none⟩ = some (.int .i64 t.ty.s) ∧ wyb.cell? ⟨p, 25, none⟩ = some (.int .i64 t.ty.p) ∧ wyb.cell? ⟨p, 26, none⟩ = some (.int .i64 t.ty.l) ∧ wyb.cell? ⟨p, 27, none⟩ = some (.int .i64 t.ty.u) := ⟨hpb.cell 10 _ rfl, hpb.cell 21 _ rfl, hpb.cell 12 _ rfl, hpb.cell 13 _ rfl, hpb.cell 14 _ rfl, hpb.cell 15 _ rfl, hpb.cell 16 _ rfl, hpb.cell 23 _ rfl, hpb.cell 24 _ rfl, hpb.cell 25 _ rfl, hpb.cell 26 _ rfl, hpb.cell 27 _ rfl⟩; have hpb2 := (hpb.far (p := ⟨w.heap.size, 0, none⟩) HNE.out (.int .i64 0)).far (p := ⟨w.heap.size, 1, none⟩) HNE.out (.int .i64 0); have hSb2 : ((wyb.setCell ⟨w.heap.size, 0, none⟩ (.int .i64 0)).setCell ⟨w.heap.size, 1, none⟩ (.int .i64 0)).cell? ⟨p, 10, none⟩ = some (.int .i64 t.sx.left) ∧ ((wyb.setCell ⟨w.heap.size, 0, none⟩ (.int .i64 0)).setCell ⟨w.heap.size, 1, none⟩ (.int .i64 0)).cell? ⟨p, 21, none⟩ = some (.int .i64 t.sy.left) ∧ ((wyb.setCell ⟨w.heap.size, 0, none⟩ (.int .i64 0)).setCell ⟨w.heap.size, 1, none⟩ (.int .i64 0)).cell? ⟨p, 12, none⟩ = some (.int .i64 t.tx.n) ∧ ((wyb.setCell ⟨w.heap.size, 0, none⟩ (.int .i64 0)).setCell ⟨w.heap.size, 1, none⟩ (.int .i64 0)).cell? ⟨p, 13, none⟩ = some (.int .i64 t.tx.s) ∧ ((wyb.setCell ⟨w.heap.size, 0, none⟩ (.int .i64 0)).setCell ⟨w.heap.size, 1, none⟩ (.int .i64 0)).cell? ⟨p, 14, none⟩ = some (.int .i64 t.tx.p) ∧ ((wyb.setCell ⟨w.heap.size, 0, none⟩ (.int .i64 0)).setCell ⟨w.heap.size, 1, none⟩ (.int .i64 0)).cell? ⟨p, 15, none⟩ = some (.int .i64 t.tx.l) ∧ ((wyb.setCell ⟨w.heap.size, 0, none⟩ (.int .i64 0)).setCell ⟨w.heap.size, 1, none⟩ (.int .i64 0)).cell? ⟨p, 16, none⟩ = some (.int .i64 t.tx.u) ∧ ((wyb.setCell ⟨w.heap.size, 0, none⟩ (.int .i64 0)).setCell ⟨w.heap.size, 1, none⟩ (.int .i64 0)).cell? ⟨p, 23, none⟩ = some (.int .i64 t.ty.n) ∧ ((wyb.setCell ⟨w.heap.size, 0, none⟩ (.int .i64 0)).setCell ⟨w.heap.size, 1, none⟩ (.int .i64 0)).cell? ⟨p, 24, none⟩ = some (.int .i64 t.ty.s) ∧ ((wyb.setCell ⟨w.heap.size, 0, none⟩ (.int .i64 0)).setCell ⟨w.heap.size, 1, none⟩ (.int .i64 0)).cell? ⟨p, 25, none⟩ = some (.int .i64 t.ty.p) ∧ ((wyb.setCell ⟨w.heap.size, 0, none⟩ (.int .i64 0)).setCell ⟨w.heap.size, 1, none⟩ (.int .i64 0)).cell? ⟨p, 26, none⟩ = some (.int .i64 t.ty.l) ∧ ((wyb.setCell ⟨w.heap.size, 0, none⟩ (.int .i64 0)).setCell ⟨w.heap.size, 1, none⟩ (.int .i64 0)).cell? ⟨p, 27, none⟩ = some (.int .i64 t.ty.u) := ⟨hpb2.cell 10 _ rfl, hpb2.cell 21 _ rfl, hpb2.cell 12 _ rfl, hpb2.cell 13 _ rfl, hpb2.cell 14 _ rfl, hpb2.cell 15 _ rfl, hpb2.cell 16 _ rfl, hpb2.cell 23 _ rfl, hpb2.cell 24 _ rfl, hpb2.cell 25 _ rfl, hpb2.cell 26 _ rfl, hpb2.cell 27 _ rfl⟩; have HPB2 := Lib.hid hpb2; have HFB := Lib.hid hfb; clear hbyb hpb hfb hpb2)
      | fail)
  clear hm
  all_goals go_wp2
  all_goals refine bodyPost_ret (results_none rfl _ _ _) rfl ?_
  · have hb := Below.step ((Below.refl w.heap.size w).drew) HB1.out
    exact ⟨rfl, hb.alloc hb.size _⟩
  · have hb := Below.step (((Below.refl w.heap.size w).alloc (Nat.le_refl _) (Obj.cells #[.int .i64 0, .int .i64 0] 107)).drew) HBB.out
    exact ⟨rfl, (hb.setCell (p := ⟨w.heap.size, 0, none⟩) (Nat.le_refl _) _).setCell (p := ⟨w.heap.size, 1, none⟩) (Nat.le_refl _) _⟩
end
end Go.Proofs.Ytmjkhefgpobinaa
