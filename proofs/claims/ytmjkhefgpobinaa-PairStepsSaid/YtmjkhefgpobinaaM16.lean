/-
  Texts of the machine of pairs, part 16.
-/
import Derived.Test.YtmjkhefgpobinaaM1
import Derived.Test.YtmjkhefgpobinaaM12
import Derived.Test.YtmjkhefgpobinaaM15
namespace Go.Proofs.Ytmjkhefgpobinaa
open Go.ChangeShapes Go.WideShapes Go.ChangeAt Go.RowKit
section
variable {K : Nat} {C : Cfg} {W M B Ck p : Nat} {ws ws' : Nat → Int} {st st' now : Int} {lv : Value} {L : List Lg} {w w' : World} {aX aY : Int} {t : Tr Tm5}
set_option maxRecDepth 100000 in
set_option maxHeartbeats 16000000 in
theorem step_try (h : PW K C W M B Ck ws st now lv L w) (hC : C.Ok) (ha : Ap K W M B Ck p) (hp : Bl p (prc aX aY t) w) (hpc : t.pc < 14) (hr : t.pc < 6) (hx : 0 ≤ ow C.p C.c aX) (hy : 0 ≤ ow C.p C.c aY) (hn : ow C.p C.c aX ≠ ow C.p C.c aY) (R : World → World → Prop)
    (hk : ∀ W', PW K C W M B Ck ws st now lv L W' → Bl p (prc aX aY { t with pc := t.pc + 1 }) W' → Calls Try.prog 38 #[.pointer (some ⟨p, 0, none⟩), .pointer (some ⟨W, 0, none⟩), .int .i64 (t.pc : Int)] W' fun e w' => e = .returned (.tuple #[]) ∧ R W' w') :
    Calls Try.prog 10 #[.pointer (some ⟨p, 0, none⟩), .pointer (some ⟨W, 0, none⟩)] w fun e w' => e = .returned (.tuple #[]) ∧ ∃ w1, Fq M B p w w1 ∧ R w1 w' := by
  have hC1 : 1 ≤ (C.p : Int) ∧ (C.p : Int) ≤ 6 := by have := hC.hp; omega
  have hC2 : 1 ≤ (C.c : Int) ∧ (C.c : Int) ≤ 4 := by have := hC.hc; omega
  have HD := Lib.hid (fun (W' : World) (hb : Bl p (prc aX aY t) W') => done_no hb hpc)
  have HOX := Lib.hid (fun (W' : World) => owner_is (C.p : Int) (C.c : Int) C.n C.b C.r (C.f : Int) (C.g : Int) aX W' hC1 hC2)
  have HOY := Lib.hid (fun (W' : World) => owner_is (C.p : Int) (C.c : Int) C.n C.b C.r (C.f : Int) (C.g : Int) aY W' hC1 hC2)
  have HK := Lib.hid hk
  clear hk hC1 hC2 hC
  generalize ow C.p C.c aX = ox at *
  generalize ow C.p C.c aY = oy at *
  have d1 : decide (ox < 0) = false := decide_eq_false (by omega)
  have d2 : decide (oy < 0) = false := decide_eq_false (by omega)
  have d3 : (ox == oy) = false := by simpa using hn
  have d6 : decide ((t.pc : Int) < 6) = true := decide_eq_true (by omega)
  clear hx hy hn
  have H := Lib.hid h
  have HP := Lib.hid hp
  have HA := Lib.hid ha
  have hl := hp.lt
  have hW := h.blk.lt
  have hpc9 : (t.pc : Int) < 9223372036854775807 := by omega
  clear h hp ha
  go_enter Try.func10, Try.ntmps10
  go_wp2_with fail
  refine (HD.out _ HP.out).mono ?_
  rintro e w1 ⟨rfl, hb1⟩
  have HB1 := Lib.hid hb1
  have hp1 := HP.out.below hb1
  have HP1 := Lib.hid hp1
  have HW1 := Lib.hid (H.out.below hb1)
  have c5 := hp1.cell 5 _ rfl
  have f5 := hp1.frz 5
  have l1 := hp1.lt
  clear hb1 hp1
  go_wp2_with fail
  have HP2 := Lib.hid (show Bl p (prc aX aY { t with pc := t.pc + 1 }) (w1.setCell ⟨p, 5, none⟩ (.int .i64 ((t.pc : Int) + 1))) from HP1.out.set 5 (.int .i64 ((t.pc : Int) + 1)))
  have HW2 := Lib.hid (HW1.out.pset HA.out 5 (.int .i64 ((t.pc : Int) + 1)))
  have HQ2 := Lib.hid ((Fq.of (M := M) (B := B) (p := p) (Fm.of HB1.out)).set 5 (.int .i64 ((t.pc : Int) + 1)))
  clear c5 f5 HP1 HW1 HB1
  generalize w1.setCell ⟨p, 5, none⟩ (.int .i64 ((t.pc : Int) + 1)) = w2 at HP2 HW2 HQ2 ⊢
  have h5 : Bl p (prc aX aY { t with pc := t.pc + 1 }) w2.drew ∧ Bl W [.int .i64 (C.p : Int), .int .i64 (C.c : Int), .int .i64 C.n, .int .i64 C.b, .int .i64 C.r, .int .i64 (C.f : Int), .int .i64 (C.g : Int), .pointer (some ⟨M, 0, none⟩), .pointer (some ⟨Ck, 0, none⟩), lv] w2.drew := ⟨HP2.out, HW2.out.blk⟩
  have HB2 := Lib.hid (show Below w2.heap.size w2 w2.drew from (Below.refl _ _).drew)
  refine wp_region_held_drew (S := fun w' => Bl p (prc aX aY { t with pc := t.pc + 1 }) w' ∧ Bl W [.int .i64 (C.p : Int), .int .i64 (C.c : Int), .int .i64 C.n, .int .i64 C.b, .int .i64 C.r, .int .i64 (C.f : Int), .int .i64 (C.g : Int), .pointer (some ⟨M, 0, none⟩), .pointer (some ⟨Ck, 0, none⟩), lv] w') (by kernel_rfl) h5 (fun hHeld => ?_)
  clear h5
  generalize w2.drew = WD at hHeld HB2 ⊢
  refine tk (i := 0) (d := some 24) (v := ?_) (hy := Or.inl ⟨by rfl, ?_⟩) (h := ?_)
  rotate_left
  · intro wq hSw
    go_simp
    try with_reducible rfl
  simp only [Act.put, tkA, tkB, tkC]
  refine tk (i := 1) (d := some 25) (v := ?_) (hy := Or.inl ⟨by rfl, ?_⟩) (h := ?_)
  rotate_left
  · intro wq hSw
    go_simp
    try with_reducible rfl
  simp only [Act.put, tkA, tkB, tkC]
  refine tk (i := 2) (d := some 26) (v := ?_) (hy := Or.inl ⟨by rfl, ?_⟩) (h := ?_)
  rotate_left
  · intro wq hSw
    go_simp
    try with_reducible rfl
  simp only [Act.put, tkA, tkB, tkC]
  refine tk (i := 3) (d := some 27) (v := ?_) (hy := Or.inl ⟨by rfl, ?_⟩) (h := ?_)
  rotate_left
  · intro wq hSw
    have hb9 := hSw.2
    have l7 := hb9.lt
    have z0 := hb9.cell 0 _ rfl
    have z1 := hb9.cell 1 _ rfl
    have z2 := hb9.cell 2 _ rfl
    have z3 := hb9.cell 3 _ rfl
    have z4 := hb9.cell 4 _ rfl
    have z5 := hb9.cell 5 _ rfl
    have z6 := hb9.cell 6 _ rfl
    go_simp
    try with_reducible rfl
  simp only [Act.put, tkA, tkB, tkC]
  refine tk (i := 4) (d := some 28) (v := ?_) (hy := Or.inl ⟨by rfl, ?_⟩) (h := ?_)
  rotate_left
  · intro wq hSw
    go_simp
    try with_reducible rfl
  simp only [Act.put, tkA, tkB, tkC]
  refine tk (i := 5) (d := some 29) (v := ?_) (hy := Or.inl ⟨by rfl, ?_⟩) (h := ?_)
  rotate_left
  · intro wq hSw
    go_simp
    try with_reducible rfl
  simp only [Act.put, tkA, tkB, tkC]
  refine tk (i := 6) (d := some 30) (v := ?_) (hy := Or.inl ⟨by rfl, ?_⟩) (h := ?_)
  rotate_left
  · intro wq hSw
    go_simp
    try with_reducible rfl
  simp only [Act.put, tkA, tkB, tkC]
  refine tk (i := 7) (d := some 31) (v := ?_) (hy := Or.inl ⟨by rfl, ?_⟩) (h := ?_)
  rotate_left
  · intro wq hSw
    go_simp
    try with_reducible rfl
  simp only [Act.put, tkA, tkB, tkC]
  refine tk (i := 8) (d := some 32) (v := ?_) (hy := Or.inl ⟨by rfl, ?_⟩) (h := ?_)
  rotate_left
  · intro wq hSw
    have hb9 := hSw.1
    have l7 := hb9.lt
    have z1 := hb9.cell 1 _ rfl
    go_simp
    try with_reducible rfl
  simp only [Act.put, tkA, tkB, tkC]
  refine tk (i := 10) (d := some 34) (v := ?_) (hy := Or.inl ⟨by rfl, ?_⟩) (h := ?_)
  rotate_left
  · intro wq hSw
    go_simp
    try with_reducible rfl
  simp only [Act.put, tkA, tkB, tkC]
  refine tk (i := 11) (d := some 35) (v := ?_) (hy := Or.inl ⟨by rfl, ?_⟩) (h := ?_)
  rotate_left
  · intro wq hSw
    go_simp
    try with_reducible rfl
  simp only [Act.put, tkA, tkB, tkC]
  refine tk (i := 12) (d := some 36) (v := ?_) (hy := Or.inl ⟨by rfl, ?_⟩) (h := ?_)
  rotate_left
  · intro wq hSw
    go_simp
    try with_reducible rfl
  simp only [Act.put, tkA, tkB, tkC]
  refine tk (i := 13) (d := some 37) (v := ?_) (hy := Or.inl ⟨by rfl, ?_⟩) (h := ?_)
  rotate_left
  · intro wq hSw
    have hb9 := hSw.2
    have l7 := hb9.lt
    have z0 := hb9.cell 0 _ rfl
    have z1 := hb9.cell 1 _ rfl
    have z2 := hb9.cell 2 _ rfl
    have z3 := hb9.cell 3 _ rfl
    have z4 := hb9.cell 4 _ rfl
    have z5 := hb9.cell 5 _ rfl
    have z6 := hb9.cell 6 _ rfl
    go_simp
    try with_reducible rfl
  simp only [Act.put, tkA, tkB, tkC]
  refine tk (i := 14) (d := some 38) (v := ?_) (hy := Or.inl ⟨by rfl, ?_⟩) (h := ?_)
  rotate_left
  · intro wq hSw
    go_simp
    try with_reducible rfl
  simp only [Act.put, tkA, tkB, tkC]
  refine tk (i := 15) (d := some 39) (v := ?_) (hy := Or.inl ⟨by rfl, ?_⟩) (h := ?_)
  rotate_left
  · intro wq hSw
    go_simp
    try with_reducible rfl
  simp only [Act.put, tkA, tkB, tkC]
  refine tk (i := 16) (d := some 40) (v := ?_) (hy := Or.inl ⟨by rfl, ?_⟩) (h := ?_)
  rotate_left
  · intro wq hSw
    go_simp
    try with_reducible rfl
  simp only [Act.put, tkA, tkB, tkC]
  refine tk (i := 17) (d := some 41) (v := ?_) (hy := Or.inl ⟨by rfl, ?_⟩) (h := ?_)
  rotate_left
  · intro wq hSw
    go_simp
    try with_reducible rfl
  simp only [Act.put, tkA, tkB, tkC]
  refine tk (i := 18) (d := some 42) (v := ?_) (hy := Or.inl ⟨by rfl, ?_⟩) (h := ?_)
  rotate_left
  · intro wq hSw
    have hb9 := hSw.1
    have l7 := hb9.lt
    have z3 := hb9.cell 3 _ rfl
    go_simp
    try with_reducible rfl
  simp only [Act.put, tkA, tkB, tkC]
  refine wpAnyH_ready (rs := [9]) (by as_aux_lemma => kernel_rfl) (by simp) ?_
  refine AllReadyH.cons rfl (fun K hK => ?_) AllReadyH.nil
  go_simp
  refine (HOX.out WD).mono ?_
  rintro e WE ⟨rfl, hby⟩
  have HB3 := Lib.hid (Below.step HB2.out hby)
  refine hK.out _ _ ⟨hHeld.1.below hby, hHeld.2.below hby⟩ (fun hHeld => ?_)
  clear hK K hby HB2
  have HB2 := HB3
  clear HB3
  try simp only [Act.put, tkA, tkB, tkC]
  refine wpAnyH_ready (rs := [19]) (by as_aux_lemma => kernel_rfl) (by simp) ?_
  refine AllReadyH.cons rfl (fun K hK => ?_) AllReadyH.nil
  go_simp
  refine (HOY.out WE).mono ?_
  rintro e w3 ⟨rfl, hby⟩
  have HB3 := Lib.hid (Below.step HB2.out hby)
  refine hK.out _ _ ⟨hHeld.1.below hby, hHeld.2.below hby⟩ (fun hHeld => ?_)
  clear hK K hby HB2
  have HB2 := HB3
  clear HB3
  try simp only [Act.put, tkA, tkB, tkC]
  refine tk (i := 20) (d := some 5) (v := ?_) (hy := Or.inl ⟨by rfl, ?_⟩) (h := ?_)
  rotate_left
  · intro wq hSw
    go_simp
    try with_reducible rfl
  simp only [Act.put, tkA, tkB, tkC]
  refine tk (i := 21) (d := some 6) (v := ?_) (hy := Or.inl ⟨by rfl, ?_⟩) (h := ?_)
  rotate_left
  · intro wq hSw
    go_simp
    try with_reducible rfl
  simp only [Act.put, tkA, tkB, tkC]
  refine wpAnyH_done (by as_aux_lemma => kernel_rfl) ?_ _
  have HP3 := Lib.hid hHeld.1
  have HW3 := Lib.hid (HW2.out.below HB2.out)
  have HQ3 := Lib.hid (HQ2.out.trans (Fq.of (Fm.of HB2.out)))
  clear hHeld HP2 HW2 HQ2 HB2
  go_wp2_with fail
  refine (HK.out _ HW3.out HP3.out).mono ?_
  rintro e w4 ⟨rfl, hr⟩
  have HR := Lib.hid hr
  clear hr
  go_wp2
  go_end0
  exact ⟨rfl, w3, HQ3.out, HR.out⟩
set_option maxRecDepth 100000 in
set_option maxHeartbeats 16000000 in
theorem step_free (h : PW K C W M B Ck ws st now lv L w) (hC : C.Ok) (ha : Ap K W M B Ck p) (hp : Bl p (prc aX aY t) w) (hpc : t.pc < 14) (hr : 6 ≤ t.pc ∧ t.pc < 10) (hx : 0 ≤ ow C.p C.c aX) (hy : 0 ≤ ow C.p C.c aY) (hn : ow C.p C.c aX ≠ ow C.p C.c aY) (R : World → World → Prop)
    (hk : ∀ W', PW K C W M B Ck ws st now lv L W' → Bl p (prc aX aY { t with pc := t.pc + 1 }) W' → Calls Try.prog 39 #[.pointer (some ⟨p, 0, none⟩), .pointer (some ⟨W, 0, none⟩), .int .i64 (t.pc : Int)] W' fun e w' => e = .returned (.tuple #[]) ∧ R W' w') :
    Calls Try.prog 10 #[.pointer (some ⟨p, 0, none⟩), .pointer (some ⟨W, 0, none⟩)] w fun e w' => e = .returned (.tuple #[]) ∧ ∃ w1, Fq M B p w w1 ∧ R w1 w' := by
  have hC1 : 1 ≤ (C.p : Int) ∧ (C.p : Int) ≤ 6 := by have := hC.hp; omega
  have hC2 : 1 ≤ (C.c : Int) ∧ (C.c : Int) ≤ 4 := by have := hC.hc; omega
  have HD := Lib.hid (fun (W' : World) (hb : Bl p (prc aX aY t) W') => done_no hb hpc)
  have HOX := Lib.hid (fun (W' : World) => owner_is (C.p : Int) (C.c : Int) C.n C.b C.r (C.f : Int) (C.g : Int) aX W' hC1 hC2)
  have HOY := Lib.hid (fun (W' : World) => owner_is (C.p : Int) (C.c : Int) C.n C.b C.r (C.f : Int) (C.g : Int) aY W' hC1 hC2)
  have HK := Lib.hid hk
  clear hk hC1 hC2 hC
  generalize ow C.p C.c aX = ox at *
  generalize ow C.p C.c aY = oy at *
  have d1 : decide (ox < 0) = false := decide_eq_false (by omega)
  have d2 : decide (oy < 0) = false := decide_eq_false (by omega)
  have d3 : (ox == oy) = false := by simpa using hn
  have d6 : decide ((t.pc : Int) < 6) = false := decide_eq_false (by omega)
  have d10 : decide ((t.pc : Int) < 10) = true := decide_eq_true (by omega)
  clear hx hy hn
  have H := Lib.hid h
  have HP := Lib.hid hp
  have HA := Lib.hid ha
  have hl := hp.lt
  have hW := h.blk.lt
  have hpc9 : (t.pc : Int) < 9223372036854775807 := by omega
  clear h hp ha
  go_enter Try.func10, Try.ntmps10
  go_wp2_with fail
  refine (HD.out _ HP.out).mono ?_
  rintro e w1 ⟨rfl, hb1⟩
  have HB1 := Lib.hid hb1
  have hp1 := HP.out.below hb1
  have HP1 := Lib.hid hp1
  have HW1 := Lib.hid (H.out.below hb1)
  have c5 := hp1.cell 5 _ rfl
  have f5 := hp1.frz 5
  have l1 := hp1.lt
  clear hb1 hp1
  go_wp2_with fail
  have HP2 := Lib.hid (show Bl p (prc aX aY { t with pc := t.pc + 1 }) (w1.setCell ⟨p, 5, none⟩ (.int .i64 ((t.pc : Int) + 1))) from HP1.out.set 5 (.int .i64 ((t.pc : Int) + 1)))
  have HW2 := Lib.hid (HW1.out.pset HA.out 5 (.int .i64 ((t.pc : Int) + 1)))
  have HQ2 := Lib.hid ((Fq.of (M := M) (B := B) (p := p) (Fm.of HB1.out)).set 5 (.int .i64 ((t.pc : Int) + 1)))
  clear c5 f5 HP1 HW1 HB1
  generalize w1.setCell ⟨p, 5, none⟩ (.int .i64 ((t.pc : Int) + 1)) = w2 at HP2 HW2 HQ2 ⊢
  have h5 : Bl p (prc aX aY { t with pc := t.pc + 1 }) w2.drew ∧ Bl W [.int .i64 (C.p : Int), .int .i64 (C.c : Int), .int .i64 C.n, .int .i64 C.b, .int .i64 C.r, .int .i64 (C.f : Int), .int .i64 (C.g : Int), .pointer (some ⟨M, 0, none⟩), .pointer (some ⟨Ck, 0, none⟩), lv] w2.drew := ⟨HP2.out, HW2.out.blk⟩
  have HB2 := Lib.hid (show Below w2.heap.size w2 w2.drew from (Below.refl _ _).drew)
  refine wp_region_held_drew (S := fun w' => Bl p (prc aX aY { t with pc := t.pc + 1 }) w' ∧ Bl W [.int .i64 (C.p : Int), .int .i64 (C.c : Int), .int .i64 C.n, .int .i64 C.b, .int .i64 C.r, .int .i64 (C.f : Int), .int .i64 (C.g : Int), .pointer (some ⟨M, 0, none⟩), .pointer (some ⟨Ck, 0, none⟩), lv] w') (by kernel_rfl) h5 (fun hHeld => ?_)
  clear h5
  generalize w2.drew = WD at hHeld HB2 ⊢
  refine tk (i := 0) (d := some 24) (v := ?_) (hy := Or.inl ⟨by rfl, ?_⟩) (h := ?_)
  rotate_left
  · intro wq hSw
    go_simp
    try with_reducible rfl
  simp only [Act.put, tkA, tkB, tkC]
  refine tk (i := 1) (d := some 25) (v := ?_) (hy := Or.inl ⟨by rfl, ?_⟩) (h := ?_)
  rotate_left
  · intro wq hSw
    go_simp
    try with_reducible rfl
  simp only [Act.put, tkA, tkB, tkC]
  refine tk (i := 2) (d := some 26) (v := ?_) (hy := Or.inl ⟨by rfl, ?_⟩) (h := ?_)
  rotate_left
  · intro wq hSw
    go_simp
    try with_reducible rfl
  simp only [Act.put, tkA, tkB, tkC]
  refine tk (i := 3) (d := some 27) (v := ?_) (hy := Or.inl ⟨by rfl, ?_⟩) (h := ?_)
  rotate_left
  · intro wq hSw
    have hb9 := hSw.2
    have l7 := hb9.lt
    have z0 := hb9.cell 0 _ rfl
    have z1 := hb9.cell 1 _ rfl
    have z2 := hb9.cell 2 _ rfl
    have z3 := hb9.cell 3 _ rfl
    have z4 := hb9.cell 4 _ rfl
    have z5 := hb9.cell 5 _ rfl
    have z6 := hb9.cell 6 _ rfl
    go_simp
    try with_reducible rfl
  simp only [Act.put, tkA, tkB, tkC]
  refine tk (i := 4) (d := some 28) (v := ?_) (hy := Or.inl ⟨by rfl, ?_⟩) (h := ?_)
  rotate_left
  · intro wq hSw
    go_simp
    try with_reducible rfl
  simp only [Act.put, tkA, tkB, tkC]
  refine tk (i := 5) (d := some 29) (v := ?_) (hy := Or.inl ⟨by rfl, ?_⟩) (h := ?_)
  rotate_left
  · intro wq hSw
    go_simp
    try with_reducible rfl
  simp only [Act.put, tkA, tkB, tkC]
  refine tk (i := 6) (d := some 30) (v := ?_) (hy := Or.inl ⟨by rfl, ?_⟩) (h := ?_)
  rotate_left
  · intro wq hSw
    go_simp
    try with_reducible rfl
  simp only [Act.put, tkA, tkB, tkC]
  refine tk (i := 7) (d := some 31) (v := ?_) (hy := Or.inl ⟨by rfl, ?_⟩) (h := ?_)
  rotate_left
  · intro wq hSw
    go_simp
    try with_reducible rfl
  simp only [Act.put, tkA, tkB, tkC]
  refine tk (i := 8) (d := some 32) (v := ?_) (hy := Or.inl ⟨by rfl, ?_⟩) (h := ?_)
  rotate_left
  · intro wq hSw
    have hb9 := hSw.1
    have l7 := hb9.lt
    have z1 := hb9.cell 1 _ rfl
    go_simp
    try with_reducible rfl
  simp only [Act.put, tkA, tkB, tkC]
  refine tk (i := 10) (d := some 34) (v := ?_) (hy := Or.inl ⟨by rfl, ?_⟩) (h := ?_)
  rotate_left
  · intro wq hSw
    go_simp
    try with_reducible rfl
  simp only [Act.put, tkA, tkB, tkC]
  refine tk (i := 11) (d := some 35) (v := ?_) (hy := Or.inl ⟨by rfl, ?_⟩) (h := ?_)
  rotate_left
  · intro wq hSw
    go_simp
    try with_reducible rfl
  simp only [Act.put, tkA, tkB, tkC]
  refine tk (i := 12) (d := some 36) (v := ?_) (hy := Or.inl ⟨by rfl, ?_⟩) (h := ?_)
  rotate_left
  · intro wq hSw
    go_simp
    try with_reducible rfl
  simp only [Act.put, tkA, tkB, tkC]
  refine tk (i := 13) (d := some 37) (v := ?_) (hy := Or.inl ⟨by rfl, ?_⟩) (h := ?_)
  rotate_left
  · intro wq hSw
    have hb9 := hSw.2
    have l7 := hb9.lt
    have z0 := hb9.cell 0 _ rfl
    have z1 := hb9.cell 1 _ rfl
    have z2 := hb9.cell 2 _ rfl
    have z3 := hb9.cell 3 _ rfl
    have z4 := hb9.cell 4 _ rfl
    have z5 := hb9.cell 5 _ rfl
    have z6 := hb9.cell 6 _ rfl
    go_simp
    try with_reducible rfl
  simp only [Act.put, tkA, tkB, tkC]
  refine tk (i := 14) (d := some 38) (v := ?_) (hy := Or.inl ⟨by rfl, ?_⟩) (h := ?_)
  rotate_left
  · intro wq hSw
    go_simp
    try with_reducible rfl
  simp only [Act.put, tkA, tkB, tkC]
  refine tk (i := 15) (d := some 39) (v := ?_) (hy := Or.inl ⟨by rfl, ?_⟩) (h := ?_)
  rotate_left
  · intro wq hSw
    go_simp
    try with_reducible rfl
  simp only [Act.put, tkA, tkB, tkC]
  refine tk (i := 16) (d := some 40) (v := ?_) (hy := Or.inl ⟨by rfl, ?_⟩) (h := ?_)
  rotate_left
  · intro wq hSw
    go_simp
    try with_reducible rfl
  simp only [Act.put, tkA, tkB, tkC]
  refine tk (i := 17) (d := some 41) (v := ?_) (hy := Or.inl ⟨by rfl, ?_⟩) (h := ?_)
  rotate_left
  · intro wq hSw
    go_simp
    try with_reducible rfl
  simp only [Act.put, tkA, tkB, tkC]
  refine tk (i := 18) (d := some 42) (v := ?_) (hy := Or.inl ⟨by rfl, ?_⟩) (h := ?_)
  rotate_left
  · intro wq hSw
    have hb9 := hSw.1
    have l7 := hb9.lt
    have z3 := hb9.cell 3 _ rfl
    go_simp
    try with_reducible rfl
  simp only [Act.put, tkA, tkB, tkC]
  refine wpAnyH_ready (rs := [9]) (by as_aux_lemma => kernel_rfl) (by simp) ?_
  refine AllReadyH.cons rfl (fun K hK => ?_) AllReadyH.nil
  go_simp
  refine (HOX.out WD).mono ?_
  rintro e WE ⟨rfl, hby⟩
  have HB3 := Lib.hid (Below.step HB2.out hby)
  refine hK.out _ _ ⟨hHeld.1.below hby, hHeld.2.below hby⟩ (fun hHeld => ?_)
  clear hK K hby HB2
  have HB2 := HB3
  clear HB3
  try simp only [Act.put, tkA, tkB, tkC]
  refine wpAnyH_ready (rs := [19]) (by as_aux_lemma => kernel_rfl) (by simp) ?_
  refine AllReadyH.cons rfl (fun K hK => ?_) AllReadyH.nil
  go_simp
  refine (HOY.out WE).mono ?_
  rintro e w3 ⟨rfl, hby⟩
  have HB3 := Lib.hid (Below.step HB2.out hby)
  refine hK.out _ _ ⟨hHeld.1.below hby, hHeld.2.below hby⟩ (fun hHeld => ?_)
  clear hK K hby HB2
  have HB2 := HB3
  clear HB3
  try simp only [Act.put, tkA, tkB, tkC]
  refine tk (i := 20) (d := some 5) (v := ?_) (hy := Or.inl ⟨by rfl, ?_⟩) (h := ?_)
  rotate_left
  · intro wq hSw
    go_simp
    try with_reducible rfl
  simp only [Act.put, tkA, tkB, tkC]
  refine tk (i := 21) (d := some 6) (v := ?_) (hy := Or.inl ⟨by rfl, ?_⟩) (h := ?_)
  rotate_left
  · intro wq hSw
    go_simp
    try with_reducible rfl
  simp only [Act.put, tkA, tkB, tkC]
  refine wpAnyH_done (by as_aux_lemma => kernel_rfl) ?_ _
  have HP3 := Lib.hid hHeld.1
  have HW3 := Lib.hid (HW2.out.below HB2.out)
  have HQ3 := Lib.hid (HQ2.out.trans (Fq.of (Fm.of HB2.out)))
  clear hHeld HP2 HW2 HQ2 HB2
  go_wp2_with fail
  refine (HK.out _ HW3.out HP3.out).mono ?_
  rintro e w4 ⟨rfl, hr⟩
  have HR := Lib.hid hr
  clear hr
  go_wp2
  go_end0
  exact ⟨rfl, w3, HQ3.out, HR.out⟩
set_option maxRecDepth 100000 in
set_option maxHeartbeats 16000000 in
theorem step_tell (h : PW K C W M B Ck ws st now lv L w) (hC : C.Ok) (ha : Ap K W M B Ck p) (hp : Bl p (prc aX aY t) w) (hpc : t.pc < 14) (hr : 10 ≤ t.pc) (hx : 0 ≤ ow C.p C.c aX) (hy : 0 ≤ ow C.p C.c aY) (hn : ow C.p C.c aX ≠ ow C.p C.c aY) (R : World → World → Prop)
    (hk : ∀ W', PW K C W M B Ck ws st now lv L W' → Bl p (prc aX aY { t with pc := t.pc + 1 }) W' → Calls Try.prog 40 #[.pointer (some ⟨p, 0, none⟩), .pointer (some ⟨W, 0, none⟩), .int .i64 (t.pc : Int)] W' fun e w' => e = .returned (.tuple #[]) ∧ R W' w') :
    Calls Try.prog 10 #[.pointer (some ⟨p, 0, none⟩), .pointer (some ⟨W, 0, none⟩)] w fun e w' => e = .returned (.tuple #[]) ∧ ∃ w1, Fq M B p w w1 ∧ R w1 w' := by
  have hC1 : 1 ≤ (C.p : Int) ∧ (C.p : Int) ≤ 6 := by have := hC.hp; omega
  have hC2 : 1 ≤ (C.c : Int) ∧ (C.c : Int) ≤ 4 := by have := hC.hc; omega
  have HD := Lib.hid (fun (W' : World) (hb : Bl p (prc aX aY t) W') => done_no hb hpc)
  have HOX := Lib.hid (fun (W' : World) => owner_is (C.p : Int) (C.c : Int) C.n C.b C.r (C.f : Int) (C.g : Int) aX W' hC1 hC2)
  have HOY := Lib.hid (fun (W' : World) => owner_is (C.p : Int) (C.c : Int) C.n C.b C.r (C.f : Int) (C.g : Int) aY W' hC1 hC2)
  have HK := Lib.hid hk
  clear hk hC1 hC2 hC
  generalize ow C.p C.c aX = ox at *
  generalize ow C.p C.c aY = oy at *
  have d1 : decide (ox < 0) = false := decide_eq_false (by omega)
  have d2 : decide (oy < 0) = false := decide_eq_false (by omega)
  have d3 : (ox == oy) = false := by simpa using hn
  have d6 : decide ((t.pc : Int) < 6) = false := decide_eq_false (by omega)
  have d10 : decide ((t.pc : Int) < 10) = false := decide_eq_false (by omega)
  clear hx hy hn
  have H := Lib.hid h
  have HP := Lib.hid hp
  have HA := Lib.hid ha
  have hl := hp.lt
  have hW := h.blk.lt
  have hpc9 : (t.pc : Int) < 9223372036854775807 := by omega
  clear h hp ha
  go_enter Try.func10, Try.ntmps10
  go_wp2_with fail
  refine (HD.out _ HP.out).mono ?_
  rintro e w1 ⟨rfl, hb1⟩
  have HB1 := Lib.hid hb1
  have hp1 := HP.out.below hb1
  have HP1 := Lib.hid hp1
  have HW1 := Lib.hid (H.out.below hb1)
  have c5 := hp1.cell 5 _ rfl
  have f5 := hp1.frz 5
  have l1 := hp1.lt
  clear hb1 hp1
  go_wp2_with fail
  have HP2 := Lib.hid (show Bl p (prc aX aY { t with pc := t.pc + 1 }) (w1.setCell ⟨p, 5, none⟩ (.int .i64 ((t.pc : Int) + 1))) from HP1.out.set 5 (.int .i64 ((t.pc : Int) + 1)))
  have HW2 := Lib.hid (HW1.out.pset HA.out 5 (.int .i64 ((t.pc : Int) + 1)))
  have HQ2 := Lib.hid ((Fq.of (M := M) (B := B) (p := p) (Fm.of HB1.out)).set 5 (.int .i64 ((t.pc : Int) + 1)))
  clear c5 f5 HP1 HW1 HB1
  generalize w1.setCell ⟨p, 5, none⟩ (.int .i64 ((t.pc : Int) + 1)) = w2 at HP2 HW2 HQ2 ⊢
  have h5 : Bl p (prc aX aY { t with pc := t.pc + 1 }) w2.drew ∧ Bl W [.int .i64 (C.p : Int), .int .i64 (C.c : Int), .int .i64 C.n, .int .i64 C.b, .int .i64 C.r, .int .i64 (C.f : Int), .int .i64 (C.g : Int), .pointer (some ⟨M, 0, none⟩), .pointer (some ⟨Ck, 0, none⟩), lv] w2.drew := ⟨HP2.out, HW2.out.blk⟩
  have HB2 := Lib.hid (show Below w2.heap.size w2 w2.drew from (Below.refl _ _).drew)
  refine wp_region_held_drew (S := fun w' => Bl p (prc aX aY { t with pc := t.pc + 1 }) w' ∧ Bl W [.int .i64 (C.p : Int), .int .i64 (C.c : Int), .int .i64 C.n, .int .i64 C.b, .int .i64 C.r, .int .i64 (C.f : Int), .int .i64 (C.g : Int), .pointer (some ⟨M, 0, none⟩), .pointer (some ⟨Ck, 0, none⟩), lv] w') (by kernel_rfl) h5 (fun hHeld => ?_)
  clear h5
  generalize w2.drew = WD at hHeld HB2 ⊢
  refine tk (i := 0) (d := some 24) (v := ?_) (hy := Or.inl ⟨by rfl, ?_⟩) (h := ?_)
  rotate_left
  · intro wq hSw
    go_simp
    try with_reducible rfl
  simp only [Act.put, tkA, tkB, tkC]
  refine tk (i := 1) (d := some 25) (v := ?_) (hy := Or.inl ⟨by rfl, ?_⟩) (h := ?_)
  rotate_left
  · intro wq hSw
    go_simp
    try with_reducible rfl
  simp only [Act.put, tkA, tkB, tkC]
  refine tk (i := 2) (d := some 26) (v := ?_) (hy := Or.inl ⟨by rfl, ?_⟩) (h := ?_)
  rotate_left
  · intro wq hSw
    go_simp
    try with_reducible rfl
  simp only [Act.put, tkA, tkB, tkC]
  refine tk (i := 3) (d := some 27) (v := ?_) (hy := Or.inl ⟨by rfl, ?_⟩) (h := ?_)
  rotate_left
  · intro wq hSw
    have hb9 := hSw.2
    have l7 := hb9.lt
    have z0 := hb9.cell 0 _ rfl
    have z1 := hb9.cell 1 _ rfl
    have z2 := hb9.cell 2 _ rfl
    have z3 := hb9.cell 3 _ rfl
    have z4 := hb9.cell 4 _ rfl
    have z5 := hb9.cell 5 _ rfl
    have z6 := hb9.cell 6 _ rfl
    go_simp
    try with_reducible rfl
  simp only [Act.put, tkA, tkB, tkC]
  refine tk (i := 4) (d := some 28) (v := ?_) (hy := Or.inl ⟨by rfl, ?_⟩) (h := ?_)
  rotate_left
  · intro wq hSw
    go_simp
    try with_reducible rfl
  simp only [Act.put, tkA, tkB, tkC]
  refine tk (i := 5) (d := some 29) (v := ?_) (hy := Or.inl ⟨by rfl, ?_⟩) (h := ?_)
  rotate_left
  · intro wq hSw
    go_simp
    try with_reducible rfl
  simp only [Act.put, tkA, tkB, tkC]
  refine tk (i := 6) (d := some 30) (v := ?_) (hy := Or.inl ⟨by rfl, ?_⟩) (h := ?_)
  rotate_left
  · intro wq hSw
    go_simp
    try with_reducible rfl
  simp only [Act.put, tkA, tkB, tkC]
  refine tk (i := 7) (d := some 31) (v := ?_) (hy := Or.inl ⟨by rfl, ?_⟩) (h := ?_)
  rotate_left
  · intro wq hSw
    go_simp
    try with_reducible rfl
  simp only [Act.put, tkA, tkB, tkC]
  refine tk (i := 8) (d := some 32) (v := ?_) (hy := Or.inl ⟨by rfl, ?_⟩) (h := ?_)
  rotate_left
  · intro wq hSw
    have hb9 := hSw.1
    have l7 := hb9.lt
    have z1 := hb9.cell 1 _ rfl
    go_simp
    try with_reducible rfl
  simp only [Act.put, tkA, tkB, tkC]
  refine tk (i := 10) (d := some 34) (v := ?_) (hy := Or.inl ⟨by rfl, ?_⟩) (h := ?_)
  rotate_left
  · intro wq hSw
    go_simp
    try with_reducible rfl
  simp only [Act.put, tkA, tkB, tkC]
  refine tk (i := 11) (d := some 35) (v := ?_) (hy := Or.inl ⟨by rfl, ?_⟩) (h := ?_)
  rotate_left
  · intro wq hSw
    go_simp
    try with_reducible rfl
  simp only [Act.put, tkA, tkB, tkC]
  refine tk (i := 12) (d := some 36) (v := ?_) (hy := Or.inl ⟨by rfl, ?_⟩) (h := ?_)
  rotate_left
  · intro wq hSw
    go_simp
    try with_reducible rfl
  simp only [Act.put, tkA, tkB, tkC]
  refine tk (i := 13) (d := some 37) (v := ?_) (hy := Or.inl ⟨by rfl, ?_⟩) (h := ?_)
  rotate_left
  · intro wq hSw
    have hb9 := hSw.2
    have l7 := hb9.lt
    have z0 := hb9.cell 0 _ rfl
    have z1 := hb9.cell 1 _ rfl
    have z2 := hb9.cell 2 _ rfl
    have z3 := hb9.cell 3 _ rfl
    have z4 := hb9.cell 4 _ rfl
    have z5 := hb9.cell 5 _ rfl
    have z6 := hb9.cell 6 _ rfl
    go_simp
    try with_reducible rfl
  simp only [Act.put, tkA, tkB, tkC]
  refine tk (i := 14) (d := some 38) (v := ?_) (hy := Or.inl ⟨by rfl, ?_⟩) (h := ?_)
  rotate_left
  · intro wq hSw
    go_simp
    try with_reducible rfl
  simp only [Act.put, tkA, tkB, tkC]
  refine tk (i := 15) (d := some 39) (v := ?_) (hy := Or.inl ⟨by rfl, ?_⟩) (h := ?_)
  rotate_left
  · intro wq hSw
    go_simp
    try with_reducible rfl
  simp only [Act.put, tkA, tkB, tkC]
  refine tk (i := 16) (d := some 40) (v := ?_) (hy := Or.inl ⟨by rfl, ?_⟩) (h := ?_)
  rotate_left
  · intro wq hSw
    go_simp
    try with_reducible rfl
  simp only [Act.put, tkA, tkB, tkC]
  refine tk (i := 17) (d := some 41) (v := ?_) (hy := Or.inl ⟨by rfl, ?_⟩) (h := ?_)
  rotate_left
  · intro wq hSw
    go_simp
    try with_reducible rfl
  simp only [Act.put, tkA, tkB, tkC]
  refine tk (i := 18) (d := some 42) (v := ?_) (hy := Or.inl ⟨by rfl, ?_⟩) (h := ?_)
  rotate_left
  · intro wq hSw
    have hb9 := hSw.1
    have l7 := hb9.lt
    have z3 := hb9.cell 3 _ rfl
    go_simp
    try with_reducible rfl
  simp only [Act.put, tkA, tkB, tkC]
  refine wpAnyH_ready (rs := [9]) (by as_aux_lemma => kernel_rfl) (by simp) ?_
  refine AllReadyH.cons rfl (fun K hK => ?_) AllReadyH.nil
  go_simp
  refine (HOX.out WD).mono ?_
  rintro e WE ⟨rfl, hby⟩
  have HB3 := Lib.hid (Below.step HB2.out hby)
  refine hK.out _ _ ⟨hHeld.1.below hby, hHeld.2.below hby⟩ (fun hHeld => ?_)
  clear hK K hby HB2
  have HB2 := HB3
  clear HB3
  try simp only [Act.put, tkA, tkB, tkC]
  refine wpAnyH_ready (rs := [19]) (by as_aux_lemma => kernel_rfl) (by simp) ?_
  refine AllReadyH.cons rfl (fun K hK => ?_) AllReadyH.nil
  go_simp
  refine (HOY.out WE).mono ?_
  rintro e w3 ⟨rfl, hby⟩
  have HB3 := Lib.hid (Below.step HB2.out hby)
  refine hK.out _ _ ⟨hHeld.1.below hby, hHeld.2.below hby⟩ (fun hHeld => ?_)
  clear hK K hby HB2
  have HB2 := HB3
  clear HB3
  try simp only [Act.put, tkA, tkB, tkC]
  refine tk (i := 20) (d := some 5) (v := ?_) (hy := Or.inl ⟨by rfl, ?_⟩) (h := ?_)
  rotate_left
  · intro wq hSw
    go_simp
    try with_reducible rfl
  simp only [Act.put, tkA, tkB, tkC]
  refine tk (i := 21) (d := some 6) (v := ?_) (hy := Or.inl ⟨by rfl, ?_⟩) (h := ?_)
  rotate_left
  · intro wq hSw
    go_simp
    try with_reducible rfl
  simp only [Act.put, tkA, tkB, tkC]
  refine wpAnyH_done (by as_aux_lemma => kernel_rfl) ?_ _
  have HP3 := Lib.hid hHeld.1
  have HW3 := Lib.hid (HW2.out.below HB2.out)
  have HQ3 := Lib.hid (HQ2.out.trans (Fq.of (Fm.of HB2.out)))
  clear hHeld HP2 HW2 HQ2 HB2
  go_wp2_with fail
  refine (HK.out _ HW3.out HP3.out).mono ?_
  rintro e w4 ⟨rfl, hr⟩
  have HR := Lib.hid hr
  clear hr
  go_wp2
  go_end0
  exact ⟨rfl, w3, HQ3.out, HR.out⟩
set_option maxRecDepth 100000 in
set_option maxHeartbeats 16000000 in
theorem step_off (h : PW K C W M B Ck ws st now lv L w) (hC : C.Ok) (ha : Ap K W M B Ck p) (hp : Bl p (prc aX aY t) w) (hpc : t.pc < 14) (hx : ow C.p C.c aX < 0 ∨ ow C.p C.c aY < 0 ∨ ow C.p C.c aX = ow C.p C.c aY) :
    Calls Try.prog 10 #[.pointer (some ⟨p, 0, none⟩), .pointer (some ⟨W, 0, none⟩)] w fun e w' => e = .returned (.tuple #[]) ∧ PW K C W M B Ck ws st now lv L w' ∧ Bl p (prc aX aY { t with pc := t.pc + 1 }) w' ∧ Fq M B p w w' := by
  have hC1 : 1 ≤ (C.p : Int) ∧ (C.p : Int) ≤ 6 := by have := hC.hp; omega
  have hC2 : 1 ≤ (C.c : Int) ∧ (C.c : Int) ≤ 4 := by have := hC.hc; omega
  have HD := Lib.hid (fun (W' : World) (hb : Bl p (prc aX aY t) W') => done_no hb hpc)
  have HOX := Lib.hid (fun (W' : World) => owner_is (C.p : Int) (C.c : Int) C.n C.b C.r (C.f : Int) (C.g : Int) aX W' hC1 hC2)
  have HOY := Lib.hid (fun (W' : World) => owner_is (C.p : Int) (C.c : Int) C.n C.b C.r (C.f : Int) (C.g : Int) aY W' hC1 hC2)
  clear hC1 hC2 hC
  generalize ow C.p C.c aX = ox at *
  generalize ow C.p C.c aY = oy at *
  have HX := Lib.hid hx
  clear hx
  have H := Lib.hid h
  have HP := Lib.hid hp
  have HA := Lib.hid ha
  have hl := hp.lt
  have hW := h.blk.lt
  have hpc9 : (t.pc : Int) < 9223372036854775807 := by omega
  clear h hp ha
  go_enter Try.func10, Try.ntmps10
  go_wp2_with fail
  refine (HD.out _ HP.out).mono ?_
  rintro e w1 ⟨rfl, hb1⟩
  have HB1 := Lib.hid hb1
  have hp1 := HP.out.below hb1
  have HP1 := Lib.hid hp1
  have HW1 := Lib.hid (H.out.below hb1)
  have c5 := hp1.cell 5 _ rfl
  have f5 := hp1.frz 5
  have l1 := hp1.lt
  clear hb1 hp1
  go_wp2_with fail
  have HP2 := Lib.hid (show Bl p (prc aX aY { t with pc := t.pc + 1 }) (w1.setCell ⟨p, 5, none⟩ (.int .i64 ((t.pc : Int) + 1))) from HP1.out.set 5 (.int .i64 ((t.pc : Int) + 1)))
  have HW2 := Lib.hid (HW1.out.pset HA.out 5 (.int .i64 ((t.pc : Int) + 1)))
  have HQ2 := Lib.hid ((Fq.of (M := M) (B := B) (p := p) (Fm.of HB1.out)).set 5 (.int .i64 ((t.pc : Int) + 1)))
  clear c5 f5 HP1 HW1 HB1
  generalize w1.setCell ⟨p, 5, none⟩ (.int .i64 ((t.pc : Int) + 1)) = w2 at HP2 HW2 HQ2 ⊢
  have h5 : Bl p (prc aX aY { t with pc := t.pc + 1 }) w2.drew ∧ Bl W [.int .i64 (C.p : Int), .int .i64 (C.c : Int), .int .i64 C.n, .int .i64 C.b, .int .i64 C.r, .int .i64 (C.f : Int), .int .i64 (C.g : Int), .pointer (some ⟨M, 0, none⟩), .pointer (some ⟨Ck, 0, none⟩), lv] w2.drew := ⟨HP2.out, HW2.out.blk⟩
  have HB2 := Lib.hid (show Below w2.heap.size w2 w2.drew from (Below.refl _ _).drew)
  refine wp_region_held_drew (S := fun w' => Bl p (prc aX aY { t with pc := t.pc + 1 }) w' ∧ Bl W [.int .i64 (C.p : Int), .int .i64 (C.c : Int), .int .i64 C.n, .int .i64 C.b, .int .i64 C.r, .int .i64 (C.f : Int), .int .i64 (C.g : Int), .pointer (some ⟨M, 0, none⟩), .pointer (some ⟨Ck, 0, none⟩), lv] w') (by kernel_rfl) h5 (fun hHeld => ?_)
  clear h5
  generalize w2.drew = WD at hHeld HB2 ⊢
  refine tk (i := 0) (d := some 24) (v := ?_) (hy := Or.inl ⟨by rfl, ?_⟩) (h := ?_)
  rotate_left
  · intro wq hSw
    go_simp
    try with_reducible rfl
  simp only [Act.put, tkA, tkB, tkC]
  refine tk (i := 1) (d := some 25) (v := ?_) (hy := Or.inl ⟨by rfl, ?_⟩) (h := ?_)
  rotate_left
  · intro wq hSw
    go_simp
    try with_reducible rfl
  simp only [Act.put, tkA, tkB, tkC]
  refine tk (i := 2) (d := some 26) (v := ?_) (hy := Or.inl ⟨by rfl, ?_⟩) (h := ?_)
  rotate_left
  · intro wq hSw
    go_simp
    try with_reducible rfl
  simp only [Act.put, tkA, tkB, tkC]
  refine tk (i := 3) (d := some 27) (v := ?_) (hy := Or.inl ⟨by rfl, ?_⟩) (h := ?_)
  rotate_left
  · intro wq hSw
    have hb9 := hSw.2
    have l7 := hb9.lt
    have z0 := hb9.cell 0 _ rfl
    have z1 := hb9.cell 1 _ rfl
    have z2 := hb9.cell 2 _ rfl
    have z3 := hb9.cell 3 _ rfl
    have z4 := hb9.cell 4 _ rfl
    have z5 := hb9.cell 5 _ rfl
    have z6 := hb9.cell 6 _ rfl
    go_simp
    try with_reducible rfl
  simp only [Act.put, tkA, tkB, tkC]
  refine tk (i := 4) (d := some 28) (v := ?_) (hy := Or.inl ⟨by rfl, ?_⟩) (h := ?_)
  rotate_left
  · intro wq hSw
    go_simp
    try with_reducible rfl
  simp only [Act.put, tkA, tkB, tkC]
  refine tk (i := 5) (d := some 29) (v := ?_) (hy := Or.inl ⟨by rfl, ?_⟩) (h := ?_)
  rotate_left
  · intro wq hSw
    go_simp
    try with_reducible rfl
  simp only [Act.put, tkA, tkB, tkC]
  refine tk (i := 6) (d := some 30) (v := ?_) (hy := Or.inl ⟨by rfl, ?_⟩) (h := ?_)
  rotate_left
  · intro wq hSw
    go_simp
    try with_reducible rfl
  simp only [Act.put, tkA, tkB, tkC]
  refine tk (i := 7) (d := some 31) (v := ?_) (hy := Or.inl ⟨by rfl, ?_⟩) (h := ?_)
  rotate_left
  · intro wq hSw
    go_simp
    try with_reducible rfl
  simp only [Act.put, tkA, tkB, tkC]
  refine tk (i := 8) (d := some 32) (v := ?_) (hy := Or.inl ⟨by rfl, ?_⟩) (h := ?_)
  rotate_left
  · intro wq hSw
    have hb9 := hSw.1
    have l7 := hb9.lt
    have z1 := hb9.cell 1 _ rfl
    go_simp
    try with_reducible rfl
  simp only [Act.put, tkA, tkB, tkC]
  refine tk (i := 10) (d := some 34) (v := ?_) (hy := Or.inl ⟨by rfl, ?_⟩) (h := ?_)
  rotate_left
  · intro wq hSw
    go_simp
    try with_reducible rfl
  simp only [Act.put, tkA, tkB, tkC]
  refine tk (i := 11) (d := some 35) (v := ?_) (hy := Or.inl ⟨by rfl, ?_⟩) (h := ?_)
  rotate_left
  · intro wq hSw
    go_simp
    try with_reducible rfl
  simp only [Act.put, tkA, tkB, tkC]
  refine tk (i := 12) (d := some 36) (v := ?_) (hy := Or.inl ⟨by rfl, ?_⟩) (h := ?_)
  rotate_left
  · intro wq hSw
    go_simp
    try with_reducible rfl
  simp only [Act.put, tkA, tkB, tkC]
  refine tk (i := 13) (d := some 37) (v := ?_) (hy := Or.inl ⟨by rfl, ?_⟩) (h := ?_)
  rotate_left
  · intro wq hSw
    have hb9 := hSw.2
    have l7 := hb9.lt
    have z0 := hb9.cell 0 _ rfl
    have z1 := hb9.cell 1 _ rfl
    have z2 := hb9.cell 2 _ rfl
    have z3 := hb9.cell 3 _ rfl
    have z4 := hb9.cell 4 _ rfl
    have z5 := hb9.cell 5 _ rfl
    have z6 := hb9.cell 6 _ rfl
    go_simp
    try with_reducible rfl
  simp only [Act.put, tkA, tkB, tkC]
  refine tk (i := 14) (d := some 38) (v := ?_) (hy := Or.inl ⟨by rfl, ?_⟩) (h := ?_)
  rotate_left
  · intro wq hSw
    go_simp
    try with_reducible rfl
  simp only [Act.put, tkA, tkB, tkC]
  refine tk (i := 15) (d := some 39) (v := ?_) (hy := Or.inl ⟨by rfl, ?_⟩) (h := ?_)
  rotate_left
  · intro wq hSw
    go_simp
    try with_reducible rfl
  simp only [Act.put, tkA, tkB, tkC]
  refine tk (i := 16) (d := some 40) (v := ?_) (hy := Or.inl ⟨by rfl, ?_⟩) (h := ?_)
  rotate_left
  · intro wq hSw
    go_simp
    try with_reducible rfl
  simp only [Act.put, tkA, tkB, tkC]
  refine tk (i := 17) (d := some 41) (v := ?_) (hy := Or.inl ⟨by rfl, ?_⟩) (h := ?_)
  rotate_left
  · intro wq hSw
    go_simp
    try with_reducible rfl
  simp only [Act.put, tkA, tkB, tkC]
  refine tk (i := 18) (d := some 42) (v := ?_) (hy := Or.inl ⟨by rfl, ?_⟩) (h := ?_)
  rotate_left
  · intro wq hSw
    have hb9 := hSw.1
    have l7 := hb9.lt
    have z3 := hb9.cell 3 _ rfl
    go_simp
    try with_reducible rfl
  simp only [Act.put, tkA, tkB, tkC]
  refine wpAnyH_ready (rs := [9]) (by as_aux_lemma => kernel_rfl) (by simp) ?_
  refine AllReadyH.cons rfl (fun K hK => ?_) AllReadyH.nil
  go_simp
  refine (HOX.out WD).mono ?_
  rintro e WE ⟨rfl, hby⟩
  have HB3 := Lib.hid (Below.step HB2.out hby)
  refine hK.out _ _ ⟨hHeld.1.below hby, hHeld.2.below hby⟩ (fun hHeld => ?_)
  clear hK K hby HB2
  have HB2 := HB3
  clear HB3
  try simp only [Act.put, tkA, tkB, tkC]
  refine wpAnyH_ready (rs := [19]) (by as_aux_lemma => kernel_rfl) (by simp) ?_
  refine AllReadyH.cons rfl (fun K hK => ?_) AllReadyH.nil
  go_simp
  refine (HOY.out WE).mono ?_
  rintro e w3 ⟨rfl, hby⟩
  have HB3 := Lib.hid (Below.step HB2.out hby)
  refine hK.out _ _ ⟨hHeld.1.below hby, hHeld.2.below hby⟩ (fun hHeld => ?_)
  clear hK K hby HB2
  have HB2 := HB3
  clear HB3
  try simp only [Act.put, tkA, tkB, tkC]
  refine tk (i := 20) (d := some 5) (v := ?_) (hy := Or.inl ⟨by rfl, ?_⟩) (h := ?_)
  rotate_left
  · intro wq hSw
    go_simp
    try with_reducible rfl
  simp only [Act.put, tkA, tkB, tkC]
  refine tk (i := 21) (d := some 6) (v := ?_) (hy := Or.inl ⟨by rfl, ?_⟩) (h := ?_)
  rotate_left
  · intro wq hSw
    go_simp
    try with_reducible rfl
  simp only [Act.put, tkA, tkB, tkC]
  refine wpAnyH_done (by as_aux_lemma => kernel_rfl) ?_ _
  have HP3 := Lib.hid hHeld.1
  have HW3 := Lib.hid (HW2.out.below HB2.out)
  have HQ3 := Lib.hid (HQ2.out.trans (Fq.of (Fm.of HB2.out)))
  clear hHeld HP2 HW2 HQ2 HB2
  by_cases h1 : ox < 0
  · have d1 : decide (ox < 0) = true := decide_eq_true h1
    clear h1
    go_wp2
    refine bodyPost_ret (results_none rfl _ _ _) rfl ?_
    exact ⟨rfl, HW3.out, HP3.out, HQ3.out⟩
  · have d1 : decide (ox < 0) = false := decide_eq_false h1
    by_cases h2 : oy < 0
    · have d2 : decide (oy < 0) = true := decide_eq_true h2
      clear h1 h2
      go_wp2
      refine bodyPost_ret (results_none rfl _ _ _) rfl ?_
      exact ⟨rfl, HW3.out, HP3.out, HQ3.out⟩
    · have d2 : decide (oy < 0) = false := decide_eq_false h2
      have d3 : (ox == oy) = true := by
        rcases HX.out with h | h | h
        · exact absurd h h1
        · exact absurd h h2
        · simpa using h
      clear h1 h2
      go_wp2
      refine bodyPost_ret (results_none rfl _ _ _) rfl ?_
      exact ⟨rfl, HW3.out, HP3.out, HQ3.out⟩
set_option maxRecDepth 100000 in
set_option maxHeartbeats 16000000 in
theorem step_done (hp : Bl p (prc aX aY t) w) (hpc : 14 ≤ t.pc) (v : Value) :
    Calls Try.prog 10 #[.pointer (some ⟨p, 0, none⟩), v] w fun e w' => e = .returned (.tuple #[]) ∧ Below w.heap.size w w' := by
  have HD := Lib.hid (fun (W' : World) (hb : Bl p (prc aX aY t) W') => done_yes hb hpc)
  have HP := Lib.hid hp
  clear hp
  go_enter Try.func10, Try.ntmps10
  go_wp2_with fail
  refine (HD.out _ HP.out).mono ?_
  rintro e w1 ⟨rfl, hb1⟩
  have HB1 := Lib.hid hb1
  clear hb1
  go_wp2
  refine bodyPost_ret (results_none rfl _ _ _) rfl ?_
  exact ⟨rfl, HB1.out⟩
end
end Go.Proofs.Ytmjkhefgpobinaa
namespace Go.Proofs.Ytmjkhefgpobinaa
open Go.ChangeShapes Go.WideShapes Go.ChangeAt Go.RowKit
/-- A try that begins. -/
def tr0 (way : Int) (x : Nat) (gen : Int) (y : Nat) (sh : Int) (ok : Bool) : Tr Tm5 := ⟨way, x, gen, y, sh, ok, 0, ⟨0, false, 0, 0, 0⟩, ⟨0, false, 0, 0, 0⟩, ⟨0, 0, 0, 0, 0⟩, ⟨0, 0, 0, 0, 0⟩, false, false, false, 0, 0, 0, ⟨0, false, 0, 0, 0⟩, ⟨0, false, 0, 0, 0⟩, ⟨0, false, 0, 0, 0⟩, 0⟩
set_option maxRecDepth 100000 in
set_option maxHeartbeats 4000000 in
theorem begin_is (way aX gen aY sh : Int) (x y : Nat) (ok : Bool) (w : World) : Calls Try.prog 9 #[.agg #[.int .i64 way, .int .i64 aX, .int .i64 gen, .int .i64 aY, .int .i64 sh]] w fun e w' => ∃ p, e = .returned (.pointer (some ⟨p, 0, none⟩)) ∧ w.heap.size ≤ p ∧ Bl p (prc aX aY (tr0 way x gen y sh ok)) w' ∧ Below w.heap.size w w' := by
  go_enter Try.func9, Try.ntmps9
  go_wp2
  go_ret
  refine ⟨w.heap.size + 1, rfl, by omega, ?_, by go_grown⟩
  have hb := Bl.new (w.alloc (.cells #[.int .i64 way, .int .i64 aX, .int .i64 gen, .int .i64 aY, .int .i64 sh] 39)) (prc aX aY (tr0 way x gen y sh ok)) 109
  rw [World.size_alloc] at hb
  unfold prc tr0 at hb ⊢
  simp only [cw_zero] at hb ⊢
  exact hb
end Go.Proofs.Ytmjkhefgpobinaa
