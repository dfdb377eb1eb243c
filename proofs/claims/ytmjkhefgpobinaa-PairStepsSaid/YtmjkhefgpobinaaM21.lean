/-
  Texts of the machine of pairs, part 21.
-/
import Derived.Test.YtmjkhefgpobinaaM1
import Derived.Test.YtmjkhefgpobinaaM20
namespace Go.Proofs.Ytmjkhefgpobinaa
open Go.ChangeShapes Go.WideShapes Go.ChangeAt Go.RowKit
section
variable {K : Nat} {C : Cfg} {W M B Ck p : Nat} {ws ws' : Nat → Int} {st st' now : Int} {lv : Value} {L : List Lg} {w w' : World} {aX aY : Int} {t : Tr Tm5}
set_option maxRecDepth 100000 in
set_option maxHeartbeats 16000000 in
theorem tell_10y (h : PW K C W M B Ck ws st now lv L w) (hC : C.Ok) (ha : Ap K W M B Ck p) (i : Nat) (hi : i < C.A) (hp : Bl p (prc (i : Int) aY t) w) (hm : t.made = true) (hf : FitRc ⟨1, t.q, t.p, t.tk, aY, t.sy.gen⟩) (hst : 0 ≤ st ∧ st ≤ 1000000) :
    Calls Try.prog 40 #[.pointer (some ⟨p, 0, none⟩), .pointer (some ⟨W, 0, none⟩), .int .i64 10] w fun e w' => e = .returned (.tuple #[]) ∧ PW K C W M B Ck (nws C ws i t.sx.gen t.sx.fills ⟨1, t.q, t.p, t.tk, aY, t.sy.gen⟩) (st + nst C i t.sx.gen t.sx.fills) now lv L w' ∧ Bl p (prc (i : Int) aY t) w' ∧ Fm M B w w' := by
  have H := Lib.hid h
  have HP := Lib.hid hp
  have HA := Lib.hid ha
  have hl := hp.lt
  have k29 : Hid (∀ W', Bl p (prc (i : Int) aY t) W' → W'.cell? ⟨p, 29, none⟩ = some (.bool true)) := fun W' hb => by rw [← hm]; exact hb.cell 29 _ rfl
  have HNO := Lib.hid (fun (W' : World) (hW' : PW K C W M B Ck ws st now lv L W') => note_any hW' hC i hi t.sx.gen t.sx.fills ⟨1, t.q, t.p, t.tk, aY, t.sy.gen⟩ hf hst)
  unfold rcv at HNO
  clear h hp ha hm hC hf hst
  go_enter Try.func40, Try.ntmps40
  go_wp2_with fail
  go_cut [6, 7] (fun s6 s7 wx => ∃ xb yb, s6 = .pointer (some ⟨xb, 0, none⟩) ∧ s7 = .pointer (some ⟨yb, 0, none⟩) ∧ Hid (Below w.heap.size w wx) ∧ Hid (w.heap.size ≤ xb) ∧ Hid (w.heap.size ≤ yb) ∧ Hid (xb ≠ yb) ∧ Hid (Bl xb [.int .i64 t.sx.kind, .bool t.sx.flag, .int .i64 t.sx.gen, .int .i64 t.sx.left, .int .i64 t.sx.fills] wx) ∧ Hid (Bl yb [.int .i64 t.sy.kind, .bool t.sy.flag, .int .i64 t.sy.gen, .int .i64 t.sy.left, .int .i64 t.sy.fills] wx))
  case first =>
    refine wp_region_held_drew (S := fun w' => Below w.heap.size w w') (by kernel_rfl) ((Below.refl _ _).drew) (fun hHeld => ?_)
    generalize w.drew = WD at hHeld ⊢
    refine tk (i := 0) (d := some 13) (v := ?_) (hy := Or.inl ⟨by rfl, ?_⟩) (h := ?_)
    rotate_left
    · intro wq hSw
      go_simp
      try with_reducible rfl
    simp only [Act.put, tkA, tkB, tkC]
    refine tk (i := 1) (d := some 14) (v := ?_) (hy := Or.inl ⟨by rfl, ?_⟩) (h := ?_)
    rotate_left
    · intro wq hSw
      go_simp
      try with_reducible rfl
    simp only [Act.put, tkA, tkB, tkC]
    refine tk (i := 2) (d := some 15) (v := ?_) (hy := Or.inl ⟨by rfl, ?_⟩) (h := ?_)
    rotate_left
    · intro wq hSw
      go_simp
      try with_reducible rfl
    simp only [Act.put, tkA, tkB, tkC]
    refine tk (i := 3) (d := some 16) (v := ?_) (hy := Or.inl ⟨by rfl, ?_⟩) (h := ?_)
    rotate_left
    · intro wq hSw
      go_simp
      try with_reducible rfl
    simp only [Act.put, tkA, tkB, tkC]
    refine tk (i := 4) (d := some 17) (v := ?_) (hy := Or.inl ⟨by rfl, ?_⟩) (h := ?_)
    rotate_left
    · intro wq hSw
      have hp9 := HP.out.below hSw
      have l9 := hp9.lt
      have x7 := hp9.cell 7 _ rfl
      have x8 := hp9.cell 8 _ rfl
      have x9 := hp9.cell 9 _ rfl
      have x10 := hp9.cell 10 _ rfl
      have x11 := hp9.cell 11 _ rfl
      go_simp
      try with_reducible rfl
    simp only [Act.put, tkA, tkB, tkC]
    refine tk (i := 5) (d := some 18) (v := ?_) (hy := Or.inl ⟨by rfl, ?_⟩) (h := ?_)
    rotate_left
    · intro wq hSw
      go_simp
      try with_reducible rfl
    simp only [Act.put, tkA, tkB, tkC]
    refine tk (i := 6) (d := some 19) (v := ?_) (hy := Or.inl ⟨by rfl, ?_⟩) (h := ?_)
    rotate_left
    · intro wq hSw
      go_simp
      try with_reducible rfl
    simp only [Act.put, tkA, tkB, tkC]
    refine tk (i := 7) (d := some 20) (v := ?_) (hy := Or.inl ⟨by rfl, ?_⟩) (h := ?_)
    rotate_left
    · intro wq hSw
      go_simp
      try with_reducible rfl
    simp only [Act.put, tkA, tkB, tkC]
    refine tk (i := 8) (d := some 21) (v := ?_) (hy := Or.inl ⟨by rfl, ?_⟩) (h := ?_)
    rotate_left
    · intro wq hSw
      go_simp
      try with_reducible rfl
    simp only [Act.put, tkA, tkB, tkC]
    refine tk (i := 9) (d := some 22) (v := ?_) (hy := Or.inl ⟨by rfl, ?_⟩) (h := ?_)
    rotate_left
    · intro wq hSw
      have hp9 := HP.out.below hSw
      have l9 := hp9.lt
      have x18 := hp9.cell 18 _ rfl
      have x19 := hp9.cell 19 _ rfl
      have x20 := hp9.cell 20 _ rfl
      have x21 := hp9.cell 21 _ rfl
      have x22 := hp9.cell 22 _ rfl
      go_simp
      try with_reducible rfl
    simp only [Act.put, tkA, tkB, tkC]
    refine wpAnyH_ready (rs := [10, 11]) (by as_aux_lemma => kernel_rfl) (by simp) ?_
    refine AllReadyH.cons rfl (fun K hK => ?_) ?_
    · go_simp
      have NX := Lib.hid hHeld.size
      have BX := Lib.hid (show Bl WD.heap.size [.int .i64 0, .bool false, .int .i64 0, .int .i64 0, .int .i64 0] (WD.alloc (Obj.cells #[.int .i64 0, .bool false, .int .i64 0, .int .i64 0, .int .i64 0] 42)) from Bl.new WD [.int .i64 0, .bool false, .int .i64 0, .int .i64 0, .int .i64 0] 42)
      refine hK.out _ _ (hHeld.alloc hHeld.size (Obj.cells #[.int .i64 0, .bool false, .int .i64 0, .int .i64 0, .int .i64 0] 42)) (fun hHeld => ?_)
      clear hK K
      try simp only [Act.put, tkA, tkB, tkC]
      generalize WD.alloc (Obj.cells #[.int .i64 0, .bool false, .int .i64 0, .int .i64 0, .int .i64 0] 42) = WE at hHeld BX  ⊢
      generalize WD.heap.size = xb at NX BX  ⊢
      have Nxb := NX
      have Bxb := BX
      clear NX BX
      refine wpAnyH_ready (rs := [11]) (by as_aux_lemma => kernel_rfl) (by simp) ?_
      refine AllReadyH.cons rfl (fun K hK => ?_) AllReadyH.nil
      go_simp
      have NX := Lib.hid hHeld.size
      have BX := Lib.hid (show Bl WE.heap.size [.int .i64 0, .bool false, .int .i64 0, .int .i64 0, .int .i64 0] (WE.alloc (Obj.cells #[.int .i64 0, .bool false, .int .i64 0, .int .i64 0, .int .i64 0] 42)) from Bl.new WE [.int .i64 0, .bool false, .int .i64 0, .int .i64 0, .int .i64 0] 42)
      have B2xb := Lib.hid ((show Bl xb [.int .i64 0, .bool false, .int .i64 0, .int .i64 0, .int .i64 0] WE from Bxb.out).below (w' := WE.alloc (Obj.cells #[.int .i64 0, .bool false, .int .i64 0, .int .i64 0, .int .i64 0] 42)) (by go_grown))
      have NExb := Lib.hid (show WE.heap.size ≠ xb from fun e => by have := Bxb.out.lt; omega)
      refine hK.out _ _ (hHeld.alloc hHeld.size (Obj.cells #[.int .i64 0, .bool false, .int .i64 0, .int .i64 0, .int .i64 0] 42)) (fun hHeld => ?_)
      clear hK K Bxb
      try simp only [Act.put, tkA, tkB, tkC]
      generalize WE.alloc (Obj.cells #[.int .i64 0, .bool false, .int .i64 0, .int .i64 0, .int .i64 0] 42) = WF at hHeld BX B2xb ⊢
      generalize WE.heap.size = yb at NX BX NExb ⊢
      have Nyb := NX
      have Byb := BX
      clear NX BX
      have Bxb := B2xb
      have NEybxb := NExb
      clear B2xb NExb
      have NXY := Lib.hid (Ne.symm NEybxb.out)
      refine wpAnyH_ready (rs := [12]) (by as_aux_lemma => kernel_rfl) (by simp) ?_
      refine AllReadyH.cons rfl (fun K hK => ?_) AllReadyH.nil
      refine wp_store_bl 42 (.tmp 6) (.tmp 17) rfl xb [.int .i64 0, .bool false, .int .i64 0, .int .i64 0, .int .i64 0] [.int .i64 t.sx.kind, .bool t.sx.flag, .int .i64 t.sx.gen, .int .i64 t.sx.left, .int .i64 t.sx.fills] rfl rfl Bxb.out rfl (by kernel_rfl) rfl (fun WG hb8 hk8 hs8 hbel8 => ?_)
      have B2yb := Lib.hid (show Bl yb [.int .i64 0, .bool false, .int .i64 0, .int .i64 0, .int .i64 0] WG from (show Bl yb [.int .i64 0, .bool false, .int .i64 0, .int .i64 0, .int .i64 0] WF from Byb.out).elim fun tt htt => ⟨tt, (hk8 yb (Ne.symm NXY.out) (Byb.out.lt)).trans htt⟩)
      refine hK.out _ _ (hbel8 _ _ Nxb.out hHeld) (fun hHeld => ?_)
      have B2xb := Lib.hid hb8
      clear hK K hb8 hk8 hs8 hbel8 Bxb Byb
      try simp only [Act.put, tkA, tkB, tkC]
      have Bxb := B2xb
      clear B2xb
      have Byb := B2yb
      clear B2yb
      refine wpAnyH_ready (rs := [13]) (by as_aux_lemma => kernel_rfl) (by simp) ?_
      refine AllReadyH.cons rfl (fun K hK => ?_) AllReadyH.nil
      refine wp_store_bl 42 (.tmp 7) (.tmp 22) rfl yb [.int .i64 0, .bool false, .int .i64 0, .int .i64 0, .int .i64 0] [.int .i64 t.sy.kind, .bool t.sy.flag, .int .i64 t.sy.gen, .int .i64 t.sy.left, .int .i64 t.sy.fills] rfl rfl Byb.out rfl (by kernel_rfl) rfl (fun WH hb8 hk8 hs8 hbel8 => ?_)
      have B2xb := Lib.hid (show Bl xb [.int .i64 t.sx.kind, .bool t.sx.flag, .int .i64 t.sx.gen, .int .i64 t.sx.left, .int .i64 t.sx.fills] WH from (show Bl xb [.int .i64 t.sx.kind, .bool t.sx.flag, .int .i64 t.sx.gen, .int .i64 t.sx.left, .int .i64 t.sx.fills] WG from Bxb.out).elim fun tt htt => ⟨tt, (hk8 xb NXY.out (Bxb.out.lt)).trans htt⟩)
      refine hK.out _ _ (hbel8 _ _ Nyb.out hHeld) (fun hHeld => ?_)
      have B2yb := Lib.hid hb8
      clear hK K hb8 hk8 hs8 hbel8 Byb Bxb
      try simp only [Act.put, tkA, tkB, tkC]
      have Byb := B2yb
      clear B2yb
      have Bxb := B2xb
      clear B2xb
      refine wpAnyH_done (by as_aux_lemma => kernel_rfl) ?_ _
      go_wp2_with fail
      go_meet
      case rel =>
        exact ⟨_, _, rfl, rfl, Lib.hid hHeld, Nxb, Nyb, NXY, Bxb, Byb⟩
    refine AllReadyH.cons rfl (fun K hK => ?_) AllReadyH.nil
    go_simp
    have NX := Lib.hid hHeld.size
    have BX := Lib.hid (show Bl WD.heap.size [.int .i64 0, .bool false, .int .i64 0, .int .i64 0, .int .i64 0] (WD.alloc (Obj.cells #[.int .i64 0, .bool false, .int .i64 0, .int .i64 0, .int .i64 0] 42)) from Bl.new WD [.int .i64 0, .bool false, .int .i64 0, .int .i64 0, .int .i64 0] 42)
    refine hK.out _ _ (hHeld.alloc hHeld.size (Obj.cells #[.int .i64 0, .bool false, .int .i64 0, .int .i64 0, .int .i64 0] 42)) (fun hHeld => ?_)
    clear hK K
    try simp only [Act.put, tkA, tkB, tkC]
    generalize WD.alloc (Obj.cells #[.int .i64 0, .bool false, .int .i64 0, .int .i64 0, .int .i64 0] 42) = WE at hHeld BX  ⊢
    generalize WD.heap.size = yb at NX BX  ⊢
    have Nyb := NX
    have Byb := BX
    clear NX BX
    refine wpAnyH_ready (rs := [10]) (by as_aux_lemma => kernel_rfl) (by simp) ?_
    refine AllReadyH.cons rfl (fun K hK => ?_) AllReadyH.nil
    go_simp
    have NX := Lib.hid hHeld.size
    have BX := Lib.hid (show Bl WE.heap.size [.int .i64 0, .bool false, .int .i64 0, .int .i64 0, .int .i64 0] (WE.alloc (Obj.cells #[.int .i64 0, .bool false, .int .i64 0, .int .i64 0, .int .i64 0] 42)) from Bl.new WE [.int .i64 0, .bool false, .int .i64 0, .int .i64 0, .int .i64 0] 42)
    have B2yb := Lib.hid ((show Bl yb [.int .i64 0, .bool false, .int .i64 0, .int .i64 0, .int .i64 0] WE from Byb.out).below (w' := WE.alloc (Obj.cells #[.int .i64 0, .bool false, .int .i64 0, .int .i64 0, .int .i64 0] 42)) (by go_grown))
    have NEyb := Lib.hid (show WE.heap.size ≠ yb from fun e => by have := Byb.out.lt; omega)
    refine hK.out _ _ (hHeld.alloc hHeld.size (Obj.cells #[.int .i64 0, .bool false, .int .i64 0, .int .i64 0, .int .i64 0] 42)) (fun hHeld => ?_)
    clear hK K Byb
    try simp only [Act.put, tkA, tkB, tkC]
    generalize WE.alloc (Obj.cells #[.int .i64 0, .bool false, .int .i64 0, .int .i64 0, .int .i64 0] 42) = WF at hHeld BX B2yb ⊢
    generalize WE.heap.size = xb at NX BX NEyb ⊢
    have Nxb := NX
    have Bxb := BX
    clear NX BX
    have Byb := B2yb
    have NExbyb := NEyb
    clear B2yb NEyb
    have NXY := Lib.hid NExbyb.out
    refine wpAnyH_ready (rs := [12]) (by as_aux_lemma => kernel_rfl) (by simp) ?_
    refine AllReadyH.cons rfl (fun K hK => ?_) AllReadyH.nil
    refine wp_store_bl 42 (.tmp 6) (.tmp 17) rfl xb [.int .i64 0, .bool false, .int .i64 0, .int .i64 0, .int .i64 0] [.int .i64 t.sx.kind, .bool t.sx.flag, .int .i64 t.sx.gen, .int .i64 t.sx.left, .int .i64 t.sx.fills] rfl rfl Bxb.out rfl (by kernel_rfl) rfl (fun WG hb8 hk8 hs8 hbel8 => ?_)
    have B2yb := Lib.hid (show Bl yb [.int .i64 0, .bool false, .int .i64 0, .int .i64 0, .int .i64 0] WG from (show Bl yb [.int .i64 0, .bool false, .int .i64 0, .int .i64 0, .int .i64 0] WF from Byb.out).elim fun tt htt => ⟨tt, (hk8 yb (Ne.symm NXY.out) (Byb.out.lt)).trans htt⟩)
    refine hK.out _ _ (hbel8 _ _ Nxb.out hHeld) (fun hHeld => ?_)
    have B2xb := Lib.hid hb8
    clear hK K hb8 hk8 hs8 hbel8 Bxb Byb
    try simp only [Act.put, tkA, tkB, tkC]
    have Bxb := B2xb
    clear B2xb
    have Byb := B2yb
    clear B2yb
    refine wpAnyH_ready (rs := [13]) (by as_aux_lemma => kernel_rfl) (by simp) ?_
    refine AllReadyH.cons rfl (fun K hK => ?_) AllReadyH.nil
    refine wp_store_bl 42 (.tmp 7) (.tmp 22) rfl yb [.int .i64 0, .bool false, .int .i64 0, .int .i64 0, .int .i64 0] [.int .i64 t.sy.kind, .bool t.sy.flag, .int .i64 t.sy.gen, .int .i64 t.sy.left, .int .i64 t.sy.fills] rfl rfl Byb.out rfl (by kernel_rfl) rfl (fun WH hb8 hk8 hs8 hbel8 => ?_)
    have B2xb := Lib.hid (show Bl xb [.int .i64 t.sx.kind, .bool t.sx.flag, .int .i64 t.sx.gen, .int .i64 t.sx.left, .int .i64 t.sx.fills] WH from (show Bl xb [.int .i64 t.sx.kind, .bool t.sx.flag, .int .i64 t.sx.gen, .int .i64 t.sx.left, .int .i64 t.sx.fills] WG from Bxb.out).elim fun tt htt => ⟨tt, (hk8 xb NXY.out (Bxb.out.lt)).trans htt⟩)
    refine hK.out _ _ (hbel8 _ _ Nyb.out hHeld) (fun hHeld => ?_)
    have B2yb := Lib.hid hb8
    clear hK K hb8 hk8 hs8 hbel8 Byb Bxb
    try simp only [Act.put, tkA, tkB, tkC]
    have Byb := B2yb
    clear B2yb
    have Bxb := B2xb
    clear B2xb
    refine wpAnyH_done (by as_aux_lemma => kernel_rfl) ?_ _
    go_wp2_with fail
    go_meet
    case rel =>
      exact ⟨_, _, rfl, rfl, Lib.hid hHeld, Nxb, Nyb, NXY, Bxb, Byb⟩
  case rest =>
    obtain ⟨xb, yb, rfl, rfl, HB1, Nxb, Nyb, NXY, Bxb, Byb⟩ := hcut
    obtain ⟨w1, hw1⟩ : ∃ w1, w1 = wc := ⟨_, rfl⟩
    subst hw1
    go_wp2_with fail
    go_cut [8] (fun s8 wx => ∃ fb, s8 = .pointer (some ⟨fb, 0, none⟩) ∧ Hid (Below w.heap.size w wx) ∧ Hid (w.heap.size ≤ fb) ∧ Hid (fb ≠ xb) ∧ Hid (fb ≠ yb) ∧ Hid (Bl xb [.int .i64 t.sx.kind, .bool t.sx.flag, .int .i64 t.sx.gen, .int .i64 t.sx.left, .int .i64 t.sx.fills] wx) ∧ Hid (Bl yb [.int .i64 t.sy.kind, .bool t.sy.flag, .int .i64 t.sy.gen, .int .i64 t.sy.left, .int .i64 t.sy.fills] wx) ∧ Hid (Bl fb [.int .i64 1, .int .i64 t.q, .int .i64 t.p, .int .i64 t.tk, .int .i64 0, .int .i64 0] wx))
    case first =>
      have h1d : Below w.heap.size w w1.drew ∧ Bl xb [.int .i64 t.sx.kind, .bool t.sx.flag, .int .i64 t.sx.gen, .int .i64 t.sx.left, .int .i64 t.sx.fills] w1.drew ∧ Bl yb [.int .i64 t.sy.kind, .bool t.sy.flag, .int .i64 t.sy.gen, .int .i64 t.sy.left, .int .i64 t.sy.fills] w1.drew := ⟨HB1.out.drew, Bxb.out, Byb.out⟩
      refine wp_region_held_drew (S := fun w' => Below w.heap.size w w' ∧ Bl xb [.int .i64 t.sx.kind, .bool t.sx.flag, .int .i64 t.sx.gen, .int .i64 t.sx.left, .int .i64 t.sx.fills] w' ∧ Bl yb [.int .i64 t.sy.kind, .bool t.sy.flag, .int .i64 t.sy.gen, .int .i64 t.sy.left, .int .i64 t.sy.fills] w') (by kernel_rfl) h1d (fun hHeld => ?_)
      clear h1d
      generalize w1.drew = WD at hHeld ⊢
      refine tk (i := 0) (d := some 23) (v := ?_) (hy := Or.inl ⟨by rfl, ?_⟩) (h := ?_)
      rotate_left
      · intro wq hSw
        go_simp
        try with_reducible rfl
      simp only [Act.put, tkA, tkB, tkC]
      refine tk (i := 1) (d := some 24) (v := ?_) (hy := Or.inl ⟨by rfl, ?_⟩) (h := ?_)
      rotate_left
      · intro wq hSw
        go_simp
        try with_reducible rfl
      simp only [Act.put, tkA, tkB, tkC]
      refine tk (i := 2) (d := some 25) (v := ?_) (hy := Or.inl ⟨by rfl, ?_⟩) (h := ?_)
      rotate_left
      · intro wq hSw
        go_simp
        try with_reducible rfl
      simp only [Act.put, tkA, tkB, tkC]
      refine tk (i := 3) (d := some 26) (v := ?_) (hy := Or.inl ⟨by rfl, ?_⟩) (h := ?_)
      rotate_left
      · intro wq hSw
        go_simp
        try with_reducible rfl
      simp only [Act.put, tkA, tkB, tkC]
      refine tk (i := 4) (d := some 27) (v := ?_) (hy := Or.inl ⟨by rfl, ?_⟩) (h := ?_)
      rotate_left
      · intro wq hSw
        have hp9 := HP.out.below hSw.1
        have l9 := hp9.lt
        have x31 := hp9.cell 31 _ rfl
        go_simp
        try with_reducible rfl
      simp only [Act.put, tkA, tkB, tkC]
      refine tk (i := 5) (d := some 28) (v := ?_) (hy := Or.inl ⟨by rfl, ?_⟩) (h := ?_)
      rotate_left
      · intro wq hSw
        go_simp
        try with_reducible rfl
      simp only [Act.put, tkA, tkB, tkC]
      refine tk (i := 6) (d := some 29) (v := ?_) (hy := Or.inl ⟨by rfl, ?_⟩) (h := ?_)
      rotate_left
      · intro wq hSw
        go_simp
        try with_reducible rfl
      simp only [Act.put, tkA, tkB, tkC]
      refine tk (i := 7) (d := some 30) (v := ?_) (hy := Or.inl ⟨by rfl, ?_⟩) (h := ?_)
      rotate_left
      · intro wq hSw
        go_simp
        try with_reducible rfl
      simp only [Act.put, tkA, tkB, tkC]
      refine tk (i := 8) (d := some 31) (v := ?_) (hy := Or.inl ⟨by rfl, ?_⟩) (h := ?_)
      rotate_left
      · intro wq hSw
        go_simp
        try with_reducible rfl
      simp only [Act.put, tkA, tkB, tkC]
      refine tk (i := 9) (d := some 32) (v := ?_) (hy := Or.inl ⟨by rfl, ?_⟩) (h := ?_)
      rotate_left
      · intro wq hSw
        have hp9 := HP.out.below hSw.1
        have l9 := hp9.lt
        have x32 := hp9.cell 32 _ rfl
        go_simp
        try with_reducible rfl
      simp only [Act.put, tkA, tkB, tkC]
      refine tk (i := 10) (d := some 33) (v := ?_) (hy := Or.inl ⟨by rfl, ?_⟩) (h := ?_)
      rotate_left
      · intro wq hSw
        go_simp
        try with_reducible rfl
      simp only [Act.put, tkA, tkB, tkC]
      refine tk (i := 11) (d := some 34) (v := ?_) (hy := Or.inl ⟨by rfl, ?_⟩) (h := ?_)
      rotate_left
      · intro wq hSw
        go_simp
        try with_reducible rfl
      simp only [Act.put, tkA, tkB, tkC]
      refine tk (i := 12) (d := some 35) (v := ?_) (hy := Or.inl ⟨by rfl, ?_⟩) (h := ?_)
      rotate_left
      · intro wq hSw
        go_simp
        try with_reducible rfl
      simp only [Act.put, tkA, tkB, tkC]
      refine tk (i := 13) (d := some 36) (v := ?_) (hy := Or.inl ⟨by rfl, ?_⟩) (h := ?_)
      rotate_left
      · intro wq hSw
        have hp9 := HP.out.below hSw.1
        have l9 := hp9.lt
        have x33 := hp9.cell 33 _ rfl
        go_simp
        try with_reducible rfl
      simp only [Act.put, tkA, tkB, tkC]
      refine tk (i := 14) (d := some 37) (v := ?_) (hy := Or.inl ⟨by rfl, ?_⟩) (h := ?_)
      rotate_left
      · intro wq hSw
        go_simp
        try with_reducible rfl
      simp only [Act.put, tkA, tkB, tkC]
      refine wpAnyH_ready (rs := [15]) (by as_aux_lemma => kernel_rfl) (by simp) ?_
      refine AllReadyH.cons rfl (fun K hK => ?_) AllReadyH.nil
      go_simp
      have NX := Lib.hid hHeld.1.size
      have BX := Lib.hid (show Bl WD.heap.size [.int .i64 0, .int .i64 0, .int .i64 0, .int .i64 0, .int .i64 0, .int .i64 0] (WD.alloc (Obj.cells #[.int .i64 0, .int .i64 0, .int .i64 0, .int .i64 0, .int .i64 0, .int .i64 0] 65)) from Bl.new WD [.int .i64 0, .int .i64 0, .int .i64 0, .int .i64 0, .int .i64 0, .int .i64 0] 65)
      have NEx := Lib.hid (show WD.heap.size ≠ xb from fun e => by have := hHeld.2.1.lt; omega)
      have NEy := Lib.hid (show WD.heap.size ≠ yb from fun e => by have := hHeld.2.2.lt; omega)
      refine hK.out _ _ ⟨hHeld.1.alloc hHeld.1.size (Obj.cells #[.int .i64 0, .int .i64 0, .int .i64 0, .int .i64 0, .int .i64 0, .int .i64 0] 65), hHeld.2.1.below (w' := WD.alloc (Obj.cells #[.int .i64 0, .int .i64 0, .int .i64 0, .int .i64 0, .int .i64 0, .int .i64 0] 65)) (by go_grown), hHeld.2.2.below (w' := WD.alloc (Obj.cells #[.int .i64 0, .int .i64 0, .int .i64 0, .int .i64 0, .int .i64 0, .int .i64 0] 65)) (by go_grown)⟩ (fun hHeld => ?_)
      clear hK K
      try simp only [Act.put, tkA, tkB, tkC]
      generalize WD.alloc (Obj.cells #[.int .i64 0, .int .i64 0, .int .i64 0, .int .i64 0, .int .i64 0, .int .i64 0] 65) = WE at hHeld BX ⊢
      generalize WD.heap.size = fb at NX BX NEx NEy ⊢
      refine wpAnyH_ready (rs := [16]) (by as_aux_lemma => kernel_rfl) (by simp) ?_
      refine AllReadyH.cons rfl (fun K hK => ?_) AllReadyH.nil
      refine wp_store_bl 65 (.tmp 8) (.tmp 37) rfl fb [.int .i64 0, .int .i64 0, .int .i64 0, .int .i64 0, .int .i64 0, .int .i64 0] [.int .i64 1, .int .i64 t.q, .int .i64 t.p, .int .i64 t.tk, .int .i64 0, .int .i64 0] rfl rfl BX.out rfl (by kernel_rfl) rfl (fun WF hb8 hk8 hs8 hbel8 => ?_)
      refine hK.out _ _ ⟨hbel8 _ _ NX.out hHeld.1, hHeld.2.1.elim fun tt htt => ⟨tt, (hk8 xb (Ne.symm NEx.out) hHeld.2.1.lt).trans htt⟩, hHeld.2.2.elim fun tt htt => ⟨tt, (hk8 yb (Ne.symm NEy.out) hHeld.2.2.lt).trans htt⟩⟩ (fun hHeld => ?_)
      have BF := Lib.hid hb8
      clear hK K hb8 hk8 hs8 hbel8 BX
      try simp only [Act.put, tkA, tkB, tkC]
      refine wpAnyH_done (by as_aux_lemma => kernel_rfl) ?_ _
      go_wp2_with fail
      go_meet
      case rel =>
        exact ⟨_, rfl, Lib.hid hHeld.1, NX, NEx, NEy, Lib.hid hHeld.2.1, Lib.hid hHeld.2.2, BF⟩
    case rest =>
      obtain ⟨fb, rfl, HB2, Nfb, NFX, NFY, Cxb, Cyb, Bfb⟩ := hcut
      obtain ⟨w2, hw2⟩ : ∃ w2, w2 = wc := ⟨_, rfl⟩
      subst hw2
      clear Bxb Byb HB1
      have NFP := Lib.hid (show fb ≠ p from fun e => by have := Nfb.out; have := HA.out.lo; have := H.out.hK; omega)
      have NFM := Lib.hid (show fb ≠ M from fun e => by have := Nfb.out; have := H.out.lo.2.1; have := H.out.hK; omega)
      have NFB := Lib.hid (show fb ≠ B from fun e => by have := Nfb.out; have := H.out.lo.2.2.1; have := H.out.hK; omega)
      have NXM := Lib.hid (show xb ≠ M from fun e => by have := Nxb.out; have := H.out.lo.2.1; have := H.out.hK; omega)
      have NXB := Lib.hid (show xb ≠ B from fun e => by have := Nxb.out; have := H.out.lo.2.2.1; have := H.out.hK; omega)
      have NYM := Lib.hid (show yb ≠ M from fun e => by have := Nyb.out; have := H.out.lo.2.1; have := H.out.hK; omega)
      have NYB := Lib.hid (show yb ≠ B from fun e => by have := Nyb.out; have := H.out.lo.2.2.1; have := H.out.hK; omega)
      have hb2 := HP.out.below HB2.out
      have l2 := hb2.lt
      have k29' := k29.out w2 hb2
      clear hb2 k29
      go_wp2_with fail
      have h5 : Bl p (prc (i : Int) aY t) w2.drew ∧ Bl yb [.int .i64 t.sy.kind, .bool t.sy.flag, .int .i64 t.sy.gen, .int .i64 t.sy.left, .int .i64 t.sy.fills] w2.drew := ⟨HP.out.below HB2.out.drew, Cyb.out⟩
      have BD := Lib.hid (show Bl fb [.int .i64 1, .int .i64 t.q, .int .i64 t.p, .int .i64 t.tk, .int .i64 0, .int .i64 0] w2.drew from Bfb.out)
      have HBD := Lib.hid (show Below w.heap.size w w2.drew from HB2.out.drew)
      have HCX := Lib.hid (show Bl xb [.int .i64 t.sx.kind, .bool t.sx.flag, .int .i64 t.sx.gen, .int .i64 t.sx.left, .int .i64 t.sx.fills] w2.drew from Cxb.out)
      have HCY := Lib.hid (show Bl yb [.int .i64 t.sy.kind, .bool t.sy.flag, .int .i64 t.sy.gen, .int .i64 t.sy.left, .int .i64 t.sy.fills] w2.drew from Cyb.out)
      refine wp_region_held_drew (S := fun w' => Bl p (prc (i : Int) aY t) w' ∧ Bl yb [.int .i64 t.sy.kind, .bool t.sy.flag, .int .i64 t.sy.gen, .int .i64 t.sy.left, .int .i64 t.sy.fills] w') (by kernel_rfl) h5 (fun hHeld => ?_)
      clear h5 Bfb Cxb Cyb HB2
      generalize w2.drew = WD at hHeld BD HBD HCX HCY ⊢
      refine tk (i := 0) (d := some 45) (v := ?_) (hy := Or.inl ⟨by rfl, ?_⟩) (h := ?_)
      rotate_left
      · intro wq hSw
        go_simp
        try with_reducible rfl
      simp only [Act.put, tkA, tkB, tkC]
      refine tk (i := 1) (d := some 46) (v := ?_) (hy := Or.inl ⟨by rfl, ?_⟩) (h := ?_)
      rotate_left
      · intro wq hSw
        go_simp
        try with_reducible rfl
      simp only [Act.put, tkA, tkB, tkC]
      refine tk (i := 2) (d := some 47) (v := ?_) (hy := Or.inl ⟨by rfl, ?_⟩) (h := ?_)
      rotate_left
      · intro wq hSw
        go_simp
        try with_reducible rfl
      simp only [Act.put, tkA, tkB, tkC]
      refine tk (i := 3) (d := some 48) (v := ?_) (hy := Or.inl ⟨by rfl, ?_⟩) (h := ?_)
      rotate_left
      · intro wq hSw
        go_simp
        try with_reducible rfl
      simp only [Act.put, tkA, tkB, tkC]
      refine tk (i := 4) (d := some 49) (v := ?_) (hy := Or.inl ⟨by rfl, ?_⟩) (h := ?_)
      rotate_left
      · intro wq hSw
        have hb9 := hSw.1
        have l7 := hb9.lt
        have z3 := hb9.cell 3 _ rfl
        go_simp
        try with_reducible rfl
      simp only [Act.put, tkA, tkB, tkC]
      refine tk (i := 5) (d := some 50) (v := ?_) (hy := Or.inl ⟨by rfl, ?_⟩) (h := ?_)
      rotate_left
      · intro wq hSw
        go_simp
        try with_reducible rfl
      simp only [Act.put, tkA, tkB, tkC]
      refine tk (i := 6) (d := some 51) (v := ?_) (hy := Or.inl ⟨by rfl, ?_⟩) (h := ?_)
      rotate_left
      · intro wq hSw
        have hb9 := hSw.2
        have l7 := hb9.lt
        have z2 := hb9.cell 2 _ rfl
        go_simp
        try with_reducible rfl
      simp only [Act.put, tkA, tkB, tkC]
      refine tk (i := 7) (d := some 52) (v := ?_) (hy := Or.inl ⟨by rfl, ?_⟩) (h := ?_)
      rotate_left
      · intro wq hSw
        go_simp
        try with_reducible rfl
      simp only [Act.put, tkA, tkB, tkC]
      refine wpAnyH_ready (rs := [8]) (by as_aux_lemma => kernel_rfl) (by simp) ?_
      refine AllReadyH.cons rfl (fun K hK => ?_) AllReadyH.nil
      have d0 := BD.out.cell 4 _ rfl
      have f0 := BD.out.frz 4
      have l0 := BD.out.lt
      go_simp
      have BE := Lib.hid (show Bl fb [.int .i64 1, .int .i64 t.q, .int .i64 t.p, .int .i64 t.tk, .int .i64 aY, .int .i64 0] (WD.setCell ⟨fb, 4, none⟩ (.int .i64 aY)) from BD.out.set 4 (.int .i64 aY))
      have HBE := Lib.hid (HBD.out.setCell (p := ⟨fb, 4, none⟩) Nfb.out (.int .i64 aY))
      have HCX2 := Lib.hid (HCX.out.far (p := ⟨fb, 4, none⟩) NFX.out (.int .i64 aY))
      have HCY2 := Lib.hid (HCY.out.far (p := ⟨fb, 4, none⟩) NFY.out (.int .i64 aY))
      refine hK.out _ _ ⟨hHeld.1.far (p := ⟨fb, 4, none⟩) NFP.out (.int .i64 aY), hHeld.2.far (p := ⟨fb, 4, none⟩) NFY.out (.int .i64 aY)⟩ (fun hHeld => ?_)
      clear hK K d0 f0 l0 BD HBD HCX HCY
      try simp only [Act.put, tkA, tkB, tkC]
      generalize WD.setCell ⟨fb, 4, none⟩ (.int .i64 aY) = WE at hHeld BE HBE HCX2 HCY2 ⊢
      have BD := BE
      have HBD := HBE
      have HCX := HCX2
      have HCY := HCY2
      clear BE HBE HCX2 HCY2
      refine tk (i := 9) (d := some 53) (v := ?_) (hy := Or.inl ⟨by rfl, ?_⟩) (h := ?_)
      rotate_left
      · intro wq hSw
        go_simp
        try with_reducible rfl
      simp only [Act.put, tkA, tkB, tkC]
      refine wpAnyH_ready (rs := [10]) (by as_aux_lemma => kernel_rfl) (by simp) ?_
      refine AllReadyH.cons rfl (fun K hK => ?_) AllReadyH.nil
      have d0 := BD.out.cell 5 _ rfl
      have f0 := BD.out.frz 5
      have l0 := BD.out.lt
      go_simp
      have BE := Lib.hid (show Bl fb [.int .i64 1, .int .i64 t.q, .int .i64 t.p, .int .i64 t.tk, .int .i64 aY, .int .i64 t.sy.gen] (WE.setCell ⟨fb, 5, none⟩ (.int .i64 t.sy.gen)) from BD.out.set 5 (.int .i64 t.sy.gen))
      have HBE := Lib.hid (HBD.out.setCell (p := ⟨fb, 5, none⟩) Nfb.out (.int .i64 t.sy.gen))
      have HCX2 := Lib.hid (HCX.out.far (p := ⟨fb, 5, none⟩) NFX.out (.int .i64 t.sy.gen))
      have HCY2 := Lib.hid (HCY.out.far (p := ⟨fb, 5, none⟩) NFY.out (.int .i64 t.sy.gen))
      refine hK.out _ _ ⟨hHeld.1.far (p := ⟨fb, 5, none⟩) NFP.out (.int .i64 t.sy.gen), hHeld.2.far (p := ⟨fb, 5, none⟩) NFY.out (.int .i64 t.sy.gen)⟩ (fun hHeld => ?_)
      clear hK K d0 f0 l0 BD HBD HCX HCY
      try simp only [Act.put, tkA, tkB, tkC]
      generalize WE.setCell ⟨fb, 5, none⟩ (.int .i64 t.sy.gen) = w3 at hHeld BE HBE HCX2 HCY2 ⊢
      have BD := BE
      have HBD := HBE
      have HCX := HCX2
      have HCY := HCY2
      clear BE HBE HCX2 HCY2
      refine wpAnyH_done (by as_aux_lemma => kernel_rfl) ?_ _
      go_wp2_with fail
      have h6 : Bl p (prc (i : Int) aY t) w3.drew ∧ Bl xb [.int .i64 t.sx.kind, .bool t.sx.flag, .int .i64 t.sx.gen, .int .i64 t.sx.left, .int .i64 t.sx.fills] w3.drew ∧ Bl fb [.int .i64 1, .int .i64 t.q, .int .i64 t.p, .int .i64 t.tk, .int .i64 aY, .int .i64 t.sy.gen] w3.drew := ⟨HP.out.below HBD.out.drew, HCX.out, BD.out⟩
      have HW3 := Lib.hid (H.out.below HBD.out.drew)
      have HFM := Lib.hid (show Fm M B w w3.drew from Fm.of HBD.out.drew)
      refine wp_region_held_drew (S := fun w' => Bl p (prc (i : Int) aY t) w' ∧ Bl xb [.int .i64 t.sx.kind, .bool t.sx.flag, .int .i64 t.sx.gen, .int .i64 t.sx.left, .int .i64 t.sx.fills] w' ∧ Bl fb [.int .i64 1, .int .i64 t.q, .int .i64 t.p, .int .i64 t.tk, .int .i64 aY, .int .i64 t.sy.gen] w') (by kernel_rfl) h6 (fun hHeld => ?_)
      clear h6
      generalize w3.drew = WD at hHeld HW3 HFM ⊢
      refine tk (i := 0) (d := some 54) (v := ?_) (hy := Or.inl ⟨by rfl, ?_⟩) (h := ?_)
      rotate_left
      · intro wq hSw
        go_simp
        try with_reducible rfl
      simp only [Act.put, tkA, tkB, tkC]
      refine tk (i := 1) (d := some 55) (v := ?_) (hy := Or.inl ⟨by rfl, ?_⟩) (h := ?_)
      rotate_left
      · intro wq hSw
        go_simp
        try with_reducible rfl
      simp only [Act.put, tkA, tkB, tkC]
      refine tk (i := 2) (d := some 56) (v := ?_) (hy := Or.inl ⟨by rfl, ?_⟩) (h := ?_)
      rotate_left
      · intro wq hSw
        go_simp
        try with_reducible rfl
      simp only [Act.put, tkA, tkB, tkC]
      refine tk (i := 3) (d := some 57) (v := ?_) (hy := Or.inl ⟨by rfl, ?_⟩) (h := ?_)
      rotate_left
      · intro wq hSw
        go_simp
        try with_reducible rfl
      simp only [Act.put, tkA, tkB, tkC]
      refine tk (i := 4) (d := some 58) (v := ?_) (hy := Or.inl ⟨by rfl, ?_⟩) (h := ?_)
      rotate_left
      · intro wq hSw
        go_simp
        try with_reducible rfl
      simp only [Act.put, tkA, tkB, tkC]
      refine tk (i := 5) (d := some 59) (v := ?_) (hy := Or.inl ⟨by rfl, ?_⟩) (h := ?_)
      rotate_left
      · intro wq hSw
        have hb9 := hSw.1
        have l7 := hb9.lt
        have z1 := hb9.cell 1 _ rfl
        go_simp
        try with_reducible rfl
      simp only [Act.put, tkA, tkB, tkC]
      refine tk (i := 6) (d := some 60) (v := ?_) (hy := Or.inl ⟨by rfl, ?_⟩) (h := ?_)
      rotate_left
      · intro wq hSw
        go_simp
        try with_reducible rfl
      simp only [Act.put, tkA, tkB, tkC]
      refine tk (i := 7) (d := some 61) (v := ?_) (hy := Or.inl ⟨by rfl, ?_⟩) (h := ?_)
      rotate_left
      · intro wq hSw
        have hb9 := hSw.2.1
        have l7 := hb9.lt
        have z2 := hb9.cell 2 _ rfl
        go_simp
        try with_reducible rfl
      simp only [Act.put, tkA, tkB, tkC]
      refine tk (i := 8) (d := some 62) (v := ?_) (hy := Or.inl ⟨by rfl, ?_⟩) (h := ?_)
      rotate_left
      · intro wq hSw
        go_simp
        try with_reducible rfl
      simp only [Act.put, tkA, tkB, tkC]
      refine tk (i := 9) (d := some 63) (v := ?_) (hy := Or.inl ⟨by rfl, ?_⟩) (h := ?_)
      rotate_left
      · intro wq hSw
        have hb9 := hSw.2.1
        have l7 := hb9.lt
        have z4 := hb9.cell 4 _ rfl
        go_simp
        try with_reducible rfl
      simp only [Act.put, tkA, tkB, tkC]
      refine tk (i := 10) (d := some 64) (v := ?_) (hy := Or.inl ⟨by rfl, ?_⟩) (h := ?_)
      rotate_left
      · intro wq hSw
        have hb9 := hSw.2.2
        have l7 := hb9.lt
        have z0 := hb9.cell 0 _ rfl
        have z1 := hb9.cell 1 _ rfl
        have z2 := hb9.cell 2 _ rfl
        have z3 := hb9.cell 3 _ rfl
        have z4 := hb9.cell 4 _ rfl
        have z5 := hb9.cell 5 _ rfl
        go_simp
        try with_reducible rfl
      simp only [Act.put, tkA, tkB, tkC]
      refine wpAnyH_ready (rs := [11]) (by as_aux_lemma => kernel_rfl) (by simp) ?_
      refine AllReadyH.cons rfl (fun K hK => ?_) AllReadyH.nil
      go_simp
      refine (HNO.out _ HW3.out).mono ?_
      rintro e w4 ⟨rfl, hw4, hf4⟩
      have HW4 := Lib.hid hw4
      have HF4 := Lib.hid (HFM.out.trans hf4)
      have HP4 := Lib.hid (hf4.bl hHeld.1 HA.out.nM HA.out.nB)
      refine hK.out _ _ ⟨HP4.out, hf4.bl hHeld.2.1 NXM.out NXB.out, hf4.bl hHeld.2.2 NFM.out NFB.out⟩ (fun hHeld => ?_)
      clear hK K hw4 hf4
      try simp only [Act.put, tkA, tkB, tkC]
      refine wpAnyH_done (by as_aux_lemma => kernel_rfl) ?_ _
      go_wp2
      go_end0
      exact ⟨rfl, HW4.out, HP4.out, HF4.out⟩
set_option maxRecDepth 100000 in
set_option maxHeartbeats 16000000 in
theorem tell_11y (h : PW K C W M B Ck ws st now lv L w) (hC : C.Ok) (ha : Ap K W M B Ck p) (i : Nat) (hi : i < C.A) (hp : Bl p (prc aX (i : Int) t) w) (hm : t.made = true) (hf : FitRc ⟨1, t.q, t.p, t.tk, aX, t.sx.gen⟩) (hst : 0 ≤ st ∧ st ≤ 1000000) :
    Calls Try.prog 40 #[.pointer (some ⟨p, 0, none⟩), .pointer (some ⟨W, 0, none⟩), .int .i64 11] w fun e w' => e = .returned (.tuple #[]) ∧ PW K C W M B Ck (nws C ws i t.sy.gen t.sy.fills ⟨1, t.q, t.p, t.tk, aX, t.sx.gen⟩) (st + nst C i t.sy.gen t.sy.fills) now lv L w' ∧ Bl p (prc aX (i : Int) t) w' ∧ Fm M B w w' := by
  have H := Lib.hid h
  have HP := Lib.hid hp
  have HA := Lib.hid ha
  have hl := hp.lt
  have k29 : Hid (∀ W', Bl p (prc aX (i : Int) t) W' → W'.cell? ⟨p, 29, none⟩ = some (.bool true)) := fun W' hb => by rw [← hm]; exact hb.cell 29 _ rfl
  have HNO := Lib.hid (fun (W' : World) (hW' : PW K C W M B Ck ws st now lv L W') => note_any hW' hC i hi t.sy.gen t.sy.fills ⟨1, t.q, t.p, t.tk, aX, t.sx.gen⟩ hf hst)
  unfold rcv at HNO
  clear h hp ha hm hC hf hst
  go_enter Try.func40, Try.ntmps40
  go_wp2_with fail
  go_cut [6, 7] (fun s6 s7 wx => ∃ xb yb, s6 = .pointer (some ⟨xb, 0, none⟩) ∧ s7 = .pointer (some ⟨yb, 0, none⟩) ∧ Hid (Below w.heap.size w wx) ∧ Hid (w.heap.size ≤ xb) ∧ Hid (w.heap.size ≤ yb) ∧ Hid (xb ≠ yb) ∧ Hid (Bl xb [.int .i64 t.sx.kind, .bool t.sx.flag, .int .i64 t.sx.gen, .int .i64 t.sx.left, .int .i64 t.sx.fills] wx) ∧ Hid (Bl yb [.int .i64 t.sy.kind, .bool t.sy.flag, .int .i64 t.sy.gen, .int .i64 t.sy.left, .int .i64 t.sy.fills] wx))
  case first =>
    refine wp_region_held_drew (S := fun w' => Below w.heap.size w w') (by kernel_rfl) ((Below.refl _ _).drew) (fun hHeld => ?_)
    generalize w.drew = WD at hHeld ⊢
    refine tk (i := 0) (d := some 13) (v := ?_) (hy := Or.inl ⟨by rfl, ?_⟩) (h := ?_)
    rotate_left
    · intro wq hSw
      go_simp
      try with_reducible rfl
    simp only [Act.put, tkA, tkB, tkC]
    refine tk (i := 1) (d := some 14) (v := ?_) (hy := Or.inl ⟨by rfl, ?_⟩) (h := ?_)
    rotate_left
    · intro wq hSw
      go_simp
      try with_reducible rfl
    simp only [Act.put, tkA, tkB, tkC]
    refine tk (i := 2) (d := some 15) (v := ?_) (hy := Or.inl ⟨by rfl, ?_⟩) (h := ?_)
    rotate_left
    · intro wq hSw
      go_simp
      try with_reducible rfl
    simp only [Act.put, tkA, tkB, tkC]
    refine tk (i := 3) (d := some 16) (v := ?_) (hy := Or.inl ⟨by rfl, ?_⟩) (h := ?_)
    rotate_left
    · intro wq hSw
      go_simp
      try with_reducible rfl
    simp only [Act.put, tkA, tkB, tkC]
    refine tk (i := 4) (d := some 17) (v := ?_) (hy := Or.inl ⟨by rfl, ?_⟩) (h := ?_)
    rotate_left
    · intro wq hSw
      have hp9 := HP.out.below hSw
      have l9 := hp9.lt
      have x7 := hp9.cell 7 _ rfl
      have x8 := hp9.cell 8 _ rfl
      have x9 := hp9.cell 9 _ rfl
      have x10 := hp9.cell 10 _ rfl
      have x11 := hp9.cell 11 _ rfl
      go_simp
      try with_reducible rfl
    simp only [Act.put, tkA, tkB, tkC]
    refine tk (i := 5) (d := some 18) (v := ?_) (hy := Or.inl ⟨by rfl, ?_⟩) (h := ?_)
    rotate_left
    · intro wq hSw
      go_simp
      try with_reducible rfl
    simp only [Act.put, tkA, tkB, tkC]
    refine tk (i := 6) (d := some 19) (v := ?_) (hy := Or.inl ⟨by rfl, ?_⟩) (h := ?_)
    rotate_left
    · intro wq hSw
      go_simp
      try with_reducible rfl
    simp only [Act.put, tkA, tkB, tkC]
    refine tk (i := 7) (d := some 20) (v := ?_) (hy := Or.inl ⟨by rfl, ?_⟩) (h := ?_)
    rotate_left
    · intro wq hSw
      go_simp
      try with_reducible rfl
    simp only [Act.put, tkA, tkB, tkC]
    refine tk (i := 8) (d := some 21) (v := ?_) (hy := Or.inl ⟨by rfl, ?_⟩) (h := ?_)
    rotate_left
    · intro wq hSw
      go_simp
      try with_reducible rfl
    simp only [Act.put, tkA, tkB, tkC]
    refine tk (i := 9) (d := some 22) (v := ?_) (hy := Or.inl ⟨by rfl, ?_⟩) (h := ?_)
    rotate_left
    · intro wq hSw
      have hp9 := HP.out.below hSw
      have l9 := hp9.lt
      have x18 := hp9.cell 18 _ rfl
      have x19 := hp9.cell 19 _ rfl
      have x20 := hp9.cell 20 _ rfl
      have x21 := hp9.cell 21 _ rfl
      have x22 := hp9.cell 22 _ rfl
      go_simp
      try with_reducible rfl
    simp only [Act.put, tkA, tkB, tkC]
    refine wpAnyH_ready (rs := [10, 11]) (by as_aux_lemma => kernel_rfl) (by simp) ?_
    refine AllReadyH.cons rfl (fun K hK => ?_) ?_
    · go_simp
      have NX := Lib.hid hHeld.size
      have BX := Lib.hid (show Bl WD.heap.size [.int .i64 0, .bool false, .int .i64 0, .int .i64 0, .int .i64 0] (WD.alloc (Obj.cells #[.int .i64 0, .bool false, .int .i64 0, .int .i64 0, .int .i64 0] 42)) from Bl.new WD [.int .i64 0, .bool false, .int .i64 0, .int .i64 0, .int .i64 0] 42)
      refine hK.out _ _ (hHeld.alloc hHeld.size (Obj.cells #[.int .i64 0, .bool false, .int .i64 0, .int .i64 0, .int .i64 0] 42)) (fun hHeld => ?_)
      clear hK K
      try simp only [Act.put, tkA, tkB, tkC]
      generalize WD.alloc (Obj.cells #[.int .i64 0, .bool false, .int .i64 0, .int .i64 0, .int .i64 0] 42) = WE at hHeld BX  ⊢
      generalize WD.heap.size = xb at NX BX  ⊢
      have Nxb := NX
      have Bxb := BX
      clear NX BX
      refine wpAnyH_ready (rs := [11]) (by as_aux_lemma => kernel_rfl) (by simp) ?_
      refine AllReadyH.cons rfl (fun K hK => ?_) AllReadyH.nil
      go_simp
      have NX := Lib.hid hHeld.size
      have BX := Lib.hid (show Bl WE.heap.size [.int .i64 0, .bool false, .int .i64 0, .int .i64 0, .int .i64 0] (WE.alloc (Obj.cells #[.int .i64 0, .bool false, .int .i64 0, .int .i64 0, .int .i64 0] 42)) from Bl.new WE [.int .i64 0, .bool false, .int .i64 0, .int .i64 0, .int .i64 0] 42)
      have B2xb := Lib.hid ((show Bl xb [.int .i64 0, .bool false, .int .i64 0, .int .i64 0, .int .i64 0] WE from Bxb.out).below (w' := WE.alloc (Obj.cells #[.int .i64 0, .bool false, .int .i64 0, .int .i64 0, .int .i64 0] 42)) (by go_grown))
      have NExb := Lib.hid (show WE.heap.size ≠ xb from fun e => by have := Bxb.out.lt; omega)
      refine hK.out _ _ (hHeld.alloc hHeld.size (Obj.cells #[.int .i64 0, .bool false, .int .i64 0, .int .i64 0, .int .i64 0] 42)) (fun hHeld => ?_)
      clear hK K Bxb
      try simp only [Act.put, tkA, tkB, tkC]
      generalize WE.alloc (Obj.cells #[.int .i64 0, .bool false, .int .i64 0, .int .i64 0, .int .i64 0] 42) = WF at hHeld BX B2xb ⊢
      generalize WE.heap.size = yb at NX BX NExb ⊢
      have Nyb := NX
      have Byb := BX
      clear NX BX
      have Bxb := B2xb
      have NEybxb := NExb
      clear B2xb NExb
      have NXY := Lib.hid (Ne.symm NEybxb.out)
      refine wpAnyH_ready (rs := [12]) (by as_aux_lemma => kernel_rfl) (by simp) ?_
      refine AllReadyH.cons rfl (fun K hK => ?_) AllReadyH.nil
      refine wp_store_bl 42 (.tmp 6) (.tmp 17) rfl xb [.int .i64 0, .bool false, .int .i64 0, .int .i64 0, .int .i64 0] [.int .i64 t.sx.kind, .bool t.sx.flag, .int .i64 t.sx.gen, .int .i64 t.sx.left, .int .i64 t.sx.fills] rfl rfl Bxb.out rfl (by kernel_rfl) rfl (fun WG hb8 hk8 hs8 hbel8 => ?_)
      have B2yb := Lib.hid (show Bl yb [.int .i64 0, .bool false, .int .i64 0, .int .i64 0, .int .i64 0] WG from (show Bl yb [.int .i64 0, .bool false, .int .i64 0, .int .i64 0, .int .i64 0] WF from Byb.out).elim fun tt htt => ⟨tt, (hk8 yb (Ne.symm NXY.out) (Byb.out.lt)).trans htt⟩)
      refine hK.out _ _ (hbel8 _ _ Nxb.out hHeld) (fun hHeld => ?_)
      have B2xb := Lib.hid hb8
      clear hK K hb8 hk8 hs8 hbel8 Bxb Byb
      try simp only [Act.put, tkA, tkB, tkC]
      have Bxb := B2xb
      clear B2xb
      have Byb := B2yb
      clear B2yb
      refine wpAnyH_ready (rs := [13]) (by as_aux_lemma => kernel_rfl) (by simp) ?_
      refine AllReadyH.cons rfl (fun K hK => ?_) AllReadyH.nil
      refine wp_store_bl 42 (.tmp 7) (.tmp 22) rfl yb [.int .i64 0, .bool false, .int .i64 0, .int .i64 0, .int .i64 0] [.int .i64 t.sy.kind, .bool t.sy.flag, .int .i64 t.sy.gen, .int .i64 t.sy.left, .int .i64 t.sy.fills] rfl rfl Byb.out rfl (by kernel_rfl) rfl (fun WH hb8 hk8 hs8 hbel8 => ?_)
      have B2xb := Lib.hid (show Bl xb [.int .i64 t.sx.kind, .bool t.sx.flag, .int .i64 t.sx.gen, .int .i64 t.sx.left, .int .i64 t.sx.fills] WH from (show Bl xb [.int .i64 t.sx.kind, .bool t.sx.flag, .int .i64 t.sx.gen, .int .i64 t.sx.left, .int .i64 t.sx.fills] WG from Bxb.out).elim fun tt htt => ⟨tt, (hk8 xb NXY.out (Bxb.out.lt)).trans htt⟩)
      refine hK.out _ _ (hbel8 _ _ Nyb.out hHeld) (fun hHeld => ?_)
      have B2yb := Lib.hid hb8
      clear hK K hb8 hk8 hs8 hbel8 Byb Bxb
      try simp only [Act.put, tkA, tkB, tkC]
      have Byb := B2yb
      clear B2yb
      have Bxb := B2xb
      clear B2xb
      refine wpAnyH_done (by as_aux_lemma => kernel_rfl) ?_ _
      go_wp2_with fail
      go_meet
      case rel =>
        exact ⟨_, _, rfl, rfl, Lib.hid hHeld, Nxb, Nyb, NXY, Bxb, Byb⟩
    refine AllReadyH.cons rfl (fun K hK => ?_) AllReadyH.nil
    go_simp
    have NX := Lib.hid hHeld.size
    have BX := Lib.hid (show Bl WD.heap.size [.int .i64 0, .bool false, .int .i64 0, .int .i64 0, .int .i64 0] (WD.alloc (Obj.cells #[.int .i64 0, .bool false, .int .i64 0, .int .i64 0, .int .i64 0] 42)) from Bl.new WD [.int .i64 0, .bool false, .int .i64 0, .int .i64 0, .int .i64 0] 42)
    refine hK.out _ _ (hHeld.alloc hHeld.size (Obj.cells #[.int .i64 0, .bool false, .int .i64 0, .int .i64 0, .int .i64 0] 42)) (fun hHeld => ?_)
    clear hK K
    try simp only [Act.put, tkA, tkB, tkC]
    generalize WD.alloc (Obj.cells #[.int .i64 0, .bool false, .int .i64 0, .int .i64 0, .int .i64 0] 42) = WE at hHeld BX  ⊢
    generalize WD.heap.size = yb at NX BX  ⊢
    have Nyb := NX
    have Byb := BX
    clear NX BX
    refine wpAnyH_ready (rs := [10]) (by as_aux_lemma => kernel_rfl) (by simp) ?_
    refine AllReadyH.cons rfl (fun K hK => ?_) AllReadyH.nil
    go_simp
    have NX := Lib.hid hHeld.size
    have BX := Lib.hid (show Bl WE.heap.size [.int .i64 0, .bool false, .int .i64 0, .int .i64 0, .int .i64 0] (WE.alloc (Obj.cells #[.int .i64 0, .bool false, .int .i64 0, .int .i64 0, .int .i64 0] 42)) from Bl.new WE [.int .i64 0, .bool false, .int .i64 0, .int .i64 0, .int .i64 0] 42)
    have B2yb := Lib.hid ((show Bl yb [.int .i64 0, .bool false, .int .i64 0, .int .i64 0, .int .i64 0] WE from Byb.out).below (w' := WE.alloc (Obj.cells #[.int .i64 0, .bool false, .int .i64 0, .int .i64 0, .int .i64 0] 42)) (by go_grown))
    have NEyb := Lib.hid (show WE.heap.size ≠ yb from fun e => by have := Byb.out.lt; omega)
    refine hK.out _ _ (hHeld.alloc hHeld.size (Obj.cells #[.int .i64 0, .bool false, .int .i64 0, .int .i64 0, .int .i64 0] 42)) (fun hHeld => ?_)
    clear hK K Byb
    try simp only [Act.put, tkA, tkB, tkC]
    generalize WE.alloc (Obj.cells #[.int .i64 0, .bool false, .int .i64 0, .int .i64 0, .int .i64 0] 42) = WF at hHeld BX B2yb ⊢
    generalize WE.heap.size = xb at NX BX NEyb ⊢
    have Nxb := NX
    have Bxb := BX
    clear NX BX
    have Byb := B2yb
    have NExbyb := NEyb
    clear B2yb NEyb
    have NXY := Lib.hid NExbyb.out
    refine wpAnyH_ready (rs := [12]) (by as_aux_lemma => kernel_rfl) (by simp) ?_
    refine AllReadyH.cons rfl (fun K hK => ?_) AllReadyH.nil
    refine wp_store_bl 42 (.tmp 6) (.tmp 17) rfl xb [.int .i64 0, .bool false, .int .i64 0, .int .i64 0, .int .i64 0] [.int .i64 t.sx.kind, .bool t.sx.flag, .int .i64 t.sx.gen, .int .i64 t.sx.left, .int .i64 t.sx.fills] rfl rfl Bxb.out rfl (by kernel_rfl) rfl (fun WG hb8 hk8 hs8 hbel8 => ?_)
    have B2yb := Lib.hid (show Bl yb [.int .i64 0, .bool false, .int .i64 0, .int .i64 0, .int .i64 0] WG from (show Bl yb [.int .i64 0, .bool false, .int .i64 0, .int .i64 0, .int .i64 0] WF from Byb.out).elim fun tt htt => ⟨tt, (hk8 yb (Ne.symm NXY.out) (Byb.out.lt)).trans htt⟩)
    refine hK.out _ _ (hbel8 _ _ Nxb.out hHeld) (fun hHeld => ?_)
    have B2xb := Lib.hid hb8
    clear hK K hb8 hk8 hs8 hbel8 Bxb Byb
    try simp only [Act.put, tkA, tkB, tkC]
    have Bxb := B2xb
    clear B2xb
    have Byb := B2yb
    clear B2yb
    refine wpAnyH_ready (rs := [13]) (by as_aux_lemma => kernel_rfl) (by simp) ?_
    refine AllReadyH.cons rfl (fun K hK => ?_) AllReadyH.nil
    refine wp_store_bl 42 (.tmp 7) (.tmp 22) rfl yb [.int .i64 0, .bool false, .int .i64 0, .int .i64 0, .int .i64 0] [.int .i64 t.sy.kind, .bool t.sy.flag, .int .i64 t.sy.gen, .int .i64 t.sy.left, .int .i64 t.sy.fills] rfl rfl Byb.out rfl (by kernel_rfl) rfl (fun WH hb8 hk8 hs8 hbel8 => ?_)
    have B2xb := Lib.hid (show Bl xb [.int .i64 t.sx.kind, .bool t.sx.flag, .int .i64 t.sx.gen, .int .i64 t.sx.left, .int .i64 t.sx.fills] WH from (show Bl xb [.int .i64 t.sx.kind, .bool t.sx.flag, .int .i64 t.sx.gen, .int .i64 t.sx.left, .int .i64 t.sx.fills] WG from Bxb.out).elim fun tt htt => ⟨tt, (hk8 xb NXY.out (Bxb.out.lt)).trans htt⟩)
    refine hK.out _ _ (hbel8 _ _ Nyb.out hHeld) (fun hHeld => ?_)
    have B2yb := Lib.hid hb8
    clear hK K hb8 hk8 hs8 hbel8 Byb Bxb
    try simp only [Act.put, tkA, tkB, tkC]
    have Byb := B2yb
    clear B2yb
    have Bxb := B2xb
    clear B2xb
    refine wpAnyH_done (by as_aux_lemma => kernel_rfl) ?_ _
    go_wp2_with fail
    go_meet
    case rel =>
      exact ⟨_, _, rfl, rfl, Lib.hid hHeld, Nxb, Nyb, NXY, Bxb, Byb⟩
  case rest =>
    obtain ⟨xb, yb, rfl, rfl, HB1, Nxb, Nyb, NXY, Bxb, Byb⟩ := hcut
    obtain ⟨w1, hw1⟩ : ∃ w1, w1 = wc := ⟨_, rfl⟩
    subst hw1
    go_wp2_with fail
    go_cut [8] (fun s8 wx => ∃ fb, s8 = .pointer (some ⟨fb, 0, none⟩) ∧ Hid (Below w.heap.size w wx) ∧ Hid (w.heap.size ≤ fb) ∧ Hid (fb ≠ xb) ∧ Hid (fb ≠ yb) ∧ Hid (Bl xb [.int .i64 t.sx.kind, .bool t.sx.flag, .int .i64 t.sx.gen, .int .i64 t.sx.left, .int .i64 t.sx.fills] wx) ∧ Hid (Bl yb [.int .i64 t.sy.kind, .bool t.sy.flag, .int .i64 t.sy.gen, .int .i64 t.sy.left, .int .i64 t.sy.fills] wx) ∧ Hid (Bl fb [.int .i64 1, .int .i64 t.q, .int .i64 t.p, .int .i64 t.tk, .int .i64 0, .int .i64 0] wx))
    case first =>
      have h1d : Below w.heap.size w w1.drew ∧ Bl xb [.int .i64 t.sx.kind, .bool t.sx.flag, .int .i64 t.sx.gen, .int .i64 t.sx.left, .int .i64 t.sx.fills] w1.drew ∧ Bl yb [.int .i64 t.sy.kind, .bool t.sy.flag, .int .i64 t.sy.gen, .int .i64 t.sy.left, .int .i64 t.sy.fills] w1.drew := ⟨HB1.out.drew, Bxb.out, Byb.out⟩
      refine wp_region_held_drew (S := fun w' => Below w.heap.size w w' ∧ Bl xb [.int .i64 t.sx.kind, .bool t.sx.flag, .int .i64 t.sx.gen, .int .i64 t.sx.left, .int .i64 t.sx.fills] w' ∧ Bl yb [.int .i64 t.sy.kind, .bool t.sy.flag, .int .i64 t.sy.gen, .int .i64 t.sy.left, .int .i64 t.sy.fills] w') (by kernel_rfl) h1d (fun hHeld => ?_)
      clear h1d
      generalize w1.drew = WD at hHeld ⊢
      refine tk (i := 0) (d := some 23) (v := ?_) (hy := Or.inl ⟨by rfl, ?_⟩) (h := ?_)
      rotate_left
      · intro wq hSw
        go_simp
        try with_reducible rfl
      simp only [Act.put, tkA, tkB, tkC]
      refine tk (i := 1) (d := some 24) (v := ?_) (hy := Or.inl ⟨by rfl, ?_⟩) (h := ?_)
      rotate_left
      · intro wq hSw
        go_simp
        try with_reducible rfl
      simp only [Act.put, tkA, tkB, tkC]
      refine tk (i := 2) (d := some 25) (v := ?_) (hy := Or.inl ⟨by rfl, ?_⟩) (h := ?_)
      rotate_left
      · intro wq hSw
        go_simp
        try with_reducible rfl
      simp only [Act.put, tkA, tkB, tkC]
      refine tk (i := 3) (d := some 26) (v := ?_) (hy := Or.inl ⟨by rfl, ?_⟩) (h := ?_)
      rotate_left
      · intro wq hSw
        go_simp
        try with_reducible rfl
      simp only [Act.put, tkA, tkB, tkC]
      refine tk (i := 4) (d := some 27) (v := ?_) (hy := Or.inl ⟨by rfl, ?_⟩) (h := ?_)
      rotate_left
      · intro wq hSw
        have hp9 := HP.out.below hSw.1
        have l9 := hp9.lt
        have x31 := hp9.cell 31 _ rfl
        go_simp
        try with_reducible rfl
      simp only [Act.put, tkA, tkB, tkC]
      refine tk (i := 5) (d := some 28) (v := ?_) (hy := Or.inl ⟨by rfl, ?_⟩) (h := ?_)
      rotate_left
      · intro wq hSw
        go_simp
        try with_reducible rfl
      simp only [Act.put, tkA, tkB, tkC]
      refine tk (i := 6) (d := some 29) (v := ?_) (hy := Or.inl ⟨by rfl, ?_⟩) (h := ?_)
      rotate_left
      · intro wq hSw
        go_simp
        try with_reducible rfl
      simp only [Act.put, tkA, tkB, tkC]
      refine tk (i := 7) (d := some 30) (v := ?_) (hy := Or.inl ⟨by rfl, ?_⟩) (h := ?_)
      rotate_left
      · intro wq hSw
        go_simp
        try with_reducible rfl
      simp only [Act.put, tkA, tkB, tkC]
      refine tk (i := 8) (d := some 31) (v := ?_) (hy := Or.inl ⟨by rfl, ?_⟩) (h := ?_)
      rotate_left
      · intro wq hSw
        go_simp
        try with_reducible rfl
      simp only [Act.put, tkA, tkB, tkC]
      refine tk (i := 9) (d := some 32) (v := ?_) (hy := Or.inl ⟨by rfl, ?_⟩) (h := ?_)
      rotate_left
      · intro wq hSw
        have hp9 := HP.out.below hSw.1
        have l9 := hp9.lt
        have x32 := hp9.cell 32 _ rfl
        go_simp
        try with_reducible rfl
      simp only [Act.put, tkA, tkB, tkC]
      refine tk (i := 10) (d := some 33) (v := ?_) (hy := Or.inl ⟨by rfl, ?_⟩) (h := ?_)
      rotate_left
      · intro wq hSw
        go_simp
        try with_reducible rfl
      simp only [Act.put, tkA, tkB, tkC]
      refine tk (i := 11) (d := some 34) (v := ?_) (hy := Or.inl ⟨by rfl, ?_⟩) (h := ?_)
      rotate_left
      · intro wq hSw
        go_simp
        try with_reducible rfl
      simp only [Act.put, tkA, tkB, tkC]
      refine tk (i := 12) (d := some 35) (v := ?_) (hy := Or.inl ⟨by rfl, ?_⟩) (h := ?_)
      rotate_left
      · intro wq hSw
        go_simp
        try with_reducible rfl
      simp only [Act.put, tkA, tkB, tkC]
      refine tk (i := 13) (d := some 36) (v := ?_) (hy := Or.inl ⟨by rfl, ?_⟩) (h := ?_)
      rotate_left
      · intro wq hSw
        have hp9 := HP.out.below hSw.1
        have l9 := hp9.lt
        have x33 := hp9.cell 33 _ rfl
        go_simp
        try with_reducible rfl
      simp only [Act.put, tkA, tkB, tkC]
      refine tk (i := 14) (d := some 37) (v := ?_) (hy := Or.inl ⟨by rfl, ?_⟩) (h := ?_)
      rotate_left
      · intro wq hSw
        go_simp
        try with_reducible rfl
      simp only [Act.put, tkA, tkB, tkC]
      refine wpAnyH_ready (rs := [15]) (by as_aux_lemma => kernel_rfl) (by simp) ?_
      refine AllReadyH.cons rfl (fun K hK => ?_) AllReadyH.nil
      go_simp
      have NX := Lib.hid hHeld.1.size
      have BX := Lib.hid (show Bl WD.heap.size [.int .i64 0, .int .i64 0, .int .i64 0, .int .i64 0, .int .i64 0, .int .i64 0] (WD.alloc (Obj.cells #[.int .i64 0, .int .i64 0, .int .i64 0, .int .i64 0, .int .i64 0, .int .i64 0] 65)) from Bl.new WD [.int .i64 0, .int .i64 0, .int .i64 0, .int .i64 0, .int .i64 0, .int .i64 0] 65)
      have NEx := Lib.hid (show WD.heap.size ≠ xb from fun e => by have := hHeld.2.1.lt; omega)
      have NEy := Lib.hid (show WD.heap.size ≠ yb from fun e => by have := hHeld.2.2.lt; omega)
      refine hK.out _ _ ⟨hHeld.1.alloc hHeld.1.size (Obj.cells #[.int .i64 0, .int .i64 0, .int .i64 0, .int .i64 0, .int .i64 0, .int .i64 0] 65), hHeld.2.1.below (w' := WD.alloc (Obj.cells #[.int .i64 0, .int .i64 0, .int .i64 0, .int .i64 0, .int .i64 0, .int .i64 0] 65)) (by go_grown), hHeld.2.2.below (w' := WD.alloc (Obj.cells #[.int .i64 0, .int .i64 0, .int .i64 0, .int .i64 0, .int .i64 0, .int .i64 0] 65)) (by go_grown)⟩ (fun hHeld => ?_)
      clear hK K
      try simp only [Act.put, tkA, tkB, tkC]
      generalize WD.alloc (Obj.cells #[.int .i64 0, .int .i64 0, .int .i64 0, .int .i64 0, .int .i64 0, .int .i64 0] 65) = WE at hHeld BX ⊢
      generalize WD.heap.size = fb at NX BX NEx NEy ⊢
      refine wpAnyH_ready (rs := [16]) (by as_aux_lemma => kernel_rfl) (by simp) ?_
      refine AllReadyH.cons rfl (fun K hK => ?_) AllReadyH.nil
      refine wp_store_bl 65 (.tmp 8) (.tmp 37) rfl fb [.int .i64 0, .int .i64 0, .int .i64 0, .int .i64 0, .int .i64 0, .int .i64 0] [.int .i64 1, .int .i64 t.q, .int .i64 t.p, .int .i64 t.tk, .int .i64 0, .int .i64 0] rfl rfl BX.out rfl (by kernel_rfl) rfl (fun WF hb8 hk8 hs8 hbel8 => ?_)
      refine hK.out _ _ ⟨hbel8 _ _ NX.out hHeld.1, hHeld.2.1.elim fun tt htt => ⟨tt, (hk8 xb (Ne.symm NEx.out) hHeld.2.1.lt).trans htt⟩, hHeld.2.2.elim fun tt htt => ⟨tt, (hk8 yb (Ne.symm NEy.out) hHeld.2.2.lt).trans htt⟩⟩ (fun hHeld => ?_)
      have BF := Lib.hid hb8
      clear hK K hb8 hk8 hs8 hbel8 BX
      try simp only [Act.put, tkA, tkB, tkC]
      refine wpAnyH_done (by as_aux_lemma => kernel_rfl) ?_ _
      go_wp2_with fail
      go_meet
      case rel =>
        exact ⟨_, rfl, Lib.hid hHeld.1, NX, NEx, NEy, Lib.hid hHeld.2.1, Lib.hid hHeld.2.2, BF⟩
    case rest =>
      obtain ⟨fb, rfl, HB2, Nfb, NFX, NFY, Cxb, Cyb, Bfb⟩ := hcut
      obtain ⟨w2, hw2⟩ : ∃ w2, w2 = wc := ⟨_, rfl⟩
      subst hw2
      clear Bxb Byb HB1
      have NFP := Lib.hid (show fb ≠ p from fun e => by have := Nfb.out; have := HA.out.lo; have := H.out.hK; omega)
      have NFM := Lib.hid (show fb ≠ M from fun e => by have := Nfb.out; have := H.out.lo.2.1; have := H.out.hK; omega)
      have NFB := Lib.hid (show fb ≠ B from fun e => by have := Nfb.out; have := H.out.lo.2.2.1; have := H.out.hK; omega)
      have NXM := Lib.hid (show xb ≠ M from fun e => by have := Nxb.out; have := H.out.lo.2.1; have := H.out.hK; omega)
      have NXB := Lib.hid (show xb ≠ B from fun e => by have := Nxb.out; have := H.out.lo.2.2.1; have := H.out.hK; omega)
      have NYM := Lib.hid (show yb ≠ M from fun e => by have := Nyb.out; have := H.out.lo.2.1; have := H.out.hK; omega)
      have NYB := Lib.hid (show yb ≠ B from fun e => by have := Nyb.out; have := H.out.lo.2.2.1; have := H.out.hK; omega)
      have hb2 := HP.out.below HB2.out
      have l2 := hb2.lt
      have k29' := k29.out w2 hb2
      clear hb2 k29
      go_wp2_with fail
      have h5 : Bl p (prc aX (i : Int) t) w2.drew ∧ Bl xb [.int .i64 t.sx.kind, .bool t.sx.flag, .int .i64 t.sx.gen, .int .i64 t.sx.left, .int .i64 t.sx.fills] w2.drew := ⟨HP.out.below HB2.out.drew, Cxb.out⟩
      have BD := Lib.hid (show Bl fb [.int .i64 1, .int .i64 t.q, .int .i64 t.p, .int .i64 t.tk, .int .i64 0, .int .i64 0] w2.drew from Bfb.out)
      have HBD := Lib.hid (show Below w.heap.size w w2.drew from HB2.out.drew)
      have HCX := Lib.hid (show Bl xb [.int .i64 t.sx.kind, .bool t.sx.flag, .int .i64 t.sx.gen, .int .i64 t.sx.left, .int .i64 t.sx.fills] w2.drew from Cxb.out)
      have HCY := Lib.hid (show Bl yb [.int .i64 t.sy.kind, .bool t.sy.flag, .int .i64 t.sy.gen, .int .i64 t.sy.left, .int .i64 t.sy.fills] w2.drew from Cyb.out)
      refine wp_region_held_drew (S := fun w' => Bl p (prc aX (i : Int) t) w' ∧ Bl xb [.int .i64 t.sx.kind, .bool t.sx.flag, .int .i64 t.sx.gen, .int .i64 t.sx.left, .int .i64 t.sx.fills] w') (by kernel_rfl) h5 (fun hHeld => ?_)
      clear h5 Bfb Cxb Cyb HB2
      generalize w2.drew = WD at hHeld BD HBD HCX HCY ⊢
      refine tk (i := 0) (d := some 72) (v := ?_) (hy := Or.inl ⟨by rfl, ?_⟩) (h := ?_)
      rotate_left
      · intro wq hSw
        go_simp
        try with_reducible rfl
      simp only [Act.put, tkA, tkB, tkC]
      refine tk (i := 1) (d := some 73) (v := ?_) (hy := Or.inl ⟨by rfl, ?_⟩) (h := ?_)
      rotate_left
      · intro wq hSw
        go_simp
        try with_reducible rfl
      simp only [Act.put, tkA, tkB, tkC]
      refine tk (i := 2) (d := some 74) (v := ?_) (hy := Or.inl ⟨by rfl, ?_⟩) (h := ?_)
      rotate_left
      · intro wq hSw
        go_simp
        try with_reducible rfl
      simp only [Act.put, tkA, tkB, tkC]
      refine tk (i := 3) (d := some 75) (v := ?_) (hy := Or.inl ⟨by rfl, ?_⟩) (h := ?_)
      rotate_left
      · intro wq hSw
        go_simp
        try with_reducible rfl
      simp only [Act.put, tkA, tkB, tkC]
      refine tk (i := 4) (d := some 76) (v := ?_) (hy := Or.inl ⟨by rfl, ?_⟩) (h := ?_)
      rotate_left
      · intro wq hSw
        have hb9 := hSw.1
        have l7 := hb9.lt
        have z1 := hb9.cell 1 _ rfl
        go_simp
        try with_reducible rfl
      simp only [Act.put, tkA, tkB, tkC]
      refine tk (i := 5) (d := some 77) (v := ?_) (hy := Or.inl ⟨by rfl, ?_⟩) (h := ?_)
      rotate_left
      · intro wq hSw
        go_simp
        try with_reducible rfl
      simp only [Act.put, tkA, tkB, tkC]
      refine tk (i := 6) (d := some 78) (v := ?_) (hy := Or.inl ⟨by rfl, ?_⟩) (h := ?_)
      rotate_left
      · intro wq hSw
        have hb9 := hSw.2
        have l7 := hb9.lt
        have z2 := hb9.cell 2 _ rfl
        go_simp
        try with_reducible rfl
      simp only [Act.put, tkA, tkB, tkC]
      refine tk (i := 7) (d := some 79) (v := ?_) (hy := Or.inl ⟨by rfl, ?_⟩) (h := ?_)
      rotate_left
      · intro wq hSw
        go_simp
        try with_reducible rfl
      simp only [Act.put, tkA, tkB, tkC]
      refine wpAnyH_ready (rs := [8]) (by as_aux_lemma => kernel_rfl) (by simp) ?_
      refine AllReadyH.cons rfl (fun K hK => ?_) AllReadyH.nil
      have d0 := BD.out.cell 4 _ rfl
      have f0 := BD.out.frz 4
      have l0 := BD.out.lt
      go_simp
      have BE := Lib.hid (show Bl fb [.int .i64 1, .int .i64 t.q, .int .i64 t.p, .int .i64 t.tk, .int .i64 aX, .int .i64 0] (WD.setCell ⟨fb, 4, none⟩ (.int .i64 aX)) from BD.out.set 4 (.int .i64 aX))
      have HBE := Lib.hid (HBD.out.setCell (p := ⟨fb, 4, none⟩) Nfb.out (.int .i64 aX))
      have HCX2 := Lib.hid (HCX.out.far (p := ⟨fb, 4, none⟩) NFX.out (.int .i64 aX))
      have HCY2 := Lib.hid (HCY.out.far (p := ⟨fb, 4, none⟩) NFY.out (.int .i64 aX))
      refine hK.out _ _ ⟨hHeld.1.far (p := ⟨fb, 4, none⟩) NFP.out (.int .i64 aX), hHeld.2.far (p := ⟨fb, 4, none⟩) NFX.out (.int .i64 aX)⟩ (fun hHeld => ?_)
      clear hK K d0 f0 l0 BD HBD HCX HCY
      try simp only [Act.put, tkA, tkB, tkC]
      generalize WD.setCell ⟨fb, 4, none⟩ (.int .i64 aX) = WE at hHeld BE HBE HCX2 HCY2 ⊢
      have BD := BE
      have HBD := HBE
      have HCX := HCX2
      have HCY := HCY2
      clear BE HBE HCX2 HCY2
      refine tk (i := 9) (d := some 80) (v := ?_) (hy := Or.inl ⟨by rfl, ?_⟩) (h := ?_)
      rotate_left
      · intro wq hSw
        go_simp
        try with_reducible rfl
      simp only [Act.put, tkA, tkB, tkC]
      refine wpAnyH_ready (rs := [10]) (by as_aux_lemma => kernel_rfl) (by simp) ?_
      refine AllReadyH.cons rfl (fun K hK => ?_) AllReadyH.nil
      have d0 := BD.out.cell 5 _ rfl
      have f0 := BD.out.frz 5
      have l0 := BD.out.lt
      go_simp
      have BE := Lib.hid (show Bl fb [.int .i64 1, .int .i64 t.q, .int .i64 t.p, .int .i64 t.tk, .int .i64 aX, .int .i64 t.sx.gen] (WE.setCell ⟨fb, 5, none⟩ (.int .i64 t.sx.gen)) from BD.out.set 5 (.int .i64 t.sx.gen))
      have HBE := Lib.hid (HBD.out.setCell (p := ⟨fb, 5, none⟩) Nfb.out (.int .i64 t.sx.gen))
      have HCX2 := Lib.hid (HCX.out.far (p := ⟨fb, 5, none⟩) NFX.out (.int .i64 t.sx.gen))
      have HCY2 := Lib.hid (HCY.out.far (p := ⟨fb, 5, none⟩) NFY.out (.int .i64 t.sx.gen))
      refine hK.out _ _ ⟨hHeld.1.far (p := ⟨fb, 5, none⟩) NFP.out (.int .i64 t.sx.gen), hHeld.2.far (p := ⟨fb, 5, none⟩) NFX.out (.int .i64 t.sx.gen)⟩ (fun hHeld => ?_)
      clear hK K d0 f0 l0 BD HBD HCX HCY
      try simp only [Act.put, tkA, tkB, tkC]
      generalize WE.setCell ⟨fb, 5, none⟩ (.int .i64 t.sx.gen) = w3 at hHeld BE HBE HCX2 HCY2 ⊢
      have BD := BE
      have HBD := HBE
      have HCX := HCX2
      have HCY := HCY2
      clear BE HBE HCX2 HCY2
      refine wpAnyH_done (by as_aux_lemma => kernel_rfl) ?_ _
      go_wp2_with fail
      have h6 : Bl p (prc aX (i : Int) t) w3.drew ∧ Bl yb [.int .i64 t.sy.kind, .bool t.sy.flag, .int .i64 t.sy.gen, .int .i64 t.sy.left, .int .i64 t.sy.fills] w3.drew ∧ Bl fb [.int .i64 1, .int .i64 t.q, .int .i64 t.p, .int .i64 t.tk, .int .i64 aX, .int .i64 t.sx.gen] w3.drew := ⟨HP.out.below HBD.out.drew, HCY.out, BD.out⟩
      have HW3 := Lib.hid (H.out.below HBD.out.drew)
      have HFM := Lib.hid (show Fm M B w w3.drew from Fm.of HBD.out.drew)
      refine wp_region_held_drew (S := fun w' => Bl p (prc aX (i : Int) t) w' ∧ Bl yb [.int .i64 t.sy.kind, .bool t.sy.flag, .int .i64 t.sy.gen, .int .i64 t.sy.left, .int .i64 t.sy.fills] w' ∧ Bl fb [.int .i64 1, .int .i64 t.q, .int .i64 t.p, .int .i64 t.tk, .int .i64 aX, .int .i64 t.sx.gen] w') (by kernel_rfl) h6 (fun hHeld => ?_)
      clear h6
      generalize w3.drew = WD at hHeld HW3 HFM ⊢
      refine tk (i := 0) (d := some 81) (v := ?_) (hy := Or.inl ⟨by rfl, ?_⟩) (h := ?_)
      rotate_left
      · intro wq hSw
        go_simp
        try with_reducible rfl
      simp only [Act.put, tkA, tkB, tkC]
      refine tk (i := 1) (d := some 82) (v := ?_) (hy := Or.inl ⟨by rfl, ?_⟩) (h := ?_)
      rotate_left
      · intro wq hSw
        go_simp
        try with_reducible rfl
      simp only [Act.put, tkA, tkB, tkC]
      refine tk (i := 2) (d := some 83) (v := ?_) (hy := Or.inl ⟨by rfl, ?_⟩) (h := ?_)
      rotate_left
      · intro wq hSw
        go_simp
        try with_reducible rfl
      simp only [Act.put, tkA, tkB, tkC]
      refine tk (i := 3) (d := some 84) (v := ?_) (hy := Or.inl ⟨by rfl, ?_⟩) (h := ?_)
      rotate_left
      · intro wq hSw
        go_simp
        try with_reducible rfl
      simp only [Act.put, tkA, tkB, tkC]
      refine tk (i := 4) (d := some 85) (v := ?_) (hy := Or.inl ⟨by rfl, ?_⟩) (h := ?_)
      rotate_left
      · intro wq hSw
        go_simp
        try with_reducible rfl
      simp only [Act.put, tkA, tkB, tkC]
      refine tk (i := 5) (d := some 86) (v := ?_) (hy := Or.inl ⟨by rfl, ?_⟩) (h := ?_)
      rotate_left
      · intro wq hSw
        have hb9 := hSw.1
        have l7 := hb9.lt
        have z3 := hb9.cell 3 _ rfl
        go_simp
        try with_reducible rfl
      simp only [Act.put, tkA, tkB, tkC]
      refine tk (i := 6) (d := some 87) (v := ?_) (hy := Or.inl ⟨by rfl, ?_⟩) (h := ?_)
      rotate_left
      · intro wq hSw
        go_simp
        try with_reducible rfl
      simp only [Act.put, tkA, tkB, tkC]
      refine tk (i := 7) (d := some 88) (v := ?_) (hy := Or.inl ⟨by rfl, ?_⟩) (h := ?_)
      rotate_left
      · intro wq hSw
        have hb9 := hSw.2.1
        have l7 := hb9.lt
        have z2 := hb9.cell 2 _ rfl
        go_simp
        try with_reducible rfl
      simp only [Act.put, tkA, tkB, tkC]
      refine tk (i := 8) (d := some 89) (v := ?_) (hy := Or.inl ⟨by rfl, ?_⟩) (h := ?_)
      rotate_left
      · intro wq hSw
        go_simp
        try with_reducible rfl
      simp only [Act.put, tkA, tkB, tkC]
      refine tk (i := 9) (d := some 90) (v := ?_) (hy := Or.inl ⟨by rfl, ?_⟩) (h := ?_)
      rotate_left
      · intro wq hSw
        have hb9 := hSw.2.1
        have l7 := hb9.lt
        have z4 := hb9.cell 4 _ rfl
        go_simp
        try with_reducible rfl
      simp only [Act.put, tkA, tkB, tkC]
      refine tk (i := 10) (d := some 91) (v := ?_) (hy := Or.inl ⟨by rfl, ?_⟩) (h := ?_)
      rotate_left
      · intro wq hSw
        have hb9 := hSw.2.2
        have l7 := hb9.lt
        have z0 := hb9.cell 0 _ rfl
        have z1 := hb9.cell 1 _ rfl
        have z2 := hb9.cell 2 _ rfl
        have z3 := hb9.cell 3 _ rfl
        have z4 := hb9.cell 4 _ rfl
        have z5 := hb9.cell 5 _ rfl
        go_simp
        try with_reducible rfl
      simp only [Act.put, tkA, tkB, tkC]
      refine wpAnyH_ready (rs := [11]) (by as_aux_lemma => kernel_rfl) (by simp) ?_
      refine AllReadyH.cons rfl (fun K hK => ?_) AllReadyH.nil
      go_simp
      refine (HNO.out _ HW3.out).mono ?_
      rintro e w4 ⟨rfl, hw4, hf4⟩
      have HW4 := Lib.hid hw4
      have HF4 := Lib.hid (HFM.out.trans hf4)
      have HP4 := Lib.hid (hf4.bl hHeld.1 HA.out.nM HA.out.nB)
      refine hK.out _ _ ⟨HP4.out, hf4.bl hHeld.2.1 NYM.out NYB.out, hf4.bl hHeld.2.2 NFM.out NFB.out⟩ (fun hHeld => ?_)
      clear hK K hw4 hf4
      try simp only [Act.put, tkA, tkB, tkC]
      refine wpAnyH_done (by as_aux_lemma => kernel_rfl) ?_ _
      go_wp2
      go_end0
      exact ⟨rfl, HW4.out, HP4.out, HF4.out⟩
end
end Go.Proofs.Ytmjkhefgpobinaa
