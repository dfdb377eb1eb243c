/-
  Texts of the machine of pairs, part 17.
-/
import Derived.Test.YtmjkhefgpobinaaM1
import Derived.Test.YtmjkhefgpobinaaM12
import Derived.Test.YtmjkhefgpobinaaM15
import Derived.Test.YtmjkhefgpobinaaM16
namespace Go.Proofs.Ytmjkhefgpobinaa
open Go.ChangeShapes Go.WideShapes Go.ChangeAt Go.RowKit
section
variable {K : Nat} {C : Cfg} {W M B Ck p : Nat} {ws ws' : Nat → Int} {st st' now : Int} {lv : Value} {L : List Lg} {w w' : World} {aX aY : Int} {t : Tr Tm5}
set_option maxRecDepth 100000 in
set_option maxHeartbeats 16000000 in
theorem free_n (s : Int) (hp : Bl p (prc aX aY t) w) (hm : ¬ (t.held = true ∧ t.freed = false)) :
    Calls Try.prog 39 #[.pointer (some ⟨p, 0, none⟩), .pointer (some ⟨W, 0, none⟩), .int .i64 s] w fun e w' => e = .returned (.tuple #[]) ∧ Below w.heap.size w w' := by
  have hl := hp.lt
  cases hh : t.held with
  | false =>
    have k28 : w.cell? ⟨p, 28, none⟩ = some (.bool false) := by rw [← hh]; exact hp.cell 28 _ rfl
    clear hp hm hh
    go_enter Try.func39, Try.ntmps39
    go_wp2
    refine bodyPost_ret (results_none rfl _ _ _) rfl ?_
    exact ⟨rfl, by go_grown⟩
  | true =>
    have hf0 : t.freed = true := by
      cases hq : t.freed with
      | true => rfl
      | false => exact absurd ⟨hh, hq⟩ hm
    have k28 : w.cell? ⟨p, 28, none⟩ = some (.bool true) := by rw [← hh]; exact hp.cell 28 _ rfl
    have k30 : w.cell? ⟨p, 30, none⟩ = some (.bool true) := by rw [← hf0]; exact hp.cell 30 _ rfl
    clear hp hm hh hf0
    go_enter Try.func39, Try.ntmps39
    go_wp2
    refine bodyPost_ret (results_none rfl _ _ _) rfl ?_
    exact ⟨rfl, by go_grown⟩
set_option maxRecDepth 100000 in
set_option maxHeartbeats 16000000 in
theorem free_6 (h : PW K C W M B Ck ws st now lv L w) (hC : C.Ok) (ha : Ap K W M B Ck p) (hp : Bl p (prc aX aY t) w) (hh : t.held = true) (hfr : t.freed = false) (s : Cs) (hs : FitS s) (i : Nat) (hi : i < C.A) (hx : ws (2 * i) = (cw s : Int)) (hax : aX = (i : Int)) (hst : 0 ≤ st ∧ st ≤ 1000000) :
    Calls Try.prog 39 #[.pointer (some ⟨p, 0, none⟩), .pointer (some ⟨W, 0, none⟩), .int .i64 6] w fun e w' => e = .returned (.tuple #[]) ∧ PW K C W M B Ck ws (st + 1) now lv L w' ∧ Bl p (prc aX aY { t with nw := s }) w' ∧ Fq M B p w w' := by
  have HCALL := Lib.hid (fun (W' : World) (hW' : PW K C W M B Ck ws st now lv L W') => show Calls Try.prog 13 #[.pointer (some ⟨W, 0, none⟩), .int .i64 (i : Int)] W' fun e w' => e = .returned (.tuple #[.int .u64 (cw s : Int), sc s]) ∧ PW K C W M B Ck ws (st + 1) now lv L w' ∧ Fm M B W' w' from by
    have hc := state_w hW' hC i hi (cw s) hx hst
    rw [sv_cw s hs] at hc
    exact hc)
  have k28 : w.cell? ⟨p, 28, none⟩ = some (.bool true) := by rw [← hh]; exact hp.cell 28 _ rfl
  have k30 : w.cell? ⟨p, 30, none⟩ = some (.bool false) := by rw [← hfr]; exact hp.cell 30 _ rfl
  have c1 := hp.cell 1 _ rfl
  rw [hax] at c1
  have H := Lib.hid h
  have HP := Lib.hid hp
  have HA := Lib.hid ha
  have hl := hp.lt
  clear h hp hax hC hs hx hst ha hh hfr
  unfold sc at HCALL
  go_enter Try.func39, Try.ntmps39
  go_wp2_with fail
  refine (HCALL.out _ H.out).mono ?_
  rintro e w1 ⟨rfl, hP1, hF1⟩
  have HP1 := Lib.hid hP1
  have hp1 := hF1.bl HP.out HA.out.nM HA.out.nB
  have HF1 := Lib.hid hF1
  have HB1 := Lib.hid hp1
  have d39 := hp1.cell 39 _ rfl
  have f39 := hp1.frz 39
  have d40 := hp1.cell 40 _ rfl
  have f40 := hp1.frz 40
  have d41 := hp1.cell 41 _ rfl
  have f41 := hp1.frz 41
  have d42 := hp1.cell 42 _ rfl
  have f42 := hp1.frz 42
  have d43 := hp1.cell 43 _ rfl
  have f43 := hp1.frz 43
  have d44 := hp1.cell 44 _ rfl
  have f44 := hp1.frz 44
  have hl1 := hp1.lt
  clear hP1 hF1 hp1
  go_wp2
  refine bodyPost_ret (results_none rfl _ _ _) rfl ?_
  refine ⟨rfl, ((((((HP1.out.pset HA.out 39 _).pset HA.out 40 _).pset HA.out 41 _).pset HA.out 42 _).pset HA.out 43 _).pset HA.out 44 _), ((((((HB1.out.set 39 _).set 40 _).set 41 _).set 42 _).set 43 _).set 44 _), (((((((Fq.of HF1.out).set 39 _).set 40 _).set 41 _).set 42 _).set 43 _).set 44 _)⟩
set_option maxRecDepth 100000 in
set_option maxHeartbeats 16000000 in
theorem free_8 (h : PW K C W M B Ck ws st now lv L w) (hC : C.Ok) (ha : Ap K W M B Ck p) (hp : Bl p (prc aX aY t) w) (hh : t.held = true) (hfr : t.freed = false) (s : Cs) (hs : FitS s) (i : Nat) (hi : i < C.A) (hx : ws (2 * i) = (cw s : Int)) (hax : aX = (i : Int)) (hst : 0 ≤ st ∧ st ≤ 1000000) :
    Calls Try.prog 39 #[.pointer (some ⟨p, 0, none⟩), .pointer (some ⟨W, 0, none⟩), .int .i64 8] w fun e w' => e = .returned (.tuple #[]) ∧ PW K C W M B Ck ws (st + 1) now lv L w' ∧ Bl p (prc aX aY { t with nw := s }) w' ∧ Fq M B p w w' := by
  have HCALL := Lib.hid (fun (W' : World) (hW' : PW K C W M B Ck ws st now lv L W') => show Calls Try.prog 13 #[.pointer (some ⟨W, 0, none⟩), .int .i64 (i : Int)] W' fun e w' => e = .returned (.tuple #[.int .u64 (cw s : Int), sc s]) ∧ PW K C W M B Ck ws (st + 1) now lv L w' ∧ Fm M B W' w' from by
    have hc := state_w hW' hC i hi (cw s) hx hst
    rw [sv_cw s hs] at hc
    exact hc)
  have k28 : w.cell? ⟨p, 28, none⟩ = some (.bool true) := by rw [← hh]; exact hp.cell 28 _ rfl
  have k30 : w.cell? ⟨p, 30, none⟩ = some (.bool false) := by rw [← hfr]; exact hp.cell 30 _ rfl
  have c1 := hp.cell 1 _ rfl
  rw [hax] at c1
  have H := Lib.hid h
  have HP := Lib.hid hp
  have HA := Lib.hid ha
  have hl := hp.lt
  clear h hp hax hC hs hx hst ha hh hfr
  unfold sc at HCALL
  go_enter Try.func39, Try.ntmps39
  go_wp2_with fail
  refine (HCALL.out _ H.out).mono ?_
  rintro e w1 ⟨rfl, hP1, hF1⟩
  have HP1 := Lib.hid hP1
  have hp1 := hF1.bl HP.out HA.out.nM HA.out.nB
  have HF1 := Lib.hid hF1
  have HB1 := Lib.hid hp1
  have d39 := hp1.cell 39 _ rfl
  have f39 := hp1.frz 39
  have d40 := hp1.cell 40 _ rfl
  have f40 := hp1.frz 40
  have d41 := hp1.cell 41 _ rfl
  have f41 := hp1.frz 41
  have d42 := hp1.cell 42 _ rfl
  have f42 := hp1.frz 42
  have d43 := hp1.cell 43 _ rfl
  have f43 := hp1.frz 43
  have d44 := hp1.cell 44 _ rfl
  have f44 := hp1.frz 44
  have hl1 := hp1.lt
  clear hP1 hF1 hp1
  go_wp2
  refine bodyPost_ret (results_none rfl _ _ _) rfl ?_
  refine ⟨rfl, ((((((HP1.out.pset HA.out 39 _).pset HA.out 40 _).pset HA.out 41 _).pset HA.out 42 _).pset HA.out 43 _).pset HA.out 44 _), ((((((HB1.out.set 39 _).set 40 _).set 41 _).set 42 _).set 43 _).set 44 _), (((((((Fq.of HF1.out).set 39 _).set 40 _).set 41 _).set 42 _).set 43 _).set 44 _)⟩
set_option maxRecDepth 100000 in
set_option maxHeartbeats 16000000 in
theorem free_ob (s : Int) (hs9 : s = 7 ∨ s = 9) (h : PW K C W M B Ck ws st now lv L w) (hC : C.Ok) (ha : Ap K W M B Ck p) (i : Nat) (hi : i < C.A) (hp : Bl p (prc (i : Int) aY t) w) (hh : t.held = true) (hfr : t.freed = false) (hk : ∃ v : Int, ∀ w, Calls Try.prog 63 #[sc t.nw, .int .i64 t.q, .int .i64 (C.f : Int)] w (Gives w 0 0 0 0 false (.iface 126 (.int .i64 v))))  (hst : 0 ≤ st ∧ st ≤ 1000000) :
    Calls Try.prog 39 #[.pointer (some ⟨p, 0, none⟩), .pointer (some ⟨W, 0, none⟩), .int .i64 s] w fun e w' => e = .returned (.tuple #[]) ∧ PW K C W M B Ck ws st now lv L w' ∧ Bl p (prc (i : Int) aY t) w' ∧ Fs W M B p lv w w' := by
  have ht9 : s.tmod 2 = 1 := by rcases hs9 with rfl | rfl <;> rfl
  clear hs9
  have k28 : w.cell? ⟨p, 28, none⟩ = some (.bool true) := by rw [← hh]; exact hp.cell 28 _ rfl
  have k30 : w.cell? ⟨p, 30, none⟩ = some (.bool false) := by rw [← hfr]; exact hp.cell 30 _ rfl
  have H := Lib.hid h
  have HP := Lib.hid hp
  have HA := Lib.hid ha
  have hl := hp.lt
  obtain ⟨v, hk⟩ := hk
  unfold sc at hk
  obtain ⟨s5, hs5⟩ : ∃ s5 : Cs, s5 = ⟨0, false, 0, 0, 0⟩ := ⟨_, rfl⟩
  have HTK := Lib.hid (show ∀ w, Calls Try.prog 63 #[.agg #[.int .i64 t.nw.kind, .bool t.nw.flag, .int .i64 t.nw.gen, .int .i64 t.nw.left, .int .i64 t.nw.fills], .int .i64 t.q, .int .i64 (C.f : Int)] w (Gives w s5.kind s5.gen s5.left s5.fills s5.flag (.iface 126 (.int .i64 v))) from by rw [hs5]; exact hk)
  clear hs5 hk hC h hp ha hh hfr hst
  have lW := H.out.blk.lt
  have N2 : w.heap.size ≠ p := fun e => by omega
  have N3 : w.heap.size ≠ W := fun e => by omega
  have hp6 : Bl p (prc (i : Int) aY t) w.drew := HP.out
  have hw6 : Bl W [.int .i64 (C.p : Int), .int .i64 (C.c : Int), .int .i64 C.n, .int .i64 C.b, .int .i64 C.r, .int .i64 (C.f : Int), .int .i64 (C.g : Int), .pointer (some ⟨M, 0, none⟩), .pointer (some ⟨Ck, 0, none⟩), lv] w.drew := H.out.blk
  have hT0 : w.drew.cell? ⟨p, 40, none⟩ = some (.int .i64 t.nw.kind) ∧ w.drew.cell? ⟨p, 41, none⟩ = some (.bool t.nw.flag) ∧ w.drew.cell? ⟨p, 42, none⟩ = some (.int .i64 t.nw.gen) ∧ w.drew.cell? ⟨p, 43, none⟩ = some (.int .i64 t.nw.left) ∧ w.drew.cell? ⟨p, 44, none⟩ = some (.int .i64 t.nw.fills) ∧ w.drew.cell? ⟨p, 31, none⟩ = some (.int .i64 t.q) ∧ w.drew.cell? ⟨W, 5, none⟩ = some (.int .i64 (C.f : Int)) := ⟨hp6.cell 40 _ rfl, hp6.cell 41 _ rfl, hp6.cell 42 _ rfl, hp6.cell 43 _ rfl, hp6.cell 44 _ rfl, hp6.cell 31 _ rfl, hw6.cell 5 _ rfl⟩
  have hpz : Bl p (prc (i : Int) aY t) (w.alloc (Obj.cells #[.int .i64 0, .bool false, .int .i64 0, .int .i64 0, .int .i64 0] 42)).drew := HP.out.below (by go_grown)
  have hwz : Bl W [.int .i64 (C.p : Int), .int .i64 (C.c : Int), .int .i64 C.n, .int .i64 C.b, .int .i64 C.r, .int .i64 (C.f : Int), .int .i64 (C.g : Int), .pointer (some ⟨M, 0, none⟩), .pointer (some ⟨Ck, 0, none⟩), lv] (w.alloc (Obj.cells #[.int .i64 0, .bool false, .int .i64 0, .int .i64 0, .int .i64 0] 42)).drew := H.out.blk.below (by go_grown)
  have hTz : (w.alloc (Obj.cells #[.int .i64 0, .bool false, .int .i64 0, .int .i64 0, .int .i64 0] 42)).drew.cell? ⟨p, 40, none⟩ = some (.int .i64 t.nw.kind) ∧ (w.alloc (Obj.cells #[.int .i64 0, .bool false, .int .i64 0, .int .i64 0, .int .i64 0] 42)).drew.cell? ⟨p, 41, none⟩ = some (.bool t.nw.flag) ∧ (w.alloc (Obj.cells #[.int .i64 0, .bool false, .int .i64 0, .int .i64 0, .int .i64 0] 42)).drew.cell? ⟨p, 42, none⟩ = some (.int .i64 t.nw.gen) ∧ (w.alloc (Obj.cells #[.int .i64 0, .bool false, .int .i64 0, .int .i64 0, .int .i64 0] 42)).drew.cell? ⟨p, 43, none⟩ = some (.int .i64 t.nw.left) ∧ (w.alloc (Obj.cells #[.int .i64 0, .bool false, .int .i64 0, .int .i64 0, .int .i64 0] 42)).drew.cell? ⟨p, 44, none⟩ = some (.int .i64 t.nw.fills) ∧ (w.alloc (Obj.cells #[.int .i64 0, .bool false, .int .i64 0, .int .i64 0, .int .i64 0] 42)).drew.cell? ⟨p, 31, none⟩ = some (.int .i64 t.q) ∧ (w.alloc (Obj.cells #[.int .i64 0, .bool false, .int .i64 0, .int .i64 0, .int .i64 0] 42)).drew.cell? ⟨W, 5, none⟩ = some (.int .i64 (C.f : Int)) := ⟨hpz.cell 40 _ rfl, hpz.cell 41 _ rfl, hpz.cell 42 _ rfl, hpz.cell 43 _ rfl, hpz.cell 44 _ rfl, hpz.cell 31 _ rfl, hwz.cell 5 _ rfl⟩
  have htz : Bl w.heap.size [.int .i64 0, .bool false, .int .i64 0, .int .i64 0, .int .i64 0] (w.alloc (Obj.cells #[.int .i64 0, .bool false, .int .i64 0, .int .i64 0, .int .i64 0] 42)).drew := Bl.new w [.int .i64 0, .bool false, .int .i64 0, .int .i64 0, .int .i64 0] 42
  have KP := Lib.hid hp6
  have KW := Lib.hid hw6
  have KPZ := Lib.hid hpz
  have KWZ := Lib.hid hwz
  have KTZ := Lib.hid htz
  have N2H := Lib.hid N2
  have N3H := Lib.hid N3
  clear hp6 hw6 hpz hwz htz N2 N3
  go_enter Try.func39, Try.ntmps39
  go_wp2_with fail
  go_cut [6, 7] (fun s6 s7 wx => ∃ tb, s6 = .pointer (some ⟨tb, 0, none⟩) ∧ s7 = (.iface 126 (.int .i64 v)) ∧ Hid (Below w.heap.size w wx) ∧ Hid (w.heap.size ≤ tb) ∧ Hid (Bl tb [.int .i64 s5.kind, .bool s5.flag, .int .i64 s5.gen, .int .i64 s5.left, .int .i64 s5.fills] wx) ∧ Hid (Bl p (prc (i : Int) aY t) wx))
  case first =>
    go_region_held3 (fun w' => w'.cell? ⟨p, 40, none⟩ = some (.int .i64 t.nw.kind) ∧ w'.cell? ⟨p, 41, none⟩ = some (.bool t.nw.flag) ∧ w'.cell? ⟨p, 42, none⟩ = some (.int .i64 t.nw.gen) ∧ w'.cell? ⟨p, 43, none⟩ = some (.int .i64 t.nw.left) ∧ w'.cell? ⟨p, 44, none⟩ = some (.int .i64 t.nw.fills) ∧ w'.cell? ⟨p, 31, none⟩ = some (.int .i64 t.q) ∧ w'.cell? ⟨W, 5, none⟩ = some (.int .i64 (C.f : Int))) (first | with_reducible exact hT0 | with_reducible exact hTz | with_reducible exact hT1 | with_reducible exact hT2 | with_reducible exact hT3 | with_reducible exact hTd1 | with_reducible exact hTd2 | fail)
      (first
        | ((with_reducible refine (HTK.out w.drew).mono ?_); rintro e wyc ⟨rfl, hbyc⟩; have hpc := KP.out.below hbyc; have hwc := KW.out.below hbyc; have HBC := Lib.hid hbyc; have lpc := hpc.lt; have lwc := hwc.lt; have hT1 : wyc.cell? ⟨p, 40, none⟩ = some (.int .i64 t.nw.kind) ∧ wyc.cell? ⟨p, 41, none⟩ = some (.bool t.nw.flag) ∧ wyc.cell? ⟨p, 42, none⟩ = some (.int .i64 t.nw.gen) ∧ wyc.cell? ⟨p, 43, none⟩ = some (.int .i64 t.nw.left) ∧ wyc.cell? ⟨p, 44, none⟩ = some (.int .i64 t.nw.fills) ∧ wyc.cell? ⟨p, 31, none⟩ = some (.int .i64 t.q) ∧ wyc.cell? ⟨W, 5, none⟩ = some (.int .i64 (C.f : Int)) := ⟨hpc.cell 40 _ rfl, hpc.cell 41 _ rfl, hpc.cell 42 _ rfl, hpc.cell 43 _ rfl, hpc.cell 44 _ rfl, hpc.cell 31 _ rfl, hwc.cell 5 _ rfl⟩; have hp2 := hpc.below (w' := wyc.alloc (Obj.cells #[.int .i64 0, .bool false, .int .i64 0, .int .i64 0, .int .i64 0] 42)) (by go_grown); have hw2 := hwc.below (w' := wyc.alloc (Obj.cells #[.int .i64 0, .bool false, .int .i64 0, .int .i64 0, .int .i64 0] 42)) (by go_grown); have hT2 : (wyc.alloc (Obj.cells #[.int .i64 0, .bool false, .int .i64 0, .int .i64 0, .int .i64 0] 42)).cell? ⟨p, 40, none⟩ = some (.int .i64 t.nw.kind) ∧ (wyc.alloc (Obj.cells #[.int .i64 0, .bool false, .int .i64 0, .int .i64 0, .int .i64 0] 42)).cell? ⟨p, 41, none⟩ = some (.bool t.nw.flag) ∧ (wyc.alloc (Obj.cells #[.int .i64 0, .bool false, .int .i64 0, .int .i64 0, .int .i64 0] 42)).cell? ⟨p, 42, none⟩ = some (.int .i64 t.nw.gen) ∧ (wyc.alloc (Obj.cells #[.int .i64 0, .bool false, .int .i64 0, .int .i64 0, .int .i64 0] 42)).cell? ⟨p, 43, none⟩ = some (.int .i64 t.nw.left) ∧ (wyc.alloc (Obj.cells #[.int .i64 0, .bool false, .int .i64 0, .int .i64 0, .int .i64 0] 42)).cell? ⟨p, 44, none⟩ = some (.int .i64 t.nw.fills) ∧ (wyc.alloc (Obj.cells #[.int .i64 0, .bool false, .int .i64 0, .int .i64 0, .int .i64 0] 42)).cell? ⟨p, 31, none⟩ = some (.int .i64 t.q) ∧ (wyc.alloc (Obj.cells #[.int .i64 0, .bool false, .int .i64 0, .int .i64 0, .int .i64 0] 42)).cell? ⟨W, 5, none⟩ = some (.int .i64 (C.f : Int)) := ⟨hp2.cell 40 _ rfl, hp2.cell 41 _ rfl, hp2.cell 42 _ rfl, hp2.cell 43 _ rfl, hp2.cell 44 _ rfl, hp2.cell 31 _ rfl, hw2.cell 5 _ rfl⟩; have hp3 := hpc.below (w' := wyc.alloc (Obj.cells #[.int .i64 s5.kind, .bool s5.flag, .int .i64 s5.gen, .int .i64 s5.left, .int .i64 s5.fills] 42)) (by go_grown); have hw3 := hwc.below (w' := wyc.alloc (Obj.cells #[.int .i64 s5.kind, .bool s5.flag, .int .i64 s5.gen, .int .i64 s5.left, .int .i64 s5.fills] 42)) (by go_grown); have hT3 : (wyc.alloc (Obj.cells #[.int .i64 s5.kind, .bool s5.flag, .int .i64 s5.gen, .int .i64 s5.left, .int .i64 s5.fills] 42)).cell? ⟨p, 40, none⟩ = some (.int .i64 t.nw.kind) ∧ (wyc.alloc (Obj.cells #[.int .i64 s5.kind, .bool s5.flag, .int .i64 s5.gen, .int .i64 s5.left, .int .i64 s5.fills] 42)).cell? ⟨p, 41, none⟩ = some (.bool t.nw.flag) ∧ (wyc.alloc (Obj.cells #[.int .i64 s5.kind, .bool s5.flag, .int .i64 s5.gen, .int .i64 s5.left, .int .i64 s5.fills] 42)).cell? ⟨p, 42, none⟩ = some (.int .i64 t.nw.gen) ∧ (wyc.alloc (Obj.cells #[.int .i64 s5.kind, .bool s5.flag, .int .i64 s5.gen, .int .i64 s5.left, .int .i64 s5.fills] 42)).cell? ⟨p, 43, none⟩ = some (.int .i64 t.nw.left) ∧ (wyc.alloc (Obj.cells #[.int .i64 s5.kind, .bool s5.flag, .int .i64 s5.gen, .int .i64 s5.left, .int .i64 s5.fills] 42)).cell? ⟨p, 44, none⟩ = some (.int .i64 t.nw.fills) ∧ (wyc.alloc (Obj.cells #[.int .i64 s5.kind, .bool s5.flag, .int .i64 s5.gen, .int .i64 s5.left, .int .i64 s5.fills] 42)).cell? ⟨p, 31, none⟩ = some (.int .i64 t.q) ∧ (wyc.alloc (Obj.cells #[.int .i64 s5.kind, .bool s5.flag, .int .i64 s5.gen, .int .i64 s5.left, .int .i64 s5.fills] 42)).cell? ⟨W, 5, none⟩ = some (.int .i64 (C.f : Int)) := ⟨hp3.cell 40 _ rfl, hp3.cell 41 _ rfl, hp3.cell 42 _ rfl, hp3.cell 43 _ rfl, hp3.cell 44 _ rfl, hp3.cell 31 _ rfl, hw3.cell 5 _ rfl⟩; have KP3 := Lib.hid hp3; clear hbyc hpc hwc hp2 hw2 hp3 hw3)
        | ((with_reducible refine (HTK.out (w.alloc (Obj.cells #[.int .i64 0, .bool false, .int .i64 0, .int .i64 0, .int .i64 0] 42)).drew).mono ?_); rintro e wyd ⟨rfl, hbyd⟩; have hpd := KPZ.out.below hbyd; have hwd := KWZ.out.below hbyd; have htd := KTZ.out.below hbyd; have HBD := Lib.hid hbyd; have lpd := hpd.lt; have lwd := hwd.lt; have ltd := htd.lt; have x0 := htd.cell 0 _ rfl; have x1 := htd.cell 1 _ rfl; have x2 := htd.cell 2 _ rfl; have x3 := htd.cell 3 _ rfl; have x4 := htd.cell 4 _ rfl; have y0 := htd.frz 0; have y1 := htd.frz 1; have y2 := htd.frz 2; have y3 := htd.frz 3; have y4 := htd.frz 4; have hTd1 : wyd.cell? ⟨p, 40, none⟩ = some (.int .i64 t.nw.kind) ∧ wyd.cell? ⟨p, 41, none⟩ = some (.bool t.nw.flag) ∧ wyd.cell? ⟨p, 42, none⟩ = some (.int .i64 t.nw.gen) ∧ wyd.cell? ⟨p, 43, none⟩ = some (.int .i64 t.nw.left) ∧ wyd.cell? ⟨p, 44, none⟩ = some (.int .i64 t.nw.fills) ∧ wyd.cell? ⟨p, 31, none⟩ = some (.int .i64 t.q) ∧ wyd.cell? ⟨W, 5, none⟩ = some (.int .i64 (C.f : Int)) := ⟨hpd.cell 40 _ rfl, hpd.cell 41 _ rfl, hpd.cell 42 _ rfl, hpd.cell 43 _ rfl, hpd.cell 44 _ rfl, hpd.cell 31 _ rfl, hwd.cell 5 _ rfl⟩; have hpd2 := (((((hpd.far (p := ⟨w.heap.size, 0, none⟩) N2H.out (.int .i64 s5.kind)).far (p := ⟨w.heap.size, 1, none⟩) N2H.out (.bool s5.flag)).far (p := ⟨w.heap.size, 2, none⟩) N2H.out (.int .i64 s5.gen)).far (p := ⟨w.heap.size, 3, none⟩) N2H.out (.int .i64 s5.left)).far (p := ⟨w.heap.size, 4, none⟩) N2H.out (.int .i64 s5.fills)); have hwd2 := (((((hwd.far (p := ⟨w.heap.size, 0, none⟩) N3H.out (.int .i64 s5.kind)).far (p := ⟨w.heap.size, 1, none⟩) N3H.out (.bool s5.flag)).far (p := ⟨w.heap.size, 2, none⟩) N3H.out (.int .i64 s5.gen)).far (p := ⟨w.heap.size, 3, none⟩) N3H.out (.int .i64 s5.left)).far (p := ⟨w.heap.size, 4, none⟩) N3H.out (.int .i64 s5.fills)); have hTd2 : (((((wyd.setCell ⟨w.heap.size, 0, none⟩ (.int .i64 s5.kind)).setCell ⟨w.heap.size, 1, none⟩ (.bool s5.flag)).setCell ⟨w.heap.size, 2, none⟩ (.int .i64 s5.gen)).setCell ⟨w.heap.size, 3, none⟩ (.int .i64 s5.left)).setCell ⟨w.heap.size, 4, none⟩ (.int .i64 s5.fills)).cell? ⟨p, 40, none⟩ = some (.int .i64 t.nw.kind) ∧ (((((wyd.setCell ⟨w.heap.size, 0, none⟩ (.int .i64 s5.kind)).setCell ⟨w.heap.size, 1, none⟩ (.bool s5.flag)).setCell ⟨w.heap.size, 2, none⟩ (.int .i64 s5.gen)).setCell ⟨w.heap.size, 3, none⟩ (.int .i64 s5.left)).setCell ⟨w.heap.size, 4, none⟩ (.int .i64 s5.fills)).cell? ⟨p, 41, none⟩ = some (.bool t.nw.flag) ∧ (((((wyd.setCell ⟨w.heap.size, 0, none⟩ (.int .i64 s5.kind)).setCell ⟨w.heap.size, 1, none⟩ (.bool s5.flag)).setCell ⟨w.heap.size, 2, none⟩ (.int .i64 s5.gen)).setCell ⟨w.heap.size, 3, none⟩ (.int .i64 s5.left)).setCell ⟨w.heap.size, 4, none⟩ (.int .i64 s5.fills)).cell? ⟨p, 42, none⟩ = some (.int .i64 t.nw.gen) ∧ (((((wyd.setCell ⟨w.heap.size, 0, none⟩ (.int .i64 s5.kind)).setCell ⟨w.heap.size, 1, none⟩ (.bool s5.flag)).setCell ⟨w.heap.size, 2, none⟩ (.int .i64 s5.gen)).setCell ⟨w.heap.size, 3, none⟩ (.int .i64 s5.left)).setCell ⟨w.heap.size, 4, none⟩ (.int .i64 s5.fills)).cell? ⟨p, 43, none⟩ = some (.int .i64 t.nw.left) ∧ (((((wyd.setCell ⟨w.heap.size, 0, none⟩ (.int .i64 s5.kind)).setCell ⟨w.heap.size, 1, none⟩ (.bool s5.flag)).setCell ⟨w.heap.size, 2, none⟩ (.int .i64 s5.gen)).setCell ⟨w.heap.size, 3, none⟩ (.int .i64 s5.left)).setCell ⟨w.heap.size, 4, none⟩ (.int .i64 s5.fills)).cell? ⟨p, 44, none⟩ = some (.int .i64 t.nw.fills) ∧ (((((wyd.setCell ⟨w.heap.size, 0, none⟩ (.int .i64 s5.kind)).setCell ⟨w.heap.size, 1, none⟩ (.bool s5.flag)).setCell ⟨w.heap.size, 2, none⟩ (.int .i64 s5.gen)).setCell ⟨w.heap.size, 3, none⟩ (.int .i64 s5.left)).setCell ⟨w.heap.size, 4, none⟩ (.int .i64 s5.fills)).cell? ⟨p, 31, none⟩ = some (.int .i64 t.q) ∧ (((((wyd.setCell ⟨w.heap.size, 0, none⟩ (.int .i64 s5.kind)).setCell ⟨w.heap.size, 1, none⟩ (.bool s5.flag)).setCell ⟨w.heap.size, 2, none⟩ (.int .i64 s5.gen)).setCell ⟨w.heap.size, 3, none⟩ (.int .i64 s5.left)).setCell ⟨w.heap.size, 4, none⟩ (.int .i64 s5.fills)).cell? ⟨W, 5, none⟩ = some (.int .i64 (C.f : Int)) := ⟨hpd2.cell 40 _ rfl, hpd2.cell 41 _ rfl, hpd2.cell 42 _ rfl, hpd2.cell 43 _ rfl, hpd2.cell 44 _ rfl, hpd2.cell 31 _ rfl, hwd2.cell 5 _ rfl⟩; have KPD := Lib.hid hpd2; have KTD := Lib.hid htd; clear hbyd hpd hwd htd hpd2 hwd2)
        | fail)
    · go_wp2_with fail
      go_meet
      case rel =>
        have hb := Below.step ((Below.refl w.heap.size w).drew) HBC.out
        exact ⟨_, rfl, rfl, Lib.hid (hb.alloc hb.size (Obj.cells #[.int .i64 s5.kind, .bool s5.flag, .int .i64 s5.gen, .int .i64 s5.left, .int .i64 s5.fills] 42)), Lib.hid (show w.heap.size ≤ wyc.heap.size from hb.size), Lib.hid (show Bl wyc.heap.size [.int .i64 s5.kind, .bool s5.flag, .int .i64 s5.gen, .int .i64 s5.left, .int .i64 s5.fills] (wyc.alloc (Obj.cells #[.int .i64 s5.kind, .bool s5.flag, .int .i64 s5.gen, .int .i64 s5.left, .int .i64 s5.fills] 42)) from Bl.new wyc [.int .i64 s5.kind, .bool s5.flag, .int .i64 s5.gen, .int .i64 s5.left, .int .i64 s5.fills] 42), KP3⟩
    · go_wp2_with fail
      go_meet
      case rel =>
        have hb := Below.step (((Below.refl w.heap.size w).alloc (Nat.le_refl _) (Obj.cells #[.int .i64 0, .bool false, .int .i64 0, .int .i64 0, .int .i64 0] 42)).drew) HBD.out
        exact ⟨_, rfl, rfl, Lib.hid (((((hb.setCell (p := ⟨w.heap.size, 0, none⟩) (Nat.le_refl _) (.int .i64 s5.kind)).setCell (p := ⟨w.heap.size, 1, none⟩) (Nat.le_refl _) (.bool s5.flag)).setCell (p := ⟨w.heap.size, 2, none⟩) (Nat.le_refl _) (.int .i64 s5.gen)).setCell (p := ⟨w.heap.size, 3, none⟩) (Nat.le_refl _) (.int .i64 s5.left)).setCell (p := ⟨w.heap.size, 4, none⟩) (Nat.le_refl _) (.int .i64 s5.fills)), Lib.hid (Nat.le_refl w.heap.size), Lib.hid (show Bl w.heap.size [.int .i64 s5.kind, .bool s5.flag, .int .i64 s5.gen, .int .i64 s5.left, .int .i64 s5.fills] (((((wyd.setCell ⟨w.heap.size, 0, none⟩ (.int .i64 s5.kind)).setCell ⟨w.heap.size, 1, none⟩ (.bool s5.flag)).setCell ⟨w.heap.size, 2, none⟩ (.int .i64 s5.gen)).setCell ⟨w.heap.size, 3, none⟩ (.int .i64 s5.left)).setCell ⟨w.heap.size, 4, none⟩ (.int .i64 s5.fills)) from ((((KTD.out.set 0 (.int .i64 s5.kind)).set 1 (.bool s5.flag)).set 2 (.int .i64 s5.gen)).set 3 (.int .i64 s5.left)).set 4 (.int .i64 s5.fills)), KPD⟩
  case rest =>
    obtain ⟨tb, rfl, rfl, HB7, HN7, HT7, HP7⟩ := hcut
    obtain ⟨w7, hw7⟩ : ∃ w7, w7 = wc := ⟨_, rfl⟩
    subst hw7
    clear hT0 hTz KP KW KPZ KWZ KTZ N2H N3H
    go_wp2_with fail
    go_region
    go_wp2
    refine bodyPost_ret (results_none rfl _ _ _) rfl ?_
    exact ⟨rfl, H.out.below HB7.out.drew, HP7.out, Fs.below HB7.out.drew⟩
set_option maxRecDepth 100000 in
set_option maxHeartbeats 16000000 in
theorem free_oc (s : Int) (hs9 : s = 7 ∨ s = 9) (h : PW K C W M B Ck ws st now lv L w) (hC : C.Ok) (ha : Ap K W M B Ck p) (i : Nat) (hi : i < C.A) (hp : Bl p (prc (i : Int) aY t) w) (hh : t.held = true) (hfr : t.freed = false) (s5 : Cs) (hf5 : FitS s5) (hk : ∀ w, Calls Try.prog 63 #[sc t.nw, .int .i64 t.q, .int .i64 (C.f : Int)] w (Gives w s5.kind s5.gen s5.left s5.fills s5.flag .nilIface)) (ho : ws (2 * i) ≠ (cw t.nw : Int)) (hst : 0 ≤ st ∧ st ≤ 1000000) :
    Calls Try.prog 39 #[.pointer (some ⟨p, 0, none⟩), .pointer (some ⟨W, 0, none⟩), .int .i64 s] w fun e w' => e = .returned (.tuple #[]) ∧ PW K C W M B Ck ws (st + 1) now lv L w' ∧ Bl p (prc (i : Int) aY t) w' ∧ Fs W M B p lv w w' := by
  have ht9 : s.tmod 2 = 1 := by rcases hs9 with rfl | rfl <;> rfl
  clear hs9
  have k28 : w.cell? ⟨p, 28, none⟩ = some (.bool true) := by rw [← hh]; exact hp.cell 28 _ rfl
  have k30 : w.cell? ⟨p, 30, none⟩ = some (.bool false) := by rw [← hfr]; exact hp.cell 30 _ rfl
  have H := Lib.hid h
  have HP := Lib.hid hp
  have HA := Lib.hid ha
  have hl := hp.lt
  unfold sc at hk
  have HTK := Lib.hid hk
  have HTU := Lib.hid (fun (W' : World) (hW' : PW K C W M B Ck ws st now lv L W') => turn_no hW' hC i hi (cw t.nw) s5 hf5 ho hst)
  unfold sc at HTU
  clear hk hC hf5 hst ho h hp ha hh hfr
  have lW := H.out.blk.lt
  have N2 : w.heap.size ≠ p := fun e => by omega
  have N3 : w.heap.size ≠ W := fun e => by omega
  have hp6 : Bl p (prc (i : Int) aY t) w.drew := HP.out
  have hw6 : Bl W [.int .i64 (C.p : Int), .int .i64 (C.c : Int), .int .i64 C.n, .int .i64 C.b, .int .i64 C.r, .int .i64 (C.f : Int), .int .i64 (C.g : Int), .pointer (some ⟨M, 0, none⟩), .pointer (some ⟨Ck, 0, none⟩), lv] w.drew := H.out.blk
  have hT0 : w.drew.cell? ⟨p, 40, none⟩ = some (.int .i64 t.nw.kind) ∧ w.drew.cell? ⟨p, 41, none⟩ = some (.bool t.nw.flag) ∧ w.drew.cell? ⟨p, 42, none⟩ = some (.int .i64 t.nw.gen) ∧ w.drew.cell? ⟨p, 43, none⟩ = some (.int .i64 t.nw.left) ∧ w.drew.cell? ⟨p, 44, none⟩ = some (.int .i64 t.nw.fills) ∧ w.drew.cell? ⟨p, 31, none⟩ = some (.int .i64 t.q) ∧ w.drew.cell? ⟨W, 5, none⟩ = some (.int .i64 (C.f : Int)) := ⟨hp6.cell 40 _ rfl, hp6.cell 41 _ rfl, hp6.cell 42 _ rfl, hp6.cell 43 _ rfl, hp6.cell 44 _ rfl, hp6.cell 31 _ rfl, hw6.cell 5 _ rfl⟩
  have hpz : Bl p (prc (i : Int) aY t) (w.alloc (Obj.cells #[.int .i64 0, .bool false, .int .i64 0, .int .i64 0, .int .i64 0] 42)).drew := HP.out.below (by go_grown)
  have hwz : Bl W [.int .i64 (C.p : Int), .int .i64 (C.c : Int), .int .i64 C.n, .int .i64 C.b, .int .i64 C.r, .int .i64 (C.f : Int), .int .i64 (C.g : Int), .pointer (some ⟨M, 0, none⟩), .pointer (some ⟨Ck, 0, none⟩), lv] (w.alloc (Obj.cells #[.int .i64 0, .bool false, .int .i64 0, .int .i64 0, .int .i64 0] 42)).drew := H.out.blk.below (by go_grown)
  have hTz : (w.alloc (Obj.cells #[.int .i64 0, .bool false, .int .i64 0, .int .i64 0, .int .i64 0] 42)).drew.cell? ⟨p, 40, none⟩ = some (.int .i64 t.nw.kind) ∧ (w.alloc (Obj.cells #[.int .i64 0, .bool false, .int .i64 0, .int .i64 0, .int .i64 0] 42)).drew.cell? ⟨p, 41, none⟩ = some (.bool t.nw.flag) ∧ (w.alloc (Obj.cells #[.int .i64 0, .bool false, .int .i64 0, .int .i64 0, .int .i64 0] 42)).drew.cell? ⟨p, 42, none⟩ = some (.int .i64 t.nw.gen) ∧ (w.alloc (Obj.cells #[.int .i64 0, .bool false, .int .i64 0, .int .i64 0, .int .i64 0] 42)).drew.cell? ⟨p, 43, none⟩ = some (.int .i64 t.nw.left) ∧ (w.alloc (Obj.cells #[.int .i64 0, .bool false, .int .i64 0, .int .i64 0, .int .i64 0] 42)).drew.cell? ⟨p, 44, none⟩ = some (.int .i64 t.nw.fills) ∧ (w.alloc (Obj.cells #[.int .i64 0, .bool false, .int .i64 0, .int .i64 0, .int .i64 0] 42)).drew.cell? ⟨p, 31, none⟩ = some (.int .i64 t.q) ∧ (w.alloc (Obj.cells #[.int .i64 0, .bool false, .int .i64 0, .int .i64 0, .int .i64 0] 42)).drew.cell? ⟨W, 5, none⟩ = some (.int .i64 (C.f : Int)) := ⟨hpz.cell 40 _ rfl, hpz.cell 41 _ rfl, hpz.cell 42 _ rfl, hpz.cell 43 _ rfl, hpz.cell 44 _ rfl, hpz.cell 31 _ rfl, hwz.cell 5 _ rfl⟩
  have htz : Bl w.heap.size [.int .i64 0, .bool false, .int .i64 0, .int .i64 0, .int .i64 0] (w.alloc (Obj.cells #[.int .i64 0, .bool false, .int .i64 0, .int .i64 0, .int .i64 0] 42)).drew := Bl.new w [.int .i64 0, .bool false, .int .i64 0, .int .i64 0, .int .i64 0] 42
  have KP := Lib.hid hp6
  have KW := Lib.hid hw6
  have KPZ := Lib.hid hpz
  have KWZ := Lib.hid hwz
  have KTZ := Lib.hid htz
  have N2H := Lib.hid N2
  have N3H := Lib.hid N3
  clear hp6 hw6 hpz hwz htz N2 N3
  go_enter Try.func39, Try.ntmps39
  go_wp2_with fail
  go_cut [6, 7] (fun s6 s7 wx => ∃ tb, s6 = .pointer (some ⟨tb, 0, none⟩) ∧ s7 = .nilIface ∧ Hid (Below w.heap.size w wx) ∧ Hid (w.heap.size ≤ tb) ∧ Hid (Bl tb [.int .i64 s5.kind, .bool s5.flag, .int .i64 s5.gen, .int .i64 s5.left, .int .i64 s5.fills] wx) ∧ Hid (Bl p (prc (i : Int) aY t) wx))
  case first =>
    go_region_held3 (fun w' => w'.cell? ⟨p, 40, none⟩ = some (.int .i64 t.nw.kind) ∧ w'.cell? ⟨p, 41, none⟩ = some (.bool t.nw.flag) ∧ w'.cell? ⟨p, 42, none⟩ = some (.int .i64 t.nw.gen) ∧ w'.cell? ⟨p, 43, none⟩ = some (.int .i64 t.nw.left) ∧ w'.cell? ⟨p, 44, none⟩ = some (.int .i64 t.nw.fills) ∧ w'.cell? ⟨p, 31, none⟩ = some (.int .i64 t.q) ∧ w'.cell? ⟨W, 5, none⟩ = some (.int .i64 (C.f : Int))) (first | with_reducible exact hT0 | with_reducible exact hTz | with_reducible exact hT1 | with_reducible exact hT2 | with_reducible exact hT3 | with_reducible exact hTd1 | with_reducible exact hTd2 | fail)
      (first
        | ((with_reducible refine (HTK.out w.drew).mono ?_); rintro e wyc ⟨rfl, hbyc⟩; have hpc := KP.out.below hbyc; have hwc := KW.out.below hbyc; have HBC := Lib.hid hbyc; have lpc := hpc.lt; have lwc := hwc.lt; have hT1 : wyc.cell? ⟨p, 40, none⟩ = some (.int .i64 t.nw.kind) ∧ wyc.cell? ⟨p, 41, none⟩ = some (.bool t.nw.flag) ∧ wyc.cell? ⟨p, 42, none⟩ = some (.int .i64 t.nw.gen) ∧ wyc.cell? ⟨p, 43, none⟩ = some (.int .i64 t.nw.left) ∧ wyc.cell? ⟨p, 44, none⟩ = some (.int .i64 t.nw.fills) ∧ wyc.cell? ⟨p, 31, none⟩ = some (.int .i64 t.q) ∧ wyc.cell? ⟨W, 5, none⟩ = some (.int .i64 (C.f : Int)) := ⟨hpc.cell 40 _ rfl, hpc.cell 41 _ rfl, hpc.cell 42 _ rfl, hpc.cell 43 _ rfl, hpc.cell 44 _ rfl, hpc.cell 31 _ rfl, hwc.cell 5 _ rfl⟩; have hp2 := hpc.below (w' := wyc.alloc (Obj.cells #[.int .i64 0, .bool false, .int .i64 0, .int .i64 0, .int .i64 0] 42)) (by go_grown); have hw2 := hwc.below (w' := wyc.alloc (Obj.cells #[.int .i64 0, .bool false, .int .i64 0, .int .i64 0, .int .i64 0] 42)) (by go_grown); have hT2 : (wyc.alloc (Obj.cells #[.int .i64 0, .bool false, .int .i64 0, .int .i64 0, .int .i64 0] 42)).cell? ⟨p, 40, none⟩ = some (.int .i64 t.nw.kind) ∧ (wyc.alloc (Obj.cells #[.int .i64 0, .bool false, .int .i64 0, .int .i64 0, .int .i64 0] 42)).cell? ⟨p, 41, none⟩ = some (.bool t.nw.flag) ∧ (wyc.alloc (Obj.cells #[.int .i64 0, .bool false, .int .i64 0, .int .i64 0, .int .i64 0] 42)).cell? ⟨p, 42, none⟩ = some (.int .i64 t.nw.gen) ∧ (wyc.alloc (Obj.cells #[.int .i64 0, .bool false, .int .i64 0, .int .i64 0, .int .i64 0] 42)).cell? ⟨p, 43, none⟩ = some (.int .i64 t.nw.left) ∧ (wyc.alloc (Obj.cells #[.int .i64 0, .bool false, .int .i64 0, .int .i64 0, .int .i64 0] 42)).cell? ⟨p, 44, none⟩ = some (.int .i64 t.nw.fills) ∧ (wyc.alloc (Obj.cells #[.int .i64 0, .bool false, .int .i64 0, .int .i64 0, .int .i64 0] 42)).cell? ⟨p, 31, none⟩ = some (.int .i64 t.q) ∧ (wyc.alloc (Obj.cells #[.int .i64 0, .bool false, .int .i64 0, .int .i64 0, .int .i64 0] 42)).cell? ⟨W, 5, none⟩ = some (.int .i64 (C.f : Int)) := ⟨hp2.cell 40 _ rfl, hp2.cell 41 _ rfl, hp2.cell 42 _ rfl, hp2.cell 43 _ rfl, hp2.cell 44 _ rfl, hp2.cell 31 _ rfl, hw2.cell 5 _ rfl⟩; have hp3 := hpc.below (w' := wyc.alloc (Obj.cells #[.int .i64 s5.kind, .bool s5.flag, .int .i64 s5.gen, .int .i64 s5.left, .int .i64 s5.fills] 42)) (by go_grown); have hw3 := hwc.below (w' := wyc.alloc (Obj.cells #[.int .i64 s5.kind, .bool s5.flag, .int .i64 s5.gen, .int .i64 s5.left, .int .i64 s5.fills] 42)) (by go_grown); have hT3 : (wyc.alloc (Obj.cells #[.int .i64 s5.kind, .bool s5.flag, .int .i64 s5.gen, .int .i64 s5.left, .int .i64 s5.fills] 42)).cell? ⟨p, 40, none⟩ = some (.int .i64 t.nw.kind) ∧ (wyc.alloc (Obj.cells #[.int .i64 s5.kind, .bool s5.flag, .int .i64 s5.gen, .int .i64 s5.left, .int .i64 s5.fills] 42)).cell? ⟨p, 41, none⟩ = some (.bool t.nw.flag) ∧ (wyc.alloc (Obj.cells #[.int .i64 s5.kind, .bool s5.flag, .int .i64 s5.gen, .int .i64 s5.left, .int .i64 s5.fills] 42)).cell? ⟨p, 42, none⟩ = some (.int .i64 t.nw.gen) ∧ (wyc.alloc (Obj.cells #[.int .i64 s5.kind, .bool s5.flag, .int .i64 s5.gen, .int .i64 s5.left, .int .i64 s5.fills] 42)).cell? ⟨p, 43, none⟩ = some (.int .i64 t.nw.left) ∧ (wyc.alloc (Obj.cells #[.int .i64 s5.kind, .bool s5.flag, .int .i64 s5.gen, .int .i64 s5.left, .int .i64 s5.fills] 42)).cell? ⟨p, 44, none⟩ = some (.int .i64 t.nw.fills) ∧ (wyc.alloc (Obj.cells #[.int .i64 s5.kind, .bool s5.flag, .int .i64 s5.gen, .int .i64 s5.left, .int .i64 s5.fills] 42)).cell? ⟨p, 31, none⟩ = some (.int .i64 t.q) ∧ (wyc.alloc (Obj.cells #[.int .i64 s5.kind, .bool s5.flag, .int .i64 s5.gen, .int .i64 s5.left, .int .i64 s5.fills] 42)).cell? ⟨W, 5, none⟩ = some (.int .i64 (C.f : Int)) := ⟨hp3.cell 40 _ rfl, hp3.cell 41 _ rfl, hp3.cell 42 _ rfl, hp3.cell 43 _ rfl, hp3.cell 44 _ rfl, hp3.cell 31 _ rfl, hw3.cell 5 _ rfl⟩; have KP3 := Lib.hid hp3; clear hbyc hpc hwc hp2 hw2 hp3 hw3)
        | ((with_reducible refine (HTK.out (w.alloc (Obj.cells #[.int .i64 0, .bool false, .int .i64 0, .int .i64 0, .int .i64 0] 42)).drew).mono ?_); rintro e wyd ⟨rfl, hbyd⟩; have hpd := KPZ.out.below hbyd; have hwd := KWZ.out.below hbyd; have htd := KTZ.out.below hbyd; have HBD := Lib.hid hbyd; have lpd := hpd.lt; have lwd := hwd.lt; have ltd := htd.lt; have x0 := htd.cell 0 _ rfl; have x1 := htd.cell 1 _ rfl; have x2 := htd.cell 2 _ rfl; have x3 := htd.cell 3 _ rfl; have x4 := htd.cell 4 _ rfl; have y0 := htd.frz 0; have y1 := htd.frz 1; have y2 := htd.frz 2; have y3 := htd.frz 3; have y4 := htd.frz 4; have hTd1 : wyd.cell? ⟨p, 40, none⟩ = some (.int .i64 t.nw.kind) ∧ wyd.cell? ⟨p, 41, none⟩ = some (.bool t.nw.flag) ∧ wyd.cell? ⟨p, 42, none⟩ = some (.int .i64 t.nw.gen) ∧ wyd.cell? ⟨p, 43, none⟩ = some (.int .i64 t.nw.left) ∧ wyd.cell? ⟨p, 44, none⟩ = some (.int .i64 t.nw.fills) ∧ wyd.cell? ⟨p, 31, none⟩ = some (.int .i64 t.q) ∧ wyd.cell? ⟨W, 5, none⟩ = some (.int .i64 (C.f : Int)) := ⟨hpd.cell 40 _ rfl, hpd.cell 41 _ rfl, hpd.cell 42 _ rfl, hpd.cell 43 _ rfl, hpd.cell 44 _ rfl, hpd.cell 31 _ rfl, hwd.cell 5 _ rfl⟩; have hpd2 := (((((hpd.far (p := ⟨w.heap.size, 0, none⟩) N2H.out (.int .i64 s5.kind)).far (p := ⟨w.heap.size, 1, none⟩) N2H.out (.bool s5.flag)).far (p := ⟨w.heap.size, 2, none⟩) N2H.out (.int .i64 s5.gen)).far (p := ⟨w.heap.size, 3, none⟩) N2H.out (.int .i64 s5.left)).far (p := ⟨w.heap.size, 4, none⟩) N2H.out (.int .i64 s5.fills)); have hwd2 := (((((hwd.far (p := ⟨w.heap.size, 0, none⟩) N3H.out (.int .i64 s5.kind)).far (p := ⟨w.heap.size, 1, none⟩) N3H.out (.bool s5.flag)).far (p := ⟨w.heap.size, 2, none⟩) N3H.out (.int .i64 s5.gen)).far (p := ⟨w.heap.size, 3, none⟩) N3H.out (.int .i64 s5.left)).far (p := ⟨w.heap.size, 4, none⟩) N3H.out (.int .i64 s5.fills)); have hTd2 : (((((wyd.setCell ⟨w.heap.size, 0, none⟩ (.int .i64 s5.kind)).setCell ⟨w.heap.size, 1, none⟩ (.bool s5.flag)).setCell ⟨w.heap.size, 2, none⟩ (.int .i64 s5.gen)).setCell ⟨w.heap.size, 3, none⟩ (.int .i64 s5.left)).setCell ⟨w.heap.size, 4, none⟩ (.int .i64 s5.fills)).cell? ⟨p, 40, none⟩ = some (.int .i64 t.nw.kind) ∧ (((((wyd.setCell ⟨w.heap.size, 0, none⟩ (.int .i64 s5.kind)).setCell ⟨w.heap.size, 1, none⟩ (.bool s5.flag)).setCell ⟨w.heap.size, 2, none⟩ (.int .i64 s5.gen)).setCell ⟨w.heap.size, 3, none⟩ (.int .i64 s5.left)).setCell ⟨w.heap.size, 4, none⟩ (.int .i64 s5.fills)).cell? ⟨p, 41, none⟩ = some (.bool t.nw.flag) ∧ (((((wyd.setCell ⟨w.heap.size, 0, none⟩ (.int .i64 s5.kind)).setCell ⟨w.heap.size, 1, none⟩ (.bool s5.flag)).setCell ⟨w.heap.size, 2, none⟩ (.int .i64 s5.gen)).setCell ⟨w.heap.size, 3, none⟩ (.int .i64 s5.left)).setCell ⟨w.heap.size, 4, none⟩ (.int .i64 s5.fills)).cell? ⟨p, 42, none⟩ = some (.int .i64 t.nw.gen) ∧ (((((wyd.setCell ⟨w.heap.size, 0, none⟩ (.int .i64 s5.kind)).setCell ⟨w.heap.size, 1, none⟩ (.bool s5.flag)).setCell ⟨w.heap.size, 2, none⟩ (.int .i64 s5.gen)).setCell ⟨w.heap.size, 3, none⟩ (.int .i64 s5.left)).setCell ⟨w.heap.size, 4, none⟩ (.int .i64 s5.fills)).cell? ⟨p, 43, none⟩ = some (.int .i64 t.nw.left) ∧ (((((wyd.setCell ⟨w.heap.size, 0, none⟩ (.int .i64 s5.kind)).setCell ⟨w.heap.size, 1, none⟩ (.bool s5.flag)).setCell ⟨w.heap.size, 2, none⟩ (.int .i64 s5.gen)).setCell ⟨w.heap.size, 3, none⟩ (.int .i64 s5.left)).setCell ⟨w.heap.size, 4, none⟩ (.int .i64 s5.fills)).cell? ⟨p, 44, none⟩ = some (.int .i64 t.nw.fills) ∧ (((((wyd.setCell ⟨w.heap.size, 0, none⟩ (.int .i64 s5.kind)).setCell ⟨w.heap.size, 1, none⟩ (.bool s5.flag)).setCell ⟨w.heap.size, 2, none⟩ (.int .i64 s5.gen)).setCell ⟨w.heap.size, 3, none⟩ (.int .i64 s5.left)).setCell ⟨w.heap.size, 4, none⟩ (.int .i64 s5.fills)).cell? ⟨p, 31, none⟩ = some (.int .i64 t.q) ∧ (((((wyd.setCell ⟨w.heap.size, 0, none⟩ (.int .i64 s5.kind)).setCell ⟨w.heap.size, 1, none⟩ (.bool s5.flag)).setCell ⟨w.heap.size, 2, none⟩ (.int .i64 s5.gen)).setCell ⟨w.heap.size, 3, none⟩ (.int .i64 s5.left)).setCell ⟨w.heap.size, 4, none⟩ (.int .i64 s5.fills)).cell? ⟨W, 5, none⟩ = some (.int .i64 (C.f : Int)) := ⟨hpd2.cell 40 _ rfl, hpd2.cell 41 _ rfl, hpd2.cell 42 _ rfl, hpd2.cell 43 _ rfl, hpd2.cell 44 _ rfl, hpd2.cell 31 _ rfl, hwd2.cell 5 _ rfl⟩; have KPD := Lib.hid hpd2; have KTD := Lib.hid htd; clear hbyd hpd hwd htd hpd2 hwd2)
        | fail)
    · go_wp2_with fail
      go_meet
      case rel =>
        have hb := Below.step ((Below.refl w.heap.size w).drew) HBC.out
        exact ⟨_, rfl, rfl, Lib.hid (hb.alloc hb.size (Obj.cells #[.int .i64 s5.kind, .bool s5.flag, .int .i64 s5.gen, .int .i64 s5.left, .int .i64 s5.fills] 42)), Lib.hid (show w.heap.size ≤ wyc.heap.size from hb.size), Lib.hid (show Bl wyc.heap.size [.int .i64 s5.kind, .bool s5.flag, .int .i64 s5.gen, .int .i64 s5.left, .int .i64 s5.fills] (wyc.alloc (Obj.cells #[.int .i64 s5.kind, .bool s5.flag, .int .i64 s5.gen, .int .i64 s5.left, .int .i64 s5.fills] 42)) from Bl.new wyc [.int .i64 s5.kind, .bool s5.flag, .int .i64 s5.gen, .int .i64 s5.left, .int .i64 s5.fills] 42), KP3⟩
    · go_wp2_with fail
      go_meet
      case rel =>
        have hb := Below.step (((Below.refl w.heap.size w).alloc (Nat.le_refl _) (Obj.cells #[.int .i64 0, .bool false, .int .i64 0, .int .i64 0, .int .i64 0] 42)).drew) HBD.out
        exact ⟨_, rfl, rfl, Lib.hid (((((hb.setCell (p := ⟨w.heap.size, 0, none⟩) (Nat.le_refl _) (.int .i64 s5.kind)).setCell (p := ⟨w.heap.size, 1, none⟩) (Nat.le_refl _) (.bool s5.flag)).setCell (p := ⟨w.heap.size, 2, none⟩) (Nat.le_refl _) (.int .i64 s5.gen)).setCell (p := ⟨w.heap.size, 3, none⟩) (Nat.le_refl _) (.int .i64 s5.left)).setCell (p := ⟨w.heap.size, 4, none⟩) (Nat.le_refl _) (.int .i64 s5.fills)), Lib.hid (Nat.le_refl w.heap.size), Lib.hid (show Bl w.heap.size [.int .i64 s5.kind, .bool s5.flag, .int .i64 s5.gen, .int .i64 s5.left, .int .i64 s5.fills] (((((wyd.setCell ⟨w.heap.size, 0, none⟩ (.int .i64 s5.kind)).setCell ⟨w.heap.size, 1, none⟩ (.bool s5.flag)).setCell ⟨w.heap.size, 2, none⟩ (.int .i64 s5.gen)).setCell ⟨w.heap.size, 3, none⟩ (.int .i64 s5.left)).setCell ⟨w.heap.size, 4, none⟩ (.int .i64 s5.fills)) from ((((KTD.out.set 0 (.int .i64 s5.kind)).set 1 (.bool s5.flag)).set 2 (.int .i64 s5.gen)).set 3 (.int .i64 s5.left)).set 4 (.int .i64 s5.fills)), KPD⟩
  case rest =>
    obtain ⟨tb, rfl, rfl, HB7, HN7, HT7, HP7⟩ := hcut
    obtain ⟨w7, hw7⟩ : ∃ w7, w7 = wc := ⟨_, rfl⟩
    subst hw7
    clear hT0 hTz KP KW KPZ KWZ KTZ N2H N3H
    have HW7 := Lib.hid (H.out.below HB7.out.drew)
    have p7 : Bl p (prc (i : Int) aY t) w7.drew := HP7.out
    have t7 : Bl tb [.int .i64 s5.kind, .bool s5.flag, .int .i64 s5.gen, .int .i64 s5.left, .int .i64 s5.fills] w7.drew := HT7.out
    have z2 := HN7.out
    have z3 := H.out.hK
    obtain ⟨z4, z5, z6, z7⟩ := H.out.lo
    have hU0 : w7.drew.cell? ⟨p, 1, none⟩ = some (.int .i64 (i : Int)) ∧ w7.drew.cell? ⟨p, 39, none⟩ = some (.int .u64 (cw t.nw : Int)) ∧ w7.drew.cell? ⟨tb, 0, none⟩ = some (.int .i64 s5.kind) ∧ w7.drew.cell? ⟨tb, 1, none⟩ = some (.bool s5.flag) ∧ w7.drew.cell? ⟨tb, 2, none⟩ = some (.int .i64 s5.gen) ∧ w7.drew.cell? ⟨tb, 3, none⟩ = some (.int .i64 s5.left) ∧ w7.drew.cell? ⟨tb, 4, none⟩ = some (.int .i64 s5.fills) := ⟨p7.cell 1 _ rfl, p7.cell 39 _ rfl, t7.cell 0 _ rfl, t7.cell 1 _ rfl, t7.cell 2 _ rfl, t7.cell 3 _ rfl, t7.cell 4 _ rfl⟩
    have l7p := p7.lt
    have l7t := t7.lt
    have P7 := Lib.hid p7
    have T7 := Lib.hid t7
    have NTM := Lib.hid (show tb ≠ M from by omega)
    have NTB := Lib.hid (show tb ≠ B from by omega)
    clear p7 t7
    go_wp2_with fail
    go_region_held3 (fun w' => w'.cell? ⟨p, 1, none⟩ = some (.int .i64 (i : Int)) ∧ w'.cell? ⟨p, 39, none⟩ = some (.int .u64 (cw t.nw : Int)) ∧ w'.cell? ⟨tb, 0, none⟩ = some (.int .i64 s5.kind) ∧ w'.cell? ⟨tb, 1, none⟩ = some (.bool s5.flag) ∧ w'.cell? ⟨tb, 2, none⟩ = some (.int .i64 s5.gen) ∧ w'.cell? ⟨tb, 3, none⟩ = some (.int .i64 s5.left) ∧ w'.cell? ⟨tb, 4, none⟩ = some (.int .i64 s5.fills)) (first | with_reducible exact hU0 | with_reducible exact hU1 | fail)
      (first
        | ((with_reducible refine (HTU.out _ HW7.out).mono ?_); rintro e w8 ⟨rfl, hw8, hf8⟩; have HW8 := Lib.hid hw8; have HF8 := Lib.hid hf8; have P8 := Lib.hid (hf8.bl P7.out HA.out.nM HA.out.nB); have T8 := Lib.hid (hf8.bl T7.out NTM.out NTB.out); have hU1 : w8.cell? ⟨p, 1, none⟩ = some (.int .i64 (i : Int)) ∧ w8.cell? ⟨p, 39, none⟩ = some (.int .u64 (cw t.nw : Int)) ∧ w8.cell? ⟨tb, 0, none⟩ = some (.int .i64 s5.kind) ∧ w8.cell? ⟨tb, 1, none⟩ = some (.bool s5.flag) ∧ w8.cell? ⟨tb, 2, none⟩ = some (.int .i64 s5.gen) ∧ w8.cell? ⟨tb, 3, none⟩ = some (.int .i64 s5.left) ∧ w8.cell? ⟨tb, 4, none⟩ = some (.int .i64 s5.fills) := ⟨P8.out.cell 1 _ rfl, P8.out.cell 39 _ rfl, T8.out.cell 0 _ rfl, T8.out.cell 1 _ rfl, T8.out.cell 2 _ rfl, T8.out.cell 3 _ rfl, T8.out.cell 4 _ rfl⟩; clear hw8 hf8)
        | fail)
    go_wp2
    refine bodyPost_ret (results_none rfl _ _ _) rfl ?_
    exact ⟨rfl, HW8.out, P8.out, Fs.of ((Fq.of (Fm.of HB7.out.drew)).trans (Fq.of HF8.out))⟩
end
end Go.Proofs.Ytmjkhefgpobinaa
