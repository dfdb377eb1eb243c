/-
  Texts of the machine of pairs, part 19.
-/
import Derived.Test.YtmjkhefgpobinaaM1
import Derived.Test.YtmjkhefgpobinaaM12
import Derived.Test.YtmjkhefgpobinaaM16
import Derived.Test.YtmjkhefgpobinaaM17
namespace Go.Proofs.Ytmjkhefgpobinaa
open Go.ChangeShapes Go.WideShapes Go.ChangeAt Go.RowKit
section
variable {K : Nat} {C : Cfg} {W M B Ck p : Nat} {ws ws' : Nat → Int} {st st' now : Int} {lv : Value} {L : List Lg} {w w' : World} {aX aY : Int} {t : Tr Tm5}
set_option maxRecDepth 100000 in
set_option maxHeartbeats 16000000 in
theorem free_oe (s : Int) (hs9 : s = 7 ∨ s = 9) (h : PW K C W M B Ck ws st now lv L w) (hC : C.Ok) (ha : Ap K W M B Ck p) (i : Nat) (hi : i < C.A) (hp : Bl p (prc (i : Int) aY t) w) (hh : t.held = true) (hfr : t.freed = false) (s5 : Cs) (hf5 : FitS s5) (hk : ∀ w, Calls Try.prog 63 #[sc t.nw, .int .i64 t.q, .int .i64 (C.f : Int)] w (Gives w s5.kind s5.gen s5.left s5.fills s5.flag .nilIface)) (ho : ws (2 * i) = (cw t.nw : Int)) (hst : 0 ≤ st ∧ st ≤ 1000000) (hov : overS s5 = true) (hl9 : L.length ≤ 100000) :
    Calls Try.prog 39 #[.pointer (some ⟨p, 0, none⟩), .pointer (some ⟨W, 0, none⟩), .int .i64 s] w fun e w' => e = .returned (.tuple #[]) ∧ ∃ lv', PW K C W M B Ck (Mm.upd ws (2 * i) (cw s5 : Int)) (st + 1) now lv' (L ++ [.over i s5.gen s5.kind now]) w' ∧ Bl p (prc (i : Int) aY { t with freed := true, lt := s5, ltk := now }) w' ∧ Fs W M B p lv w w' := by
  have HHV := Lib.hid hov
  have HL9 := Lib.hid hl9
  clear hov hl9
  have ht9 : s.tmod 2 = 1 := by rcases hs9 with rfl | rfl <;> rfl
  clear hs9
  have k28 : w.cell? ⟨p, 28, none⟩ = some (.bool true) := by rw [← hh]; exact hp.cell 28 _ rfl
  have k30 : w.cell? ⟨p, 30, none⟩ = some (.bool false) := by rw [← hfr]; exact hp.cell 30 _ rfl
  have H := Lib.hid h
  have HP := Lib.hid hp
  have HA := Lib.hid ha
  have hl := hp.lt
  unfold sc at hk
  have HTK := Lib.hid hk
  have HTU := Lib.hid (fun (W' : World) (hW' : PW K C W M B Ck ws st now lv L W') => turn_yes hW' hC i hi (cw t.nw) s5 hf5 ho hst)
  unfold sc at HTU
  clear hk hC hf5 hst ho h hp ha hh hfr
  have lW := H.out.blk.lt
  have N2 : w.heap.size ≠ p := fun e => by omega
  have N3 : w.heap.size ≠ W := fun e => by omega
  have hp6 : Bl p (prc (i : Int) aY t) w.drew := HP.out
  have hw6 : Bl W [.int .i64 (C.p : Int), .int .i64 (C.c : Int), .int .i64 C.n, .int .i64 C.b, .int .i64 C.r, .int .i64 (C.f : Int), .int .i64 (C.g : Int), .pointer (some ⟨M, 0, none⟩), .pointer (some ⟨Ck, 0, none⟩), lv] w.drew := H.out.blk
  have hT0 : w.drew.cell? ⟨p, 40, none⟩ = some (.int .i64 t.nw.kind) ∧ w.drew.cell? ⟨p, 41, none⟩ = some (.bool t.nw.flag) ∧ w.drew.cell? ⟨p, 42, none⟩ = some (.int .i64 t.nw.gen) ∧ w.drew.cell? ⟨p, 43, none⟩ = some (.int .i64 t.nw.left) ∧ w.drew.cell? ⟨p, 44, none⟩ = some (.int .i64 t.nw.fills) ∧ w.drew.cell? ⟨p, 31, none⟩ = some (.int .i64 t.q) ∧ w.drew.cell? ⟨W, 5, none⟩ = some (.int .i64 (C.f : Int)) := ⟨hp6.cell 40 _ rfl, hp6.cell 41 _ rfl, hp6.cell 42 _ rfl, hp6.cell 43 _ rfl, hp6.cell 44 _ rfl, hp6.cell 31 _ rfl, hw6.cell 5 _ rfl⟩
  have hpz : Bl p (prc (i : Int) aY t) (w.alloc (Obj.cells #[.int .i64 0, .bool false, .int .i64 0, .int .i64 0, .int .i64 0] 42)).drew := HP.out.below (by go_grown)
  have hwz : Bl W [.int .i64 (C.p : Int), .int .i64 (C.c : Int), .int .i64 C.n, .int .i64 C.b, .int .i64 C.r, .int .i64 (C.f : Int), .int .i64 (C.g : Int), .pointer (some ⟨M, 0, none⟩), .pointer (some ⟨Ck, 0, none⟩), lv] (w.alloc (Obj.cells #[.int .i64 0, .bool false, .int .i64 0, .int .i64 0, .int .i64 0] 42)).drew := H.out.blk.below (by go_grown)
  have hTz : (w.alloc (Obj.cells #[.int .i64 0, .bool false, .int .i64 0, .int .i64 0, .int .i64 0] 42)).drew.cell? ⟨p, 40, none⟩ = some (.int .i64 t.nw.kind) ∧ (w.alloc (Obj.cells #[.int .i64 0, .bool false, .int .i64 0, .int .i64 0, .int .i64 0] 42)).drew.cell? ⟨p, 41, none⟩ = some (.bool t.nw.flag) ∧ (w.alloc (Obj.cells #[.int .i64 0, .bool false, .int .i64 0, .int .i64 0, .int .i64 0] 42)).drew.cell? ⟨p, 42, none⟩ = some (.int .i64 t.nw.gen) ∧ (w.alloc (Obj.cells #[.int .i64 0, .bool false, .int .i64 0, .int .i64 0, .int .i64 0] 42)).drew.cell? ⟨p, 43, none⟩ = some (.int .i64 t.nw.left) ∧ (w.alloc (Obj.cells #[.int .i64 0, .bool false, .int .i64 0, .int .i64 0, .int .i64 0] 42)).drew.cell? ⟨p, 44, none⟩ = some (.int .i64 t.nw.fills) ∧ (w.alloc (Obj.cells #[.int .i64 0, .bool false, .int .i64 0, .int .i64 0, .int .i64 0] 42)).drew.cell? ⟨p, 31, none⟩ = some (.int .i64 t.q) ∧ (w.alloc (Obj.cells #[.int .i64 0, .bool false, .int .i64 0, .int .i64 0, .int .i64 0] 42)).drew.cell? ⟨W, 5, none⟩ = some (.int .i64 (C.f : Int)) := ⟨hpz.cell 40 _ rfl, hpz.cell 41 _ rfl, hpz.cell 42 _ rfl, hpz.cell 43 _ rfl, hpz.cell 44 _ rfl, hpz.cell 31 _ rfl, hwz.cell 5 _ rfl⟩
  have htz : Bl w.heap.size [.int .i64 0, .bool false, .int .i64 0, .int .i64 0, .int .i64 0] (w.alloc (Obj.cells #[.int .i64 0, .bool false, .int .i64 0, .int .i64 0, .int .i64 0] 42)).drew := Bl.new w [.int .i64 0, .bool false, .int .i64 0, .int .i64 0, .int .i64 0] 42
  have KP := Lib.hid hp6
  have KW := Lib.hid hw6
  have KPZ := Lib.hid hpz
  have KWZ := Lib.hid hwz
  have KTZ := Lib.hid htz
  have N2H := Lib.hid N2
  have N3H := Lib.hid N3
  clear hp6 hw6 hpz hwz htz N2 N3
  go_enter Try.func39, Try.ntmps39
  go_wp2_with fail
  go_cut [6, 7] (fun s6 s7 wx => ∃ tb, s6 = .pointer (some ⟨tb, 0, none⟩) ∧ s7 = .nilIface ∧ Hid (Below w.heap.size w wx) ∧ Hid (w.heap.size ≤ tb) ∧ Hid (Bl tb [.int .i64 s5.kind, .bool s5.flag, .int .i64 s5.gen, .int .i64 s5.left, .int .i64 s5.fills] wx) ∧ Hid (Bl p (prc (i : Int) aY t) wx))
  case first =>
    go_region_held3 (fun w' => w'.cell? ⟨p, 40, none⟩ = some (.int .i64 t.nw.kind) ∧ w'.cell? ⟨p, 41, none⟩ = some (.bool t.nw.flag) ∧ w'.cell? ⟨p, 42, none⟩ = some (.int .i64 t.nw.gen) ∧ w'.cell? ⟨p, 43, none⟩ = some (.int .i64 t.nw.left) ∧ w'.cell? ⟨p, 44, none⟩ = some (.int .i64 t.nw.fills) ∧ w'.cell? ⟨p, 31, none⟩ = some (.int .i64 t.q) ∧ w'.cell? ⟨W, 5, none⟩ = some (.int .i64 (C.f : Int))) (first | with_reducible exact hT0 | with_reducible exact hTz | with_reducible exact hT1 | with_reducible exact hT2 | with_reducible exact hT3 | with_reducible exact hTd1 | with_reducible exact hTd2 | fail)
      (first
        | ((with_reducible refine (HTK.out w.drew).mono ?_); rintro e wyc ⟨rfl, hbyc⟩; have hpc := KP.out.below hbyc; have hwc := KW.out.below hbyc; have HBC := Lib.hid hbyc; have lpc := hpc.lt; have lwc := hwc.lt; have hT1 : wyc.cell? ⟨p, 40, none⟩ = some (.int .i64 t.nw.kind) ∧ wyc.cell? ⟨p, 41, none⟩ = some (.bool t.nw.flag) ∧ wyc.cell? ⟨p, 42, none⟩ = some (.int .i64 t.nw.gen) ∧ wyc.cell? ⟨p, 43, none⟩ = some (.int .i64 t.nw.left) ∧ wyc.cell? ⟨p, 44, none⟩ = some (.int .i64 t.nw.fills) ∧ wyc.cell? ⟨p, 31, none⟩ = some (.int .i64 t.q) ∧ wyc.cell? ⟨W, 5, none⟩ = some (.int .i64 (C.f : Int)) := ⟨hpc.cell 40 _ rfl, hpc.cell 41 _ rfl, hpc.cell 42 _ rfl, hpc.cell 43 _ rfl, hpc.cell 44 _ rfl, hpc.cell 31 _ rfl, hwc.cell 5 _ rfl⟩; have hp2 := hpc.below (w' := wyc.alloc (Obj.cells #[.int .i64 0, .bool false, .int .i64 0, .int .i64 0, .int .i64 0] 42)) (by go_grown); have hw2 := hwc.below (w' := wyc.alloc (Obj.cells #[.int .i64 0, .bool false, .int .i64 0, .int .i64 0, .int .i64 0] 42)) (by go_grown); have hT2 : (wyc.alloc (Obj.cells #[.int .i64 0, .bool false, .int .i64 0, .int .i64 0, .int .i64 0] 42)).cell? ⟨p, 40, none⟩ = some (.int .i64 t.nw.kind) ∧ (wyc.alloc (Obj.cells #[.int .i64 0, .bool false, .int .i64 0, .int .i64 0, .int .i64 0] 42)).cell? ⟨p, 41, none⟩ = some (.bool t.nw.flag) ∧ (wyc.alloc (Obj.cells #[.int .i64 0, .bool false, .int .i64 0, .int .i64 0, .int .i64 0] 42)).cell? ⟨p, 42, none⟩ = some (.int .i64 t.nw.gen) ∧ (wyc.alloc (Obj.cells #[.int .i64 0, .bool false, .int .i64 0, .int .i64 0, .int .i64 0] 42)).cell? ⟨p, 43, none⟩ = some (.int .i64 t.nw.left) ∧ (wyc.alloc (Obj.cells #[.int .i64 0, .bool false, .int .i64 0, .int .i64 0, .int .i64 0] 42)).cell? ⟨p, 44, none⟩ = some (.int .i64 t.nw.fills) ∧ (wyc.alloc (Obj.cells #[.int .i64 0, .bool false, .int .i64 0, .int .i64 0, .int .i64 0] 42)).cell? ⟨p, 31, none⟩ = some (.int .i64 t.q) ∧ (wyc.alloc (Obj.cells #[.int .i64 0, .bool false, .int .i64 0, .int .i64 0, .int .i64 0] 42)).cell? ⟨W, 5, none⟩ = some (.int .i64 (C.f : Int)) := ⟨hp2.cell 40 _ rfl, hp2.cell 41 _ rfl, hp2.cell 42 _ rfl, hp2.cell 43 _ rfl, hp2.cell 44 _ rfl, hp2.cell 31 _ rfl, hw2.cell 5 _ rfl⟩; have hp3 := hpc.below (w' := wyc.alloc (Obj.cells #[.int .i64 s5.kind, .bool s5.flag, .int .i64 s5.gen, .int .i64 s5.left, .int .i64 s5.fills] 42)) (by go_grown); have hw3 := hwc.below (w' := wyc.alloc (Obj.cells #[.int .i64 s5.kind, .bool s5.flag, .int .i64 s5.gen, .int .i64 s5.left, .int .i64 s5.fills] 42)) (by go_grown); have hT3 : (wyc.alloc (Obj.cells #[.int .i64 s5.kind, .bool s5.flag, .int .i64 s5.gen, .int .i64 s5.left, .int .i64 s5.fills] 42)).cell? ⟨p, 40, none⟩ = some (.int .i64 t.nw.kind) ∧ (wyc.alloc (Obj.cells #[.int .i64 s5.kind, .bool s5.flag, .int .i64 s5.gen, .int .i64 s5.left, .int .i64 s5.fills] 42)).cell? ⟨p, 41, none⟩ = some (.bool t.nw.flag) ∧ (wyc.alloc (Obj.cells #[.int .i64 s5.kind, .bool s5.flag, .int .i64 s5.gen, .int .i64 s5.left, .int .i64 s5.fills] 42)).cell? ⟨p, 42, none⟩ = some (.int .i64 t.nw.gen) ∧ (wyc.alloc (Obj.cells #[.int .i64 s5.kind, .bool s5.flag, .int .i64 s5.gen, .int .i64 s5.left, .int .i64 s5.fills] 42)).cell? ⟨p, 43, none⟩ = some (.int .i64 t.nw.left) ∧ (wyc.alloc (Obj.cells #[.int .i64 s5.kind, .bool s5.flag, .int .i64 s5.gen, .int .i64 s5.left, .int .i64 s5.fills] 42)).cell? ⟨p, 44, none⟩ = some (.int .i64 t.nw.fills) ∧ (wyc.alloc (Obj.cells #[.int .i64 s5.kind, .bool s5.flag, .int .i64 s5.gen, .int .i64 s5.left, .int .i64 s5.fills] 42)).cell? ⟨p, 31, none⟩ = some (.int .i64 t.q) ∧ (wyc.alloc (Obj.cells #[.int .i64 s5.kind, .bool s5.flag, .int .i64 s5.gen, .int .i64 s5.left, .int .i64 s5.fills] 42)).cell? ⟨W, 5, none⟩ = some (.int .i64 (C.f : Int)) := ⟨hp3.cell 40 _ rfl, hp3.cell 41 _ rfl, hp3.cell 42 _ rfl, hp3.cell 43 _ rfl, hp3.cell 44 _ rfl, hp3.cell 31 _ rfl, hw3.cell 5 _ rfl⟩; have KP3 := Lib.hid hp3; clear hbyc hpc hwc hp2 hw2 hp3 hw3)
        | ((with_reducible refine (HTK.out (w.alloc (Obj.cells #[.int .i64 0, .bool false, .int .i64 0, .int .i64 0, .int .i64 0] 42)).drew).mono ?_); rintro e wyd ⟨rfl, hbyd⟩; have hpd := KPZ.out.below hbyd; have hwd := KWZ.out.below hbyd; have htd := KTZ.out.below hbyd; have HBD := Lib.hid hbyd; have lpd := hpd.lt; have lwd := hwd.lt; have ltd := htd.lt; have x0 := htd.cell 0 _ rfl; have x1 := htd.cell 1 _ rfl; have x2 := htd.cell 2 _ rfl; have x3 := htd.cell 3 _ rfl; have x4 := htd.cell 4 _ rfl; have y0 := htd.frz 0; have y1 := htd.frz 1; have y2 := htd.frz 2; have y3 := htd.frz 3; have y4 := htd.frz 4; have hTd1 : wyd.cell? ⟨p, 40, none⟩ = some (.int .i64 t.nw.kind) ∧ wyd.cell? ⟨p, 41, none⟩ = some (.bool t.nw.flag) ∧ wyd.cell? ⟨p, 42, none⟩ = some (.int .i64 t.nw.gen) ∧ wyd.cell? ⟨p, 43, none⟩ = some (.int .i64 t.nw.left) ∧ wyd.cell? ⟨p, 44, none⟩ = some (.int .i64 t.nw.fills) ∧ wyd.cell? ⟨p, 31, none⟩ = some (.int .i64 t.q) ∧ wyd.cell? ⟨W, 5, none⟩ = some (.int .i64 (C.f : Int)) := ⟨hpd.cell 40 _ rfl, hpd.cell 41 _ rfl, hpd.cell 42 _ rfl, hpd.cell 43 _ rfl, hpd.cell 44 _ rfl, hpd.cell 31 _ rfl, hwd.cell 5 _ rfl⟩; have hpd2 := (((((hpd.far (p := ⟨w.heap.size, 0, none⟩) N2H.out (.int .i64 s5.kind)).far (p := ⟨w.heap.size, 1, none⟩) N2H.out (.bool s5.flag)).far (p := ⟨w.heap.size, 2, none⟩) N2H.out (.int .i64 s5.gen)).far (p := ⟨w.heap.size, 3, none⟩) N2H.out (.int .i64 s5.left)).far (p := ⟨w.heap.size, 4, none⟩) N2H.out (.int .i64 s5.fills)); have hwd2 := (((((hwd.far (p := ⟨w.heap.size, 0, none⟩) N3H.out (.int .i64 s5.kind)).far (p := ⟨w.heap.size, 1, none⟩) N3H.out (.bool s5.flag)).far (p := ⟨w.heap.size, 2, none⟩) N3H.out (.int .i64 s5.gen)).far (p := ⟨w.heap.size, 3, none⟩) N3H.out (.int .i64 s5.left)).far (p := ⟨w.heap.size, 4, none⟩) N3H.out (.int .i64 s5.fills)); have hTd2 : (((((wyd.setCell ⟨w.heap.size, 0, none⟩ (.int .i64 s5.kind)).setCell ⟨w.heap.size, 1, none⟩ (.bool s5.flag)).setCell ⟨w.heap.size, 2, none⟩ (.int .i64 s5.gen)).setCell ⟨w.heap.size, 3, none⟩ (.int .i64 s5.left)).setCell ⟨w.heap.size, 4, none⟩ (.int .i64 s5.fills)).cell? ⟨p, 40, none⟩ = some (.int .i64 t.nw.kind) ∧ (((((wyd.setCell ⟨w.heap.size, 0, none⟩ (.int .i64 s5.kind)).setCell ⟨w.heap.size, 1, none⟩ (.bool s5.flag)).setCell ⟨w.heap.size, 2, none⟩ (.int .i64 s5.gen)).setCell ⟨w.heap.size, 3, none⟩ (.int .i64 s5.left)).setCell ⟨w.heap.size, 4, none⟩ (.int .i64 s5.fills)).cell? ⟨p, 41, none⟩ = some (.bool t.nw.flag) ∧ (((((wyd.setCell ⟨w.heap.size, 0, none⟩ (.int .i64 s5.kind)).setCell ⟨w.heap.size, 1, none⟩ (.bool s5.flag)).setCell ⟨w.heap.size, 2, none⟩ (.int .i64 s5.gen)).setCell ⟨w.heap.size, 3, none⟩ (.int .i64 s5.left)).setCell ⟨w.heap.size, 4, none⟩ (.int .i64 s5.fills)).cell? ⟨p, 42, none⟩ = some (.int .i64 t.nw.gen) ∧ (((((wyd.setCell ⟨w.heap.size, 0, none⟩ (.int .i64 s5.kind)).setCell ⟨w.heap.size, 1, none⟩ (.bool s5.flag)).setCell ⟨w.heap.size, 2, none⟩ (.int .i64 s5.gen)).setCell ⟨w.heap.size, 3, none⟩ (.int .i64 s5.left)).setCell ⟨w.heap.size, 4, none⟩ (.int .i64 s5.fills)).cell? ⟨p, 43, none⟩ = some (.int .i64 t.nw.left) ∧ (((((wyd.setCell ⟨w.heap.size, 0, none⟩ (.int .i64 s5.kind)).setCell ⟨w.heap.size, 1, none⟩ (.bool s5.flag)).setCell ⟨w.heap.size, 2, none⟩ (.int .i64 s5.gen)).setCell ⟨w.heap.size, 3, none⟩ (.int .i64 s5.left)).setCell ⟨w.heap.size, 4, none⟩ (.int .i64 s5.fills)).cell? ⟨p, 44, none⟩ = some (.int .i64 t.nw.fills) ∧ (((((wyd.setCell ⟨w.heap.size, 0, none⟩ (.int .i64 s5.kind)).setCell ⟨w.heap.size, 1, none⟩ (.bool s5.flag)).setCell ⟨w.heap.size, 2, none⟩ (.int .i64 s5.gen)).setCell ⟨w.heap.size, 3, none⟩ (.int .i64 s5.left)).setCell ⟨w.heap.size, 4, none⟩ (.int .i64 s5.fills)).cell? ⟨p, 31, none⟩ = some (.int .i64 t.q) ∧ (((((wyd.setCell ⟨w.heap.size, 0, none⟩ (.int .i64 s5.kind)).setCell ⟨w.heap.size, 1, none⟩ (.bool s5.flag)).setCell ⟨w.heap.size, 2, none⟩ (.int .i64 s5.gen)).setCell ⟨w.heap.size, 3, none⟩ (.int .i64 s5.left)).setCell ⟨w.heap.size, 4, none⟩ (.int .i64 s5.fills)).cell? ⟨W, 5, none⟩ = some (.int .i64 (C.f : Int)) := ⟨hpd2.cell 40 _ rfl, hpd2.cell 41 _ rfl, hpd2.cell 42 _ rfl, hpd2.cell 43 _ rfl, hpd2.cell 44 _ rfl, hpd2.cell 31 _ rfl, hwd2.cell 5 _ rfl⟩; have KPD := Lib.hid hpd2; have KTD := Lib.hid htd; clear hbyd hpd hwd htd hpd2 hwd2)
        | fail)
    · go_wp2_with fail
      go_meet
      case rel =>
        have hb := Below.step ((Below.refl w.heap.size w).drew) HBC.out
        exact ⟨_, rfl, rfl, Lib.hid (hb.alloc hb.size (Obj.cells #[.int .i64 s5.kind, .bool s5.flag, .int .i64 s5.gen, .int .i64 s5.left, .int .i64 s5.fills] 42)), Lib.hid (show w.heap.size ≤ wyc.heap.size from hb.size), Lib.hid (show Bl wyc.heap.size [.int .i64 s5.kind, .bool s5.flag, .int .i64 s5.gen, .int .i64 s5.left, .int .i64 s5.fills] (wyc.alloc (Obj.cells #[.int .i64 s5.kind, .bool s5.flag, .int .i64 s5.gen, .int .i64 s5.left, .int .i64 s5.fills] 42)) from Bl.new wyc [.int .i64 s5.kind, .bool s5.flag, .int .i64 s5.gen, .int .i64 s5.left, .int .i64 s5.fills] 42), KP3⟩
    · go_wp2_with fail
      go_meet
      case rel =>
        have hb := Below.step (((Below.refl w.heap.size w).alloc (Nat.le_refl _) (Obj.cells #[.int .i64 0, .bool false, .int .i64 0, .int .i64 0, .int .i64 0] 42)).drew) HBD.out
        exact ⟨_, rfl, rfl, Lib.hid (((((hb.setCell (p := ⟨w.heap.size, 0, none⟩) (Nat.le_refl _) (.int .i64 s5.kind)).setCell (p := ⟨w.heap.size, 1, none⟩) (Nat.le_refl _) (.bool s5.flag)).setCell (p := ⟨w.heap.size, 2, none⟩) (Nat.le_refl _) (.int .i64 s5.gen)).setCell (p := ⟨w.heap.size, 3, none⟩) (Nat.le_refl _) (.int .i64 s5.left)).setCell (p := ⟨w.heap.size, 4, none⟩) (Nat.le_refl _) (.int .i64 s5.fills)), Lib.hid (Nat.le_refl w.heap.size), Lib.hid (show Bl w.heap.size [.int .i64 s5.kind, .bool s5.flag, .int .i64 s5.gen, .int .i64 s5.left, .int .i64 s5.fills] (((((wyd.setCell ⟨w.heap.size, 0, none⟩ (.int .i64 s5.kind)).setCell ⟨w.heap.size, 1, none⟩ (.bool s5.flag)).setCell ⟨w.heap.size, 2, none⟩ (.int .i64 s5.gen)).setCell ⟨w.heap.size, 3, none⟩ (.int .i64 s5.left)).setCell ⟨w.heap.size, 4, none⟩ (.int .i64 s5.fills)) from ((((KTD.out.set 0 (.int .i64 s5.kind)).set 1 (.bool s5.flag)).set 2 (.int .i64 s5.gen)).set 3 (.int .i64 s5.left)).set 4 (.int .i64 s5.fills)), KPD⟩
  case rest =>
    obtain ⟨tb, rfl, rfl, HB7, HN7, HT7, HP7⟩ := hcut
    obtain ⟨w7, hw7⟩ : ∃ w7, w7 = wc := ⟨_, rfl⟩
    subst hw7
    clear hT0 hTz KP KW KPZ KWZ KTZ N2H N3H
    have HW7 := Lib.hid (H.out.below HB7.out.drew)
    have p7 : Bl p (prc (i : Int) aY t) w7.drew := HP7.out
    have t7 : Bl tb [.int .i64 s5.kind, .bool s5.flag, .int .i64 s5.gen, .int .i64 s5.left, .int .i64 s5.fills] w7.drew := HT7.out
    have z2 := HN7.out
    have z3 := H.out.hK
    obtain ⟨z4, z5, z6, z7⟩ := H.out.lo
    have hU0 : w7.drew.cell? ⟨p, 1, none⟩ = some (.int .i64 (i : Int)) ∧ w7.drew.cell? ⟨p, 39, none⟩ = some (.int .u64 (cw t.nw : Int)) ∧ w7.drew.cell? ⟨tb, 0, none⟩ = some (.int .i64 s5.kind) ∧ w7.drew.cell? ⟨tb, 1, none⟩ = some (.bool s5.flag) ∧ w7.drew.cell? ⟨tb, 2, none⟩ = some (.int .i64 s5.gen) ∧ w7.drew.cell? ⟨tb, 3, none⟩ = some (.int .i64 s5.left) ∧ w7.drew.cell? ⟨tb, 4, none⟩ = some (.int .i64 s5.fills) := ⟨p7.cell 1 _ rfl, p7.cell 39 _ rfl, t7.cell 0 _ rfl, t7.cell 1 _ rfl, t7.cell 2 _ rfl, t7.cell 3 _ rfl, t7.cell 4 _ rfl⟩
    have l7p := p7.lt
    have l7t := t7.lt
    have P7 := Lib.hid p7
    have T7 := Lib.hid t7
    have NTM := Lib.hid (show tb ≠ M from by omega)
    have NTB := Lib.hid (show tb ≠ B from by omega)
    clear p7 t7
    go_wp2_with fail
    go_region_held3 (fun w' => w'.cell? ⟨p, 1, none⟩ = some (.int .i64 (i : Int)) ∧ w'.cell? ⟨p, 39, none⟩ = some (.int .u64 (cw t.nw : Int)) ∧ w'.cell? ⟨tb, 0, none⟩ = some (.int .i64 s5.kind) ∧ w'.cell? ⟨tb, 1, none⟩ = some (.bool s5.flag) ∧ w'.cell? ⟨tb, 2, none⟩ = some (.int .i64 s5.gen) ∧ w'.cell? ⟨tb, 3, none⟩ = some (.int .i64 s5.left) ∧ w'.cell? ⟨tb, 4, none⟩ = some (.int .i64 s5.fills)) (first | with_reducible exact hU0 | with_reducible exact hU1 | fail)
      (first
        | ((with_reducible refine (HTU.out _ HW7.out).mono ?_); rintro e w8 ⟨rfl, hw8, hf8⟩; have HW8 := Lib.hid hw8; have HF8 := Lib.hid hf8; have P8 := Lib.hid (hf8.bl P7.out HA.out.nM HA.out.nB); have T8 := Lib.hid (hf8.bl T7.out NTM.out NTB.out); have hU1 : w8.cell? ⟨p, 1, none⟩ = some (.int .i64 (i : Int)) ∧ w8.cell? ⟨p, 39, none⟩ = some (.int .u64 (cw t.nw : Int)) ∧ w8.cell? ⟨tb, 0, none⟩ = some (.int .i64 s5.kind) ∧ w8.cell? ⟨tb, 1, none⟩ = some (.bool s5.flag) ∧ w8.cell? ⟨tb, 2, none⟩ = some (.int .i64 s5.gen) ∧ w8.cell? ⟨tb, 3, none⟩ = some (.int .i64 s5.left) ∧ w8.cell? ⟨tb, 4, none⟩ = some (.int .i64 s5.fills) := ⟨P8.out.cell 1 _ rfl, P8.out.cell 39 _ rfl, T8.out.cell 0 _ rfl, T8.out.cell 1 _ rfl, T8.out.cell 2 _ rfl, T8.out.cell 3 _ rfl, T8.out.cell 4 _ rfl⟩; clear hw8 hf8)
        | fail)
    go_wp2_with fail
    have NPW := Lib.hid HA.out.nW
    have NPC := Lib.hid HA.out.nC
    have NPT := Lib.hid (show p ≠ tb from by have := HA.out.lo; omega)
    have NLT := Lib.hid (show lv.ownBlock ≠ some tb from fun e => by have := (H.out.row.lt tb e).2; omega)
    have NWT := Lib.hid (show tb ≠ W from by omega)
    have HWD := Lib.hid (show PW K C W M B Ck (Mm.upd ws (2 * i) (cw s5 : Int)) (st + 1) now lv L w8.drew from HW8.out.below (Below.drew (Below.refl _ _)))
    have PD : Hid (Bl p (prc (i : Int) aY t) w8.drew) := P8
    have QD := Lib.hid (show Fq M B p w w8.drew from (((Fq.of (Fm.of HB7.out.drew)).trans (Fq.of HF8.out)).trans (Fq.of (Fm.of (Below.drew (Below.refl _ _))))))
    have hV0d : Bl tb [.int .i64 s5.kind, .bool s5.flag, .int .i64 s5.gen, .int .i64 s5.left, .int .i64 s5.fills] w8.drew ∧ w8.drew.cell? ⟨W, 8, none⟩ = some (.pointer (some ⟨Ck, 0, none⟩)) := ⟨T8.out, HWD.out.blk.cell 8 _ rfl⟩
    refine wp_region_held_drew (S := fun w' => Bl tb [.int .i64 s5.kind, .bool s5.flag, .int .i64 s5.gen, .int .i64 s5.left, .int .i64 s5.fills] w' ∧ w'.cell? ⟨W, 8, none⟩ = some (.pointer (some ⟨Ck, 0, none⟩))) (by kernel_rfl) hV0d (fun hHeld => ?_)
    have gWs : ∀ (W1 W2 : World) (j : Nat) (v : Value), (∃ l, Bl p l W1) → (W2 = W1.setCell ⟨p, j, none⟩ v) → (Bl tb [.int .i64 s5.kind, .bool s5.flag, .int .i64 s5.gen, .int .i64 s5.left, .int .i64 s5.fills] W1 ∧ W1.cell? ⟨W, 8, none⟩ = some (.pointer (some ⟨Ck, 0, none⟩))) → (Bl tb [.int .i64 s5.kind, .bool s5.flag, .int .i64 s5.gen, .int .i64 s5.left, .int .i64 s5.fills] W2 ∧ W2.cell? ⟨W, 8, none⟩ = some (.pointer (some ⟨Ck, 0, none⟩))) := fun W1 W2 j v _ he hh => by
      subst he
      exact ⟨hh.1.far (p := ⟨p, j, none⟩) NPT.out v, (Mm.cell_other W1 p W j 8 v (.inl NPW.out)).trans hh.2⟩
    have GWS := Lib.hid gWs
    clear hV0d gWs hU0 hU1
    generalize w8.drew = WD at HWD PD QD hHeld ⊢
    clear P8 T8 HW8 HF8 l7p l7t P7 T7 HW7
    refine tk (i := 0) (d := some 78) (v := ?_) (hy := Or.inl ⟨by rfl, ?_⟩) (h := ?_)
    rotate_left
    · intro wq hSw
      go_simp
      try with_reducible rfl
    simp only [Act.put, tkA, tkB, tkC]
    refine tk (i := 1) (d := some 79) (v := ?_) (hy := Or.inl ⟨by rfl, ?_⟩) (h := ?_)
    rotate_left
    · intro wq hSw
      go_simp
      try with_reducible rfl
    simp only [Act.put, tkA, tkB, tkC]
    refine tk (i := 2) (d := some 80) (v := ?_) (hy := Or.inl ⟨by rfl, ?_⟩) (h := ?_)
    rotate_left
    · intro wq hSw
      go_simp
      try with_reducible rfl
    simp only [Act.put, tkA, tkB, tkC]
    refine tk (i := 3) (d := some 81) (v := ?_) (hy := Or.inl ⟨by rfl, ?_⟩) (h := ?_)
    rotate_left
    · intro wq hSw
      have x0 := hSw.1.cell 0 _ rfl
      have x1 := hSw.1.cell 1 _ rfl
      have x2 := hSw.1.cell 2 _ rfl
      have x3 := hSw.1.cell 3 _ rfl
      have x4 := hSw.1.cell 4 _ rfl
      have xl := hSw.1.lt
      go_simp
      try with_reducible rfl
    simp only [Act.put, tkA, tkB, tkC]
    refine tk (i := 4) (d := some 82) (v := ?_) (hy := Or.inl ⟨by rfl, ?_⟩) (h := ?_)
    rotate_left
    · intro wq hSw
      go_simp
      try with_reducible rfl
    simp only [Act.put, tkA, tkB, tkC]
    refine tk (i := 5) (d := some 83) (v := ?_) (hy := Or.inl ⟨by rfl, ?_⟩) (h := ?_)
    rotate_left
    · intro wq hSw
      go_simp
      try with_reducible rfl
    simp only [Act.put, tkA, tkB, tkC]
    refine tk (i := 6) (d := some 84) (v := ?_) (hy := Or.inl ⟨by rfl, ?_⟩) (h := ?_)
    rotate_left
    · intro wq hSw
      go_simp
      try with_reducible rfl
    simp only [Act.put, tkA, tkB, tkC]
    refine tk (i := 7) (d := some 85) (v := ?_) (hy := Or.inl ⟨by rfl, ?_⟩) (h := ?_)
    rotate_left
    · intro wq hSw
      have x8 := hSw.2
      go_simp
      try with_reducible rfl
    simp only [Act.put, tkA, tkB, tkC]
    refine wpAnyH_ready (rs := [8]) (by as_aux_lemma => kernel_rfl) (by simp) ?_
    refine AllReadyH.cons rfl (fun K hK => ?_) AllReadyH.nil
    go_simp
    have hck : WD.cell? ⟨Ck, 0, none⟩ = some (.int .i64 now) := HWD.out.clk.cell 0 _ rfl
    refine (now_is Ck 0 now WD hck).mono ?_
    rintro e w' ⟨rfl, rfl⟩
    refine hK.out _ _ hHeld (fun hHeld => ?_)
    clear hK K hck
    try simp only [Act.put, tkA, tkB, tkC]
    refine tk (i := 9) (d := some 87) (v := ?_) (hy := Or.inl ⟨by rfl, ?_⟩) (h := ?_)
    rotate_left
    · intro wq hSw
      go_simp
      try with_reducible rfl
    simp only [Act.put, tkA, tkB, tkC]
    refine tk (i := 10) (d := some 88) (v := ?_) (hy := Or.inl ⟨by rfl, ?_⟩) (h := ?_)
    rotate_left
    · intro wq hSw
      go_simp
      try with_reducible rfl
    simp only [Act.put, tkA, tkB, tkC]
    refine wpAnyH_ready (rs := [11]) (by as_aux_lemma => kernel_rfl) (by simp) ?_
    refine AllReadyH.cons rfl (fun K hK => ?_) AllReadyH.nil
    have d30 := PD.out.cell 30 _ rfl
    have f30 := PD.out.frz 30
    have lp9 := PD.out.lt
    go_simp
    refine hK.out _ _ ((GWS.out _ _ 30 (.bool true) ⟨_, PD.out⟩ rfl hHeld)) (fun hHeld => ?_)
    have HWE := Lib.hid (HWD.out.pset HA.out 30 (.bool true))
    have PE := Lib.hid (PD.out.set 30 (.bool true))
    have QE := Lib.hid (QD.out.set 30 (.bool true))
    clear hK K HWD PD QD d30 f30 lp9
    try simp only [Act.put, tkA, tkB, tkC]
    generalize (WD.setCell ⟨p, 30, none⟩ (.bool true)) = WE1 at HWE PE QE hHeld ⊢
    have HWD := HWE
    have PD := PE
    have QD := QE
    clear HWE PE QE
    refine tk (i := 12) (d := some 89) (v := ?_) (hy := Or.inl ⟨by rfl, ?_⟩) (h := ?_)
    rotate_left
    · intro wq hSw
      go_simp
      try with_reducible rfl
    simp only [Act.put, tkA, tkB, tkC]
    refine tk (i := 13) (d := some 90) (v := ?_) (hy := Or.inl ⟨by rfl, ?_⟩) (h := ?_)
    rotate_left
    · intro wq hSw
      go_simp
      try with_reducible rfl
    simp only [Act.put, tkA, tkB, tkC]
    refine wpAnyH_ready (rs := [14]) (by as_aux_lemma => kernel_rfl) (by simp) ?_
    refine AllReadyH.cons rfl (fun K hK => ?_) AllReadyH.nil
    have d50 := PD.out.cell 50 _ rfl
    have f50 := PD.out.frz 50
    have d51 := PD.out.cell 51 _ rfl
    have f51 := PD.out.frz 51
    have d52 := PD.out.cell 52 _ rfl
    have f52 := PD.out.frz 52
    have d53 := PD.out.cell 53 _ rfl
    have f53 := PD.out.frz 53
    have d54 := PD.out.cell 54 _ rfl
    have f54 := PD.out.frz 54
    have lp9 := PD.out.lt
    go_simp
    refine hK.out _ _ ((GWS.out _ _ 54 (.int .i64 s5.fills) ⟨_, ((((PD.out.set 50 (.int .i64 s5.kind)).set 51 (.bool s5.flag)).set 52 (.int .i64 s5.gen)).set 53 (.int .i64 s5.left))⟩ rfl (GWS.out _ _ 53 (.int .i64 s5.left) ⟨_, (((PD.out.set 50 (.int .i64 s5.kind)).set 51 (.bool s5.flag)).set 52 (.int .i64 s5.gen))⟩ rfl (GWS.out _ _ 52 (.int .i64 s5.gen) ⟨_, ((PD.out.set 50 (.int .i64 s5.kind)).set 51 (.bool s5.flag))⟩ rfl (GWS.out _ _ 51 (.bool s5.flag) ⟨_, (PD.out.set 50 (.int .i64 s5.kind))⟩ rfl (GWS.out _ _ 50 (.int .i64 s5.kind) ⟨_, PD.out⟩ rfl hHeld)))))) (fun hHeld => ?_)
    have HWE := Lib.hid (((((HWD.out.pset HA.out 50 (.int .i64 s5.kind)).pset HA.out 51 (.bool s5.flag)).pset HA.out 52 (.int .i64 s5.gen)).pset HA.out 53 (.int .i64 s5.left)).pset HA.out 54 (.int .i64 s5.fills))
    have PE := Lib.hid (((((PD.out.set 50 (.int .i64 s5.kind)).set 51 (.bool s5.flag)).set 52 (.int .i64 s5.gen)).set 53 (.int .i64 s5.left)).set 54 (.int .i64 s5.fills))
    have QE := Lib.hid (((((QD.out.set 50 (.int .i64 s5.kind)).set 51 (.bool s5.flag)).set 52 (.int .i64 s5.gen)).set 53 (.int .i64 s5.left)).set 54 (.int .i64 s5.fills))
    clear hK K HWD PD QD d50 f50 d51 f51 d52 f52 d53 f53 d54 f54 lp9
    try simp only [Act.put, tkA, tkB, tkC]
    generalize (((((WE1.setCell ⟨p, 50, none⟩ (.int .i64 s5.kind)).setCell ⟨p, 51, none⟩ (.bool s5.flag)).setCell ⟨p, 52, none⟩ (.int .i64 s5.gen)).setCell ⟨p, 53, none⟩ (.int .i64 s5.left)).setCell ⟨p, 54, none⟩ (.int .i64 s5.fills)) = WE2 at HWE PE QE hHeld ⊢
    have HWD := HWE
    have PD := PE
    have QD := QE
    clear HWE PE QE
    refine tk (i := 15) (d := some 91) (v := ?_) (hy := Or.inl ⟨by rfl, ?_⟩) (h := ?_)
    rotate_left
    · intro wq hSw
      go_simp
      try with_reducible rfl
    simp only [Act.put, tkA, tkB, tkC]
    refine tk (i := 16) (d := some 92) (v := ?_) (hy := Or.inl ⟨by rfl, ?_⟩) (h := ?_)
    rotate_left
    · intro wq hSw
      go_simp
      try with_reducible rfl
    simp only [Act.put, tkA, tkB, tkC]
    refine wpAnyH_ready (rs := [17]) (by as_aux_lemma => kernel_rfl) (by simp) ?_
    refine AllReadyH.cons rfl (fun K hK => ?_) AllReadyH.nil
    have d55 := PD.out.cell 55 _ rfl
    have f55 := PD.out.frz 55
    have lp9 := PD.out.lt
    go_simp
    refine hK.out _ _ ((GWS.out _ _ 55 (.int .i64 now) ⟨_, PD.out⟩ rfl hHeld)) (fun hHeld => ?_)
    have HWE := Lib.hid (HWD.out.pset HA.out 55 (.int .i64 now))
    have PE := Lib.hid (PD.out.set 55 (.int .i64 now))
    have QE := Lib.hid (QD.out.set 55 (.int .i64 now))
    clear hK K HWD PD QD d55 f55 lp9
    try simp only [Act.put, tkA, tkB, tkC]
    generalize (WE2.setCell ⟨p, 55, none⟩ (.int .i64 now)) = w9 at HWE PE QE hHeld ⊢
    have HWD := HWE
    have PD := PE
    have QD := QE
    clear HWE PE QE
    refine wpAnyH_done (by as_aux_lemma => kernel_rfl) ?_ _
    have HW9 := HWD
    have P9 := Lib.hid (show Bl p (prc (i : Int) aY { t with freed := true, lt := s5, ltk := now }) w9 from PD.out)
    have T9 := Lib.hid hHeld.1
    have Q9 := QD
    clear HWD PD QD hHeld
    have l9 := P9.out.lt
    have l9t := T9.out.lt
    have l9W := HW9.out.blk.lt
    have x0 := T9.out.cell 0 _ rfl
    have x1 := T9.out.cell 1 _ rfl
    have x2 := T9.out.cell 2 _ rfl
    have x3 := T9.out.cell 3 _ rfl
    have x4 := T9.out.cell 4 _ rfl
    have HOV := Lib.hid (fun W => over_any s5 W)
    unfold sc at HOV
    go_wp2_with fail
    refine (HOV.out _).mono ?_
    rintro e w10 ⟨rfl, hb10⟩
    have HB10 := Lib.hid hb10
    clear hb10
    rw [show overS s5 = true from HHV.out]
    have P10 := Lib.hid (P9.out.below HB10.out)
    have T10 := Lib.hid (T9.out.below HB10.out)
    have HW10 := Lib.hid (show PW K C W M B Ck (Mm.upd ws (2 * i) (cw s5 : Int)) (st + 1) now lv L w10 from HW9.out.below HB10.out)
    have Q10 := Lib.hid (Q9.out.trans (Fq.of (Fm.of HB10.out)))
    clear x0 x1 x2 x3 x4
    have l10 := P10.out.lt
    have l10t := T10.out.lt
    have l10W := HW10.out.blk.lt
    have p10 : Bl p (prc (i : Int) aY { t with freed := true, lt := s5, ltk := now }) w10.drew := P10.out
    have t10 : Bl tb [.int .i64 s5.kind, .bool s5.flag, .int .i64 s5.gen, .int .i64 s5.left, .int .i64 s5.fills] w10.drew := T10.out
    have hX0 : w10.drew.cell? ⟨p, 1, none⟩ = some (.int .i64 (i : Int)) ∧ w10.drew.cell? ⟨tb, 2, none⟩ = some (.int .i64 s5.gen) ∧ w10.drew.cell? ⟨tb, 0, none⟩ = some (.int .i64 s5.kind) := ⟨p10.cell 1 _ rfl, t10.cell 2 _ rfl, t10.cell 0 _ rfl⟩
    have HW10d := Lib.hid (show PW K C W M B Ck (Mm.upd ws (2 * i) (cw s5 : Int)) (st + 1) now lv L w10.drew from HW10.out.below (Below.drew (Below.refl _ _)))
    have HTELL := Lib.hid (fun (W' : World) (hW' : PW K C W M B Ck (Mm.upd ws (2 * i) (cw s5 : Int)) (st + 1) now lv L W') => tell_is hW' 7 (i : Int) s5.gen 0 0 0 0 0 0 0 0 0 0 s5.kind (.over i s5.gen s5.kind now) rfl HL9.out)
    clear p10 t10
    go_wp2_with fail
    go_region_held3 (fun w' => w'.cell? ⟨p, 1, none⟩ = some (.int .i64 (i : Int)) ∧ w'.cell? ⟨tb, 2, none⟩ = some (.int .i64 s5.gen) ∧ w'.cell? ⟨tb, 0, none⟩ = some (.int .i64 s5.kind)) (first | with_reducible exact hX0 | with_reducible exact hX1 | fail)
      (first
        | ((with_reducible refine (HTELL.out _ HW10d.out).mono ?_); rintro e w11 ⟨rfl, lv', hw11, hf11⟩; have HW11 := Lib.hid hw11; have HF11 := Lib.hid hf11; have P11 := Lib.hid ((fun (hh : Bl p (prc (i : Int) aY { t with freed := true, lt := s5, ltk := now }) w10.drew) => show Bl p (prc (i : Int) aY { t with freed := true, lt := s5, ltk := now }) w11 from hh.elim fun tt htt => ⟨tt, (HF11.out.block p l10 HA.out.nW (fun e => by have := (HW10.out.row.lt p e).1; have := HA.out.lo; omega)).trans htt⟩) P10.out); have T11 := Lib.hid ((fun (hh : Bl tb [.int .i64 s5.kind, .bool s5.flag, .int .i64 s5.gen, .int .i64 s5.left, .int .i64 s5.fills] w10.drew) => show Bl tb [.int .i64 s5.kind, .bool s5.flag, .int .i64 s5.gen, .int .i64 s5.left, .int .i64 s5.fills] w11 from hh.elim fun tt htt => ⟨tt, (HF11.out.block tb l10t NWT.out NLT.out).trans htt⟩) T10.out); have hX1 : w11.cell? ⟨p, 1, none⟩ = some (.int .i64 (i : Int)) ∧ w11.cell? ⟨tb, 2, none⟩ = some (.int .i64 s5.gen) ∧ w11.cell? ⟨tb, 0, none⟩ = some (.int .i64 s5.kind) := ⟨P11.out.cell 1 _ rfl, T11.out.cell 2 _ rfl, T11.out.cell 0 _ rfl⟩; clear hw11 hf11)
        | fail)
    go_wp2
    go_end0
    exact ⟨rfl, lv', HW11.out, P11.out, ⟨HF11.out.os.trans Q10.out.os, HF11.out.tape.trans Q10.out.tape, HF11.out.output.trans Q10.out.output, Nat.le_trans Q10.out.size HF11.out.size, fun g hg h1 h2 h3 h4 h5 => (HF11.out.block g (Nat.lt_of_lt_of_le hg Q10.out.size) h1 h5).trans (Q10.out.block g hg h2 h3 h4)⟩⟩
end
end Go.Proofs.Ytmjkhefgpobinaa
