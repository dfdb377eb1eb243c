/-
  Texts of the machine of pairs, part 15.
-/
import Derived.Test.YtmjkhefgpobinaaM1
import Derived.Test.YtmjkhefgpobinaaM14
namespace Go.Proofs.Ytmjkhefgpobinaa
open Go.ChangeShapes Go.WideShapes Go.ChangeAt Go.RowKit
section
variable {K : Nat} {C : Cfg} {W M B Ck p : Nat} {ws ws' : Nat → Int} {st st' now : Int} {lv : Value} {L : List Lg} {w w' : World} {aX aY : Int} {t : Tr Tm5}
set_option maxRecDepth 100000 in
set_option maxHeartbeats 16000000 in
theorem take_d (h : PW K C W M B Ck ws st now lv L w) (hC : C.Ok) (ha : Ap K W M B Ck p) (hp : Bl p (prc aX aY t) w) (q pr : Int) (hq : 1 ≤ q) (hm : ∀ w, Calls Try.prog 74 #[tc t.tx, tc t.ty, .int .i64 t.sx.left, .int .i64 t.sy.left] w (MatchPost w q pr)) (s5 : Cs) (hf5 : FitS s5) (hk : ∀ w, Calls Try.prog 75 #[sc t.sy, .int .i64 q, .int .i64 (C.f : Int)] w (Gives w s5.kind s5.gen s5.left s5.fills s5.flag .nilIface)) (i : Nat) (hi : i < C.A) (hay : aY = (i : Int)) (x : Nat) (hax : aX = (x : Int)) (hl9 : L.length ≤ 100000) (ho : ws (2 * i) = (cw t.sy : Int)) (hst : 0 ≤ st ∧ st ≤ 1000000) :
    Calls Try.prog 62 #[.pointer (some ⟨p, 0, none⟩), .pointer (some ⟨W, 0, none⟩)] w fun e w' => e = .returned (.tuple #[]) ∧ ∃ lv', PW K C W M B Ck (Mm.upd ws (2 * i) (cw s5 : Int)) (st + 1) now lv' (L ++ [.fill x t.sx.gen i t.sy.gen q pr now]) w' ∧ Bl p (prc (x : Int) (i : Int) { t with made := true, q := q, p := pr, tk := now, taken := s5 }) w' ∧ Fs W M B p lv w w' := by
  have dq : (q == 0) = false := by simpa using (show q ≠ 0 by omega)
  subst hay hax
  unfold sc at hk
  have HTK := Lib.hid hk
  have HTU := Lib.hid (fun (W' : World) (hW' : PW K C W M B Ck ws st now lv L W') => turn_yes hW' hC i hi (cw t.sy) s5 hf5 ho hst)
  unfold sc at HTU
  clear hk hC hf5 hst ho
  have HMT := Lib.hid (fun (W' : World) => show Calls Try.prog 74 #[tc t.tx, tc t.ty, .int .i64 t.sx.left, .int .i64 t.sy.left] W' (MatchPost W' q pr) from hm W')
  have H := Lib.hid h
  have HP := Lib.hid hp
  have HA := Lib.hid ha
  have hl := hp.lt
  have HNE : Hid (w.heap.size ≠ p) := fun e => by omega
  have hp0 : Bl p (prc (x : Int) (i : Int) t) w.drew := hp
  have HP0 := Lib.hid hp0
  have hS0 : w.drew.cell? ⟨p, 10, none⟩ = some (.int .i64 t.sx.left) ∧ w.drew.cell? ⟨p, 21, none⟩ = some (.int .i64 t.sy.left) ∧ w.drew.cell? ⟨p, 12, none⟩ = some (.int .i64 t.tx.n) ∧ w.drew.cell? ⟨p, 13, none⟩ = some (.int .i64 t.tx.s) ∧ w.drew.cell? ⟨p, 14, none⟩ = some (.int .i64 t.tx.p) ∧ w.drew.cell? ⟨p, 15, none⟩ = some (.int .i64 t.tx.l) ∧ w.drew.cell? ⟨p, 16, none⟩ = some (.int .i64 t.tx.u) ∧ w.drew.cell? ⟨p, 23, none⟩ = some (.int .i64 t.ty.n) ∧ w.drew.cell? ⟨p, 24, none⟩ = some (.int .i64 t.ty.s) ∧ w.drew.cell? ⟨p, 25, none⟩ = some (.int .i64 t.ty.p) ∧ w.drew.cell? ⟨p, 26, none⟩ = some (.int .i64 t.ty.l) ∧ w.drew.cell? ⟨p, 27, none⟩ = some (.int .i64 t.ty.u) := ⟨hp0.cell 10 _ rfl, hp0.cell 21 _ rfl, hp0.cell 12 _ rfl, hp0.cell 13 _ rfl, hp0.cell 14 _ rfl, hp0.cell 15 _ rfl, hp0.cell 16 _ rfl, hp0.cell 23 _ rfl, hp0.cell 24 _ rfl, hp0.cell 25 _ rfl, hp0.cell 26 _ rfl, hp0.cell 27 _ rfl⟩
  have hpz : Bl p (prc (x : Int) (i : Int) t) (w.alloc (Obj.cells #[.int .i64 0, .int .i64 0] 107)).drew := hp.below (by go_grown)
  have HPZ := Lib.hid hpz
  have HFZ : Hid (Bl w.heap.size [.int .i64 0, .int .i64 0] (w.alloc (Obj.cells #[.int .i64 0, .int .i64 0] 107)).drew) := Bl.new w [.int .i64 0, .int .i64 0] 107
  have hSz : (w.alloc (Obj.cells #[.int .i64 0, .int .i64 0] 107)).drew.cell? ⟨p, 10, none⟩ = some (.int .i64 t.sx.left) ∧ (w.alloc (Obj.cells #[.int .i64 0, .int .i64 0] 107)).drew.cell? ⟨p, 21, none⟩ = some (.int .i64 t.sy.left) ∧ (w.alloc (Obj.cells #[.int .i64 0, .int .i64 0] 107)).drew.cell? ⟨p, 12, none⟩ = some (.int .i64 t.tx.n) ∧ (w.alloc (Obj.cells #[.int .i64 0, .int .i64 0] 107)).drew.cell? ⟨p, 13, none⟩ = some (.int .i64 t.tx.s) ∧ (w.alloc (Obj.cells #[.int .i64 0, .int .i64 0] 107)).drew.cell? ⟨p, 14, none⟩ = some (.int .i64 t.tx.p) ∧ (w.alloc (Obj.cells #[.int .i64 0, .int .i64 0] 107)).drew.cell? ⟨p, 15, none⟩ = some (.int .i64 t.tx.l) ∧ (w.alloc (Obj.cells #[.int .i64 0, .int .i64 0] 107)).drew.cell? ⟨p, 16, none⟩ = some (.int .i64 t.tx.u) ∧ (w.alloc (Obj.cells #[.int .i64 0, .int .i64 0] 107)).drew.cell? ⟨p, 23, none⟩ = some (.int .i64 t.ty.n) ∧ (w.alloc (Obj.cells #[.int .i64 0, .int .i64 0] 107)).drew.cell? ⟨p, 24, none⟩ = some (.int .i64 t.ty.s) ∧ (w.alloc (Obj.cells #[.int .i64 0, .int .i64 0] 107)).drew.cell? ⟨p, 25, none⟩ = some (.int .i64 t.ty.p) ∧ (w.alloc (Obj.cells #[.int .i64 0, .int .i64 0] 107)).drew.cell? ⟨p, 26, none⟩ = some (.int .i64 t.ty.l) ∧ (w.alloc (Obj.cells #[.int .i64 0, .int .i64 0] 107)).drew.cell? ⟨p, 27, none⟩ = some (.int .i64 t.ty.u) := ⟨hpz.cell 10 _ rfl, hpz.cell 21 _ rfl, hpz.cell 12 _ rfl, hpz.cell 13 _ rfl, hpz.cell 14 _ rfl, hpz.cell 15 _ rfl, hpz.cell 16 _ rfl, hpz.cell 23 _ rfl, hpz.cell 24 _ rfl, hpz.cell 25 _ rfl, hpz.cell 26 _ rfl, hpz.cell 27 _ rfl⟩
  unfold tc at HMT
  clear h hp ha hp0 hpz
  go_enter Try.func62, Try.ntmps62
  go_wp2_with fail
  go_cut [4] (fun s4 wx => ∃ fb, s4 = .pointer (some ⟨fb, 0, none⟩) ∧ Hid (Below w.heap.size w wx) ∧ Hid (w.heap.size ≤ fb) ∧ Hid (Bl fb [.int .i64 q, .int .i64 pr] wx) ∧ Hid (Bl p (prc (x : Int) (i : Int) t) wx))
  case first =>
    go_region_held3 (fun w' => w'.cell? ⟨p, 10, none⟩ = some (.int .i64 t.sx.left) ∧ w'.cell? ⟨p, 21, none⟩ = some (.int .i64 t.sy.left) ∧ w'.cell? ⟨p, 12, none⟩ = some (.int .i64 t.tx.n) ∧ w'.cell? ⟨p, 13, none⟩ = some (.int .i64 t.tx.s) ∧ w'.cell? ⟨p, 14, none⟩ = some (.int .i64 t.tx.p) ∧ w'.cell? ⟨p, 15, none⟩ = some (.int .i64 t.tx.l) ∧ w'.cell? ⟨p, 16, none⟩ = some (.int .i64 t.tx.u) ∧ w'.cell? ⟨p, 23, none⟩ = some (.int .i64 t.ty.n) ∧ w'.cell? ⟨p, 24, none⟩ = some (.int .i64 t.ty.s) ∧ w'.cell? ⟨p, 25, none⟩ = some (.int .i64 t.ty.p) ∧ w'.cell? ⟨p, 26, none⟩ = some (.int .i64 t.ty.l) ∧ w'.cell? ⟨p, 27, none⟩ = some (.int .i64 t.ty.u)) (first | with_reducible exact hS0 | with_reducible exact hSz | with_reducible exact hS1 | with_reducible exact hS2 | with_reducible exact hS3 | with_reducible exact hSb1 | with_reducible exact hSb2 | fail)
      (first
        | ((with_reducible refine (HMT.out w.drew).mono ?_); rintro e wy1 ⟨rfl, hby1⟩; have hp1 := HP0.out.below hby1; have HP1 := Lib.hid hp1; have HB1 := Lib.hid hby1; have l1 := hp1.lt; have hS1 : wy1.cell? ⟨p, 10, none⟩ = some (.int .i64 t.sx.left) ∧ wy1.cell? ⟨p, 21, none⟩ = some (.int .i64 t.sy.left) ∧ wy1.cell? ⟨p, 12, none⟩ = some (.int .i64 t.tx.n) ∧ wy1.cell? ⟨p, 13, none⟩ = some (.int .i64 t.tx.s) ∧ wy1.cell? ⟨p, 14, none⟩ = some (.int .i64 t.tx.p) ∧ wy1.cell? ⟨p, 15, none⟩ = some (.int .i64 t.tx.l) ∧ wy1.cell? ⟨p, 16, none⟩ = some (.int .i64 t.tx.u) ∧ wy1.cell? ⟨p, 23, none⟩ = some (.int .i64 t.ty.n) ∧ wy1.cell? ⟨p, 24, none⟩ = some (.int .i64 t.ty.s) ∧ wy1.cell? ⟨p, 25, none⟩ = some (.int .i64 t.ty.p) ∧ wy1.cell? ⟨p, 26, none⟩ = some (.int .i64 t.ty.l) ∧ wy1.cell? ⟨p, 27, none⟩ = some (.int .i64 t.ty.u) := ⟨hp1.cell 10 _ rfl, hp1.cell 21 _ rfl, hp1.cell 12 _ rfl, hp1.cell 13 _ rfl, hp1.cell 14 _ rfl, hp1.cell 15 _ rfl, hp1.cell 16 _ rfl, hp1.cell 23 _ rfl, hp1.cell 24 _ rfl, hp1.cell 25 _ rfl, hp1.cell 26 _ rfl, hp1.cell 27 _ rfl⟩; have hp2 := hp1.below (w' := wy1.alloc (Obj.cells #[.int .i64 0, .int .i64 0] 107)) (by go_grown); have hS2 : (wy1.alloc (Obj.cells #[.int .i64 0, .int .i64 0] 107)).cell? ⟨p, 10, none⟩ = some (.int .i64 t.sx.left) ∧ (wy1.alloc (Obj.cells #[.int .i64 0, .int .i64 0] 107)).cell? ⟨p, 21, none⟩ = some (.int .i64 t.sy.left) ∧ (wy1.alloc (Obj.cells #[.int .i64 0, .int .i64 0] 107)).cell? ⟨p, 12, none⟩ = some (.int .i64 t.tx.n) ∧ (wy1.alloc (Obj.cells #[.int .i64 0, .int .i64 0] 107)).cell? ⟨p, 13, none⟩ = some (.int .i64 t.tx.s) ∧ (wy1.alloc (Obj.cells #[.int .i64 0, .int .i64 0] 107)).cell? ⟨p, 14, none⟩ = some (.int .i64 t.tx.p) ∧ (wy1.alloc (Obj.cells #[.int .i64 0, .int .i64 0] 107)).cell? ⟨p, 15, none⟩ = some (.int .i64 t.tx.l) ∧ (wy1.alloc (Obj.cells #[.int .i64 0, .int .i64 0] 107)).cell? ⟨p, 16, none⟩ = some (.int .i64 t.tx.u) ∧ (wy1.alloc (Obj.cells #[.int .i64 0, .int .i64 0] 107)).cell? ⟨p, 23, none⟩ = some (.int .i64 t.ty.n) ∧ (wy1.alloc (Obj.cells #[.int .i64 0, .int .i64 0] 107)).cell? ⟨p, 24, none⟩ = some (.int .i64 t.ty.s) ∧ (wy1.alloc (Obj.cells #[.int .i64 0, .int .i64 0] 107)).cell? ⟨p, 25, none⟩ = some (.int .i64 t.ty.p) ∧ (wy1.alloc (Obj.cells #[.int .i64 0, .int .i64 0] 107)).cell? ⟨p, 26, none⟩ = some (.int .i64 t.ty.l) ∧ (wy1.alloc (Obj.cells #[.int .i64 0, .int .i64 0] 107)).cell? ⟨p, 27, none⟩ = some (.int .i64 t.ty.u) := ⟨hp2.cell 10 _ rfl, hp2.cell 21 _ rfl, hp2.cell 12 _ rfl, hp2.cell 13 _ rfl, hp2.cell 14 _ rfl, hp2.cell 15 _ rfl, hp2.cell 16 _ rfl, hp2.cell 23 _ rfl, hp2.cell 24 _ rfl, hp2.cell 25 _ rfl, hp2.cell 26 _ rfl, hp2.cell 27 _ rfl⟩; have hp3 := hp1.below (w' := wy1.alloc (Obj.cells #[.int .i64 q, .int .i64 pr] 107)) (by go_grown); have hS3 : (wy1.alloc (Obj.cells #[.int .i64 q, .int .i64 pr] 107)).cell? ⟨p, 10, none⟩ = some (.int .i64 t.sx.left) ∧ (wy1.alloc (Obj.cells #[.int .i64 q, .int .i64 pr] 107)).cell? ⟨p, 21, none⟩ = some (.int .i64 t.sy.left) ∧ (wy1.alloc (Obj.cells #[.int .i64 q, .int .i64 pr] 107)).cell? ⟨p, 12, none⟩ = some (.int .i64 t.tx.n) ∧ (wy1.alloc (Obj.cells #[.int .i64 q, .int .i64 pr] 107)).cell? ⟨p, 13, none⟩ = some (.int .i64 t.tx.s) ∧ (wy1.alloc (Obj.cells #[.int .i64 q, .int .i64 pr] 107)).cell? ⟨p, 14, none⟩ = some (.int .i64 t.tx.p) ∧ (wy1.alloc (Obj.cells #[.int .i64 q, .int .i64 pr] 107)).cell? ⟨p, 15, none⟩ = some (.int .i64 t.tx.l) ∧ (wy1.alloc (Obj.cells #[.int .i64 q, .int .i64 pr] 107)).cell? ⟨p, 16, none⟩ = some (.int .i64 t.tx.u) ∧ (wy1.alloc (Obj.cells #[.int .i64 q, .int .i64 pr] 107)).cell? ⟨p, 23, none⟩ = some (.int .i64 t.ty.n) ∧ (wy1.alloc (Obj.cells #[.int .i64 q, .int .i64 pr] 107)).cell? ⟨p, 24, none⟩ = some (.int .i64 t.ty.s) ∧ (wy1.alloc (Obj.cells #[.int .i64 q, .int .i64 pr] 107)).cell? ⟨p, 25, none⟩ = some (.int .i64 t.ty.p) ∧ (wy1.alloc (Obj.cells #[.int .i64 q, .int .i64 pr] 107)).cell? ⟨p, 26, none⟩ = some (.int .i64 t.ty.l) ∧ (wy1.alloc (Obj.cells #[.int .i64 q, .int .i64 pr] 107)).cell? ⟨p, 27, none⟩ = some (.int .i64 t.ty.u) := ⟨hp3.cell 10 _ rfl, hp3.cell 21 _ rfl, hp3.cell 12 _ rfl, hp3.cell 13 _ rfl, hp3.cell 14 _ rfl, hp3.cell 15 _ rfl, hp3.cell 16 _ rfl, hp3.cell 23 _ rfl, hp3.cell 24 _ rfl, hp3.cell 25 _ rfl, hp3.cell 26 _ rfl, hp3.cell 27 _ rfl⟩; have HP3 := Lib.hid hp3; clear hby1 hp1 hp2 hp3)
        | ((with_reducible refine (HMT.out (w.alloc (Obj.cells #[.int .i64 0, .int .i64 0] 107)).drew).mono ?_); rintro e wyb ⟨rfl, hbyb⟩; have hpb := HPZ.out.below hbyb; have HBB := Lib.hid hbyb; have lb := hpb.lt; have hfb := HFZ.out.below hbyb; have LFB := hfb.lt; have fb0 := hfb.cell 0 _ rfl; have fb1 := hfb.cell 1 _ rfl; have ff0 := hfb.frz 0; have ff1 := hfb.frz 1; have hSb1 : wyb.cell? ⟨p, 10, none⟩ = some (.int .i64 t.sx.left) ∧ wyb.cell? ⟨p, 21, none⟩ = some (.int .i64 t.sy.left) ∧ wyb.cell? ⟨p, 12, none⟩ = some (.int .i64 t.tx.n) ∧ wyb.cell? ⟨p, 13, none⟩ = some (.int .i64 t.tx.s) ∧ wyb.cell? ⟨p, 14, none⟩ = some (.int .i64 t.tx.p) ∧ wyb.cell? ⟨p, 15, none⟩ = some (.int .i64 t.tx.l) ∧ wyb.cell? ⟨p, 16, none⟩ = some (.int .i64 t.tx.u) ∧ wyb.cell? ⟨p, 23, none⟩ = some (.int .i64 t.ty.n) ∧ wyb.cell? ⟨p, 24, none⟩ = some (.int .i64 t.ty.s) ∧ wyb.cell? ⟨p, 25, none⟩ = some (.int .i64 t.ty.p) ∧ wyb.cell? ⟨p, 26, none⟩ = some (.int .i64 t.ty.l) ∧ wyb.cell? ⟨p, 27, none⟩ = some (.int .i64 t.ty.u) := ⟨hpb.cell 10 _ rfl, hpb.cell 21 _ rfl, hpb.cell 12 _ rfl, hpb.cell 13 _ rfl, hpb.cell 14 _ rfl, hpb.cell 15 _ rfl, hpb.cell 16 _ rfl, hpb.cell 23 _ rfl, hpb.cell 24 _ rfl, hpb.cell 25 _ rfl, hpb.cell 26 _ rfl, hpb.cell 27 _ rfl⟩; have hpb2 := (hpb.far (p := ⟨w.heap.size, 0, none⟩) HNE.out (.int .i64 q)).far (p := ⟨w.heap.size, 1, none⟩) HNE.out (.int .i64 pr); have hSb2 : ((wyb.setCell ⟨w.heap.size, 0, none⟩ (.int .i64 q)).setCell ⟨w.heap.size, 1, none⟩ (.int .i64 pr)).cell? ⟨p, 10, none⟩ = some (.int .i64 t.sx.left) ∧ ((wyb.setCell ⟨w.heap.size, 0, none⟩ (.int .i64 q)).setCell ⟨w.heap.size, 1, none⟩ (.int .i64 pr)).cell? ⟨p, 21, none⟩ = some (.int .i64 t.sy.left) ∧ ((wyb.setCell ⟨w.heap.size, 0, none⟩ (.int .i64 q)).setCell ⟨w.heap.size, 1, none⟩ (.int .i64 pr)).cell? ⟨p, 12, none⟩ = some (.int .i64 t.tx.n) ∧ ((wyb.setCell ⟨w.heap.size, 0, none⟩ (.int .i64 q)).setCell ⟨w.heap.size, 1, none⟩ (.int .i64 pr)).cell? ⟨p, 13, none⟩ = some (.int .i64 t.tx.s) ∧ ((wyb.setCell ⟨w.heap.size, 0, none⟩ (.int .i64 q)).setCell ⟨w.heap.size, 1, none⟩ (.int .i64 pr)).cell? ⟨p, 14, none⟩ = some (.int .i64 t.tx.p) ∧ ((wyb.setCell ⟨w.heap.size, 0, none⟩ (.int .i64 q)).setCell ⟨w.heap.size, 1, none⟩ (.int .i64 pr)).cell? ⟨p, 15, none⟩ = some (.int .i64 t.tx.l) ∧ ((wyb.setCell ⟨w.heap.size, 0, none⟩ (.int .i64 q)).setCell ⟨w.heap.size, 1, none⟩ (.int .i64 pr)).cell? ⟨p, 16, none⟩ = some (.int .i64 t.tx.u) ∧ ((wyb.setCell ⟨w.heap.size, 0, none⟩ (.int .i64 q)).setCell ⟨w.heap.size, 1, none⟩ (.int .i64 pr)).cell? ⟨p, 23, none⟩ = some (.int .i64 t.ty.n) ∧ ((wyb.setCell ⟨w.heap.size, 0, none⟩ (.int .i64 q)).setCell ⟨w.heap.size, 1, none⟩ (.int .i64 pr)).cell? ⟨p, 24, none⟩ = some (.int .i64 t.ty.s) ∧ ((wyb.setCell ⟨w.heap.size, 0, none⟩ (.int .i64 q)).setCell ⟨w.heap.size, 1, none⟩ (.int .i64 pr)).cell? ⟨p, 25, none⟩ = some (.int .i64 t.ty.p) ∧ ((wyb.setCell ⟨w.heap.size, 0, none⟩ (.int .i64 q)).setCell ⟨w.heap.size, 1, none⟩ (.int .i64 pr)).cell? ⟨p, 26, none⟩ = some (.int .i64 t.ty.l) ∧ ((wyb.setCell ⟨w.heap.size, 0, none⟩ (.int .i64 q)).setCell ⟨w.heap.size, 1, none⟩ (.int .i64 pr)).cell? ⟨p, 27, none⟩ = some (.int .i64 t.ty.u) := ⟨hpb2.cell 10 _ rfl, hpb2.cell 21 _ rfl, hpb2.cell 12 _ rfl, hpb2.cell 13 _ rfl, hpb2.cell 14 _ rfl, hpb2.cell 15 _ rfl, hpb2.cell 16 _ rfl, hpb2.cell 23 _ rfl, hpb2.cell 24 _ rfl, hpb2.cell 25 _ rfl, hpb2.cell 26 _ rfl, hpb2.cell 27 _ rfl⟩; have HPB2 := Lib.hid hpb2; have HFB := Lib.hid hfb; clear hbyb hpb hfb hpb2)
        | fail)
    · go_wp2_with fail
      go_meet
      case rel =>
        have hb := Below.step ((Below.refl w.heap.size w).drew) HB1.out
        exact ⟨_, rfl, Lib.hid (hb.alloc hb.size (Obj.cells #[.int .i64 q, .int .i64 pr] 107)), Lib.hid (show w.heap.size ≤ wy1.heap.size from hb.size), Lib.hid (show Bl wy1.heap.size [.int .i64 q, .int .i64 pr] (wy1.alloc (Obj.cells #[.int .i64 q, .int .i64 pr] 107)) from Bl.new wy1 [.int .i64 q, .int .i64 pr] 107), HP3⟩
    · go_wp2_with fail
      go_meet
      case rel =>
        have hb := Below.step (((Below.refl w.heap.size w).alloc (Nat.le_refl _) (Obj.cells #[.int .i64 0, .int .i64 0] 107)).drew) HBB.out
        exact ⟨_, rfl, Lib.hid ((hb.setCell (p := ⟨w.heap.size, 0, none⟩) (Nat.le_refl _) (.int .i64 q)).setCell (p := ⟨w.heap.size, 1, none⟩) (Nat.le_refl _) (.int .i64 pr)), Lib.hid (Nat.le_refl w.heap.size), Lib.hid (show Bl w.heap.size [.int .i64 q, .int .i64 pr] ((wyb.setCell ⟨w.heap.size, 0, none⟩ (.int .i64 q)).setCell ⟨w.heap.size, 1, none⟩ (.int .i64 pr)) from (HFB.out.set 0 (.int .i64 q)).set 1 (.int .i64 pr)), HPB2⟩
  case rest =>
    obtain ⟨fb, rfl, HB5, HN, HF5, HP5⟩ := hcut
    obtain ⟨w5, hw5⟩ : ∃ w5, w5 = wc := ⟨_, rfl⟩
    subst hw5
    clear hS0 hSz HP0 HPZ HFZ
    have HW5 := Lib.hid (H.out.below HB5.out)
    have g0 := HF5.out.cell 0 _ rfl
    have g1 := HF5.out.cell 1 _ rfl
    have lf := HF5.out.lt
    have lp := HP5.out.lt
    have lW := HW5.out.blk.lt
    have N1 : w5.heap.size ≠ fb := fun e => by omega
    have N2 : w5.heap.size ≠ p := fun e => by omega
    have N3 : w5.heap.size ≠ W := fun e => by omega
    have hp6 : Bl p (prc (x : Int) (i : Int) t) w5.drew := HP5.out
    have hf6 : Bl fb [.int .i64 q, .int .i64 pr] w5.drew := HF5.out
    have hw6 : Bl W [.int .i64 (C.p : Int), .int .i64 (C.c : Int), .int .i64 C.n, .int .i64 C.b, .int .i64 C.r, .int .i64 (C.f : Int), .int .i64 (C.g : Int), .pointer (some ⟨M, 0, none⟩), .pointer (some ⟨Ck, 0, none⟩), lv] w5.drew := HW5.out.blk
    have hT0 : w5.drew.cell? ⟨p, 18, none⟩ = some (.int .i64 t.sy.kind) ∧ w5.drew.cell? ⟨p, 19, none⟩ = some (.bool t.sy.flag) ∧ w5.drew.cell? ⟨p, 20, none⟩ = some (.int .i64 t.sy.gen) ∧ w5.drew.cell? ⟨p, 21, none⟩ = some (.int .i64 t.sy.left) ∧ w5.drew.cell? ⟨p, 22, none⟩ = some (.int .i64 t.sy.fills) ∧ w5.drew.cell? ⟨fb, 0, none⟩ = some (.int .i64 q) ∧ w5.drew.cell? ⟨W, 5, none⟩ = some (.int .i64 (C.f : Int)) := ⟨hp6.cell 18 _ rfl, hp6.cell 19 _ rfl, hp6.cell 20 _ rfl, hp6.cell 21 _ rfl, hp6.cell 22 _ rfl, hf6.cell 0 _ rfl, hw6.cell 5 _ rfl⟩
    have hpz : Bl p (prc (x : Int) (i : Int) t) (w5.alloc (Obj.cells #[.int .i64 0, .bool false, .int .i64 0, .int .i64 0, .int .i64 0] 42)).drew := HP5.out.below (by go_grown)
    have hfz : Bl fb [.int .i64 q, .int .i64 pr] (w5.alloc (Obj.cells #[.int .i64 0, .bool false, .int .i64 0, .int .i64 0, .int .i64 0] 42)).drew := HF5.out.below (by go_grown)
    have hwz : Bl W [.int .i64 (C.p : Int), .int .i64 (C.c : Int), .int .i64 C.n, .int .i64 C.b, .int .i64 C.r, .int .i64 (C.f : Int), .int .i64 (C.g : Int), .pointer (some ⟨M, 0, none⟩), .pointer (some ⟨Ck, 0, none⟩), lv] (w5.alloc (Obj.cells #[.int .i64 0, .bool false, .int .i64 0, .int .i64 0, .int .i64 0] 42)).drew := HW5.out.blk.below (by go_grown)
    have hTz : (w5.alloc (Obj.cells #[.int .i64 0, .bool false, .int .i64 0, .int .i64 0, .int .i64 0] 42)).drew.cell? ⟨p, 18, none⟩ = some (.int .i64 t.sy.kind) ∧ (w5.alloc (Obj.cells #[.int .i64 0, .bool false, .int .i64 0, .int .i64 0, .int .i64 0] 42)).drew.cell? ⟨p, 19, none⟩ = some (.bool t.sy.flag) ∧ (w5.alloc (Obj.cells #[.int .i64 0, .bool false, .int .i64 0, .int .i64 0, .int .i64 0] 42)).drew.cell? ⟨p, 20, none⟩ = some (.int .i64 t.sy.gen) ∧ (w5.alloc (Obj.cells #[.int .i64 0, .bool false, .int .i64 0, .int .i64 0, .int .i64 0] 42)).drew.cell? ⟨p, 21, none⟩ = some (.int .i64 t.sy.left) ∧ (w5.alloc (Obj.cells #[.int .i64 0, .bool false, .int .i64 0, .int .i64 0, .int .i64 0] 42)).drew.cell? ⟨p, 22, none⟩ = some (.int .i64 t.sy.fills) ∧ (w5.alloc (Obj.cells #[.int .i64 0, .bool false, .int .i64 0, .int .i64 0, .int .i64 0] 42)).drew.cell? ⟨fb, 0, none⟩ = some (.int .i64 q) ∧ (w5.alloc (Obj.cells #[.int .i64 0, .bool false, .int .i64 0, .int .i64 0, .int .i64 0] 42)).drew.cell? ⟨W, 5, none⟩ = some (.int .i64 (C.f : Int)) := ⟨hpz.cell 18 _ rfl, hpz.cell 19 _ rfl, hpz.cell 20 _ rfl, hpz.cell 21 _ rfl, hpz.cell 22 _ rfl, hfz.cell 0 _ rfl, hwz.cell 5 _ rfl⟩
    have htz : Bl w5.heap.size [.int .i64 0, .bool false, .int .i64 0, .int .i64 0, .int .i64 0] (w5.alloc (Obj.cells #[.int .i64 0, .bool false, .int .i64 0, .int .i64 0, .int .i64 0] 42)).drew := Bl.new w5 [.int .i64 0, .bool false, .int .i64 0, .int .i64 0, .int .i64 0] 42
    have KP := Lib.hid hp6
    have KF := Lib.hid hf6
    have KW := Lib.hid hw6
    have KPZ := Lib.hid hpz
    have KFZ := Lib.hid hfz
    have KWZ := Lib.hid hwz
    have KTZ := Lib.hid htz
    have N1H := Lib.hid N1
    have N2H := Lib.hid N2
    have N3H := Lib.hid N3
    clear hp6 hf6 hw6 hpz hfz hwz htz N1 N2 N3
    go_wp2_with fail
    go_cut [5, 6] (fun s5' s6 wx => ∃ tb, s5' = .pointer (some ⟨tb, 0, none⟩) ∧ s6 = .nilIface ∧ Hid (Below w5.heap.size w5 wx) ∧ Hid (w5.heap.size ≤ tb) ∧ Hid (Bl tb [.int .i64 s5.kind, .bool s5.flag, .int .i64 s5.gen, .int .i64 s5.left, .int .i64 s5.fills] wx) ∧ Hid (Bl p (prc (x : Int) (i : Int) t) wx) ∧ Hid (Bl fb [.int .i64 q, .int .i64 pr] wx))
    case first =>
      go_region_held3 (fun w' => w'.cell? ⟨p, 18, none⟩ = some (.int .i64 t.sy.kind) ∧ w'.cell? ⟨p, 19, none⟩ = some (.bool t.sy.flag) ∧ w'.cell? ⟨p, 20, none⟩ = some (.int .i64 t.sy.gen) ∧ w'.cell? ⟨p, 21, none⟩ = some (.int .i64 t.sy.left) ∧ w'.cell? ⟨p, 22, none⟩ = some (.int .i64 t.sy.fills) ∧ w'.cell? ⟨fb, 0, none⟩ = some (.int .i64 q) ∧ w'.cell? ⟨W, 5, none⟩ = some (.int .i64 (C.f : Int))) (first | with_reducible exact hT0 | with_reducible exact hTz | with_reducible exact hT1 | with_reducible exact hT2 | with_reducible exact hT3 | with_reducible exact hTd1 | with_reducible exact hTd2 | fail)
        (first
          | ((with_reducible refine (HTK.out w5.drew).mono ?_); rintro e wyc ⟨rfl, hbyc⟩; have hpc := KP.out.below hbyc; have hfc := KF.out.below hbyc; have hwc := KW.out.below hbyc; have HBC := Lib.hid hbyc; have lpc := hpc.lt; have lfc := hfc.lt; have lwc := hwc.lt; have hT1 : wyc.cell? ⟨p, 18, none⟩ = some (.int .i64 t.sy.kind) ∧ wyc.cell? ⟨p, 19, none⟩ = some (.bool t.sy.flag) ∧ wyc.cell? ⟨p, 20, none⟩ = some (.int .i64 t.sy.gen) ∧ wyc.cell? ⟨p, 21, none⟩ = some (.int .i64 t.sy.left) ∧ wyc.cell? ⟨p, 22, none⟩ = some (.int .i64 t.sy.fills) ∧ wyc.cell? ⟨fb, 0, none⟩ = some (.int .i64 q) ∧ wyc.cell? ⟨W, 5, none⟩ = some (.int .i64 (C.f : Int)) := ⟨hpc.cell 18 _ rfl, hpc.cell 19 _ rfl, hpc.cell 20 _ rfl, hpc.cell 21 _ rfl, hpc.cell 22 _ rfl, hfc.cell 0 _ rfl, hwc.cell 5 _ rfl⟩; have hp2 := hpc.below (w' := wyc.alloc (Obj.cells #[.int .i64 0, .bool false, .int .i64 0, .int .i64 0, .int .i64 0] 42)) (by go_grown); have hf2 := hfc.below (w' := wyc.alloc (Obj.cells #[.int .i64 0, .bool false, .int .i64 0, .int .i64 0, .int .i64 0] 42)) (by go_grown); have hw2 := hwc.below (w' := wyc.alloc (Obj.cells #[.int .i64 0, .bool false, .int .i64 0, .int .i64 0, .int .i64 0] 42)) (by go_grown); have hT2 : (wyc.alloc (Obj.cells #[.int .i64 0, .bool false, .int .i64 0, .int .i64 0, .int .i64 0] 42)).cell? ⟨p, 18, none⟩ = some (.int .i64 t.sy.kind) ∧ (wyc.alloc (Obj.cells #[.int .i64 0, .bool false, .int .i64 0, .int .i64 0, .int .i64 0] 42)).cell? ⟨p, 19, none⟩ = some (.bool t.sy.flag) ∧ (wyc.alloc (Obj.cells #[.int .i64 0, .bool false, .int .i64 0, .int .i64 0, .int .i64 0] 42)).cell? ⟨p, 20, none⟩ = some (.int .i64 t.sy.gen) ∧ (wyc.alloc (Obj.cells #[.int .i64 0, .bool false, .int .i64 0, .int .i64 0, .int .i64 0] 42)).cell? ⟨p, 21, none⟩ = some (.int .i64 t.sy.left) ∧ (wyc.alloc (Obj.cells #[.int .i64 0, .bool false, .int .i64 0, .int .i64 0, .int .i64 0] 42)).cell? ⟨p, 22, none⟩ = some (.int .i64 t.sy.fills) ∧ (wyc.alloc (Obj.cells #[.int .i64 0, .bool false, .int .i64 0, .int .i64 0, .int .i64 0] 42)).cell? ⟨fb, 0, none⟩ = some (.int .i64 q) ∧ (wyc.alloc (Obj.cells #[.int .i64 0, .bool false, .int .i64 0, .int .i64 0, .int .i64 0] 42)).cell? ⟨W, 5, none⟩ = some (.int .i64 (C.f : Int)) := ⟨hp2.cell 18 _ rfl, hp2.cell 19 _ rfl, hp2.cell 20 _ rfl, hp2.cell 21 _ rfl, hp2.cell 22 _ rfl, hf2.cell 0 _ rfl, hw2.cell 5 _ rfl⟩; have hp3 := hpc.below (w' := wyc.alloc (Obj.cells #[.int .i64 s5.kind, .bool s5.flag, .int .i64 s5.gen, .int .i64 s5.left, .int .i64 s5.fills] 42)) (by go_grown); have hf3 := hfc.below (w' := wyc.alloc (Obj.cells #[.int .i64 s5.kind, .bool s5.flag, .int .i64 s5.gen, .int .i64 s5.left, .int .i64 s5.fills] 42)) (by go_grown); have hw3 := hwc.below (w' := wyc.alloc (Obj.cells #[.int .i64 s5.kind, .bool s5.flag, .int .i64 s5.gen, .int .i64 s5.left, .int .i64 s5.fills] 42)) (by go_grown); have hT3 : (wyc.alloc (Obj.cells #[.int .i64 s5.kind, .bool s5.flag, .int .i64 s5.gen, .int .i64 s5.left, .int .i64 s5.fills] 42)).cell? ⟨p, 18, none⟩ = some (.int .i64 t.sy.kind) ∧ (wyc.alloc (Obj.cells #[.int .i64 s5.kind, .bool s5.flag, .int .i64 s5.gen, .int .i64 s5.left, .int .i64 s5.fills] 42)).cell? ⟨p, 19, none⟩ = some (.bool t.sy.flag) ∧ (wyc.alloc (Obj.cells #[.int .i64 s5.kind, .bool s5.flag, .int .i64 s5.gen, .int .i64 s5.left, .int .i64 s5.fills] 42)).cell? ⟨p, 20, none⟩ = some (.int .i64 t.sy.gen) ∧ (wyc.alloc (Obj.cells #[.int .i64 s5.kind, .bool s5.flag, .int .i64 s5.gen, .int .i64 s5.left, .int .i64 s5.fills] 42)).cell? ⟨p, 21, none⟩ = some (.int .i64 t.sy.left) ∧ (wyc.alloc (Obj.cells #[.int .i64 s5.kind, .bool s5.flag, .int .i64 s5.gen, .int .i64 s5.left, .int .i64 s5.fills] 42)).cell? ⟨p, 22, none⟩ = some (.int .i64 t.sy.fills) ∧ (wyc.alloc (Obj.cells #[.int .i64 s5.kind, .bool s5.flag, .int .i64 s5.gen, .int .i64 s5.left, .int .i64 s5.fills] 42)).cell? ⟨fb, 0, none⟩ = some (.int .i64 q) ∧ (wyc.alloc (Obj.cells #[.int .i64 s5.kind, .bool s5.flag, .int .i64 s5.gen, .int .i64 s5.left, .int .i64 s5.fills] 42)).cell? ⟨W, 5, none⟩ = some (.int .i64 (C.f : Int)) := ⟨hp3.cell 18 _ rfl, hp3.cell 19 _ rfl, hp3.cell 20 _ rfl, hp3.cell 21 _ rfl, hp3.cell 22 _ rfl, hf3.cell 0 _ rfl, hw3.cell 5 _ rfl⟩; have KP3 := Lib.hid hp3; have KF3 := Lib.hid hf3; clear hbyc hpc hfc hwc hp2 hf2 hw2 hp3 hf3 hw3)
          | ((with_reducible refine (HTK.out (w5.alloc (Obj.cells #[.int .i64 0, .bool false, .int .i64 0, .int .i64 0, .int .i64 0] 42)).drew).mono ?_); rintro e wyd ⟨rfl, hbyd⟩; have hpd := KPZ.out.below hbyd; have hfd := KFZ.out.below hbyd; have hwd := KWZ.out.below hbyd; have htd := KTZ.out.below hbyd; have HBD := Lib.hid hbyd; have lpd := hpd.lt; have lfd := hfd.lt; have lwd := hwd.lt; have ltd := htd.lt; have x0 := htd.cell 0 _ rfl; have x1 := htd.cell 1 _ rfl; have x2 := htd.cell 2 _ rfl; have x3 := htd.cell 3 _ rfl; have x4 := htd.cell 4 _ rfl; have y0 := htd.frz 0; have y1 := htd.frz 1; have y2 := htd.frz 2; have y3 := htd.frz 3; have y4 := htd.frz 4; have hTd1 : wyd.cell? ⟨p, 18, none⟩ = some (.int .i64 t.sy.kind) ∧ wyd.cell? ⟨p, 19, none⟩ = some (.bool t.sy.flag) ∧ wyd.cell? ⟨p, 20, none⟩ = some (.int .i64 t.sy.gen) ∧ wyd.cell? ⟨p, 21, none⟩ = some (.int .i64 t.sy.left) ∧ wyd.cell? ⟨p, 22, none⟩ = some (.int .i64 t.sy.fills) ∧ wyd.cell? ⟨fb, 0, none⟩ = some (.int .i64 q) ∧ wyd.cell? ⟨W, 5, none⟩ = some (.int .i64 (C.f : Int)) := ⟨hpd.cell 18 _ rfl, hpd.cell 19 _ rfl, hpd.cell 20 _ rfl, hpd.cell 21 _ rfl, hpd.cell 22 _ rfl, hfd.cell 0 _ rfl, hwd.cell 5 _ rfl⟩; have hpd2 := (((((hpd.far (p := ⟨w5.heap.size, 0, none⟩) N2H.out (.int .i64 s5.kind)).far (p := ⟨w5.heap.size, 1, none⟩) N2H.out (.bool s5.flag)).far (p := ⟨w5.heap.size, 2, none⟩) N2H.out (.int .i64 s5.gen)).far (p := ⟨w5.heap.size, 3, none⟩) N2H.out (.int .i64 s5.left)).far (p := ⟨w5.heap.size, 4, none⟩) N2H.out (.int .i64 s5.fills)); have hfd2 := (((((hfd.far (p := ⟨w5.heap.size, 0, none⟩) N1H.out (.int .i64 s5.kind)).far (p := ⟨w5.heap.size, 1, none⟩) N1H.out (.bool s5.flag)).far (p := ⟨w5.heap.size, 2, none⟩) N1H.out (.int .i64 s5.gen)).far (p := ⟨w5.heap.size, 3, none⟩) N1H.out (.int .i64 s5.left)).far (p := ⟨w5.heap.size, 4, none⟩) N1H.out (.int .i64 s5.fills)); have hwd2 := (((((hwd.far (p := ⟨w5.heap.size, 0, none⟩) N3H.out (.int .i64 s5.kind)).far (p := ⟨w5.heap.size, 1, none⟩) N3H.out (.bool s5.flag)).far (p := ⟨w5.heap.size, 2, none⟩) N3H.out (.int .i64 s5.gen)).far (p := ⟨w5.heap.size, 3, none⟩) N3H.out (.int .i64 s5.left)).far (p := ⟨w5.heap.size, 4, none⟩) N3H.out (.int .i64 s5.fills)); have hTd2 : (((((wyd.setCell ⟨w5.heap.size, 0, none⟩ (.int .i64 s5.kind)).setCell ⟨w5.heap.size, 1, none⟩ (.bool s5.flag)).setCell ⟨w5.heap.size, 2, none⟩ (.int .i64 s5.gen)).setCell ⟨w5.heap.size, 3, none⟩ (.int .i64 s5.left)).setCell ⟨w5.heap.size, 4, none⟩ (.int .i64 s5.fills)).cell? ⟨p, 18, none⟩ = some (.int .i64 t.sy.kind) ∧ (((((wyd.setCell ⟨w5.heap.size, 0, none⟩ (.int .i64 s5.kind)).setCell ⟨w5.heap.size, 1, none⟩ (.bool s5.flag)).setCell ⟨w5.heap.size, 2, none⟩ (.int .i64 s5.gen)).setCell ⟨w5.heap.size, 3, none⟩ (.int .i64 s5.left)).setCell ⟨w5.heap.size, 4, none⟩ (.int .i64 s5.fills)).cell? ⟨p, 19, none⟩ = some (.bool t.sy.flag) ∧ (((((wyd.setCell ⟨w5.heap.size, 0, none⟩ (.int .i64 s5.kind)).setCell ⟨w5.heap.size, 1, none⟩ (.bool s5.flag)).setCell ⟨w5.heap.size, 2, none⟩ (.int .i64 s5.gen)).setCell ⟨w5.heap.size, 3, none⟩ (.int .i64 s5.left)).setCell ⟨w5.heap.size, 4, none⟩ (.int .i64 s5.fills)).cell? ⟨p, 20, none⟩ = some (.int .i64 t.sy.gen) ∧ (((((wyd.setCell ⟨w5.heap.size, 0, none⟩ (.int .i64 s5.kind)).setCell ⟨w5.heap.size, 1, none⟩ (.bool s5.flag)).setCell ⟨w5.heap.size, 2, none⟩ (.int .i64 s5.gen)).setCell ⟨w5.heap.size, 3, none⟩ (.int .i64 s5.left)).setCell ⟨w5.heap.size, 4, none⟩ (.int .i64 s5.fills)).cell? ⟨p, 21, none⟩ = some (.int .i64 t.sy.left) ∧ (((((wyd.setCell ⟨w5.heap.size, 0, none⟩ (.int .i64 s5.kind)).setCell ⟨w5.heap.size, 1, none⟩ (.bool s5.flag)).setCell ⟨w5.heap.size, 2, none⟩ (.int .i64 s5.gen)).setCell ⟨w5.heap.size, 3, none⟩ (.int .i64 s5.left)).setCell ⟨w5.heap.size, 4, none⟩ (.int .i64 s5.fills)).cell? ⟨p, 22, none⟩ = some (.int .i64 t.sy.fills) ∧ (((((wyd.setCell ⟨w5.heap.size, 0, none⟩ (.int .i64 s5.kind)).setCell ⟨w5.heap.size, 1, none⟩ (.bool s5.flag)).setCell ⟨w5.heap.size, 2, none⟩ (.int .i64 s5.gen)).setCell ⟨w5.heap.size, 3, none⟩ (.int .i64 s5.left)).setCell ⟨w5.heap.size, 4, none⟩ (.int .i64 s5.fills)).cell? ⟨fb, 0, none⟩ = some (.int .i64 q) ∧ (((((wyd.setCell ⟨w5.heap.size, 0, none⟩ (.int .i64 s5.kind)).setCell ⟨w5.heap.size, 1, none⟩ (.bool s5.flag)).setCell ⟨w5.heap.size, 2, none⟩ (.int .i64 s5.gen)).setCell ⟨w5.heap.size, 3, none⟩ (.int .i64 s5.left)).setCell ⟨w5.heap.size, 4, none⟩ (.int .i64 s5.fills)).cell? ⟨W, 5, none⟩ = some (.int .i64 (C.f : Int)) := ⟨hpd2.cell 18 _ rfl, hpd2.cell 19 _ rfl, hpd2.cell 20 _ rfl, hpd2.cell 21 _ rfl, hpd2.cell 22 _ rfl, hfd2.cell 0 _ rfl, hwd2.cell 5 _ rfl⟩; have KPD := Lib.hid hpd2; have KFD := Lib.hid hfd2; have KTD := Lib.hid htd; clear hbyd hpd hfd hwd htd hpd2 hfd2 hwd2)
          | fail)
      · go_wp2_with fail
        go_meet
        case rel =>
          have hb := Below.step ((Below.refl w5.heap.size w5).drew) HBC.out
          exact ⟨_, rfl, rfl, Lib.hid (hb.alloc hb.size (Obj.cells #[.int .i64 s5.kind, .bool s5.flag, .int .i64 s5.gen, .int .i64 s5.left, .int .i64 s5.fills] 42)), Lib.hid (show w5.heap.size ≤ wyc.heap.size from hb.size), Lib.hid (show Bl wyc.heap.size [.int .i64 s5.kind, .bool s5.flag, .int .i64 s5.gen, .int .i64 s5.left, .int .i64 s5.fills] (wyc.alloc (Obj.cells #[.int .i64 s5.kind, .bool s5.flag, .int .i64 s5.gen, .int .i64 s5.left, .int .i64 s5.fills] 42)) from Bl.new wyc [.int .i64 s5.kind, .bool s5.flag, .int .i64 s5.gen, .int .i64 s5.left, .int .i64 s5.fills] 42), KP3, KF3⟩
      · go_wp2_with fail
        go_meet
        case rel =>
          have hb := Below.step (((Below.refl w5.heap.size w5).alloc (Nat.le_refl _) (Obj.cells #[.int .i64 0, .bool false, .int .i64 0, .int .i64 0, .int .i64 0] 42)).drew) HBD.out
          exact ⟨_, rfl, rfl, Lib.hid (((((hb.setCell (p := ⟨w5.heap.size, 0, none⟩) (Nat.le_refl _) (.int .i64 s5.kind)).setCell (p := ⟨w5.heap.size, 1, none⟩) (Nat.le_refl _) (.bool s5.flag)).setCell (p := ⟨w5.heap.size, 2, none⟩) (Nat.le_refl _) (.int .i64 s5.gen)).setCell (p := ⟨w5.heap.size, 3, none⟩) (Nat.le_refl _) (.int .i64 s5.left)).setCell (p := ⟨w5.heap.size, 4, none⟩) (Nat.le_refl _) (.int .i64 s5.fills)), Lib.hid (Nat.le_refl w5.heap.size), Lib.hid (show Bl w5.heap.size [.int .i64 s5.kind, .bool s5.flag, .int .i64 s5.gen, .int .i64 s5.left, .int .i64 s5.fills] (((((wyd.setCell ⟨w5.heap.size, 0, none⟩ (.int .i64 s5.kind)).setCell ⟨w5.heap.size, 1, none⟩ (.bool s5.flag)).setCell ⟨w5.heap.size, 2, none⟩ (.int .i64 s5.gen)).setCell ⟨w5.heap.size, 3, none⟩ (.int .i64 s5.left)).setCell ⟨w5.heap.size, 4, none⟩ (.int .i64 s5.fills)) from ((((KTD.out.set 0 (.int .i64 s5.kind)).set 1 (.bool s5.flag)).set 2 (.int .i64 s5.gen)).set 3 (.int .i64 s5.left)).set 4 (.int .i64 s5.fills)), KPD, KFD⟩
    case rest =>
      obtain ⟨tb, rfl, rfl, HB7, HN7, HT7, HP7, HF7⟩ := hcut
      obtain ⟨w7, hw7⟩ : ∃ w7, w7 = wc := ⟨_, rfl⟩
      subst hw7
      clear hT0 hTz KP KF KW KPZ KFZ KWZ KTZ N1H N2H N3H
      have HW7 := Lib.hid (H.out.below (Below.step HB5.out HB7.out.drew))
      have p7 : Bl p (prc (x : Int) (i : Int) t) w7.drew := HP7.out
      have t7 : Bl tb [.int .i64 s5.kind, .bool s5.flag, .int .i64 s5.gen, .int .i64 s5.left, .int .i64 s5.fills] w7.drew := HT7.out
      have z1 := HB5.out.size
      have z2 := HN7.out
      have z3 := H.out.hK
      obtain ⟨z4, z5, z6, z7⟩ := H.out.lo
      have hU0 : w7.drew.cell? ⟨p, 3, none⟩ = some (.int .i64 (i : Int)) ∧ w7.drew.cell? ⟨p, 17, none⟩ = some (.int .u64 (cw t.sy : Int)) ∧ w7.drew.cell? ⟨tb, 0, none⟩ = some (.int .i64 s5.kind) ∧ w7.drew.cell? ⟨tb, 1, none⟩ = some (.bool s5.flag) ∧ w7.drew.cell? ⟨tb, 2, none⟩ = some (.int .i64 s5.gen) ∧ w7.drew.cell? ⟨tb, 3, none⟩ = some (.int .i64 s5.left) ∧ w7.drew.cell? ⟨tb, 4, none⟩ = some (.int .i64 s5.fills) := ⟨p7.cell 3 _ rfl, p7.cell 17 _ rfl, t7.cell 0 _ rfl, t7.cell 1 _ rfl, t7.cell 2 _ rfl, t7.cell 3 _ rfl, t7.cell 4 _ rfl⟩
      have l7p := p7.lt
      have l7t := t7.lt
      have P7 := Lib.hid p7
      have T7 := Lib.hid t7
      have NTM := Lib.hid (show tb ≠ M from by omega)
      have NTB := Lib.hid (show tb ≠ B from by omega)
      clear p7 t7
      go_wp2_with fail
      go_region_held3 (fun w' => w'.cell? ⟨p, 3, none⟩ = some (.int .i64 (i : Int)) ∧ w'.cell? ⟨p, 17, none⟩ = some (.int .u64 (cw t.sy : Int)) ∧ w'.cell? ⟨tb, 0, none⟩ = some (.int .i64 s5.kind) ∧ w'.cell? ⟨tb, 1, none⟩ = some (.bool s5.flag) ∧ w'.cell? ⟨tb, 2, none⟩ = some (.int .i64 s5.gen) ∧ w'.cell? ⟨tb, 3, none⟩ = some (.int .i64 s5.left) ∧ w'.cell? ⟨tb, 4, none⟩ = some (.int .i64 s5.fills)) (first | with_reducible exact hU0 | with_reducible exact hU1 | fail)
        (first
          | ((with_reducible refine (HTU.out _ HW7.out).mono ?_); rintro e w8 ⟨rfl, hw8, hf8⟩; have HW8 := Lib.hid hw8; have HF8 := Lib.hid hf8; have P8 := Lib.hid (hf8.bl P7.out HA.out.nM HA.out.nB); have T8 := Lib.hid (hf8.bl T7.out NTM.out NTB.out); have hU1 : w8.cell? ⟨p, 3, none⟩ = some (.int .i64 (i : Int)) ∧ w8.cell? ⟨p, 17, none⟩ = some (.int .u64 (cw t.sy : Int)) ∧ w8.cell? ⟨tb, 0, none⟩ = some (.int .i64 s5.kind) ∧ w8.cell? ⟨tb, 1, none⟩ = some (.bool s5.flag) ∧ w8.cell? ⟨tb, 2, none⟩ = some (.int .i64 s5.gen) ∧ w8.cell? ⟨tb, 3, none⟩ = some (.int .i64 s5.left) ∧ w8.cell? ⟨tb, 4, none⟩ = some (.int .i64 s5.fills) := ⟨P8.out.cell 3 _ rfl, P8.out.cell 17 _ rfl, T8.out.cell 0 _ rfl, T8.out.cell 1 _ rfl, T8.out.cell 2 _ rfl, T8.out.cell 3 _ rfl, T8.out.cell 4 _ rfl⟩; clear hw8 hf8)
          | fail)
      go_wp2_with fail
      have z8 := HN.out
      have F8 := Lib.hid (HF8.out.bl (show Bl fb [.int .i64 q, .int .i64 pr] w7.drew from HF7.out) (by omega) (by omega))
      have NPW := Lib.hid HA.out.nW
      have NPC := Lib.hid HA.out.nC
      have NPF := Lib.hid (show p ≠ fb from by have := HA.out.lo; omega)
      have NPT := Lib.hid (show p ≠ tb from by have := HA.out.lo; omega)
      have NLF := Lib.hid (show lv.ownBlock ≠ some fb from fun e => by have := (H.out.row.lt fb e).2; omega)
      have NWF := Lib.hid (show fb ≠ W from by omega)
      have HWD := Lib.hid (show PW K C W M B Ck (Mm.upd ws (2 * i) (cw s5 : Int)) (st + 1) now lv L w8.drew from HW8.out.below (Below.drew (Below.refl _ _)))
      have PD : Hid (Bl p (prc (x : Int) (i : Int) t) w8.drew) := P8
      have QD := Lib.hid (show Fq M B p w w8.drew from (((Fq.of (Fm.of (Below.step HB5.out HB7.out.drew))).trans (Fq.of HF8.out)).trans (Fq.of (Fm.of (Below.drew (Below.refl _ _))))))
      have hV0d : Bl fb [.int .i64 q, .int .i64 pr] w8.drew ∧ Bl tb [.int .i64 s5.kind, .bool s5.flag, .int .i64 s5.gen, .int .i64 s5.left, .int .i64 s5.fills] w8.drew ∧ w8.drew.cell? ⟨W, 8, none⟩ = some (.pointer (some ⟨Ck, 0, none⟩)) := ⟨F8.out, T8.out, HWD.out.blk.cell 8 _ rfl⟩
      refine wp_region_held_drew (S := fun w' => Bl fb [.int .i64 q, .int .i64 pr] w' ∧ Bl tb [.int .i64 s5.kind, .bool s5.flag, .int .i64 s5.gen, .int .i64 s5.left, .int .i64 s5.fills] w' ∧ w'.cell? ⟨W, 8, none⟩ = some (.pointer (some ⟨Ck, 0, none⟩))) (by kernel_rfl) hV0d (fun hHeld => ?_)
      have gWs : ∀ (W1 W2 : World) (j : Nat) (v : Value), (∃ l, Bl p l W1) → (W2 = W1.setCell ⟨p, j, none⟩ v) → (Bl fb [.int .i64 q, .int .i64 pr] W1 ∧ Bl tb [.int .i64 s5.kind, .bool s5.flag, .int .i64 s5.gen, .int .i64 s5.left, .int .i64 s5.fills] W1 ∧ W1.cell? ⟨W, 8, none⟩ = some (.pointer (some ⟨Ck, 0, none⟩))) → (Bl fb [.int .i64 q, .int .i64 pr] W2 ∧ Bl tb [.int .i64 s5.kind, .bool s5.flag, .int .i64 s5.gen, .int .i64 s5.left, .int .i64 s5.fills] W2 ∧ W2.cell? ⟨W, 8, none⟩ = some (.pointer (some ⟨Ck, 0, none⟩))) := fun W1 W2 j v _ he hh => by
        subst he
        exact ⟨hh.1.far (p := ⟨p, j, none⟩) NPF.out v, hh.2.1.far (p := ⟨p, j, none⟩) NPT.out v, (Mm.cell_other W1 p W j 8 v (.inl NPW.out)).trans hh.2.2⟩
      have GWS := Lib.hid gWs
      clear hV0d gWs hU0 hU1
      generalize w8.drew = WD at HWD PD QD hHeld ⊢
      clear P8 T8 F8 HW8 HF8 l7p l7t P7 T7 HW7
      refine tk (i := 0) (d := some 68) (v := ?_) (hy := Or.inl ⟨by rfl, ?_⟩) (h := ?_)
      rotate_left
      · intro wq hSw
        go_simp
        try with_reducible rfl
      simp only [Act.put, tkA, tkB, tkC]
      refine tk (i := 1) (d := some 69) (v := ?_) (hy := Or.inl ⟨by rfl, ?_⟩) (h := ?_)
      rotate_left
      · intro wq hSw
        go_simp
        try with_reducible rfl
      simp only [Act.put, tkA, tkB, tkC]
      refine tk (i := 2) (d := some 70) (v := ?_) (hy := Or.inl ⟨by rfl, ?_⟩) (h := ?_)
      rotate_left
      · intro wq hSw
        go_simp
        try with_reducible rfl
      simp only [Act.put, tkA, tkB, tkC]
      refine tk (i := 3) (d := some 71) (v := ?_) (hy := Or.inl ⟨by rfl, ?_⟩) (h := ?_)
      rotate_left
      · intro wq hSw
        go_simp
        try with_reducible rfl
      simp only [Act.put, tkA, tkB, tkC]
      refine tk (i := 4) (d := some 72) (v := ?_) (hy := Or.inl ⟨by rfl, ?_⟩) (h := ?_)
      rotate_left
      · intro wq hSw
        have x0 := hSw.1.cell 0 _ rfl
        have x1 := hSw.1.cell 1 _ rfl
        have xl := hSw.1.lt
        go_simp
        try with_reducible rfl
      simp only [Act.put, tkA, tkB, tkC]
      refine tk (i := 5) (d := some 73) (v := ?_) (hy := Or.inl ⟨by rfl, ?_⟩) (h := ?_)
      rotate_left
      · intro wq hSw
        have x0 := hSw.2.1.cell 0 _ rfl
        have x1 := hSw.2.1.cell 1 _ rfl
        have x2 := hSw.2.1.cell 2 _ rfl
        have x3 := hSw.2.1.cell 3 _ rfl
        have x4 := hSw.2.1.cell 4 _ rfl
        have xl := hSw.2.1.lt
        go_simp
        try with_reducible rfl
      simp only [Act.put, tkA, tkB, tkC]
      refine tk (i := 6) (d := some 74) (v := ?_) (hy := Or.inl ⟨by rfl, ?_⟩) (h := ?_)
      rotate_left
      · intro wq hSw
        go_simp
        try with_reducible rfl
      simp only [Act.put, tkA, tkB, tkC]
      refine tk (i := 7) (d := some 75) (v := ?_) (hy := Or.inl ⟨by rfl, ?_⟩) (h := ?_)
      rotate_left
      · intro wq hSw
        go_simp
        try with_reducible rfl
      simp only [Act.put, tkA, tkB, tkC]
      refine tk (i := 8) (d := some 76) (v := ?_) (hy := Or.inl ⟨by rfl, ?_⟩) (h := ?_)
      rotate_left
      · intro wq hSw
        go_simp
        try with_reducible rfl
      simp only [Act.put, tkA, tkB, tkC]
      refine tk (i := 9) (d := some 77) (v := ?_) (hy := Or.inl ⟨by rfl, ?_⟩) (h := ?_)
      rotate_left
      · intro wq hSw
        have x8 := hSw.2.2
        go_simp
        try with_reducible rfl
      simp only [Act.put, tkA, tkB, tkC]
      refine wpAnyH_ready (rs := [10]) (by as_aux_lemma => kernel_rfl) (by simp) ?_
      refine AllReadyH.cons rfl (fun K hK => ?_) AllReadyH.nil
      go_simp
      have hck : WD.cell? ⟨Ck, 0, none⟩ = some (.int .i64 now) := HWD.out.clk.cell 0 _ rfl
      refine (now_is Ck 0 now WD hck).mono ?_
      rintro e w' ⟨rfl, rfl⟩
      refine hK.out _ _ hHeld (fun hHeld => ?_)
      clear hK K hck
      try simp only [Act.put, tkA, tkB, tkC]
      refine tk (i := 11) (d := some 79) (v := ?_) (hy := Or.inl ⟨by rfl, ?_⟩) (h := ?_)
      rotate_left
      · intro wq hSw
        go_simp
        try with_reducible rfl
      simp only [Act.put, tkA, tkB, tkC]
      refine tk (i := 12) (d := some 80) (v := ?_) (hy := Or.inl ⟨by rfl, ?_⟩) (h := ?_)
      rotate_left
      · intro wq hSw
        go_simp
        try with_reducible rfl
      simp only [Act.put, tkA, tkB, tkC]
      refine wpAnyH_ready (rs := [13]) (by as_aux_lemma => kernel_rfl) (by simp) ?_
      refine AllReadyH.cons rfl (fun K hK => ?_) AllReadyH.nil
      have d29 := PD.out.cell 29 _ rfl
      have f29 := PD.out.frz 29
      have lp9 := PD.out.lt
      go_simp
      refine hK.out _ _ ((GWS.out _ _ 29 (.bool true) ⟨_, PD.out⟩ rfl hHeld)) (fun hHeld => ?_)
      have HWE := Lib.hid (HWD.out.pset HA.out 29 (.bool true))
      have PE := Lib.hid (PD.out.set 29 (.bool true))
      have QE := Lib.hid (QD.out.set 29 (.bool true))
      clear hK K HWD PD QD d29 f29 lp9
      try simp only [Act.put, tkA, tkB, tkC]
      generalize (WD.setCell ⟨p, 29, none⟩ (.bool true)) = WE1 at HWE PE QE hHeld ⊢
      have HWD := HWE
      have PD := PE
      have QD := QE
      clear HWE PE QE
      refine tk (i := 14) (d := some 81) (v := ?_) (hy := Or.inl ⟨by rfl, ?_⟩) (h := ?_)
      rotate_left
      · intro wq hSw
        go_simp
        try with_reducible rfl
      simp only [Act.put, tkA, tkB, tkC]
      refine tk (i := 15) (d := some 82) (v := ?_) (hy := Or.inl ⟨by rfl, ?_⟩) (h := ?_)
      rotate_left
      · intro wq hSw
        go_simp
        try with_reducible rfl
      simp only [Act.put, tkA, tkB, tkC]
      refine wpAnyH_ready (rs := [16]) (by as_aux_lemma => kernel_rfl) (by simp) ?_
      refine AllReadyH.cons rfl (fun K hK => ?_) AllReadyH.nil
      have d31 := PD.out.cell 31 _ rfl
      have f31 := PD.out.frz 31
      have d32 := PD.out.cell 32 _ rfl
      have f32 := PD.out.frz 32
      have lp9 := PD.out.lt
      go_simp
      refine hK.out _ _ ((GWS.out _ _ 32 (.int .i64 pr) ⟨_, (PD.out.set 31 (.int .i64 q))⟩ rfl (GWS.out _ _ 31 (.int .i64 q) ⟨_, PD.out⟩ rfl hHeld))) (fun hHeld => ?_)
      have HWE := Lib.hid ((HWD.out.pset HA.out 31 (.int .i64 q)).pset HA.out 32 (.int .i64 pr))
      have PE := Lib.hid ((PD.out.set 31 (.int .i64 q)).set 32 (.int .i64 pr))
      have QE := Lib.hid ((QD.out.set 31 (.int .i64 q)).set 32 (.int .i64 pr))
      clear hK K HWD PD QD d31 f31 d32 f32 lp9
      try simp only [Act.put, tkA, tkB, tkC]
      generalize ((WE1.setCell ⟨p, 31, none⟩ (.int .i64 q)).setCell ⟨p, 32, none⟩ (.int .i64 pr)) = WE2 at HWE PE QE hHeld ⊢
      have HWD := HWE
      have PD := PE
      have QD := QE
      clear HWE PE QE
      refine tk (i := 17) (d := some 83) (v := ?_) (hy := Or.inl ⟨by rfl, ?_⟩) (h := ?_)
      rotate_left
      · intro wq hSw
        go_simp
        try with_reducible rfl
      simp only [Act.put, tkA, tkB, tkC]
      refine tk (i := 18) (d := some 84) (v := ?_) (hy := Or.inl ⟨by rfl, ?_⟩) (h := ?_)
      rotate_left
      · intro wq hSw
        go_simp
        try with_reducible rfl
      simp only [Act.put, tkA, tkB, tkC]
      refine wpAnyH_ready (rs := [19]) (by as_aux_lemma => kernel_rfl) (by simp) ?_
      refine AllReadyH.cons rfl (fun K hK => ?_) AllReadyH.nil
      have d34 := PD.out.cell 34 _ rfl
      have f34 := PD.out.frz 34
      have d35 := PD.out.cell 35 _ rfl
      have f35 := PD.out.frz 35
      have d36 := PD.out.cell 36 _ rfl
      have f36 := PD.out.frz 36
      have d37 := PD.out.cell 37 _ rfl
      have f37 := PD.out.frz 37
      have d38 := PD.out.cell 38 _ rfl
      have f38 := PD.out.frz 38
      have lp9 := PD.out.lt
      go_simp
      refine hK.out _ _ ((GWS.out _ _ 38 (.int .i64 s5.fills) ⟨_, ((((PD.out.set 34 (.int .i64 s5.kind)).set 35 (.bool s5.flag)).set 36 (.int .i64 s5.gen)).set 37 (.int .i64 s5.left))⟩ rfl (GWS.out _ _ 37 (.int .i64 s5.left) ⟨_, (((PD.out.set 34 (.int .i64 s5.kind)).set 35 (.bool s5.flag)).set 36 (.int .i64 s5.gen))⟩ rfl (GWS.out _ _ 36 (.int .i64 s5.gen) ⟨_, ((PD.out.set 34 (.int .i64 s5.kind)).set 35 (.bool s5.flag))⟩ rfl (GWS.out _ _ 35 (.bool s5.flag) ⟨_, (PD.out.set 34 (.int .i64 s5.kind))⟩ rfl (GWS.out _ _ 34 (.int .i64 s5.kind) ⟨_, PD.out⟩ rfl hHeld)))))) (fun hHeld => ?_)
      have HWE := Lib.hid (((((HWD.out.pset HA.out 34 (.int .i64 s5.kind)).pset HA.out 35 (.bool s5.flag)).pset HA.out 36 (.int .i64 s5.gen)).pset HA.out 37 (.int .i64 s5.left)).pset HA.out 38 (.int .i64 s5.fills))
      have PE := Lib.hid (((((PD.out.set 34 (.int .i64 s5.kind)).set 35 (.bool s5.flag)).set 36 (.int .i64 s5.gen)).set 37 (.int .i64 s5.left)).set 38 (.int .i64 s5.fills))
      have QE := Lib.hid (((((QD.out.set 34 (.int .i64 s5.kind)).set 35 (.bool s5.flag)).set 36 (.int .i64 s5.gen)).set 37 (.int .i64 s5.left)).set 38 (.int .i64 s5.fills))
      clear hK K HWD PD QD d34 f34 d35 f35 d36 f36 d37 f37 d38 f38 lp9
      try simp only [Act.put, tkA, tkB, tkC]
      generalize (((((WE2.setCell ⟨p, 34, none⟩ (.int .i64 s5.kind)).setCell ⟨p, 35, none⟩ (.bool s5.flag)).setCell ⟨p, 36, none⟩ (.int .i64 s5.gen)).setCell ⟨p, 37, none⟩ (.int .i64 s5.left)).setCell ⟨p, 38, none⟩ (.int .i64 s5.fills)) = WE3 at HWE PE QE hHeld ⊢
      have HWD := HWE
      have PD := PE
      have QD := QE
      clear HWE PE QE
      refine tk (i := 20) (d := some 85) (v := ?_) (hy := Or.inl ⟨by rfl, ?_⟩) (h := ?_)
      rotate_left
      · intro wq hSw
        go_simp
        try with_reducible rfl
      simp only [Act.put, tkA, tkB, tkC]
      refine tk (i := 21) (d := some 86) (v := ?_) (hy := Or.inl ⟨by rfl, ?_⟩) (h := ?_)
      rotate_left
      · intro wq hSw
        go_simp
        try with_reducible rfl
      simp only [Act.put, tkA, tkB, tkC]
      refine wpAnyH_ready (rs := [22]) (by as_aux_lemma => kernel_rfl) (by simp) ?_
      refine AllReadyH.cons rfl (fun K hK => ?_) AllReadyH.nil
      have d33 := PD.out.cell 33 _ rfl
      have f33 := PD.out.frz 33
      have lp9 := PD.out.lt
      go_simp
      refine hK.out _ _ ((GWS.out _ _ 33 (.int .i64 now) ⟨_, PD.out⟩ rfl hHeld)) (fun hHeld => ?_)
      have HWE := Lib.hid (HWD.out.pset HA.out 33 (.int .i64 now))
      have PE := Lib.hid (PD.out.set 33 (.int .i64 now))
      have QE := Lib.hid (QD.out.set 33 (.int .i64 now))
      clear hK K HWD PD QD d33 f33 lp9
      try simp only [Act.put, tkA, tkB, tkC]
      generalize (WE3.setCell ⟨p, 33, none⟩ (.int .i64 now)) = w9 at HWE PE QE hHeld ⊢
      have HWD := HWE
      have PD := PE
      have QD := QE
      clear HWE PE QE
      refine wpAnyH_done (by as_aux_lemma => kernel_rfl) ?_ _
      have HW9 := HWD
      have P9 := Lib.hid (show Bl p (prc (x : Int) (i : Int) { t with made := true, q := q, p := pr, tk := now, taken := s5 }) w9 from PD.out)
      have F9 := Lib.hid hHeld.1
      have Q9 := QD
      clear HWD PD QD hHeld
      have l9 := P9.out.lt
      have l9f := F9.out.lt
      have l9W := HW9.out.blk.lt
      have p9 : Bl p (prc (x : Int) (i : Int) { t with made := true, q := q, p := pr, tk := now, taken := s5 }) w9.drew := P9.out
      have f9 : Bl fb [.int .i64 q, .int .i64 pr] w9.drew := F9.out
      have hX0 : w9.drew.cell? ⟨p, 1, none⟩ = some (.int .i64 (x : Int)) ∧ w9.drew.cell? ⟨p, 9, none⟩ = some (.int .i64 t.sx.gen) ∧ w9.drew.cell? ⟨p, 3, none⟩ = some (.int .i64 (i : Int)) ∧ w9.drew.cell? ⟨p, 20, none⟩ = some (.int .i64 t.sy.gen) ∧ w9.drew.cell? ⟨fb, 0, none⟩ = some (.int .i64 q) ∧ w9.drew.cell? ⟨fb, 1, none⟩ = some (.int .i64 pr) := ⟨p9.cell 1 _ rfl, p9.cell 9 _ rfl, p9.cell 3 _ rfl, p9.cell 20 _ rfl, f9.cell 0 _ rfl, f9.cell 1 _ rfl⟩
      have HW9d := Lib.hid (show PW K C W M B Ck (Mm.upd ws (2 * i) (cw s5 : Int)) (st + 1) now lv L w9.drew from HW9.out.below (Below.drew (Below.refl _ _)))
      have HTELL := Lib.hid (fun (W' : World) (hW' : PW K C W M B Ck (Mm.upd ws (2 * i) (cw s5 : Int)) (st + 1) now lv L W') => tell_is hW' 2 (x : Int) t.sx.gen (i : Int) t.sy.gen 0 0 0 0 0 q pr 0 0 (.fill x t.sx.gen i t.sy.gen q pr now) rfl hl9)
      clear p9 f9
      go_wp2_with fail
      go_region_held3 (fun w' => w'.cell? ⟨p, 1, none⟩ = some (.int .i64 (x : Int)) ∧ w'.cell? ⟨p, 9, none⟩ = some (.int .i64 t.sx.gen) ∧ w'.cell? ⟨p, 3, none⟩ = some (.int .i64 (i : Int)) ∧ w'.cell? ⟨p, 20, none⟩ = some (.int .i64 t.sy.gen) ∧ w'.cell? ⟨fb, 0, none⟩ = some (.int .i64 q) ∧ w'.cell? ⟨fb, 1, none⟩ = some (.int .i64 pr)) (first | with_reducible exact hX0 | with_reducible exact hX1 | fail)
        (first
          | ((with_reducible refine (HTELL.out _ HW9d.out).mono ?_); rintro e w10 ⟨rfl, lv', hw10, hf10⟩; have HW10 := Lib.hid hw10; have HF10 := Lib.hid hf10; have P10 := Lib.hid ((fun (hh : Bl p (prc (x : Int) (i : Int) { t with made := true, q := q, p := pr, tk := now, taken := s5 }) w9.drew) => show Bl p (prc (x : Int) (i : Int) { t with made := true, q := q, p := pr, tk := now, taken := s5 }) w10 from hh.elim fun tt htt => ⟨tt, (HF10.out.block p l9 HA.out.nW (fun e => by have := (HW9.out.row.lt p e).1; have := HA.out.lo; omega)).trans htt⟩) P9.out); have F10 := Lib.hid ((fun (hh : Bl fb [.int .i64 q, .int .i64 pr] w9.drew) => show Bl fb [.int .i64 q, .int .i64 pr] w10 from hh.elim fun tt htt => ⟨tt, (HF10.out.block fb l9f NWF.out NLF.out).trans htt⟩) F9.out); have hX1 : w10.cell? ⟨p, 1, none⟩ = some (.int .i64 (x : Int)) ∧ w10.cell? ⟨p, 9, none⟩ = some (.int .i64 t.sx.gen) ∧ w10.cell? ⟨p, 3, none⟩ = some (.int .i64 (i : Int)) ∧ w10.cell? ⟨p, 20, none⟩ = some (.int .i64 t.sy.gen) ∧ w10.cell? ⟨fb, 0, none⟩ = some (.int .i64 q) ∧ w10.cell? ⟨fb, 1, none⟩ = some (.int .i64 pr) := ⟨P10.out.cell 1 _ rfl, P10.out.cell 9 _ rfl, P10.out.cell 3 _ rfl, P10.out.cell 20 _ rfl, F10.out.cell 0 _ rfl, F10.out.cell 1 _ rfl⟩; clear hw10 hf10)
          | fail)
      go_wp2
      go_end0
      exact ⟨rfl, lv', HW10.out, P10.out, ⟨HF10.out.os.trans Q9.out.os, HF10.out.tape.trans Q9.out.tape, HF10.out.output.trans Q9.out.output, Nat.le_trans Q9.out.size HF10.out.size, fun g hg h1 h2 h3 h4 h5 => (HF10.out.block g (Nat.lt_of_lt_of_le hg Q9.out.size) h1 h5).trans (Q9.out.block g hg h2 h3 h4)⟩⟩
end
end Go.Proofs.Ytmjkhefgpobinaa
namespace Go.Proofs.Ytmjkhefgpobinaa
open Go.ChangeShapes Go.WideShapes Go.ChangeAt Go.RowKit
section
variable {K : Nat} {C : Cfg} {W M B Ck p : Nat} {ws ws' : Nat → Int} {st st' now : Int} {lv : Value} {L : List Lg} {w w' : World} {aX aY : Int} {t : Tr Tm5}
set_option maxRecDepth 100000 in
set_option maxHeartbeats 8000000 in
theorem try_5y (h : PW K C W M B Ck ws st now lv L w) (hC : C.Ok) (hp : Bl p (prc aX aY t) w) (hh : t.held = true) (hm : mayTake (PmC C) t = true) (R : World → World → Prop)
    (hk : ∀ W', PW K C W M B Ck ws st now lv L W' → Bl p (prc aX aY t) W' → Calls Try.prog 62 #[.pointer (some ⟨p, 0, none⟩), .pointer (some ⟨W, 0, none⟩)] W' fun e w' => e = .returned (.tuple #[]) ∧ R W' w') :
    Calls Try.prog 38 #[.pointer (some ⟨p, 0, none⟩), .pointer (some ⟨W, 0, none⟩), .int .i64 5] w fun e w' => e = .returned (.tuple #[]) ∧ ∃ w1, Below w.heap.size w w1 ∧ R w1 w' := by
  have HM := Lib.hid (fun (W' : World) (hb : Bl p (prc aX aY t) W') => mayTake_is hC hb)
  rw [hm] at HM
  obtain ⟨c0, c1, c2, c3, c4, c5, c6, c7⟩ := w8_fm h
  have hl := hp.lt
  have hW := h.blk.lt
  have k28 : w.cell? ⟨p, 28, none⟩ = some (.bool true) := by rw [← hh]; exact hp.cell 28 _ rfl
  have H := Lib.hid h
  have HP := Lib.hid hp
  have HK := Lib.hid hk
  clear h hp hm hC hk hh
  unfold RC at HM
  go_enter Try.func38, Try.ntmps38
  go_wp2_with fail
  refine (HM.out _ HP.out).mono ?_
  rintro e w1 ⟨rfl, hb1⟩
  have HB1 := Lib.hid hb1
  clear hb1
  go_wp2_with fail
  refine (HK.out _ (H.out.below HB1.out) (HP.out.below HB1.out)).mono ?_
  rintro e w2 ⟨rfl, hr⟩
  have HR := Lib.hid hr
  clear hr
  go_wp2
  go_end0
  exact ⟨rfl, w1, HB1.out, HR.out⟩
set_option maxRecDepth 100000 in
set_option maxHeartbeats 8000000 in
theorem try_5n (h : PW K C W M B Ck ws st now lv L w) (hC : C.Ok) (hp : Bl p (prc aX aY t) w) (hm : ¬ (t.held = true ∧ mayTake (PmC C) t = true)) :
    Calls Try.prog 38 #[.pointer (some ⟨p, 0, none⟩), .pointer (some ⟨W, 0, none⟩), .int .i64 5] w fun e w' => e = .returned (.tuple #[]) ∧ Below w.heap.size w w' := by
  have HM := Lib.hid (fun (W' : World) (hb : Bl p (prc aX aY t) W') => mayTake_is hC hb)
  obtain ⟨c0, c1, c2, c3, c4, c5, c6, c7⟩ := w8_fm h
  have hl := hp.lt
  have hW := h.blk.lt
  have H := Lib.hid h
  have HP := Lib.hid hp
  cases hh : t.held with
  | false =>
    have k28 : w.cell? ⟨p, 28, none⟩ = some (.bool false) := by rw [← hh]; exact hp.cell 28 _ rfl
    clear h hp hm hC hh HM
    go_enter Try.func38, Try.ntmps38
    go_wp2
    go_end0
    exact ⟨rfl, by go_grown⟩
  | true =>
    have hm0 : mayTake (PmC C) t = false := by
      cases hq : mayTake (PmC C) t with
      | false => rfl
      | true => exact absurd ⟨hh, hq⟩ hm
    rw [hm0] at HM
    have k28 : w.cell? ⟨p, 28, none⟩ = some (.bool true) := by rw [← hh]; exact hp.cell 28 _ rfl
    clear h hp hm hC hh hm0
    unfold RC at HM
    go_enter Try.func38, Try.ntmps38
    go_wp2_with fail
    refine (HM.out _ HP.out).mono ?_
    rintro e w1 ⟨rfl, hb1⟩
    have HB1 := Lib.hid hb1
    clear hb1
    go_wp2
    go_end0
    exact ⟨rfl, HB1.out⟩
end
end Go.Proofs.Ytmjkhefgpobinaa
