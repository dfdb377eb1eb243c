/-
  The abstract pool: a fill that may happen.
-/
import Derived.Test.YtnhmdaoghcfghaaRows
import Derived.Test.YtnhmdaoghcfghaaKit
import Derived.Test.YtnhmdaoghcfghaaApp
import Derived.Test.YtnhmdaoghcfghaaQuiet
import Derived.Test.YtnhmdaoghcfghaaTrM
import Derived.Test.YtnhmdaoghcfghaaTrS
import Derived.Test.YtnhmdaoghcfghaaTrF
import Derived.Test.YtnhmdaoghcfghaaTrG
import Derived.Test.YtnhmdaoghcfghaaTrH
import Derived.Test.YtnhmdaoghcfghaaTrJ
import Derived.Test.YtnhmdaoghcfghaaMatch
import Derived.Test.YtnhmdaoghcfghaaTrK
import Derived.WalkKit
import Derived.ProofKit
import Derived.OpenShut
import Derived.ShutString
import Derived.Below
import Derived.Outline
import Derived.WalkLawsBesides
import Derived.WalkSpells
import Derived.Handy
import Derived.Deep.QuietTactic
import Derived.BigQuiet
import Derived.RegionTactic
import Derived.ChangeAlike
import Derived.Lib.Hide
import Derived.Laws.Rows
import Derived.Laws.Tables
import Derived.Laws.CopyOwn
import Derived.Laws.MakeOwn
import Derived.Laws.Entries
import Derived.Laws.OwnMore
import Derived.Deep.WholeRow
import Derived.Deep.LoopGhost
import Derived.Deep.AppendLies
import Derived.Deep.Draws
import Derived.Maps.AppendAt
import Derived.OwnWalk
import Derived.Deep.RegionHeld3
import Derived.Deep.Cut
import Derived.Deep.CutRange
import Derived.Deep.DeepCutAuto
import Derived.Deep.CutBlock
import Derived.Lib.SliceRun
import Derived.IntWalk
namespace Go.Proofs.Ytnhmdaoghcfghaa
open Go.ChangeShapes Go.WideShapes Go.ChangeAt Go.RowKit
set_option maxRecDepth 100000 in
set_option maxHeartbeats 40000000 in
theorem fill_ok (Fx : Nat → Option Obj → Prop) (w wr : World) (B K : Nat) (p c n b r f g now : Int) (gb cp : Nat) (os : List Ord) (e : Evt) (h : MS Fx w wr B K p c n b r f g (.slice (some ⟨gb, 0, none⟩) os.length cp) os now) (hl : os.length ≤ 1000) (hp : 1 ≤ p ∧ p ≤ 6) (hc : 1 ≤ c ∧ c ≤ 4) (hf4 : f ≤ 4) (q1 q2 : Nat) (o1 o2 : Ord) (hq1 : os[q1]? = some o1) (hkq1 : (o1.c == e.c && o1.g == e.g) = true) (hfq1 : ∀ (t : Nat) (o : Ord), t < q1 → os[t]? = some o → (o.c == e.c && o.g == e.g) = false) (heq1 : o1.en = 0) (okq1 : Okay f o1) (hsq1 : spent f o1 = 0) (hq2 : os[q2]? = some o2) (hkq2 : (o2.c == e.o && o2.g == e.w) = true) (hfq2 : ∀ (t : Nat) (o : Ord), t < q2 → os[t]? = some o → (o.c == e.o && o.g == e.w) = false) (heq2 : o2.en = 0) (okq2 : Okay f o2) (hsq2 : spent f o2 = 0) (hqq : q1 ≠ q2) (how : ow p c o1.c ≠ ow p c o2.c) (ha : o2.ak = false) (t1 : 1 ≤ e.q) (t2 : e.q ≤ o1.lf) (t3 : e.q ≤ o2.lf)
    (hmt : ∀ w, Calls Try.prog 36 #[.agg #[.int .i64 o1.n, .int .i64 o1.s, .int .i64 o1.p, .int .i64 o1.l, .int .i64 o1.u], .agg #[.int .i64 o2.n, .int .i64 o2.s, .int .i64 o2.p, .int .i64 o2.l, .int .i64 o2.u], .int .i64 o1.lf, .int .i64 o2.lf] w (MatchPost w e.q e.pr)) : Calls Try.prog 21 #[.pointer (some ⟨B, 0, none⟩), .agg #[.int .i64 e.k, .int .i64 e.c, .int .i64 e.g, .int .i64 e.o, .int .i64 e.w, .int .i64 e.n, .int .i64 e.s, .int .i64 e.p, .int .i64 e.l, .int .i64 e.u, .int .i64 e.q, .int .i64 e.pr, .int .i64 e.t, .int .i64 e.en]] wr fun rr w' => rr = .returned .nilIface ∧ ∃ v', MS Fx w w' B K p c n b r f g v' ((os.set q1 { o1 with lf := o1.lf - e.q, fl := o1.fl + 1 }).set q2 { o2 with lf := o2.lf - e.q, fl := o2.fl + 1, en := spent f { o2 with lf := o2.lf - e.q, fl := o2.fl + 1 } }) now := by
  have hg1 : Below wr.heap.size wr (wr.alloc (.cells #[.int .i64 e.k, .int .i64 e.c, .int .i64 e.g, .int .i64 e.o, .int .i64 e.w, .int .i64 e.n, .int .i64 e.s, .int .i64 e.p, .int .i64 e.l, .int .i64 e.u, .int .i64 e.q, .int .i64 e.pr, .int .i64 e.t, .int .i64 e.en] 41)) := by go_grown
  have HE := Lib.hid (Bl.new wr [.int .i64 e.k, .int .i64 e.c, .int .i64 e.g, .int .i64 e.o, .int .i64 e.w, .int .i64 e.n, .int .i64 e.s, .int .i64 e.p, .int .i64 e.l, .int .i64 e.u, .int .i64 e.q, .int .i64 e.pr, .int .i64 e.t, .int .i64 e.en] 41)
  have HM := Lib.hid (h.below hg1)
  have HMT := Lib.hid hmt
  have HQ1 := Lib.hid hq1
  have HQ2 := Lib.hid hq2
  have HL1 := Lib.hid (fun W (hW : MS Fx w W B K p c n b r f g (.slice (some ⟨gb, 0, none⟩) os.length cp) os now) => live_ok Fx w W B K p c n b r f g now gb cp os e.c e.g hW hl q1 o1 hq1 hkq1 hfq1 heq1)
  have HL2 := Lib.hid (fun W (hW : MS Fx w W B K p c n b r f g (.slice (some ⟨gb, 0, none⟩) os.length cp) os now) => live_ok Fx w W B K p c n b r f g now gb cp os e.o e.w hW hl q2 o2 hq2 hkq2 hfq2 heq2)
  have HO1 := Lib.hid (fun W => owner_is p c n b r f g o1.c W hp hc)
  have HO2 := Lib.hid (fun W => owner_is p c n b r f g o2.c W hp hc)
  have HS1 := Lib.hid (fun W (hW : MS Fx w W B K p c n b r f g (.slice (some ⟨gb, 0, none⟩) os.length cp) os now) => spent_is Fx w W B K p c n b r f g now gb cp q1 os o1 hW hq1)
  have HS2 := Lib.hid (fun W (hW : MS Fx w W B K p c n b r f g (.slice (some ⟨gb, 0, none⟩) os.length cp) os now) => spent_is Fx w W B K p c n b r f g now gb cp q2 os o2 hW hq2)
  rw [hsq1] at HS1
  rw [hsq2] at HS2
  have HK2 := Lib.hid (And.intro okq1 okq2)
  have e7 : (ow p c o1.c == ow p c o2.c) = false := by simpa using how
  have f1 := spent0 hsq1
  have f2 := spent0 hsq2
  have hE1 : ∀ W, (Op.equalIn 10000 86 (.agg #[.int .i64 e.q, .int .i64 e.pr]) (.agg #[.int .i64 0, .int .i64 0])).run Try.prog W = .ok false W := fun W => by
    rw [eqFill, show (e.q == 0) = false from by simp; omega]
    rfl
  have hE2 : ∀ W, (Op.equalIn 10000 86 (.agg #[.int .i64 e.q, .int .i64 e.pr]) (.agg #[.int .i64 e.q, .int .i64 e.pr])).run Try.prog W = .ok true W := fun W => by rw [eqFill]; simp
  clear h hg1 hmt hl hp hc hq1 hkq1 hfq1 heq1 okq1 hsq1 hq2 hkq2 hfq2 heq2 okq2 hsq2 how
  go_enter Try.func21, Try.ntmps21
  go_wp2_with fail
  refine (HL1.out _ HM.out).mono ?_
  rintro rr w2 ⟨rfl, hb2⟩
  have HM2 := Lib.hid (HM.out.below hb2)
  have HE2 := Lib.hid (HE.out.below hb2)
  have d3 := HE2.out.cell 3 _ rfl
  have d4 := HE2.out.cell 4 _ rfl
  go_wp2_with fail
  refine (HL2.out _ HM2.out).mono ?_
  rintro rr w3 ⟨rfl, hb3⟩
  have HM3 := Lib.hid (HM2.out.below hb3)
  have HE3 := Lib.hid (HE2.out.below hb3)
  clear d3 d4 hb2 hb3
  go_wp2_with fail
  have HMd := Lib.hid (HM3.out.below (Below.drew (Below.refl _ _)))
  have HEd := Lib.hid (HE3.out.below (Below.drew (Below.refl _ _)))
  have hS : w3.drew.cell? ⟨B, 0, none⟩ = some (.int .i64 p) ∧ w3.drew.cell? ⟨B, 1, none⟩ = some (.int .i64 c) ∧ w3.drew.cell? ⟨B, 2, none⟩ = some (.int .i64 n) ∧ w3.drew.cell? ⟨B, 3, none⟩ = some (.int .i64 b) ∧ w3.drew.cell? ⟨B, 4, none⟩ = some (.int .i64 r) ∧ w3.drew.cell? ⟨B, 5, none⟩ = some (.int .i64 f) ∧ w3.drew.cell? ⟨B, 6, none⟩ = some (.int .i64 g) ∧ w3.drew.cell? ⟨gb, q1 * 13, none⟩ = some (.int .i64 o1.c) ∧ w3.drew.cell? ⟨gb, q2 * 13, none⟩ = some (.int .i64 o2.c) := And.intro (HMd.out.blk.cell 0 _ rfl) (And.intro (HMd.out.blk.cell 1 _ rfl) (And.intro (HMd.out.blk.cell 2 _ rfl) (And.intro (HMd.out.blk.cell 3 _ rfl) (And.intro (HMd.out.blk.cell 4 _ rfl) (And.intro (HMd.out.blk.cell 5 _ rfl) (And.intro (HMd.out.blk.cell 6 _ rfl) (And.intro (row_cell HMd.out.row HQ1.out rfl (j := 0) (by omega) rfl) (row_cell HMd.out.row HQ2.out rfl (j := 0) (by omega) rfl))))))))
  go_cut [53] (fun x wx => x = .bool false ∧ Hid (MS Fx w wx B K p c n b r f g (.slice (some ⟨gb, 0, none⟩) os.length cp) os now) ∧ Hid (Bl wr.heap.size [.int .i64 e.k, .int .i64 e.c, .int .i64 e.g, .int .i64 e.o, .int .i64 e.w, .int .i64 e.n, .int .i64 e.s, .int .i64 e.p, .int .i64 e.l, .int .i64 e.u, .int .i64 e.q, .int .i64 e.pr, .int .i64 e.t, .int .i64 e.en] wx))
  case first =>
    go_region_held3 (fun w' => w'.cell? ⟨B, 0, none⟩ = some (.int .i64 p) ∧ w'.cell? ⟨B, 1, none⟩ = some (.int .i64 c) ∧ w'.cell? ⟨B, 2, none⟩ = some (.int .i64 n) ∧ w'.cell? ⟨B, 3, none⟩ = some (.int .i64 b) ∧ w'.cell? ⟨B, 4, none⟩ = some (.int .i64 r) ∧ w'.cell? ⟨B, 5, none⟩ = some (.int .i64 f) ∧ w'.cell? ⟨B, 6, none⟩ = some (.int .i64 g) ∧ w'.cell? ⟨gb, q1 * 13, none⟩ = some (.int .i64 o1.c) ∧ w'.cell? ⟨gb, q2 * 13, none⟩ = some (.int .i64 o2.c)) (first | with_reducible exact hS | fail) (first | (go_at_call 31; (with_reducible refine (HO1.out _).mono ?_); rintro rr w4 ⟨rfl, hb4⟩; have HMd := Lib.hid (HMd.out.below hb4); have HEd := Lib.hid (HEd.out.below hb4); have hS : w4.cell? ⟨B, 0, none⟩ = some (.int .i64 p) ∧ w4.cell? ⟨B, 1, none⟩ = some (.int .i64 c) ∧ w4.cell? ⟨B, 2, none⟩ = some (.int .i64 n) ∧ w4.cell? ⟨B, 3, none⟩ = some (.int .i64 b) ∧ w4.cell? ⟨B, 4, none⟩ = some (.int .i64 r) ∧ w4.cell? ⟨B, 5, none⟩ = some (.int .i64 f) ∧ w4.cell? ⟨B, 6, none⟩ = some (.int .i64 g) ∧ w4.cell? ⟨gb, q1 * 13, none⟩ = some (.int .i64 o1.c) ∧ w4.cell? ⟨gb, q2 * 13, none⟩ = some (.int .i64 o2.c) := And.intro (HMd.out.blk.cell 0 _ rfl) (And.intro (HMd.out.blk.cell 1 _ rfl) (And.intro (HMd.out.blk.cell 2 _ rfl) (And.intro (HMd.out.blk.cell 3 _ rfl) (And.intro (HMd.out.blk.cell 4 _ rfl) (And.intro (HMd.out.blk.cell 5 _ rfl) (And.intro (HMd.out.blk.cell 6 _ rfl) (And.intro (row_cell HMd.out.row HQ1.out rfl (j := 0) (by omega) rfl) (row_cell HMd.out.row HQ2.out rfl (j := 0) (by omega) rfl)))))))); clear hb4) | (go_at_call 31; (with_reducible refine (HO2.out _).mono ?_); rintro rr w4 ⟨rfl, hb4⟩; have HMd := Lib.hid (HMd.out.below hb4); have HEd := Lib.hid (HEd.out.below hb4); have hS : w4.cell? ⟨B, 0, none⟩ = some (.int .i64 p) ∧ w4.cell? ⟨B, 1, none⟩ = some (.int .i64 c) ∧ w4.cell? ⟨B, 2, none⟩ = some (.int .i64 n) ∧ w4.cell? ⟨B, 3, none⟩ = some (.int .i64 b) ∧ w4.cell? ⟨B, 4, none⟩ = some (.int .i64 r) ∧ w4.cell? ⟨B, 5, none⟩ = some (.int .i64 f) ∧ w4.cell? ⟨B, 6, none⟩ = some (.int .i64 g) ∧ w4.cell? ⟨gb, q1 * 13, none⟩ = some (.int .i64 o1.c) ∧ w4.cell? ⟨gb, q2 * 13, none⟩ = some (.int .i64 o2.c) := And.intro (HMd.out.blk.cell 0 _ rfl) (And.intro (HMd.out.blk.cell 1 _ rfl) (And.intro (HMd.out.blk.cell 2 _ rfl) (And.intro (HMd.out.blk.cell 3 _ rfl) (And.intro (HMd.out.blk.cell 4 _ rfl) (And.intro (HMd.out.blk.cell 5 _ rfl) (And.intro (HMd.out.blk.cell 6 _ rfl) (And.intro (row_cell HMd.out.row HQ1.out rfl (j := 0) (by omega) rfl) (row_cell HMd.out.row HQ2.out rfl (j := 0) (by omega) rfl)))))))); clear hb4) | fail)
    all_goals ((apply meet_of); (focus (assumption)); (go_meet; exact ⟨rfl, HMd, HEd⟩))
  case rest =>
    obtain ⟨rfl, HM4, HE4⟩ := hcut
    clear hS HMd HEd
    go_wp2_with fail
    refine (HS1.out _ HM4.out).mono ?_
    rintro rr w5 ⟨rfl, hb5⟩
    have HM5 := Lib.hid (HM4.out.below hb5)
    have HE5 := Lib.hid (HE4.out.below hb5)
    clear hb5
    go_wp2_with fail
    refine (HS2.out _ HM5.out).mono ?_
    rintro rr w6 ⟨rfl, hb5⟩
    have HM6 := Lib.hid (HM5.out.below hb5)
    have HE6 := Lib.hid (HE5.out.below hb5)
    clear hb5
    have c10 := row_cell HM6.out.row HQ2.out rfl (j := 10) (by omega) rfl
    rw [ha] at c10
    go_wp2_with fail
    have HMd := Lib.hid (HM6.out.below (Below.drew (Below.refl _ _)))
    have HEd := Lib.hid (HE6.out.below (Below.drew (Below.refl _ _)))
    have hS : w6.drew.cell? ⟨gb, q1 * 13 + 2, none⟩ = some (.int .i64 o1.n) ∧ w6.drew.cell? ⟨gb, q1 * 13 + 3, none⟩ = some (.int .i64 o1.s) ∧ w6.drew.cell? ⟨gb, q1 * 13 + 4, none⟩ = some (.int .i64 o1.p) ∧ w6.drew.cell? ⟨gb, q1 * 13 + 5, none⟩ = some (.int .i64 o1.l) ∧ w6.drew.cell? ⟨gb, q1 * 13 + 6, none⟩ = some (.int .i64 o1.u) ∧ w6.drew.cell? ⟨gb, q2 * 13 + 2, none⟩ = some (.int .i64 o2.n) ∧ w6.drew.cell? ⟨gb, q2 * 13 + 3, none⟩ = some (.int .i64 o2.s) ∧ w6.drew.cell? ⟨gb, q2 * 13 + 4, none⟩ = some (.int .i64 o2.p) ∧ w6.drew.cell? ⟨gb, q2 * 13 + 5, none⟩ = some (.int .i64 o2.l) ∧ w6.drew.cell? ⟨gb, q2 * 13 + 6, none⟩ = some (.int .i64 o2.u) ∧ w6.drew.cell? ⟨gb, q1 * 13 + 8, none⟩ = some (.int .i64 o1.lf) ∧ w6.drew.cell? ⟨gb, q2 * 13 + 8, none⟩ = some (.int .i64 o2.lf) := And.intro (row_cell HMd.out.row HQ1.out rfl (j := 2) (by omega) rfl) (And.intro (row_cell HMd.out.row HQ1.out rfl (j := 3) (by omega) rfl) (And.intro (row_cell HMd.out.row HQ1.out rfl (j := 4) (by omega) rfl) (And.intro (row_cell HMd.out.row HQ1.out rfl (j := 5) (by omega) rfl) (And.intro (row_cell HMd.out.row HQ1.out rfl (j := 6) (by omega) rfl) (And.intro (row_cell HMd.out.row HQ2.out rfl (j := 2) (by omega) rfl) (And.intro (row_cell HMd.out.row HQ2.out rfl (j := 3) (by omega) rfl) (And.intro (row_cell HMd.out.row HQ2.out rfl (j := 4) (by omega) rfl) (And.intro (row_cell HMd.out.row HQ2.out rfl (j := 5) (by omega) rfl) (And.intro (row_cell HMd.out.row HQ2.out rfl (j := 6) (by omega) rfl) (And.intro (row_cell HMd.out.row HQ1.out rfl (j := 8) (by omega) rfl) (row_cell HMd.out.row HQ2.out rfl (j := 8) (by omega) rfl)))))))))))
    have hba := (Below.refl w6.heap.size w6).alloc (Nat.le_refl _) (Obj.cells #[.int .i64 0, .int .i64 0] 86)
    have HMz := Lib.hid ((HM6.out.below hba).below (Below.drew (Below.refl _ _)))
    have HEz := Lib.hid ((HE6.out.below hba).below (Below.drew (Below.refl _ _)))
    have hSz : (w6.alloc (Obj.cells #[.int .i64 0, .int .i64 0] 86)).drew.cell? ⟨gb, q1 * 13 + 2, none⟩ = some (.int .i64 o1.n) ∧ (w6.alloc (Obj.cells #[.int .i64 0, .int .i64 0] 86)).drew.cell? ⟨gb, q1 * 13 + 3, none⟩ = some (.int .i64 o1.s) ∧ (w6.alloc (Obj.cells #[.int .i64 0, .int .i64 0] 86)).drew.cell? ⟨gb, q1 * 13 + 4, none⟩ = some (.int .i64 o1.p) ∧ (w6.alloc (Obj.cells #[.int .i64 0, .int .i64 0] 86)).drew.cell? ⟨gb, q1 * 13 + 5, none⟩ = some (.int .i64 o1.l) ∧ (w6.alloc (Obj.cells #[.int .i64 0, .int .i64 0] 86)).drew.cell? ⟨gb, q1 * 13 + 6, none⟩ = some (.int .i64 o1.u) ∧ (w6.alloc (Obj.cells #[.int .i64 0, .int .i64 0] 86)).drew.cell? ⟨gb, q2 * 13 + 2, none⟩ = some (.int .i64 o2.n) ∧ (w6.alloc (Obj.cells #[.int .i64 0, .int .i64 0] 86)).drew.cell? ⟨gb, q2 * 13 + 3, none⟩ = some (.int .i64 o2.s) ∧ (w6.alloc (Obj.cells #[.int .i64 0, .int .i64 0] 86)).drew.cell? ⟨gb, q2 * 13 + 4, none⟩ = some (.int .i64 o2.p) ∧ (w6.alloc (Obj.cells #[.int .i64 0, .int .i64 0] 86)).drew.cell? ⟨gb, q2 * 13 + 5, none⟩ = some (.int .i64 o2.l) ∧ (w6.alloc (Obj.cells #[.int .i64 0, .int .i64 0] 86)).drew.cell? ⟨gb, q2 * 13 + 6, none⟩ = some (.int .i64 o2.u) ∧ (w6.alloc (Obj.cells #[.int .i64 0, .int .i64 0] 86)).drew.cell? ⟨gb, q1 * 13 + 8, none⟩ = some (.int .i64 o1.lf) ∧ (w6.alloc (Obj.cells #[.int .i64 0, .int .i64 0] 86)).drew.cell? ⟨gb, q2 * 13 + 8, none⟩ = some (.int .i64 o2.lf) := And.intro (row_cell HMz.out.row HQ1.out rfl (j := 2) (by omega) rfl) (And.intro (row_cell HMz.out.row HQ1.out rfl (j := 3) (by omega) rfl) (And.intro (row_cell HMz.out.row HQ1.out rfl (j := 4) (by omega) rfl) (And.intro (row_cell HMz.out.row HQ1.out rfl (j := 5) (by omega) rfl) (And.intro (row_cell HMz.out.row HQ1.out rfl (j := 6) (by omega) rfl) (And.intro (row_cell HMz.out.row HQ2.out rfl (j := 2) (by omega) rfl) (And.intro (row_cell HMz.out.row HQ2.out rfl (j := 3) (by omega) rfl) (And.intro (row_cell HMz.out.row HQ2.out rfl (j := 4) (by omega) rfl) (And.intro (row_cell HMz.out.row HQ2.out rfl (j := 5) (by omega) rfl) (And.intro (row_cell HMz.out.row HQ2.out rfl (j := 6) (by omega) rfl) (And.intro (row_cell HMz.out.row HQ1.out rfl (j := 8) (by omega) rfl) (row_cell HMz.out.row HQ2.out rfl (j := 8) (by omega) rfl)))))))))))
    have bFz : Bl w6.heap.size [.int .i64 0, .int .i64 0] (w6.alloc (Obj.cells #[.int .i64 0, .int .i64 0] 86)).drew := (Bl.new w6 [.int .i64 0, .int .i64 0] 86).below (Below.drew (Below.refl _ _))
    have hltz : gb < w6.heap.size := (HM6.out.row.lt gb rfl).2
    have hKz : K ≤ w6.heap.size := HM6.out.hK
    have hlez := HE6.out.lt
    have hXz : ∀ (k : Nat) (o : Option Obj), Fx k o → k ≠ w6.heap.size := fun k o hk => by have := (HM6.out.fx k o hk).2.2.2; omega
    clear hba
    go_cut [8] (fun x wx => ∃ F, x = .pointer (some ⟨F, 0, none⟩) ∧ gb < F ∧ K ≤ F ∧ Hid (MS Fx w wx B K p c n b r f g (.slice (some ⟨gb, 0, none⟩) os.length cp) os now) ∧ Hid (Bl wr.heap.size [.int .i64 e.k, .int .i64 e.c, .int .i64 e.g, .int .i64 e.o, .int .i64 e.w, .int .i64 e.n, .int .i64 e.s, .int .i64 e.p, .int .i64 e.l, .int .i64 e.u, .int .i64 e.q, .int .i64 e.pr, .int .i64 e.t, .int .i64 e.en] wx) ∧ Hid (Bl F [.int .i64 e.q, .int .i64 e.pr] wx))
    case first =>
      go_region_held3 (fun w' => w'.cell? ⟨gb, q1 * 13 + 2, none⟩ = some (.int .i64 o1.n) ∧ w'.cell? ⟨gb, q1 * 13 + 3, none⟩ = some (.int .i64 o1.s) ∧ w'.cell? ⟨gb, q1 * 13 + 4, none⟩ = some (.int .i64 o1.p) ∧ w'.cell? ⟨gb, q1 * 13 + 5, none⟩ = some (.int .i64 o1.l) ∧ w'.cell? ⟨gb, q1 * 13 + 6, none⟩ = some (.int .i64 o1.u) ∧ w'.cell? ⟨gb, q2 * 13 + 2, none⟩ = some (.int .i64 o2.n) ∧ w'.cell? ⟨gb, q2 * 13 + 3, none⟩ = some (.int .i64 o2.s) ∧ w'.cell? ⟨gb, q2 * 13 + 4, none⟩ = some (.int .i64 o2.p) ∧ w'.cell? ⟨gb, q2 * 13 + 5, none⟩ = some (.int .i64 o2.l) ∧ w'.cell? ⟨gb, q2 * 13 + 6, none⟩ = some (.int .i64 o2.u) ∧ w'.cell? ⟨gb, q1 * 13 + 8, none⟩ = some (.int .i64 o1.lf) ∧ w'.cell? ⟨gb, q2 * 13 + 8, none⟩ = some (.int .i64 o2.lf)) (first | with_reducible exact hS | with_reducible exact hSz | with_reducible exact hSa | with_reducible exact hSk | fail) (first | (go_at_call 36; (with_reducible refine (HMT.out _).mono ?_); rintro rr w7 ⟨rfl, hb7⟩; have HM7 := Lib.hid (HMd.out.below hb7); have HE7 := Lib.hid (HEd.out.below hb7); have hS : w7.cell? ⟨gb, q1 * 13 + 2, none⟩ = some (.int .i64 o1.n) ∧ w7.cell? ⟨gb, q1 * 13 + 3, none⟩ = some (.int .i64 o1.s) ∧ w7.cell? ⟨gb, q1 * 13 + 4, none⟩ = some (.int .i64 o1.p) ∧ w7.cell? ⟨gb, q1 * 13 + 5, none⟩ = some (.int .i64 o1.l) ∧ w7.cell? ⟨gb, q1 * 13 + 6, none⟩ = some (.int .i64 o1.u) ∧ w7.cell? ⟨gb, q2 * 13 + 2, none⟩ = some (.int .i64 o2.n) ∧ w7.cell? ⟨gb, q2 * 13 + 3, none⟩ = some (.int .i64 o2.s) ∧ w7.cell? ⟨gb, q2 * 13 + 4, none⟩ = some (.int .i64 o2.p) ∧ w7.cell? ⟨gb, q2 * 13 + 5, none⟩ = some (.int .i64 o2.l) ∧ w7.cell? ⟨gb, q2 * 13 + 6, none⟩ = some (.int .i64 o2.u) ∧ w7.cell? ⟨gb, q1 * 13 + 8, none⟩ = some (.int .i64 o1.lf) ∧ w7.cell? ⟨gb, q2 * 13 + 8, none⟩ = some (.int .i64 o2.lf) := And.intro (row_cell HM7.out.row HQ1.out rfl (j := 2) (by omega) rfl) (And.intro (row_cell HM7.out.row HQ1.out rfl (j := 3) (by omega) rfl) (And.intro (row_cell HM7.out.row HQ1.out rfl (j := 4) (by omega) rfl) (And.intro (row_cell HM7.out.row HQ1.out rfl (j := 5) (by omega) rfl) (And.intro (row_cell HM7.out.row HQ1.out rfl (j := 6) (by omega) rfl) (And.intro (row_cell HM7.out.row HQ2.out rfl (j := 2) (by omega) rfl) (And.intro (row_cell HM7.out.row HQ2.out rfl (j := 3) (by omega) rfl) (And.intro (row_cell HM7.out.row HQ2.out rfl (j := 4) (by omega) rfl) (And.intro (row_cell HM7.out.row HQ2.out rfl (j := 5) (by omega) rfl) (And.intro (row_cell HM7.out.row HQ2.out rfl (j := 6) (by omega) rfl) (And.intro (row_cell HM7.out.row HQ1.out rfl (j := 8) (by omega) rfl) (row_cell HM7.out.row HQ2.out rfl (j := 8) (by omega) rfl))))))))))); have hba := (Below.refl w7.heap.size w7).alloc (Nat.le_refl _) (Obj.cells #[.int .i64 0, .int .i64 0] 86); have HM8 := Lib.hid (HM7.out.below hba); have hSa : (w7.alloc (Obj.cells #[.int .i64 0, .int .i64 0] 86)).cell? ⟨gb, q1 * 13 + 2, none⟩ = some (.int .i64 o1.n) ∧ (w7.alloc (Obj.cells #[.int .i64 0, .int .i64 0] 86)).cell? ⟨gb, q1 * 13 + 3, none⟩ = some (.int .i64 o1.s) ∧ (w7.alloc (Obj.cells #[.int .i64 0, .int .i64 0] 86)).cell? ⟨gb, q1 * 13 + 4, none⟩ = some (.int .i64 o1.p) ∧ (w7.alloc (Obj.cells #[.int .i64 0, .int .i64 0] 86)).cell? ⟨gb, q1 * 13 + 5, none⟩ = some (.int .i64 o1.l) ∧ (w7.alloc (Obj.cells #[.int .i64 0, .int .i64 0] 86)).cell? ⟨gb, q1 * 13 + 6, none⟩ = some (.int .i64 o1.u) ∧ (w7.alloc (Obj.cells #[.int .i64 0, .int .i64 0] 86)).cell? ⟨gb, q2 * 13 + 2, none⟩ = some (.int .i64 o2.n) ∧ (w7.alloc (Obj.cells #[.int .i64 0, .int .i64 0] 86)).cell? ⟨gb, q2 * 13 + 3, none⟩ = some (.int .i64 o2.s) ∧ (w7.alloc (Obj.cells #[.int .i64 0, .int .i64 0] 86)).cell? ⟨gb, q2 * 13 + 4, none⟩ = some (.int .i64 o2.p) ∧ (w7.alloc (Obj.cells #[.int .i64 0, .int .i64 0] 86)).cell? ⟨gb, q2 * 13 + 5, none⟩ = some (.int .i64 o2.l) ∧ (w7.alloc (Obj.cells #[.int .i64 0, .int .i64 0] 86)).cell? ⟨gb, q2 * 13 + 6, none⟩ = some (.int .i64 o2.u) ∧ (w7.alloc (Obj.cells #[.int .i64 0, .int .i64 0] 86)).cell? ⟨gb, q1 * 13 + 8, none⟩ = some (.int .i64 o1.lf) ∧ (w7.alloc (Obj.cells #[.int .i64 0, .int .i64 0] 86)).cell? ⟨gb, q2 * 13 + 8, none⟩ = some (.int .i64 o2.lf) := And.intro (row_cell HM8.out.row HQ1.out rfl (j := 2) (by omega) rfl) (And.intro (row_cell HM8.out.row HQ1.out rfl (j := 3) (by omega) rfl) (And.intro (row_cell HM8.out.row HQ1.out rfl (j := 4) (by omega) rfl) (And.intro (row_cell HM8.out.row HQ1.out rfl (j := 5) (by omega) rfl) (And.intro (row_cell HM8.out.row HQ1.out rfl (j := 6) (by omega) rfl) (And.intro (row_cell HM8.out.row HQ2.out rfl (j := 2) (by omega) rfl) (And.intro (row_cell HM8.out.row HQ2.out rfl (j := 3) (by omega) rfl) (And.intro (row_cell HM8.out.row HQ2.out rfl (j := 4) (by omega) rfl) (And.intro (row_cell HM8.out.row HQ2.out rfl (j := 5) (by omega) rfl) (And.intro (row_cell HM8.out.row HQ2.out rfl (j := 6) (by omega) rfl) (And.intro (row_cell HM8.out.row HQ1.out rfl (j := 8) (by omega) rfl) (row_cell HM8.out.row HQ2.out rfl (j := 8) (by omega) rfl))))))))))); have hbq := (Below.refl w7.heap.size w7).alloc (Nat.le_refl _) (Obj.cells #[.int .i64 e.q, .int .i64 e.pr] 86); have HM9 := Lib.hid (HM7.out.below hbq); have HE9 := Lib.hid (HE7.out.below hbq); have HF9 := Lib.hid (Bl.new w7 [.int .i64 e.q, .int .i64 e.pr] 86); have hlt : gb < w7.heap.size := (HM7.out.row.lt gb rfl).2; have hKF : K ≤ w7.heap.size := HM7.out.hK; have hSk : (w7.alloc (Obj.cells #[.int .i64 e.q, .int .i64 e.pr] 86)).cell? ⟨gb, q1 * 13 + 2, none⟩ = some (.int .i64 o1.n) ∧ (w7.alloc (Obj.cells #[.int .i64 e.q, .int .i64 e.pr] 86)).cell? ⟨gb, q1 * 13 + 3, none⟩ = some (.int .i64 o1.s) ∧ (w7.alloc (Obj.cells #[.int .i64 e.q, .int .i64 e.pr] 86)).cell? ⟨gb, q1 * 13 + 4, none⟩ = some (.int .i64 o1.p) ∧ (w7.alloc (Obj.cells #[.int .i64 e.q, .int .i64 e.pr] 86)).cell? ⟨gb, q1 * 13 + 5, none⟩ = some (.int .i64 o1.l) ∧ (w7.alloc (Obj.cells #[.int .i64 e.q, .int .i64 e.pr] 86)).cell? ⟨gb, q1 * 13 + 6, none⟩ = some (.int .i64 o1.u) ∧ (w7.alloc (Obj.cells #[.int .i64 e.q, .int .i64 e.pr] 86)).cell? ⟨gb, q2 * 13 + 2, none⟩ = some (.int .i64 o2.n) ∧ (w7.alloc (Obj.cells #[.int .i64 e.q, .int .i64 e.pr] 86)).cell? ⟨gb, q2 * 13 + 3, none⟩ = some (.int .i64 o2.s) ∧ (w7.alloc (Obj.cells #[.int .i64 e.q, .int .i64 e.pr] 86)).cell? ⟨gb, q2 * 13 + 4, none⟩ = some (.int .i64 o2.p) ∧ (w7.alloc (Obj.cells #[.int .i64 e.q, .int .i64 e.pr] 86)).cell? ⟨gb, q2 * 13 + 5, none⟩ = some (.int .i64 o2.l) ∧ (w7.alloc (Obj.cells #[.int .i64 e.q, .int .i64 e.pr] 86)).cell? ⟨gb, q2 * 13 + 6, none⟩ = some (.int .i64 o2.u) ∧ (w7.alloc (Obj.cells #[.int .i64 e.q, .int .i64 e.pr] 86)).cell? ⟨gb, q1 * 13 + 8, none⟩ = some (.int .i64 o1.lf) ∧ (w7.alloc (Obj.cells #[.int .i64 e.q, .int .i64 e.pr] 86)).cell? ⟨gb, q2 * 13 + 8, none⟩ = some (.int .i64 o2.lf) := And.intro (row_cell HM9.out.row HQ1.out rfl (j := 2) (by omega) rfl) (And.intro (row_cell HM9.out.row HQ1.out rfl (j := 3) (by omega) rfl) (And.intro (row_cell HM9.out.row HQ1.out rfl (j := 4) (by omega) rfl) (And.intro (row_cell HM9.out.row HQ1.out rfl (j := 5) (by omega) rfl) (And.intro (row_cell HM9.out.row HQ1.out rfl (j := 6) (by omega) rfl) (And.intro (row_cell HM9.out.row HQ2.out rfl (j := 2) (by omega) rfl) (And.intro (row_cell HM9.out.row HQ2.out rfl (j := 3) (by omega) rfl) (And.intro (row_cell HM9.out.row HQ2.out rfl (j := 4) (by omega) rfl) (And.intro (row_cell HM9.out.row HQ2.out rfl (j := 5) (by omega) rfl) (And.intro (row_cell HM9.out.row HQ2.out rfl (j := 6) (by omega) rfl) (And.intro (row_cell HM9.out.row HQ1.out rfl (j := 8) (by omega) rfl) (row_cell HM9.out.row HQ2.out rfl (j := 8) (by omega) rfl))))))))))); clear hb7 hba hbq) | (go_at_call 36; (with_reducible refine (HMT.out _).mono ?_); rintro rr w7 ⟨rfl, hb7⟩; have HM7 := Lib.hid (HMz.out.below hb7); have HE7 := Lib.hid (HEz.out.below hb7); have bF := bFz.below hb7; have hS : w7.cell? ⟨gb, q1 * 13 + 2, none⟩ = some (.int .i64 o1.n) ∧ w7.cell? ⟨gb, q1 * 13 + 3, none⟩ = some (.int .i64 o1.s) ∧ w7.cell? ⟨gb, q1 * 13 + 4, none⟩ = some (.int .i64 o1.p) ∧ w7.cell? ⟨gb, q1 * 13 + 5, none⟩ = some (.int .i64 o1.l) ∧ w7.cell? ⟨gb, q1 * 13 + 6, none⟩ = some (.int .i64 o1.u) ∧ w7.cell? ⟨gb, q2 * 13 + 2, none⟩ = some (.int .i64 o2.n) ∧ w7.cell? ⟨gb, q2 * 13 + 3, none⟩ = some (.int .i64 o2.s) ∧ w7.cell? ⟨gb, q2 * 13 + 4, none⟩ = some (.int .i64 o2.p) ∧ w7.cell? ⟨gb, q2 * 13 + 5, none⟩ = some (.int .i64 o2.l) ∧ w7.cell? ⟨gb, q2 * 13 + 6, none⟩ = some (.int .i64 o2.u) ∧ w7.cell? ⟨gb, q1 * 13 + 8, none⟩ = some (.int .i64 o1.lf) ∧ w7.cell? ⟨gb, q2 * 13 + 8, none⟩ = some (.int .i64 o2.lf) := And.intro (row_cell HM7.out.row HQ1.out rfl (j := 2) (by omega) rfl) (And.intro (row_cell HM7.out.row HQ1.out rfl (j := 3) (by omega) rfl) (And.intro (row_cell HM7.out.row HQ1.out rfl (j := 4) (by omega) rfl) (And.intro (row_cell HM7.out.row HQ1.out rfl (j := 5) (by omega) rfl) (And.intro (row_cell HM7.out.row HQ1.out rfl (j := 6) (by omega) rfl) (And.intro (row_cell HM7.out.row HQ2.out rfl (j := 2) (by omega) rfl) (And.intro (row_cell HM7.out.row HQ2.out rfl (j := 3) (by omega) rfl) (And.intro (row_cell HM7.out.row HQ2.out rfl (j := 4) (by omega) rfl) (And.intro (row_cell HM7.out.row HQ2.out rfl (j := 5) (by omega) rfl) (And.intro (row_cell HM7.out.row HQ2.out rfl (j := 6) (by omega) rfl) (And.intro (row_cell HM7.out.row HQ1.out rfl (j := 8) (by omega) rfl) (row_cell HM7.out.row HQ2.out rfl (j := 8) (by omega) rfl))))))))))); have z0 := bF.cell 0 _ rfl; have z1 := bF.cell 1 _ rfl; have y0 := bF.frz 0; have y1 := bF.frz 1; have hlt := hltz; have HM9 := Lib.hid ((HM7.out.far (j := 0) hKz (by omega) hXz (.int .i64 e.q)).far (j := 1) hKz (by omega) hXz (.int .i64 e.pr)); have HE9 := Lib.hid ((HE7.out.far (p := ⟨w6.heap.size, 0, none⟩) (by show w6.heap.size ≠ _; omega) (.int .i64 e.q)).far (p := ⟨w6.heap.size, 1, none⟩) (by show w6.heap.size ≠ _; omega) (.int .i64 e.pr)); have HF9 := Lib.hid ((bF.set 0 (.int .i64 e.q)).set 1 (.int .i64 e.pr)); have hSk : ((w7.setCell ⟨w6.heap.size, 0, none⟩ (.int .i64 e.q)).setCell ⟨w6.heap.size, 1, none⟩ (.int .i64 e.pr)).cell? ⟨gb, q1 * 13 + 2, none⟩ = some (.int .i64 o1.n) ∧ ((w7.setCell ⟨w6.heap.size, 0, none⟩ (.int .i64 e.q)).setCell ⟨w6.heap.size, 1, none⟩ (.int .i64 e.pr)).cell? ⟨gb, q1 * 13 + 3, none⟩ = some (.int .i64 o1.s) ∧ ((w7.setCell ⟨w6.heap.size, 0, none⟩ (.int .i64 e.q)).setCell ⟨w6.heap.size, 1, none⟩ (.int .i64 e.pr)).cell? ⟨gb, q1 * 13 + 4, none⟩ = some (.int .i64 o1.p) ∧ ((w7.setCell ⟨w6.heap.size, 0, none⟩ (.int .i64 e.q)).setCell ⟨w6.heap.size, 1, none⟩ (.int .i64 e.pr)).cell? ⟨gb, q1 * 13 + 5, none⟩ = some (.int .i64 o1.l) ∧ ((w7.setCell ⟨w6.heap.size, 0, none⟩ (.int .i64 e.q)).setCell ⟨w6.heap.size, 1, none⟩ (.int .i64 e.pr)).cell? ⟨gb, q1 * 13 + 6, none⟩ = some (.int .i64 o1.u) ∧ ((w7.setCell ⟨w6.heap.size, 0, none⟩ (.int .i64 e.q)).setCell ⟨w6.heap.size, 1, none⟩ (.int .i64 e.pr)).cell? ⟨gb, q2 * 13 + 2, none⟩ = some (.int .i64 o2.n) ∧ ((w7.setCell ⟨w6.heap.size, 0, none⟩ (.int .i64 e.q)).setCell ⟨w6.heap.size, 1, none⟩ (.int .i64 e.pr)).cell? ⟨gb, q2 * 13 + 3, none⟩ = some (.int .i64 o2.s) ∧ ((w7.setCell ⟨w6.heap.size, 0, none⟩ (.int .i64 e.q)).setCell ⟨w6.heap.size, 1, none⟩ (.int .i64 e.pr)).cell? ⟨gb, q2 * 13 + 4, none⟩ = some (.int .i64 o2.p) ∧ ((w7.setCell ⟨w6.heap.size, 0, none⟩ (.int .i64 e.q)).setCell ⟨w6.heap.size, 1, none⟩ (.int .i64 e.pr)).cell? ⟨gb, q2 * 13 + 5, none⟩ = some (.int .i64 o2.l) ∧ ((w7.setCell ⟨w6.heap.size, 0, none⟩ (.int .i64 e.q)).setCell ⟨w6.heap.size, 1, none⟩ (.int .i64 e.pr)).cell? ⟨gb, q2 * 13 + 6, none⟩ = some (.int .i64 o2.u) ∧ ((w7.setCell ⟨w6.heap.size, 0, none⟩ (.int .i64 e.q)).setCell ⟨w6.heap.size, 1, none⟩ (.int .i64 e.pr)).cell? ⟨gb, q1 * 13 + 8, none⟩ = some (.int .i64 o1.lf) ∧ ((w7.setCell ⟨w6.heap.size, 0, none⟩ (.int .i64 e.q)).setCell ⟨w6.heap.size, 1, none⟩ (.int .i64 e.pr)).cell? ⟨gb, q2 * 13 + 8, none⟩ = some (.int .i64 o2.lf) := And.intro (row_cell HM9.out.row HQ1.out rfl (j := 2) (by omega) rfl) (And.intro (row_cell HM9.out.row HQ1.out rfl (j := 3) (by omega) rfl) (And.intro (row_cell HM9.out.row HQ1.out rfl (j := 4) (by omega) rfl) (And.intro (row_cell HM9.out.row HQ1.out rfl (j := 5) (by omega) rfl) (And.intro (row_cell HM9.out.row HQ1.out rfl (j := 6) (by omega) rfl) (And.intro (row_cell HM9.out.row HQ2.out rfl (j := 2) (by omega) rfl) (And.intro (row_cell HM9.out.row HQ2.out rfl (j := 3) (by omega) rfl) (And.intro (row_cell HM9.out.row HQ2.out rfl (j := 4) (by omega) rfl) (And.intro (row_cell HM9.out.row HQ2.out rfl (j := 5) (by omega) rfl) (And.intro (row_cell HM9.out.row HQ2.out rfl (j := 6) (by omega) rfl) (And.intro (row_cell HM9.out.row HQ1.out rfl (j := 8) (by omega) rfl) (row_cell HM9.out.row HQ2.out rfl (j := 8) (by omega) rfl))))))))))); clear hb7) | fail)
      all_goals ((apply meet_of); (focus (assumption)); (go_meet; exact ⟨_, rfl, hlt, (by first | exact hKF | exact hKz), HM9, HE9, HF9⟩))
    case rest =>
      obtain ⟨F, rfl, hgF, hKF, HM9, HE9, HF9⟩ := hcut
      clear hS hSz HMz HEz bFz HMd HEd hlez hKz hltz hXz
      have g0 := HF9.out.cell 0 _ rfl
      have g1 := HF9.out.cell 1 _ rfl
      have x10 := HE9.out.cell 10 _ rfl
      have x11 := HE9.out.cell 11 _ rfl
      have hbP := (Below.refl wc.heap.size wc).alloc (Nat.le_refl _) (Obj.cells (List.toArray [.pointer (some ⟨gb, q1 * 13, none⟩), .pointer (some ⟨gb, q2 * 13, none⟩)]) 81)
      have HMp := Lib.hid (HM9.out.below hbP)
      have HFp := Lib.hid (HF9.out.below hbP)
      have HPp := Lib.hid (Bl.new wc [.pointer (some ⟨gb, q1 * 13, none⟩), .pointer (some ⟨gb, q2 * 13, none⟩)] 81)
      have hgP : gb < wc.heap.size := (HM9.out.row.lt gb rfl).2
      clear hbP
      go_wp2_with fail
      clear g0 g1 x10 x11
      go_loopw [106] (fun i wy => ∃ k : Nat, k ≤ 2 ∧ i = .int .i64 (k : Int) ∧ Hid (MS Fx w wy B K p c n b r f g (.slice (some ⟨gb, 0, none⟩) os.length cp) (twoS os q1 q2 { o1 with lf := o1.lf - e.q, fl := o1.fl + 1 } { o2 with lf := o2.lf - e.q, fl := o2.fl + 1 } k) now) ∧ Hid (Bl F [.int .i64 e.q, .int .i64 e.pr] wy) ∧ Hid (Bl wc.heap.size [.pointer (some ⟨gb, q1 * 13, none⟩), .pointer (some ⟨gb, q2 * 13, none⟩)] wy)) (fun i _ => 3 - (intOf i).toNat)
      case atStart => exact ⟨0, by omega, rfl, HMp, HFp, HPp⟩
      case round =>
        clear HMp HFp HPp
        obtain ⟨k, hk2, rfl, HMk, HFk, HPk⟩ := hrel
        have l1 : o1.lf ≤ 9999 := HK2.out.1.lf1
        have l2 : o2.lf ≤ 9999 := HK2.out.2.lf1
        have n1 : 0 ≤ o1.fl := HK2.out.1.fl0
        have n2 : 0 ≤ o2.fl := HK2.out.2.fl0
        have W1 : IntKind.i64.wrap (o1.lf - e.q) = o1.lf - e.q := IntWalk.i64_in _ (by omega)
        have W2 : IntKind.i64.wrap (o2.lf - e.q) = o2.lf - e.q := IntWalk.i64_in _ (by omega)
        rcases (show k = 0 ∨ k = 1 ∨ k = 2 by omega) with rfl | rfl | rfl
        · have HMa : Hid (MS Fx w wr B K p c n b r f g (.slice (some ⟨gb, 0, none⟩) os.length cp) (os) now) := HMk
          have p0 := HPk.out.cell 0 _ rfl
          have g0 := HFk.out.cell 0 _ rfl
          have c8 := row_cell2 (o := o1) HMa.out.row rfl HQ1.out (j := 8) (by omega) rfl
          have c9 := row_cell2 (o := o1) HMa.out.row rfl HQ1.out (j := 9) (by omega) rfl
          have z8 := row_frz2 HMa.out.row rfl (q1 * 13 + 8)
          have z9 := row_frz2 HMa.out.row rfl (q1 * 13 + 9)
          have hgl : gb < wr.heap.size := (HPk.out.lt |> Nat.lt_trans hgP)
          have hdr := Below.drew (Below.refl wr.heap.size wr)
          have HN8 : Hid (MS Fx w (wr.drew.setCell ⟨gb, q1 * 13 + 8, none⟩ (.int .i64 (o1.lf - e.q))) B K p c n b r f g (.slice (some ⟨gb, 0, none⟩) os.length cp) ((os).set q1 { o1 with lf := o1.lf - e.q }) now) := (HMa.out.below hdr).setOrd2 (o := o1) (o' := { o1 with lf := o1.lf - e.q }) rfl HQ1.out (j := 8) (by omega) rfl
          have hq8 : ((os).set q1 { o1 with lf := o1.lf - e.q })[q1]? = some { o1 with lf := o1.lf - e.q } := get_set_eq (b := o1) HQ1.out
          have HN9 : Hid (MS Fx w ((wr.drew.setCell ⟨gb, q1 * 13 + 8, none⟩ (.int .i64 (o1.lf - e.q))).setCell ⟨gb, q1 * 13 + 9, none⟩ (.int .i64 (o1.fl + 1))) B K p c n b r f g (.slice (some ⟨gb, 0, none⟩) os.length cp) (((os).set q1 { o1 with lf := o1.lf - e.q }).set q1 { o1 with lf := o1.lf - e.q, fl := o1.fl + 1 }) now) := HN8.out.setOrd2 (o' := { o1 with lf := o1.lf - e.q, fl := o1.fl + 1 }) (by simp) hq8 (j := 9) (by omega) rfl
          have HFn : Hid (Bl F [.int .i64 e.q, .int .i64 e.pr] ((wr.drew.setCell ⟨gb, q1 * 13 + 8, none⟩ (.int .i64 (o1.lf - e.q))).setCell ⟨gb, q1 * 13 + 9, none⟩ (.int .i64 (o1.fl + 1)))) := ((HFk.out.below hdr).far (p := ⟨gb, q1 * 13 + 8, none⟩) (Nat.ne_of_lt hgF) _).far (p := ⟨gb, q1 * 13 + 9, none⟩) (Nat.ne_of_lt hgF) _
          have HPn : Hid (Bl wc.heap.size [.pointer (some ⟨gb, q1 * 13, none⟩), .pointer (some ⟨gb, q2 * 13, none⟩)] ((wr.drew.setCell ⟨gb, q1 * 13 + 8, none⟩ (.int .i64 (o1.lf - e.q))).setCell ⟨gb, q1 * 13 + 9, none⟩ (.int .i64 (o1.fl + 1)))) := ((HPk.out.below hdr).far (p := ⟨gb, q1 * 13 + 8, none⟩) (Nat.ne_of_lt hgP) _).far (p := ⟨gb, q1 * 13 + 9, none⟩) (Nat.ne_of_lt hgP) _
          clear hdr hq8
          go_wp2_with fail
          go_region
          all_goals (go_wp2_with fail)
          all_goals go_roundw
          all_goals first | (refine ⟨1, by omega, by go_num, ?_, HFn, HPn⟩; (have h9 := HN9; rw [List.set_set] at h9; exact h9)) | (simp [intOf])
        · have HMa : Hid (MS Fx w wr B K p c n b r f g (.slice (some ⟨gb, 0, none⟩) os.length cp) (os.set q1 { o1 with lf := o1.lf - e.q, fl := o1.fl + 1 }) now) := HMk
          have p0 := HPk.out.cell 1 _ rfl
          have g0 := HFk.out.cell 0 _ rfl
          have c8 := row_cell2 (o := o2) HMa.out.row (by simp) (by rw [get_set_ne hqq]; exact HQ2.out) (j := 8) (by omega) rfl
          have c9 := row_cell2 (o := o2) HMa.out.row (by simp) (by rw [get_set_ne hqq]; exact HQ2.out) (j := 9) (by omega) rfl
          have z8 := row_frz2 HMa.out.row (by simp) (q2 * 13 + 8)
          have z9 := row_frz2 HMa.out.row (by simp) (q2 * 13 + 9)
          have hgl : gb < wr.heap.size := (HPk.out.lt |> Nat.lt_trans hgP)
          have hdr := Below.drew (Below.refl wr.heap.size wr)
          have HN8 : Hid (MS Fx w (wr.drew.setCell ⟨gb, q2 * 13 + 8, none⟩ (.int .i64 (o2.lf - e.q))) B K p c n b r f g (.slice (some ⟨gb, 0, none⟩) os.length cp) ((os.set q1 { o1 with lf := o1.lf - e.q, fl := o1.fl + 1 }).set q2 { o2 with lf := o2.lf - e.q }) now) := (HMa.out.below hdr).setOrd2 (o := o2) (o' := { o2 with lf := o2.lf - e.q }) (by simp) (by rw [get_set_ne hqq]; exact HQ2.out) (j := 8) (by omega) rfl
          have hq8 : ((os.set q1 { o1 with lf := o1.lf - e.q, fl := o1.fl + 1 }).set q2 { o2 with lf := o2.lf - e.q })[q2]? = some { o2 with lf := o2.lf - e.q } := get_set_eq (b := o2) (by rw [get_set_ne hqq]; exact HQ2.out)
          have HN9 : Hid (MS Fx w ((wr.drew.setCell ⟨gb, q2 * 13 + 8, none⟩ (.int .i64 (o2.lf - e.q))).setCell ⟨gb, q2 * 13 + 9, none⟩ (.int .i64 (o2.fl + 1))) B K p c n b r f g (.slice (some ⟨gb, 0, none⟩) os.length cp) (((os.set q1 { o1 with lf := o1.lf - e.q, fl := o1.fl + 1 }).set q2 { o2 with lf := o2.lf - e.q }).set q2 { o2 with lf := o2.lf - e.q, fl := o2.fl + 1 }) now) := HN8.out.setOrd2 (o' := { o2 with lf := o2.lf - e.q, fl := o2.fl + 1 }) (by simp) hq8 (j := 9) (by omega) rfl
          have HFn : Hid (Bl F [.int .i64 e.q, .int .i64 e.pr] ((wr.drew.setCell ⟨gb, q2 * 13 + 8, none⟩ (.int .i64 (o2.lf - e.q))).setCell ⟨gb, q2 * 13 + 9, none⟩ (.int .i64 (o2.fl + 1)))) := ((HFk.out.below hdr).far (p := ⟨gb, q2 * 13 + 8, none⟩) (Nat.ne_of_lt hgF) _).far (p := ⟨gb, q2 * 13 + 9, none⟩) (Nat.ne_of_lt hgF) _
          have HPn : Hid (Bl wc.heap.size [.pointer (some ⟨gb, q1 * 13, none⟩), .pointer (some ⟨gb, q2 * 13, none⟩)] ((wr.drew.setCell ⟨gb, q2 * 13 + 8, none⟩ (.int .i64 (o2.lf - e.q))).setCell ⟨gb, q2 * 13 + 9, none⟩ (.int .i64 (o2.fl + 1)))) := ((HPk.out.below hdr).far (p := ⟨gb, q2 * 13 + 8, none⟩) (Nat.ne_of_lt hgP) _).far (p := ⟨gb, q2 * 13 + 9, none⟩) (Nat.ne_of_lt hgP) _
          clear hdr hq8
          go_wp2_with fail
          go_region
          all_goals (go_wp2_with fail)
          all_goals go_roundw
          all_goals first | (refine ⟨2, by omega, by go_num, ?_, HFn, HPn⟩; (have h9 := HN9; rw [List.set_set] at h9; exact h9)) | (simp [intOf])
        · have HMa : Hid (MS Fx w wr B K p c n b r f g (.slice (some ⟨gb, 0, none⟩) os.length cp) ((os.set q1 { o1 with lf := o1.lf - e.q, fl := o1.fl + 1 }).set q2 { o2 with lf := o2.lf - e.q, fl := o2.fl + 1 }) now) := HMk
          have hq2 : ((os.set q1 { o1 with lf := o1.lf - e.q, fl := o1.fl + 1 }).set q2 { o2 with lf := o2.lf - e.q, fl := o2.fl + 1 })[q2]? = some { o2 with lf := o2.lf - e.q, fl := o2.fl + 1 } := get_set_eq (by rw [get_set_ne hqq]; exact HQ2.out)
          have hln : ((os.set q1 { o1 with lf := o1.lf - e.q, fl := o1.fl + 1 }).set q2 { o2 with lf := o2.lf - e.q, fl := o2.fl + 1 }).length = os.length := by simp
          have HS3 := Lib.hid (fun W (hW : MS Fx w W B K p c n b r f g (.slice (some ⟨gb, 0, none⟩) os.length cp) ((os.set q1 { o1 with lf := o1.lf - e.q, fl := o1.fl + 1 }).set q2 { o2 with lf := o2.lf - e.q, fl := o2.fl + 1 }) now) => spent_is Fx w W B K p c n b r f g now gb cp q2 ((os.set q1 { o1 with lf := o1.lf - e.q, fl := o1.fl + 1 }).set q2 { o2 with lf := o2.lf - e.q, fl := o2.fl + 1 }) { o2 with lf := o2.lf - e.q, fl := o2.fl + 1 } (by rw [hln]; exact hW) hq2)
          have HQ3 := Lib.hid hq2
          generalize hx : spent f { o2 with lf := o2.lf - e.q, fl := o2.fl + 1 } = x at *
          have HX := Lib.hid hx
          clear hq2 hln hx W1 W2
          go_wp2_with fail
          refine (HS3.out _ HMa.out).mono ?_
          rintro rr w11 ⟨rfl, hb11⟩
          have HMb := Lib.hid (HMa.out.below hb11)
          have c12 := row_cell2 HMb.out.row (by simp) HQ3.out (j := 12) (by omega) rfl
          have z12 := row_frz2 HMb.out.row (by simp) (q2 * 13 + 12)
          have HN : Hid (MS Fx w (w11.setCell ⟨gb, q2 * 13 + 12, none⟩ (.int .i64 x)) B K p c n b r f g (.slice (some ⟨gb, 0, none⟩) os.length cp) (((os.set q1 { o1 with lf := o1.lf - e.q, fl := o1.fl + 1 }).set q2 { o2 with lf := o2.lf - e.q, fl := o2.fl + 1 }).set q2 { o2 with lf := o2.lf - e.q, fl := o2.fl + 1, en := x }) now) := HMb.out.setOrd2 (o' := { o2 with lf := o2.lf - e.q, fl := o2.fl + 1, en := x }) (by simp) HQ3.out (j := 12) (by omega) rfl
          go_wp2_with fail
          go_ret
          obtain rfl := HX.out
          have h9 := HN.out
          rw [List.set_set] at h9
          exact ⟨rfl, _, h9⟩
end Go.Proofs.Ytnhmdaoghcfghaa
