/-
  The abstract pool: cancelled, expired, over.
-/
import Derived.Test.YtnhmdaoghcfghaaRows
import Derived.Test.YtnhmdaoghcfghaaKit
import Derived.Test.YtnhmdaoghcfghaaApp
import Derived.Test.YtnhmdaoghcfghaaQuiet
import Derived.Test.YtnhmdaoghcfghaaTrM
import Derived.Test.YtnhmdaoghcfghaaTrS
import Derived.Test.YtnhmdaoghcfghaaTrF
import Derived.Test.YtnhmdaoghcfghaaTrG
import Derived.Test.YtnhmdaoghcfghaaTrH
import Derived.WalkKit
import Derived.ProofKit
import Derived.OpenShut
import Derived.ShutString
import Derived.Below
import Derived.Outline
import Derived.WalkLawsBesides
import Derived.WalkSpells
import Derived.Handy
import Derived.Deep.QuietTactic
import Derived.BigQuiet
import Derived.RegionTactic
import Derived.ChangeAlike
import Derived.Lib.Hide
import Derived.Laws.Rows
import Derived.Laws.Tables
import Derived.Laws.CopyOwn
import Derived.Laws.MakeOwn
import Derived.Laws.Entries
import Derived.Laws.OwnMore
import Derived.Deep.WholeRow
import Derived.Deep.LoopGhost
import Derived.Deep.AppendLies
import Derived.Deep.Draws
import Derived.Maps.AppendAt
import Derived.OwnWalk
import Derived.Deep.RegionHeld3
import Derived.Deep.Cut
import Derived.Deep.CutRange
import Derived.Deep.DeepCutAuto
import Derived.Deep.CutBlock
import Derived.Lib.SliceRun
import Derived.IntWalk
namespace Go.Proofs.Ytnhmdaoghcfghaa
open Go.ChangeShapes Go.WideShapes Go.ChangeAt Go.RowKit
set_option maxRecDepth 100000 in
set_option maxHeartbeats 4000000 in
theorem cancel_is (Fx : Nat → Option Obj → Prop) (w wr : World) (B K : Nat) (p c n b r f g now : Int) (v : Value) (os : List Ord) (e : Evt) (h : MS Fx w wr B K p c n b r f g v os now) (hl : os.length ≤ 1000) (hI : Inv f os) (hk : e.k = 3) : EvIs Fx w wr B K p c n b r f g now os e 22 := by
  have hg1 : Below wr.heap.size wr (wr.alloc (.cells #[.int .i64 e.k, .int .i64 e.c, .int .i64 e.g, .int .i64 e.o, .int .i64 e.w, .int .i64 e.n, .int .i64 e.s, .int .i64 e.p, .int .i64 e.l, .int .i64 e.u, .int .i64 e.q, .int .i64 e.pr, .int .i64 e.t, .int .i64 e.en] 41)) := by go_grown
  have hM := h.below hg1
  have bE := Bl.new wr [.int .i64 e.k, .int .i64 e.c, .int .i64 e.g, .int .i64 e.o, .int .i64 e.w, .int .i64 e.n, .int .i64 e.s, .int .i64 e.p, .int .i64 e.l, .int .i64 e.u, .int .i64 e.q, .int .i64 e.pr, .int .i64 e.t, .int .i64 e.en] 41
  rcases live_any Fx w (wr.alloc (.cells #[.int .i64 e.k, .int .i64 e.c, .int .i64 e.g, .int .i64 e.o, .int .i64 e.w, .int .i64 e.n, .int .i64 e.s, .int .i64 e.p, .int .i64 e.l, .int .i64 e.u, .int .i64 e.q, .int .i64 e.pr, .int .i64 e.t, .int .i64 e.en] 41)) B K p c n b r f g now v os e.c e.g hM hl hI with ⟨k, HL⟩ | ⟨q, o, gb, cp, rfl, hq, hc, hg, hen, HL⟩
  · refine ⟨.iface 57 (.int .i64 k), os, ?_, .inl ⟨k, rfl, rfl⟩⟩
    have HL := Lib.hid HL
    have HM := Lib.hid hM
    clear h hI hM hg1 bE hk hl
    go_enter Try.func22, Try.ntmps22
    go_wp2_with fail
    refine HL.out.mono ?_
    rintro rr w2 ⟨rfl, hb2⟩
    go_wp2_with fail
    go_ret
    exact ⟨rfl, v, HM.out.below hb2⟩
  · have HL := Lib.hid HL
    have HM := Lib.hid hM
    have hgl := (hM.row.lt gb rfl).2
    have HSP := Lib.hid (fun W (hW : MS Fx w W B K p c n b r f g (.slice (some ⟨gb, 0, none⟩) os.length cp) os now) => spent_is Fx w W B K p c n b r f g now gb cp q os o hW hq)
    have HE := Lib.hid bE
    have HQ := Lib.hid hq
    have hkk : e.k ≠ 1 ∧ e.k ≠ 2 := by omega
    clear h hI hM hg1 bE hk hl hq
    by_cases hs : spent f o = 0
    · rw [hs] at HSP
      by_cases ha : o.ak = true
      · refine ⟨.iface 57 (.int .i64 29), os, ?_, .inl ⟨29, rfl, rfl⟩⟩
        go_enter Try.func22, Try.ntmps22
        go_wp2_with fail
        refine HL.out.mono ?_
        rintro rr w2 ⟨rfl, hb2⟩
        have HM2 := Lib.hid (HM.out.below hb2)
        go_wp2_with fail
        refine (HSP.out _ HM2.out).mono ?_
        rintro rr w3 ⟨rfl, hb3⟩
        have HM3 := Lib.hid (HM2.out.below hb3)
        have c10 := row_cell HM3.out.row HQ.out rfl (j := 10) (by omega) rfl
        rw [ha] at c10
        clear ha
        go_wp2_with fail
        go_ret
        exact ⟨rfl, _, HM3.out⟩
      · have ha : o.ak = false := by simpa using ha
        refine ⟨.nilIface, os.set q { o with en := 6 }, ?_, .inr ⟨rfl, Step.one q o { o with en := 6 } hkk HQ.out hen rfl rfl rfl rfl rfl rfl rfl rfl rfl rfl (fun h => by first | exact h | rfl)⟩⟩
        go_enter Try.func22, Try.ntmps22
        go_wp2_with fail
        refine HL.out.mono ?_
        rintro rr w2 ⟨rfl, hb2⟩
        have HM2 := Lib.hid (HM.out.below hb2)
        go_wp2_with fail
        refine (HSP.out _ HM2.out).mono ?_
        rintro rr w3 ⟨rfl, hb3⟩
        have HM3 := Lib.hid (HM2.out.below hb3)
        have c10 := row_cell HM3.out.row HQ.out rfl (j := 10) (by omega) rfl
        have c12 := row_cell HM3.out.row HQ.out rfl (j := 12) (by omega) rfl
        rw [ha] at c10
        clear ha
        have fz := row_frz HM3.out.row (q * 13 + 12)
        have HN := Lib.hid (HM3.out.setOrd (o' := { o with en := 6 }) (x := .int .i64 6) HQ.out (j := 12) (by omega) rfl)
        go_wp2_with fail
        go_ret
        exact ⟨rfl, _, HN.out⟩
    · have hs1 : (spent f o != 0) = true := by simpa using hs
      generalize spent f o = sp at *
      clear hs
      refine ⟨.iface 57 (.int .i64 29), os, ?_, .inl ⟨29, rfl, rfl⟩⟩
      go_enter Try.func22, Try.ntmps22
      go_wp2_with fail
      refine HL.out.mono ?_
      rintro rr w2 ⟨rfl, hb2⟩
      have HM2 := Lib.hid (HM.out.below hb2)
      go_wp2_with fail
      refine (HSP.out _ HM2.out).mono ?_
      rintro rr w3 ⟨rfl, hb3⟩
      have HM3 := Lib.hid (HM2.out.below hb3)
      go_wp2_with fail
      go_ret
      exact ⟨rfl, _, HM3.out⟩
set_option maxRecDepth 100000 in
set_option maxHeartbeats 4000000 in
theorem over_is (Fx : Nat → Option Obj → Prop) (w wr : World) (B K : Nat) (p c n b r f g now : Int) (v : Value) (os : List Ord) (e : Evt) (h : MS Fx w wr B K p c n b r f g v os now) (hl : os.length ≤ 1000) (hI : Inv f os) (hk : e.k = 7) : EvIs Fx w wr B K p c n b r f g now os e 26 := by
  have hg1 : Below wr.heap.size wr (wr.alloc (.cells #[.int .i64 e.k, .int .i64 e.c, .int .i64 e.g, .int .i64 e.o, .int .i64 e.w, .int .i64 e.n, .int .i64 e.s, .int .i64 e.p, .int .i64 e.l, .int .i64 e.u, .int .i64 e.q, .int .i64 e.pr, .int .i64 e.t, .int .i64 e.en] 41)) := by go_grown
  have hM := h.below hg1
  have bE := Bl.new wr [.int .i64 e.k, .int .i64 e.c, .int .i64 e.g, .int .i64 e.o, .int .i64 e.w, .int .i64 e.n, .int .i64 e.s, .int .i64 e.p, .int .i64 e.l, .int .i64 e.u, .int .i64 e.q, .int .i64 e.pr, .int .i64 e.t, .int .i64 e.en] 41
  rcases live_any Fx w (wr.alloc (.cells #[.int .i64 e.k, .int .i64 e.c, .int .i64 e.g, .int .i64 e.o, .int .i64 e.w, .int .i64 e.n, .int .i64 e.s, .int .i64 e.p, .int .i64 e.l, .int .i64 e.u, .int .i64 e.q, .int .i64 e.pr, .int .i64 e.t, .int .i64 e.en] 41)) B K p c n b r f g now v os e.c e.g hM hl hI with ⟨k, HL⟩ | ⟨q, o, gb, cp, rfl, hq, hc, hg, hen, HL⟩
  · refine ⟨.iface 57 (.int .i64 k), os, ?_, .inl ⟨k, rfl, rfl⟩⟩
    have HL := Lib.hid HL
    have HM := Lib.hid hM
    clear h hI hM hg1 bE hk hl
    go_enter Try.func26, Try.ntmps26
    go_wp2_with fail
    refine HL.out.mono ?_
    rintro rr w2 ⟨rfl, hb2⟩
    go_wp2_with fail
    go_ret
    exact ⟨rfl, v, HM.out.below hb2⟩
  · have HL := Lib.hid HL
    have HM := Lib.hid hM
    have hgl := (hM.row.lt gb rfl).2
    have HSP := Lib.hid (fun W (hW : MS Fx w W B K p c n b r f g (.slice (some ⟨gb, 0, none⟩) os.length cp) os now) => spent_is Fx w W B K p c n b r f g now gb cp q os o hW hq)
    have HE := Lib.hid bE
    have HQ := Lib.hid hq
    have hkk : e.k ≠ 1 ∧ e.k ≠ 2 := by omega
    clear h hI hM hg1 bE hk hl hq
    by_cases hs : spent f o = 0
    · rw [hs] at HSP
      by_cases ha : o.ak = true
      · by_cases he : e.en = 6
        · have HE6 := Lib.hid he
          clear he
          refine ⟨.nilIface, os.set q { o with en := 6 }, ?_, .inr ⟨rfl, Step.one q o { o with en := 6 } hkk HQ.out hen rfl rfl rfl rfl rfl rfl rfl rfl rfl rfl (fun h => by first | exact h | rfl)⟩⟩
          go_enter Try.func26, Try.ntmps26
          go_wp2_with fail
          refine HL.out.mono ?_
          rintro rr w2 ⟨rfl, hb2⟩
          have HM2 := Lib.hid (HM.out.below hb2)
          go_wp2_with fail
          refine (HSP.out _ HM2.out).mono ?_
          rintro rr w3 ⟨rfl, hb3⟩
          have HM3 := Lib.hid (HM2.out.below hb3)
          have be := (HE.out.below hb2).below hb3
          have d13 := be.cell 13 _ rfl
          rw [HE6.out] at d13
          have c10 := row_cell HM3.out.row HQ.out rfl (j := 10) (by omega) rfl
          have c12 := row_cell HM3.out.row HQ.out rfl (j := 12) (by omega) rfl
          rw [ha] at c10
          clear ha
          have fz := row_frz HM3.out.row (q * 13 + 12)
          have HN := Lib.hid (HM3.out.setOrd (o' := { o with en := 6 }) (x := .int .i64 6) HQ.out (j := 12) (by omega) rfl)
          go_wp2_with fail
          go_ret
          exact ⟨rfl, _, HN.out⟩
        · have he1 : (e.en != 6) = true := by simpa using he
          refine ⟨.iface 57 (.int .i64 1), os, ?_, .inl ⟨1, rfl, rfl⟩⟩
          go_enter Try.func26, Try.ntmps26
          go_wp2_with fail
          refine HL.out.mono ?_
          rintro rr w2 ⟨rfl, hb2⟩
          have HM2 := Lib.hid (HM.out.below hb2)
          go_wp2_with fail
          refine (HSP.out _ HM2.out).mono ?_
          rintro rr w3 ⟨rfl, hb3⟩
          have HM3 := Lib.hid (HM2.out.below hb3)
          have be := (HE.out.below hb2).below hb3
          have d13 := be.cell 13 _ rfl
          have c10 := row_cell HM3.out.row HQ.out rfl (j := 10) (by omega) rfl
          rw [ha] at c10
          clear ha
          go_wp2_with fail
          go_ret
          exact ⟨rfl, _, HM3.out⟩
      · have ha : o.ak = false := by simpa using ha
        refine ⟨.iface 57 (.int .i64 1), os, ?_, .inl ⟨1, rfl, rfl⟩⟩
        go_enter Try.func26, Try.ntmps26
        go_wp2_with fail
        refine HL.out.mono ?_
        rintro rr w2 ⟨rfl, hb2⟩
        have HM2 := Lib.hid (HM.out.below hb2)
        go_wp2_with fail
        refine (HSP.out _ HM2.out).mono ?_
        rintro rr w3 ⟨rfl, hb3⟩
        have HM3 := Lib.hid (HM2.out.below hb3)
        have c10 := row_cell HM3.out.row HQ.out rfl (j := 10) (by omega) rfl
        rw [ha] at c10
        clear ha
        go_wp2_with fail
        go_ret
        exact ⟨rfl, _, HM3.out⟩
    · have hs1 : (spent f o == 0) = false := by simpa using hs
      generalize spent f o = sp at *
      clear hs
      by_cases he : e.en = sp
      · have HE6 := Lib.hid he
        clear he
        refine ⟨.nilIface, os.set q { o with en := sp }, ?_, .inr ⟨rfl, Step.one q o { o with en := sp } hkk HQ.out hen rfl rfl rfl rfl rfl rfl rfl rfl rfl rfl (fun h => by first | exact h | rfl)⟩⟩
        go_enter Try.func26, Try.ntmps26
        go_wp2_with fail
        refine HL.out.mono ?_
        rintro rr w2 ⟨rfl, hb2⟩
        have HM2 := Lib.hid (HM.out.below hb2)
        go_wp2_with fail
        refine (HSP.out _ HM2.out).mono ?_
        rintro rr w3 ⟨rfl, hb3⟩
        have HM3 := Lib.hid (HM2.out.below hb3)
        have be := (HE.out.below hb2).below hb3
        have d13 := be.cell 13 _ rfl
        rw [HE6.out] at d13
        have e3 : (sp != sp) = false := by simp
        have c12 := row_cell HM3.out.row HQ.out rfl (j := 12) (by omega) rfl
        have fz := row_frz HM3.out.row (q * 13 + 12)
        have HN := Lib.hid (HM3.out.setOrd (o' := { o with en := sp }) (x := .int .i64 sp) HQ.out (j := 12) (by omega) rfl)
        go_wp2_with fail
        go_ret
        exact ⟨rfl, _, HN.out⟩
      · have he1 : (e.en != sp) = true := by simpa using he
        refine ⟨.iface 57 (.int .i64 1), os, ?_, .inl ⟨1, rfl, rfl⟩⟩
        go_enter Try.func26, Try.ntmps26
        go_wp2_with fail
        refine HL.out.mono ?_
        rintro rr w2 ⟨rfl, hb2⟩
        have HM2 := Lib.hid (HM.out.below hb2)
        go_wp2_with fail
        refine (HSP.out _ HM2.out).mono ?_
        rintro rr w3 ⟨rfl, hb3⟩
        have HM3 := Lib.hid (HM2.out.below hb3)
        have be := (HE.out.below hb2).below hb3
        have d13 := be.cell 13 _ rfl
        go_wp2_with fail
        go_ret
        exact ⟨rfl, _, HM3.out⟩
set_option maxRecDepth 100000 in
set_option maxHeartbeats 4000000 in
theorem expire_is (Fx : Nat → Option Obj → Prop) (w wr : World) (B K : Nat) (p c n b r f g now : Int) (v : Value) (os : List Ord) (e : Evt) (h : MS Fx w wr B K p c n b r f g v os now) (hl : os.length ≤ 1000) (hI : Inv f os) (hk : e.k = 5) : EvIs Fx w wr B K p c n b r f g now os e 24 := by
  have hg1 : Below wr.heap.size wr (wr.alloc (.cells #[.int .i64 e.k, .int .i64 e.c, .int .i64 e.g, .int .i64 e.o, .int .i64 e.w, .int .i64 e.n, .int .i64 e.s, .int .i64 e.p, .int .i64 e.l, .int .i64 e.u, .int .i64 e.q, .int .i64 e.pr, .int .i64 e.t, .int .i64 e.en] 41)) := by go_grown
  have hM := h.below hg1
  have bE := Bl.new wr [.int .i64 e.k, .int .i64 e.c, .int .i64 e.g, .int .i64 e.o, .int .i64 e.w, .int .i64 e.n, .int .i64 e.s, .int .i64 e.p, .int .i64 e.l, .int .i64 e.u, .int .i64 e.q, .int .i64 e.pr, .int .i64 e.t, .int .i64 e.en] 41
  rcases live_any Fx w (wr.alloc (.cells #[.int .i64 e.k, .int .i64 e.c, .int .i64 e.g, .int .i64 e.o, .int .i64 e.w, .int .i64 e.n, .int .i64 e.s, .int .i64 e.p, .int .i64 e.l, .int .i64 e.u, .int .i64 e.q, .int .i64 e.pr, .int .i64 e.t, .int .i64 e.en] 41)) B K p c n b r f g now v os e.c e.g hM hl hI with ⟨k, HL⟩ | ⟨q, o, gb, cp, rfl, hq, hc, hg, hen, HL⟩
  · refine ⟨.iface 57 (.int .i64 k), os, ?_, .inl ⟨k, rfl, rfl⟩⟩
    have HL := Lib.hid HL
    have HM := Lib.hid hM
    clear h hI hM hg1 bE hk hl
    go_enter Try.func24, Try.ntmps24
    go_wp2_with fail
    refine HL.out.mono ?_
    rintro rr w2 ⟨rfl, hb2⟩
    go_wp2_with fail
    go_ret
    exact ⟨rfl, v, HM.out.below hb2⟩
  · have HL := Lib.hid HL
    have HM := Lib.hid hM
    have hgl := (hM.row.lt gb rfl).2
    have HSP := Lib.hid (fun W (hW : MS Fx w W B K p c n b r f g (.slice (some ⟨gb, 0, none⟩) os.length cp) os now) => spent_is Fx w W B K p c n b r f g now gb cp q os o hW hq)
    have HE := Lib.hid bE
    have HQ := Lib.hid hq
    have hkk : e.k ≠ 1 ∧ e.k ≠ 2 := by omega
    clear h hI hM hg1 bE hk hl hq
    by_cases ht : e.t < o.u
    · have d1 : decide (e.t < o.u) = true := decide_eq_true ht
      clear ht
      refine ⟨.iface 57 (.int .i64 26), os, ?_, .inl ⟨26, rfl, rfl⟩⟩
      go_enter Try.func24, Try.ntmps24
      go_wp2_with fail
      refine HL.out.mono ?_
      rintro rr w2 ⟨rfl, hb2⟩
      have HM2 := Lib.hid (HM.out.below hb2)
      have be := HE.out.below hb2
      have d12 := be.cell 12 _ rfl
      have c6 := row_cell HM2.out.row HQ.out rfl (j := 6) (by omega) rfl
      go_wp2_with fail
      go_quiet (fail)
      go_wp2_with fail
      go_ret
      exact ⟨rfl, _, HM2.out.below (below_dn (Below.refl w2.heap.size w2) nq)⟩
    · have d1 : decide (e.t < o.u) = false := decide_eq_false ht
      clear ht
      by_cases hs : spent f o = 0
      · rw [hs] at HSP
        by_cases ha : o.ak = true
        · refine ⟨.iface 57 (.int .i64 26), os, ?_, .inl ⟨26, rfl, rfl⟩⟩
          go_enter Try.func24, Try.ntmps24
          go_wp2_with fail
          refine HL.out.mono ?_
          rintro rr w2 ⟨rfl, hb2⟩
          have HM2 := Lib.hid (HM.out.below hb2)
          go_wp2_with fail
          have hdr2 : Below w2.heap.size w2 w2.drew := Below.drew (Below.refl _ _)
          have HMd := Lib.hid (HM2.out.below hdr2)
          have be := (HE.out.below hb2).below hdr2
          have d12 := be.cell 12 _ rfl
          have c6 := row_cell HMd.out.row HQ.out rfl (j := 6) (by omega) rfl
          have c10 := row_cell HMd.out.row HQ.out rfl (j := 10) (by omega) rfl
          rw [ha] at c10
          have hS := And.intro d12 (And.intro c6 c10)
          first | go_region_held3 (fun w' => w'.cell? ⟨wr.heap.size, 12, none⟩ = some (.int .i64 e.t) ∧ w'.cell? ⟨gb, q * 13 + 6, none⟩ = some (.int .i64 o.u) ∧ w'.cell? ⟨gb, q * 13 + 10, none⟩ = some (.bool true)) (first | with_reducible exact hS | fail) (first | (go_at_call 35; (with_reducible refine (HSP.out _ HMd.out).mono ?_); rintro rr w3 ⟨rfl, hb3⟩; have HMe := Lib.hid (HMd.out.below hb3); have be := be.below hb3; have hS := And.intro (be.cell 12 _ rfl) (And.intro (row_cell HMe.out.row HQ.out rfl (j := 6) (by omega) rfl) (by have h := row_cell HMe.out.row HQ.out rfl (j := 10) (by omega) rfl; rw [ha] at h; exact h)); clear hb3) | fail) | fail
          all_goals (go_wp2_with fail; go_ret; exact ⟨rfl, _, HMe.out⟩)
        · have ha : o.ak = false := by simpa using ha
          refine ⟨.nilIface, os.set q { o with en := 7 }, ?_, .inr ⟨rfl, Step.one q o { o with en := 7 } hkk HQ.out hen rfl rfl rfl rfl rfl rfl rfl rfl rfl rfl (fun h => by first | exact h | rfl)⟩⟩
          go_enter Try.func24, Try.ntmps24
          go_wp2_with fail
          refine HL.out.mono ?_
          rintro rr w2 ⟨rfl, hb2⟩
          have HM2 := Lib.hid (HM.out.below hb2)
          go_wp2_with fail
          have hdr2 : Below w2.heap.size w2 w2.drew := Below.drew (Below.refl _ _)
          have HMd := Lib.hid (HM2.out.below hdr2)
          have be := (HE.out.below hb2).below hdr2
          have d12 := be.cell 12 _ rfl
          have c6 := row_cell HMd.out.row HQ.out rfl (j := 6) (by omega) rfl
          have c10 := row_cell HMd.out.row HQ.out rfl (j := 10) (by omega) rfl
          rw [ha] at c10
          have hS := And.intro d12 (And.intro c6 c10)
          first | go_region_held3 (fun w' => w'.cell? ⟨wr.heap.size, 12, none⟩ = some (.int .i64 e.t) ∧ w'.cell? ⟨gb, q * 13 + 6, none⟩ = some (.int .i64 o.u) ∧ w'.cell? ⟨gb, q * 13 + 10, none⟩ = some (.bool false)) (first | with_reducible exact hS | fail) (first | (go_at_call 35; (with_reducible refine (HSP.out _ HMd.out).mono ?_); rintro rr w3 ⟨rfl, hb3⟩; have HMe := Lib.hid (HMd.out.below hb3); have be := be.below hb3; have hS := And.intro (be.cell 12 _ rfl) (And.intro (row_cell HMe.out.row HQ.out rfl (j := 6) (by omega) rfl) (by have h := row_cell HMe.out.row HQ.out rfl (j := 10) (by omega) rfl; rw [ha] at h; exact h)); clear hb3) | fail) | fail
          all_goals (have c12 := row_cell HMe.out.row HQ.out rfl (j := 12) (by omega) rfl; have fz := row_frz HMe.out.row (q * 13 + 12); have HN := Lib.hid (HMe.out.setOrd (o' := { o with en := 7 }) (x := .int .i64 7) HQ.out (j := 12) (by omega) rfl); go_wp2_with fail; go_ret; exact ⟨rfl, _, HN.out⟩)
      · have hs1 : (spent f o != 0) = true := by simpa using hs
        generalize spent f o = sp at *
        clear hs
        refine ⟨.iface 57 (.int .i64 26), os, ?_, .inl ⟨26, rfl, rfl⟩⟩
        go_enter Try.func24, Try.ntmps24
        go_wp2_with fail
        refine HL.out.mono ?_
        rintro rr w2 ⟨rfl, hb2⟩
        have HM2 := Lib.hid (HM.out.below hb2)
        have HE2 := Lib.hid (HE.out.below hb2)
        clear hb2
        go_wp2_with fail
        refine region_sc (by kernel_rfl) (by kernel_rfl) ?_
        iterate 1 (first | go_big_quiet_skip | (go_big_quiet_want; go_big_quiet_op; first | go_big_quiet_on | (refine ⟨_, fun _ _ => rfl, ?_⟩; go_big_quiet_on)))
        go_big_quiet_want
        refine ⟨.int .i64 e.t, fun wq hq => ?_, ?_⟩
        · have h0 := (HE2.out.below hq).cell 12 _ rfl
          unfold Oper.quietAt
          simp [go_sem, h0, Oper.quietUpon]
        simp only [Act.put, List.setIfInBounds_toArray, List.set_cons_zero, List.set_cons_succ]
        go_big_quiet_on
        iterate 4 (first | go_big_quiet_skip | (go_big_quiet_want; go_big_quiet_op; first | go_big_quiet_on | (refine ⟨_, fun _ _ => rfl, ?_⟩; go_big_quiet_on)))
        go_big_quiet_want
        refine ⟨.int .i64 o.u, fun wq hq => ?_, ?_⟩
        · have h0 := row_cell (HM2.out.below hq).row HQ.out rfl (j := 6) (by omega) rfl
          unfold Oper.quietAt
          simp [go_sem, h0, Oper.quietUpon]
        simp only [Act.put, List.setIfInBounds_toArray, List.set_cons_zero, List.set_cons_succ]
        go_big_quiet_on
        iterate 4 (first | go_big_quiet_skip | (go_big_quiet_want; go_big_quiet_op; first | go_big_quiet_on | (refine ⟨_, fun _ _ => rfl, ?_⟩; go_big_quiet_on)))
        go_big_quiet_want
        go_big_quiet_op
        refine ⟨.int .i64 sp, fun wq hq => (HSP.out wq (HM2.out.below hq)).mono fun _ _ ⟨h1, h2⟩ => ⟨h1, Below.step hq h2⟩, ?_⟩
        go_big_quiet_on
        iterate 8 (first | go_big_quiet_skip | (go_big_quiet_want; go_big_quiet_op; first | go_big_quiet_on | (refine ⟨_, fun _ _ => rfl, ?_⟩; go_big_quiet_on)))
        refine wpQuiet_nil ?_
        intro w4 hS4
        go_wp2_with fail
        go_ret
        exact ⟨rfl, _, HM2.out.below hS4⟩
end Go.Proofs.Ytnhmdaoghcfghaa
