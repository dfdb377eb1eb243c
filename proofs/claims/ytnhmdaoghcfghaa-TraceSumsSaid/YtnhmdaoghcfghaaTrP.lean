/-
  The abstract pool: what happens by an event.
-/
import Derived.Test.YtnhmdaoghcfghaaRows
import Derived.Test.YtnhmdaoghcfghaaKit
import Derived.Test.YtnhmdaoghcfghaaApp
import Derived.Test.YtnhmdaoghcfghaaQuiet
import Derived.Test.YtnhmdaoghcfghaaTrM
import Derived.Test.YtnhmdaoghcfghaaTrS
import Derived.Test.YtnhmdaoghcfghaaTrF
import Derived.Test.YtnhmdaoghcfghaaTrG
import Derived.Test.YtnhmdaoghcfghaaTrH
import Derived.Test.YtnhmdaoghcfghaaTrI
import Derived.Test.YtnhmdaoghcfghaaTrJ
import Derived.Test.YtnhmdaoghcfghaaTrK
import Derived.Test.YtnhmdaoghcfghaaTrL
import Derived.Test.YtnhmdaoghcfghaaTrN
import Derived.Test.YtnhmdaoghcfghaaTrO
import Derived.WalkKit
import Derived.ProofKit
import Derived.OpenShut
import Derived.ShutString
import Derived.Below
import Derived.Outline
import Derived.WalkLawsBesides
import Derived.WalkSpells
import Derived.Handy
import Derived.Deep.QuietTactic
import Derived.BigQuiet
import Derived.RegionTactic
import Derived.ChangeAlike
import Derived.Lib.Hide
import Derived.Laws.Rows
import Derived.Laws.Tables
import Derived.Laws.CopyOwn
import Derived.Laws.MakeOwn
import Derived.Laws.Entries
import Derived.Laws.OwnMore
import Derived.Deep.WholeRow
import Derived.Deep.LoopGhost
import Derived.Deep.AppendLies
import Derived.Deep.Draws
import Derived.Maps.AppendAt
import Derived.OwnWalk
import Derived.Deep.RegionHeld3
import Derived.Deep.Cut
import Derived.Deep.CutRange
import Derived.Deep.DeepCutAuto
import Derived.Deep.CutBlock
import Derived.Lib.SliceRun
import Derived.IntWalk
namespace Go.Proofs.Ytnhmdaoghcfghaa
open Go.ChangeShapes Go.WideShapes Go.ChangeAt Go.RowKit
set_option maxRecDepth 100000 in
set_option maxHeartbeats 8000000 in
theorem happen_is (Fx : Nat → Option Obj → Prop) (w wr : World) (B K : Nat) (p c n b r f g now : Int) (v : Value) (os : List Ord) (e : Evt) (h : MS Fx w wr B K p c n b r f g v os now) (hl : os.length ≤ 900) (hI : Inv f os) (hp : 1 ≤ p ∧ p ≤ 6) (hc : 1 ≤ c ∧ c ≤ 4) (hf : 0 ≤ f ∧ f ≤ 4) (hg15 : g ≤ 15) : EvIs Fx w wr B K p c n b r f g now os e 16 := by
  have hg1 : Below wr.heap.size wr (wr.alloc (.cells #[.int .i64 e.k, .int .i64 e.c, .int .i64 e.g, .int .i64 e.o, .int .i64 e.w, .int .i64 e.n, .int .i64 e.s, .int .i64 e.p, .int .i64 e.l, .int .i64 e.u, .int .i64 e.q, .int .i64 e.pr, .int .i64 e.t, .int .i64 e.en] 41)) := by go_grown
  have hM := h.below hg1
  by_cases k1 : e.k = 1
  · have hk := k1
    obtain ⟨E, os', HC0, hcase⟩ := submit_is Fx w (wr.alloc (.cells #[.int .i64 e.k, .int .i64 e.c, .int .i64 e.g, .int .i64 e.o, .int .i64 e.w, .int .i64 e.n, .int .i64 e.s, .int .i64 e.p, .int .i64 e.l, .int .i64 e.u, .int .i64 e.q, .int .i64 e.pr, .int .i64 e.t, .int .i64 e.en] 41)) B K p c n b r f g now v os e hM (by omega) hI hp hc hf.1 hg15 hk
    refine ⟨E, os', ?_, hcase⟩
    have HC := Lib.hid HC0
    clear h hI hM hg1 hcase HC0 hp hc hf hl
    obtain ⟨ek, ec, eg, eo, ew, en, es, ep, el, eu, eq, epr, et, een⟩ := e
    dsimp only at *
    subst hk
    clear  k1
    go_enter Try.func16, Try.ntmps16
    go_wp2_with fail
    refine HC.out.mono ?_
    rintro rr w2 ⟨rfl, v', hM2⟩
    go_wp2_with fail
    go_ret
    exact ⟨rfl, v', hM2⟩
  by_cases k2 : e.k = 2
  · have hk := k2
    obtain ⟨E, os', HC0, hcase⟩ := fill_is Fx w (wr.alloc (.cells #[.int .i64 e.k, .int .i64 e.c, .int .i64 e.g, .int .i64 e.o, .int .i64 e.w, .int .i64 e.n, .int .i64 e.s, .int .i64 e.p, .int .i64 e.l, .int .i64 e.u, .int .i64 e.q, .int .i64 e.pr, .int .i64 e.t, .int .i64 e.en] 41)) B K p c n b r f g now v os e hM (by omega) hI hp hc hf.2 hk
    refine ⟨E, os', ?_, hcase⟩
    have HC := Lib.hid HC0
    clear h hI hM hg1 hcase HC0 hp hc hf hl
    obtain ⟨ek, ec, eg, eo, ew, en, es, ep, el, eu, eq, epr, et, een⟩ := e
    dsimp only at *
    subst hk
    clear k1 k2
    go_enter Try.func16, Try.ntmps16
    go_wp2_with fail
    refine HC.out.mono ?_
    rintro rr w2 ⟨rfl, v', hM2⟩
    go_wp2_with fail
    go_ret
    exact ⟨rfl, v', hM2⟩
  by_cases k3 : e.k = 3
  · have hk := k3
    obtain ⟨E, os', HC0, hcase⟩ := cancel_is Fx w (wr.alloc (.cells #[.int .i64 e.k, .int .i64 e.c, .int .i64 e.g, .int .i64 e.o, .int .i64 e.w, .int .i64 e.n, .int .i64 e.s, .int .i64 e.p, .int .i64 e.l, .int .i64 e.u, .int .i64 e.q, .int .i64 e.pr, .int .i64 e.t, .int .i64 e.en] 41)) B K p c n b r f g now v os e hM (by omega) hI hk
    refine ⟨E, os', ?_, hcase⟩
    have HC := Lib.hid HC0
    clear h hI hM hg1 hcase HC0 hp hc hf hl
    obtain ⟨ek, ec, eg, eo, ew, en, es, ep, el, eu, eq, epr, et, een⟩ := e
    dsimp only at *
    subst hk
    clear k1 k2 k3
    go_enter Try.func16, Try.ntmps16
    go_wp2_with fail
    refine HC.out.mono ?_
    rintro rr w2 ⟨rfl, v', hM2⟩
    go_wp2_with fail
    go_ret
    exact ⟨rfl, v', hM2⟩
  by_cases k4 : e.k = 4
  · have hk := k4
    obtain ⟨E, os', HC0, hcase⟩ := ask_is Fx w (wr.alloc (.cells #[.int .i64 e.k, .int .i64 e.c, .int .i64 e.g, .int .i64 e.o, .int .i64 e.w, .int .i64 e.n, .int .i64 e.s, .int .i64 e.p, .int .i64 e.l, .int .i64 e.u, .int .i64 e.q, .int .i64 e.pr, .int .i64 e.t, .int .i64 e.en] 41)) B K p c n b r f g now v os e hM (by omega) hI hk
    refine ⟨E, os', ?_, hcase⟩
    have HC := Lib.hid HC0
    clear h hI hM hg1 hcase HC0 hp hc hf hl
    obtain ⟨ek, ec, eg, eo, ew, en, es, ep, el, eu, eq, epr, et, een⟩ := e
    dsimp only at *
    subst hk
    clear k1 k2 k3 k4
    go_enter Try.func16, Try.ntmps16
    go_wp2_with fail
    refine HC.out.mono ?_
    rintro rr w2 ⟨rfl, v', hM2⟩
    go_wp2_with fail
    go_ret
    exact ⟨rfl, v', hM2⟩
  by_cases k5 : e.k = 5
  · have hk := k5
    obtain ⟨E, os', HC0, hcase⟩ := expire_is Fx w (wr.alloc (.cells #[.int .i64 e.k, .int .i64 e.c, .int .i64 e.g, .int .i64 e.o, .int .i64 e.w, .int .i64 e.n, .int .i64 e.s, .int .i64 e.p, .int .i64 e.l, .int .i64 e.u, .int .i64 e.q, .int .i64 e.pr, .int .i64 e.t, .int .i64 e.en] 41)) B K p c n b r f g now v os e hM (by omega) hI hk
    refine ⟨E, os', ?_, hcase⟩
    have HC := Lib.hid HC0
    clear h hI hM hg1 hcase HC0 hp hc hf hl
    obtain ⟨ek, ec, eg, eo, ew, en, es, ep, el, eu, eq, epr, et, een⟩ := e
    dsimp only at *
    subst hk
    clear k1 k2 k3 k4 k5
    go_enter Try.func16, Try.ntmps16
    go_wp2_with fail
    refine HC.out.mono ?_
    rintro rr w2 ⟨rfl, v', hM2⟩
    go_wp2_with fail
    go_ret
    exact ⟨rfl, v', hM2⟩
  by_cases k6 : e.k = 6
  · have hk := k6
    obtain ⟨E, os', HC0, hcase⟩ := rest_is Fx w (wr.alloc (.cells #[.int .i64 e.k, .int .i64 e.c, .int .i64 e.g, .int .i64 e.o, .int .i64 e.w, .int .i64 e.n, .int .i64 e.s, .int .i64 e.p, .int .i64 e.l, .int .i64 e.u, .int .i64 e.q, .int .i64 e.pr, .int .i64 e.t, .int .i64 e.en] 41)) B K p c n b r f g now v os e hM (by omega) hI hk
    refine ⟨E, os', ?_, hcase⟩
    have HC := Lib.hid HC0
    clear h hI hM hg1 hcase HC0 hp hc hf hl
    obtain ⟨ek, ec, eg, eo, ew, en, es, ep, el, eu, eq, epr, et, een⟩ := e
    dsimp only at *
    subst hk
    clear k1 k2 k3 k4 k5 k6
    go_enter Try.func16, Try.ntmps16
    go_wp2_with fail
    refine HC.out.mono ?_
    rintro rr w2 ⟨rfl, v', hM2⟩
    go_wp2_with fail
    go_ret
    exact ⟨rfl, v', hM2⟩
  by_cases k7 : e.k = 7
  · have hk := k7
    obtain ⟨E, os', HC0, hcase⟩ := over_is Fx w (wr.alloc (.cells #[.int .i64 e.k, .int .i64 e.c, .int .i64 e.g, .int .i64 e.o, .int .i64 e.w, .int .i64 e.n, .int .i64 e.s, .int .i64 e.p, .int .i64 e.l, .int .i64 e.u, .int .i64 e.q, .int .i64 e.pr, .int .i64 e.t, .int .i64 e.en] 41)) B K p c n b r f g now v os e hM (by omega) hI hk
    refine ⟨E, os', ?_, hcase⟩
    have HC := Lib.hid HC0
    clear h hI hM hg1 hcase HC0 hp hc hf hl
    obtain ⟨ek, ec, eg, eo, ew, en, es, ep, el, eu, eq, epr, et, een⟩ := e
    dsimp only at *
    subst hk
    clear k1 k2 k3 k4 k5 k6 k7
    go_enter Try.func16, Try.ntmps16
    go_wp2_with fail
    refine HC.out.mono ?_
    rintro rr w2 ⟨rfl, v', hM2⟩
    go_wp2_with fail
    go_ret
    exact ⟨rfl, v', hM2⟩
  refine ⟨.iface 57 (.int .i64 6), os, ?_, .inl ⟨6, rfl, rfl⟩⟩
  have HM := Lib.hid hM
  have n1 : (e.k == 1) = false := by simpa using k1
  have n2 : (e.k == 2) = false := by simpa using k2
  have n3 : (e.k == 3) = false := by simpa using k3
  have n4 : (e.k == 4) = false := by simpa using k4
  have n5 : (e.k == 5) = false := by simpa using k5
  have n6 : (e.k == 6) = false := by simpa using k6
  have n7 : (e.k == 7) = false := by simpa using k7
  clear h hI hM hg1 hp hc hf hl k1 k2 k3 k4 k5 k6 k7
  go_enter Try.func16, Try.ntmps16
  go_wp2_with fail
  go_ret
  exact ⟨rfl, v, HM.out⟩
/-- What Do does. -/
def DoIs (Fx : Nat → Option Obj → Prop) (w wr : World) (B K : Nat) (p c n b r f g : Int) (os : List Ord) (e : Evt) : Prop :=
  Calls Try.prog 9 #[.pointer (some ⟨B, 0, none⟩), .agg #[.int .i64 e.k, .int .i64 e.c, .int .i64 e.g, .int .i64 e.o, .int .i64 e.w, .int .i64 e.n, .int .i64 e.s, .int .i64 e.p, .int .i64 e.l, .int .i64 e.u, .int .i64 e.q, .int .i64 e.pr, .int .i64 e.t, .int .i64 e.en]] wr fun rr w' => ∃ (E : Value) (os' : List Ord) (now' : Int) (v' : Value), rr = .returned E ∧ MS Fx w w' B K p c n b r f g v' os' now' ∧ ((∃ k : Int, E = .iface 57 (.int .i64 k) ∧ os' = os) ∨ (E = .nilIface ∧ Step f os e os'))
set_option maxRecDepth 100000 in
set_option maxHeartbeats 8000000 in
theorem do_is (Fx : Nat → Option Obj → Prop) (w wr : World) (B K : Nat) (p c n b r f g now : Int) (v : Value) (os : List Ord) (e : Evt) (h : MS Fx w wr B K p c n b r f g v os now) (hl : os.length ≤ 900) (hI : Inv f os) (hp : 1 ≤ p ∧ p ≤ 6) (hc : 1 ≤ c ∧ c ≤ 4) (hf : 0 ≤ f ∧ f ≤ 4) (hg15 : g ≤ 15) : DoIs Fx w wr B K p c n b r f g os e := by
  have hg1 : Below wr.heap.size wr (wr.alloc (.cells #[.int .i64 e.k, .int .i64 e.c, .int .i64 e.g, .int .i64 e.o, .int .i64 e.w, .int .i64 e.n, .int .i64 e.s, .int .i64 e.p, .int .i64 e.l, .int .i64 e.u, .int .i64 e.q, .int .i64 e.pr, .int .i64 e.t, .int .i64 e.en] 41)) := by go_grown
  have hM := h.below hg1
  have bE := Bl.new wr [.int .i64 e.k, .int .i64 e.c, .int .i64 e.g, .int .i64 e.o, .int .i64 e.w, .int .i64 e.n, .int .i64 e.s, .int .i64 e.p, .int .i64 e.l, .int .i64 e.u, .int .i64 e.q, .int .i64 e.pr, .int .i64 e.t, .int .i64 e.en] 41
  have m8 := hM.blk.cell 8 _ rfl
  have e12 := bE.cell 12 _ rfl
  have HM := Lib.hid hM
  have HE := Lib.hid bE
  by_cases ht : e.t < now
  · have d1 : decide (e.t < now) = true := decide_eq_true ht
    clear h hI hM hg1 bE hp hc hf hl ht
    unfold DoIs
    go_enter Try.func9, Try.ntmps9
    go_wp2_with fail
    generalize (wr.alloc (.cells #[.int .i64 e.k, .int .i64 e.c, .int .i64 e.g, .int .i64 e.o, .int .i64 e.w, .int .i64 e.n, .int .i64 e.s, .int .i64 e.p, .int .i64 e.l, .int .i64 e.u, .int .i64 e.q, .int .i64 e.pr, .int .i64 e.t, .int .i64 e.en] 41)) = w1 at *
    go_quiet (fail)
    have HM2 := HM.out.below (below_dn (Below.refl w1.heap.size w1) nq)
    go_wp2_with fail
    go_ret
    exact ⟨_, os, now, v, rfl, HM2, .inl ⟨5, rfl, rfl⟩⟩
  · have d1 : decide (e.t < now) = false := decide_eq_false ht
    clear ht
    have hMx := hM.more (X := wr.heap.size) (oX := some (.cells #[.int .i64 e.k, .int .i64 e.c, .int .i64 e.g, .int .i64 e.o, .int .i64 e.w, .int .i64 e.n, .int .i64 e.s, .int .i64 e.p, .int .i64 e.l, .int .i64 e.u, .int .i64 e.q, .int .i64 e.pr, .int .i64 e.t, .int .i64 e.en] 41)) (heap_alloc_new wr (.cells #[.int .i64 e.k, .int .i64 e.c, .int .i64 e.g, .int .i64 e.o, .int .i64 e.w, .int .i64 e.n, .int .i64 e.s, .int .i64 e.p, .int .i64 e.l, .int .i64 e.u, .int .i64 e.q, .int .i64 e.pr, .int .i64 e.t, .int .i64 e.en] 41)) (by have := h.blk.lt; omega) (fun he => by have := (h.row.lt _ he).2; omega) (by rw [World.size_alloc]; omega)
    have HMx := Lib.hid hMx
    have HX := Lib.hid (fun (wz : World) (hz : MS (fun k o => Fx k o ∨ (k = wr.heap.size ∧ o = some (.cells #[.int .i64 e.k, .int .i64 e.c, .int .i64 e.g, .int .i64 e.o, .int .i64 e.w, .int .i64 e.n, .int .i64 e.s, .int .i64 e.p, .int .i64 e.l, .int .i64 e.u, .int .i64 e.q, .int .i64 e.pr, .int .i64 e.t, .int .i64 e.en] 41))) w wz B K p c n b r f g v os now) => happen_is (fun k o => Fx k o ∨ (k = wr.heap.size ∧ o = some (.cells #[.int .i64 e.k, .int .i64 e.c, .int .i64 e.g, .int .i64 e.o, .int .i64 e.w, .int .i64 e.n, .int .i64 e.s, .int .i64 e.p, .int .i64 e.l, .int .i64 e.u, .int .i64 e.q, .int .i64 e.pr, .int .i64 e.t, .int .i64 e.en] 41))) w wz B K p c n b r f g now v os e hz hl hI hp hc hf hg15)
    clear h hI hM hg1 bE hp hc hf hl hMx HM
    unfold DoIs
    go_enter Try.func9, Try.ntmps9
    go_wp2_with fail
    generalize (wr.alloc (.cells #[.int .i64 e.k, .int .i64 e.c, .int .i64 e.g, .int .i64 e.o, .int .i64 e.w, .int .i64 e.n, .int .i64 e.s, .int .i64 e.p, .int .i64 e.l, .int .i64 e.u, .int .i64 e.q, .int .i64 e.pr, .int .i64 e.t, .int .i64 e.en] 41)) = w1 at *
    generalize wr.heap.size = E0 at *
    go_quiet (fail)
    have hdn := below_dn (Below.refl w1.heap.size w1) nq
    have HM2 := Lib.hid (HMx.out.below hdn)
    have HE2 := Lib.hid (HE.out.below hdn)
    generalize w1.drewN nq = w2 at *
    clear hdn m8 e12
    obtain ⟨E, os', HC0, hcase⟩ := HX.out w2 HM2.out
    have HC := Lib.hid HC0
    clear HC0
    have x0 := HE2.out.cell 0 _ rfl
    have x1 := HE2.out.cell 1 _ rfl
    have x2 := HE2.out.cell 2 _ rfl
    have x3 := HE2.out.cell 3 _ rfl
    have x4 := HE2.out.cell 4 _ rfl
    have x5 := HE2.out.cell 5 _ rfl
    have x6 := HE2.out.cell 6 _ rfl
    have x7 := HE2.out.cell 7 _ rfl
    have x8 := HE2.out.cell 8 _ rfl
    have x9 := HE2.out.cell 9 _ rfl
    have x10 := HE2.out.cell 10 _ rfl
    have x11 := HE2.out.cell 11 _ rfl
    have x12 := HE2.out.cell 12 _ rfl
    have x13 := HE2.out.cell 13 _ rfl
    rcases hcase with ⟨k, rfl, rfl⟩ | ⟨rfl, hst⟩
    · go_wp2_with fail
      refine HC.out.mono ?_
      rintro rr w3 ⟨rfl, v', hM3⟩
      have HM3 := Lib.hid (hM3.weaken (fun k o hk => Or.inl hk))
      clear hM3
      go_wp2_with fail
      go_ret
      exact ⟨_, _, _, v', rfl, HM3.out, .inl ⟨k, rfl, rfl⟩⟩
    · have HST := Lib.hid hst
      clear hst
      go_wp2_with fail
      refine HC.out.mono ?_
      rintro rr w3 ⟨rfl, v', hM3⟩
      have bE3 : Bl E0 [.int .i64 e.k, .int .i64 e.c, .int .i64 e.g, .int .i64 e.o, .int .i64 e.w, .int .i64 e.n, .int .i64 e.s, .int .i64 e.p, .int .i64 e.l, .int .i64 e.u, .int .i64 e.q, .int .i64 e.pr, .int .i64 e.t, .int .i64 e.en] w3 := ⟨41, (hM3.fx E0 _ (.inr ⟨rfl, rfl⟩)).1⟩
      have y12 := bE3.cell 12 _ rfl
      have m8 := hM3.blk.cell 8 _ rfl
      have z8 := hM3.blk.frz 8
      have HM4 := Lib.hid ((hM3.weaken (fun k o hk => Or.inl hk)).tick e.t)
      clear hM3 bE3 x0 x1 x2 x3 x4 x5 x6 x7 x8 x9 x10 x11 x12 x13
      go_wp2_with fail
      go_ret
      exact ⟨_, _, _, v', rfl, HM4.out, .inr ⟨rfl, HST.out⟩⟩
end Go.Proofs.Ytnhmdaoghcfghaa
