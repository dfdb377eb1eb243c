/-
  The abstract pool: what may happen, happens; one order.
-/
import Derived.Test.YtnhmdaoghcfghaaRows
import Derived.Test.YtnhmdaoghcfghaaKit
import Derived.Test.YtnhmdaoghcfghaaApp
import Derived.Test.YtnhmdaoghcfghaaQuiet
import Derived.Test.YtnhmdaoghcfghaaTrM
import Derived.Test.YtnhmdaoghcfghaaTrS
import Derived.Test.YtnhmdaoghcfghaaTrF
import Derived.Test.YtnhmdaoghcfghaaTrG
import Derived.Test.YtnhmdaoghcfghaaTrH
import Derived.Test.YtnhmdaoghcfghaaTrI
import Derived.Test.YtnhmdaoghcfghaaTrJ
import Derived.Test.YtnhmdaoghcfghaaTrK
import Derived.Test.YtnhmdaoghcfghaaTrL
import Derived.Test.YtnhmdaoghcfghaaTrN
import Derived.Test.YtnhmdaoghcfghaaTrO
import Derived.Test.YtnhmdaoghcfghaaTrP
import Derived.Test.YtnhmdaoghcfghaaTrQ
import Derived.WalkKit
import Derived.ProofKit
import Derived.OpenShut
import Derived.ShutString
import Derived.Below
import Derived.Outline
import Derived.WalkLawsBesides
import Derived.WalkSpells
import Derived.Handy
import Derived.Deep.QuietTactic
import Derived.BigQuiet
import Derived.RegionTactic
import Derived.ChangeAlike
import Derived.Lib.Hide
import Derived.Laws.Rows
import Derived.Laws.Tables
import Derived.Laws.CopyOwn
import Derived.Laws.MakeOwn
import Derived.Laws.Entries
import Derived.Laws.OwnMore
import Derived.Deep.WholeRow
import Derived.Deep.LoopGhost
import Derived.Deep.AppendLies
import Derived.Deep.Draws
import Derived.Maps.AppendAt
import Derived.OwnWalk
import Derived.Deep.RegionHeld3
import Derived.Deep.Cut
import Derived.Deep.CutRange
import Derived.Deep.DeepCutAuto
import Derived.Deep.CutBlock
import Derived.Lib.SliceRun
import Derived.IntWalk
namespace Go.Proofs.Ytnhmdaoghcfghaa
open Go.ChangeShapes Go.WideShapes Go.ChangeAt Go.RowKit
theorem results_cell_tmp {P : Program} {fn : Func} {p q : Tmp} {ty : TypeId} (h : fn.results = #[.cell p ty, .tmp q]) (tmps : Array Value) (w : World) (g : Nat) (t : TypeId) (cs : Array Value) (fr : Nat × Nat) (d : TypeDesc)
    (hp : tmps.getD p undef = .pointer (some ⟨g, 0, none⟩)) (hg : w.heap[g]? = some (.cells cs t fr))
    (hu : P.underlying ty = some d) (hd : (match d with | .struct _ | .array _ _ => true | _ => false) = true) (hi : (P.info? ty).map (·.size) = some cs.size) :
    (results fn tmps).run P w = .ok (.tuple #[.agg cs, tmps.getD q undef]) w := by
  have hp' : tmps[p]?.getD undef = .pointer (some ⟨g, 0, none⟩) := by simpa using hp
  simp [results, h, hp', asAddr, run_loadVar_row w g t ty cs fr d hg hu hd hi]
set_option maxRecDepth 100000 in
set_option maxHeartbeats 4000000 in
theorem happen_submit (Fx : Nat → Option Obj → Prop) (w wr : World) (B K : Nat) (p c n b r f g now : Int) (v : Value) (os os' : List Ord) (e : Evt) (h : MS Fx w wr B K p c n b r f g v os now) (hk : e.k = 1) (hC : ∀ wz, MS Fx w wz B K p c n b r f g v os now → Calls Try.prog 20 #[.pointer (some ⟨B, 0, none⟩), .agg #[.int .i64 e.k, .int .i64 e.c, .int .i64 e.g, .int .i64 e.o, .int .i64 e.w, .int .i64 e.n, .int .i64 e.s, .int .i64 e.p, .int .i64 e.l, .int .i64 e.u, .int .i64 e.q, .int .i64 e.pr, .int .i64 e.t, .int .i64 e.en]] wz fun rr w' => rr = .returned .nilIface ∧ ∃ v', MS Fx w w' B K p c n b r f g v' os' now) : Calls Try.prog 16 #[.pointer (some ⟨B, 0, none⟩), .agg #[.int .i64 e.k, .int .i64 e.c, .int .i64 e.g, .int .i64 e.o, .int .i64 e.w, .int .i64 e.n, .int .i64 e.s, .int .i64 e.p, .int .i64 e.l, .int .i64 e.u, .int .i64 e.q, .int .i64 e.pr, .int .i64 e.t, .int .i64 e.en]] wr fun rr w' => rr = .returned .nilIface ∧ ∃ v', MS Fx w w' B K p c n b r f g v' os' now := by
  have HC := Lib.hid (hC (wr.alloc (.cells #[.int .i64 e.k, .int .i64 e.c, .int .i64 e.g, .int .i64 e.o, .int .i64 e.w, .int .i64 e.n, .int .i64 e.s, .int .i64 e.p, .int .i64 e.l, .int .i64 e.u, .int .i64 e.q, .int .i64 e.pr, .int .i64 e.t, .int .i64 e.en] 41)) (h.below (by go_grown)))
  clear h hC
  obtain ⟨ek, ec, eg, eo, ew, en, es, ep, el, eu, eq, epr, et, een⟩ := e
  dsimp only at *
  subst hk
  go_enter Try.func16, Try.ntmps16
  go_wp2_with fail
  refine HC.out.mono ?_
  rintro rr w2 ⟨rfl, v', hM2⟩
  go_wp2_with fail
  go_ret
  exact ⟨rfl, v', hM2⟩
set_option maxRecDepth 100000 in
set_option maxHeartbeats 4000000 in
theorem happen_fill (Fx : Nat → Option Obj → Prop) (w wr : World) (B K : Nat) (p c n b r f g now : Int) (v : Value) (os os' : List Ord) (e : Evt) (h : MS Fx w wr B K p c n b r f g v os now) (hk : e.k = 2) (hC : ∀ wz, MS Fx w wz B K p c n b r f g v os now → Calls Try.prog 21 #[.pointer (some ⟨B, 0, none⟩), .agg #[.int .i64 e.k, .int .i64 e.c, .int .i64 e.g, .int .i64 e.o, .int .i64 e.w, .int .i64 e.n, .int .i64 e.s, .int .i64 e.p, .int .i64 e.l, .int .i64 e.u, .int .i64 e.q, .int .i64 e.pr, .int .i64 e.t, .int .i64 e.en]] wz fun rr w' => rr = .returned .nilIface ∧ ∃ v', MS Fx w w' B K p c n b r f g v' os' now) : Calls Try.prog 16 #[.pointer (some ⟨B, 0, none⟩), .agg #[.int .i64 e.k, .int .i64 e.c, .int .i64 e.g, .int .i64 e.o, .int .i64 e.w, .int .i64 e.n, .int .i64 e.s, .int .i64 e.p, .int .i64 e.l, .int .i64 e.u, .int .i64 e.q, .int .i64 e.pr, .int .i64 e.t, .int .i64 e.en]] wr fun rr w' => rr = .returned .nilIface ∧ ∃ v', MS Fx w w' B K p c n b r f g v' os' now := by
  have HC := Lib.hid (hC (wr.alloc (.cells #[.int .i64 e.k, .int .i64 e.c, .int .i64 e.g, .int .i64 e.o, .int .i64 e.w, .int .i64 e.n, .int .i64 e.s, .int .i64 e.p, .int .i64 e.l, .int .i64 e.u, .int .i64 e.q, .int .i64 e.pr, .int .i64 e.t, .int .i64 e.en] 41)) (h.below (by go_grown)))
  clear h hC
  obtain ⟨ek, ec, eg, eo, ew, en, es, ep, el, eu, eq, epr, et, een⟩ := e
  dsimp only at *
  subst hk
  go_enter Try.func16, Try.ntmps16
  go_wp2_with fail
  refine HC.out.mono ?_
  rintro rr w2 ⟨rfl, v', hM2⟩
  go_wp2_with fail
  go_ret
  exact ⟨rfl, v', hM2⟩
set_option maxRecDepth 100000 in
set_option maxHeartbeats 8000000 in
theorem do_ok (Fx : Nat → Option Obj → Prop) (w wr : World) (B K : Nat) (p c n b r f g now : Int) (v : Value) (os os' : List Ord) (e : Evt) (h : MS Fx w wr B K p c n b r f g v os now) (ht : ¬ e.t < now) (hC : ∀ (Fy : Nat → Option Obj → Prop) (wz : World), MS Fy w wz B K p c n b r f g v os now → Calls Try.prog 16 #[.pointer (some ⟨B, 0, none⟩), .agg #[.int .i64 e.k, .int .i64 e.c, .int .i64 e.g, .int .i64 e.o, .int .i64 e.w, .int .i64 e.n, .int .i64 e.s, .int .i64 e.p, .int .i64 e.l, .int .i64 e.u, .int .i64 e.q, .int .i64 e.pr, .int .i64 e.t, .int .i64 e.en]] wz fun rr w' => rr = .returned .nilIface ∧ ∃ v', MS Fy w w' B K p c n b r f g v' os' now) : Calls Try.prog 9 #[.pointer (some ⟨B, 0, none⟩), .agg #[.int .i64 e.k, .int .i64 e.c, .int .i64 e.g, .int .i64 e.o, .int .i64 e.w, .int .i64 e.n, .int .i64 e.s, .int .i64 e.p, .int .i64 e.l, .int .i64 e.u, .int .i64 e.q, .int .i64 e.pr, .int .i64 e.t, .int .i64 e.en]] wr fun rr w' => rr = .returned .nilIface ∧ ∃ v', MS Fx w w' B K p c n b r f g v' os' e.t := by
  have hg1 : Below wr.heap.size wr (wr.alloc (.cells #[.int .i64 e.k, .int .i64 e.c, .int .i64 e.g, .int .i64 e.o, .int .i64 e.w, .int .i64 e.n, .int .i64 e.s, .int .i64 e.p, .int .i64 e.l, .int .i64 e.u, .int .i64 e.q, .int .i64 e.pr, .int .i64 e.t, .int .i64 e.en] 41)) := by go_grown
  have hM := h.below hg1
  have bE := Bl.new wr [.int .i64 e.k, .int .i64 e.c, .int .i64 e.g, .int .i64 e.o, .int .i64 e.w, .int .i64 e.n, .int .i64 e.s, .int .i64 e.p, .int .i64 e.l, .int .i64 e.u, .int .i64 e.q, .int .i64 e.pr, .int .i64 e.t, .int .i64 e.en] 41
  have m8 := hM.blk.cell 8 _ rfl
  have e12 := bE.cell 12 _ rfl
  have HE := Lib.hid bE
  have d1 : decide (e.t < now) = false := decide_eq_false ht
  have hMx := hM.more (X := wr.heap.size) (oX := some (.cells #[.int .i64 e.k, .int .i64 e.c, .int .i64 e.g, .int .i64 e.o, .int .i64 e.w, .int .i64 e.n, .int .i64 e.s, .int .i64 e.p, .int .i64 e.l, .int .i64 e.u, .int .i64 e.q, .int .i64 e.pr, .int .i64 e.t, .int .i64 e.en] 41)) (heap_alloc_new wr (.cells #[.int .i64 e.k, .int .i64 e.c, .int .i64 e.g, .int .i64 e.o, .int .i64 e.w, .int .i64 e.n, .int .i64 e.s, .int .i64 e.p, .int .i64 e.l, .int .i64 e.u, .int .i64 e.q, .int .i64 e.pr, .int .i64 e.t, .int .i64 e.en] 41)) (by have := h.blk.lt; omega) (fun he => by have := (h.row.lt _ he).2; omega) (by rw [World.size_alloc]; omega)
  have HMx := Lib.hid hMx
  have HX := Lib.hid (hC (fun k o => Fx k o ∨ (k = wr.heap.size ∧ o = some (.cells #[.int .i64 e.k, .int .i64 e.c, .int .i64 e.g, .int .i64 e.o, .int .i64 e.w, .int .i64 e.n, .int .i64 e.s, .int .i64 e.p, .int .i64 e.l, .int .i64 e.u, .int .i64 e.q, .int .i64 e.pr, .int .i64 e.t, .int .i64 e.en] 41))))
  clear h hM hg1 bE hMx hC ht
  go_enter Try.func9, Try.ntmps9
  go_wp2_with fail
  generalize (wr.alloc (.cells #[.int .i64 e.k, .int .i64 e.c, .int .i64 e.g, .int .i64 e.o, .int .i64 e.w, .int .i64 e.n, .int .i64 e.s, .int .i64 e.p, .int .i64 e.l, .int .i64 e.u, .int .i64 e.q, .int .i64 e.pr, .int .i64 e.t, .int .i64 e.en] 41)) = w1 at *
  generalize wr.heap.size = E0 at *
  go_quiet (fail)
  have hdn := below_dn (Below.refl w1.heap.size w1) nq
  have HM2 := Lib.hid (HMx.out.below hdn)
  have HE2 := Lib.hid (HE.out.below hdn)
  generalize w1.drewN nq = w2 at *
  clear hdn m8 e12
  have HC := Lib.hid (HX.out w2 HM2.out)
  have x0 := HE2.out.cell 0 _ rfl
  have x1 := HE2.out.cell 1 _ rfl
  have x2 := HE2.out.cell 2 _ rfl
  have x3 := HE2.out.cell 3 _ rfl
  have x4 := HE2.out.cell 4 _ rfl
  have x5 := HE2.out.cell 5 _ rfl
  have x6 := HE2.out.cell 6 _ rfl
  have x7 := HE2.out.cell 7 _ rfl
  have x8 := HE2.out.cell 8 _ rfl
  have x9 := HE2.out.cell 9 _ rfl
  have x10 := HE2.out.cell 10 _ rfl
  have x11 := HE2.out.cell 11 _ rfl
  have x12 := HE2.out.cell 12 _ rfl
  have x13 := HE2.out.cell 13 _ rfl
  go_wp2_with fail
  refine HC.out.mono ?_
  rintro rr w3 ⟨rfl, v', hM3⟩
  have bE3 : Bl E0 [.int .i64 e.k, .int .i64 e.c, .int .i64 e.g, .int .i64 e.o, .int .i64 e.w, .int .i64 e.n, .int .i64 e.s, .int .i64 e.p, .int .i64 e.l, .int .i64 e.u, .int .i64 e.q, .int .i64 e.pr, .int .i64 e.t, .int .i64 e.en] w3 := ⟨41, (hM3.fx E0 _ (.inr ⟨rfl, rfl⟩)).1⟩
  have y12 := bE3.cell 12 _ rfl
  have m8 := hM3.blk.cell 8 _ rfl
  have z8 := hM3.blk.frz 8
  have HM4 := Lib.hid ((hM3.weaken (fun k o hk => Or.inl hk)).tick e.t)
  clear hM3 bE3 x0 x1 x2 x3 x4 x5 x6 x7 x8 x9 x10 x11 x12 x13
  go_wp2_with fail
  go_ret
  exact ⟨rfl, v', HM4.out⟩
set_option maxRecDepth 100000 in
set_option maxHeartbeats 4000000 in
theorem order_is (Fx : Nat → Option Obj → Prop) (w wr : World) (B K : Nat) (p c n b r f g now : Int) (v : Value) (os : List Ord) (cl gn : Int) (h : MS Fx w wr B K p c n b r f g v os now) (hl : os.length ≤ 1000) (q : Nat) (o0 : Ord) (hq : os[q]? = some o0) (hq0 : (o0.c == cl && o0.g == gn) = true) (hn : ∀ (t : Nat) (o : Ord), t < q → os[t]? = some o → (o.c == cl && o.g == gn) = false) : Calls Try.prog 10 #[.pointer (some ⟨B, 0, none⟩), .int .i64 cl, .int .i64 gn] wr fun e w' => e = .returned (.tuple #[.agg #[.int .i64 o0.c, .int .i64 o0.g, .int .i64 o0.n, .int .i64 o0.s, .int .i64 o0.p, .int .i64 o0.l, .int .i64 o0.u, .int .i64 o0.q, .int .i64 o0.lf, .int .i64 o0.fl, .bool o0.ak, .bool o0.rs, .int .i64 o0.en], .bool true]) ∧ Below wr.heap.size wr w' := by
  obtain ⟨A, cp, rfl⟩ := own_shape h.row
  have hql : q < os.length := (List.getElem?_eq_some_iff.1 hq).1
  obtain ⟨gb, rfl, _, _, _⟩ := h.form (Nat.lt_of_le_of_lt (Nat.zero_le _) hql)
  have hba := (Below.refl wr.heap.size wr).alloc (Nat.le_refl _) (.cells #[.int .i64 0, .int .i64 0, .int .i64 0, .int .i64 0, .int .i64 0, .int .i64 0, .int .i64 0, .int .i64 0, .int .i64 0, .int .i64 0, .bool false, .bool false, .int .i64 0] 44)
  have HM1 := Lib.hid (h.below hba)
  have HX := Lib.hid (find_some Fx w _ B K p c n b r f g now _ os cl gn HM1.out hl q o0 hq hq0 hn)
  have bR := Bl.new wr [.int .i64 0, .int .i64 0, .int .i64 0, .int .i64 0, .int .i64 0, .int .i64 0, .int .i64 0, .int .i64 0, .int .i64 0, .int .i64 0, .bool false, .bool false, .int .i64 0] 44
  have HR := Lib.hid bR
  have HB := Lib.hid hba
  have HQ := Lib.hid hq
  have q0 : (0 : Int) ≤ (q : Int) := by omega
  have q1 : (q : Int) < (os.length : Int) := by omega
  have q2 : (os.length : Int) ≤ 1000 := by omega
  have n1 : decide ((q : Int) < 0) = false := decide_eq_false (by omega)
  clear h hba bR hq hn hq0
  go_enter Try.func10, Try.ntmps10
  go_wp2_with fail
  refine HX.out.mono ?_
  rintro e w2 ⟨rfl, hb2⟩
  have HM2 := Lib.hid (HM1.out.below hb2)
  have bR2 := HR.out.below hb2
  have g2 := Below.step HB.out hb2
  have b7 := HM2.out.blk.cell 7 _ rfl
  have c0 : w2.cell? ⟨gb, q * 13, none⟩ = some (.int .i64 o0.c) := row_cell HM2.out.row HQ.out rfl (j := 0) (by omega) rfl
  have c1 : w2.cell? ⟨gb, q * 13 + 1, none⟩ = some (.int .i64 o0.g) := row_cell HM2.out.row HQ.out rfl (j := 1) (by omega) rfl
  have c2 : w2.cell? ⟨gb, q * 13 + 2, none⟩ = some (.int .i64 o0.n) := row_cell HM2.out.row HQ.out rfl (j := 2) (by omega) rfl
  have c3 : w2.cell? ⟨gb, q * 13 + 3, none⟩ = some (.int .i64 o0.s) := row_cell HM2.out.row HQ.out rfl (j := 3) (by omega) rfl
  have c4 : w2.cell? ⟨gb, q * 13 + 4, none⟩ = some (.int .i64 o0.p) := row_cell HM2.out.row HQ.out rfl (j := 4) (by omega) rfl
  have c5 : w2.cell? ⟨gb, q * 13 + 5, none⟩ = some (.int .i64 o0.l) := row_cell HM2.out.row HQ.out rfl (j := 5) (by omega) rfl
  have c6 : w2.cell? ⟨gb, q * 13 + 6, none⟩ = some (.int .i64 o0.u) := row_cell HM2.out.row HQ.out rfl (j := 6) (by omega) rfl
  have c7 : w2.cell? ⟨gb, q * 13 + 7, none⟩ = some (.int .i64 o0.q) := row_cell HM2.out.row HQ.out rfl (j := 7) (by omega) rfl
  have c8 : w2.cell? ⟨gb, q * 13 + 8, none⟩ = some (.int .i64 o0.lf) := row_cell HM2.out.row HQ.out rfl (j := 8) (by omega) rfl
  have c9 : w2.cell? ⟨gb, q * 13 + 9, none⟩ = some (.int .i64 o0.fl) := row_cell HM2.out.row HQ.out rfl (j := 9) (by omega) rfl
  have c10 : w2.cell? ⟨gb, q * 13 + 10, none⟩ = some (.bool o0.ak) := row_cell HM2.out.row HQ.out rfl (j := 10) (by omega) rfl
  have c11 : w2.cell? ⟨gb, q * 13 + 11, none⟩ = some (.bool o0.rs) := row_cell HM2.out.row HQ.out rfl (j := 11) (by omega) rfl
  have c12 : w2.cell? ⟨gb, q * 13 + 12, none⟩ = some (.int .i64 o0.en) := row_cell HM2.out.row HQ.out rfl (j := 12) (by omega) rfl
  have y0 := bR2.frz 0
  have r0 := bR2.cell 0 _ rfl
  have y1 := bR2.frz 1
  have r1 := bR2.cell 1 _ rfl
  have y2 := bR2.frz 2
  have r2 := bR2.cell 2 _ rfl
  have y3 := bR2.frz 3
  have r3 := bR2.cell 3 _ rfl
  have y4 := bR2.frz 4
  have r4 := bR2.cell 4 _ rfl
  have y5 := bR2.frz 5
  have r5 := bR2.cell 5 _ rfl
  have y6 := bR2.frz 6
  have r6 := bR2.cell 6 _ rfl
  have y7 := bR2.frz 7
  have r7 := bR2.cell 7 _ rfl
  have y8 := bR2.frz 8
  have r8 := bR2.cell 8 _ rfl
  have y9 := bR2.frz 9
  have r9 := bR2.cell 9 _ rfl
  have y10 := bR2.frz 10
  have r10 := bR2.cell 10 _ rfl
  have y11 := bR2.frz 11
  have r11 := bR2.cell 11 _ rfl
  have y12 := bR2.frz 12
  have r12 := bR2.cell 12 _ rfl
  have HR2 := Lib.hid bR2
  have HG2 := Lib.hid g2
  clear bR2 g2 hb2
  go_wp2_with fail
  obtain ⟨tt, ht⟩ := HR2.out
  have hw := setCells_row tt wr.heap.size (oc o0) [] [.int .i64 0, .int .i64 0, .int .i64 0, .int .i64 0, .int .i64 0, .int .i64 0, .int .i64 0, .int .i64 0, .int .i64 0, .int .i64 0, .bool false, .bool false, .int .i64 0] w2 ht rfl
  have hbb := setCells_below (B := wr.heap.size) HG2.out (Nat.le_refl _) (oc o0) 0
  exact bodyPost_ret (results_cell_tmp rfl _ _ wr.heap.size _ _ (0, 0) _ rfl hw Try.underlying44 rfl (by kernel_rfl)) rfl ⟨rfl, hbb⟩
end Go.Proofs.Ytnhmdaoghcfghaa
