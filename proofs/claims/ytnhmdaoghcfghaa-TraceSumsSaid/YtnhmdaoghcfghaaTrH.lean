/-
  The abstract pool: what befalls one order.
-/
import Derived.Test.YtnhmdaoghcfghaaRows
import Derived.Test.YtnhmdaoghcfghaaKit
import Derived.Test.YtnhmdaoghcfghaaApp
import Derived.Test.YtnhmdaoghcfghaaQuiet
import Derived.Test.YtnhmdaoghcfghaaTrM
import Derived.Test.YtnhmdaoghcfghaaTrS
import Derived.Test.YtnhmdaoghcfghaaTrF
import Derived.Test.YtnhmdaoghcfghaaTrG
import Derived.WalkKit
import Derived.ProofKit
import Derived.OpenShut
import Derived.ShutString
import Derived.Below
import Derived.Outline
import Derived.WalkLawsBesides
import Derived.WalkSpells
import Derived.Handy
import Derived.Deep.QuietTactic
import Derived.BigQuiet
import Derived.RegionTactic
import Derived.ChangeAlike
import Derived.Lib.Hide
import Derived.Laws.Rows
import Derived.Laws.Tables
import Derived.Laws.CopyOwn
import Derived.Laws.MakeOwn
import Derived.Laws.Entries
import Derived.Laws.OwnMore
import Derived.Deep.WholeRow
import Derived.Deep.LoopGhost
import Derived.Deep.AppendLies
import Derived.Deep.Draws
import Derived.Maps.AppendAt
import Derived.OwnWalk
import Derived.Deep.RegionHeld3
import Derived.Deep.Cut
import Derived.Deep.CutRange
import Derived.Deep.DeepCutAuto
import Derived.Deep.CutBlock
import Derived.Lib.SliceRun
import Derived.IntWalk
namespace Go.Proofs.Ytnhmdaoghcfghaa
open Go.ChangeShapes Go.WideShapes Go.ChangeAt Go.RowKit
theorem below_dn {B : Nat} {a w : World} (h : Below B a w) (m : Nat) : Below B a (w.drewN m) := ⟨h.os, h.tape, h.output, h.size, h.block⟩
set_option maxRecDepth 100000 in
set_option maxHeartbeats 2000000 in
theorem spent_is (Fx : Nat → Option Obj → Prop) (w wr : World) (B K : Nat) (p c n b r f g now : Int) (gb cp q : Nat) (os : List Ord) (o : Ord) (h : MS Fx w wr B K p c n b r f g (.slice (some ⟨gb, 0, none⟩) os.length cp) os now) (hq : os[q]? = some o) : Calls Try.prog 35 #[.pointer (some ⟨B, 0, none⟩), .pointer (some ⟨gb, q * 13, none⟩)] wr fun e w' => e = .returned (.int .i64 (spent f o)) ∧ Below wr.heap.size wr w' := by
  have m5 := h.blk.cell 5 _ rfl
  have hBl := h.blk.lt
  have hgl := (h.row.lt gb rfl).2
  have c8 := row_cell h.row hq rfl (j := 8) (by omega) rfl
  have c9 := row_cell h.row hq rfl (j := 9) (by omega) rfl
  clear h hq
  unfold spent
  obtain ⟨oc, og, on, os, op, ol, ou, oq, olf, ofl, oak, ors, oen⟩ := o
  dsimp only at c8 c9 ⊢
  by_cases h0 : olf = 0
  · subst h0
    rw [if_pos rfl]
    go_enter Try.func35, Try.ntmps35
    go_wp2_with fail
    go_ret
    exact ⟨rfl, by go_grown⟩
  · rw [if_neg h0]
    have e0 : (olf == 0) = false := by simpa using h0
    by_cases h1 : f ≤ ofl
    · rw [if_pos h1]
      go_enter Try.func35, Try.ntmps35
      go_wp2_with fail
      go_quiet (fail)
      go_wp2_with fail
      go_ret
      exact ⟨rfl, below_dn (Below.refl _ _) _⟩
    · rw [if_neg h1]
      have e1 : decide (f ≤ ofl) = false := decide_eq_false h1
      go_enter Try.func35, Try.ntmps35
      go_wp2_with fail
      go_quiet (fail)
      go_wp2_with fail
      go_ret
      exact ⟨rfl, below_dn (Below.refl _ _) _⟩
theorem key_of {a b c d : Int} (h : (a == b && c == d) = true) : a = b ∧ c = d := by simpa using h
theorem of_key {a b c d : Int} (h : a = b ∧ c = d) : (a == b && c == d) = true := by simpa using h
/-- Who is live by a key, or why there is none. -/
theorem live_any (Fx : Nat → Option Obj → Prop) (w wr : World) (B K : Nat) (p c n b r f g now : Int) (v : Value) (os : List Ord) (cl gn : Int) (h : MS Fx w wr B K p c n b r f g v os now) (hl : os.length ≤ 1000) (hI : Inv f os) :
    (∃ k : Int, Calls Try.prog 34 #[.pointer (some ⟨B, 0, none⟩), .int .i64 cl, .int .i64 gn] wr fun e w' => e = .returned (.tuple #[.pointer none, .iface 57 (.int .i64 k)]) ∧ Below wr.heap.size wr w') ∨
    (∃ (q : Nat) (o : Ord) (gb cp : Nat), v = .slice (some ⟨gb, 0, none⟩) os.length cp ∧ os[q]? = some o ∧ o.c = cl ∧ o.g = gn ∧ o.en = 0 ∧ Calls Try.prog 34 #[.pointer (some ⟨B, 0, none⟩), .int .i64 cl, .int .i64 gn] wr fun e w' => e = .returned (.tuple #[.pointer (some ⟨gb, q * 13, none⟩), .nilIface]) ∧ Below wr.heap.size wr w') := by
  by_cases hx : ∃ (q : Nat) (o : Ord), os[q]? = some o ∧ (o.c == cl && o.g == gn) = true
  · obtain ⟨q, o, hq, hk⟩ := hx
    obtain ⟨h1, h2⟩ := key_of hk
    have hn : ∀ (t : Nat) (o' : Ord), t < q → os[t]? = some o' → (o'.c == cl && o'.g == gn) = false := fun t o' ht ho => by
      rcases hb : (o'.c == cl && o'.g == gn) with _ | _
      · rfl
      · obtain ⟨h3, h4⟩ := key_of hb
        have := hI.key ho hq (h3.trans h1.symm) (h4.trans h2.symm)
        omega
    by_cases hen : o.en = 0
    · obtain ⟨A, cp, rfl⟩ := own_shape h.row
      obtain ⟨gb, rfl, _, _, _⟩ := h.form (Nat.lt_of_le_of_lt (Nat.zero_le _) (List.getElem?_eq_some_iff.1 hq).1)
      exact .inr ⟨q, o, gb, cp, rfl, hq, h1, h2, hen, live_ok Fx w wr B K p c n b r f g now gb cp os cl gn h hl q o hq hk hn hen⟩
    · exact .inl ⟨29, live_gone Fx w wr B K p c n b r f g now v os cl gn h hl q o hq hk hn hen⟩
  · refine .inl ⟨3, live_none Fx w wr B K p c n b r f g now v os cl gn h hl fun t o ho => ?_⟩
    rcases hb : (o.c == cl && o.g == gn) with _ | _
    · rfl
    · exact absurd ⟨t, o, ho, hb⟩ hx
/-- What an event's function does. -/
def EvIs (Fx : Nat → Option Obj → Prop) (w wr : World) (B K : Nat) (p c n b r f g now : Int) (os : List Ord) (e : Evt) (fn : Nat) : Prop :=
  ∃ (E : Value) (os' : List Ord), (Calls Try.prog fn #[.pointer (some ⟨B, 0, none⟩), .agg #[.int .i64 e.k, .int .i64 e.c, .int .i64 e.g, .int .i64 e.o, .int .i64 e.w, .int .i64 e.n, .int .i64 e.s, .int .i64 e.p, .int .i64 e.l, .int .i64 e.u, .int .i64 e.q, .int .i64 e.pr, .int .i64 e.t, .int .i64 e.en]] wr fun rr w' => rr = .returned E ∧ ∃ v', MS Fx w w' B K p c n b r f g v' os' now) ∧ ((∃ k : Int, E = .iface 57 (.int .i64 k) ∧ os' = os) ∨ (E = .nilIface ∧ Step f os e os'))
set_option maxRecDepth 100000 in
set_option maxHeartbeats 4000000 in
theorem ask_is (Fx : Nat → Option Obj → Prop) (w wr : World) (B K : Nat) (p c n b r f g now : Int) (v : Value) (os : List Ord) (e : Evt) (h : MS Fx w wr B K p c n b r f g v os now) (hl : os.length ≤ 1000) (hI : Inv f os) (hk : e.k = 4) : EvIs Fx w wr B K p c n b r f g now os e 23 := by
  have hg1 : Below wr.heap.size wr (wr.alloc (.cells #[.int .i64 e.k, .int .i64 e.c, .int .i64 e.g, .int .i64 e.o, .int .i64 e.w, .int .i64 e.n, .int .i64 e.s, .int .i64 e.p, .int .i64 e.l, .int .i64 e.u, .int .i64 e.q, .int .i64 e.pr, .int .i64 e.t, .int .i64 e.en] 41)) := by go_grown
  have hM := h.below hg1
  have bE := Bl.new wr [.int .i64 e.k, .int .i64 e.c, .int .i64 e.g, .int .i64 e.o, .int .i64 e.w, .int .i64 e.n, .int .i64 e.s, .int .i64 e.p, .int .i64 e.l, .int .i64 e.u, .int .i64 e.q, .int .i64 e.pr, .int .i64 e.t, .int .i64 e.en] 41
  rcases live_any Fx w (wr.alloc (.cells #[.int .i64 e.k, .int .i64 e.c, .int .i64 e.g, .int .i64 e.o, .int .i64 e.w, .int .i64 e.n, .int .i64 e.s, .int .i64 e.p, .int .i64 e.l, .int .i64 e.u, .int .i64 e.q, .int .i64 e.pr, .int .i64 e.t, .int .i64 e.en] 41)) B K p c n b r f g now v os e.c e.g hM hl hI with ⟨k, HL⟩ | ⟨q, o, gb, cp, rfl, hq, hc, hg, hen, HL⟩
  · refine ⟨.iface 57 (.int .i64 k), os, ?_, .inl ⟨k, rfl, rfl⟩⟩
    have HL := Lib.hid HL
    have HM := Lib.hid hM
    clear h hI hM hg1 bE hk hl
    go_enter Try.func23, Try.ntmps23
    go_wp2_with fail
    refine HL.out.mono ?_
    rintro rr w2 ⟨rfl, hb2⟩
    go_wp2_with fail
    go_ret
    exact ⟨rfl, v, HM.out.below hb2⟩
  · have HL := Lib.hid HL
    have HM := Lib.hid hM
    have hgl := (hM.row.lt gb rfl).2
    have HSP := Lib.hid (fun W (hW : MS Fx w W B K p c n b r f g (.slice (some ⟨gb, 0, none⟩) os.length cp) os now) => spent_is Fx w W B K p c n b r f g now gb cp q os o hW hq)
    have HE := Lib.hid bE
    have HQ := Lib.hid hq
    have hkk : e.k ≠ 1 ∧ e.k ≠ 2 := by omega
    clear h hI hM hg1 bE hk hl hq
    by_cases ha : o.ak = true
    · refine ⟨.iface 57 (.int .i64 1), os, ?_, .inl ⟨1, rfl, rfl⟩⟩
      go_enter Try.func23, Try.ntmps23
      go_wp2_with fail
      refine HL.out.mono ?_
      rintro rr w2 ⟨rfl, hb2⟩
      have HM2 := Lib.hid (HM.out.below hb2)
      have c10 := row_cell HM2.out.row HQ.out rfl (j := 10) (by omega) rfl
      rw [ha] at c10
      clear ha
      go_wp2_with fail
      go_ret
      exact ⟨rfl, _, HM2.out⟩
    · have ha : o.ak = false := by simpa using ha
      refine ⟨.nilIface, os.set q { o with ak := true }, ?_, .inr ⟨rfl, Step.one q o { o with ak := true } hkk HQ.out hen rfl rfl rfl rfl rfl rfl rfl rfl rfl rfl (fun h => by first | exact h | rfl)⟩⟩
      go_enter Try.func23, Try.ntmps23
      go_wp2_with fail
      refine HL.out.mono ?_
      rintro rr w2 ⟨rfl, hb2⟩
      have HM2 := Lib.hid (HM.out.below hb2)
      have c10 := row_cell HM2.out.row HQ.out rfl (j := 10) (by omega) rfl
      rw [ha] at c10
      clear ha
      have fz := row_frz HM2.out.row (q * 13 + 10)
      have HN := Lib.hid (HM2.out.setOrd (o' := { o with ak := true }) (x := .bool true) HQ.out (j := 10) (by omega) rfl)
      go_wp2_with fail
      go_ret
      exact ⟨rfl, _, HN.out⟩
set_option maxRecDepth 100000 in
set_option maxHeartbeats 4000000 in
theorem rest_is (Fx : Nat → Option Obj → Prop) (w wr : World) (B K : Nat) (p c n b r f g now : Int) (v : Value) (os : List Ord) (e : Evt) (h : MS Fx w wr B K p c n b r f g v os now) (hl : os.length ≤ 1000) (hI : Inv f os) (hk : e.k = 6) : EvIs Fx w wr B K p c n b r f g now os e 25 := by
  have hg1 : Below wr.heap.size wr (wr.alloc (.cells #[.int .i64 e.k, .int .i64 e.c, .int .i64 e.g, .int .i64 e.o, .int .i64 e.w, .int .i64 e.n, .int .i64 e.s, .int .i64 e.p, .int .i64 e.l, .int .i64 e.u, .int .i64 e.q, .int .i64 e.pr, .int .i64 e.t, .int .i64 e.en] 41)) := by go_grown
  have hM := h.below hg1
  have bE := Bl.new wr [.int .i64 e.k, .int .i64 e.c, .int .i64 e.g, .int .i64 e.o, .int .i64 e.w, .int .i64 e.n, .int .i64 e.s, .int .i64 e.p, .int .i64 e.l, .int .i64 e.u, .int .i64 e.q, .int .i64 e.pr, .int .i64 e.t, .int .i64 e.en] 41
  rcases live_any Fx w (wr.alloc (.cells #[.int .i64 e.k, .int .i64 e.c, .int .i64 e.g, .int .i64 e.o, .int .i64 e.w, .int .i64 e.n, .int .i64 e.s, .int .i64 e.p, .int .i64 e.l, .int .i64 e.u, .int .i64 e.q, .int .i64 e.pr, .int .i64 e.t, .int .i64 e.en] 41)) B K p c n b r f g now v os e.c e.g hM hl hI with ⟨k, HL⟩ | ⟨q, o, gb, cp, rfl, hq, hc, hg, hen, HL⟩
  · refine ⟨.iface 57 (.int .i64 k), os, ?_, .inl ⟨k, rfl, rfl⟩⟩
    have HL := Lib.hid HL
    have HM := Lib.hid hM
    clear h hI hM hg1 bE hk hl
    go_enter Try.func25, Try.ntmps25
    go_wp2_with fail
    refine HL.out.mono ?_
    rintro rr w2 ⟨rfl, hb2⟩
    go_wp2_with fail
    go_ret
    exact ⟨rfl, v, HM.out.below hb2⟩
  · have HL := Lib.hid HL
    have HM := Lib.hid hM
    have hgl := (hM.row.lt gb rfl).2
    have HSP := Lib.hid (fun W (hW : MS Fx w W B K p c n b r f g (.slice (some ⟨gb, 0, none⟩) os.length cp) os now) => spent_is Fx w W B K p c n b r f g now gb cp q os o hW hq)
    have HE := Lib.hid bE
    have HQ := Lib.hid hq
    have hkk : e.k ≠ 1 ∧ e.k ≠ 2 := by omega
    clear h hI hM hg1 bE hk hl hq
    by_cases ha : o.rs = true
    · refine ⟨.iface 57 (.int .i64 1), os, ?_, .inl ⟨1, rfl, rfl⟩⟩
      go_enter Try.func25, Try.ntmps25
      go_wp2_with fail
      refine HL.out.mono ?_
      rintro rr w2 ⟨rfl, hb2⟩
      have HM2 := Lib.hid (HM.out.below hb2)
      have c11 := row_cell HM2.out.row HQ.out rfl (j := 11) (by omega) rfl
      rw [ha] at c11
      clear ha
      go_wp2_with fail
      go_ret
      exact ⟨rfl, _, HM2.out⟩
    · have ha : o.rs = false := by simpa using ha
      refine ⟨.nilIface, os.set q { o with rs := true }, ?_, .inr ⟨rfl, Step.one q o { o with rs := true } hkk HQ.out hen rfl rfl rfl rfl rfl rfl rfl rfl rfl rfl (fun h => by first | exact h | rfl)⟩⟩
      go_enter Try.func25, Try.ntmps25
      go_wp2_with fail
      refine HL.out.mono ?_
      rintro rr w2 ⟨rfl, hb2⟩
      have HM2 := Lib.hid (HM.out.below hb2)
      have c11 := row_cell HM2.out.row HQ.out rfl (j := 11) (by omega) rfl
      rw [ha] at c11
      clear ha
      have fz := row_frz HM2.out.row (q * 13 + 11)
      have HN := Lib.hid (HM2.out.setOrd (o' := { o with rs := true }) (x := .bool true) HQ.out (j := 11) (by omega) rfl)
      go_wp2_with fail
      go_ret
      exact ⟨rfl, _, HN.out⟩
end Go.Proofs.Ytnhmdaoghcfghaa
