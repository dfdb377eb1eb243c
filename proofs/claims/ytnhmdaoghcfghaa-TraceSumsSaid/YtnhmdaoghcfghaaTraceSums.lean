/-
  Of each order what is left and what it was filled by come to what it was, behind any events; what is over stays as it is.
-/
import Derived.Test.YtnhmdaoghcfghaaRows
import Derived.Test.YtnhmdaoghcfghaaKit
import Derived.Test.YtnhmdaoghcfghaaTrWf
import Derived.Test.YtnhmdaoghcfghaaTraceSumsW
namespace Go.Proofs.Ytnhmdaoghcfghaa.traceSums
open Go.ChangeShapes Go.WideShapes Go.ChangeAt Go.RowKit
open Go.ChangeMaps (open_string shut_string)

theorem own : ownKnob Try.prog.godebug = none := by kernel_rfl
theorem laidOut : laidOutB Try.prog = true := by kernel_rfl

set_option maxHeartbeats 1000000 in
set_option maxRecDepth 100000 in
theorem lifted (os : Os) (started : os.Started) (H : Type) (enc : TypeId × Value → H) :
    ReturnsInHanded {} Try.checked os 3 .any (Rows.traceSumsSpec.pre6 enc Try.prog Try.f3 Rows.traceSumsRow.domain false) (Rows.traceSumsSpec.post enc Try.prog Try.f3 false true false false) := by
  refine returnsInHanded_of_change (C := Try.checked) own started (by kernel_rfl) Try.func3
    (ChangeSpec.witness6 (enc := enc) (C := Try.checked) false ⟨#[], #[.agg #[.int .i64 0, .int .i64 0, .int .i64 0, .int .i64 0, .int .i64 0, .int .i64 0, .int .i64 0], .slice none 0 0], []⟩ 8 (by kernel_rfl) (by kernel_rfl) (by kernel_rfl) (by kernel_rfl)) ?_
  intro W base args ds gs before hval0 hW hcnd _
  have hval : ∀ (j : Nat) t v, Try.f3.params[j]? = some t → args[j]? = some v → Value.okWide Try.prog W .any base t v := hval0
  have hW' := hW
  obtain ⟨p, q, hA0, hV, rfl, hfz, hnd⟩ := hW
  have hA : DataW.TrodAll enc Try.prog W 0 (fun _ => true) true Try.f3.params.toList args.toList ds p := hA0
  rw [Try.params3] at hA hval
  obtain ⟨v0, vs0, d0, ds0, p0, q0, hargs, rfl, rfl, h0, r0⟩ := trodAll_cons hA
  obtain ⟨v1, vs1, d1, ds1, p1, q1, rfl, rfl, rfl, h1, r1⟩ := trodAll_cons r0
  obtain ⟨rfl, rfl, rfl⟩ := trodAll_nil r1
  obtain rfl : args = #[v0, v1] := by cases args; simp_all
  obtain ⟨rfl, rfl⟩ := trodVars_none hV
  have k0 := h0
  have lt0 := trod_lt_of h0
  have k1 := h1
  have lt1 := trod_lt_of h1
  obtain ⟨l0, rfl, hl0, hf0⟩ := open_fields Try.underlying23 (by kernel_rfl) (by kernel_rfl) (hval 0 23 v0 rfl rfl) h0
  obtain ⟨u0_0, u0_1, u0_2, u0_3, u0_4, u0_5, u0_6, rfl⟩ := list7 (l := l0) hl0
  obtain ⟨a0_0, rfl, w0_0⟩ := field_int Try.underlying3 (hf0 0 _ _ rfl rfl)
  obtain ⟨a0_1, rfl, w0_1⟩ := field_int Try.underlying3 (hf0 1 _ _ rfl rfl)
  obtain ⟨a0_2, rfl, w0_2⟩ := field_int Try.underlying3 (hf0 2 _ _ rfl rfl)
  obtain ⟨a0_3, rfl, w0_3⟩ := field_int Try.underlying3 (hf0 3 _ _ rfl rfl)
  obtain ⟨a0_4, rfl, w0_4⟩ := field_int Try.underlying3 (hf0 4 _ _ rfl rfl)
  obtain ⟨a0_5, rfl, w0_5⟩ := field_int Try.underlying3 (hf0 5 _ _ rfl rfl)
  obtain ⟨a0_6, rfl, w0_6⟩ := field_int Try.underlying3 (hf0 6 _ _ rfl rfl)
  obtain ⟨a1, len1, cap1, g1, rfl, w1⟩ := open_evtsw (hval 1 24 v1 rfl rfl) h1
  clear hA0 hval0
  refine (walk a0_0 a0_1 a0_2 a0_3 a0_4 a0_5 a0_6 a1 len1 cap1 g1 W w0_0 w0_1 w0_2 w0_3 w0_4 w0_5 w0_6 w1).mono fun e W' ⟨he, bel⟩ => ?_
  subst he
  exact ⟨_, rfl, _, _, _, [], _, [], hW', trodAll_mk1 (shut_bool Try.underlying4 _), (trodAll_cons_mk (Below.trod laidOut (by kernel_rfl) (of_decide_eq_true (by kernel_rfl)) k0 bel lt0) (trodAll_cons_mk (Below.trod laidOut (by kernel_rfl) (of_decide_eq_true (by kernel_rfl)) k1 bel lt1) trodAll_mk0)), rfl, bel.frame _, fun h => by cases h⟩

theorem over : Rows.traceSumsRow.holds Try.pinned (OpenSpec.ofChange Rows.traceSumsSpec) :=
  OpenClaim.holds_of_wide 3 Try.f3 rfl rfl rfl rfl rfl rfl rfl ⟨rfl, rfl, rfl, rfl, rfl⟩ rfl rfl rfl rfl rfl (by kernel_rfl) Try.func3 (by kernel_rfl)
    (of_decide_eq_true (by kernel_rfl)) (by unfold Func.isWrapper; first | (rw [if_pos (by decide +kernel)]; kernel_rfl) | (rw [if_neg (by decide +kernel)]; exact ⟨rfl, rfl⟩))
    (fun os started H enc _ => lifted os started H enc)

theorem proved : Rows.TraceSumsSaid := over
#print axioms proved
end Go.Proofs.Ytnhmdaoghcfghaa.traceSums
