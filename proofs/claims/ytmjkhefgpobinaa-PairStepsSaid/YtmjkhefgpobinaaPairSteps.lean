/-
  sentence.
-/
import Derived.Test.YtmjkhefgpobinaaRows
import Derived.Test.YtmjkhefgpobinaaKit
import Derived.Test.YtmjkhefgpobinaaPairStepsV
namespace Go.Proofs.Ytmjkhefgpobinaa.pairSteps
open Go.ChangeShapes Go.WideShapes Go.ChangeAt Go.RowKit
open Go.ChangeMaps (open_string shut_string)

theorem own : ownKnob Try.prog.godebug = none := by kernel_rfl
theorem laidOut : laidOutB Try.prog = true := by kernel_rfl

set_option maxHeartbeats 1000000 in
set_option maxRecDepth 100000 in
theorem lifted (os : Os) (started : os.Started) (H : Type) (enc : TypeId × Value → H) :
    ReturnsInHanded {} Try.checked os 5 .any (Rows.pairStepsSpec.pre6 enc Try.prog Try.f5 Rows.pairStepsRow.domain false) (Rows.pairStepsSpec.post enc Try.prog Try.f5 false true false false) := by
  refine returnsInHanded_of_change (C := Try.checked) own started (by kernel_rfl) Try.func5
    (ChangeSpec.witness6 (enc := enc) (C := Try.checked) false ⟨#[], #[.agg #[.int .i64 0, .int .i64 0, .int .i64 0, .int .i64 0, .int .i64 0, .int .i64 0, .int .i64 0], .slice none 0 0, .agg #[.int .i64 0, .int .i64 0, .int .i64 0, .int .i64 0, .int .i64 0], .int .u8 0], []⟩ 8 (by kernel_rfl) (by kernel_rfl) (by kernel_rfl) (by kernel_rfl)) ?_
  intro W base args ds gs before hval0 hW hcnd _
  have hval : ∀ (j : Nat) t v, Try.f5.params[j]? = some t → args[j]? = some v → Value.okWide Try.prog W .any base t v := hval0
  have hW' := hW
  obtain ⟨p, q, hA0, hV, rfl, hfz, hnd⟩ := hW
  have hA : DataW.TrodAll enc Try.prog W 0 (fun _ => true) true Try.f5.params.toList args.toList ds p := hA0
  rw [Try.params5] at hA hval
  obtain ⟨v0, vs0, d0, ds0, p0, q0, hargs, rfl, rfl, h0, r0⟩ := trodAll_cons hA
  obtain ⟨v1, vs1, d1, ds1, p1, q1, rfl, rfl, rfl, h1, r1⟩ := trodAll_cons r0
  obtain ⟨v2, vs2, d2, ds2, p2, q2, rfl, rfl, rfl, h2, r2⟩ := trodAll_cons r1
  obtain ⟨v3, vs3, d3, ds3, p3, q3, rfl, rfl, rfl, h3, r3⟩ := trodAll_cons r2
  obtain ⟨rfl, rfl, rfl⟩ := trodAll_nil r3
  obtain rfl : args = #[v0, v1, v2, v3] := by cases args; simp_all
  obtain ⟨rfl, rfl⟩ := trodVars_none hV
  have k0 := h0
  have lt0 := trod_lt_of h0
  have k1 := h1
  have lt1 := trod_lt_of h1
  have k2 := h2
  have lt2 := trod_lt_of h2
  have k3 := h3
  have lt3 := trod_lt_of h3
  obtain ⟨l0, rfl, hl0, hf0⟩ := open_fields Try.underlying23 (by kernel_rfl) (by kernel_rfl) (hval 0 23 v0 rfl rfl) h0
  obtain ⟨u0_0, u0_1, u0_2, u0_3, u0_4, u0_5, u0_6, rfl⟩ := list7 (l := l0) hl0
  obtain ⟨a0_0, rfl, w0_0⟩ := field_int Try.underlying3 (hf0 0 _ _ rfl rfl)
  obtain ⟨a0_1, rfl, w0_1⟩ := field_int Try.underlying3 (hf0 1 _ _ rfl rfl)
  obtain ⟨a0_2, rfl, w0_2⟩ := field_int Try.underlying3 (hf0 2 _ _ rfl rfl)
  obtain ⟨a0_3, rfl, w0_3⟩ := field_int Try.underlying3 (hf0 3 _ _ rfl rfl)
  obtain ⟨a0_4, rfl, w0_4⟩ := field_int Try.underlying3 (hf0 4 _ _ rfl rfl)
  obtain ⟨a0_5, rfl, w0_5⟩ := field_int Try.underlying3 (hf0 5 _ _ rfl rfl)
  obtain ⟨a0_6, rfl, w0_6⟩ := field_int Try.underlying3 (hf0 6 _ _ rfl rfl)
  obtain ⟨a1, len1, cap1, g1, rfl, w1⟩ := open_ods (hval 1 24 v1 rfl rfl) h1
  obtain ⟨l2, rfl, hl2, hf2⟩ := open_fields Try.underlying73 (by kernel_rfl) (by kernel_rfl) (hval 2 73 v2 rfl rfl) h2
  obtain ⟨u2_0, u2_1, u2_2, u2_3, u2_4, rfl⟩ := list5 (l := l2) hl2
  obtain ⟨a2_0, rfl, w2_0⟩ := field_int Try.underlying3 (hf2 0 _ _ rfl rfl)
  obtain ⟨a2_1, rfl, w2_1⟩ := field_int Try.underlying3 (hf2 1 _ _ rfl rfl)
  obtain ⟨a2_2, rfl, w2_2⟩ := field_int Try.underlying3 (hf2 2 _ _ rfl rfl)
  obtain ⟨a2_3, rfl, w2_3⟩ := field_int Try.underlying3 (hf2 3 _ _ rfl rfl)
  obtain ⟨a2_4, rfl, w2_4⟩ := field_int Try.underlying3 (hf2 4 _ _ rfl rfl)
  obtain ⟨a3, rfl, rfl, rfl, w3⟩ := open_int Try.underlying5 (hval 3 5 v3 rfl rfl) h3
  clear hA0 hval0
  refine (walk a0_0 a0_1 a0_2 a0_3 a0_4 a0_5 a0_6 a1 len1 cap1 g1 a2_0 a2_1 a2_2 a2_3 a2_4 a3 W w0_0 w0_1 w0_2 w0_3 w0_4 w0_5 w0_6 w1 w2_0 w2_1 w2_2 w2_3 w2_4 w3).mono fun e W' ⟨he, bel⟩ => ?_
  subst he
  exact ⟨_, rfl, _, _, _, [], _, [], hW', trodAll_mk1 (shut_bool Try.underlying4 _), (trodAll_cons_mk (Below.trod laidOut (by kernel_rfl) (of_decide_eq_true (by kernel_rfl)) k0 bel lt0) (trodAll_cons_mk (Below.trod laidOut (by kernel_rfl) (of_decide_eq_true (by kernel_rfl)) k1 bel lt1) (trodAll_cons_mk (Below.trod laidOut (by kernel_rfl) (of_decide_eq_true (by kernel_rfl)) k2 bel lt2) (trodAll_cons_mk (Below.trod laidOut (by kernel_rfl) (of_decide_eq_true (by kernel_rfl)) k3 bel lt3) trodAll_mk0)))), rfl, bel.frame _, fun h => by cases h⟩

theorem over : Rows.pairStepsRow.holds Try.pinned (OpenSpec.ofChange Rows.pairStepsSpec) :=
  OpenClaim.holds_of_wide 5 Try.f5 rfl rfl rfl rfl rfl rfl rfl ⟨rfl, rfl, rfl, rfl, rfl⟩ rfl rfl rfl rfl rfl (by kernel_rfl) Try.func5 (by kernel_rfl)
    (of_decide_eq_true (by kernel_rfl)) (by unfold Func.isWrapper; first | (rw [if_pos (by decide +kernel)]; kernel_rfl) | (rw [if_neg (by decide +kernel)]; exact ⟨rfl, rfl⟩))
    (fun os started H enc _ => lifted os started H enc)

theorem proved : Rows.PairStepsSaid := over
#print axioms proved
end Go.Proofs.Ytmjkhefgpobinaa.pairSteps
