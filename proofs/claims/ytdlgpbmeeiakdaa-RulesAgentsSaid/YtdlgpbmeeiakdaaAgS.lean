/-
  A set of numbers: a map that the call made; agents' numbers.
-/
import Derived.Test.YtdlgpbmeeiakdaaRows
import Derived.Test.YtdlgpbmeeiakdaaKit
import Derived.Test.YtdlgpbmeeiakdaaApp
import Derived.Test.YtdlgpbmeeiakdaaEv
import Derived.Test.YtdlgpbmeeiakdaaEvP
import Derived.Test.YtdlgpbmeeiakdaaQuiet
import Derived.Test.YtdlgpbmeeiakdaaRules
import Derived.Test.YtdlgpbmeeiakdaaPlA
import Derived.Maps.OwnSet
import Derived.WalkKit
import Derived.ProofKit
import Derived.OpenShut
import Derived.ShutString
import Derived.Below
import Derived.Outline
import Derived.WalkLawsBesides
import Derived.WalkSpells
import Derived.Handy
import Derived.Deep.QuietTactic
import Derived.BigQuiet
import Derived.RegionTactic
import Derived.ChangeAlike
import Derived.Lib.Hide
import Derived.Laws.Rows
import Derived.Laws.Tables
import Derived.Laws.CopyOwn
import Derived.Laws.MakeOwn
import Derived.Laws.Entries
import Derived.Laws.OwnMore
import Derived.Deep.WholeRow
import Derived.Deep.LoopGhost
import Derived.Deep.AppendLies
import Derived.Deep.Draws
import Derived.Maps.AppendAt
import Derived.OwnWalk
import Derived.Deep.RegionHeld3
import Derived.Deep.Cut
import Derived.Deep.CutRange
import Derived.Deep.DeepCutAuto
import Derived.Deep.CutBlock
import Derived.Lib.SliceRun
import Derived.IntWalk
namespace Go.Proofs.Ytdlgpbmeeiakdaa
open Go.ChangeShapes Go.WideShapes Go.ChangeAt Go.RowKit
open Go.Maps
/-- Block b is a map of c numbers, all true: just those of S. -/
def SetM (w : World) (b : Nat) (S : Int → Bool) (c : Nat) : Prop :=
  ∃ D : DataW Unit, w.ownsMap Try.prog 3 (plainElem Try.prog 4) b c D ∧ Tidy D ∧ Maps.size D = c ∧ ∀ x : Int, has D (.int .i64 x) = S x ∧ D.atKey (.int .i64 x) (.lit (.bool false)) = .lit (.bool (S x))
theorem keyedI : Keyed Try.prog 3 := int_keyed Try.underlying3
theorem SetM.lt {w : World} {b c : Nat} {S : Int → Bool} (h : SetM w b S c) : b < w.heap.size := by
  obtain ⟨D, ho, _⟩ := h
  exact ho.lt
theorem SetM.below {w w' : World} {b c : Nat} {S : Int → Bool} (h : SetM w b S c) (hb : Below w.heap.size w w') : SetM w' b S c := by
  obtain ⟨D, ho, hr⟩ := h
  have hl := ho.lt
  obtain ⟨es, clock, hbk, hF⟩ := ho
  exact ⟨D, ⟨es, clock, (hb.block b hl).trans hbk, hF⟩, hr⟩
theorem SetM.ext {w : World} {b c : Nat} {S T : Int → Bool} (h : SetM w b S c) (hS : ∀ x, S x = T x) : SetM w b T c := by
  rw [← funext hS]; exact h
theorem SetM.made (w : World) : SetM (w.alloc (.map #[] 0)) w.heap.size (fun _ => false) 0 :=
  ⟨.map [], World.ownsMap_made w _ _ _, tidy_empty, rfl, fun x => ⟨rfl, rfl⟩⟩
theorem isKeyI (x : Int) : WideAt.IsKeyLit (.int .i64 x) := by simp [WideAt.IsKeyLit]
theorem wf_small (k : Int) (h0 : 0 ≤ k) (h1 : k ≤ 1000) : (Lit.int .i64 k).wf = true := by
  simp [Lit.wf, IntKind.min, IntKind.max, IntKind.signed, IntKind.bits]; omega
set_option maxRecDepth 100000 in
theorem SetM.look {w : World} {b c : Nat} {S : Int → Bool} (h : SetM w b S c) (k : Int) (h0 : 0 ≤ k) (h1 : k ≤ 1000) : (Instr.lookup 31 (.map (some b)) (.int .i64 k) false).run Try.prog w = .ok (.bool (S k)) w := by
  obtain ⟨D, ho, _, _, hr⟩ := h
  obtain ⟨v, ps, hrun, hv⟩ := ho.lookup keyedI Try.underlying31 (z := .bool false) (by kernel_rfl) (plainElem_bool Try.underlying4 false) (keyOf_int_mk Try.underlying3 (wf_small k h0 h1))
  rw [(hr k).2] at hv
  have : v = .bool (S k) := by
    unfold plainElem at hv
    rw [Try.underlying4] at hv
    cases v <;> simp at hv
    rw [hv.1]
  rw [hrun, this]
theorem SetM.len {w : World} {b c : Nat} {S : Int → Bool} (h : SetM w b S c) (ty : TypeId) : (Builtin.len_ #[31] ty #[.map (some b)]).run Try.prog w = .ok (.int .i64 (c : Int)) w := by
  obtain ⟨D, ho, _, hs, _⟩ := h
  rw [ho.len Try.underlying31 ty, hs]
theorem wpList_setm {w : World} {ops : Array Oper} {rest : List Oper} {o : Oper} {a : Act} {Q : Exit → Act → World → Prop} (hg : o.guard = none) (m x v : Operand) (hop : o.op = Op.mapUpdate 31 m x v)
    (b c : Nat) (S : Int → Bool) (hm : a.eval m = .map (some b)) (h : SetM w b S c) (hc : c < 1000) (k : Int) (hx : a.eval x = .int .i64 k) (h0 : 0 ≤ k) (h1 : k ≤ 1000) (hv : a.eval v = .bool true) (hn : S k = false)
    (hK : ∀ w', SetM w' b (fun y => decide (y = k) || S y) (c + 1) → w.grownBy w' (some b) → wpList Try.prog ops Q rest (a.put o.dst undef) w') :
    wpList Try.prog ops Q (o :: rest) a w := by
  obtain ⟨D, ho, ht, hs, hr⟩ := h
  refine wpList_mapUpdate_own w hg m x v 31 hop 3 4 keyedI Try.underlying31 (plainElem Try.prog 4) b c D hm ho (by unfold maxLen; omega) _ _ (.int .i64 k) hx hv (keyOf_int_mk Try.underlying3 (wf_small k h0 h1)) (.lit (.bool true)) [] (plainElem_bool Try.underlying4 true) ?_
  intro w' ho' hg'
  refine hK w' ⟨_, ho', ht.put (isKeyI k) _, ?_, fun y => ?_⟩ hg'
  · rw [size_put ht, (hr k).1, hn, hs]; rfl
  · by_cases hy : y = k
    · subst hy
      rw [has_put_same ht.isMap (isKeyI y), atKey_put_same ht.isMap (isKeyI y)]
      simp
    · have hne : (Lit.int .i64 y) ≠ (Lit.int .i64 k) := fun e => hy (by injection e)
      rw [has_put_other hne, atKey_put_other hne, (hr y).1, (hr y).2]
      simp [hy]
set_option maxHeartbeats 1000000 in
theorem sweeper_in (p c n b r f g : Int) (x : Int) (w : World) (m : 1 ≤ n * b ∧ n * b ≤ 12) (hb : 1 ≤ b) (hp : 1 ≤ p ∧ p ≤ 6) (x0 : 0 ≤ x) (x1 : x < n * b) : Calls Try.prog 13 #[.agg #[.int .i64 p, .int .i64 c, .int .i64 n, .int .i64 b, .int .i64 r, .int .i64 f, .int .i64 g], .int .i64 x] w fun e w' => e = .returned (.int .i64 (p + x)) ∧ Below w.heap.size w w' := by
  obtain ⟨m0, m1⟩ := m
  obtain ⟨p1, p2⟩ := hp
  go_enter Try.func13, Try.ntmps13
  go_wp2
  go_ret
  exact ⟨rfl, by go_grown⟩
set_option maxHeartbeats 1000000 in
theorem reaper_in (p c n b r f g : Int) (x : Int) (w : World) (m : 1 ≤ n * b ∧ n * b ≤ 12) (hb : 1 ≤ b) (hp : 1 ≤ p ∧ p ≤ 6) (x0 : 0 ≤ x) (x1 : x < n * b) : Calls Try.prog 14 #[.agg #[.int .i64 p, .int .i64 c, .int .i64 n, .int .i64 b, .int .i64 r, .int .i64 f, .int .i64 g], .int .i64 x] w fun e w' => e = .returned (.int .i64 (p + n * b + x)) ∧ Below w.heap.size w w' := by
  have M := Lib.hid m
  obtain ⟨m0, m1⟩ := m
  obtain ⟨p1, p2⟩ := hp
  have W1 : IntKind.i64.wrap (p + n * b) = p + n * b := IntWalk.i64_in _ (by omega)
  have W2 : IntKind.i64.wrap (p + n * b + x) = p + n * b + x := IntWalk.i64_in _ (by omega)
  go_enter Try.func14, Try.ntmps14
  go_wp2_with fail
  refine (shards_i p c n b r f g _ M.out).mono ?_
  rintro e w1 ⟨rfl, hb1⟩
  have bX1 := Blk7.below (Blk7.new w p c n b r f g 25) hb1
  have bX := Blk7.drew bX1
  have hC1 : Below w.heap.size w w1 := Below.step (by go_grown) hb1
  have hC : Below w.heap.size w w1.drew := Below.drew hC1
  have hS := bX.1
  clear hb1
  go_wp2_with fail
  refine (within_yes _ _ _ (by omega) (by omega)).mono ?_
  rintro e w' ⟨rfl, rfl⟩
  go_wp2_with fail
  go_region_held3 (fun w' => w'.cell? ⟨w.heap.size, 0, none⟩ = some (.int .i64 p) ∧ w'.cell? ⟨w.heap.size, 1, none⟩ = some (.int .i64 c) ∧ w'.cell? ⟨w.heap.size, 2, none⟩ = some (.int .i64 n) ∧ w'.cell? ⟨w.heap.size, 3, none⟩ = some (.int .i64 b) ∧ w'.cell? ⟨w.heap.size, 4, none⟩ = some (.int .i64 r) ∧ w'.cell? ⟨w.heap.size, 5, none⟩ = some (.int .i64 f) ∧ w'.cell? ⟨w.heap.size, 6, none⟩ = some (.int .i64 g)) (first | with_reducible exact hS | fail) (first | (go_at_call 12; (with_reducible refine (shards_i p c n b r f g _ M.out).mono ?_); rintro e wy ⟨rfl, hby⟩; have bX := Blk7.below bX hby; have hC := Below.step hC hby; have hS := bX.1; clear hby) | fail)
  go_wp2
  go_ret
  exact ⟨rfl, hC⟩
end Go.Proofs.Ytdlgpbmeeiakdaa
