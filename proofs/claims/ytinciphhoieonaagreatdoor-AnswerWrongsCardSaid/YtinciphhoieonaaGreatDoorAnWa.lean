/-
  What codes are called; a map from words to numbers.
-/
import Derived.Test.YtinciphhoieonaaGreatDoorRows
import Derived.Test.YtinciphhoieonaaGreatDoorKit
import Derived.Test.YtinciphhoieonaaGreatDoorApp
import Derived.Test.YtinciphhoieonaaGreatDoorQuiet
import Derived.WalkKit
import Derived.ProofKit
import Derived.OpenShut
import Derived.ShutString
import Derived.Below
import Derived.Outline
import Derived.WalkLawsBesides
import Derived.WalkSpells
import Derived.Handy
import Derived.Deep.QuietTactic
import Derived.BigQuiet
import Derived.RegionTactic
import Derived.ChangeAlike
import Derived.Lib.Hide
import Derived.Laws.Rows
import Derived.Laws.Tables
import Derived.Laws.CopyOwn
import Derived.Laws.MakeOwn
import Derived.Laws.Entries
import Derived.Laws.OwnMore
import Derived.Deep.WholeRow
import Derived.Deep.LoopGhost
import Derived.Deep.AppendLies
import Derived.Deep.Draws
import Derived.Maps.AppendAt
import Derived.OwnWalk
import Derived.Deep.RegionHeld3
import Derived.Deep.Cut
import Derived.Deep.CutRange
import Derived.Deep.DeepCutAuto
import Derived.Deep.CutBlock
import Derived.Lib.SliceRun
import Derived.IntWalk
import Derived.Laws.Strings
import Derived.Lib.Bytealg
import Derived.Lib.Strings
import Derived.Laws.Externs
import Derived.Test.YtinciphhoieonaaGreatDoorAnD
import Derived.Maps.OwnSet
import Derived.StringKeys
import Derived.Laws.Entries
namespace Go.Proofs.YtinciphhoieonaaGreatDoor
open Go.ChangeShapes Go.WideShapes Go.ChangeAt Go.RowKit
/-- What a code is called. -/
def cn (c : Nat) : List UInt8 := match c with
  | 10 => [119, 111, 114, 100]
  | 11 => [115, 104, 111, 114, 116]
  | 12 => [109, 111, 114, 101]
  | 13 => [110, 117, 109]
  | 14 => [108, 111, 110, 103]
  | 15 => [98, 121, 116, 101]
  | 20 => [105, 100, 101, 110, 116]
  | 21 => [99, 101, 108, 108]
  | 22 => [110, 97, 109, 101]
  | 23 => [113, 116, 121]
  | 24 => [112, 114, 105, 99, 101]
  | 25 => [108, 101, 97, 115, 116]
  | 26 => [108, 97, 116, 101]
  | 27 => [98, 117, 115, 121]
  | 28 => [102, 117, 108, 108]
  | 29 => [103, 111, 110, 101]
  | _ => [111, 116, 104, 101, 114]
theorem fname_1 (w : World) : Calls Tryz.prog 35 #[.int .i64 1] w fun e w' => e = .returned (.string (Bs (cn 1))) ∧ w = w' := by
  go_enter Tryz.func35, Tryz.ntmps35
  go_wp2_with fail
  go_ret
  exact ⟨rfl, rfl⟩
theorem rfname_1 (w : World) : Calls Tryz.prog 16 #[.int .i64 1] w fun e w' => e = .returned (.string (Bs (cn 1))) ∧ Below w.heap.size w w' := by
  go_enter Tryz.func16, Tryz.ntmps16
  go_wp2_with fail
  go_ret
  exact ⟨rfl, by first | exact Below.refl _ _ | go_grown⟩
theorem fname_6 (w : World) : Calls Tryz.prog 35 #[.int .i64 6] w fun e w' => e = .returned (.string (Bs (cn 6))) ∧ w = w' := by
  go_enter Tryz.func35, Tryz.ntmps35
  go_wp2_with fail
  go_ret
  exact ⟨rfl, rfl⟩
theorem rfname_6 (w : World) : Calls Tryz.prog 16 #[.int .i64 6] w fun e w' => e = .returned (.string (Bs (cn 6))) ∧ Below w.heap.size w w' := by
  go_enter Tryz.func16, Tryz.ntmps16
  go_wp2_with fail
  go_ret
  exact ⟨rfl, by first | exact Below.refl _ _ | go_grown⟩
theorem fname_10 (w : World) : Calls Tryz.prog 35 #[.int .i64 10] w fun e w' => e = .returned (.string (Bs (cn 10))) ∧ w = w' := by
  go_enter Tryz.func35, Tryz.ntmps35
  go_wp2_with fail
  go_ret
  exact ⟨rfl, rfl⟩
theorem rfname_10 (w : World) : Calls Tryz.prog 16 #[.int .i64 10] w fun e w' => e = .returned (.string (Bs (cn 10))) ∧ Below w.heap.size w w' := by
  go_enter Tryz.func16, Tryz.ntmps16
  go_wp2_with fail
  go_ret
  exact ⟨rfl, by first | exact Below.refl _ _ | go_grown⟩
theorem fname_11 (w : World) : Calls Tryz.prog 35 #[.int .i64 11] w fun e w' => e = .returned (.string (Bs (cn 11))) ∧ w = w' := by
  go_enter Tryz.func35, Tryz.ntmps35
  go_wp2_with fail
  go_ret
  exact ⟨rfl, rfl⟩
theorem rfname_11 (w : World) : Calls Tryz.prog 16 #[.int .i64 11] w fun e w' => e = .returned (.string (Bs (cn 11))) ∧ Below w.heap.size w w' := by
  go_enter Tryz.func16, Tryz.ntmps16
  go_wp2_with fail
  go_ret
  exact ⟨rfl, by first | exact Below.refl _ _ | go_grown⟩
theorem fname_12 (w : World) : Calls Tryz.prog 35 #[.int .i64 12] w fun e w' => e = .returned (.string (Bs (cn 12))) ∧ w = w' := by
  go_enter Tryz.func35, Tryz.ntmps35
  go_wp2_with fail
  go_ret
  exact ⟨rfl, rfl⟩
theorem rfname_12 (w : World) : Calls Tryz.prog 16 #[.int .i64 12] w fun e w' => e = .returned (.string (Bs (cn 12))) ∧ Below w.heap.size w w' := by
  go_enter Tryz.func16, Tryz.ntmps16
  go_wp2_with fail
  go_ret
  exact ⟨rfl, by first | exact Below.refl _ _ | go_grown⟩
theorem fname_13 (w : World) : Calls Tryz.prog 35 #[.int .i64 13] w fun e w' => e = .returned (.string (Bs (cn 13))) ∧ w = w' := by
  go_enter Tryz.func35, Tryz.ntmps35
  go_wp2_with fail
  go_ret
  exact ⟨rfl, rfl⟩
theorem rfname_13 (w : World) : Calls Tryz.prog 16 #[.int .i64 13] w fun e w' => e = .returned (.string (Bs (cn 13))) ∧ Below w.heap.size w w' := by
  go_enter Tryz.func16, Tryz.ntmps16
  go_wp2_with fail
  go_ret
  exact ⟨rfl, by first | exact Below.refl _ _ | go_grown⟩
theorem fname_14 (w : World) : Calls Tryz.prog 35 #[.int .i64 14] w fun e w' => e = .returned (.string (Bs (cn 14))) ∧ w = w' := by
  go_enter Tryz.func35, Tryz.ntmps35
  go_wp2_with fail
  go_ret
  exact ⟨rfl, rfl⟩
theorem rfname_14 (w : World) : Calls Tryz.prog 16 #[.int .i64 14] w fun e w' => e = .returned (.string (Bs (cn 14))) ∧ Below w.heap.size w w' := by
  go_enter Tryz.func16, Tryz.ntmps16
  go_wp2_with fail
  go_ret
  exact ⟨rfl, by first | exact Below.refl _ _ | go_grown⟩
theorem fname_15 (w : World) : Calls Tryz.prog 35 #[.int .i64 15] w fun e w' => e = .returned (.string (Bs (cn 15))) ∧ w = w' := by
  go_enter Tryz.func35, Tryz.ntmps35
  go_wp2_with fail
  go_ret
  exact ⟨rfl, rfl⟩
theorem rfname_15 (w : World) : Calls Tryz.prog 16 #[.int .i64 15] w fun e w' => e = .returned (.string (Bs (cn 15))) ∧ Below w.heap.size w w' := by
  go_enter Tryz.func16, Tryz.ntmps16
  go_wp2_with fail
  go_ret
  exact ⟨rfl, by first | exact Below.refl _ _ | go_grown⟩
theorem fname_20 (w : World) : Calls Tryz.prog 35 #[.int .i64 20] w fun e w' => e = .returned (.string (Bs (cn 20))) ∧ w = w' := by
  go_enter Tryz.func35, Tryz.ntmps35
  go_wp2_with fail
  go_ret
  exact ⟨rfl, rfl⟩
theorem rfname_20 (w : World) : Calls Tryz.prog 16 #[.int .i64 20] w fun e w' => e = .returned (.string (Bs (cn 20))) ∧ Below w.heap.size w w' := by
  go_enter Tryz.func16, Tryz.ntmps16
  go_wp2_with fail
  go_ret
  exact ⟨rfl, by first | exact Below.refl _ _ | go_grown⟩
theorem fname_21 (w : World) : Calls Tryz.prog 35 #[.int .i64 21] w fun e w' => e = .returned (.string (Bs (cn 21))) ∧ w = w' := by
  go_enter Tryz.func35, Tryz.ntmps35
  go_wp2_with fail
  go_ret
  exact ⟨rfl, rfl⟩
theorem rfname_21 (w : World) : Calls Tryz.prog 16 #[.int .i64 21] w fun e w' => e = .returned (.string (Bs (cn 21))) ∧ Below w.heap.size w w' := by
  go_enter Tryz.func16, Tryz.ntmps16
  go_wp2_with fail
  go_ret
  exact ⟨rfl, by first | exact Below.refl _ _ | go_grown⟩
theorem fname_22 (w : World) : Calls Tryz.prog 35 #[.int .i64 22] w fun e w' => e = .returned (.string (Bs (cn 22))) ∧ w = w' := by
  go_enter Tryz.func35, Tryz.ntmps35
  go_wp2_with fail
  go_ret
  exact ⟨rfl, rfl⟩
theorem rfname_22 (w : World) : Calls Tryz.prog 16 #[.int .i64 22] w fun e w' => e = .returned (.string (Bs (cn 22))) ∧ Below w.heap.size w w' := by
  go_enter Tryz.func16, Tryz.ntmps16
  go_wp2_with fail
  go_ret
  exact ⟨rfl, by first | exact Below.refl _ _ | go_grown⟩
theorem fname_23 (w : World) : Calls Tryz.prog 35 #[.int .i64 23] w fun e w' => e = .returned (.string (Bs (cn 23))) ∧ w = w' := by
  go_enter Tryz.func35, Tryz.ntmps35
  go_wp2_with fail
  go_ret
  exact ⟨rfl, rfl⟩
theorem rfname_23 (w : World) : Calls Tryz.prog 16 #[.int .i64 23] w fun e w' => e = .returned (.string (Bs (cn 23))) ∧ Below w.heap.size w w' := by
  go_enter Tryz.func16, Tryz.ntmps16
  go_wp2_with fail
  go_ret
  exact ⟨rfl, by first | exact Below.refl _ _ | go_grown⟩
theorem fname_24 (w : World) : Calls Tryz.prog 35 #[.int .i64 24] w fun e w' => e = .returned (.string (Bs (cn 24))) ∧ w = w' := by
  go_enter Tryz.func35, Tryz.ntmps35
  go_wp2_with fail
  go_ret
  exact ⟨rfl, rfl⟩
theorem rfname_24 (w : World) : Calls Tryz.prog 16 #[.int .i64 24] w fun e w' => e = .returned (.string (Bs (cn 24))) ∧ Below w.heap.size w w' := by
  go_enter Tryz.func16, Tryz.ntmps16
  go_wp2_with fail
  go_ret
  exact ⟨rfl, by first | exact Below.refl _ _ | go_grown⟩
theorem fname_25 (w : World) : Calls Tryz.prog 35 #[.int .i64 25] w fun e w' => e = .returned (.string (Bs (cn 25))) ∧ w = w' := by
  go_enter Tryz.func35, Tryz.ntmps35
  go_wp2_with fail
  go_ret
  exact ⟨rfl, rfl⟩
theorem rfname_25 (w : World) : Calls Tryz.prog 16 #[.int .i64 25] w fun e w' => e = .returned (.string (Bs (cn 25))) ∧ Below w.heap.size w w' := by
  go_enter Tryz.func16, Tryz.ntmps16
  go_wp2_with fail
  go_ret
  exact ⟨rfl, by first | exact Below.refl _ _ | go_grown⟩
theorem fname_26 (w : World) : Calls Tryz.prog 35 #[.int .i64 26] w fun e w' => e = .returned (.string (Bs (cn 26))) ∧ w = w' := by
  go_enter Tryz.func35, Tryz.ntmps35
  go_wp2_with fail
  go_ret
  exact ⟨rfl, rfl⟩
theorem rfname_26 (w : World) : Calls Tryz.prog 16 #[.int .i64 26] w fun e w' => e = .returned (.string (Bs (cn 26))) ∧ Below w.heap.size w w' := by
  go_enter Tryz.func16, Tryz.ntmps16
  go_wp2_with fail
  go_ret
  exact ⟨rfl, by first | exact Below.refl _ _ | go_grown⟩
theorem fname_27 (w : World) : Calls Tryz.prog 35 #[.int .i64 27] w fun e w' => e = .returned (.string (Bs (cn 27))) ∧ w = w' := by
  go_enter Tryz.func35, Tryz.ntmps35
  go_wp2_with fail
  go_ret
  exact ⟨rfl, rfl⟩
theorem rfname_27 (w : World) : Calls Tryz.prog 16 #[.int .i64 27] w fun e w' => e = .returned (.string (Bs (cn 27))) ∧ Below w.heap.size w w' := by
  go_enter Tryz.func16, Tryz.ntmps16
  go_wp2_with fail
  go_ret
  exact ⟨rfl, by first | exact Below.refl _ _ | go_grown⟩
theorem fname_28 (w : World) : Calls Tryz.prog 35 #[.int .i64 28] w fun e w' => e = .returned (.string (Bs (cn 28))) ∧ w = w' := by
  go_enter Tryz.func35, Tryz.ntmps35
  go_wp2_with fail
  go_ret
  exact ⟨rfl, rfl⟩
theorem rfname_28 (w : World) : Calls Tryz.prog 16 #[.int .i64 28] w fun e w' => e = .returned (.string (Bs (cn 28))) ∧ Below w.heap.size w w' := by
  go_enter Tryz.func16, Tryz.ntmps16
  go_wp2_with fail
  go_ret
  exact ⟨rfl, by first | exact Below.refl _ _ | go_grown⟩
theorem fname_29 (w : World) : Calls Tryz.prog 35 #[.int .i64 29] w fun e w' => e = .returned (.string (Bs (cn 29))) ∧ w = w' := by
  go_enter Tryz.func35, Tryz.ntmps35
  go_wp2_with fail
  go_ret
  exact ⟨rfl, rfl⟩
theorem rfname_29 (w : World) : Calls Tryz.prog 16 #[.int .i64 29] w fun e w' => e = .returned (.string (Bs (cn 29))) ∧ Below w.heap.size w w' := by
  go_enter Tryz.func16, Tryz.ntmps16
  go_wp2_with fail
  go_ret
  exact ⟨rfl, by first | exact Below.refl _ _ | go_grown⟩
/-- The codes that may be told. -/
def inC (c : Nat) : Bool := decide (c = 1) || (decide (c = 6) || ((decide (10 ≤ c) && decide (c ≤ 15)) || decide (20 ≤ c)))
theorem inC_cases {c : Nat} (h : inC c = true) (h2 : c ≤ 29) : c = 1 ∨ c = 6 ∨ c = 10 ∨ c = 11 ∨ c = 12 ∨ c = 13 ∨ c = 14 ∨ c = 15 ∨ c = 20 ∨ c = 21 ∨ c = 22 ∨ c = 23 ∨ c = 24 ∨ c = 25 ∨ c = 26 ∨ c = 27 ∨ c = 28 ∨ c = 29 := by
  unfold inC at h
  simp at h
  omega
theorem fname_is (c : Nat) (h : inC c = true) (h2 : c ≤ 29) (w : World) : Calls Tryz.prog 35 #[.int .i64 (c : Int)] w fun e w' => e = .returned (.string (Bs (cn c))) ∧ w = w' := by
  rcases inC_cases h h2 with rfl | rfl | rfl | rfl | rfl | rfl | rfl | rfl | rfl | rfl | rfl | rfl | rfl | rfl | rfl | rfl | rfl | rfl
  · exact fname_1 w
  · exact fname_6 w
  · exact fname_10 w
  · exact fname_11 w
  · exact fname_12 w
  · exact fname_13 w
  · exact fname_14 w
  · exact fname_15 w
  · exact fname_20 w
  · exact fname_21 w
  · exact fname_22 w
  · exact fname_23 w
  · exact fname_24 w
  · exact fname_25 w
  · exact fname_26 w
  · exact fname_27 w
  · exact fname_28 w
  · exact fname_29 w
theorem rfname_is (c : Nat) (h : inC c = true) (h2 : c ≤ 29) (w : World) : Calls Tryz.prog 16 #[.int .i64 (c : Int)] w fun e w' => e = .returned (.string (Bs (cn c))) ∧ Below w.heap.size w w' := by
  rcases inC_cases h h2 with rfl | rfl | rfl | rfl | rfl | rfl | rfl | rfl | rfl | rfl | rfl | rfl | rfl | rfl | rfl | rfl | rfl | rfl
  · exact rfname_1 w
  · exact rfname_6 w
  · exact rfname_10 w
  · exact rfname_11 w
  · exact rfname_12 w
  · exact rfname_13 w
  · exact rfname_14 w
  · exact rfname_15 w
  · exact rfname_20 w
  · exact rfname_21 w
  · exact rfname_22 w
  · exact rfname_23 w
  · exact rfname_24 w
  · exact rfname_25 w
  · exact rfname_26 w
  · exact rfname_27 w
  · exact rfname_28 w
  · exact rfname_29 w
open Go.Maps
/-- Block b is a map of c words, each with its number. -/
def MpM (w : World) (b : Nat) (S : List UInt8 → Int) (K : List UInt8 → Bool) (c m : Nat) : Prop :=
  ∃ D : DataW Unit, w.ownsMap Tryz.prog 9 (plainElem Tryz.prog 22) b m D ∧ Tidy D ∧ Maps.size D = c ∧ ∀ x : List UInt8, has D (.string x) = K x ∧ D.atKey (.string x) (.lit (.int .i64 0)) = .lit (.int .i64 (S x))
theorem keyedS : Keyed Tryz.prog 9 := string_keyed Tryz.underlying9
theorem MpM.lt {w : World} {b c m : Nat} {S : List UInt8 → Int} {K : List UInt8 → Bool} (h : MpM w b S K c m) : b < w.heap.size := by
  obtain ⟨D, ho, _⟩ := h
  exact ho.lt
theorem MpM.below {w w' : World} {b c m : Nat} {S : List UInt8 → Int} {K : List UInt8 → Bool} (h : MpM w b S K c m) (hb : Below w.heap.size w w') : MpM w' b S K c m := by
  obtain ⟨D, ho, hr⟩ := h
  have hl := ho.lt
  obtain ⟨es, clock, hbk, hF⟩ := ho
  exact ⟨D, ⟨es, clock, (hb.block b hl).trans hbk, hF⟩, hr⟩
theorem MpM.made (w : World) : MpM (w.alloc (.map #[] 0)) w.heap.size (fun _ => 0) (fun _ => false) 0 0 :=
  ⟨.map [], World.ownsMap_made w _ _ _, tidy_empty, rfl, fun x => ⟨rfl, rfl⟩⟩
theorem isKeyS (x : List UInt8) : WideAt.IsKeyLit (.string x) := by simp [WideAt.IsKeyLit]
theorem wf_sm (k : Int) (h0 : 0 ≤ k) (h1 : k ≤ 1000) : (Lit.int .i64 k).wf = true := by
  simp [Lit.wf, IntKind.min, IntKind.max, IntKind.signed, IntKind.bits]; omega
theorem keyS (l : List UInt8) (hl : l.length ≤ 1000) : keyOf Tryz.prog 9 (.string (Bs l)) = some (.string l) := by
  have := Go.WideMaps.keyOf_string_mk (P := Tryz.prog) (k := 9) Tryz.underlying9 (s := Bs l) (by rw [Bs_size]; unfold maxLen; omega)
  rwa [Bs_list] at this
set_option maxRecDepth 100000 in
theorem MpM.look {w : World} {b c m : Nat} {S : List UInt8 → Int} {K : List UInt8 → Bool} (h : MpM w b S K c m) (l : List UInt8) (hl : l.length ≤ 1000) : (Instr.lookup 45 (.map (some b)) (.string (Bs l)) false).run Tryz.prog w = .ok (.int .i64 (S l)) w := by
  obtain ⟨D, ho, _, _, hr⟩ := h
  obtain ⟨v, ps, hrun, hv⟩ := ho.lookup keyedS Tryz.underlying45 (z := .int .i64 0) (by kernel_rfl) (plainElem_int Tryz.underlying22 (wf_sm 0 (by decide) (by decide))) (keyS l hl)
  rw [(hr l).2] at hv
  obtain ⟨a, rfl, e, _⟩ := plainElem_int_inv Tryz.underlying22 hv
  injection e with e1 _
  injection e1 with e2
  injection e2 with _ e3
  rw [hrun, e3]
theorem MpM.len {w : World} {b c m : Nat} {S : List UInt8 → Int} {K : List UInt8 → Bool} (h : MpM w b S K c m) (ty : TypeId) : (Builtin.len_ #[45] ty #[.map (some b)]).run Tryz.prog w = .ok (.int .i64 (c : Int)) w := by
  obtain ⟨D, ho, _, hs, _⟩ := h
  rw [ho.len Tryz.underlying45 ty, hs]
/-- A word's number is set. -/
def setS (S : List UInt8 → Int) (l : List UInt8) (k : Int) : List UInt8 → Int := fun y => if y = l then k else S y
def setK (K : List UInt8 → Bool) (l : List UInt8) : List UInt8 → Bool := fun y => decide (y = l) || K y
theorem wpList_setw {w : World} {ops : Array Oper} {rest : List Oper} {o : Oper} {a : Act} {Q : Exit → Act → World → Prop} (hg : o.guard = none) (mo x v : Operand) (hop : o.op = Op.mapUpdate 45 mo x v)
    (b c m : Nat) (S : List UInt8 → Int) (K : List UInt8 → Bool) (hm : a.eval mo = .map (some b)) (h : MpM w b S K c m) (hc : m < 1000) (l : List UInt8) (hl : l.length ≤ 1000) (hx : a.eval x = .string (Bs l)) (k : Int) (h0 : 0 ≤ k) (h1 : k ≤ 1000) (hv : a.eval v = .int .i64 k)
    (hK : ∀ w', MpM w' b (setS S l k) (setK K l) (if K l = true then c else c + 1) (m + 1) → w.grownBy w' (some b) → wpList Tryz.prog ops Q rest (a.put o.dst undef) w') :
    wpList Tryz.prog ops Q (o :: rest) a w := by
  obtain ⟨D, ho, ht, hs, hr⟩ := h
  refine wpList_mapUpdate_own w hg mo x v 45 hop 9 22 keyedS Tryz.underlying45 (plainElem Tryz.prog 22) b m D hm ho (by unfold maxLen; omega) _ _ (.string l) hx hv (keyS l hl) (.lit (.int .i64 k)) [] (plainElem_int Tryz.underlying22 (wf_sm k h0 h1)) ?_
  intro w' ho' hg'
  refine hK w' ⟨_, ho', ht.put (isKeyS l) _, ?_, fun y => ?_⟩ hg'
  · rw [size_put ht, (hr l).1, hs]
  · by_cases hy : y = l
    · subst hy
      rw [has_put_same ht.isMap (isKeyS y), atKey_put_same ht.isMap (isKeyS y)]
      simp [setS, setK]
    · have hne : (Lit.string y) ≠ (Lit.string l) := fun e => hy (by injection e)
      rw [has_put_other hne, atKey_put_other hne, (hr y).1, (hr y).2]
      simp [setS, setK, hy]

end Go.Proofs.YtinciphhoieonaaGreatDoor
