/-
  errors.as, errors.As over a chain of faults and notes round a code.
-/
import Derived.Test.YtinciphhoieonaaGreatDoorRows
import Derived.Test.YtinciphhoieonaaGreatDoorKit
import Derived.Test.YtinciphhoieonaaGreatDoorNsF
import Derived.Test.YtinciphhoieonaaGreatDoorNsC
import Derived.WalkKit
import Derived.ProofKit
import Derived.OpenShut
import Derived.ShutString
import Derived.Below
import Derived.Outline
import Derived.WalkLawsBesides
import Derived.WalkSpells
import Derived.Handy
import Derived.Deep.QuietTactic
import Derived.BigQuiet
import Derived.RegionTactic
import Derived.ChangeAlike
import Derived.Lib.Hide
import Derived.Deep.LoopGhost
import Derived.Deep.RegionHeld3
import Derived.Deep.Cut
import Derived.Deep.CutRange
import Derived.Deep.DeepCutAuto
import Derived.Deep.CutBlock
import Derived.Deep.RegionLaw
import Derived.LaidEql
import Derived.Stop.Asserts
import Derived.RowKitTokens
import Derived.Defers
import Derived.Recover
namespace Go.Proofs.YtinciphhoieonaaGreatDoor
open Go.RowKit Go.Extern.Stop Go.Stop Go.Extern Go.ChangeShapes Go.WideShapes Go.ChangeAt
def PlHit (w0 w : World) (n : Int) (t : Nat) (w' : World) : Prop := ∃ b, b < w0.heap.size ∧ w0.cell? ⟨b, 0, none⟩ = some (.int .i64 n) ∧ Put1 w w' t (.pointer (some ⟨b, 0, none⟩))
theorem asPl_none {w0 w w' : World} {c : Int} {l : List Wr} {t : Nat} {e : Ending} (h : AsPl w0 w c l t e w') (hn : firstPl l = none) : e = .returned (.bool false) ∧ Below w.heap.size w w' := by
  rcases h with ⟨_, he, hb⟩ | ⟨n, b, h1, _⟩
  · exact ⟨he, hb⟩
  · rw [hn] at h1; cases h1
theorem asPl_some {w0 w w' : World} {c n : Int} {l : List Wr} {t : Nat} {e : Ending} (h : AsPl w0 w c l t e w') (hn : firstPl l = some n) : e = .returned (.bool true) ∧ PlHit w0 w n t w' := by
  rcases h with ⟨h1, _⟩ | ⟨m, b, h1, he, hb, h0, hp⟩
  · rw [hn] at h1; cases h1
  · obtain rfl : n = m := Option.some.inj (hn.symm.trans h1)
    exact ⟨he, b, hb, h0, hp⟩
set_option maxRecDepth 100000 in
set_option maxHeartbeats 4000000 in
theorem As_fault_none (l : List Wr) (c : Int) (e : Value) (t : Nat) (old : Value) (w0 w : World) (hw0 : Below w0.heap.size w0 w) (hch : Ch w0 c l e) (hg : w.cell? ⟨1, 0, none⟩ = some (.iface 100 (.agg #[.pointer (some ⟨10, 35, none⟩)]))) (hgl : 1 < w.heap.size) (ht : w.cell? ⟨t, 0, none⟩ = some old) (htl : t < w.heap.size) (hf : w.frozen? ⟨t, 0, none⟩ = false) (hn : firstPl l = none) :
    Calls Tryz.prog 51 #[e, .iface 94 (.pointer (some ⟨t, 0, none⟩))] w fun e w' => e = .returned (.bool false) ∧ Below w.heap.size w w' := by
  have h62 := @run_callFunc_extern Tryz.prog 60 _ (fun args => ReflectliteValue.unpack (args.getD 0 (.tuple #[]))) Tryz.func60 (by kernel_rfl) (by kernel_rfl) (by kernel_rfl) (by kernel_rfl)
  have h63 := @run_callFunc_extern Tryz.prog 61 _ (ReflectliteValue.methodAny (ReflectliteValue.valueError "reflectlite.Value.Type" 0) (fun t _ _ _ => ReflectliteType.toType t)) Tryz.func61 (by kernel_rfl) (by kernel_rfl) (by kernel_rfl) (by kernel_rfl)
  have h64 := @run_callFunc_extern Tryz.prog 62 _ (ReflectliteValue.method (ReflectliteValue.valueError "reflectlite.Value.IsNil" 0) ReflectliteValue.isNil) Tryz.func62 (by kernel_rfl) (by kernel_rfl) (by kernel_rfl) (by kernel_rfl)
  have h82 := @run_callFunc_extern Tryz.prog 121 _ (ReflectliteType.abiMethod fun t => do pure (.int .u8 (← Rtype.kind t))) Tryz.func121 (by kernel_rfl) (by kernel_rfl) (by kernel_rfl) (by kernel_rfl)
  have h99 := @run_callFunc_extern Tryz.prog 131 _ (ReflectliteType.method ReflectliteType.elem) Tryz.func131 (by kernel_rfl) (by kernel_rfl) (by kernel_rfl) (by kernel_rfl)
  have h100 := @run_callFunc_extern Tryz.prog 132 _ (ReflectliteType.relation "Implements" ReflectliteType.implements_) Tryz.func132 (by kernel_rfl) (by kernel_rfl) (by kernel_rfl) (by kernel_rfl)
  have f6 := valueOf_pfault
  have f7 := type_pfault
  have mK := methodKind
  have mE := methodElem
  have mI := methodImplements
  have k1 := kind_pfault
  have k2 := kind_fault
  have e1 := elem_pfault
  have i1 := implements_fault
  have n8 := isNil_pfault ⟨w.heap.size, 0, none⟩ ⟨t, 0, none⟩ ((w.alloc (.cells #[.pointer (some ⟨t, 0, none⟩)] 94)).alloc (.cells #[.pointer (some ⟨10, 94, none⟩), .pointer (some ⟨w.heap.size, 0, none⟩), .int .u64 150] 116)) (by simp)
  have hg2 : ((w.alloc (.cells #[.pointer (some ⟨t, 0, none⟩)] 94)).alloc (.cells #[.pointer (some ⟨10, 94, none⟩), .pointer (some ⟨w.heap.size, 0, none⟩), .int .u64 150] 116)).cell? ⟨1, 0, none⟩ = some (.iface 100 (.agg #[.pointer (some ⟨10, 35, none⟩)])) := by
    rw [World.cell?_alloc_lt _ _ ⟨1, 0, none⟩ (by simp; omega), World.cell?_alloc_lt _ _ ⟨1, 0, none⟩ hgl]; exact hg
  have hB2 : Below w.heap.size w ((w.alloc (.cells #[.pointer (some ⟨t, 0, none⟩)] 94)).alloc (.cells #[.pointer (some ⟨10, 94, none⟩), .pointer (some ⟨w.heap.size, 0, none⟩), .int .u64 150] 116)) := by go_grown
  have HS := Lib.hid ((as_fault l c e t w.heap.size old w0 ((w.alloc (.cells #[.pointer (some ⟨t, 0, none⟩)] 94)).alloc (.cells #[.pointer (some ⟨10, 94, none⟩), .pointer (some ⟨w.heap.size, 0, none⟩), .int .u64 150] 116)) (Below.step hw0 hB2) hch (by simp) (by simp only [World.size_alloc]; omega) ((hB2.cell (p := ⟨t, 0, none⟩) htl).trans ht) (by simp only [World.size_alloc]; omega) ((hB2.frozen (p := ⟨t, 0, none⟩) htl).trans hf)).mono (R' := fun e w' => e = .returned (.bool false) ∧ Below ((w.alloc (.cells #[.pointer (some ⟨t, 0, none⟩)] 94)).alloc (.cells #[.pointer (some ⟨10, 94, none⟩), .pointer (some ⟨w.heap.size, 0, none⟩), .int .u64 150] 116)).heap.size ((w.alloc (.cells #[.pointer (some ⟨t, 0, none⟩)] 94)).alloc (.cells #[.pointer (some ⟨10, 94, none⟩), .pointer (some ⟨w.heap.size, 0, none⟩), .int .u64 150] 116)) w') fun e w' h => (asPl_none) h hn)
  obtain ⟨T', x', he⟩ := hch.iface
  subst he
  have HB2 := Lib.hid hB2
  clear hch hB2 ht hf hg hn
  go_enter Tryz.func51, Tryz.ntmps51
  go_wp2_with (go_at_call 63; (with_reducible refine HS.out.mono ?_); rintro ex w' ⟨rfl, hp⟩; have HP := Lib.hid hp; clear hp)
  go_ret
  exact ⟨rfl, Below.step HB2.out HP.out⟩
set_option maxRecDepth 100000 in
set_option maxHeartbeats 4000000 in
theorem As_fault_some (l : List Wr) (c : Int) (e : Value) (t : Nat) (old : Value) (w0 w : World) (hw0 : Below w0.heap.size w0 w) (hch : Ch w0 c l e) (hg : w.cell? ⟨1, 0, none⟩ = some (.iface 100 (.agg #[.pointer (some ⟨10, 35, none⟩)]))) (hgl : 1 < w.heap.size) (ht : w.cell? ⟨t, 0, none⟩ = some old) (htl : t < w.heap.size) (hf : w.frozen? ⟨t, 0, none⟩ = false) (n : Int) (hn : firstPl l = some n) :
    Calls Tryz.prog 51 #[e, .iface 94 (.pointer (some ⟨t, 0, none⟩))] w fun e w' => e = .returned (.bool true) ∧ PlHit w0 w n t w' := by
  have h62 := @run_callFunc_extern Tryz.prog 60 _ (fun args => ReflectliteValue.unpack (args.getD 0 (.tuple #[]))) Tryz.func60 (by kernel_rfl) (by kernel_rfl) (by kernel_rfl) (by kernel_rfl)
  have h63 := @run_callFunc_extern Tryz.prog 61 _ (ReflectliteValue.methodAny (ReflectliteValue.valueError "reflectlite.Value.Type" 0) (fun t _ _ _ => ReflectliteType.toType t)) Tryz.func61 (by kernel_rfl) (by kernel_rfl) (by kernel_rfl) (by kernel_rfl)
  have h64 := @run_callFunc_extern Tryz.prog 62 _ (ReflectliteValue.method (ReflectliteValue.valueError "reflectlite.Value.IsNil" 0) ReflectliteValue.isNil) Tryz.func62 (by kernel_rfl) (by kernel_rfl) (by kernel_rfl) (by kernel_rfl)
  have h82 := @run_callFunc_extern Tryz.prog 121 _ (ReflectliteType.abiMethod fun t => do pure (.int .u8 (← Rtype.kind t))) Tryz.func121 (by kernel_rfl) (by kernel_rfl) (by kernel_rfl) (by kernel_rfl)
  have h99 := @run_callFunc_extern Tryz.prog 131 _ (ReflectliteType.method ReflectliteType.elem) Tryz.func131 (by kernel_rfl) (by kernel_rfl) (by kernel_rfl) (by kernel_rfl)
  have h100 := @run_callFunc_extern Tryz.prog 132 _ (ReflectliteType.relation "Implements" ReflectliteType.implements_) Tryz.func132 (by kernel_rfl) (by kernel_rfl) (by kernel_rfl) (by kernel_rfl)
  have f6 := valueOf_pfault
  have f7 := type_pfault
  have mK := methodKind
  have mE := methodElem
  have mI := methodImplements
  have k1 := kind_pfault
  have k2 := kind_fault
  have e1 := elem_pfault
  have i1 := implements_fault
  have n8 := isNil_pfault ⟨w.heap.size, 0, none⟩ ⟨t, 0, none⟩ ((w.alloc (.cells #[.pointer (some ⟨t, 0, none⟩)] 94)).alloc (.cells #[.pointer (some ⟨10, 94, none⟩), .pointer (some ⟨w.heap.size, 0, none⟩), .int .u64 150] 116)) (by simp)
  have hg2 : ((w.alloc (.cells #[.pointer (some ⟨t, 0, none⟩)] 94)).alloc (.cells #[.pointer (some ⟨10, 94, none⟩), .pointer (some ⟨w.heap.size, 0, none⟩), .int .u64 150] 116)).cell? ⟨1, 0, none⟩ = some (.iface 100 (.agg #[.pointer (some ⟨10, 35, none⟩)])) := by
    rw [World.cell?_alloc_lt _ _ ⟨1, 0, none⟩ (by simp; omega), World.cell?_alloc_lt _ _ ⟨1, 0, none⟩ hgl]; exact hg
  have hB2 : Below w.heap.size w ((w.alloc (.cells #[.pointer (some ⟨t, 0, none⟩)] 94)).alloc (.cells #[.pointer (some ⟨10, 94, none⟩), .pointer (some ⟨w.heap.size, 0, none⟩), .int .u64 150] 116)) := by go_grown
  have HS := Lib.hid ((as_fault l c e t w.heap.size old w0 ((w.alloc (.cells #[.pointer (some ⟨t, 0, none⟩)] 94)).alloc (.cells #[.pointer (some ⟨10, 94, none⟩), .pointer (some ⟨w.heap.size, 0, none⟩), .int .u64 150] 116)) (Below.step hw0 hB2) hch (by simp) (by simp only [World.size_alloc]; omega) ((hB2.cell (p := ⟨t, 0, none⟩) htl).trans ht) (by simp only [World.size_alloc]; omega) ((hB2.frozen (p := ⟨t, 0, none⟩) htl).trans hf)).mono (R' := fun e w' => e = .returned (.bool true) ∧ PlHit w0 ((w.alloc (.cells #[.pointer (some ⟨t, 0, none⟩)] 94)).alloc (.cells #[.pointer (some ⟨10, 94, none⟩), .pointer (some ⟨w.heap.size, 0, none⟩), .int .u64 150] 116)) n t w') fun e w' h => (asPl_some) h hn)
  obtain ⟨T', x', he⟩ := hch.iface
  subst he
  have HB2 := Lib.hid hB2
  clear hch hB2 ht hf hg hn
  go_enter Tryz.func51, Tryz.ntmps51
  go_wp2_with (go_at_call 63; (with_reducible refine HS.out.mono ?_); rintro ex w' ⟨rfl, hp⟩; have HP := Lib.hid hp; clear hp)
  go_ret
  obtain ⟨b, hb, h0, hp⟩ := HP.out
  exact ⟨rfl, b, hb, h0, hp.after HB2.out htl⟩
set_option maxRecDepth 100000 in
set_option maxHeartbeats 4000000 in
theorem As_code_some (l : List Wr) (c : Int) (e : Value) (t : Nat) (old : Value) (w0 w : World) (hw0 : Below w0.heap.size w0 w) (hch : Ch w0 c l e) (hg : w.cell? ⟨1, 0, none⟩ = some (.iface 100 (.agg #[.pointer (some ⟨10, 35, none⟩)]))) (hgl : 1 < w.heap.size) (ht : w.cell? ⟨t, 0, none⟩ = some old) (htl : t < w.heap.size) (hf : w.frozen? ⟨t, 0, none⟩ = false) (hn : True) :
    Calls Tryz.prog 51 #[e, .iface 95 (.pointer (some ⟨t, 0, none⟩))] w fun e w' => e = .returned (.bool true) ∧ Put1 w w' t (.int .i64 c) := by
  have h62 := @run_callFunc_extern Tryz.prog 60 _ (fun args => ReflectliteValue.unpack (args.getD 0 (.tuple #[]))) Tryz.func60 (by kernel_rfl) (by kernel_rfl) (by kernel_rfl) (by kernel_rfl)
  have h63 := @run_callFunc_extern Tryz.prog 61 _ (ReflectliteValue.methodAny (ReflectliteValue.valueError "reflectlite.Value.Type" 0) (fun t _ _ _ => ReflectliteType.toType t)) Tryz.func61 (by kernel_rfl) (by kernel_rfl) (by kernel_rfl) (by kernel_rfl)
  have h64 := @run_callFunc_extern Tryz.prog 62 _ (ReflectliteValue.method (ReflectliteValue.valueError "reflectlite.Value.IsNil" 0) ReflectliteValue.isNil) Tryz.func62 (by kernel_rfl) (by kernel_rfl) (by kernel_rfl) (by kernel_rfl)
  have h82 := @run_callFunc_extern Tryz.prog 121 _ (ReflectliteType.abiMethod fun t => do pure (.int .u8 (← Rtype.kind t))) Tryz.func121 (by kernel_rfl) (by kernel_rfl) (by kernel_rfl) (by kernel_rfl)
  have h99 := @run_callFunc_extern Tryz.prog 131 _ (ReflectliteType.method ReflectliteType.elem) Tryz.func131 (by kernel_rfl) (by kernel_rfl) (by kernel_rfl) (by kernel_rfl)
  have h100 := @run_callFunc_extern Tryz.prog 132 _ (ReflectliteType.relation "Implements" ReflectliteType.implements_) Tryz.func132 (by kernel_rfl) (by kernel_rfl) (by kernel_rfl) (by kernel_rfl)
  have f6 := valueOf_pcode
  have f7 := type_pcode
  have mK := methodKind
  have mE := methodElem
  have mI := methodImplements
  have k1 := kind_pcode
  have k2 := kind_code
  have e1 := elem_pcode
  have i1 := implements_code
  have n8 := isNil_pcode ⟨w.heap.size, 0, none⟩ ⟨t, 0, none⟩ ((w.alloc (.cells #[.pointer (some ⟨t, 0, none⟩)] 95)).alloc (.cells #[.pointer (some ⟨10, 95, none⟩), .pointer (some ⟨w.heap.size, 0, none⟩), .int .u64 150] 116)) (by simp)
  have hg2 : ((w.alloc (.cells #[.pointer (some ⟨t, 0, none⟩)] 95)).alloc (.cells #[.pointer (some ⟨10, 95, none⟩), .pointer (some ⟨w.heap.size, 0, none⟩), .int .u64 150] 116)).cell? ⟨1, 0, none⟩ = some (.iface 100 (.agg #[.pointer (some ⟨10, 35, none⟩)])) := by
    rw [World.cell?_alloc_lt _ _ ⟨1, 0, none⟩ (by simp; omega), World.cell?_alloc_lt _ _ ⟨1, 0, none⟩ hgl]; exact hg
  have hB2 : Below w.heap.size w ((w.alloc (.cells #[.pointer (some ⟨t, 0, none⟩)] 95)).alloc (.cells #[.pointer (some ⟨10, 95, none⟩), .pointer (some ⟨w.heap.size, 0, none⟩), .int .u64 150] 116)) := by go_grown
  have HS := Lib.hid ((as_code l c e t w.heap.size old w0 ((w.alloc (.cells #[.pointer (some ⟨t, 0, none⟩)] 95)).alloc (.cells #[.pointer (some ⟨10, 95, none⟩), .pointer (some ⟨w.heap.size, 0, none⟩), .int .u64 150] 116)) (Below.step hw0 hB2) hch (by simp) (by simp only [World.size_alloc]; omega) ((hB2.cell (p := ⟨t, 0, none⟩) htl).trans ht) (by simp only [World.size_alloc]; omega) ((hB2.frozen (p := ⟨t, 0, none⟩) htl).trans hf)).mono (R' := fun e w' => e = .returned (.bool true) ∧ Put1 ((w.alloc (.cells #[.pointer (some ⟨t, 0, none⟩)] 95)).alloc (.cells #[.pointer (some ⟨10, 95, none⟩), .pointer (some ⟨w.heap.size, 0, none⟩), .int .u64 150] 116)) w' t (.int .i64 c)) fun e w' h => (fun h _ => h) h hn)
  obtain ⟨T', x', he⟩ := hch.iface
  subst he
  have HB2 := Lib.hid hB2
  clear hch hB2 ht hf hg hn
  go_enter Tryz.func51, Tryz.ntmps51
  go_wp2_with (go_at_call 63; (with_reducible refine HS.out.mono ?_); rintro ex w' ⟨rfl, hp⟩; have HP := Lib.hid hp; clear hp)
  go_ret
  exact ⟨rfl, HP.out.after HB2.out htl⟩
end Go.Proofs.YtinciphhoieonaaGreatDoor
