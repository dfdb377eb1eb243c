/-
  errors.as, errors.As over a chain of faults and notes round a code.
-/
import Derived.Test.YtafnipgeeampjaaGreatDoorRows
import Derived.Test.YtafnipgeeampjaaGreatDoorKit
import Derived.Test.YtafnipgeeampjaaGreatDoorGsF
import Derived.Test.YtafnipgeeampjaaGreatDoorGsC
import Derived.WalkKit
import Derived.ProofKit
import Derived.OpenShut
import Derived.ShutString
import Derived.Below
import Derived.Outline
import Derived.WalkLawsBesides
import Derived.WalkSpells
import Derived.Handy
import Derived.Deep.QuietTactic
import Derived.BigQuiet
import Derived.RegionTactic
import Derived.ChangeAlike
import Derived.Lib.Hide
import Derived.Deep.LoopGhost
import Derived.Deep.RegionHeld3
import Derived.Deep.Cut
import Derived.Deep.CutRange
import Derived.Deep.DeepCutAuto
import Derived.Deep.CutBlock
import Derived.Deep.RegionLaw
import Derived.LaidEql
import Derived.Stop.Asserts
import Derived.RowKitTokens
import Derived.Defers
import Derived.Recover
namespace Go.Proofs.YtafnipgeeampjaaGreatDoor
open Go.RowKit Go.Extern.Stop Go.Stop Go.Extern Go.ChangeShapes Go.WideShapes Go.ChangeAt
def PlHit (w0 w : World) (n : Int) (t : Nat) (w' : World) : Prop := ∃ b, b < w0.heap.size ∧ w0.cell? ⟨b, 0, none⟩ = some (.int .i64 n) ∧ Put1 w w' t (.pointer (some ⟨b, 0, none⟩))
def WoHit (w0 w : World) (c : Int) (s : ByteArray) (l' : List Wr) (t : Nat) (w' : World) : Prop := ∃ b v', b < w0.heap.size ∧ w0.cell? ⟨b, 0, none⟩ = some (.string s) ∧ w0.cell? ⟨b, 1, none⟩ = some v' ∧ Ch w0 c l' v' ∧ Put1 w w' t (.pointer (some ⟨b, 0, none⟩))
theorem asPl_none {w0 w w' : World} {c : Int} {l : List Wr} {t : Nat} {e : Ending} (h : AsPl w0 w c l t e w') (hn : firstPl l = none) : e = .returned (.bool false) ∧ Below w.heap.size w w' := by
  rcases h with ⟨_, he, hb⟩ | ⟨n, b, h1, _⟩
  · exact ⟨he, hb⟩
  · rw [hn] at h1; cases h1
theorem asPl_some {w0 w w' : World} {c n : Int} {l : List Wr} {t : Nat} {e : Ending} (h : AsPl w0 w c l t e w') (hn : firstPl l = some n) : e = .returned (.bool true) ∧ PlHit w0 w n t w' := by
  rcases h with ⟨h1, _⟩ | ⟨m, b, h1, he, hb, h0, hp⟩
  · rw [hn] at h1; cases h1
  · obtain rfl : n = m := Option.some.inj (hn.symm.trans h1)
    exact ⟨he, b, hb, h0, hp⟩
theorem asWo_none {w0 w w' : World} {c : Int} {l : List Wr} {t : Nat} {e : Ending} (h : AsWo w0 w c l t e w') (hn : firstWo l = none) : e = .returned (.bool false) ∧ Below w.heap.size w w' := by
  rcases h with ⟨_, he, hb⟩ | ⟨s, l', b, v', h1, _⟩
  · exact ⟨he, hb⟩
  · rw [hn] at h1; cases h1
theorem asWo_some {w0 w w' : World} {c : Int} {s : ByteArray} {l l' : List Wr} {t : Nat} {e : Ending} (h : AsWo w0 w c l t e w') (hn : firstWo l = some (s, l')) : e = .returned (.bool true) ∧ WoHit w0 w c s l' t w' := by
  rcases h with ⟨h1, _⟩ | ⟨s2, l2, b, v', h1, he, hb, h0, h3, h4, hp⟩
  · rw [hn] at h1; cases h1
  · have hi := Prod.mk.inj (Option.some.inj (hn.symm.trans h1))
    obtain ⟨rfl, rfl⟩ := hi
    exact ⟨he, b, v', hb, h0, h3, h4, hp⟩
set_option maxRecDepth 100000 in
set_option maxHeartbeats 4000000 in
theorem As_fault_none (l : List Wr) (c : Int) (e : Value) (t : Nat) (old : Value) (w0 w : World) (hw0 : Below w0.heap.size w0 w) (hch : Ch w0 c l e) (hg : w.cell? ⟨0, 0, none⟩ = some (.iface 97 (.agg #[.pointer (some ⟨9, 27, none⟩)]))) (hgl : 0 < w.heap.size) (ht : w.cell? ⟨t, 0, none⟩ = some old) (htl : t < w.heap.size) (hf : w.frozen? ⟨t, 0, none⟩ = false) (hn : firstPl l = none) :
    Calls Tryz.prog 21 #[e, .iface 56 (.pointer (some ⟨t, 0, none⟩))] w fun e w' => e = .returned (.bool false) ∧ Below w.heap.size w w' := by
  have h62 := @run_callFunc_extern Tryz.prog 36 _ (fun args => ReflectliteValue.unpack (args.getD 0 (.tuple #[]))) Tryz.func36 (by kernel_rfl) (by kernel_rfl) (by kernel_rfl) (by kernel_rfl)
  have h63 := @run_callFunc_extern Tryz.prog 37 _ (ReflectliteValue.methodAny (ReflectliteValue.valueError "reflectlite.Value.Type" 0) (fun t _ _ _ => ReflectliteType.toType t)) Tryz.func37 (by kernel_rfl) (by kernel_rfl) (by kernel_rfl) (by kernel_rfl)
  have h64 := @run_callFunc_extern Tryz.prog 38 _ (ReflectliteValue.method (ReflectliteValue.valueError "reflectlite.Value.IsNil" 0) ReflectliteValue.isNil) Tryz.func38 (by kernel_rfl) (by kernel_rfl) (by kernel_rfl) (by kernel_rfl)
  have h82 := @run_callFunc_extern Tryz.prog 111 _ (ReflectliteType.abiMethod fun t => do pure (.int .u8 (← Rtype.kind t))) Tryz.func111 (by kernel_rfl) (by kernel_rfl) (by kernel_rfl) (by kernel_rfl)
  have h99 := @run_callFunc_extern Tryz.prog 125 _ (ReflectliteType.method ReflectliteType.elem) Tryz.func125 (by kernel_rfl) (by kernel_rfl) (by kernel_rfl) (by kernel_rfl)
  have h100 := @run_callFunc_extern Tryz.prog 126 _ (ReflectliteType.relation "Implements" ReflectliteType.implements_) Tryz.func126 (by kernel_rfl) (by kernel_rfl) (by kernel_rfl) (by kernel_rfl)
  have f6 := valueOf_pfault
  have f7 := type_pfault
  have mK := methodKind
  have mE := methodElem
  have mI := methodImplements
  have k1 := kind_pfault
  have k2 := kind_fault
  have e1 := elem_pfault
  have i1 := implements_fault
  have n8 := isNil_pfault ⟨w.heap.size, 0, none⟩ ⟨t, 0, none⟩ ((w.alloc (.cells #[.pointer (some ⟨t, 0, none⟩)] 56)).alloc (.cells #[.pointer (some ⟨9, 56, none⟩), .pointer (some ⟨w.heap.size, 0, none⟩), .int .u64 150] 78)) (by simp)
  have hg2 : ((w.alloc (.cells #[.pointer (some ⟨t, 0, none⟩)] 56)).alloc (.cells #[.pointer (some ⟨9, 56, none⟩), .pointer (some ⟨w.heap.size, 0, none⟩), .int .u64 150] 78)).cell? ⟨0, 0, none⟩ = some (.iface 97 (.agg #[.pointer (some ⟨9, 27, none⟩)])) := by
    rw [World.cell?_alloc_lt _ _ ⟨0, 0, none⟩ (by simp), World.cell?_alloc_lt _ _ ⟨0, 0, none⟩ hgl]; exact hg
  have hB2 : Below w.heap.size w ((w.alloc (.cells #[.pointer (some ⟨t, 0, none⟩)] 56)).alloc (.cells #[.pointer (some ⟨9, 56, none⟩), .pointer (some ⟨w.heap.size, 0, none⟩), .int .u64 150] 78)) := by go_grown
  have HS := Lib.hid ((as_fault l c e t w.heap.size old w0 ((w.alloc (.cells #[.pointer (some ⟨t, 0, none⟩)] 56)).alloc (.cells #[.pointer (some ⟨9, 56, none⟩), .pointer (some ⟨w.heap.size, 0, none⟩), .int .u64 150] 78)) (Below.step hw0 hB2) hch (by simp) (by simp only [World.size_alloc]; omega) ((hB2.cell (p := ⟨t, 0, none⟩) htl).trans ht) (by simp only [World.size_alloc]; omega) ((hB2.frozen (p := ⟨t, 0, none⟩) htl).trans hf)).mono (R' := fun e w' => e = .returned (.bool false) ∧ Below ((w.alloc (.cells #[.pointer (some ⟨t, 0, none⟩)] 56)).alloc (.cells #[.pointer (some ⟨9, 56, none⟩), .pointer (some ⟨w.heap.size, 0, none⟩), .int .u64 150] 78)).heap.size ((w.alloc (.cells #[.pointer (some ⟨t, 0, none⟩)] 56)).alloc (.cells #[.pointer (some ⟨9, 56, none⟩), .pointer (some ⟨w.heap.size, 0, none⟩), .int .u64 150] 78)) w') fun e w' h => (asPl_none) h hn)
  obtain ⟨T', x', he⟩ := hch.iface
  subst he
  have HB2 := Lib.hid hB2
  clear hch hB2 ht hf hg hn
  go_enter Tryz.func21, Tryz.ntmps21
  go_wp2_with (go_at_call 39; (with_reducible refine HS.out.mono ?_); rintro ex w' ⟨rfl, hp⟩; have HP := Lib.hid hp; clear hp)
  go_ret
  exact ⟨rfl, Below.step HB2.out HP.out⟩
set_option maxRecDepth 100000 in
set_option maxHeartbeats 4000000 in
theorem As_fault_some (l : List Wr) (c : Int) (e : Value) (t : Nat) (old : Value) (w0 w : World) (hw0 : Below w0.heap.size w0 w) (hch : Ch w0 c l e) (hg : w.cell? ⟨0, 0, none⟩ = some (.iface 97 (.agg #[.pointer (some ⟨9, 27, none⟩)]))) (hgl : 0 < w.heap.size) (ht : w.cell? ⟨t, 0, none⟩ = some old) (htl : t < w.heap.size) (hf : w.frozen? ⟨t, 0, none⟩ = false) (n : Int) (hn : firstPl l = some n) :
    Calls Tryz.prog 21 #[e, .iface 56 (.pointer (some ⟨t, 0, none⟩))] w fun e w' => e = .returned (.bool true) ∧ PlHit w0 w n t w' := by
  have h62 := @run_callFunc_extern Tryz.prog 36 _ (fun args => ReflectliteValue.unpack (args.getD 0 (.tuple #[]))) Tryz.func36 (by kernel_rfl) (by kernel_rfl) (by kernel_rfl) (by kernel_rfl)
  have h63 := @run_callFunc_extern Tryz.prog 37 _ (ReflectliteValue.methodAny (ReflectliteValue.valueError "reflectlite.Value.Type" 0) (fun t _ _ _ => ReflectliteType.toType t)) Tryz.func37 (by kernel_rfl) (by kernel_rfl) (by kernel_rfl) (by kernel_rfl)
  have h64 := @run_callFunc_extern Tryz.prog 38 _ (ReflectliteValue.method (ReflectliteValue.valueError "reflectlite.Value.IsNil" 0) ReflectliteValue.isNil) Tryz.func38 (by kernel_rfl) (by kernel_rfl) (by kernel_rfl) (by kernel_rfl)
  have h82 := @run_callFunc_extern Tryz.prog 111 _ (ReflectliteType.abiMethod fun t => do pure (.int .u8 (← Rtype.kind t))) Tryz.func111 (by kernel_rfl) (by kernel_rfl) (by kernel_rfl) (by kernel_rfl)
  have h99 := @run_callFunc_extern Tryz.prog 125 _ (ReflectliteType.method ReflectliteType.elem) Tryz.func125 (by kernel_rfl) (by kernel_rfl) (by kernel_rfl) (by kernel_rfl)
  have h100 := @run_callFunc_extern Tryz.prog 126 _ (ReflectliteType.relation "Implements" ReflectliteType.implements_) Tryz.func126 (by kernel_rfl) (by kernel_rfl) (by kernel_rfl) (by kernel_rfl)
  have f6 := valueOf_pfault
  have f7 := type_pfault
  have mK := methodKind
  have mE := methodElem
  have mI := methodImplements
  have k1 := kind_pfault
  have k2 := kind_fault
  have e1 := elem_pfault
  have i1 := implements_fault
  have n8 := isNil_pfault ⟨w.heap.size, 0, none⟩ ⟨t, 0, none⟩ ((w.alloc (.cells #[.pointer (some ⟨t, 0, none⟩)] 56)).alloc (.cells #[.pointer (some ⟨9, 56, none⟩), .pointer (some ⟨w.heap.size, 0, none⟩), .int .u64 150] 78)) (by simp)
  have hg2 : ((w.alloc (.cells #[.pointer (some ⟨t, 0, none⟩)] 56)).alloc (.cells #[.pointer (some ⟨9, 56, none⟩), .pointer (some ⟨w.heap.size, 0, none⟩), .int .u64 150] 78)).cell? ⟨0, 0, none⟩ = some (.iface 97 (.agg #[.pointer (some ⟨9, 27, none⟩)])) := by
    rw [World.cell?_alloc_lt _ _ ⟨0, 0, none⟩ (by simp), World.cell?_alloc_lt _ _ ⟨0, 0, none⟩ hgl]; exact hg
  have hB2 : Below w.heap.size w ((w.alloc (.cells #[.pointer (some ⟨t, 0, none⟩)] 56)).alloc (.cells #[.pointer (some ⟨9, 56, none⟩), .pointer (some ⟨w.heap.size, 0, none⟩), .int .u64 150] 78)) := by go_grown
  have HS := Lib.hid ((as_fault l c e t w.heap.size old w0 ((w.alloc (.cells #[.pointer (some ⟨t, 0, none⟩)] 56)).alloc (.cells #[.pointer (some ⟨9, 56, none⟩), .pointer (some ⟨w.heap.size, 0, none⟩), .int .u64 150] 78)) (Below.step hw0 hB2) hch (by simp) (by simp only [World.size_alloc]; omega) ((hB2.cell (p := ⟨t, 0, none⟩) htl).trans ht) (by simp only [World.size_alloc]; omega) ((hB2.frozen (p := ⟨t, 0, none⟩) htl).trans hf)).mono (R' := fun e w' => e = .returned (.bool true) ∧ PlHit w0 ((w.alloc (.cells #[.pointer (some ⟨t, 0, none⟩)] 56)).alloc (.cells #[.pointer (some ⟨9, 56, none⟩), .pointer (some ⟨w.heap.size, 0, none⟩), .int .u64 150] 78)) n t w') fun e w' h => (asPl_some) h hn)
  obtain ⟨T', x', he⟩ := hch.iface
  subst he
  have HB2 := Lib.hid hB2
  clear hch hB2 ht hf hg hn
  go_enter Tryz.func21, Tryz.ntmps21
  go_wp2_with (go_at_call 39; (with_reducible refine HS.out.mono ?_); rintro ex w' ⟨rfl, hp⟩; have HP := Lib.hid hp; clear hp)
  go_ret
  obtain ⟨b, hb, h0, hp⟩ := HP.out
  exact ⟨rfl, b, hb, h0, hp.after HB2.out htl⟩
set_option maxRecDepth 100000 in
set_option maxHeartbeats 4000000 in
theorem As_note_none (l : List Wr) (c : Int) (e : Value) (t : Nat) (old : Value) (w0 w : World) (hw0 : Below w0.heap.size w0 w) (hch : Ch w0 c l e) (hg : w.cell? ⟨0, 0, none⟩ = some (.iface 97 (.agg #[.pointer (some ⟨9, 27, none⟩)]))) (hgl : 0 < w.heap.size) (ht : w.cell? ⟨t, 0, none⟩ = some old) (htl : t < w.heap.size) (hf : w.frozen? ⟨t, 0, none⟩ = false) (hn : firstWo l = none) :
    Calls Tryz.prog 21 #[e, .iface 87 (.pointer (some ⟨t, 0, none⟩))] w fun e w' => e = .returned (.bool false) ∧ Below w.heap.size w w' := by
  have h62 := @run_callFunc_extern Tryz.prog 36 _ (fun args => ReflectliteValue.unpack (args.getD 0 (.tuple #[]))) Tryz.func36 (by kernel_rfl) (by kernel_rfl) (by kernel_rfl) (by kernel_rfl)
  have h63 := @run_callFunc_extern Tryz.prog 37 _ (ReflectliteValue.methodAny (ReflectliteValue.valueError "reflectlite.Value.Type" 0) (fun t _ _ _ => ReflectliteType.toType t)) Tryz.func37 (by kernel_rfl) (by kernel_rfl) (by kernel_rfl) (by kernel_rfl)
  have h64 := @run_callFunc_extern Tryz.prog 38 _ (ReflectliteValue.method (ReflectliteValue.valueError "reflectlite.Value.IsNil" 0) ReflectliteValue.isNil) Tryz.func38 (by kernel_rfl) (by kernel_rfl) (by kernel_rfl) (by kernel_rfl)
  have h82 := @run_callFunc_extern Tryz.prog 111 _ (ReflectliteType.abiMethod fun t => do pure (.int .u8 (← Rtype.kind t))) Tryz.func111 (by kernel_rfl) (by kernel_rfl) (by kernel_rfl) (by kernel_rfl)
  have h99 := @run_callFunc_extern Tryz.prog 125 _ (ReflectliteType.method ReflectliteType.elem) Tryz.func125 (by kernel_rfl) (by kernel_rfl) (by kernel_rfl) (by kernel_rfl)
  have h100 := @run_callFunc_extern Tryz.prog 126 _ (ReflectliteType.relation "Implements" ReflectliteType.implements_) Tryz.func126 (by kernel_rfl) (by kernel_rfl) (by kernel_rfl) (by kernel_rfl)
  have f6 := valueOf_pnote
  have f7 := type_pnote
  have mK := methodKind
  have mE := methodElem
  have mI := methodImplements
  have k1 := kind_pnote
  have k2 := kind_note
  have e1 := elem_pnote
  have i1 := implements_note
  have n8 := isNil_pnote ⟨w.heap.size, 0, none⟩ ⟨t, 0, none⟩ ((w.alloc (.cells #[.pointer (some ⟨t, 0, none⟩)] 87)).alloc (.cells #[.pointer (some ⟨9, 87, none⟩), .pointer (some ⟨w.heap.size, 0, none⟩), .int .u64 150] 78)) (by simp)
  have hg2 : ((w.alloc (.cells #[.pointer (some ⟨t, 0, none⟩)] 87)).alloc (.cells #[.pointer (some ⟨9, 87, none⟩), .pointer (some ⟨w.heap.size, 0, none⟩), .int .u64 150] 78)).cell? ⟨0, 0, none⟩ = some (.iface 97 (.agg #[.pointer (some ⟨9, 27, none⟩)])) := by
    rw [World.cell?_alloc_lt _ _ ⟨0, 0, none⟩ (by simp), World.cell?_alloc_lt _ _ ⟨0, 0, none⟩ hgl]; exact hg
  have hB2 : Below w.heap.size w ((w.alloc (.cells #[.pointer (some ⟨t, 0, none⟩)] 87)).alloc (.cells #[.pointer (some ⟨9, 87, none⟩), .pointer (some ⟨w.heap.size, 0, none⟩), .int .u64 150] 78)) := by go_grown
  have HS := Lib.hid ((as_note l c e t w.heap.size old w0 ((w.alloc (.cells #[.pointer (some ⟨t, 0, none⟩)] 87)).alloc (.cells #[.pointer (some ⟨9, 87, none⟩), .pointer (some ⟨w.heap.size, 0, none⟩), .int .u64 150] 78)) (Below.step hw0 hB2) hch (by simp) (by simp only [World.size_alloc]; omega) ((hB2.cell (p := ⟨t, 0, none⟩) htl).trans ht) (by simp only [World.size_alloc]; omega) ((hB2.frozen (p := ⟨t, 0, none⟩) htl).trans hf)).mono (R' := fun e w' => e = .returned (.bool false) ∧ Below ((w.alloc (.cells #[.pointer (some ⟨t, 0, none⟩)] 87)).alloc (.cells #[.pointer (some ⟨9, 87, none⟩), .pointer (some ⟨w.heap.size, 0, none⟩), .int .u64 150] 78)).heap.size ((w.alloc (.cells #[.pointer (some ⟨t, 0, none⟩)] 87)).alloc (.cells #[.pointer (some ⟨9, 87, none⟩), .pointer (some ⟨w.heap.size, 0, none⟩), .int .u64 150] 78)) w') fun e w' h => (asWo_none) h hn)
  obtain ⟨T', x', he⟩ := hch.iface
  subst he
  have HB2 := Lib.hid hB2
  clear hch hB2 ht hf hg hn
  go_enter Tryz.func21, Tryz.ntmps21
  go_wp2_with (go_at_call 39; (with_reducible refine HS.out.mono ?_); rintro ex w' ⟨rfl, hp⟩; have HP := Lib.hid hp; clear hp)
  go_ret
  exact ⟨rfl, Below.step HB2.out HP.out⟩
set_option maxRecDepth 100000 in
set_option maxHeartbeats 4000000 in
theorem As_note_some (l : List Wr) (c : Int) (e : Value) (t : Nat) (old : Value) (w0 w : World) (hw0 : Below w0.heap.size w0 w) (hch : Ch w0 c l e) (hg : w.cell? ⟨0, 0, none⟩ = some (.iface 97 (.agg #[.pointer (some ⟨9, 27, none⟩)]))) (hgl : 0 < w.heap.size) (ht : w.cell? ⟨t, 0, none⟩ = some old) (htl : t < w.heap.size) (hf : w.frozen? ⟨t, 0, none⟩ = false) (s : ByteArray) (l' : List Wr) (hn : firstWo l = some (s, l')) :
    Calls Tryz.prog 21 #[e, .iface 87 (.pointer (some ⟨t, 0, none⟩))] w fun e w' => e = .returned (.bool true) ∧ WoHit w0 w c s l' t w' := by
  have h62 := @run_callFunc_extern Tryz.prog 36 _ (fun args => ReflectliteValue.unpack (args.getD 0 (.tuple #[]))) Tryz.func36 (by kernel_rfl) (by kernel_rfl) (by kernel_rfl) (by kernel_rfl)
  have h63 := @run_callFunc_extern Tryz.prog 37 _ (ReflectliteValue.methodAny (ReflectliteValue.valueError "reflectlite.Value.Type" 0) (fun t _ _ _ => ReflectliteType.toType t)) Tryz.func37 (by kernel_rfl) (by kernel_rfl) (by kernel_rfl) (by kernel_rfl)
  have h64 := @run_callFunc_extern Tryz.prog 38 _ (ReflectliteValue.method (ReflectliteValue.valueError "reflectlite.Value.IsNil" 0) ReflectliteValue.isNil) Tryz.func38 (by kernel_rfl) (by kernel_rfl) (by kernel_rfl) (by kernel_rfl)
  have h82 := @run_callFunc_extern Tryz.prog 111 _ (ReflectliteType.abiMethod fun t => do pure (.int .u8 (← Rtype.kind t))) Tryz.func111 (by kernel_rfl) (by kernel_rfl) (by kernel_rfl) (by kernel_rfl)
  have h99 := @run_callFunc_extern Tryz.prog 125 _ (ReflectliteType.method ReflectliteType.elem) Tryz.func125 (by kernel_rfl) (by kernel_rfl) (by kernel_rfl) (by kernel_rfl)
  have h100 := @run_callFunc_extern Tryz.prog 126 _ (ReflectliteType.relation "Implements" ReflectliteType.implements_) Tryz.func126 (by kernel_rfl) (by kernel_rfl) (by kernel_rfl) (by kernel_rfl)
  have f6 := valueOf_pnote
  have f7 := type_pnote
  have mK := methodKind
  have mE := methodElem
  have mI := methodImplements
  have k1 := kind_pnote
  have k2 := kind_note
  have e1 := elem_pnote
  have i1 := implements_note
  have n8 := isNil_pnote ⟨w.heap.size, 0, none⟩ ⟨t, 0, none⟩ ((w.alloc (.cells #[.pointer (some ⟨t, 0, none⟩)] 87)).alloc (.cells #[.pointer (some ⟨9, 87, none⟩), .pointer (some ⟨w.heap.size, 0, none⟩), .int .u64 150] 78)) (by simp)
  have hg2 : ((w.alloc (.cells #[.pointer (some ⟨t, 0, none⟩)] 87)).alloc (.cells #[.pointer (some ⟨9, 87, none⟩), .pointer (some ⟨w.heap.size, 0, none⟩), .int .u64 150] 78)).cell? ⟨0, 0, none⟩ = some (.iface 97 (.agg #[.pointer (some ⟨9, 27, none⟩)])) := by
    rw [World.cell?_alloc_lt _ _ ⟨0, 0, none⟩ (by simp), World.cell?_alloc_lt _ _ ⟨0, 0, none⟩ hgl]; exact hg
  have hB2 : Below w.heap.size w ((w.alloc (.cells #[.pointer (some ⟨t, 0, none⟩)] 87)).alloc (.cells #[.pointer (some ⟨9, 87, none⟩), .pointer (some ⟨w.heap.size, 0, none⟩), .int .u64 150] 78)) := by go_grown
  have HS := Lib.hid ((as_note l c e t w.heap.size old w0 ((w.alloc (.cells #[.pointer (some ⟨t, 0, none⟩)] 87)).alloc (.cells #[.pointer (some ⟨9, 87, none⟩), .pointer (some ⟨w.heap.size, 0, none⟩), .int .u64 150] 78)) (Below.step hw0 hB2) hch (by simp) (by simp only [World.size_alloc]; omega) ((hB2.cell (p := ⟨t, 0, none⟩) htl).trans ht) (by simp only [World.size_alloc]; omega) ((hB2.frozen (p := ⟨t, 0, none⟩) htl).trans hf)).mono (R' := fun e w' => e = .returned (.bool true) ∧ WoHit w0 ((w.alloc (.cells #[.pointer (some ⟨t, 0, none⟩)] 87)).alloc (.cells #[.pointer (some ⟨9, 87, none⟩), .pointer (some ⟨w.heap.size, 0, none⟩), .int .u64 150] 78)) c s l' t w') fun e w' h => (asWo_some) h hn)
  obtain ⟨T', x', he⟩ := hch.iface
  subst he
  have HB2 := Lib.hid hB2
  clear hch hB2 ht hf hg hn
  go_enter Tryz.func21, Tryz.ntmps21
  go_wp2_with (go_at_call 39; (with_reducible refine HS.out.mono ?_); rintro ex w' ⟨rfl, hp⟩; have HP := Lib.hid hp; clear hp)
  go_ret
  obtain ⟨b, v', hb, h0, h1, h2, hp⟩ := HP.out
  exact ⟨rfl, b, v', hb, h0, h1, h2, hp.after HB2.out htl⟩
end Go.Proofs.YtafnipgeeampjaaGreatDoor
