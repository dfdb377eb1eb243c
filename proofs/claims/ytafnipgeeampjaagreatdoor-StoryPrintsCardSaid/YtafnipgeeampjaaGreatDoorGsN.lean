/-
  errors.Is, Has, Num of a chain by their contracts; what the document says of wrappings.
-/
import Derived.Test.YtafnipgeeampjaaGreatDoorRows
import Derived.Test.YtafnipgeeampjaaGreatDoorKit
import Derived.Test.YtafnipgeeampjaaGreatDoorGsF
import Derived.Test.YtafnipgeeampjaaGreatDoorGsC
import Derived.Test.YtafnipgeeampjaaGreatDoorGsD
import Derived.Test.YtafnipgeeampjaaGreatDoorGsE
import Derived.Test.YtafnipgeeampjaaGreatDoorApp
import Derived.Test.YtafnipgeeampjaaGreatDoorGsG
import Derived.Deep.Slices
import Derived.Deep.Fields
import Derived.ChangeSame
import Derived.Deep.RegionLaw
import Derived.Deep.AppendLies
import Derived.WalkKit
import Derived.ProofKit
import Derived.OpenShut
import Derived.ShutString
import Derived.Below
import Derived.Outline
import Derived.WalkLawsBesides
import Derived.WalkSpells
import Derived.Handy
import Derived.Deep.QuietTactic
import Derived.BigQuiet
import Derived.RegionTactic
import Derived.ChangeAlike
import Derived.Lib.Hide
import Derived.Deep.LoopGhost
import Derived.Deep.RegionHeld3
import Derived.Deep.Cut
import Derived.Deep.CutRange
import Derived.Deep.DeepCutAuto
import Derived.Deep.CutBlock
import Derived.Deep.RegionLaw
import Derived.LaidEql
import Derived.Stop.Asserts
import Derived.RowKitTokens
import Derived.Defers
import Derived.Recover
namespace Go
section
variable {P : Program} (w : World)
theorem equalIn_iface_int_YtafnipgeeampjaaGreatDoor (d : Nat) {ti tn : TypeId} {ms : Array (String × TypeId)} {i : TypeInfo} {k : IntKind} (a b : Int)
    (hi : P.underlying ti = some (.interface ms)) (hn : P.underlying tn = some (.int k)) (hinfo : P.info? tn = some i) (hcomp : i.comparable = true) :
    (Op.equalIn (d + 2) ti (.iface tn (.int k a)) (.iface tn (.int k b))).run P w = .ok (a == b) w := by
  simp [Op.equalIn, run_underlying hi, run_underlying hn, typeInfo, hinfo, hcomp]
theorem eql_iface_int_YtafnipgeeampjaaGreatDoor {ti tn : TypeId} {ms : Array (String × TypeId)} {i : TypeInfo} {k : IntKind} (a b : Int)
    (hi : P.underlying ti = some (.interface ms)) (hn : P.underlying tn = some (.int k)) (hinfo : P.info? tn = some i) (hcomp : i.comparable = true) :
    (binOp .eql ti (.iface tn (.int k a)) (.iface tn (.int k b))).run P w = .ok (.bool (a == b)) w := by
  simp only [binOp]
  simp [Op.equal, Op.maxDepth, equalIn_iface_int_YtafnipgeeampjaaGreatDoor w 9998 a b hi hn hinfo hcomp]
end
end Go
namespace Go.Proofs.YtafnipgeeampjaaGreatDoor
open Go.RowKit Go.Extern.Stop Go.Stop Go.Extern Go.ChangeShapes Go.WideShapes Go.ChangeAt
def cmpX : Array Value → Sem Value := Extern.ReflectliteType.method fun t => do Extern.Rtype.noPackHeld "Comparable" t; pure (.bool (← typeInfo t).comparable)
theorem isComparable (w : World) : (cmpX #[.agg #[.pointer (some ⟨9, 64, none⟩)]]).run Tryz.prog w = .ok (.bool true) w := by kernel_rfl
theorem isMethodComparable (v : Value) (w : World) : (Go.method 297 97 v "Comparable").run Tryz.prog w = .ok (124, v) w := by kernel_rfl
theorem isComp : (Tryz.prog.info? 64).map (·.comparable) = some true := by kernel_rfl
theorem noIs_code (v : Value) (xT : TypeId) (w : World) : (Instr.typeAssert (.iface 64 v) xT 109 true).run Tryz.prog w = .ok (.tuple #[.nilIface, .bool false]) w := run_typeAssert_lacksB Tryz.underlying109 (by kernel_rfl) (by kernel_rfl) v xT w
theorem noIs_fault (v : Value) (xT : TypeId) (w : World) : (Instr.typeAssert (.iface 54 v) xT 109 true).run Tryz.prog w = .ok (.tuple #[.nilIface, .bool false]) w := run_typeAssert_lacksB Tryz.underlying109 (by kernel_rfl) (by kernel_rfl) v xT w
theorem noIs_note (v : Value) (xT : TypeId) (w : World) : (Instr.typeAssert (.iface 59 v) xT 109 true).run Tryz.prog w = .ok (.tuple #[.nilIface, .bool false]) w := run_typeAssert_lacksB Tryz.underlying109 (by kernel_rfl) (by kernel_rfl) v xT w
set_option maxRecDepth 100000 in
set_option maxHeartbeats 4000000 in
theorem is_ch (l : List Wr) (c d : Int) (B : Bool) (hcd : (c == d) = B) (e : Value) (w0 w : World) (hw0 : Below w0.heap.size w0 w) (hch : Ch w0 c l e) :
    Calls Tryz.prog 41 #[e, .iface 64 (.int .i64 d), .bool true] w fun e w' => e = .returned (.bool B) ∧ Below w.heap.size w w' := by
  obtain ⟨i, hi, hcmp⟩ := Option.map_eq_some_iff.1 isComp
  have nI1 := noIs_code
  have nI2 := noIs_fault
  have nI3 := noIs_note
  have nU := noUnwrap_code
  have nUs := noUnwraps_code
  have hU2 := hasUnwrap_fault
  have hU3 := hasUnwrap_note
  have mU2 := methodUnwrap_fault
  have mU3 := methodUnwrap_note
  have HI := Lib.hid (And.intro hi hcmp)
  have HC := Lib.hid hch
  have HCD := Lib.hid hcd
  clear hi hcmp hch hcd
  go_enter Tryz.func41, Tryz.ntmps41
  go_wp2_with fail
  go_loopg [0] l.length (fun gk ev wr => ∃ l' : List Wr, gk = l'.length ∧ Hid (Ch w0 c l' ev) ∧ Below w.heap.size w wr)
  case atStart => exact ⟨l, rfl, HC, Below.refl _ _⟩
  case round =>
    obtain ⟨l', rfl, HCH, hB⟩ := hrel
    have hB0 : Below w0.heap.size w0 wr := Below.step hw0 hB
    cases l' with
    | nil =>
      have he : u0 = .iface 64 (.int .i64 c) := HCH.out
      subst he
      have heq := eql_iface_int_YtafnipgeeampjaaGreatDoor (P := Tryz.prog) wr c d Tryz.underlying27 Tryz.underlying64 HI.out.1 HI.out.2
      rw [HCD.out] at heq
      cases B with
      | true =>
        go_wp2
        go_ret
        exact ⟨rfl, hB⟩
      | false =>
        go_wp2
        go_ret
        exact ⟨rfl, hB⟩
    | cons x l' =>
      cases x with
      | pl n =>
        obtain ⟨b, v', he, hbl, h0, h1, h2⟩ := HCH.out
        have he' : u0 = .iface 54 (.pointer (some ⟨b, 0, none⟩)) := he
        clear he
        subst he'
        obtain ⟨T', x', hv'⟩ := h2.iface
        subst hv'
        have c1 : wr.cell? ⟨b, 1, none⟩ = some (.iface T' x') := (hB0.cell (p := ⟨b, 1, none⟩) hbl).trans h1
        have H2 := Lib.hid h2
        have hty := run_eql_iface_types (P := Tryz.prog) 54 64 (.pointer (some ⟨b, 0, none⟩)) (.int .i64 d) Tryz.underlying27 (by decide) wr
        clear h0 h1 h2 HCH
        go_wp2
        go_roundg l'.length
        case measure => simp
        case rel => exact ⟨l', rfl, H2, hB⟩
      | wo s =>
        obtain ⟨b, v', he, hbl, h0, h1, h2⟩ := HCH.out
        have he' : u0 = .iface 59 (.pointer (some ⟨b, 0, none⟩)) := he
        clear he
        subst he'
        obtain ⟨T', x', hv'⟩ := h2.iface
        subst hv'
        have c1 : wr.cell? ⟨b, 1, none⟩ = some (.iface T' x') := (hB0.cell (p := ⟨b, 1, none⟩) hbl).trans h1
        have H2 := Lib.hid h2
        have hty := run_eql_iface_types (P := Tryz.prog) 59 64 (.pointer (some ⟨b, 0, none⟩)) (.int .i64 d) Tryz.underlying27 (by decide) wr
        clear h0 h1 h2 HCH
        go_wp2
        go_roundg l'.length
        case measure => simp
        case rel => exact ⟨l', rfl, H2, hB⟩
set_option maxRecDepth 100000 in
set_option maxHeartbeats 4000000 in
theorem Is_ch (l : List Wr) (c d : Int) (B : Bool) (hcd : (c == d) = B) (e : Value) (w0 w : World) (hw0 : Below w0.heap.size w0 w) (hch : Ch w0 c l e) :
    Calls Tryz.prog 24 #[e, .iface 64 (.int .i64 d)] w fun e w' => e = .returned (.bool B) ∧ Below w.heap.size w w' := by
  have h8 := @run_callFunc_extern Tryz.prog 40 _ Extern.ReflectliteType.typeOf Tryz.func40 (by kernel_rfl) (by kernel_rfl) (by kernel_rfl) (by kernel_rfl)
  have h32 := @run_callFunc_extern Tryz.prog 124 _ cmpX Tryz.func124 (by kernel_rfl) (by kernel_rfl) (by kernel_rfl) (by kernel_rfl)
  have tT := typeOf_code
  have cT := isComparable
  have mR := isMethodComparable
  have HS := Lib.hid (is_ch l c d B hcd e w0 w hw0 hch)
  obtain ⟨T', x', he⟩ := hch.iface
  subst he
  clear hch hcd
  go_enter Tryz.func24, Tryz.ntmps24
  go_wp2_with (go_at_call 41; (with_reducible refine HS.out.mono ?_); rintro ex w' ⟨rfl, hp⟩; have HP := Lib.hid hp; clear hp)
  go_ret
  exact ⟨rfl, HP.out⟩
set_option maxHeartbeats 2000000 in
theorem num_ch (l : List Wr) (c : Nat) (h1 : 1 ≤ c) (h2 : c ≤ 29) (v : Value) (w : World) (h : Ch w c l v) :
    Calls Tryz.prog 11 #[v] w fun e w' => e = .returned (.int .i64 c) ∧ Below w.heap.size w w' := by
  have HC := Lib.hid h
  obtain ⟨T', x', he⟩ := h.iface
  subst he
  clear h
  go_enter Tryz.func11, Tryz.ntmps11
  go_wp2_with fail
  go_loopw [3] (fun i wr => ∃ k : Nat, 1 ≤ k ∧ k ≤ c ∧ i = .int .i64 k ∧ Below w.heap.size w wr) (fun i _ => c + 1 - (intOf i).toNat)
  case atStart => exact ⟨1, by omega, by omega, rfl, Below.refl _ _⟩
  case round =>
    obtain ⟨k, hk0, hk, rfl, hB⟩ := hrel
    by_cases hkc : k = c
    · subst hkc
      go_wp2_with fail
      refine (Is_ch l (k : Int) (k : Int) true (by simp) _ w wr hB HC.out).mono ?_
      rintro e w1 ⟨rfl, hb1⟩
      have hB1 := Below.step hB hb1
      clear hb1
      go_wp2
      go_ret
      exact ⟨rfl, hB1⟩
    · have hlt : k < c := by omega
      have hne : ((c : Int) == (k : Int)) = false := by rw [beq_eq_false_iff_ne]; omega
      have HNE := Lib.hid hne
      clear hkc hne
      go_wp2_with fail
      refine (Is_ch l (c : Int) (k : Int) false HNE.out _ w wr hB HC.out).mono ?_
      rintro e w1 ⟨rfl, hb1⟩
      have hB1 := Below.step hB hb1
      clear hb1
      go_wp2_with fail
      go_roundw
      case rel => exact ⟨k + 1, by omega, by omega, by go_num, hB1⟩
      case measure => simp [intOf]; omega
theorem num_nil (w : World) : Calls Tryz.prog 11 #[.nilIface] w fun e w' => e = .returned (.int .i64 0) ∧ w = w' := by
  go_enter Tryz.func11, Tryz.ntmps11
  go_wp2
  go_ret
  exact ⟨rfl, rfl⟩
end Go.Proofs.YtafnipgeeampjaaGreatDoor
