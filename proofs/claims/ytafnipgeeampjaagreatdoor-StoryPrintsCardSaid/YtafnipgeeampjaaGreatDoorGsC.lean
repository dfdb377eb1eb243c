/-
  errors.as, errors.As over a chain of faults and notes round a code.
-/
import Derived.Test.YtafnipgeeampjaaGreatDoorRows
import Derived.Test.YtafnipgeeampjaaGreatDoorKit
import Derived.Test.YtafnipgeeampjaaGreatDoorGsF
import Derived.WalkKit
import Derived.ProofKit
import Derived.OpenShut
import Derived.ShutString
import Derived.Below
import Derived.Outline
import Derived.WalkLawsBesides
import Derived.WalkSpells
import Derived.Handy
import Derived.Deep.QuietTactic
import Derived.BigQuiet
import Derived.RegionTactic
import Derived.ChangeAlike
import Derived.Lib.Hide
import Derived.Deep.LoopGhost
import Derived.Deep.RegionHeld3
import Derived.Deep.Cut
import Derived.Deep.CutRange
import Derived.Deep.DeepCutAuto
import Derived.Deep.CutBlock
import Derived.Deep.RegionLaw
import Derived.LaidEql
import Derived.Stop.Asserts
import Derived.RowKitTokens
import Derived.Defers
import Derived.Recover
namespace Go.Proofs.YtafnipgeeampjaaGreatDoor
open Go.RowKit Go.Extern.Stop Go.Stop Go.Extern Go.ChangeShapes Go.WideShapes Go.ChangeAt
/-- A wrapping: a place, or a word. -/
inductive Wr where
  | pl (n : Int)
  | wo (s : ByteArray)
def Wr.ty : Wr → TypeId
  | .pl _ => 54
  | .wo _ => 59
def Wr.val : Wr → Value
  | .pl n => .int .i64 n
  | .wo s => .string s
/-- A value is an error: wrappings round a code. -/
def Ch (w : World) (c : Int) : List Wr → Value → Prop
  | [], v => v = .iface 64 (.int .i64 c)
  | x :: l, v => ∃ (b : Nat) (v' : Value), v = .iface x.ty (.pointer (some ⟨b, 0, none⟩)) ∧ b < w.heap.size ∧ w.cell? ⟨b, 0, none⟩ = some x.val ∧ w.cell? ⟨b, 1, none⟩ = some v' ∧ Ch w c l v'
theorem Ch.keep {w w' : World} {c : Int} (hk : ∀ b o, b < w.heap.size → w'.cell? ⟨b, o, none⟩ = w.cell? ⟨b, o, none⟩) (hs : w.heap.size ≤ w'.heap.size) : ∀ {l : List Wr} {v : Value}, Ch w c l v → Ch w' c l v
  | [], _, h => h
  | _ :: _, _, ⟨b, v', e, hb, h0, h1, h2⟩ => ⟨b, v', e, Nat.lt_of_lt_of_le hb hs, (hk b 0 hb).trans h0, (hk b 1 hb).trans h1, Ch.keep hk hs h2⟩
theorem Ch.below {w w' : World} {c : Int} {l : List Wr} {v : Value} (h : Ch w c l v) (hb : Below w.heap.size w w') : Ch w' c l v := h.keep (fun b o hl => hb.cell (p := ⟨b, o, none⟩) hl) hb.size
theorem Ch.iface {w : World} {c : Int} {l : List Wr} {v : Value} (h : Ch w c l v) : ∃ T x, v = .iface T x := by
  cases l with
  | nil => exact ⟨_, _, h⟩
  | cons x l => obtain ⟨b, v', e, _⟩ := h; exact ⟨_, _, e⟩
def firstPl : List Wr → Option Int
  | [] => none
  | .pl n :: _ => some n
  | .wo _ :: l => firstPl l
def firstWo : List Wr → Option (ByteArray × List Wr)
  | [] => none
  | .pl _ :: l => firstWo l
  | .wo s :: l => some (s, l)
/-- One variable has been set; all else that was is as it was. -/
structure Put1 (w w' : World) (t : Nat) (v : Value) : Prop where
  c : w'.cell? ⟨t, 0, none⟩ = some v
  f : w'.frozen? ⟨t, 0, none⟩ = false
  b : Below t w w'
  o : ∀ k, k < w.heap.size → k ≠ t → w'.heap[k]? = w.heap[k]?
theorem put1_of {w wr : World} {t : Nat} {old : Value} (hB : Below w.heap.size w wr) (ht : w.cell? ⟨t, 0, none⟩ = some old) (htl : t < w.heap.size) (hf : w.frozen? ⟨t, 0, none⟩ = false) (v : Value) (o : Obj) : Put1 w ((wr.setCell ⟨t, 0, none⟩ v).alloc o) t v := by
  have hs := hB.size
  have hl : t < (wr.setCell ⟨t, 0, none⟩ v).heap.size := by simp only [World.size_setCell]; omega
  refine ⟨?_, ?_, ?_, fun k hk hne => ?_⟩
  · rw [World.cell?_alloc_lt _ _ ⟨t, 0, none⟩ hl]
    exact World.cell?_setCell_same _ _ _ ((hB.cell (p := ⟨t, 0, none⟩) htl).trans ht)
  · rw [World.frozen?_alloc_old _ _ ⟨t, 0, none⟩ (Nat.ne_of_lt hl)]
    simp only [World.frozen?_setCell]
    exact (hB.frozen (p := ⟨t, 0, none⟩) htl).trans hf
  · exact ((hB.mono (Nat.le_of_lt htl)).setCell (Nat.le_refl _) _).alloc (Nat.le_of_lt hl) _
  · rw [Below.heap_alloc _ _ _ (by simp only [World.size_setCell]; omega), Below.heap_setCell _ _ _ _ (show k ≠ t from hne)]
    exact hB.block k hk
theorem Put1.cell {w w' : World} {t : Nat} {v : Value} (h : Put1 w w' t v) (b o : Nat) (hb : b < w.heap.size) (hne : b ≠ t) : w'.cell? ⟨b, o, none⟩ = w.cell? ⟨b, o, none⟩ := World.cell?_of_block (a := ⟨b, o, none⟩) (h.o b hb hne)
theorem Put1.frozen {w w' : World} {t : Nat} {v : Value} (h : Put1 w w' t v) (b o : Nat) (hb : b < w.heap.size) (hne : b ≠ t) : w'.frozen? ⟨b, o, none⟩ = w.frozen? ⟨b, o, none⟩ := World.frozen?_of_block (a := ⟨b, o, none⟩) (h.o b hb hne)
theorem Put1.after {w W2 w' : World} {t : Nat} {v : Value} (h : Put1 W2 w' t v) (hb : Below w.heap.size w W2) (htl : t < w.heap.size) : Put1 w w' t v :=
  ⟨h.c, h.f, (hb.mono (Nat.le_of_lt htl)).trans h.b, fun k hk hne => (h.o k (Nat.lt_of_lt_of_le hk hb.size) hne).trans (hb.block k hk)⟩
/-- What errors.as answers. -/
def AsPl (w0 w : World) (c : Int) (l : List Wr) (t : Nat) (e : Ending) (w' : World) : Prop :=
  (firstPl l = none ∧ e = .returned (.bool false) ∧ Below w.heap.size w w') ∨
  ∃ n b, firstPl l = some n ∧ e = .returned (.bool true) ∧ b < w0.heap.size ∧ w0.cell? ⟨b, 0, none⟩ = some (.int .i64 n) ∧ Put1 w w' t (.pointer (some ⟨b, 0, none⟩))
def AsWo (w0 w : World) (c : Int) (l : List Wr) (t : Nat) (e : Ending) (w' : World) : Prop :=
  (firstWo l = none ∧ e = .returned (.bool false) ∧ Below w.heap.size w w') ∨
  ∃ s l' b v', firstWo l = some (s, l') ∧ e = .returned (.bool true) ∧ b < w0.heap.size ∧ w0.cell? ⟨b, 0, none⟩ = some (.string s) ∧ w0.cell? ⟨b, 1, none⟩ = some v' ∧ Ch w0 c l' v' ∧ Put1 w w' t (.pointer (some ⟨b, 0, none⟩))
def AsCo (w0 w : World) (c : Int) (l : List Wr) (t : Nat) (e : Ending) (w' : World) : Prop :=
  e = .returned (.bool true) ∧ Put1 w w' t (.int .i64 c)
set_option maxRecDepth 100000 in
set_option maxHeartbeats 4000000 in
theorem as_fault (l : List Wr) (c : Int) (e : Value) (t ab : Nat) (old : Value) (w0 w : World) (hw0 : Below w0.heap.size w0 w) (hch : Ch w0 c l e) (ha : w.cell? ⟨ab, 0, none⟩ = some (.pointer (some ⟨t, 0, none⟩))) (hal : ab < w.heap.size) (ht : w.cell? ⟨t, 0, none⟩ = some old) (htl : t < w.heap.size) (hf : w.frozen? ⟨t, 0, none⟩ = false) :
    Calls Tryz.prog 39 #[e, .iface 56 (.pointer (some ⟨t, 0, none⟩)), .agg #[.pointer (some ⟨9, 56, none⟩), .pointer (some ⟨ab, 0, none⟩), .int .u64 150], .iface 97 (.agg #[.pointer (some ⟨9, 54, none⟩)])] w (AsPl w0 w c l t) := by
  have h55 := @run_callFunc_extern Tryz.prog 40 _ ReflectliteType.typeOf Tryz.func40 (by kernel_rfl) (by kernel_rfl) (by kernel_rfl) (by kernel_rfl)
  have h62 := @run_callFunc_extern Tryz.prog 36 _ (fun args => ReflectliteValue.unpack (args.getD 0 (.tuple #[]))) Tryz.func36 (by kernel_rfl) (by kernel_rfl) (by kernel_rfl) (by kernel_rfl)
  have h97 := @run_callFunc_extern Tryz.prog 123 _ (ReflectliteType.relation "AssignableTo" ReflectliteType.assignableTo) Tryz.func123 (by kernel_rfl) (by kernel_rfl) (by kernel_rfl) (by kernel_rfl)
  have h66 := @run_callFunc_extern Tryz.prog 49 _ (ReflectliteValue.method (ReflectliteValue.valueError "reflectlite.Value.Elem" 0) ReflectliteValue.elem) Tryz.func49 (by kernel_rfl) (by kernel_rfl) (by kernel_rfl) (by kernel_rfl)
  have h67 := @run_callFunc_extern Tryz.prog 50 _ ReflectliteValue.set Tryz.func50 (by kernel_rfl) (by kernel_rfl) (by kernel_rfl) (by kernel_rfl)
  have tO := typeOf_code
  have tO2 := typeOf_fault
  have tO3 := typeOf_note
  have mA := methodAssignableTo
  have a1 := assignable_code_fault
  have a2 := assignable_fault_fault
  have a3 := assignable_note_fault
  have vO := valueOf_fault
  have nA1 := noAs_code
  have nA2 := noAs_fault
  have nA3 := noAs_note
  have nU := noUnwrap_code
  have nUs := noUnwraps_code
  have hU2 := hasUnwrap_fault
  have hU3 := hasUnwrap_note
  have mU2 := methodUnwrap_fault
  have mU3 := methodUnwrap_note
  have HA := Lib.hid ha
  have HT := Lib.hid ht
  have HF := Lib.hid hf
  have HC := Lib.hid hch
  clear ha ht hf hch
  go_enter Tryz.func39, Tryz.ntmps39
  go_wp2_with fail
  go_loopg [0] l.length (fun gk ev wr => ∃ l' : List Wr, gk = l'.length ∧ Hid (Ch w0 c l' ev) ∧ Hid (firstPl l' = firstPl l) ∧ Below (w.alloc (.cells #[.pointer (some ⟨9, 56, none⟩), .pointer (some ⟨ab, 0, none⟩), .int .u64 150] 78)).heap.size (w.alloc (.cells #[.pointer (some ⟨9, 56, none⟩), .pointer (some ⟨ab, 0, none⟩), .int .u64 150] 78)) wr)
  case atStart => exact ⟨l, rfl, HC, Lib.hid (by first | rfl | trivial), Below.refl _ _⟩
  case round =>
    obtain ⟨l', rfl, HCH, HK, hB⟩ := hrel
    have hBw : Below w.heap.size w wr := Below.trans (by go_grown) (hB.mono (by simp))
    have hB0 : Below w0.heap.size w0 wr := Below.step hw0 hBw
    have hsz := hB.size
    rw [World.size_alloc] at hsz
    have hza : ab < wr.heap.size := by omega
    have hzt : t < wr.heap.size := by omega
    have hzw : w.heap.size < wr.heap.size := by omega
    have cA : wr.cell? ⟨ab, 0, none⟩ = some (.pointer (some ⟨t, 0, none⟩)) := (hBw.cell (p := ⟨ab, 0, none⟩) hal).trans HA.out
    have b0 : wr.cell? ⟨w.heap.size, 0, none⟩ = some (.pointer (some ⟨9, 56, none⟩)) := (hB.cell (p := ⟨w.heap.size, 0, none⟩) (by simp)).trans (by simp)
    have b1 : wr.cell? ⟨w.heap.size, 1, none⟩ = some (.pointer (some ⟨ab, 0, none⟩)) := (hB.cell (p := ⟨w.heap.size, 1, none⟩) (by simp)).trans (by simp)
    have b2 : wr.cell? ⟨w.heap.size, 2, none⟩ = some (.int .u64 150) := (hB.cell (p := ⟨w.heap.size, 2, none⟩) (by simp)).trans (by simp)
    have el := elemV_pfault ⟨ab, 0, none⟩ ⟨t, 0, none⟩ wr cA
    have HTT := Lib.hid ((hBw.cell (p := ⟨t, 0, none⟩) htl).trans HT.out)
    have HFF := Lib.hid ((hBw.frozen (p := ⟨t, 0, none⟩) htl).trans HF.out)
    cases l' with
    | nil =>
      have he : u0 = .iface 64 (.int .i64 c) := HCH.out
      subst he
      have hk : firstPl l = none := HK.out.symm
      have HKN := Lib.hid hk
      clear hk
      go_wp2
      go_ret
      exact .inl ⟨HKN.out, rfl, hBw⟩
    | cons x l' =>
      cases x with
      | pl n =>
        obtain ⟨b, v', he, hbl, h0, h1, h2⟩ := HCH.out
        have he' : u0 = .iface 54 (.pointer (some ⟨b, 0, none⟩)) := he
        clear he
        subst he'
        obtain ⟨T', x', hv'⟩ := h2.iface
        subst hv'
        have H0 := Lib.hid h0
        have H1 := Lib.hid h1
        have c1 : wr.cell? ⟨b, 1, none⟩ = some (.iface T' x') := (hB0.cell (p := ⟨b, 1, none⟩) hbl).trans h1
        have H2 := Lib.hid h2
        clear h0 h1 h2 HCH
        have st := set_fault ⟨t, 0, none⟩ ⟨wr.heap.size, 0, none⟩ ⟨b, 0, none⟩ old (wr.alloc (.cells #[.pointer (some ⟨b, 0, none⟩)] 54)) (by simp) (by rw [World.cell?_alloc_lt _ _ ⟨t, 0, none⟩ hzt]; exact HTT.out) (by rw [World.frozen?_alloc_old _ _ ⟨t, 0, none⟩ (Nat.ne_of_lt hzt)]; exact HFF.out)
        go_wp2
        go_ret
        exact .inr ⟨n, b, HK.out.symm, rfl, hbl, H0.out, put1_of hBw HT.out htl HF.out _ _⟩
      | wo s =>
        obtain ⟨b, v', he, hbl, h0, h1, h2⟩ := HCH.out
        have he' : u0 = .iface 59 (.pointer (some ⟨b, 0, none⟩)) := he
        clear he
        subst he'
        obtain ⟨T', x', hv'⟩ := h2.iface
        subst hv'
        have H0 := Lib.hid h0
        have H1 := Lib.hid h1
        have c1 : wr.cell? ⟨b, 1, none⟩ = some (.iface T' x') := (hB0.cell (p := ⟨b, 1, none⟩) hbl).trans h1
        have H2 := Lib.hid h2
        clear h0 h1 h2 HCH
        go_wp2
        go_roundg l'.length
        case measure => simp
        case rel => exact ⟨l', rfl, H2, Lib.hid HK.out, hB⟩
set_option maxRecDepth 100000 in
set_option maxHeartbeats 4000000 in
theorem as_note (l : List Wr) (c : Int) (e : Value) (t ab : Nat) (old : Value) (w0 w : World) (hw0 : Below w0.heap.size w0 w) (hch : Ch w0 c l e) (ha : w.cell? ⟨ab, 0, none⟩ = some (.pointer (some ⟨t, 0, none⟩))) (hal : ab < w.heap.size) (ht : w.cell? ⟨t, 0, none⟩ = some old) (htl : t < w.heap.size) (hf : w.frozen? ⟨t, 0, none⟩ = false) :
    Calls Tryz.prog 39 #[e, .iface 87 (.pointer (some ⟨t, 0, none⟩)), .agg #[.pointer (some ⟨9, 87, none⟩), .pointer (some ⟨ab, 0, none⟩), .int .u64 150], .iface 97 (.agg #[.pointer (some ⟨9, 59, none⟩)])] w (AsWo w0 w c l t) := by
  have h55 := @run_callFunc_extern Tryz.prog 40 _ ReflectliteType.typeOf Tryz.func40 (by kernel_rfl) (by kernel_rfl) (by kernel_rfl) (by kernel_rfl)
  have h62 := @run_callFunc_extern Tryz.prog 36 _ (fun args => ReflectliteValue.unpack (args.getD 0 (.tuple #[]))) Tryz.func36 (by kernel_rfl) (by kernel_rfl) (by kernel_rfl) (by kernel_rfl)
  have h97 := @run_callFunc_extern Tryz.prog 123 _ (ReflectliteType.relation "AssignableTo" ReflectliteType.assignableTo) Tryz.func123 (by kernel_rfl) (by kernel_rfl) (by kernel_rfl) (by kernel_rfl)
  have h66 := @run_callFunc_extern Tryz.prog 49 _ (ReflectliteValue.method (ReflectliteValue.valueError "reflectlite.Value.Elem" 0) ReflectliteValue.elem) Tryz.func49 (by kernel_rfl) (by kernel_rfl) (by kernel_rfl) (by kernel_rfl)
  have h67 := @run_callFunc_extern Tryz.prog 50 _ ReflectliteValue.set Tryz.func50 (by kernel_rfl) (by kernel_rfl) (by kernel_rfl) (by kernel_rfl)
  have tO := typeOf_code
  have tO2 := typeOf_fault
  have tO3 := typeOf_note
  have mA := methodAssignableTo
  have a1 := assignable_code_note
  have a2 := assignable_fault_note
  have a3 := assignable_note_note
  have vO := valueOf_note
  have nA1 := noAs_code
  have nA2 := noAs_fault
  have nA3 := noAs_note
  have nU := noUnwrap_code
  have nUs := noUnwraps_code
  have hU2 := hasUnwrap_fault
  have hU3 := hasUnwrap_note
  have mU2 := methodUnwrap_fault
  have mU3 := methodUnwrap_note
  have HA := Lib.hid ha
  have HT := Lib.hid ht
  have HF := Lib.hid hf
  have HC := Lib.hid hch
  clear ha ht hf hch
  go_enter Tryz.func39, Tryz.ntmps39
  go_wp2_with fail
  go_loopg [0] l.length (fun gk ev wr => ∃ l' : List Wr, gk = l'.length ∧ Hid (Ch w0 c l' ev) ∧ Hid (firstWo l' = firstWo l) ∧ Below (w.alloc (.cells #[.pointer (some ⟨9, 87, none⟩), .pointer (some ⟨ab, 0, none⟩), .int .u64 150] 78)).heap.size (w.alloc (.cells #[.pointer (some ⟨9, 87, none⟩), .pointer (some ⟨ab, 0, none⟩), .int .u64 150] 78)) wr)
  case atStart => exact ⟨l, rfl, HC, Lib.hid (by first | rfl | trivial), Below.refl _ _⟩
  case round =>
    obtain ⟨l', rfl, HCH, HK, hB⟩ := hrel
    have hBw : Below w.heap.size w wr := Below.trans (by go_grown) (hB.mono (by simp))
    have hB0 : Below w0.heap.size w0 wr := Below.step hw0 hBw
    have hsz := hB.size
    rw [World.size_alloc] at hsz
    have hza : ab < wr.heap.size := by omega
    have hzt : t < wr.heap.size := by omega
    have hzw : w.heap.size < wr.heap.size := by omega
    have cA : wr.cell? ⟨ab, 0, none⟩ = some (.pointer (some ⟨t, 0, none⟩)) := (hBw.cell (p := ⟨ab, 0, none⟩) hal).trans HA.out
    have b0 : wr.cell? ⟨w.heap.size, 0, none⟩ = some (.pointer (some ⟨9, 87, none⟩)) := (hB.cell (p := ⟨w.heap.size, 0, none⟩) (by simp)).trans (by simp)
    have b1 : wr.cell? ⟨w.heap.size, 1, none⟩ = some (.pointer (some ⟨ab, 0, none⟩)) := (hB.cell (p := ⟨w.heap.size, 1, none⟩) (by simp)).trans (by simp)
    have b2 : wr.cell? ⟨w.heap.size, 2, none⟩ = some (.int .u64 150) := (hB.cell (p := ⟨w.heap.size, 2, none⟩) (by simp)).trans (by simp)
    have el := elemV_pnote ⟨ab, 0, none⟩ ⟨t, 0, none⟩ wr cA
    have HTT := Lib.hid ((hBw.cell (p := ⟨t, 0, none⟩) htl).trans HT.out)
    have HFF := Lib.hid ((hBw.frozen (p := ⟨t, 0, none⟩) htl).trans HF.out)
    cases l' with
    | nil =>
      have he : u0 = .iface 64 (.int .i64 c) := HCH.out
      subst he
      have hk : firstWo l = none := HK.out.symm
      have HKN := Lib.hid hk
      clear hk
      go_wp2
      go_ret
      exact .inl ⟨HKN.out, rfl, hBw⟩
    | cons x l' =>
      cases x with
      | pl n =>
        obtain ⟨b, v', he, hbl, h0, h1, h2⟩ := HCH.out
        have he' : u0 = .iface 54 (.pointer (some ⟨b, 0, none⟩)) := he
        clear he
        subst he'
        obtain ⟨T', x', hv'⟩ := h2.iface
        subst hv'
        have H0 := Lib.hid h0
        have H1 := Lib.hid h1
        have c1 : wr.cell? ⟨b, 1, none⟩ = some (.iface T' x') := (hB0.cell (p := ⟨b, 1, none⟩) hbl).trans h1
        have H2 := Lib.hid h2
        clear h0 h1 h2 HCH
        go_wp2
        go_roundg l'.length
        case measure => simp
        case rel => exact ⟨l', rfl, H2, Lib.hid HK.out, hB⟩
      | wo s =>
        obtain ⟨b, v', he, hbl, h0, h1, h2⟩ := HCH.out
        have he' : u0 = .iface 59 (.pointer (some ⟨b, 0, none⟩)) := he
        clear he
        subst he'
        obtain ⟨T', x', hv'⟩ := h2.iface
        subst hv'
        have H0 := Lib.hid h0
        have H1 := Lib.hid h1
        have c1 : wr.cell? ⟨b, 1, none⟩ = some (.iface T' x') := (hB0.cell (p := ⟨b, 1, none⟩) hbl).trans h1
        have H2 := Lib.hid h2
        clear h0 h1 h2 HCH
        have st := set_note ⟨t, 0, none⟩ ⟨wr.heap.size, 0, none⟩ ⟨b, 0, none⟩ old (wr.alloc (.cells #[.pointer (some ⟨b, 0, none⟩)] 59)) (by simp) (by rw [World.cell?_alloc_lt _ _ ⟨t, 0, none⟩ hzt]; exact HTT.out) (by rw [World.frozen?_alloc_old _ _ ⟨t, 0, none⟩ (Nat.ne_of_lt hzt)]; exact HFF.out)
        go_wp2
        go_ret
        exact .inr ⟨s, l', b, _, HK.out.symm, rfl, hbl, H0.out, H1.out, H2.out, put1_of hBw HT.out htl HF.out _ _⟩
end Go.Proofs.YtafnipgeeampjaaGreatDoor
