/-
  Several errors at once, by contracts: errors.Is, Has, errors.As, Code, All, First.
-/
import Derived.Test.YtdjdpbgemdmpiaaDoorRows
import Derived.Test.YtdjdpbgemdmpiaaDoorKit
import Derived.Test.YtdjdpbgemdmpiaaDoorAsF
import Derived.Test.YtdjdpbgemdmpiaaDoorAsC
import Derived.Test.YtdjdpbgemdmpiaaDoorAsD
import Derived.Test.YtdjdpbgemdmpiaaDoorAsE
import Derived.Test.YtdjdpbgemdmpiaaDoorApp
import Derived.Test.YtdjdpbgemdmpiaaDoorAsG
import Derived.Test.YtdjdpbgemdmpiaaDoorWraps
import Derived.Test.YtdjdpbgemdmpiaaDoorAwake1
import Derived.Test.YtdjdpbgemdmpiaaDoorIsC
import Derived.Lib.SliceRun
import Derived.Test.YtdjdpbgemdmpiaaDoorMany
import Derived.Deep.Slices
import Derived.Deep.Fields
import Derived.ChangeSame
import Derived.Deep.RegionLaw
import Derived.Deep.AppendLies
import Derived.WalkKit
import Derived.ProofKit
import Derived.OpenShut
import Derived.ShutString
import Derived.Below
import Derived.Outline
import Derived.WalkLawsBesides
import Derived.WalkSpells
import Derived.Handy
import Derived.Deep.QuietTactic
import Derived.BigQuiet
import Derived.RegionTactic
import Derived.ChangeAlike
import Derived.Lib.Hide
import Derived.Deep.LoopGhost
import Derived.Deep.RegionHeld3
import Derived.Deep.Cut
import Derived.Deep.CutRange
import Derived.Deep.DeepCutAuto
import Derived.Deep.CutBlock
import Derived.Deep.RegionLaw
import Derived.LaidEql
import Derived.Stop.Asserts
import Derived.RowKitTokens
import Derived.Defers
import Derived.Recover
namespace Go.Proofs.YtdjdpbgemdmpiaaDoor
open Go.RowKit Go.Extern.Stop Go.Stop Go.Extern Go.ChangeShapes Go.WideShapes Go.ChangeAt
theorem Sev.iface {w : World} {cs : List Int} {v : Value} (h : Sev w cs v) : ∃ x, v = .iface 101 x := by
  obtain ⟨b, g, cp, ys, hv, _⟩ := h
  exact ⟨_, hv⟩
set_option maxRecDepth 100000 in
set_option maxHeartbeats 4000000 in
theorem Is_sev (cs : List Int) (d : Int) (e : Value) (w : World) (h : Sev w cs e) (hn : cs.length ≤ 100) : Calls Tryd.prog 16 #[e, .iface 27 (.int .i64 d)] w (Hit w (cs.any (· == d))) := by
  have h8 := @run_callFunc_extern Tryd.prog 55 _ Extern.ReflectliteType.typeOf Tryd.func55 (by kernel_rfl) (by kernel_rfl) (by kernel_rfl) (by kernel_rfl)
  have h32 := @run_callFunc_extern Tryd.prog 98 _ cmpX Tryd.func98 (by kernel_rfl) (by kernel_rfl) (by kernel_rfl) (by kernel_rfl)
  have tT := typeOf_code
  have cT := isComparable
  have mR := isMethodComparable
  have HS := Lib.hid (is_sev cs d e w h hn)
  obtain ⟨x', he⟩ := h.iface
  subst he
  clear h hn
  generalize cs.any (· == d) = B at HS ⊢
  go_enter Tryd.func16, Tryd.ntmps16
  go_wp2_with (go_at_call 56; (with_reducible refine HS.out.mono ?_); rintro ex w' ⟨rfl, hp⟩; have HP := Lib.hid hp; clear hp)
  go_ret
  exact ⟨rfl, HP.out⟩
set_option maxHeartbeats 2000000 in
theorem has_sev (cs : List Int) (d : Int) (v : Value) (w : World) (h : Sev w cs v) (hn : cs.length ≤ 100) : Calls Tryd.prog 15 #[v, .int .i64 d] w (Hit w (cs.any (· == d))) := by
  have hmf : ∀ (fn : Fn) (first cap : Array Value) (w : World), (Instr.makeFunc fn first cap).run Tryd.prog w = .ok (.func fn first cap) w := fun _ _ _ _ => rfl
  have hB3 : Below w.heap.size w (w.alloc (.cells #[.bool false] 4)) := by go_grown
  have HS := Lib.hid (Is_sev cs d v (w.alloc (.cells #[.bool false] 4)) (h.below hB3) hn)
  have HB3 := Lib.hid hB3
  clear hB3 h hn
  generalize cs.any (· == d) = B at HS ⊢
  go_enter_defers Tryd.func15, Tryd.ntmps15
  go_wp2_with (go_at_call 16; (with_reducible refine HS.out.mono ?_); rintro ex w' ⟨rfl, hb⟩; have d0 := (hb.cell (p := ⟨w.heap.size, 0, none⟩) (by simp only [World.size_alloc]; omega)).trans (show (w.alloc (.cells #[.bool false] 4)).cell? ⟨w.heap.size, 0, none⟩ = some (.bool false) by simp [go_sem]); have f0 := (hb.frozen (p := ⟨w.heap.size, 0, none⟩) (by simp only [World.size_alloc]; omega)).trans (show (w.alloc (.cells #[.bool false] 4)).frozen? ⟨w.heap.size, 0, none⟩ = false by simp [go_sem]); have HP := Lib.hid (show Below w.heap.size w w' from Below.step HB3.out hb); clear hb)
  refine leaves_cons (f := 54) (args := #[.pointer (some ⟨w.heap.size, 0, none⟩)]) (by simp) (by simp [go_sem]) ?_
  refine (has_idle _ _).mono ?_
  rintro ex u' w'' ⟨rfl, rfl, rfl⟩
  simp [Leaves, settle, results, Tryd.results15, go_sem, d0, f0]
  exact ⟨rfl, HP.out.setCell (Nat.le_refl _) _⟩
set_option maxRecDepth 100000 in
set_option maxHeartbeats 4000000 in
theorem as_sev (c0 : Int) (cr : List Int) (e : Value) (t ab : Nat) (old : Value) (w : World) (h : Sev w (c0 :: cr) e) (hn : (c0 :: cr).length ≤ 100) (ha : w.cell? ⟨ab, 0, none⟩ = some (.pointer (some ⟨t, 0, none⟩))) (hal : ab < w.heap.size) (ht : w.cell? ⟨t, 0, none⟩ = some old) (htl : t < w.heap.size) (hf : w.frozen? ⟨t, 0, none⟩ = false) :
    Calls Tryd.prog 65 #[e, .iface 96 (.pointer (some ⟨t, 0, none⟩)), .agg #[.pointer (some ⟨1, 96, none⟩), .pointer (some ⟨ab, 0, none⟩), .int .u64 150], .iface 127 (.agg #[.pointer (some ⟨1, 27, none⟩)])] w fun e w' => e = .returned (.bool true) ∧ Put1 w w' t (.int .i64 c0) := by
  obtain ⟨b, g, cp, ys, rfl, hbl, hc, hr, hA, hne⟩ := h
  have h55 := @run_callFunc_extern Tryd.prog 55 _ ReflectliteType.typeOf Tryd.func55 (by kernel_rfl) (by kernel_rfl) (by kernel_rfl) (by kernel_rfl)
  have h97 := @run_callFunc_extern Tryd.prog 97 _ (ReflectliteType.relation "AssignableTo" ReflectliteType.assignableTo) Tryd.func97 (by kernel_rfl) (by kernel_rfl) (by kernel_rfl) (by kernel_rfl)
  have tO := typeOf_sev
  have mA := methodAssignableTo
  have a1 := assignable_sev_code
  have nA := noAs_sev
  have nU := noUnwrap_sev
  have hU := hasUnwraps_sev
  have mU := methodUnwrap_sev
  have hB1 : Below w.heap.size w (w.alloc (.cells #[.pointer (some ⟨1, 96, none⟩), .pointer (some ⟨ab, 0, none⟩), .int .u64 150] 118)) := by go_grown
  have hpos : 0 < ys.length := by rw [← hA.1]; simp
  rw [hA.1] at hc hn
  have HU := Lib.hid (unwrap_sev (b := b) (cp := cp) ((hB1.cell (p := ⟨b, 0, none⟩) hbl).trans hc) (hr.below hB1) (codes_one hA) hn hpos)
  have hc1 := (hB1.cell (p := ⟨b, 0, none⟩) hbl).trans hc
  obtain ⟨y0, h0⟩ : ∃ y0, ys[0]? = some y0 := ⟨ys[0], List.getElem?_eq_getElem hpos⟩
  have hy0 := hA.2 0 c0 y0 rfl h0
  obtain ⟨T', x', hy⟩ := hy0.iface
  subst hy
  have HY := Lib.hid hy0
  have H0 := Lib.hid h0
  have HB1 := Lib.hid hB1
  have HQ := Lib.hid (And.intro ha (And.intro ht hf))
  have hp0 : (0 : Int) < (ys.length : Int) := by omega
  have hn0 : (ys.length : Int) ≤ 100 := by omega
  clear hc hr hA hne hy0 h0 hB1 ha ht hf hc1 hn
  go_enter Tryd.func65, Tryd.ntmps65
  go_wp2_with fail
  refine wp_loop_rounds 1 ?_
  rw [rounds_succ]
  go_wp2_with (go_at_call 91; (with_reducible refine HU.out.mono ?_); rintro ex w2 ⟨g', cp', rfl, hr, hb⟩; have HR := Lib.hid hr; have HB := Lib.hid (Below.step HB1.out hb); have b0 := (hb.cell (p := ⟨w.heap.size, 0, none⟩) (by simp)).trans (show (w.alloc (.cells #[.pointer (some ⟨1, 96, none⟩), .pointer (some ⟨ab, 0, none⟩), .int .u64 150] 118)).cell? ⟨w.heap.size, 0, none⟩ = some (.pointer (some ⟨1, 96, none⟩)) by simp [go_sem]); have b1 := (hb.cell (p := ⟨w.heap.size, 1, none⟩) (by simp)).trans (show (w.alloc (.cells #[.pointer (some ⟨1, 96, none⟩), .pointer (some ⟨ab, 0, none⟩), .int .u64 150] 118)).cell? ⟨w.heap.size, 1, none⟩ = some (.pointer (some ⟨ab, 0, none⟩)) by simp [go_sem]); have b2 := (hb.cell (p := ⟨w.heap.size, 2, none⟩) (by simp)).trans (show (w.alloc (.cells #[.pointer (some ⟨1, 96, none⟩), .pointer (some ⟨ab, 0, none⟩), .int .u64 150] 118)).cell? ⟨w.heap.size, 2, none⟩ = some (.int .u64 150) by simp [go_sem]); have hz2 := hb.size; have y1 := hr.2 0 _ H0.out; have g1 := hr.1; clear hr hb)
  refine wp_loop_rounds 1 ?_
  rw [rounds_succ]
  go_wp2_with fail
  have hsz := HB.out.size
  refine (as_code [.wo ⟨#[119]⟩] c0 _ t ab old w w2 HB.out HY.out ((HB.out.cell (p := ⟨ab, 0, none⟩) hal).trans HQ.out.1) (by omega) ((HB.out.cell (p := ⟨t, 0, none⟩) htl).trans HQ.out.2.1) (by omega) ((HB.out.frozen (p := ⟨t, 0, none⟩) htl).trans HQ.out.2.2)).mono ?_
  rintro ex w3 ⟨rfl, hp⟩
  have HP := Lib.hid (hp.after HB.out htl)
  clear hp
  go_wp2_with fail
  go_ret
  exact ⟨rfl, HP.out⟩
set_option maxRecDepth 100000 in
set_option maxHeartbeats 4000000 in
theorem As_sev (c0 : Int) (cr : List Int) (e : Value) (t : Nat) (old : Value) (w : World) (h : Sev w (c0 :: cr) e) (hn : (c0 :: cr).length ≤ 100) (hg : w.cell? ⟨0, 0, none⟩ = some (.iface 127 (.agg #[.pointer (some ⟨1, 25, none⟩)]))) (hgl : 0 < w.heap.size) (ht : w.cell? ⟨t, 0, none⟩ = some old) (htl : t < w.heap.size) (hf : w.frozen? ⟨t, 0, none⟩ = false) :
    Calls Tryd.prog 50 #[e, .iface 96 (.pointer (some ⟨t, 0, none⟩))] w fun e w' => e = .returned (.bool true) ∧ Put1 w w' t (.int .i64 c0) := by
  have h62 := @run_callFunc_extern Tryd.prog 62 _ (fun args => ReflectliteValue.unpack (args.getD 0 (.tuple #[]))) Tryd.func62 (by kernel_rfl) (by kernel_rfl) (by kernel_rfl) (by kernel_rfl)
  have h63 := @run_callFunc_extern Tryd.prog 63 _ (ReflectliteValue.methodAny (ReflectliteValue.valueError "reflectlite.Value.Type" 0) (fun t _ _ _ => ReflectliteType.toType t)) Tryd.func63 (by kernel_rfl) (by kernel_rfl) (by kernel_rfl) (by kernel_rfl)
  have h64 := @run_callFunc_extern Tryd.prog 64 _ (ReflectliteValue.method (ReflectliteValue.valueError "reflectlite.Value.IsNil" 0) ReflectliteValue.isNil) Tryd.func64 (by kernel_rfl) (by kernel_rfl) (by kernel_rfl) (by kernel_rfl)
  have h82 := @run_callFunc_extern Tryd.prog 82 _ (ReflectliteType.abiMethod fun t => do pure (.int .u8 (← Rtype.kind t))) Tryd.func82 (by kernel_rfl) (by kernel_rfl) (by kernel_rfl) (by kernel_rfl)
  have h99 := @run_callFunc_extern Tryd.prog 99 _ (ReflectliteType.method ReflectliteType.elem) Tryd.func99 (by kernel_rfl) (by kernel_rfl) (by kernel_rfl) (by kernel_rfl)
  have h100 := @run_callFunc_extern Tryd.prog 100 _ (ReflectliteType.relation "Implements" ReflectliteType.implements_) Tryd.func100 (by kernel_rfl) (by kernel_rfl) (by kernel_rfl) (by kernel_rfl)
  have f6 := valueOf_pcode
  have f7 := type_pcode
  have mK := methodKind
  have mE := methodElem
  have mI := methodImplements
  have k1 := kind_pcode
  have k2 := kind_code
  have e1 := elem_pcode
  have i1 := implements_code
  have n8 := isNil_pcode ⟨w.heap.size, 0, none⟩ ⟨t, 0, none⟩ ((w.alloc (.cells #[.pointer (some ⟨t, 0, none⟩)] 96)).alloc (.cells #[.pointer (some ⟨1, 96, none⟩), .pointer (some ⟨w.heap.size, 0, none⟩), .int .u64 150] 118)) (by simp)
  have hg2 : ((w.alloc (.cells #[.pointer (some ⟨t, 0, none⟩)] 96)).alloc (.cells #[.pointer (some ⟨1, 96, none⟩), .pointer (some ⟨w.heap.size, 0, none⟩), .int .u64 150] 118)).cell? ⟨0, 0, none⟩ = some (.iface 127 (.agg #[.pointer (some ⟨1, 25, none⟩)])) := by
    rw [World.cell?_alloc_lt _ _ ⟨0, 0, none⟩ (by simp), World.cell?_alloc_lt _ _ ⟨0, 0, none⟩ hgl]; exact hg
  have hB2 : Below w.heap.size w ((w.alloc (.cells #[.pointer (some ⟨t, 0, none⟩)] 96)).alloc (.cells #[.pointer (some ⟨1, 96, none⟩), .pointer (some ⟨w.heap.size, 0, none⟩), .int .u64 150] 118)) := by go_grown
  have HS := Lib.hid (as_sev c0 cr e t w.heap.size old ((w.alloc (.cells #[.pointer (some ⟨t, 0, none⟩)] 96)).alloc (.cells #[.pointer (some ⟨1, 96, none⟩), .pointer (some ⟨w.heap.size, 0, none⟩), .int .u64 150] 118)) (h.below hB2) hn (by simp) (by simp only [World.size_alloc]; omega) ((hB2.cell (p := ⟨t, 0, none⟩) htl).trans ht) (by simp only [World.size_alloc]; omega) ((hB2.frozen (p := ⟨t, 0, none⟩) htl).trans hf))
  obtain ⟨x', he⟩ := h.iface
  subst he
  have HB2 := Lib.hid hB2
  clear h hB2 ht hf hg hn
  go_enter Tryd.func50, Tryd.ntmps50
  go_wp2_with (go_at_call 65; (with_reducible refine HS.out.mono ?_); rintro ex w' ⟨rfl, hp⟩; have HP := Lib.hid hp; clear hp)
  go_ret
  exact ⟨rfl, HP.out.after HB2.out htl⟩
set_option maxHeartbeats 2000000 in
theorem code_sev (c0 : Int) (cr : List Int) (v : Value) (w : World) (h : Sev w (c0 :: cr) v) (hn : (c0 :: cr).length ≤ 100) (hg : w.cell? ⟨0, 0, none⟩ = some (.iface 127 (.agg #[.pointer (some ⟨1, 25, none⟩)]))) (hgl : 0 < w.heap.size) :
    Calls Tryd.prog 14 #[v] w fun e w' => e = .returned (.int .i64 c0) ∧ Below w.heap.size w w' := by
  have hmf : ∀ (fn : Fn) (first cap : Array Value) (w : World), (Instr.makeFunc fn first cap).run Tryd.prog w = .ok (.func fn first cap) w := fun _ _ _ _ => rfl
  have hB3 : Below w.heap.size w (w.alloc (.cells #[.int .i64 0] 27)) := by go_grown
  have hg3 : (w.alloc (.cells #[.int .i64 0] 27)).cell? ⟨0, 0, none⟩ = some (.iface 127 (.agg #[.pointer (some ⟨1, 25, none⟩)])) := (hB3.cell (p := ⟨0, 0, none⟩) hgl).trans hg
  have HS := Lib.hid (As_sev c0 cr v w.heap.size (.int .i64 0) (w.alloc (.cells #[.int .i64 0] 27)) (h.below hB3) hn hg3 (Nat.lt_of_lt_of_le hgl hB3.size) (show (w.alloc (.cells #[.int .i64 0] 27)).cell? ⟨w.heap.size, 0, none⟩ = some (.int .i64 0) by simp [go_sem]) (show w.heap.size < (w.alloc (.cells #[.int .i64 0] 27)).heap.size by simp only [World.size_alloc]; omega) (show (w.alloc (.cells #[.int .i64 0] 27)).frozen? ⟨w.heap.size, 0, none⟩ = false by simp [go_sem]))
  have HB3 := Lib.hid hB3
  clear hB3 hg3 h hg hn
  go_enter_defers Tryd.func14, Tryd.ntmps14
  go_wp2_with (go_at_call 50; (with_reducible refine HS.out.mono ?_); rintro ex w' ⟨rfl, hp⟩; have d0 := hp.c; have f0 := hp.f; have HP := Lib.hid (show Below w.heap.size w w' from HB3.out.trans hp.b); clear hp)
  refine leaves_cons (f := 53) (args := #[.pointer (some ⟨w.heap.size, 0, none⟩)]) (by simp) (by simp [go_sem]) ?_
  refine (code_idle _ _).mono ?_
  rintro ex u' w'' ⟨rfl, rfl, rfl⟩
  simp [Leaves, settle, results, Tryd.results14, go_sem, d0, f0]
  exact HP.out.setCell (Nat.le_refl _) _
end Go.Proofs.YtdjdpbgemdmpiaaDoor
