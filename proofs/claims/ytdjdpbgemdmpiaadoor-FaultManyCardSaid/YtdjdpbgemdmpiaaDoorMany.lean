/-
  Several errors at once, by contracts: Clone, errors.is, errors.as.
-/
import Derived.Test.YtdjdpbgemdmpiaaDoorRows
import Derived.Test.YtdjdpbgemdmpiaaDoorKit
import Derived.Test.YtdjdpbgemdmpiaaDoorAsF
import Derived.Test.YtdjdpbgemdmpiaaDoorAsC
import Derived.Test.YtdjdpbgemdmpiaaDoorAsD
import Derived.Test.YtdjdpbgemdmpiaaDoorAsE
import Derived.Test.YtdjdpbgemdmpiaaDoorApp
import Derived.Test.YtdjdpbgemdmpiaaDoorAsG
import Derived.Test.YtdjdpbgemdmpiaaDoorWraps
import Derived.Test.YtdjdpbgemdmpiaaDoorAwake1
import Derived.Test.YtdjdpbgemdmpiaaDoorIsC
import Derived.Lib.SliceRun
import Derived.Deep.Slices
import Derived.Deep.Fields
import Derived.ChangeSame
import Derived.Deep.RegionLaw
import Derived.Deep.AppendLies
import Derived.WalkKit
import Derived.ProofKit
import Derived.OpenShut
import Derived.ShutString
import Derived.Below
import Derived.Outline
import Derived.WalkLawsBesides
import Derived.WalkSpells
import Derived.Handy
import Derived.Deep.QuietTactic
import Derived.BigQuiet
import Derived.RegionTactic
import Derived.ChangeAlike
import Derived.Lib.Hide
import Derived.Deep.LoopGhost
import Derived.Deep.RegionHeld3
import Derived.Deep.Cut
import Derived.Deep.CutRange
import Derived.Deep.DeepCutAuto
import Derived.Deep.CutBlock
import Derived.Deep.RegionLaw
import Derived.LaidEql
import Derived.Stop.Asserts
import Derived.RowKitTokens
import Derived.Defers
import Derived.Recover
namespace Go.Proofs.YtdjdpbgemdmpiaaDoor
open Go.RowKit Go.Extern.Stop Go.Stop Go.Extern Go.ChangeShapes Go.WideShapes Go.ChangeAt
def All2 {α : Type} (R : α → Value → Prop) (a : List α) (x : List Value) : Prop := a.length = x.length ∧ ∀ (k : Nat) (c : α) (y : Value), a[k]? = some c → x[k]? = some y → R c y
theorem All2.nil {α : Type} (R : α → Value → Prop) : All2 R [] [] := ⟨rfl, fun k c y h => by simp at h⟩
theorem All2.mono {α : Type} {R R' : α → Value → Prop} {a : List α} {x : List Value} (h : All2 R a x) (hr : ∀ c y, R c y → R' c y) : All2 R' a x := ⟨h.1, fun k c y h1 h2 => hr _ _ (h.2 k c y h1 h2)⟩
theorem All2.snoc {α : Type} {R : α → Value → Prop} {a : List α} {x : List Value} (h : All2 R a x) (c : α) (y : Value) (hc : R c y) : All2 R (a ++ [c]) (x ++ [y]) := by
  refine ⟨by simp [h.1], fun k c' y' h1 h2 => ?_⟩
  have hl := h.1
  by_cases hk : k < a.length
  · rw [List.getElem?_append_left hk] at h1
    rw [List.getElem?_append_left (by omega)] at h2
    exact h.2 k c' y' h1 h2
  · rw [List.getElem?_append_right (by omega)] at h1
    rw [List.getElem?_append_right (by omega)] at h2
    by_cases hz : k = a.length
    · have e1 : k - a.length = 0 := by omega
      have e2 : k - x.length = 0 := by omega
      rw [e1] at h1
      rw [e2] at h2
      obtain rfl : c = c' := by simpa using h1
      obtain rfl : y = y' := by simpa using h2
      exact hc
    · have : ([c] : List α)[k - a.length]? = none := List.getElem?_eq_none (by simp; omega)
      rw [this] at h1; cases h1
theorem All2.at_ {α : Type} {R : α → Value → Prop} {a : List α} {x : List Value} (h : All2 R a x) (k : Nat) (hk : k < a.length) : ∃ c y, a[k]? = some c ∧ x[k]? = some y ∧ R c y :=
  have hx : k < x.length := by rw [← h.1]; exact hk
  ⟨a[k], x[k], List.getElem?_eq_getElem hk, List.getElem?_eq_getElem hx, h.2 k _ _ (List.getElem?_eq_getElem hk) (List.getElem?_eq_getElem hx)⟩
/-- A row of errors in block g. -/
def ERow (w : World) (g : Nat) (ys : List Value) : Prop := g < w.heap.size ∧ ∀ k y, ys[k]? = some y → w.cell? ⟨g, k, none⟩ = some y
theorem ERow.below {w w' : World} {g : Nat} {ys : List Value} (h : ERow w g ys) (hb : Below w.heap.size w w') : ERow w' g ys := ⟨Nat.lt_of_lt_of_le h.1 hb.size, fun k y hy => (hb.cell (p := ⟨g, k, none⟩) h.1).trans (h.2 k y hy)⟩
theorem add_zero_of (g k : Nat) : (⟨g, 0, none⟩ : Addr).add k = ⟨g, k, none⟩ := by
  unfold Addr.add
  by_cases hz : k = 0
  · rw [if_pos hz, hz]
  · simp only [if_neg hz, Nat.zero_add]
theorem erow_own {w : World} {base : Nat} {A : Option Addr} {n cp : Nat} {ys : List Value} (h : w.ownsRow base 25 1 (.slice A n cp) n ys) (hn : 0 < n) : ∃ g, A = some ⟨g, 0, none⟩ ∧ ERow w g ys := by
  obtain ⟨g, cap, hv, hg1, hg2⟩ := World.ownsRow.form h hn
  have hA : A = some ⟨g, 0, none⟩ := by injection hv
  subst hA
  refine ⟨g, rfl, hg2, fun k y hy => ?_⟩
  have hc := World.ownsRow.cells h (g := g) rfl k y hy
  rw [add_zero_of] at hc
  exact hc
theorem infoE : (Tryd.prog.info? 25).map (fun i => (i.zero, i.size, i.bytes)) = some (some .nilIface, 1, 16) := by kernel_rfl
def IsI (y : Value) : Prop := ∃ T x, y = .iface T x
def Cl (w : World) (ys : List Value) (e : Ending) (w' : World) : Prop := ∃ g' cp', e = .returned (.slice (some ⟨g', 0, none⟩) ys.length cp') ∧ ERow w' g' ys ∧ Below w.heap.size w w'
set_option maxRecDepth 100000 in
set_option maxHeartbeats 2000000 in
theorem clone_err {w : World} {g cp : Nat} {ys : List Value} (h : ERow w g ys) (hi : ∀ y ∈ ys, y.oneCell' = true) (hn : ys.length ≤ 100) (hp : 0 < ys.length) : Calls Tryd.prog 92 #[.slice (some ⟨g, 0, none⟩) ys.length cp] w (Cl w ys) := by
  obtain ⟨i0, hi0, hz0, hz1, hz2⟩ := info_parts infoE
  have g1 := heap_alloc_new w (Obj.cells #[] 25)
  have HO := Lib.hid (show (w.alloc (Obj.cells #[] 25)).ownsRow w.heap.size 25 1 (.slice (some ⟨w.heap.size, 0, none⟩) 0 0) 0 [] from ⟨rfl, .inr ⟨w.heap.size, 0, #[], rfl, Nat.le_refl _, g1, Nat.le_refl _, Nat.zero_le _, rfl, rfl⟩⟩)
  have hb1 : Below w.heap.size w (w.alloc (Obj.cells #[] 25)) := by go_grown
  have HRD := Lib.hid (show Reads (w.alloc (Obj.cells #[] 25)) (w.alloc (Obj.cells #[] 25)).heap.size 1 (some ⟨g, 0, none⟩) ys.length ys from ⟨by simp, fun _ => ⟨_, rfl, (h.below hb1).1, fun j u hu => by rw [add_zero_of]; exact (h.below hb1).2 j u hu⟩⟩)
  have hq := Lib.run_eql_slice_nil (P := Tryd.prog) w 39 25 (some ⟨g, 0, none⟩) ys.length cp 0 0 Tryd.underlying39
  have N1 := Lib.hid (show 0 + ys.length ≤ maxLen from by unfold maxLen; omega)
  have N2 := Lib.hid (show (0 + ys.length) * 16 ≤ 140737488355328 from by omega)
  have N3 := Lib.hid (show w.heap.size ≤ (w.alloc (Obj.cells #[] 25)).heap.size from by simp)
  have NV := Lib.hid hi
  have HI := Lib.hid hi0
  have HZ0 := Lib.hid hz0
  have HZ1 := Lib.hid hz1
  have HZ2 := Lib.hid hz2
  have HP := Lib.hid hp
  obtain ⟨n, hlen⟩ : ∃ n, n = ys.length := ⟨_, rfl⟩
  rw [← hlen] at hq N1 N2 HRD ⊢
  have HLEN := Lib.hid hlen
  clear hi0 hz0 hz1 hz2 hn g1 h hi hp hlen
  go_enter Tryd.func92, Tryd.ntmps92
  go_wp2_with (at_builtin; refine wpList_append_any _ rfl (.tmp 5) (.tmp 6) 39 rfl w.heap.size 25 i0 .nilIface 1 16 Tryd.underlying39 HI.out HZ0.out HZ1.out HZ2.out rfl (by decide) (.slice (some ⟨w.heap.size, 0, none⟩) 0 0) 0 [] rfl HO.out _ (some ⟨g, 0, none⟩) n cp ys rfl HRD.out NV.out N1.out N2.out N3.out ?_; intro v' w' h2 h3 h4)
  go_ret
  obtain ⟨A, c, rfl⟩ := own_shape h2
  simp only [Nat.zero_add, List.nil_append] at h2
  obtain ⟨g', rfl, hr⟩ := erow_own h2 (by rw [HLEN.out]; exact HP.out)
  have hb : Below w.heap.size w w' := Below.grown hb1 h3 (by simp) (fun k e => by simp only [Value.ownBlock] at e; injection e with e; omega)
  exact ⟨g', c, by rw [← HLEN.out]; simp only [Nat.zero_add]; rfl, hr, hb⟩
/-- Several errors with codes cs. -/
def Sev (w : World) (cs : List Int) (v : Value) : Prop := ∃ b g cp ys, v = .iface 101 (.pointer (some ⟨b, 0, none⟩)) ∧ b < w.heap.size ∧ w.cell? ⟨b, 0, none⟩ = some (.slice (some ⟨g, 0, none⟩) cs.length cp) ∧ ERow w g ys ∧ All2 (fun c y => Ch w c [.wo ⟨#[119]⟩] y) cs ys ∧ cs ≠ []
theorem Sev.below {w w' : World} {cs : List Int} {v : Value} (h : Sev w cs v) (hb : Below w.heap.size w w') : Sev w' cs v := by
  obtain ⟨b, g, cp, ys, hv, hbl, hc, hr, ha, hn⟩ := h
  exact ⟨b, g, cp, ys, hv, Nat.lt_of_lt_of_le hbl hb.size, (hb.cell (p := ⟨b, 0, none⟩) hbl).trans hc, hr.below hb, ha.mono fun c y h => h.below hb, hn⟩
theorem ch_one {w : World} {c : Int} {l : List Wr} {y : Value} (h : Ch w c l y) : y.oneCell' = true := by
  obtain ⟨T, x, rfl⟩ := h.iface
  rfl
theorem codes_one {w : World} {cs : List Int} {ys : List Value} (h : All2 (fun c y => Ch w c [.wo ⟨#[119]⟩] y) cs ys) : ∀ y ∈ ys, y.oneCell' = true := by
  intro y hy
  obtain ⟨k, hk, rfl⟩ := List.mem_iff_getElem.1 hy
  have hc : k < cs.length := by rw [h.1]; exact hk
  exact ch_one (h.2 k (cs[k]) _ (List.getElem?_eq_getElem hc) (List.getElem?_eq_getElem hk))
set_option maxHeartbeats 2000000 in
theorem unwrap_sev {w : World} {b g cp : Nat} {ys : List Value} (hc : w.cell? ⟨b, 0, none⟩ = some (.slice (some ⟨g, 0, none⟩) ys.length cp)) (h : ERow w g ys) (hi : ∀ y ∈ ys, y.oneCell' = true) (hn : ys.length ≤ 100) (hp : 0 < ys.length) : Calls Tryd.prog 91 #[.pointer (some ⟨b, 0, none⟩)] w (Cl w ys) := by
  have HC := Lib.hid (clone_err (cp := cp) h hi hn hp)
  obtain ⟨n, hlen⟩ : ∃ n, n = ys.length := ⟨_, rfl⟩
  rw [← hlen] at hc HC
  have HLEN := Lib.hid hlen
  clear h hi hn hp hlen
  go_enter Tryd.func91, Tryd.ntmps91
  go_wp2_with fail
  refine HC.out.mono ?_
  rintro e w1 ⟨g', cp', rfl, hr, hb⟩
  have HR := Lib.hid hr
  clear hr
  go_wp2
  go_ret
  exact ⟨g', cp', rfl, HR.out, hb⟩
theorem noIs_sev (v : Value) (xT : TypeId) (w : World) : (Instr.typeAssert (.iface 101 v) xT 129 true).run Tryd.prog w = .ok (.tuple #[.nilIface, .bool false]) w := run_typeAssert_lacksB Tryd.underlying129 (by kernel_rfl) (by kernel_rfl) v xT w
theorem noAs_sev (v : Value) (xT : TypeId) (w : World) : (Instr.typeAssert (.iface 101 v) xT 138 true).run Tryd.prog w = .ok (.tuple #[.nilIface, .bool false]) w := run_typeAssert_lacksB Tryd.underlying138 (by kernel_rfl) (by kernel_rfl) v xT w
theorem noUnwrap_sev (v : Value) (xT : TypeId) (w : World) : (Instr.typeAssert (.iface 101 v) xT 132 true).run Tryd.prog w = .ok (.tuple #[.nilIface, .bool false]) w := run_typeAssert_lacksB Tryd.underlying132 (by kernel_rfl) (by kernel_rfl) v xT w
theorem hasUnwraps_sev (v : Value) (xT : TypeId) (w : World) : (Instr.typeAssert (.iface 101 v) xT 134 true).run Tryd.prog w = .ok (.tuple #[.iface 101 v, .bool true]) w := run_typeAssert_hasB Tryd.underlying134 (by kernel_rfl) v xT w
theorem methodUnwrap_sev (v : Value) (w : World) : (Go.method 271 101 v "Unwrap").run Tryd.prog w = .ok (91, v) w := by kernel_rfl
theorem typeOf_sev (v : Value) (w : World) : (ReflectliteType.typeOf #[.iface 101 v]).run Tryd.prog w = .ok (.iface 127 (.agg #[.pointer (some ⟨1, 101, none⟩)])) w := by kernel_rfl
theorem assignable_sev_code (w : World) : (ReflectliteType.relation "AssignableTo" ReflectliteType.assignableTo #[.agg #[.pointer (some ⟨1, 101, none⟩)], .iface 127 (.agg #[.pointer (some ⟨1, 27, none⟩)])]).run Tryd.prog w = .ok (.bool false) w := by kernel_rfl
def Hit (w : World) (B : Bool) (e : Ending) (w' : World) : Prop := e = .returned (.bool B) ∧ Below w.heap.size w w'
set_option maxRecDepth 100000 in
set_option maxHeartbeats 4000000 in
theorem is_sev (cs : List Int) (d : Int) (e : Value) (w : World) (h : Sev w cs e) (hn : cs.length ≤ 100) : Calls Tryd.prog 56 #[e, .iface 27 (.int .i64 d), .bool true] w (Hit w (cs.any (· == d))) := by
  obtain ⟨b, g, cp, ys, rfl, hbl, hc, hr, ha, hne⟩ := h
  have nI := noIs_sev
  have nU := noUnwrap_sev
  have hU := hasUnwraps_sev
  have mU := methodUnwrap_sev
  have hty := run_eql_iface_types (P := Tryd.prog) 101 27 (.pointer (some ⟨b, 0, none⟩)) (.int .i64 d) Tryd.underlying25 (by decide) w
  have HA := Lib.hid ha
  have hpos : 0 < ys.length := by rw [← ha.1]; exact List.length_pos_iff.2 hne
  rw [ha.1] at hc hn
  have HU := Lib.hid (unwrap_sev (b := b) hc hr (codes_one ha) hn hpos)
  clear hc hr hne hpos ha
  go_enter Tryd.func56, Tryd.ntmps56
  go_wp2_with fail
  refine wp_loop_rounds 1 ?_
  rw [rounds_succ]
  go_wp2_with (go_at_call 91; (with_reducible refine HU.out.mono ?_); rintro ex w1 ⟨g', cp', rfl, hr, hb⟩; have HR := Lib.hid hr; have HB := Lib.hid hb; clear hr hb)
  go_loopg [45] ys.length (fun gk i wr => ∃ k : Nat, gk = ys.length - k ∧ k ≤ ys.length ∧ i = .int .i64 k ∧ Hid (∀ j : Nat, j < k → ∀ c, cs[j]? = some c → (c == d) = false) ∧ Below w1.heap.size w1 wr)
  case atStart => exact ⟨0, rfl, Nat.zero_le _, rfl, Lib.hid (fun j hj => absurd hj (Nat.not_lt_zero _)), Below.refl _ _⟩
  case round =>
    obtain ⟨k, rfl, hk, rfl, HNO, hB⟩ := hrel
    by_cases hkl : k < ys.length
    · obtain ⟨c, y, h1, h2, h3⟩ := HA.out.at_ k (by rw [HA.out.1]; exact hkl)
      obtain ⟨T', x', hy⟩ := h3.iface
      subst hy
      have d1 := (hB.cell (p := ⟨g', k, none⟩) HR.out.1).trans (HR.out.2 k _ h2)
      have hgl := Nat.lt_of_lt_of_le HR.out.1 hB.size
      have hW : Below w.heap.size w wr := Below.step HB.out hB
      have H1 := Lib.hid h1
      have H3 := Lib.hid h3
      have HW := Lib.hid hW
      have k0 : (0 : Int) ≤ (k : Int) := by omega
      have k1 : (k : Int) < (ys.length : Int) := by omega
      have k2 : (k : Int) ≤ 100 := by omega
      have HM := Lib.hid (show ys.length - (k + 1) < ys.length - k by omega)
      have HK := Lib.hid hkl
      clear h1 h2 h3 hW
      cases hcd : (c == d) with
      | true =>
        have HCD := Lib.hid hcd
        clear hcd
        go_wp2_with fail
        refine (is_ch _ c d true HCD.out _ w wr HW.out H3.out).mono ?_
        rintro e w2 ⟨rfl, hb2⟩
        have HB2 := Lib.hid (Below.step HW.out hb2)
        clear hb2
        go_wp2
        go_ret
        refine ⟨?_, HB2.out⟩
        have hany : cs.any (· == d) = true := List.any_eq_true.2 ⟨c, List.mem_of_getElem? H1.out, HCD.out⟩
        rw [hany]
        rfl
      | false =>
        have HCD := Lib.hid hcd
        clear hcd
        go_wp2_with fail
        refine (is_ch _ c d false HCD.out _ w wr HW.out H3.out).mono ?_
        rintro e w2 ⟨rfl, hb2⟩
        have HB2 := Lib.hid (Below.step hB hb2)
        clear hb2
        go_wp2_with fail
        go_roundg (ys.length - (k + 1))
        case measure => exact HM.out
        case rel => exact ⟨k + 1, rfl, HK.out, by go_num, Lib.hid (fun j hj c' hc' => by
          by_cases hjk : j = k
          · subst hjk
            obtain rfl : c = c' := Option.some.inj (H1.out.symm.trans hc')
            exact HCD.out
          · exact HNO.out j (by omega) c' hc'), HB2.out⟩
    · have hkk : k = ys.length := by omega
      have HKK := Lib.hid hkk
      have k1 : (ys.length : Int) ≤ (k : Int) := by omega
      clear hkk hkl
      go_wp2
      go_ret
      refine ⟨?_, Below.step HB.out hB⟩
      have hany : cs.any (· == d) = false := by
        rw [List.any_eq_false]
        intro c hc
        obtain ⟨j, hj, rfl⟩ := List.mem_iff_getElem.1 hc
        have := HNO.out j (by rw [HKK.out, ← HA.out.1]; exact hj) _ (List.getElem?_eq_getElem hj)
        rw [this]; decide
      rw [hany]
      rfl
end Go.Proofs.YtdjdpbgemdmpiaaDoor
