/-
  Wrappings that came in; wrapped; the awake of layer 1.
-/
import Derived.Test.YtdjdpbgemdmpiaaDoorRows
import Derived.Test.YtdjdpbgemdmpiaaDoorKit
import Derived.Test.YtdjdpbgemdmpiaaDoorAsF
import Derived.Test.YtdjdpbgemdmpiaaDoorAsC
import Derived.Test.YtdjdpbgemdmpiaaDoorAsD
import Derived.Test.YtdjdpbgemdmpiaaDoorAsE
import Derived.Test.YtdjdpbgemdmpiaaDoorApp
import Derived.Test.YtdjdpbgemdmpiaaDoorAsG
import Derived.Deep.Slices
import Derived.Deep.Fields
import Derived.ChangeSame
import Derived.Deep.RegionLaw
import Derived.Deep.AppendLies
import Derived.WalkKit
import Derived.ProofKit
import Derived.OpenShut
import Derived.ShutString
import Derived.Below
import Derived.Outline
import Derived.WalkLawsBesides
import Derived.WalkSpells
import Derived.Handy
import Derived.Deep.QuietTactic
import Derived.BigQuiet
import Derived.RegionTactic
import Derived.ChangeAlike
import Derived.Lib.Hide
import Derived.Deep.LoopGhost
import Derived.Deep.RegionHeld3
import Derived.Deep.Cut
import Derived.Deep.CutRange
import Derived.Deep.DeepCutAuto
import Derived.Deep.CutBlock
import Derived.Deep.RegionLaw
import Derived.LaidEql
import Derived.Stop.Asserts
import Derived.RowKitTokens
import Derived.Defers
import Derived.Recover
namespace Go.Proofs.YtdjdpbgemdmpiaaDoor
open Go.ChangeShapes Go.WideShapes Go.ChangeAt Go.RowKit
section
open Go.Deep
section
variable {H : Type} {enc : TypeId × Value → H} {P : Program} {w : World} {base : Nat} {spare : Nat → Bool} {held : Bool}
theorem open_slice_fields {t e : TypeId} {fs : Array Field} {fuel : Nat} {cs : List Value} {x : DataW H × List MemPlace} (ht : P.underlying t = some (.slice e)) (he : P.underlying e = some (.struct fs))
    (hone : oneCellFields P fs = true) (hC : P.cellsOf e = fs.size) (h : DataW.trod enc P w base spare held fuel t cs = some x) :
    (cs = [.slice none 0 0] ∧ x = (.nil, [])) ∨
    ∃ (a : Addr) (len cap m : Nat) (D : Nat → DataW H) (Pl : Nat → List MemPlace), cs = [.slice (some a) len cap] ∧ base ≤ a.block ∧ len ≤ cap ∧ cap ≤ maxLen ∧ m = (if spare a.block then cap else len) ∧
      x = (.slice ((List.range len).map D) ((List.range (m - len)).map fun j => D (len + j)), MemPlace.row a (m * fs.size) ++ (List.range m).flatMap Pl) ∧
      ∀ i, i < m → ∃ (ys : List (DataW H × List MemPlace)) (n : Nat), D i = .agg (ys.map (·.1)) ∧ Pl i = ys.flatMap (·.2) ∧ ys.length = fs.size ∧
        ∀ (j : Nat) (f : Field), fs[j]? = some f → ∃ (v : Value) (y : DataW H × List MemPlace), w.cell? (a.add (i * fs.size + j)) = some v ∧ ys[j]? = some y ∧ DataW.trod enc P w base spare held n f.type [v] = some y := by
  rcases open_slice ht h with h0 | ⟨a, len, cap, m, n, D, Pl, hcs, hb, hl, hm, hmm, hx, hi⟩
  · exact .inl h0
  · refine .inr ⟨a, len, cap, m, D, Pl, hcs, hb, hl, hm, hmm, by rw [hC] at hx; exact hx, fun i him => ?_⟩
    obtain ⟨cs', hc, ht'⟩ := hi i him
    rw [hC] at hc
    obtain ⟨ys, n', hn', hy, hlen, hyl, hf⟩ := DataW.trod_struct he ht'
    obtain ⟨_, hcl, hat⟩ := World.cells?_some hc
    simp only [Prod.mk.injEq] at hy
    refine ⟨ys, n', hy.1, hy.2, hyl, fun j f hj => ?_⟩
    obtain ⟨ho, hk⟩ := hone_of hone j f hj
    have hjl : j < fs.size := (Array.getElem?_eq_some_iff.1 hj).1
    have hcell := hat j hjl
    have hv : cs'[j]? = some (cs'[j]'(by omega)) := List.getElem?_eq_getElem (by omega)
    have h1 := hf j f hj
    rw [ho, hk] at h1
    have hone' : (cs'.drop j).take 1 = [cs'[j]'(by omega)] := by
      rw [List.drop_eq_getElem_cons (by omega)]
      rfl
    rw [hone'] at h1
    have hys : ys[j]? = some (ys[j]'(by omega)) := List.getElem?_eq_getElem (by omega)
    refine ⟨_, _, ?_, hys, h1.trans hys⟩
    rw [← Go.Deep.add_add, hcell, hv]
end
end
theorem cell_lt {w : World} {a : Addr} {v : Value} (h : w.cell? a = some v) : a.block < w.heap.size := by
  rcases Nat.lt_or_ge a.block w.heap.size with hlt | hge
  · exact hlt
  · have e : w.heap[a.block]? = none := Array.getElem?_eq_none hge
    simp [World.cell?, e] at h
/-- A wrapping as it came in. -/
structure WrV where
  p : Bool
  n : Int
  s : ByteArray
def WrV.wr (x : WrV) : Wr := if x.p then .pl x.n else .wo x.s
def WrsAt (A : Option Addr) (len : Nat) (g : Nat → WrV) (w : World) : Prop := 0 < len → ∃ ad, A = some ad ∧ ad.block < w.heap.size ∧ ∀ i, i < len →
  w.cell? (ad.add (i * 3)) = some (.bool (g i).p) ∧ w.cell? (ad.add (i * 3 + 1)) = some (.int .i64 (g i).n) ∧ w.cell? (ad.add (i * 3 + 2)) = some (.string (g i).s)
theorem WrsAt.below {A : Option Addr} {len : Nat} {g : Nat → WrV} {w w' : World} (h : WrsAt A len g w) (hb : Below w.heap.size w w') : WrsAt A len g w' := fun h0 => by
  obtain ⟨ad, e, h1, h2⟩ := h h0
  have hc : ∀ i, w'.cell? (ad.add i) = w.cell? (ad.add i) := fun i => hb.cell (p := ad.add i) (by rw [block_of_add]; exact h1)
  exact ⟨ad, e, Nat.lt_of_lt_of_le h1 hb.size, fun i hi => ⟨(hc _).trans (h2 i hi).1, (hc _).trans (h2 i hi).2.1, (hc _).trans (h2 i hi).2.2⟩⟩
theorem add_pos (a : Addr) (i : Nat) (hi : i ≠ 0) (h : a.spot = none) : a.add i = ⟨a.block, a.off + i, none⟩ := by
  unfold Addr.add
  rw [if_neg hi]
section
variable {H : Type} {enc : TypeId × Value → H} {P : Program} {w : World} {base : Nat} {spare : Nat → Bool} {held : Bool}
theorem field_string {t : TypeId} {u : Value} (ht : P.underlying t = some .string) (h : ∃ (n : Nat) (y : DataW H × List MemPlace), DataW.trod enc P w base spare held n t [u] = some y) : ∃ a : ByteArray, u = .string a := by
  obtain ⟨n, y, h⟩ := h
  obtain ⟨a, e, _⟩ := DataW.trod_string ht h
  exact ⟨a, by simpa using e⟩
end
section
variable {H : Type} {enc : TypeId × Value → H} {w : World} {base : Nat} {held : Bool}
set_option maxRecDepth 100000 in
theorem open_wrs {r : Reach} {b0 : Nat} {v : Value} {d : DataW H} {p : List MemPlace}
    (hv : Value.okWide Tryd.prog w r b0 22 v) (h : DataW.Trod enc Tryd.prog w base (fun _ => true) held 22 v d p) :
    ∃ (a : Option Addr) (len cap : Nat) (g : Nat → WrV), v = .slice a len cap ∧ WrsAt a len g w := by
  obtain ⟨a, len, cap, rfl⟩ := okWide_slice Tryd.underlying22 hv
  obtain ⟨fuel, hf⟩ := h
  rcases open_slice_fields Tryd.underlying22 Tryd.underlying86 (by kernel_rfl) (by kernel_rfl) hf with ⟨hcs, _⟩ | ⟨x, l, c, m, D, Pl, hcs, _, hl, hm, hmm, _, hi⟩
  · simp [Value.cells] at hcs
    obtain ⟨rfl, rfl, rfl⟩ := hcs
    exact ⟨_, _, _, fun _ => ⟨false, 0, ⟨#[]⟩⟩, rfl, fun h => absurd h (by omega)⟩
  · simp [Value.cells] at hcs
    obtain ⟨rfl, rfl, rfl⟩ := hcs
    have hmc : m = cap := by rw [hmm]; exact if_pos rfl
    have key : ∀ i, i < len → ∃ op : WrV, w.cell? (x.add (i * 3)) = some (.bool op.p) ∧ w.cell? (x.add (i * 3 + 1)) = some (.int .i64 op.n) ∧ w.cell? (x.add (i * 3 + 2)) = some (.string op.s) := by
      intro i hil
      obtain ⟨ys, n, _, _, _, hj⟩ := hi i (by omega)
      obtain ⟨v0, y0, hc0, _, t0⟩ := hj 0 _ rfl
      obtain ⟨v1, y1, hc1, _, t1⟩ := hj 1 _ rfl
      obtain ⟨v2, y2, hc2, _, t2⟩ := hj 2 _ rfl
      obtain ⟨z0, rfl⟩ := field_bool Tryd.underlying4 ⟨_, _, t0⟩
      obtain ⟨z1, rfl, _⟩ := field_int Tryd.underlying3 ⟨_, _, t1⟩
      obtain ⟨z2, rfl⟩ := field_string Tryd.underlying9 ⟨_, _, t2⟩
      exact ⟨⟨z0, z1, z2⟩, hc0, hc1, hc2⟩
    refine ⟨some x, len, cap, fun i => if hil : i < len then Classical.choose (key i hil) else ⟨false, 0, ⟨#[]⟩⟩, rfl, fun h0 => ⟨x, rfl, ?_, fun i hil => ?_⟩⟩
    · obtain ⟨op, hc, _⟩ := key 0 h0
      have := cell_lt hc
      rw [block_of_add] at this
      exact this
    · simp only [dif_pos hil]
      exact Classical.choose_spec (key i hil)
end
/-- The wrappings from number k on. -/
def wrsF (g : Nat → WrV) (len k : Nat) : List Wr := ((List.range len).drop k).map fun i => (g i).wr
theorem wrsF_step (g : Nat → WrV) (len k : Nat) (h : k < len) : wrsF g len k = (g k).wr :: wrsF g len (k + 1) := by
  unfold wrsF
  have hl : k < (List.range len).length := by simpa using h
  rw [List.drop_eq_getElem_cons hl]
  simp
theorem wrsF_end (g : Nat → WrV) (len : Nat) : wrsF g len len = [] := by
  unfold wrsF
  rw [List.drop_eq_nil_of_le (by simp)]
  rfl
theorem wrsF_len (g : Nat → WrV) (len : Nat) : (wrsF g len 0).length = len := by simp [wrsF]
theorem wos_len : ∀ l : List Wr, (wos l).length ≤ l.length
  | [] => Nat.le_refl _
  | .pl _ :: l => Nat.le_succ_of_le (wos_len l)
  | .wo _ :: l => Nat.succ_le_succ (wos_len l)
set_option maxRecDepth 100000 in
set_option maxHeartbeats 4000000 in
theorem wrapped_ch (A : Option Addr) (len cap : Nat) (g : Nat → WrV) (c : Int) (w : World) (hA : WrsAt A len g w) (hlen : len ≤ 1000) :
    Calls Tryd.prog 9 #[.slice A len cap, .iface 27 (.int .i64 c)] w (IsErr c (wrsF g len 0) w) := by
  have HA := Lib.hid hA
  clear hA
  go_enter Tryd.func9, Tryd.ntmps9
  go_wp2_with fail
  go_loopg [1, 5] len (fun gk ev i wr => ∃ k : Nat, gk = k ∧ k ≤ len ∧ i = .int .i64 ((k : Int) - 1) ∧ Hid (Ch wr c (wrsF g len k) ev) ∧ Below w.heap.size w wr)
  case atStart => exact ⟨len, rfl, Nat.le_refl _, rfl, Lib.hid (by rw [wrsF_end]; rfl), Below.refl _ _⟩
  case round =>
    obtain ⟨k, rfl, hk, rfl, HC, hB⟩ := hrel
    by_cases h0 : gk = 0
    · subst h0
      have hC := HC.out
      obtain ⟨T, x, hx⟩ := hC.iface
      have HCC := Lib.hid hC
      clear hC HC
      subst hx
      have hd : ((0 : Nat) : Int) - 1 = -1 := by decide
      rw [hd]
      go_wp2
      go_ret
      exact ⟨_, rfl, HCC.out, hB⟩
    · obtain ⟨j, rfl⟩ : ∃ j, gk = j + 1 := ⟨gk - 1, by omega⟩
      clear h0
      obtain ⟨ad, rfl, hb, hc⟩ := HA.out (by omega)
      obtain ⟨c0, c1, c2⟩ := hc j (by omega)
      have hC := HC.out
      obtain ⟨T, x, hx⟩ := hC.iface
      subst hx
      have HCC := Lib.hid hC
      clear hC HC hc
      have hlt : (ad.add (j * 3)).block < w.heap.size := by rw [block_of_add]; exact hb
      have e1 : ((((j + 1 : Nat) : Int)) - 1) = (j : Int) := by omega
      rw [e1]
      have d0 : wr.cell? (ad.add (j * 3)) = some (.bool (g j).p) := (hB.cell (p := ad.add (j * 3)) hlt).trans c0
      have d1 : wr.cell? ⟨(ad.add (j * 3)).block, (ad.add (j * 3)).off + 1, none⟩ = some (.int .i64 (g j).n) := by
        rw [← add_pos _ 1 (by decide) (World.cell?_spot d0)]
        exact (hB.cell (p := (ad.add (j * 3)).add 1) (by rw [block_of_add]; exact hlt)).trans (by rw [add_of_add]; exact c1)
      have d2 : wr.cell? ⟨(ad.add (j * 3)).block, (ad.add (j * 3)).off + 2, none⟩ = some (.string (g j).s) := by
        rw [← add_pos _ 2 (by decide) (World.cell?_spot d0)]
        exact (hB.cell (p := (ad.add (j * 3)).add 2) (by rw [block_of_add]; exact hlt)).trans (by rw [add_of_add]; exact c2)
      have j0 : (0 : Int) ≤ (j : Int) := by omega
      have j1 : (j : Int) < (len : Int) := by omega
      have HST := Lib.hid (wrsF_step g len j (by omega))
      clear c0 c1 c2 e1
      cases hp : (g j).p with
      | true =>
        rw [hp] at d0
        have HP := Lib.hid hp
        clear hp
        go_wp2_with fail
        refine (at_ch _ _ c _ _ HCC.out).mono ?_
        rintro e w2 ⟨v2, rfl, hc2, hb2⟩
        have HC2 := Lib.hid hc2
        have HB2 := Lib.hid (Below.step hB hb2)
        clear hc2 hb2
        go_wp2_with fail
        go_roundg j
        case measure => omega
        case rel => exact ⟨j, rfl, by omega, by go_num, Lib.hid (by rw [HST.out]; have e2 : (g j).wr = .pl (g j).n := (by unfold WrV.wr; rw [HP.out]; rfl); rw [e2]; exact HC2.out), HB2.out⟩
      | false =>
        rw [hp] at d0
        have HP := Lib.hid hp
        clear hp
        go_wp2_with fail
        refine (with_ch _ _ c _ _ HCC.out).mono ?_
        rintro e w2 ⟨v2, rfl, hc2, hb2⟩
        have HC2 := Lib.hid hc2
        have HB2 := Lib.hid (Below.step hB hb2)
        clear hc2 hb2
        go_wp2_with fail
        go_roundg j
        case measure => omega
        case rel => exact ⟨j, rfl, by omega, by go_num, Lib.hid (by rw [HST.out]; have e2 : (g j).wr = .wo (g j).s := (by unfold WrV.wr; rw [HP.out]; rfl); rw [e2]; exact HC2.out), HB2.out⟩
end Go.Proofs.YtdjdpbgemdmpiaaDoor
