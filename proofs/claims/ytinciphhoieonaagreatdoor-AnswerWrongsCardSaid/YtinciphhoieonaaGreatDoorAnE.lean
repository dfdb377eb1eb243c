/-
  A reader of a line's words.
-/
import Derived.Test.YtinciphhoieonaaGreatDoorRows
import Derived.Test.YtinciphhoieonaaGreatDoorKit
import Derived.Test.YtinciphhoieonaaGreatDoorApp
import Derived.Test.YtinciphhoieonaaGreatDoorQuiet
import Derived.WalkKit
import Derived.ProofKit
import Derived.OpenShut
import Derived.ShutString
import Derived.Below
import Derived.Outline
import Derived.WalkLawsBesides
import Derived.WalkSpells
import Derived.Handy
import Derived.Deep.QuietTactic
import Derived.BigQuiet
import Derived.RegionTactic
import Derived.ChangeAlike
import Derived.Lib.Hide
import Derived.Laws.Rows
import Derived.Laws.Tables
import Derived.Laws.CopyOwn
import Derived.Laws.MakeOwn
import Derived.Laws.Entries
import Derived.Laws.OwnMore
import Derived.Deep.WholeRow
import Derived.Deep.LoopGhost
import Derived.Deep.AppendLies
import Derived.Deep.Draws
import Derived.Maps.AppendAt
import Derived.OwnWalk
import Derived.Deep.RegionHeld3
import Derived.Deep.Cut
import Derived.Deep.CutRange
import Derived.Deep.DeepCutAuto
import Derived.Deep.CutBlock
import Derived.Lib.SliceRun
import Derived.IntWalk
import Derived.Laws.Strings
import Derived.Lib.Bytealg
import Derived.Lib.Strings
import Derived.Laws.Externs
import Derived.Test.YtinciphhoieonaaGreatDoorAnC
import Derived.Test.YtinciphhoieonaaGreatDoorAnB
import Derived.Deep.Slices
import Derived.Deep.Fields
import Derived.ChangeSame
import Derived.ChangeArms
import Derived.Deep.Upon
namespace Go.Proofs.YtinciphhoieonaaGreatDoor
open Go.ChangeShapes Go.WideShapes Go.ChangeAt Go.RowKit
/-- All blocks but one stay. -/
def Kp (X : Nat) (w w' : World) : Prop := Below X w w' ∧ ∀ k, k < w.heap.size → k ≠ X → w'.heap[k]? = w.heap[k]?
theorem Kp.refl (X : Nat) (w : World) : Kp X w w := ⟨Below.refl _ _, fun _ _ _ => rfl⟩
theorem Kp.size {X : Nat} {w w' : World} (h : Kp X w w') : w.heap.size ≤ w'.heap.size := h.1.size
theorem Kp.trans {X : Nat} {a b c : World} (h : Kp X a b) (k : Kp X b c) : Kp X a c := ⟨h.1.trans k.1, fun j hj hn => (k.2 j (Nat.lt_of_lt_of_le hj h.size) hn).trans (h.2 j hj hn)⟩
theorem Kp.of {X : Nat} {w w' : World} (hX : X ≤ w.heap.size) (h : Below w.heap.size w w') : Kp X w w' := ⟨h.mono hX, fun k hk _ => h.block k hk⟩
theorem Kp.set {X : Nat} {w0 w : World} (h : Kp X w0 w) (j : Nat) (u : Value) : Kp X w0 (w.setCell ⟨X, j, none⟩ u) :=
  ⟨Below.setCell (p := ⟨X, j, none⟩) h.1 (Nat.le_refl _) u, fun k hk hn => (Below.heap_setCell w ⟨X, j, none⟩ u k hn).trans (h.2 k hk hn)⟩
theorem Bl.kp {X B : Nat} {l : List Value} {w w' : World} (h : Bl B l w) (hk : Kp X w w') (hne : B ≠ X) : Bl B l w' := by
  have hl := h.lt
  obtain ⟨t, hh⟩ := h
  exact ⟨t, (hk.2 B hl hne).trans hh⟩
theorem Kp.bel {X C : Nat} {w0 w w' : World} (h : Below C w0 w) (hk : Kp X w w') (hC : C ≤ X) : Below C w0 w' := h.trans (hk.1.mono hC)
theorem rkp {X : Nat} {w w' : World} {base : Nat} {e : TypeId} {size m : Nat} {v : Value} {xs : List Value} (h : w.ownsRow base e size v m xs) (hk : Kp X w w') (hX : X < base) : w'.ownsRow base e size v m xs :=
  rfar h (fun k h1 h2 => hk.2 k h2 (by omega))
/-- A reader: its cell holds what is left of a line's words, which stand in a block of their own. -/
def Rd (X S : Nat) (ws : List (List UInt8)) (w : World) : Prop := S < w.heap.size ∧ S < X ∧ X < w.heap.size ∧ ∃ a c, Bl X [.slice a ws.length c] w ∧ ws.length ≤ c ∧ c < 4000000000 ∧ (0 < ws.length → ∃ k, a = some ⟨S, k, none⟩ ∧ ∀ j x, ws[j]? = some x → w.cell? ⟨S, k + j, none⟩ = some (.string (Bs x)))
theorem Rd.kp {X S Y : Nat} {ws : List (List UInt8)} {w w' : World} (h : Rd X S ws w) (hk : Kp Y w w') (hX : X ≠ Y) (hS : S ≠ Y) : Rd X S ws w' := by
  obtain ⟨h1, h2, h3, a, c, hb, hc, hc2, hr⟩ := h
  refine ⟨Nat.lt_of_lt_of_le h1 hk.size, h2, Nat.lt_of_lt_of_le h3 hk.size, a, c, hb.kp hk hX, hc, hc2, fun h0 => ?_⟩
  obtain ⟨k, ha, hj⟩ := hr h0
  refine ⟨k, ha, fun j x hx => ?_⟩
  have := hj j x hx
  unfold World.cell? at this ⊢
  rw [hk.2 S h1 hS]
  exact this
theorem Rd.below {X S : Nat} {ws : List (List UInt8)} {w w' : World} (h : Rd X S ws w) (hb : Below w.heap.size w w') : Rd X S ws w' := by
  obtain ⟨h1, h2, h3, a, c, hB, hc, hc2, hr⟩ := h
  refine ⟨Nat.lt_of_lt_of_le h1 hb.size, h2, Nat.lt_of_lt_of_le h3 hb.size, a, c, hB.below hb, hc, hc2, fun h0 => ?_⟩
  obtain ⟨k, ha, hj⟩ := hr h0
  exact ⟨k, ha, fun j x hx => (hb.cell (p := ⟨S, k + j, none⟩) h1).trans (hj j x hx)⟩
theorem Kp.set0 (X j : Nat) (w : World) (u : Value) : Kp X w (w.setCell ⟨X, j, none⟩ u) := (Kp.refl X w).set j u
theorem Rd.pop {X S k c' : Nat} {o : Value} {a' : Option Addr} {x : List UInt8} {ws : List (List UInt8)} {w : World} (hS : S < w.heap.size ∧ S < X ∧ X < w.heap.size) (hB : Bl X [o] w) (hj : ∀ j y, (x :: ws)[j]? = some y → w.cell? ⟨S, k + j, none⟩ = some (.string (Bs y))) (hc : ws.length ≤ c' ∧ c' < 4000000000) (ha : 0 < ws.length → a' = some ⟨S, k + 1, none⟩) : Rd X S ws (w.setCell ⟨X, 0, none⟩ (.slice a' ws.length c')) := by
  have hk := Kp.set0 X 0 w (.slice a' ws.length c')
  refine ⟨Nat.lt_of_lt_of_le hS.1 hk.size, hS.2.1, Nat.lt_of_lt_of_le hS.2.2 hk.size, a', c', Bl.set hB 0 _, hc.1, hc.2, fun h0 => ⟨k + 1, ha h0, fun j y hy => ?_⟩⟩
  have := hj (j + 1) y (by simpa using hy)
  rw [show k + 1 + j = k + (j + 1) by omega]
  unfold World.cell? at this ⊢
  rw [hk.2 S hS.1 (by omega)]
  exact this
set_option maxRecDepth 100000 in
set_option maxHeartbeats 4000000 in
theorem word_is (X S : Nat) (x : List UInt8) (ws : List (List UInt8)) (w : World) (h : Rd X S (x :: ws) w) : Calls Tryz.prog 49 #[.pointer (some ⟨X, 0, none⟩)] w fun e w' => e = .returned (.string (Bs x)) ∧ Rd X S ws w' ∧ Kp X w w' := by
  obtain ⟨h1, h2, h3, a, c, hB, hc, hc2, hr⟩ := h
  obtain ⟨k, ha, hj⟩ := hr (by simp)
  subst ha
  have c0 := hj 0 x rfl
  rw [Nat.add_zero] at c0
  have y0 := hB.cell 0 _ rfl
  have f0 := hB.frz 0
  rw [List.length_cons] at y0 hc
  have HB := Lib.hid hB
  have HR := Lib.hid (And.intro h1 (And.intro h2 h3))
  have HJ := Lib.hid hj
  obtain ⟨n, hn⟩ : ∃ n, n = ws.length := ⟨_, rfl⟩
  rw [← hn] at y0 hc
  have HN := Lib.hid hn
  have q1 : (n + 1 == 0) = false := beq_eq_false_iff_ne.2 (by omega)
  have q2 : ((n : Int) + 1 == 0) = false := beq_eq_false_iff_ne.2 (by omega)
  have q3 : (0 : Int) < (n : Int) + 1 := by omega
  have q4 : (1 : Int) ≤ (n : Int) + 1 := by omega
  have q5 : (n : Int) + 1 ≤ (c : Int) := by omega
  have HC2 := Lib.hid hc2
  have HC := Lib.hid (show ws.length + 1 ≤ c by omega)
  clear hr hB h1 h2 h3 hj hn hc hc2
  go_enter Tryz.func49, Tryz.ntmps49
  go_wp2_with fail
  · go_ret
    have hn := HN.out
    refine ⟨rfl, ?_, Kp.set0 X 0 w _⟩
    rw [hn]
    refine Rd.pop HR.out HB.out HJ.out ?_ (fun h0 => ?_)
    · have := HC.out; omega
    · have := HC.out; omega
  · go_ret
    have hn := HN.out
    refine ⟨rfl, ?_, Kp.set0 X 0 w _⟩
    rw [hn]
    exact Rd.pop HR.out HB.out HJ.out (by have := HC.out; have := HC2.out; omega) (fun h0 => rfl)
set_option maxHeartbeats 4000000 in
theorem number_is (X S n : Nat) (hn : n < 10000000) (ws : List (List UInt8)) (w : World) (h : Rd X S (dcl n :: ws) w) : Calls Tryz.prog 47 #[.pointer (some ⟨X, 0, none⟩)] w fun e w' => e = .returned (.int .i64 (n : Int)) ∧ Rd X S ws w' ∧ Kp X w w' := by
  have hd := dcl_digs hn
  have h7 := (digs_dec hd).2.1
  have HRD := Lib.hid h
  have HD : Hid (∀ wx, Calls Tryz.prog 58 #[.string (Bs (dcl n))] wx (fun e w' => e = .returned (.bool true) ∧ wx = w')) := Lib.hid (fun wx => by
    have := digits_is (Bs (dcl n)) (by rw [Bs_size]; omega) wx
    rwa [Bs_list, hd] at this)
  have HA : Hid (∀ wx, Calls Tryz.prog 59 #[.string (Bs (dcl n))] wx (fun e w' => e = .returned (.tuple #[.int .i64 (n : Int), .nilIface]) ∧ Below wx.heap.size wx w')) := Lib.hid (fun wx => by
    have := ato_is (Bs (dcl n)) (by rw [Bs_list]; exact hd) wx
    rwa [Bs_list, nv_dcl] at this)
  clear hd h7 h hn
  go_enter Tryz.func47, Tryz.ntmps47
  go_wp2_with fail
  refine (word_is X S (dcl n) ws w HRD.out).mono ?_
  rintro e1 w1 ⟨rfl, hr1, hk1⟩
  have H1 := Lib.hid (And.intro hr1 hk1)
  clear hr1 hk1
  go_wp2_with fail
  refine (HD.out _).mono ?_
  rintro e2 w2 ⟨rfl, hw2⟩
  subst hw2
  go_wp2_with fail
  refine (HA.out _).mono ?_
  rintro e3 w3 ⟨rfl, hb3⟩
  have H3 := Lib.hid hb3
  clear hb3
  go_wp2_with fail
  go_ret
  exact ⟨rfl, H1.out.1.below H3.out, H1.out.2.trans (Kp.of (Nat.le_of_lt H1.out.1.2.2.1) H3.out)⟩

end Go.Proofs.YtinciphhoieonaaGreatDoor
