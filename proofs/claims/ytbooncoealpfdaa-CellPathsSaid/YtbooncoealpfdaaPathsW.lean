/-
  The walk of CellPaths.
-/
import Derived.Test.YtbooncoealpfdaaRows
import Derived.WalkKit
import Derived.ProofKit
import Derived.OpenShut
import Derived.ShutString
import Derived.Below
import Derived.Outline
import Derived.WalkLawsBesides
import Derived.WalkSpells
import Derived.Handy
import Derived.Deep.QuietTactic
import Derived.BigQuiet
import Derived.RegionTactic
import Derived.ChangeAlike
import Derived.Lib.Hide
import Derived.Deep.RegionHeld3
import Derived.Deep.LoopGhost
import Derived.Deep.CutRange
import Derived.Deep.DeepCutAuto
import Derived.Deep.CutBlock
import Derived.Test.YtbooncoealpfdaaKit
import Derived.Test.YtbooncoealpfdaaCell3
namespace Go.Proofs.Ytbooncoealpfdaa.cellPaths
open Go.ChangeShapes Go.WideShapes Go.ChangeAt Go.RowKit

/-- A state in a block. -/
def Box (B : Nat) (k g l f : Int) (b : Bool) (w : World) : Prop :=
  (w.cell? ⟨B, 0, none⟩ = some (.int .i64 k) ∧ w.cell? ⟨B, 1, none⟩ = some (.bool b) ∧ w.cell? ⟨B, 2, none⟩ = some (.int .i64 g) ∧ w.cell? ⟨B, 3, none⟩ = some (.int .i64 l) ∧ w.cell? ⟨B, 4, none⟩ = some (.int .i64 f)) ∧
  (w.frozen? ⟨B, 0, none⟩ = false ∧ w.frozen? ⟨B, 1, none⟩ = false ∧ w.frozen? ⟨B, 2, none⟩ = false ∧ w.frozen? ⟨B, 3, none⟩ = false ∧ w.frozen? ⟨B, 4, none⟩ = false) ∧ B < w.heap.size
def Row16 (w : World) (A : Option Addr) (n : Nat) (z : Nat → Int) : Prop :=
  ∀ k, k < n → ∃ g off, A = some ⟨g, off, none⟩ ∧ g < w.heap.size ∧ w.cell? ⟨g, off + k, none⟩ = some (.int .u16 (z k)) ∧ 0 ≤ z k ∧ z k ≤ 65535

theorem Box.below {B : Nat} {k g l f : Int} {b : Bool} {w w' : World} (h : Box B k g l f b w) (hb : Below w.heap.size w w') : Box B k g l f b w' := by
  obtain ⟨⟨c0, c1, c2, c3, c4⟩, ⟨q0, q1, q2, q3, q4⟩, hl⟩ := h
  have hc : ∀ o, w'.cell? ⟨B, o, none⟩ = w.cell? ⟨B, o, none⟩ := fun o => hb.cell (p := ⟨B, o, none⟩) hl
  have hf : ∀ o, w'.frozen? ⟨B, o, none⟩ = w.frozen? ⟨B, o, none⟩ := fun o => hb.frozen (p := ⟨B, o, none⟩) hl
  exact ⟨⟨(hc 0).trans c0, (hc 1).trans c1, (hc 2).trans c2, (hc 3).trans c3, (hc 4).trans c4⟩, ⟨(hf 0).trans q0, (hf 1).trans q1, (hf 2).trans q2, (hf 3).trans q3, (hf 4).trans q4⟩, Nat.lt_of_lt_of_le hl hb.size⟩
theorem Box.new (w : World) (k g l f : Int) (b : Bool) : Box w.heap.size k g l f b (w.alloc (.cells #[.int .i64 k, .bool b, .int .i64 g, .int .i64 l, .int .i64 f] 56)) := by
  refine ⟨⟨?_, ?_, ?_, ?_, ?_⟩, ⟨?_, ?_, ?_, ?_, ?_⟩, ?_⟩ <;> simp [go_sem]
theorem num20 (v : Int) (z0 : 0 ≤ v) (z1 : v ≤ 65535) : (wrap64 (IntKind.u16.wrap (v.tdiv 8))).tmod 20 = v / 8 % 20 := by
  rw [Int.tdiv_eq_ediv_of_nonneg z0, IntWalk.u16_in _ (by omega), IntWalk.wrap64_in _ (by omega), Int.tmod_eq_emod_of_nonneg (by omega)]
/-- What the switch leaves. -/
def Sw (w : World) (B U X : Nat) (k l f m : Int) (b : Bool) (adds : Bool) (s15 s17 : Value) (wx : World) : Prop :=
  ∃ q : Int, s15 = .int .i64 q ∧ 0 ≤ q ∧ q ≤ 19 ∧ Box B k 1 l f b wx ∧ Box U k 1 l f b wx ∧ Below w.heap.size w wx ∧ X < wx.heap.size ∧
   ((∃ c : Int, s17 = .iface 80 (.int .i64 c)) ∨ (∃ (k' l' f' : Int) (b' : Bool), s17 = .nilIface ∧ Box X k' 1 l' f' b' wx ∧ 1 ≤ k' ∧ k' ≤ 8 ∧ 0 ≤ l' ∧ l' ≤ l ∧ 0 ≤ f' ∧ f' ≤ m ∧ (adds = true → l' = l - q) ∧ (adds = false → l' = l) ∧ (4 < k → adds = false ∧ k' = k ∧ l' = l ∧ f' = f ∧ b' = b)))

/-- A state is stored in a block. -/
def set5 (w : World) (X : Nat) (k g l f : Int) (b : Bool) : World :=
  (((((w.setCell ⟨X, 0, none⟩ (.int .i64 k)).setCell ⟨X, 1, none⟩ (.bool b)).setCell ⟨X, 2, none⟩ (.int .i64 g)).setCell ⟨X, 3, none⟩ (.int .i64 l)).setCell ⟨X, 4, none⟩ (.int .i64 f))
theorem frozen_setCell (w : World) (a b : Addr) (v : Value) : (w.setCell a v).frozen? b = w.frozen? b := by simp [go_sem]
theorem addr_ne {a b i j : Nat} (h : a ≠ b ∨ i ≠ j) : (⟨a, i, none⟩ : Addr) ≠ ⟨b, j, none⟩ := by
  intro e; injection e with e1 e2; rcases h with h | h
  · exact h e1
  · exact h e2
theorem cell_other (w : World) (a b i j : Nat) (v : Value) (h : a ≠ b ∨ i ≠ j) : (w.setCell ⟨a, i, none⟩ v).cell? ⟨b, j, none⟩ = w.cell? ⟨b, j, none⟩ := World.cell?_setCell_other _ _ _ _ (addr_ne h)
theorem cell_same (w : World) (a i : Nat) (v u : Value) (h : w.cell? ⟨a, i, none⟩ = some u) : (w.setCell ⟨a, i, none⟩ v).cell? ⟨a, i, none⟩ = some v := World.cell?_setCell_same _ _ _ h
theorem Box.set5_same {X : Nat} {k0 g0 l0 f0 : Int} {b0 : Bool} {w : World} (h : Box X k0 g0 l0 f0 b0 w) (k g l f : Int) (b : Bool) : Box X k g l f b (set5 w X k g l f b) := by
  obtain ⟨⟨c0, c1, c2, c3, c4⟩, ⟨q0, q1, q2, q3, q4⟩, hl⟩ := h
  refine ⟨⟨?_, ?_, ?_, ?_, ?_⟩, ⟨?_, ?_, ?_, ?_, ?_⟩, ?_⟩
  · unfold set5; rw [cell_other _ _ _ _ _ _ (.inr (by decide)), cell_other _ _ _ _ _ _ (.inr (by decide)), cell_other _ _ _ _ _ _ (.inr (by decide)), cell_other _ _ _ _ _ _ (.inr (by decide)), cell_same _ _ _ _ _ c0]
  · unfold set5; rw [cell_other _ _ _ _ _ _ (.inr (by decide)), cell_other _ _ _ _ _ _ (.inr (by decide)), cell_other _ _ _ _ _ _ (.inr (by decide))]; refine cell_same _ _ _ _ (.bool b0) ?_; rw [cell_other _ _ _ _ _ _ (.inr (by decide)), c1]
  · unfold set5; rw [cell_other _ _ _ _ _ _ (.inr (by decide)), cell_other _ _ _ _ _ _ (.inr (by decide))]; refine cell_same _ _ _ _ (.int .i64 g0) ?_; rw [cell_other _ _ _ _ _ _ (.inr (by decide)), cell_other _ _ _ _ _ _ (.inr (by decide)), c2]
  · unfold set5; rw [cell_other _ _ _ _ _ _ (.inr (by decide))]; refine cell_same _ _ _ _ (.int .i64 l0) ?_; rw [cell_other _ _ _ _ _ _ (.inr (by decide)), cell_other _ _ _ _ _ _ (.inr (by decide)), cell_other _ _ _ _ _ _ (.inr (by decide)), c3]
  · unfold set5; refine cell_same _ _ _ _ (.int .i64 f0) ?_; rw [cell_other _ _ _ _ _ _ (.inr (by decide)), cell_other _ _ _ _ _ _ (.inr (by decide)), cell_other _ _ _ _ _ _ (.inr (by decide)), cell_other _ _ _ _ _ _ (.inr (by decide)), c4]
  all_goals first | (unfold set5; simp only [frozen_setCell]; assumption) | (unfold set5; simp only [World.size_setCell]; assumption)
theorem Box.set5_other {B X : Nat} {k0 g0 l0 f0 : Int} {b0 : Bool} {w : World} (h : Box B k0 g0 l0 f0 b0 w) (hne : X ≠ B) (k g l f : Int) (b : Bool) : Box B k0 g0 l0 f0 b0 (set5 w X k g l f b) := by
  obtain ⟨⟨c0, c1, c2, c3, c4⟩, ⟨q0, q1, q2, q3, q4⟩, hl⟩ := h
  have hc : ∀ o, (set5 w X k g l f b).cell? ⟨B, o, none⟩ = w.cell? ⟨B, o, none⟩ := fun o => by
    unfold set5; rw [cell_other _ _ _ _ _ _ (.inl hne), cell_other _ _ _ _ _ _ (.inl hne), cell_other _ _ _ _ _ _ (.inl hne), cell_other _ _ _ _ _ _ (.inl hne), cell_other _ _ _ _ _ _ (.inl hne)]
  have hf : ∀ o, (set5 w X k g l f b).frozen? ⟨B, o, none⟩ = w.frozen? ⟨B, o, none⟩ := fun o => by unfold set5; simp only [frozen_setCell]
  refine ⟨⟨(hc 0).trans c0, (hc 1).trans c1, (hc 2).trans c2, (hc 3).trans c3, (hc 4).trans c4⟩, ⟨(hf 0).trans q0, (hf 1).trans q1, (hf 2).trans q2, (hf 3).trans q3, (hf 4).trans q4⟩, ?_⟩
  unfold set5; simp only [World.size_setCell]; exact hl
theorem below_set5 {W w : World} {B X : Nat} (h : Below B W w) (hX : B ≤ X) (k g l f : Int) (b : Bool) : Below B W (set5 w X k g l f b) := by
  unfold set5
  exact ((((h.setCell hX _).setCell hX _).setCell hX _).setCell hX _).setCell hX _
theorem size_set5 (w : World) (X : Nat) (k g l f : Int) (b : Bool) : (set5 w X k g l f b).heap.size = w.heap.size := by unfold set5; simp only [World.size_setCell]
theorem left_ {w wr w2 : World} {B : Nat} {k l f : Int} {b : Bool} (hX : Box B k 1 l f b wr) (hB : Below w.heap.size w wr) (hs : w.heap.size ≤ wr.heap.size)
    (hb2 : Below ((wr.alloc (Obj.cells #[.int .i64 k, .bool b, .int .i64 1, .int .i64 l, .int .i64 f] 56)).alloc (Obj.cells #[.int .i64 0, .bool false, .int .i64 0, .int .i64 0, .int .i64 0] 56)).heap.size ((wr.alloc (Obj.cells #[.int .i64 k, .bool b, .int .i64 1, .int .i64 l, .int .i64 f] 56)).alloc (Obj.cells #[.int .i64 0, .bool false, .int .i64 0, .int .i64 0, .int .i64 0] 56)) w2) (k' g' l' f' : Int) (b' : Bool) :
    Box B k 1 l f b (set5 w2 (wr.heap.size + 1) k' g' l' f' b') ∧ Box wr.heap.size k 1 l f b (set5 w2 (wr.heap.size + 1) k' g' l' f' b') ∧ Below w.heap.size w (set5 w2 (wr.heap.size + 1) k' g' l' f' b') ∧
      wr.heap.size + 1 < (set5 w2 (wr.heap.size + 1) k' g' l' f' b').heap.size ∧ Box (wr.heap.size + 1) k' g' l' f' b' (set5 w2 (wr.heap.size + 1) k' g' l' f' b') := by
  have h1 : Below wr.heap.size wr ((wr.alloc (Obj.cells #[.int .i64 k, .bool b, .int .i64 1, .int .i64 l, .int .i64 f] 56)).alloc (Obj.cells #[.int .i64 0, .bool false, .int .i64 0, .int .i64 0, .int .i64 0] 56)) := by go_grown
  have u1 := Box.new wr k 1 l f b
  have u2 : Box wr.heap.size k 1 l f b ((wr.alloc (Obj.cells #[.int .i64 k, .bool b, .int .i64 1, .int .i64 l, .int .i64 f] 56)).alloc (Obj.cells #[.int .i64 0, .bool false, .int .i64 0, .int .i64 0, .int .i64 0] 56)) := u1.below (by go_grown)
  have x2 := Box.new (wr.alloc (Obj.cells #[.int .i64 k, .bool b, .int .i64 1, .int .i64 l, .int .i64 f] 56)) 0 0 0 0 false
  rw [World.size_alloc] at x2
  have hl := hX.2.2
  have hz := hb2.size
  simp only [World.size_alloc] at hz
  exact ⟨((hX.below h1).below hb2).set5_other (by omega) _ _ _ _ _, (u2.below hb2).set5_other (by omega) _ _ _ _ _, below_set5 (Below.step (Below.step hB h1) hb2) (by omega) _ _ _ _ _, by rw [size_set5]; omega, (x2.below hb2).set5_same _ _ _ _ _⟩

set_option maxRecDepth 100000 in
set_option maxHeartbeats 16000000 in
theorem main (a0 a1 : Int) (A : Option Addr) (n cap : Nat) (z : Nat → Int) (w : World) (p0 : 0 ≤ a0) (p1 : a0 ≤ 255) (p2 : 0 ≤ a1) (p3 : a1 ≤ 255) (hn : n ≤ 100) (hR : Row16 w A n z) :
    Calls Try.prog 8 #[.int .u8 a0, .int .u8 a1, .slice A n cap] w fun e w' => e = .returned (.bool true) ∧ Below w.heap.size w w' := by
  have HR := Lib.hid hR
  clear hR
  go_enter Try.func8, Try.ntmps8
  go_wp2_with fail
  refine (begin_ok _ (by omega) (by omega) _).mono ?_
  rintro e w1 ⟨rfl, hb1⟩
  have hB1 : Below w.heap.size w w1 := Below.step (by go_grown) hb1
  clear hb1
  go_wp2_with fail
  go_loopg [11, 45] n (fun gk t i wr => ∃ (j : Nat) (k l f : Int) (b : Bool), gk = n - j ∧ j ≤ n ∧ i = .int .i64 j ∧ t = .int .i64 (1 + a0 - l) ∧ 1 ≤ k ∧ k ≤ 8 ∧ 0 ≤ l ∧ l ≤ 1 + a0 ∧ 0 ≤ f ∧ f ≤ 1 + a1 % 4 ∧ Box w1.heap.size k 1 l f b wr ∧ Below w.heap.size w wr)
  case atStart => exact ⟨0, 1, 1 + a0, 0, false, by omega, Nat.zero_le _, rfl, by simp, by decide, by decide, by omega, by omega, by decide, by omega, Box.new w1 1 1 (1 + a0) 0 false, hB1.alloc hB1.size _⟩
  case round =>
    obtain ⟨j, k, l, f, b, rfl, hj, rfl, rfl, k1, k8, l0, l1, f0, f1, hX, hB⟩ := hrel
    have hs := hB.size
    by_cases hlt : j < n
    · obtain ⟨g, off, rfl, hg, hz, z0, z1⟩ := HR.out j hlt
      have hz' : wr.cell? ⟨g, off + j, none⟩ = some (.int .u16 (z j)) := (hB.cell (p := ⟨g, off + j, none⟩) hg).trans hz
      clear hz
      generalize z j = v at *
      have hXX := Lib.hid hX
      obtain ⟨⟨c0, c1, c2, c3, c4⟩, ⟨q0, q1, q2, q3, q4⟩, hl9⟩ := hX
      go_upto_block 2 with fail
      have hq : (wrap64 (IntKind.u16.wrap (v.tdiv 8))).tmod 20 = v / 8 % 20 := num20 v z0 z1
      rw [hq]
      clear hq
      have hqa : 0 ≤ v / 8 % 20 := by omega
      have hqb : v / 8 % 20 ≤ 19 := by omega
      generalize v / 8 % 20 = q at *
      have hB0 : Below w.heap.size w ((wr.alloc (Obj.cells #[.int .i64 k, .bool b, .int .i64 1, .int .i64 l, .int .i64 f] 56)).alloc (Obj.cells #[.int .i64 0, .bool false, .int .i64 0, .int .i64 0, .int .i64 0] 56)) := by go_grown
      obtain ⟨adds, hadds⟩ : ∃ adds : Bool, adds = decide (v % 8 < 2 ∨ v % 8 = 3 ∨ v % 8 = 4) := ⟨_, rfl⟩
      have HA := Lib.hid hadds
      clear hadds
      go_cut [15, 17, 55] (fun s15 s17 _ wx => Sw w w1.heap.size wr.heap.size (wr.heap.size + 1) k l f (1 + a1 % 4) b adds s15 s17 wx)
      case first =>
        by_cases r0 : v % 8 = 0
        · have h8 := r0
          have ha : adds = true := by rw [HA.out]; exact decide_eq_true (by omega)
          have HA2 := Lib.hid ha
          clear ha
          go_wp2_with fail
          rcases takeC k l f q (1 + a1 % 4) b k1 k8 l0 (by omega) f0 f1 (by omega) with ⟨c, hT⟩ | ⟨k', f', b', hk1, hk8, hk4, hq0, hql, hf0, hf1, hT⟩
          · have HT := Lib.hid hT
            clear hT
            refine (HT.out _).mono ?_
            rintro e w2 ⟨rfl, hb2⟩
            obtain ⟨hc2, hf2⟩ := bcell hb2
            have hz2 := hb2.size
            have hB2 : Below w.heap.size w w2 := Below.step hB0 hb2
            try simp only [World.size_alloc, World.size_setCell, World.size_drew] at hz2 hc2 hf2
            have hy2 : wr.heap.size + 1 < w2.heap.size := by omega
            go_wp2_with fail
            go_meet
            case rel =>
              have hS := left_ hXX.out hB hs hb2 0 0 0 0 false
              exact ⟨q, rfl, hqa, hqb, hS.1, hS.2.1, hS.2.2.1, hS.2.2.2.1, .inl ⟨c, rfl⟩⟩
          · have HT := Lib.hid hT
            clear hT
            refine (HT.out _).mono ?_
            rintro e w2 ⟨rfl, hb2⟩
            obtain ⟨hc2, hf2⟩ := bcell hb2
            have hz2 := hb2.size
            have hB2 : Below w.heap.size w w2 := Below.step hB0 hb2
            try simp only [World.size_alloc, World.size_setCell, World.size_drew] at hz2 hc2 hf2
            have hy2 : wr.heap.size + 1 < w2.heap.size := by omega
            go_wp2_with fail
            go_meet
            case rel =>
              have hS := left_ hXX.out hB hs hb2 k' 1 (l - q) f' b'
              exact ⟨q, rfl, hqa, hqb, hS.1, hS.2.1, hS.2.2.1, hS.2.2.2.1, .inr ⟨k', l - q, f', b', rfl, hS.2.2.2.2, hk1, hk8, by omega, by omega, hf0, hf1, fun _ => rfl, fun e => absurd (HA2.out.symm.trans e) (by decide), fun h4 => absurd hk4 (by omega)⟩⟩
        by_cases r1 : v % 8 = 1
        · have h8 := r1
          have ha : adds = true := by rw [HA.out]; exact decide_eq_true (by omega)
          have HA2 := Lib.hid ha
          clear ha
          go_wp2_with fail
          rcases takeC k l f q (1 + a1 % 4) b k1 k8 l0 (by omega) f0 f1 (by omega) with ⟨c, hT⟩ | ⟨k', f', b', hk1, hk8, hk4, hq0, hql, hf0, hf1, hT⟩
          · have HT := Lib.hid hT
            clear hT
            refine (HT.out _).mono ?_
            rintro e w2 ⟨rfl, hb2⟩
            obtain ⟨hc2, hf2⟩ := bcell hb2
            have hz2 := hb2.size
            have hB2 : Below w.heap.size w w2 := Below.step hB0 hb2
            try simp only [World.size_alloc, World.size_setCell, World.size_drew] at hz2 hc2 hf2
            have hy2 : wr.heap.size + 1 < w2.heap.size := by omega
            go_wp2_with fail
            go_meet
            case rel =>
              have hS := left_ hXX.out hB hs hb2 0 0 0 0 false
              exact ⟨q, rfl, hqa, hqb, hS.1, hS.2.1, hS.2.2.1, hS.2.2.2.1, .inl ⟨c, rfl⟩⟩
          · have HT := Lib.hid hT
            clear hT
            refine (HT.out _).mono ?_
            rintro e w2 ⟨rfl, hb2⟩
            obtain ⟨hc2, hf2⟩ := bcell hb2
            have hz2 := hb2.size
            have hB2 : Below w.heap.size w w2 := Below.step hB0 hb2
            try simp only [World.size_alloc, World.size_setCell, World.size_drew] at hz2 hc2 hf2
            have hy2 : wr.heap.size + 1 < w2.heap.size := by omega
            go_wp2_with fail
            go_meet
            case rel =>
              have hS := left_ hXX.out hB hs hb2 k' 1 (l - q) f' b'
              exact ⟨q, rfl, hqa, hqb, hS.1, hS.2.1, hS.2.2.1, hS.2.2.2.1, .inr ⟨k', l - q, f', b', rfl, hS.2.2.2.2, hk1, hk8, by omega, by omega, hf0, hf1, fun _ => rfl, fun e => absurd (HA2.out.symm.trans e) (by decide), fun h4 => absurd hk4 (by omega)⟩⟩
        by_cases r2 : v % 8 = 2
        · have h8 := r2
          have ha : adds = false := by rw [HA.out]; exact decide_eq_false (by omega)
          have HA2 := Lib.hid ha
          clear ha
          go_wp2_with fail
          obtain ⟨k', hk1, hk8, hk4, hT⟩ := holdC k l f b k1 k8
          have HT := Lib.hid hT
          clear hT
          refine (HT.out _).mono ?_
          rintro e w2 ⟨rfl, hb2⟩
          obtain ⟨hc2, hf2⟩ := bcell hb2
          have hz2 := hb2.size
          have hB2 : Below w.heap.size w w2 := Below.step hB0 hb2
          try simp only [World.size_alloc, World.size_setCell, World.size_drew] at hz2 hc2 hf2
          have hy2 : wr.heap.size + 1 < w2.heap.size := by omega
          go_wp2_with fail
          go_meet
          case rel =>
            have hS := left_ hXX.out hB hs hb2 k' 1 l f b
            exact ⟨q, rfl, hqa, hqb, hS.1, hS.2.1, hS.2.2.1, hS.2.2.2.1, .inr ⟨k', l, f, b, rfl, hS.2.2.2.2, hk1, hk8, l0, Int.le_refl _, f0, f1, fun e => absurd (e.symm.trans HA2.out) (by decide), fun _ => rfl, fun h4 => ⟨HA2.out, hk4 h4, rfl, rfl, rfl⟩⟩⟩
        by_cases r3 : v % 8 = 3
        · have h8 := r3
          have ha : adds = true := by rw [HA.out]; exact decide_eq_true (by omega)
          have HA2 := Lib.hid ha
          clear ha
          have h2 : v % 2 = 1 := by omega
          go_wp2_with fail
          rcases relC k l f q (1 + a1 % 4) b k1 k8 l0 (by omega) f0 f1 (by omega) with ⟨c, hT⟩ | ⟨k', f', b', hk1, hk8, hk4, hq0, hql, hf0, hf1, hT⟩
          · have HT := Lib.hid hT
            clear hT
            refine (HT.out _).mono ?_
            rintro e w2 ⟨rfl, hb2⟩
            obtain ⟨hc2, hf2⟩ := bcell hb2
            have hz2 := hb2.size
            have hB2 : Below w.heap.size w w2 := Below.step hB0 hb2
            try simp only [World.size_alloc, World.size_setCell, World.size_drew] at hz2 hc2 hf2
            have hy2 : wr.heap.size + 1 < w2.heap.size := by omega
            go_wp2_with fail
            go_meet
            case rel =>
              have hS := left_ hXX.out hB hs hb2 0 0 0 0 false
              exact ⟨q, rfl, hqa, hqb, hS.1, hS.2.1, hS.2.2.1, hS.2.2.2.1, .inl ⟨c, rfl⟩⟩
          · have HT := Lib.hid hT
            clear hT
            refine (HT.out _).mono ?_
            rintro e w2 ⟨rfl, hb2⟩
            obtain ⟨hc2, hf2⟩ := bcell hb2
            have hz2 := hb2.size
            have hB2 : Below w.heap.size w w2 := Below.step hB0 hb2
            try simp only [World.size_alloc, World.size_setCell, World.size_drew] at hz2 hc2 hf2
            have hy2 : wr.heap.size + 1 < w2.heap.size := by omega
            go_wp2_with fail
            go_meet
            case rel =>
              have hS := left_ hXX.out hB hs hb2 k' 1 (l - q) f' b'
              exact ⟨q, rfl, hqa, hqb, hS.1, hS.2.1, hS.2.2.1, hS.2.2.2.1, .inr ⟨k', l - q, f', b', rfl, hS.2.2.2.2, hk1, hk8, by omega, by omega, hf0, hf1, fun _ => rfl, fun e => absurd (HA2.out.symm.trans e) (by decide), fun h4 => absurd hk4 (by omega)⟩⟩
        by_cases r4 : v % 8 = 4
        · have h8 := r4
          have ha : adds = true := by rw [HA.out]; exact decide_eq_true (by omega)
          have HA2 := Lib.hid ha
          clear ha
          have h2 : v % 2 = 0 := by omega
          go_wp2_with fail
          rcases relC k l f 0 (1 + a1 % 4) b k1 k8 l0 (by omega) f0 f1 (by omega) with ⟨c, hT⟩ | ⟨k', f', b', hk1, hk8, hk4, hq0, hql, hf0, hf1, hT⟩
          · have HT := Lib.hid hT
            clear hT
            refine (HT.out _).mono ?_
            rintro e w2 ⟨rfl, hb2⟩
            obtain ⟨hc2, hf2⟩ := bcell hb2
            have hz2 := hb2.size
            have hB2 : Below w.heap.size w w2 := Below.step hB0 hb2
            try simp only [World.size_alloc, World.size_setCell, World.size_drew] at hz2 hc2 hf2
            have hy2 : wr.heap.size + 1 < w2.heap.size := by omega
            go_wp2_with fail
            go_meet
            case rel =>
              have hS := left_ hXX.out hB hs hb2 0 0 0 0 false
              exact ⟨0, rfl, by decide, by decide, hS.1, hS.2.1, hS.2.2.1, hS.2.2.2.1, .inl ⟨c, rfl⟩⟩
          · have HT := Lib.hid hT
            clear hT
            refine (HT.out _).mono ?_
            rintro e w2 ⟨rfl, hb2⟩
            obtain ⟨hc2, hf2⟩ := bcell hb2
            have hz2 := hb2.size
            have hB2 : Below w.heap.size w w2 := Below.step hB0 hb2
            try simp only [World.size_alloc, World.size_setCell, World.size_drew] at hz2 hc2 hf2
            have hy2 : wr.heap.size + 1 < w2.heap.size := by omega
            go_wp2_with fail
            go_meet
            case rel =>
              have hS := left_ hXX.out hB hs hb2 k' 1 (l) f' b'
              exact ⟨0, rfl, by decide, by decide, hS.1, hS.2.1, hS.2.2.1, hS.2.2.2.1, .inr ⟨k', l, f', b', rfl, hS.2.2.2.2, hk1, hk8, by omega, by omega, hf0, hf1, fun _ => by rw [Int.sub_zero], fun e => absurd (HA2.out.symm.trans e) (by decide), fun h4 => absurd hk4 (by omega)⟩⟩
        by_cases r5 : v % 8 = 5
        · have h8 := r5
          have ha : adds = false := by rw [HA.out]; exact decide_eq_false (by omega)
          have HA2 := Lib.hid ha
          clear ha
          go_wp2_with fail
          rcases canC k l f (1 + a1 % 4) b k1 k8 l0 (by omega) f0 f1 (by omega) with ⟨c, hT⟩ | ⟨k', f', b', hk1, hk8, hk4, hf0, hf1, hT⟩
          · have HT := Lib.hid hT
            clear hT
            refine (HT.out _).mono ?_
            rintro e w2 ⟨rfl, hb2⟩
            obtain ⟨hc2, hf2⟩ := bcell hb2
            have hz2 := hb2.size
            have hB2 : Below w.heap.size w w2 := Below.step hB0 hb2
            try simp only [World.size_alloc, World.size_setCell, World.size_drew] at hz2 hc2 hf2
            have hy2 : wr.heap.size + 1 < w2.heap.size := by omega
            go_wp2_with fail
            go_meet
            case rel =>
              have hS := left_ hXX.out hB hs hb2 0 0 0 0 false
              exact ⟨q, rfl, hqa, hqb, hS.1, hS.2.1, hS.2.2.1, hS.2.2.2.1, .inl ⟨c, rfl⟩⟩
          · have HT := Lib.hid hT
            clear hT
            refine (HT.out _).mono ?_
            rintro e w2 ⟨rfl, hb2⟩
            obtain ⟨hc2, hf2⟩ := bcell hb2
            have hz2 := hb2.size
            have hB2 : Below w.heap.size w w2 := Below.step hB0 hb2
            try simp only [World.size_alloc, World.size_setCell, World.size_drew] at hz2 hc2 hf2
            have hy2 : wr.heap.size + 1 < w2.heap.size := by omega
            go_wp2_with fail
            go_meet
            case rel =>
              have hS := left_ hXX.out hB hs hb2 k' 1 (l) f' b'
              exact ⟨q, rfl, hqa, hqb, hS.1, hS.2.1, hS.2.2.1, hS.2.2.2.1, .inr ⟨k', l, f', b', rfl, hS.2.2.2.2, hk1, hk8, by omega, by omega, hf0, hf1, fun e => absurd (e.symm.trans HA2.out) (by decide), fun _ => rfl, fun h4 => absurd hk4 (by omega)⟩⟩
        by_cases r6 : v % 8 = 6
        · have h8 := r6
          have ha : adds = false := by rw [HA.out]; exact decide_eq_false (by omega)
          have HA2 := Lib.hid ha
          clear ha
          go_wp2_with fail
          rcases expC k l f (1 + a1 % 4) b k1 k8 l0 (by omega) f0 f1 (by omega) with ⟨c, hT⟩ | ⟨k', f', b', hk1, hk8, hk4, hf0, hf1, hT⟩
          · have HT := Lib.hid hT
            clear hT
            refine (HT.out _).mono ?_
            rintro e w2 ⟨rfl, hb2⟩
            obtain ⟨hc2, hf2⟩ := bcell hb2
            have hz2 := hb2.size
            have hB2 : Below w.heap.size w w2 := Below.step hB0 hb2
            try simp only [World.size_alloc, World.size_setCell, World.size_drew] at hz2 hc2 hf2
            have hy2 : wr.heap.size + 1 < w2.heap.size := by omega
            go_wp2_with fail
            go_meet
            case rel =>
              have hS := left_ hXX.out hB hs hb2 0 0 0 0 false
              exact ⟨q, rfl, hqa, hqb, hS.1, hS.2.1, hS.2.2.1, hS.2.2.2.1, .inl ⟨c, rfl⟩⟩
          · have HT := Lib.hid hT
            clear hT
            refine (HT.out _).mono ?_
            rintro e w2 ⟨rfl, hb2⟩
            obtain ⟨hc2, hf2⟩ := bcell hb2
            have hz2 := hb2.size
            have hB2 : Below w.heap.size w w2 := Below.step hB0 hb2
            try simp only [World.size_alloc, World.size_setCell, World.size_drew] at hz2 hc2 hf2
            have hy2 : wr.heap.size + 1 < w2.heap.size := by omega
            go_wp2_with fail
            go_meet
            case rel =>
              have hS := left_ hXX.out hB hs hb2 k' 1 (l) f' b'
              exact ⟨q, rfl, hqa, hqb, hS.1, hS.2.1, hS.2.2.1, hS.2.2.2.1, .inr ⟨k', l, f', b', rfl, hS.2.2.2.2, hk1, hk8, by omega, by omega, hf0, hf1, fun e => absurd (e.symm.trans HA2.out) (by decide), fun _ => rfl, fun h4 => absurd hk4 (by omega)⟩⟩
        by_cases r7 : v % 8 = 7
        · have h8 := r7
          have ha : adds = false := by rw [HA.out]; exact decide_eq_false (by omega)
          have HA2 := Lib.hid ha
          clear ha
          go_wp2_with fail
          rcases proC k l f (1 + a1 % 4) b k1 k8 l0 (by omega) f0 f1 (by omega) with ⟨c, hT⟩ | ⟨k', f', b', hk1, hk8, hk4, hf0, hf1, hT⟩
          · have HT := Lib.hid hT
            clear hT
            refine (HT.out _).mono ?_
            rintro e w2 ⟨rfl, hb2⟩
            obtain ⟨hc2, hf2⟩ := bcell hb2
            have hz2 := hb2.size
            have hB2 : Below w.heap.size w w2 := Below.step hB0 hb2
            try simp only [World.size_alloc, World.size_setCell, World.size_drew] at hz2 hc2 hf2
            have hy2 : wr.heap.size + 1 < w2.heap.size := by omega
            go_wp2_with fail
            go_meet
            case rel =>
              have hS := left_ hXX.out hB hs hb2 0 0 0 0 false
              exact ⟨q, rfl, hqa, hqb, hS.1, hS.2.1, hS.2.2.1, hS.2.2.2.1, .inl ⟨c, rfl⟩⟩
          · have HT := Lib.hid hT
            clear hT
            refine (HT.out _).mono ?_
            rintro e w2 ⟨rfl, hb2⟩
            obtain ⟨hc2, hf2⟩ := bcell hb2
            have hz2 := hb2.size
            have hB2 : Below w.heap.size w w2 := Below.step hB0 hb2
            try simp only [World.size_alloc, World.size_setCell, World.size_drew] at hz2 hc2 hf2
            have hy2 : wr.heap.size + 1 < w2.heap.size := by omega
            go_wp2_with fail
            go_meet
            case rel =>
              have hS := left_ hXX.out hB hs hb2 k' 1 (l) f' b'
              exact ⟨q, rfl, hqa, hqb, hS.1, hS.2.1, hS.2.2.1, hS.2.2.2.1, .inr ⟨k', l, f', b', rfl, hS.2.2.2.2, hk1, hk8, by omega, by omega, hf0, hf1, fun e => absurd (e.symm.trans HA2.out) (by decide), fun _ => rfl, fun h4 => absurd hk4 (by omega)⟩⟩
        · exfalso; omega
      case rest =>
        obtain ⟨q', rfl, hqa', hqb', hBx, hUx, hBel, hXl, hO⟩ := hcut
        rcases hO with ⟨c, rfl⟩ | ⟨k', l', f', b', rfl, hXx, hk1, hk8, hl0, hll, hf0, hf1, ha1, ha2, hk4⟩
        · go_wp2
          go_roundg (n - (j + 1))
          case measure => omega
          case rel => exact ⟨j + 1, k, l, f, b, rfl, by omega, by go_num, rfl, k1, k8, l0, l1, f0, f1, hBx, hBel⟩
        · have hss := size_set5 wc w1.heap.size k' 1 l' f' b'
          have hBs := hBx.set5_same k' 1 l' f' b'
          have hUs := hUx.set5_other (by omega : w1.heap.size ≠ wr.heap.size) k' 1 l' f' b'
          have hbs := below_set5 hBel (by have := hB1.size; omega : w.heap.size ≤ w1.heap.size) k' 1 l' f' b'
          have HBS := Lib.hid hBs
          have HUS := Lib.hid hUs
          have HBX := Lib.hid hBx
          have HXX := Lib.hid hXx
          obtain ⟨⟨x0, x1, x2, x3, x4⟩, _, _⟩ := hXx
          obtain ⟨_, ⟨y0, y1, y2, y3, y4⟩, _⟩ := hBx
          have HS := Lib.hid hss
          have HA1 := Lib.hid ha1
          have HA2 := Lib.hid ha2
          have HK4 := Lib.hid hk4
          clear hss ha1 ha2 hk4 hUx hBs hUs
          by_cases hk : k ≤ 4
          · by_cases ad : adds = true
            · obtain rfl := HA1.out ad
              have hv : v % 8 < 2 ∨ v % 8 = 3 ∨ v % 8 = 4 := of_decide_eq_true (HA.out ▸ ad)
              by_cases v2 : v % 8 < 2
              · clear hv ad
                have e1 : (l - q' + (1 + a0 - l + q') != 1 + a0) = false := by rw [bne_eq_false_iff_eq]; omega
                go_upto_region 32 with fail
                change Code.wp _ _ _ _ (set5 wc w1.heap.size k' 1 (l - q') f' b')
                generalize set5 wc w1.heap.size k' 1 (l - q') f' b' = W at HBS HUS hbs ⊢
                obtain ⟨⟨s0, s1, s2, s3, s4⟩, _, sl⟩ := HBS.out
                obtain ⟨⟨d0, d1, d2, d3, d4⟩, _, dl⟩ := HUS.out
                clear x0 x1 x2 x3 x4 y0 y1 y2 y3 y4
                go_wp2_with fail
                refine (over_low _ _ _ _ _ _ (by omega)).mono ?_
                rintro e w3 ⟨rfl, hb3⟩
                obtain ⟨hc3, hf3⟩ := bcell hb3
                have hz3 := hb3.size
                try simp only [World.size_alloc, World.size_setCell, World.size_drew] at hz3 hc3 hf3
                have hw1 := hB1.size
                have hy3 : w1.heap.size < w3.heap.size := by omega
                have hy4 : wr.heap.size < w3.heap.size := by omega
                go_wp2
                go_roundg (n - (j + 1))
                case measure => omega
                case rel => exact ⟨j + 1, k', l - q', f', b', rfl, by omega, by go_num, by go_num, by omega, by omega, by omega, by omega, by omega, by omega, HBS.out.below hb3, Below.step hbs hb3⟩
              · have n2 : decide (v % 8 < 2) = false := decide_eq_false v2
                by_cases v3 : v % 8 = 3
                · clear hv ad v2
                  have e1 : (l - q' + (1 + a0 - l + q') != 1 + a0) = false := by rw [bne_eq_false_iff_eq]; omega
                  go_upto_region 32 with fail
                  change Code.wp _ _ _ _ (set5 wc w1.heap.size k' 1 (l - q') f' b')
                  generalize set5 wc w1.heap.size k' 1 (l - q') f' b' = W at HBS HUS hbs ⊢
                  obtain ⟨⟨s0, s1, s2, s3, s4⟩, _, sl⟩ := HBS.out
                  obtain ⟨⟨d0, d1, d2, d3, d4⟩, _, dl⟩ := HUS.out
                  clear x0 x1 x2 x3 x4 y0 y1 y2 y3 y4
                  go_wp2_with fail
                  refine (over_low _ _ _ _ _ _ (by omega)).mono ?_
                  rintro e w3 ⟨rfl, hb3⟩
                  obtain ⟨hc3, hf3⟩ := bcell hb3
                  have hz3 := hb3.size
                  try simp only [World.size_alloc, World.size_setCell, World.size_drew] at hz3 hc3 hf3
                  have hw1 := hB1.size
                  have hy3 : w1.heap.size < w3.heap.size := by omega
                  have hy4 : wr.heap.size < w3.heap.size := by omega
                  go_wp2
                  go_roundg (n - (j + 1))
                  case measure => omega
                  case rel => exact ⟨j + 1, k', l - q', f', b', rfl, by omega, by go_num, by go_num, by omega, by omega, by omega, by omega, by omega, by omega, HBS.out.below hb3, Below.step hbs hb3⟩
                · have v4 : v % 8 = 4 := by omega
                  clear hv ad v2 v3
                  have e1 : (l - q' + (1 + a0 - l + q') != 1 + a0) = false := by rw [bne_eq_false_iff_eq]; omega
                  go_upto_region 32 with fail
                  change Code.wp _ _ _ _ (set5 wc w1.heap.size k' 1 (l - q') f' b')
                  generalize set5 wc w1.heap.size k' 1 (l - q') f' b' = W at HBS HUS hbs ⊢
                  obtain ⟨⟨s0, s1, s2, s3, s4⟩, _, sl⟩ := HBS.out
                  obtain ⟨⟨d0, d1, d2, d3, d4⟩, _, dl⟩ := HUS.out
                  clear x0 x1 x2 x3 x4 y0 y1 y2 y3 y4
                  go_wp2_with fail
                  refine (over_low _ _ _ _ _ _ (by omega)).mono ?_
                  rintro e w3 ⟨rfl, hb3⟩
                  obtain ⟨hc3, hf3⟩ := bcell hb3
                  have hz3 := hb3.size
                  try simp only [World.size_alloc, World.size_setCell, World.size_drew] at hz3 hc3 hf3
                  have hw1 := hB1.size
                  have hy3 : w1.heap.size < w3.heap.size := by omega
                  have hy4 : wr.heap.size < w3.heap.size := by omega
                  go_wp2
                  go_roundg (n - (j + 1))
                  case measure => omega
                  case rel => exact ⟨j + 1, k', l - q', f', b', rfl, by omega, by go_num, by go_num, by omega, by omega, by omega, by omega, by omega, by omega, HBS.out.below hb3, Below.step hbs hb3⟩
            · have ad' : adds = false := Bool.eq_false_iff.2 ad
              obtain rfl := HA2.out ad'
              have hv : ¬ (v % 8 < 2 ∨ v % 8 = 3 ∨ v % 8 = 4) := of_decide_eq_false (HA.out ▸ ad')
              have n2 : decide (v % 8 < 2) = false := decide_eq_false (by omega)
              have n3 : (v % 8 == 3) = false := by rw [beq_eq_false_iff_ne]; omega
              have n4 : (v % 8 == 4) = false := by rw [beq_eq_false_iff_ne]; omega
              clear ad ad' hv
              have e1 : (l' + (1 + a0 - l') != 1 + a0) = false := by rw [bne_eq_false_iff_eq]; omega
              go_upto_region 32 with fail
              change Code.wp _ _ _ _ (set5 wc w1.heap.size k' 1 (l') f' b')
              generalize set5 wc w1.heap.size k' 1 (l') f' b' = W at HBS HUS hbs ⊢
              obtain ⟨⟨s0, s1, s2, s3, s4⟩, _, sl⟩ := HBS.out
              obtain ⟨⟨d0, d1, d2, d3, d4⟩, _, dl⟩ := HUS.out
              clear x0 x1 x2 x3 x4 y0 y1 y2 y3 y4
              go_wp2_with fail
              refine (over_low _ _ _ _ _ _ (by omega)).mono ?_
              rintro e w3 ⟨rfl, hb3⟩
              obtain ⟨hc3, hf3⟩ := bcell hb3
              have hz3 := hb3.size
              try simp only [World.size_alloc, World.size_setCell, World.size_drew] at hz3 hc3 hf3
              have hw1 := hB1.size
              have hy3 : w1.heap.size < w3.heap.size := by omega
              have hy4 : wr.heap.size < w3.heap.size := by omega
              go_wp2
              go_roundg (n - (j + 1))
              case measure => omega
              case rel => exact ⟨j + 1, k', l', f', b', rfl, by omega, by go_num, by go_num, by omega, by omega, by omega, by omega, by omega, by omega, HBS.out.below hb3, Below.step hbs hb3⟩
          · obtain ⟨ad', rfl, rfl, rfl, rfl⟩ := HK4.out (by omega)
            have hv : ¬ (v % 8 < 2 ∨ v % 8 = 3 ∨ v % 8 = 4) := of_decide_eq_false (HA.out ▸ ad')
            have n2 : decide (v % 8 < 2) = false := decide_eq_false (by omega)
            have n3 : (v % 8 == 3) = false := by rw [beq_eq_false_iff_ne]; omega
            have n4 : (v % 8 == 4) = false := by rw [beq_eq_false_iff_ne]; omega
            clear ad' hv
            have e1 : (l' + (1 + a0 - l') != 1 + a0) = false := by rw [bne_eq_false_iff_eq]; omega
            have e2 : (k' != k') = false := by simp
            have e3 : (l' != l') = false := by simp
            have e4 : (f' != f') = false := by simp
            have e5 : (b' != b') = false := by simp
            go_upto_region 32 with fail
            change Code.wp _ _ _ _ (set5 wc w1.heap.size k' 1 (l') f' b')
            generalize set5 wc w1.heap.size k' 1 (l') f' b' = W at HBS HUS hbs ⊢
            obtain ⟨⟨s0, s1, s2, s3, s4⟩, _, sl⟩ := HBS.out
            obtain ⟨⟨d0, d1, d2, d3, d4⟩, _, dl⟩ := HUS.out
            clear x0 x1 x2 x3 x4 y0 y1 y2 y3 y4
            go_wp2_with fail
            refine (over_yes _ _ _ _ _ _ (by omega) k8).mono ?_
            rintro e w3 ⟨rfl, hb3⟩
            obtain ⟨hc3, hf3⟩ := bcell hb3
            have hz3 := hb3.size
            try simp only [World.size_alloc, World.size_setCell, World.size_drew] at hz3 hc3 hf3
            have hw1 := hB1.size
            have hy3 : w1.heap.size < w3.heap.size := by omega
            have hy4 : wr.heap.size < w3.heap.size := by omega
            go_wp2
            go_roundg (n - (j + 1))
            case measure => omega
            case rel => exact ⟨j + 1, k', l', f', b', rfl, by omega, by go_num, by go_num, by omega, by omega, by omega, by omega, by omega, by omega, HBS.out.below hb3, Below.step hbs hb3⟩
    · have hjn : j = n := by omega
      go_wp2_with fail
      refine (awake32 _).mono ?_
      rintro e w3 ⟨rfl, hb3⟩
      go_wp2
      go_ret
      exact ⟨rfl, Below.step hB hb3⟩

set_option maxHeartbeats 1000000 in
theorem long (a0 a1 : Int) (A : Option Addr) (n cap : Nat) (w : World) (p0 : 0 ≤ a0) (p1 : a0 ≤ 255) (p2 : 0 ≤ a1) (p3 : a1 ≤ 255) (hn : 100 < n) (h0 : n ≤ 9223372036854775807) :
    Calls Try.prog 8 #[.int .u8 a0, .int .u8 a1, .slice A n cap] w fun e w' => e = .returned (.bool true) ∧ Below w.heap.size w w' := by
  go_enter Try.func8, Try.ntmps8
  go_wp2_with fail
  refine (begin_ok _ (by omega) (by omega) _).mono ?_
  rintro e w1 ⟨rfl, hb1⟩
  have hB1 : Below w.heap.size w w1 := Below.step (by go_grown) hb1
  have hs := hB1.size
  clear hb1
  go_wp2_with fail
  refine (awake32 _).mono ?_
  rintro e w3 ⟨rfl, hb3⟩
  go_wp2
  go_ret
  exact ⟨rfl, Below.step (hB1.alloc hs _) hb3⟩
theorem walk (a0 a1 : Int) (a2 : Option Addr) (len2 cap2 : Nat) (z2 : List Int) (w : World) (w0 : (Lit.int .u8 a0).wf = true) (w1 : (Lit.int .u8 a1).wf = true) (w2 : IsRow .u16 w a2 len2 cap2 z2) :
    Calls Try.prog 8 #[.int .u8 a0, .int .u8 a1, .slice a2 len2 cap2] w fun e w' => e = .returned (.bool true) ∧ Below w.heap.size w w' := by
  have b0 := bounds_u8 w0
  have b1 := bounds_u8 w1
  by_cases hl : len2 ≤ 100
  · refine main a0 a1 a2 len2 cap2 (fun k => z2.getD k 0) w b0.1 b0.2 b1.1 b1.2 hl ?_
    intro k hk
    rcases w2 with ⟨rfl, rfl, rfl, rfl⟩ | ⟨x, rfl, hlc, hcm, hzl, hcell, hwz⟩
    · omega
    · obtain ⟨g, off, rfl, hc⟩ := ints_at hcell (by omega)
      have h := hc k (by omega)
      have hg : g < w.heap.size := by
        rcases Nat.lt_or_ge g w.heap.size with hlt | hge
        · exact hlt
        · exact absurd h (by simp [World.cell?, Array.getElem?_eq_none hge])
      have hw := bounds_u16 (hwz (z2.getD k 0) (by rw [List.getD_eq_getElem?_getD, List.getElem?_eq_getElem (by omega : k < z2.length)]; exact List.getElem_mem _))
      exact ⟨g, off, rfl, hg, h, hw.1, hw.2⟩
  · have hb : len2 ≤ 9223372036854775807 := by
      rcases w2 with ⟨rfl, rfl, rfl, rfl⟩ | ⟨x, rfl, hlc, hcm, _⟩
      · omega
      · unfold maxLen at hcm; omega
    exact long a0 a1 a2 len2 cap2 w b0.1 b0.2 b1.1 b1.2 (by omega) hb
end Go.Proofs.Ytbooncoealpfdaa.cellPaths
