/-
  The document's places, as its own text lays them.
-/
import Derived.Test.YtjkojbaphdlhlaaDoorRows
import Derived.WalkKit
import Derived.ProofKit
import Derived.OpenShut
import Derived.ShutString
import Derived.Below
import Derived.Outline
import Derived.WalkLawsBesides
import Derived.WalkSpells
import Derived.Handy
import Derived.Deep.QuietTactic
import Derived.BigQuiet
import Derived.RegionTactic
import Derived.ChangeAlike
import Derived.Lib.Hide
import Derived.Laws.Rows
import Derived.Laws.Tables
import Derived.Laws.CopyOwn
import Derived.Laws.MakeOwn
import Derived.Laws.Entries
import Derived.Laws.OwnMore
import Derived.Deep.WholeRow
import Derived.Deep.LoopGhost
import Derived.Deep.AppendLies
import Derived.Deep.Draws
import Derived.Maps.AppendAt
import Derived.OwnWalk
import Derived.Deep.RegionHeld3
import Derived.Deep.Cut
import Derived.Deep.CutRange
import Derived.Deep.DeepCutAuto
import Derived.Deep.CutBlock
import Derived.Lib.SliceRun
import Derived.IntWalk
import Derived.Test.YtjkojbaphdlhlaaDoorKit
import Derived.Test.YtjkojbaphdlhlaaDoorApp
import Derived.Test.YtjkojbaphdlhlaaDoorRcPl
namespace Go.Proofs.YtjkojbaphdlhlaaDoor.Rc
open Go.ChangeShapes Go.WideShapes Go.ChangeAt Go.RowKit
theorem infoP : (Tryd.prog.info? 109).map (fun i => (i.zero, i.size, i.bytes)) = some (some (.agg #[.int .i64 0, .int .i64 0, .int .i64 0, .int .i64 0]), 4, 32) := by kernel_rfl
theorem reads_new4 (w : World) (n : Nat) (l : List Value) (t : TypeId) (hl : l.length = n * 4) : Reads (w.alloc (.cells l.toArray t)) (w.heap.size + 1) 4 (some ⟨w.heap.size, 0, none⟩) n l := by
  refine ⟨hl, fun _ => ⟨_, rfl, by show w.heap.size < w.heap.size + 1; omega, fun j u hu => ?_⟩⟩
  have hg := heap_alloc_new w (.cells l.toArray t)
  unfold Addr.add
  by_cases h0 : j = 0
  · subst h0
    simp only [if_true]
    rw [cell_of_row _ _ _ _ _ _ hg]
    simpa using hu
  · simp only [h0, if_false, Nat.zero_add]
    rw [cell_of_row _ _ _ _ _ _ hg]
    simpa using hu
def PRow (A G S T : Nat) (w : World) (e : Ending) (w' : World) : Prop := ∃ v, e = .returned v ∧ w'.ownsRow (w.heap.size + 1) 109 4 v T (pls A G S T) ∧ Below w.heap.size w w'
set_option maxRecDepth 100000 in
set_option maxHeartbeats 8000000 in
theorem places_is (p c f g A : Nat) (n b r : Int) (w : World) (hp : 1 ≤ p ∧ p ≤ 6) (hc : 1 ≤ c ∧ c ≤ 4) (hf : 1 ≤ f ∧ f ≤ 4) (hg : 1 ≤ g ∧ g ≤ 15) (hA : A = p * c) (hA4 : A ≤ 24) :
    Calls Tryd.prog 39 #[.agg #[.int .i64 (p : Int), .int .i64 (c : Int), .int .i64 n, .int .i64 b, .int .i64 r, .int .i64 (f : Int), .int .i64 (g : Int)]] w (PRow A g (f + 1) (ix A g (f + 1) A 0 0) w) := by
  obtain ⟨i0, hi, hz0, hz1, hz2⟩ := info_parts infoP
  have HI := Lib.hid hi
  have HZ0 := Lib.hid hz0
  have HZ1 := Lib.hid hz1
  have HZ2 := Lib.hid hz2
  have HAA := Lib.hid (show (p : Int) * (c : Int) = (A : Int) from by rw [hA]; rfl)
  have m0 : (0 : Int) ≤ (p : Int) * (c : Int) := by rw [HAA.out]; omega
  have m1 : (p : Int) * (c : Int) ≤ 24 := by rw [HAA.out]; omega
  have HC := Lib.hid (And.intro hf hg)
  have hg0 : (0 : Int) ≤ (g : Int) := by omega
  have hg1 : (g : Int) ≤ 15 := by omega
  have hf0 : (0 : Int) ≤ (f : Int) := by omega
  have hf1 : (f : Int) ≤ 4 := by omega
  clear hi hz0 hz1 hz2 hA hp hc hf hg
  go_enter Tryd.func39, Tryd.ntmps39
  go_wp2_with fail
  rw [HAA.out]
  clear m0 m1 HAA
  have hA0 : (0 : Int) ≤ (A : Int) := by omega
  have hA1 : (A : Int) ≤ 24 := by omega
  obtain ⟨W0, hW0⟩ : ∃ W0, W0 = w.alloc (.cells #[.int .i64 (p : Int), .int .i64 (c : Int), .int .i64 n, .int .i64 b, .int .i64 r, .int .i64 (f : Int), .int .i64 (g : Int)] 70) := ⟨_, rfl⟩
  have hz : W0.heap.size = w.heap.size + 1 := by rw [hW0, World.size_alloc]
  have hBW : Below w.heap.size w W0 := by rw [hW0]; go_grown
  have k5 : W0.cell? ⟨w.heap.size, 5, none⟩ = some (.int .i64 (f : Int)) := by rw [hW0]; simp [go_sem]
  have k6 : W0.cell? ⟨w.heap.size, 6, none⟩ = some (.int .i64 (g : Int)) := by rw [hW0]; simp [go_sem]
  rw [← hW0]
  have HK5 := Lib.hid k5
  have HK6 := Lib.hid k6
  have HZW := Lib.hid hz
  clear hW0 k5 k6 hz
  go_loopw [3, 5] (fun v i wr => ∃ k : Nat, k ≤ A ∧ i = .int .i64 k ∧ Hid (wr.ownsRow W0.heap.size 109 4 v (2 * k) (pls A g (f + 1) (2 * k))) ∧ Below W0.heap.size W0 wr) (fun _ i _ => A - (intOf i).toNat)
  case atStart => exact ⟨0, Nat.zero_le _, rfl, ⟨rfl, .inl ⟨rfl, rfl⟩⟩, Below.refl _ _⟩
  case round =>
    obtain ⟨k, hk, rfl, HO, hB⟩ := hrel
    have hs := hB.size
    by_cases hlt : k < A
    · have HP2 := Lib.hid (pls_two A g (f + 1) k hlt)
      have N1 := Lib.hid (show 2 * k + 2 ≤ maxLen from by unfold maxLen; omega)
      have N2 := Lib.hid (show (2 * k + 2) * 32 ≤ 140737488355328 from by omega)
      have HR := Lib.hid (reads_new4 wr 2 [.int .i64 1, .int .i64 (k : Int), .int .i64 0, .int .i64 0, .int .i64 2, .int .i64 (k : Int), .int .i64 0, .int .i64 0] 109 rfl)
      have HO1 := Lib.hid (HO.out.alloc (Obj.cells #[.int .i64 1, .int .i64 (k : Int), .int .i64 0, .int .i64 0, .int .i64 2, .int .i64 (k : Int), .int .i64 0, .int .i64 0] 109))
      have N3 := Lib.hid (show W0.heap.size ≤ (wr.alloc (Obj.cells #[.int .i64 1, .int .i64 (k : Int), .int .i64 0, .int .i64 0, .int .i64 2, .int .i64 (k : Int), .int .i64 0, .int .i64 0] 109)).heap.size by simp; omega)
      have NV := Lib.hid (show ∀ u ∈ [Value.int .i64 1, .int .i64 (k : Int), .int .i64 0, .int .i64 0, .int .i64 2, .int .i64 (k : Int), .int .i64 0, .int .i64 0], u.oneCell' = true from by intro u hu; simp only [List.mem_cons, List.not_mem_nil, or_false] at hu; rcases hu with h | h | h | h | h | h | h | h <;> (subst h; rfl))
      have hB2 : Below W0.heap.size W0 (wr.alloc (Obj.cells #[.int .i64 1, .int .i64 (k : Int), .int .i64 0, .int .i64 0, .int .i64 2, .int .i64 (k : Int), .int .i64 0, .int .i64 0] 109)) := hB.alloc hs _
      go_wp2_with (at_builtin; refine wpList_append_any _ rfl (.tmp 19) (.tmp 24) 79 rfl W0.heap.size 109 i0 (.agg #[.int .i64 0, .int .i64 0, .int .i64 0, .int .i64 0]) 4 32 Tryd.underlying79 HI.out HZ0.out HZ1.out HZ2.out rfl (by decide) _ (2 * k) (pls A g (f + 1) (2 * k)) rfl HO1.out _ (some ⟨wr.heap.size, 0, none⟩) 2 2 _ rfl HR.out NV.out N1.out N2.out N3.out ?_; intro v3 w3 hown3 hgrow3 hblk3; have HP := Lib.hid (And.intro hown3 hgrow3); clear hown3 hgrow3 hblk3)
      go_roundw
      case rel => exact ⟨k + 1, by omega, by go_num, by have h := HP.out.1; refine Lib.hid ?_; rw [HP2.out]; exact h, Below.grown hB2 HP.out.2 (by simp; omega) (fun g e => (HO1.out.lt g e).1)⟩
      case measure => simp [intOf]; omega
    · obtain rfl : k = A := by omega
      have HE0 := Lib.hid (show 2 * k = ix k g (f + 1) 0 0 0 from by unfold ix; omega)
      have HO2 := HO
      rw [HE0.out] at HO2
      clear HO HE0
      go_wp2_with fail
      go_loopw [3, 6, 7, 8] (fun v i _ _ wr => ∃ a : Nat, a ≤ k ∧ i = .int .i64 a ∧ Hid (wr.ownsRow W0.heap.size 109 4 v (ix k g (f + 1) a 0 0) (pls k g (f + 1) (ix k g (f + 1) a 0 0))) ∧ Below W0.heap.size W0 wr) (fun _ i _ _ _ => k - (intOf i).toNat)
      case atStart => exact ⟨0, Nat.zero_le _, rfl, HO2, hB⟩
      case round =>
        clear HO2 hB hs
        obtain ⟨a, ha, rfl, HO, hB⟩ := hrel
        by_cases hlt : a < k
        · go_wp2_with fail
          go_loopw [3, 7, 8] (fun v j _ wr => ∃ t : Nat, t ≤ g ∧ j = .int .i64 ((t : Int) + 1) ∧ Hid (wr.ownsRow W0.heap.size 109 4 v (ix k g (f + 1) a t 0) (pls k g (f + 1) (ix k g (f + 1) a t 0))) ∧ Below W0.heap.size W0 wr) (fun _ j _ _ => g + 1 - (intOf j).toNat)
          case atStart => exact ⟨0, Nat.zero_le _, rfl, HO, hB⟩
          case round =>
            clear HO hB
            obtain ⟨t, ht, rfl, HO, hB⟩ := hrel
            have k6 := (hB.cell (p := ⟨w.heap.size, 6, none⟩) (by rw [HZW.out]; show w.heap.size < w.heap.size + 1; omega)).trans HK6.out
            by_cases htg : t < g
            · have htg1 : (t : Int) + 1 ≤ (g : Int) := by omega
              go_wp2_with fail
              go_loopw [3, 8] (fun v i wr => ∃ q : Nat, q ≤ f + 1 ∧ i = .int .i64 q ∧ Hid (wr.ownsRow W0.heap.size 109 4 v (ix k g (f + 1) a t q) (pls k g (f + 1) (ix k g (f + 1) a t q))) ∧ Below W0.heap.size W0 wr) (fun _ i _ => f + 1 - (intOf i).toNat)
              case atStart => exact ⟨0, Nat.zero_le _, rfl, HO, hB⟩
              case round =>
                clear HO hB k6
                obtain ⟨q, hq, rfl, HO, hB⟩ := hrel
                have hs := hB.size
                have k5 := (hB.cell (p := ⟨w.heap.size, 5, none⟩) (by rw [HZW.out]; show w.heap.size < w.heap.size + 1; omega)).trans HK5.out
                by_cases hqf : q < f + 1
                · have hbd : ix k g (f + 1) a t q < 2000 := by
                    have h1 := ix_lt k g (f + 1) a t q hlt htg hqf
                    have h2 : k * (g * (f + 1)) ≤ 24 * (15 * 5) := Nat.mul_le_mul (by omega) (Nat.mul_le_mul (by omega) (by omega))
                    omega
                  have HP2 := Lib.hid (pls_ix k g (f + 1) a t q htg hqf)
                  have HIX := Lib.hid (show ix k g (f + 1) a t (q + 1) = ix k g (f + 1) a t q + 1 from by unfold ix; omega)
                  have N1 := Lib.hid (show ix k g (f + 1) a t q + 1 ≤ maxLen from by unfold maxLen; omega)
                  have N2 := Lib.hid (show (ix k g (f + 1) a t q + 1) * 32 ≤ 140737488355328 from by omega)
                  have HR := Lib.hid (reads_new4 wr 1 [.int .i64 3, .int .i64 (a : Int), .int .i64 ((t : Int) + 1), .int .i64 (q : Int)] 109 rfl)
                  have HO1 := Lib.hid (HO.out.alloc (Obj.cells #[.int .i64 3, .int .i64 (a : Int), .int .i64 ((t : Int) + 1), .int .i64 (q : Int)] 109))
                  have N3 := Lib.hid (show W0.heap.size ≤ (wr.alloc (Obj.cells #[.int .i64 3, .int .i64 (a : Int), .int .i64 ((t : Int) + 1), .int .i64 (q : Int)] 109)).heap.size by simp; omega)
                  have NV := Lib.hid (show ∀ u ∈ [Value.int .i64 3, .int .i64 (a : Int), .int .i64 ((t : Int) + 1), .int .i64 (q : Int)], u.oneCell' = true from by intro u hu; simp only [List.mem_cons, List.not_mem_nil, or_false] at hu; rcases hu with h | h | h | h <;> (subst h; rfl))
                  have hB2 : Below W0.heap.size W0 (wr.alloc (Obj.cells #[.int .i64 3, .int .i64 (a : Int), .int .i64 ((t : Int) + 1), .int .i64 (q : Int)] 109)) := hB.alloc hs _
                  clear hbd
                  have hqf0 : (q : Int) ≤ (f : Int) := by omega
                  go_wp2_with (at_builtin; refine wpList_append_any _ rfl (.tmp 43) (.tmp 48) 79 rfl W0.heap.size 109 i0 (.agg #[.int .i64 0, .int .i64 0, .int .i64 0, .int .i64 0]) 4 32 Tryd.underlying79 HI.out HZ0.out HZ1.out HZ2.out rfl (by decide) _ (ix k g (f + 1) a t q) (pls k g (f + 1) (ix k g (f + 1) a t q)) rfl HO1.out _ (some ⟨wr.heap.size, 0, none⟩) 1 1 _ rfl HR.out NV.out N1.out N2.out N3.out ?_; intro v3 w3 hown3 hgrow3 hblk3; have HP := Lib.hid (And.intro hown3 hgrow3); clear hown3 hgrow3 hblk3)
                  go_roundw
                  case rel => exact ⟨q + 1, by omega, by go_num, by have h := HP.out.1; refine Lib.hid ?_; rw [HIX.out, HP2.out]; exact h, Below.grown hB2 HP.out.2 (by simp; omega) (fun g e => (HO1.out.lt g e).1)⟩
                  case measure => simp [intOf]; omega
                · obtain rfl : q = f + 1 := by omega
                  have HIX := Lib.hid (show ix k g (f + 1) a (t + 1) 0 = ix k g (f + 1) a t (f + 1) from by unfold ix; rw [← Nat.add_assoc (a * g), Nat.add_mul (a * g + t) 1]; omega)
                  have hqf1 : decide ((((f + 1 : Nat)) : Int) ≤ (f : Int)) = false := decide_eq_false (by omega)
                  go_wp2_with fail
                  go_roundw
                  case rel => exact ⟨t + 1, by omega, by go_num, by rw [HIX.out]; exact HO, hB⟩
                  case measure => simp [intOf]; omega
            · obtain rfl : t = g := by omega
              have HIX := Lib.hid (show ix k t (f + 1) (a + 1) 0 0 = ix k t (f + 1) a t 0 from by unfold ix; rw [Nat.add_mul a 1, Nat.one_mul]; simp only [Nat.add_zero])
              have hqf1 : decide ((t : Int) + 1 ≤ (t : Int)) = false := decide_eq_false (by omega)
              go_wp2_with fail
              go_roundw
              case rel => exact ⟨a + 1, by omega, by go_num, by rw [HIX.out]; exact HO, hB⟩
              case measure => simp [intOf]; omega
        · obtain rfl : a = k := by omega
          go_wp2_with fail
          go_ret
          exact ⟨_, rfl, by have h := HO.out; rw [HZW.out] at h; exact h, hBW.trans (hB.mono (by rw [HZW.out]; omega))⟩
end Go.Proofs.YtjkojbaphdlhlaaDoor.Rc
