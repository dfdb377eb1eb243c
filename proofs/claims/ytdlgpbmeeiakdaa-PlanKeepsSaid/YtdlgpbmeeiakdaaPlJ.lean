/-
  Weighted rows; rows held against numbers.
-/
import Derived.Test.YtdlgpbmeeiakdaaRows
import Derived.Test.YtdlgpbmeeiakdaaKit
import Derived.Test.YtdlgpbmeeiakdaaApp
import Derived.Test.YtdlgpbmeeiakdaaEv
import Derived.Test.YtdlgpbmeeiakdaaEvP
import Derived.Test.YtdlgpbmeeiakdaaEvQ
import Derived.Test.YtdlgpbmeeiakdaaEvR
import Derived.Test.YtdlgpbmeeiakdaaQuiet
import Derived.Test.YtdlgpbmeeiakdaaPlA
import Derived.Test.YtdlgpbmeeiakdaaPlB
import Derived.Test.YtdlgpbmeeiakdaaPlF
import Derived.Test.YtdlgpbmeeiakdaaPlI
import Derived.WalkKit
import Derived.ProofKit
import Derived.OpenShut
import Derived.ShutString
import Derived.Below
import Derived.Outline
import Derived.WalkLawsBesides
import Derived.WalkSpells
import Derived.Handy
import Derived.Deep.QuietTactic
import Derived.BigQuiet
import Derived.RegionTactic
import Derived.ChangeAlike
import Derived.Lib.Hide
import Derived.Laws.Rows
import Derived.Laws.Tables
import Derived.Laws.CopyOwn
import Derived.Laws.MakeOwn
import Derived.Laws.Entries
import Derived.Laws.OwnMore
import Derived.Deep.WholeRow
import Derived.Deep.LoopGhost
import Derived.Deep.AppendLies
import Derived.Deep.Draws
import Derived.Maps.AppendAt
import Derived.OwnWalk
import Derived.Deep.RegionHeld3
import Derived.Deep.Cut
import Derived.Deep.CutRange
import Derived.Deep.DeepCutAuto
import Derived.Deep.CutBlock
import Derived.Lib.SliceRun
import Derived.IntWalk
namespace Go.Proofs.Ytdlgpbmeeiakdaa
open Go.ChangeShapes Go.WideShapes Go.ChangeAt Go.RowKit
/-- Events that are what numbers say: a step of an agent; below 0 a tick. -/
def Sm (l : List Ev) (L : List Int) : Prop := l.length = L.length ∧ ∀ (k : Nat) (e : Ev) (x : Int), l[k]? = some e → L[k]? = some x → e = ((3 : Int), x, (0 : Int)) ∨ (e.1 = 2 ∧ x < 0)
theorem sm_ev3 (L : List Int) : Sm (L.map ev3) L := by
  refine ⟨List.length_map .., fun k e x h1 h2 => ?_⟩
  rw [List.getElem?_map, h2] at h1
  left
  simpa [ev3] using h1.symm
theorem sm_evOf (L : List Int) : Sm (L.map evOf) L := by
  refine ⟨List.length_map .., fun k e x h1 h2 => ?_⟩
  rw [List.getElem?_map, h2] at h1
  have h1' : evOf x = e := by simpa using h1
  subst h1'
  unfold evOf
  by_cases h : x < 0
  · right; rw [if_pos h]; exact ⟨rfl, h⟩
  · left; rw [if_neg h]
set_option maxRecDepth 100000 in
set_option maxHeartbeats 4000000 in
theorem same_is (A : Option Addr) (cap : Nat) (l : List Ev) (B : Option Addr) (cb : Nat) (L : List Int) (w : World) (h : EAt w A l) (hI : IAt w B L) (hS : Sm l L) (hl : L.length ≤ 200000) :
    Calls Try.prog 20 #[.slice A l.length cap, .slice B L.length cb] w fun e w' => e = .returned (.bool true) ∧ Below w.heap.size w w' := by
  have H := Lib.hid h
  have HI := Lib.hid hI
  have HS := Lib.hid hS.2
  have hll := hS.1
  rw [hll]
  have HLL := Lib.hid hll
  have hnn : ((L.length : Int) != (L.length : Int)) = false := by simp
  clear h hI hS hll
  go_enter Try.func20, Try.ntmps20
  go_wp2_with fail
  go_loopw [14] (fun i wr => ∃ k : Nat, k ≤ L.length ∧ i = .int .i64 (k : Int) ∧ Below w.heap.size w wr) (fun i _ => L.length + 1 - (intOf i).toNat)
  case atStart => exact ⟨0, Nat.zero_le _, rfl, Below.refl _ _⟩
  case round =>
    obtain ⟨k, hk, rfl, hB⟩ := hrel
    have hs := hB.size
    by_cases hlt : k < L.length
    · obtain ⟨ev, hev⟩ : ∃ e, l[k]? = some e := ⟨_, List.getElem?_eq_getElem (by rw [HLL.out]; exact hlt)⟩
      obtain ⟨x, hx⟩ : ∃ e, L[k]? = some e := ⟨_, List.getElem?_eq_getElem hlt⟩
      have hor := HS.out k ev x hev hx
      obtain ⟨ad, hA2, hadl, hc⟩ := (HI.out.below hB) k x hx
      obtain ⟨g, hA, hg, c0, c1, c2, c3, c4, c5, c6, c7, c8, c9, c10, c11⟩ := H.out.cells k ev hev
      obtain ⟨ek, ex, en⟩ := ev
      dsimp only at c0 c1 c2
      have d0 := (hB.cell (p := ⟨g, k * 12, none⟩) hg).trans c0
      have d1 := (hB.cell (p := ⟨g, k * 12 + 1, none⟩) hg).trans c1
      have d2 := (hB.cell (p := ⟨g, k * 12 + 2, none⟩) hg).trans c2
      have d3 := (hB.cell (p := ⟨g, k * 12 + 3, none⟩) hg).trans c3
      have d4 := (hB.cell (p := ⟨g, k * 12 + 4, none⟩) hg).trans c4
      have d5 := (hB.cell (p := ⟨g, k * 12 + 5, none⟩) hg).trans c5
      have d6 := (hB.cell (p := ⟨g, k * 12 + 6, none⟩) hg).trans c6
      have d7 := (hB.cell (p := ⟨g, k * 12 + 7, none⟩) hg).trans c7
      have d8 := (hB.cell (p := ⟨g, k * 12 + 8, none⟩) hg).trans c8
      have d9 := (hB.cell (p := ⟨g, k * 12 + 9, none⟩) hg).trans c9
      have d10 := (hB.cell (p := ⟨g, k * 12 + 10, none⟩) hg).trans c10
      have d11 := (hB.cell (p := ⟨g, k * 12 + 11, none⟩) hg).trans c11
      subst hA
      clear c0 c1 c2 c3 c4 c5 c6 c7 c8 c9 c10 c11
      subst hA2
      have k0 : (0 : Int) ≤ (k : Int) := by omega
      have k1 : (k : Int) < (L.length : Int) := by omega
      have k2 : (L.length : Int) ≤ 200000 := by omega
      clear hx hev
      rcases hor with h3 | ⟨h2, hneg⟩
      · obtain ⟨rfl, rfl, rfl⟩ : ek = 3 ∧ ex = x ∧ en = 0 := by simpa using h3
        have hxx : (ex != ex) = false := by simp
        rename_i x
        go_wp2_with fail
        refine region_sc (by kernel_rfl) (by kernel_rfl) ?_
        iterate 1 (first | go_big_quiet_skip | (go_big_quiet_want; go_big_quiet_op; first | go_big_quiet_on | (refine ⟨_, fun _ _ => rfl, ?_⟩; go_big_quiet_on)))
        go_big_quiet_want
        refine ⟨.int .i64 3, fun wq hq => ?_, ?_⟩
        · have q1 := (hq.cell (p := ⟨wr.heap.size, 0, none⟩) (by simp)).trans (show (wr.alloc (.cells #[.int .i64 3, .int .i64 ex, .int .i64 0, .int .i64 0, .int .i64 0, .int .i64 0, .int .i64 0, .int .i64 0, .int .i64 0, .int .i64 0, .int .i64 0, .int .i64 0] 67)).cell? ⟨wr.heap.size, 0, none⟩ = some (.int .i64 3) from by simp [go_sem])
          unfold Oper.quietAt
          simp [go_sem, q1, Oper.quietUpon]
        simp only [Act.put, List.setIfInBounds_toArray, List.set_cons_zero, List.set_cons_succ]
        go_big_quiet_on
        iterate 3 (first | go_big_quiet_skip | (go_big_quiet_want; go_big_quiet_op; first | go_big_quiet_on | (refine ⟨_, fun _ _ => rfl, ?_⟩; go_big_quiet_on)))
        go_big_quiet_want
        refine ⟨.int .i64 ex, fun wq hq => ?_, ?_⟩
        · have q1 := (hq.cell (p := ⟨wr.heap.size, 1, none⟩) (by simp)).trans (show (wr.alloc (.cells #[.int .i64 3, .int .i64 ex, .int .i64 0, .int .i64 0, .int .i64 0, .int .i64 0, .int .i64 0, .int .i64 0, .int .i64 0, .int .i64 0, .int .i64 0, .int .i64 0] 67)).cell? ⟨wr.heap.size, 1, none⟩ = some (.int .i64 ex) from by simp [go_sem])
          unfold Oper.quietAt
          simp [go_sem, q1, Oper.quietUpon]
        simp only [Act.put, List.setIfInBounds_toArray, List.set_cons_zero, List.set_cons_succ]
        go_big_quiet_on
        iterate 3 (first | go_big_quiet_skip | (go_big_quiet_want; go_big_quiet_op; first | go_big_quiet_on | (refine ⟨_, fun _ _ => rfl, ?_⟩; go_big_quiet_on)))
        go_big_quiet_want
        refine ⟨.int .i64 ex, fun wq hq => ?_, ?_⟩
        · have hq2 : Below wr.heap.size wr wq := Below.step (show Below wr.heap.size wr (wr.alloc (.cells #[.int .i64 3, .int .i64 ex, .int .i64 0, .int .i64 0, .int .i64 0, .int .i64 0, .int .i64 0, .int .i64 0, .int .i64 0, .int .i64 0, .int .i64 0, .int .i64 0] 67)) from by go_grown) hq
          have q1 := (hq2.cell (p := ad.add k) (by rw [block_of_add]; exact hadl)).trans hc
          unfold Oper.quietAt
          simp [go_sem, q1, Oper.quietUpon]
        simp only [Act.put, List.setIfInBounds_toArray, List.set_cons_zero, List.set_cons_succ]
        go_big_quiet_on
        iterate 4 (first | go_big_quiet_skip | (go_big_quiet_want; go_big_quiet_op; first | go_big_quiet_on | (refine ⟨_, fun _ _ => rfl, ?_⟩; go_big_quiet_on)))
        go_big_quiet_want
        refine ⟨.int .i64 0, fun wq hq => ?_, ?_⟩
        · have q1 := (hq.cell (p := ⟨wr.heap.size, 2, none⟩) (by simp)).trans (show (wr.alloc (.cells #[.int .i64 3, .int .i64 ex, .int .i64 0, .int .i64 0, .int .i64 0, .int .i64 0, .int .i64 0, .int .i64 0, .int .i64 0, .int .i64 0, .int .i64 0, .int .i64 0] 67)).cell? ⟨wr.heap.size, 2, none⟩ = some (.int .i64 0) from by simp [go_sem])
          unfold Oper.quietAt
          simp [go_sem, q1, Oper.quietUpon]
        simp only [Act.put, List.setIfInBounds_toArray, List.set_cons_zero, List.set_cons_succ]
        go_big_quiet_on
        iterate 2 (first | go_big_quiet_skip | (go_big_quiet_want; go_big_quiet_op; first | go_big_quiet_on | (refine ⟨_, fun _ _ => rfl, ?_⟩; go_big_quiet_on)))
        refine wpQuiet_nil ?_
        intro w2 hS2
        go_wp2_with fail
        go_roundw
        case rel => exact ⟨k + 1, by omega, by go_num, Below.step (hB.alloc hs _) hS2⟩
        case measure => simp [intOf]; omega
      · dsimp only at h2
        subst h2
        have hc2 : (wr.alloc (.cells #[.int .i64 2, .int .i64 ex, .int .i64 en, .int .i64 0, .int .i64 0, .int .i64 0, .int .i64 0, .int .i64 0, .int .i64 0, .int .i64 0, .int .i64 0, .int .i64 0] 67)).cell? (ad.add k) = some (.int .i64 x) := ((show Below wr.heap.size wr (wr.alloc (.cells #[.int .i64 2, .int .i64 ex, .int .i64 en, .int .i64 0, .int .i64 0, .int .i64 0, .int .i64 0, .int .i64 0, .int .i64 0, .int .i64 0, .int .i64 0, .int .i64 0] 67)) from by go_grown).cell (p := ad.add k) (by rw [block_of_add]; exact hadl)).trans hc
        go_wp2_with fail
        go_roundw
        case rel => exact ⟨k + 1, by omega, by go_num, hB.alloc hs _⟩
        case measure => simp [intOf]; omega
    · obtain rfl : k = L.length := by omega
      have hd : decide ((L.length : Int) < (L.length : Int)) = false := decide_eq_false (by omega)
      go_wp2_with fail
      go_ret
      exact ⟨rfl, hB⟩
/-- Weights: of the first so many agents each as often as its weight. -/
def wnum (x : Int) : Nat := (max 0 (min x 64)).toNat
def wl (W : List Int) : Nat → List Int
  | 0 => []
  | t + 1 => match W[t]? with
    | none => wl W t
    | some x => wl W t ++ List.replicate (wnum x) (t : Int)
def wk (W : List Int) : Nat → List Int
  | 0 => []
  | k + 1 => wk W k ++ wl W W.length
theorem wnum_le (x : Int) : wnum x ≤ 64 := by unfold wnum; omega
theorem wl_len (W : List Int) : ∀ t, (wl W t).length ≤ 64 * t
  | 0 => Nat.le_refl _
  | t + 1 => by
    have ih := wl_len W t
    unfold wl
    rcases W[t]? with _ | x
    · dsimp only; omega
    · dsimp only; rw [List.length_append, List.length_replicate]; have := wnum_le x; omega
theorem wk_len (W : List Int) : ∀ k, (wk W k).length ≤ k * (64 * W.length)
  | 0 => by show 0 ≤ _; omega
  | k + 1 => by
    have ih := wk_len W k
    have h := wl_len W W.length
    unfold wk
    rw [List.length_append, Nat.add_mul, Nat.one_mul]
    omega
end Go.Proofs.Ytdlgpbmeeiakdaa
