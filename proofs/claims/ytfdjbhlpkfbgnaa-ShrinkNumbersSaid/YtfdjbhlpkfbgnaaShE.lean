/-
  Scripts laid one behind the other; a script without some events.
-/
import Derived.Test.YtfdjbhlpkfbgnaaRows
import Derived.Test.YtfdjbhlpkfbgnaaKit
import Derived.Test.YtfdjbhlpkfbgnaaApp
import Derived.Test.YtfdjbhlpkfbgnaaQuiet
import Derived.Test.YtfdjbhlpkfbgnaaShM
import Derived.Test.YtfdjbhlpkfbgnaaShO
import Derived.Test.YtfdjbhlpkfbgnaaShB
import Derived.Test.YtfdjbhlpkfbgnaaShC
import Derived.Test.YtfdjbhlpkfbgnaaShD
import Derived.WalkKit
import Derived.ProofKit
import Derived.OpenShut
import Derived.ShutString
import Derived.Below
import Derived.Outline
import Derived.WalkLawsBesides
import Derived.WalkSpells
import Derived.Handy
import Derived.Deep.QuietTactic
import Derived.BigQuiet
import Derived.RegionTactic
import Derived.ChangeAlike
import Derived.Lib.Hide
import Derived.Laws.Rows
import Derived.Laws.Tables
import Derived.Laws.CopyOwn
import Derived.Laws.MakeOwn
import Derived.Laws.Entries
import Derived.Laws.OwnMore
import Derived.Deep.WholeRow
import Derived.Deep.LoopGhost
import Derived.Deep.AppendLies
import Derived.Deep.Draws
import Derived.Maps.AppendAt
import Derived.OwnWalk
import Derived.Deep.RegionHeld3
import Derived.Deep.Cut
import Derived.Deep.CutRange
import Derived.Deep.DeepCutAuto
import Derived.Deep.CutBlock
import Derived.Lib.SliceRun
import Derived.IntWalk
namespace Go.Proofs.Ytfdjbhlpkfbgnaa
open Go.ChangeShapes Go.WideShapes Go.ChangeAt Go.RowKit
def preE (l1 l2 : List Evn) (k : Nat) : List Evn := if k = 0 then [] else if k = 1 then l1 else l1 ++ l2
set_option maxRecDepth 100000 in
set_option maxHeartbeats 8000000 in
theorem concat_is (B : Nat) (A1 A2 : Option Addr) (l1 l2 : List Evn) (c1 c2 : Nat) (w : World) (hb1 : w.cell? ⟨B, 0, none⟩ = some (.slice A1 l1.length c1)) (hb2 : w.cell? ⟨B, 1, none⟩ = some (.slice A2 l2.length c2)) (hB : B < w.heap.size) (h1 : Reads w w.heap.size 12 A1 l1.length (nv l1)) (h2 : Reads w w.heap.size 12 A2 l2.length (nv l2)) (hl : l1.length + l2.length ≤ 200) : Calls Try.prog 29 #[.slice (some ⟨B, 0, none⟩) 2 2] w fun e w' => ∃ A c, e = .returned (.slice A (l1 ++ l2).length c) ∧ w'.ownsRow w.heap.size 38 12 (.slice A (l1 ++ l2).length c) (l1 ++ l2).length (nv (l1 ++ l2)) ∧ Below w.heap.size w w' := by
  obtain ⟨i0, hi0, hz0, hz1, hz2⟩ := info_parts infoE
  have HI0 := Lib.hid hi0
  have HZ0 := Lib.hid hz0
  have HZ1 := Lib.hid hz1
  have HZ2 := Lib.hid hz2
  have HBL := Lib.hid hB
  have HP2 := Lib.hid (show preE l1 l2 2 = l1 ++ l2 from rfl)
  have HK := Lib.hid (show ∀ k, k < 2 → ∃ (A' : Option Addr) (l' : List Evn) (c' : Nat), w.cell? ⟨B, k, none⟩ = some (.slice A' l'.length c') ∧ Reads w w.heap.size 12 A' l'.length (nv l') ∧ preE l1 l2 (k + 1) = preE l1 l2 k ++ l' ∧ (preE l1 l2 k).length + l'.length ≤ 200 from fun k hk => by
    match k, hk with
    | 0, _ => exact ⟨A1, l1, c1, hb1, h1, rfl, by show ([] : List Evn).length + _ ≤ _; simp; omega⟩
    | 1, _ => exact ⟨A2, l2, c2, hb2, h2, rfl, by show l1.length + _ ≤ _; omega⟩)
  have HG := Lib.hid (grow_is (l1 ++ l2).length (by rw [List.length_append]; omega) w)
  have HLL := Lib.hid (show (l1 ++ l2).length ≤ 200 from by rw [List.length_append]; exact hl)
  generalize l1 ++ l2 = LL at *
  generalize hPE : preE l1 l2 = PE at *
  have HP0 := Lib.hid (show PE 0 = [] from by rw [← hPE]; rfl)
  clear hPE hi0 hz0 hz1 hz2 hB h1 h2 hl hb1 hb2
  go_enter Try.func29, Try.ntmps29
  go_wp2_with fail
  go_loopw [3, 5, 11] (fun s _ i wr => ∃ k : Nat, k ≤ 2 ∧ i = .int .i64 (k : Int) ∧ s = .int .i64 ((PE k).length : Int) ∧ Hid (wr = w)) (fun _ _ i _ => 3 - (intOf i).toNat)
  case atStart => exact ⟨0, by omega, rfl, by rw [HP0.out]; rfl, Lib.hid rfl⟩
  case round =>
    obtain ⟨k, hk, rfl, rfl, HE⟩ := hrel
    have k0 : (0 : Int) ≤ (k : Int) := by omega
    by_cases hk2 : k < 2
    · have k1 : (k : Int) < 2 := by omega
      obtain ⟨A', l', c', hc, _, hpre, hle⟩ := HK.out k hk2
      have hc' : wr.cell? ⟨B, k, none⟩ = some (.slice A' l'.length c') := by rw [HE.out]; exact hc
      have W0 : IntKind.i64.wrap (((PE k).length : Int) + (l'.length : Int)) = ((PE k).length : Int) + (l'.length : Int) := IntWalk.i64_in _ (by omega)
      have d0 : decide (((PE k).length : Int) + (l'.length : Int) < 0) = false := decide_eq_false (by omega)
      have HPR := Lib.hid hpre
      clear hc hpre
      go_wp2_with fail
      go_roundw
      case rel => exact ⟨k + 1, by omega, by go_num, by rw [HPR.out, List.length_append, Int.natCast_add], HE⟩
      case measure => simp [intOf]; omega
    · obtain rfl : k = 2 := by omega
      rw [HP2.out]
      obtain rfl := HE.out
      clear hk2 k0 HE
      obtain ⟨w0, hw0⟩ : ∃ w0, w0 = wr := ⟨_, rfl⟩
      subst hw0
      go_wp2_with fail
      refine HG.out.mono ?_
      rintro e1 w1 ⟨A, c, rfl, ho, hbe⟩
      have HO1 := Lib.hid ho
      have HB1 := Lib.hid hbe
      clear ho hbe HG
      go_wp2_with fail
      go_loopw [6, 8, 27] (fun s _ i wr => ∃ (k : Nat) (A : Option Addr) (c : Nat), k ≤ 2 ∧ i = .int .i64 (k : Int) ∧ s = .slice A (PE k).length c ∧ Hid (wr.ownsRow w0.heap.size 38 12 (.slice A (PE k).length c) (PE k).length (nv (PE k)) ∧ Below w0.heap.size w0 wr)) (fun _ _ i _ => 3 - (intOf i).toNat)
      case atStart => exact ⟨0, A, c, by omega, rfl, by rw [HP0.out]; rfl, Lib.hid ⟨by rw [HP0.out]; exact HO1.out, HB1.out⟩⟩
      case round =>
        obtain ⟨k, A, c, hk, rfl, rfl, HS⟩ := hrel
        clear HO1 HB1
        have k0 : (0 : Int) ≤ (k : Int) := by omega
        by_cases hk2 : k < 2
        · have k1 : (k : Int) < 2 := by omega
          obtain ⟨A', l', c', hc, hrd, hpre, hle⟩ := HK.out k hk2
          have hb := (HS.out.2.cell (p := ⟨B, k, none⟩) HBL.out).trans hc
          have HR := Lib.hid (hrd.below HS.out.2)
          have NV := Lib.hid (nv_one l')
          have N1 := Lib.hid (show (PE k).length + l'.length ≤ maxLen from by unfold maxLen; omega)
          have N2 := Lib.hid (show ((PE k).length + l'.length) * 96 ≤ 140737488355328 from by omega)
          have N3 := Lib.hid (show w0.heap.size ≤ wr.heap.size from HS.out.2.size)
          have HO := Lib.hid HS.out.1
          have HPR := Lib.hid hpre
          clear hc hrd hpre
          go_wp2_with (at_builtin; refine wpList_append_any _ rfl (.tmp 31) (.tmp 32) 24 rfl w0.heap.size 38 i0 (Value.agg #[.int .i64 0, .int .i64 0, .int .i64 0, .int .i64 0, .int .i64 0, .int .i64 0, .int .i64 0, .int .i64 0, .int .i64 0, .int .i64 0, .int .i64 0, .int .i64 0]) 12 96 Try.underlying24 HI0.out HZ0.out HZ1.out HZ2.out rfl (by decide) _ (PE k).length _ rfl HO.out _ A' l'.length c' (nv l') rfl HR.out NV.out N1.out N2.out N3.out ?_; intro v3 w8 hown8 hgrow8 hblk8; have HP := Lib.hid (And.intro hown8 hgrow8); clear hown8 hgrow8 hblk8)
          go_roundw
          case rel =>
            obtain ⟨A3, c3, hv⟩ := oshape HP.out.1
            refine ⟨k + 1, A3, c3, by omega, by go_num, by rw [HPR.out, List.length_append, hv], Lib.hid ⟨?_, Below.grown HS.out.2 HP.out.2 N3.out (fun j e => (HS.out.1.lt j e).1)⟩⟩
            rw [HPR.out, List.length_append, nv_append, ← hv]
            exact HP.out.1
          case measure => simp [intOf]; omega
        · obtain rfl : k = 2 := by omega
          clear hk2 k0
          rw [HP2.out] at HS ⊢
          go_wp2_with fail
          go_ret
          exact ⟨_, _, rfl, HS.out.1, HS.out.2⟩
end Go.Proofs.Ytfdjbhlpkfbgnaa
