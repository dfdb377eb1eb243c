/-
  Weighted rows.
-/
import Derived.Test.YtdlgpbmeeiakdaaRows
import Derived.Test.YtdlgpbmeeiakdaaKit
import Derived.Test.YtdlgpbmeeiakdaaApp
import Derived.Test.YtdlgpbmeeiakdaaEv
import Derived.Test.YtdlgpbmeeiakdaaEvP
import Derived.Test.YtdlgpbmeeiakdaaEvQ
import Derived.Test.YtdlgpbmeeiakdaaEvR
import Derived.Test.YtdlgpbmeeiakdaaQuiet
import Derived.Test.YtdlgpbmeeiakdaaPlA
import Derived.Test.YtdlgpbmeeiakdaaPlB
import Derived.Test.YtdlgpbmeeiakdaaPlF
import Derived.Test.YtdlgpbmeeiakdaaPlI
import Derived.Test.YtdlgpbmeeiakdaaPlJ
import Derived.WalkKit
import Derived.ProofKit
import Derived.OpenShut
import Derived.ShutString
import Derived.Below
import Derived.Outline
import Derived.WalkLawsBesides
import Derived.WalkSpells
import Derived.Handy
import Derived.Deep.QuietTactic
import Derived.BigQuiet
import Derived.RegionTactic
import Derived.ChangeAlike
import Derived.Lib.Hide
import Derived.Laws.Rows
import Derived.Laws.Tables
import Derived.Laws.CopyOwn
import Derived.Laws.MakeOwn
import Derived.Laws.Entries
import Derived.Laws.OwnMore
import Derived.Deep.WholeRow
import Derived.Deep.LoopGhost
import Derived.Deep.AppendLies
import Derived.Deep.Draws
import Derived.Maps.AppendAt
import Derived.OwnWalk
import Derived.Deep.RegionHeld3
import Derived.Deep.Cut
import Derived.Deep.CutRange
import Derived.Deep.DeepCutAuto
import Derived.Deep.CutBlock
import Derived.Lib.SliceRun
import Derived.IntWalk
namespace Go.Proofs.Ytdlgpbmeeiakdaa
open Go.ChangeShapes Go.WideShapes Go.ChangeAt Go.RowKit
theorem wl_next (W : List Int) (t : Nat) (x : Int) (h : W[t]? = some x) : wl W (t + 1) = wl W t ++ List.replicate (wnum x) (t : Int) := by
  rw [wl, h]
theorem evl_rep (X : List Int) (n : Nat) (a : Int) : evl ((X ++ List.replicate n a).map ev3) = evl (X.map ev3) ++ evl (List.replicate n ((3 : Int), a, (0 : Int))) := by
  rw [List.map_append, evl_app, List.map_replicate]; rfl
set_option maxRecDepth 100000 in
set_option maxHeartbeats 4000000 in
theorem weighted_is (A : Option Addr) (cap : Nat) (W : List Int) (k : Nat) (w : World) (h : IAt w A W) (hl : W.length ≤ 20) (hk64 : k ≤ 64) :
    Calls Try.prog 23 #[.slice A W.length cap, .int .i64 (k : Int)] w (ERow w.heap.size ((wk W k).map ev3) w) := by
  obtain ⟨i0, hi, hz0, hz1, hz2⟩ := info_parts infoE
  have HI := Lib.hid hi
  have HZ0 := Lib.hid hz0
  have HZ1 := Lib.hid hz1
  have HZ2 := Lib.hid hz2
  clear hi hz0 hz1 hz2
  have H := Lib.hid h
  have hmn : min (k : Int) 4096 = (k : Int) := by omega
  have k0 : (0 : Int) ≤ (k : Int) := by omega
  have k1 : (k : Int) ≤ 64 := by omega
  have l0 : (W.length : Int) ≤ 20 := by omega
  clear h
  go_enter Try.func23, Try.ntmps23
  go_wp2_with fail
  go_loopw [5, 10] (fun v i wr => ∃ q : Nat, q ≤ k ∧ i = .int .i64 (q : Int) ∧ Hid (wr.ownsRow w.heap.size 67 12 v (wk W q ++ []).length (evl ((wk W q ++ []).map ev3))) ∧ Below w.heap.size w wr) (fun _ i _ => k + 1 - (intOf i).toNat)
  case atStart => exact ⟨0, Nat.zero_le _, rfl, ⟨rfl, .inl ⟨rfl, rfl⟩⟩, Below.refl _ _⟩
  case round =>
    obtain ⟨q, hq, rfl, HO, hB⟩ := hrel
    by_cases hlt : q < k
    · have hqk : (q : Int) < (k : Int) := by omega
      have q0 : (0 : Int) ≤ (q : Int) := by omega
      have HQL := Lib.hid (show (wk W q).length ≤ 64 * (64 * 20) from Nat.le_trans (wk_len W q) (Nat.mul_le_mul (by omega) (by omega)))
      go_wp2_with fail
      go_loopw [5, 14] (fun v i wr => ∃ t : Nat, t ≤ W.length ∧ i = .int .i64 (t : Int) ∧ Hid (wr.ownsRow w.heap.size 67 12 v (wk W q ++ wl W t).length (evl ((wk W q ++ wl W t).map ev3))) ∧ Below w.heap.size w wr) (fun _ i _ => W.length + 1 - (intOf i).toNat)
      case atStart => exact ⟨0, Nat.zero_le _, rfl, HO, hB⟩
      case round =>
        clear HO hB
        obtain ⟨t, ht, rfl, HO, hB⟩ := hrel
        have t0 : (0 : Int) ≤ (t : Int) := by omega
        by_cases htl : t < W.length
        · have t1 : (t : Int) < (W.length : Int) := by omega
          obtain ⟨x, hx⟩ : ∃ e, W[t]? = some e := ⟨_, List.getElem?_eq_getElem htl⟩
          obtain ⟨ad, hA, hadl, hc⟩ := (H.out.below hB) t x hx
          subst hA
          have hwn := wnum_le x
          have HXL := Lib.hid (show (wk W q ++ wl W t).length ≤ 100000 from by rw [List.length_append]; have := HQL.out; have := wl_len W t; omega)
          have HNX := Lib.hid (show wk W q ++ wl W (t + 1) = (wk W q ++ wl W t) ++ List.replicate (wnum x) (t : Int) from by rw [wl_next W t x hx, List.append_assoc])
          have HEV := Lib.hid (evl_rep (wk W q ++ wl W t) (wnum x) (t : Int))
          clear hx
          generalize wk W q ++ wl W t = X at *
          have HBU := Lib.hid (fun (m : Int) (hm : (wnum x : Int) = max 0 (min m 65536)) Wd => burst_is (t : Int) m (wnum x) Wd hm)
          by_cases hx64 : x ≤ 64
          · have HB1 := Lib.hid (HBU.out x (by unfold wnum; omega))
            go_wp2_with fail
            refine (HB1.out _).mono ?_
            rintro e w2 ⟨v2, rfl, hO2, hb2⟩
            rw [List.length_replicate] at hO2
            have hB2 := Below.step hB hb2
            have hs2 := hB2.size
            have HO1 := Lib.hid (row_kept HO.out hb2)
            obtain ⟨A2, c2, rfl⟩ := own_shape hO2
            have HR := Lib.hid (Reads.of_own hO2)
            have N1 := Lib.hid (show X.length + wnum x ≤ maxLen from by have := HXL.out; unfold maxLen; omega)
            have N2 := Lib.hid (show (X.length + wnum x) * 96 ≤ 140737488355328 from by have := HXL.out; omega)
            have N3 := Lib.hid (show w.heap.size ≤ w2.heap.size from hs2)
            have NV := Lib.hid (evl_one (List.replicate (wnum x) ((3 : Int), (t : Int), (0 : Int))))
            clear hb2 hO2 hB HO
            go_wp2_with (at_builtin; refine wpList_append_any _ rfl (.tmp 19) (.tmp 23) 38 rfl w.heap.size 67 i0 (.agg #[.int .i64 0, .int .i64 0, .int .i64 0, .int .i64 0, .int .i64 0, .int .i64 0, .int .i64 0, .int .i64 0, .int .i64 0, .int .i64 0, .int .i64 0, .int .i64 0]) 12 96 Try.underlying38 HI.out HZ0.out HZ1.out HZ2.out rfl (by decide) _ X.length _ rfl HO1.out _ A2 (wnum x) c2 _ rfl HR.out NV.out N1.out N2.out N3.out ?_; intro v3 w3 hown3 hgrow3 hblk3; have HP := Lib.hid (And.intro hown3 hgrow3); clear hown3 hgrow3 hblk3)
            go_roundw
            case rel => exact ⟨t + 1, by omega, by go_num, by have h := HP.out.1; refine Lib.hid ?_; rw [HNX.out, HEV.out, List.length_append, List.length_replicate]; exact h, Below.grown hB2 HP.out.2 hs2 (fun g e => (HO1.out.lt g e).1)⟩
            case measure => simp [intOf]; omega
          · have HB1 := Lib.hid (HBU.out 64 (by unfold wnum; omega))
            have hx65 : 64 < x := by omega
            go_wp2_with fail
            refine (HB1.out _).mono ?_
            rintro e w2 ⟨v2, rfl, hO2, hb2⟩
            rw [List.length_replicate] at hO2
            have hB2 := Below.step hB hb2
            have hs2 := hB2.size
            have HO1 := Lib.hid (row_kept HO.out hb2)
            obtain ⟨A2, c2, rfl⟩ := own_shape hO2
            have HR := Lib.hid (Reads.of_own hO2)
            have N1 := Lib.hid (show X.length + wnum x ≤ maxLen from by have := HXL.out; unfold maxLen; omega)
            have N2 := Lib.hid (show (X.length + wnum x) * 96 ≤ 140737488355328 from by have := HXL.out; omega)
            have N3 := Lib.hid (show w.heap.size ≤ w2.heap.size from hs2)
            have NV := Lib.hid (evl_one (List.replicate (wnum x) ((3 : Int), (t : Int), (0 : Int))))
            clear hb2 hO2 hB HO
            go_wp2_with (at_builtin; refine wpList_append_any _ rfl (.tmp 19) (.tmp 23) 38 rfl w.heap.size 67 i0 (.agg #[.int .i64 0, .int .i64 0, .int .i64 0, .int .i64 0, .int .i64 0, .int .i64 0, .int .i64 0, .int .i64 0, .int .i64 0, .int .i64 0, .int .i64 0, .int .i64 0]) 12 96 Try.underlying38 HI.out HZ0.out HZ1.out HZ2.out rfl (by decide) _ X.length _ rfl HO1.out _ A2 (wnum x) c2 _ rfl HR.out NV.out N1.out N2.out N3.out ?_; intro v3 w3 hown3 hgrow3 hblk3; have HP := Lib.hid (And.intro hown3 hgrow3); clear hown3 hgrow3 hblk3)
            go_roundw
            case rel => exact ⟨t + 1, by omega, by go_num, by have h := HP.out.1; refine Lib.hid ?_; rw [HNX.out, HEV.out, List.length_append, List.length_replicate]; exact h, Below.grown hB2 HP.out.2 hs2 (fun g e => (HO1.out.lt g e).1)⟩
            case measure => simp [intOf]; omega
        · obtain rfl : t = W.length := by omega
          have hd : decide ((W.length : Int) < (W.length : Int)) = false := decide_eq_false (by omega)
          go_wp2_with fail
          go_roundw
          case rel => exact ⟨q + 1, by omega, by go_num, by rw [List.append_nil]; exact HO, hB⟩
          case measure => simp [intOf]; omega
    · obtain rfl : q = k := by omega
      have hd : decide ((q : Int) < (q : Int)) = false := decide_eq_false (by omega)
      go_wp2_with fail
      go_ret
      exact ⟨_, rfl, by rw [List.length_map]; have h := HO.out; rw [List.append_nil] at h; exact h, hB⟩
end Go.Proofs.Ytdlgpbmeeiakdaa
