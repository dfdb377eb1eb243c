/-
  The document's mix of rows.
-/
import Derived.Test.YtdlgpbmeeiakdaaRows
import Derived.Test.YtdlgpbmeeiakdaaKit
import Derived.Test.YtdlgpbmeeiakdaaApp
import Derived.Test.YtdlgpbmeeiakdaaEv
import Derived.Test.YtdlgpbmeeiakdaaEvP
import Derived.Test.YtdlgpbmeeiakdaaEvQ
import Derived.Test.YtdlgpbmeeiakdaaEvR
import Derived.Test.YtdlgpbmeeiakdaaQuiet
import Derived.Test.YtdlgpbmeeiakdaaPlA
import Derived.Test.YtdlgpbmeeiakdaaPlB
import Derived.Test.YtdlgpbmeeiakdaaPlF
import Derived.Test.YtdlgpbmeeiakdaaPlI
import Derived.Test.YtdlgpbmeeiakdaaMxA
import Derived.Test.YtdlgpbmeeiakdaaMxE
import Derived.WalkKit
import Derived.ProofKit
import Derived.OpenShut
import Derived.ShutString
import Derived.Below
import Derived.Outline
import Derived.WalkLawsBesides
import Derived.WalkSpells
import Derived.Handy
import Derived.Deep.QuietTactic
import Derived.BigQuiet
import Derived.RegionTactic
import Derived.ChangeAlike
import Derived.Lib.Hide
import Derived.Laws.Rows
import Derived.Laws.Tables
import Derived.Laws.CopyOwn
import Derived.Laws.MakeOwn
import Derived.Laws.Entries
import Derived.Laws.OwnMore
import Derived.Deep.WholeRow
import Derived.Deep.LoopGhost
import Derived.Deep.AppendLies
import Derived.Deep.Draws
import Derived.Maps.AppendAt
import Derived.OwnWalk
import Derived.Deep.RegionHeld3
import Derived.Deep.Cut
import Derived.Deep.CutRange
import Derived.Deep.DeepCutAuto
import Derived.Deep.CutBlock
import Derived.Lib.SliceRun
import Derived.IntWalk
namespace Go.Proofs.Ytdlgpbmeeiakdaa
open Go.ChangeShapes Go.WideShapes Go.ChangeAt Go.RowKit
/-- A slice of slices of numbers that reads as lists. -/
def LAt (w : World) (A : Option Addr) (Ls : List (List Int)) : Prop := ∀ (t : Nat) (L : List Int), Ls[t]? = some L → ∃ ad B c, A = some ad ∧ ad.block < w.heap.size ∧ w.cell? (ad.add t) = some (.slice B L.length c) ∧ IAt w B L
theorem LAt.below {w w' : World} {A : Option Addr} {Ls : List (List Int)} (h : LAt w A Ls) (hb : Below w.heap.size w w') : LAt w' A Ls := by
  intro t L hL
  obtain ⟨ad, B, c, e, hl, hc, hI⟩ := h t L hL
  exact ⟨ad, B, c, e, Nat.lt_of_lt_of_le hl hb.size, (hb.cell (p := ad.add t) (by rw [block_of_add]; exact hl)).trans hc, hI.below hb⟩
def mxi (Ls : List (List Int)) : Nat → List Int
  | 0 => []
  | k + 1 => mxi Ls k ++ Ls.filterMap (fun L => L[k]?)
theorem mxi_len (Ls : List (List Int)) : ∀ k, (mxi Ls k).length ≤ k * Ls.length
  | 0 => Nat.zero_le _
  | k + 1 => by
    have ih := mxi_len Ls k
    have h := List.length_filterMap_le (fun L : List Int => L[k]?) Ls
    show (mxi Ls k ++ _).length ≤ _
    rw [List.length_append, Nat.add_mul, Nat.one_mul]
    omega
theorem mxl_mxi (rs : List Rw) : ∀ k, mxl rs k = mxi (rs.map Rw.L) k
  | 0 => rfl
  | k + 1 => by
    show mxl rs k ++ _ = mxi (rs.map Rw.L) k ++ _
    rw [mxl_mxi rs k, List.filterMap_map]
    rfl
set_option maxRecDepth 100000 in
set_option maxHeartbeats 8000000 in
theorem refmix_is (A : Option Addr) (cap : Nat) (Ls : List (List Int)) (w : World) (h : LAt w A Ls) (hl : Ls.length ≤ 20) (hL : ∀ L ∈ Ls, L.length ≤ 50) :
    Calls Try.prog 25 #[.slice A Ls.length cap] w fun e w' => ∃ M v, (∀ L ∈ Ls, L.length ≤ M) ∧ e = .returned v ∧ w'.ownsRow w.heap.size 3 1 v (mxi Ls M).length ((mxi Ls M).map (Value.int .i64)) ∧ Below w.heap.size w w' := by
  obtain ⟨j0, hj, hj0, hj1, hj2⟩ := info_parts infoI
  have HJ := Lib.hid hj
  have HJ0 := Lib.hid hj0
  have HJ1 := Lib.hid hj1
  have HJ2 := Lib.hid hj2
  have H := Lib.hid h
  have HLL := Lib.hid hL
  have l2 : (Ls.length : Int) ≤ 20 := by omega
  clear h hL hj hj0 hj1 hj2
  go_enter Try.func25, Try.ntmps25
  go_wp2_with fail
  go_loopw [4, 5] (fun m i wr => wr = w ∧ ∃ t M : Nat, t ≤ Ls.length ∧ i = .int .i64 (t : Int) ∧ m = .int .i64 (M : Int) ∧ M ≤ 50 ∧ Hid (∀ (s : Nat) (L : List Int), s < t → Ls[s]? = some L → L.length ≤ M)) (fun _ i _ => Ls.length + 1 - (intOf i).toNat)
  case atStart => exact ⟨rfl, 0, 0, Nat.zero_le _, rfl, rfl, by omega, fun s L hs => by omega⟩
  case round =>
    obtain ⟨rfl, t, M, ht, rfl, rfl, hM, HM⟩ := hrel
    have t0 : (0 : Int) ≤ (t : Int) := by omega
    by_cases htl : t < Ls.length
    · have t1 : (t : Int) < (Ls.length : Int) := by omega
      obtain ⟨L, hLt⟩ : ∃ e, Ls[t]? = some e := ⟨_, List.getElem?_eq_getElem htl⟩
      obtain ⟨ad, B, c, hA, hadl, hc, hI⟩ := H.out t L hLt
      have hL50 := HLL.out L (List.mem_of_getElem? hLt)
      have HLt := Lib.hid hLt
      subst hA
      clear hLt
      by_cases hgt : M < L.length
      · have hg : (M : Int) < (L.length : Int) := by omega
        go_wp2_with fail
        go_roundw
        case rel => exact ⟨trivial, t + 1, L.length, by omega, by go_num, by go_num, hL50, Lib.hid (fun s L' hs hs2 => by
          by_cases hst : s = t
          · subst hst; rw [HLt.out] at hs2; injection hs2 with hs2; rw [hs2]; exact Nat.le_refl _
          · have := HM.out s L' (by omega) hs2; omega)⟩
        case measure => simp [intOf]; omega
      · have hg : decide ((M : Int) < (L.length : Int)) = false := decide_eq_false (by omega)
        go_wp2_with fail
        go_roundw
        case rel => exact ⟨trivial, t + 1, M, by omega, by go_num, by go_num, hM, Lib.hid (fun s L' hs hs2 => by
          by_cases hst : s = t
          · subst hst; rw [HLt.out] at hs2; injection hs2 with hs2; rw [← hs2]; omega
          · exact HM.out s L' (by omega) hs2)⟩
        case measure => simp [intOf]; omega
    · obtain rfl : t = Ls.length := by omega
      have hd : decide ((Ls.length : Int) < (Ls.length : Int)) = false := decide_eq_false (by omega)
      have HALL := Lib.hid (show ∀ L ∈ Ls, L.length ≤ M from fun L hm => by
        obtain ⟨s, hs, rfl⟩ := List.getElem_of_mem hm
        exact HM.out s Ls[s] hs (List.getElem?_eq_getElem hs))
      have M0 : (0 : Int) ≤ (M : Int) := by omega
      have M1 : (M : Int) ≤ 50 := by omega
      obtain ⟨WB, rfl⟩ : ∃ WB, WB = wr := ⟨wr, rfl⟩
      go_wp2_with fail
      go_loopw [3, 6] (fun v i wr => ∃ k : Nat, k ≤ M ∧ i = .int .i64 (k : Int) ∧ Hid (wr.ownsRow WB.heap.size 3 1 v (mxi Ls k ++ []).length ((mxi Ls k ++ []).map (Value.int .i64))) ∧ Below WB.heap.size WB wr) (fun _ i _ => M + 1 - (intOf i).toNat)
      case atStart => exact ⟨0, Nat.zero_le _, rfl, ⟨rfl, .inl ⟨rfl, rfl⟩⟩, Below.refl _ _⟩
      case round =>
        obtain ⟨k, hk, rfl, HO, hB⟩ := hrel
        have k0 : (0 : Int) ≤ (k : Int) := by omega
        by_cases hkM : k < M
        · have k1 : (k : Int) < (M : Int) := by omega
          have HML := Lib.hid (show (mxi Ls k).length ≤ 50 * 20 from Nat.le_trans (mxi_len Ls k) (Nat.mul_le_mul (by omega) hl))
          go_wp2_with fail
          go_loopw [3, 7] (fun v j wr => ∃ t : Nat, t ≤ Ls.length ∧ j = .int .i64 (t : Int) ∧ Hid (wr.ownsRow WB.heap.size 3 1 v (mxi Ls k ++ (Ls.take t).filterMap (fun L => L[k]?)).length ((mxi Ls k ++ (Ls.take t).filterMap (fun L => L[k]?)).map (Value.int .i64))) ∧ Below WB.heap.size WB wr) (fun _ j _ => Ls.length + 1 - (intOf j).toNat)
          case atStart => exact ⟨0, Nat.zero_le _, rfl, HO, hB⟩
          case round =>
            clear HO hB
            obtain ⟨t, ht, rfl, HO, hB⟩ := hrel
            have t0 : (0 : Int) ≤ (t : Int) := by omega
            by_cases htl : t < Ls.length
            · have t1 : (t : Int) < (Ls.length : Int) := by omega
              obtain ⟨L, hLt⟩ : ∃ e, Ls[t]? = some e := ⟨_, List.getElem?_eq_getElem htl⟩
              obtain ⟨ad, B, c, hA, hadl, hc, hI⟩ := (H.out.below hB) t L hLt
              have hL50 := HLL.out L (List.mem_of_getElem? hLt)
              have hL5 : (L.length : Int) ≤ 50 := by omega
              subst hA
              by_cases hkL : k < L.length
              · have hkI : (k : Int) < (L.length : Int) := by omega
                obtain ⟨x, hx⟩ : ∃ e, L[k]? = some e := ⟨_, List.getElem?_eq_getElem hkL⟩
                obtain ⟨ad2, hB2, hadl2, hcx⟩ := hI k x hx
                subst hB2
                have HTK := Lib.hid (show mxi Ls k ++ (Ls.take (t + 1)).filterMap (fun L => L[k]?) = (mxi Ls k ++ (Ls.take t).filterMap (fun L => L[k]?)) ++ [x] from by rw [List.take_add_one, hLt, List.filterMap_append]; simp [hx])
                have HXL := Lib.hid (show (mxi Ls k ++ (Ls.take t).filterMap (fun L => L[k]?)).length ≤ 2000 from by
                  rw [List.length_append]
                  have h1 := HML.out
                  have h2 := List.length_filterMap_le (fun L : List Int => L[k]?) (Ls.take t)
                  rw [List.length_take] at h2
                  omega)
                generalize mxi Ls k ++ (Ls.take t).filterMap (fun L => L[k]?) = Y at *
                have HR := Lib.hid (reads_newN wr 1 1 [.int .i64 x] 3 rfl)
                have HO1 := Lib.hid (World.ownsRow.alloc HO.out (Obj.cells #[.int .i64 x] 3))
                have N1 := Lib.hid (show Y.length + 1 ≤ maxLen from by have := HXL.out; unfold maxLen; omega)
                have N2 := Lib.hid (show (Y.length + 1) * 8 ≤ 140737488355328 from by have := HXL.out; omega)
                have hBA := hB.alloc hB.size (Obj.cells #[.int .i64 x] 3)
                have N3 := Lib.hid (show WB.heap.size ≤ (wr.alloc (Obj.cells #[.int .i64 x] 3)).heap.size from hBA.size)
                have NV := Lib.hid (ints_oneCell .i64 [x])
                clear hLt hx hI
                go_wp2_with (at_builtin; refine wpList_append_any _ rfl (.tmp 44) (.tmp 52) 35 rfl WB.heap.size 3 j0 (.int .i64 0) 1 8 Try.underlying35 HJ.out HJ0.out HJ1.out HJ2.out rfl (by decide) _ Y.length (Y.map (Value.int .i64)) rfl HO1.out _ (some ⟨wr.heap.size, 0, none⟩) 1 1 _ rfl HR.out NV.out N1.out N2.out N3.out ?_; intro v3 w3 hown3 hgrow3 hblk3; have HP := Lib.hid (And.intro hown3 hgrow3); clear hown3 hgrow3 hblk3)
                go_roundw
                case rel => exact ⟨t + 1, by omega, by go_num, by refine Lib.hid ?_; rw [HTK.out, List.length_append, List.map_append]; exact HP.out.1, Below.grown hBA HP.out.2 hBA.size (fun g e => (HO1.out.lt g e).1)⟩
                case measure => simp [intOf]; omega
              · have hkd : decide ((k : Int) < (L.length : Int)) = false := decide_eq_false (by omega)
                have HTK := Lib.hid (show mxi Ls k ++ (Ls.take (t + 1)).filterMap (fun L => L[k]?) = mxi Ls k ++ (Ls.take t).filterMap (fun L => L[k]?) from by rw [List.take_add_one, hLt, List.filterMap_append]; simp [List.getElem?_eq_none (show L.length ≤ k by omega)])
                clear hLt hI
                go_wp2_with fail
                go_roundw
                case rel => exact ⟨t + 1, by omega, by go_num, by rw [HTK.out]; exact HO, hB⟩
                case measure => simp [intOf]; omega
            · obtain rfl : t = Ls.length := by omega
              have hd2 : decide ((Ls.length : Int) < (Ls.length : Int)) = false := decide_eq_false (by omega)
              go_wp2_with fail
              go_roundw
              case rel => exact ⟨k + 1, by omega, by go_num, by have h := HO; rw [List.take_length] at h; rw [List.append_nil]; exact h, hB⟩
              case measure => simp [intOf]; omega
        · obtain rfl : M = k := by omega
          have hdk : decide ((M : Int) < (M : Int)) = false := decide_eq_false (by omega)
          go_wp2_with fail
          go_ret
          exact ⟨M, _, HALL.out, rfl, by have h := HO.out; rw [List.append_nil] at h; exact h, hB⟩
end Go.Proofs.Ytdlgpbmeeiakdaa
