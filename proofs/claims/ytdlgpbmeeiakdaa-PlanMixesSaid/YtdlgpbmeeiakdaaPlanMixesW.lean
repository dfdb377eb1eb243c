/-
  PlanMixes: the walk.
-/
import Derived.Test.YtdlgpbmeeiakdaaRows
import Derived.Test.YtdlgpbmeeiakdaaKit
import Derived.Test.YtdlgpbmeeiakdaaApp
import Derived.Test.YtdlgpbmeeiakdaaEv
import Derived.Test.YtdlgpbmeeiakdaaEvP
import Derived.Test.YtdlgpbmeeiakdaaEvQ
import Derived.Test.YtdlgpbmeeiakdaaEvR
import Derived.Test.YtdlgpbmeeiakdaaQuiet
import Derived.Test.YtdlgpbmeeiakdaaPlA
import Derived.Test.YtdlgpbmeeiakdaaPlB
import Derived.Test.YtdlgpbmeeiakdaaPlC
import Derived.Test.YtdlgpbmeeiakdaaPlD
import Derived.Test.YtdlgpbmeeiakdaaPlE
import Derived.Test.YtdlgpbmeeiakdaaPlF
import Derived.Test.YtdlgpbmeeiakdaaPlI
import Derived.Test.YtdlgpbmeeiakdaaPlJ
import Derived.Test.YtdlgpbmeeiakdaaPlW
import Derived.Test.YtdlgpbmeeiakdaaMxA
import Derived.Test.YtdlgpbmeeiakdaaMxE
import Derived.Test.YtdlgpbmeeiakdaaMxF
import Derived.Test.YtdlgpbmeeiakdaaMxG
import Derived.Test.YtdlgpbmeeiakdaaMxH
import Derived.Test.YtdlgpbmeeiakdaaMxS
import Derived.WalkKit
import Derived.ProofKit
import Derived.OpenShut
import Derived.ShutString
import Derived.Below
import Derived.Outline
import Derived.WalkLawsBesides
import Derived.WalkSpells
import Derived.Handy
import Derived.Deep.QuietTactic
import Derived.BigQuiet
import Derived.RegionTactic
import Derived.ChangeAlike
import Derived.Lib.Hide
import Derived.Laws.Rows
import Derived.Laws.Tables
import Derived.Laws.CopyOwn
import Derived.Laws.MakeOwn
import Derived.Laws.Entries
import Derived.Laws.OwnMore
import Derived.Deep.WholeRow
import Derived.Deep.LoopGhost
import Derived.Deep.AppendLies
import Derived.Deep.Draws
import Derived.Maps.AppendAt
import Derived.OwnWalk
import Derived.Deep.RegionHeld3
import Derived.Deep.Cut
import Derived.Deep.CutRange
import Derived.Deep.DeepCutAuto
import Derived.Deep.CutBlock
import Derived.Lib.SliceRun
import Derived.IntWalk
namespace Go.Proofs.Ytdlgpbmeeiakdaa.planMixes
open Go.ChangeShapes Go.WideShapes Go.ChangeAt Go.RowKit
theorem eat_keep {w2 w3 : World} {A : Option Addr} {l : List Ev} {base : Nat} {u : Value} {rs : List Rw} {o : Obj} (h : EAt w2 A l) (hu : w2.ownsRow base 38 1 u rs.length (rs.map Rw.v)) (hn : rs = [] → u.ownBlock = none) (hg : (w2.alloc o).grownBy w3 u.ownBlock) : EAt w3 A l := by
  by_cases h0 : l = []
  · exact .inl h0
  rcases h with h | ⟨g, e, hgl, hc⟩
  · exact absurd h h0
  · have hne : some g ≠ u.ownBlock := by
      intro hgu
      by_cases hr : rs = []
      · rw [hn hr] at hgu; cases hgu
      · obtain ⟨g', cp, rfl, _, _⟩ := World.ownsRow.form hu (List.length_pos_iff.2 hr)
        have hgg : g = g' := by injection hgu
        subst hgg
        obtain ⟨x, l', rfl⟩ := List.exists_cons_of_ne_nil h0
        obtain ⟨r, rs', rfl⟩ := List.exists_cons_of_ne_nil hr
        have h1 := hc 0 0 x _ rfl (by decide) rfl
        have h2 := World.ownsRow.cellAt hu 0 (by simp)
        rw [show (0 * 12 + 0 : Nat) = 0 from rfl, h2] at h1
        simp [Rw.v] at h1
    have hal : g < (w2.alloc o).heap.size := by rw [World.size_alloc]; omega
    exact .inr ⟨g, e, Nat.lt_of_lt_of_le hal hg.size, fun i j ev u' h1 h2 h3 => (hg.cell_far ⟨g, i * 12 + j, none⟩ hal hne).trans ((World.cell?_alloc_lt w2 o ⟨g, i * 12 + j, none⟩ hgl).trans (hc i j ev u' h1 h2 h3))⟩
def rst (a : Int) (Z : List Int) : List Int := Z.filter (fun x => decide (x ≠ a) || decide (x < 0))
theorem wo_rst (a : Int) (Z : List Int) : woF a (Z.map evOf) = (rst a Z).map evOf := by
  unfold woF rst
  rw [List.filter_map]
  congr 1
  apply List.filter_congr
  intro x _
  show (!isP a (evOf x)) = _
  unfold isP evOf
  by_cases h : x < 0
  · rw [if_pos h]; simp [h]
  · rw [if_neg h]; simp [h]
theorem mx_same (rs : List Rw) (K M : Nat) (hK : ∀ r ∈ rs, r.L.length ≤ K) (hM : ∀ L ∈ rs.map Rw.L, L.length ≤ M) : mxl rs K = mxi (rs.map Rw.L) M := by
  have hM' : ∀ r ∈ rs, r.L.length ≤ M := fun r hr => hM r.L (List.mem_map_of_mem hr)
  rw [← mxl_mxi, ← mxl_end rs K hK (max K M) (Nat.le_max_left _ _), mxl_end rs M hM' (max K M) (Nat.le_max_right _ _)]
set_option maxRecDepth 100000 in
theorem long (A : Option Addr) (len cap : Nat) (ag : Int) (w : World) (hl : 20 < len) : Calls Try.prog 5 #[.slice A len cap, .int .i64 ag] w fun e w' => e = .returned (.bool true) ∧ Below w.heap.size w w' := by
  have l1 : (20 : Int) < (len : Int) := by omega
  go_enter Try.func5, Try.ntmps5
  go_wp2_with fail
  refine (awake21 _).mono ?_
  rintro e w1 ⟨rfl, hb⟩
  go_wp2_with fail
  go_ret
  exact ⟨rfl, hb⟩
/-- The law's row of rows. -/
structure RM (w wr : World) (u : Value) (rs : List Rw) (Ls : List (List Int)) (t : Nat) : Prop where
  rows : wr.ownsRow w.heap.size 38 1 u rs.length (rs.map Rw.v)
  nil : rs = [] → u.ownBlock = none
  lists : rs.map Rw.L = Ls.take t
  evs : ∀ r ∈ rs, EAt wr r.A (r.L.map evOf)
  bel : Below w.heap.size w wr
  short : ∀ L ∈ Ls.take t, L.length ≤ 50
set_option maxRecDepth 100000 in
set_option maxHeartbeats 8000000 in
theorem main (A : Option Addr) (cap : Nat) (Ls : List (List Int)) (ag : Int) (w : World) (h : LAt w A Ls) (hl : Ls.length ≤ 20) : Calls Try.prog 5 #[.slice A Ls.length cap, .int .i64 ag] w fun e w' => e = .returned (.bool true) ∧ Below w.heap.size w w' := by
  obtain ⟨i0, hi, hz0, hz1, hz2⟩ := info_parts infoR
  have HI := Lib.hid hi
  have HZ0 := Lib.hid hz0
  have HZ1 := Lib.hid hz1
  have HZ2 := Lib.hid hz2
  obtain ⟨j0, hj, hj0, hj1, hj2⟩ := info_parts infoI
  have HJ := Lib.hid hj
  have HJ0 := Lib.hid hj0
  have HJ1 := Lib.hid hj1
  have HJ2 := Lib.hid hj2
  have H := Lib.hid h
  have l2 : (Ls.length : Int) ≤ 20 := by omega
  have l2d : decide ((20 : Int) < (Ls.length : Int)) = false := decide_eq_false (by omega)
  clear h hi hz0 hz1 hz2 hj hj0 hj1 hj2
  go_enter Try.func5, Try.ntmps5
  go_wp2_with fail
  go_loopw [5, 19] (fun u i wr => ∃ (t : Nat) (rs : List Rw), t ≤ Ls.length ∧ i = .int .i64 (t : Int) ∧ Hid (RM w wr u rs Ls t)) (fun _ i _ => Ls.length + 1 - (intOf i).toNat)
  case atStart => exact ⟨0, [], Nat.zero_le _, rfl, ⟨⟨rfl, .inl ⟨rfl, rfl⟩⟩, fun _ => rfl, rfl, fun r h => (by cases h), Below.refl _ _, fun L h => (by cases h)⟩⟩
  case round =>
    obtain ⟨t, rs, ht, rfl, HM⟩ := hrel
    have t0 : (0 : Int) ≤ (t : Int) := by omega
    by_cases htl : t < Ls.length
    · have t1 : (t : Int) < (Ls.length : Int) := by omega
      obtain ⟨L, hLt⟩ : ∃ e, Ls[t]? = some e := ⟨_, List.getElem?_eq_getElem htl⟩
      obtain ⟨ad, B, c, hA, hadl, hc, hI⟩ := (H.out.below HM.out.bel) t L hLt
      have HLt := Lib.hid hLt
      subst hA
      by_cases hL : L.length ≤ 50
      · have hg : decide ((50 : Int) < (L.length : Int)) = false := decide_eq_false (by omega)
        have HE := Lib.hid (events_is B c L wr hI (by omega))
        have hTK : Ls.take (t + 1) = Ls.take t ++ [L] := by rw [List.take_add_one, hLt]; rfl
        have HTK := Lib.hid hTK
        have hrl : rs.length = t := by
          have h1 := congrArg List.length HM.out.lists
          rw [List.length_map, List.length_take] at h1
          omega
        clear hLt hTK hI
        go_wp2_with fail
        refine HE.out.mono ?_
        rintro e w2 ⟨v, rfl, hO, hb⟩
        obtain ⟨Ae, ce, rfl⟩ := own_shape hO
        have HEN := Lib.hid (EAt.of_own hO)
        have HRO := Lib.hid (row_kept HM.out.rows hb)
        have hB2 := Below.step HM.out.bel hb
        have HEV := Lib.hid (show ∀ r ∈ rs, EAt w2 r.A (r.L.map evOf) from fun r hr => (HM.out.evs r hr).below hb)
        have HR := Lib.hid (reads_newN w2 1 1 [.slice Ae L.length ce] 38 rfl)
        have HO1 := Lib.hid (World.ownsRow.alloc HRO.out (Obj.cells #[.slice Ae L.length ce] 38))
        have N1 := Lib.hid (show rs.length + 1 ≤ maxLen from by unfold maxLen; omega)
        have N2 := Lib.hid (show (rs.length + 1) * 24 ≤ 140737488355328 from by omega)
        have hBA := hB2.alloc hB2.size (Obj.cells #[.slice Ae L.length ce] 38)
        have N3 := Lib.hid (show w.heap.size ≤ (w2.alloc (Obj.cells #[.slice Ae L.length ce] 38)).heap.size from hBA.size)
        have NV := Lib.hid (show ∀ u ∈ [Value.slice Ae L.length ce], u.oneCell' = true from fun u hu => by rw [List.mem_singleton.1 hu]; rfl)
        have HNI := Lib.hid HM.out.nil
        have HLI := Lib.hid HM.out.lists
        have HSH := Lib.hid HM.out.short
        clear hb hO hB2 HM
        go_wp2_with (at_builtin; refine wpList_append_any _ rfl (.tmp 27) (.tmp 30) 46 rfl w.heap.size 38 i0 (.slice none 0 0) 1 24 Try.underlying46 HI.out HZ0.out HZ1.out HZ2.out rfl (by decide) _ rs.length (rs.map Rw.v) rfl HO1.out _ (some ⟨w2.heap.size, 0, none⟩) 1 1 _ rfl HR.out NV.out N1.out N2.out N3.out ?_; intro v3 w3 hown3 hgrow3 hblk3; have HP := Lib.hid (And.intro hown3 hgrow3); clear hown3 hgrow3 hblk3)
        go_roundw
        case rel =>
          refine ⟨t + 1, rs ++ [⟨Ae, ce, L⟩], by omega, by go_num, Lib.hid ⟨?_, fun h => by simp at h, ?_, ?_, Below.grown hBA HP.out.2 hBA.size (fun g e => (HO1.out.lt g e).1), ?_⟩⟩
          · rw [List.length_append, List.map_append]; exact HP.out.1
          · rw [List.map_append, HLI.out, HTK.out]; rfl
          · intro r hr
            rcases List.mem_append.1 hr with h1 | h1
            · exact eat_keep (HEV.out r h1) HRO.out HNI.out HP.out.2
            · rw [List.mem_singleton.1 h1]; exact eat_keep HEN.out HRO.out HNI.out HP.out.2
          · intro L' hL'
            rw [HTK.out] at hL'
            rcases List.mem_append.1 hL' with h1 | h1
            · exact HSH.out L' h1
            · rw [List.mem_singleton.1 h1]; exact hL
        case measure => simp [intOf]; omega
      · have hg : (50 : Int) < (L.length : Int) := by omega
        clear hLt hI
        go_wp2_with fail
        refine (awake21 _).mono ?_
        rintro e w2 ⟨rfl, hb⟩
        go_wp2_with fail
        go_ret
        exact ⟨rfl, Below.step HM.out.bel hb⟩
    · obtain rfl : t = Ls.length := by omega
      have hd : decide ((Ls.length : Int) < (Ls.length : Int)) = false := decide_eq_false (by omega)
      have hls := HM.out.lists
      rw [List.take_length] at hls
      have hsh := HM.out.short
      rw [List.take_length] at hsh
      have hrl : rs.length ≤ 20 := by rw [← hls, List.length_map] at hl; exact hl
      obtain ⟨Au, cu, rfl⟩ := own_shape HM.out.rows
      have HRX := Lib.hid (refmix_is A cap Ls wr (H.out.below HM.out.bel) hl hsh)
      have HLS := Lib.hid hls
      have HSH := Lib.hid hsh
      clear hls hsh
      go_wp2_with fail
      refine HRX.out.mono ?_
      rintro e w2 ⟨M, v8, hMM, rfl, hO8, hb2⟩
      have hB2 := Below.step HM.out.bel hb2
      have HO2 := Lib.hid (row_kept HM.out.rows hb2)
      have HMX := Lib.hid (mix_is Au cu rs w2 (Reads.of_own HO2.out) hrl (fun r hr => HSH.out r.L (by rw [← HLS.out]; exact List.mem_map_of_mem hr)) (fun r hr => (HM.out.evs r hr).below hb2))
      have HMM := Lib.hid hMM
      obtain ⟨A8, c8, rfl⟩ := own_shape hO8
      have HI8 := Lib.hid (IAt.of_own hO8)
      clear hb2 hO8 HM hMM
      go_wp2_with fail
      refine HMX.out.mono ?_
      rintro e w3 ⟨K, v9, hK, rfl, hO9, hb3⟩
      have hB3 := Below.step hB2 hb3
      have HI9 := Lib.hid (HI8.out.below hb3)
      have hZZ : mxl rs K = mxi Ls M := by
        have h1 := mx_same rs K M hK (by rw [HLS.out]; exact HMM.out)
        rw [h1, HLS.out]
      rw [hZZ] at hO9
      have hZl : (mxi Ls M).length ≤ 1000 := by
        have h1 := mx_same rs 50 M (fun r hr => HSH.out r.L (by rw [← HLS.out]; exact List.mem_map_of_mem hr)) (by rw [HLS.out]; exact HMM.out)
        rw [HLS.out] at h1
        rw [← h1]
        exact Nat.le_trans (mxl_len rs 50) (by omega)
      generalize mxi Ls M = Z at *
      obtain ⟨A9, c9, rfl⟩ := own_shape hO9
      have hE9 : EAt w3 A9 (Z.map evOf) := EAt.of_own (c := c9) (by rw [List.length_map]; exact hO9)
      have HE9 := Lib.hid hE9
      have HSM := Lib.hid (fun (X : List Int) (A : Option Addr) (c : Nat) (B : Option Addr) (cb : Nat) (Wd : World) (h : EAt Wd A (X.map evOf)) (hI : IAt Wd B X) (hl : X.length ≤ 200000) => show Calls Try.prog 20 #[.slice A X.length c, .slice B X.length cb] Wd (fun e w' => e = .returned (.bool true) ∧ Below Wd.heap.size Wd w') from by have h2 := same_is A c (X.map evOf) B cb X Wd h hI (sm_evOf X) hl; rw [List.length_map] at h2; exact h2)
      have HWO := Lib.hid (fun (Wd : World) (h : EAt Wd A9 (Z.map evOf)) => show Calls Try.prog 27 #[.int .i64 ag, .slice A9 Z.length c9] Wd (ERow Wd.heap.size ((rst ag Z).map evOf) Wd) from by have h2 := without_is ag A9 c9 (Z.map evOf) Wd h (by rw [List.length_map]; omega); rw [List.length_map, wo_rst] at h2; exact h2)
      have HXL := Lib.hid (show (rst ag Z).length ≤ 200000 from Nat.le_trans (List.length_filter_le ..) (by omega))
      have z0 : (Z.length : Int) ≤ 1000 := by omega
      clear hO9 hE9 hb3 hB2 hZZ hK
      go_wp2_with fail
      go_loopw [10, 39] (fun v i wr => ∃ t : Nat, t ≤ Z.length ∧ i = .int .i64 (t : Int) ∧ Hid (wr.ownsRow w3.heap.size 3 1 v (rst ag (Z.take t)).length ((rst ag (Z.take t)).map (Value.int .i64))) ∧ Below w3.heap.size w3 wr) (fun _ i _ => Z.length + 1 - (intOf i).toNat)
      case atStart => exact ⟨0, Nat.zero_le _, rfl, ⟨rfl, .inl ⟨rfl, rfl⟩⟩, Below.refl _ _⟩
      case round =>
        obtain ⟨t, ht, rfl, HO, hB⟩ := hrel
        have t0 : (0 : Int) ≤ (t : Int) := by omega
        by_cases htl : t < Z.length
        · have t1 : (t : Int) < (Z.length : Int) := by omega
          obtain ⟨x, hx⟩ : ∃ e, Z[t]? = some e := ⟨_, List.getElem?_eq_getElem htl⟩
          obtain ⟨ad, hA, hadl, hc⟩ := (HI9.out.below hB) t x hx
          have HT := Lib.hid (show rst ag (Z.take (t + 1)) = rst ag (Z.take t) ++ (if (decide (x ≠ ag) || decide (x < 0)) = true then [x] else []) from by
            unfold rst
            rw [List.take_add_one, hx, List.filter_append]
            show _ ++ List.filter _ [x] = _
            rw [List.filter_cons, List.filter_nil])
          have HYL := Lib.hid (show (rst ag (Z.take t)).length ≤ 1000 from Nat.le_trans (List.length_filter_le ..) (by rw [List.length_take]; omega))
          generalize rst ag (Z.take t) = Y at *
          subst hA
          clear hx
          by_cases hkeep : x ≠ ag ∨ x < 0
          · have HX := Lib.hid (show rst ag (Z.take (t + 1)) = Y ++ [x] from by rw [HT.out, if_pos (by simpa using hkeep)])
            have HR := Lib.hid (reads_newN wr 1 1 [.int .i64 x] 3 rfl)
            have HO1 := Lib.hid (World.ownsRow.alloc HO.out (Obj.cells #[.int .i64 x] 3))
            have N1 := Lib.hid (show Y.length + 1 ≤ maxLen from by have := HYL.out; unfold maxLen; omega)
            have N2 := Lib.hid (show (Y.length + 1) * 8 ≤ 140737488355328 from by have := HYL.out; omega)
            have hBA := hB.alloc hB.size (Obj.cells #[.int .i64 x] 3)
            have N3 := Lib.hid (show w3.heap.size ≤ (wr.alloc (Obj.cells #[.int .i64 x] 3)).heap.size from hBA.size)
            have NV := Lib.hid (ints_oneCell .i64 [x])
            by_cases hxa : x = ag
            · have hneg : x < 0 := by rcases hkeep with h | h; exact absurd hxa h; exact h
              have hne : (x != ag) = false := by simpa using hxa
              clear hkeep hxa
              go_wp2_with (at_builtin; refine wpList_append_any _ rfl (.tmp 50) (.tmp 52) 35 rfl w3.heap.size 3 j0 (.int .i64 0) 1 8 Try.underlying35 HJ.out HJ0.out HJ1.out HJ2.out rfl (by decide) _ Y.length (Y.map (Value.int .i64)) rfl HO1.out _ (some ⟨wr.heap.size, 0, none⟩) 1 1 _ rfl HR.out NV.out N1.out N2.out N3.out ?_; intro v3 w4 hown3 hgrow3 hblk3; have HP := Lib.hid (And.intro hown3 hgrow3); clear hown3 hgrow3 hblk3)
              go_roundw
              case rel => exact ⟨t + 1, by omega, by go_num, by refine Lib.hid ?_; rw [HX.out, List.length_append, List.map_append]; exact HP.out.1, Below.grown hBA HP.out.2 hBA.size (fun g e => (HO1.out.lt g e).1)⟩
              case measure => simp [intOf]; omega
            · have hne : (x != ag) = true := by simpa using hxa
              clear hkeep hxa
              go_wp2_with (at_builtin; refine wpList_append_any _ rfl (.tmp 50) (.tmp 52) 35 rfl w3.heap.size 3 j0 (.int .i64 0) 1 8 Try.underlying35 HJ.out HJ0.out HJ1.out HJ2.out rfl (by decide) _ Y.length (Y.map (Value.int .i64)) rfl HO1.out _ (some ⟨wr.heap.size, 0, none⟩) 1 1 _ rfl HR.out NV.out N1.out N2.out N3.out ?_; intro v3 w4 hown3 hgrow3 hblk3; have HP := Lib.hid (And.intro hown3 hgrow3); clear hown3 hgrow3 hblk3)
              go_roundw
              case rel => exact ⟨t + 1, by omega, by go_num, by refine Lib.hid ?_; rw [HX.out, List.length_append, List.map_append]; exact HP.out.1, Below.grown hBA HP.out.2 hBA.size (fun g e => (HO1.out.lt g e).1)⟩
              case measure => simp [intOf]; omega
          · have HX := Lib.hid (show rst ag (Z.take (t + 1)) = Y from by rw [HT.out, if_neg (by simpa using hkeep), List.append_nil])
            have hne : (x != ag) = false := by simp; omega
            have hng : decide (x < 0) = false := decide_eq_false (by omega)
            clear hkeep
            go_wp2_with fail
            go_roundw
            case rel => exact ⟨t + 1, by omega, by go_num, by rw [HX.out]; exact HO, hB⟩
            case measure => simp [intOf]; omega
        · obtain rfl : t = Z.length := by omega
          have hdz : decide ((Z.length : Int) < (Z.length : Int)) = false := decide_eq_false (by omega)
          have hO10 := HO.out
          rw [List.take_length] at hO10
          generalize rst ag Z = X at *
          obtain ⟨A10, c10, rfl⟩ := own_shape hO10
          have I10 := Lib.hid (IAt.of_own hO10)
          have I8 := Lib.hid (HI9.out.below hB)
          have E9 := Lib.hid (HE9.out.below hB)
          have B0 := Below.step hB3 hB
          clear hO10 HO hB
          go_wp2_with fail
          refine (awake21 _).mono ?_
          rintro e wa ⟨rfl, hb⟩
          have I10a := Lib.hid (I10.out.below hb)
          have I8a := Lib.hid (I8.out.below hb)
          have E9a := Lib.hid (E9.out.below hb)
          have B1 := Below.step B0 hb
          clear hb I10 I8 E9 B0
          go_wp2_with fail
          refine (HSM.out Z A9 c9 A8 c8 _ E9a.out I8a.out (by omega)).mono ?_
          rintro e wb ⟨rfl, hb⟩
          have I10b := Lib.hid (I10a.out.below hb)
          have E9b := Lib.hid (E9a.out.below hb)
          have B2 := Below.step B1 hb
          clear hb I10a I8a E9a B1
          go_wp2_with fail
          refine (HWO.out _ E9b.out).mono ?_
          rintro e wc ⟨v11, rfl, hO11, hb⟩
          obtain ⟨A11, c11, rfl⟩ := own_shape hO11
          have E11 := Lib.hid (EAt.of_own hO11)
          have I10c := Lib.hid (I10b.out.below hb)
          have B3 := Below.step B2 hb
          clear hb hO11 B2 I10b E9b
          go_wp2_with fail
          refine (HSM.out X A11 c11 A10 c10 _ E11.out I10c.out HXL.out).mono ?_
          rintro e wd ⟨rfl, hb⟩
          have B4 := Below.step B3 hb
          go_wp2_with fail
          go_ret
          exact ⟨rfl, B4⟩
/-- The parameter as it is read. -/
theorem lat_of {w : World} {A : Option Addr} {len : Nat} {g : Nat → List Int} (h : SlsAt A len g w) : LAt w A ((List.range len).map g) := by
  intro t L hL
  rw [List.getElem?_map] at hL
  have ht : t < len := by
    rcases Nat.lt_or_ge t len with h1 | h1
    · exact h1
    · rw [List.getElem?_eq_none (by simpa using h1)] at hL; cases hL
  rw [List.getElem?_range ht] at hL
  have hLg : g t = L := by simpa using hL
  subst hLg
  obtain ⟨ad, e, hl, hc⟩ := h (by omega)
  obtain ⟨B, c, h1, h2⟩ := hc t ht
  refine ⟨ad, B, c, e, hl, h1, fun k x hx => ?_⟩
  have hk := (List.getElem?_eq_some_iff.1 hx).1
  obtain ⟨ad2, e2, hl2, hc2⟩ := h2.2 (by omega)
  exact ⟨ad2, e2, hl2, hc2 k (.int .i64 x) (by unfold ints; rw [List.getElem?_map, hx]; rfl)⟩
theorem walk (a0 : Option Addr) (len0 cap0 : Nat) (g0 : Nat → List Int) (a1 : Int) (w : World) (w0 : SlsAt a0 len0 g0 w) (_ : (Lit.int .i64 a1).wf = true) :
    Calls Try.prog 5 #[.slice a0 len0 cap0, .int .i64 a1] w fun e w' => e = .returned (.bool true) ∧ Below w.heap.size w w' := by
  by_cases hl : len0 ≤ 20
  · have hlen : ((List.range len0).map g0).length = len0 := by simp
    rw [← hlen]
    exact main a0 cap0 _ a1 w (lat_of w0) (by omega)
  · exact long a0 len0 cap0 a1 w (by omega)
end Go.Proofs.Ytdlgpbmeeiakdaa.planMixes
