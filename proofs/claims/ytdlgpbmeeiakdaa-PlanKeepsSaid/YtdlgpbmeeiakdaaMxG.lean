/-
  Rows mixed: the walk.
-/
import Derived.Test.YtdlgpbmeeiakdaaRows
import Derived.Test.YtdlgpbmeeiakdaaKit
import Derived.Test.YtdlgpbmeeiakdaaApp
import Derived.Test.YtdlgpbmeeiakdaaEv
import Derived.Test.YtdlgpbmeeiakdaaEvP
import Derived.Test.YtdlgpbmeeiakdaaEvQ
import Derived.Test.YtdlgpbmeeiakdaaEvR
import Derived.Test.YtdlgpbmeeiakdaaQuiet
import Derived.Test.YtdlgpbmeeiakdaaPlA
import Derived.Test.YtdlgpbmeeiakdaaPlB
import Derived.Test.YtdlgpbmeeiakdaaPlF
import Derived.Test.YtdlgpbmeeiakdaaPlI
import Derived.Test.YtdlgpbmeeiakdaaMxA
import Derived.Test.YtdlgpbmeeiakdaaMxB
import Derived.Test.YtdlgpbmeeiakdaaMxC
import Derived.Test.YtdlgpbmeeiakdaaMxD
import Derived.Test.YtdlgpbmeeiakdaaMxE
import Derived.Test.YtdlgpbmeeiakdaaMxF
import Derived.WalkKit
import Derived.ProofKit
import Derived.OpenShut
import Derived.ShutString
import Derived.Below
import Derived.Outline
import Derived.WalkLawsBesides
import Derived.WalkSpells
import Derived.Handy
import Derived.Deep.QuietTactic
import Derived.BigQuiet
import Derived.RegionTactic
import Derived.ChangeAlike
import Derived.Lib.Hide
import Derived.Laws.Rows
import Derived.Laws.Tables
import Derived.Laws.CopyOwn
import Derived.Laws.MakeOwn
import Derived.Laws.Entries
import Derived.Laws.OwnMore
import Derived.Deep.WholeRow
import Derived.Deep.LoopGhost
import Derived.Deep.AppendLies
import Derived.Deep.Draws
import Derived.Maps.AppendAt
import Derived.OwnWalk
import Derived.Deep.RegionHeld3
import Derived.Deep.Cut
import Derived.Deep.CutRange
import Derived.Deep.DeepCutAuto
import Derived.Deep.CutBlock
import Derived.Lib.SliceRun
import Derived.IntWalk
namespace Go.Proofs.Ytdlgpbmeeiakdaa
open Go.ChangeShapes Go.WideShapes Go.ChangeAt Go.RowKit
theorem clone_is (A : Option Addr) (cap : Nat) (rs : List Rw) (w : World) (hr : Reads w w.heap.size 1 A rs.length (rs.map Rw.v)) (hl : rs.length ≤ 1000) : Calls Try.prog 49 #[.slice A rs.length cap] w fun e w' => ∃ v, e = .returned v ∧ w'.ownsRow w.heap.size 38 1 v rs.length (rs.map Rw.v) ∧ Below w.heap.size w w' := by
  cases A with
  | some ad => exact clone_some ad cap rs w hr hl
  | none =>
    have h0 : rs = [] := by
      cases rs with
      | nil => rfl
      | cons r rs =>
        obtain ⟨ad, h, _⟩ := hr.2 (by simp)
        cases h
    subst h0
    exact (clone_none cap w).mono fun _ _ ⟨he, hb⟩ => ⟨_, he, ⟨rfl, .inl ⟨rfl, rfl⟩⟩, hb⟩
def rnum (ip : Value) (w : World) : Nat := match ip with
  | .pointer (some a) => (match w.cell? a with | some (.int _ n) => n.toNat | _ => 0)
  | _ => 0
theorem mxl_len (rs : List Rw) : ∀ k, (mxl rs k).length ≤ k * rs.length
  | 0 => Nat.zero_le _
  | k + 1 => by
    have ih := mxl_len rs k
    have h := List.length_filterMap_le (fun r : Rw => r.L[k]?) rs
    show (mxl rs k ++ _).length ≤ _
    rw [List.length_append, Nat.add_mul, Nat.one_mul]
    omega
theorem MS.next {w wr w' : World} {v u : Value} {ib k : Nat} {L : List Int} {F : List Rw} (h : MS w wr v u ib k L F) (hb : Below wr.heap.size wr w') (hc : w'.cell? ⟨wr.heap.size, 0, none⟩ = some (.int .i64 ((k + 1 : Nat) : Int))) (hf : w'.frozen? ⟨wr.heap.size, 0, none⟩ = false) : MS w w' v u wr.heap.size (k + 1) L F := by
  refine ⟨row_kept h.all hb, row_kept h.rows hb, hc, hf, h.bel.size, Below.step h.bel hb, h.ap1, fun e => ?_, fun e => ?_⟩
  · have := (World.ownsRow.lt h.all _ e).2; omega
  · have := (World.ownsRow.lt h.rows _ e).2; omega
set_option maxRecDepth 100000 in
set_option maxHeartbeats 8000000 in
theorem mix_is (A : Option Addr) (cap : Nat) (rs : List Rw) (w : World) (hr : Reads w w.heap.size 1 A rs.length (rs.map Rw.v)) (hl : rs.length ≤ 20) (hL : ∀ r ∈ rs, r.L.length ≤ 50) (hev : ∀ r ∈ rs, EAt w r.A (r.L.map evOf)) :
    Calls Try.prog 26 #[.slice A rs.length cap] w fun e w' => ∃ K v, (∀ r ∈ rs, r.L.length ≤ K) ∧ e = .returned v ∧ w'.ownsRow w.heap.size 67 12 v (mxl rs K).length (evl ((mxl rs K).map evOf)) ∧ Below w.heap.size w w' := by
  obtain ⟨i0, hi, hz0, hz1, hz2⟩ := info_parts infoE
  have HI := Lib.hid hi
  have HZ0 := Lib.hid hz0
  have HZ1 := Lib.hid hz1
  have HZ2 := Lib.hid hz2
  clear hi hz0 hz1 hz2
  have HCL := Lib.hid (clone_is A cap rs w hr (by omega))
  have HEV := Lib.hid hev
  have HLL := Lib.hid hL
  have hmf : ∀ (fn : Fn) (first cp : Array Value) (W : World), (Instr.makeFunc fn first cp).run Try.prog W = .ok (.func fn first cp) W := fun _ _ _ _ => rfl
  clear hr hL hev
  go_enter Try.func26, Try.ntmps26
  go_wp2_with fail
  refine HCL.out.mono ?_
  rintro e w1 ⟨v, rfl, hO, hb1⟩
  have HM0 := Lib.hid (show MS w (w1.alloc (.cells #[.int .i64 0] 3)) (.slice none 0 0) v w1.heap.size 0 (mxl rs 0) (rsAt rs 0) from ⟨⟨rfl, .inl ⟨rfl, rfl⟩⟩, World.ownsRow.alloc hO _, by simp [go_sem], by simp [go_sem], hb1.size, hb1.alloc hb1.size _, fun g h => (by cases h), (by intro h; cases h), fun e => by have := (World.ownsRow.lt hO _ e).2; omega⟩)
  clear hb1 hO
  go_wp2_with fail
  go_loopw [3, 4, 5] (fun v u ip wr => ∃ k ib : Nat, ip = .pointer (some ⟨ib, 0, none⟩) ∧ k ≤ 51 ∧ Hid (MS w wr v u ib k (mxl rs k) (rsAt rs k))) (fun _ _ ip wr => 60 - rnum ip wr)
  case atStart => exact ⟨0, _, rfl, by omega, HM0⟩
  case round =>
    clear HM0
    obtain ⟨k, ib, rfl, hk, HM⟩ := hrel
    have HRN := Lib.hid (show rnum (.pointer (some ⟨ib, 0, none⟩)) wr = k from by simp [rnum, HM.out.num])
    by_cases hF : rsAt rs k = []
    · obtain ⟨A4, c4, rfl⟩ := own_shape HM.out.rows
      have hz : (rsAt rs k).length = 0 := by rw [hF]; rfl
      have HZ := Lib.hid (rsAt_nil rs k hF)
      have HX := HM
      rw [hz]
      clear hF hz
      go_wp2_with fail
      go_ret
      exact ⟨k, _, HZ.out, rfl, HX.out.all, HX.out.bel⟩
    · have hpos : 0 < (rsAt rs k).length := List.length_pos_iff.2 hF
      have hk50 := rsAt_some rs k hF HLL.out
      have hlen := rsAt_len rs k
      obtain ⟨g, c4, rfl, hgb, hgl⟩ := World.ownsRow.form HM.out.rows hpos
      have hne : ib ≠ g := fun e => HM.out.ap3 (by rw [e]; rfl)
      have HDEL := Lib.hid (delete_is w.heap.size g c4 ib k (rsAt rs k) wr HM.out.rows (by omega) HM.out.num HM.out.lt hne)
      have p0 : (0 : Int) < ((rsAt rs k).length : Int) := by omega
      clear hF
      go_wp2_with fail
      refine HDEL.out.mono ?_
      rw [rsAt_kp]
      rintro e w2 ⟨rfl, ho, hb⟩
      have HM2 := Lib.hid (HM.out.cut ho hb hgb)
      have HFL := Lib.hid (show (rs.filter (kp k)).length ≤ 20 from Nat.le_trans (List.length_filter_le ..) hl)
      have HMEM := Lib.hid (show ∀ r ∈ rs.filter (kp k), r ∈ rs ∧ k < r.L.length from fun r hr => by
        obtain ⟨h1, h2⟩ := List.mem_filter.1 hr
        unfold kp at h2
        rw [decide_eq_true_eq] at h2
        exact ⟨h1, h2⟩)
      have HNXT := Lib.hid (show mxl rs (k + 1) = mxl rs k ++ (rs.filter (kp k)).filterMap (fun r => r.L[k]?) from by show mxl rs k ++ _ = _; rw [col_kp])
      have HML := Lib.hid (show (mxl rs k).length ≤ 1100 from Nat.le_trans (mxl_len rs k) (Nat.le_trans (Nat.mul_le_mul hk hl) (by omega)))
      have HRS : rsAt rs (k + 1) = rs.filter (kp k) := rfl
      have HRS := Lib.hid HRS
      clear ho hb HM HDEL hpos hlen p0
      generalize rs.filter (kp k) = F at *
      generalize mxl rs k = X at *
      go_wp2_with fail
      go_loopw [3, 20] (fun v j wr => ∃ t : Nat, t ≤ F.length ∧ j = .int .i64 (t : Int) ∧ Hid (MS w wr v (.slice (some ⟨g, 0, none⟩) F.length c4) ib k (X ++ (F.take t).filterMap (fun r => r.L[k]?)) F)) (fun _ j _ => F.length + 1 - (intOf j).toNat)
      case atStart => exact ⟨0, Nat.zero_le _, rfl, by show Hid (MS w w2 _ _ ib k (X ++ []) F); rw [List.append_nil]; exact HM2⟩
      case round =>
        clear HM2
        obtain ⟨t, ht, rfl, HM⟩ := hrel
        have t0 : (0 : Int) ≤ (t : Int) := by omega
        have kk0 : (0 : Int) ≤ (k : Int) := by omega
        have t2 : (F.length : Int) ≤ 20 := by have := HFL.out; omega
        have nn := HM.out.num
        have nl := HM.out.lt
        by_cases htl : t < F.length
        · have t1 : (t : Int) < (F.length : Int) := by omega
          obtain ⟨r, hr⟩ : ∃ e, F[t]? = some e := ⟨_, List.getElem?_eq_getElem htl⟩
          obtain ⟨hmem, hkl⟩ := HMEM.out r (List.mem_of_getElem? hr)
          have hrow : wr.cell? ⟨g, t, none⟩ = some (.slice r.A r.L.length r.cap) := (World.ownsRow.cellAt HM.out.rows t (by omega)).trans (by rw [List.getElem?_map, hr]; rfl)
          obtain ⟨x, hx⟩ : ∃ e, r.L[k]? = some e := ⟨_, List.getElem?_eq_getElem hkl⟩
          have H := Lib.hid ((HEV.out r hmem).below HM.out.bel)
          have hxe : (r.L.map evOf)[k]? = some (evOf x) := by rw [List.getElem?_map, hx]; rfl
          have HTK := Lib.hid (show X ++ (F.take (t + 1)).filterMap (fun r => r.L[k]?) = (X ++ (F.take t).filterMap (fun r => r.L[k]?)) ++ [x] from by rw [List.take_add_one, hr, List.filterMap_append]; simp [hx])
          have HXL := Lib.hid (show (X ++ (F.take t).filterMap (fun r => r.L[k]?)).length ≤ 2000 from by
            rw [List.length_append]
            have h1 := HML.out
            have h2 := List.length_filterMap_le (fun r : Rw => r.L[k]?) (F.take t)
            rw [List.length_take] at h2
            have h3 := HFL.out
            omega)
          generalize X ++ (F.take t).filterMap (fun r => r.L[k]?) = Y at *
          obtain ⟨g3, hA, hg3, d0, d1, d2, d3, d4, d5, d6, d7, d8, d9, d10, d11⟩ := H.out.cells k (evOf x) hxe
          obtain ⟨ev, hevx⟩ : ∃ e, e = evOf x := ⟨_, rfl⟩
          rw [← hevx] at d0 d1 d2
          have HEX := Lib.hid hevx
          obtain ⟨ek, ex, en⟩ := ev
          dsimp only at d0 d1 d2
          obtain ⟨rA, rc, rL⟩ := r
          dsimp only at hA hrow hkl
          subst hA
          have hrl : (rL.length : Int) ≤ 50 := by have := HLL.out _ hmem; dsimp only at this; omega
          have hkI : (k : Int) < (rL.length : Int) := by omega
          have HR := Lib.hid (reads_newN wr 1 12 (evc (ek, ex, en)) 67 rfl)
          have HO1 := Lib.hid (World.ownsRow.alloc HM.out.all (Obj.cells #[.int .i64 ek, .int .i64 ex, .int .i64 en, .int .i64 0, .int .i64 0, .int .i64 0, .int .i64 0, .int .i64 0, .int .i64 0, .int .i64 0, .int .i64 0, .int .i64 0] 67))
          have N1 := Lib.hid (show Y.length + 1 ≤ maxLen from by have := HXL.out; unfold maxLen; omega)
          have N2 := Lib.hid (show (Y.length + 1) * 96 ≤ 140737488355328 from by have := HXL.out; omega)
          have N3 := Lib.hid (show w.heap.size ≤ (wr.alloc (Obj.cells #[.int .i64 ek, .int .i64 ex, .int .i64 en, .int .i64 0, .int .i64 0, .int .i64 0, .int .i64 0, .int .i64 0, .int .i64 0, .int .i64 0, .int .i64 0, .int .i64 0] 67)).heap.size from by have := HM.out.bel.size; simp; omega)
          have NV := Lib.hid (evc_one (ek, ex, en))
          clear hx hr hxe hmem hevx H hkl
          go_wp2_with (at_builtin; refine wpList_append_any _ rfl (.tmp 24) (.tmp 29) 38 rfl w.heap.size 67 i0 (.agg #[.int .i64 0, .int .i64 0, .int .i64 0, .int .i64 0, .int .i64 0, .int .i64 0, .int .i64 0, .int .i64 0, .int .i64 0, .int .i64 0, .int .i64 0, .int .i64 0]) 12 96 Try.underlying38 HI.out HZ0.out HZ1.out HZ2.out rfl (by decide) _ Y.length (evl (Y.map evOf)) rfl HO1.out _ (some ⟨wr.heap.size, 0, none⟩) 1 1 _ rfl HR.out NV.out N1.out N2.out N3.out ?_; intro v3 w3 hown3 hgrow3 hblk3; have HP := Lib.hid (And.intro hown3 (And.intro hgrow3 hblk3)); clear hown3 hgrow3 hblk3)
          go_roundw
          case rel => exact ⟨t + 1, by omega, by go_num, by rw [HTK.out]; exact Lib.hid (HM.out.app (by rw [← HEX.out]; exact HP.out.1) HP.out.2.1 HP.out.2.2)⟩
          case measure => simp [intOf]; omega
        · obtain rfl : t = F.length := by omega
          have hd : decide ((F.length : Int) < (F.length : Int)) = false := decide_eq_false (by omega)
          have HMX := HM
          rw [List.take_length, ← HNXT.out] at HMX
          go_wp2_with fail
          refine ⟨⟨k + 1, _, rfl, by omega, ?_⟩, ?_⟩
          · rw [HRS.out]
            exact Lib.hid (HMX.out.next (by go_grown) (by simp [go_sem]) (by simp [go_sem]))
          · rw [HRN.out]
            have hn : rnum (.pointer (some ⟨wr.heap.size, 0, none⟩)) (wr.alloc (Obj.cells #[.int .i64 ((k : Int) + 1)] 3)) = k + 1 := by
              unfold rnum
              simp [go_sem]
              try omega
            rw [hn]
            omega
end Go.Proofs.Ytdlgpbmeeiakdaa
