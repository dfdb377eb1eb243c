/-
  The walk of TickDraws.
-/
import Derived.Test.YtdjdpbgemdmpiaaRows
import Derived.WalkKit
import Derived.ProofKit
import Derived.OpenShut
import Derived.ShutString
import Derived.Below
import Derived.Outline
import Derived.WalkLawsBesides
import Derived.WalkSpells
import Derived.Handy
import Derived.Deep.QuietTactic
import Derived.BigQuiet
import Derived.RegionTactic
import Derived.ChangeAlike
import Derived.Lib.Hide
import Derived.Test.YtdjdpbgemdmpiaaKit
import Derived.Test.YtdjdpbgemdmpiaaTick
import Derived.Test.YtdjdpbgemdmpiaaApp
import Derived.Test.YtdjdpbgemdmpiaaRowAt
import Derived.Test.YtdjdpbgemdmpiaaTapes
import Derived.Test.YtdjdpbgemdmpiaaSls
namespace Go.Proofs.Ytdjdpbgemdmpiaa.tickDraws
open Go.ChangeShapes Go.WideShapes Go.ChangeAt Go.RowKit
theorem drop_get (Z : List Int) (k : Nat) (h : k < Z.length) : Z.drop k = Z.getD k 0 :: Z.drop (k + 1) := by
  rw [List.getD_eq_getElem?_getD, List.getElem?_eq_getElem h, List.drop_eq_getElem_cons h]
  rfl
theorem _root_.Go.Proofs.Ytdjdpbgemdmpiaa.St.cell {w0 w : World} {s k j n c : Nat} {L Z : List Int} {v : Value} {A : Option Addr} (h : St w0 w s L k v Z (.slice A n c)) (hj : j < Z.length) : ∃ g off, A = some ⟨g, off, none⟩ ∧ w.cell? ⟨g, off + j, none⟩ = some (.int .i64 (Z.getD j 0)) := by
  rcases h.ra.2 with ⟨_, h0⟩ | ⟨g, off, cap, cur, hv, hbg, hh, hnc, hcm, hsz, hcl⟩
  · omega
  · injection hv with hA
    refine ⟨g, off, hA, ?_⟩
    rw [cell_of_row _ _ _ _ _ _ hh]
    refine hcl j _ ?_
    unfold ints
    rw [List.getElem?_map, List.getElem?_eq_getElem hj, List.getD_eq_getElem?_getD, List.getElem?_eq_getElem hj]
    rfl
theorem row_u8 {w : World} {a : Option Addr} {len cap : Nat} {zs : List Int} (h : IsRow .u8 w a len cap zs) (t : Nat) (ht : t < len) : ∃ x z, a = some x ∧ x.block < w.heap.size ∧ w.cell? (x.add t) = some (.int .u8 z) ∧ 0 ≤ z ∧ z ≤ 255 := by
  rcases h with ⟨_, h0, _⟩ | ⟨x, rfl, hl, hm, hz, hc, hw⟩
  · omega
  · have hcell := hc t (by omega)
    have hlt := cell_lt2 hcell
    rw [block_of_add] at hlt
    have hmem : zs.getD t 0 ∈ zs := by
      rw [List.getD_eq_getElem?_getD, List.getElem?_eq_getElem (by omega)]
      exact List.getElem_mem _
    have hwf := hw _ hmem
    simp [Lit.wf, show IntKind.u8.min = 0 from by decide, show IntKind.u8.max = 255 from by decide] at hwf
    exact ⟨x, zs.getD t 0, rfl, hlt, hcell, by simpa using hwf.1, by simpa using hwf.2⟩
set_option maxRecDepth 100000 in
set_option maxHeartbeats 8000000 in
theorem walk (a0 : Option Addr) (len0 cap0 : Nat) (g0 : Nat → List Int) (a1 : Option Addr) (len1 cap1 : Nat) (z1 : List Int) (w : World) (w0 : SlsAt a0 len0 g0 w) (w1 : IsRow .u8 w a1 len1 cap1 z1) :
    Calls Try.prog 4 #[.slice a0 len0 cap0, .slice a1 len1 cap1] w fun e w' => e = .returned (.bool true) ∧ Below w.heap.size w w' := by
  have H0 := Lib.hid w0
  have H1 := Lib.hid w1
  obtain ⟨i0, hi, hz0, hz1, hz2⟩ := info_parts (tinfo ())
  have HI := Lib.hid hi
  have HZ0 := Lib.hid hz0
  have HZ1 := Lib.hid hz1
  have HZ2' := Lib.hid hz2
  clear w0 w1 hi hz0 hz1 hz2
  by_cases hl : (50 : Int) < (len0 : Int)
  · go_enter Try.func4, Try.ntmps4
    go_wp2_with fail
    refine (awake04 _).mono ?_
    rintro e w2 ⟨rfl, hb2⟩
    go_wp2
    go_ret
    exact ⟨rfl, hb2⟩
  have hl50 : len0 ≤ 50 := by omega
  have HS0 := Lib.hid (show St w (w.alloc (.cells #[.slice none 0 0, .int .i64 0] 51)) w.heap.size [] 0 (.slice none 0 0) [] (.slice none 0 0) from ⟨by simp [go_sem], by simp [go_sem], by simp [go_sem], by simp [go_sem], by simp, RowAt.nil _ _ _, RowAt.nil _ _ _, .inl rfl, by go_grown⟩)
  go_enter Try.func4, Try.ntmps4
  go_wp2_with fail
  go_loopw [6, 7, 24] (fun va at_ i wr => ∃ (t k : Nat) (Z : List Int) (v : Value), t ≤ len0 ∧ i = .int .i64 t ∧ at_ = .int .i64 k ∧ k ≤ Z.length ∧ Z.length ≤ 50 * t ∧ Hid (St w wr w.heap.size (Z.drop k) k v Z va)) (fun _ _ i _ => len0 + 1 - (intOf i).toNat)
  case atStart => exact ⟨0, 0, [], _, Nat.zero_le _, rfl, rfl, Nat.le_refl _, Nat.le_refl _, HS0⟩
  case round =>
    obtain ⟨t, k, Z, v, ht, rfl, rfl, hkZ, hZ, HS⟩ := hrel
    obtain ⟨Aa, ca, rfl⟩ := HS.out.ra.shape
    by_cases htl : t < len0
    · obtain ⟨ad, rfl, hab, hsl⟩ := H0.out (by omega)
      obtain ⟨B, c, hcell, hR⟩ := hsl t htl
      have d0 := (HS.out.bl.cell (p := ad.add t) (by rw [block_of_add]; exact hab)).trans hcell
      have HR0 := Lib.hid hR
      have HR := Lib.hid ((hR.below HS.out.bl).more (Nat.le_of_lt HS.out.sl))
      clear hcell hsl hR HS0
      generalize g0 t = ys at *
      have t0 : (0 : Int) ≤ (t : Int) := by omega
      have t1 : (t : Int) < (len0 : Int) := by omega
      by_cases hy : (50 : Int) < (ys.length : Int)
      · clear HR HR0
        have HB := Lib.hid HS.out.bl
        clear HS
        go_wp2_with fail
        refine (put_nil _ _ _ _).mono ?_
        rintro e w8 ⟨rfl, rfl⟩
        go_wp2_with fail
        refine (take_nil _).mono ?_
        rintro e w8 ⟨rfl, rfl⟩
        go_wp2_with fail
        refine (awake04 _).mono ?_
        rintro e w9 ⟨rfl, hb9⟩
        have HB9 := Lib.hid (Below.step (Below.step HB.out (by go_grown)) hb9)
        clear hb9
        go_wp2_with fail
        refine (left_nil _).mono ?_
        rintro e w8 ⟨rfl, rfl⟩
        go_wp2_with fail
        refine (taken_nil _).mono ?_
        rintro e w8 ⟨rfl, rfl⟩
        go_wp2
        go_ret
        exact ⟨rfl, HB9.out⟩
      have HP := Lib.hid (put_is HS.out B ys.length c ys rfl HR.out (by rw [List.length_drop]; omega))
      go_wp2_with fail
      refine HP.out.mono ?_
      rintro e w2 ⟨rfl, v2, hS2⟩
      have HS2 := Lib.hid hS2
      have HR2 := Lib.hid ((HR0.out.below hS2.bl).more (Nat.le_of_lt hS2.sl))
      have HSL2 := Lib.hid (show w.heap.size + 1 ≤ w2.heap.size from hS2.sl)
      have N1 := Lib.hid (show Z.length + ys.length ≤ maxLen from by unfold maxLen; omega)
      have N2 := Lib.hid (show (Z.length + ys.length) * 8 ≤ 140737488355328 from by omega)
      clear hS2 HP HR HS
      by_cases ht1 : t < len1
      · obtain ⟨x1, z, rfl, hx1, hq, hq0, hq255⟩ := row_u8 H1.out t ht1
        have HQ := Lib.hid (And.intro hx1 hq)
        clear hq
        have t2 : (t : Int) < (len1 : Int) := by omega
        go_wp2_with (at_builtin; refine wpList_append_row _ rfl (.tmp 34) (.tmp 35) 49 rfl (w.heap.size + 1) 3 i0 (.int .i64 0) 8 Try.underlying49 HI.out HZ0.out HZ1.out HZ2'.out rfl _ Z.length (ints Z) rfl HS2.out.ra _ B ys.length c (ints ys) rfl HR2.out (ints_one ys) N1.out N2.out HSL2.out ?_; intro v' w3 h2 h3 h4; have HS3 := Lib.hid (HS2.out.app h3 h2 h4); obtain ⟨Aa2, ca2, hv3⟩ := RowAt.shape h2; rw [← List.length_append] at hv3; rw [hv3]; rw [hv3] at HS3; rw [← List.drop_append_of_le_length hkZ] at HS3; obtain ⟨Z2, hZ2⟩ : ∃ Z2, Z2 = Z ++ ys := ⟨_, rfl⟩; rw [← hZ2] at HS3 ⊢; have HZ2 := Lib.hid (show Z2.length ≤ 50 * (t + 1) from by rw [hZ2, List.length_append]; omega); have HK2 := Lib.hid (show k ≤ Z2.length from by rw [hZ2, List.length_append]; omega); clear hZ2 hv3 h2 h3 h4 HS2 HR2 HR0 N1 N2 HSL2; have q3 := (HS3.out.bl.cell (p := x1.add t) (by rw [block_of_add]; exact HQ.out.1)).trans HQ.out.2; have hz8 : 0 ≤ z % 8 ∧ z % 8 < 8 := by omega)
        generalize z % 8 = q at *
        obtain ⟨hq8, hq9⟩ := hz8
        go_loopw [7, 48] (fun at_ i wr => ∃ (u k2 : Nat) (v3 : Value), (u : Int) ≤ q ∧ i = .int .i64 u ∧ at_ = .int .i64 k2 ∧ k2 ≤ Z2.length ∧ Hid (St w wr w.heap.size (Z2.drop k2) k2 v3 Z2 (.slice Aa2 Z2.length ca2))) (fun _ i _ => 8 - (intOf i).toNat)
        case atStart => exact ⟨0, k, v2, by omega, rfl, rfl, HK2.out, HS3⟩
        case round =>
          obtain ⟨u, k2, v3, hu, rfl, rfl, hk2, HS4⟩ := hrel
          have hz25 : Z2.length ≤ 2500 := by have := HZ2.out; omega
          by_cases huq : (u : Int) < q
          · by_cases hkl : k2 < Z2.length
            · have HT := Lib.hid (take_is (show St w wr w.heap.size (Z2.getD k2 0 :: Z2.drop (k2 + 1)) k2 v3 Z2 (.slice Aa2 Z2.length ca2) from drop_get Z2 k2 hkl ▸ HS4.out) (by omega))
              go_wp2_with fail
              refine HT.out.mono ?_
              rintro e w5 ⟨rfl, v4, hS5⟩
              obtain ⟨g, off, rfl, hc5⟩ := hS5.cell hkl
              have HS5 := Lib.hid hS5
              have kz0 : (0 : Int) ≤ (k2 : Int) := by omega
              have kz1 : (k2 : Int) < (Z2.length : Int) := by omega
              generalize Z2.getD k2 0 = x at *
              clear hS5 HT HS4
              go_wp2_with fail
              go_roundw
              case rel => exact ⟨u + 1, k2 + 1, v4, by omega, by go_num, by go_num, by omega, HS5⟩
              case measure => simp [intOf]; omega
            · obtain rfl : k2 = Z2.length := by omega
              have HT := Lib.hid (take_end (show St w wr w.heap.size [] Z2.length v3 Z2 (.slice Aa2 Z2.length ca2) from (List.drop_length : Z2.drop Z2.length = []) ▸ HS4.out))
              go_wp2_with fail
              refine HT.out.mono ?_
              rintro e w5 ⟨rfl, rfl⟩
              go_wp2_with fail
              go_roundw
              case rel => exact ⟨u + 1, Z2.length, v3, by omega, by go_num, rfl, by omega, HS4⟩
              case measure => simp [intOf]; omega
          · have HLF := Lib.hid (left_is HS4.out)
            rw [show ((Z2.drop k2).length : Int) = (Z2.length : Int) - (k2 : Int) from by rw [List.length_drop]; omega] at HLF
            have HTK := Lib.hid (taken_is HS4.out)
            have hz0 : (0 : Int) ≤ (Z2.length : Int) - (k2 : Int) := by omega
            have hz1 : (Z2.length : Int) ≤ 2500 := by have := HZ2.out; omega
            go_wp2_with fail
            refine HLF.out.mono ?_
            rintro e w5 ⟨rfl, rfl⟩
            go_wp2_with fail
            refine HTK.out.mono ?_
            rintro e w5 ⟨rfl, rfl⟩
            go_wp2_with fail
            go_roundw
            case rel => exact ⟨t + 1, k2, Z2, v3, by omega, by go_num, rfl, hk2, HZ2.out, HS4⟩
            case measure => simp [intOf]; omega
      · have t2 : (len1 : Int) ≤ (t : Int) := by omega
        go_wp2_with (at_builtin; refine wpList_append_row _ rfl (.tmp 34) (.tmp 35) 49 rfl (w.heap.size + 1) 3 i0 (.int .i64 0) 8 Try.underlying49 HI.out HZ0.out HZ1.out HZ2'.out rfl _ Z.length (ints Z) rfl HS2.out.ra _ B ys.length c (ints ys) rfl HR2.out (ints_one ys) N1.out N2.out HSL2.out ?_; intro v' w3 h2 h3 h4; have HS3 := Lib.hid (HS2.out.app h3 h2 h4); obtain ⟨Aa2, ca2, hv3⟩ := RowAt.shape h2; rw [← List.length_append] at hv3; rw [hv3]; rw [hv3] at HS3; rw [← List.drop_append_of_le_length hkZ] at HS3; obtain ⟨Z2, hZ2⟩ : ∃ Z2, Z2 = Z ++ ys := ⟨_, rfl⟩; rw [← hZ2] at HS3 ⊢; have HZ2 := Lib.hid (show Z2.length ≤ 50 * (t + 1) from by rw [hZ2, List.length_append]; omega); have HK2 := Lib.hid (show k ≤ Z2.length from by rw [hZ2, List.length_append]; omega); clear hZ2 hv3 h2 h3 h4 HS2 HR2 HR0 N1 N2 HSL2)
        go_loopw [7, 48] (fun at_ i wr => ∃ (u k2 : Nat) (v3 : Value), (u : Int) ≤ 0 ∧ i = .int .i64 u ∧ at_ = .int .i64 k2 ∧ k2 ≤ Z2.length ∧ Hid (St w wr w.heap.size (Z2.drop k2) k2 v3 Z2 (.slice Aa2 Z2.length ca2))) (fun _ i _ => 8 - (intOf i).toNat)
        case atStart => exact ⟨0, k, v2, by omega, rfl, rfl, HK2.out, HS3⟩
        case round =>
          obtain ⟨u, k2, v3, hu, rfl, rfl, hk2, HS4⟩ := hrel
          have hz25 : Z2.length ≤ 2500 := by have := HZ2.out; omega
          by_cases huq : (u : Int) < 0
          · by_cases hkl : k2 < Z2.length
            · have HT := Lib.hid (take_is (show St w wr w.heap.size (Z2.getD k2 0 :: Z2.drop (k2 + 1)) k2 v3 Z2 (.slice Aa2 Z2.length ca2) from drop_get Z2 k2 hkl ▸ HS4.out) (by omega))
              go_wp2_with fail
              refine HT.out.mono ?_
              rintro e w5 ⟨rfl, v4, hS5⟩
              obtain ⟨g, off, rfl, hc5⟩ := hS5.cell hkl
              have HS5 := Lib.hid hS5
              have kz0 : (0 : Int) ≤ (k2 : Int) := by omega
              have kz1 : (k2 : Int) < (Z2.length : Int) := by omega
              generalize Z2.getD k2 0 = x at *
              clear hS5 HT HS4
              go_wp2_with fail
              go_roundw
              case rel => exact ⟨u + 1, k2 + 1, v4, by omega, by go_num, by go_num, by omega, HS5⟩
              case measure => simp [intOf]; omega
            · obtain rfl : k2 = Z2.length := by omega
              have HT := Lib.hid (take_end (show St w wr w.heap.size [] Z2.length v3 Z2 (.slice Aa2 Z2.length ca2) from (List.drop_length : Z2.drop Z2.length = []) ▸ HS4.out))
              go_wp2_with fail
              refine HT.out.mono ?_
              rintro e w5 ⟨rfl, rfl⟩
              go_wp2_with fail
              go_roundw
              case rel => exact ⟨u + 1, Z2.length, v3, by omega, by go_num, rfl, by omega, HS4⟩
              case measure => simp [intOf]; omega
          · have HLF := Lib.hid (left_is HS4.out)
            rw [show ((Z2.drop k2).length : Int) = (Z2.length : Int) - (k2 : Int) from by rw [List.length_drop]; omega] at HLF
            have HTK := Lib.hid (taken_is HS4.out)
            have hz0 : (0 : Int) ≤ (Z2.length : Int) - (k2 : Int) := by omega
            have hz1 : (Z2.length : Int) ≤ 2500 := by have := HZ2.out; omega
            go_wp2_with fail
            refine HLF.out.mono ?_
            rintro e w5 ⟨rfl, rfl⟩
            go_wp2_with fail
            refine HTK.out.mono ?_
            rintro e w5 ⟨rfl, rfl⟩
            go_wp2_with fail
            go_roundw
            case rel => exact ⟨t + 1, k2, Z2, v3, by omega, by go_num, rfl, hk2, HZ2.out, HS4⟩
            case measure => simp [intOf]; omega
    · obtain rfl : t = len0 := by omega
      have HB := Lib.hid HS.out.bl
      clear HS
      go_wp2_with fail
      refine (put_nil _ _ _ _).mono ?_
      rintro e w8 ⟨rfl, rfl⟩
      go_wp2_with fail
      refine (take_nil _).mono ?_
      rintro e w8 ⟨rfl, rfl⟩
      go_wp2_with fail
      refine (awake04 _).mono ?_
      rintro e w9 ⟨rfl, hb9⟩
      have HB9 := Lib.hid (Below.step (Below.step HB.out (by go_grown)) hb9)
      clear hb9
      go_wp2_with fail
      refine (left_nil _).mono ?_
      rintro e w8 ⟨rfl, rfl⟩
      go_wp2_with fail
      refine (taken_nil _).mono ?_
      rintro e w8 ⟨rfl, rfl⟩
      go_wp2
      go_ret
      exact ⟨rfl, HB9.out⟩
end Go.Proofs.Ytdjdpbgemdmpiaa.tickDraws
