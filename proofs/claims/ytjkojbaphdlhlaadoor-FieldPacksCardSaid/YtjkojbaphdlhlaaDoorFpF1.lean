/-
  The walk of FieldPacks.
-/
import Derived.Test.YtjkojbaphdlhlaaDoorRows
import Derived.Test.YtjkojbaphdlhlaaDoorKit
import Derived.Test.YtjkojbaphdlhlaaDoorApp
import Derived.Test.YtjkojbaphdlhlaaDoorQuiet
import Derived.Test.YtjkojbaphdlhlaaDoorAsF
import Derived.Test.YtjkojbaphdlhlaaDoorAsC
import Derived.Test.YtjkojbaphdlhlaaDoorAsD
import Derived.Test.YtjkojbaphdlhlaaDoorAsE
import Derived.Test.YtjkojbaphdlhlaaDoorAsG
import Derived.Test.YtjkojbaphdlhlaaDoorWraps
import Derived.Test.YtjkojbaphdlhlaaDoorAwake1
import Derived.Test.YtjkojbaphdlhlaaDoorIsC
import Derived.Test.YtjkojbaphdlhlaaDoorFpLay
import Derived.Test.YtjkojbaphdlhlaaDoorFpAny
import Derived.Test.YtjkojbaphdlhlaaDoorFpGet
import Derived.Test.YtjkojbaphdlhlaaDoorFpRefTwo
import Derived.Test.YtjkojbaphdlhlaaDoorFpAwakeB
import Derived.Test.YtjkojbaphdlhlaaDoorFpAll
import Derived.Test.YtjkojbaphdlhlaaDoorFpCheck
import Derived.Test.YtjkojbaphdlhlaaDoorFpBad
import Derived.WalkKit
import Derived.ProofKit
import Derived.OpenShut
import Derived.ShutString
import Derived.Below
import Derived.Outline
import Derived.WalkLawsBesides
import Derived.WalkSpells
import Derived.Handy
import Derived.Deep.QuietTactic
import Derived.BigQuiet
import Derived.RegionTactic
import Derived.ChangeAlike
import Derived.Lib.Hide
import Derived.Laws.Rows
import Derived.Laws.Tables
import Derived.Laws.CopyOwn
import Derived.Deep.WholeRow
import Derived.Deep.LoopGhost
import Derived.Laws.BitsAllLaws
import Derived.Laws.BitsLemmas
import Derived.IntWalk
import Derived.Laws.MakeOwn
import Derived.Laws.Entries
import Derived.Deep.RegionLaw
import Derived.Deep.Cut
import Derived.Deep.CutRange
import Derived.Deep.DeepCutAuto
namespace Go.Proofs.YtjkojbaphdlhlaaDoor.Fp
set_option linter.unusedVariables false
set_option linter.unusedSimpArgs false
open Go.ChangeShapes Go.WideShapes Go.ChangeAt Go.RowKit
set_option maxRecDepth 100000 in
set_option maxHeartbeats 8000000 in
theorem fine1 (A C : Option Addr) (n cap m cap1 : Nat) (ws zs : Nat → Int) (x : Nat) (i : Int) (w : World) (hg : w.cell? ⟨0, 0, none⟩ = some (.iface 126 (.agg #[.pointer (some ⟨1, 30, none⟩)]))) (hgl : 0 < w.heap.size) (hn : n ≤ 70) (hm : m ≤ 70) (hx : x < 18446744073709551616) (s : Nat → Int) (hS : Steps n s) (hw : ∀ k, k < n → s (k + 1) = s k + ws k) (hR : RowI w A n ws) (hZ : RowI w C m zs)
    (hNW : ∀ W, RowI W A n ws → Calls Tryd.prog 8 #[.slice A n cap] W fun e w' => ∃ cs, e = .returned (.tuple #[.agg cs, .nilIface]) ∧ Lay cs n s ∧ Below W.heap.size W w')
    (hKW : ∀ W, RowI W A n ws → Calls Tryd.prog 9 #[.slice A n cap] W fun e w' => e = .returned (.tuple #[.int .i64 0, .int .i64 0]) ∧ W = w')
    (hPK : ∀ cs W, Lay cs n s → RowI W C m zs → Calls Tryd.prog 13 #[.agg cs, .slice C m cap1] W fun e w' => e = .returned (.tuple #[.int .u64 0, .iface 86 (.int .i64 1)]) ∧ Below W.heap.size W w')
    (hRP : ∀ W, RowI W A n ws → RowI W C m zs → Calls Tryd.prog 14 #[.slice A n cap, .slice C m cap1] W fun e w' => e = .returned (.tuple #[.int .u64 0, .int .i64 1, .int .i64 0]) ∧ W = w') :
    Calls Tryd.prog 3 #[.slice A n cap, .slice C m cap1, .int .u64 (x : Int), .int .i64 i] w fun e w' => e = .returned (.bool true) ∧ Below w.heap.size w w' := by
  have hd : decide ((70 : Int) < (m : Int)) = false := decide_eq_false (by omega)
  have hxx : ((0 : Int) != (0 : Int)) = false := by simp
  have hnn : ((n : Int) != (n : Int)) = false := by simp
  have hzero := zero70
  have HN := Lib.hid (hNW w hR)
  have HKW := Lib.hid hKW
  have HPK := Lib.hid hPK
  have HRP := Lib.hid hRP
  have HR0 := Lib.hid hR
  have HZ0 := Lib.hid hZ
  have HG0 := Lib.hid hg
  have HW0 := Lib.hid hw
  have HS0 := Lib.hid hS
  clear hR hZ hS hw hg hPK hRP hNW hKW
  go_enter Tryd.func3, Tryd.ntmps3
  go_wp2_with fail
  refine (light02 A n cap _ hn).mono ?_
  rintro e w' ⟨rfl, rfl⟩
  go_wp2_with fail
  refine HN.out.mono ?_
  rintro e w1 ⟨cs, rfl, hL, hb1⟩
  have hz1 := hb1.size
  have HSZ := Lib.hid (lay_info hL)
  have HZS := Lib.hid (show Z0.size = cs.size from by rw [hL.size]; rfl)
  have HON := Lib.hid hL.one
  have HL := Lib.hid hL
  have HG1 := Lib.hid (heap_alloc_new w1 (Obj.cells Z0 28))
  have HS1 := Lib.hid (heap_alloc_new w1 (Obj.cells cs 28))
  have HB1 := Lib.hid (hb1.alloc hz1 (Obj.cells cs 28))
  have HR1 := Lib.hid (row_below HR0.out HB1.out)
  have HZ1 := Lib.hid (row_below HZ0.out HB1.out)
  clear hb1 hL
  go_wp2_with (refine wpList_store_row rfl 28 _ _ rfl w1.heap.size cs rfl rfl 28 Z0 HG1.out HSZ.out HZS.out HON.out ?_; rw [World.setRow_alloc_new])
  refine (HKW.out _ HR1.out).mono ?_
  rintro e w' ⟨rfl, rfl⟩
  go_wp2_with fail
  refine (num_nil _).mono ?_
  rintro e w' ⟨rfl, rfl⟩
  go_wp2_with (refine wpList_load_row rfl 28 _ rfl w1.heap.size rfl 28 _ (0, 0) _ HS1.out Tryd.underlying28 rfl HSZ.out ?_)
  refine (HPK.out cs _ HL.out HZ1.out).mono ?_
  rintro e w2 ⟨rfl, hb2⟩
  have HB2 := Lib.hid (Below.step HB1.out hb2)
  have HS2 := Lib.hid ((hb2.block _ (blk_lt HS1.out)).trans HS1.out)
  have HR2 := Lib.hid (row_below HR1.out hb2)
  have HZ2 := Lib.hid (row_below HZ1.out hb2)
  clear hb2
  go_wp2_with fail
  refine (HRP.out _ HR2.out HZ2.out).mono ?_
  rintro e w' ⟨rfl, rfl⟩
  go_wp2_with fail
  refine (num_ch [] 1 (by decide) (by decide) _ _ rfl).mono ?_
  rintro e w3 ⟨rfl, hb3⟩
  have HB3 := Lib.hid (Below.step HB2.out hb3)
  have HS3 := Lib.hid ((hb3.block _ (blk_lt HS2.out)).trans HS2.out)
  have HR3 := Lib.hid (row_below HR2.out hb3)
  clear hb3
  go_wp2_with (refine wpList_load_row_on rfl 28 _ rfl w1.heap.size rfl 28 _ (0, 0) _ HS3.out Tryd.underlying28 rfl HSZ.out ?_)
  refine (fields_is HL.out _).mono ?_
  rintro e w4 ⟨rfl, hb4⟩
  have HB4 := Lib.hid (Below.step HB3.out hb4)
  have HS4 := Lib.hid ((hb4.block _ (blk_lt HS3.out)).trans HS3.out)
  have HR4 := Lib.hid (row_below HR3.out hb4)
  clear hb4
  go_wp2_with (refine wpList_load_row rfl 28 _ rfl w1.heap.size rfl 28 _ (0, 0) _ HS4.out Tryd.underlying28 rfl HSZ.out ?_)
  refine (all13 HL.out HS0.out x hx _).mono ?_
  rintro e w5 ⟨B, rfl, hRB, hb5⟩
  have HB5 := Lib.hid (Below.step HB4.out hb5)
  have HS5 := Lib.hid ((hb5.block _ (blk_lt HS4.out)).trans HS4.out)
  have HR5 := Lib.hid (row_below HR4.out hb5)
  have HRB5 := Lib.hid hRB
  clear hb5 hRB
  go_wp2_with (refine wpList_load_row_on rfl 28 _ rfl w1.heap.size rfl 28 _ (0, 0) _ HS5.out Tryd.underlying28 rfl HSZ.out ?_)
  refine (get_any HL.out HS0.out x i hx _).mono ?_
  rintro e w6 ⟨rfl, hb6⟩
  have HB6 := Lib.hid (Below.step HB5.out hb6)
  have HS6 := Lib.hid ((hb6.block _ (blk_lt HS5.out)).trans HS5.out)
  have HR6 := Lib.hid (row_below HR5.out hb6)
  have HRB6 := Lib.hid (row_below HRB5.out hb6)
  clear hb6
  go_wp2_with fail
  refine (rget_any HS0.out HW0.out A cap x i hx _ HR6.out).mono ?_
  rintro e w' ⟨rfl, rfl⟩
  have hgg : ((gnum s n x i : Int) != gnum s n x i) = false := by simp
  go_wp2_with fail
  go_loopw [132] (fun c wr => ∃ k : Nat, k ≤ n ∧ c = .int .i64 (k : Int) ∧ Below w.heap.size w wr ∧ wr.heap[w1.heap.size]? = some (.cells cs 28 (0, 0)) ∧ Hid (RowI wr A n ws) ∧ Hid (RowI wr (some ⟨B, 0, none⟩) n (fld s x))) (fun c _ => n + 1 - (intOf c).toNat)
  case atStart => exact ⟨0, Nat.zero_le _, rfl, HB6.out, HS6.out, HR6, HRB6⟩
  case round =>
    clear hgg
    obtain ⟨k, hk, rfl, hB, hS, HR, HRB⟩ := hrel
    by_cases hlt : k < n
    · obtain ⟨s0, s1, s2, s3⟩ := HS0.out.2.2 k hlt
      have hwk := HW0.out k hlt
      obtain ⟨m0, hm0⟩ : ∃ m : Nat, ws k = m := ⟨(ws k).toNat, by omega⟩
      have hm1 : m0 ≤ 32 := by omega
      have hm2 : 1 ≤ m0 := by omega
      have em : (s (k + 1) - s k).toNat = m0 := by omega
      have HMO := Lib.hid (fun W => show Calls Tryd.prog 18 #[.agg cs, .int .i64 (k : Int)] W fun e w' => e = .returned (.int .u64 (2 ^ m0 - 1)) ∧ Below W.heap.size W w' from by
        have h := most_yes HL.out k W hlt HS0.out.2.1 s0 s1 s2 s3
        rw [em] at h
        exact h)
      have HGE := Lib.hid (fun W (h : RowI W A n ws) => rget_is HS0.out HW0.out A cap x k hx hlt W h)
      obtain ⟨g, off, hA, hg, hz, z0, z1⟩ := HR.out k hlt
      obtain ⟨hBl, hBz⟩ := row_at HRB.out k hlt
      rw [hm0] at hz
      have hpb := pow_bd m0 hm1
      have hpw := pow_wrap m0 hm1
      have k0 : (0 : Int) ≤ (k : Int) := by omega
      have k1 : (k : Int) < (n : Int) := by omega
      have k2 : (n : Int) ≤ 70 := by omega
      have hK : Cb wr w1.heap.size cs wr.drew := ⟨hS, Below.drew (Below.refl _ _)⟩
      clear s0 s1 s2 s3 hwk em z0 z1
      have HZ := Lib.hid hz
      have HBZ := Lib.hid hBz
      have HPB := Lib.hid hpb
      clear hz hBz
      generalize hF : fld s x k = F at *
      have hff : ((F : Int) != F) = false := by simp
      subst hA
      go_wp2_with fail
      refine region_cb (by kernel_rfl) (by kernel_rfl) hK ?_
      clear hK
      iterate 3 (first | go_big_quiet_skip | (go_big_quiet_want; go_big_quiet_op; first | go_big_quiet_on | (refine ⟨_, fun _ _ => rfl, ?_⟩; go_big_quiet_on)))
      go_big_quiet_want
      refine ⟨.int .i64 F, fun wq hq => ?_, ?_⟩
      · have c1 := (Below.cell hq.2 (p := ⟨B, k, none⟩) hBl).trans HBZ.out
        unfold Oper.quietAt
        simp [go_sem, c1, Oper.quietUpon]
      simp only [Act.put, List.setIfInBounds_toArray, List.set_cons_zero, List.set_cons_succ]
      go_big_quiet_on
      iterate 3 (first | go_big_quiet_skip | (go_big_quiet_want; go_big_quiet_op; first | go_big_quiet_on | (refine ⟨_, fun _ _ => rfl, ?_⟩; go_big_quiet_on)))
      go_big_quiet_want
      go_big_quiet_op
      refine ⟨.int .i64 F, fun wq hq => (HGE.out wq (row_below HR.out hq.2)).mono fun e w' ⟨he, hw⟩ => ⟨by rw [he], hw ▸ hq⟩, ?_⟩
      go_big_quiet_on
      iterate 2 (first | go_big_quiet_skip | (go_big_quiet_want; go_big_quiet_op; first | go_big_quiet_on | (refine ⟨_, fun _ _ => rfl, ?_⟩; go_big_quiet_on)))
      go_big_quiet_want
      refine ⟨.agg cs, fun wq hq => quiet_row 28 _ rfl w1.heap.size rfl 28 cs (0, 0) _ hq.1 Tryd.underlying28 rfl HSZ.out, ?_⟩
      simp only [Act.put, List.setIfInBounds_toArray, List.set_cons_zero, List.set_cons_succ]
      go_big_quiet_on
      iterate 1 (first | go_big_quiet_skip | (go_big_quiet_want; go_big_quiet_op; first | go_big_quiet_on | (refine ⟨_, fun _ _ => rfl, ?_⟩; go_big_quiet_on)))
      go_big_quiet_want
      go_big_quiet_op
      refine ⟨_, fun wq hq => call_cb HMO.out hq, ?_⟩
      go_big_quiet_on
      iterate 3 (first | go_big_quiet_skip | (go_big_quiet_want; go_big_quiet_op; first | go_big_quiet_on | (refine ⟨_, fun _ _ => rfl, ?_⟩; go_big_quiet_on)))
      go_big_quiet_want
      refine ⟨.int .i64 (m0 : Int), fun wq hq => ?_, ?_⟩
      · have c1 := (Below.cell hq.2 (p := ⟨g, off + k, none⟩) hg).trans HZ.out
        unfold Oper.quietAt
        simp [go_sem, c1, Oper.quietUpon]
      simp only [Act.put, List.setIfInBounds_toArray, List.set_cons_zero, List.set_cons_succ]
      go_big_quiet_on
      iterate 4 (first | go_big_quiet_skip | (go_big_quiet_want; go_big_quiet_op; first | go_big_quiet_on | (refine ⟨_, fun _ _ => rfl, ?_⟩; go_big_quiet_on)))
      refine wpQuiet_nil ?_
      intro wz hz
      have hBz := hz.2
      have hHz := hz.1
      clear hz
      go_wp2_with fail
      go_roundw
      case rel => exact ⟨k + 1, by omega, by go_num, Below.step hB hBz, hHz, Lib.hid (row_below HR.out hBz), Lib.hid (row_below HRB.out hBz)⟩
      case measure => simp [intOf]; omega
    · obtain rfl : n = k := by omega
      have k1 : decide ((n : Int) < (n : Int)) = false := decide_eq_false (by omega)
      go_wp2_with fail
      refine (awake02 _).mono ?_
      rintro e w9 ⟨rfl, hb9⟩
      have hB9 := Below.step hB hb9
      go_wp2
      go_ret
      exact ⟨rfl, hB9⟩
end Go.Proofs.YtjkojbaphdlhlaaDoor.Fp
