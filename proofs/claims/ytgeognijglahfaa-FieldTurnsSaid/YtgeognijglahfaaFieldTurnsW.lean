/-
  The walk of FieldTurns.
-/
import Derived.Test.YtgeognijglahfaaRows
import Derived.WalkKit
import Derived.ProofKit
import Derived.OpenShut
import Derived.ShutString
import Derived.Below
import Derived.Outline
import Derived.WalkLawsBesides
import Derived.WalkSpells
import Derived.Handy
import Derived.Deep.QuietTactic
import Derived.BigQuiet
import Derived.RegionTactic
import Derived.ChangeAlike
import Derived.Lib.Hide
import Derived.Laws.Rows
import Derived.Laws.Tables
import Derived.Laws.CopyOwn
import Derived.Deep.WholeRow
import Derived.Deep.LoopGhost
import Derived.Laws.BitsAllLaws
import Derived.Laws.BitsLemmas
import Derived.IntWalk
import Derived.Test.YtgeognijglahfaaKit
import Derived.Test.YtgeognijglahfaaLay
import Derived.Test.YtgeognijglahfaaAny
import Derived.Test.YtgeognijglahfaaGet
import Derived.Test.YtgeognijglahfaaWithM
import Derived.Test.YtgeognijglahfaaIs
import Derived.Deep.RegionHeld3
import Derived.Deep.Cut
import Derived.Deep.CutRange
import Derived.Deep.DeepCutAuto
import Derived.Deep.CutBlock
import Derived.Deep.RegionLaw
import Derived.Test.YtgeognijglahfaaQuiet
import Derived.Test.YtgeognijglahfaaNumF
import Derived.Test.YtgeognijglahfaaWith
import Derived.Test.YtgeognijglahfaaWithM
import Derived.Test.YtgeognijglahfaaRefTwo
import Derived.Test.YtgeognijglahfaaAwakeB
namespace Go.Proofs.Ytgeognijglahfaa.fieldTurns
open Go.ChangeShapes Go.WideShapes Go.ChangeAt Go.RowKit
set_option maxHeartbeats 1000000 in
theorem long (A : Option Addr) (n cap : Nat) (x i v : Int) (w : World) (hn : 70 < n) :
    Calls Try.prog 3 #[.slice A n cap, .int .u64 x, .int .i64 i, .int .i64 v] w fun e w' => e = .returned (.bool true) ∧ Below w.heap.size w w' := by
  go_enter Try.func3, Try.ntmps3
  go_wp2_with fail
  refine (dark02 A n cap _ hn).mono ?_
  rintro e w' ⟨rfl, rfl⟩
  go_wp2_with fail
  refine (awake02 _).mono ?_
  rintro e w1 ⟨rfl, hb1⟩
  go_wp2
  go_ret
  exact ⟨rfl, hb1⟩
set_option maxRecDepth 100000 in
set_option maxHeartbeats 2000000 in
theorem bad (A : Option Addr) (n cap : Nat) (ws : Nat → Int) (x i v : Int) (c j : Int) (w : World) (hn : n ≤ 70) (hN : ∀ W, RowI W A n ws → Calls Try.prog 10 #[.slice A n cap] W (NewBad c j W)) (hR : RowI w A n ws) :
    Calls Try.prog 3 #[.slice A n cap, .int .u64 x, .int .i64 i, .int .i64 v] w fun e w' => e = .returned (.bool true) ∧ Below w.heap.size w w' := by
  have hzero := zero70
  have HN := Lib.hid (hN w hR)
  clear hN hR
  go_enter Try.func3, Try.ntmps3
  go_wp2_with fail
  refine (light02 A n cap _ hn).mono ?_
  rintro e w' ⟨rfl, rfl⟩
  go_wp2_with fail
  refine HN.out.mono ?_
  rintro e w1 ⟨y, rfl, ⟨pb, rfl, _, _, _, _⟩, hb1⟩
  have hz1 := hb1.size
  have HSZ := Lib.hid (lay_info (lay_zero (fun _ => 0) rfl))
  have HON := Lib.hid (lay_zero (fun _ => 0) rfl).one
  have HG1 := Lib.hid (heap_alloc_new w1 (Obj.cells Z0 28))
  have HB2 := Lib.hid (hb1.alloc hz1 (Obj.cells Z0 28))
  clear hb1
  go_wp2_with (refine wpList_store_row rfl 28 _ _ rfl w1.heap.size Z0 rfl rfl 28 Z0 HG1.out HSZ.out rfl HON.out ?_; rw [World.setRow_alloc_new])
  refine (awake02 _).mono ?_
  rintro e w2 ⟨rfl, hb2⟩
  have hB2 := Below.step HB2.out hb2
  go_wp2
  go_ret
  exact ⟨rfl, hB2⟩
set_option maxRecDepth 100000 in
set_option maxHeartbeats 4000000 in
theorem none_ (A : Option Addr) (n cap : Nat) (ws : Nat → Int) (x i v : Int) (w : World) (hn : n ≤ 70) (hP : Steps n (pre_ ws)) (hR : RowI w A n ws) (hi : i < 0 ∨ (n : Int) ≤ i) :
    Calls Try.prog 3 #[.slice A n cap, .int .u64 x, .int .i64 i, .int .i64 v] w fun e w' => e = .returned (.bool true) ∧ Below w.heap.size w w' := by
  have HI := Lib.hid hi
  have hzero := zero70
  have HN := Lib.hid (new_ok A n cap ws (pre_ ws) w hR hP (fun k _ => rfl))
  clear hi
  go_enter Try.func3, Try.ntmps3
  go_wp2_with fail
  refine (light02 A n cap _ hn).mono ?_
  rintro e w' ⟨rfl, rfl⟩
  go_wp2_with fail
  refine HN.out.mono ?_
  rintro e w1 ⟨cs, rfl, hL, hb1⟩
  have hz1 := hb1.size
  have HSZ := Lib.hid (lay_info hL)
  have HZS := Lib.hid (show Z0.size = cs.size from by rw [hL.size]; rfl)
  have HON := Lib.hid hL.one
  have HL := Lib.hid hL
  have HS := Lib.hid (steps_cut hP)
  have HG1 := Lib.hid (heap_alloc_new w1 (Obj.cells Z0 28))
  have HG2 := Lib.hid (heap_alloc_new w1 (Obj.cells cs 28))
  have HB2 := Lib.hid (hb1.alloc hz1 (Obj.cells cs 28))
  clear hb1 hL
  go_wp2_with (first | (refine wpList_store_row rfl 28 _ _ rfl w1.heap.size cs rfl rfl 28 Z0 HG1.out HSZ.out HZS.out HON.out ?_; rw [World.setRow_alloc_new]) | (refine wpList_load_row rfl 28 _ rfl w1.heap.size rfl 28 _ (0, 0) _ HG2.out Try.underlying28 rfl HSZ.out ?_))
  refine (with_none HL.out x i v _ HI.out HS.out.2.1).mono ?_
  rintro e w2 ⟨rfl, hb2⟩
  have hB2 := Below.step HB2.out hb2
  clear hb2
  by_cases h0 : i < 0
  · go_wp2_with fail
    refine (awake02 _).mono ?_
    rintro e w3 ⟨rfl, hb3⟩
    have hB3 := Below.step hB2 hb3
    clear hb3
    go_wp2_with fail
    refine (num_code 3 (by decide) (by decide) _).mono ?_
    rintro e w4 ⟨rfl, hb4⟩
    have hB4 := Below.step hB3 hb4
    go_wp2
    go_ret
    exact ⟨rfl, hB4⟩
  · have h1 : (n : Int) ≤ i := by have := HI.out; omega
    go_wp2_with fail
    refine (awake02 _).mono ?_
    rintro e w3 ⟨rfl, hb3⟩
    have hB3 := Below.step hB2 hb3
    clear hb3
    go_wp2_with fail
    refine (num_code 3 (by decide) (by decide) _).mono ?_
    rintro e w4 ⟨rfl, hb4⟩
    have hB4 := Below.step hB3 hb4
    go_wp2
    go_ret
    exact ⟨rfl, hB4⟩
set_option maxRecDepth 100000 in
set_option maxHeartbeats 4000000 in
theorem unfit (A : Option Addr) (n cap : Nat) (ws : Nat → Int) (x : Int) (i : Nat) (v : Int) (w : World) (hn : n ≤ 70) (hP : Steps n (pre_ ws)) (hR : RowI w A n ws) (hi : i < n) (hv : v < 0 ∨ 2 ^ (ws i).toNat ≤ v) (h9 : v ≤ 9223372036854775807) :
    Calls Try.prog 3 #[.slice A n cap, .int .u64 x, .int .i64 (i : Int), .int .i64 v] w fun e w' => e = .returned (.bool true) ∧ Below w.heap.size w w' := by
  have HV := Lib.hid hv
  clear hv
  have hzero := zero70
  have HN := Lib.hid (new_ok A n cap ws (pre_ ws) w hR hP (fun k _ => rfl))
  go_enter Try.func3, Try.ntmps3
  go_wp2_with fail
  refine (light02 A n cap _ hn).mono ?_
  rintro e w' ⟨rfl, rfl⟩
  go_wp2_with fail
  refine HN.out.mono ?_
  rintro e w1 ⟨cs, rfl, hL, hb1⟩
  have hz1 := hb1.size
  have HSZ := Lib.hid (lay_info hL)
  have HZS := Lib.hid (show Z0.size = cs.size from by rw [hL.size]; rfl)
  have HON := Lib.hid hL.one
  have HL := Lib.hid hL
  have HS := Lib.hid (steps_cut hP)
  have HG1 := Lib.hid (heap_alloc_new w1 (Obj.cells Z0 28))
  have HG2 := Lib.hid (heap_alloc_new w1 (Obj.cells cs 28))
  have HB2 := Lib.hid (hb1.alloc hz1 (Obj.cells cs 28))
  clear hb1 hL
  go_wp2_with (first | (refine wpList_store_row rfl 28 _ _ rfl w1.heap.size cs rfl rfl 28 Z0 HG1.out HSZ.out HZS.out HON.out ?_; rw [World.setRow_alloc_new]) | (refine wpList_load_row rfl 28 _ rfl w1.heap.size rfl 28 _ (0, 0) _ HG2.out Try.underlying28 rfl HSZ.out ?_))
  have hiw := cut_ws ws i hi
  obtain ⟨s0, s1, s2, s3⟩ := HS.out.2.2 i hi
  have em : ((fun k => if k ≤ n then pre_ ws k else 0) (i + 1) - (fun k => if k ≤ n then pre_ ws k else 0) i).toNat = (ws i).toNat := by omega
  have hF : ∀ W, Calls Try.prog 60 #[.agg cs, .int .i64 (i : Int), .int .i64 v] W fun e w' => e = .returned (.bool false) ∧ Below W.heap.size W w' := fun W => by
    by_cases hneg : v < 0
    · exact fits_neg HL.out i v W hi HS.out.2.1 s0 s1 s2 s3 hneg
    · have := HV.out
      exact fits_big HL.out i v W hi HS.out.2.1 s0 s1 s2 s3 (by rw [em]; omega) h9
  have HF := Lib.hid hF
  obtain ⟨g, off, rfl, hg, hz, z0, z1⟩ := hR i hi
  obtain ⟨m, hm⟩ : ∃ m : Nat, ws i = m := ⟨(ws i).toNat, by omega⟩
  have hm2 : m ≤ 32 := by omega
  have hpb := pow_bd m hm2
  rw [hm] at hz
  have HV2 : Hid (v < 0 ∨ 2 ^ m ≤ v) := by have := HV.out; rw [hm, Int.toNat_natCast] at this; exact this
  have hz2 := (HB2.out.cell (p := ⟨g, off + i, none⟩) hg).trans hz
  clear hF hR hiw s0 s1 s2 s3 em z0 z1 hm hz
  refine (with_bad HL.out x i v _ hi HS.out.2.1 HF.out).mono ?_
  rintro e w2 ⟨y, rfl, hF2, hb2⟩
  have hB2 := Below.step HB2.out hb2
  have HF2 := Lib.hid hF2
  have hz3 := (hb2.cell (p := ⟨g, off + i, none⟩) (Nat.lt_of_lt_of_le hg HB2.out.size)).trans hz2
  clear hb2 hF2 hz2
  by_cases h0 : v < 0
  · go_wp2_with fail
    refine (awake02 _).mono ?_
    rintro e w3 ⟨rfl, hb3⟩
    have hB3 := Below.step hB2 hb3
    have HF3 := Lib.hid (HF2.out.below hb3)
    clear hb3
    go_wp2_with fail
    refine (num_at (by decide) (by decide) HF3.out).mono ?_
    rintro e w4 ⟨rfl, hb4⟩
    have hB4 := Below.step hB3 hb4
    go_wp2
    go_ret
    exact ⟨rfl, hB4⟩
  · have h1 : 2 ^ m - 1 < v := by have := HV2.out; omega
    have hvv : 0 ≤ v := by omega
    have hpw := pow_wrap m hm2
    have hpz : (0 : Int) ≤ (m : Int) := by omega
    go_wp2_with fail
    refine (awake02 _).mono ?_
    rintro e w3 ⟨rfl, hb3⟩
    have hB3 := Below.step hB2 hb3
    have HF3 := Lib.hid (HF2.out.below hb3)
    clear hb3
    go_wp2_with fail
    refine (num_at (by decide) (by decide) HF3.out).mono ?_
    rintro e w4 ⟨rfl, hb4⟩
    have hB4 := Below.step hB3 hb4
    go_wp2
    go_ret
    exact ⟨rfl, hB4⟩
set_option maxRecDepth 100000 in
set_option maxHeartbeats 4000000 in
theorem fit (A : Option Addr) (n cap : Nat) (ws : Nat → Int) (x i v : Nat) (w : World) (hn : n ≤ 70) (hP : Steps n (pre_ ws)) (hR : RowI w A n ws) (hi : i < n) (hv : (v : Int) < 2 ^ (ws i).toNat) (hx : x < 18446744073709551616) :
    Calls Try.prog 3 #[.slice A n cap, .int .u64 (x : Int), .int .i64 (i : Int), .int .i64 (v : Int)] w fun e w' => e = .returned (.bool true) ∧ Below w.heap.size w w' := by
  have HV := Lib.hid hv
  clear hv
  have hzero := zero70
  have HN := Lib.hid (new_ok A n cap ws (pre_ ws) w hR hP (fun k _ => rfl))
  go_enter Try.func3, Try.ntmps3
  go_wp2_with fail
  refine (light02 A n cap _ hn).mono ?_
  rintro e w' ⟨rfl, rfl⟩
  go_wp2_with fail
  refine HN.out.mono ?_
  rintro e w1 ⟨cs, rfl, hL, hb1⟩
  have hz1 := hb1.size
  have HSZ := Lib.hid (lay_info hL)
  have HZS := Lib.hid (show Z0.size = cs.size from by rw [hL.size]; rfl)
  have HON := Lib.hid hL.one
  have HL := Lib.hid hL
  have HS := Lib.hid (steps_cut hP)
  have HG1 := Lib.hid (heap_alloc_new w1 (Obj.cells Z0 28))
  have HG2 := Lib.hid (heap_alloc_new w1 (Obj.cells cs 28))
  have HB2 := Lib.hid (hb1.alloc hz1 (Obj.cells cs 28))
  clear hb1 hL
  go_wp2_with (first | (refine wpList_store_row rfl 28 _ _ rfl w1.heap.size cs rfl rfl 28 Z0 HG1.out HSZ.out HZS.out HON.out ?_; rw [World.setRow_alloc_new]) | (refine wpList_load_row rfl 28 _ rfl w1.heap.size rfl 28 _ (0, 0) _ HG2.out Try.underlying28 rfl HSZ.out ?_))
  have hiw := cut_ws ws i hi
  obtain ⟨s0, s1, s2, s3⟩ := HS.out.2.2 i hi
  have hRR := hR
  have HRR := Lib.hid hRR
  clear hRR
  obtain ⟨s, hs⟩ : ∃ s, s = (fun k => if k ≤ n then pre_ ws k else 0) := ⟨_, rfl⟩
  have hcw := cut_ws (n := n) ws
  rw [← hs] at hcw hiw s0 s1 s2 s3
  have HCW := Lib.hid hcw
  have HS' : Hid (Steps n s) := by rw [hs]; exact HS.out
  have HL' : Hid (Lay cs n s) := by rw [hs]; exact HL.out
  clear HS HL hcw hs
  obtain ⟨g, off, rfl, hg, hz, z0, z1⟩ := hR i hi
  obtain ⟨m, hm⟩ : ∃ m : Nat, ws i = m := ⟨(ws i).toNat, by omega⟩
  have hm2 : m ≤ 32 := by omega
  have hpb := pow_bd m hm2
  have em : (s (i + 1) - s i).toNat = m := by omega
  rw [hm] at hz
  have hv0 : (v : Int) < 2 ^ m := by have := HV.out; rw [hm, Int.toNat_natCast] at this; exact this
  have hv1 : v < 2 ^ m := by
    have h2 : ((2 ^ m : Nat) : Int) = (2 : Int) ^ m := by simp
    omega
  have hv2 : v < 2 ^ (s (i + 1) - s i).toNat := by rw [em]; exact hv1
  have HV2 := Lib.hid hv2
  have hz2 := (HB2.out.cell (p := ⟨g, off + i, none⟩) hg).trans hz
  have HY := Lib.hid (fun k (hk : k < n) => fld_wth HS'.out x i v k hi hk hv2)
  have HYB := Lib.hid (wth_wth (n := n) (s := s) x i v hv2)
  have hyl : wth s x i v < 18446744073709551616 := wth_lt x (s i).toNat (s (i + 1) - s i).toNat v hx (by omega) hv2
  have hff := fld_fit (n := n) (s := s) x i
  have HWB : Hid (∀ W, Calls Try.prog 11 #[.agg cs, .int .u64 (wth s x i v : Nat), .int .i64 (i : Int), .int .i64 (fld s x i)] W fun e w' => e = .returned (.tuple #[.int .u64 (x : Int), .nilIface]) ∧ Below W.heap.size W w') := fun W => by
    have h := with_ok HL'.out HS'.out (wth s x i v) i (fld s x i).toNat W hyl hi (by
      have h2 : ((2 ^ (s (i + 1) - s i).toNat : Nat) : Int) = (2 : Int) ^ (s (i + 1) - s i).toNat := by simp
      omega)
    rw [HYB.out, Int.toNat_of_nonneg hff.1] at h
    exact h
  have HW1 := Lib.hid (fun W => with_ok HL'.out HS'.out x i v W hx hi hv2)
  have hv3 : (v : Int) ≤ 2 ^ m - 1 := by omega
  have hv4 : (0 : Int) ≤ (v : Int) := by omega
  have hd : decide ((2 : Int) ^ m - 1 < (v : Int)) = false := decide_eq_false (by omega)
  have hpw := pow_wrap m hm2
  have hpz : (0 : Int) ≤ (m : Int) := by omega
  clear hR hiw s0 s1 s2 s3 em z0 z1 hm hz hv1 hv2 hff hv0
  generalize wth s x i v = y at *
  refine (HW1.out _).mono ?_
  rintro e w2 ⟨rfl, hb2⟩
  have hB2 := Below.step HB2.out hb2
  have hz3 := (hb2.cell (p := ⟨g, off + i, none⟩) (Nat.lt_of_lt_of_le hg HB2.out.size)).trans hz2
  have HG3 := Lib.hid ((hb2.block w1.heap.size (by simp)).trans HG2.out)
  clear hb2 hz2 HW1 HG2 HB2
  go_wp2_with fail
  clear hd hpw hv3 hpb
  go_loop [80] (fun c => ∃ k : Nat, k ≤ n ∧ c = .int .i64 k) (fun c => n - (intOf c).toNat)
  case atStart => exact ⟨0, Nat.zero_le _, rfl⟩
  case round =>
    obtain ⟨k, hk, rfl⟩ := hrel
    by_cases hlt : k < n
    · have HE := Lib.hid (HY.out k hlt)
      go_wp2_with fail
      refine (rget_is HS'.out HCW.out _ cap x k hx hlt _ (row_below HRR.out hB2)).mono ?_
      rintro e w3 ⟨rfl, rfl⟩
      by_cases hki : k = i
      · subst hki
        have hE2 := HE.out
        rw [if_pos rfl] at hE2
        have HE2 := Lib.hid hE2
        have hvv : ((v : Int) != (v : Int)) = false := by simp
        clear hE2
        go_wp2_with fail
        refine (rget_is HS'.out HCW.out _ cap y k hyl hlt _ (row_below HRR.out hB2)).mono ?_
        rintro e w4 ⟨rfl, rfl⟩
        rw [HE2.out]
        go_wp2_with fail
        go_round
        case rel => exact ⟨k + 1, by omega, by go_num⟩
        case measure => simp [intOf]; omega
      · have hE2 := HE.out
        rw [if_neg hki] at hE2
        have HE2 := Lib.hid hE2
        have hkk : ((k : Int) == (i : Int)) = false := by rw [beq_eq_false_iff_ne]; omega
        have hvv : (fld s x k != fld s x k) = false := by simp
        clear hE2 hki
        go_wp2_with fail
        refine (rget_is HS'.out HCW.out _ cap y k hyl hlt _ (row_below HRR.out hB2)).mono ?_
        rintro e w4 ⟨rfl, rfl⟩
        rw [HE2.out]
        go_wp2_with fail
        go_round
        case rel => exact ⟨k + 1, by omega, by go_num⟩
        case measure => simp [intOf]; omega
    · obtain rfl : k = n := by omega
      have hK : Cb w w1.heap.size cs w2.drew := ⟨HG3.out, Below.drew hB2⟩
      go_wp2_with fail
      refine region_cb (by kernel_rfl) (by kernel_rfl) hK ?_
      clear hK
      go_big_quiet_want
      refine ⟨.agg cs, fun wq hq => quiet_row 28 _ rfl w1.heap.size rfl 28 cs (0, 0) _ hq.1 Try.underlying28 rfl HSZ.out, ?_⟩
      simp only [Act.put, List.setIfInBounds_toArray, List.set_cons_zero, List.set_cons_succ]
      go_big_quiet_on
      iterate 5 (first | go_big_quiet_skip | (go_big_quiet_want; go_big_quiet_op; first | go_big_quiet_on | (refine ⟨_, fun _ _ => rfl, ?_⟩; go_big_quiet_on)))
      go_big_quiet_want
      go_big_quiet_op
      refine ⟨_, fun wq hq => (rget_is HS'.out HCW.out _ cap x i hx hi _ (row_below HRR.out hq.2)).mono (fun _ _ ⟨he, hw⟩ => ⟨he, hw ▸ hq⟩), ?_⟩
      go_big_quiet_on
      go_big_quiet_want
      go_big_quiet_op
      refine ⟨_, fun wq hq => call_cb HWB.out hq, ?_⟩
      go_big_quiet_on
      iterate 5 (first | go_big_quiet_skip | (go_big_quiet_want; go_big_quiet_op; first | go_big_quiet_on | (refine ⟨_, fun _ _ => rfl, ?_⟩; go_big_quiet_on)))
      refine wpQuiet_nil ?_
      intro wv hv
      have hBv : Below w.heap.size w wv := hv.2
      clear hv
      have hxx : ((x : Int) == (x : Int)) = true := by simp
      go_wp2_with fail
      refine (awake02 _).mono ?_
      rintro e w9 ⟨rfl, hb9⟩
      have hB9 := Below.step hBv hb9
      go_wp2
      go_ret
      exact ⟨rfl, hB9⟩
theorem walk (a0 : Option Addr) (len0 cap0 : Nat) (z0 : List Int) (a1 : Int) (a2 : Int) (a3 : Int) (w : World) (w0 : IsRow .i64 w a0 len0 cap0 z0) (w1 : (Lit.int .u64 a1).wf = true) (w2 : (Lit.int .i64 a2).wf = true) (w3 : (Lit.int .i64 a3).wf = true) :
    Calls Try.prog 3 #[.slice a0 len0 cap0, .int .u64 a1, .int .i64 a2, .int .i64 a3] w fun e w' => e = .returned (.bool true) ∧ Below w.heap.size w w' := by
  have b1 := bounds_u64 w1
  have b2 := bounds_i64 w2
  have b3 := bounds_i64 w3
  by_cases h0 : 70 < len0
  · exact long _ _ _ _ _ _ w h0
  have hR := row_of w0
  generalize (fun k => z0.getD k 0) = ws at hR
  by_cases hf : ∀ k, k < len0 → (1 ≤ ws k ∧ ws k ≤ 32 ∧ pre_ ws k + ws k ≤ 64)
  · obtain ⟨hP, _, _⟩ := pre_steps ws len0 hf
    by_cases hi : a2 < 0 ∨ (len0 : Int) ≤ a2
    · exact none_ _ _ _ ws _ _ _ w (by omega) hP hR hi
    · obtain ⟨i, rfl⟩ : ∃ i : Nat, a2 = i := ⟨a2.toNat, by omega⟩
      have hi' : i < len0 := by omega
      by_cases hv : a3 < 0 ∨ 2 ^ (ws i).toNat ≤ a3
      · exact unfit _ _ _ ws _ i a3 w (by omega) hP hR hi' hv b3.2
      · obtain ⟨v, rfl⟩ : ∃ v : Nat, a3 = v := ⟨a3.toNat, by omega⟩
        obtain ⟨x, rfl⟩ : ∃ x : Nat, a1 = x := ⟨a1.toNat, by omega⟩
        exact fit _ _ _ ws x i v w (by omega) hP hR hi' (by omega) (by omega)
  · obtain ⟨j, hj, h1, h2⟩ := least (fun k => 1 ≤ ws k ∧ ws k ≤ 32 ∧ pre_ ws k + ws k ≤ 64) len0 hf
    obtain ⟨g1, g2, g3⟩ := pre_steps ws j h1
    have hs0 : 0 ≤ pre_ ws j := by omega
    exact bad _ _ _ ws _ _ _ _ _ w (by omega) (fun W hRW => new_bad a0 len0 cap0 ws (pre_ ws) W hRW j hj g1 (fun k _ => rfl) ⟨hs0, g3⟩ g1.2.1 (by omega)) hR
end Go.Proofs.Ytgeognijglahfaa.fieldTurns
