/-
  The law's walk.
-/
import Derived.Test.YtafnipgeeampjaaDoorRows
import Derived.Test.YtafnipgeeampjaaDoorKit
import Derived.Test.YtafnipgeeampjaaDoorApp
import Derived.Test.YtafnipgeeampjaaDoorQuiet
import Derived.WalkKit
import Derived.ProofKit
import Derived.OpenShut
import Derived.ShutString
import Derived.Below
import Derived.Outline
import Derived.WalkLawsBesides
import Derived.WalkSpells
import Derived.Handy
import Derived.Deep.QuietTactic
import Derived.BigQuiet
import Derived.RegionTactic
import Derived.ChangeAlike
import Derived.Lib.Hide
import Derived.Laws.Rows
import Derived.Laws.Tables
import Derived.Laws.CopyOwn
import Derived.Laws.MakeOwn
import Derived.Laws.Entries
import Derived.Laws.OwnMore
import Derived.Deep.WholeRow
import Derived.Deep.LoopGhost
import Derived.Deep.AppendLies
import Derived.Deep.Draws
import Derived.Maps.AppendAt
import Derived.OwnWalk
import Derived.Deep.RegionHeld3
import Derived.Deep.Cut
import Derived.Deep.CutRange
import Derived.Deep.DeepCutAuto
import Derived.Deep.CutBlock
import Derived.Lib.SliceRun
import Derived.IntWalk
import Derived.Laws.Strings
import Derived.Lib.Bytealg
import Derived.Lib.Strings
import Derived.Laws.Externs
import Derived.Test.YtafnipgeeampjaaDoorSrL
namespace Go.Proofs.YtafnipgeeampjaaDoor
open Go.ChangeShapes Go.WideShapes Go.ChangeAt Go.RowKit
def andL : List UInt8 := [35, 32, 97, 110, 100]
theorem and_nil : lineM andL = .ok [] ∧ lineM [] = .ok [] := ⟨by kernel_rfl, by kernel_rfl⟩
theorem infoSt : (Tryd.prog.info? 9).map (fun i => (i.zero, i.size, i.bytes)) = some (some (.string ⟨#[]⟩), 1, 16) := by kernel_rfl
theorem stc_app (a b : List (List UInt8)) : stc (a ++ b) = stc a ++ stc b := by simp [stc]
theorem stc_one (l : List (List UInt8)) : ∀ v ∈ stc l, v.oneCell' = true := by
  intro v h
  obtain ⟨x, _, rfl⟩ := List.mem_map.1 h
  rfl
def sepc : List Value := [.string ⟨#[]⟩, .string ⟨#[35, 32, 97, 110, 100]⟩]
theorem sepc_one : ∀ u ∈ sepc, u.oneCell' = true := by
  intro u hu
  unfold sepc at hu
  simp only [List.mem_cons, List.not_mem_nil, or_false] at hu
  rcases hu with rfl | rfl <;> rfl
theorem sepc_stc : sepc = stc [[], andL] := rfl
theorem own_new (w : World) (t : TypeId) : (w.alloc (.cells #[] t)).ownsRow w.heap.size t 1 (.slice (some ⟨w.heap.size, 0, none⟩) 0 0) 0 [] :=
  ⟨rfl, .inr ⟨w.heap.size, 0, #[], rfl, Nat.le_refl _, heap_alloc_new w _, Nat.le_refl _, by decide, rfl, rfl⟩⟩
set_option maxRecDepth 100000 in
set_option maxHeartbeats 4000000 in
theorem walk (La Lb : List (List UInt8)) (Aa Ab : Option Addr) (ca cb : Nat) (hLa : La.length ≤ 140737488355328) (hLb : Lb.length ≤ 140737488355328) (hsa : ∀ s ∈ La, s.length ≤ 140737488355328) (hsb : ∀ s ∈ Lb, s.length ≤ 140737488355328) (w : World) (ha : Reads w w.heap.size 1 Aa La.length (stc La)) (hb : Reads w w.heap.size 1 Ab Lb.length (stc Lb)) (hml : Ml w) (htb : Tb w) : Calls Tryd.prog 3 #[.slice Aa La.length ca, .slice Ab Lb.length cb] w fun e w' => e = .returned (.bool true) ∧ Below w.heap.size w w' := by
  have HRA := Lib.hid ha
  have HRB := Lib.hid hb
  have HML := Lib.hid hml
  have HTB := Lib.hid htb
  have HLA := Lib.hid (light_is La hLa hsa Aa ca w ha)
  have HLB := Lib.hid (light_is Lb hLb hsb Ab cb w hb)
  have HB0 := Lib.hid (Below.refl w.heap.size w)
  clear ha hb hml htb hLa hLb hsa hsb
  go_enter Tryd.func3, Tryd.ntmps3
  go_wp2_with fail
  refine HLA.out.mono ?_
  rintro e1 w1 ⟨ba, rfl, hba, rfl⟩
  have HA := Lib.hid hba
  clear hba
  cases ba with
  | false =>
    go_wp2_with fail
    refine (awake_is _ (HML.out.below HB0.out) (HTB.out.below HB0.out)).mono ?_
    rintro e9 w9 ⟨rfl, hb9⟩
    have HB9 := Lib.hid (Below.step HB0.out hb9)
    clear hb9
    go_wp2_with fail
    go_ret
    exact ⟨rfl, HB9.out⟩
  | true =>
    go_wp2_with fail
    refine HLB.out.mono ?_
    rintro e2 w2 ⟨bb, rfl, hbb, rfl⟩
    have HBB := Lib.hid hbb
    clear hbb
    cases bb with
    | false =>
      go_wp2_with fail
      refine (awake_is _ (HML.out.below HB0.out) (HTB.out.below HB0.out)).mono ?_
      rintro e9 w9 ⟨rfl, hb9⟩
      have HB9 := Lib.hid (Below.step HB0.out hb9)
      clear hb9
      go_wp2_with fail
      go_ret
      exact ⟨rfl, HB9.out⟩
    | true =>
      have HAL := Lib.hid (HA.out (by first | rfl | trivial))
      have HBL := Lib.hid (HBB.out (by first | rfl | trivial))
      clear HA HBB HLA HLB
      go_wp2_with fail
      refine (parse_is La (by have := HAL.out.1; omega) HAL.out.2 _ Aa ca _ (Nat.le_refl _) HRA.out HML.out HTB.out).mono ?_
      rintro e3 w3 hp3
      rcases hA : parM 0 La [] with X | ⟨i1, c1, p1⟩
      · obtain ⟨vx, rfl, hox, hb3⟩ := hp3.ok hA
        have HX := Lib.hid (And.intro hA hox)
        have HB3 := Lib.hid hb3
        clear hp3 hA hox hb3
        go_wp2_with fail
        refine (parse_is Lb (by have := HBL.out.1; omega) HBL.out.2 _ Ab cb _ (Nat.le_refl _) ((HRB.out.below HB3.out).more HB3.out.size) (HML.out.below HB3.out) (HTB.out.below HB3.out)).mono ?_
        rintro e4 w4 hp4
        rcases hB : parM 0 Lb [] with Y | ⟨i2, c2, p2⟩
        · obtain ⟨vy, rfl, hoy, hb4⟩ := hp4.ok hB
          have HY := Lib.hid (And.intro hB hoy)
          have HB4 := Lib.hid (Below.step HB3.out hb4)
          have HOX := Lib.hid (rkept HX.out.2 hb4)
          clear hp4 hB hoy hb4
          obtain ⟨Ax, cx, hvx⟩ := oshape HOX.out
          subst hvx
          obtain ⟨Ay, cy, hvy⟩ := oshape HY.out.2
          subst hvy
          have lx : X.length ≤ La.length * 10000 := by have := parM_len _ _ _ _ HX.out.1; simpa using this
          have ly : Y.length ≤ Lb.length * 10000 := by have := parM_len _ _ _ _ HY.out.1; simpa using this
          have lx2 : (X.length : Int) ≤ 1000000 := by have := HAL.out.1; omega
          have ly2 : (Y.length : Int) ≤ 1000000 := by have := HBL.out.1; omega
          have lx0 : (0 : Int) ≤ (X.length : Int) := by omega
          have ly0 : (0 : Int) ≤ (Y.length : Int) := by omega
          have HLX := Lib.hid (And.intro lx ly)
          clear lx ly
          by_cases hbig : 50000 < (X.length : Int) + (Y.length : Int)
          · go_wp2_with fail
            refine (awake_is _ (HML.out.below HB4.out) (HTB.out.below HB4.out)).mono ?_
            rintro e9 w9 ⟨rfl, hb9⟩
            have HB9 := Lib.hid (Below.step HB4.out hb9)
            clear hb9
            go_wp2_with fail
            go_ret
            exact ⟨rfl, HB9.out⟩
          · have HSM := Lib.hid hbig
            have hsm : (X.length : Int) + (Y.length : Int) ≤ 50000 := by omega
            clear hbig
            obtain ⟨i0, hi, hz0, hz1, hz2⟩ := info_parts infoSt
            have HII := Lib.hid hi
            have HZ0 := Lib.hid hz0
            have HZ1 := Lib.hid hz1
            have HZ2 := Lib.hid hz2
            clear hi hz0 hz1 hz2
            have HG5 := Lib.hid (show Below w4.heap.size w4 (w4.alloc (.cells #[] 9)) by go_grown)
            have HO5 := Lib.hid (own_new w4 9)
            have HR5 := Lib.hid ((HRA.out.below HB4.out).below (HG5.out.mono HB4.out.size))
            go_wp2_with (first | (at_builtin; refine wpList_append_any _ rfl (.tmp 47) (.tmp 48) 22 rfl w4.heap.size 9 i0 (.string ⟨#[]⟩) 1 16 Tryd.underlying22 HII.out HZ0.out HZ1.out HZ2.out rfl (by decide) _ 0 ([]) rfl HO5.out _ (Aa) La.length ca (stc La) rfl HR5.out (stc_one La) (by have := HAL.out.1; unfold maxLen; omega) (by have := HAL.out.1; omega) (by simp) ?_; intro v6 w6 hown6 hgrow6 hb6; have HO6 := Lib.hid hown6; have HB6 := Lib.hid (Below.grown HG5.out hgrow6 (by simp) (fun b e => (HO5.out.lt b e).1)); clear hown6 hgrow6 hb6; have HG7 := Lib.hid (show Below w6.heap.size w6 (w6.alloc (.cells #[.string ⟨#[]⟩, .string ⟨#[35, 32, 97, 110, 100]⟩] 9)) by go_grown); have HO7 := Lib.hid (rkept HO6.out HG7.out); have HB7 := Lib.hid (HB6.out.trans (HG7.out.mono HB6.out.size)); have HR7 := Lib.hid (reads_newN w6 2 1 sepc 9 rfl)) | (at_builtin; refine wpList_append_any _ rfl (.tmp 49) (.tmp 50) 22 rfl w4.heap.size 9 i0 (.string ⟨#[]⟩) 1 16 Tryd.underlying22 HII.out HZ0.out HZ1.out HZ2.out rfl (by decide) _ (0 + La.length) ([] ++ stc La) rfl HO7.out _ (some ⟨w6.heap.size, 0, none⟩) 2 2 (sepc) rfl HR7.out sepc_one (by have := HAL.out.1; unfold maxLen; omega) (by have := HAL.out.1; omega) (by have := HB6.out.size; simp; omega) ?_; intro v8 w8 hown8 hgrow8 hb8; have HO8 := Lib.hid hown8; have HB8 := Lib.hid (Below.grown HB7.out hgrow8 (by have := HB6.out.size; simp; omega) (fun b e => (HO7.out.lt b e).1)); clear hown8 hgrow8 hb8; have HR8 := Lib.hid ((HRB.out.below HB4.out).below (HB8.out.mono HB4.out.size))) | (at_builtin; refine wpList_append_any _ rfl (.tmp 51) (.tmp 52) 22 rfl w4.heap.size 9 i0 (.string ⟨#[]⟩) 1 16 Tryd.underlying22 HII.out HZ0.out HZ1.out HZ2.out rfl (by decide) _ (0 + La.length + 2) ([] ++ stc La ++ sepc) rfl HO8.out _ (Ab) Lb.length cb (stc Lb) rfl HR8.out (stc_one Lb) (by have := HAL.out.1; have := HBL.out.1; unfold maxLen; omega) (by have := HAL.out.1; have := HBL.out.1; omega) (by have := HB8.out.size; omega) ?_; intro v9 w9 hown9 hgrow9 hb9; have HO9 := Lib.hid hown9; have HB9 := Lib.hid (Below.grown HB8.out hgrow9 (by have := HB8.out.size; omega) (fun b e => (HO8.out.lt b e).1)); clear hown9 hgrow9 hb9))
            obtain ⟨L, hL⟩ : ∃ L, L = La ++ [[], andL] ++ Lb := ⟨_, rfl⟩
            have ho9 : w9.ownsRow w4.heap.size 9 1 v9 L.length (stc L) := by
              rw [hL, stc_app, stc_app, List.length_append, List.length_append, ← sepc_stc]
              have := HO9.out
              rwa [List.nil_append, Nat.zero_add] at this
            have hLl : L.length ≤ 300 := by
              rw [hL, List.length_append, List.length_append]
              have h1 := HAL.out.1
              have h2 := HBL.out.1
              simp only [List.length_cons, List.length_nil]
              omega
            have hLs : ∀ s ∈ L, s.length ≤ 5000 := by
              rw [hL]
              intro s hs
              rcases List.mem_append.1 hs with hs | hs
              · rcases List.mem_append.1 hs with hs | hs
                · exact HAL.out.2 s hs
                · simp only [List.mem_cons, List.not_mem_nil, or_false] at hs
                  rcases hs with rfl | rfl <;> decide
              · exact HBL.out.2 s hs
            have hpz : parM 0 L [] = .ok (X ++ Y) := by
              rw [hL]
              exact parM_joins La Lb [] andL X Y and_nil.2 and_nil.1 HX.out.1 HY.out.1
            obtain ⟨Z, hZ⟩ : ∃ Z, Z = X ++ Y := ⟨_, rfl⟩
            rw [← hZ] at hpz
            have hzl : Z.length = X.length + Y.length := by rw [hZ, List.length_append]
            have HZE := Lib.hid (And.intro hZ hzl)
            have HPZ := Lib.hid (And.intro hpz (And.intro hLl hLs))
            obtain ⟨A9, c9, hv9⟩ := oshape ho9
            subst hv9
            have HO9b := Lib.hid ho9
            have hq : ((Z.length : Int) == (X.length : Int) + (Y.length : Int)) = true := by rw [beq_iff_eq]; omega
            have hq2 : ((Z.length : Int) != (X.length : Int) + (Y.length : Int)) = false := by unfold bne; rw [hq]; rfl
            have z0 : (0 : Int) ≤ (Z.length : Int) := by omega
            have z1 : (Z.length : Int) ≤ 50000 := by omega
            clear hL ho9 hLl hLs hpz hZ hzl HO9
            refine (parse_is L HPZ.out.2.1 HPZ.out.2.2 _ A9 c9 _ (Nat.le_refl _) (Reads.of_own HO9b.out) ((HML.out.below HB4.out).below HB9.out) ((HTB.out.below HB4.out).below HB9.out)).mono ?_
            rintro e10 w10 hp10
            obtain ⟨vz, rfl, hoz, hb10⟩ := hp10.ok HPZ.out.1
            obtain ⟨Az, cz, hvz⟩ := oshape hoz
            subst hvz
            have HB10 := Lib.hid (HB9.out.trans (hb10.mono HB9.out.size))
            have HOZ := Lib.hid hoz
            have HOX2 := Lib.hid (rkept HOX.out HB10.out)
            have HOY2 := Lib.hid (rkept HY.out.2 HB10.out)
            have HBT := Lib.hid (HB4.out.trans (HB10.out.mono HB4.out.size))
            clear hp10 hoz hb10
            go_wp2_with fail
            go_loopw [73, 12] (fun vk _ wr => ∃ (k : Nat), k ≤ Z.length ∧ vk = .int .i64 (k : Int) ∧ Hid (Below w10.heap.size w10 wr)) (fun vk _ _ => Z.length + 1 - (intOf vk).toNat)
            case atStart => exact ⟨0, Nat.zero_le _, rfl, Lib.hid (Below.refl _ _)⟩
            case round =>
              obtain ⟨k, hk, rfl, hBW⟩ := hrel
              have k0 : (0 : Int) ≤ (k : Int) := by omega
              by_cases hkn : k < Z.length
              · have q1 : (k : Int) < (Z.length : Int) := by omega
                obtain ⟨gz, c1, hv1, _, hgz, hcz, hxz⟩ := ev_at (rkept HOZ.out hBW.out) (by omega)
                obtain ⟨rfl, rfl⟩ : Az = some ⟨gz, 0, none⟩ ∧ c1 = cz := by
                  injection hv1 with h1 h2 h3
                  exact ⟨h1, h3.symm⟩
                clear hv1
                by_cases hkx : k < X.length
                · have q2 : (k : Int) < (X.length : Int) := by omega
                  have q3 : ¬ (X.length : Int) ≤ (k : Int) := by omega
                  obtain ⟨gx, c2, hv2, _, hgx, hcx, hxx⟩ := ev_at (rkept HOX2.out hBW.out) (by omega)
                  obtain ⟨rfl, rfl⟩ : Ax = some ⟨gx, 0, none⟩ ∧ c2 = cx := by
                    injection hv2 with h1 h2 h3
                    exact ⟨h1, h3.symm⟩
                  clear hv2
                  obtain ⟨ek, hek⟩ : ∃ ek, X[k]? = some ek := ⟨_, List.getElem?_eq_getElem hkx⟩
                  have hez : Z[k]? = some ek := by rw [HZE.out.1, List.getElem?_append_left hkx, hek]
                  obtain ⟨x0, x1, x2, x3⟩ := hxx k ek hek
                  obtain ⟨y0, y1, y2, y3⟩ := hxz k ek hez
                  have hne := fun W => neq_ev ek.k ek.who ek.n ek.line W
                  have HK := Lib.hid (And.intro hkn hkx)
                  clear hk hkn hkx hxx hxz hek hez
                  have Hx := Lib.hid (And.intro x0 (And.intro x1 (And.intro x2 x3)))
                  have Hz := Lib.hid (And.intro y0 (And.intro y1 (And.intro y2 y3)))
                  have Hgx := Lib.hid hgx
                  have Hgz := Lib.hid hgz
                  have HNE := Lib.hid hne
                  clear x0 x1 x2 x3 y0 y1 y2 y3 hgx hgz hne
                  go_wp2_with fail
                  refine region_sc (by kernel_rfl) (by kernel_rfl) ?_
                  iterate 8 (first | go_big_quiet_skip | (go_big_quiet_want; go_big_quiet_op; first | go_big_quiet_on | (refine ⟨_, fun _ _ => rfl, ?_⟩; go_big_quiet_on)))
                  go_big_quiet_want
                  refine ⟨.agg #[.int .i64 ek.k, .int .i64 ek.who, .int .i64 ek.n, .string (Bs ek.line)], fun wq hq => ?_, ?_⟩
                  · have c0 := (hq.cell (p := ⟨gz, _, none⟩) Hgz.out).trans Hz.out.1
                    have c1 := (hq.cell (p := ⟨gz, _, none⟩) Hgz.out).trans Hz.out.2.1
                    have c2 := (hq.cell (p := ⟨gz, _, none⟩) Hgz.out).trans Hz.out.2.2.1
                    have c3 := (hq.cell (p := ⟨gz, _, none⟩) Hgz.out).trans Hz.out.2.2.2
                    unfold Oper.quietAt
                    simp [go_sem, c0, c1, c2, c3, Oper.quietUpon]
                  simp only [Act.put, List.setIfInBounds_toArray, List.set_cons_zero, List.set_cons_succ]
                  go_big_quiet_on
                  iterate 3 (first | go_big_quiet_skip | (go_big_quiet_want; go_big_quiet_op; first | go_big_quiet_on | (refine ⟨_, fun _ _ => rfl, ?_⟩; go_big_quiet_on)))
                  go_big_quiet_want
                  refine ⟨.agg #[.int .i64 ek.k, .int .i64 ek.who, .int .i64 ek.n, .string (Bs ek.line)], fun wq hq => ?_, ?_⟩
                  · have c0 := (hq.cell (p := ⟨gx, _, none⟩) Hgx.out).trans Hx.out.1
                    have c1 := (hq.cell (p := ⟨gx, _, none⟩) Hgx.out).trans Hx.out.2.1
                    have c2 := (hq.cell (p := ⟨gx, _, none⟩) Hgx.out).trans Hx.out.2.2.1
                    have c3 := (hq.cell (p := ⟨gx, _, none⟩) Hgx.out).trans Hx.out.2.2.2
                    unfold Oper.quietAt
                    simp [go_sem, c0, c1, c2, c3, Oper.quietUpon]
                  simp only [Act.put, List.setIfInBounds_toArray, List.set_cons_zero, List.set_cons_succ]
                  go_big_quiet_on
                  go_big_quiet_want
                  refine ⟨.bool false, fun wq hq => ?_, ?_⟩
                  · unfold Oper.quietAt
                    simp [go_sem, HNE.out, Oper.quietUpon]
                  simp only [Act.put, List.setIfInBounds_toArray, List.set_cons_zero, List.set_cons_succ]
                  go_big_quiet_on
                  iterate 5 (first | go_big_quiet_skip | (go_big_quiet_want; go_big_quiet_op; first | go_big_quiet_on | (refine ⟨_, fun _ _ => rfl, ?_⟩; go_big_quiet_on)))
                  go_big_quiet_want
                  refine ⟨.bool false, fun wq hq => ?_, ?_⟩
                  · unfold Oper.quietAt
                    simp [go_sem, q3, Oper.quietUpon]
                    exact HK.out.2
                  simp only [Act.put, List.setIfInBounds_toArray, List.set_cons_zero, List.set_cons_succ]
                  go_big_quiet_on
                  iterate 15 (first | go_big_quiet_skip | (go_big_quiet_want; go_big_quiet_op; first | go_big_quiet_on | (refine ⟨_, fun _ _ => rfl, ?_⟩; go_big_quiet_on)))
                  refine wpQuiet_nil ?_
                  intro w4 hS4
                  go_wp2_with fail
                  go_roundw
                  case rel => exact ⟨k + 1, HK.out.1, by go_num, Lib.hid (hBW.out.trans (hS4.mono hBW.out.size))⟩
                  case measure => have := HK.out.1; simp [intOf]; omega
                · have q2 : ¬ (k : Int) < (X.length : Int) := by omega
                  obtain ⟨j, hj⟩ : ∃ j, k = X.length + j := ⟨k - X.length, by omega⟩
                  have hjy : j < Y.length := by have := HZE.out.2; omega
                  have q5 : (k : Int) - (X.length : Int) = (j : Int) := by omega
                  have q6 : (j : Int) < (Y.length : Int) := by omega
                  have q7 : (0 : Int) ≤ (j : Int) := by omega
                  obtain ⟨gy, c2, hv2, _, hgy, hcy, hxy⟩ := ev_at (rkept HOY2.out hBW.out) (by omega)
                  obtain ⟨rfl, rfl⟩ : Ay = some ⟨gy, 0, none⟩ ∧ c2 = cy := by
                    injection hv2 with h1 h2 h3
                    exact ⟨h1, h3.symm⟩
                  clear hv2
                  obtain ⟨ek, hek⟩ : ∃ ek, Y[j]? = some ek := ⟨_, List.getElem?_eq_getElem hjy⟩
                  have hez : Z[k]? = some ek := by rw [HZE.out.1, List.getElem?_append_right (by omega), hj, Nat.add_sub_cancel_left, hek]
                  obtain ⟨x0, x1, x2, x3⟩ := hxy j ek hek
                  obtain ⟨y0, y1, y2, y3⟩ := hxz k ek hez
                  have hne := fun W => neq_ev ek.k ek.who ek.n ek.line W
                  have HK := Lib.hid (And.intro hkn (show X.length ≤ k by omega))
                  have Hy := Lib.hid (And.intro x0 (And.intro x1 (And.intro x2 x3)))
                  have Hz := Lib.hid (And.intro y0 (And.intro y1 (And.intro y2 y3)))
                  have Hgy := Lib.hid hgy
                  have Hgz := Lib.hid hgz
                  have HNE := Lib.hid hne
                  clear x0 x1 x2 x3 y0 y1 y2 y3 hgy hgz hne hk hkn hkx hxy hxz hek hez hj hjy
                  go_wp2_with fail
                  refine region_sc (by kernel_rfl) (by kernel_rfl) ?_
                  iterate 3 (first | go_big_quiet_skip | (go_big_quiet_want; go_big_quiet_op; first | go_big_quiet_on | (refine ⟨_, fun _ _ => rfl, ?_⟩; go_big_quiet_on)))
                  go_big_quiet_want
                  refine ⟨.bool false, fun wq hq => ?_, ?_⟩
                  · unfold Oper.quietAt
                    simp [go_sem, q2, Oper.quietUpon]
                    try exact HK.out.2
                  simp only [Act.put, List.setIfInBounds_toArray, List.set_cons_zero, List.set_cons_succ]
                  go_big_quiet_on
                  iterate 15 (first | go_big_quiet_skip | (go_big_quiet_want; go_big_quiet_op; first | go_big_quiet_on | (refine ⟨_, fun _ _ => rfl, ?_⟩; go_big_quiet_on)))
                  go_big_quiet_want
                  refine ⟨.bool true, fun wq hq => ?_, ?_⟩
                  · unfold Oper.quietAt
                    simp [go_sem, Oper.quietUpon]
                    exact HK.out.2
                  simp only [Act.put, List.setIfInBounds_toArray, List.set_cons_zero, List.set_cons_succ]
                  go_big_quiet_on
                  iterate 4 (first | go_big_quiet_skip | (go_big_quiet_want; go_big_quiet_op; first | go_big_quiet_on | (refine ⟨_, fun _ _ => rfl, ?_⟩; go_big_quiet_on)))
                  go_big_quiet_want
                  refine ⟨.agg #[.int .i64 ek.k, .int .i64 ek.who, .int .i64 ek.n, .string (Bs ek.line)], fun wq hq => ?_, ?_⟩
                  · have c0 := (hq.cell (p := ⟨gz, _, none⟩) Hgz.out).trans Hz.out.1
                    have c1 := (hq.cell (p := ⟨gz, _, none⟩) Hgz.out).trans Hz.out.2.1
                    have c2 := (hq.cell (p := ⟨gz, _, none⟩) Hgz.out).trans Hz.out.2.2.1
                    have c3 := (hq.cell (p := ⟨gz, _, none⟩) Hgz.out).trans Hz.out.2.2.2
                    unfold Oper.quietAt
                    simp [go_sem, c0, c1, c2, c3, Oper.quietUpon]
                  simp only [Act.put, List.setIfInBounds_toArray, List.set_cons_zero, List.set_cons_succ]
                  go_big_quiet_on
                  iterate 4 (first | go_big_quiet_skip | (go_big_quiet_want; go_big_quiet_op; first | go_big_quiet_on | (refine ⟨_, fun _ _ => rfl, ?_⟩; go_big_quiet_on)))
                  go_big_quiet_want
                  refine ⟨.int .i64 (j : Int), fun wq hq => ?_, ?_⟩
                  · unfold Oper.quietAt
                    simp [go_sem, q5, Oper.quietUpon]
                    exact IntWalk.i64_in _ (by omega)
                  simp only [Act.put, List.setIfInBounds_toArray, List.set_cons_zero, List.set_cons_succ]
                  go_big_quiet_on
                  iterate 1 (first | go_big_quiet_skip | (go_big_quiet_want; go_big_quiet_op; first | go_big_quiet_on | (refine ⟨_, fun _ _ => rfl, ?_⟩; go_big_quiet_on)))
                  go_big_quiet_want
                  refine ⟨.agg #[.int .i64 ek.k, .int .i64 ek.who, .int .i64 ek.n, .string (Bs ek.line)], fun wq hq => ?_, ?_⟩
                  · have c0 := (hq.cell (p := ⟨gy, _, none⟩) Hgy.out).trans Hy.out.1
                    have c1 := (hq.cell (p := ⟨gy, _, none⟩) Hgy.out).trans Hy.out.2.1
                    have c2 := (hq.cell (p := ⟨gy, _, none⟩) Hgy.out).trans Hy.out.2.2.1
                    have c3 := (hq.cell (p := ⟨gy, _, none⟩) Hgy.out).trans Hy.out.2.2.2
                    unfold Oper.quietAt
                    simp [go_sem, c0, c1, c2, c3, Oper.quietUpon]
                  simp only [Act.put, List.setIfInBounds_toArray, List.set_cons_zero, List.set_cons_succ]
                  go_big_quiet_on
                  go_big_quiet_want
                  refine ⟨.bool false, fun wq hq => ?_, ?_⟩
                  · unfold Oper.quietAt
                    simp [go_sem, HNE.out, Oper.quietUpon]
                  simp only [Act.put, List.setIfInBounds_toArray, List.set_cons_zero, List.set_cons_succ]
                  go_big_quiet_on
                  iterate 2 (first | go_big_quiet_skip | (go_big_quiet_want; go_big_quiet_op; first | go_big_quiet_on | (refine ⟨_, fun _ _ => rfl, ?_⟩; go_big_quiet_on)))
                  refine wpQuiet_nil ?_
                  intro w4 hS4
                  go_wp2_with fail
                  go_roundw
                  case rel => exact ⟨k + 1, HK.out.1, by go_num, Lib.hid (hBW.out.trans (hS4.mono hBW.out.size))⟩
                  case measure => have := HK.out.1; simp [intOf]; omega
              · have hke : k = Z.length := by omega
                subst hke
                clear hk hkn
                have HBF := Lib.hid (HBT.out.trans (hBW.out.mono HBT.out.size))
                go_wp2_with fail
                refine (awake_is _ (HML.out.below HBF.out) (HTB.out.below HBF.out)).mono ?_
                rintro e9 w9 ⟨rfl, hb9⟩
                have HB9 := Lib.hid (Below.step HBF.out hb9)
                clear hb9
                go_wp2_with fail
                go_ret
                exact ⟨rfl, HB9.out⟩

        · obtain ⟨u2, rfl, hu2, hb4⟩ := hp4.er hB
          obtain ⟨t2, z2, rfl⟩ := hu2.ne
          have HB4 := Lib.hid (Below.step HB3.out hb4)
          clear hp4 hB hu2 hb4
          obtain ⟨Ax, cx, hvx⟩ := oshape HX.out.2
          subst hvx
          go_wp2_with fail
          refine (awake_is _ (HML.out.below HB4.out) (HTB.out.below HB4.out)).mono ?_
          rintro e9 w9 ⟨rfl, hb9⟩
          have HB9 := Lib.hid (Below.step HB4.out hb9)
          clear hb9
          go_wp2_with fail
          go_ret
          exact ⟨rfl, HB9.out⟩
      · obtain ⟨u1, rfl, hu1, hb3⟩ := hp3.er hA
        obtain ⟨t1, z1, rfl⟩ := hu1.ne
        have HB3 := Lib.hid hb3
        clear hp3 hA hu1 hb3
        go_wp2_with fail
        refine (parse_is Lb (by have := HBL.out.1; omega) HBL.out.2 _ Ab cb _ (Nat.le_refl _) ((HRB.out.below HB3.out).more HB3.out.size) (HML.out.below HB3.out) (HTB.out.below HB3.out)).mono ?_
        rintro e4 w4 hp4
        rcases hB : parM 0 Lb [] with Y | ⟨i2, c2, p2⟩
        · obtain ⟨vy, rfl, hoy, hb4⟩ := hp4.ok hB
          have HB4 := Lib.hid (Below.step HB3.out hb4)
          clear hp4 hB hoy hb4
          go_wp2_with fail
          refine (awake_is _ (HML.out.below HB4.out) (HTB.out.below HB4.out)).mono ?_
          rintro e9 w9 ⟨rfl, hb9⟩
          have HB9 := Lib.hid (Below.step HB4.out hb9)
          clear hb9
          go_wp2_with fail
          go_ret
          exact ⟨rfl, HB9.out⟩
        · obtain ⟨u2, rfl, hu2, hb4⟩ := hp4.er hB
          obtain ⟨t2, z2, rfl⟩ := hu2.ne
          have HB4 := Lib.hid (Below.step HB3.out hb4)
          clear hp4 hB hu2 hb4
          go_wp2_with fail
          refine (awake_is _ (HML.out.below HB4.out) (HTB.out.below HB4.out)).mono ?_
          rintro e9 w9 ⟨rfl, hb9⟩
          have HB9 := Lib.hid (Below.step HB4.out hb9)
          clear hb9
          go_wp2_with fail
          go_ret
          exact ⟨rfl, HB9.out⟩

end Go.Proofs.YtafnipgeeampjaaDoor
