/-
  The law's walk.
-/
import Derived.Test.YtafnipgeeampjaaGreatDoorRows
import Derived.Test.YtafnipgeeampjaaGreatDoorKit
import Derived.Test.YtafnipgeeampjaaGreatDoorApp
import Derived.Test.YtafnipgeeampjaaGreatDoorQuiet
import Derived.WalkKit
import Derived.ProofKit
import Derived.OpenShut
import Derived.ShutString
import Derived.Below
import Derived.Outline
import Derived.WalkLawsBesides
import Derived.WalkSpells
import Derived.Handy
import Derived.Deep.QuietTactic
import Derived.BigQuiet
import Derived.RegionTactic
import Derived.ChangeAlike
import Derived.Lib.Hide
import Derived.Laws.Rows
import Derived.Laws.Tables
import Derived.Laws.CopyOwn
import Derived.Laws.MakeOwn
import Derived.Laws.Entries
import Derived.Laws.OwnMore
import Derived.Deep.WholeRow
import Derived.Deep.LoopGhost
import Derived.Deep.AppendLies
import Derived.Deep.Draws
import Derived.Maps.AppendAt
import Derived.OwnWalk
import Derived.Deep.RegionHeld3
import Derived.Deep.Cut
import Derived.Deep.CutRange
import Derived.Deep.DeepCutAuto
import Derived.Deep.CutBlock
import Derived.Lib.SliceRun
import Derived.IntWalk
import Derived.Laws.Strings
import Derived.Lib.Bytealg
import Derived.Lib.Strings
import Derived.Laws.Externs
import Derived.Test.YtafnipgeeampjaaGreatDoorSrL
import Derived.Test.YtafnipgeeampjaaGreatDoorSrOv
import Derived.Test.YtafnipgeeampjaaGreatDoorSrDc
import Derived.Test.YtafnipgeeampjaaGreatDoorGsN
import Derived.Test.YtafnipgeeampjaaGreatDoorGsG
namespace Go.Proofs.YtafnipgeeampjaaGreatDoor
open Go.ChangeShapes Go.WideShapes Go.ChangeAt Go.RowKit
theorem lineM_er {s : List UInt8} {c p : Nat} (h : lineM s = .er c p) (hl : s.length ≤ 5000) : (c = 13 ∨ c = 10) ∧ p ≤ 100 := by
  unfold lineM at h
  split at h
  · cases h
  · split at h
    · unfold sayM at h
      split at h
      · split at h
        · cases h
        · injection h with h1 h2; omega
      · injection h with h1 h2; omega
    · split at h
      · rename_i hv
        unfold wordM at h
        split at h
        · injection h with h1 h2
          have : (cutb s).1.length = 4 := by rcases hv with hv | hv | hv <;> rw [hv] <;> rfl
          omega
        · split at h
          · cases h
          · injection h with h1 h2; omega
      · injection h with h1 h2; omega
theorem neq_er (k a n : Int) (l : List UInt8) (w : World) : (binOp .neq 39 (.agg #[.int .i64 k, .int .i64 a, .int .i64 n, .string (Bs l)]) (.agg #[.int .i64 k, .int .i64 a, .int .i64 n, .string (Bs l)])).run Tryz.prog w = .ok (.bool false) w := by
  have u3 := Tryz.underlying3
  have a3' := Tryz.isAgg3
  have z3 := Tryz.sizeOf3
  have u9 := Tryz.underlying9
  have a9 := Tryz.isAgg9
  have z9 := Tryz.sizeOf9
  have hS : Tryz.prog.underlying 39 = some (.struct (Tryz.prog.fieldsOf 39)) := by kernel_rfl
  have hp : Tryz.prog.stoodInHeld 39 = false := by kernel_rfl
  have h0 : (Op.equalIn 10000 39 (.agg #[.int .i64 k, .int .i64 a, .int .i64 n, .string (Bs l)]) (.agg #[.int .i64 k, .int .i64 a, .int .i64 n, .string (Bs l)])).run Tryz.prog w = .ok true w := by
    rw [show (10000 : Nat) = 9999 + 1 from rfl, run_equalIn_agg w 9999 39 _ _ hS hp]
    simp only [Program.fieldsOf, Tryz.underlying39]
    go_simp
  simp only [binOp]
  simp [Op.equal, Op.maxDepth, h0]
/-- A row of the document's events: its cells. -/
theorem er_at {w : World} {base n : Nat} {v : Value} {X : List Sev} (h : w.ownsRow base 39 4 v n (evs X)) (h0 : 0 < n) : ∃ g c, v = .slice (some ⟨g, 0, none⟩) n c ∧ base ≤ g ∧ g < w.heap.size ∧ n ≤ c ∧ ∀ (i : Nat) (e : Sev), X[i]? = some e → w.cell? ⟨g, i * 4, none⟩ = some (.int .i64 e.k) ∧ w.cell? ⟨g, i * 4 + 1, none⟩ = some (.int .i64 e.who) ∧ w.cell? ⟨g, i * 4 + 2, none⟩ = some (.int .i64 e.n) ∧ w.cell? ⟨g, i * 4 + 3, none⟩ = some (.string (Bs e.line)) := by
  rcases h.2 with ⟨_, h2⟩ | ⟨g, c, cur, hv, hg, hh, hc, _, _, hr⟩
  · omega
  · refine ⟨g, c, hv, hg, blk_lt hh, hc, fun i e hi => ?_⟩
    have key : ∀ (j : Nat) (u : Value), (evs X)[j]? = some u → w.cell? ⟨g, j, none⟩ = some u := by
      intro j u hj
      rw [cell_of_row _ _ _ _ _ _ hh]
      rw [← hr, List.getElem?_take] at hj
      split at hj
      · simpa using hj
      · cases hj
    obtain ⟨g0, g1, g2, g3⟩ := evs_get _ _ _ hi
    exact ⟨key _ _ g0, key _ _ g1, key _ _ g2, key _ _ g3⟩
set_option maxRecDepth 100000 in
set_option maxHeartbeats 4000000 in
theorem walk (L : List (List UInt8)) (A : Option Addr) (cap : Nat) (hL : L.length ≤ 140737488355328) (hs : ∀ s ∈ L, s.length ≤ 140737488355328) (w : World) (hr : Reads w w.heap.size 1 A L.length (stc L)) (hml : Ml w) (htb : Tb w) (hg : w.cell? ⟨0, 0, none⟩ = some (.iface 97 (.agg #[.pointer (some ⟨9, 27, none⟩)]))) (hgl : 0 < w.heap.size) : Calls Tryz.prog 3 #[.slice A L.length cap] w fun e w' => e = .returned (.bool true) ∧ Below w.heap.size w w' := by
  have HRA := Lib.hid hr
  have HML := Lib.hid hml
  have HTB := Lib.hid htb
  have HG := Lib.hid hg
  have HGL := Lib.hid hgl
  have HLA := Lib.hid (light_is L hL hs A cap w hr)
  have HB0 := Lib.hid (Below.refl w.heap.size w)
  clear hr hml htb hL hs hg hgl
  obtain ⟨i0, hi, hz0, hz1, hz2⟩ := info_parts infoER
  have HII := Lib.hid hi
  have HZ0 := Lib.hid hz0
  have HZ1 := Lib.hid hz1
  have HZ2 := Lib.hid hz2
  clear hi hz0 hz1 hz2
  go_enter Tryz.func3, Tryz.ntmps3
  go_wp2_with fail
  refine HLA.out.mono ?_
  rintro e1 w1 ⟨ba, rfl, hba, rfl⟩
  have HA := Lib.hid hba
  clear hba
  cases ba with
  | false =>
    go_wp2_with fail
    refine (awake_is _ (HML.out.below HB0.out) (HTB.out.below HB0.out)).mono ?_
    rintro e9 w9 ⟨rfl, hb9⟩
    have HB9 := Lib.hid (Below.step HB0.out hb9)
    clear hb9
    go_wp2_with fail
    go_ret
    exact ⟨rfl, HB9.out⟩
  | true =>
    have HAL := Lib.hid (HA.out (by first | rfl | trivial))
    clear HA HLA
    go_wp2_with fail
    refine (parse_is L (by have := HAL.out.1; omega) HAL.out.2 _ A cap _ (Nat.le_refl _) HRA.out HML.out HTB.out).mono ?_
    rintro e3 W3 hp3
    rcases hA : parM 0 L [] with XX | ⟨i1, c1, p1⟩
    · obtain ⟨vx, rfl, hox, hb3⟩ := hp3.ok hA
      have HXX := Lib.hid (And.intro hA hox)
      have HB3 := Lib.hid hb3
      clear hp3 hA hox hb3
      obtain ⟨Ax, cx, hvx⟩ := oshape HXX.out.2
      subst hvx
      go_wp2_with fail
      go_loopw [26, 5] (fun vk va wr => ∃ (k : Nat) (X : List Sev), k ≤ L.length ∧ vk = .int .i64 (k : Int) ∧ Hid (parM 0 L [] = parM k (L.drop k) X ∧ X.length ≤ 50000) ∧ Hid (wr.ownsRow W3.heap.size 39 4 va X.length (evs X)) ∧ Hid (Below W3.heap.size W3 wr)) (fun vk _ _ => L.length + 1 - (intOf vk).toNat)
      case atStart => exact ⟨0, [], Nat.zero_le _, rfl, Lib.hid ⟨rfl, Nat.zero_le _⟩, Lib.hid ⟨rfl, .inl ⟨rfl, rfl⟩⟩, Lib.hid (Below.refl _ _)⟩
      case round =>
        obtain ⟨k, X, hk, rfl, hpm, hown, hB0⟩ := hrel
        have hB := Lib.hid (Below.step HB3.out hB0.out)
        have k0 : (0 : Int) ≤ (k : Int) := by omega
        have k3 : (k : Int) ≤ 300 := by have := HAL.out.1; omega
        by_cases hkn : k < L.length
        · obtain ⟨x, hx⟩ : ∃ x, x = L[k] := ⟨_, rfl⟩
          have hxk : L[k]? = some x := by rw [List.getElem?_eq_getElem hkn, hx]
          have hd : L.drop k = x :: L.drop (k + 1) := by rw [List.drop_eq_getElem_cons hkn, hx]
          obtain ⟨ad, u', hA, hadl, hu, hcu⟩ := HRA.out.at_ hkn
          obtain rfl : u' = .string (Bs x) := by
            unfold stc at hu
            rw [List.getElem?_map, hxk] at hu
            exact (Option.some.inj hu).symm
          subst hA
          have hc1 : wr.cell? (ad.add k) = some (.string (Bs x)) := (hB.out.cell (by rw [block_of_add]; exact hadl)).trans hcu
          have q1 : (k : Int) < (L.length : Int) := by omega
          have HX : Hid (x.length ≤ 5000) := Lib.hid (HAL.out.2 x (List.mem_of_getElem? hxk))
          have HD := Lib.hid hd
          have HK := Lib.hid hkn
          clear hx hxk hkn hk hd hu hcu hadl
          have HON := Lib.hid (one_is x HX.out wr)
          rcases hlm : lineM x with l | ⟨c, p⟩
          · have HLM := Lib.hid hlm
            clear hlm
            go_wp2_with fail
            refine HON.out.mono ?_
            rintro e2 w2 hp
            obtain ⟨A2, c2, rfl, hr2, hb2⟩ := hp.ok HLM.out
            have HB2 := Lib.hid (And.intro hr2 hb2)
            clear hp hr2 hb2 HON
            have N1 : Hid (X.length + l.length ≤ maxLen) := Lib.hid (by have h1 := hpm.out.2; have h2 := lineM_len HLM.out; unfold maxLen; omega)
            have N2 : Hid ((X.length + l.length) * 40 ≤ 140737488355328) := Lib.hid (by have h1 := hpm.out.2; have h2 := lineM_len HLM.out; omega)
            have HO := Lib.hid (rkept hown.out HB2.out.2)
            have HBW := Lib.hid (hB.out.trans (HB2.out.2.mono hB.out.size))
            have HBV := Lib.hid (hB0.out.trans (HB2.out.2.mono hB0.out.size))
            have lz : ((X.length + l.length : Nat) : Int) = (X.length : Int) + (l.length : Int) := by omega
            by_cases hbig : 50000 < (X.length : Int) + (l.length : Int)
            · have HBG := Lib.hid hbig
              go_wp2_with (at_builtin; refine wpList_append_any _ rfl (.tmp 80) (.tmp 81) 30 rfl W3.heap.size 39 i0 (.agg #[.int .i64 0, .int .i64 0, .int .i64 0, .string ⟨#[]⟩]) 4 40 Tryz.underlying30 HII.out HZ0.out HZ1.out HZ2.out rfl (by decide) _ X.length (evs X) rfl HO.out _ A2 l.length c2 (evs l) rfl HB2.out.1 (evs_one l) N1.out N2.out HBV.out.size ?_; intro v3 w3 hown3 hgrow3 hb3; obtain ⟨A5, c5, hv5⟩ := oshape hown3; subst hv5; have HP := Lib.hid (And.intro hown3 hgrow3); clear hown3 hgrow3 hb3)
              have HB5 := Lib.hid (Below.grown HBW.out HP.out.2 HBW.out.size (fun b e => Nat.le_trans HB3.out.size (HO.out.lt b e).1))
              go_wp2_with fail
              refine (awake_is _ (HML.out.below HB5.out) (HTB.out.below HB5.out)).mono ?_
              rintro e9 w9 ⟨rfl, hb9⟩
              have HB9 := Lib.hid (Below.step HB5.out hb9)
              clear hb9
              go_wp2_with fail
              go_ret
              exact ⟨rfl, HB9.out⟩
            · have hsm : (X.length : Int) + (l.length : Int) ≤ 50000 := by omega
              have HBG := Lib.hid hbig
              clear hbig
              go_wp2_with (at_builtin; refine wpList_append_any _ rfl (.tmp 80) (.tmp 81) 30 rfl W3.heap.size 39 i0 (.agg #[.int .i64 0, .int .i64 0, .int .i64 0, .string ⟨#[]⟩]) 4 40 Tryz.underlying30 HII.out HZ0.out HZ1.out HZ2.out rfl (by decide) _ X.length (evs X) rfl HO.out _ A2 l.length c2 (evs l) rfl HB2.out.1 (evs_one l) N1.out N2.out HBV.out.size ?_; intro v3 w3 hown3 hgrow3 hb3; obtain ⟨A5, c5, hv5⟩ := oshape hown3; subst hv5; have HP := Lib.hid (And.intro hown3 hgrow3); clear hown3 hgrow3 hb3)
              go_wp2_with fail
              go_roundw
              case rel =>
                refine ⟨k + 1, X ++ l, HK.out, by go_num, Lib.hid ⟨?_, ?_⟩, Lib.hid ?_, Lib.hid ?_⟩
                · rw [hpm.out.1, HD.out, parM_ok _ _ _ _ _ HLM.out]
                · rw [List.length_append]
                  omega
                · rw [List.length_append, evs_app]
                  exact HP.out.1
                · exact Below.grown HBV.out HP.out.2 HBV.out.size (fun b e => (HO.out.lt b e).1)
              case measure => have := HK.out; simp [intOf]; omega
          · exfalso
            have h1 := HXX.out.1
            rw [hpm.out.1, HD.out, parM_er _ _ _ _ _ _ hlm] at h1
            cases h1
        · have hke : k = L.length := by omega
          subst hke
          have hfin := hpm.out.1
          rw [List.drop_length, HXX.out.1] at hfin
          obtain rfl : XX = X := by injection hfin
          have HXL : Hid (XX.length ≤ 50000) := Lib.hid hpm.out.2
          clear hfin hk hkn hpm
          obtain ⟨Aw, cw, hvw⟩ := oshape hown.out
          subst hvw
          have hOX := Lib.hid (rkept HXX.out.2 hB0.out)
          obtain ⟨WO, rfl⟩ : ∃ WO, WO = wr := ⟨_, rfl⟩
          have x5 : (XX.length : Int) ≤ 50000 := by have := HXL.out; omega
          have hqq : ((XX.length : Int) != (XX.length : Int)) = false := by simp
          go_wp2_with fail
          go_loopw [99, 14] (fun vk _ wr => ∃ (k : Nat), k ≤ XX.length ∧ vk = .int .i64 (k : Int) ∧ Hid (Below WO.heap.size WO wr)) (fun vk _ _ => XX.length + 1 - (intOf vk).toNat)
          case atStart => exact ⟨0, Nat.zero_le _, rfl, Lib.hid (Below.refl _ _)⟩
          case round =>
            obtain ⟨j, hj, rfl, hBW⟩ := hrel
            have j0 : (0 : Int) ≤ (j : Int) := by omega
            by_cases hjn : j < XX.length
            · have p1 : (j : Int) < (XX.length : Int) := by omega
              obtain ⟨gx, d1, hv1, _, hgx, hcx, hxx⟩ := ev_at (rkept hOX.out hBW.out) (by omega)
              obtain ⟨rfl, rfl⟩ : Ax = some ⟨gx, 0, none⟩ ∧ d1 = cx := by
                injection hv1 with h1 h2 h3
                exact ⟨h1, h3.symm⟩
              obtain ⟨gw, d2, hv2, _, hgw, hcw, hxw⟩ := er_at (rkept hown.out hBW.out) (by omega)
              obtain ⟨rfl, rfl⟩ : Aw = some ⟨gw, 0, none⟩ ∧ d2 = cw := by
                injection hv2 with h1 h2 h3
                exact ⟨h1, h3.symm⟩
              obtain ⟨ek, hek⟩ : ∃ ek, XX[j]? = some ek := ⟨_, List.getElem?_eq_getElem hjn⟩
              have Hx := Lib.hid (hxx j ek hek)
              have Hw := Lib.hid (hxw j ek hek)
              have Hgx := Lib.hid hgx
              have Hgw := Lib.hid hgw
              have HNE := Lib.hid (fun W => neq_er ek.k ek.who ek.n ek.line W)
              have HJ := Lib.hid hjn
              clear hv1 hv2 hgx hgw hxx hxw hek hjn hj
              go_wp2_with fail
              refine region_sc (by kernel_rfl) (by kernel_rfl) ?_
              iterate 3 (first | go_big_quiet_skip | (go_big_quiet_want; go_big_quiet_op; first | go_big_quiet_on | (refine ⟨_, fun _ _ => rfl, ?_⟩; go_big_quiet_on)))
              go_big_quiet_want
              refine ⟨.agg #[.int .i64 ek.k, .int .i64 ek.who, .int .i64 ek.n, .string (Bs ek.line)], fun wq hq => ?_, ?_⟩
              · have c0 := (hq.cell (p := ⟨gx, _, none⟩) Hgx.out).trans Hx.out.1
                have c1 := (hq.cell (p := ⟨gx, _, none⟩) Hgx.out).trans Hx.out.2.1
                have c2 := (hq.cell (p := ⟨gx, _, none⟩) Hgx.out).trans Hx.out.2.2.1
                have c3 := (hq.cell (p := ⟨gx, _, none⟩) Hgx.out).trans Hx.out.2.2.2
                unfold Oper.quietAt
                simp [go_sem, c0, c1, c2, c3, Oper.quietUpon]
              simp only [Act.put, List.setIfInBounds_toArray, List.set_cons_zero, List.set_cons_succ]
              go_big_quiet_on
              iterate 3 (first | go_big_quiet_skip | (go_big_quiet_want; go_big_quiet_op; first | go_big_quiet_on | (refine ⟨_, fun _ _ => rfl, ?_⟩; go_big_quiet_on)))
              go_big_quiet_want
              refine ⟨.agg #[.int .i64 ek.k, .int .i64 ek.who, .int .i64 ek.n, .string (Bs ek.line)], fun wq hq => ?_, ?_⟩
              · have c0 := (hq.cell (p := ⟨gw, _, none⟩) Hgw.out).trans Hw.out.1
                have c1 := (hq.cell (p := ⟨gw, _, none⟩) Hgw.out).trans Hw.out.2.1
                have c2 := (hq.cell (p := ⟨gw, _, none⟩) Hgw.out).trans Hw.out.2.2.1
                have c3 := (hq.cell (p := ⟨gw, _, none⟩) Hgw.out).trans Hw.out.2.2.2
                unfold Oper.quietAt
                simp [go_sem, c0, c1, c2, c3, Oper.quietUpon]
              simp only [Act.put, List.setIfInBounds_toArray, List.set_cons_zero, List.set_cons_succ]
              go_big_quiet_on
              go_big_quiet_want
              refine ⟨.bool false, fun wq hq => ?_, ?_⟩
              · unfold Oper.quietAt
                simp [go_sem, HNE.out, Oper.quietUpon]
              simp only [Act.put, List.setIfInBounds_toArray, List.set_cons_zero, List.set_cons_succ]
              go_big_quiet_on
              refine wpQuiet_nil ?_
              intro w4 hS4
              go_wp2_with fail
              go_roundw
              case rel => exact ⟨j + 1, HJ.out, by go_num, Lib.hid (hBW.out.trans (hS4.mono hBW.out.size))⟩
              case measure => have := HJ.out; simp [intOf]; omega
            · have hke : j = XX.length := by omega
              subst hke
              clear hj hjn
              have HBF := Lib.hid (Below.step hB.out hBW.out)
              go_wp2_with fail
              refine (awake_is _ (HML.out.below HBF.out) (HTB.out.below HBF.out)).mono ?_
              rintro e9 w9 ⟨rfl, hb9⟩
              have HB9 := Lib.hid (Below.step HBF.out hb9)
              clear hb9
              go_wp2_with fail
              go_ret
              exact ⟨rfl, HB9.out⟩
    · obtain ⟨ue, rfl, hue, hb3⟩ := hp3.er hA
      obtain ⟨te, ze, hve⟩ := hue.ne
      subst hve
      have HXX := Lib.hid (And.intro hA hue)
      have HB3 := Lib.hid hb3
      clear hp3 hA hue hb3
      go_wp2_with fail
      go_loopw [26, 5] (fun vk va wr => ∃ (k : Nat) (X : List Sev), k ≤ L.length ∧ vk = .int .i64 (k : Int) ∧ Hid (parM 0 L [] = parM k (L.drop k) X ∧ X.length ≤ 50000) ∧ Hid (wr.ownsRow W3.heap.size 39 4 va X.length (evs X)) ∧ Hid (Below W3.heap.size W3 wr)) (fun vk _ _ => L.length + 1 - (intOf vk).toNat)
      case atStart => exact ⟨0, [], Nat.zero_le _, rfl, Lib.hid ⟨rfl, Nat.zero_le _⟩, Lib.hid ⟨rfl, .inl ⟨rfl, rfl⟩⟩, Lib.hid (Below.refl _ _)⟩
      case round =>
        obtain ⟨k, X, hk, rfl, hpm, hown, hB0⟩ := hrel
        have hB := Lib.hid (Below.step HB3.out hB0.out)
        have k0 : (0 : Int) ≤ (k : Int) := by omega
        have k3 : (k : Int) ≤ 300 := by have := HAL.out.1; omega
        by_cases hkn : k < L.length
        · obtain ⟨x, hx⟩ : ∃ x, x = L[k] := ⟨_, rfl⟩
          have hxk : L[k]? = some x := by rw [List.getElem?_eq_getElem hkn, hx]
          have hd : L.drop k = x :: L.drop (k + 1) := by rw [List.drop_eq_getElem_cons hkn, hx]
          obtain ⟨ad, u', hA, hadl, hu, hcu⟩ := HRA.out.at_ hkn
          obtain rfl : u' = .string (Bs x) := by
            unfold stc at hu
            rw [List.getElem?_map, hxk] at hu
            exact (Option.some.inj hu).symm
          subst hA
          have hc1 : wr.cell? (ad.add k) = some (.string (Bs x)) := (hB.out.cell (by rw [block_of_add]; exact hadl)).trans hcu
          have q1 : (k : Int) < (L.length : Int) := by omega
          have HX : Hid (x.length ≤ 5000) := Lib.hid (HAL.out.2 x (List.mem_of_getElem? hxk))
          have HD := Lib.hid hd
          have HK := Lib.hid hkn
          clear hx hxk hkn hk hd hu hcu hadl
          have HON := Lib.hid (one_is x HX.out wr)
          rcases hlm : lineM x with l | ⟨c, p⟩
          · have HLM := Lib.hid hlm
            clear hlm
            go_wp2_with fail
            refine HON.out.mono ?_
            rintro e2 w2 hp
            obtain ⟨A2, c2, rfl, hr2, hb2⟩ := hp.ok HLM.out
            have HB2 := Lib.hid (And.intro hr2 hb2)
            clear hp hr2 hb2 HON
            have N1 : Hid (X.length + l.length ≤ maxLen) := Lib.hid (by have h1 := hpm.out.2; have h2 := lineM_len HLM.out; unfold maxLen; omega)
            have N2 : Hid ((X.length + l.length) * 40 ≤ 140737488355328) := Lib.hid (by have h1 := hpm.out.2; have h2 := lineM_len HLM.out; omega)
            have HO := Lib.hid (rkept hown.out HB2.out.2)
            have HBW := Lib.hid (hB.out.trans (HB2.out.2.mono hB.out.size))
            have HBV := Lib.hid (hB0.out.trans (HB2.out.2.mono hB0.out.size))
            have lz : ((X.length + l.length : Nat) : Int) = (X.length : Int) + (l.length : Int) := by omega
            by_cases hbig : 50000 < (X.length : Int) + (l.length : Int)
            · have HBG := Lib.hid hbig
              go_wp2_with (at_builtin; refine wpList_append_any _ rfl (.tmp 80) (.tmp 81) 30 rfl W3.heap.size 39 i0 (.agg #[.int .i64 0, .int .i64 0, .int .i64 0, .string ⟨#[]⟩]) 4 40 Tryz.underlying30 HII.out HZ0.out HZ1.out HZ2.out rfl (by decide) _ X.length (evs X) rfl HO.out _ A2 l.length c2 (evs l) rfl HB2.out.1 (evs_one l) N1.out N2.out HBV.out.size ?_; intro v3 w3 hown3 hgrow3 hb3; obtain ⟨A5, c5, hv5⟩ := oshape hown3; subst hv5; have HP := Lib.hid (And.intro hown3 hgrow3); clear hown3 hgrow3 hb3)
              have HB5 := Lib.hid (Below.grown HBW.out HP.out.2 HBW.out.size (fun b e => Nat.le_trans HB3.out.size (HO.out.lt b e).1))
              go_wp2_with fail
              refine (awake_is _ (HML.out.below HB5.out) (HTB.out.below HB5.out)).mono ?_
              rintro e9 w9 ⟨rfl, hb9⟩
              have HB9 := Lib.hid (Below.step HB5.out hb9)
              clear hb9
              go_wp2_with fail
              go_ret
              exact ⟨rfl, HB9.out⟩
            · have hsm : (X.length : Int) + (l.length : Int) ≤ 50000 := by omega
              have HBG := Lib.hid hbig
              clear hbig
              go_wp2_with (at_builtin; refine wpList_append_any _ rfl (.tmp 80) (.tmp 81) 30 rfl W3.heap.size 39 i0 (.agg #[.int .i64 0, .int .i64 0, .int .i64 0, .string ⟨#[]⟩]) 4 40 Tryz.underlying30 HII.out HZ0.out HZ1.out HZ2.out rfl (by decide) _ X.length (evs X) rfl HO.out _ A2 l.length c2 (evs l) rfl HB2.out.1 (evs_one l) N1.out N2.out HBV.out.size ?_; intro v3 w3 hown3 hgrow3 hb3; obtain ⟨A5, c5, hv5⟩ := oshape hown3; subst hv5; have HP := Lib.hid (And.intro hown3 hgrow3); clear hown3 hgrow3 hb3)
              go_wp2_with fail
              go_roundw
              case rel =>
                refine ⟨k + 1, X ++ l, HK.out, by go_num, Lib.hid ⟨?_, ?_⟩, Lib.hid ?_, Lib.hid ?_⟩
                · rw [hpm.out.1, HD.out, parM_ok _ _ _ _ _ HLM.out]
                · rw [List.length_append]
                  omega
                · rw [List.length_append, evs_app]
                  exact HP.out.1
                · exact Below.grown HBV.out HP.out.2 HBV.out.size (fun b e => (HO.out.lt b e).1)
              case measure => have := HK.out; simp [intOf]; omega
          · have h1 := HXX.out.1
            rw [hpm.out.1, HD.out, parM_er _ _ _ _ _ _ hlm] at h1
            have hcp := lineM_er hlm HX.out
            obtain ⟨rfl, rfl, rfl⟩ : k + 1 = i1 ∧ c = c1 ∧ p = p1 := by injection h1 with h1 h2 h3; exact ⟨h1, h2, h3⟩
            have HLM := Lib.hid hlm
            have HCP := Lib.hid hcp
            have cq : ((c : Int) == 0) = false := beq_eq_false_iff_ne.2 (by omega)
            have cq2 : ((c : Int) != 0) = true := by unfold bne; rw [cq]; rfl
            clear h1 hcp hlm
            go_wp2_with fail
            refine HON.out.mono ?_
            rintro e2 w2 hp
            obtain ⟨rfl, hb2⟩ := hp.er HLM.out
            have HB2 := Lib.hid (Below.step hB.out hb2)
            have HCH := Lib.hid (show Ch w2 (c : Int) [.wo (Bs (dcl (k + 1))), .pl (p : Int)] (.iface te ze) from (HXX.out.2.below hB0.out).below hb2)
            clear hp hb2 HON
            go_wp2_with fail
            refine (place_some (p : Int) [.wo (Bs (dcl (k + 1))), .pl (p : Int)] (c : Int) _ _ HCH.out ((HB2.out.cell (p := ⟨0, 0, none⟩) HGL.out).trans HG.out) (Nat.lt_of_lt_of_le HGL.out HB2.out.size) rfl).mono ?_
            rintro e4 w4 ⟨rfl, hb4⟩
            have HB4 := Lib.hid (Below.step HB2.out hb4)
            have HCH4 := Lib.hid (HCH.out.below hb4)
            clear hb4
            go_wp2_with fail
            refine (words_is [.wo (Bs (dcl (k + 1))), .pl (p : Int)] (c : Int) _ _ HCH4.out ((HB4.out.cell (p := ⟨0, 0, none⟩) HGL.out).trans HG.out) (Nat.lt_of_lt_of_le HGL.out HB4.out.size) (show 1 ≤ 1000 by decide)).mono ?_
            rintro e5 w5 ⟨rw5, rfl, hs5, hb5⟩
            have HB5 := Lib.hid (Below.step HB4.out hb5)
            have HCH5 := Lib.hid (HCH4.out.below hb5)
            obtain ⟨gs, cs, hrs, _, hgs, hcs, hxs⟩ := own_at (show w5.ownsRow w4.heap.size 9 1 rw5 1 [.string (Bs (dcl (k + 1)))] from hs5) (by decide)
            subst hrs
            have HSX := Lib.hid (hxs 0 _ rfl)
            have Hgs := Lib.hid hgs
            have HDEC : Hid (∀ w, Calls Tryz.prog 12 #[.int .i64 ((k : Int) + 1)] w fun e w' => e = .returned (.string (Bs (dcl (k + 1)))) ∧ Below w.heap.size w w') := Lib.hid (fun w => by
              have := decimal_pos (k + 1) (by omega) w
              rwa [show (((k + 1 : Nat)) : Int) = (k : Int) + 1 by omega] at this)
            clear hb5 hs5 hgs hxs
            go_wp2_with fail
            refine region_sc (by kernel_rfl) (by kernel_rfl) ?_
            go_big_quiet_want
            go_big_quiet_op
            refine ⟨.bool true, fun wq hq => (awake_is wq ((HML.out.below HB5.out).below hq) ((HTB.out.below HB5.out).below hq)).mono fun _ _ ⟨h1, h2⟩ => ⟨h1, Below.step hq h2⟩, ?_⟩
            go_big_quiet_on
            iterate 7 (first | go_big_quiet_skip | (go_big_quiet_want; go_big_quiet_op; first | go_big_quiet_on | (refine ⟨_, fun _ _ => rfl, ?_⟩; go_big_quiet_on)))
            go_big_quiet_want
            go_big_quiet_op
            refine ⟨.int .i64 (c : Int), fun wq hq => (num_ch [.wo (Bs (dcl (k + 1))), .pl (p : Int)] c (by have := HCP.out; omega) (by have := HCP.out; omega) (.iface te ze) wq (HCH5.out.below hq)).mono fun _ _ ⟨h1, h2⟩ => ⟨h1, Below.step hq h2⟩, ?_⟩
            go_big_quiet_on
            iterate 19 (first | go_big_quiet_skip | (go_big_quiet_want; go_big_quiet_op; first | go_big_quiet_on | (refine ⟨_, fun _ _ => rfl, ?_⟩; go_big_quiet_on)))
            go_big_quiet_want
            refine ⟨.string (Bs (dcl (k + 1))), fun wq hq => ?_, ?_⟩
            · have h0 := (hq.cell (p := ⟨gs, 0, none⟩) Hgs.out).trans HSX.out
              unfold Oper.quietAt
              simp [go_sem, h0, Oper.quietUpon]
            simp only [Act.put, List.setIfInBounds_toArray, List.set_cons_zero, List.set_cons_succ]
            go_big_quiet_on
            iterate 2 (first | go_big_quiet_skip | (go_big_quiet_want; go_big_quiet_op; first | go_big_quiet_on | (refine ⟨_, fun _ _ => rfl, ?_⟩; go_big_quiet_on)))
            go_big_quiet_want
            go_big_quiet_op
            refine ⟨.string (Bs (dcl (k + 1))), fun wq hq => (HDEC.out wq).mono fun _ _ ⟨h1, h2⟩ => ⟨h1, Below.step hq h2⟩, ?_⟩
            go_big_quiet_on
            iterate 3 (first | go_big_quiet_skip | (go_big_quiet_want; go_big_quiet_op; first | go_big_quiet_on | (refine ⟨_, fun _ _ => rfl, ?_⟩; go_big_quiet_on)))
            refine wpQuiet_nil ?_
            intro w6 hS6
            go_wp2_with fail
            go_ret
            exact ⟨rfl, Below.step HB5.out hS6⟩
        · exfalso
          have hke : k = L.length := by omega
          subst hke
          have hfin := hpm.out.1
          rw [List.drop_length, HXX.out.1] at hfin
          cases hfin

end Go.Proofs.YtafnipgeeampjaaGreatDoor
