/-
  The law's walk.
-/
import Derived.Test.YtafnipgeeampjaaGreatDoorRows
import Derived.Test.YtafnipgeeampjaaGreatDoorKit
import Derived.Test.YtafnipgeeampjaaGreatDoorApp
import Derived.Test.YtafnipgeeampjaaGreatDoorQuiet
import Derived.WalkKit
import Derived.ProofKit
import Derived.OpenShut
import Derived.ShutString
import Derived.Below
import Derived.Outline
import Derived.WalkLawsBesides
import Derived.WalkSpells
import Derived.Handy
import Derived.Deep.QuietTactic
import Derived.BigQuiet
import Derived.RegionTactic
import Derived.ChangeAlike
import Derived.Lib.Hide
import Derived.Laws.Rows
import Derived.Laws.Tables
import Derived.Laws.CopyOwn
import Derived.Laws.MakeOwn
import Derived.Laws.Entries
import Derived.Laws.OwnMore
import Derived.Deep.WholeRow
import Derived.Deep.LoopGhost
import Derived.Deep.AppendLies
import Derived.Deep.Draws
import Derived.Maps.AppendAt
import Derived.OwnWalk
import Derived.Deep.RegionHeld3
import Derived.Deep.Cut
import Derived.Deep.CutRange
import Derived.Deep.DeepCutAuto
import Derived.Deep.CutBlock
import Derived.Lib.SliceRun
import Derived.IntWalk
import Derived.Laws.Strings
import Derived.Lib.Bytealg
import Derived.Lib.Strings
import Derived.Laws.Externs
import Derived.Test.YtafnipgeeampjaaGreatDoorSrL
import Derived.Test.YtafnipgeeampjaaGreatDoorSrPs
import Derived.Test.YtafnipgeeampjaaGreatDoorSrDc
import Derived.Test.YtafnipgeeampjaaGreatDoorGsN
import Derived.Test.YtafnipgeeampjaaGreatDoorGsG
namespace Go.Proofs.YtafnipgeeampjaaGreatDoor
open Go.ChangeShapes Go.WideShapes Go.ChangeAt Go.RowKit
theorem txt_len (e : Sev) (t : Nat) (he : tellM e = true) (hl : e.line.length ≤ 5000) (ht : t ≤ 10000) : (txtM e t).length ≤ 6000 := by
  have hr : -9999999 ≤ e.who ∧ e.who ≤ 9999999 ∧ -9999999 ≤ e.n ∧ e.n ≤ 9999999 := by
    unfold tellM at he
    rw [Bool.and_eq_true, Bool.and_eq_true] at he
    have h3 := small_bd he.1.1
    have h4 := small_bd he.1.2
    exact ⟨h3.1, h3.2, h4.1, h4.2⟩
  have h1 := dcI_len e.who ⟨hr.1, hr.2.1⟩
  have h2 := dcI_len e.n ⟨hr.2.2.1, hr.2.2.2⟩
  have h3 := dcI_len (t : Int) (by omega)
  unfold txtM
  split
  · simp [vsay]; omega
  · split
    · simp [vtick]; omega
    · split
      · simp [vdraw]; omega
      · split
        · simp [vpick]; omega
        · simp [vpick]; omega
theorem lns_bd : ∀ (n : Nat) (l : List Sev), l.length ≤ n → (∀ e ∈ l, tellM e = true ∧ e.line.length ≤ 5000) → ∀ s ∈ lns l, s.length ≤ 6000
  | 0, [], _, _ => by simp [lns_nil]
  | 0, _ :: _, h, _ => by simp at h
  | n + 1, [], _, _ => by simp [lns_nil]
  | n + 1, e :: t, h, ha => by
    rw [lns_cons]
    intro s hs
    rcases List.mem_cons.1 hs with rfl | hs
    · have h1 := ha e (List.mem_cons_self ..)
      exact txt_len e _ h1.1 h1.2 (timesM_bd e t).2.1
    · exact lns_bd n (t.drop (timesM e t - 1)) (by rw [List.length_drop]; simp only [List.length_cons] at h; omega) (fun x hx => ha x (List.mem_cons_of_mem _ (List.mem_of_mem_drop hx))) s hs
theorem badM_all : ∀ (X : List Sev), badM X = none → ∀ x ∈ X, tellM x = true
  | [], _, x, h => by cases h
  | e :: t, hb, x, h => by
    unfold badM at hb
    split at hb
    · rename_i he
      rcases List.mem_cons.1 h with rfl | h
      · exact he
      · exact badM_all t (by simpa using hb) x h
    · cases hb
theorem badM_lt : ∀ (X : List Sev) (i : Nat), badM X = some i → i < X.length
  | [], i, h => by cases h
  | e :: t, i, h => by
    unfold badM at h
    split at h
    · obtain ⟨j, hj, rfl⟩ := Option.map_eq_some_iff.1 h
      have := badM_lt t j hj
      rw [List.length_cons]; omega
    · injection h with h
      subst h
      simp
theorem evs_snoc1 (X : List Sev) (e : Sev) : evs X ++ evc e = evs (X ++ [e]) := by
  rw [evs_app]
  rfl
theorem neq_str (s : List UInt8) (W : World) : (binOp .neq 9 (.string (Bs s)) (.string (Bs s))).run Tryz.prog W = .ok (.bool false) W := by
  simp [binOp, Op.stringOp]
set_option maxRecDepth 100000 in
set_option maxHeartbeats 8000000 in
theorem walk (L : List Sev) (A : Option Addr) (cap : Nat) (hL : L.length ≤ 140737488355328) (hs : ∀ e ∈ L, e.line.length ≤ 140737488355328) (w : World) (hr : SvAt A L w) (hml : Ml w) (htb : Tb w) (hg : w.cell? ⟨0, 0, none⟩ = some (.iface 97 (.agg #[.pointer (some ⟨9, 27, none⟩)]))) (hgl : 0 < w.heap.size) : Calls Tryz.prog 4 #[.slice A L.length cap] w fun e w' => e = .returned (.bool true) ∧ Below w.heap.size w w' := by
  have HSV := Lib.hid hr
  have HML := Lib.hid hml
  have HTB := Lib.hid htb
  have HG := Lib.hid hg
  have HGL := Lib.hid hgl
  have HLN := Lib.hid hL
  have HLS := Lib.hid hs
  have HB0 := Lib.hid (Below.refl w.heap.size w)
  have n47 : (L.length : Int) ≤ 140737488355328 := by omega
  clear hr hml htb hL hs hg hgl
  obtain ⟨i0, hi, hz0, hz1, hz2⟩ := info_parts infoE
  have HII := Lib.hid hi
  have HZ0 := Lib.hid hz0
  have HZ1 := Lib.hid hz1
  have HZ2 := Lib.hid hz2
  clear hi hz0 hz1 hz2
  go_enter Tryz.func4, Tryz.ntmps4
  go_wp2_with fail
  go_loopw [19, 3, 4] (fun vk vn va wr => ∃ (k n : Nat), k ≤ L.length ∧ vk = .int .i64 (k : Int) ∧ vn = .int .i64 (n : Int) ∧ n ≤ 5000 ∧ Hid (k ≤ n ∧ ∀ e ∈ L.take k, e.line.length ≤ 5000) ∧ Hid (wr.ownsRow w.heap.size 40 4 va k (evs (L.take k))) ∧ Hid (Below w.heap.size w wr)) (fun vk _ _ _ => L.length + 1 - (intOf vk).toNat)
  case atStart => exact ⟨0, 0, Nat.zero_le _, rfl, rfl, Nat.zero_le _, Lib.hid ⟨Nat.le_refl _, by simp⟩, Lib.hid ⟨rfl, .inl ⟨rfl, rfl⟩⟩, Lib.hid (Below.refl _ _)⟩
  case round =>
    obtain ⟨k, n, hk, rfl, rfl, hn, hsm, hown, hB⟩ := hrel
    have k0 : (0 : Int) ≤ (k : Int) := by omega
    have m0 : (0 : Int) ≤ (n : Int) := by omega
    have m5 : (n : Int) ≤ 5000 := by omega
    by_cases hkn : k < L.length
    · have q1 : (k : Int) < (L.length : Int) := by omega
      obtain ⟨ad, hv1, hgx, hxx⟩ := sv_at (HSV.out.below hB.out) (by omega)
      subst hv1
      obtain ⟨ek, hek⟩ : ∃ ek, L[k]? = some ek := ⟨_, List.getElem?_eq_getElem hkn⟩
      obtain ⟨x0, x1, x2, x3⟩ := hxx k ek hek
      have hxl := HLS.out ek (List.mem_of_getElem? hek)
      have hsz := Bs_size ek.line
      have z0 : (0 : Int) ≤ ((Bs ek.line).size : Int) := by omega
      have z1 : ((Bs ek.line).size : Int) ≤ 140737488355328 := by omega
      have HE := Lib.hid (And.intro hek (And.intro hsz hkn))
      have HN := Lib.hid hn
      have hg5 : Below w.heap.size w (wr.alloc (.cells (List.toArray [.int .i64 ek.k, .int .i64 ek.who, .int .i64 ek.n, .string (Bs ek.line)]) 39)) := hB.out.alloc hB.out.size _
      have HG5 := Lib.hid hg5
      clear hgx hxx hek hkn hk hxl hsz hn hg5
      by_cases hbig : 5000 < (n : Int) + (((Bs ek.line).size : Int) + 1)
      · have HBW := Lib.hid HG5.out
        go_wp2_with fail
        refine (awake_is _ (HML.out.below HG5.out) (HTB.out.below HG5.out)).mono ?_
        rintro e9 w9 ⟨rfl, hb9⟩
        have HB9 := Lib.hid (Below.step HG5.out hb9)
        clear hb9
        go_wp2_with fail
        go_ret
        exact ⟨rfl, HB9.out⟩
      · have b5 : (n : Int) + (((Bs ek.line).size : Int) + 1) ≤ 5000 := by omega
        have HBG := Lib.hid b5
        have HO := Lib.hid (rkept hown.out ((Below.refl wr.heap.size wr).alloc (Nat.le_refl _) (.cells (List.toArray [.int .i64 ek.k, .int .i64 ek.who, .int .i64 ek.n, .string (Bs ek.line)]) 39)))
        obtain ⟨W5, hW5⟩ : ∃ W5, W5 = wr.alloc (.cells (List.toArray [.int .i64 ek.k, .int .i64 ek.who, .int .i64 ek.n, .string (Bs ek.line)]) 39) := ⟨_, rfl⟩
        rw [← hW5] at HG5 HO
        have HW5 := Lib.hid hW5
        have hb5 : Bl wr.heap.size [.int .i64 ek.k, .int .i64 ek.who, .int .i64 ek.n, .string (Bs ek.line)] W5 := by rw [hW5]; exact Bl.new _ _ _
        have HB5 := Lib.hid hb5
        have HO6 := Lib.hid (rkept HO.out ((Below.refl W5.heap.size W5).alloc (Nat.le_refl _) (.cells (evc ek).toArray 40)))
        have hs5 : wr.heap.size ≤ W5.heap.size := by rw [hW5]; simp
        have HS5 := Lib.hid hs5
        clear hbig hW5 hb5 hs5
        go_upto_region 6 with fail
        rw [← HW5.out]
        have y0 := HB5.out.cell 0 _ rfl
        have y1 := HB5.out.cell 1 _ rfl
        have y2 := HB5.out.cell 2 _ rfl
        have y3 := HB5.out.cell 3 _ rfl
        go_wp2_with (at_builtin; refine wpList_append_any _ rfl (.tmp 32) (.tmp 34) 25 rfl w.heap.size 40 i0 (.agg #[.int .i64 0, .int .i64 0, .int .i64 0, .string ⟨#[]⟩]) 4 40 Tryz.underlying25 HII.out HZ0.out HZ1.out HZ2.out rfl (by decide) _ k (evs (L.take k)) rfl HO6.out _ (some ⟨W5.heap.size, 0, none⟩) 1 1 (evc ek) rfl (reads_newN W5 1 4 (evc ek) 40 rfl) (fun u hu => evs_one [ek] u (by simpa [evs] using hu)) (by have := hsm.out.1; have := HN.out; unfold maxLen; omega) (by have := hsm.out.1; have := HN.out; omega) (by have h1 := HG5.out.size; simp; omega) ?_; intro v3 w3 hown3 hgrow3 hb3; have HP := Lib.hid (And.intro hown3 hgrow3); clear hown3 hgrow3 hb3)
        go_roundw
        case rel =>
          refine ⟨k + 1, n + ((Bs ek.line).size + 1), HE.out.2.2, by go_num, by go_num, by omega, Lib.hid ⟨?_, ?_⟩, Lib.hid ?_, Lib.hid ?_⟩
          · have := hsm.out.1; omega
          · intro e he
            rw [List.take_add_one, HE.out.1] at he
            rcases List.mem_append.1 he with he | he
            · exact hsm.out.2 e he
            · have := List.mem_singleton.1 (show e ∈ [ek] from he)
              subst this
              have := HE.out.2.1
              omega
          · rw [List.take_add_one, HE.out.1]
            have := HP.out.1
            rw [evs_snoc1] at this
            exact this
          · exact Below.grown (HG5.out.alloc HG5.out.size _) HP.out.2 (by have h1 := HG5.out.size; simp; omega) (fun b e => (HO6.out.lt b e).1)
        case measure => have := HE.out.2.2; simp [intOf]; omega
    · have hke : k = L.length := by omega
      subst hke
      have hsm1 := hsm.out
      have how1 := hown.out
      rw [List.take_of_length_le (Nat.le_refl _)] at hsm1 how1
      have HLB := Lib.hid (And.intro (show L.length ≤ 5000 by omega) hsm1.2)
      obtain ⟨Aa, ca, hva⟩ := oshape how1
      subst hva
      have HOA := Lib.hid how1
      have l5 : (L.length : Int) ≤ 5000 := by omega
      obtain ⟨W1, rfl⟩ : ∃ W1, W1 = wr := ⟨_, rfl⟩
      clear hsm1 how1 hk hkn hsm hown hn
      have HPR := Lib.hid (print_is L (.slice Aa L.length ca) w.heap.size HLB.out.1 HLB.out.2 W1 HOA.out (HTB.out.below hB.out))
      go_wp2_with fail
      refine HPR.out.mono ?_
      rintro e2 w2 hp2
      have hb2 : Below W1.heap.size W1 w2 := hp2.2
      have HB2 := Lib.hid (Below.step hB.out hb2)
      have HOA2 := Lib.hid (rkept HOA.out hb2)
      have HRP := Lib.hid (rprint_is L A cap HLB.out.1 HLB.out.2 w2 (HSV.out.below HB2.out))
      clear HPR
      rcases hbad : badM L with _ | i
      · obtain ⟨v1, rfl, ho1, _⟩ := hp2.ok hbad
        obtain ⟨A1, c1, hv1⟩ := oshape ho1
        subst hv1
        have HO1 := Lib.hid ho1
        have HBD := Lib.hid hbad
        clear hp2 ho1 hbad hb2
        go_wp2_with fail
        refine HRP.out.mono ?_
        rintro e3 w3 hp3
        obtain ⟨v2, rfl, ho2, hb3⟩ := hp3.ok HBD.out
        obtain ⟨A2, c2, hv2⟩ := oshape ho2
        subst hv2
        have HO2 := Lib.hid ho2
        have HB3 := Lib.hid (Below.step HB2.out hb3)
        have HO1b := Lib.hid (rkept HO1.out hb3)
        have HOA3 := Lib.hid (rkept HOA2.out hb3)
        have HALL := Lib.hid (badM_all L HBD.out)
        have hnl := lns_len L.length L (Nat.le_refl _)
        have HNL := Lib.hid (show (lns L).length ≤ 5000 by omega)
        have n5 : ((lns L).length : Int) ≤ 5000 := by omega
        have hqq : (((lns L).length : Int) != ((lns L).length : Int)) = false := by simp
        clear hp3 hb3 HRP ho2 hnl
        go_wp2_with fail
        go_loopw [84, 13] (fun vk _ wr => ∃ (k : Nat), k ≤ (lns L).length ∧ vk = .int .i64 (k : Int) ∧ Hid (Below w3.heap.size w3 wr)) (fun vk _ _ => (lns L).length + 1 - (intOf vk).toNat)
        case atStart => exact ⟨0, Nat.zero_le _, rfl, Lib.hid (Below.refl _ _)⟩
        case round =>
          obtain ⟨j, hj, rfl, hBW⟩ := hrel
          have j0 : (0 : Int) ≤ (j : Int) := by omega
          by_cases hjn : j < (lns L).length
          · have p1 : (j : Int) < ((lns L).length : Int) := by omega
            obtain ⟨sx, hsx⟩ : ∃ sx, (lns L)[j]? = some sx := ⟨_, List.getElem?_eq_getElem hjn⟩
            have hst : (stc (lns L))[j]? = some (.string (Bs sx)) := by unfold stc; rw [List.getElem?_map, hsx]; rfl
            obtain ⟨ga, d1, hva, _, hga, _, hxa⟩ := own_at (rkept HO1b.out hBW.out) (by omega)
            obtain ⟨rfl, rfl⟩ : A1 = some ⟨ga, 0, none⟩ ∧ d1 = c1 := by
              injection hva with h1 h2 h3
              exact ⟨h1, h3.symm⟩
            obtain ⟨gb, d2, hvb, _, hgb, _, hxb⟩ := own_at (rkept HO2.out hBW.out) (by omega)
            obtain ⟨rfl, rfl⟩ : A2 = some ⟨gb, 0, none⟩ ∧ d2 = c2 := by
              injection hvb with h1 h2 h3
              exact ⟨h1, h3.symm⟩
            have HXA := Lib.hid (hxa j _ hst)
            have HXB := Lib.hid (hxb j _ hst)
            have Hga := Lib.hid hga
            have Hgb := Lib.hid hgb
            have HNE := Lib.hid (fun W => neq_str sx W)
            have HJ := Lib.hid hjn
            clear hva hvb hga hgb hxa hxb hst hsx hjn hj
            go_wp2_with fail
            refine region_sc (by kernel_rfl) (by kernel_rfl) ?_
            iterate 3 (first | go_big_quiet_skip | (go_big_quiet_want; go_big_quiet_op; first | go_big_quiet_on | (refine ⟨_, fun _ _ => rfl, ?_⟩; go_big_quiet_on)))
            go_big_quiet_want
            refine ⟨.string (Bs sx), fun wq hq => ?_, ?_⟩
            · have c0 := (hq.cell (p := ⟨ga, _, none⟩) Hga.out).trans HXA.out
              unfold Oper.quietAt
              simp [go_sem, c0, Oper.quietUpon]
            simp only [Act.put, List.setIfInBounds_toArray, List.set_cons_zero, List.set_cons_succ]
            go_big_quiet_on
            iterate 3 (first | go_big_quiet_skip | (go_big_quiet_want; go_big_quiet_op; first | go_big_quiet_on | (refine ⟨_, fun _ _ => rfl, ?_⟩; go_big_quiet_on)))
            go_big_quiet_want
            refine ⟨.string (Bs sx), fun wq hq => ?_, ?_⟩
            · have c0 := (hq.cell (p := ⟨gb, _, none⟩) Hgb.out).trans HXB.out
              unfold Oper.quietAt
              simp [go_sem, c0, Oper.quietUpon]
            simp only [Act.put, List.setIfInBounds_toArray, List.set_cons_zero, List.set_cons_succ]
            go_big_quiet_on
            go_big_quiet_want
            refine ⟨.bool false, fun wq hq => ?_, ?_⟩
            · unfold Oper.quietAt
              simp [go_sem, HNE.out, Oper.quietUpon]
            simp only [Act.put, List.setIfInBounds_toArray, List.set_cons_zero, List.set_cons_succ]
            go_big_quiet_on
            refine wpQuiet_nil ?_
            intro w4 hS4
            go_wp2_with fail
            go_roundw
            case rel => exact ⟨j + 1, HJ.out, by go_num, Lib.hid (hBW.out.trans (hS4.mono hBW.out.size))⟩
            case measure => have := HJ.out; simp [intOf]; omega
          · have hke : j = (lns L).length := by omega
            subst hke
            obtain ⟨W4, rfl⟩ : ∃ W4, W4 = wr := ⟨_, rfl⟩
            have HB4 := Lib.hid (Below.step HB3.out hBW.out)
            have HO4 := Lib.hid (rkept HO1b.out hBW.out)
            have HOA4 := Lib.hid (rkept HOA3.out hBW.out)
            have HPZ := Lib.hid (parse_big (lns L) (by have := HNL.out; omega) (lns_bd L.length L (Nat.le_refl _) (fun e he => ⟨HALL.out e he, HLB.out.2 e he⟩)) _ A1 c1 W4 (Nat.le_refl _) (Reads.of_own HO4.out) (HML.out.below HB4.out) (HTB.out.below HB4.out))
            have HPM := Lib.hid (parM_lns L HALL.out)
            clear hj hjn
            go_wp2_with fail
            refine HPZ.out.mono ?_
            rintro e5 w5 hp5
            obtain ⟨v5, rfl, ho5, hb5⟩ := hp5.ok HPM.out
            obtain ⟨A5, c5, hv5⟩ := oshape ho5
            subst hv5
            have HO5 := Lib.hid ho5
            have HB5 := Lib.hid (Below.step HB4.out hb5)
            have HOA5 := Lib.hid (rkept HOA4.out hb5)
            have hq5 : ((L.length : Int) != (L.length : Int)) = false := by simp
            clear hp5 ho5 hb5 HPZ
            go_wp2_with fail
            go_loopw [113, 16] (fun vk _ wr => ∃ (k : Nat), k ≤ L.length ∧ vk = .int .i64 (k : Int) ∧ Hid (Below w5.heap.size w5 wr)) (fun vk _ _ => L.length + 1 - (intOf vk).toNat)
            case atStart => exact ⟨0, Nat.zero_le _, rfl, Lib.hid (Below.refl _ _)⟩
            case round =>
              obtain ⟨j, hj, rfl, hBX⟩ := hrel
              have j0 : (0 : Int) ≤ (j : Int) := by omega
              by_cases hjn : j < L.length
              · have p1 : (j : Int) < (L.length : Int) := by omega
                obtain ⟨gx, d1, hva, _, hgx, hcx, hxx⟩ := ev_at (rkept HO5.out hBX.out) (by omega)
                obtain ⟨rfl, rfl⟩ : A5 = some ⟨gx, 0, none⟩ ∧ d1 = c5 := by
                  injection hva with h1 h2 h3
                  exact ⟨h1, h3.symm⟩
                obtain ⟨gy, d2, hvb, _, hgy, hcy, hxy⟩ := ev_at (rkept HOA5.out hBX.out) (by omega)
                obtain ⟨rfl, rfl⟩ : Aa = some ⟨gy, 0, none⟩ ∧ d2 = ca := by
                  injection hvb with h1 h2 h3
                  exact ⟨h1, h3.symm⟩
                obtain ⟨ek, hek⟩ : ∃ ek, L[j]? = some ek := ⟨_, List.getElem?_eq_getElem hjn⟩
                have Hx := Lib.hid (hxx j ek hek)
                have Hy := Lib.hid (hxy j ek hek)
                have Hgx := Lib.hid hgx
                have Hgy := Lib.hid hgy
                have HNE := Lib.hid (fun W => neq_ev ek.k ek.who ek.n ek.line W)
                have HJ := Lib.hid hjn
                clear hva hvb hgx hgy hxx hxy hek hjn hj
                go_wp2_with fail
                refine region_sc (by kernel_rfl) (by kernel_rfl) ?_
                iterate 3 (first | go_big_quiet_skip | (go_big_quiet_want; go_big_quiet_op; first | go_big_quiet_on | (refine ⟨_, fun _ _ => rfl, ?_⟩; go_big_quiet_on)))
                go_big_quiet_want
                refine ⟨.agg #[.int .i64 ek.k, .int .i64 ek.who, .int .i64 ek.n, .string (Bs ek.line)], fun wq hq => ?_, ?_⟩
                · have c0 := (hq.cell (p := ⟨gx, _, none⟩) Hgx.out).trans Hx.out.1
                  have c1 := (hq.cell (p := ⟨gx, _, none⟩) Hgx.out).trans Hx.out.2.1
                  have c2 := (hq.cell (p := ⟨gx, _, none⟩) Hgx.out).trans Hx.out.2.2.1
                  have c3 := (hq.cell (p := ⟨gx, _, none⟩) Hgx.out).trans Hx.out.2.2.2
                  unfold Oper.quietAt
                  simp [go_sem, c0, c1, c2, c3, Oper.quietUpon]
                simp only [Act.put, List.setIfInBounds_toArray, List.set_cons_zero, List.set_cons_succ]
                go_big_quiet_on
                iterate 3 (first | go_big_quiet_skip | (go_big_quiet_want; go_big_quiet_op; first | go_big_quiet_on | (refine ⟨_, fun _ _ => rfl, ?_⟩; go_big_quiet_on)))
                go_big_quiet_want
                refine ⟨.agg #[.int .i64 ek.k, .int .i64 ek.who, .int .i64 ek.n, .string (Bs ek.line)], fun wq hq => ?_, ?_⟩
                · have c0 := (hq.cell (p := ⟨gy, _, none⟩) Hgy.out).trans Hy.out.1
                  have c1 := (hq.cell (p := ⟨gy, _, none⟩) Hgy.out).trans Hy.out.2.1
                  have c2 := (hq.cell (p := ⟨gy, _, none⟩) Hgy.out).trans Hy.out.2.2.1
                  have c3 := (hq.cell (p := ⟨gy, _, none⟩) Hgy.out).trans Hy.out.2.2.2
                  unfold Oper.quietAt
                  simp [go_sem, c0, c1, c2, c3, Oper.quietUpon]
                simp only [Act.put, List.setIfInBounds_toArray, List.set_cons_zero, List.set_cons_succ]
                go_big_quiet_on
                go_big_quiet_want
                refine ⟨.bool false, fun wq hq => ?_, ?_⟩
                · unfold Oper.quietAt
                  simp [go_sem, HNE.out, Oper.quietUpon]
                simp only [Act.put, List.setIfInBounds_toArray, List.set_cons_zero, List.set_cons_succ]
                go_big_quiet_on
                refine wpQuiet_nil ?_
                intro w6 hS6
                go_wp2_with fail
                go_roundw
                case rel => exact ⟨j + 1, HJ.out, by go_num, Lib.hid (hBX.out.trans (hS6.mono hBX.out.size))⟩
                case measure => have := HJ.out; simp [intOf]; omega
              · have hke : j = L.length := by omega
                subst hke
                clear hj hjn
                have HBF := Lib.hid (Below.step HB5.out hBX.out)
                go_wp2_with fail
                refine (awake_is _ (HML.out.below HBF.out) (HTB.out.below HBF.out)).mono ?_
                rintro e9 w9 ⟨rfl, hb9⟩
                have HB9 := Lib.hid (Below.step HBF.out hb9)
                clear hb9
                go_wp2_with fail
                go_ret
                exact ⟨rfl, HB9.out⟩
      · obtain ⟨u, rfl, hu, _⟩ := hp2.bad hbad
        obtain ⟨eb, hev⟩ := er_ne hu
        subst hev
        have HU := Lib.hid hu
        have HBD := Lib.hid hbad
        have hil := badM_lt L i hbad
        have i0' : (0 : Int) ≤ (i : Int) := by omega
        clear hp2 hu hbad hb2
        go_wp2_with fail
        refine HRP.out.mono ?_
        rintro e3 w3 hp3
        obtain ⟨rfl, hb3⟩ := hp3.bad HBD.out
        have HB3 := Lib.hid (Below.step HB2.out hb3)
        have HCH := Lib.hid (er_ch (c := 6) (p := i) (HU.out.below hb3))
        clear hp3 hb3 HRP
        go_wp2_with fail
        refine (place_some (i : Int) [.pl (i : Int)] 6 _ _ HCH.out ((HB3.out.cell (p := ⟨0, 0, none⟩) HGL.out).trans HG.out) (Nat.lt_of_lt_of_le HGL.out HB3.out.size) rfl).mono ?_
        rintro e4 w4 ⟨rfl, hb4⟩
        have HB4 := Lib.hid (Below.step HB3.out hb4)
        have HCH4 := Lib.hid (HCH.out.below hb4)
        clear hb4
        go_wp2_with fail
        refine (awake_is _ (HML.out.below HB4.out) (HTB.out.below HB4.out)).mono ?_
        rintro e5 w5 ⟨rfl, hb5⟩
        have HB5 := Lib.hid (Below.step HB4.out hb5)
        have HCH5 := Lib.hid (HCH4.out.below hb5)
        clear hb5
        go_wp2_with fail
        refine (num_ch [.pl (i : Int)] 6 (by decide) (by decide) _ _ HCH5.out).mono ?_
        rintro e6 w6 ⟨rfl, hb6⟩
        have HB6 := Lib.hid (Below.step HB5.out hb6)
        clear hb6
        go_wp2_with fail
        go_ret
        exact ⟨rfl, HB6.out⟩

end Go.Proofs.YtafnipgeeampjaaGreatDoor
