/-
  The document's reading of a line.
-/
import Derived.Test.YtafnipgeeampjaaGreatDoorRows
import Derived.Test.YtafnipgeeampjaaGreatDoorKit
import Derived.Test.YtafnipgeeampjaaGreatDoorApp
import Derived.Test.YtafnipgeeampjaaGreatDoorQuiet
import Derived.WalkKit
import Derived.ProofKit
import Derived.OpenShut
import Derived.ShutString
import Derived.Below
import Derived.Outline
import Derived.WalkLawsBesides
import Derived.WalkSpells
import Derived.Handy
import Derived.Deep.QuietTactic
import Derived.BigQuiet
import Derived.RegionTactic
import Derived.ChangeAlike
import Derived.Lib.Hide
import Derived.Laws.Rows
import Derived.Laws.Tables
import Derived.Laws.CopyOwn
import Derived.Laws.MakeOwn
import Derived.Laws.Entries
import Derived.Laws.OwnMore
import Derived.Deep.WholeRow
import Derived.Deep.LoopGhost
import Derived.Deep.AppendLies
import Derived.Deep.Draws
import Derived.Maps.AppendAt
import Derived.OwnWalk
import Derived.Deep.RegionHeld3
import Derived.Deep.Cut
import Derived.Deep.CutRange
import Derived.Deep.DeepCutAuto
import Derived.Deep.CutBlock
import Derived.Lib.SliceRun
import Derived.IntWalk
import Derived.Laws.Strings
import Derived.Lib.Bytealg
import Derived.Lib.Strings
import Derived.Laws.Externs
import Derived.Test.YtafnipgeeampjaaGreatDoorSrOn
namespace Go.Proofs.YtafnipgeeampjaaGreatDoor
open Go.ChangeShapes Go.WideShapes Go.ChangeAt Go.RowKit
theorem own_int {w : World} {base n : Nat} {v : Value} {a : List Int} (h : w.ownsRow base 3 1 v n (itc a)) (h0 : 0 < n) : ∃ g c, v = .slice (some ⟨g, 0, none⟩) n c ∧ base ≤ g ∧ g < w.heap.size ∧ n ≤ c ∧ ∀ (i : Nat) (x : Int), a[i]? = some x → w.cell? ⟨g, i, none⟩ = some (.int .i64 x) := by
  obtain ⟨g, c, hv, hg, hl, hc, hx⟩ := own_at h h0
  exact ⟨g, c, hv, hg, hl, hc, fun i x hi => hx i _ (by unfold itc; rw [List.getElem?_map, hi]; rfl)⟩
theorem verb_one (s : List UInt8) (v : List UInt8) (hv : (cutb s).1 = v) (h : (wl s 0).length = 1) : wordM v (ws (cutb s).2.1) = .er 13 (v.length + 1) := by
  have := verb_words s
  rw [if_pos h, hv] at this
  exact this
theorem verb_more (s : List UInt8) (v : List UInt8) (hv : (cutb s).1 = v) (h : (wl s 0).length ≠ 1) : wordM v (ws (cutb s).2.1) = wordM v (ws s).tail := by
  have := verb_words s
  rw [if_neg h, hv] at this
  exact this
theorem tail_get (s : List UInt8) (k : Nat) (x : Wo) (h : (wl s 0)[k + 1]? = some x) : (ws s).tail[k]? = some x.1 := by
  rw [← wl_tail, List.getElem?_map, List.getElem?_tail, h]
  rfl
theorem tail_len (s : List UInt8) : (ws s).tail.length + 1 = (wl s 0).length := by
  rw [← wl_tail, List.length_map, List.length_tail]
  have := wl_pos s 0
  omega
/-- Events out of a row of the document's. -/
theorem reads_own {w : World} {base n : Nat} {t : TypeId} {A : Option Addr} {c : Nat} {L : List Sev} (h : w.ownsRow base t 4 (.slice A n c) n (evs L)) : Reads w w.heap.size 4 A n (evs L) := Reads.of_own h
theorem evs_snoc (e : Sev) (i : Nat) : evs (List.replicate i e) ++ evc e = evs (List.replicate (i + 1) e) := by
  rw [List.replicate_succ', evs_app]
  congr 1
set_option maxRecDepth 100000 in
set_option maxHeartbeats 4000000 in
theorem one_bare_vtick (s : List UInt8) (hl : s.length ≤ 5000) (b : UInt8) (t : List UInt8) (hs : s = b :: t) (hb : b ≠ 35) (hcv : (cutb s).1 = vtick) (h1 : (wl s 0).length = 1) (w : World) : Calls Tryz.prog 8 #[.string (Bs s)] w (OnP (lineM s) w) := by
  have e0 : ((Bs vtick).toList == [115, 97, 121]) = false := by rw [eq_lit]; decide
  have e1 : ((Bs vtick).toList == [116, 105, 99, 107]) = true := by rw [eq_lit]; decide
  have e2 : ((Bs vtick).toList == [112, 105, 99, 107]) = false := by rw [eq_lit]; decide
  have e3 : ((Bs vtick).toList == [100, 114, 97, 119]) = false := by rw [eq_lit]; decide
  have hpos : 0 < (Bs s).size := by rw [Bs_size, hs]; simp
  have hs0 : (Bs s)[0]'hpos = b := by rw [get_bt (Bs s) 0 hpos, Bs_list, hs]; rfl
  have q0 : ((Bs s).size : Int) ≠ 0 := by omega
  have q0b : (((Bs s).size : Int) == 0) = false := beq_eq_false_iff_ne.2 q0
  have q1 : ((b.toNat : Int) == 35) = false := beq_eq_false_iff_ne.2 (by intro e; exact hb (UInt8.toNat_inj.1 (by show b.toNat = 35; omega)))
  have hm0 := lineM_cut s b t hs hb
  obtain ⟨tl, hwl, htl⟩ := wl_head s
  rw [hcv] at hm0 hwl
  have hln := wl_len s hl
  have hwd := word_len s
  have hsp := wsplit_bs s hl w
  have hN1 : 1 ≤ (wl s 0).length := by rw [hwl]; simp
  have hm1 : lineM s = wordM vtick (ws (cutb s).2.1) := by rw [hm0, if_neg (by decide), if_pos (Or.inl rfl)]
  have hsz : (Bs vtick).size = 4 := by rw [Bs_size]; rfl
  have HE : Hid (lineM s = .er 13 5) := Lib.hid (by rw [hm1, verb_one s vtick hcv h1]; rfl)
  have q3 : (((wl s 0).length : Int) == 1) = true := by rw [beq_iff_eq]; omega
  clear h1 hm1
  obtain ⟨WL, hWL⟩ : ∃ WL, WL = wl s 0 := ⟨_, rfl⟩
  rw [← hWL] at hwl hln hwd hsp hN1 q3
  have HC := Lib.hid hsp
  have HWL := Lib.hid (And.intro hWL (And.intro hwl htl))
  have HLN := Lib.hid (And.intro hln (And.intro hN1 hwd))
  have HL := Lib.hid hl
  have n5 : (WL.length : Int) ≤ 5001 := by omega
  have n1 : (1 : Int) ≤ (WL.length : Int) := by omega
  clear hwl htl hln hwd hsp hN1 hWL hm0 hs hb hl
  go_enter Tryz.func8, Tryz.ntmps8
  go_wp2_with fail
  refine HC.out.mono ?_
  rintro e1 w1 ⟨u, rfl, ho1, hb1⟩
  obtain ⟨g, c, rfl, hgb, hgl, hgc, hx⟩ := wo_at ho1 (by have := HLN.out.2.1; omega)
  obtain ⟨x0, x1⟩ := hx 0 _ (by rw [HWL.out.2.1]; rfl)
  have HO := Lib.hid (And.intro hx (And.intro hgl hgb))
  have HB1 := Lib.hid hb1
  clear ho1 hb1 hx x1
  go_wp2_with fail
  go_ret3
  exact OnP.mk_er HE.out rfl rfl HB1.out
set_option maxRecDepth 100000 in
set_option maxHeartbeats 4000000 in
theorem one_nums_vtick (s : List UInt8) (hl : s.length ≤ 5000) (b : UInt8) (t : List UInt8) (hs : s = b :: t) (hb : b ≠ 35) (hcv : (cutb s).1 = vtick) (h1 : (wl s 0).length ≠ 1) (w : World) : Calls Tryz.prog 8 #[.string (Bs s)] w (OnP (lineM s) w) := by
  have e0 : ((Bs vtick).toList == [115, 97, 121]) = false := by rw [eq_lit]; decide
  have e1 : ((Bs vtick).toList == [116, 105, 99, 107]) = true := by rw [eq_lit]; decide
  have e2 : ((Bs vtick).toList == [112, 105, 99, 107]) = false := by rw [eq_lit]; decide
  have e3 : ((Bs vtick).toList == [100, 114, 97, 119]) = false := by rw [eq_lit]; decide
  have hpos : 0 < (Bs s).size := by rw [Bs_size, hs]; simp
  have hs0 : (Bs s)[0]'hpos = b := by rw [get_bt (Bs s) 0 hpos, Bs_list, hs]; rfl
  have q0 : ((Bs s).size : Int) ≠ 0 := by omega
  have q0b : (((Bs s).size : Int) == 0) = false := beq_eq_false_iff_ne.2 q0
  have q1 : ((b.toNat : Int) == 35) = false := beq_eq_false_iff_ne.2 (by intro e; exact hb (UInt8.toNat_inj.1 (by show b.toNat = 35; omega)))
  have hm0 := lineM_cut s b t hs hb
  obtain ⟨tl, hwl, htl⟩ := wl_head s
  rw [hcv] at hm0 hwl
  have hln := wl_len s hl
  have hwd := word_len s
  have hsp := wsplit_bs s hl w
  have hN1 : 1 ≤ (wl s 0).length := by rw [hwl]; simp
  have hm1 : lineM s = wordM vtick (ws (cutb s).2.1) := by rw [hm0, if_neg (by decide), if_pos (Or.inl rfl)]
  have hsz : (Bs vtick).size = 4 := by rw [Bs_size]; rfl
  have HE : Hid (lineM s = wordM vtick (ws s).tail) := Lib.hid (by rw [hm1, verb_more s vtick hcv h1])
  have q3 : (((wl s 0).length : Int) == 1) = false := beq_eq_false_iff_ne.2 (by omega)
  have htg := tail_get s
  have htn := tail_len s
  clear h1 hm1
  obtain ⟨WL, hWL⟩ : ∃ WL, WL = wl s 0 := ⟨_, rfl⟩
  rw [← hWL] at hwl hln hwd hsp hN1 q3 htg htn
  obtain ⟨T, hT⟩ : ∃ T, T = (ws s).tail := ⟨_, rfl⟩
  rw [← hT] at htg htn HE htl
  have HTG := Lib.hid (And.intro htg htn)
  have HC := Lib.hid hsp
  have HWL := Lib.hid (And.intro hWL (And.intro hwl htl))
  have HLN := Lib.hid (And.intro hln (And.intro hN1 hwd))
  have HL := Lib.hid hl
  have n5 : (WL.length : Int) ≤ 5001 := by omega
  have n1 : (1 : Int) ≤ (WL.length : Int) := by omega
  clear hT htg htn hwl htl hln hwd hsp hN1 hWL hm0 hs hb hl
  go_enter Tryz.func8, Tryz.ntmps8
  obtain ⟨i0, hi, hz0, hz1, hz2⟩ := info_parts infoI
  have HII1 := Lib.hid hi
  have HZ01 := Lib.hid hz0
  have HZ11 := Lib.hid hz1
  have HZ21 := Lib.hid hz2
  clear hi hz0 hz1 hz2
  go_wp2_with fail
  refine HC.out.mono ?_
  rintro e1 w1 ⟨u, rfl, ho1, hb1⟩
  obtain ⟨g, c, rfl, hgb, hgl, hgc, hx⟩ := wo_at ho1 (by have := HLN.out.2.1; omega)
  obtain ⟨x0, x1⟩ := hx 0 _ (by rw [HWL.out.2.1]; rfl)
  have HO := Lib.hid (And.intro hx (And.intro hgl hgb))
  have HB1 := Lib.hid hb1
  clear ho1 hb1 hx x1
  go_wp2_with fail
  go_loopw [10, 9] (fun vk va wr => ∃ (k : Nat) (a : List Int), 1 ≤ k ∧ k ≤ WL.length ∧ vk = .int .i64 (k : Int) ∧ Hid (numsM (T.take (k - 1)) = some a) ∧ Hid (wr.ownsRow w1.heap.size 3 1 va a.length (itc a)) ∧ Hid (Below w1.heap.size w1 wr)) (fun vk _ _ => WL.length + 1 - (intOf vk).toNat)
  case atStart => exact ⟨1, [], Nat.le_refl _, HLN.out.2.1, rfl, Lib.hid rfl, Lib.hid ⟨rfl, .inl ⟨rfl, rfl⟩⟩, Lib.hid (Below.refl _ _)⟩
  case round =>
    obtain ⟨k, a, hk1, hk, rfl, hnm, hown, hB⟩ := hrel
    have k0 : (0 : Int) ≤ (k : Int) := by omega
    have k5 : (k : Int) ≤ 5001 := by omega
    by_cases hkn : k < WL.length
    · obtain ⟨x, hx⟩ : ∃ x, x = WL[k] := ⟨_, rfl⟩
      have hxk : WL[k]? = some x := by rw [List.getElem?_eq_getElem hkn, hx]
      have hc0 := (hB.out.cell (p := ⟨g, _, none⟩) HO.out.2.1).trans (HO.out.1 k x hxk).1
      have q5 : (k : Int) < (WL.length : Int) := by omega
      have HX : Hid (x.1.length ≤ 5000) := Lib.hid (by have := HLN.out.2.2 k x hxk; have := HL.out; omega)
      have HTK : Hid (T[k - 1]? = some x.1) := Lib.hid (HTG.out.1 (k - 1) x (by rw [show k - 1 + 1 = k by omega]; exact hxk))
      have HK := Lib.hid (And.intro hk1 hkn)
      clear hx hxk hkn hk hk1
      rcases hin : inum x.1 with _ | y
      · have HI := Lib.hid hin
        clear hin
        go_wp2_with fail
        refine (rnum_is x.1 (by have := HX.out; omega) _).mono ?_
        rintro e2 w2 ⟨⟨xn, rfl, _⟩, hb2⟩
        rw [HI.out]
        have HB2 := Lib.hid (Below.step HB1.out (hB.out.trans (hb2.mono hB.out.size)))
        clear hb2
        go_wp2_with fail
        go_ret3
        refine OnP.mk_er (HE.out.trans ?_) rfl rfl HB2.out
        unfold wordM
        rw [numsM_none T x.1 (List.mem_of_getElem? HTK.out) HI.out]
        rfl
      · have HI := Lib.hid hin
        clear hin
        go_wp2_with fail
        refine (rnum_is x.1 (by have := HX.out; omega) _).mono ?_
        rintro e2 w2 ⟨⟨xn, rfl, hxn⟩, hb2⟩
        rw [HI.out]
        obtain rfl := hxn y HI.out
        have HB2 := Lib.hid hb2
        clear hb2 hxn
        have N1 : Hid (a.length + 1 ≤ maxLen) := Lib.hid (by have h1 := numsM_len _ _ hnm.out; rw [List.length_take] at h1; have h2 := HLN.out.1; have h3 := HTG.out.2; unfold maxLen; omega)
        have N2 : Hid ((a.length + 1) * 8 ≤ 140737488355328) := Lib.hid (by have h1 := numsM_len _ _ hnm.out; rw [List.length_take] at h1; have h2 := HLN.out.1; have h3 := HTG.out.2; omega)
        have HOW := Lib.hid (rkept hown.out (HB2.out.alloc HB2.out.size (.cells #[.int .i64 xn] 3)))
        go_wp2_with (at_builtin; refine wpList_append_any _ rfl (.tmp 94) (.tmp 96) 53 rfl w1.heap.size 3 i0 (.int .i64 0) 1 8 Tryz.underlying53 HII1.out HZ01.out HZ11.out HZ21.out rfl (by decide) _ a.length (itc a) rfl HOW.out _ (some ⟨w2.heap.size, 0, none⟩) 1 1 [.int .i64 xn] rfl (reads_newN w2 1 1 [.int .i64 xn] 3 rfl) (by intro u hu; simp only [List.mem_cons, List.not_mem_nil, or_false] at hu; subst hu; rfl) N1.out N2.out (by have h1 := hB.out.size; have h2 := HB2.out.size; simp; omega) ?_; intro v3 w3 hown3 hgrow3 hb3; have HP := Lib.hid (And.intro hown3 hgrow3); clear hown3 hgrow3 hb3)
        go_roundw
        case rel =>
          refine ⟨k + 1, a ++ [xn], by omega, HK.out.2, by go_num, Lib.hid ?_, Lib.hid ?_, Lib.hid ?_⟩
          · rw [show k + 1 - 1 = k - 1 + 1 by have := HK.out.1; omega, List.take_add_one, HTK.out]
            exact numsM_snoc _ _ _ _ hnm.out HI.out
          · rw [List.length_append, ← itc_snoc]
            exact HP.out.1
          · exact Below.grown ((hB.out.trans (HB2.out.mono hB.out.size)).alloc (by have h1 := hB.out.size; have := HB2.out.size; omega) _) HP.out.2 (by have h1 := hB.out.size; have h2 := HB2.out.size; simp; omega) (fun b e => (HOW.out.lt b e).1)
        case measure => have := HK.out.2; simp [intOf]; omega
    · have hke : k = WL.length := by omega
      subst hke
      have hfin := hnm.out
      rw [List.take_of_length_le (by have := HTG.out.2; omega)] at hfin
      have HN := Lib.hid hfin
      have hal : a.length = T.length := numsM_len _ _ hfin
      have HBB := Lib.hid (Below.step HB1.out hB.out)
      have hap : 0 < a.length := by have h1 := HTG.out.2; have h2 := HLN.out.2.1; have h3 := beq_eq_false_iff_ne.1 q3; omega
      obtain ⟨gn, cn, rfl, hgb2, hgl2, hgc2, hcn⟩ := own_int hown.out hap
      have HCN := Lib.hid (And.intro hcn (And.intro hgl2 hgb2))
      have hap2 : (1 : Int) ≤ (a.length : Int) := by omega
      clear hfin hk hkn hk1 hcn
      by_cases hl1 : a.length = 1
      · obtain ⟨n0, rfl⟩ := list1 hl1
        have c0 := HCN.out.1 0 _ rfl
        have HD := Lib.hid (doneM_tick n0)
        clear hl1 hap hal hap2
        simp only [List.length_cons, List.length_nil, Nat.zero_add, Nat.reduceAdd]
        go_wp2_with fail
        go_ret3
        exact OnP.mk_ok (HE.out.trans (by unfold wordM; rw [HN.out]; simp only; rw [HD.out])) rfl (reads_bl (L := [⟨2, 0, n0, []⟩]) (Bl.new _ (evs [⟨2, 0, n0, []⟩]) 39) rfl) (HBB.out.alloc HBB.out.size _)
      · have q6 : ((a.length : Int) == 1) = false := beq_eq_false_iff_ne.2 (by omega)
        have HD : Hid (doneM vtick a = none) := Lib.hid (by
          rcases a with _ | ⟨a, _ | ⟨b, t⟩⟩
          · simp at hap
          · simp at hl1
          · unfold doneM; rw [if_pos rfl])
        clear hl1 hap hal
        go_wp2_with fail
        go_ret3
        exact OnP.mk_er (HE.out.trans (by unfold wordM; rw [HN.out]; simp only; rw [HD.out])) rfl rfl HBB.out
set_option maxRecDepth 100000 in
set_option maxHeartbeats 4000000 in
theorem one_bare_vpick (s : List UInt8) (hl : s.length ≤ 5000) (b : UInt8) (t : List UInt8) (hs : s = b :: t) (hb : b ≠ 35) (hcv : (cutb s).1 = vpick) (h1 : (wl s 0).length = 1) (w : World) : Calls Tryz.prog 8 #[.string (Bs s)] w (OnP (lineM s) w) := by
  have e0 : ((Bs vpick).toList == [115, 97, 121]) = false := by rw [eq_lit]; decide
  have e1 : ((Bs vpick).toList == [116, 105, 99, 107]) = false := by rw [eq_lit]; decide
  have e2 : ((Bs vpick).toList == [112, 105, 99, 107]) = true := by rw [eq_lit]; decide
  have e3 : ((Bs vpick).toList == [100, 114, 97, 119]) = false := by rw [eq_lit]; decide
  have hpos : 0 < (Bs s).size := by rw [Bs_size, hs]; simp
  have hs0 : (Bs s)[0]'hpos = b := by rw [get_bt (Bs s) 0 hpos, Bs_list, hs]; rfl
  have q0 : ((Bs s).size : Int) ≠ 0 := by omega
  have q0b : (((Bs s).size : Int) == 0) = false := beq_eq_false_iff_ne.2 q0
  have q1 : ((b.toNat : Int) == 35) = false := beq_eq_false_iff_ne.2 (by intro e; exact hb (UInt8.toNat_inj.1 (by show b.toNat = 35; omega)))
  have hm0 := lineM_cut s b t hs hb
  obtain ⟨tl, hwl, htl⟩ := wl_head s
  rw [hcv] at hm0 hwl
  have hln := wl_len s hl
  have hwd := word_len s
  have hsp := wsplit_bs s hl w
  have hN1 : 1 ≤ (wl s 0).length := by rw [hwl]; simp
  have hm1 : lineM s = wordM vpick (ws (cutb s).2.1) := by rw [hm0, if_neg (by decide), if_pos (Or.inr (Or.inl rfl))]
  have hsz : (Bs vpick).size = 4 := by rw [Bs_size]; rfl
  have HE : Hid (lineM s = .er 13 5) := Lib.hid (by rw [hm1, verb_one s vpick hcv h1]; rfl)
  have q3 : (((wl s 0).length : Int) == 1) = true := by rw [beq_iff_eq]; omega
  clear h1 hm1
  obtain ⟨WL, hWL⟩ : ∃ WL, WL = wl s 0 := ⟨_, rfl⟩
  rw [← hWL] at hwl hln hwd hsp hN1 q3
  have HC := Lib.hid hsp
  have HWL := Lib.hid (And.intro hWL (And.intro hwl htl))
  have HLN := Lib.hid (And.intro hln (And.intro hN1 hwd))
  have HL := Lib.hid hl
  have n5 : (WL.length : Int) ≤ 5001 := by omega
  have n1 : (1 : Int) ≤ (WL.length : Int) := by omega
  clear hwl htl hln hwd hsp hN1 hWL hm0 hs hb hl
  go_enter Tryz.func8, Tryz.ntmps8
  go_wp2_with fail
  refine HC.out.mono ?_
  rintro e1 w1 ⟨u, rfl, ho1, hb1⟩
  obtain ⟨g, c, rfl, hgb, hgl, hgc, hx⟩ := wo_at ho1 (by have := HLN.out.2.1; omega)
  obtain ⟨x0, x1⟩ := hx 0 _ (by rw [HWL.out.2.1]; rfl)
  have HO := Lib.hid (And.intro hx (And.intro hgl hgb))
  have HB1 := Lib.hid hb1
  clear ho1 hb1 hx x1
  go_wp2_with fail
  go_ret3
  exact OnP.mk_er HE.out rfl rfl HB1.out
set_option maxRecDepth 100000 in
set_option maxHeartbeats 4000000 in
theorem one_nums_vpick (s : List UInt8) (hl : s.length ≤ 5000) (b : UInt8) (t : List UInt8) (hs : s = b :: t) (hb : b ≠ 35) (hcv : (cutb s).1 = vpick) (h1 : (wl s 0).length ≠ 1) (w : World) : Calls Tryz.prog 8 #[.string (Bs s)] w (OnP (lineM s) w) := by
  have e0 : ((Bs vpick).toList == [115, 97, 121]) = false := by rw [eq_lit]; decide
  have e1 : ((Bs vpick).toList == [116, 105, 99, 107]) = false := by rw [eq_lit]; decide
  have e2 : ((Bs vpick).toList == [112, 105, 99, 107]) = true := by rw [eq_lit]; decide
  have e3 : ((Bs vpick).toList == [100, 114, 97, 119]) = false := by rw [eq_lit]; decide
  have hpos : 0 < (Bs s).size := by rw [Bs_size, hs]; simp
  have hs0 : (Bs s)[0]'hpos = b := by rw [get_bt (Bs s) 0 hpos, Bs_list, hs]; rfl
  have q0 : ((Bs s).size : Int) ≠ 0 := by omega
  have q0b : (((Bs s).size : Int) == 0) = false := beq_eq_false_iff_ne.2 q0
  have q1 : ((b.toNat : Int) == 35) = false := beq_eq_false_iff_ne.2 (by intro e; exact hb (UInt8.toNat_inj.1 (by show b.toNat = 35; omega)))
  have hm0 := lineM_cut s b t hs hb
  obtain ⟨tl, hwl, htl⟩ := wl_head s
  rw [hcv] at hm0 hwl
  have hln := wl_len s hl
  have hwd := word_len s
  have hsp := wsplit_bs s hl w
  have hN1 : 1 ≤ (wl s 0).length := by rw [hwl]; simp
  have hm1 : lineM s = wordM vpick (ws (cutb s).2.1) := by rw [hm0, if_neg (by decide), if_pos (Or.inr (Or.inl rfl))]
  have hsz : (Bs vpick).size = 4 := by rw [Bs_size]; rfl
  have HE : Hid (lineM s = wordM vpick (ws s).tail) := Lib.hid (by rw [hm1, verb_more s vpick hcv h1])
  have q3 : (((wl s 0).length : Int) == 1) = false := beq_eq_false_iff_ne.2 (by omega)
  have htg := tail_get s
  have htn := tail_len s
  clear h1 hm1
  obtain ⟨WL, hWL⟩ : ∃ WL, WL = wl s 0 := ⟨_, rfl⟩
  rw [← hWL] at hwl hln hwd hsp hN1 q3 htg htn
  obtain ⟨T, hT⟩ : ∃ T, T = (ws s).tail := ⟨_, rfl⟩
  rw [← hT] at htg htn HE htl
  have HTG := Lib.hid (And.intro htg htn)
  have HC := Lib.hid hsp
  have HWL := Lib.hid (And.intro hWL (And.intro hwl htl))
  have HLN := Lib.hid (And.intro hln (And.intro hN1 hwd))
  have HL := Lib.hid hl
  have n5 : (WL.length : Int) ≤ 5001 := by omega
  have n1 : (1 : Int) ≤ (WL.length : Int) := by omega
  clear hT htg htn hwl htl hln hwd hsp hN1 hWL hm0 hs hb hl
  go_enter Tryz.func8, Tryz.ntmps8
  obtain ⟨i0, hi, hz0, hz1, hz2⟩ := info_parts infoI
  have HII1 := Lib.hid hi
  have HZ01 := Lib.hid hz0
  have HZ11 := Lib.hid hz1
  have HZ21 := Lib.hid hz2
  clear hi hz0 hz1 hz2
  go_wp2_with fail
  refine HC.out.mono ?_
  rintro e1 w1 ⟨u, rfl, ho1, hb1⟩
  obtain ⟨g, c, rfl, hgb, hgl, hgc, hx⟩ := wo_at ho1 (by have := HLN.out.2.1; omega)
  obtain ⟨x0, x1⟩ := hx 0 _ (by rw [HWL.out.2.1]; rfl)
  have HO := Lib.hid (And.intro hx (And.intro hgl hgb))
  have HB1 := Lib.hid hb1
  clear ho1 hb1 hx x1
  go_wp2_with fail
  go_loopw [10, 9] (fun vk va wr => ∃ (k : Nat) (a : List Int), 1 ≤ k ∧ k ≤ WL.length ∧ vk = .int .i64 (k : Int) ∧ Hid (numsM (T.take (k - 1)) = some a) ∧ Hid (wr.ownsRow w1.heap.size 3 1 va a.length (itc a)) ∧ Hid (Below w1.heap.size w1 wr)) (fun vk _ _ => WL.length + 1 - (intOf vk).toNat)
  case atStart => exact ⟨1, [], Nat.le_refl _, HLN.out.2.1, rfl, Lib.hid rfl, Lib.hid ⟨rfl, .inl ⟨rfl, rfl⟩⟩, Lib.hid (Below.refl _ _)⟩
  case round =>
    obtain ⟨k, a, hk1, hk, rfl, hnm, hown, hB⟩ := hrel
    have k0 : (0 : Int) ≤ (k : Int) := by omega
    have k5 : (k : Int) ≤ 5001 := by omega
    by_cases hkn : k < WL.length
    · obtain ⟨x, hx⟩ : ∃ x, x = WL[k] := ⟨_, rfl⟩
      have hxk : WL[k]? = some x := by rw [List.getElem?_eq_getElem hkn, hx]
      have hc0 := (hB.out.cell (p := ⟨g, _, none⟩) HO.out.2.1).trans (HO.out.1 k x hxk).1
      have q5 : (k : Int) < (WL.length : Int) := by omega
      have HX : Hid (x.1.length ≤ 5000) := Lib.hid (by have := HLN.out.2.2 k x hxk; have := HL.out; omega)
      have HTK : Hid (T[k - 1]? = some x.1) := Lib.hid (HTG.out.1 (k - 1) x (by rw [show k - 1 + 1 = k by omega]; exact hxk))
      have HK := Lib.hid (And.intro hk1 hkn)
      clear hx hxk hkn hk hk1
      rcases hin : inum x.1 with _ | y
      · have HI := Lib.hid hin
        clear hin
        go_wp2_with fail
        refine (rnum_is x.1 (by have := HX.out; omega) _).mono ?_
        rintro e2 w2 ⟨⟨xn, rfl, _⟩, hb2⟩
        rw [HI.out]
        have HB2 := Lib.hid (Below.step HB1.out (hB.out.trans (hb2.mono hB.out.size)))
        clear hb2
        go_wp2_with fail
        go_ret3
        refine OnP.mk_er (HE.out.trans ?_) rfl rfl HB2.out
        unfold wordM
        rw [numsM_none T x.1 (List.mem_of_getElem? HTK.out) HI.out]
        rfl
      · have HI := Lib.hid hin
        clear hin
        go_wp2_with fail
        refine (rnum_is x.1 (by have := HX.out; omega) _).mono ?_
        rintro e2 w2 ⟨⟨xn, rfl, hxn⟩, hb2⟩
        rw [HI.out]
        obtain rfl := hxn y HI.out
        have HB2 := Lib.hid hb2
        clear hb2 hxn
        have N1 : Hid (a.length + 1 ≤ maxLen) := Lib.hid (by have h1 := numsM_len _ _ hnm.out; rw [List.length_take] at h1; have h2 := HLN.out.1; have h3 := HTG.out.2; unfold maxLen; omega)
        have N2 : Hid ((a.length + 1) * 8 ≤ 140737488355328) := Lib.hid (by have h1 := numsM_len _ _ hnm.out; rw [List.length_take] at h1; have h2 := HLN.out.1; have h3 := HTG.out.2; omega)
        have HOW := Lib.hid (rkept hown.out (HB2.out.alloc HB2.out.size (.cells #[.int .i64 xn] 3)))
        go_wp2_with (at_builtin; refine wpList_append_any _ rfl (.tmp 94) (.tmp 96) 53 rfl w1.heap.size 3 i0 (.int .i64 0) 1 8 Tryz.underlying53 HII1.out HZ01.out HZ11.out HZ21.out rfl (by decide) _ a.length (itc a) rfl HOW.out _ (some ⟨w2.heap.size, 0, none⟩) 1 1 [.int .i64 xn] rfl (reads_newN w2 1 1 [.int .i64 xn] 3 rfl) (by intro u hu; simp only [List.mem_cons, List.not_mem_nil, or_false] at hu; subst hu; rfl) N1.out N2.out (by have h1 := hB.out.size; have h2 := HB2.out.size; simp; omega) ?_; intro v3 w3 hown3 hgrow3 hb3; have HP := Lib.hid (And.intro hown3 hgrow3); clear hown3 hgrow3 hb3)
        go_roundw
        case rel =>
          refine ⟨k + 1, a ++ [xn], by omega, HK.out.2, by go_num, Lib.hid ?_, Lib.hid ?_, Lib.hid ?_⟩
          · rw [show k + 1 - 1 = k - 1 + 1 by have := HK.out.1; omega, List.take_add_one, HTK.out]
            exact numsM_snoc _ _ _ _ hnm.out HI.out
          · rw [List.length_append, ← itc_snoc]
            exact HP.out.1
          · exact Below.grown ((hB.out.trans (HB2.out.mono hB.out.size)).alloc (by have h1 := hB.out.size; have := HB2.out.size; omega) _) HP.out.2 (by have h1 := hB.out.size; have h2 := HB2.out.size; simp; omega) (fun b e => (HOW.out.lt b e).1)
        case measure => have := HK.out.2; simp [intOf]; omega
    · have hke : k = WL.length := by omega
      subst hke
      have hfin := hnm.out
      rw [List.take_of_length_le (by have := HTG.out.2; omega)] at hfin
      have HN := Lib.hid hfin
      have hal : a.length = T.length := numsM_len _ _ hfin
      have HBB := Lib.hid (Below.step HB1.out hB.out)
      have hap : 0 < a.length := by have h1 := HTG.out.2; have h2 := HLN.out.2.1; have h3 := beq_eq_false_iff_ne.1 q3; omega
      obtain ⟨gn, cn, rfl, hgb2, hgl2, hgc2, hcn⟩ := own_int hown.out hap
      have HCN := Lib.hid (And.intro hcn (And.intro hgl2 hgb2))
      have hap2 : (1 : Int) ≤ (a.length : Int) := by omega
      clear hfin hk hkn hk1 hcn
      by_cases hl1 : a.length = 1
      · obtain ⟨n0, rfl⟩ := list1 hl1
        have HC0 := Lib.hid (HCN.out.1 0 _ rfl)
        have HD := Lib.hid (doneM_pick n0)
        have H2 : Hid ((1 : Nat) ≤ 10000) := Lib.hid (by omega)
        clear hl1 hap hal hap2
        simp only [List.length_cons, List.length_nil, Nat.zero_add, Nat.reduceAdd]
        obtain ⟨i1, hi, hz0, hz1, hz2⟩ := info_parts infoER
        have HII2 := Lib.hid hi
        have HZ02 := Lib.hid hz0
        have HZ12 := Lib.hid hz1
        have HZ22 := Lib.hid hz2
        clear hi hz0 hz1 hz2
        obtain ⟨WO, rfl⟩ : ∃ WO, WO = wr := ⟨_, rfl⟩
        go_wp2_with fail
        go_loopw [15, 14] (fun vi vo wx => ∃ (i : Nat), i ≤ 1 ∧ vi = .int .i64 (i : Int) ∧ Hid (wx.ownsRow WO.heap.size 39 4 vo i (evs (List.replicate i (⟨3, n0, 0, []⟩ : Sev)))) ∧ Hid (Below WO.heap.size WO wx)) (fun vi _ _ => 1 + 1 - (intOf vi).toNat)
        case atStart => exact ⟨0, Nat.zero_le _, rfl, Lib.hid ⟨rfl, .inl ⟨rfl, rfl⟩⟩, Lib.hid (Below.refl _ _)⟩
        case round =>
          obtain ⟨i, hii, rfl, howx, hBx⟩ := hrel
          have i0' : (0 : Int) ≤ (i : Int) := by omega
          have c0x := (hBx.out.cell (p := ⟨gn, _, none⟩) HCN.out.2.1).trans HC0.out
          by_cases hin : i < 1
          · have p1 : (i : Int) < 1 := by omega
            have HIN := Lib.hid hin
            have HOX := Lib.hid (rkept howx.out ((Below.refl wr.heap.size wr).alloc (Nat.le_refl _) (.cells (evc (⟨3, n0, 0, []⟩ : Sev)).toArray 39)))
            clear hii hin
            go_wp2_with (at_builtin; refine wpList_append_any _ rfl (.tmp 159) (.tmp 164) 30 rfl WO.heap.size 39 i1 (.agg #[.int .i64 0, .int .i64 0, .int .i64 0, .string ⟨#[]⟩]) 4 40 Tryz.underlying30 HII2.out HZ02.out HZ12.out HZ22.out rfl (by decide) _ i (evs (List.replicate i (⟨3, n0, 0, []⟩ : Sev))) rfl HOX.out _ (some ⟨wr.heap.size, 0, none⟩) 1 1 (evc (⟨3, n0, 0, []⟩ : Sev)) rfl (reads_newN wr 1 4 (evc (⟨3, n0, 0, []⟩ : Sev)) 39 rfl) (fun u hu => evs_one [(⟨3, n0, 0, []⟩ : Sev)] u (by simpa [evs] using hu)) (by have := HIN.out; have := H2.out; unfold maxLen; omega) (by have := HIN.out; have := H2.out; omega) (by have h1 := hBx.out.size; simp; omega) ?_; intro v3 w3 hown3 hgrow3 hb3; have HP := Lib.hid (And.intro hown3 hgrow3); clear hown3 hgrow3 hb3)
            go_roundw
            case rel =>
              refine ⟨i + 1, HIN.out, by go_num, Lib.hid ?_, Lib.hid ?_⟩
              · rw [← evs_snoc]
                exact HP.out.1
              · exact Below.grown (hBx.out.alloc hBx.out.size _) HP.out.2 (by have h1 := hBx.out.size; simp; omega) (fun b e => (HOX.out.lt b e).1)
            case measure => have := HIN.out; simp [intOf]; omega
          · obtain rfl : i = 1 := by omega
            obtain ⟨Ao, co, hvo⟩ := oshape howx.out
            subst hvo
            clear hii hin c0x
            go_wp2_with fail
            go_ret3
            exact OnP.mk_ok (L := List.replicate 1 ⟨3, n0, 0, []⟩) (HE.out.trans (by unfold wordM; rw [HN.out]; simp only; rw [show doneM vpick [n0] = some (List.replicate 1 ⟨3, n0, 0, []⟩) from HD.out])) (by simp) (Reads.of_own howx.out) (HBB.out.trans (hBx.out.mono HBB.out.size))
      · by_cases hl2 : a.length = 2
        · obtain ⟨n0, n1', rfl⟩ := list2 hl2
          have c1 := HCN.out.1 1 _ rfl
          by_cases hge : 2 ≤ n1'
          · by_cases hle : n1' ≤ 10000
            · obtain ⟨N, rfl⟩ : ∃ N : Nat, n1' = (N : Int) := ⟨n1'.toNat, by omega⟩
              have HC0 := Lib.hid (HCN.out.1 0 _ rfl)
              have HD := Lib.hid (doneM_picks n0 N ⟨hge, hle⟩)
              have H2 : Hid (N ≤ 10000) := Lib.hid (by omega)
              clear hl1 hl2 hap hal hap2
              simp only [List.length_cons, List.length_nil, Nat.zero_add, Nat.reduceAdd]
              obtain ⟨i1, hi, hz0, hz1, hz2⟩ := info_parts infoER
              have HII2 := Lib.hid hi
              have HZ02 := Lib.hid hz0
              have HZ12 := Lib.hid hz1
              have HZ22 := Lib.hid hz2
              clear hi hz0 hz1 hz2
              obtain ⟨WO, rfl⟩ : ∃ WO, WO = wr := ⟨_, rfl⟩
              go_wp2_with fail
              go_loopw [15, 14] (fun vi vo wx => ∃ (i : Nat), i ≤ N ∧ vi = .int .i64 (i : Int) ∧ Hid (wx.ownsRow WO.heap.size 39 4 vo i (evs (List.replicate i (⟨3, n0, 0, []⟩ : Sev)))) ∧ Hid (Below WO.heap.size WO wx)) (fun vi _ _ => N + 1 - (intOf vi).toNat)
              case atStart => exact ⟨0, Nat.zero_le _, rfl, Lib.hid ⟨rfl, .inl ⟨rfl, rfl⟩⟩, Lib.hid (Below.refl _ _)⟩
              case round =>
                obtain ⟨i, hii, rfl, howx, hBx⟩ := hrel
                have i0' : (0 : Int) ≤ (i : Int) := by omega
                have c0x := (hBx.out.cell (p := ⟨gn, _, none⟩) HCN.out.2.1).trans HC0.out
                by_cases hin : i < N
                · have p1 : (i : Int) < (N : Int) := by omega
                  have HIN := Lib.hid hin
                  have HOX := Lib.hid (rkept howx.out ((Below.refl wr.heap.size wr).alloc (Nat.le_refl _) (.cells (evc (⟨3, n0, 0, []⟩ : Sev)).toArray 39)))
                  clear hii hin
                  go_wp2_with (at_builtin; refine wpList_append_any _ rfl (.tmp 159) (.tmp 164) 30 rfl WO.heap.size 39 i1 (.agg #[.int .i64 0, .int .i64 0, .int .i64 0, .string ⟨#[]⟩]) 4 40 Tryz.underlying30 HII2.out HZ02.out HZ12.out HZ22.out rfl (by decide) _ i (evs (List.replicate i (⟨3, n0, 0, []⟩ : Sev))) rfl HOX.out _ (some ⟨wr.heap.size, 0, none⟩) 1 1 (evc (⟨3, n0, 0, []⟩ : Sev)) rfl (reads_newN wr 1 4 (evc (⟨3, n0, 0, []⟩ : Sev)) 39 rfl) (fun u hu => evs_one [(⟨3, n0, 0, []⟩ : Sev)] u (by simpa [evs] using hu)) (by have := HIN.out; have := H2.out; unfold maxLen; omega) (by have := HIN.out; have := H2.out; omega) (by have h1 := hBx.out.size; simp; omega) ?_; intro v3 w3 hown3 hgrow3 hb3; have HP := Lib.hid (And.intro hown3 hgrow3); clear hown3 hgrow3 hb3)
                  go_roundw
                  case rel =>
                    refine ⟨i + 1, HIN.out, by go_num, Lib.hid ?_, Lib.hid ?_⟩
                    · rw [← evs_snoc]
                      exact HP.out.1
                    · exact Below.grown (hBx.out.alloc hBx.out.size _) HP.out.2 (by have h1 := hBx.out.size; simp; omega) (fun b e => (HOX.out.lt b e).1)
                  case measure => have := HIN.out; simp [intOf]; omega
                · obtain rfl : N = i := by omega
                  obtain ⟨Ao, co, hvo⟩ := oshape howx.out
                  subst hvo
                  clear hii hin c0x
                  go_wp2_with fail
                  go_ret3
                  exact OnP.mk_ok (L := List.replicate N ⟨3, n0, 0, []⟩) (HE.out.trans (by unfold wordM; rw [HN.out]; simp only; rw [show doneM vpick [n0, (N : Int)] = some (List.replicate N ⟨3, n0, 0, []⟩) from HD.out])) (by simp) (Reads.of_own howx.out) (HBB.out.trans (hBx.out.mono HBB.out.size))
            · have HD : Hid (doneM vpick [n0, n1'] = none) := Lib.hid (by unfold doneM; rw [if_neg (by decide), if_neg (by decide)]; simp only; rw [if_neg (by omega)])
              clear hl1 hl2 hap hal hap2
              simp only [List.length_cons, List.length_nil, Nat.zero_add, Nat.reduceAdd]
              go_wp2_with fail
              go_ret3
              exact OnP.mk_er (HE.out.trans (by unfold wordM; rw [HN.out]; simp only; rw [HD.out])) rfl rfl HBB.out
          · have HD : Hid (doneM vpick [n0, n1'] = none) := Lib.hid (by unfold doneM; rw [if_neg (by decide), if_neg (by decide)]; simp only; rw [if_neg (by omega)])
            clear hl1 hl2 hap hal hap2
            simp only [List.length_cons, List.length_nil, Nat.zero_add, Nat.reduceAdd]
            go_wp2_with fail
            go_ret3
            exact OnP.mk_er (HE.out.trans (by unfold wordM; rw [HN.out]; simp only; rw [HD.out])) rfl rfl HBB.out
        · have q6 : ((a.length : Int) == 1) = false := beq_eq_false_iff_ne.2 (by omega)
          have q7 : ((a.length : Int) == 2) = false := beq_eq_false_iff_ne.2 (by omega)
          have HD : Hid (doneM vpick a = none) := Lib.hid (by
            rcases a with _ | ⟨a, _ | ⟨b, _ | ⟨c, t⟩⟩⟩
            · simp at hap
            · simp at hl1
            · simp at hl2
            · unfold doneM; rw [if_neg (by decide), if_neg (by decide)])
          clear hl1 hl2 hap hal
          go_wp2_with fail
          go_ret3
          exact OnP.mk_er (HE.out.trans (by unfold wordM; rw [HN.out]; simp only; rw [HD.out])) rfl rfl HBB.out
set_option maxRecDepth 100000 in
set_option maxHeartbeats 4000000 in
theorem one_bare_vdraw (s : List UInt8) (hl : s.length ≤ 5000) (b : UInt8) (t : List UInt8) (hs : s = b :: t) (hb : b ≠ 35) (hcv : (cutb s).1 = vdraw) (h1 : (wl s 0).length = 1) (w : World) : Calls Tryz.prog 8 #[.string (Bs s)] w (OnP (lineM s) w) := by
  have e0 : ((Bs vdraw).toList == [115, 97, 121]) = false := by rw [eq_lit]; decide
  have e1 : ((Bs vdraw).toList == [116, 105, 99, 107]) = false := by rw [eq_lit]; decide
  have e2 : ((Bs vdraw).toList == [112, 105, 99, 107]) = false := by rw [eq_lit]; decide
  have e3 : ((Bs vdraw).toList == [100, 114, 97, 119]) = true := by rw [eq_lit]; decide
  have hpos : 0 < (Bs s).size := by rw [Bs_size, hs]; simp
  have hs0 : (Bs s)[0]'hpos = b := by rw [get_bt (Bs s) 0 hpos, Bs_list, hs]; rfl
  have q0 : ((Bs s).size : Int) ≠ 0 := by omega
  have q0b : (((Bs s).size : Int) == 0) = false := beq_eq_false_iff_ne.2 q0
  have q1 : ((b.toNat : Int) == 35) = false := beq_eq_false_iff_ne.2 (by intro e; exact hb (UInt8.toNat_inj.1 (by show b.toNat = 35; omega)))
  have hm0 := lineM_cut s b t hs hb
  obtain ⟨tl, hwl, htl⟩ := wl_head s
  rw [hcv] at hm0 hwl
  have hln := wl_len s hl
  have hwd := word_len s
  have hsp := wsplit_bs s hl w
  have hN1 : 1 ≤ (wl s 0).length := by rw [hwl]; simp
  have hm1 : lineM s = wordM vdraw (ws (cutb s).2.1) := by rw [hm0, if_neg (by decide), if_pos (Or.inr (Or.inr rfl))]
  have hsz : (Bs vdraw).size = 4 := by rw [Bs_size]; rfl
  have HE : Hid (lineM s = .er 13 5) := Lib.hid (by rw [hm1, verb_one s vdraw hcv h1]; rfl)
  have q3 : (((wl s 0).length : Int) == 1) = true := by rw [beq_iff_eq]; omega
  clear h1 hm1
  obtain ⟨WL, hWL⟩ : ∃ WL, WL = wl s 0 := ⟨_, rfl⟩
  rw [← hWL] at hwl hln hwd hsp hN1 q3
  have HC := Lib.hid hsp
  have HWL := Lib.hid (And.intro hWL (And.intro hwl htl))
  have HLN := Lib.hid (And.intro hln (And.intro hN1 hwd))
  have HL := Lib.hid hl
  have n5 : (WL.length : Int) ≤ 5001 := by omega
  have n1 : (1 : Int) ≤ (WL.length : Int) := by omega
  clear hwl htl hln hwd hsp hN1 hWL hm0 hs hb hl
  go_enter Tryz.func8, Tryz.ntmps8
  go_wp2_with fail
  refine HC.out.mono ?_
  rintro e1 w1 ⟨u, rfl, ho1, hb1⟩
  obtain ⟨g, c, rfl, hgb, hgl, hgc, hx⟩ := wo_at ho1 (by have := HLN.out.2.1; omega)
  obtain ⟨x0, x1⟩ := hx 0 _ (by rw [HWL.out.2.1]; rfl)
  have HO := Lib.hid (And.intro hx (And.intro hgl hgb))
  have HB1 := Lib.hid hb1
  clear ho1 hb1 hx x1
  go_wp2_with fail
  go_ret3
  exact OnP.mk_er HE.out rfl rfl HB1.out
set_option maxRecDepth 100000 in
set_option maxHeartbeats 4000000 in
theorem one_nums_vdraw (s : List UInt8) (hl : s.length ≤ 5000) (b : UInt8) (t : List UInt8) (hs : s = b :: t) (hb : b ≠ 35) (hcv : (cutb s).1 = vdraw) (h1 : (wl s 0).length ≠ 1) (w : World) : Calls Tryz.prog 8 #[.string (Bs s)] w (OnP (lineM s) w) := by
  have e0 : ((Bs vdraw).toList == [115, 97, 121]) = false := by rw [eq_lit]; decide
  have e1 : ((Bs vdraw).toList == [116, 105, 99, 107]) = false := by rw [eq_lit]; decide
  have e2 : ((Bs vdraw).toList == [112, 105, 99, 107]) = false := by rw [eq_lit]; decide
  have e3 : ((Bs vdraw).toList == [100, 114, 97, 119]) = true := by rw [eq_lit]; decide
  have hpos : 0 < (Bs s).size := by rw [Bs_size, hs]; simp
  have hs0 : (Bs s)[0]'hpos = b := by rw [get_bt (Bs s) 0 hpos, Bs_list, hs]; rfl
  have q0 : ((Bs s).size : Int) ≠ 0 := by omega
  have q0b : (((Bs s).size : Int) == 0) = false := beq_eq_false_iff_ne.2 q0
  have q1 : ((b.toNat : Int) == 35) = false := beq_eq_false_iff_ne.2 (by intro e; exact hb (UInt8.toNat_inj.1 (by show b.toNat = 35; omega)))
  have hm0 := lineM_cut s b t hs hb
  obtain ⟨tl, hwl, htl⟩ := wl_head s
  rw [hcv] at hm0 hwl
  have hln := wl_len s hl
  have hwd := word_len s
  have hsp := wsplit_bs s hl w
  have hN1 : 1 ≤ (wl s 0).length := by rw [hwl]; simp
  have hm1 : lineM s = wordM vdraw (ws (cutb s).2.1) := by rw [hm0, if_neg (by decide), if_pos (Or.inr (Or.inr rfl))]
  have hsz : (Bs vdraw).size = 4 := by rw [Bs_size]; rfl
  have HE : Hid (lineM s = wordM vdraw (ws s).tail) := Lib.hid (by rw [hm1, verb_more s vdraw hcv h1])
  have q3 : (((wl s 0).length : Int) == 1) = false := beq_eq_false_iff_ne.2 (by omega)
  have htg := tail_get s
  have htn := tail_len s
  clear h1 hm1
  obtain ⟨WL, hWL⟩ : ∃ WL, WL = wl s 0 := ⟨_, rfl⟩
  rw [← hWL] at hwl hln hwd hsp hN1 q3 htg htn
  obtain ⟨T, hT⟩ : ∃ T, T = (ws s).tail := ⟨_, rfl⟩
  rw [← hT] at htg htn HE htl
  have HTG := Lib.hid (And.intro htg htn)
  have HC := Lib.hid hsp
  have HWL := Lib.hid (And.intro hWL (And.intro hwl htl))
  have HLN := Lib.hid (And.intro hln (And.intro hN1 hwd))
  have HL := Lib.hid hl
  have n5 : (WL.length : Int) ≤ 5001 := by omega
  have n1 : (1 : Int) ≤ (WL.length : Int) := by omega
  clear hT htg htn hwl htl hln hwd hsp hN1 hWL hm0 hs hb hl
  go_enter Tryz.func8, Tryz.ntmps8
  obtain ⟨i0, hi, hz0, hz1, hz2⟩ := info_parts infoI
  have HII1 := Lib.hid hi
  have HZ01 := Lib.hid hz0
  have HZ11 := Lib.hid hz1
  have HZ21 := Lib.hid hz2
  clear hi hz0 hz1 hz2
  go_wp2_with fail
  refine HC.out.mono ?_
  rintro e1 w1 ⟨u, rfl, ho1, hb1⟩
  obtain ⟨g, c, rfl, hgb, hgl, hgc, hx⟩ := wo_at ho1 (by have := HLN.out.2.1; omega)
  obtain ⟨x0, x1⟩ := hx 0 _ (by rw [HWL.out.2.1]; rfl)
  have HO := Lib.hid (And.intro hx (And.intro hgl hgb))
  have HB1 := Lib.hid hb1
  clear ho1 hb1 hx x1
  go_wp2_with fail
  go_loopw [10, 9] (fun vk va wr => ∃ (k : Nat) (a : List Int), 1 ≤ k ∧ k ≤ WL.length ∧ vk = .int .i64 (k : Int) ∧ Hid (numsM (T.take (k - 1)) = some a) ∧ Hid (wr.ownsRow w1.heap.size 3 1 va a.length (itc a)) ∧ Hid (Below w1.heap.size w1 wr)) (fun vk _ _ => WL.length + 1 - (intOf vk).toNat)
  case atStart => exact ⟨1, [], Nat.le_refl _, HLN.out.2.1, rfl, Lib.hid rfl, Lib.hid ⟨rfl, .inl ⟨rfl, rfl⟩⟩, Lib.hid (Below.refl _ _)⟩
  case round =>
    obtain ⟨k, a, hk1, hk, rfl, hnm, hown, hB⟩ := hrel
    have k0 : (0 : Int) ≤ (k : Int) := by omega
    have k5 : (k : Int) ≤ 5001 := by omega
    by_cases hkn : k < WL.length
    · obtain ⟨x, hx⟩ : ∃ x, x = WL[k] := ⟨_, rfl⟩
      have hxk : WL[k]? = some x := by rw [List.getElem?_eq_getElem hkn, hx]
      have hc0 := (hB.out.cell (p := ⟨g, _, none⟩) HO.out.2.1).trans (HO.out.1 k x hxk).1
      have q5 : (k : Int) < (WL.length : Int) := by omega
      have HX : Hid (x.1.length ≤ 5000) := Lib.hid (by have := HLN.out.2.2 k x hxk; have := HL.out; omega)
      have HTK : Hid (T[k - 1]? = some x.1) := Lib.hid (HTG.out.1 (k - 1) x (by rw [show k - 1 + 1 = k by omega]; exact hxk))
      have HK := Lib.hid (And.intro hk1 hkn)
      clear hx hxk hkn hk hk1
      rcases hin : inum x.1 with _ | y
      · have HI := Lib.hid hin
        clear hin
        go_wp2_with fail
        refine (rnum_is x.1 (by have := HX.out; omega) _).mono ?_
        rintro e2 w2 ⟨⟨xn, rfl, _⟩, hb2⟩
        rw [HI.out]
        have HB2 := Lib.hid (Below.step HB1.out (hB.out.trans (hb2.mono hB.out.size)))
        clear hb2
        go_wp2_with fail
        go_ret3
        refine OnP.mk_er (HE.out.trans ?_) rfl rfl HB2.out
        unfold wordM
        rw [numsM_none T x.1 (List.mem_of_getElem? HTK.out) HI.out]
        rfl
      · have HI := Lib.hid hin
        clear hin
        go_wp2_with fail
        refine (rnum_is x.1 (by have := HX.out; omega) _).mono ?_
        rintro e2 w2 ⟨⟨xn, rfl, hxn⟩, hb2⟩
        rw [HI.out]
        obtain rfl := hxn y HI.out
        have HB2 := Lib.hid hb2
        clear hb2 hxn
        have N1 : Hid (a.length + 1 ≤ maxLen) := Lib.hid (by have h1 := numsM_len _ _ hnm.out; rw [List.length_take] at h1; have h2 := HLN.out.1; have h3 := HTG.out.2; unfold maxLen; omega)
        have N2 : Hid ((a.length + 1) * 8 ≤ 140737488355328) := Lib.hid (by have h1 := numsM_len _ _ hnm.out; rw [List.length_take] at h1; have h2 := HLN.out.1; have h3 := HTG.out.2; omega)
        have HOW := Lib.hid (rkept hown.out (HB2.out.alloc HB2.out.size (.cells #[.int .i64 xn] 3)))
        go_wp2_with (at_builtin; refine wpList_append_any _ rfl (.tmp 94) (.tmp 96) 53 rfl w1.heap.size 3 i0 (.int .i64 0) 1 8 Tryz.underlying53 HII1.out HZ01.out HZ11.out HZ21.out rfl (by decide) _ a.length (itc a) rfl HOW.out _ (some ⟨w2.heap.size, 0, none⟩) 1 1 [.int .i64 xn] rfl (reads_newN w2 1 1 [.int .i64 xn] 3 rfl) (by intro u hu; simp only [List.mem_cons, List.not_mem_nil, or_false] at hu; subst hu; rfl) N1.out N2.out (by have h1 := hB.out.size; have h2 := HB2.out.size; simp; omega) ?_; intro v3 w3 hown3 hgrow3 hb3; have HP := Lib.hid (And.intro hown3 hgrow3); clear hown3 hgrow3 hb3)
        go_roundw
        case rel =>
          refine ⟨k + 1, a ++ [xn], by omega, HK.out.2, by go_num, Lib.hid ?_, Lib.hid ?_, Lib.hid ?_⟩
          · rw [show k + 1 - 1 = k - 1 + 1 by have := HK.out.1; omega, List.take_add_one, HTK.out]
            exact numsM_snoc _ _ _ _ hnm.out HI.out
          · rw [List.length_append, ← itc_snoc]
            exact HP.out.1
          · exact Below.grown ((hB.out.trans (HB2.out.mono hB.out.size)).alloc (by have h1 := hB.out.size; have := HB2.out.size; omega) _) HP.out.2 (by have h1 := hB.out.size; have h2 := HB2.out.size; simp; omega) (fun b e => (HOW.out.lt b e).1)
        case measure => have := HK.out.2; simp [intOf]; omega
    · have hke : k = WL.length := by omega
      subst hke
      have hfin := hnm.out
      rw [List.take_of_length_le (by have := HTG.out.2; omega)] at hfin
      have HN := Lib.hid hfin
      have hal : a.length = T.length := numsM_len _ _ hfin
      have HBB := Lib.hid (Below.step HB1.out hB.out)
      have hap : 0 < a.length := by have h1 := HTG.out.2; have h2 := HLN.out.2.1; have h3 := beq_eq_false_iff_ne.1 q3; omega
      obtain ⟨gn, cn, rfl, hgb2, hgl2, hgc2, hcn⟩ := own_int hown.out hap
      have HCN := Lib.hid (And.intro hcn (And.intro hgl2 hgb2))
      have hap2 : (1 : Int) ≤ (a.length : Int) := by omega
      clear hfin hk hkn hk1 hcn
      by_cases hl1 : a.length = 2
      · obtain ⟨n0, n1', rfl⟩ := list2 hl1
        have c0 := HCN.out.1 0 _ rfl
        have c1 := HCN.out.1 1 _ rfl
        have HD := Lib.hid (doneM_draw n0 n1')
        clear hl1 hap hal hap2
        simp only [List.length_cons, List.length_nil, Nat.zero_add, Nat.reduceAdd]
        go_wp2_with fail
        go_region
        all_goals go_wp2_with fail
        all_goals go_ret3
        all_goals exact OnP.mk_ok (HE.out.trans (by unfold wordM; rw [HN.out]; simp only; rw [HD.out])) rfl (reads_bl (L := [⟨4, n0, n1', []⟩]) (Bl.new wr (evs [⟨4, n0, n1', []⟩]) 39) rfl) (Below.drew (HBB.out.alloc HBB.out.size _))
      · have q6 : ((a.length : Int) == 2) = false := beq_eq_false_iff_ne.2 (by omega)
        have HD : Hid (doneM vdraw a = none) := Lib.hid (by
          rcases a with _ | ⟨a, _ | ⟨b, _ | ⟨c, t⟩⟩⟩
          · simp at hap
          · unfold doneM; rw [if_neg (by decide), if_pos rfl]
          · simp at hl1
          · unfold doneM; rw [if_neg (by decide), if_pos rfl])
        clear hl1 hap hal
        go_wp2_with fail
        go_ret3
        exact OnP.mk_er (HE.out.trans (by unfold wordM; rw [HN.out]; simp only; rw [HD.out])) rfl rfl HBB.out
theorem one_is (s : List UInt8) (hl : s.length ≤ 5000) (w : World) : Calls Tryz.prog 8 #[.string (Bs s)] w (OnP (lineM s) w) := by
  rcases hs : s with _ | ⟨b, t⟩
  · exact one_nil w
  · rw [← hs]
    by_cases hb : b = 35
    · exact one_mark s b t hs hb w
    · by_cases n0 : (cutb s).1 = vsay
      · by_cases h3 : (wl s 0).length < 3
        · exact one_say_few s hl b t hs hb n0 h3 w
        · exact one_say s hl b t hs hb n0 (by omega) w
      · by_cases n1 : (cutb s).1 = vtick
        · by_cases h1 : (wl s 0).length = 1
          · exact one_bare_vtick s hl b t hs hb n1 h1 w
          · exact one_nums_vtick s hl b t hs hb n1 h1 w
        · by_cases n2 : (cutb s).1 = vpick
          · by_cases h1 : (wl s 0).length = 1
            · exact one_bare_vpick s hl b t hs hb n2 h1 w
            · exact one_nums_vpick s hl b t hs hb n2 h1 w
          · by_cases n3 : (cutb s).1 = vdraw
            · by_cases h1 : (wl s 0).length = 1
              · exact one_bare_vdraw s hl b t hs hb n3 h1 w
              · exact one_nums_vdraw s hl b t hs hb n3 h1 w
            · exact one_none s hl b t hs hb _ rfl n0 n1 n2 n3 w

end Go.Proofs.YtafnipgeeampjaaGreatDoor
