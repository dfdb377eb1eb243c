/-
  The events of a line.
-/
import Derived.Test.YtafnipgeeampjaaGreatDoorRows
import Derived.Test.YtafnipgeeampjaaGreatDoorKit
import Derived.Test.YtafnipgeeampjaaGreatDoorApp
import Derived.Test.YtafnipgeeampjaaGreatDoorQuiet
import Derived.WalkKit
import Derived.ProofKit
import Derived.OpenShut
import Derived.ShutString
import Derived.Below
import Derived.Outline
import Derived.WalkLawsBesides
import Derived.WalkSpells
import Derived.Handy
import Derived.Deep.QuietTactic
import Derived.BigQuiet
import Derived.RegionTactic
import Derived.ChangeAlike
import Derived.Lib.Hide
import Derived.Laws.Rows
import Derived.Laws.Tables
import Derived.Laws.CopyOwn
import Derived.Laws.MakeOwn
import Derived.Laws.Entries
import Derived.Laws.OwnMore
import Derived.Deep.WholeRow
import Derived.Deep.LoopGhost
import Derived.Deep.AppendLies
import Derived.Deep.Draws
import Derived.Maps.AppendAt
import Derived.OwnWalk
import Derived.Deep.RegionHeld3
import Derived.Deep.Cut
import Derived.Deep.CutRange
import Derived.Deep.DeepCutAuto
import Derived.Deep.CutBlock
import Derived.Lib.SliceRun
import Derived.IntWalk
import Derived.Laws.Strings
import Derived.Lib.Bytealg
import Derived.Lib.Strings
import Derived.Laws.Externs
import Derived.Test.YtafnipgeeampjaaGreatDoorSrV
namespace Go.Proofs.YtafnipgeeampjaaGreatDoor
open Go.ChangeShapes Go.WideShapes Go.ChangeAt Go.RowKit
theorem lineM_cut (s : List UInt8) (b : UInt8) (t : List UInt8) (hs : s = b :: t) (hb : b ≠ 35) : lineM s = if (cutb s).1 = vsay then sayM (cutb s).2.1 else if (cutb s).1 = vtick ∨ (cutb s).1 = vpick ∨ (cutb s).1 = vdraw then wordM (cutb s).1 (ws (cutb s).2.1) else .er 10 0 := by
  unfold lineM
  rw [if_neg]
  rintro (h | h)
  · rw [hs] at h; cases h
  · rw [hs] at h
    exact hb (by simpa using h)
theorem er_ne {w : World} {c p : Int} {v : Value} (h : Er w c p v) : ∃ b, v = .iface 54 (.pointer (some ⟨b, 0, none⟩)) := by
  obtain ⟨b, e, _⟩ := h
  exact ⟨b, e⟩
set_option maxRecDepth 100000 in
set_option maxHeartbeats 4000000 in
theorem events_nil (w : World) : Calls Tryz.prog 15 #[.string (Bs [])] w (EvP (lineM []) w) := by
  have q : ((Bs []).toList == []) = true := by rw [eq_lit]; rfl
  have HE : Hid (lineM [] = .ok []) := Lib.hid (by unfold lineM; rw [if_pos (Or.inl rfl)])
  go_enter Tryz.func15, Tryz.ntmps15
  go_wp2_with fail
  go_ret2
  exact EvP.mk_ok HE.out Reads.none_ (Below.refl _ _)
set_option maxRecDepth 100000 in
set_option maxHeartbeats 4000000 in
theorem events_mark (s : List UInt8) (b : UInt8) (t : List UInt8) (hs : s = b :: t) (hb : b = 35) (w : World) : Calls Tryz.prog 15 #[.string (Bs s)] w (EvP (lineM s) w) := by
  have hpos : 0 < (Bs s).size := by rw [Bs_size, hs]; simp
  have hs0 : (Bs s)[0]'hpos = b := by rw [get_bt (Bs s) 0 hpos, Bs_list, hs]; rfl
  have q0 : ((Bs s).toList == []) = false := by rw [eq_lit, hs]; rfl
  have q1 : ((b.toNat : Int) == 35) = true := by rw [hb]; rfl
  have HE : Hid (lineM s = .ok []) := Lib.hid (by unfold lineM; rw [if_pos (Or.inr (by rw [hs, hb]; rfl))])
  clear hs hb
  go_enter Tryz.func15, Tryz.ntmps15
  go_wp2_with fail
  go_ret2
  exact EvP.mk_ok HE.out Reads.none_ (Below.refl _ _)
set_option maxRecDepth 100000 in
set_option maxHeartbeats 4000000 in
theorem events_say (s : List UInt8) (hl : s.length ≤ 6000) (b : UInt8) (t : List UInt8) (hs : s = b :: t) (hb : b ≠ 35) (cr : List UInt8) (cm : Bool) (hcut : cutb s = (vsay, cr, cm)) (w : World) : Calls Tryz.prog 15 #[.string (Bs s)] w (EvP (lineM s) w) := by
  have e0 : ((Bs vsay).toList == [115, 97, 121]) = true := by rw [eq_lit]; decide
  have e1 : ((Bs vsay).toList == [116, 105, 99, 107]) = false := by rw [eq_lit]; decide
  have e2 : ((Bs vsay).toList == [112, 105, 99, 107]) = false := by rw [eq_lit]; decide
  have e3 : ((Bs vsay).toList == [100, 114, 97, 119]) = false := by rw [eq_lit]; decide
  have hpos : 0 < (Bs s).size := by rw [Bs_size, hs]; simp
  have hs0 : (Bs s)[0]'hpos = b := by rw [get_bt (Bs s) 0 hpos, Bs_list, hs]; rfl
  have q0 : ((Bs s).toList == []) = false := by rw [eq_lit, hs]; rfl
  have q1 : ((b.toNat : Int) == 35) = false := beq_eq_false_iff_ne.2 (by intro e; exact hb (UInt8.toNat_inj.1 (by show b.toNat = 35; omega)))
  have hc := cut_l s (by omega) w
  have hz := cutb_size s
  have hm0 := lineM_cut s b t hs hb
  rw [hcut] at hc hz hm0
  dsimp only at hc hz hm0
  have HC := Lib.hid hc
  have HR : Hid (cr.length ≤ 6000) := Lib.hid (by omega)
  have HE : Hid (lineM s = sayM cr) := Lib.hid (by rw [hm0, if_pos rfl])
  clear hc hz hcut hs hb hl hm0
  go_enter Tryz.func15, Tryz.ntmps15
  go_wp2_with fail
  refine HC.out.mono ?_
  rintro e1 w1 ⟨rfl, hb1⟩
  have HB1 := Lib.hid hb1
  clear hb1
  go_wp2_with fail
  refine (say_is cr HR.out _).mono ?_
  rintro e2 w2 hp
  rcases hsm : sayM cr with L | ⟨c, p⟩
  · obtain ⟨A, cc, rfl, hr2, hb2⟩ := hp.ok hsm
    have HX := Lib.hid (And.intro hsm (And.intro hr2 hb2))
    clear hp hsm hr2 hb2
    go_wp2_with fail
    go_ret2
    exact EvP.mk_ok (HE.out.trans HX.out.1) HX.out.2.1 (Below.step HB1.out HX.out.2.2)
  · obtain ⟨v, rfl, hr2, hb2⟩ := hp.er hsm
    have HX := Lib.hid (And.intro hsm (And.intro hr2 hb2))
    clear hp hsm hr2 hb2
    go_wp2_with fail
    go_ret2
    exact EvP.mk_er (HE.out.trans HX.out.1) HX.out.2.1 (Below.step HB1.out HX.out.2.2)
set_option maxRecDepth 100000 in
set_option maxHeartbeats 4000000 in
theorem events_none (s : List UInt8) (hl : s.length ≤ 6000) (b : UInt8) (t : List UInt8) (hs : s = b :: t) (hb : b ≠ 35) (cw cr : List UInt8) (cm : Bool) (hcut : cutb s = (cw, cr, cm)) (n0 : cw ≠ vsay) (n1 : cw ≠ vtick) (n2 : cw ≠ vpick) (n3 : cw ≠ vdraw) (w : World) : Calls Tryz.prog 15 #[.string (Bs s)] w (EvP (lineM s) w) := by
  have e0 : ((Bs cw).toList == [115, 97, 121]) = false := by rw [eq_lit]; exact beq_eq_false_iff_ne.2 n0
  have e1 : ((Bs cw).toList == [116, 105, 99, 107]) = false := by rw [eq_lit]; exact beq_eq_false_iff_ne.2 n1
  have e2 : ((Bs cw).toList == [112, 105, 99, 107]) = false := by rw [eq_lit]; exact beq_eq_false_iff_ne.2 n2
  have e3 : ((Bs cw).toList == [100, 114, 97, 119]) = false := by rw [eq_lit]; exact beq_eq_false_iff_ne.2 n3
  have hpos : 0 < (Bs s).size := by rw [Bs_size, hs]; simp
  have hs0 : (Bs s)[0]'hpos = b := by rw [get_bt (Bs s) 0 hpos, Bs_list, hs]; rfl
  have q0 : ((Bs s).toList == []) = false := by rw [eq_lit, hs]; rfl
  have q1 : ((b.toNat : Int) == 35) = false := beq_eq_false_iff_ne.2 (by intro e; exact hb (UInt8.toNat_inj.1 (by show b.toNat = 35; omega)))
  have hc := cut_l s (by omega) w
  have hz := cutb_size s
  have hm0 := lineM_cut s b t hs hb
  rw [hcut] at hc hz hm0
  dsimp only at hc hz hm0
  have HC := Lib.hid hc
  have HR : Hid (cr.length ≤ 6000) := Lib.hid (by omega)
  have HE : Hid (lineM s = .er 10 0) := Lib.hid (by rw [hm0, if_neg n0, if_neg (by rintro (h | h | h) <;> first | exact n1 h | exact n2 h | exact n3 h)])
  clear n0 n1 n2 n3
  clear hc hz hcut hs hb hl hm0
  go_enter Tryz.func15, Tryz.ntmps15
  go_wp2_with fail
  refine HC.out.mono ?_
  rintro e1 w1 ⟨rfl, hb1⟩
  have HB1 := Lib.hid hb1
  clear hb1
  go_wp2_with fail
  refine (at_is 0 10 _).mono ?_
  rintro e3 w3 ⟨v, rfl, he, hb3⟩
  have HB3 := Lib.hid (And.intro he hb3)
  clear he hb3
  go_wp2_with fail
  go_ret2
  exact EvP.mk_er HE.out HB3.out.1 (Below.step HB1.out HB3.out.2)
set_option maxRecDepth 100000 in
set_option maxHeartbeats 4000000 in
theorem events_vtick (s : List UInt8) (hl : s.length ≤ 6000) (b : UInt8) (t : List UInt8) (hs : s = b :: t) (hb : b ≠ 35) (cr : List UInt8) (cm : Bool) (hcut : cutb s = (vtick, cr, cm)) (w : World) (hml : Ml w) : Calls Tryz.prog 15 #[.string (Bs s)] w (EvP (lineM s) w) := by
  have e0 : ((Bs vtick).toList == [115, 97, 121]) = false := by rw [eq_lit]; decide
  have e1 : ((Bs vtick).toList == [116, 105, 99, 107]) = true := by rw [eq_lit]; decide
  have e2 : ((Bs vtick).toList == [112, 105, 99, 107]) = false := by rw [eq_lit]; decide
  have e3 : ((Bs vtick).toList == [100, 114, 97, 119]) = false := by rw [eq_lit]; decide
  have hcm : cm = false → cr = [] := by have := (cutb_join s).2.2; rw [hcut] at this; exact this
  have HCM := Lib.hid hcm
  clear hcm
  have hpos : 0 < (Bs s).size := by rw [Bs_size, hs]; simp
  have hs0 : (Bs s)[0]'hpos = b := by rw [get_bt (Bs s) 0 hpos, Bs_list, hs]; rfl
  have q0 : ((Bs s).toList == []) = false := by rw [eq_lit, hs]; rfl
  have q1 : ((b.toNat : Int) == 35) = false := beq_eq_false_iff_ne.2 (by intro e; exact hb (UInt8.toNat_inj.1 (by show b.toNat = 35; omega)))
  have hc := cut_l s (by omega) w
  have hz := cutb_size s
  have hm0 := lineM_cut s b t hs hb
  rw [hcut] at hc hz hm0
  dsimp only at hc hz hm0
  have HC := Lib.hid hc
  have HR : Hid (cr.length ≤ 6000) := Lib.hid (by omega)
  have HE : Hid (lineM s = wordM vtick (ws cr)) := Lib.hid (by rw [hm0, if_neg (by decide), if_pos (Or.inl rfl)])
  have hsz : (Bs vtick).size = 4 := by rw [Bs_size]; rfl
  have HML := Lib.hid hml
  clear hml
  clear hc hz hcut hs hb hl hm0
  rcases hn : numsM (ws cr) with _ | n
  · have HN := Lib.hid hn
    clear hn
    cases cm with
    | false =>
      go_enter Tryz.func15, Tryz.ntmps15
      go_wp2_with fail
      refine HC.out.mono ?_
      rintro e1 w1 ⟨rfl, hb1⟩
      have HB1 := Lib.hid hb1
      clear hb1
      go_wp2_with fail
      refine (numbers_is cr HR.out _ (HML.out.below HB1.out)).mono ?_
      rintro e2 w2 hp
      obtain ⟨rfl, hb2⟩ := hp.none HN.out
      have HB2 := Lib.hid hb2
      clear hp hb2
      go_wp2_with fail
      refine (at_is 5 13 _).mono ?_
      rintro e3 w3 ⟨v, rfl, he, hb3⟩
      have HB3 := Lib.hid (And.intro he hb3)
      clear he hb3
      go_wp2_with fail
      go_ret2
      exact EvP.mk_er (HE.out.trans (by unfold wordM; rw [HN.out]; rfl)) HB3.out.1 (Below.step (Below.step HB1.out HB2.out) HB3.out.2)
    | true =>
      go_enter Tryz.func15, Tryz.ntmps15
      go_wp2_with fail
      refine HC.out.mono ?_
      rintro e1 w1 ⟨rfl, hb1⟩
      have HB1 := Lib.hid hb1
      clear hb1
      go_wp2_with fail
      refine (numbers_is cr HR.out _ (HML.out.below HB1.out)).mono ?_
      rintro e2 w2 hp
      obtain ⟨rfl, hb2⟩ := hp.none HN.out
      have HB2 := Lib.hid hb2
      clear hp hb2
      go_wp2_with fail
      refine (at_is 5 13 _).mono ?_
      rintro e3 w3 ⟨v, rfl, he, hb3⟩
      have HB3 := Lib.hid (And.intro he hb3)
      clear he hb3
      go_wp2_with fail
      go_ret2
      exact EvP.mk_er (HE.out.trans (by unfold wordM; rw [HN.out]; rfl)) HB3.out.1 (Below.step (Below.step HB1.out HB2.out) HB3.out.2)
  · obtain rfl : cm = true := by
      cases cm with
      | true => rfl
      | false =>
        rw [HCM.out rfl] at hn
        cases hn
    have HN := Lib.hid hn
    have HN0 : Hid (0 < n.length) := Lib.hid (by have h1 := numsM_len _ _ hn; have h2 := ws_pos cr; omega)
    clear hn
    rcases hd : doneM vtick n with _ | L
    · have HD := Lib.hid hd
      clear hd
      go_enter Tryz.func15, Tryz.ntmps15
      go_wp2_with fail
      refine HC.out.mono ?_
      rintro e1 w1 ⟨rfl, hb1⟩
      have HB1 := Lib.hid hb1
      clear hb1
      go_wp2_with fail
      refine (numbers_is cr HR.out _ (HML.out.below HB1.out)).mono ?_
      rintro e2 w2 hp
      obtain ⟨u, rfl, ho2, hb2⟩ := hp.some HN.out
      have HB2 := Lib.hid (And.intro ho2 hb2)
      clear hp ho2 hb2
      go_wp2_with fail
      refine (done_all vtick n (Or.inl rfl) HN0.out _ _ u HB2.out.1 HB2.out.2.size).mono ?_
      rintro e3 w3 hp3
      rw [HD.out] at hp3
      obtain ⟨rfl, hb3⟩ := hp3
      have HB3 := Lib.hid (Below.step HB1.out (HB2.out.2.trans hb3))
      clear hb3
      go_wp2_with fail
      refine (at_is 0 10 _).mono ?_
      rintro e4 w4 ⟨v, rfl, he, hb4⟩
      have HB4 := Lib.hid (And.intro he hb4)
      clear he hb4
      go_wp2_with fail
      go_ret2
      exact EvP.mk_er (HE.out.trans (by unfold wordM; rw [HN.out]; simp only; rw [HD.out])) HB4.out.1 (Below.step HB3.out HB4.out.2)
    · have HD := Lib.hid hd
      clear hd
      go_enter Tryz.func15, Tryz.ntmps15
      go_wp2_with fail
      refine HC.out.mono ?_
      rintro e1 w1 ⟨rfl, hb1⟩
      have HB1 := Lib.hid hb1
      clear hb1
      go_wp2_with fail
      refine (numbers_is cr HR.out _ (HML.out.below HB1.out)).mono ?_
      rintro e2 w2 hp
      obtain ⟨u, rfl, ho2, hb2⟩ := hp.some HN.out
      have HB2 := Lib.hid (And.intro ho2 hb2)
      clear hp ho2 hb2
      go_wp2_with fail
      refine (done_all vtick n (Or.inl rfl) HN0.out _ _ u HB2.out.1 HB2.out.2.size).mono ?_
      rintro e3 w3 hp3
      rw [HD.out] at hp3
      obtain ⟨⟨B, rfl, hl3⟩, hb3⟩ := hp3
      have HB3 := Lib.hid (Below.step HB1.out (HB2.out.2.trans hb3))
      have HL3 := Lib.hid hl3
      clear hb3 hl3
      go_wp2_with fail
      go_ret2
      exact EvP.mk_ok (HE.out.trans (by unfold wordM; rw [HN.out]; simp only; rw [HD.out])) (reads_bl HL3.out rfl) HB3.out
set_option maxRecDepth 100000 in
set_option maxHeartbeats 4000000 in
theorem events_vpick (s : List UInt8) (hl : s.length ≤ 6000) (b : UInt8) (t : List UInt8) (hs : s = b :: t) (hb : b ≠ 35) (cr : List UInt8) (cm : Bool) (hcut : cutb s = (vpick, cr, cm)) (w : World) (hml : Ml w) : Calls Tryz.prog 15 #[.string (Bs s)] w (EvP (lineM s) w) := by
  have e0 : ((Bs vpick).toList == [115, 97, 121]) = false := by rw [eq_lit]; decide
  have e1 : ((Bs vpick).toList == [116, 105, 99, 107]) = false := by rw [eq_lit]; decide
  have e2 : ((Bs vpick).toList == [112, 105, 99, 107]) = true := by rw [eq_lit]; decide
  have e3 : ((Bs vpick).toList == [100, 114, 97, 119]) = false := by rw [eq_lit]; decide
  have hcm : cm = false → cr = [] := by have := (cutb_join s).2.2; rw [hcut] at this; exact this
  have HCM := Lib.hid hcm
  clear hcm
  have hpos : 0 < (Bs s).size := by rw [Bs_size, hs]; simp
  have hs0 : (Bs s)[0]'hpos = b := by rw [get_bt (Bs s) 0 hpos, Bs_list, hs]; rfl
  have q0 : ((Bs s).toList == []) = false := by rw [eq_lit, hs]; rfl
  have q1 : ((b.toNat : Int) == 35) = false := beq_eq_false_iff_ne.2 (by intro e; exact hb (UInt8.toNat_inj.1 (by show b.toNat = 35; omega)))
  have hc := cut_l s (by omega) w
  have hz := cutb_size s
  have hm0 := lineM_cut s b t hs hb
  rw [hcut] at hc hz hm0
  dsimp only at hc hz hm0
  have HC := Lib.hid hc
  have HR : Hid (cr.length ≤ 6000) := Lib.hid (by omega)
  have HE : Hid (lineM s = wordM vpick (ws cr)) := Lib.hid (by rw [hm0, if_neg (by decide), if_pos (Or.inr (Or.inl rfl))])
  have hsz : (Bs vpick).size = 4 := by rw [Bs_size]; rfl
  have HML := Lib.hid hml
  clear hml
  clear hc hz hcut hs hb hl hm0
  rcases hn : numsM (ws cr) with _ | n
  · have HN := Lib.hid hn
    clear hn
    cases cm with
    | false =>
      go_enter Tryz.func15, Tryz.ntmps15
      go_wp2_with fail
      refine HC.out.mono ?_
      rintro e1 w1 ⟨rfl, hb1⟩
      have HB1 := Lib.hid hb1
      clear hb1
      go_wp2_with fail
      refine (numbers_is cr HR.out _ (HML.out.below HB1.out)).mono ?_
      rintro e2 w2 hp
      obtain ⟨rfl, hb2⟩ := hp.none HN.out
      have HB2 := Lib.hid hb2
      clear hp hb2
      go_wp2_with fail
      refine (at_is 5 13 _).mono ?_
      rintro e3 w3 ⟨v, rfl, he, hb3⟩
      have HB3 := Lib.hid (And.intro he hb3)
      clear he hb3
      go_wp2_with fail
      go_ret2
      exact EvP.mk_er (HE.out.trans (by unfold wordM; rw [HN.out]; rfl)) HB3.out.1 (Below.step (Below.step HB1.out HB2.out) HB3.out.2)
    | true =>
      go_enter Tryz.func15, Tryz.ntmps15
      go_wp2_with fail
      refine HC.out.mono ?_
      rintro e1 w1 ⟨rfl, hb1⟩
      have HB1 := Lib.hid hb1
      clear hb1
      go_wp2_with fail
      refine (numbers_is cr HR.out _ (HML.out.below HB1.out)).mono ?_
      rintro e2 w2 hp
      obtain ⟨rfl, hb2⟩ := hp.none HN.out
      have HB2 := Lib.hid hb2
      clear hp hb2
      go_wp2_with fail
      refine (at_is 5 13 _).mono ?_
      rintro e3 w3 ⟨v, rfl, he, hb3⟩
      have HB3 := Lib.hid (And.intro he hb3)
      clear he hb3
      go_wp2_with fail
      go_ret2
      exact EvP.mk_er (HE.out.trans (by unfold wordM; rw [HN.out]; rfl)) HB3.out.1 (Below.step (Below.step HB1.out HB2.out) HB3.out.2)
  · obtain rfl : cm = true := by
      cases cm with
      | true => rfl
      | false =>
        rw [HCM.out rfl] at hn
        cases hn
    have HN := Lib.hid hn
    have HN0 : Hid (0 < n.length) := Lib.hid (by have h1 := numsM_len _ _ hn; have h2 := ws_pos cr; omega)
    clear hn
    rcases hd : doneM vpick n with _ | L
    · have HD := Lib.hid hd
      clear hd
      go_enter Tryz.func15, Tryz.ntmps15
      go_wp2_with fail
      refine HC.out.mono ?_
      rintro e1 w1 ⟨rfl, hb1⟩
      have HB1 := Lib.hid hb1
      clear hb1
      go_wp2_with fail
      refine (numbers_is cr HR.out _ (HML.out.below HB1.out)).mono ?_
      rintro e2 w2 hp
      obtain ⟨u, rfl, ho2, hb2⟩ := hp.some HN.out
      have HB2 := Lib.hid (And.intro ho2 hb2)
      clear hp ho2 hb2
      go_wp2_with fail
      refine (done_all vpick n (Or.inr (Or.inl rfl)) HN0.out _ _ u HB2.out.1 HB2.out.2.size).mono ?_
      rintro e3 w3 hp3
      rw [HD.out] at hp3
      obtain ⟨rfl, hb3⟩ := hp3
      have HB3 := Lib.hid (Below.step HB1.out (HB2.out.2.trans hb3))
      clear hb3
      go_wp2_with fail
      refine (at_is 0 10 _).mono ?_
      rintro e4 w4 ⟨v, rfl, he, hb4⟩
      have HB4 := Lib.hid (And.intro he hb4)
      clear he hb4
      go_wp2_with fail
      go_ret2
      exact EvP.mk_er (HE.out.trans (by unfold wordM; rw [HN.out]; simp only; rw [HD.out])) HB4.out.1 (Below.step HB3.out HB4.out.2)
    · have HD := Lib.hid hd
      clear hd
      go_enter Tryz.func15, Tryz.ntmps15
      go_wp2_with fail
      refine HC.out.mono ?_
      rintro e1 w1 ⟨rfl, hb1⟩
      have HB1 := Lib.hid hb1
      clear hb1
      go_wp2_with fail
      refine (numbers_is cr HR.out _ (HML.out.below HB1.out)).mono ?_
      rintro e2 w2 hp
      obtain ⟨u, rfl, ho2, hb2⟩ := hp.some HN.out
      have HB2 := Lib.hid (And.intro ho2 hb2)
      clear hp ho2 hb2
      go_wp2_with fail
      refine (done_all vpick n (Or.inr (Or.inl rfl)) HN0.out _ _ u HB2.out.1 HB2.out.2.size).mono ?_
      rintro e3 w3 hp3
      rw [HD.out] at hp3
      obtain ⟨⟨B, rfl, hl3⟩, hb3⟩ := hp3
      have HB3 := Lib.hid (Below.step HB1.out (HB2.out.2.trans hb3))
      have HL3 := Lib.hid hl3
      clear hb3 hl3
      go_wp2_with fail
      go_ret2
      exact EvP.mk_ok (HE.out.trans (by unfold wordM; rw [HN.out]; simp only; rw [HD.out])) (reads_bl HL3.out rfl) HB3.out
set_option maxRecDepth 100000 in
set_option maxHeartbeats 4000000 in
theorem events_vdraw (s : List UInt8) (hl : s.length ≤ 6000) (b : UInt8) (t : List UInt8) (hs : s = b :: t) (hb : b ≠ 35) (cr : List UInt8) (cm : Bool) (hcut : cutb s = (vdraw, cr, cm)) (w : World) (hml : Ml w) : Calls Tryz.prog 15 #[.string (Bs s)] w (EvP (lineM s) w) := by
  have e0 : ((Bs vdraw).toList == [115, 97, 121]) = false := by rw [eq_lit]; decide
  have e1 : ((Bs vdraw).toList == [116, 105, 99, 107]) = false := by rw [eq_lit]; decide
  have e2 : ((Bs vdraw).toList == [112, 105, 99, 107]) = false := by rw [eq_lit]; decide
  have e3 : ((Bs vdraw).toList == [100, 114, 97, 119]) = true := by rw [eq_lit]; decide
  have hcm : cm = false → cr = [] := by have := (cutb_join s).2.2; rw [hcut] at this; exact this
  have HCM := Lib.hid hcm
  clear hcm
  have hpos : 0 < (Bs s).size := by rw [Bs_size, hs]; simp
  have hs0 : (Bs s)[0]'hpos = b := by rw [get_bt (Bs s) 0 hpos, Bs_list, hs]; rfl
  have q0 : ((Bs s).toList == []) = false := by rw [eq_lit, hs]; rfl
  have q1 : ((b.toNat : Int) == 35) = false := beq_eq_false_iff_ne.2 (by intro e; exact hb (UInt8.toNat_inj.1 (by show b.toNat = 35; omega)))
  have hc := cut_l s (by omega) w
  have hz := cutb_size s
  have hm0 := lineM_cut s b t hs hb
  rw [hcut] at hc hz hm0
  dsimp only at hc hz hm0
  have HC := Lib.hid hc
  have HR : Hid (cr.length ≤ 6000) := Lib.hid (by omega)
  have HE : Hid (lineM s = wordM vdraw (ws cr)) := Lib.hid (by rw [hm0, if_neg (by decide), if_pos (Or.inr (Or.inr rfl))])
  have hsz : (Bs vdraw).size = 4 := by rw [Bs_size]; rfl
  have HML := Lib.hid hml
  clear hml
  clear hc hz hcut hs hb hl hm0
  rcases hn : numsM (ws cr) with _ | n
  · have HN := Lib.hid hn
    clear hn
    cases cm with
    | false =>
      go_enter Tryz.func15, Tryz.ntmps15
      go_wp2_with fail
      refine HC.out.mono ?_
      rintro e1 w1 ⟨rfl, hb1⟩
      have HB1 := Lib.hid hb1
      clear hb1
      go_wp2_with fail
      refine (numbers_is cr HR.out _ (HML.out.below HB1.out)).mono ?_
      rintro e2 w2 hp
      obtain ⟨rfl, hb2⟩ := hp.none HN.out
      have HB2 := Lib.hid hb2
      clear hp hb2
      go_wp2_with fail
      refine (at_is 5 13 _).mono ?_
      rintro e3 w3 ⟨v, rfl, he, hb3⟩
      have HB3 := Lib.hid (And.intro he hb3)
      clear he hb3
      go_wp2_with fail
      go_ret2
      exact EvP.mk_er (HE.out.trans (by unfold wordM; rw [HN.out]; rfl)) HB3.out.1 (Below.step (Below.step HB1.out HB2.out) HB3.out.2)
    | true =>
      go_enter Tryz.func15, Tryz.ntmps15
      go_wp2_with fail
      refine HC.out.mono ?_
      rintro e1 w1 ⟨rfl, hb1⟩
      have HB1 := Lib.hid hb1
      clear hb1
      go_wp2_with fail
      refine (numbers_is cr HR.out _ (HML.out.below HB1.out)).mono ?_
      rintro e2 w2 hp
      obtain ⟨rfl, hb2⟩ := hp.none HN.out
      have HB2 := Lib.hid hb2
      clear hp hb2
      go_wp2_with fail
      refine (at_is 5 13 _).mono ?_
      rintro e3 w3 ⟨v, rfl, he, hb3⟩
      have HB3 := Lib.hid (And.intro he hb3)
      clear he hb3
      go_wp2_with fail
      go_ret2
      exact EvP.mk_er (HE.out.trans (by unfold wordM; rw [HN.out]; rfl)) HB3.out.1 (Below.step (Below.step HB1.out HB2.out) HB3.out.2)
  · obtain rfl : cm = true := by
      cases cm with
      | true => rfl
      | false =>
        rw [HCM.out rfl] at hn
        cases hn
    have HN := Lib.hid hn
    have HN0 : Hid (0 < n.length) := Lib.hid (by have h1 := numsM_len _ _ hn; have h2 := ws_pos cr; omega)
    clear hn
    rcases hd : doneM vdraw n with _ | L
    · have HD := Lib.hid hd
      clear hd
      go_enter Tryz.func15, Tryz.ntmps15
      go_wp2_with fail
      refine HC.out.mono ?_
      rintro e1 w1 ⟨rfl, hb1⟩
      have HB1 := Lib.hid hb1
      clear hb1
      go_wp2_with fail
      refine (numbers_is cr HR.out _ (HML.out.below HB1.out)).mono ?_
      rintro e2 w2 hp
      obtain ⟨u, rfl, ho2, hb2⟩ := hp.some HN.out
      have HB2 := Lib.hid (And.intro ho2 hb2)
      clear hp ho2 hb2
      go_wp2_with fail
      refine (done_all vdraw n (Or.inr (Or.inr rfl)) HN0.out _ _ u HB2.out.1 HB2.out.2.size).mono ?_
      rintro e3 w3 hp3
      rw [HD.out] at hp3
      obtain ⟨rfl, hb3⟩ := hp3
      have HB3 := Lib.hid (Below.step HB1.out (HB2.out.2.trans hb3))
      clear hb3
      go_wp2_with fail
      refine (at_is 0 10 _).mono ?_
      rintro e4 w4 ⟨v, rfl, he, hb4⟩
      have HB4 := Lib.hid (And.intro he hb4)
      clear he hb4
      go_wp2_with fail
      go_ret2
      exact EvP.mk_er (HE.out.trans (by unfold wordM; rw [HN.out]; simp only; rw [HD.out])) HB4.out.1 (Below.step HB3.out HB4.out.2)
    · have HD := Lib.hid hd
      clear hd
      go_enter Tryz.func15, Tryz.ntmps15
      go_wp2_with fail
      refine HC.out.mono ?_
      rintro e1 w1 ⟨rfl, hb1⟩
      have HB1 := Lib.hid hb1
      clear hb1
      go_wp2_with fail
      refine (numbers_is cr HR.out _ (HML.out.below HB1.out)).mono ?_
      rintro e2 w2 hp
      obtain ⟨u, rfl, ho2, hb2⟩ := hp.some HN.out
      have HB2 := Lib.hid (And.intro ho2 hb2)
      clear hp ho2 hb2
      go_wp2_with fail
      refine (done_all vdraw n (Or.inr (Or.inr rfl)) HN0.out _ _ u HB2.out.1 HB2.out.2.size).mono ?_
      rintro e3 w3 hp3
      rw [HD.out] at hp3
      obtain ⟨⟨B, rfl, hl3⟩, hb3⟩ := hp3
      have HB3 := Lib.hid (Below.step HB1.out (HB2.out.2.trans hb3))
      have HL3 := Lib.hid hl3
      clear hb3 hl3
      go_wp2_with fail
      go_ret2
      exact EvP.mk_ok (HE.out.trans (by unfold wordM; rw [HN.out]; simp only; rw [HD.out])) (reads_bl HL3.out rfl) HB3.out
theorem events_is (s : List UInt8) (hl : s.length ≤ 6000) (w : World) (hml : Ml w) : Calls Tryz.prog 15 #[.string (Bs s)] w (EvP (lineM s) w) := by
  rcases hs : s with _ | ⟨b, t⟩
  · exact events_nil w
  · rw [← hs]
    by_cases hb : b = 35
    · exact events_mark s b t hs hb w
    · rcases hcut : cutb s with ⟨cw, cr, cm⟩
      by_cases n0 : cw = vsay
      · subst n0; exact events_say s hl b t hs hb cr cm hcut w
      · by_cases n1 : cw = vtick
        · subst n1; exact events_vtick s hl b t hs hb cr cm hcut w hml
        · by_cases n2 : cw = vpick
          · subst n2; exact events_vpick s hl b t hs hb cr cm hcut w hml
          · by_cases n3 : cw = vdraw
            · subst n3; exact events_vdraw s hl b t hs hb cr cm hcut w hml
            · exact events_none s hl b t hs hb cw cr cm hcut n0 n1 n2 n3 w

end Go.Proofs.YtafnipgeeampjaaGreatDoor
