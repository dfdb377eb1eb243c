/-
  The document's reading of a line: all but its verbs with numbers.
-/
import Derived.Test.YtafnipgeeampjaaGreatDoorRows
import Derived.Test.YtafnipgeeampjaaGreatDoorKit
import Derived.Test.YtafnipgeeampjaaGreatDoorApp
import Derived.Test.YtafnipgeeampjaaGreatDoorQuiet
import Derived.WalkKit
import Derived.ProofKit
import Derived.OpenShut
import Derived.ShutString
import Derived.Below
import Derived.Outline
import Derived.WalkLawsBesides
import Derived.WalkSpells
import Derived.Handy
import Derived.Deep.QuietTactic
import Derived.BigQuiet
import Derived.RegionTactic
import Derived.ChangeAlike
import Derived.Lib.Hide
import Derived.Laws.Rows
import Derived.Laws.Tables
import Derived.Laws.CopyOwn
import Derived.Laws.MakeOwn
import Derived.Laws.Entries
import Derived.Laws.OwnMore
import Derived.Deep.WholeRow
import Derived.Deep.LoopGhost
import Derived.Deep.AppendLies
import Derived.Deep.Draws
import Derived.Maps.AppendAt
import Derived.OwnWalk
import Derived.Deep.RegionHeld3
import Derived.Deep.Cut
import Derived.Deep.CutRange
import Derived.Deep.DeepCutAuto
import Derived.Deep.CutBlock
import Derived.Lib.SliceRun
import Derived.IntWalk
import Derived.Laws.Strings
import Derived.Lib.Bytealg
import Derived.Lib.Strings
import Derived.Laws.Externs
import Derived.Test.YtafnipgeeampjaaGreatDoorSrW
import Derived.Test.YtafnipgeeampjaaGreatDoorSrNm
import Derived.Test.YtafnipgeeampjaaGreatDoorSrTt
import Derived.Test.YtafnipgeeampjaaGreatDoorSrO
import Derived.OwnWalk
namespace Go.Proofs.YtafnipgeeampjaaGreatDoor
open Go.ChangeShapes Go.WideShapes Go.ChangeAt Go.RowKit
/-- What the document's reading of a line gives. -/
def OnP (m : Sr) (w : World) (e : Ending) (w' : World) : Prop :=
  (match m with
   | .ok L => ∃ A c, e = .returned (.tuple #[.slice A L.length c, .int .i64 0, .int .i64 0]) ∧ Reads w' w'.heap.size 4 A L.length (evs L)
   | .er c p => e = .returned (.tuple #[.slice none 0 0, .int .i64 (c : Int), .int .i64 (p : Int)])) ∧ Below w.heap.size w w'
theorem OnP.ok {L : List Sev} {m : Sr} {w w' : World} {e : Ending} (h : OnP m w e w') (hm : m = .ok L) : ∃ A c, e = .returned (.tuple #[.slice A L.length c, .int .i64 0, .int .i64 0]) ∧ Reads w' w'.heap.size 4 A L.length (evs L) ∧ Below w.heap.size w w' := by
  subst hm
  obtain ⟨⟨A, c, h1, h2⟩, h3⟩ := h
  exact ⟨A, c, h1, h2, h3⟩
theorem OnP.er {c p : Nat} {m : Sr} {w w' : World} {e : Ending} (h : OnP m w e w') (hm : m = .er c p) : e = .returned (.tuple #[.slice none 0 0, .int .i64 (c : Int), .int .i64 (p : Int)]) ∧ Below w.heap.size w w' := by
  subst hm
  exact h
theorem OnP.mk_ok {L : List Sev} {m : Sr} {w w' : World} {A : Option Addr} {c n : Nat} (hm : m = .ok L) (hn : L.length = n) (h : Reads w' w'.heap.size 4 A n (evs L)) (hb : Below w.heap.size w w') : OnP m w (.returned (.tuple #[.slice A n c, .int .i64 0, .int .i64 0])) w' := by
  subst hm
  subst hn
  exact ⟨⟨A, c, rfl, h⟩, hb⟩
theorem OnP.mk_er {c p : Nat} {x y : Int} {m : Sr} {w w' : World} (hm : m = .er c p) (hx : x = (c : Int)) (hy : y = (p : Int)) (hb : Below w.heap.size w w') : OnP m w (.returned (.tuple #[.slice none 0 0, .int .i64 x, .int .i64 y])) w' := by
  subst hm
  subst hx
  subst hy
  exact ⟨rfl, hb⟩
/-- A row of words: its cells. -/
theorem wo_at {w : World} {base n : Nat} {v : Value} {X : List Wo} (h : w.ownsRow base 51 2 v n (wv X)) (h0 : 0 < n) : ∃ g c, v = .slice (some ⟨g, 0, none⟩) n c ∧ base ≤ g ∧ g < w.heap.size ∧ n ≤ c ∧ ∀ (i : Nat) (e : Wo), X[i]? = some e → w.cell? ⟨g, i * 2, none⟩ = some (.string (Bs e.1)) ∧ w.cell? ⟨g, i * 2 + 1, none⟩ = some (.int .i64 (e.2 : Int)) := by
  rcases h.2 with ⟨_, h2⟩ | ⟨g, c, cur, hv, hg, hh, hc, _, _, hr⟩
  · omega
  · refine ⟨g, c, hv, hg, blk_lt hh, hc, fun i e hi => ?_⟩
    have key : ∀ (j : Nat) (u : Value), (wv X)[j]? = some u → w.cell? ⟨g, j, none⟩ = some u := by
      intro j u hj
      rw [cell_of_row _ _ _ _ _ _ hh]
      rw [← hr, List.getElem?_take] at hj
      split at hj
      · simpa using hj
      · cases hj
    obtain ⟨g0, g1⟩ := wv_get _ _ _ hi
    exact ⟨key _ _ g0, key _ _ g1⟩
theorem infoER : (Tryz.prog.info? 39).map (fun i => (i.zero, i.size, i.bytes)) = some (some (.agg #[.int .i64 0, .int .i64 0, .int .i64 0, .string ⟨#[]⟩]), 4, 40) := by kernel_rfl
theorem wsplit_bs (s : List UInt8) (hs : s.length ≤ 5000) (w : World) : Calls Tryz.prog 18 #[.string (Bs s)] w (WoIs w (wl s 0)) := by
  have c := wsplit_is (Bs s) (by rw [Bs_size]; omega) w
  rwa [Bs_list] at c
theorem wl_len (s : List UInt8) (hs : s.length ≤ 5000) : (wl s 0).length ≤ 5001 := by
  have h1 : (wl s 0).length = (ws s).length := by unfold ws; rw [List.length_map]
  have hp := ws_pos s
  rcases hw : ws s with _ | ⟨x, L⟩
  · rw [hw] at hp; simp at hp
  · have := (ws_size s x (by rw [hw]; exact List.mem_cons_self ..)).2
    omega
theorem word_len (s : List UInt8) (i : Nat) (x : Wo) (h : (wl s 0)[i]? = some x) : x.1.length ≤ s.length := (ws_size s x.1 (by unfold ws; exact List.mem_map.2 ⟨x, List.mem_of_getElem? h, rfl⟩)).1
theorem drop_bs (s : List UInt8) (f : Nat) (hf : f ≤ s.length) : (Bs s).extract f (Bs s).size = Bs (s.drop f) := by
  rw [sub_Bs (Bs s) f (Bs s).size (by rw [Bs_size]; exact hf) (Nat.le_refl _), Bs_list, Bs_size, List.take_of_length_le (by rw [List.length_drop]; exact Nat.le_refl _)]
set_option maxRecDepth 100000 in
set_option maxHeartbeats 4000000 in
theorem one_nil (w : World) : Calls Tryz.prog 8 #[.string (Bs [])] w (OnP (lineM []) w) := by
  have q : ((Bs []).size : Int) = 0 := rfl
  have HE : Hid (lineM [] = .ok []) := Lib.hid (by unfold lineM; rw [if_pos (Or.inl rfl)])
  go_enter Tryz.func8, Tryz.ntmps8
  go_wp2_with fail
  go_ret3
  exact OnP.mk_ok HE.out rfl Reads.none_ (Below.refl _ _)
set_option maxRecDepth 100000 in
set_option maxHeartbeats 4000000 in
theorem one_mark (s : List UInt8) (b : UInt8) (t : List UInt8) (hs : s = b :: t) (hb : b = 35) (w : World) : Calls Tryz.prog 8 #[.string (Bs s)] w (OnP (lineM s) w) := by
  have hpos : 0 < (Bs s).size := by rw [Bs_size, hs]; simp
  have hs0 : (Bs s)[0]'hpos = b := by rw [get_bt (Bs s) 0 hpos, Bs_list, hs]; rfl
  have q0 : ((Bs s).size : Int) ≠ 0 := by omega
  have q0b : (((Bs s).size : Int) == 0) = false := beq_eq_false_iff_ne.2 q0
  have q1 : ((b.toNat : Int) == 35) = true := by rw [hb]; rfl
  have HE : Hid (lineM s = .ok []) := Lib.hid (by unfold lineM; rw [if_pos (Or.inr (by rw [hs, hb]; rfl))])
  clear hs hb
  go_enter Tryz.func8, Tryz.ntmps8
  go_wp2_with fail
  go_ret3
  exact OnP.mk_ok HE.out rfl Reads.none_ (Below.refl _ _)
set_option maxRecDepth 100000 in
set_option maxHeartbeats 4000000 in
theorem one_none (s : List UInt8) (hl : s.length ≤ 5000) (b : UInt8) (t : List UInt8) (hs : s = b :: t) (hb : b ≠ 35) (cw : List UInt8) (hcv : (cutb s).1 = cw) (n0 : cw ≠ vsay) (n1' : cw ≠ vtick) (n2 : cw ≠ vpick) (n3 : cw ≠ vdraw) (w : World) : Calls Tryz.prog 8 #[.string (Bs s)] w (OnP (lineM s) w) := by
  have e0 : ((Bs cw).toList == [115, 97, 121]) = false := by rw [eq_lit]; exact beq_eq_false_iff_ne.2 n0
  have e1 : ((Bs cw).toList == [116, 105, 99, 107]) = false := by rw [eq_lit]; exact beq_eq_false_iff_ne.2 n1'
  have e2 : ((Bs cw).toList == [112, 105, 99, 107]) = false := by rw [eq_lit]; exact beq_eq_false_iff_ne.2 n2
  have e3 : ((Bs cw).toList == [100, 114, 97, 119]) = false := by rw [eq_lit]; exact beq_eq_false_iff_ne.2 n3
  have hpos : 0 < (Bs s).size := by rw [Bs_size, hs]; simp
  have hs0 : (Bs s)[0]'hpos = b := by rw [get_bt (Bs s) 0 hpos, Bs_list, hs]; rfl
  have q0 : ((Bs s).size : Int) ≠ 0 := by omega
  have q0b : (((Bs s).size : Int) == 0) = false := beq_eq_false_iff_ne.2 q0
  have q1 : ((b.toNat : Int) == 35) = false := beq_eq_false_iff_ne.2 (by intro e; exact hb (UInt8.toNat_inj.1 (by show b.toNat = 35; omega)))
  have hm0 := lineM_cut s b t hs hb
  obtain ⟨tl, hwl, htl⟩ := wl_head s
  rw [hcv] at hm0 hwl
  have hln := wl_len s hl
  have hwd := word_len s
  have hsp := wsplit_bs s hl w
  have hN1 : 1 ≤ (wl s 0).length := by rw [hwl]; simp
  have HE : Hid (lineM s = .er 10 0) := Lib.hid (by rw [hm0, if_neg n0, if_neg (by rintro (h | h | h) <;> first | exact n1' h | exact n2 h | exact n3 h)])
  clear n0 n1' n2 n3
  obtain ⟨WL, hWL⟩ : ∃ WL, WL = wl s 0 := ⟨_, rfl⟩
  rw [← hWL] at hwl hln hwd hsp hN1
  have HC := Lib.hid hsp
  have HWL := Lib.hid (And.intro hWL (And.intro hwl htl))
  have HLN := Lib.hid (And.intro hln (And.intro hN1 hwd))
  have HL := Lib.hid hl
  have n5 : (WL.length : Int) ≤ 5001 := by omega
  have n1 : (1 : Int) ≤ (WL.length : Int) := by omega
  clear hwl htl hln hwd hsp hN1 hWL hm0 hs hb hl
  go_enter Tryz.func8, Tryz.ntmps8
  go_wp2_with fail
  refine HC.out.mono ?_
  rintro e1 w1 ⟨u, rfl, ho1, hb1⟩
  obtain ⟨g, c, rfl, hgb, hgl, hgc, hx⟩ := wo_at ho1 (by have := HLN.out.2.1; omega)
  obtain ⟨x0, x1⟩ := hx 0 _ (by rw [HWL.out.2.1]; rfl)
  have HO := Lib.hid (And.intro hx (And.intro hgl hgb))
  have HB1 := Lib.hid hb1
  clear ho1 hb1 hx x1
  go_wp2_with fail
  go_ret3
  exact OnP.mk_er HE.out rfl rfl HB1.out
set_option maxRecDepth 100000 in
set_option maxHeartbeats 4000000 in
theorem one_say_few (s : List UInt8) (hl : s.length ≤ 5000) (b : UInt8) (t : List UInt8) (hs : s = b :: t) (hb : b ≠ 35) (hcv : (cutb s).1 = vsay) (h3 : (wl s 0).length < 3) (w : World) : Calls Tryz.prog 8 #[.string (Bs s)] w (OnP (lineM s) w) := by
  have e0 : ((Bs vsay).toList == [115, 97, 121]) = true := by rw [eq_lit]; decide
  have e1 : ((Bs vsay).toList == [116, 105, 99, 107]) = false := by rw [eq_lit]; decide
  have e2 : ((Bs vsay).toList == [112, 105, 99, 107]) = false := by rw [eq_lit]; decide
  have e3 : ((Bs vsay).toList == [100, 114, 97, 119]) = false := by rw [eq_lit]; decide
  have hpos : 0 < (Bs s).size := by rw [Bs_size, hs]; simp
  have hs0 : (Bs s)[0]'hpos = b := by rw [get_bt (Bs s) 0 hpos, Bs_list, hs]; rfl
  have q0 : ((Bs s).size : Int) ≠ 0 := by omega
  have q0b : (((Bs s).size : Int) == 0) = false := beq_eq_false_iff_ne.2 q0
  have q1 : ((b.toNat : Int) == 35) = false := beq_eq_false_iff_ne.2 (by intro e; exact hb (UInt8.toNat_inj.1 (by show b.toNat = 35; omega)))
  have hm0 := lineM_cut s b t hs hb
  obtain ⟨tl, hwl, htl⟩ := wl_head s
  rw [hcv] at hm0 hwl
  have hln := wl_len s hl
  have hwd := word_len s
  have hsp := wsplit_bs s hl w
  have hN1 : 1 ≤ (wl s 0).length := by rw [hwl]; simp
  have HE : Hid (lineM s = .er 13 4) := Lib.hid (by rw [hm0, if_pos rfl]; exact say_few s h3)
  have q3 : ((wl s 0).length : Int) < 3 := by omega
  clear h3
  obtain ⟨WL, hWL⟩ : ∃ WL, WL = wl s 0 := ⟨_, rfl⟩
  rw [← hWL] at hwl hln hwd hsp hN1 q3
  have HC := Lib.hid hsp
  have HWL := Lib.hid (And.intro hWL (And.intro hwl htl))
  have HLN := Lib.hid (And.intro hln (And.intro hN1 hwd))
  have HL := Lib.hid hl
  have n5 : (WL.length : Int) ≤ 5001 := by omega
  have n1 : (1 : Int) ≤ (WL.length : Int) := by omega
  clear hwl htl hln hwd hsp hN1 hWL hm0 hs hb hl
  go_enter Tryz.func8, Tryz.ntmps8
  go_wp2_with fail
  refine HC.out.mono ?_
  rintro e1 w1 ⟨u, rfl, ho1, hb1⟩
  obtain ⟨g, c, rfl, hgb, hgl, hgc, hx⟩ := wo_at ho1 (by have := HLN.out.2.1; omega)
  obtain ⟨x0, x1⟩ := hx 0 _ (by rw [HWL.out.2.1]; rfl)
  have HO := Lib.hid (And.intro hx (And.intro hgl hgb))
  have HB1 := Lib.hid hb1
  clear ho1 hb1 hx x1
  go_wp2_with fail
  go_ret3
  exact OnP.mk_er HE.out rfl rfl HB1.out
set_option maxRecDepth 100000 in
set_option maxHeartbeats 4000000 in
theorem one_say (s : List UInt8) (hl : s.length ≤ 5000) (b : UInt8) (t : List UInt8) (hs : s = b :: t) (hb : b ≠ 35) (hcv : (cutb s).1 = vsay) (h3 : 3 ≤ (wl s 0).length) (w : World) : Calls Tryz.prog 8 #[.string (Bs s)] w (OnP (lineM s) w) := by
  have e0 : ((Bs vsay).toList == [115, 97, 121]) = true := by rw [eq_lit]; decide
  have e1 : ((Bs vsay).toList == [116, 105, 99, 107]) = false := by rw [eq_lit]; decide
  have e2 : ((Bs vsay).toList == [112, 105, 99, 107]) = false := by rw [eq_lit]; decide
  have e3 : ((Bs vsay).toList == [100, 114, 97, 119]) = false := by rw [eq_lit]; decide
  have hpos : 0 < (Bs s).size := by rw [Bs_size, hs]; simp
  have hs0 : (Bs s)[0]'hpos = b := by rw [get_bt (Bs s) 0 hpos, Bs_list, hs]; rfl
  have q0 : ((Bs s).size : Int) ≠ 0 := by omega
  have q0b : (((Bs s).size : Int) == 0) = false := beq_eq_false_iff_ne.2 q0
  have q1 : ((b.toNat : Int) == 35) = false := beq_eq_false_iff_ne.2 (by intro e; exact hb (UInt8.toNat_inj.1 (by show b.toNat = 35; omega)))
  have hm0 := lineM_cut s b t hs hb
  obtain ⟨tl, hwl, htl⟩ := wl_head s
  rw [hcv] at hm0 hwl
  have hln := wl_len s hl
  have hwd := word_len s
  have hsp := wsplit_bs s hl w
  have hN1 : 1 ≤ (wl s 0).length := by rw [hwl]; simp
  obtain ⟨xw, tw, hsw, hmr, hdr, hfs⟩ := say_more s h3
  obtain ⟨f2, hf2⟩ : ∃ f2, f2 = (cutb s).1.length + 1 + (cutb (cutb s).2.1).1.length + 1 := ⟨_, rfl⟩
  rw [← hf2] at hsw hdr hfs
  have hm1 : lineM s = sayM (cutb s).2.1 := by rw [hm0, if_pos rfl]
  rcases hcut : cutb (cutb s).2.1 with ⟨cw, cr, cm⟩
  rw [hcut] at hsw hmr hdr
  dsimp only at hsw hmr hdr
  have HE : Hid (lineM s = match inum cw with | some n => .ok [⟨1, n, 0, cr⟩] | none => .er 13 4) := Lib.hid (by rw [hm1]; unfold sayM; rw [hcut, hmr, if_pos rfl]; rfl)
  have hex := drop_bs s f2 hfs
  rw [hdr] at hex
  have q3 : ¬ ((wl s 0).length : Int) < 3 := by omega
  have q4 : (3 : Int) ≤ ((wl s 0).length : Int) := by omega
  have hf0 : (0 : Int) ≤ (f2 : Int) := by omega
  have hf1 : (f2 : Int) ≤ ((Bs s).size : Int) := by rw [Bs_size]; omega
  have hf3 : f2 ≤ (Bs s).size := by omega
  have hcl : cw.length ≤ 100000 := by
    have h1 := cutb_size (cutb s).2.1
    have h2 := cutb_size s
    rw [hcut] at h1
    dsimp only at h1
    omega
  have HCL := Lib.hid hcl
  have HSW := Lib.hid hsw
  clear hcl hm1 hcut hmr hdr hfs h3 hf2 hsw
  obtain ⟨WL, hWL⟩ : ∃ WL, WL = wl s 0 := ⟨_, rfl⟩
  rw [← hWL] at hwl hln hwd hsp hN1 q3 q4
  have HC := Lib.hid hsp
  have HWL := Lib.hid (And.intro hWL (And.intro hwl htl))
  have HLN := Lib.hid (And.intro hln (And.intro hN1 hwd))
  have HL := Lib.hid hl
  have n5 : (WL.length : Int) ≤ 5001 := by omega
  have n1 : (1 : Int) ≤ (WL.length : Int) := by omega
  clear hwl htl hln hwd hsp hN1 hWL hm0 hs hb hl
  rcases hin : inum cw with _ | y
  · have HI := Lib.hid hin
    clear hin
    go_enter Tryz.func8, Tryz.ntmps8
    go_wp2_with fail
    refine HC.out.mono ?_
    rintro e1 w1 ⟨u, rfl, ho1, hb1⟩
    obtain ⟨g, c, rfl, hgb, hgl, hgc, hx⟩ := wo_at ho1 (by have := HLN.out.2.1; omega)
    obtain ⟨x0, x1⟩ := hx 0 _ (by rw [HWL.out.2.1]; rfl)
    have HO := Lib.hid (And.intro hx (And.intro hgl hgb))
    have HB1 := Lib.hid hb1
    clear ho1 hb1 hx x1
    obtain ⟨y0, y1⟩ := HO.out.1 1 _ (by rw [HWL.out.1, HSW.out]; rfl)
    obtain ⟨z0, z1⟩ := HO.out.1 2 _ (by rw [HWL.out.1, HSW.out]; rfl)
    clear y1 z0
    go_wp2_with fail
    refine (rnum_is cw HCL.out _).mono ?_
    rintro e2 w2 ⟨⟨xn, rfl, hxn⟩, hb2⟩
    have HZ2 := Lib.hid ((hb2.cell (p := ⟨g, _, none⟩) HO.out.2.1).trans z1)
    have HB2 := Lib.hid (And.intro hxn (Below.step HB1.out hb2))
    clear hxn hb2 z1
    rw [HI.out]
    go_wp2_with fail
    go_ret3
    exact OnP.mk_er (HE.out.trans (by rw [HI.out])) rfl rfl HB2.out.2
  · have HI := Lib.hid hin
    clear hin
    go_enter Tryz.func8, Tryz.ntmps8
    go_wp2_with fail
    refine HC.out.mono ?_
    rintro e1 w1 ⟨u, rfl, ho1, hb1⟩
    obtain ⟨g, c, rfl, hgb, hgl, hgc, hx⟩ := wo_at ho1 (by have := HLN.out.2.1; omega)
    obtain ⟨x0, x1⟩ := hx 0 _ (by rw [HWL.out.2.1]; rfl)
    have HO := Lib.hid (And.intro hx (And.intro hgl hgb))
    have HB1 := Lib.hid hb1
    clear ho1 hb1 hx x1
    obtain ⟨y0, y1⟩ := HO.out.1 1 _ (by rw [HWL.out.1, HSW.out]; rfl)
    obtain ⟨z0, z1⟩ := HO.out.1 2 _ (by rw [HWL.out.1, HSW.out]; rfl)
    clear y1 z0
    go_wp2_with fail
    refine (rnum_is cw HCL.out _).mono ?_
    rintro e2 w2 ⟨⟨xn, rfl, hxn⟩, hb2⟩
    have HZ2 := Lib.hid ((hb2.cell (p := ⟨g, _, none⟩) HO.out.2.1).trans z1)
    have HB2 := Lib.hid (And.intro hxn (Below.step HB1.out hb2))
    clear hxn hb2 z1
    rw [HI.out]
    obtain rfl := HB2.out.1 y HI.out
    have z1 := HZ2.out
    go_wp2_with fail
    go_ret3
    exact OnP.mk_ok (L := [⟨1, xn, 0, cr⟩]) (HE.out.trans (by rw [HI.out])) rfl (reads_bl (L := [⟨1, xn, 0, cr⟩]) (Bl.new w2 (evs [⟨1, xn, 0, cr⟩]) 39) rfl) (HB2.out.2.alloc HB2.out.2.size _)

end Go.Proofs.YtafnipgeeampjaaGreatDoor
