/-
  PlanKeeps: the walk.
-/
import Derived.Test.YtdlgpbmeeiakdaaRows
import Derived.Test.YtdlgpbmeeiakdaaKit
import Derived.Test.YtdlgpbmeeiakdaaApp
import Derived.Test.YtdlgpbmeeiakdaaEv
import Derived.Test.YtdlgpbmeeiakdaaEvP
import Derived.Test.YtdlgpbmeeiakdaaEvQ
import Derived.Test.YtdlgpbmeeiakdaaEvR
import Derived.Test.YtdlgpbmeeiakdaaQuiet
import Derived.Test.YtdlgpbmeeiakdaaRules
import Derived.Test.YtdlgpbmeeiakdaaCheck
import Derived.Test.YtdlgpbmeeiakdaaChk2
import Derived.Test.YtdlgpbmeeiakdaaPlA
import Derived.Test.YtdlgpbmeeiakdaaPlB
import Derived.Test.YtdlgpbmeeiakdaaPlC
import Derived.Test.YtdlgpbmeeiakdaaPlD
import Derived.Test.YtdlgpbmeeiakdaaPlE
import Derived.Test.YtdlgpbmeeiakdaaPlF
import Derived.Test.YtdlgpbmeeiakdaaPlI
import Derived.Test.YtdlgpbmeeiakdaaPlJ
import Derived.Test.YtdlgpbmeeiakdaaPlW
import Derived.Test.YtdlgpbmeeiakdaaMxA
import Derived.Test.YtdlgpbmeeiakdaaMxE
import Derived.Test.YtdlgpbmeeiakdaaMxF
import Derived.Test.YtdlgpbmeeiakdaaMxG
import Derived.Test.YtdlgpbmeeiakdaaMxH
import Derived.Test.YtdlgpbmeeiakdaaMxS
import Derived.Test.YtdlgpbmeeiakdaaKpN
import Derived.Test.YtdlgpbmeeiakdaaKpS
import Derived.WalkKit
import Derived.ProofKit
import Derived.OpenShut
import Derived.ShutString
import Derived.Below
import Derived.Outline
import Derived.WalkLawsBesides
import Derived.WalkSpells
import Derived.Handy
import Derived.Deep.QuietTactic
import Derived.BigQuiet
import Derived.RegionTactic
import Derived.ChangeAlike
import Derived.Lib.Hide
import Derived.Laws.Rows
import Derived.Laws.Tables
import Derived.Laws.CopyOwn
import Derived.Laws.MakeOwn
import Derived.Laws.Entries
import Derived.Laws.OwnMore
import Derived.Deep.WholeRow
import Derived.Deep.LoopGhost
import Derived.Deep.AppendLies
import Derived.Deep.Draws
import Derived.Maps.AppendAt
import Derived.OwnWalk
import Derived.Deep.RegionHeld3
import Derived.Deep.Cut
import Derived.Deep.CutRange
import Derived.Deep.DeepCutAuto
import Derived.Deep.CutBlock
import Derived.Lib.SliceRun
import Derived.IntWalk
namespace Go.Proofs.Ytdlgpbmeeiakdaa.planKeeps
open Go.ChangeShapes Go.WideShapes Go.ChangeAt Go.RowKit
set_option maxRecDepth 100000 in
set_option maxHeartbeats 4000000 in
theorem bad (p c n b r f g : Int) (A : Option Addr) (len cap : Nat) (ag : Int) (w : World) (h : ¬ ((1 ≤ p ∧ p ≤ 6) ∧ (1 ≤ c ∧ c ≤ 4) ∧ (1 ≤ n ∧ n ≤ 3) ∧ (1 ≤ b ∧ b ≤ 4) ∧ (0 ≤ r ∧ r ≤ 4) ∧ (1 ≤ f ∧ f ≤ 4) ∧ (1 ≤ g ∧ g ≤ 15))) :
    Calls Try.prog 8 #[.agg #[.int .i64 p, .int .i64 c, .int .i64 n, .int .i64 b, .int .i64 r, .int .i64 f, .int .i64 g], .slice A len cap, .int .i64 ag] w fun e w' => e = .returned (.bool true) ∧ Below w.heap.size w w' := by
  have HN := Lib.hid (fun W => rnew_bad p c n b r f g W h)
  clear h
  go_enter Try.func8, Try.ntmps8
  go_wp2_with fail
  refine (HN.out _).mono ?_
  rintro e w1 ⟨T, v, rfl, hb1⟩
  have hB1 : Below w.heap.size w w1 := Below.step (by go_grown) hb1
  clear hb1
  go_wp2_with fail
  refine (awake21 _).mono ?_
  rintro e w3 ⟨rfl, hb3⟩
  have hB3 := Below.step (hB1.alloc hB1.size _) hb3
  go_wp2
  go_ret
  exact ⟨rfl, hB3⟩
set_option maxRecDepth 100000 in
set_option maxHeartbeats 4000000 in
theorem outside (p c n b r f g : Int) (A : Option Addr) (len cap : Nat) (ag : Int) (m : Nat) (w : World) (hp : 1 ≤ p ∧ p ≤ 6) (hc : 1 ≤ c ∧ c ≤ 4) (hn : 1 ≤ n ∧ n ≤ 3) (hb : 1 ≤ b ∧ b ≤ 4) (hr : 0 ≤ r ∧ r ≤ 4) (hf : 1 ≤ f ∧ f ≤ 4) (hg : 1 ≤ g ∧ g ≤ 15) (hm : (m : Int) = p + 2 * (n * b)) (hx : 10 < len ∨ (len ≤ 10 ∧ ag < 0) ∨ (len ≤ 10 ∧ 0 ≤ ag ∧ (m : Int) ≤ ag)) :
    Calls Try.prog 8 #[.agg #[.int .i64 p, .int .i64 c, .int .i64 n, .int .i64 b, .int .i64 r, .int .i64 f, .int .i64 g], .slice A len cap, .int .i64 ag] w fun e w' => e = .returned (.bool true) ∧ Below w.heap.size w w' := by
  have hnb := mul12 hn hb
  have HN := Lib.hid (fun W => rnew_ok p c n b r f g W hp hc hn hb hr hf hg)
  have HAG := Lib.hid (fun W => show Calls Try.prog 15 #[.agg #[.int .i64 p, .int .i64 c, .int .i64 n, .int .i64 b, .int .i64 r, .int .i64 f, .int .i64 g]] W (fun e w' => e = .returned (.int .i64 (m : Int)) ∧ Below W.heap.size W w') from by rw [hm]; exact agents_i p c n b r f g W hnb hp)
  clear hm hnb hp hc hn hb hr hf hg
  go_enter Try.func8, Try.ntmps8
  go_wp2_with fail
  refine (HN.out _).mono ?_
  rintro e w1 ⟨rfl, hb1⟩
  have hB1 : Below w.heap.size w w1 := Below.step (by go_grown) hb1
  have hs1 := hB1.size
  have hB1a := hB1.alloc hs1 (.cells #[.int .i64 p, .int .i64 c, .int .i64 n, .int .i64 b, .int .i64 r, .int .i64 f, .int .i64 g] 25)
  clear hb1
  rcases hx with hx | ⟨h1, hx⟩ | ⟨h1, h2, hx⟩
  · have l1 : (10 : Int) < (len : Int) := by omega
    go_wp2_with fail
    refine (awake21 _).mono ?_
    rintro e w3 ⟨rfl, hb3⟩
    have hB3 := Below.step hB1a hb3
    go_wp2
    go_ret
    exact ⟨rfl, hB3⟩
  · have l1 : decide ((10 : Int) < (len : Int)) = false := decide_eq_false (by omega)
    go_wp2_with fail
    refine (awake21 _).mono ?_
    rintro e w3 ⟨rfl, hb3⟩
    have hB3 := Below.step hB1a hb3
    go_wp2
    go_ret
    exact ⟨rfl, hB3⟩
  · have l1 : decide ((10 : Int) < (len : Int)) = false := decide_eq_false (by omega)
    have l2 : decide (ag < 0) = false := decide_eq_false (by omega)
    go_wp2_with fail
    refine (HAG.out _).mono ?_
    rintro e w2 ⟨rfl, hb2⟩
    have hB2 := Below.step hB1a hb2
    go_wp2_with fail
    refine (awake21 _).mono ?_
    rintro e w3 ⟨rfl, hb3⟩
    have hB3 := Below.step hB2 hb3
    go_wp2
    go_ret
    exact ⟨rfl, hB3⟩
theorem picked_L (p c n b r f g : Int) (m : Nat) (L : List Int) (A : Option Addr) (cap : Nat) (W : World) (h : EAt W A (L.map evOf)) (hL : L.length ≤ 1000) (hm : (m : Int) = p + 2 * (n * b)) (hnb : 1 ≤ n * b ∧ n * b ≤ 12) (hp : 1 ≤ p ∧ p ≤ 6) : Calls Try.prog 28 #[.agg #[.int .i64 p, .int .i64 c, .int .i64 n, .int .i64 b, .int .i64 r, .int .i64 f, .int .i64 g], .slice A L.length cap] W (fun e w' => ∃ O2, e = .returned (.slice (some ⟨O2, 0, none⟩) m m) ∧ W.heap.size < O2 ∧ Cts w' O2 m (fun j => cnt (j : Int) (L.map evOf)) ∧ Below W.heap.size W w') := by
  have h2 := picked_is p c n b r f g m A cap (L.map evOf) W h (by rw [List.length_map]; omega) hm hnb hp
  rw [List.length_map] at h2
  exact h2.mono fun e w' ⟨O2, he, ho, hc, hb⟩ => ⟨O2, he, ho, hc.out, hb⟩
theorem without_L (a : Int) (A : Option Addr) (cap : Nat) (Z : List Int) (X : List Ev) (W : World) (h : EAt W A (Z.map evOf)) (hl : Z.length ≤ 1000) (hX : X = woF a (Z.map evOf)) : Calls Try.prog 27 #[.int .i64 a, .slice A Z.length cap] W (fun e w' => ∃ A' c, e = .returned (.slice A' X.length c) ∧ EAt w' A' X ∧ Below W.heap.size W w') := by
  have h2 := without_is a A cap (Z.map evOf) W h (by rw [List.length_map]; omega)
  rw [List.length_map, ← hX] at h2
  refine h2.mono ?_
  rintro e w' ⟨v, he, ho, hb⟩
  obtain ⟨A', c, rfl⟩ := own_shape ho
  exact ⟨A', c, he, EAt.of_own ho, hb⟩
theorem runs_L (A : Option Addr) (cap : Nat) (Z : List Int) (W : World) (h : EAt W A (Z.map evOf)) (hl : Z.length ≤ 1000) : Calls Try.prog 30 #[.slice A Z.length cap] W (fun e w' => ∃ (R : List (Int × Int)) (A' : Option Addr) (c : Nat), R.length ≤ Z.length ∧ (∀ q ∈ R, 1 ≤ q.2) ∧ sum2 R = ((cntK (Z.map evOf) : Nat) : Int) ∧ e = .returned (.slice A' R.length c) ∧ PrAt w' A' R ∧ Below W.heap.size W w') := by
  have h2 := runs_is A cap (Z.map evOf) W h (by rw [List.length_map]; omega)
  have hs := sum2_runs (Z.map evOf) (Z.map evOf).length (Nat.le_refl _)
  have hp := rsE_pos (Z.map evOf) (Z.map evOf).length (Nat.le_refl _)
  have hl := rsE_len (Z.map evOf) (Z.map evOf).length
  rw [List.take_length] at hs
  generalize rsE (Z.map evOf) (Z.map evOf).length = R at *
  rw [List.length_map] at h2 hl
  refine h2.mono ?_
  rintro e w' ⟨v, he, ho, hb⟩
  obtain ⟨A', c, rfl⟩ := own_shape ho
  exact ⟨R, A', c, hl, hp, hs, he, PrAt.of_own ho, hb⟩
set_option maxRecDepth 100000 in
set_option maxHeartbeats 16000000 in
theorem main (p c n b r f g : Int) (A : Option Addr) (cap : Nat) (Ls : List (List Int)) (ag m : Nat) (w : World) (hp : 1 ≤ p ∧ p ≤ 6) (hc : 1 ≤ c ∧ c ≤ 4) (hn : 1 ≤ n ∧ n ≤ 3) (hb : 1 ≤ b ∧ b ≤ 4) (hr : 0 ≤ r ∧ r ≤ 4) (hf : 1 ≤ f ∧ f ≤ 4) (hg : 1 ≤ g ∧ g ≤ 15) (hm : (m : Int) = p + 2 * (n * b)) (h : LAt w A Ls) (hl : Ls.length ≤ 10) (hag : ag < m) :
    Calls Try.prog 8 #[.agg #[.int .i64 p, .int .i64 c, .int .i64 n, .int .i64 b, .int .i64 r, .int .i64 f, .int .i64 g], .slice A Ls.length cap, .int .i64 (ag : Int)] w fun e w' => e = .returned (.bool true) ∧ Below w.heap.size w w' := by
  obtain ⟨i0, hi, hz0, hz1, hz2⟩ := info_parts infoR
  have HI := Lib.hid hi
  have HZ0 := Lib.hid hz0
  have HZ1 := Lib.hid hz1
  have HZ2 := Lib.hid hz2
  have hnb := mul12 hn hb
  have hm2 : m ≤ 30 := by omega
  have m3 : 3 ≤ m := by omega
  have m0 : (0 : Int) < (m : Int) := by omega
  have m1 : (m : Int) ≤ 30 := by omega
  have HN := Lib.hid (fun W => rnew_ok p c n b r f g W hp hc hn hb hr hf hg)
  have HAG := Lib.hid (fun W => show Calls Try.prog 15 #[.agg #[.int .i64 p, .int .i64 c, .int .i64 n, .int .i64 b, .int .i64 r, .int .i64 f, .int .i64 g]] W (fun e w' => e = .returned (.int .i64 (m : Int)) ∧ Below W.heap.size W w') from by rw [hm]; exact agents_i p c n b r f g W hnb hp)
  have HPI := Lib.hid (fun (A : Option Addr) (cap : Nat) (l : List Ev) (W : World) (h : EAt W A l) (hl : l.length ≤ 100000) => picked_is p c n b r f g m A cap l W h hl hm hnb hp)
  have HPL := Lib.hid (fun (L : List Int) (A' : Option Addr) (c' : Nat) W (h : EAt W A' (L.map evOf)) (hL : L.length ≤ 1000) => picked_L p c n b r f g m L A' c' W h hL hm hnb hp)
  have H := Lib.hid h
  have l2 : (Ls.length : Int) ≤ 10 := by omega
  have l2d : decide ((10 : Int) < (Ls.length : Int)) = false := decide_eq_false (by omega)
  have g1 : decide ((ag : Int) < 0) = false := decide_eq_false (by omega)
  have g2 : decide ((m : Int) ≤ (ag : Int)) = false := decide_eq_false (by omega)
  have hmk : ∀ W : World, (Instr.makeSlice 35 (.int .i64 (m : Int)) (.int .i64 (m : Int))).run Try.prog W = .ok (.slice (some ⟨W.heap.size, 0, none⟩) m m) (W.alloc (.cells (madeCells (Value.int .i64 0).cells (m * 1)) 3)) := fun W => makeI m (by omega) W
  clear h hi hz0 hz1 hz2 hm hnb hp hc hn hb hr hf hg
  go_enter Try.func8, Try.ntmps8
  go_wp2_with fail
  refine (HN.out _).mono ?_
  rintro e w1 ⟨rfl, hb1⟩
  have hB1 : Below w.heap.size w w1 := Below.step (by go_grown) hb1
  have hs1 := hB1.size
  have bR1 := Blk7.new w1 p c n b r f g 25
  have hB1a := hB1.alloc hs1 (.cells #[.int .i64 p, .int .i64 c, .int .i64 n, .int .i64 b, .int .i64 r, .int .i64 f, .int .i64 g] 25)
  obtain ⟨⟨c0, c1, c2, c3, c4, c5, c6⟩, hlR⟩ := id bR1
  clear hb1
  go_wp2_with fail
  refine (HAG.out _).mono ?_
  rintro e w2 ⟨rfl, hb2⟩
  have hB2 := Below.step hB1a hb2
  have bR2 := bR1.below hb2
  clear hb2 bR1 hB1a c0 c1 c2 c3 c4 c5 c6 hlR
  obtain ⟨⟨c0, c1, c2, c3, c4, c5, c6⟩, hlR⟩ := id bR2
  go_wp2_with fail
  refine (HAG.out _).mono ?_
  rintro e w3 ⟨rfl, hb3⟩
  have hB3 := Below.step hB2 hb3
  have bR3 := bR2.below hb3
  clear hb3 bR2 hB2 c0 c1 c2 c3 c4 c5 c6 hlR
  have hRO : w1.heap.size < w3.heap.size := bR3.2
  have hwO : w.heap.size ≤ w3.heap.size := hB3.size
  have HCT := Lib.hid ((made_cts m [] w3).ext (g := fun j => sumR (j : Int) (Ls.take 0)) (fun j _ => rfl))
  have HBR := Lib.hid (bR3.below ((Below.refl w3.heap.size w3).alloc (Nat.le_refl _) (.cells (madeCells #[Value.int .i64 0] m) 3)))
  have HBE := Lib.hid (hB3.alloc hwO (.cells (madeCells #[Value.int .i64 0] m) 3))
  clear hB1 hs1
  go_wp2_with fail
  generalize w3.alloc (.cells (madeCells #[Value.int .i64 0] m) 3) = W4 at *
  generalize w3.heap.size = O at *
  generalize w1.heap.size = R at *
  clear hB3 bR3 hmk
  have HKM0 := Lib.hid (show KM w W4 R O p c n b r f g (.slice none 0 0) [] from ⟨⟨rfl, .inl ⟨rfl, rfl⟩⟩, fun _ => rfl, fun q h => (by cases h), fun q h => (by cases h), HBE.out, HBR.out⟩)
  go_loopw [9, 53] (fun u i wr => ∃ (t : Nat) (rs : List Rw), t ≤ Ls.length ∧ i = .int .i64 (t : Int) ∧ Hid (KM w wr R O p c n b r f g u rs) ∧ Hid (Cts wr O m (fun j => sumR (j : Int) (Ls.take t))) ∧ Hid (rs.map Rw.L = Ls.take t) ∧ Hid (∀ L ∈ Ls.take t, L.length ≤ 30)) (fun _ i _ => Ls.length + 1 - (intOf i).toNat)
  case atStart => exact ⟨0, [], Nat.zero_le _, rfl, HKM0, HCT, rfl, fun L h => (by cases h)⟩
  case round =>
    clear HKM0 HCT HBE HBR
    obtain ⟨t, rs, ht, rfl, HM, HC, HLI, HSH⟩ := hrel
    have t0 : (0 : Int) ≤ (t : Int) := by omega
    by_cases htl : t < Ls.length
    · have t1 : (t : Int) < (Ls.length : Int) := by omega
      obtain ⟨L, hLt⟩ : ∃ e, Ls[t]? = some e := ⟨_, List.getElem?_eq_getElem htl⟩
      obtain ⟨ad, B, c', hA, hadl0, hc0, hI0⟩ := H.out t L hLt
      have hadl : ad.block < wr.heap.size := Nat.lt_of_lt_of_le hadl0 HM.out.bel.size
      have hc := (HM.out.bel.cell (p := ad.add t) (by rw [block_of_add]; exact hadl0)).trans hc0
      have HII0 := Lib.hid hI0
      have hI := hI0.below HM.out.bel
      clear hI0 hc0 hadl0
      have HLt := Lib.hid hLt
      have hOl : O < wr.heap.size := (HC.out.cell 0 (by omega)).2.2
      subst hA
      by_cases hL : L.length ≤ 30
      · have hg : decide ((30 : Int) < (L.length : Int)) = false := decide_eq_false (by omega)
        have HII := Lib.hid hI
        have HE := Lib.hid (events_is B c' L wr hI (by omega))
        have hTK : Ls.take (t + 1) = Ls.take t ++ [L] := by rw [List.take_add_one, hLt]; rfl
        have HTK := Lib.hid hTK
        have hrl : rs.length = t := by
          have h1 := congrArg List.length HLI.out
          rw [List.length_map, List.length_take] at h1
          omega
        clear hLt hTK hI
        go_wp2_with fail
        refine HE.out.mono ?_
        rintro e w5 ⟨v, rfl, hO, hb⟩
        obtain ⟨Ae, ce, rfl⟩ := own_shape hO
        have HEN := Lib.hid (EAt.of_own hO)
        have HFA := Lib.hid (show L ≠ [] → ∀ g, Ae = some ⟨g, 0, none⟩ → O < g from fun hne gg e => by
          have h1 := (hO.lt gg (by rw [e]; rfl)).1
          omega)
        have HM5 := Lib.hid (HM.out.below hb)
        have HC5 := Lib.hid (HC.out.below hb)
        have HI5 := Lib.hid (HII.out.below hb)
        have hO5 : O < w5.heap.size := Nat.lt_of_lt_of_le hOl hb.size
        have HR := Lib.hid (reads_newN w5 1 1 [.slice Ae L.length ce] 38 rfl)
        have HO1 := Lib.hid (World.ownsRow.alloc HM5.out.rows (Obj.cells #[.slice Ae L.length ce] 38))
        have N1 := Lib.hid (show rs.length + 1 ≤ maxLen from by unfold maxLen; omega)
        have N2 := Lib.hid (show (rs.length + 1) * 24 ≤ 140737488355328 from by omega)
        have N3 := Lib.hid (show O + 1 ≤ (w5.alloc (Obj.cells #[.slice Ae L.length ce] 38)).heap.size from by rw [World.size_alloc]; omega)
        have NV := Lib.hid (show ∀ u ∈ [Value.slice Ae L.length ce], u.oneCell' = true from fun u hu => by rw [List.mem_singleton.1 hu]; rfl)
        clear hb hO HM HC HII HE
        go_wp2_with (at_builtin; refine wpList_append_any _ rfl (.tmp 61) (.tmp 64) 46 rfl (O + 1) 38 i0 (.slice none 0 0) 1 24 Try.underlying46 HI.out HZ0.out HZ1.out HZ2.out rfl (by decide) _ rs.length (rs.map Rw.v) rfl HO1.out _ (some ⟨w5.heap.size, 0, none⟩) 1 1 _ rfl HR.out NV.out N1.out N2.out N3.out ?_; intro v6 w6 hown6 hgrow6 hblk6; have HP := Lib.hid (And.intro hown6 hgrow6); clear hown6 hgrow6 hblk6)
        have HM6 := Lib.hid (HM5.out.app (q := ⟨Ae, ce, L⟩) hRO hwO hO5 HEN.out HFA.out HP.out.1 HP.out.2)
        have hb6 := HM5.out.app_low hO5 HP.out.2
        have HC6 := Lib.hid (HC5.out.via (hb6.block O (by omega)))
        have hI := (HII0.out.below HM6.out.bel).below (Below.drew (Below.refl _ _))
        have hM := HM6.out.below (Below.drew (Below.refl _ _))
        have hCt := HC6.out.below (Below.drew (Below.refl _ _))
        have hS := hM.blk.1
        have hsb : ∀ j : Nat, j < m → sumR (j : Int) (Ls.take t) ≤ 300 := fun j _ => Nat.le_trans (sumR_le (j : Int) 30 _ HSH.out) (by rw [List.length_take]; omega)
        have hcb : ∀ j : Nat, j < m → cnt (j : Int) (L.map evOf) ≤ 30 := fun j _ => Nat.le_trans (cnt_le _ _) (by rw [List.length_map]; exact hL)
        have HSB := Lib.hid hsb
        have HCB := Lib.hid hcb
        have HEV2 := Lib.hid (fun W (h : IAt W B L) => show Calls Try.prog 24 #[.slice B L.length c'] W (fun e w' => ∃ A' c, e = .returned (.slice A' L.length c) ∧ EAt w' A' (L.map evOf) ∧ Below W.heap.size W w') from (events_is B c' L W h (by omega)).mono fun e w' ⟨v, he, ho, hb⟩ => by
          obtain ⟨A', c, rfl⟩ := own_shape ho
          have h2 := EAt.of_own ho
          rw [List.length_map] at he
          exact ⟨A', c, he, h2, hb⟩)
        have HPC := Lib.hid (fun (A' : Option Addr) (c : Nat) W (h : EAt W A' (L.map evOf)) => HPL.out L A' c W h (by omega))
        clear HM5 HC5 HEN HFA HP hb6 HR HO1 N1 N2 N3 NV HM6 HC6 hsb hcb HII0
        go_region_held3 (fun w' => w'.cell? ⟨R, 0, none⟩ = some (.int .i64 p) ∧ w'.cell? ⟨R, 1, none⟩ = some (.int .i64 c) ∧ w'.cell? ⟨R, 2, none⟩ = some (.int .i64 n) ∧ w'.cell? ⟨R, 3, none⟩ = some (.int .i64 b) ∧ w'.cell? ⟨R, 4, none⟩ = some (.int .i64 r) ∧ w'.cell? ⟨R, 5, none⟩ = some (.int .i64 f) ∧ w'.cell? ⟨R, 6, none⟩ = some (.int .i64 g)) (first | with_reducible exact hS | fail) (first | (go_at_call 24; (with_reducible refine (HEV2.out _ hI).mono ?_); rintro e w7 ⟨A7, c7, rfl, hE7, hb7⟩; have hM := hM.below hb7; have hCt := hCt.below hb7; have hS := hM.blk.1; clear hb7 hI) | (go_at_call 28; (with_reducible refine (HPC.out A7 c7 _ hE7).mono ?_); rintro e w8 ⟨O2, rfl, hO2, hC2, hb8⟩; have hO2b : O < O2 := Nat.lt_trans (hCt.cell 0 (by omega)).2.2 hO2; have hM := hM.below hb8; have hCt := hCt.below hb8; have hS := hM.blk.1; clear hb8 hE7 hO2) | fail)
        have HMx := Lib.hid hM
        have HCx := Lib.hid hCt
        have HC2 := Lib.hid hC2
        clear hM hCt hC2 hS HEV2 HPC
        go_wp2_with fail
        go_loopw [71] (fun i wi => ∃ q : Nat, q ≤ m ∧ i = .int .i64 (q : Int) ∧ Hid (KM w wi R O p c n b r f g v6 (rs ++ [⟨Ae, ce, L⟩])) ∧ Hid (Cts wi O m (fun j => if j < q then sumR (j : Int) (Ls.take t) + cnt (j : Int) (L.map evOf) else sumR (j : Int) (Ls.take t))) ∧ Hid (Cts wi O2 m (fun j => cnt (j : Int) (L.map evOf)))) (fun i _ => m + 1 - (intOf i).toNat)
        case atStart => exact ⟨0, Nat.zero_le _, rfl, HMx, HCx.out.ext (fun j _ => by rw [if_neg (by omega)]), HC2⟩
        case round =>
          clear HMx HCx HC2
          obtain ⟨q, hq, rfl, HMx, HCx, HC2⟩ := hrel
          have q0 : (0 : Int) ≤ (q : Int) := by omega
          by_cases hqm : q < m
          · have q1 : (q : Int) < (m : Int) := by omega
            obtain ⟨y0, y1, y2⟩ := HCx.out.cell q hqm
            obtain ⟨z0, z1, z2⟩ := HC2.out.cell q hqm
            rw [if_neg (by omega)] at y0
            have hs1 := HSB.out q hqm
            have hs2 := HCB.out q hqm
            have HSET := Lib.hid ((HCx.out.set q hqm (sumR (q : Int) (Ls.take t) + cnt (q : Int) (L.map evOf))).ext (g := fun j => if j < q + 1 then sumR (j : Int) (Ls.take t) + cnt (j : Int) (L.map evOf) else sumR (j : Int) (Ls.take t)) (fun j hj => by
              by_cases h1 : j = q
              · subst h1; rw [if_pos rfl, if_pos (by omega)]
              · rw [if_neg h1]
                by_cases h2 : j < q
                · rw [if_pos h2, if_pos (by omega)]
                · rw [if_neg h2, if_neg (by omega)]))
            have HM3 := Lib.hid (HMx.out.set (j := q) (x := .int .i64 ((sumR (q : Int) (Ls.take t) + cnt (q : Int) (L.map evOf) : Nat) : Int)) hRO hwO)
            have HC3 := Lib.hid (HC2.out.via (w' := wr.setCell ⟨O, q, none⟩ (.int .i64 ((sumR (q : Int) (Ls.take t) + cnt (q : Int) (L.map evOf) : Nat) : Int))) (Below.heap_setCell _ ⟨O, q, none⟩ _ O2 (by show O2 ≠ O; omega)))
            clear HMx HCx HC2
            generalize sumR (q : Int) (Ls.take t) = S at y0 hs1 HM3 HC3 HSET
            generalize cnt (q : Int) (L.map evOf) = C at z0 hs2 HM3 HC3 HSET
            have e0 : (0 : Int) ≤ (S : Int) := by omega
            have e1 : (S : Int) ≤ 300 := by omega
            have e2 : (0 : Int) ≤ (C : Int) := by omega
            have e3 : (C : Int) ≤ 30 := by omega
            have eSC : ((S + C : Nat) : Int) = (S : Int) + (C : Int) := by omega
            rw [eSC] at HM3 HC3 HSET
            clear eSC hs1 hs2
            go_wp2_with fail
            go_roundw
            case rel => exact ⟨q + 1, by omega, by go_num, HM3, HSET, HC3⟩
            case measure => simp [intOf]; omega
          · obtain rfl : q = m := by omega
            have hd : decide ((q : Int) < (q : Int)) = false := decide_eq_false (by omega)
            have HC9 := Lib.hid (HCx.out.ext (g := fun j => sumR (j : Int) (Ls.take (t + 1))) (fun j hj => by rw [if_pos hj, HTK.out, sumR_snoc]))
            go_wp2_with fail
            go_roundw
            case rel => exact ⟨t + 1, rs ++ [⟨Ae, ce, L⟩], by omega, by go_num, HMx, HC9, Lib.hid (by rw [List.map_append, HLI.out, HTK.out]; rfl), Lib.hid (fun L' hL' => by
              rw [HTK.out] at hL'
              rcases List.mem_append.1 hL' with h1 | h1
              · exact HSH.out L' h1
              · rw [List.mem_singleton.1 h1]; exact hL)⟩
            case measure => simp [intOf]; omega
      · have hg : (30 : Int) < (L.length : Int) := by omega
        clear hLt hI
        go_wp2_with fail
        refine (awake21 _).mono ?_
        rintro e w2 ⟨rfl, hb⟩
        go_wp2_with fail
        go_ret
        exact ⟨rfl, Below.step HM.out.bel hb⟩
    · obtain rfl : t = Ls.length := by omega
      have hd : decide ((Ls.length : Int) < (Ls.length : Int)) = false := decide_eq_false (by omega)
      have hls := HLI.out
      rw [List.take_length] at hls
      have hsh := HSH.out
      rw [List.take_length] at hsh
      have hrl : rs.length ≤ 10 := by rw [← hls, List.length_map] at hl; exact hl
      have h30 : ∀ q ∈ rs, q.L.length ≤ 30 := fun q hq => hsh q.L (by rw [← hls]; exact List.mem_map_of_mem hq)
      obtain ⟨Au, cu, rfl⟩ := own_shape HM.out.rows
      have HMX := Lib.hid (mix_is Au cu rs wr (Reads.of_own HM.out.rows) (by omega) (fun q hq => Nat.le_trans (h30 q hq) (by omega)) HM.out.evs)
      have HC0 := Lib.hid (HC.out.ext (g := fun j => sumR (j : Int) Ls) (fun j _ => by rw [List.take_length]))
      have HLS := Lib.hid hls
      have H30 := Lib.hid h30
      have bR := HM.out.blk
      obtain ⟨⟨c0, c1, c2, c3, c4, c5, c6⟩, hlR⟩ := id bR
      have HB := Lib.hid HM.out.bel
      have hOl : O < wr.heap.size := (HC.out.cell 0 (by omega)).2.2
      clear hls hsh HM HC h30
      go_wp2_with fail
      refine HMX.out.mono ?_
      rintro e w8 ⟨K, v9, hK, rfl, hO9, hb8⟩
      have hZ30 : mxl rs K = mxl rs 30 := (mxl_end rs K hK (max K 30) (Nat.le_max_left _ _)).symm.trans (mxl_end rs 30 H30.out _ (Nat.le_max_right _ _))
      have hZC : ∀ j : Int, cnt j ((mxl rs K).map evOf) = sumR j Ls := fun j => by rw [cnt_mix j rs K hK, HLS.out]
      have hZl : (mxl rs K).length ≤ 300 := by rw [hZ30]; exact Nat.le_trans (mxl_len rs 30) (by omega)
      have HZC := Lib.hid hZC
      clear hZ30 hZC hK
      generalize mxl rs K = Z at *
      obtain ⟨A9, c9, rfl⟩ := own_shape hO9
      have hE9 : EAt w8 A9 (Z.map evOf) := EAt.of_own (c := c9) (by rw [List.length_map]; exact hO9)
      have HE9 := Lib.hid hE9
      have bR8 := bR.below hb8
      have HC8 := Lib.hid (HC0.out.below hb8)
      have HB8 := Lib.hid (Below.step HB.out hb8)
      have hO8 : O < w8.heap.size := Nat.lt_of_lt_of_le hOl hb8.size
      clear hO9 hE9 hb8 bR HC0 HB c0 c1 c2 c3 c4 c5 c6 hlR hOl
      obtain ⟨⟨c0, c1, c2, c3, c4, c5, c6⟩, hlR⟩ := id bR8
      have z0 : (Z.length : Int) ≤ 300 := by omega
      obtain ⟨X, hX⟩ : ∃ X, X = woF (ag : Int) (Z.map evOf) := ⟨_, rfl⟩
      have hXl : X.length ≤ 300 := by rw [hX]; exact Nat.le_trans (woF_len _ _) (by rw [List.length_map]; exact hZl)
      have HXC := Lib.hid (show ∀ j : Int, cnt j X = if j = (ag : Int) then 0 else cnt j (Z.map evOf) from fun j => by rw [hX]; exact cnt_wo (ag : Int) j (Z.map evOf))
      have HWO := Lib.hid (fun Wd (h : EAt Wd A9 (Z.map evOf)) => without_L (ag : Int) A9 c9 Z X Wd h (by omega) hX)
      have HPX := Lib.hid (fun (A' : Option Addr) (c' : Nat) Wd (h : EAt Wd A' X) => HPI.out A' c' X Wd h (by omega))
      have HPZ := Lib.hid (fun (A' : Option Addr) (c' : Nat) Wd (h : EAt Wd A' (Z.map evOf)) => HPL.out Z A' c' Wd h (by omega))
      have HRN := Lib.hid (fun Wd (h : EAt Wd A9 (Z.map evOf)) => runs_L A9 c9 Z Wd h (by omega))
      have hM := bR8.below (Below.drew (Below.refl _ _))
      have hE := HE9.out.below (Below.drew (Below.refl _ _))
      have hB := Below.drew (Below.refl w8.heap.size w8)
      have hS := hM.1
      clear hX
      go_wp2_with fail
      go_region_held3 (fun w' => w'.cell? ⟨R, 0, none⟩ = some (.int .i64 p) ∧ w'.cell? ⟨R, 1, none⟩ = some (.int .i64 c) ∧ w'.cell? ⟨R, 2, none⟩ = some (.int .i64 n) ∧ w'.cell? ⟨R, 3, none⟩ = some (.int .i64 b) ∧ w'.cell? ⟨R, 4, none⟩ = some (.int .i64 r) ∧ w'.cell? ⟨R, 5, none⟩ = some (.int .i64 f) ∧ w'.cell? ⟨R, 6, none⟩ = some (.int .i64 g)) (first | with_reducible exact hS | fail) (first | (go_at_call 27; (with_reducible refine (HWO.out _ hE).mono ?_); rintro e w10 ⟨A10, c10, rfl, hE10, hb10⟩; have hM := hM.below hb10; have hB := Below.step hB hb10; have hS := hM.1; clear hb10 hE) | (go_at_call 28; (with_reducible refine (HPX.out A10 c10 _ hE10).mono ?_); rintro e w11 ⟨O3, rfl, hO3, hC3, hb11⟩; have hM := hM.below hb11; have hB := Below.step hB hb11; have hS := hM.1; clear hb11 hE10 hO3) | fail)
      have HE11 := Lib.hid (HE9.out.below hB)
      have HC11 := Lib.hid (HC8.out.below hB)
      have HB11 := Lib.hid (Below.step HB8.out hB)
      have bR11 := Lib.hid hM
      have HC3 := Lib.hid hC3.out
      clear hM hB hS hC3 HE9 HC8 HB8 HWO HPX bR8 c0 c1 c2 c3 c4 c5 c6 hlR hO8
      go_wp2_with fail
      refine (HRN.out _ HE11.out).mono ?_
      rintro e w12 ⟨Rn, A12, c12, hRl, hRp, hRs, rfl, hP12, hb12⟩
      have HE12 := Lib.hid (HE11.out.below hb12)
      have HC12 := Lib.hid (HC11.out.below hb12)
      have HX12 := Lib.hid (HC3.out.below hb12)
      have HB12 := Lib.hid (Below.step HB11.out hb12)
      have bR12 := Lib.hid (bR11.out.below hb12)
      have HP12 := Lib.hid hP12
      have HPT := Lib.hid (sum2_part Rn hRp)
      have HRS := Lib.hid hRs
      have hK3 : cntK (Z.map evOf) ≤ 300 := by have h := cntK_le (Z.map evOf); rw [List.length_map] at h; omega
      have HS3 := Lib.hid (show sum2 Rn ≤ 300 from by omega)
      clear hb12 HE11 HC11 HC3 HB11 bR11 hP12 hRp hRs HRN hK3
      go_wp2_with fail
      go_loopw [17, 95] (fun s i wq => ∃ (q : Nat) (v : Int), q ≤ Rn.length ∧ i = .int .i64 (q : Int) ∧ s = .int .i64 v ∧ Hid (v = sum2 (Rn.take q)) ∧ Below w12.heap.size w12 wq) (fun _ i _ => Rn.length + 1 - (intOf i).toNat)
      case atStart => exact ⟨0, 0, Nat.zero_le _, rfl, rfl, rfl, Below.refl _ _⟩
      case round =>
        obtain ⟨q, v, hq, rfl, rfl, HV, hBq⟩ := hrel
        have hsq := hBq.size
        have q0 : (0 : Int) ≤ (q : Int) := by omega
        by_cases hql : q < Rn.length
        · have q1 : (q : Int) < (Rn.length : Int) := by omega
          obtain ⟨x, hx⟩ : ∃ e, Rn[q]? = some e := ⟨_, List.getElem?_eq_getElem hql⟩
          obtain ⟨g9, hA9, d0, d1⟩ := (HP12.out.below hBq).at_ q x hx
          have HN9 := Lib.hid (sum2_take Rn q x hx)
          have h1 := HPT.out q
          have h2 := HPT.out (q + 1)
          have h3 := HS3.out
          have h4 := HV.out
          have h5 := HN9.out
          obtain ⟨x1, x2⟩ := x
          dsimp only at d0 d1 h5
          have v0 : 0 ≤ v := by omega
          have v1 : v ≤ 300 := by omega
          have v2 : 0 ≤ v + x2 := by omega
          have v3 : v + x2 ≤ 300 := by omega
          have HNV := Lib.hid (show v + x2 = sum2 (Rn.take (q + 1)) from by omega)
          have r1 : (Rn.length : Int) ≤ 300 := by omega
          subst hA9
          clear h1 h2 h3 h4 h5 hx hRl
          go_wp2_with fail
          go_roundw
          case rel => exact ⟨q + 1, v + x2, by omega, by go_num, by go_num, HNV, hBq.alloc hsq _⟩
          case measure => simp [intOf]; omega
        · obtain rfl : q = Rn.length := by omega
          have hd2 : decide ((Rn.length : Int) < (Rn.length : Int)) = false := decide_eq_false (by omega)
          have HVS := Lib.hid (show v = ((cntK (Z.map evOf) : Nat) : Int) from by have h := HV.out; rw [List.take_length] at h; rw [h]; exact HRS.out)
          have HE13 := Lib.hid (HE12.out.below hBq)
          have HC13 := Lib.hid (HC12.out.below hBq)
          have HX13 := Lib.hid (HX12.out.below hBq)
          have HB13 := Lib.hid (Below.step HB12.out hBq)
          have bR13 := Lib.hid (bR12.out.below hBq)
          clear HE12 HC12 HX12 HB12 bR12 hBq HV HPT HRS HS3 HP12
          go_wp2_with fail
          go_loopw [20, 106] (fun s i wq => ∃ (q k : Nat), q ≤ Z.length ∧ i = .int .i64 (q : Int) ∧ s = .int .i64 (k : Int) ∧ Hid (k = cntK ((Z.map evOf).take q)) ∧ Below wr.heap.size wr wq) (fun _ i _ => Z.length + 1 - (intOf i).toNat)
          case atStart => exact ⟨0, 0, Nat.zero_le _, rfl, rfl, rfl, Below.refl _ _⟩
          case round =>
            obtain ⟨q, k, hq, rfl, rfl, HK, hBq⟩ := hrel
            have hsq := hBq.size
            have q0 : (0 : Int) ≤ (q : Int) := by omega
            by_cases hql : q < Z.length
            · have q1 : (q : Int) < (Z.length : Int) := by omega
              obtain ⟨ev, hev⟩ : ∃ e, (Z.map evOf)[q]? = some e := ⟨_, List.getElem?_eq_getElem (by rw [List.length_map]; exact hql)⟩
              obtain ⟨g9, hA9, hg9, d0, d1, d2, d3, d4, d5, d6, d7, d8, d9, d10, d11⟩ := (HE13.out.below hBq).cells q ev hev
              have hk1 := cntK_le ((Z.map evOf).take q)
              rw [List.length_take] at hk1
              have h4 := HK.out
              have k0 : (0 : Int) ≤ (k : Int) := by omega
              have k1 : (k : Int) ≤ 300 := by omega
              have HT := Lib.hid (cntK_take (Z.map evOf) q ev hev)
              obtain ⟨ek, ex, en⟩ := ev
              dsimp only at d0 d1 d2
              subst hA9
              clear hk1 h4 hev
              by_cases hk3 : ek = 3
              · subst hk3
                have HNK := Lib.hid (show k + 1 = cntK ((Z.map evOf).take (q + 1)) from by rw [HT.out, ← HK.out]; rfl)
                clear HT
                go_wp2_with fail
                go_roundw
                case rel => exact ⟨q + 1, k + 1, by omega, by go_num, by go_num, HNK, hBq.alloc hsq _⟩
                case measure => simp [intOf]; omega
              · have e2 : (ek == 3) = false := by rw [beq_eq_false_iff_ne]; exact hk3
                have HNK := Lib.hid (show k = cntK ((Z.map evOf).take (q + 1)) from by
                  rw [HT.out, ← HK.out]
                  have : isK (ek, ex, en) = false := by unfold isK; simpa using hk3
                  rw [this]; rfl)
                clear HT hk3
                go_wp2_with fail
                go_roundw
                case rel => exact ⟨q + 1, k, by omega, by go_num, rfl, HNK, hBq.alloc hsq _⟩
                case measure => simp [intOf]; omega
            · obtain rfl : q = Z.length := by omega
              have hd3 : decide ((Z.length : Int) < (Z.length : Int)) = false := decide_eq_false (by omega)
              have heq : (v == (k : Int)) = true := by
                have h := HK.out
                rw [List.take_of_length_le (by rw [List.length_map]; exact Nat.le_refl _)] at h
                have h2 := HVS.out
                simp
                omega
              have HE14 := Lib.hid (HE13.out.below hBq)
              have HC14 := Lib.hid (HC13.out.below hBq)
              have HX14 := Lib.hid (HX13.out.below hBq)
              have HB14 := Lib.hid (Below.step HB13.out hBq)
              have bR14 := bR13.out.below hBq
              obtain ⟨⟨c0, c1, c2, c3, c4, c5, c6⟩, hlR⟩ := id bR14
              clear HE13 HC13 HX13 HB13 bR13 hBq HK HVS
              go_wp2_with fail
              refine (HPZ.out A9 c9 _ HE14.out).mono ?_
              rintro e w15 ⟨O4, rfl, hO4, hC4, hb15⟩
              have HC15 := Lib.hid (HC14.out.below hb15)
              have HX15 := Lib.hid (HX14.out.below hb15)
              have HC4 := Lib.hid hC4
              have HB15 := Lib.hid (Below.step HB14.out hb15)
              clear HC14 HX14 HB14 bR14 HE14 hb15 hC4 hO4 c0 c1 c2 c3 c4 c5 c6 hlR
              go_wp2_with fail
              go_loopw [120] (fun i wq => wq = w15 ∧ ∃ q : Nat, q ≤ m ∧ i = .int .i64 (q : Int)) (fun i _ => m + 1 - (intOf i).toNat)
              case atStart => exact ⟨rfl, 0, Nat.zero_le _, rfl⟩
              case round =>
                obtain ⟨rfl, q, hq, rfl⟩ := hrel
                have q0 : (0 : Int) ≤ (q : Int) := by omega
                by_cases hqm : q < m
                · have q1 : (q : Int) < (m : Int) := by omega
                  obtain ⟨y0, y1, _⟩ := HC4.out.cell q hqm
                  obtain ⟨z0, z1, _⟩ := HC15.out.cell q hqm
                  obtain ⟨x0, x1, _⟩ := HX15.out.cell q hqm
                  rw [← HZC.out (q : Int)] at z0
                  rw [HXC.out (q : Int)] at x0
                  generalize cnt (q : Int) (Z.map evOf) = N at y0 z0 x0
                  have nn : ((N : Int) != (N : Int)) = false := by simp
                  by_cases hqa : q = ag
                  · subst hqa
                    rw [if_pos rfl] at x0
                    have qq : ((q : Int) != (q : Int)) = false := by simp
                    have qe : ((q : Int) == (q : Int)) = true := by simp
                    go_wp2_with fail
                    go_roundw
                    case rel => exact ⟨trivial, q + 1, by omega, by go_num⟩
                    case measure => simp [intOf]; omega
                  · rw [if_neg (by omega)] at x0
                    have qq : ((q : Int) != (ag : Int)) = true := by simp; omega
                    have qe : ((q : Int) == (ag : Int)) = false := by simp; omega
                    go_wp2_with fail
                    go_roundw
                    case rel => exact ⟨trivial, q + 1, by omega, by go_num⟩
                    case measure => simp [intOf]; omega
                · obtain rfl : q = m := by omega
                  have hd4 : decide ((q : Int) < (q : Int)) = false := decide_eq_false (by omega)
                  go_wp2_with fail
                  refine (awake21 _).mono ?_
                  rintro e w16 ⟨rfl, hb16⟩
                  go_wp2_with fail
                  go_ret
                  exact ⟨rfl, Below.step HB15.out hb16⟩
/-- The parameter as it is read. -/
theorem lat_of {w : World} {A : Option Addr} {len : Nat} {g : Nat → List Int} (h : SlsAt A len g w) : LAt w A ((List.range len).map g) := by
  intro t L hL
  rw [List.getElem?_map] at hL
  have ht : t < len := by
    rcases Nat.lt_or_ge t len with h1 | h1
    · exact h1
    · rw [List.getElem?_eq_none (by simpa using h1)] at hL; cases hL
  rw [List.getElem?_range ht] at hL
  have hLg : g t = L := by simpa using hL
  subst hLg
  obtain ⟨ad, e, hl, hc⟩ := h (by omega)
  obtain ⟨B, c, h1, h2⟩ := hc t ht
  refine ⟨ad, B, c, e, hl, h1, fun k x hx => ?_⟩
  have hk := (List.getElem?_eq_some_iff.1 hx).1
  obtain ⟨ad2, e2, hl2, hc2⟩ := h2.2 (by omega)
  exact ⟨ad2, e2, hl2, hc2 k (.int .i64 x) (by unfold ints; rw [List.getElem?_map, hx]; rfl)⟩
theorem walk (a0_0 : Int) (a0_1 : Int) (a0_2 : Int) (a0_3 : Int) (a0_4 : Int) (a0_5 : Int) (a0_6 : Int) (a1 : Option Addr) (len1 cap1 : Nat) (g1 : Nat → List Int) (a2 : Int) (w : World) (_ : (Lit.int .i64 a0_0).wf = true) (_ : (Lit.int .i64 a0_1).wf = true) (_ : (Lit.int .i64 a0_2).wf = true) (_ : (Lit.int .i64 a0_3).wf = true) (_ : (Lit.int .i64 a0_4).wf = true) (_ : (Lit.int .i64 a0_5).wf = true) (_ : (Lit.int .i64 a0_6).wf = true) (w1 : SlsAt a1 len1 g1 w) (_ : (Lit.int .i64 a2).wf = true) :
    Calls Try.prog 8 #[.agg #[.int .i64 a0_0, .int .i64 a0_1, .int .i64 a0_2, .int .i64 a0_3, .int .i64 a0_4, .int .i64 a0_5, .int .i64 a0_6], .slice a1 len1 cap1, .int .i64 a2] w fun e w' => e = .returned (.bool true) ∧ Below w.heap.size w w' := by
  by_cases h : (1 ≤ a0_0 ∧ a0_0 ≤ 6) ∧ (1 ≤ a0_1 ∧ a0_1 ≤ 4) ∧ (1 ≤ a0_2 ∧ a0_2 ≤ 3) ∧ (1 ≤ a0_3 ∧ a0_3 ≤ 4) ∧ (0 ≤ a0_4 ∧ a0_4 ≤ 4) ∧ (1 ≤ a0_5 ∧ a0_5 ≤ 4) ∧ (1 ≤ a0_6 ∧ a0_6 ≤ 15)
  · obtain ⟨hp, hc, hn, hb, hr, hf, hg⟩ := h
    have hnb := mul12 hn hb
    have hm : (((a0_0 + 2 * (a0_2 * a0_3)).toNat : Nat) : Int) = a0_0 + 2 * (a0_2 * a0_3) := by omega
    by_cases hl : len1 ≤ 10
    · by_cases h0 : a2 < 0
      · exact outside _ _ _ _ _ _ _ a1 len1 cap1 a2 _ w hp hc hn hb hr hf hg hm (.inr (.inl ⟨hl, h0⟩))
      · by_cases h1 : (((a0_0 + 2 * (a0_2 * a0_3)).toNat : Nat) : Int) ≤ a2
        · exact outside _ _ _ _ _ _ _ a1 len1 cap1 a2 _ w hp hc hn hb hr hf hg hm (.inr (.inr ⟨hl, by omega, h1⟩))
        · have hlen : ((List.range len1).map g1).length = len1 := by simp
          obtain ⟨k, rfl⟩ : ∃ k : Nat, a2 = (k : Int) := ⟨a2.toNat, by omega⟩
          have h9 := main _ _ _ _ _ _ _ a1 cap1 ((List.range len1).map g1) k _ w hp hc hn hb hr hf hg hm (lat_of w1) (by rw [hlen]; exact hl) (by omega)
          rw [hlen] at h9
          exact h9
    · exact outside _ _ _ _ _ _ _ a1 len1 cap1 a2 _ w hp hc hn hb hr hf hg hm (.inl (by omega))
  · exact bad _ _ _ _ _ _ _ a1 len1 cap1 a2 w h
end Go.Proofs.Ytdlgpbmeeiakdaa.planKeeps
