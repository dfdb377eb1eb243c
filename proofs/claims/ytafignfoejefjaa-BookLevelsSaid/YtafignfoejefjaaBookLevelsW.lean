/-
  The law BookLevels, walked.
-/
import Derived.Test.YtafignfoejefjaaRows
import Derived.Test.YtafignfoejefjaaKit
import Derived.Test.YtafignfoejefjaaApp
import Derived.Test.YtafignfoejefjaaQuiet
import Derived.WalkKit
import Derived.ProofKit
import Derived.OpenShut
import Derived.ShutString
import Derived.Below
import Derived.Outline
import Derived.WalkLawsBesides
import Derived.WalkSpells
import Derived.Handy
import Derived.Deep.QuietTactic
import Derived.BigQuiet
import Derived.RegionTactic
import Derived.ChangeAlike
import Derived.Lib.Hide
import Derived.Laws.Rows
import Derived.Laws.Tables
import Derived.Laws.CopyOwn
import Derived.Laws.MakeOwn
import Derived.Laws.Entries
import Derived.Laws.OwnMore
import Derived.Deep.WholeRow
import Derived.Deep.LoopGhost
import Derived.Deep.AppendLies
import Derived.Deep.Draws
import Derived.Maps.AppendAt
import Derived.OwnWalk
import Derived.Deep.RegionHeld3
import Derived.Deep.Cut
import Derived.Deep.CutRange
import Derived.Deep.DeepCutAuto
import Derived.Deep.CutBlock
import Derived.Lib.SliceRun
import Derived.IntWalk
import Derived.Test.YtafignfoejefjaaBkM
import Derived.Test.YtafignfoejefjaaBkO
import Derived.Test.YtafignfoejefjaaBkP
import Derived.Test.YtafignfoejefjaaBkQ
import Derived.Test.YtafignfoejefjaaBkL
import Derived.Test.YtafignfoejefjaaBkC
import Derived.Test.YtafignfoejefjaaBkR
import Derived.Test.YtafignfoejefjaaBkS
import Derived.Test.YtafignfoejefjaaBkV
import Derived.Test.YtafignfoejefjaaBkW
import Derived.Test.YtafignfoejefjaaBkX
import Derived.Test.YtafignfoejefjaaBkY
import Derived.Test.YtafignfoejefjaaBkZ
import Derived.Test.YtafignfoejefjaaBkLr
import Derived.Test.YtafignfoejefjaaBkSp
import Derived.Test.YtafignfoejefjaaRules
import Derived.Test.YtafignfoejefjaaCheck
namespace Go.Proofs.Ytafignfoejefjaa.bookLevels
open Go.ChangeShapes Go.WideShapes Go.ChangeAt Go.RowKit
theorem dn (w : World) (k : Nat) : Below w.heap.size w (w.drewN k) := ⟨rfl, rfl, rfl, Nat.le_refl _, fun _ _ => rfl⟩
theorem vrow_cell2 {w : World} {base g n c k j : Nat} {l : List Lvl} {x : Lvl} (h : w.ownsRow base 38 3 (.slice (some ⟨g, 0, none⟩) n c) n (vv l)) (hx : l[k]? = some x) (hn : n = l.length) (hj : j < 3) {u : Value} (hu : (vc x)[j]? = some u) : w.cell? ⟨g, k * 3 + j, none⟩ = some u := by
  have hk := (List.getElem?_eq_some_iff.1 hx).1
  exact (World.ownsRow.cellAt h (k * 3 + j) (by omega)).trans ((vv_get l k j x hx hj).trans hu)
theorem eqLvl (x : Lvl) (w : World) : (Op.equalIn 10000 38 (.agg #[.int .i64 x.p, .int .i64 x.q, .int .i64 x.k]) (.agg #[.int .i64 x.p, .int .i64 x.q, .int .i64 x.k])).run Try.prog w = .ok true w := by
  have u3 := Try.underlying3
  have a3' := Try.isAgg3
  have z3 := Try.sizeOf3
  have hS : Try.prog.underlying 38 = some (.struct (Try.prog.fieldsOf 38)) := by kernel_rfl
  have hp : Try.prog.stoodInHeld 38 = false := by kernel_rfl
  rw [show (10000 : Nat) = 9999 + 1 from rfl, run_equalIn_agg w 9999 38 _ _ hS hp]
  simp only [Program.fieldsOf, Try.underlying38]
  go_simp
theorem run_neq_lvl (x : Lvl) (w : World) : (binOp .neq 38 (.agg #[.int .i64 x.p, .int .i64 x.q, .int .i64 x.k]) (.agg #[.int .i64 x.p, .int .i64 x.q, .int .i64 x.k])).run Try.prog w = .ok (.bool false) w := by
  simp only [binOp]
  simp [Op.equal, Op.maxDepth, eqLvl x w]
theorem run_eql_lvl (x : Lvl) (w : World) : (binOp .eql 38 (.agg #[.int .i64 x.p, .int .i64 x.q, .int .i64 x.k]) (.agg #[.int .i64 x.p, .int .i64 x.q, .int .i64 x.k])).run Try.prog w = .ok (.bool true) w := by
  simp only [binOp]
  simp [Op.equal, Op.maxDepth, eqLvl x w]
set_option maxRecDepth 100000 in
set_option maxHeartbeats 4000000 in
theorem none_ (p c n b r f g : Int) (A : Option Addr) (ln cp : Nat) (nm s si : Int) (w : World) (hM : ∀ W, Below w.heap.size w W → Calls Try.prog 6 #[.agg #[.int .i64 p, .int .i64 c, .int .i64 n, .int .i64 b, .int .i64 r, .int .i64 f, .int .i64 g], .slice A ln cp] W fun e w' => e = .returned (.tuple #[.agg (List.toArray [.int .i64 0, .int .i64 0, .int .i64 0, .int .i64 0, .int .i64 0, .int .i64 0, .int .i64 0, .slice none 0 0]), .bool false]) ∧ Below W.heap.size W w') : Calls Try.prog 3 #[.agg #[.int .i64 p, .int .i64 c, .int .i64 n, .int .i64 b, .int .i64 r, .int .i64 f, .int .i64 g], .slice A ln cp, .int .i64 nm, .int .i64 s, .int .i64 si] w fun e w' => e = .returned (.bool true) ∧ Below w.heap.size w w' := by
  have HM := Lib.hid hM
  clear hM
  go_enter Try.func3, Try.ntmps3
  go_wp2_with fail
  have g0 : Below w.heap.size w (w.alloc (.cells (List.toArray [.int .i64 p, .int .i64 c, .int .i64 n, .int .i64 b, .int .i64 r, .int .i64 f, .int .i64 g]) 23)) := by go_grown
  refine (HM.out _ g0).mono ?_
  rintro e1 w1 ⟨rfl, hb1⟩
  have HB := Lib.hid (Below.step g0 hb1)
  clear g0 hb1
  go_wp2_with fail
  have g1 : Below w1.heap.size w1 (w1.alloc (.cells (List.toArray [.int .i64 0, .int .i64 0, .int .i64 0, .int .i64 0, .int .i64 0, .int .i64 0, .int .i64 0, .slice none 0 0]) 29)) := by go_grown
  have HB2 := Lib.hid (Below.step HB.out g1)
  clear g1
  refine (awake_is _).mono ?_
  rintro e2 w2 ⟨rfl, hb2⟩
  go_wp2_with fail
  go_ret
  exact ⟨rfl, Below.step HB2.out hb2⟩
set_option maxRecDepth 100000 in
set_option maxHeartbeats 4000000 in
theorem side_ (p c n b r f g : Int) (A : Option Addr) (ln cp : Nat) (gv : Nat → Ord) (nm s si : Int) (w : World) (hp : 1 ≤ p ∧ p ≤ 6) (hc : 1 ≤ c ∧ c ≤ 4) (hn : 1 ≤ n ∧ n ≤ 3) (hb : 1 ≤ b ∧ b ≤ 4) (hr : 0 ≤ r ∧ r ≤ 4) (hf : 1 ≤ f ∧ f ≤ 4) (hg : 1 ≤ g ∧ g ≤ 15) (hl : ln ≤ 40) (hE : OrdsAt A ln gv w) (hF : Fine (lst ln gv)) (hs0 : s ≠ 0) (hs1 : s ≠ 1) : Calls Try.prog 3 #[.agg #[.int .i64 p, .int .i64 c, .int .i64 n, .int .i64 b, .int .i64 r, .int .i64 f, .int .i64 g], .slice A ln cp, .int .i64 nm, .int .i64 s, .int .i64 si] w fun e w' => e = .returned (.bool true) ∧ Below w.heap.size w w' := by
  have HM := Lib.hid (fun (W : World) (hW : Below w.heap.size w W) => made_ok p c n b r f g A ln cp gv W hp hc hn hb hr hf hg hl (hE.below hW) hF)
  have s0 : (s != 0) = true := by rw [bne_iff_ne]; exact hs0
  have s1 : (s != 1) = true := by rw [bne_iff_ne]; exact hs1
  clear hp hc hn hb hr hf hg hl hE hF hs0 hs1
  go_enter Try.func3, Try.ntmps3
  go_wp2_with fail
  have g0 : Below w.heap.size w (w.alloc (.cells (List.toArray [.int .i64 p, .int .i64 c, .int .i64 n, .int .i64 b, .int .i64 r, .int .i64 f, .int .i64 g]) 23)) := by go_grown
  refine (HM.out _ g0).mono ?_
  rintro e1 w1 ⟨v, rfl, ho, hb1⟩
  obtain ⟨A2, c2, rfl⟩ := oshape ho
  have HB := Lib.hid (Below.step g0 hb1)
  clear g0 hb1 ho
  go_wp2_with fail
  have g1 : Below w1.heap.size w1 (w1.alloc (.cells (List.toArray [.int .i64 p, .int .i64 c, .int .i64 n, .int .i64 b, .int .i64 r, .int .i64 f, .int .i64 g, .slice A2 (lst ln gv).length c2]) 29)) := by go_grown
  have HB2 := Lib.hid (Below.step HB.out g1)
  clear g1
  refine (awake_is _).mono ?_
  rintro e2 w2 ⟨rfl, hb2⟩
  go_wp2_with fail
  go_ret
  exact ⟨rfl, Below.step HB2.out hb2⟩
/-- What stays through the law's loops. -/
structure SSt (w wr : World) (p c n b r f g : Int) (BB base : Nat) (A2 : Option Addr) (c2 : Nat) (os : List Ord) : Prop where
  cfg : Bl w.heap.size [.int .i64 p, .int .i64 c, .int .i64 n, .int .i64 b, .int .i64 r, .int .i64 f, .int .i64 g] wr
  bk : Bl BB [.int .i64 p, .int .i64 c, .int .i64 n, .int .i64 b, .int .i64 r, .int .i64 f, .int .i64 g, .slice A2 os.length c2] wr
  row : wr.ownsRow base 55 7 (.slice A2 os.length c2) os.length (ov os)
  bel : Below w.heap.size w wr
theorem SSt.below {w wr w' : World} {p c n b r f g : Int} {BB base : Nat} {A2 : Option Addr} {c2 : Nat} {os : List Ord} (h : SSt w wr p c n b r f g BB base A2 c2 os) (hb : Below wr.heap.size wr w') : SSt w w' p c n b r f g BB base A2 c2 os :=
  ⟨h.cfg.below hb, h.bk.below hb, rkept h.row hb, Below.step h.bel hb⟩
set_option maxRecDepth 100000 in
set_option maxHeartbeats 16000000 in
theorem main0 (p c n b r f g : Int) (A : Option Addr) (ln cp : Nat) (gv : Nat → Ord) (nm si : Int) (w : World) (hp : 1 ≤ p ∧ p ≤ 6) (hc : 1 ≤ c ∧ c ≤ 4) (hn : 1 ≤ n ∧ n ≤ 3) (hb : 1 ≤ b ∧ b ≤ 4) (hr : 0 ≤ r ∧ r ≤ 4) (hf : 1 ≤ f ∧ f ≤ 4) (hg : 1 ≤ g ∧ g ≤ 15) (hl : ln ≤ 40) (hE : OrdsAt A ln gv w) (hF : Fine (lst ln gv)) : Calls Try.prog 3 #[.agg #[.int .i64 p, .int .i64 c, .int .i64 n, .int .i64 b, .int .i64 r, .int .i64 f, .int .i64 g], .slice A ln cp, .int .i64 nm, .int .i64 0, .int .i64 si] w fun e w' => e = .returned (.bool true) ∧ Below w.heap.size w w' := by
  have HM := Lib.hid (fun (W : World) (hW : Below w.heap.size w W) => made_ok p c n b r f g A ln cp gv W hp hc hn hb hr hf hg hl (hE.below hW) hF)
  have hlen : (lst ln gv).length ≤ 40 := by rw [lst_len]; exact hl
  have HSH := Lib.hid (fun (W : World) (base cap : Nat) (A : Option Addr) (i : Int) (h : W.ownsRow base 55 7 (.slice A (lst ln gv).length cap) (lst ln gv).length (ov (lst ln gv))) => shard_is p c n b r f g base cap A _ (lst ln gv) i W rfl h hlen hF hn hb)
  have HBE := Lib.hid (fun (W : World) (base cap : Nat) (A : Option Addr) (x : Int) (h : W.ownsRow base 55 7 (.slice A (lst ln gv).length cap) (lst ln gv).length (ov (lst ln gv))) => best_is p c n b r f g base cap A _ (lst ln gv) x 0 W rfl h hlen hF)
  have HLV := Lib.hid (fun (W : World) (base cap : Nat) (A : Option Addr) (x : Int) (h : W.ownsRow base 55 7 (.slice A (lst ln gv).length cap) (lst ln gv).length (ov (lst ln gv))) => levels_is p c n b r f g base cap A _ (lst ln gv) x 0 W rfl h hlen hF)
  have HSP := Lib.hid (fun (W : World) (base cap : Nat) (A : Option Addr) (x : Int) (h : W.ownsRow base 55 7 (.slice A (lst ln gv).length cap) (lst ln gv).length (ov (lst ln gv))) => spread_is p c n b r f g base cap A _ (lst ln gv) x W rfl h hlen hF)
  have HR1 := Lib.hid (fun (W : World) (hW : Below w.heap.size w W) => lvr_0 A ln cp gv nm W (hE.below hW) hl hF)
  have HR2 := Lib.hid (fun (W : World) (hW : Below w.heap.size w W) => lvr_1 A ln cp gv nm W (hE.below hW) hl hF)
  have HS0 := Lib.hid (fun (W : World) (hW : Below w.heap.size w W) => sh20_0 p c n b r f g A ln cp gv si W (hE.below hW) hl hF hn hb)
  have HS1 := Lib.hid (fun (W : World) (hW : Below w.heap.size w W) => sh20_1 p c n b r f g A ln cp gv si W (hE.below hW) hl hF hn hb)
  have HL1 := Lib.hid (refL_is (lst ln gv) nm 0 (by omega) hF)
  have HL2 := Lib.hid (refL_is (lst ln gv) nm 1 (by omega) hF)
  have HF := Lib.hid hF
  have HEN := Lib.hid hlen
  clear hp hc hn hb hr hf hg hl hE hF hlen
  obtain ⟨L, hL⟩ : ∃ L, L = refL (lst ln gv) nm 0 9999 := ⟨_, rfl⟩
  obtain ⟨Z, hZ⟩ : ∃ Z, Z = refL (lst ln gv) nm 1 9999 := ⟨_, rfl⟩
  rw [← hL] at HL1 HR1
  rw [← hZ] at HL2 HR2
  clear hL hZ
  go_enter Try.func3, Try.ntmps3
  go_wp2_with fail
  have b0 := Bl.new w [.int .i64 p, .int .i64 c, .int .i64 n, .int .i64 b, .int .i64 r, .int .i64 f, .int .i64 g] 23
  have g0 : Below w.heap.size w (w.alloc (.cells (List.toArray [.int .i64 p, .int .i64 c, .int .i64 n, .int .i64 b, .int .i64 r, .int .i64 f, .int .i64 g]) 23)) := by go_grown
  refine (HM.out _ g0).mono ?_
  rintro e1 w1 ⟨v, rfl, ho, hb1⟩
  obtain ⟨A2, c2, rfl⟩ := oshape ho
  have g1 : Below w1.heap.size w1 (w1.alloc (.cells (List.toArray [.int .i64 p, .int .i64 c, .int .i64 n, .int .i64 b, .int .i64 r, .int .i64 f, .int .i64 g, .slice A2 (lst ln gv).length c2]) 29)) := by go_grown
  have bB := Bl.new w1 [.int .i64 p, .int .i64 c, .int .i64 n, .int .i64 b, .int .i64 r, .int .i64 f, .int .i64 g, .slice A2 (lst ln gv).length c2] 29
  obtain ⟨BB, hBB⟩ : ∃ BB, BB = w1.heap.size := ⟨_, rfl⟩
  obtain ⟨W1, hW1⟩ : ∃ W1, W1 = w1.alloc (.cells (List.toArray [.int .i64 p, .int .i64 c, .int .i64 n, .int .i64 b, .int .i64 r, .int .i64 f, .int .i64 g, .slice A2 (lst ln gv).length c2]) 29) := ⟨_, rfl⟩
  have hS1 : SSt w W1 p c n b r f g BB (w.alloc (.cells (List.toArray [.int .i64 p, .int .i64 c, .int .i64 n, .int .i64 b, .int .i64 r, .int .i64 f, .int .i64 g]) 23)).heap.size A2 c2 (lst ln gv) := by
    rw [hW1, hBB]
    exact ⟨(b0.below hb1).below g1, bB, rkept ho g1, Below.step (Below.step g0 hb1) g1⟩
  have HBB := Lib.hid hBB
  have HW1 := Lib.hid hW1
  have HS := Lib.hid hS1
  have q0 := HS.out.bk.cell 0 _ rfl
  have q1 := HS.out.bk.cell 1 _ rfl
  have q2 := HS.out.bk.cell 2 _ rfl
  have q3 := HS.out.bk.cell 3 _ rfl
  have q4 := HS.out.bk.cell 4 _ rfl
  have q5 := HS.out.bk.cell 5 _ rfl
  have q6 := HS.out.bk.cell 6 _ rfl
  have q7 := HS.out.bk.cell 7 _ rfl
  clear b0 g0 hb1 g1 bB ho hBB hS1
  have hBBx := HBB.out
  rw [hW1, hBBx] at q0 q1 q2 q3 q4 q5 q6 q7
  clear hW1 hBBx
  go_wp2_with fail
  rw [← HW1.out, ← HBB.out]
  refine (HLV.out _ _ _ _ _ HS.out.row).mono ?_
  rintro e2 w2 ⟨v2, L', rfl, hl2, ho2, hlen2, hb2⟩
  have eL := hl2.unique HL1.out
  rw [eL] at ho2 hlen2
  clear eL
  obtain ⟨A3, c3, rfl⟩ := oshape ho2
  have HT2 := Lib.hid (HS.out.below hb2)
  have HO2 := Lib.hid ho2
  have HN2 := Lib.hid hlen2
  clear hl2 ho2 hlen2 hb2 q0 q1 q2 q3 q4 q5 q6 q7
  go_wp2_with fail
  refine (HR1.out _ HT2.out.bel).mono ?_
  rintro e3 w3 ⟨v3, rfl, ho3, hb3⟩
  obtain ⟨A4, c4, rfl⟩ := oshape ho3
  have HT3 := Lib.hid (HT2.out.below hb3)
  have HO3 := Lib.hid (And.intro (rkept HO2.out hb3) ho3)
  clear hb3 ho3
  have n40 : (L.length : Int) ≤ 40 := by have := HN2.out; omega
  have n00 : (0 : Int) ≤ (L.length : Int) := by omega
  have nne : ((L.length : Int) != (L.length : Int)) = false := by simp
  go_wp2_with fail
  go_loopw [55] (fun j wr => ∃ k : Nat, k ≤ L.length ∧ j = .int .i64 (k : Int) ∧ Hid (SSt w wr p c n b r f g BB (w.alloc (.cells (List.toArray [.int .i64 p, .int .i64 c, .int .i64 n, .int .i64 b, .int .i64 r, .int .i64 f, .int .i64 g]) 23)).heap.size A2 c2 (lst ln gv) ∧ wr.ownsRow W1.heap.size 39 3 (.slice A3 L.length c3) L.length (vv L) ∧ wr.ownsRow w2.heap.size 38 3 (.slice A4 L.length c4) L.length (vv L))) (fun j _ => L.length + 1 - (intOf j).toNat)
  case atStart => exact ⟨0, Nat.zero_le _, rfl, Lib.hid ⟨HT3.out, HO3.out⟩⟩
  case round =>
    clear HT3 HO3
    obtain ⟨k, hk, rfl, HR⟩ := hrel
    have k0 : (0 : Int) ≤ (k : Int) := by omega
    by_cases hlt : k < L.length
    · obtain ⟨g3, c5, hv3, _, _⟩ := own_some HR.out.2.1 (by omega)
      obtain ⟨g4, c6, hv4, _, _⟩ := own_some HR.out.2.2 (by omega)
      injection hv3 with e1 e2 e3
      injection hv4 with e4 e5 e6
      subst e1 e3 e4 e6
      clear e2 e5
      obtain ⟨x, hx⟩ : ∃ x, L[k]? = some x := ⟨L[k], List.getElem?_eq_getElem hlt⟩
      have d0 := vrow_cell (j := 0) HR.out.2.1 hx rfl (by omega) rfl
      have d1 := vrow_cell (j := 1) HR.out.2.1 hx rfl (by omega) rfl
      have d2 := vrow_cell (j := 2) HR.out.2.1 hx rfl (by omega) rfl
      have r0 := vrow_cell2 (j := 0) HR.out.2.2 hx rfl (by omega) rfl
      have r1 := vrow_cell2 (j := 1) HR.out.2.2 hx rfl (by omega) rfl
      have r2 := vrow_cell2 (j := 2) HR.out.2.2 hx rfl (by omega) rfl
      rw [Nat.add_zero] at d0 r0
      have h1 : (k : Int) < (L.length : Int) := by omega
      have HLT := Lib.hid hlt
      have hnl := fun wq => run_neq_lvl x wq
      clear hx hlt hk
      go_wp2_with fail
      go_quiet (fail)
      go_wp2_with fail
      go_roundw
      case rel => exact ⟨k + 1, HLT.out, by go_num, Lib.hid ⟨HR.out.1.below (dn _ _), rkept HR.out.2.1 (dn _ _), rkept HR.out.2.2 (dn _ _)⟩⟩
      case measure => have := HLT.out; simp [intOf]; omega
    · have hke : k = L.length := by omega
      subst hke
      have HR0 := HR
      clear HR hk hlt k0
      have q0 := HR0.out.1.bk.cell 0 _ rfl
      have q1 := HR0.out.1.bk.cell 1 _ rfl
      have q2 := HR0.out.1.bk.cell 2 _ rfl
      have q3 := HR0.out.1.bk.cell 3 _ rfl
      have q4 := HR0.out.1.bk.cell 4 _ rfl
      have q5 := HR0.out.1.bk.cell 5 _ rfl
      have q6 := HR0.out.1.bk.cell 6 _ rfl
      have q7 := HR0.out.1.bk.cell 7 _ rfl
      go_wp2_with fail
      refine (HBE.out _ _ _ _ _ HR0.out.1.row).mono ?_
      rintro e4 w4 ⟨L4, rfl, hl4, hb4⟩
      have eL := hl4.unique HL1.out
      rw [eL]
      have HT4 := Lib.hid (And.intro (HR0.out.1.below hb4) (rkept HR0.out.2.2 hb4))
      clear hl4 eL hb4 q0 q1 q2 q3 q4 q5 q6 q7 nne n00
      have hbx := HL1.out.bp_bd HF.out
      have hbz := HL2.out.bp_bd HF.out
      have HUL := Lib.hid (fun l (h : LvIs (lst ln gv) nm 0 l) => h.unique HL1.out)
      have HUZ := Lib.hid (fun l (h : LvIs (lst ln gv) nm 1 l) => h.unique HL2.out)
      clear HL1 HL2
      rcases L with _ | ⟨x, t⟩
      · rcases Z with _ | ⟨z, tz⟩
        · have ly : True := trivial
          clear hbx hbz
          simp only [bp, bk]
          go_wp2_with fail
          refine (HR2.out _ HT4.out.1.bel).mono ?_
          rintro e5 w5 ⟨v5, rfl, ho5, hb5⟩
          obtain ⟨A5, c8, rfl⟩ := oshape ho5
          have HT5 := Lib.hid (HT4.out.1.below hb5)
          clear ho5 hb5
          have q0 := HT5.out.bk.cell 0 _ rfl
          have q1 := HT5.out.bk.cell 1 _ rfl
          have q2 := HT5.out.bk.cell 2 _ rfl
          have q3 := HT5.out.bk.cell 3 _ rfl
          have q4 := HT5.out.bk.cell 4 _ rfl
          have q5 := HT5.out.bk.cell 5 _ rfl
          have q6 := HT5.out.bk.cell 6 _ rfl
          have q7 := HT5.out.bk.cell 7 _ rfl
          go_wp2_with fail
          refine (HSP.out _ _ _ _ _ HT5.out.row).mono ?_
          rintro e6 w6 ⟨l0, l1, rfl, h0, h1, hb6⟩
          have eL := HUL.out _ h0
          have eZ := HUZ.out _ h1
          rw [eL, eZ]
          have HT6 := Lib.hid (HT5.out.below hb6)
          have hsp : spv [] [] = 0 := by simp [spv, bk, bp]
          rw [hsp]
          simp only [bk, Bool.and_true, Bool.and_false, Bool.true_and, Bool.false_and]
          clear h0 h1 eL eZ hsp hb6 q0 q1 q2 q3 q4 q5 q6 q7
          have q0 := HT6.out.bk.cell 0 _ rfl
          have q1 := HT6.out.bk.cell 1 _ rfl
          have q2 := HT6.out.bk.cell 2 _ rfl
          have q3 := HT6.out.bk.cell 3 _ rfl
          have q4 := HT6.out.bk.cell 4 _ rfl
          have q5 := HT6.out.bk.cell 5 _ rfl
          have q6 := HT6.out.bk.cell 6 _ rfl
          have q7 := HT6.out.bk.cell 7 _ rfl
          go_wp2_with fail
          refine (HSH.out _ _ _ _ _ HT6.out.row).mono ?_
          rintro e7 w7 ⟨rfl, hb7⟩
          have HT7 := Lib.hid (HT6.out.below hb7)
          clear hb7 q0 q1 q2 q3 q4 q5 q6 q7
          obtain ⟨X, hX⟩ : ∃ X, X = shl 0 (fsh n b 0 si) (lst ln gv) := ⟨_, rfl⟩
          obtain ⟨Y, hY⟩ : ∃ Y, Y = shl 1 (fsh n b 1 si) (lst ln gv) := ⟨_, rfl⟩
          rw [← hX, ← hY]
          rw [← hX] at HS0
          rw [← hY] at HS1
          clear hX hY
          go_wp2_with fail
          have b22 := Bl.new w7 [.int .i64 X.p, .int .i64 X.q, .int .i64 X.k, .int .i64 Y.p, .int .i64 Y.q, .int .i64 Y.k] 43
          have g8 : Below w7.heap.size w7 (w7.alloc (.cells (List.toArray [.int .i64 X.p, .int .i64 X.q, .int .i64 X.k, .int .i64 Y.p, .int .i64 Y.q, .int .i64 Y.k]) 43)) := by go_grown
          have hd : Bl w7.heap.size [.int .i64 X.p, .int .i64 X.q, .int .i64 X.k, .int .i64 Y.p, .int .i64 Y.q, .int .i64 Y.k] (w7.alloc (.cells (List.toArray [.int .i64 X.p, .int .i64 X.q, .int .i64 X.k, .int .i64 Y.p, .int .i64 Y.q, .int .i64 Y.k]) 43)).drew ∧ Bl w.heap.size [.int .i64 p, .int .i64 c, .int .i64 n, .int .i64 b, .int .i64 r, .int .i64 f, .int .i64 g] (w7.alloc (.cells (List.toArray [.int .i64 X.p, .int .i64 X.q, .int .i64 X.k, .int .i64 Y.p, .int .i64 Y.q, .int .i64 Y.k]) 43)).drew ∧ Below w.heap.size w (w7.alloc (.cells (List.toArray [.int .i64 X.p, .int .i64 X.q, .int .i64 X.k, .int .i64 Y.p, .int .i64 Y.q, .int .i64 Y.k]) 43)).drew := ⟨b22, (HT7.out.below g8).cfg, (HT7.out.below g8).bel.drew⟩
          clear b22 g8
          refine wp_region_held_drew (S := fun w' => Bl w7.heap.size [.int .i64 X.p, .int .i64 X.q, .int .i64 X.k, .int .i64 Y.p, .int .i64 Y.q, .int .i64 Y.k] w' ∧ Bl w.heap.size [.int .i64 p, .int .i64 c, .int .i64 n, .int .i64 b, .int .i64 r, .int .i64 f, .int .i64 g] w' ∧ Below w.heap.size w w') (by kernel_rfl) hd (fun hHeld => ?_)
          refine wpAnyH_ready (rs := [0]) (by as_aux_lemma => kernel_rfl) (by simp) ?_
          refine AllReadyH.cons (o := { dst := some 134, op := Op.call { callee := Callee.value (Operand.func 7), args := #[], argTypes := #[] }, type := 4, pos := "law.go:68", after := #[], guard := none }) rfl (fun K hK => ?_) AllReadyH.nil
          go_simp
          go_at_call 7
          refine (awake_is _).mono ?_
          rintro ea1 wa1 ⟨rfl, hba⟩
          have hd1 : Bl w7.heap.size [.int .i64 X.p, .int .i64 X.q, .int .i64 X.k, .int .i64 Y.p, .int .i64 Y.q, .int .i64 Y.k] wa1 ∧ Bl w.heap.size [.int .i64 p, .int .i64 c, .int .i64 n, .int .i64 b, .int .i64 r, .int .i64 f, .int .i64 g] wa1 ∧ Below w.heap.size w wa1 := ⟨hd.1.below hba, hd.2.1.below hba, Below.step hd.2.2 hba⟩
          refine hK.out _ _ hd1 (fun hHeld => ?_)
          clear hK K hba
          try simp only [Act.put, List.setIfInBounds_toArray, List.set_cons_zero, List.set_cons_succ]
          refine wpAnyH_take (i := 1) (oi := { dst := some 135, op := Op.move (Operand.tmp 134), type := 4, pos := "law.go:68", after := #[{ on := 0, ground := Ground.data }, { on := 0, ground := Ground.chain }], guard := none }) (v := ?_) rfl (by as_aux_lemma => kernel_rfl) (by as_aux_lemma => kernel_rfl) (by as_aux_lemma => kernel_rfl) (fun _ _ _ h => h) (Or.inl ⟨by rfl, ?_⟩) (by assumption) ?_
          rotate_left
          · intro wq hSw
            go_simp
            try with_reducible rfl
          simp only [Act.put, List.setIfInBounds_toArray, List.set_cons_zero, List.set_cons_succ]
          refine wpAnyH_take (i := 2) (oi := { dst := some 136, op := Op.move (Operand.tmp 20), type := 3, pos := "law.go:68", after := #[{ on := 1, ground := Ground.guard }], guard := some (1, true) }) (v := ?_) rfl (by as_aux_lemma => kernel_rfl) (by as_aux_lemma => kernel_rfl) (by as_aux_lemma => kernel_rfl) (fun _ _ _ h => h) (Or.inl ⟨by rfl, ?_⟩) (by assumption) ?_
          rotate_left
          · intro wq hSw
            go_simp
            try with_reducible rfl
          simp only [Act.put, List.setIfInBounds_toArray, List.set_cons_zero, List.set_cons_succ]
          refine wpAnyH_take (i := 3) (oi := { dst := some 137, op := Op.move (Operand.tmp 19), type := 3, pos := "law.go:68", after := #[{ on := 1, ground := Ground.guard }], guard := some (1, true) }) (v := ?_) rfl (by as_aux_lemma => kernel_rfl) (by as_aux_lemma => kernel_rfl) (by as_aux_lemma => kernel_rfl) (fun _ _ _ h => h) (Or.inl ⟨by rfl, ?_⟩) (by assumption) ?_
          rotate_left
          · intro wq hSw
            go_simp
            try with_reducible rfl
          simp only [Act.put, List.setIfInBounds_toArray, List.set_cons_zero, List.set_cons_succ]
          refine wpAnyH_take (i := 4) (oi := { dst := some 138, op := Op.binOp BinOp.eql 3 (Operand.tmp 136) (Operand.tmp 137) 3, type := 4, pos := "law.go:68", after := #[{ on := 2, ground := Ground.data }, { on := 3, ground := Ground.data }, { on := 1, ground := Ground.guard }], guard := some (1, true) }) (v := .bool true) rfl (by as_aux_lemma => kernel_rfl) (by as_aux_lemma => kernel_rfl) (by as_aux_lemma => kernel_rfl) (fun _ _ _ h => h) (Or.inl ⟨by rfl, ?_⟩) (by assumption) ?_
          · intro wq hSw
            go_simp
            try with_reducible rfl
          simp only [Act.put, List.setIfInBounds_toArray, List.set_cons_zero, List.set_cons_succ]
          refine wpAnyH_take (i := 5) (oi := { dst := some 139, op := Op.pick (Operand.tmp 135) (Operand.tmp 138) (Operand.const (Value.bool false)), type := 4, pos := "law.go:68", after := #[{ on := 1, ground := Ground.data }, { on := 4, ground := Ground.data }], guard := none }) (v := ?_) rfl (by as_aux_lemma => kernel_rfl) (by as_aux_lemma => kernel_rfl) (by as_aux_lemma => kernel_rfl) (fun _ _ _ h => h) (Or.inl ⟨by rfl, ?_⟩) (by assumption) ?_
          rotate_left
          · intro wq hSw
            go_simp
            try with_reducible rfl
          simp only [Act.put, List.setIfInBounds_toArray, List.set_cons_zero, List.set_cons_succ]
          refine wpAnyH_take (i := 6) (oi := { dst := some 140, op := Op.move (Operand.tmp 139), type := 4, pos := "law.go:68", after := #[{ on := 5, ground := Ground.data }, { on := 1, ground := Ground.chain }], guard := none }) (v := ?_) rfl (by as_aux_lemma => kernel_rfl) (by as_aux_lemma => kernel_rfl) (by as_aux_lemma => kernel_rfl) (fun _ _ _ h => h) (Or.inl ⟨by rfl, ?_⟩) (by assumption) ?_
          rotate_left
          · intro wq hSw
            go_simp
            try with_reducible rfl
          simp only [Act.put, List.setIfInBounds_toArray, List.set_cons_zero, List.set_cons_succ]
          refine wpAnyH_take (i := 7) (oi := { dst := some 141, op := Op.move (Operand.tmp 21), type := 4, pos := "law.go:68", after := #[{ on := 6, ground := Ground.guard }], guard := some (6, true) }) (v := ?_) rfl (by as_aux_lemma => kernel_rfl) (by as_aux_lemma => kernel_rfl) (by as_aux_lemma => kernel_rfl) (fun _ _ _ h => h) (Or.inl ⟨by rfl, ?_⟩) (by assumption) ?_
          rotate_left
          · intro wq hSw
            go_simp
            try with_reducible rfl
          simp only [Act.put, List.setIfInBounds_toArray, List.set_cons_zero, List.set_cons_succ]
          refine wpAnyH_take (i := 8) (oi := { dst := some 142, op := Op.move (Operand.tmp 14), type := 35, pos := "law.go:68", after := #[{ on := 6, ground := Ground.guard }], guard := some (6, true) }) (v := ?_) rfl (by as_aux_lemma => kernel_rfl) (by as_aux_lemma => kernel_rfl) (by as_aux_lemma => kernel_rfl) (fun _ _ _ h => h) (Or.inl ⟨by rfl, ?_⟩) (by assumption) ?_
          rotate_left
          · intro wq hSw
            go_simp
            try with_reducible rfl
          simp only [Act.put, List.setIfInBounds_toArray, List.set_cons_zero, List.set_cons_succ]
          refine wpAnyH_take (i := 9) (oi := { dst := some 143, op := Op.call { callee := Callee.builtin Builtin.len, args := #[Operand.tmp 142], argTypes := #[35] }, type := 3, pos := "law.go:68", after := #[{ on := 8, ground := Ground.data }, { on := 6, ground := Ground.guard }], guard := some (6, true) }) (v := ?_) rfl (by as_aux_lemma => kernel_rfl) (by as_aux_lemma => kernel_rfl) (by as_aux_lemma => kernel_rfl) (fun _ _ _ h => h) (Or.inl ⟨by rfl, ?_⟩) (by assumption) ?_
          rotate_left
          · intro wq hSw
            go_simp
            try with_reducible rfl
          simp only [Act.put, List.setIfInBounds_toArray, List.set_cons_zero, List.set_cons_succ]
          refine wpAnyH_take (i := 10) (oi := { dst := some 144, op := Op.binOp BinOp.gtr 3 (Operand.tmp 143) (Operand.const (Value.int IntKind.i64 0)) 3, type := 4, pos := "law.go:68", after := #[{ on := 9, ground := Ground.data }, { on := 6, ground := Ground.guard }], guard := some (6, true) }) (v := .bool false) rfl (by as_aux_lemma => kernel_rfl) (by as_aux_lemma => kernel_rfl) (by as_aux_lemma => kernel_rfl) (fun _ _ _ h => h) (Or.inl ⟨by rfl, ?_⟩) (by assumption) ?_
          · intro wq hSw
            go_simp
            try with_reducible rfl
          simp only [Act.put, List.setIfInBounds_toArray, List.set_cons_zero, List.set_cons_succ]
          refine wpAnyH_take (i := 11) (oi := { dst := some 145, op := Op.move (Operand.tmp 144), type := 4, pos := "law.go:68", after := #[{ on := 10, ground := Ground.data }, { on := 6, ground := Ground.chain }, { on := 6, ground := Ground.guard }], guard := some (6, true) }) (v := ?_) rfl (by as_aux_lemma => kernel_rfl) (by as_aux_lemma => kernel_rfl) (by as_aux_lemma => kernel_rfl) (fun _ _ _ h => h) (Or.inl ⟨by rfl, ?_⟩) (by assumption) ?_
          rotate_left
          · intro wq hSw
            go_simp
            try with_reducible rfl
          simp only [Act.put, List.setIfInBounds_toArray, List.set_cons_zero, List.set_cons_succ]
          refine wpAnyH_take (i := 12) (oi := { dst := some 146, op := Op.move (Operand.tmp 18), type := 35, pos := "law.go:68", after := #[{ on := 11, ground := Ground.guard }], guard := some (11, true) }) (v := undef) rfl (by as_aux_lemma => kernel_rfl) (by as_aux_lemma => kernel_rfl) (by as_aux_lemma => kernel_rfl) (fun _ _ _ h => h) (Or.inr ⟨by rfl, rfl⟩) (by assumption) ?_
          simp only [Act.put, List.setIfInBounds_toArray, List.set_cons_zero, List.set_cons_succ]
          refine wpAnyH_take (i := 13) (oi := { dst := some 147, op := Op.call { callee := Callee.builtin Builtin.len, args := #[Operand.tmp 146], argTypes := #[35] }, type := 3, pos := "law.go:68", after := #[{ on := 12, ground := Ground.data }, { on := 11, ground := Ground.guard }], guard := some (11, true) }) (v := undef) rfl (by as_aux_lemma => kernel_rfl) (by as_aux_lemma => kernel_rfl) (by as_aux_lemma => kernel_rfl) (fun _ _ _ h => h) (Or.inr ⟨by rfl, rfl⟩) (by assumption) ?_
          simp only [Act.put, List.setIfInBounds_toArray, List.set_cons_zero, List.set_cons_succ]
          refine wpAnyH_take (i := 14) (oi := { dst := some 148, op := Op.binOp BinOp.gtr 3 (Operand.tmp 147) (Operand.const (Value.int IntKind.i64 0)) 3, type := 4, pos := "law.go:68", after := #[{ on := 13, ground := Ground.data }, { on := 11, ground := Ground.guard }], guard := some (11, true) }) (v := undef) rfl (by as_aux_lemma => kernel_rfl) (by as_aux_lemma => kernel_rfl) (by as_aux_lemma => kernel_rfl) (fun _ _ _ h => h) (Or.inr ⟨by rfl, rfl⟩) (by assumption) ?_
          simp only [Act.put, List.setIfInBounds_toArray, List.set_cons_zero, List.set_cons_succ]
          refine wpAnyH_take (i := 15) (oi := { dst := some 149, op := Op.pick (Operand.tmp 145) (Operand.tmp 148) (Operand.const (Value.bool false)), type := 4, pos := "law.go:68", after := #[{ on := 11, ground := Ground.data }, { on := 14, ground := Ground.data }, { on := 6, ground := Ground.guard }], guard := some (6, true) }) (v := ?_) rfl (by as_aux_lemma => kernel_rfl) (by as_aux_lemma => kernel_rfl) (by as_aux_lemma => kernel_rfl) (fun _ _ _ h => h) (Or.inl ⟨by rfl, ?_⟩) (by assumption) ?_
          rotate_left
          · intro wq hSw
            go_simp
            try with_reducible rfl
          simp only [Act.put, List.setIfInBounds_toArray, List.set_cons_zero, List.set_cons_succ]
          refine wpAnyH_take (i := 16) (oi := { dst := some 150, op := Op.binOp BinOp.eql 4 (Operand.tmp 141) (Operand.tmp 149) 4, type := 4, pos := "law.go:68", after := #[{ on := 7, ground := Ground.data }, { on := 15, ground := Ground.data }, { on := 6, ground := Ground.guard }], guard := some (6, true) }) (v := .bool true) rfl (by as_aux_lemma => kernel_rfl) (by as_aux_lemma => kernel_rfl) (by as_aux_lemma => kernel_rfl) (fun _ _ _ h => h) (Or.inl ⟨by rfl, ?_⟩) (by assumption) ?_
          · intro wq hSw
            go_simp
            try with_reducible rfl
          simp only [Act.put, List.setIfInBounds_toArray, List.set_cons_zero, List.set_cons_succ]
          refine wpAnyH_take (i := 17) (oi := { dst := some 151, op := Op.pick (Operand.tmp 140) (Operand.tmp 150) (Operand.const (Value.bool false)), type := 4, pos := "law.go:68", after := #[{ on := 6, ground := Ground.data }, { on := 16, ground := Ground.data }], guard := none }) (v := ?_) rfl (by as_aux_lemma => kernel_rfl) (by as_aux_lemma => kernel_rfl) (by as_aux_lemma => kernel_rfl) (fun _ _ _ h => h) (Or.inl ⟨by rfl, ?_⟩) (by assumption) ?_
          rotate_left
          · intro wq hSw
            go_simp
            try with_reducible rfl
          simp only [Act.put, List.setIfInBounds_toArray, List.set_cons_zero, List.set_cons_succ]
          refine wpAnyH_take (i := 18) (oi := { dst := some 152, op := Op.move (Operand.tmp 151), type := 4, pos := "law.go:68", after := #[{ on := 17, ground := Ground.data }, { on := 11, ground := Ground.chain }], guard := none }) (v := ?_) rfl (by as_aux_lemma => kernel_rfl) (by as_aux_lemma => kernel_rfl) (by as_aux_lemma => kernel_rfl) (fun _ _ _ h => h) (Or.inl ⟨by rfl, ?_⟩) (by assumption) ?_
          rotate_left
          · intro wq hSw
            go_simp
            try with_reducible rfl
          simp only [Act.put, List.setIfInBounds_toArray, List.set_cons_zero, List.set_cons_succ]
          refine wpAnyH_take (i := 19) (oi := { dst := some 153, op := Op.indexAddr 43 (Operand.tmp 22) (Operand.const (Value.int IntKind.i64 0)), type := 0, pos := "law.go:68", after := #[{ on := 18, ground := Ground.guard }], guard := some (18, true) }) (v := ?_) rfl (by as_aux_lemma => kernel_rfl) (by as_aux_lemma => kernel_rfl) (by as_aux_lemma => kernel_rfl) (fun _ _ _ h => h) (Or.inl ⟨by rfl, ?_⟩) (by assumption) ?_
          rotate_left
          · intro wq hSw
            go_simp
            try with_reducible rfl
          simp only [Act.put, List.setIfInBounds_toArray, List.set_cons_zero, List.set_cons_succ]
          refine wpAnyH_take (i := 20) (oi := { dst := some 154, op := Op.load 39 (Operand.tmp 153), type := 39, pos := "law.go:68", after := #[{ on := 19, ground := Ground.data }, { on := 18, ground := Ground.guard }], guard := some (18, true) }) (v := ?_) rfl (by as_aux_lemma => kernel_rfl) (by as_aux_lemma => kernel_rfl) (by as_aux_lemma => kernel_rfl) (fun _ _ _ h => h) (Or.inl ⟨by rfl, ?_⟩) (by assumption) ?_
          rotate_left
          · intro wq hSw
            have h0 := hSw.1.cell 0 _ rfl; have h1 := hSw.1.cell 1 _ rfl; have h2 := hSw.1.cell 2 _ rfl
            go_simp
            try with_reducible rfl
          simp only [Act.put, List.setIfInBounds_toArray, List.set_cons_zero, List.set_cons_succ]
          refine wpAnyH_take (i := 21) (oi := { dst := some 155, op := Op.load 23 (Operand.tmp 5), type := 23, pos := "law.go:68", after := #[{ on := 18, ground := Ground.guard }], guard := some (18, true) }) (v := ?_) rfl (by as_aux_lemma => kernel_rfl) (by as_aux_lemma => kernel_rfl) (by as_aux_lemma => kernel_rfl) (fun _ _ _ h => h) (Or.inl ⟨by rfl, ?_⟩) (by assumption) ?_
          rotate_left
          · intro wq hSw
            have h0 := hSw.2.1.cell 0 _ rfl; have h1 := hSw.2.1.cell 1 _ rfl; have h2 := hSw.2.1.cell 2 _ rfl; have h3 := hSw.2.1.cell 3 _ rfl; have h4 := hSw.2.1.cell 4 _ rfl; have h5 := hSw.2.1.cell 5 _ rfl; have h6 := hSw.2.1.cell 6 _ rfl
            go_simp
            try with_reducible rfl
          simp only [Act.put, List.setIfInBounds_toArray, List.set_cons_zero, List.set_cons_succ]
          refine wpAnyH_take (i := 22) (oi := { dst := some 156, op := Op.move (Operand.tmp 1), type := 24, pos := "law.go:68", after := #[{ on := 18, ground := Ground.guard }], guard := some (18, true) }) (v := ?_) rfl (by as_aux_lemma => kernel_rfl) (by as_aux_lemma => kernel_rfl) (by as_aux_lemma => kernel_rfl) (fun _ _ _ h => h) (Or.inl ⟨by rfl, ?_⟩) (by assumption) ?_
          rotate_left
          · intro wq hSw
            go_simp
            try with_reducible rfl
          simp only [Act.put, List.setIfInBounds_toArray, List.set_cons_zero, List.set_cons_succ]
          refine wpAnyH_take (i := 23) (oi := { dst := some 157, op := Op.move (Operand.tmp 4), type := 3, pos := "law.go:68", after := #[{ on := 18, ground := Ground.guard }], guard := some (18, true) }) (v := ?_) rfl (by as_aux_lemma => kernel_rfl) (by as_aux_lemma => kernel_rfl) (by as_aux_lemma => kernel_rfl) (fun _ _ _ h => h) (Or.inl ⟨by rfl, ?_⟩) (by assumption) ?_
          rotate_left
          · intro wq hSw
            go_simp
            try with_reducible rfl
          simp only [Act.put, List.setIfInBounds_toArray, List.set_cons_zero, List.set_cons_succ]
          refine wpAnyH_ready (rs := [24]) (by as_aux_lemma => kernel_rfl) (by simp) ?_
          refine AllReadyH.cons (o := { dst := some 158, op := Op.call { callee := Callee.value (Operand.func 13), args := #[Operand.tmp 155, Operand.tmp 156, Operand.tmp 157, Operand.const (Value.int IntKind.i64 0)], argTypes := #[23, 24, 3, 3] }, type := 38, pos := "law.go:68", after := #[{ on := 21, ground := Ground.data }, { on := 22, ground := Ground.data }, { on := 23, ground := Ground.data }, { on := 18, ground := Ground.chain }, { on := 18, ground := Ground.guard }], guard := some (18, true) }) rfl (fun K hK => ?_) AllReadyH.nil
          go_simp
          go_at_call 13
          refine (HS0.out _ hd1.2.2).mono ?_
          rintro ea2 wa2 ⟨rfl, hba⟩
          have hd2 : Bl w7.heap.size [.int .i64 X.p, .int .i64 X.q, .int .i64 X.k, .int .i64 Y.p, .int .i64 Y.q, .int .i64 Y.k] wa2 ∧ Bl w.heap.size [.int .i64 p, .int .i64 c, .int .i64 n, .int .i64 b, .int .i64 r, .int .i64 f, .int .i64 g] wa2 ∧ Below w.heap.size w wa2 := ⟨hd1.1.below hba, hd1.2.1.below hba, Below.step hd1.2.2 hba⟩
          refine hK.out _ _ hd2 (fun hHeld => ?_)
          clear hK K hba
          try simp only [Act.put, List.setIfInBounds_toArray, List.set_cons_zero, List.set_cons_succ]
          refine wpAnyH_take (i := 25) (oi := { dst := some 159, op := Op.binOp BinOp.eql 38 (Operand.tmp 154) (Operand.tmp 158) 38, type := 4, pos := "law.go:68", after := #[{ on := 20, ground := Ground.data }, { on := 24, ground := Ground.data }, { on := 18, ground := Ground.guard }], guard := some (18, true) }) (v := .bool true) rfl (by as_aux_lemma => kernel_rfl) (by as_aux_lemma => kernel_rfl) (by as_aux_lemma => kernel_rfl) (fun _ _ _ h => h) (Or.inl ⟨by rfl, ?_⟩) (by assumption) ?_
          · intro wq hSw
            have he := run_eql_lvl X wq
            go_simp
            try with_reducible rfl
          simp only [Act.put, List.setIfInBounds_toArray, List.set_cons_zero, List.set_cons_succ]
          refine wpAnyH_take (i := 26) (oi := { dst := some 160, op := Op.pick (Operand.tmp 152) (Operand.tmp 159) (Operand.const (Value.bool false)), type := 4, pos := "law.go:68", after := #[{ on := 18, ground := Ground.data }, { on := 25, ground := Ground.data }], guard := none }) (v := ?_) rfl (by as_aux_lemma => kernel_rfl) (by as_aux_lemma => kernel_rfl) (by as_aux_lemma => kernel_rfl) (fun _ _ _ h => h) (Or.inl ⟨by rfl, ?_⟩) (by assumption) ?_
          rotate_left
          · intro wq hSw
            go_simp
            try with_reducible rfl
          simp only [Act.put, List.setIfInBounds_toArray, List.set_cons_zero, List.set_cons_succ]
          refine wpAnyH_take (i := 27) (oi := { dst := some 161, op := Op.move (Operand.tmp 160), type := 4, pos := "law.go:68", after := #[{ on := 26, ground := Ground.data }, { on := 24, ground := Ground.chain }], guard := none }) (v := ?_) rfl (by as_aux_lemma => kernel_rfl) (by as_aux_lemma => kernel_rfl) (by as_aux_lemma => kernel_rfl) (fun _ _ _ h => h) (Or.inl ⟨by rfl, ?_⟩) (by assumption) ?_
          rotate_left
          · intro wq hSw
            go_simp
            try with_reducible rfl
          simp only [Act.put, List.setIfInBounds_toArray, List.set_cons_zero, List.set_cons_succ]
          refine wpAnyH_take (i := 28) (oi := { dst := some 162, op := Op.indexAddr 43 (Operand.tmp 22) (Operand.const (Value.int IntKind.i64 1)), type := 0, pos := "law.go:68", after := #[{ on := 27, ground := Ground.guard }], guard := some (27, true) }) (v := ?_) rfl (by as_aux_lemma => kernel_rfl) (by as_aux_lemma => kernel_rfl) (by as_aux_lemma => kernel_rfl) (fun _ _ _ h => h) (Or.inl ⟨by rfl, ?_⟩) (by assumption) ?_
          rotate_left
          · intro wq hSw
            go_simp
            try with_reducible rfl
          simp only [Act.put, List.setIfInBounds_toArray, List.set_cons_zero, List.set_cons_succ]
          refine wpAnyH_take (i := 29) (oi := { dst := some 163, op := Op.load 39 (Operand.tmp 162), type := 39, pos := "law.go:68", after := #[{ on := 28, ground := Ground.data }, { on := 27, ground := Ground.guard }], guard := some (27, true) }) (v := ?_) rfl (by as_aux_lemma => kernel_rfl) (by as_aux_lemma => kernel_rfl) (by as_aux_lemma => kernel_rfl) (fun _ _ _ h => h) (Or.inl ⟨by rfl, ?_⟩) (by assumption) ?_
          rotate_left
          · intro wq hSw
            have h0 := hSw.1.cell 3 _ rfl; have h1 := hSw.1.cell 4 _ rfl; have h2 := hSw.1.cell 5 _ rfl
            go_simp
            try with_reducible rfl
          simp only [Act.put, List.setIfInBounds_toArray, List.set_cons_zero, List.set_cons_succ]
          refine wpAnyH_take (i := 30) (oi := { dst := some 164, op := Op.load 23 (Operand.tmp 5), type := 23, pos := "law.go:68", after := #[{ on := 27, ground := Ground.guard }], guard := some (27, true) }) (v := ?_) rfl (by as_aux_lemma => kernel_rfl) (by as_aux_lemma => kernel_rfl) (by as_aux_lemma => kernel_rfl) (fun _ _ _ h => h) (Or.inl ⟨by rfl, ?_⟩) (by assumption) ?_
          rotate_left
          · intro wq hSw
            have h0 := hSw.2.1.cell 0 _ rfl; have h1 := hSw.2.1.cell 1 _ rfl; have h2 := hSw.2.1.cell 2 _ rfl; have h3 := hSw.2.1.cell 3 _ rfl; have h4 := hSw.2.1.cell 4 _ rfl; have h5 := hSw.2.1.cell 5 _ rfl; have h6 := hSw.2.1.cell 6 _ rfl
            go_simp
            try with_reducible rfl
          simp only [Act.put, List.setIfInBounds_toArray, List.set_cons_zero, List.set_cons_succ]
          refine wpAnyH_take (i := 31) (oi := { dst := some 165, op := Op.move (Operand.tmp 1), type := 24, pos := "law.go:68", after := #[{ on := 27, ground := Ground.guard }], guard := some (27, true) }) (v := ?_) rfl (by as_aux_lemma => kernel_rfl) (by as_aux_lemma => kernel_rfl) (by as_aux_lemma => kernel_rfl) (fun _ _ _ h => h) (Or.inl ⟨by rfl, ?_⟩) (by assumption) ?_
          rotate_left
          · intro wq hSw
            go_simp
            try with_reducible rfl
          simp only [Act.put, List.setIfInBounds_toArray, List.set_cons_zero, List.set_cons_succ]
          refine wpAnyH_take (i := 32) (oi := { dst := some 166, op := Op.move (Operand.tmp 4), type := 3, pos := "law.go:68", after := #[{ on := 27, ground := Ground.guard }], guard := some (27, true) }) (v := ?_) rfl (by as_aux_lemma => kernel_rfl) (by as_aux_lemma => kernel_rfl) (by as_aux_lemma => kernel_rfl) (fun _ _ _ h => h) (Or.inl ⟨by rfl, ?_⟩) (by assumption) ?_
          rotate_left
          · intro wq hSw
            go_simp
            try with_reducible rfl
          simp only [Act.put, List.setIfInBounds_toArray, List.set_cons_zero, List.set_cons_succ]
          refine wpAnyH_ready (rs := [33]) (by as_aux_lemma => kernel_rfl) (by simp) ?_
          refine AllReadyH.cons (o := { dst := some 167, op := Op.call { callee := Callee.value (Operand.func 13), args := #[Operand.tmp 164, Operand.tmp 165, Operand.tmp 166, Operand.const (Value.int IntKind.i64 1)], argTypes := #[23, 24, 3, 3] }, type := 38, pos := "law.go:68", after := #[{ on := 30, ground := Ground.data }, { on := 31, ground := Ground.data }, { on := 32, ground := Ground.data }, { on := 27, ground := Ground.chain }, { on := 27, ground := Ground.guard }], guard := some (27, true) }) rfl (fun K hK => ?_) AllReadyH.nil
          go_simp
          go_at_call 13
          refine (HS1.out _ hd2.2.2).mono ?_
          rintro ea3 wa3 ⟨rfl, hba⟩
          have hd3 : Bl w7.heap.size [.int .i64 X.p, .int .i64 X.q, .int .i64 X.k, .int .i64 Y.p, .int .i64 Y.q, .int .i64 Y.k] wa3 ∧ Bl w.heap.size [.int .i64 p, .int .i64 c, .int .i64 n, .int .i64 b, .int .i64 r, .int .i64 f, .int .i64 g] wa3 ∧ Below w.heap.size w wa3 := ⟨hd2.1.below hba, hd2.2.1.below hba, Below.step hd2.2.2 hba⟩
          refine hK.out _ _ hd3 (fun hHeld => ?_)
          clear hK K hba
          try simp only [Act.put, List.setIfInBounds_toArray, List.set_cons_zero, List.set_cons_succ]
          refine wpAnyH_take (i := 34) (oi := { dst := some 168, op := Op.binOp BinOp.eql 38 (Operand.tmp 163) (Operand.tmp 167) 38, type := 4, pos := "law.go:68", after := #[{ on := 29, ground := Ground.data }, { on := 33, ground := Ground.data }, { on := 27, ground := Ground.guard }], guard := some (27, true) }) (v := .bool true) rfl (by as_aux_lemma => kernel_rfl) (by as_aux_lemma => kernel_rfl) (by as_aux_lemma => kernel_rfl) (fun _ _ _ h => h) (Or.inl ⟨by rfl, ?_⟩) (by assumption) ?_
          · intro wq hSw
            have he := run_eql_lvl Y wq
            go_simp
            try with_reducible rfl
          simp only [Act.put, List.setIfInBounds_toArray, List.set_cons_zero, List.set_cons_succ]
          refine wpAnyH_take (i := 35) (oi := { dst := some 169, op := Op.pick (Operand.tmp 161) (Operand.tmp 168) (Operand.const (Value.bool false)), type := 4, pos := "law.go:68", after := #[{ on := 27, ground := Ground.data }, { on := 34, ground := Ground.data }], guard := none }) (v := ?_) rfl (by as_aux_lemma => kernel_rfl) (by as_aux_lemma => kernel_rfl) (by as_aux_lemma => kernel_rfl) (fun _ _ _ h => h) (Or.inl ⟨by rfl, ?_⟩) (by assumption) ?_
          rotate_left
          · intro wq hSw
            go_simp
            try with_reducible rfl
          simp only [Act.put, List.setIfInBounds_toArray, List.set_cons_zero, List.set_cons_succ]
          refine wpAnyH_take (i := 36) (oi := { dst := some 10, op := Op.assign (Operand.tmp 169), type := 4, pos := "law.go:68", after := #[{ on := 35, ground := Ground.data }, { on := 33, ground := Ground.chain }, { on := 0, ground := Ground.phase }, { on := 1, ground := Ground.phase }, { on := 2, ground := Ground.phase }, { on := 3, ground := Ground.phase }, { on := 4, ground := Ground.phase }, { on := 5, ground := Ground.phase }, { on := 6, ground := Ground.phase }, { on := 7, ground := Ground.phase }, { on := 8, ground := Ground.phase }, { on := 9, ground := Ground.phase }, { on := 10, ground := Ground.phase }, { on := 11, ground := Ground.phase }, { on := 12, ground := Ground.phase }, { on := 13, ground := Ground.phase }, { on := 14, ground := Ground.phase }, { on := 15, ground := Ground.phase }, { on := 16, ground := Ground.phase }, { on := 17, ground := Ground.phase }, { on := 18, ground := Ground.phase }, { on := 19, ground := Ground.phase }, { on := 20, ground := Ground.phase }, { on := 21, ground := Ground.phase }, { on := 22, ground := Ground.phase }, { on := 23, ground := Ground.phase }, { on := 24, ground := Ground.phase }, { on := 25, ground := Ground.phase }, { on := 26, ground := Ground.phase }, { on := 27, ground := Ground.phase }, { on := 28, ground := Ground.phase }, { on := 29, ground := Ground.phase }, { on := 30, ground := Ground.phase }, { on := 31, ground := Ground.phase }, { on := 32, ground := Ground.phase }, { on := 33, ground := Ground.phase }, { on := 34, ground := Ground.phase }, { on := 35, ground := Ground.phase }], guard := none }) (v := ?_) rfl (by as_aux_lemma => kernel_rfl) (by as_aux_lemma => kernel_rfl) (by as_aux_lemma => kernel_rfl) (fun _ _ _ h => h) (Or.inl ⟨by rfl, ?_⟩) (by assumption) ?_
          rotate_left
          · intro wq hSw
            go_simp
            try with_reducible rfl
          simp only [Act.put, List.setIfInBounds_toArray, List.set_cons_zero, List.set_cons_succ]
          refine wpAnyH_done (by as_aux_lemma => kernel_rfl) ?_ _
          go_wp2_with fail
          go_ret
          exact ⟨rfl, hd3.2.2⟩

        · have ly : True := trivial
          have hz1 : 0 ≤ z.p := hbz.1
          have hz2 : z.p ≤ 9999 := hbz.2
          clear hbx hbz
          simp only [bp, bk]
          go_wp2_with fail
          refine (HR2.out _ HT4.out.1.bel).mono ?_
          rintro e5 w5 ⟨v5, rfl, ho5, hb5⟩
          obtain ⟨g5, c8, rfl, _, _⟩ := own_some ho5 (by simp)
          have zc : w5.cell? ⟨g5, 0, none⟩ = some (.int .i64 z.p) := vrow_cell2 (k := 0) (j := 0) ho5 (x := z) rfl (by simp) (by omega) rfl
          have lz : (0 : Int) < ((z :: tz).length : Int) := by simp
          have lz2 : 0 < (z :: tz).length := by simp
          have HT5 := Lib.hid (HT4.out.1.below hb5)
          clear ho5 hb5
          generalize (z :: tz).length = NZ at *
          have q0 := HT5.out.bk.cell 0 _ rfl
          have q1 := HT5.out.bk.cell 1 _ rfl
          have q2 := HT5.out.bk.cell 2 _ rfl
          have q3 := HT5.out.bk.cell 3 _ rfl
          have q4 := HT5.out.bk.cell 4 _ rfl
          have q5 := HT5.out.bk.cell 5 _ rfl
          have q6 := HT5.out.bk.cell 6 _ rfl
          have q7 := HT5.out.bk.cell 7 _ rfl
          go_wp2_with fail
          refine (HSP.out _ _ _ _ _ HT5.out.row).mono ?_
          rintro e6 w6 ⟨l0, l1, rfl, h0, h1, hb6⟩
          have eL := HUL.out _ h0
          have eZ := HUZ.out _ h1
          rw [eL, eZ]
          have HT6 := Lib.hid (HT5.out.below hb6)
          have hsp : spv [] (z :: tz) = 0 := by simp [spv, bk, bp]
          rw [hsp]
          simp only [bk, Bool.and_true, Bool.and_false, Bool.true_and, Bool.false_and]
          clear h0 h1 eL eZ hsp hb6 q0 q1 q2 q3 q4 q5 q6 q7
          have q0 := HT6.out.bk.cell 0 _ rfl
          have q1 := HT6.out.bk.cell 1 _ rfl
          have q2 := HT6.out.bk.cell 2 _ rfl
          have q3 := HT6.out.bk.cell 3 _ rfl
          have q4 := HT6.out.bk.cell 4 _ rfl
          have q5 := HT6.out.bk.cell 5 _ rfl
          have q6 := HT6.out.bk.cell 6 _ rfl
          have q7 := HT6.out.bk.cell 7 _ rfl
          go_wp2_with fail
          refine (HSH.out _ _ _ _ _ HT6.out.row).mono ?_
          rintro e7 w7 ⟨rfl, hb7⟩
          have HT7 := Lib.hid (HT6.out.below hb7)
          clear hb7 q0 q1 q2 q3 q4 q5 q6 q7
          obtain ⟨X, hX⟩ : ∃ X, X = shl 0 (fsh n b 0 si) (lst ln gv) := ⟨_, rfl⟩
          obtain ⟨Y, hY⟩ : ∃ Y, Y = shl 1 (fsh n b 1 si) (lst ln gv) := ⟨_, rfl⟩
          rw [← hX, ← hY]
          rw [← hX] at HS0
          rw [← hY] at HS1
          clear hX hY
          go_wp2_with fail
          have b22 := Bl.new w7 [.int .i64 X.p, .int .i64 X.q, .int .i64 X.k, .int .i64 Y.p, .int .i64 Y.q, .int .i64 Y.k] 43
          have g8 : Below w7.heap.size w7 (w7.alloc (.cells (List.toArray [.int .i64 X.p, .int .i64 X.q, .int .i64 X.k, .int .i64 Y.p, .int .i64 Y.q, .int .i64 Y.k]) 43)) := by go_grown
          have hd : Bl w7.heap.size [.int .i64 X.p, .int .i64 X.q, .int .i64 X.k, .int .i64 Y.p, .int .i64 Y.q, .int .i64 Y.k] (w7.alloc (.cells (List.toArray [.int .i64 X.p, .int .i64 X.q, .int .i64 X.k, .int .i64 Y.p, .int .i64 Y.q, .int .i64 Y.k]) 43)).drew ∧ Bl w.heap.size [.int .i64 p, .int .i64 c, .int .i64 n, .int .i64 b, .int .i64 r, .int .i64 f, .int .i64 g] (w7.alloc (.cells (List.toArray [.int .i64 X.p, .int .i64 X.q, .int .i64 X.k, .int .i64 Y.p, .int .i64 Y.q, .int .i64 Y.k]) 43)).drew ∧ Below w.heap.size w (w7.alloc (.cells (List.toArray [.int .i64 X.p, .int .i64 X.q, .int .i64 X.k, .int .i64 Y.p, .int .i64 Y.q, .int .i64 Y.k]) 43)).drew := ⟨b22, (HT7.out.below g8).cfg, (HT7.out.below g8).bel.drew⟩
          clear b22 g8
          refine wp_region_held_drew (S := fun w' => Bl w7.heap.size [.int .i64 X.p, .int .i64 X.q, .int .i64 X.k, .int .i64 Y.p, .int .i64 Y.q, .int .i64 Y.k] w' ∧ Bl w.heap.size [.int .i64 p, .int .i64 c, .int .i64 n, .int .i64 b, .int .i64 r, .int .i64 f, .int .i64 g] w' ∧ Below w.heap.size w w') (by kernel_rfl) hd (fun hHeld => ?_)
          refine wpAnyH_ready (rs := [0]) (by as_aux_lemma => kernel_rfl) (by simp) ?_
          refine AllReadyH.cons (o := { dst := some 134, op := Op.call { callee := Callee.value (Operand.func 7), args := #[], argTypes := #[] }, type := 4, pos := "law.go:68", after := #[], guard := none }) rfl (fun K hK => ?_) AllReadyH.nil
          go_simp
          go_at_call 7
          refine (awake_is _).mono ?_
          rintro ea1 wa1 ⟨rfl, hba⟩
          have hd1 : Bl w7.heap.size [.int .i64 X.p, .int .i64 X.q, .int .i64 X.k, .int .i64 Y.p, .int .i64 Y.q, .int .i64 Y.k] wa1 ∧ Bl w.heap.size [.int .i64 p, .int .i64 c, .int .i64 n, .int .i64 b, .int .i64 r, .int .i64 f, .int .i64 g] wa1 ∧ Below w.heap.size w wa1 := ⟨hd.1.below hba, hd.2.1.below hba, Below.step hd.2.2 hba⟩
          refine hK.out _ _ hd1 (fun hHeld => ?_)
          clear hK K hba
          try simp only [Act.put, List.setIfInBounds_toArray, List.set_cons_zero, List.set_cons_succ]
          refine wpAnyH_take (i := 1) (oi := { dst := some 135, op := Op.move (Operand.tmp 134), type := 4, pos := "law.go:68", after := #[{ on := 0, ground := Ground.data }, { on := 0, ground := Ground.chain }], guard := none }) (v := ?_) rfl (by as_aux_lemma => kernel_rfl) (by as_aux_lemma => kernel_rfl) (by as_aux_lemma => kernel_rfl) (fun _ _ _ h => h) (Or.inl ⟨by rfl, ?_⟩) (by assumption) ?_
          rotate_left
          · intro wq hSw
            go_simp
            try with_reducible rfl
          simp only [Act.put, List.setIfInBounds_toArray, List.set_cons_zero, List.set_cons_succ]
          refine wpAnyH_take (i := 2) (oi := { dst := some 136, op := Op.move (Operand.tmp 20), type := 3, pos := "law.go:68", after := #[{ on := 1, ground := Ground.guard }], guard := some (1, true) }) (v := ?_) rfl (by as_aux_lemma => kernel_rfl) (by as_aux_lemma => kernel_rfl) (by as_aux_lemma => kernel_rfl) (fun _ _ _ h => h) (Or.inl ⟨by rfl, ?_⟩) (by assumption) ?_
          rotate_left
          · intro wq hSw
            go_simp
            try with_reducible rfl
          simp only [Act.put, List.setIfInBounds_toArray, List.set_cons_zero, List.set_cons_succ]
          refine wpAnyH_take (i := 3) (oi := { dst := some 137, op := Op.move (Operand.tmp 19), type := 3, pos := "law.go:68", after := #[{ on := 1, ground := Ground.guard }], guard := some (1, true) }) (v := ?_) rfl (by as_aux_lemma => kernel_rfl) (by as_aux_lemma => kernel_rfl) (by as_aux_lemma => kernel_rfl) (fun _ _ _ h => h) (Or.inl ⟨by rfl, ?_⟩) (by assumption) ?_
          rotate_left
          · intro wq hSw
            go_simp
            try with_reducible rfl
          simp only [Act.put, List.setIfInBounds_toArray, List.set_cons_zero, List.set_cons_succ]
          refine wpAnyH_take (i := 4) (oi := { dst := some 138, op := Op.binOp BinOp.eql 3 (Operand.tmp 136) (Operand.tmp 137) 3, type := 4, pos := "law.go:68", after := #[{ on := 2, ground := Ground.data }, { on := 3, ground := Ground.data }, { on := 1, ground := Ground.guard }], guard := some (1, true) }) (v := .bool true) rfl (by as_aux_lemma => kernel_rfl) (by as_aux_lemma => kernel_rfl) (by as_aux_lemma => kernel_rfl) (fun _ _ _ h => h) (Or.inl ⟨by rfl, ?_⟩) (by assumption) ?_
          · intro wq hSw
            go_simp
            try with_reducible rfl
          simp only [Act.put, List.setIfInBounds_toArray, List.set_cons_zero, List.set_cons_succ]
          refine wpAnyH_take (i := 5) (oi := { dst := some 139, op := Op.pick (Operand.tmp 135) (Operand.tmp 138) (Operand.const (Value.bool false)), type := 4, pos := "law.go:68", after := #[{ on := 1, ground := Ground.data }, { on := 4, ground := Ground.data }], guard := none }) (v := ?_) rfl (by as_aux_lemma => kernel_rfl) (by as_aux_lemma => kernel_rfl) (by as_aux_lemma => kernel_rfl) (fun _ _ _ h => h) (Or.inl ⟨by rfl, ?_⟩) (by assumption) ?_
          rotate_left
          · intro wq hSw
            go_simp
            try with_reducible rfl
          simp only [Act.put, List.setIfInBounds_toArray, List.set_cons_zero, List.set_cons_succ]
          refine wpAnyH_take (i := 6) (oi := { dst := some 140, op := Op.move (Operand.tmp 139), type := 4, pos := "law.go:68", after := #[{ on := 5, ground := Ground.data }, { on := 1, ground := Ground.chain }], guard := none }) (v := ?_) rfl (by as_aux_lemma => kernel_rfl) (by as_aux_lemma => kernel_rfl) (by as_aux_lemma => kernel_rfl) (fun _ _ _ h => h) (Or.inl ⟨by rfl, ?_⟩) (by assumption) ?_
          rotate_left
          · intro wq hSw
            go_simp
            try with_reducible rfl
          simp only [Act.put, List.setIfInBounds_toArray, List.set_cons_zero, List.set_cons_succ]
          refine wpAnyH_take (i := 7) (oi := { dst := some 141, op := Op.move (Operand.tmp 21), type := 4, pos := "law.go:68", after := #[{ on := 6, ground := Ground.guard }], guard := some (6, true) }) (v := ?_) rfl (by as_aux_lemma => kernel_rfl) (by as_aux_lemma => kernel_rfl) (by as_aux_lemma => kernel_rfl) (fun _ _ _ h => h) (Or.inl ⟨by rfl, ?_⟩) (by assumption) ?_
          rotate_left
          · intro wq hSw
            go_simp
            try with_reducible rfl
          simp only [Act.put, List.setIfInBounds_toArray, List.set_cons_zero, List.set_cons_succ]
          refine wpAnyH_take (i := 8) (oi := { dst := some 142, op := Op.move (Operand.tmp 14), type := 35, pos := "law.go:68", after := #[{ on := 6, ground := Ground.guard }], guard := some (6, true) }) (v := ?_) rfl (by as_aux_lemma => kernel_rfl) (by as_aux_lemma => kernel_rfl) (by as_aux_lemma => kernel_rfl) (fun _ _ _ h => h) (Or.inl ⟨by rfl, ?_⟩) (by assumption) ?_
          rotate_left
          · intro wq hSw
            go_simp
            try with_reducible rfl
          simp only [Act.put, List.setIfInBounds_toArray, List.set_cons_zero, List.set_cons_succ]
          refine wpAnyH_take (i := 9) (oi := { dst := some 143, op := Op.call { callee := Callee.builtin Builtin.len, args := #[Operand.tmp 142], argTypes := #[35] }, type := 3, pos := "law.go:68", after := #[{ on := 8, ground := Ground.data }, { on := 6, ground := Ground.guard }], guard := some (6, true) }) (v := ?_) rfl (by as_aux_lemma => kernel_rfl) (by as_aux_lemma => kernel_rfl) (by as_aux_lemma => kernel_rfl) (fun _ _ _ h => h) (Or.inl ⟨by rfl, ?_⟩) (by assumption) ?_
          rotate_left
          · intro wq hSw
            go_simp
            try with_reducible rfl
          simp only [Act.put, List.setIfInBounds_toArray, List.set_cons_zero, List.set_cons_succ]
          refine wpAnyH_take (i := 10) (oi := { dst := some 144, op := Op.binOp BinOp.gtr 3 (Operand.tmp 143) (Operand.const (Value.int IntKind.i64 0)) 3, type := 4, pos := "law.go:68", after := #[{ on := 9, ground := Ground.data }, { on := 6, ground := Ground.guard }], guard := some (6, true) }) (v := .bool false) rfl (by as_aux_lemma => kernel_rfl) (by as_aux_lemma => kernel_rfl) (by as_aux_lemma => kernel_rfl) (fun _ _ _ h => h) (Or.inl ⟨by rfl, ?_⟩) (by assumption) ?_
          · intro wq hSw
            go_simp
            try with_reducible rfl
          simp only [Act.put, List.setIfInBounds_toArray, List.set_cons_zero, List.set_cons_succ]
          refine wpAnyH_take (i := 11) (oi := { dst := some 145, op := Op.move (Operand.tmp 144), type := 4, pos := "law.go:68", after := #[{ on := 10, ground := Ground.data }, { on := 6, ground := Ground.chain }, { on := 6, ground := Ground.guard }], guard := some (6, true) }) (v := ?_) rfl (by as_aux_lemma => kernel_rfl) (by as_aux_lemma => kernel_rfl) (by as_aux_lemma => kernel_rfl) (fun _ _ _ h => h) (Or.inl ⟨by rfl, ?_⟩) (by assumption) ?_
          rotate_left
          · intro wq hSw
            go_simp
            try with_reducible rfl
          simp only [Act.put, List.setIfInBounds_toArray, List.set_cons_zero, List.set_cons_succ]
          refine wpAnyH_take (i := 12) (oi := { dst := some 146, op := Op.move (Operand.tmp 18), type := 35, pos := "law.go:68", after := #[{ on := 11, ground := Ground.guard }], guard := some (11, true) }) (v := undef) rfl (by as_aux_lemma => kernel_rfl) (by as_aux_lemma => kernel_rfl) (by as_aux_lemma => kernel_rfl) (fun _ _ _ h => h) (Or.inr ⟨by rfl, rfl⟩) (by assumption) ?_
          simp only [Act.put, List.setIfInBounds_toArray, List.set_cons_zero, List.set_cons_succ]
          refine wpAnyH_take (i := 13) (oi := { dst := some 147, op := Op.call { callee := Callee.builtin Builtin.len, args := #[Operand.tmp 146], argTypes := #[35] }, type := 3, pos := "law.go:68", after := #[{ on := 12, ground := Ground.data }, { on := 11, ground := Ground.guard }], guard := some (11, true) }) (v := undef) rfl (by as_aux_lemma => kernel_rfl) (by as_aux_lemma => kernel_rfl) (by as_aux_lemma => kernel_rfl) (fun _ _ _ h => h) (Or.inr ⟨by rfl, rfl⟩) (by assumption) ?_
          simp only [Act.put, List.setIfInBounds_toArray, List.set_cons_zero, List.set_cons_succ]
          refine wpAnyH_take (i := 14) (oi := { dst := some 148, op := Op.binOp BinOp.gtr 3 (Operand.tmp 147) (Operand.const (Value.int IntKind.i64 0)) 3, type := 4, pos := "law.go:68", after := #[{ on := 13, ground := Ground.data }, { on := 11, ground := Ground.guard }], guard := some (11, true) }) (v := undef) rfl (by as_aux_lemma => kernel_rfl) (by as_aux_lemma => kernel_rfl) (by as_aux_lemma => kernel_rfl) (fun _ _ _ h => h) (Or.inr ⟨by rfl, rfl⟩) (by assumption) ?_
          simp only [Act.put, List.setIfInBounds_toArray, List.set_cons_zero, List.set_cons_succ]
          refine wpAnyH_take (i := 15) (oi := { dst := some 149, op := Op.pick (Operand.tmp 145) (Operand.tmp 148) (Operand.const (Value.bool false)), type := 4, pos := "law.go:68", after := #[{ on := 11, ground := Ground.data }, { on := 14, ground := Ground.data }, { on := 6, ground := Ground.guard }], guard := some (6, true) }) (v := ?_) rfl (by as_aux_lemma => kernel_rfl) (by as_aux_lemma => kernel_rfl) (by as_aux_lemma => kernel_rfl) (fun _ _ _ h => h) (Or.inl ⟨by rfl, ?_⟩) (by assumption) ?_
          rotate_left
          · intro wq hSw
            go_simp
            try with_reducible rfl
          simp only [Act.put, List.setIfInBounds_toArray, List.set_cons_zero, List.set_cons_succ]
          refine wpAnyH_take (i := 16) (oi := { dst := some 150, op := Op.binOp BinOp.eql 4 (Operand.tmp 141) (Operand.tmp 149) 4, type := 4, pos := "law.go:68", after := #[{ on := 7, ground := Ground.data }, { on := 15, ground := Ground.data }, { on := 6, ground := Ground.guard }], guard := some (6, true) }) (v := .bool true) rfl (by as_aux_lemma => kernel_rfl) (by as_aux_lemma => kernel_rfl) (by as_aux_lemma => kernel_rfl) (fun _ _ _ h => h) (Or.inl ⟨by rfl, ?_⟩) (by assumption) ?_
          · intro wq hSw
            go_simp
            try with_reducible rfl
          simp only [Act.put, List.setIfInBounds_toArray, List.set_cons_zero, List.set_cons_succ]
          refine wpAnyH_take (i := 17) (oi := { dst := some 151, op := Op.pick (Operand.tmp 140) (Operand.tmp 150) (Operand.const (Value.bool false)), type := 4, pos := "law.go:68", after := #[{ on := 6, ground := Ground.data }, { on := 16, ground := Ground.data }], guard := none }) (v := ?_) rfl (by as_aux_lemma => kernel_rfl) (by as_aux_lemma => kernel_rfl) (by as_aux_lemma => kernel_rfl) (fun _ _ _ h => h) (Or.inl ⟨by rfl, ?_⟩) (by assumption) ?_
          rotate_left
          · intro wq hSw
            go_simp
            try with_reducible rfl
          simp only [Act.put, List.setIfInBounds_toArray, List.set_cons_zero, List.set_cons_succ]
          refine wpAnyH_take (i := 18) (oi := { dst := some 152, op := Op.move (Operand.tmp 151), type := 4, pos := "law.go:68", after := #[{ on := 17, ground := Ground.data }, { on := 11, ground := Ground.chain }], guard := none }) (v := ?_) rfl (by as_aux_lemma => kernel_rfl) (by as_aux_lemma => kernel_rfl) (by as_aux_lemma => kernel_rfl) (fun _ _ _ h => h) (Or.inl ⟨by rfl, ?_⟩) (by assumption) ?_
          rotate_left
          · intro wq hSw
            go_simp
            try with_reducible rfl
          simp only [Act.put, List.setIfInBounds_toArray, List.set_cons_zero, List.set_cons_succ]
          refine wpAnyH_take (i := 19) (oi := { dst := some 153, op := Op.indexAddr 43 (Operand.tmp 22) (Operand.const (Value.int IntKind.i64 0)), type := 0, pos := "law.go:68", after := #[{ on := 18, ground := Ground.guard }], guard := some (18, true) }) (v := ?_) rfl (by as_aux_lemma => kernel_rfl) (by as_aux_lemma => kernel_rfl) (by as_aux_lemma => kernel_rfl) (fun _ _ _ h => h) (Or.inl ⟨by rfl, ?_⟩) (by assumption) ?_
          rotate_left
          · intro wq hSw
            go_simp
            try with_reducible rfl
          simp only [Act.put, List.setIfInBounds_toArray, List.set_cons_zero, List.set_cons_succ]
          refine wpAnyH_take (i := 20) (oi := { dst := some 154, op := Op.load 39 (Operand.tmp 153), type := 39, pos := "law.go:68", after := #[{ on := 19, ground := Ground.data }, { on := 18, ground := Ground.guard }], guard := some (18, true) }) (v := ?_) rfl (by as_aux_lemma => kernel_rfl) (by as_aux_lemma => kernel_rfl) (by as_aux_lemma => kernel_rfl) (fun _ _ _ h => h) (Or.inl ⟨by rfl, ?_⟩) (by assumption) ?_
          rotate_left
          · intro wq hSw
            have h0 := hSw.1.cell 0 _ rfl; have h1 := hSw.1.cell 1 _ rfl; have h2 := hSw.1.cell 2 _ rfl
            go_simp
            try with_reducible rfl
          simp only [Act.put, List.setIfInBounds_toArray, List.set_cons_zero, List.set_cons_succ]
          refine wpAnyH_take (i := 21) (oi := { dst := some 155, op := Op.load 23 (Operand.tmp 5), type := 23, pos := "law.go:68", after := #[{ on := 18, ground := Ground.guard }], guard := some (18, true) }) (v := ?_) rfl (by as_aux_lemma => kernel_rfl) (by as_aux_lemma => kernel_rfl) (by as_aux_lemma => kernel_rfl) (fun _ _ _ h => h) (Or.inl ⟨by rfl, ?_⟩) (by assumption) ?_
          rotate_left
          · intro wq hSw
            have h0 := hSw.2.1.cell 0 _ rfl; have h1 := hSw.2.1.cell 1 _ rfl; have h2 := hSw.2.1.cell 2 _ rfl; have h3 := hSw.2.1.cell 3 _ rfl; have h4 := hSw.2.1.cell 4 _ rfl; have h5 := hSw.2.1.cell 5 _ rfl; have h6 := hSw.2.1.cell 6 _ rfl
            go_simp
            try with_reducible rfl
          simp only [Act.put, List.setIfInBounds_toArray, List.set_cons_zero, List.set_cons_succ]
          refine wpAnyH_take (i := 22) (oi := { dst := some 156, op := Op.move (Operand.tmp 1), type := 24, pos := "law.go:68", after := #[{ on := 18, ground := Ground.guard }], guard := some (18, true) }) (v := ?_) rfl (by as_aux_lemma => kernel_rfl) (by as_aux_lemma => kernel_rfl) (by as_aux_lemma => kernel_rfl) (fun _ _ _ h => h) (Or.inl ⟨by rfl, ?_⟩) (by assumption) ?_
          rotate_left
          · intro wq hSw
            go_simp
            try with_reducible rfl
          simp only [Act.put, List.setIfInBounds_toArray, List.set_cons_zero, List.set_cons_succ]
          refine wpAnyH_take (i := 23) (oi := { dst := some 157, op := Op.move (Operand.tmp 4), type := 3, pos := "law.go:68", after := #[{ on := 18, ground := Ground.guard }], guard := some (18, true) }) (v := ?_) rfl (by as_aux_lemma => kernel_rfl) (by as_aux_lemma => kernel_rfl) (by as_aux_lemma => kernel_rfl) (fun _ _ _ h => h) (Or.inl ⟨by rfl, ?_⟩) (by assumption) ?_
          rotate_left
          · intro wq hSw
            go_simp
            try with_reducible rfl
          simp only [Act.put, List.setIfInBounds_toArray, List.set_cons_zero, List.set_cons_succ]
          refine wpAnyH_ready (rs := [24]) (by as_aux_lemma => kernel_rfl) (by simp) ?_
          refine AllReadyH.cons (o := { dst := some 158, op := Op.call { callee := Callee.value (Operand.func 13), args := #[Operand.tmp 155, Operand.tmp 156, Operand.tmp 157, Operand.const (Value.int IntKind.i64 0)], argTypes := #[23, 24, 3, 3] }, type := 38, pos := "law.go:68", after := #[{ on := 21, ground := Ground.data }, { on := 22, ground := Ground.data }, { on := 23, ground := Ground.data }, { on := 18, ground := Ground.chain }, { on := 18, ground := Ground.guard }], guard := some (18, true) }) rfl (fun K hK => ?_) AllReadyH.nil
          go_simp
          go_at_call 13
          refine (HS0.out _ hd1.2.2).mono ?_
          rintro ea2 wa2 ⟨rfl, hba⟩
          have hd2 : Bl w7.heap.size [.int .i64 X.p, .int .i64 X.q, .int .i64 X.k, .int .i64 Y.p, .int .i64 Y.q, .int .i64 Y.k] wa2 ∧ Bl w.heap.size [.int .i64 p, .int .i64 c, .int .i64 n, .int .i64 b, .int .i64 r, .int .i64 f, .int .i64 g] wa2 ∧ Below w.heap.size w wa2 := ⟨hd1.1.below hba, hd1.2.1.below hba, Below.step hd1.2.2 hba⟩
          refine hK.out _ _ hd2 (fun hHeld => ?_)
          clear hK K hba
          try simp only [Act.put, List.setIfInBounds_toArray, List.set_cons_zero, List.set_cons_succ]
          refine wpAnyH_take (i := 25) (oi := { dst := some 159, op := Op.binOp BinOp.eql 38 (Operand.tmp 154) (Operand.tmp 158) 38, type := 4, pos := "law.go:68", after := #[{ on := 20, ground := Ground.data }, { on := 24, ground := Ground.data }, { on := 18, ground := Ground.guard }], guard := some (18, true) }) (v := .bool true) rfl (by as_aux_lemma => kernel_rfl) (by as_aux_lemma => kernel_rfl) (by as_aux_lemma => kernel_rfl) (fun _ _ _ h => h) (Or.inl ⟨by rfl, ?_⟩) (by assumption) ?_
          · intro wq hSw
            have he := run_eql_lvl X wq
            go_simp
            try with_reducible rfl
          simp only [Act.put, List.setIfInBounds_toArray, List.set_cons_zero, List.set_cons_succ]
          refine wpAnyH_take (i := 26) (oi := { dst := some 160, op := Op.pick (Operand.tmp 152) (Operand.tmp 159) (Operand.const (Value.bool false)), type := 4, pos := "law.go:68", after := #[{ on := 18, ground := Ground.data }, { on := 25, ground := Ground.data }], guard := none }) (v := ?_) rfl (by as_aux_lemma => kernel_rfl) (by as_aux_lemma => kernel_rfl) (by as_aux_lemma => kernel_rfl) (fun _ _ _ h => h) (Or.inl ⟨by rfl, ?_⟩) (by assumption) ?_
          rotate_left
          · intro wq hSw
            go_simp
            try with_reducible rfl
          simp only [Act.put, List.setIfInBounds_toArray, List.set_cons_zero, List.set_cons_succ]
          refine wpAnyH_take (i := 27) (oi := { dst := some 161, op := Op.move (Operand.tmp 160), type := 4, pos := "law.go:68", after := #[{ on := 26, ground := Ground.data }, { on := 24, ground := Ground.chain }], guard := none }) (v := ?_) rfl (by as_aux_lemma => kernel_rfl) (by as_aux_lemma => kernel_rfl) (by as_aux_lemma => kernel_rfl) (fun _ _ _ h => h) (Or.inl ⟨by rfl, ?_⟩) (by assumption) ?_
          rotate_left
          · intro wq hSw
            go_simp
            try with_reducible rfl
          simp only [Act.put, List.setIfInBounds_toArray, List.set_cons_zero, List.set_cons_succ]
          refine wpAnyH_take (i := 28) (oi := { dst := some 162, op := Op.indexAddr 43 (Operand.tmp 22) (Operand.const (Value.int IntKind.i64 1)), type := 0, pos := "law.go:68", after := #[{ on := 27, ground := Ground.guard }], guard := some (27, true) }) (v := ?_) rfl (by as_aux_lemma => kernel_rfl) (by as_aux_lemma => kernel_rfl) (by as_aux_lemma => kernel_rfl) (fun _ _ _ h => h) (Or.inl ⟨by rfl, ?_⟩) (by assumption) ?_
          rotate_left
          · intro wq hSw
            go_simp
            try with_reducible rfl
          simp only [Act.put, List.setIfInBounds_toArray, List.set_cons_zero, List.set_cons_succ]
          refine wpAnyH_take (i := 29) (oi := { dst := some 163, op := Op.load 39 (Operand.tmp 162), type := 39, pos := "law.go:68", after := #[{ on := 28, ground := Ground.data }, { on := 27, ground := Ground.guard }], guard := some (27, true) }) (v := ?_) rfl (by as_aux_lemma => kernel_rfl) (by as_aux_lemma => kernel_rfl) (by as_aux_lemma => kernel_rfl) (fun _ _ _ h => h) (Or.inl ⟨by rfl, ?_⟩) (by assumption) ?_
          rotate_left
          · intro wq hSw
            have h0 := hSw.1.cell 3 _ rfl; have h1 := hSw.1.cell 4 _ rfl; have h2 := hSw.1.cell 5 _ rfl
            go_simp
            try with_reducible rfl
          simp only [Act.put, List.setIfInBounds_toArray, List.set_cons_zero, List.set_cons_succ]
          refine wpAnyH_take (i := 30) (oi := { dst := some 164, op := Op.load 23 (Operand.tmp 5), type := 23, pos := "law.go:68", after := #[{ on := 27, ground := Ground.guard }], guard := some (27, true) }) (v := ?_) rfl (by as_aux_lemma => kernel_rfl) (by as_aux_lemma => kernel_rfl) (by as_aux_lemma => kernel_rfl) (fun _ _ _ h => h) (Or.inl ⟨by rfl, ?_⟩) (by assumption) ?_
          rotate_left
          · intro wq hSw
            have h0 := hSw.2.1.cell 0 _ rfl; have h1 := hSw.2.1.cell 1 _ rfl; have h2 := hSw.2.1.cell 2 _ rfl; have h3 := hSw.2.1.cell 3 _ rfl; have h4 := hSw.2.1.cell 4 _ rfl; have h5 := hSw.2.1.cell 5 _ rfl; have h6 := hSw.2.1.cell 6 _ rfl
            go_simp
            try with_reducible rfl
          simp only [Act.put, List.setIfInBounds_toArray, List.set_cons_zero, List.set_cons_succ]
          refine wpAnyH_take (i := 31) (oi := { dst := some 165, op := Op.move (Operand.tmp 1), type := 24, pos := "law.go:68", after := #[{ on := 27, ground := Ground.guard }], guard := some (27, true) }) (v := ?_) rfl (by as_aux_lemma => kernel_rfl) (by as_aux_lemma => kernel_rfl) (by as_aux_lemma => kernel_rfl) (fun _ _ _ h => h) (Or.inl ⟨by rfl, ?_⟩) (by assumption) ?_
          rotate_left
          · intro wq hSw
            go_simp
            try with_reducible rfl
          simp only [Act.put, List.setIfInBounds_toArray, List.set_cons_zero, List.set_cons_succ]
          refine wpAnyH_take (i := 32) (oi := { dst := some 166, op := Op.move (Operand.tmp 4), type := 3, pos := "law.go:68", after := #[{ on := 27, ground := Ground.guard }], guard := some (27, true) }) (v := ?_) rfl (by as_aux_lemma => kernel_rfl) (by as_aux_lemma => kernel_rfl) (by as_aux_lemma => kernel_rfl) (fun _ _ _ h => h) (Or.inl ⟨by rfl, ?_⟩) (by assumption) ?_
          rotate_left
          · intro wq hSw
            go_simp
            try with_reducible rfl
          simp only [Act.put, List.setIfInBounds_toArray, List.set_cons_zero, List.set_cons_succ]
          refine wpAnyH_ready (rs := [33]) (by as_aux_lemma => kernel_rfl) (by simp) ?_
          refine AllReadyH.cons (o := { dst := some 167, op := Op.call { callee := Callee.value (Operand.func 13), args := #[Operand.tmp 164, Operand.tmp 165, Operand.tmp 166, Operand.const (Value.int IntKind.i64 1)], argTypes := #[23, 24, 3, 3] }, type := 38, pos := "law.go:68", after := #[{ on := 30, ground := Ground.data }, { on := 31, ground := Ground.data }, { on := 32, ground := Ground.data }, { on := 27, ground := Ground.chain }, { on := 27, ground := Ground.guard }], guard := some (27, true) }) rfl (fun K hK => ?_) AllReadyH.nil
          go_simp
          go_at_call 13
          refine (HS1.out _ hd2.2.2).mono ?_
          rintro ea3 wa3 ⟨rfl, hba⟩
          have hd3 : Bl w7.heap.size [.int .i64 X.p, .int .i64 X.q, .int .i64 X.k, .int .i64 Y.p, .int .i64 Y.q, .int .i64 Y.k] wa3 ∧ Bl w.heap.size [.int .i64 p, .int .i64 c, .int .i64 n, .int .i64 b, .int .i64 r, .int .i64 f, .int .i64 g] wa3 ∧ Below w.heap.size w wa3 := ⟨hd2.1.below hba, hd2.2.1.below hba, Below.step hd2.2.2 hba⟩
          refine hK.out _ _ hd3 (fun hHeld => ?_)
          clear hK K hba
          try simp only [Act.put, List.setIfInBounds_toArray, List.set_cons_zero, List.set_cons_succ]
          refine wpAnyH_take (i := 34) (oi := { dst := some 168, op := Op.binOp BinOp.eql 38 (Operand.tmp 163) (Operand.tmp 167) 38, type := 4, pos := "law.go:68", after := #[{ on := 29, ground := Ground.data }, { on := 33, ground := Ground.data }, { on := 27, ground := Ground.guard }], guard := some (27, true) }) (v := .bool true) rfl (by as_aux_lemma => kernel_rfl) (by as_aux_lemma => kernel_rfl) (by as_aux_lemma => kernel_rfl) (fun _ _ _ h => h) (Or.inl ⟨by rfl, ?_⟩) (by assumption) ?_
          · intro wq hSw
            have he := run_eql_lvl Y wq
            go_simp
            try with_reducible rfl
          simp only [Act.put, List.setIfInBounds_toArray, List.set_cons_zero, List.set_cons_succ]
          refine wpAnyH_take (i := 35) (oi := { dst := some 169, op := Op.pick (Operand.tmp 161) (Operand.tmp 168) (Operand.const (Value.bool false)), type := 4, pos := "law.go:68", after := #[{ on := 27, ground := Ground.data }, { on := 34, ground := Ground.data }], guard := none }) (v := ?_) rfl (by as_aux_lemma => kernel_rfl) (by as_aux_lemma => kernel_rfl) (by as_aux_lemma => kernel_rfl) (fun _ _ _ h => h) (Or.inl ⟨by rfl, ?_⟩) (by assumption) ?_
          rotate_left
          · intro wq hSw
            go_simp
            try with_reducible rfl
          simp only [Act.put, List.setIfInBounds_toArray, List.set_cons_zero, List.set_cons_succ]
          refine wpAnyH_take (i := 36) (oi := { dst := some 10, op := Op.assign (Operand.tmp 169), type := 4, pos := "law.go:68", after := #[{ on := 35, ground := Ground.data }, { on := 33, ground := Ground.chain }, { on := 0, ground := Ground.phase }, { on := 1, ground := Ground.phase }, { on := 2, ground := Ground.phase }, { on := 3, ground := Ground.phase }, { on := 4, ground := Ground.phase }, { on := 5, ground := Ground.phase }, { on := 6, ground := Ground.phase }, { on := 7, ground := Ground.phase }, { on := 8, ground := Ground.phase }, { on := 9, ground := Ground.phase }, { on := 10, ground := Ground.phase }, { on := 11, ground := Ground.phase }, { on := 12, ground := Ground.phase }, { on := 13, ground := Ground.phase }, { on := 14, ground := Ground.phase }, { on := 15, ground := Ground.phase }, { on := 16, ground := Ground.phase }, { on := 17, ground := Ground.phase }, { on := 18, ground := Ground.phase }, { on := 19, ground := Ground.phase }, { on := 20, ground := Ground.phase }, { on := 21, ground := Ground.phase }, { on := 22, ground := Ground.phase }, { on := 23, ground := Ground.phase }, { on := 24, ground := Ground.phase }, { on := 25, ground := Ground.phase }, { on := 26, ground := Ground.phase }, { on := 27, ground := Ground.phase }, { on := 28, ground := Ground.phase }, { on := 29, ground := Ground.phase }, { on := 30, ground := Ground.phase }, { on := 31, ground := Ground.phase }, { on := 32, ground := Ground.phase }, { on := 33, ground := Ground.phase }, { on := 34, ground := Ground.phase }, { on := 35, ground := Ground.phase }], guard := none }) (v := ?_) rfl (by as_aux_lemma => kernel_rfl) (by as_aux_lemma => kernel_rfl) (by as_aux_lemma => kernel_rfl) (fun _ _ _ h => h) (Or.inl ⟨by rfl, ?_⟩) (by assumption) ?_
          rotate_left
          · intro wq hSw
            go_simp
            try with_reducible rfl
          simp only [Act.put, List.setIfInBounds_toArray, List.set_cons_zero, List.set_cons_succ]
          refine wpAnyH_done (by as_aux_lemma => kernel_rfl) ?_ _
          go_wp2_with fail
          go_ret
          exact ⟨rfl, hd3.2.2⟩

      · rcases Z with _ | ⟨z, tz⟩
        · obtain ⟨g4, c7, hv4, _, _⟩ := own_some HT4.out.2 (by simp)
          injection hv4 with e1 e2 e3
          subst e1 e3
          clear e2
          have y0 : w4.cell? ⟨g4, 0, none⟩ = some (.int .i64 x.p) := vrow_cell2 (k := 0) (j := 0) HT4.out.2 (x := x) rfl (by simp) (by omega) rfl
          have hx1 : 0 ≤ x.p := hbx.1
          have hx2 : x.p ≤ 9999 := hbx.2
          have ly : (0 : Int) < ((x :: t).length : Int) := by simp
          have ly2 : 0 < (x :: t).length := by simp
          have HLY : Hid ((x :: t).length ≤ 40) := HN2
          have HRY := Lib.hid HT4.out.2
          have HCY := Lib.hid y0
          clear HN2
          generalize (x :: t).length = NL at *
          clear hbx hbz
          simp only [bp, bk]
          go_wp2_with fail
          refine (HR2.out _ HT4.out.1.bel).mono ?_
          rintro e5 w5 ⟨v5, rfl, ho5, hb5⟩
          obtain ⟨A5, c8, rfl⟩ := oshape ho5
          have y5 : w5.cell? ⟨g4, 0, none⟩ = some (.int .i64 x.p) := (hb5.cell (p := ⟨g4, 0, none⟩) (cell_lt HCY.out)).trans HCY.out
          clear y0
          have HT5 := Lib.hid (HT4.out.1.below hb5)
          clear ho5 hb5
          have q0 := HT5.out.bk.cell 0 _ rfl
          have q1 := HT5.out.bk.cell 1 _ rfl
          have q2 := HT5.out.bk.cell 2 _ rfl
          have q3 := HT5.out.bk.cell 3 _ rfl
          have q4 := HT5.out.bk.cell 4 _ rfl
          have q5 := HT5.out.bk.cell 5 _ rfl
          have q6 := HT5.out.bk.cell 6 _ rfl
          have q7 := HT5.out.bk.cell 7 _ rfl
          go_wp2_with fail
          refine (HSP.out _ _ _ _ _ HT5.out.row).mono ?_
          rintro e6 w6 ⟨l0, l1, rfl, h0, h1, hb6⟩
          have eL := HUL.out _ h0
          have eZ := HUZ.out _ h1
          rw [eL, eZ]
          have HT6 := Lib.hid (HT5.out.below hb6)
          have hsp : spv (x :: t) [] = 0 := by simp [spv, bk, bp]
          rw [hsp]
          simp only [bk, Bool.and_true, Bool.and_false, Bool.true_and, Bool.false_and]
          clear h0 h1 eL eZ hsp hb6 q0 q1 q2 q3 q4 q5 q6 q7
          have q0 := HT6.out.bk.cell 0 _ rfl
          have q1 := HT6.out.bk.cell 1 _ rfl
          have q2 := HT6.out.bk.cell 2 _ rfl
          have q3 := HT6.out.bk.cell 3 _ rfl
          have q4 := HT6.out.bk.cell 4 _ rfl
          have q5 := HT6.out.bk.cell 5 _ rfl
          have q6 := HT6.out.bk.cell 6 _ rfl
          have q7 := HT6.out.bk.cell 7 _ rfl
          go_wp2_with fail
          refine (HSH.out _ _ _ _ _ HT6.out.row).mono ?_
          rintro e7 w7 ⟨rfl, hb7⟩
          have HT7 := Lib.hid (HT6.out.below hb7)
          clear hb7 q0 q1 q2 q3 q4 q5 q6 q7
          obtain ⟨X, hX⟩ : ∃ X, X = shl 0 (fsh n b 0 si) (lst ln gv) := ⟨_, rfl⟩
          obtain ⟨Y, hY⟩ : ∃ Y, Y = shl 1 (fsh n b 1 si) (lst ln gv) := ⟨_, rfl⟩
          rw [← hX, ← hY]
          rw [← hX] at HS0
          rw [← hY] at HS1
          clear hX hY
          go_wp2_with fail
          have b22 := Bl.new w7 [.int .i64 X.p, .int .i64 X.q, .int .i64 X.k, .int .i64 Y.p, .int .i64 Y.q, .int .i64 Y.k] 43
          have g8 : Below w7.heap.size w7 (w7.alloc (.cells (List.toArray [.int .i64 X.p, .int .i64 X.q, .int .i64 X.k, .int .i64 Y.p, .int .i64 Y.q, .int .i64 Y.k]) 43)) := by go_grown
          have hd : Bl w7.heap.size [.int .i64 X.p, .int .i64 X.q, .int .i64 X.k, .int .i64 Y.p, .int .i64 Y.q, .int .i64 Y.k] (w7.alloc (.cells (List.toArray [.int .i64 X.p, .int .i64 X.q, .int .i64 X.k, .int .i64 Y.p, .int .i64 Y.q, .int .i64 Y.k]) 43)).drew ∧ Bl w.heap.size [.int .i64 p, .int .i64 c, .int .i64 n, .int .i64 b, .int .i64 r, .int .i64 f, .int .i64 g] (w7.alloc (.cells (List.toArray [.int .i64 X.p, .int .i64 X.q, .int .i64 X.k, .int .i64 Y.p, .int .i64 Y.q, .int .i64 Y.k]) 43)).drew ∧ Below w.heap.size w (w7.alloc (.cells (List.toArray [.int .i64 X.p, .int .i64 X.q, .int .i64 X.k, .int .i64 Y.p, .int .i64 Y.q, .int .i64 Y.k]) 43)).drew := ⟨b22, (HT7.out.below g8).cfg, (HT7.out.below g8).bel.drew⟩
          clear b22 g8
          refine wp_region_held_drew (S := fun w' => Bl w7.heap.size [.int .i64 X.p, .int .i64 X.q, .int .i64 X.k, .int .i64 Y.p, .int .i64 Y.q, .int .i64 Y.k] w' ∧ Bl w.heap.size [.int .i64 p, .int .i64 c, .int .i64 n, .int .i64 b, .int .i64 r, .int .i64 f, .int .i64 g] w' ∧ Below w.heap.size w w') (by kernel_rfl) hd (fun hHeld => ?_)
          refine wpAnyH_ready (rs := [0]) (by as_aux_lemma => kernel_rfl) (by simp) ?_
          refine AllReadyH.cons (o := { dst := some 134, op := Op.call { callee := Callee.value (Operand.func 7), args := #[], argTypes := #[] }, type := 4, pos := "law.go:68", after := #[], guard := none }) rfl (fun K hK => ?_) AllReadyH.nil
          go_simp
          go_at_call 7
          refine (awake_is _).mono ?_
          rintro ea1 wa1 ⟨rfl, hba⟩
          have hd1 : Bl w7.heap.size [.int .i64 X.p, .int .i64 X.q, .int .i64 X.k, .int .i64 Y.p, .int .i64 Y.q, .int .i64 Y.k] wa1 ∧ Bl w.heap.size [.int .i64 p, .int .i64 c, .int .i64 n, .int .i64 b, .int .i64 r, .int .i64 f, .int .i64 g] wa1 ∧ Below w.heap.size w wa1 := ⟨hd.1.below hba, hd.2.1.below hba, Below.step hd.2.2 hba⟩
          refine hK.out _ _ hd1 (fun hHeld => ?_)
          clear hK K hba
          try simp only [Act.put, List.setIfInBounds_toArray, List.set_cons_zero, List.set_cons_succ]
          refine wpAnyH_take (i := 1) (oi := { dst := some 135, op := Op.move (Operand.tmp 134), type := 4, pos := "law.go:68", after := #[{ on := 0, ground := Ground.data }, { on := 0, ground := Ground.chain }], guard := none }) (v := ?_) rfl (by as_aux_lemma => kernel_rfl) (by as_aux_lemma => kernel_rfl) (by as_aux_lemma => kernel_rfl) (fun _ _ _ h => h) (Or.inl ⟨by rfl, ?_⟩) (by assumption) ?_
          rotate_left
          · intro wq hSw
            go_simp
            try with_reducible rfl
          simp only [Act.put, List.setIfInBounds_toArray, List.set_cons_zero, List.set_cons_succ]
          refine wpAnyH_take (i := 2) (oi := { dst := some 136, op := Op.move (Operand.tmp 20), type := 3, pos := "law.go:68", after := #[{ on := 1, ground := Ground.guard }], guard := some (1, true) }) (v := ?_) rfl (by as_aux_lemma => kernel_rfl) (by as_aux_lemma => kernel_rfl) (by as_aux_lemma => kernel_rfl) (fun _ _ _ h => h) (Or.inl ⟨by rfl, ?_⟩) (by assumption) ?_
          rotate_left
          · intro wq hSw
            go_simp
            try with_reducible rfl
          simp only [Act.put, List.setIfInBounds_toArray, List.set_cons_zero, List.set_cons_succ]
          refine wpAnyH_take (i := 3) (oi := { dst := some 137, op := Op.move (Operand.tmp 19), type := 3, pos := "law.go:68", after := #[{ on := 1, ground := Ground.guard }], guard := some (1, true) }) (v := ?_) rfl (by as_aux_lemma => kernel_rfl) (by as_aux_lemma => kernel_rfl) (by as_aux_lemma => kernel_rfl) (fun _ _ _ h => h) (Or.inl ⟨by rfl, ?_⟩) (by assumption) ?_
          rotate_left
          · intro wq hSw
            go_simp
            try with_reducible rfl
          simp only [Act.put, List.setIfInBounds_toArray, List.set_cons_zero, List.set_cons_succ]
          refine wpAnyH_take (i := 4) (oi := { dst := some 138, op := Op.binOp BinOp.eql 3 (Operand.tmp 136) (Operand.tmp 137) 3, type := 4, pos := "law.go:68", after := #[{ on := 2, ground := Ground.data }, { on := 3, ground := Ground.data }, { on := 1, ground := Ground.guard }], guard := some (1, true) }) (v := .bool true) rfl (by as_aux_lemma => kernel_rfl) (by as_aux_lemma => kernel_rfl) (by as_aux_lemma => kernel_rfl) (fun _ _ _ h => h) (Or.inl ⟨by rfl, ?_⟩) (by assumption) ?_
          · intro wq hSw
            go_simp
            try with_reducible rfl
          simp only [Act.put, List.setIfInBounds_toArray, List.set_cons_zero, List.set_cons_succ]
          refine wpAnyH_take (i := 5) (oi := { dst := some 139, op := Op.pick (Operand.tmp 135) (Operand.tmp 138) (Operand.const (Value.bool false)), type := 4, pos := "law.go:68", after := #[{ on := 1, ground := Ground.data }, { on := 4, ground := Ground.data }], guard := none }) (v := ?_) rfl (by as_aux_lemma => kernel_rfl) (by as_aux_lemma => kernel_rfl) (by as_aux_lemma => kernel_rfl) (fun _ _ _ h => h) (Or.inl ⟨by rfl, ?_⟩) (by assumption) ?_
          rotate_left
          · intro wq hSw
            go_simp
            try with_reducible rfl
          simp only [Act.put, List.setIfInBounds_toArray, List.set_cons_zero, List.set_cons_succ]
          refine wpAnyH_take (i := 6) (oi := { dst := some 140, op := Op.move (Operand.tmp 139), type := 4, pos := "law.go:68", after := #[{ on := 5, ground := Ground.data }, { on := 1, ground := Ground.chain }], guard := none }) (v := ?_) rfl (by as_aux_lemma => kernel_rfl) (by as_aux_lemma => kernel_rfl) (by as_aux_lemma => kernel_rfl) (fun _ _ _ h => h) (Or.inl ⟨by rfl, ?_⟩) (by assumption) ?_
          rotate_left
          · intro wq hSw
            go_simp
            try with_reducible rfl
          simp only [Act.put, List.setIfInBounds_toArray, List.set_cons_zero, List.set_cons_succ]
          refine wpAnyH_take (i := 7) (oi := { dst := some 141, op := Op.move (Operand.tmp 21), type := 4, pos := "law.go:68", after := #[{ on := 6, ground := Ground.guard }], guard := some (6, true) }) (v := ?_) rfl (by as_aux_lemma => kernel_rfl) (by as_aux_lemma => kernel_rfl) (by as_aux_lemma => kernel_rfl) (fun _ _ _ h => h) (Or.inl ⟨by rfl, ?_⟩) (by assumption) ?_
          rotate_left
          · intro wq hSw
            go_simp
            try with_reducible rfl
          simp only [Act.put, List.setIfInBounds_toArray, List.set_cons_zero, List.set_cons_succ]
          refine wpAnyH_take (i := 8) (oi := { dst := some 142, op := Op.move (Operand.tmp 14), type := 35, pos := "law.go:68", after := #[{ on := 6, ground := Ground.guard }], guard := some (6, true) }) (v := ?_) rfl (by as_aux_lemma => kernel_rfl) (by as_aux_lemma => kernel_rfl) (by as_aux_lemma => kernel_rfl) (fun _ _ _ h => h) (Or.inl ⟨by rfl, ?_⟩) (by assumption) ?_
          rotate_left
          · intro wq hSw
            go_simp
            try with_reducible rfl
          simp only [Act.put, List.setIfInBounds_toArray, List.set_cons_zero, List.set_cons_succ]
          refine wpAnyH_take (i := 9) (oi := { dst := some 143, op := Op.call { callee := Callee.builtin Builtin.len, args := #[Operand.tmp 142], argTypes := #[35] }, type := 3, pos := "law.go:68", after := #[{ on := 8, ground := Ground.data }, { on := 6, ground := Ground.guard }], guard := some (6, true) }) (v := ?_) rfl (by as_aux_lemma => kernel_rfl) (by as_aux_lemma => kernel_rfl) (by as_aux_lemma => kernel_rfl) (fun _ _ _ h => h) (Or.inl ⟨by rfl, ?_⟩) (by assumption) ?_
          rotate_left
          · intro wq hSw
            go_simp
            try with_reducible rfl
          simp only [Act.put, List.setIfInBounds_toArray, List.set_cons_zero, List.set_cons_succ]
          refine wpAnyH_take (i := 10) (oi := { dst := some 144, op := Op.binOp BinOp.gtr 3 (Operand.tmp 143) (Operand.const (Value.int IntKind.i64 0)) 3, type := 4, pos := "law.go:68", after := #[{ on := 9, ground := Ground.data }, { on := 6, ground := Ground.guard }], guard := some (6, true) }) (v := .bool true) rfl (by as_aux_lemma => kernel_rfl) (by as_aux_lemma => kernel_rfl) (by as_aux_lemma => kernel_rfl) (fun _ _ _ h => h) (Or.inl ⟨by rfl, ?_⟩) (by assumption) ?_
          · intro wq hSw
            go_simp
            try with_reducible rfl
          simp only [Act.put, List.setIfInBounds_toArray, List.set_cons_zero, List.set_cons_succ]
          refine wpAnyH_take (i := 11) (oi := { dst := some 145, op := Op.move (Operand.tmp 144), type := 4, pos := "law.go:68", after := #[{ on := 10, ground := Ground.data }, { on := 6, ground := Ground.chain }, { on := 6, ground := Ground.guard }], guard := some (6, true) }) (v := ?_) rfl (by as_aux_lemma => kernel_rfl) (by as_aux_lemma => kernel_rfl) (by as_aux_lemma => kernel_rfl) (fun _ _ _ h => h) (Or.inl ⟨by rfl, ?_⟩) (by assumption) ?_
          rotate_left
          · intro wq hSw
            go_simp
            try with_reducible rfl
          simp only [Act.put, List.setIfInBounds_toArray, List.set_cons_zero, List.set_cons_succ]
          refine wpAnyH_take (i := 12) (oi := { dst := some 146, op := Op.move (Operand.tmp 18), type := 35, pos := "law.go:68", after := #[{ on := 11, ground := Ground.guard }], guard := some (11, true) }) (v := ?_) rfl (by as_aux_lemma => kernel_rfl) (by as_aux_lemma => kernel_rfl) (by as_aux_lemma => kernel_rfl) (fun _ _ _ h => h) (Or.inl ⟨by rfl, ?_⟩) (by assumption) ?_
          rotate_left
          · intro wq hSw
            go_simp
            try with_reducible rfl
          simp only [Act.put, List.setIfInBounds_toArray, List.set_cons_zero, List.set_cons_succ]
          refine wpAnyH_take (i := 13) (oi := { dst := some 147, op := Op.call { callee := Callee.builtin Builtin.len, args := #[Operand.tmp 146], argTypes := #[35] }, type := 3, pos := "law.go:68", after := #[{ on := 12, ground := Ground.data }, { on := 11, ground := Ground.guard }], guard := some (11, true) }) (v := ?_) rfl (by as_aux_lemma => kernel_rfl) (by as_aux_lemma => kernel_rfl) (by as_aux_lemma => kernel_rfl) (fun _ _ _ h => h) (Or.inl ⟨by rfl, ?_⟩) (by assumption) ?_
          rotate_left
          · intro wq hSw
            go_simp
            try with_reducible rfl
          simp only [Act.put, List.setIfInBounds_toArray, List.set_cons_zero, List.set_cons_succ]
          refine wpAnyH_take (i := 14) (oi := { dst := some 148, op := Op.binOp BinOp.gtr 3 (Operand.tmp 147) (Operand.const (Value.int IntKind.i64 0)) 3, type := 4, pos := "law.go:68", after := #[{ on := 13, ground := Ground.data }, { on := 11, ground := Ground.guard }], guard := some (11, true) }) (v := .bool false) rfl (by as_aux_lemma => kernel_rfl) (by as_aux_lemma => kernel_rfl) (by as_aux_lemma => kernel_rfl) (fun _ _ _ h => h) (Or.inl ⟨by rfl, ?_⟩) (by assumption) ?_
          · intro wq hSw
            go_simp
            try with_reducible rfl
          simp only [Act.put, List.setIfInBounds_toArray, List.set_cons_zero, List.set_cons_succ]
          refine wpAnyH_take (i := 15) (oi := { dst := some 149, op := Op.pick (Operand.tmp 145) (Operand.tmp 148) (Operand.const (Value.bool false)), type := 4, pos := "law.go:68", after := #[{ on := 11, ground := Ground.data }, { on := 14, ground := Ground.data }, { on := 6, ground := Ground.guard }], guard := some (6, true) }) (v := ?_) rfl (by as_aux_lemma => kernel_rfl) (by as_aux_lemma => kernel_rfl) (by as_aux_lemma => kernel_rfl) (fun _ _ _ h => h) (Or.inl ⟨by rfl, ?_⟩) (by assumption) ?_
          rotate_left
          · intro wq hSw
            go_simp
            try with_reducible rfl
          simp only [Act.put, List.setIfInBounds_toArray, List.set_cons_zero, List.set_cons_succ]
          refine wpAnyH_take (i := 16) (oi := { dst := some 150, op := Op.binOp BinOp.eql 4 (Operand.tmp 141) (Operand.tmp 149) 4, type := 4, pos := "law.go:68", after := #[{ on := 7, ground := Ground.data }, { on := 15, ground := Ground.data }, { on := 6, ground := Ground.guard }], guard := some (6, true) }) (v := .bool true) rfl (by as_aux_lemma => kernel_rfl) (by as_aux_lemma => kernel_rfl) (by as_aux_lemma => kernel_rfl) (fun _ _ _ h => h) (Or.inl ⟨by rfl, ?_⟩) (by assumption) ?_
          · intro wq hSw
            go_simp
            try with_reducible rfl
          simp only [Act.put, List.setIfInBounds_toArray, List.set_cons_zero, List.set_cons_succ]
          refine wpAnyH_take (i := 17) (oi := { dst := some 151, op := Op.pick (Operand.tmp 140) (Operand.tmp 150) (Operand.const (Value.bool false)), type := 4, pos := "law.go:68", after := #[{ on := 6, ground := Ground.data }, { on := 16, ground := Ground.data }], guard := none }) (v := ?_) rfl (by as_aux_lemma => kernel_rfl) (by as_aux_lemma => kernel_rfl) (by as_aux_lemma => kernel_rfl) (fun _ _ _ h => h) (Or.inl ⟨by rfl, ?_⟩) (by assumption) ?_
          rotate_left
          · intro wq hSw
            go_simp
            try with_reducible rfl
          simp only [Act.put, List.setIfInBounds_toArray, List.set_cons_zero, List.set_cons_succ]
          refine wpAnyH_take (i := 18) (oi := { dst := some 152, op := Op.move (Operand.tmp 151), type := 4, pos := "law.go:68", after := #[{ on := 17, ground := Ground.data }, { on := 11, ground := Ground.chain }], guard := none }) (v := ?_) rfl (by as_aux_lemma => kernel_rfl) (by as_aux_lemma => kernel_rfl) (by as_aux_lemma => kernel_rfl) (fun _ _ _ h => h) (Or.inl ⟨by rfl, ?_⟩) (by assumption) ?_
          rotate_left
          · intro wq hSw
            go_simp
            try with_reducible rfl
          simp only [Act.put, List.setIfInBounds_toArray, List.set_cons_zero, List.set_cons_succ]
          refine wpAnyH_take (i := 19) (oi := { dst := some 153, op := Op.indexAddr 43 (Operand.tmp 22) (Operand.const (Value.int IntKind.i64 0)), type := 0, pos := "law.go:68", after := #[{ on := 18, ground := Ground.guard }], guard := some (18, true) }) (v := ?_) rfl (by as_aux_lemma => kernel_rfl) (by as_aux_lemma => kernel_rfl) (by as_aux_lemma => kernel_rfl) (fun _ _ _ h => h) (Or.inl ⟨by rfl, ?_⟩) (by assumption) ?_
          rotate_left
          · intro wq hSw
            go_simp
            try with_reducible rfl
          simp only [Act.put, List.setIfInBounds_toArray, List.set_cons_zero, List.set_cons_succ]
          refine wpAnyH_take (i := 20) (oi := { dst := some 154, op := Op.load 39 (Operand.tmp 153), type := 39, pos := "law.go:68", after := #[{ on := 19, ground := Ground.data }, { on := 18, ground := Ground.guard }], guard := some (18, true) }) (v := ?_) rfl (by as_aux_lemma => kernel_rfl) (by as_aux_lemma => kernel_rfl) (by as_aux_lemma => kernel_rfl) (fun _ _ _ h => h) (Or.inl ⟨by rfl, ?_⟩) (by assumption) ?_
          rotate_left
          · intro wq hSw
            have h0 := hSw.1.cell 0 _ rfl; have h1 := hSw.1.cell 1 _ rfl; have h2 := hSw.1.cell 2 _ rfl
            go_simp
            try with_reducible rfl
          simp only [Act.put, List.setIfInBounds_toArray, List.set_cons_zero, List.set_cons_succ]
          refine wpAnyH_take (i := 21) (oi := { dst := some 155, op := Op.load 23 (Operand.tmp 5), type := 23, pos := "law.go:68", after := #[{ on := 18, ground := Ground.guard }], guard := some (18, true) }) (v := ?_) rfl (by as_aux_lemma => kernel_rfl) (by as_aux_lemma => kernel_rfl) (by as_aux_lemma => kernel_rfl) (fun _ _ _ h => h) (Or.inl ⟨by rfl, ?_⟩) (by assumption) ?_
          rotate_left
          · intro wq hSw
            have h0 := hSw.2.1.cell 0 _ rfl; have h1 := hSw.2.1.cell 1 _ rfl; have h2 := hSw.2.1.cell 2 _ rfl; have h3 := hSw.2.1.cell 3 _ rfl; have h4 := hSw.2.1.cell 4 _ rfl; have h5 := hSw.2.1.cell 5 _ rfl; have h6 := hSw.2.1.cell 6 _ rfl
            go_simp
            try with_reducible rfl
          simp only [Act.put, List.setIfInBounds_toArray, List.set_cons_zero, List.set_cons_succ]
          refine wpAnyH_take (i := 22) (oi := { dst := some 156, op := Op.move (Operand.tmp 1), type := 24, pos := "law.go:68", after := #[{ on := 18, ground := Ground.guard }], guard := some (18, true) }) (v := ?_) rfl (by as_aux_lemma => kernel_rfl) (by as_aux_lemma => kernel_rfl) (by as_aux_lemma => kernel_rfl) (fun _ _ _ h => h) (Or.inl ⟨by rfl, ?_⟩) (by assumption) ?_
          rotate_left
          · intro wq hSw
            go_simp
            try with_reducible rfl
          simp only [Act.put, List.setIfInBounds_toArray, List.set_cons_zero, List.set_cons_succ]
          refine wpAnyH_take (i := 23) (oi := { dst := some 157, op := Op.move (Operand.tmp 4), type := 3, pos := "law.go:68", after := #[{ on := 18, ground := Ground.guard }], guard := some (18, true) }) (v := ?_) rfl (by as_aux_lemma => kernel_rfl) (by as_aux_lemma => kernel_rfl) (by as_aux_lemma => kernel_rfl) (fun _ _ _ h => h) (Or.inl ⟨by rfl, ?_⟩) (by assumption) ?_
          rotate_left
          · intro wq hSw
            go_simp
            try with_reducible rfl
          simp only [Act.put, List.setIfInBounds_toArray, List.set_cons_zero, List.set_cons_succ]
          refine wpAnyH_ready (rs := [24]) (by as_aux_lemma => kernel_rfl) (by simp) ?_
          refine AllReadyH.cons (o := { dst := some 158, op := Op.call { callee := Callee.value (Operand.func 13), args := #[Operand.tmp 155, Operand.tmp 156, Operand.tmp 157, Operand.const (Value.int IntKind.i64 0)], argTypes := #[23, 24, 3, 3] }, type := 38, pos := "law.go:68", after := #[{ on := 21, ground := Ground.data }, { on := 22, ground := Ground.data }, { on := 23, ground := Ground.data }, { on := 18, ground := Ground.chain }, { on := 18, ground := Ground.guard }], guard := some (18, true) }) rfl (fun K hK => ?_) AllReadyH.nil
          go_simp
          go_at_call 13
          refine (HS0.out _ hd1.2.2).mono ?_
          rintro ea2 wa2 ⟨rfl, hba⟩
          have hd2 : Bl w7.heap.size [.int .i64 X.p, .int .i64 X.q, .int .i64 X.k, .int .i64 Y.p, .int .i64 Y.q, .int .i64 Y.k] wa2 ∧ Bl w.heap.size [.int .i64 p, .int .i64 c, .int .i64 n, .int .i64 b, .int .i64 r, .int .i64 f, .int .i64 g] wa2 ∧ Below w.heap.size w wa2 := ⟨hd1.1.below hba, hd1.2.1.below hba, Below.step hd1.2.2 hba⟩
          refine hK.out _ _ hd2 (fun hHeld => ?_)
          clear hK K hba
          try simp only [Act.put, List.setIfInBounds_toArray, List.set_cons_zero, List.set_cons_succ]
          refine wpAnyH_take (i := 25) (oi := { dst := some 159, op := Op.binOp BinOp.eql 38 (Operand.tmp 154) (Operand.tmp 158) 38, type := 4, pos := "law.go:68", after := #[{ on := 20, ground := Ground.data }, { on := 24, ground := Ground.data }, { on := 18, ground := Ground.guard }], guard := some (18, true) }) (v := .bool true) rfl (by as_aux_lemma => kernel_rfl) (by as_aux_lemma => kernel_rfl) (by as_aux_lemma => kernel_rfl) (fun _ _ _ h => h) (Or.inl ⟨by rfl, ?_⟩) (by assumption) ?_
          · intro wq hSw
            have he := run_eql_lvl X wq
            go_simp
            try with_reducible rfl
          simp only [Act.put, List.setIfInBounds_toArray, List.set_cons_zero, List.set_cons_succ]
          refine wpAnyH_take (i := 26) (oi := { dst := some 160, op := Op.pick (Operand.tmp 152) (Operand.tmp 159) (Operand.const (Value.bool false)), type := 4, pos := "law.go:68", after := #[{ on := 18, ground := Ground.data }, { on := 25, ground := Ground.data }], guard := none }) (v := ?_) rfl (by as_aux_lemma => kernel_rfl) (by as_aux_lemma => kernel_rfl) (by as_aux_lemma => kernel_rfl) (fun _ _ _ h => h) (Or.inl ⟨by rfl, ?_⟩) (by assumption) ?_
          rotate_left
          · intro wq hSw
            go_simp
            try with_reducible rfl
          simp only [Act.put, List.setIfInBounds_toArray, List.set_cons_zero, List.set_cons_succ]
          refine wpAnyH_take (i := 27) (oi := { dst := some 161, op := Op.move (Operand.tmp 160), type := 4, pos := "law.go:68", after := #[{ on := 26, ground := Ground.data }, { on := 24, ground := Ground.chain }], guard := none }) (v := ?_) rfl (by as_aux_lemma => kernel_rfl) (by as_aux_lemma => kernel_rfl) (by as_aux_lemma => kernel_rfl) (fun _ _ _ h => h) (Or.inl ⟨by rfl, ?_⟩) (by assumption) ?_
          rotate_left
          · intro wq hSw
            go_simp
            try with_reducible rfl
          simp only [Act.put, List.setIfInBounds_toArray, List.set_cons_zero, List.set_cons_succ]
          refine wpAnyH_take (i := 28) (oi := { dst := some 162, op := Op.indexAddr 43 (Operand.tmp 22) (Operand.const (Value.int IntKind.i64 1)), type := 0, pos := "law.go:68", after := #[{ on := 27, ground := Ground.guard }], guard := some (27, true) }) (v := ?_) rfl (by as_aux_lemma => kernel_rfl) (by as_aux_lemma => kernel_rfl) (by as_aux_lemma => kernel_rfl) (fun _ _ _ h => h) (Or.inl ⟨by rfl, ?_⟩) (by assumption) ?_
          rotate_left
          · intro wq hSw
            go_simp
            try with_reducible rfl
          simp only [Act.put, List.setIfInBounds_toArray, List.set_cons_zero, List.set_cons_succ]
          refine wpAnyH_take (i := 29) (oi := { dst := some 163, op := Op.load 39 (Operand.tmp 162), type := 39, pos := "law.go:68", after := #[{ on := 28, ground := Ground.data }, { on := 27, ground := Ground.guard }], guard := some (27, true) }) (v := ?_) rfl (by as_aux_lemma => kernel_rfl) (by as_aux_lemma => kernel_rfl) (by as_aux_lemma => kernel_rfl) (fun _ _ _ h => h) (Or.inl ⟨by rfl, ?_⟩) (by assumption) ?_
          rotate_left
          · intro wq hSw
            have h0 := hSw.1.cell 3 _ rfl; have h1 := hSw.1.cell 4 _ rfl; have h2 := hSw.1.cell 5 _ rfl
            go_simp
            try with_reducible rfl
          simp only [Act.put, List.setIfInBounds_toArray, List.set_cons_zero, List.set_cons_succ]
          refine wpAnyH_take (i := 30) (oi := { dst := some 164, op := Op.load 23 (Operand.tmp 5), type := 23, pos := "law.go:68", after := #[{ on := 27, ground := Ground.guard }], guard := some (27, true) }) (v := ?_) rfl (by as_aux_lemma => kernel_rfl) (by as_aux_lemma => kernel_rfl) (by as_aux_lemma => kernel_rfl) (fun _ _ _ h => h) (Or.inl ⟨by rfl, ?_⟩) (by assumption) ?_
          rotate_left
          · intro wq hSw
            have h0 := hSw.2.1.cell 0 _ rfl; have h1 := hSw.2.1.cell 1 _ rfl; have h2 := hSw.2.1.cell 2 _ rfl; have h3 := hSw.2.1.cell 3 _ rfl; have h4 := hSw.2.1.cell 4 _ rfl; have h5 := hSw.2.1.cell 5 _ rfl; have h6 := hSw.2.1.cell 6 _ rfl
            go_simp
            try with_reducible rfl
          simp only [Act.put, List.setIfInBounds_toArray, List.set_cons_zero, List.set_cons_succ]
          refine wpAnyH_take (i := 31) (oi := { dst := some 165, op := Op.move (Operand.tmp 1), type := 24, pos := "law.go:68", after := #[{ on := 27, ground := Ground.guard }], guard := some (27, true) }) (v := ?_) rfl (by as_aux_lemma => kernel_rfl) (by as_aux_lemma => kernel_rfl) (by as_aux_lemma => kernel_rfl) (fun _ _ _ h => h) (Or.inl ⟨by rfl, ?_⟩) (by assumption) ?_
          rotate_left
          · intro wq hSw
            go_simp
            try with_reducible rfl
          simp only [Act.put, List.setIfInBounds_toArray, List.set_cons_zero, List.set_cons_succ]
          refine wpAnyH_take (i := 32) (oi := { dst := some 166, op := Op.move (Operand.tmp 4), type := 3, pos := "law.go:68", after := #[{ on := 27, ground := Ground.guard }], guard := some (27, true) }) (v := ?_) rfl (by as_aux_lemma => kernel_rfl) (by as_aux_lemma => kernel_rfl) (by as_aux_lemma => kernel_rfl) (fun _ _ _ h => h) (Or.inl ⟨by rfl, ?_⟩) (by assumption) ?_
          rotate_left
          · intro wq hSw
            go_simp
            try with_reducible rfl
          simp only [Act.put, List.setIfInBounds_toArray, List.set_cons_zero, List.set_cons_succ]
          refine wpAnyH_ready (rs := [33]) (by as_aux_lemma => kernel_rfl) (by simp) ?_
          refine AllReadyH.cons (o := { dst := some 167, op := Op.call { callee := Callee.value (Operand.func 13), args := #[Operand.tmp 164, Operand.tmp 165, Operand.tmp 166, Operand.const (Value.int IntKind.i64 1)], argTypes := #[23, 24, 3, 3] }, type := 38, pos := "law.go:68", after := #[{ on := 30, ground := Ground.data }, { on := 31, ground := Ground.data }, { on := 32, ground := Ground.data }, { on := 27, ground := Ground.chain }, { on := 27, ground := Ground.guard }], guard := some (27, true) }) rfl (fun K hK => ?_) AllReadyH.nil
          go_simp
          go_at_call 13
          refine (HS1.out _ hd2.2.2).mono ?_
          rintro ea3 wa3 ⟨rfl, hba⟩
          have hd3 : Bl w7.heap.size [.int .i64 X.p, .int .i64 X.q, .int .i64 X.k, .int .i64 Y.p, .int .i64 Y.q, .int .i64 Y.k] wa3 ∧ Bl w.heap.size [.int .i64 p, .int .i64 c, .int .i64 n, .int .i64 b, .int .i64 r, .int .i64 f, .int .i64 g] wa3 ∧ Below w.heap.size w wa3 := ⟨hd2.1.below hba, hd2.2.1.below hba, Below.step hd2.2.2 hba⟩
          refine hK.out _ _ hd3 (fun hHeld => ?_)
          clear hK K hba
          try simp only [Act.put, List.setIfInBounds_toArray, List.set_cons_zero, List.set_cons_succ]
          refine wpAnyH_take (i := 34) (oi := { dst := some 168, op := Op.binOp BinOp.eql 38 (Operand.tmp 163) (Operand.tmp 167) 38, type := 4, pos := "law.go:68", after := #[{ on := 29, ground := Ground.data }, { on := 33, ground := Ground.data }, { on := 27, ground := Ground.guard }], guard := some (27, true) }) (v := .bool true) rfl (by as_aux_lemma => kernel_rfl) (by as_aux_lemma => kernel_rfl) (by as_aux_lemma => kernel_rfl) (fun _ _ _ h => h) (Or.inl ⟨by rfl, ?_⟩) (by assumption) ?_
          · intro wq hSw
            have he := run_eql_lvl Y wq
            go_simp
            try with_reducible rfl
          simp only [Act.put, List.setIfInBounds_toArray, List.set_cons_zero, List.set_cons_succ]
          refine wpAnyH_take (i := 35) (oi := { dst := some 169, op := Op.pick (Operand.tmp 161) (Operand.tmp 168) (Operand.const (Value.bool false)), type := 4, pos := "law.go:68", after := #[{ on := 27, ground := Ground.data }, { on := 34, ground := Ground.data }], guard := none }) (v := ?_) rfl (by as_aux_lemma => kernel_rfl) (by as_aux_lemma => kernel_rfl) (by as_aux_lemma => kernel_rfl) (fun _ _ _ h => h) (Or.inl ⟨by rfl, ?_⟩) (by assumption) ?_
          rotate_left
          · intro wq hSw
            go_simp
            try with_reducible rfl
          simp only [Act.put, List.setIfInBounds_toArray, List.set_cons_zero, List.set_cons_succ]
          refine wpAnyH_take (i := 36) (oi := { dst := some 10, op := Op.assign (Operand.tmp 169), type := 4, pos := "law.go:68", after := #[{ on := 35, ground := Ground.data }, { on := 33, ground := Ground.chain }, { on := 0, ground := Ground.phase }, { on := 1, ground := Ground.phase }, { on := 2, ground := Ground.phase }, { on := 3, ground := Ground.phase }, { on := 4, ground := Ground.phase }, { on := 5, ground := Ground.phase }, { on := 6, ground := Ground.phase }, { on := 7, ground := Ground.phase }, { on := 8, ground := Ground.phase }, { on := 9, ground := Ground.phase }, { on := 10, ground := Ground.phase }, { on := 11, ground := Ground.phase }, { on := 12, ground := Ground.phase }, { on := 13, ground := Ground.phase }, { on := 14, ground := Ground.phase }, { on := 15, ground := Ground.phase }, { on := 16, ground := Ground.phase }, { on := 17, ground := Ground.phase }, { on := 18, ground := Ground.phase }, { on := 19, ground := Ground.phase }, { on := 20, ground := Ground.phase }, { on := 21, ground := Ground.phase }, { on := 22, ground := Ground.phase }, { on := 23, ground := Ground.phase }, { on := 24, ground := Ground.phase }, { on := 25, ground := Ground.phase }, { on := 26, ground := Ground.phase }, { on := 27, ground := Ground.phase }, { on := 28, ground := Ground.phase }, { on := 29, ground := Ground.phase }, { on := 30, ground := Ground.phase }, { on := 31, ground := Ground.phase }, { on := 32, ground := Ground.phase }, { on := 33, ground := Ground.phase }, { on := 34, ground := Ground.phase }, { on := 35, ground := Ground.phase }], guard := none }) (v := ?_) rfl (by as_aux_lemma => kernel_rfl) (by as_aux_lemma => kernel_rfl) (by as_aux_lemma => kernel_rfl) (fun _ _ _ h => h) (Or.inl ⟨by rfl, ?_⟩) (by assumption) ?_
          rotate_left
          · intro wq hSw
            go_simp
            try with_reducible rfl
          simp only [Act.put, List.setIfInBounds_toArray, List.set_cons_zero, List.set_cons_succ]
          refine wpAnyH_done (by as_aux_lemma => kernel_rfl) ?_ _
          go_wp2_with fail
          go_ret
          exact ⟨rfl, hd3.2.2⟩

        · obtain ⟨g4, c7, hv4, _, _⟩ := own_some HT4.out.2 (by simp)
          injection hv4 with e1 e2 e3
          subst e1 e3
          clear e2
          have y0 : w4.cell? ⟨g4, 0, none⟩ = some (.int .i64 x.p) := vrow_cell2 (k := 0) (j := 0) HT4.out.2 (x := x) rfl (by simp) (by omega) rfl
          have hx1 : 0 ≤ x.p := hbx.1
          have hx2 : x.p ≤ 9999 := hbx.2
          have ly : (0 : Int) < ((x :: t).length : Int) := by simp
          have ly2 : 0 < (x :: t).length := by simp
          have HLY : Hid ((x :: t).length ≤ 40) := HN2
          have HRY := Lib.hid HT4.out.2
          have HCY := Lib.hid y0
          clear HN2
          generalize (x :: t).length = NL at *
          have hz1 : 0 ≤ z.p := hbz.1
          have hz2 : z.p ≤ 9999 := hbz.2
          clear hbx hbz
          simp only [bp, bk]
          go_wp2_with fail
          refine (HR2.out _ HT4.out.1.bel).mono ?_
          rintro e5 w5 ⟨v5, rfl, ho5, hb5⟩
          obtain ⟨g5, c8, rfl, _, _⟩ := own_some ho5 (by simp)
          have zc : w5.cell? ⟨g5, 0, none⟩ = some (.int .i64 z.p) := vrow_cell2 (k := 0) (j := 0) ho5 (x := z) rfl (by simp) (by omega) rfl
          have lz : (0 : Int) < ((z :: tz).length : Int) := by simp
          have lz2 : 0 < (z :: tz).length := by simp
          have y5 : w5.cell? ⟨g4, 0, none⟩ = some (.int .i64 x.p) := (hb5.cell (p := ⟨g4, 0, none⟩) (cell_lt HCY.out)).trans HCY.out
          clear y0
          have HT5 := Lib.hid (HT4.out.1.below hb5)
          clear ho5 hb5
          generalize (z :: tz).length = NZ at *
          go_wp2_with fail
          go_quiet (fail)
          have HT5a := HT5
          clear HT5
          have HT5 : Hid (SSt w (w5.drewN nq) p c n b r f g BB (w.alloc (.cells (List.toArray [.int .i64 p, .int .i64 c, .int .i64 n, .int .i64 b, .int .i64 r, .int .i64 f, .int .i64 g]) 23)).heap.size A2 c2 (lst ln gv)) := Lib.hid (HT5a.out.below (dn w5 nq))
          have q0 := HT5.out.bk.cell 0 _ rfl
          have q1 := HT5.out.bk.cell 1 _ rfl
          have q2 := HT5.out.bk.cell 2 _ rfl
          have q3 := HT5.out.bk.cell 3 _ rfl
          have q4 := HT5.out.bk.cell 4 _ rfl
          have q5 := HT5.out.bk.cell 5 _ rfl
          have q6 := HT5.out.bk.cell 6 _ rfl
          have q7 := HT5.out.bk.cell 7 _ rfl
          go_wp2_with fail
          refine (HSP.out _ _ _ _ _ HT5.out.row).mono ?_
          rintro e6 w6 ⟨l0, l1, rfl, h0, h1, hb6⟩
          have eL := HUL.out _ h0
          have eZ := HUZ.out _ h1
          rw [eL, eZ]
          have HT6 := Lib.hid (HT5.out.below hb6)
          have hsp : spv (x :: t) (z :: tz) = (z.p - x.p) := by simp [spv, bk, bp]
          rw [hsp]
          simp only [bk, Bool.and_true, Bool.and_false, Bool.true_and, Bool.false_and]
          clear h0 h1 eL eZ hsp hb6 q0 q1 q2 q3 q4 q5 q6 q7
          have q0 := HT6.out.bk.cell 0 _ rfl
          have q1 := HT6.out.bk.cell 1 _ rfl
          have q2 := HT6.out.bk.cell 2 _ rfl
          have q3 := HT6.out.bk.cell 3 _ rfl
          have q4 := HT6.out.bk.cell 4 _ rfl
          have q5 := HT6.out.bk.cell 5 _ rfl
          have q6 := HT6.out.bk.cell 6 _ rfl
          have q7 := HT6.out.bk.cell 7 _ rfl
          go_wp2_with fail
          refine (HSH.out _ _ _ _ _ HT6.out.row).mono ?_
          rintro e7 w7 ⟨rfl, hb7⟩
          have HT7 := Lib.hid (HT6.out.below hb7)
          clear hb7 q0 q1 q2 q3 q4 q5 q6 q7
          obtain ⟨X, hX⟩ : ∃ X, X = shl 0 (fsh n b 0 si) (lst ln gv) := ⟨_, rfl⟩
          obtain ⟨Y, hY⟩ : ∃ Y, Y = shl 1 (fsh n b 1 si) (lst ln gv) := ⟨_, rfl⟩
          rw [← hX, ← hY]
          rw [← hX] at HS0
          rw [← hY] at HS1
          clear hX hY
          go_wp2_with fail
          have b22 := Bl.new w7 [.int .i64 X.p, .int .i64 X.q, .int .i64 X.k, .int .i64 Y.p, .int .i64 Y.q, .int .i64 Y.k] 43
          have g8 : Below w7.heap.size w7 (w7.alloc (.cells (List.toArray [.int .i64 X.p, .int .i64 X.q, .int .i64 X.k, .int .i64 Y.p, .int .i64 Y.q, .int .i64 Y.k]) 43)) := by go_grown
          have hd : Bl w7.heap.size [.int .i64 X.p, .int .i64 X.q, .int .i64 X.k, .int .i64 Y.p, .int .i64 Y.q, .int .i64 Y.k] (w7.alloc (.cells (List.toArray [.int .i64 X.p, .int .i64 X.q, .int .i64 X.k, .int .i64 Y.p, .int .i64 Y.q, .int .i64 Y.k]) 43)).drew ∧ Bl w.heap.size [.int .i64 p, .int .i64 c, .int .i64 n, .int .i64 b, .int .i64 r, .int .i64 f, .int .i64 g] (w7.alloc (.cells (List.toArray [.int .i64 X.p, .int .i64 X.q, .int .i64 X.k, .int .i64 Y.p, .int .i64 Y.q, .int .i64 Y.k]) 43)).drew ∧ Below w.heap.size w (w7.alloc (.cells (List.toArray [.int .i64 X.p, .int .i64 X.q, .int .i64 X.k, .int .i64 Y.p, .int .i64 Y.q, .int .i64 Y.k]) 43)).drew := ⟨b22, (HT7.out.below g8).cfg, (HT7.out.below g8).bel.drew⟩
          clear b22 g8
          refine wp_region_held_drew (S := fun w' => Bl w7.heap.size [.int .i64 X.p, .int .i64 X.q, .int .i64 X.k, .int .i64 Y.p, .int .i64 Y.q, .int .i64 Y.k] w' ∧ Bl w.heap.size [.int .i64 p, .int .i64 c, .int .i64 n, .int .i64 b, .int .i64 r, .int .i64 f, .int .i64 g] w' ∧ Below w.heap.size w w') (by kernel_rfl) hd (fun hHeld => ?_)
          refine wpAnyH_ready (rs := [0]) (by as_aux_lemma => kernel_rfl) (by simp) ?_
          refine AllReadyH.cons (o := { dst := some 134, op := Op.call { callee := Callee.value (Operand.func 7), args := #[], argTypes := #[] }, type := 4, pos := "law.go:68", after := #[], guard := none }) rfl (fun K hK => ?_) AllReadyH.nil
          go_simp
          go_at_call 7
          refine (awake_is _).mono ?_
          rintro ea1 wa1 ⟨rfl, hba⟩
          have hd1 : Bl w7.heap.size [.int .i64 X.p, .int .i64 X.q, .int .i64 X.k, .int .i64 Y.p, .int .i64 Y.q, .int .i64 Y.k] wa1 ∧ Bl w.heap.size [.int .i64 p, .int .i64 c, .int .i64 n, .int .i64 b, .int .i64 r, .int .i64 f, .int .i64 g] wa1 ∧ Below w.heap.size w wa1 := ⟨hd.1.below hba, hd.2.1.below hba, Below.step hd.2.2 hba⟩
          refine hK.out _ _ hd1 (fun hHeld => ?_)
          clear hK K hba
          try simp only [Act.put, List.setIfInBounds_toArray, List.set_cons_zero, List.set_cons_succ]
          refine wpAnyH_take (i := 1) (oi := { dst := some 135, op := Op.move (Operand.tmp 134), type := 4, pos := "law.go:68", after := #[{ on := 0, ground := Ground.data }, { on := 0, ground := Ground.chain }], guard := none }) (v := ?_) rfl (by as_aux_lemma => kernel_rfl) (by as_aux_lemma => kernel_rfl) (by as_aux_lemma => kernel_rfl) (fun _ _ _ h => h) (Or.inl ⟨by rfl, ?_⟩) (by assumption) ?_
          rotate_left
          · intro wq hSw
            go_simp
            try with_reducible rfl
          simp only [Act.put, List.setIfInBounds_toArray, List.set_cons_zero, List.set_cons_succ]
          refine wpAnyH_take (i := 2) (oi := { dst := some 136, op := Op.move (Operand.tmp 20), type := 3, pos := "law.go:68", after := #[{ on := 1, ground := Ground.guard }], guard := some (1, true) }) (v := ?_) rfl (by as_aux_lemma => kernel_rfl) (by as_aux_lemma => kernel_rfl) (by as_aux_lemma => kernel_rfl) (fun _ _ _ h => h) (Or.inl ⟨by rfl, ?_⟩) (by assumption) ?_
          rotate_left
          · intro wq hSw
            go_simp
            try with_reducible rfl
          simp only [Act.put, List.setIfInBounds_toArray, List.set_cons_zero, List.set_cons_succ]
          refine wpAnyH_take (i := 3) (oi := { dst := some 137, op := Op.move (Operand.tmp 19), type := 3, pos := "law.go:68", after := #[{ on := 1, ground := Ground.guard }], guard := some (1, true) }) (v := ?_) rfl (by as_aux_lemma => kernel_rfl) (by as_aux_lemma => kernel_rfl) (by as_aux_lemma => kernel_rfl) (fun _ _ _ h => h) (Or.inl ⟨by rfl, ?_⟩) (by assumption) ?_
          rotate_left
          · intro wq hSw
            go_simp
            try with_reducible rfl
          simp only [Act.put, List.setIfInBounds_toArray, List.set_cons_zero, List.set_cons_succ]
          refine wpAnyH_take (i := 4) (oi := { dst := some 138, op := Op.binOp BinOp.eql 3 (Operand.tmp 136) (Operand.tmp 137) 3, type := 4, pos := "law.go:68", after := #[{ on := 2, ground := Ground.data }, { on := 3, ground := Ground.data }, { on := 1, ground := Ground.guard }], guard := some (1, true) }) (v := .bool true) rfl (by as_aux_lemma => kernel_rfl) (by as_aux_lemma => kernel_rfl) (by as_aux_lemma => kernel_rfl) (fun _ _ _ h => h) (Or.inl ⟨by rfl, ?_⟩) (by assumption) ?_
          · intro wq hSw
            go_simp
            try with_reducible rfl
          simp only [Act.put, List.setIfInBounds_toArray, List.set_cons_zero, List.set_cons_succ]
          refine wpAnyH_take (i := 5) (oi := { dst := some 139, op := Op.pick (Operand.tmp 135) (Operand.tmp 138) (Operand.const (Value.bool false)), type := 4, pos := "law.go:68", after := #[{ on := 1, ground := Ground.data }, { on := 4, ground := Ground.data }], guard := none }) (v := ?_) rfl (by as_aux_lemma => kernel_rfl) (by as_aux_lemma => kernel_rfl) (by as_aux_lemma => kernel_rfl) (fun _ _ _ h => h) (Or.inl ⟨by rfl, ?_⟩) (by assumption) ?_
          rotate_left
          · intro wq hSw
            go_simp
            try with_reducible rfl
          simp only [Act.put, List.setIfInBounds_toArray, List.set_cons_zero, List.set_cons_succ]
          refine wpAnyH_take (i := 6) (oi := { dst := some 140, op := Op.move (Operand.tmp 139), type := 4, pos := "law.go:68", after := #[{ on := 5, ground := Ground.data }, { on := 1, ground := Ground.chain }], guard := none }) (v := ?_) rfl (by as_aux_lemma => kernel_rfl) (by as_aux_lemma => kernel_rfl) (by as_aux_lemma => kernel_rfl) (fun _ _ _ h => h) (Or.inl ⟨by rfl, ?_⟩) (by assumption) ?_
          rotate_left
          · intro wq hSw
            go_simp
            try with_reducible rfl
          simp only [Act.put, List.setIfInBounds_toArray, List.set_cons_zero, List.set_cons_succ]
          refine wpAnyH_take (i := 7) (oi := { dst := some 141, op := Op.move (Operand.tmp 21), type := 4, pos := "law.go:68", after := #[{ on := 6, ground := Ground.guard }], guard := some (6, true) }) (v := ?_) rfl (by as_aux_lemma => kernel_rfl) (by as_aux_lemma => kernel_rfl) (by as_aux_lemma => kernel_rfl) (fun _ _ _ h => h) (Or.inl ⟨by rfl, ?_⟩) (by assumption) ?_
          rotate_left
          · intro wq hSw
            go_simp
            try with_reducible rfl
          simp only [Act.put, List.setIfInBounds_toArray, List.set_cons_zero, List.set_cons_succ]
          refine wpAnyH_take (i := 8) (oi := { dst := some 142, op := Op.move (Operand.tmp 14), type := 35, pos := "law.go:68", after := #[{ on := 6, ground := Ground.guard }], guard := some (6, true) }) (v := ?_) rfl (by as_aux_lemma => kernel_rfl) (by as_aux_lemma => kernel_rfl) (by as_aux_lemma => kernel_rfl) (fun _ _ _ h => h) (Or.inl ⟨by rfl, ?_⟩) (by assumption) ?_
          rotate_left
          · intro wq hSw
            go_simp
            try with_reducible rfl
          simp only [Act.put, List.setIfInBounds_toArray, List.set_cons_zero, List.set_cons_succ]
          refine wpAnyH_take (i := 9) (oi := { dst := some 143, op := Op.call { callee := Callee.builtin Builtin.len, args := #[Operand.tmp 142], argTypes := #[35] }, type := 3, pos := "law.go:68", after := #[{ on := 8, ground := Ground.data }, { on := 6, ground := Ground.guard }], guard := some (6, true) }) (v := ?_) rfl (by as_aux_lemma => kernel_rfl) (by as_aux_lemma => kernel_rfl) (by as_aux_lemma => kernel_rfl) (fun _ _ _ h => h) (Or.inl ⟨by rfl, ?_⟩) (by assumption) ?_
          rotate_left
          · intro wq hSw
            go_simp
            try with_reducible rfl
          simp only [Act.put, List.setIfInBounds_toArray, List.set_cons_zero, List.set_cons_succ]
          refine wpAnyH_take (i := 10) (oi := { dst := some 144, op := Op.binOp BinOp.gtr 3 (Operand.tmp 143) (Operand.const (Value.int IntKind.i64 0)) 3, type := 4, pos := "law.go:68", after := #[{ on := 9, ground := Ground.data }, { on := 6, ground := Ground.guard }], guard := some (6, true) }) (v := .bool true) rfl (by as_aux_lemma => kernel_rfl) (by as_aux_lemma => kernel_rfl) (by as_aux_lemma => kernel_rfl) (fun _ _ _ h => h) (Or.inl ⟨by rfl, ?_⟩) (by assumption) ?_
          · intro wq hSw
            go_simp
            try with_reducible rfl
          simp only [Act.put, List.setIfInBounds_toArray, List.set_cons_zero, List.set_cons_succ]
          refine wpAnyH_take (i := 11) (oi := { dst := some 145, op := Op.move (Operand.tmp 144), type := 4, pos := "law.go:68", after := #[{ on := 10, ground := Ground.data }, { on := 6, ground := Ground.chain }, { on := 6, ground := Ground.guard }], guard := some (6, true) }) (v := ?_) rfl (by as_aux_lemma => kernel_rfl) (by as_aux_lemma => kernel_rfl) (by as_aux_lemma => kernel_rfl) (fun _ _ _ h => h) (Or.inl ⟨by rfl, ?_⟩) (by assumption) ?_
          rotate_left
          · intro wq hSw
            go_simp
            try with_reducible rfl
          simp only [Act.put, List.setIfInBounds_toArray, List.set_cons_zero, List.set_cons_succ]
          refine wpAnyH_take (i := 12) (oi := { dst := some 146, op := Op.move (Operand.tmp 18), type := 35, pos := "law.go:68", after := #[{ on := 11, ground := Ground.guard }], guard := some (11, true) }) (v := ?_) rfl (by as_aux_lemma => kernel_rfl) (by as_aux_lemma => kernel_rfl) (by as_aux_lemma => kernel_rfl) (fun _ _ _ h => h) (Or.inl ⟨by rfl, ?_⟩) (by assumption) ?_
          rotate_left
          · intro wq hSw
            go_simp
            try with_reducible rfl
          simp only [Act.put, List.setIfInBounds_toArray, List.set_cons_zero, List.set_cons_succ]
          refine wpAnyH_take (i := 13) (oi := { dst := some 147, op := Op.call { callee := Callee.builtin Builtin.len, args := #[Operand.tmp 146], argTypes := #[35] }, type := 3, pos := "law.go:68", after := #[{ on := 12, ground := Ground.data }, { on := 11, ground := Ground.guard }], guard := some (11, true) }) (v := ?_) rfl (by as_aux_lemma => kernel_rfl) (by as_aux_lemma => kernel_rfl) (by as_aux_lemma => kernel_rfl) (fun _ _ _ h => h) (Or.inl ⟨by rfl, ?_⟩) (by assumption) ?_
          rotate_left
          · intro wq hSw
            go_simp
            try with_reducible rfl
          simp only [Act.put, List.setIfInBounds_toArray, List.set_cons_zero, List.set_cons_succ]
          refine wpAnyH_take (i := 14) (oi := { dst := some 148, op := Op.binOp BinOp.gtr 3 (Operand.tmp 147) (Operand.const (Value.int IntKind.i64 0)) 3, type := 4, pos := "law.go:68", after := #[{ on := 13, ground := Ground.data }, { on := 11, ground := Ground.guard }], guard := some (11, true) }) (v := .bool true) rfl (by as_aux_lemma => kernel_rfl) (by as_aux_lemma => kernel_rfl) (by as_aux_lemma => kernel_rfl) (fun _ _ _ h => h) (Or.inl ⟨by rfl, ?_⟩) (by assumption) ?_
          · intro wq hSw
            go_simp
            try with_reducible rfl
          simp only [Act.put, List.setIfInBounds_toArray, List.set_cons_zero, List.set_cons_succ]
          refine wpAnyH_take (i := 15) (oi := { dst := some 149, op := Op.pick (Operand.tmp 145) (Operand.tmp 148) (Operand.const (Value.bool false)), type := 4, pos := "law.go:68", after := #[{ on := 11, ground := Ground.data }, { on := 14, ground := Ground.data }, { on := 6, ground := Ground.guard }], guard := some (6, true) }) (v := ?_) rfl (by as_aux_lemma => kernel_rfl) (by as_aux_lemma => kernel_rfl) (by as_aux_lemma => kernel_rfl) (fun _ _ _ h => h) (Or.inl ⟨by rfl, ?_⟩) (by assumption) ?_
          rotate_left
          · intro wq hSw
            go_simp
            try with_reducible rfl
          simp only [Act.put, List.setIfInBounds_toArray, List.set_cons_zero, List.set_cons_succ]
          refine wpAnyH_take (i := 16) (oi := { dst := some 150, op := Op.binOp BinOp.eql 4 (Operand.tmp 141) (Operand.tmp 149) 4, type := 4, pos := "law.go:68", after := #[{ on := 7, ground := Ground.data }, { on := 15, ground := Ground.data }, { on := 6, ground := Ground.guard }], guard := some (6, true) }) (v := .bool true) rfl (by as_aux_lemma => kernel_rfl) (by as_aux_lemma => kernel_rfl) (by as_aux_lemma => kernel_rfl) (fun _ _ _ h => h) (Or.inl ⟨by rfl, ?_⟩) (by assumption) ?_
          · intro wq hSw
            go_simp
            try with_reducible rfl
          simp only [Act.put, List.setIfInBounds_toArray, List.set_cons_zero, List.set_cons_succ]
          refine wpAnyH_take (i := 17) (oi := { dst := some 151, op := Op.pick (Operand.tmp 140) (Operand.tmp 150) (Operand.const (Value.bool false)), type := 4, pos := "law.go:68", after := #[{ on := 6, ground := Ground.data }, { on := 16, ground := Ground.data }], guard := none }) (v := ?_) rfl (by as_aux_lemma => kernel_rfl) (by as_aux_lemma => kernel_rfl) (by as_aux_lemma => kernel_rfl) (fun _ _ _ h => h) (Or.inl ⟨by rfl, ?_⟩) (by assumption) ?_
          rotate_left
          · intro wq hSw
            go_simp
            try with_reducible rfl
          simp only [Act.put, List.setIfInBounds_toArray, List.set_cons_zero, List.set_cons_succ]
          refine wpAnyH_take (i := 18) (oi := { dst := some 152, op := Op.move (Operand.tmp 151), type := 4, pos := "law.go:68", after := #[{ on := 17, ground := Ground.data }, { on := 11, ground := Ground.chain }], guard := none }) (v := ?_) rfl (by as_aux_lemma => kernel_rfl) (by as_aux_lemma => kernel_rfl) (by as_aux_lemma => kernel_rfl) (fun _ _ _ h => h) (Or.inl ⟨by rfl, ?_⟩) (by assumption) ?_
          rotate_left
          · intro wq hSw
            go_simp
            try with_reducible rfl
          simp only [Act.put, List.setIfInBounds_toArray, List.set_cons_zero, List.set_cons_succ]
          refine wpAnyH_take (i := 19) (oi := { dst := some 153, op := Op.indexAddr 43 (Operand.tmp 22) (Operand.const (Value.int IntKind.i64 0)), type := 0, pos := "law.go:68", after := #[{ on := 18, ground := Ground.guard }], guard := some (18, true) }) (v := ?_) rfl (by as_aux_lemma => kernel_rfl) (by as_aux_lemma => kernel_rfl) (by as_aux_lemma => kernel_rfl) (fun _ _ _ h => h) (Or.inl ⟨by rfl, ?_⟩) (by assumption) ?_
          rotate_left
          · intro wq hSw
            go_simp
            try with_reducible rfl
          simp only [Act.put, List.setIfInBounds_toArray, List.set_cons_zero, List.set_cons_succ]
          refine wpAnyH_take (i := 20) (oi := { dst := some 154, op := Op.load 39 (Operand.tmp 153), type := 39, pos := "law.go:68", after := #[{ on := 19, ground := Ground.data }, { on := 18, ground := Ground.guard }], guard := some (18, true) }) (v := ?_) rfl (by as_aux_lemma => kernel_rfl) (by as_aux_lemma => kernel_rfl) (by as_aux_lemma => kernel_rfl) (fun _ _ _ h => h) (Or.inl ⟨by rfl, ?_⟩) (by assumption) ?_
          rotate_left
          · intro wq hSw
            have h0 := hSw.1.cell 0 _ rfl; have h1 := hSw.1.cell 1 _ rfl; have h2 := hSw.1.cell 2 _ rfl
            go_simp
            try with_reducible rfl
          simp only [Act.put, List.setIfInBounds_toArray, List.set_cons_zero, List.set_cons_succ]
          refine wpAnyH_take (i := 21) (oi := { dst := some 155, op := Op.load 23 (Operand.tmp 5), type := 23, pos := "law.go:68", after := #[{ on := 18, ground := Ground.guard }], guard := some (18, true) }) (v := ?_) rfl (by as_aux_lemma => kernel_rfl) (by as_aux_lemma => kernel_rfl) (by as_aux_lemma => kernel_rfl) (fun _ _ _ h => h) (Or.inl ⟨by rfl, ?_⟩) (by assumption) ?_
          rotate_left
          · intro wq hSw
            have h0 := hSw.2.1.cell 0 _ rfl; have h1 := hSw.2.1.cell 1 _ rfl; have h2 := hSw.2.1.cell 2 _ rfl; have h3 := hSw.2.1.cell 3 _ rfl; have h4 := hSw.2.1.cell 4 _ rfl; have h5 := hSw.2.1.cell 5 _ rfl; have h6 := hSw.2.1.cell 6 _ rfl
            go_simp
            try with_reducible rfl
          simp only [Act.put, List.setIfInBounds_toArray, List.set_cons_zero, List.set_cons_succ]
          refine wpAnyH_take (i := 22) (oi := { dst := some 156, op := Op.move (Operand.tmp 1), type := 24, pos := "law.go:68", after := #[{ on := 18, ground := Ground.guard }], guard := some (18, true) }) (v := ?_) rfl (by as_aux_lemma => kernel_rfl) (by as_aux_lemma => kernel_rfl) (by as_aux_lemma => kernel_rfl) (fun _ _ _ h => h) (Or.inl ⟨by rfl, ?_⟩) (by assumption) ?_
          rotate_left
          · intro wq hSw
            go_simp
            try with_reducible rfl
          simp only [Act.put, List.setIfInBounds_toArray, List.set_cons_zero, List.set_cons_succ]
          refine wpAnyH_take (i := 23) (oi := { dst := some 157, op := Op.move (Operand.tmp 4), type := 3, pos := "law.go:68", after := #[{ on := 18, ground := Ground.guard }], guard := some (18, true) }) (v := ?_) rfl (by as_aux_lemma => kernel_rfl) (by as_aux_lemma => kernel_rfl) (by as_aux_lemma => kernel_rfl) (fun _ _ _ h => h) (Or.inl ⟨by rfl, ?_⟩) (by assumption) ?_
          rotate_left
          · intro wq hSw
            go_simp
            try with_reducible rfl
          simp only [Act.put, List.setIfInBounds_toArray, List.set_cons_zero, List.set_cons_succ]
          refine wpAnyH_ready (rs := [24]) (by as_aux_lemma => kernel_rfl) (by simp) ?_
          refine AllReadyH.cons (o := { dst := some 158, op := Op.call { callee := Callee.value (Operand.func 13), args := #[Operand.tmp 155, Operand.tmp 156, Operand.tmp 157, Operand.const (Value.int IntKind.i64 0)], argTypes := #[23, 24, 3, 3] }, type := 38, pos := "law.go:68", after := #[{ on := 21, ground := Ground.data }, { on := 22, ground := Ground.data }, { on := 23, ground := Ground.data }, { on := 18, ground := Ground.chain }, { on := 18, ground := Ground.guard }], guard := some (18, true) }) rfl (fun K hK => ?_) AllReadyH.nil
          go_simp
          go_at_call 13
          refine (HS0.out _ hd1.2.2).mono ?_
          rintro ea2 wa2 ⟨rfl, hba⟩
          have hd2 : Bl w7.heap.size [.int .i64 X.p, .int .i64 X.q, .int .i64 X.k, .int .i64 Y.p, .int .i64 Y.q, .int .i64 Y.k] wa2 ∧ Bl w.heap.size [.int .i64 p, .int .i64 c, .int .i64 n, .int .i64 b, .int .i64 r, .int .i64 f, .int .i64 g] wa2 ∧ Below w.heap.size w wa2 := ⟨hd1.1.below hba, hd1.2.1.below hba, Below.step hd1.2.2 hba⟩
          refine hK.out _ _ hd2 (fun hHeld => ?_)
          clear hK K hba
          try simp only [Act.put, List.setIfInBounds_toArray, List.set_cons_zero, List.set_cons_succ]
          refine wpAnyH_take (i := 25) (oi := { dst := some 159, op := Op.binOp BinOp.eql 38 (Operand.tmp 154) (Operand.tmp 158) 38, type := 4, pos := "law.go:68", after := #[{ on := 20, ground := Ground.data }, { on := 24, ground := Ground.data }, { on := 18, ground := Ground.guard }], guard := some (18, true) }) (v := .bool true) rfl (by as_aux_lemma => kernel_rfl) (by as_aux_lemma => kernel_rfl) (by as_aux_lemma => kernel_rfl) (fun _ _ _ h => h) (Or.inl ⟨by rfl, ?_⟩) (by assumption) ?_
          · intro wq hSw
            have he := run_eql_lvl X wq
            go_simp
            try with_reducible rfl
          simp only [Act.put, List.setIfInBounds_toArray, List.set_cons_zero, List.set_cons_succ]
          refine wpAnyH_take (i := 26) (oi := { dst := some 160, op := Op.pick (Operand.tmp 152) (Operand.tmp 159) (Operand.const (Value.bool false)), type := 4, pos := "law.go:68", after := #[{ on := 18, ground := Ground.data }, { on := 25, ground := Ground.data }], guard := none }) (v := ?_) rfl (by as_aux_lemma => kernel_rfl) (by as_aux_lemma => kernel_rfl) (by as_aux_lemma => kernel_rfl) (fun _ _ _ h => h) (Or.inl ⟨by rfl, ?_⟩) (by assumption) ?_
          rotate_left
          · intro wq hSw
            go_simp
            try with_reducible rfl
          simp only [Act.put, List.setIfInBounds_toArray, List.set_cons_zero, List.set_cons_succ]
          refine wpAnyH_take (i := 27) (oi := { dst := some 161, op := Op.move (Operand.tmp 160), type := 4, pos := "law.go:68", after := #[{ on := 26, ground := Ground.data }, { on := 24, ground := Ground.chain }], guard := none }) (v := ?_) rfl (by as_aux_lemma => kernel_rfl) (by as_aux_lemma => kernel_rfl) (by as_aux_lemma => kernel_rfl) (fun _ _ _ h => h) (Or.inl ⟨by rfl, ?_⟩) (by assumption) ?_
          rotate_left
          · intro wq hSw
            go_simp
            try with_reducible rfl
          simp only [Act.put, List.setIfInBounds_toArray, List.set_cons_zero, List.set_cons_succ]
          refine wpAnyH_take (i := 28) (oi := { dst := some 162, op := Op.indexAddr 43 (Operand.tmp 22) (Operand.const (Value.int IntKind.i64 1)), type := 0, pos := "law.go:68", after := #[{ on := 27, ground := Ground.guard }], guard := some (27, true) }) (v := ?_) rfl (by as_aux_lemma => kernel_rfl) (by as_aux_lemma => kernel_rfl) (by as_aux_lemma => kernel_rfl) (fun _ _ _ h => h) (Or.inl ⟨by rfl, ?_⟩) (by assumption) ?_
          rotate_left
          · intro wq hSw
            go_simp
            try with_reducible rfl
          simp only [Act.put, List.setIfInBounds_toArray, List.set_cons_zero, List.set_cons_succ]
          refine wpAnyH_take (i := 29) (oi := { dst := some 163, op := Op.load 39 (Operand.tmp 162), type := 39, pos := "law.go:68", after := #[{ on := 28, ground := Ground.data }, { on := 27, ground := Ground.guard }], guard := some (27, true) }) (v := ?_) rfl (by as_aux_lemma => kernel_rfl) (by as_aux_lemma => kernel_rfl) (by as_aux_lemma => kernel_rfl) (fun _ _ _ h => h) (Or.inl ⟨by rfl, ?_⟩) (by assumption) ?_
          rotate_left
          · intro wq hSw
            have h0 := hSw.1.cell 3 _ rfl; have h1 := hSw.1.cell 4 _ rfl; have h2 := hSw.1.cell 5 _ rfl
            go_simp
            try with_reducible rfl
          simp only [Act.put, List.setIfInBounds_toArray, List.set_cons_zero, List.set_cons_succ]
          refine wpAnyH_take (i := 30) (oi := { dst := some 164, op := Op.load 23 (Operand.tmp 5), type := 23, pos := "law.go:68", after := #[{ on := 27, ground := Ground.guard }], guard := some (27, true) }) (v := ?_) rfl (by as_aux_lemma => kernel_rfl) (by as_aux_lemma => kernel_rfl) (by as_aux_lemma => kernel_rfl) (fun _ _ _ h => h) (Or.inl ⟨by rfl, ?_⟩) (by assumption) ?_
          rotate_left
          · intro wq hSw
            have h0 := hSw.2.1.cell 0 _ rfl; have h1 := hSw.2.1.cell 1 _ rfl; have h2 := hSw.2.1.cell 2 _ rfl; have h3 := hSw.2.1.cell 3 _ rfl; have h4 := hSw.2.1.cell 4 _ rfl; have h5 := hSw.2.1.cell 5 _ rfl; have h6 := hSw.2.1.cell 6 _ rfl
            go_simp
            try with_reducible rfl
          simp only [Act.put, List.setIfInBounds_toArray, List.set_cons_zero, List.set_cons_succ]
          refine wpAnyH_take (i := 31) (oi := { dst := some 165, op := Op.move (Operand.tmp 1), type := 24, pos := "law.go:68", after := #[{ on := 27, ground := Ground.guard }], guard := some (27, true) }) (v := ?_) rfl (by as_aux_lemma => kernel_rfl) (by as_aux_lemma => kernel_rfl) (by as_aux_lemma => kernel_rfl) (fun _ _ _ h => h) (Or.inl ⟨by rfl, ?_⟩) (by assumption) ?_
          rotate_left
          · intro wq hSw
            go_simp
            try with_reducible rfl
          simp only [Act.put, List.setIfInBounds_toArray, List.set_cons_zero, List.set_cons_succ]
          refine wpAnyH_take (i := 32) (oi := { dst := some 166, op := Op.move (Operand.tmp 4), type := 3, pos := "law.go:68", after := #[{ on := 27, ground := Ground.guard }], guard := some (27, true) }) (v := ?_) rfl (by as_aux_lemma => kernel_rfl) (by as_aux_lemma => kernel_rfl) (by as_aux_lemma => kernel_rfl) (fun _ _ _ h => h) (Or.inl ⟨by rfl, ?_⟩) (by assumption) ?_
          rotate_left
          · intro wq hSw
            go_simp
            try with_reducible rfl
          simp only [Act.put, List.setIfInBounds_toArray, List.set_cons_zero, List.set_cons_succ]
          refine wpAnyH_ready (rs := [33]) (by as_aux_lemma => kernel_rfl) (by simp) ?_
          refine AllReadyH.cons (o := { dst := some 167, op := Op.call { callee := Callee.value (Operand.func 13), args := #[Operand.tmp 164, Operand.tmp 165, Operand.tmp 166, Operand.const (Value.int IntKind.i64 1)], argTypes := #[23, 24, 3, 3] }, type := 38, pos := "law.go:68", after := #[{ on := 30, ground := Ground.data }, { on := 31, ground := Ground.data }, { on := 32, ground := Ground.data }, { on := 27, ground := Ground.chain }, { on := 27, ground := Ground.guard }], guard := some (27, true) }) rfl (fun K hK => ?_) AllReadyH.nil
          go_simp
          go_at_call 13
          refine (HS1.out _ hd2.2.2).mono ?_
          rintro ea3 wa3 ⟨rfl, hba⟩
          have hd3 : Bl w7.heap.size [.int .i64 X.p, .int .i64 X.q, .int .i64 X.k, .int .i64 Y.p, .int .i64 Y.q, .int .i64 Y.k] wa3 ∧ Bl w.heap.size [.int .i64 p, .int .i64 c, .int .i64 n, .int .i64 b, .int .i64 r, .int .i64 f, .int .i64 g] wa3 ∧ Below w.heap.size w wa3 := ⟨hd2.1.below hba, hd2.2.1.below hba, Below.step hd2.2.2 hba⟩
          refine hK.out _ _ hd3 (fun hHeld => ?_)
          clear hK K hba
          try simp only [Act.put, List.setIfInBounds_toArray, List.set_cons_zero, List.set_cons_succ]
          refine wpAnyH_take (i := 34) (oi := { dst := some 168, op := Op.binOp BinOp.eql 38 (Operand.tmp 163) (Operand.tmp 167) 38, type := 4, pos := "law.go:68", after := #[{ on := 29, ground := Ground.data }, { on := 33, ground := Ground.data }, { on := 27, ground := Ground.guard }], guard := some (27, true) }) (v := .bool true) rfl (by as_aux_lemma => kernel_rfl) (by as_aux_lemma => kernel_rfl) (by as_aux_lemma => kernel_rfl) (fun _ _ _ h => h) (Or.inl ⟨by rfl, ?_⟩) (by assumption) ?_
          · intro wq hSw
            have he := run_eql_lvl Y wq
            go_simp
            try with_reducible rfl
          simp only [Act.put, List.setIfInBounds_toArray, List.set_cons_zero, List.set_cons_succ]
          refine wpAnyH_take (i := 35) (oi := { dst := some 169, op := Op.pick (Operand.tmp 161) (Operand.tmp 168) (Operand.const (Value.bool false)), type := 4, pos := "law.go:68", after := #[{ on := 27, ground := Ground.data }, { on := 34, ground := Ground.data }], guard := none }) (v := ?_) rfl (by as_aux_lemma => kernel_rfl) (by as_aux_lemma => kernel_rfl) (by as_aux_lemma => kernel_rfl) (fun _ _ _ h => h) (Or.inl ⟨by rfl, ?_⟩) (by assumption) ?_
          rotate_left
          · intro wq hSw
            go_simp
            try with_reducible rfl
          simp only [Act.put, List.setIfInBounds_toArray, List.set_cons_zero, List.set_cons_succ]
          refine wpAnyH_take (i := 36) (oi := { dst := some 10, op := Op.assign (Operand.tmp 169), type := 4, pos := "law.go:68", after := #[{ on := 35, ground := Ground.data }, { on := 33, ground := Ground.chain }, { on := 0, ground := Ground.phase }, { on := 1, ground := Ground.phase }, { on := 2, ground := Ground.phase }, { on := 3, ground := Ground.phase }, { on := 4, ground := Ground.phase }, { on := 5, ground := Ground.phase }, { on := 6, ground := Ground.phase }, { on := 7, ground := Ground.phase }, { on := 8, ground := Ground.phase }, { on := 9, ground := Ground.phase }, { on := 10, ground := Ground.phase }, { on := 11, ground := Ground.phase }, { on := 12, ground := Ground.phase }, { on := 13, ground := Ground.phase }, { on := 14, ground := Ground.phase }, { on := 15, ground := Ground.phase }, { on := 16, ground := Ground.phase }, { on := 17, ground := Ground.phase }, { on := 18, ground := Ground.phase }, { on := 19, ground := Ground.phase }, { on := 20, ground := Ground.phase }, { on := 21, ground := Ground.phase }, { on := 22, ground := Ground.phase }, { on := 23, ground := Ground.phase }, { on := 24, ground := Ground.phase }, { on := 25, ground := Ground.phase }, { on := 26, ground := Ground.phase }, { on := 27, ground := Ground.phase }, { on := 28, ground := Ground.phase }, { on := 29, ground := Ground.phase }, { on := 30, ground := Ground.phase }, { on := 31, ground := Ground.phase }, { on := 32, ground := Ground.phase }, { on := 33, ground := Ground.phase }, { on := 34, ground := Ground.phase }, { on := 35, ground := Ground.phase }], guard := none }) (v := ?_) rfl (by as_aux_lemma => kernel_rfl) (by as_aux_lemma => kernel_rfl) (by as_aux_lemma => kernel_rfl) (fun _ _ _ h => h) (Or.inl ⟨by rfl, ?_⟩) (by assumption) ?_
          rotate_left
          · intro wq hSw
            go_simp
            try with_reducible rfl
          simp only [Act.put, List.setIfInBounds_toArray, List.set_cons_zero, List.set_cons_succ]
          refine wpAnyH_done (by as_aux_lemma => kernel_rfl) ?_ _
          go_wp2_with fail
          go_ret
          exact ⟨rfl, hd3.2.2⟩

set_option maxRecDepth 100000 in
set_option maxHeartbeats 16000000 in
theorem main1 (p c n b r f g : Int) (A : Option Addr) (ln cp : Nat) (gv : Nat → Ord) (nm si : Int) (w : World) (hp : 1 ≤ p ∧ p ≤ 6) (hc : 1 ≤ c ∧ c ≤ 4) (hn : 1 ≤ n ∧ n ≤ 3) (hb : 1 ≤ b ∧ b ≤ 4) (hr : 0 ≤ r ∧ r ≤ 4) (hf : 1 ≤ f ∧ f ≤ 4) (hg : 1 ≤ g ∧ g ≤ 15) (hl : ln ≤ 40) (hE : OrdsAt A ln gv w) (hF : Fine (lst ln gv)) : Calls Try.prog 3 #[.agg #[.int .i64 p, .int .i64 c, .int .i64 n, .int .i64 b, .int .i64 r, .int .i64 f, .int .i64 g], .slice A ln cp, .int .i64 nm, .int .i64 1, .int .i64 si] w fun e w' => e = .returned (.bool true) ∧ Below w.heap.size w w' := by
  have HM := Lib.hid (fun (W : World) (hW : Below w.heap.size w W) => made_ok p c n b r f g A ln cp gv W hp hc hn hb hr hf hg hl (hE.below hW) hF)
  have hlen : (lst ln gv).length ≤ 40 := by rw [lst_len]; exact hl
  have HSH := Lib.hid (fun (W : World) (base cap : Nat) (A : Option Addr) (i : Int) (h : W.ownsRow base 55 7 (.slice A (lst ln gv).length cap) (lst ln gv).length (ov (lst ln gv))) => shard_is p c n b r f g base cap A _ (lst ln gv) i W rfl h hlen hF hn hb)
  have HBE := Lib.hid (fun (W : World) (base cap : Nat) (A : Option Addr) (x : Int) (h : W.ownsRow base 55 7 (.slice A (lst ln gv).length cap) (lst ln gv).length (ov (lst ln gv))) => best_is p c n b r f g base cap A _ (lst ln gv) x 1 W rfl h hlen hF)
  have HLV := Lib.hid (fun (W : World) (base cap : Nat) (A : Option Addr) (x : Int) (h : W.ownsRow base 55 7 (.slice A (lst ln gv).length cap) (lst ln gv).length (ov (lst ln gv))) => levels_is p c n b r f g base cap A _ (lst ln gv) x 1 W rfl h hlen hF)
  have HSP := Lib.hid (fun (W : World) (base cap : Nat) (A : Option Addr) (x : Int) (h : W.ownsRow base 55 7 (.slice A (lst ln gv).length cap) (lst ln gv).length (ov (lst ln gv))) => spread_is p c n b r f g base cap A _ (lst ln gv) x W rfl h hlen hF)
  have HR1 := Lib.hid (fun (W : World) (hW : Below w.heap.size w W) => lvr_1 A ln cp gv nm W (hE.below hW) hl hF)
  have HR2 := Lib.hid (fun (W : World) (hW : Below w.heap.size w W) => lvr_0 A ln cp gv nm W (hE.below hW) hl hF)
  have HS0 := Lib.hid (fun (W : World) (hW : Below w.heap.size w W) => sh20_0 p c n b r f g A ln cp gv si W (hE.below hW) hl hF hn hb)
  have HS1 := Lib.hid (fun (W : World) (hW : Below w.heap.size w W) => sh20_1 p c n b r f g A ln cp gv si W (hE.below hW) hl hF hn hb)
  have HL1 := Lib.hid (refL_is (lst ln gv) nm 1 (by omega) hF)
  have HL2 := Lib.hid (refL_is (lst ln gv) nm 0 (by omega) hF)
  have HF := Lib.hid hF
  have HEN := Lib.hid hlen
  clear hp hc hn hb hr hf hg hl hE hF hlen
  obtain ⟨L, hL⟩ : ∃ L, L = refL (lst ln gv) nm 1 9999 := ⟨_, rfl⟩
  obtain ⟨Z, hZ⟩ : ∃ Z, Z = refL (lst ln gv) nm 0 9999 := ⟨_, rfl⟩
  rw [← hL] at HL1 HR1
  rw [← hZ] at HL2 HR2
  clear hL hZ
  go_enter Try.func3, Try.ntmps3
  go_wp2_with fail
  have b0 := Bl.new w [.int .i64 p, .int .i64 c, .int .i64 n, .int .i64 b, .int .i64 r, .int .i64 f, .int .i64 g] 23
  have g0 : Below w.heap.size w (w.alloc (.cells (List.toArray [.int .i64 p, .int .i64 c, .int .i64 n, .int .i64 b, .int .i64 r, .int .i64 f, .int .i64 g]) 23)) := by go_grown
  refine (HM.out _ g0).mono ?_
  rintro e1 w1 ⟨v, rfl, ho, hb1⟩
  obtain ⟨A2, c2, rfl⟩ := oshape ho
  have g1 : Below w1.heap.size w1 (w1.alloc (.cells (List.toArray [.int .i64 p, .int .i64 c, .int .i64 n, .int .i64 b, .int .i64 r, .int .i64 f, .int .i64 g, .slice A2 (lst ln gv).length c2]) 29)) := by go_grown
  have bB := Bl.new w1 [.int .i64 p, .int .i64 c, .int .i64 n, .int .i64 b, .int .i64 r, .int .i64 f, .int .i64 g, .slice A2 (lst ln gv).length c2] 29
  obtain ⟨BB, hBB⟩ : ∃ BB, BB = w1.heap.size := ⟨_, rfl⟩
  obtain ⟨W1, hW1⟩ : ∃ W1, W1 = w1.alloc (.cells (List.toArray [.int .i64 p, .int .i64 c, .int .i64 n, .int .i64 b, .int .i64 r, .int .i64 f, .int .i64 g, .slice A2 (lst ln gv).length c2]) 29) := ⟨_, rfl⟩
  have hS1 : SSt w W1 p c n b r f g BB (w.alloc (.cells (List.toArray [.int .i64 p, .int .i64 c, .int .i64 n, .int .i64 b, .int .i64 r, .int .i64 f, .int .i64 g]) 23)).heap.size A2 c2 (lst ln gv) := by
    rw [hW1, hBB]
    exact ⟨(b0.below hb1).below g1, bB, rkept ho g1, Below.step (Below.step g0 hb1) g1⟩
  have HBB := Lib.hid hBB
  have HW1 := Lib.hid hW1
  have HS := Lib.hid hS1
  have q0 := HS.out.bk.cell 0 _ rfl
  have q1 := HS.out.bk.cell 1 _ rfl
  have q2 := HS.out.bk.cell 2 _ rfl
  have q3 := HS.out.bk.cell 3 _ rfl
  have q4 := HS.out.bk.cell 4 _ rfl
  have q5 := HS.out.bk.cell 5 _ rfl
  have q6 := HS.out.bk.cell 6 _ rfl
  have q7 := HS.out.bk.cell 7 _ rfl
  clear b0 g0 hb1 g1 bB ho hBB hS1
  have hBBx := HBB.out
  rw [hW1, hBBx] at q0 q1 q2 q3 q4 q5 q6 q7
  clear hW1 hBBx
  go_wp2_with fail
  rw [← HW1.out, ← HBB.out]
  refine (HLV.out _ _ _ _ _ HS.out.row).mono ?_
  rintro e2 w2 ⟨v2, L', rfl, hl2, ho2, hlen2, hb2⟩
  have eL := hl2.unique HL1.out
  rw [eL] at ho2 hlen2
  clear eL
  obtain ⟨A3, c3, rfl⟩ := oshape ho2
  have HT2 := Lib.hid (HS.out.below hb2)
  have HO2 := Lib.hid ho2
  have HN2 := Lib.hid hlen2
  clear hl2 ho2 hlen2 hb2 q0 q1 q2 q3 q4 q5 q6 q7
  go_wp2_with fail
  refine (HR1.out _ HT2.out.bel).mono ?_
  rintro e3 w3 ⟨v3, rfl, ho3, hb3⟩
  obtain ⟨A4, c4, rfl⟩ := oshape ho3
  have HT3 := Lib.hid (HT2.out.below hb3)
  have HO3 := Lib.hid (And.intro (rkept HO2.out hb3) ho3)
  clear hb3 ho3
  have n40 : (L.length : Int) ≤ 40 := by have := HN2.out; omega
  have n00 : (0 : Int) ≤ (L.length : Int) := by omega
  have nne : ((L.length : Int) != (L.length : Int)) = false := by simp
  go_wp2_with fail
  go_loopw [55] (fun j wr => ∃ k : Nat, k ≤ L.length ∧ j = .int .i64 (k : Int) ∧ Hid (SSt w wr p c n b r f g BB (w.alloc (.cells (List.toArray [.int .i64 p, .int .i64 c, .int .i64 n, .int .i64 b, .int .i64 r, .int .i64 f, .int .i64 g]) 23)).heap.size A2 c2 (lst ln gv) ∧ wr.ownsRow W1.heap.size 39 3 (.slice A3 L.length c3) L.length (vv L) ∧ wr.ownsRow w2.heap.size 38 3 (.slice A4 L.length c4) L.length (vv L))) (fun j _ => L.length + 1 - (intOf j).toNat)
  case atStart => exact ⟨0, Nat.zero_le _, rfl, Lib.hid ⟨HT3.out, HO3.out⟩⟩
  case round =>
    clear HT3 HO3
    obtain ⟨k, hk, rfl, HR⟩ := hrel
    have k0 : (0 : Int) ≤ (k : Int) := by omega
    by_cases hlt : k < L.length
    · obtain ⟨g3, c5, hv3, _, _⟩ := own_some HR.out.2.1 (by omega)
      obtain ⟨g4, c6, hv4, _, _⟩ := own_some HR.out.2.2 (by omega)
      injection hv3 with e1 e2 e3
      injection hv4 with e4 e5 e6
      subst e1 e3 e4 e6
      clear e2 e5
      obtain ⟨x, hx⟩ : ∃ x, L[k]? = some x := ⟨L[k], List.getElem?_eq_getElem hlt⟩
      have d0 := vrow_cell (j := 0) HR.out.2.1 hx rfl (by omega) rfl
      have d1 := vrow_cell (j := 1) HR.out.2.1 hx rfl (by omega) rfl
      have d2 := vrow_cell (j := 2) HR.out.2.1 hx rfl (by omega) rfl
      have r0 := vrow_cell2 (j := 0) HR.out.2.2 hx rfl (by omega) rfl
      have r1 := vrow_cell2 (j := 1) HR.out.2.2 hx rfl (by omega) rfl
      have r2 := vrow_cell2 (j := 2) HR.out.2.2 hx rfl (by omega) rfl
      rw [Nat.add_zero] at d0 r0
      have h1 : (k : Int) < (L.length : Int) := by omega
      have HLT := Lib.hid hlt
      have hnl := fun wq => run_neq_lvl x wq
      clear hx hlt hk
      go_wp2_with fail
      go_quiet (fail)
      go_wp2_with fail
      go_roundw
      case rel => exact ⟨k + 1, HLT.out, by go_num, Lib.hid ⟨HR.out.1.below (dn _ _), rkept HR.out.2.1 (dn _ _), rkept HR.out.2.2 (dn _ _)⟩⟩
      case measure => have := HLT.out; simp [intOf]; omega
    · have hke : k = L.length := by omega
      subst hke
      have HR0 := HR
      clear HR hk hlt k0
      have q0 := HR0.out.1.bk.cell 0 _ rfl
      have q1 := HR0.out.1.bk.cell 1 _ rfl
      have q2 := HR0.out.1.bk.cell 2 _ rfl
      have q3 := HR0.out.1.bk.cell 3 _ rfl
      have q4 := HR0.out.1.bk.cell 4 _ rfl
      have q5 := HR0.out.1.bk.cell 5 _ rfl
      have q6 := HR0.out.1.bk.cell 6 _ rfl
      have q7 := HR0.out.1.bk.cell 7 _ rfl
      go_wp2_with fail
      refine (HBE.out _ _ _ _ _ HR0.out.1.row).mono ?_
      rintro e4 w4 ⟨L4, rfl, hl4, hb4⟩
      have eL := hl4.unique HL1.out
      rw [eL]
      have HT4 := Lib.hid (And.intro (HR0.out.1.below hb4) (rkept HR0.out.2.2 hb4))
      clear hl4 eL hb4 q0 q1 q2 q3 q4 q5 q6 q7 nne n00
      have hbx := HL1.out.bp_bd HF.out
      have hbz := HL2.out.bp_bd HF.out
      have HUL := Lib.hid (fun l (h : LvIs (lst ln gv) nm 1 l) => h.unique HL1.out)
      have HUZ := Lib.hid (fun l (h : LvIs (lst ln gv) nm 0 l) => h.unique HL2.out)
      clear HL1 HL2
      rcases L with _ | ⟨x, t⟩
      · rcases Z with _ | ⟨z, tz⟩
        · have ly : True := trivial
          clear hbx hbz
          simp only [bp, bk]
          go_wp2_with fail
          refine (HR2.out _ HT4.out.1.bel).mono ?_
          rintro e5 w5 ⟨v5, rfl, ho5, hb5⟩
          obtain ⟨A5, c8, rfl⟩ := oshape ho5
          have HT5 := Lib.hid (HT4.out.1.below hb5)
          clear ho5 hb5
          have q0 := HT5.out.bk.cell 0 _ rfl
          have q1 := HT5.out.bk.cell 1 _ rfl
          have q2 := HT5.out.bk.cell 2 _ rfl
          have q3 := HT5.out.bk.cell 3 _ rfl
          have q4 := HT5.out.bk.cell 4 _ rfl
          have q5 := HT5.out.bk.cell 5 _ rfl
          have q6 := HT5.out.bk.cell 6 _ rfl
          have q7 := HT5.out.bk.cell 7 _ rfl
          go_wp2_with fail
          refine (HSP.out _ _ _ _ _ HT5.out.row).mono ?_
          rintro e6 w6 ⟨l0, l1, rfl, h0, h1, hb6⟩
          have eL := HUL.out _ h1
          have eZ := HUZ.out _ h0
          rw [eL, eZ]
          have HT6 := Lib.hid (HT5.out.below hb6)
          have hsp : spv [] [] = 0 := by simp [spv, bk, bp]
          rw [hsp]
          simp only [bk, Bool.and_true, Bool.and_false, Bool.true_and, Bool.false_and]
          clear h0 h1 eL eZ hsp hb6 q0 q1 q2 q3 q4 q5 q6 q7
          have q0 := HT6.out.bk.cell 0 _ rfl
          have q1 := HT6.out.bk.cell 1 _ rfl
          have q2 := HT6.out.bk.cell 2 _ rfl
          have q3 := HT6.out.bk.cell 3 _ rfl
          have q4 := HT6.out.bk.cell 4 _ rfl
          have q5 := HT6.out.bk.cell 5 _ rfl
          have q6 := HT6.out.bk.cell 6 _ rfl
          have q7 := HT6.out.bk.cell 7 _ rfl
          go_wp2_with fail
          refine (HSH.out _ _ _ _ _ HT6.out.row).mono ?_
          rintro e7 w7 ⟨rfl, hb7⟩
          have HT7 := Lib.hid (HT6.out.below hb7)
          clear hb7 q0 q1 q2 q3 q4 q5 q6 q7
          obtain ⟨X, hX⟩ : ∃ X, X = shl 0 (fsh n b 0 si) (lst ln gv) := ⟨_, rfl⟩
          obtain ⟨Y, hY⟩ : ∃ Y, Y = shl 1 (fsh n b 1 si) (lst ln gv) := ⟨_, rfl⟩
          rw [← hX, ← hY]
          rw [← hX] at HS0
          rw [← hY] at HS1
          clear hX hY
          go_wp2_with fail
          have b22 := Bl.new w7 [.int .i64 X.p, .int .i64 X.q, .int .i64 X.k, .int .i64 Y.p, .int .i64 Y.q, .int .i64 Y.k] 43
          have g8 : Below w7.heap.size w7 (w7.alloc (.cells (List.toArray [.int .i64 X.p, .int .i64 X.q, .int .i64 X.k, .int .i64 Y.p, .int .i64 Y.q, .int .i64 Y.k]) 43)) := by go_grown
          have hd : Bl w7.heap.size [.int .i64 X.p, .int .i64 X.q, .int .i64 X.k, .int .i64 Y.p, .int .i64 Y.q, .int .i64 Y.k] (w7.alloc (.cells (List.toArray [.int .i64 X.p, .int .i64 X.q, .int .i64 X.k, .int .i64 Y.p, .int .i64 Y.q, .int .i64 Y.k]) 43)).drew ∧ Bl w.heap.size [.int .i64 p, .int .i64 c, .int .i64 n, .int .i64 b, .int .i64 r, .int .i64 f, .int .i64 g] (w7.alloc (.cells (List.toArray [.int .i64 X.p, .int .i64 X.q, .int .i64 X.k, .int .i64 Y.p, .int .i64 Y.q, .int .i64 Y.k]) 43)).drew ∧ Below w.heap.size w (w7.alloc (.cells (List.toArray [.int .i64 X.p, .int .i64 X.q, .int .i64 X.k, .int .i64 Y.p, .int .i64 Y.q, .int .i64 Y.k]) 43)).drew := ⟨b22, (HT7.out.below g8).cfg, (HT7.out.below g8).bel.drew⟩
          clear b22 g8
          refine wp_region_held_drew (S := fun w' => Bl w7.heap.size [.int .i64 X.p, .int .i64 X.q, .int .i64 X.k, .int .i64 Y.p, .int .i64 Y.q, .int .i64 Y.k] w' ∧ Bl w.heap.size [.int .i64 p, .int .i64 c, .int .i64 n, .int .i64 b, .int .i64 r, .int .i64 f, .int .i64 g] w' ∧ Below w.heap.size w w') (by kernel_rfl) hd (fun hHeld => ?_)
          refine wpAnyH_ready (rs := [0]) (by as_aux_lemma => kernel_rfl) (by simp) ?_
          refine AllReadyH.cons (o := { dst := some 134, op := Op.call { callee := Callee.value (Operand.func 7), args := #[], argTypes := #[] }, type := 4, pos := "law.go:68", after := #[], guard := none }) rfl (fun K hK => ?_) AllReadyH.nil
          go_simp
          go_at_call 7
          refine (awake_is _).mono ?_
          rintro ea1 wa1 ⟨rfl, hba⟩
          have hd1 : Bl w7.heap.size [.int .i64 X.p, .int .i64 X.q, .int .i64 X.k, .int .i64 Y.p, .int .i64 Y.q, .int .i64 Y.k] wa1 ∧ Bl w.heap.size [.int .i64 p, .int .i64 c, .int .i64 n, .int .i64 b, .int .i64 r, .int .i64 f, .int .i64 g] wa1 ∧ Below w.heap.size w wa1 := ⟨hd.1.below hba, hd.2.1.below hba, Below.step hd.2.2 hba⟩
          refine hK.out _ _ hd1 (fun hHeld => ?_)
          clear hK K hba
          try simp only [Act.put, List.setIfInBounds_toArray, List.set_cons_zero, List.set_cons_succ]
          refine wpAnyH_take (i := 1) (oi := { dst := some 135, op := Op.move (Operand.tmp 134), type := 4, pos := "law.go:68", after := #[{ on := 0, ground := Ground.data }, { on := 0, ground := Ground.chain }], guard := none }) (v := ?_) rfl (by as_aux_lemma => kernel_rfl) (by as_aux_lemma => kernel_rfl) (by as_aux_lemma => kernel_rfl) (fun _ _ _ h => h) (Or.inl ⟨by rfl, ?_⟩) (by assumption) ?_
          rotate_left
          · intro wq hSw
            go_simp
            try with_reducible rfl
          simp only [Act.put, List.setIfInBounds_toArray, List.set_cons_zero, List.set_cons_succ]
          refine wpAnyH_take (i := 2) (oi := { dst := some 136, op := Op.move (Operand.tmp 20), type := 3, pos := "law.go:68", after := #[{ on := 1, ground := Ground.guard }], guard := some (1, true) }) (v := ?_) rfl (by as_aux_lemma => kernel_rfl) (by as_aux_lemma => kernel_rfl) (by as_aux_lemma => kernel_rfl) (fun _ _ _ h => h) (Or.inl ⟨by rfl, ?_⟩) (by assumption) ?_
          rotate_left
          · intro wq hSw
            go_simp
            try with_reducible rfl
          simp only [Act.put, List.setIfInBounds_toArray, List.set_cons_zero, List.set_cons_succ]
          refine wpAnyH_take (i := 3) (oi := { dst := some 137, op := Op.move (Operand.tmp 19), type := 3, pos := "law.go:68", after := #[{ on := 1, ground := Ground.guard }], guard := some (1, true) }) (v := ?_) rfl (by as_aux_lemma => kernel_rfl) (by as_aux_lemma => kernel_rfl) (by as_aux_lemma => kernel_rfl) (fun _ _ _ h => h) (Or.inl ⟨by rfl, ?_⟩) (by assumption) ?_
          rotate_left
          · intro wq hSw
            go_simp
            try with_reducible rfl
          simp only [Act.put, List.setIfInBounds_toArray, List.set_cons_zero, List.set_cons_succ]
          refine wpAnyH_take (i := 4) (oi := { dst := some 138, op := Op.binOp BinOp.eql 3 (Operand.tmp 136) (Operand.tmp 137) 3, type := 4, pos := "law.go:68", after := #[{ on := 2, ground := Ground.data }, { on := 3, ground := Ground.data }, { on := 1, ground := Ground.guard }], guard := some (1, true) }) (v := .bool true) rfl (by as_aux_lemma => kernel_rfl) (by as_aux_lemma => kernel_rfl) (by as_aux_lemma => kernel_rfl) (fun _ _ _ h => h) (Or.inl ⟨by rfl, ?_⟩) (by assumption) ?_
          · intro wq hSw
            go_simp
            try with_reducible rfl
          simp only [Act.put, List.setIfInBounds_toArray, List.set_cons_zero, List.set_cons_succ]
          refine wpAnyH_take (i := 5) (oi := { dst := some 139, op := Op.pick (Operand.tmp 135) (Operand.tmp 138) (Operand.const (Value.bool false)), type := 4, pos := "law.go:68", after := #[{ on := 1, ground := Ground.data }, { on := 4, ground := Ground.data }], guard := none }) (v := ?_) rfl (by as_aux_lemma => kernel_rfl) (by as_aux_lemma => kernel_rfl) (by as_aux_lemma => kernel_rfl) (fun _ _ _ h => h) (Or.inl ⟨by rfl, ?_⟩) (by assumption) ?_
          rotate_left
          · intro wq hSw
            go_simp
            try with_reducible rfl
          simp only [Act.put, List.setIfInBounds_toArray, List.set_cons_zero, List.set_cons_succ]
          refine wpAnyH_take (i := 6) (oi := { dst := some 140, op := Op.move (Operand.tmp 139), type := 4, pos := "law.go:68", after := #[{ on := 5, ground := Ground.data }, { on := 1, ground := Ground.chain }], guard := none }) (v := ?_) rfl (by as_aux_lemma => kernel_rfl) (by as_aux_lemma => kernel_rfl) (by as_aux_lemma => kernel_rfl) (fun _ _ _ h => h) (Or.inl ⟨by rfl, ?_⟩) (by assumption) ?_
          rotate_left
          · intro wq hSw
            go_simp
            try with_reducible rfl
          simp only [Act.put, List.setIfInBounds_toArray, List.set_cons_zero, List.set_cons_succ]
          refine wpAnyH_take (i := 7) (oi := { dst := some 141, op := Op.move (Operand.tmp 21), type := 4, pos := "law.go:68", after := #[{ on := 6, ground := Ground.guard }], guard := some (6, true) }) (v := ?_) rfl (by as_aux_lemma => kernel_rfl) (by as_aux_lemma => kernel_rfl) (by as_aux_lemma => kernel_rfl) (fun _ _ _ h => h) (Or.inl ⟨by rfl, ?_⟩) (by assumption) ?_
          rotate_left
          · intro wq hSw
            go_simp
            try with_reducible rfl
          simp only [Act.put, List.setIfInBounds_toArray, List.set_cons_zero, List.set_cons_succ]
          refine wpAnyH_take (i := 8) (oi := { dst := some 142, op := Op.move (Operand.tmp 14), type := 35, pos := "law.go:68", after := #[{ on := 6, ground := Ground.guard }], guard := some (6, true) }) (v := ?_) rfl (by as_aux_lemma => kernel_rfl) (by as_aux_lemma => kernel_rfl) (by as_aux_lemma => kernel_rfl) (fun _ _ _ h => h) (Or.inl ⟨by rfl, ?_⟩) (by assumption) ?_
          rotate_left
          · intro wq hSw
            go_simp
            try with_reducible rfl
          simp only [Act.put, List.setIfInBounds_toArray, List.set_cons_zero, List.set_cons_succ]
          refine wpAnyH_take (i := 9) (oi := { dst := some 143, op := Op.call { callee := Callee.builtin Builtin.len, args := #[Operand.tmp 142], argTypes := #[35] }, type := 3, pos := "law.go:68", after := #[{ on := 8, ground := Ground.data }, { on := 6, ground := Ground.guard }], guard := some (6, true) }) (v := ?_) rfl (by as_aux_lemma => kernel_rfl) (by as_aux_lemma => kernel_rfl) (by as_aux_lemma => kernel_rfl) (fun _ _ _ h => h) (Or.inl ⟨by rfl, ?_⟩) (by assumption) ?_
          rotate_left
          · intro wq hSw
            go_simp
            try with_reducible rfl
          simp only [Act.put, List.setIfInBounds_toArray, List.set_cons_zero, List.set_cons_succ]
          refine wpAnyH_take (i := 10) (oi := { dst := some 144, op := Op.binOp BinOp.gtr 3 (Operand.tmp 143) (Operand.const (Value.int IntKind.i64 0)) 3, type := 4, pos := "law.go:68", after := #[{ on := 9, ground := Ground.data }, { on := 6, ground := Ground.guard }], guard := some (6, true) }) (v := .bool false) rfl (by as_aux_lemma => kernel_rfl) (by as_aux_lemma => kernel_rfl) (by as_aux_lemma => kernel_rfl) (fun _ _ _ h => h) (Or.inl ⟨by rfl, ?_⟩) (by assumption) ?_
          · intro wq hSw
            go_simp
            try with_reducible rfl
          simp only [Act.put, List.setIfInBounds_toArray, List.set_cons_zero, List.set_cons_succ]
          refine wpAnyH_take (i := 11) (oi := { dst := some 145, op := Op.move (Operand.tmp 144), type := 4, pos := "law.go:68", after := #[{ on := 10, ground := Ground.data }, { on := 6, ground := Ground.chain }, { on := 6, ground := Ground.guard }], guard := some (6, true) }) (v := ?_) rfl (by as_aux_lemma => kernel_rfl) (by as_aux_lemma => kernel_rfl) (by as_aux_lemma => kernel_rfl) (fun _ _ _ h => h) (Or.inl ⟨by rfl, ?_⟩) (by assumption) ?_
          rotate_left
          · intro wq hSw
            go_simp
            try with_reducible rfl
          simp only [Act.put, List.setIfInBounds_toArray, List.set_cons_zero, List.set_cons_succ]
          refine wpAnyH_take (i := 12) (oi := { dst := some 146, op := Op.move (Operand.tmp 18), type := 35, pos := "law.go:68", after := #[{ on := 11, ground := Ground.guard }], guard := some (11, true) }) (v := undef) rfl (by as_aux_lemma => kernel_rfl) (by as_aux_lemma => kernel_rfl) (by as_aux_lemma => kernel_rfl) (fun _ _ _ h => h) (Or.inr ⟨by rfl, rfl⟩) (by assumption) ?_
          simp only [Act.put, List.setIfInBounds_toArray, List.set_cons_zero, List.set_cons_succ]
          refine wpAnyH_take (i := 13) (oi := { dst := some 147, op := Op.call { callee := Callee.builtin Builtin.len, args := #[Operand.tmp 146], argTypes := #[35] }, type := 3, pos := "law.go:68", after := #[{ on := 12, ground := Ground.data }, { on := 11, ground := Ground.guard }], guard := some (11, true) }) (v := undef) rfl (by as_aux_lemma => kernel_rfl) (by as_aux_lemma => kernel_rfl) (by as_aux_lemma => kernel_rfl) (fun _ _ _ h => h) (Or.inr ⟨by rfl, rfl⟩) (by assumption) ?_
          simp only [Act.put, List.setIfInBounds_toArray, List.set_cons_zero, List.set_cons_succ]
          refine wpAnyH_take (i := 14) (oi := { dst := some 148, op := Op.binOp BinOp.gtr 3 (Operand.tmp 147) (Operand.const (Value.int IntKind.i64 0)) 3, type := 4, pos := "law.go:68", after := #[{ on := 13, ground := Ground.data }, { on := 11, ground := Ground.guard }], guard := some (11, true) }) (v := undef) rfl (by as_aux_lemma => kernel_rfl) (by as_aux_lemma => kernel_rfl) (by as_aux_lemma => kernel_rfl) (fun _ _ _ h => h) (Or.inr ⟨by rfl, rfl⟩) (by assumption) ?_
          simp only [Act.put, List.setIfInBounds_toArray, List.set_cons_zero, List.set_cons_succ]
          refine wpAnyH_take (i := 15) (oi := { dst := some 149, op := Op.pick (Operand.tmp 145) (Operand.tmp 148) (Operand.const (Value.bool false)), type := 4, pos := "law.go:68", after := #[{ on := 11, ground := Ground.data }, { on := 14, ground := Ground.data }, { on := 6, ground := Ground.guard }], guard := some (6, true) }) (v := ?_) rfl (by as_aux_lemma => kernel_rfl) (by as_aux_lemma => kernel_rfl) (by as_aux_lemma => kernel_rfl) (fun _ _ _ h => h) (Or.inl ⟨by rfl, ?_⟩) (by assumption) ?_
          rotate_left
          · intro wq hSw
            go_simp
            try with_reducible rfl
          simp only [Act.put, List.setIfInBounds_toArray, List.set_cons_zero, List.set_cons_succ]
          refine wpAnyH_take (i := 16) (oi := { dst := some 150, op := Op.binOp BinOp.eql 4 (Operand.tmp 141) (Operand.tmp 149) 4, type := 4, pos := "law.go:68", after := #[{ on := 7, ground := Ground.data }, { on := 15, ground := Ground.data }, { on := 6, ground := Ground.guard }], guard := some (6, true) }) (v := .bool true) rfl (by as_aux_lemma => kernel_rfl) (by as_aux_lemma => kernel_rfl) (by as_aux_lemma => kernel_rfl) (fun _ _ _ h => h) (Or.inl ⟨by rfl, ?_⟩) (by assumption) ?_
          · intro wq hSw
            go_simp
            try with_reducible rfl
          simp only [Act.put, List.setIfInBounds_toArray, List.set_cons_zero, List.set_cons_succ]
          refine wpAnyH_take (i := 17) (oi := { dst := some 151, op := Op.pick (Operand.tmp 140) (Operand.tmp 150) (Operand.const (Value.bool false)), type := 4, pos := "law.go:68", after := #[{ on := 6, ground := Ground.data }, { on := 16, ground := Ground.data }], guard := none }) (v := ?_) rfl (by as_aux_lemma => kernel_rfl) (by as_aux_lemma => kernel_rfl) (by as_aux_lemma => kernel_rfl) (fun _ _ _ h => h) (Or.inl ⟨by rfl, ?_⟩) (by assumption) ?_
          rotate_left
          · intro wq hSw
            go_simp
            try with_reducible rfl
          simp only [Act.put, List.setIfInBounds_toArray, List.set_cons_zero, List.set_cons_succ]
          refine wpAnyH_take (i := 18) (oi := { dst := some 152, op := Op.move (Operand.tmp 151), type := 4, pos := "law.go:68", after := #[{ on := 17, ground := Ground.data }, { on := 11, ground := Ground.chain }], guard := none }) (v := ?_) rfl (by as_aux_lemma => kernel_rfl) (by as_aux_lemma => kernel_rfl) (by as_aux_lemma => kernel_rfl) (fun _ _ _ h => h) (Or.inl ⟨by rfl, ?_⟩) (by assumption) ?_
          rotate_left
          · intro wq hSw
            go_simp
            try with_reducible rfl
          simp only [Act.put, List.setIfInBounds_toArray, List.set_cons_zero, List.set_cons_succ]
          refine wpAnyH_take (i := 19) (oi := { dst := some 153, op := Op.indexAddr 43 (Operand.tmp 22) (Operand.const (Value.int IntKind.i64 0)), type := 0, pos := "law.go:68", after := #[{ on := 18, ground := Ground.guard }], guard := some (18, true) }) (v := ?_) rfl (by as_aux_lemma => kernel_rfl) (by as_aux_lemma => kernel_rfl) (by as_aux_lemma => kernel_rfl) (fun _ _ _ h => h) (Or.inl ⟨by rfl, ?_⟩) (by assumption) ?_
          rotate_left
          · intro wq hSw
            go_simp
            try with_reducible rfl
          simp only [Act.put, List.setIfInBounds_toArray, List.set_cons_zero, List.set_cons_succ]
          refine wpAnyH_take (i := 20) (oi := { dst := some 154, op := Op.load 39 (Operand.tmp 153), type := 39, pos := "law.go:68", after := #[{ on := 19, ground := Ground.data }, { on := 18, ground := Ground.guard }], guard := some (18, true) }) (v := ?_) rfl (by as_aux_lemma => kernel_rfl) (by as_aux_lemma => kernel_rfl) (by as_aux_lemma => kernel_rfl) (fun _ _ _ h => h) (Or.inl ⟨by rfl, ?_⟩) (by assumption) ?_
          rotate_left
          · intro wq hSw
            have h0 := hSw.1.cell 0 _ rfl; have h1 := hSw.1.cell 1 _ rfl; have h2 := hSw.1.cell 2 _ rfl
            go_simp
            try with_reducible rfl
          simp only [Act.put, List.setIfInBounds_toArray, List.set_cons_zero, List.set_cons_succ]
          refine wpAnyH_take (i := 21) (oi := { dst := some 155, op := Op.load 23 (Operand.tmp 5), type := 23, pos := "law.go:68", after := #[{ on := 18, ground := Ground.guard }], guard := some (18, true) }) (v := ?_) rfl (by as_aux_lemma => kernel_rfl) (by as_aux_lemma => kernel_rfl) (by as_aux_lemma => kernel_rfl) (fun _ _ _ h => h) (Or.inl ⟨by rfl, ?_⟩) (by assumption) ?_
          rotate_left
          · intro wq hSw
            have h0 := hSw.2.1.cell 0 _ rfl; have h1 := hSw.2.1.cell 1 _ rfl; have h2 := hSw.2.1.cell 2 _ rfl; have h3 := hSw.2.1.cell 3 _ rfl; have h4 := hSw.2.1.cell 4 _ rfl; have h5 := hSw.2.1.cell 5 _ rfl; have h6 := hSw.2.1.cell 6 _ rfl
            go_simp
            try with_reducible rfl
          simp only [Act.put, List.setIfInBounds_toArray, List.set_cons_zero, List.set_cons_succ]
          refine wpAnyH_take (i := 22) (oi := { dst := some 156, op := Op.move (Operand.tmp 1), type := 24, pos := "law.go:68", after := #[{ on := 18, ground := Ground.guard }], guard := some (18, true) }) (v := ?_) rfl (by as_aux_lemma => kernel_rfl) (by as_aux_lemma => kernel_rfl) (by as_aux_lemma => kernel_rfl) (fun _ _ _ h => h) (Or.inl ⟨by rfl, ?_⟩) (by assumption) ?_
          rotate_left
          · intro wq hSw
            go_simp
            try with_reducible rfl
          simp only [Act.put, List.setIfInBounds_toArray, List.set_cons_zero, List.set_cons_succ]
          refine wpAnyH_take (i := 23) (oi := { dst := some 157, op := Op.move (Operand.tmp 4), type := 3, pos := "law.go:68", after := #[{ on := 18, ground := Ground.guard }], guard := some (18, true) }) (v := ?_) rfl (by as_aux_lemma => kernel_rfl) (by as_aux_lemma => kernel_rfl) (by as_aux_lemma => kernel_rfl) (fun _ _ _ h => h) (Or.inl ⟨by rfl, ?_⟩) (by assumption) ?_
          rotate_left
          · intro wq hSw
            go_simp
            try with_reducible rfl
          simp only [Act.put, List.setIfInBounds_toArray, List.set_cons_zero, List.set_cons_succ]
          refine wpAnyH_ready (rs := [24]) (by as_aux_lemma => kernel_rfl) (by simp) ?_
          refine AllReadyH.cons (o := { dst := some 158, op := Op.call { callee := Callee.value (Operand.func 13), args := #[Operand.tmp 155, Operand.tmp 156, Operand.tmp 157, Operand.const (Value.int IntKind.i64 0)], argTypes := #[23, 24, 3, 3] }, type := 38, pos := "law.go:68", after := #[{ on := 21, ground := Ground.data }, { on := 22, ground := Ground.data }, { on := 23, ground := Ground.data }, { on := 18, ground := Ground.chain }, { on := 18, ground := Ground.guard }], guard := some (18, true) }) rfl (fun K hK => ?_) AllReadyH.nil
          go_simp
          go_at_call 13
          refine (HS0.out _ hd1.2.2).mono ?_
          rintro ea2 wa2 ⟨rfl, hba⟩
          have hd2 : Bl w7.heap.size [.int .i64 X.p, .int .i64 X.q, .int .i64 X.k, .int .i64 Y.p, .int .i64 Y.q, .int .i64 Y.k] wa2 ∧ Bl w.heap.size [.int .i64 p, .int .i64 c, .int .i64 n, .int .i64 b, .int .i64 r, .int .i64 f, .int .i64 g] wa2 ∧ Below w.heap.size w wa2 := ⟨hd1.1.below hba, hd1.2.1.below hba, Below.step hd1.2.2 hba⟩
          refine hK.out _ _ hd2 (fun hHeld => ?_)
          clear hK K hba
          try simp only [Act.put, List.setIfInBounds_toArray, List.set_cons_zero, List.set_cons_succ]
          refine wpAnyH_take (i := 25) (oi := { dst := some 159, op := Op.binOp BinOp.eql 38 (Operand.tmp 154) (Operand.tmp 158) 38, type := 4, pos := "law.go:68", after := #[{ on := 20, ground := Ground.data }, { on := 24, ground := Ground.data }, { on := 18, ground := Ground.guard }], guard := some (18, true) }) (v := .bool true) rfl (by as_aux_lemma => kernel_rfl) (by as_aux_lemma => kernel_rfl) (by as_aux_lemma => kernel_rfl) (fun _ _ _ h => h) (Or.inl ⟨by rfl, ?_⟩) (by assumption) ?_
          · intro wq hSw
            have he := run_eql_lvl X wq
            go_simp
            try with_reducible rfl
          simp only [Act.put, List.setIfInBounds_toArray, List.set_cons_zero, List.set_cons_succ]
          refine wpAnyH_take (i := 26) (oi := { dst := some 160, op := Op.pick (Operand.tmp 152) (Operand.tmp 159) (Operand.const (Value.bool false)), type := 4, pos := "law.go:68", after := #[{ on := 18, ground := Ground.data }, { on := 25, ground := Ground.data }], guard := none }) (v := ?_) rfl (by as_aux_lemma => kernel_rfl) (by as_aux_lemma => kernel_rfl) (by as_aux_lemma => kernel_rfl) (fun _ _ _ h => h) (Or.inl ⟨by rfl, ?_⟩) (by assumption) ?_
          rotate_left
          · intro wq hSw
            go_simp
            try with_reducible rfl
          simp only [Act.put, List.setIfInBounds_toArray, List.set_cons_zero, List.set_cons_succ]
          refine wpAnyH_take (i := 27) (oi := { dst := some 161, op := Op.move (Operand.tmp 160), type := 4, pos := "law.go:68", after := #[{ on := 26, ground := Ground.data }, { on := 24, ground := Ground.chain }], guard := none }) (v := ?_) rfl (by as_aux_lemma => kernel_rfl) (by as_aux_lemma => kernel_rfl) (by as_aux_lemma => kernel_rfl) (fun _ _ _ h => h) (Or.inl ⟨by rfl, ?_⟩) (by assumption) ?_
          rotate_left
          · intro wq hSw
            go_simp
            try with_reducible rfl
          simp only [Act.put, List.setIfInBounds_toArray, List.set_cons_zero, List.set_cons_succ]
          refine wpAnyH_take (i := 28) (oi := { dst := some 162, op := Op.indexAddr 43 (Operand.tmp 22) (Operand.const (Value.int IntKind.i64 1)), type := 0, pos := "law.go:68", after := #[{ on := 27, ground := Ground.guard }], guard := some (27, true) }) (v := ?_) rfl (by as_aux_lemma => kernel_rfl) (by as_aux_lemma => kernel_rfl) (by as_aux_lemma => kernel_rfl) (fun _ _ _ h => h) (Or.inl ⟨by rfl, ?_⟩) (by assumption) ?_
          rotate_left
          · intro wq hSw
            go_simp
            try with_reducible rfl
          simp only [Act.put, List.setIfInBounds_toArray, List.set_cons_zero, List.set_cons_succ]
          refine wpAnyH_take (i := 29) (oi := { dst := some 163, op := Op.load 39 (Operand.tmp 162), type := 39, pos := "law.go:68", after := #[{ on := 28, ground := Ground.data }, { on := 27, ground := Ground.guard }], guard := some (27, true) }) (v := ?_) rfl (by as_aux_lemma => kernel_rfl) (by as_aux_lemma => kernel_rfl) (by as_aux_lemma => kernel_rfl) (fun _ _ _ h => h) (Or.inl ⟨by rfl, ?_⟩) (by assumption) ?_
          rotate_left
          · intro wq hSw
            have h0 := hSw.1.cell 3 _ rfl; have h1 := hSw.1.cell 4 _ rfl; have h2 := hSw.1.cell 5 _ rfl
            go_simp
            try with_reducible rfl
          simp only [Act.put, List.setIfInBounds_toArray, List.set_cons_zero, List.set_cons_succ]
          refine wpAnyH_take (i := 30) (oi := { dst := some 164, op := Op.load 23 (Operand.tmp 5), type := 23, pos := "law.go:68", after := #[{ on := 27, ground := Ground.guard }], guard := some (27, true) }) (v := ?_) rfl (by as_aux_lemma => kernel_rfl) (by as_aux_lemma => kernel_rfl) (by as_aux_lemma => kernel_rfl) (fun _ _ _ h => h) (Or.inl ⟨by rfl, ?_⟩) (by assumption) ?_
          rotate_left
          · intro wq hSw
            have h0 := hSw.2.1.cell 0 _ rfl; have h1 := hSw.2.1.cell 1 _ rfl; have h2 := hSw.2.1.cell 2 _ rfl; have h3 := hSw.2.1.cell 3 _ rfl; have h4 := hSw.2.1.cell 4 _ rfl; have h5 := hSw.2.1.cell 5 _ rfl; have h6 := hSw.2.1.cell 6 _ rfl
            go_simp
            try with_reducible rfl
          simp only [Act.put, List.setIfInBounds_toArray, List.set_cons_zero, List.set_cons_succ]
          refine wpAnyH_take (i := 31) (oi := { dst := some 165, op := Op.move (Operand.tmp 1), type := 24, pos := "law.go:68", after := #[{ on := 27, ground := Ground.guard }], guard := some (27, true) }) (v := ?_) rfl (by as_aux_lemma => kernel_rfl) (by as_aux_lemma => kernel_rfl) (by as_aux_lemma => kernel_rfl) (fun _ _ _ h => h) (Or.inl ⟨by rfl, ?_⟩) (by assumption) ?_
          rotate_left
          · intro wq hSw
            go_simp
            try with_reducible rfl
          simp only [Act.put, List.setIfInBounds_toArray, List.set_cons_zero, List.set_cons_succ]
          refine wpAnyH_take (i := 32) (oi := { dst := some 166, op := Op.move (Operand.tmp 4), type := 3, pos := "law.go:68", after := #[{ on := 27, ground := Ground.guard }], guard := some (27, true) }) (v := ?_) rfl (by as_aux_lemma => kernel_rfl) (by as_aux_lemma => kernel_rfl) (by as_aux_lemma => kernel_rfl) (fun _ _ _ h => h) (Or.inl ⟨by rfl, ?_⟩) (by assumption) ?_
          rotate_left
          · intro wq hSw
            go_simp
            try with_reducible rfl
          simp only [Act.put, List.setIfInBounds_toArray, List.set_cons_zero, List.set_cons_succ]
          refine wpAnyH_ready (rs := [33]) (by as_aux_lemma => kernel_rfl) (by simp) ?_
          refine AllReadyH.cons (o := { dst := some 167, op := Op.call { callee := Callee.value (Operand.func 13), args := #[Operand.tmp 164, Operand.tmp 165, Operand.tmp 166, Operand.const (Value.int IntKind.i64 1)], argTypes := #[23, 24, 3, 3] }, type := 38, pos := "law.go:68", after := #[{ on := 30, ground := Ground.data }, { on := 31, ground := Ground.data }, { on := 32, ground := Ground.data }, { on := 27, ground := Ground.chain }, { on := 27, ground := Ground.guard }], guard := some (27, true) }) rfl (fun K hK => ?_) AllReadyH.nil
          go_simp
          go_at_call 13
          refine (HS1.out _ hd2.2.2).mono ?_
          rintro ea3 wa3 ⟨rfl, hba⟩
          have hd3 : Bl w7.heap.size [.int .i64 X.p, .int .i64 X.q, .int .i64 X.k, .int .i64 Y.p, .int .i64 Y.q, .int .i64 Y.k] wa3 ∧ Bl w.heap.size [.int .i64 p, .int .i64 c, .int .i64 n, .int .i64 b, .int .i64 r, .int .i64 f, .int .i64 g] wa3 ∧ Below w.heap.size w wa3 := ⟨hd2.1.below hba, hd2.2.1.below hba, Below.step hd2.2.2 hba⟩
          refine hK.out _ _ hd3 (fun hHeld => ?_)
          clear hK K hba
          try simp only [Act.put, List.setIfInBounds_toArray, List.set_cons_zero, List.set_cons_succ]
          refine wpAnyH_take (i := 34) (oi := { dst := some 168, op := Op.binOp BinOp.eql 38 (Operand.tmp 163) (Operand.tmp 167) 38, type := 4, pos := "law.go:68", after := #[{ on := 29, ground := Ground.data }, { on := 33, ground := Ground.data }, { on := 27, ground := Ground.guard }], guard := some (27, true) }) (v := .bool true) rfl (by as_aux_lemma => kernel_rfl) (by as_aux_lemma => kernel_rfl) (by as_aux_lemma => kernel_rfl) (fun _ _ _ h => h) (Or.inl ⟨by rfl, ?_⟩) (by assumption) ?_
          · intro wq hSw
            have he := run_eql_lvl Y wq
            go_simp
            try with_reducible rfl
          simp only [Act.put, List.setIfInBounds_toArray, List.set_cons_zero, List.set_cons_succ]
          refine wpAnyH_take (i := 35) (oi := { dst := some 169, op := Op.pick (Operand.tmp 161) (Operand.tmp 168) (Operand.const (Value.bool false)), type := 4, pos := "law.go:68", after := #[{ on := 27, ground := Ground.data }, { on := 34, ground := Ground.data }], guard := none }) (v := ?_) rfl (by as_aux_lemma => kernel_rfl) (by as_aux_lemma => kernel_rfl) (by as_aux_lemma => kernel_rfl) (fun _ _ _ h => h) (Or.inl ⟨by rfl, ?_⟩) (by assumption) ?_
          rotate_left
          · intro wq hSw
            go_simp
            try with_reducible rfl
          simp only [Act.put, List.setIfInBounds_toArray, List.set_cons_zero, List.set_cons_succ]
          refine wpAnyH_take (i := 36) (oi := { dst := some 10, op := Op.assign (Operand.tmp 169), type := 4, pos := "law.go:68", after := #[{ on := 35, ground := Ground.data }, { on := 33, ground := Ground.chain }, { on := 0, ground := Ground.phase }, { on := 1, ground := Ground.phase }, { on := 2, ground := Ground.phase }, { on := 3, ground := Ground.phase }, { on := 4, ground := Ground.phase }, { on := 5, ground := Ground.phase }, { on := 6, ground := Ground.phase }, { on := 7, ground := Ground.phase }, { on := 8, ground := Ground.phase }, { on := 9, ground := Ground.phase }, { on := 10, ground := Ground.phase }, { on := 11, ground := Ground.phase }, { on := 12, ground := Ground.phase }, { on := 13, ground := Ground.phase }, { on := 14, ground := Ground.phase }, { on := 15, ground := Ground.phase }, { on := 16, ground := Ground.phase }, { on := 17, ground := Ground.phase }, { on := 18, ground := Ground.phase }, { on := 19, ground := Ground.phase }, { on := 20, ground := Ground.phase }, { on := 21, ground := Ground.phase }, { on := 22, ground := Ground.phase }, { on := 23, ground := Ground.phase }, { on := 24, ground := Ground.phase }, { on := 25, ground := Ground.phase }, { on := 26, ground := Ground.phase }, { on := 27, ground := Ground.phase }, { on := 28, ground := Ground.phase }, { on := 29, ground := Ground.phase }, { on := 30, ground := Ground.phase }, { on := 31, ground := Ground.phase }, { on := 32, ground := Ground.phase }, { on := 33, ground := Ground.phase }, { on := 34, ground := Ground.phase }, { on := 35, ground := Ground.phase }], guard := none }) (v := ?_) rfl (by as_aux_lemma => kernel_rfl) (by as_aux_lemma => kernel_rfl) (by as_aux_lemma => kernel_rfl) (fun _ _ _ h => h) (Or.inl ⟨by rfl, ?_⟩) (by assumption) ?_
          rotate_left
          · intro wq hSw
            go_simp
            try with_reducible rfl
          simp only [Act.put, List.setIfInBounds_toArray, List.set_cons_zero, List.set_cons_succ]
          refine wpAnyH_done (by as_aux_lemma => kernel_rfl) ?_ _
          go_wp2_with fail
          go_ret
          exact ⟨rfl, hd3.2.2⟩

        · have ly : True := trivial
          have hz1 : 0 ≤ z.p := hbz.1
          have hz2 : z.p ≤ 9999 := hbz.2
          clear hbx hbz
          simp only [bp, bk]
          go_wp2_with fail
          refine (HR2.out _ HT4.out.1.bel).mono ?_
          rintro e5 w5 ⟨v5, rfl, ho5, hb5⟩
          obtain ⟨g5, c8, rfl, _, _⟩ := own_some ho5 (by simp)
          have zc : w5.cell? ⟨g5, 0, none⟩ = some (.int .i64 z.p) := vrow_cell2 (k := 0) (j := 0) ho5 (x := z) rfl (by simp) (by omega) rfl
          have lz : (0 : Int) < ((z :: tz).length : Int) := by simp
          have lz2 : 0 < (z :: tz).length := by simp
          have HT5 := Lib.hid (HT4.out.1.below hb5)
          clear ho5 hb5
          generalize (z :: tz).length = NZ at *
          have q0 := HT5.out.bk.cell 0 _ rfl
          have q1 := HT5.out.bk.cell 1 _ rfl
          have q2 := HT5.out.bk.cell 2 _ rfl
          have q3 := HT5.out.bk.cell 3 _ rfl
          have q4 := HT5.out.bk.cell 4 _ rfl
          have q5 := HT5.out.bk.cell 5 _ rfl
          have q6 := HT5.out.bk.cell 6 _ rfl
          have q7 := HT5.out.bk.cell 7 _ rfl
          go_wp2_with fail
          refine (HSP.out _ _ _ _ _ HT5.out.row).mono ?_
          rintro e6 w6 ⟨l0, l1, rfl, h0, h1, hb6⟩
          have eL := HUL.out _ h1
          have eZ := HUZ.out _ h0
          rw [eL, eZ]
          have HT6 := Lib.hid (HT5.out.below hb6)
          have hsp : spv (z :: tz) [] = 0 := by simp [spv, bk, bp]
          rw [hsp]
          simp only [bk, Bool.and_true, Bool.and_false, Bool.true_and, Bool.false_and]
          clear h0 h1 eL eZ hsp hb6 q0 q1 q2 q3 q4 q5 q6 q7
          have q0 := HT6.out.bk.cell 0 _ rfl
          have q1 := HT6.out.bk.cell 1 _ rfl
          have q2 := HT6.out.bk.cell 2 _ rfl
          have q3 := HT6.out.bk.cell 3 _ rfl
          have q4 := HT6.out.bk.cell 4 _ rfl
          have q5 := HT6.out.bk.cell 5 _ rfl
          have q6 := HT6.out.bk.cell 6 _ rfl
          have q7 := HT6.out.bk.cell 7 _ rfl
          go_wp2_with fail
          refine (HSH.out _ _ _ _ _ HT6.out.row).mono ?_
          rintro e7 w7 ⟨rfl, hb7⟩
          have HT7 := Lib.hid (HT6.out.below hb7)
          clear hb7 q0 q1 q2 q3 q4 q5 q6 q7
          obtain ⟨X, hX⟩ : ∃ X, X = shl 0 (fsh n b 0 si) (lst ln gv) := ⟨_, rfl⟩
          obtain ⟨Y, hY⟩ : ∃ Y, Y = shl 1 (fsh n b 1 si) (lst ln gv) := ⟨_, rfl⟩
          rw [← hX, ← hY]
          rw [← hX] at HS0
          rw [← hY] at HS1
          clear hX hY
          go_wp2_with fail
          have b22 := Bl.new w7 [.int .i64 X.p, .int .i64 X.q, .int .i64 X.k, .int .i64 Y.p, .int .i64 Y.q, .int .i64 Y.k] 43
          have g8 : Below w7.heap.size w7 (w7.alloc (.cells (List.toArray [.int .i64 X.p, .int .i64 X.q, .int .i64 X.k, .int .i64 Y.p, .int .i64 Y.q, .int .i64 Y.k]) 43)) := by go_grown
          have hd : Bl w7.heap.size [.int .i64 X.p, .int .i64 X.q, .int .i64 X.k, .int .i64 Y.p, .int .i64 Y.q, .int .i64 Y.k] (w7.alloc (.cells (List.toArray [.int .i64 X.p, .int .i64 X.q, .int .i64 X.k, .int .i64 Y.p, .int .i64 Y.q, .int .i64 Y.k]) 43)).drew ∧ Bl w.heap.size [.int .i64 p, .int .i64 c, .int .i64 n, .int .i64 b, .int .i64 r, .int .i64 f, .int .i64 g] (w7.alloc (.cells (List.toArray [.int .i64 X.p, .int .i64 X.q, .int .i64 X.k, .int .i64 Y.p, .int .i64 Y.q, .int .i64 Y.k]) 43)).drew ∧ Below w.heap.size w (w7.alloc (.cells (List.toArray [.int .i64 X.p, .int .i64 X.q, .int .i64 X.k, .int .i64 Y.p, .int .i64 Y.q, .int .i64 Y.k]) 43)).drew := ⟨b22, (HT7.out.below g8).cfg, (HT7.out.below g8).bel.drew⟩
          clear b22 g8
          refine wp_region_held_drew (S := fun w' => Bl w7.heap.size [.int .i64 X.p, .int .i64 X.q, .int .i64 X.k, .int .i64 Y.p, .int .i64 Y.q, .int .i64 Y.k] w' ∧ Bl w.heap.size [.int .i64 p, .int .i64 c, .int .i64 n, .int .i64 b, .int .i64 r, .int .i64 f, .int .i64 g] w' ∧ Below w.heap.size w w') (by kernel_rfl) hd (fun hHeld => ?_)
          refine wpAnyH_ready (rs := [0]) (by as_aux_lemma => kernel_rfl) (by simp) ?_
          refine AllReadyH.cons (o := { dst := some 134, op := Op.call { callee := Callee.value (Operand.func 7), args := #[], argTypes := #[] }, type := 4, pos := "law.go:68", after := #[], guard := none }) rfl (fun K hK => ?_) AllReadyH.nil
          go_simp
          go_at_call 7
          refine (awake_is _).mono ?_
          rintro ea1 wa1 ⟨rfl, hba⟩
          have hd1 : Bl w7.heap.size [.int .i64 X.p, .int .i64 X.q, .int .i64 X.k, .int .i64 Y.p, .int .i64 Y.q, .int .i64 Y.k] wa1 ∧ Bl w.heap.size [.int .i64 p, .int .i64 c, .int .i64 n, .int .i64 b, .int .i64 r, .int .i64 f, .int .i64 g] wa1 ∧ Below w.heap.size w wa1 := ⟨hd.1.below hba, hd.2.1.below hba, Below.step hd.2.2 hba⟩
          refine hK.out _ _ hd1 (fun hHeld => ?_)
          clear hK K hba
          try simp only [Act.put, List.setIfInBounds_toArray, List.set_cons_zero, List.set_cons_succ]
          refine wpAnyH_take (i := 1) (oi := { dst := some 135, op := Op.move (Operand.tmp 134), type := 4, pos := "law.go:68", after := #[{ on := 0, ground := Ground.data }, { on := 0, ground := Ground.chain }], guard := none }) (v := ?_) rfl (by as_aux_lemma => kernel_rfl) (by as_aux_lemma => kernel_rfl) (by as_aux_lemma => kernel_rfl) (fun _ _ _ h => h) (Or.inl ⟨by rfl, ?_⟩) (by assumption) ?_
          rotate_left
          · intro wq hSw
            go_simp
            try with_reducible rfl
          simp only [Act.put, List.setIfInBounds_toArray, List.set_cons_zero, List.set_cons_succ]
          refine wpAnyH_take (i := 2) (oi := { dst := some 136, op := Op.move (Operand.tmp 20), type := 3, pos := "law.go:68", after := #[{ on := 1, ground := Ground.guard }], guard := some (1, true) }) (v := ?_) rfl (by as_aux_lemma => kernel_rfl) (by as_aux_lemma => kernel_rfl) (by as_aux_lemma => kernel_rfl) (fun _ _ _ h => h) (Or.inl ⟨by rfl, ?_⟩) (by assumption) ?_
          rotate_left
          · intro wq hSw
            go_simp
            try with_reducible rfl
          simp only [Act.put, List.setIfInBounds_toArray, List.set_cons_zero, List.set_cons_succ]
          refine wpAnyH_take (i := 3) (oi := { dst := some 137, op := Op.move (Operand.tmp 19), type := 3, pos := "law.go:68", after := #[{ on := 1, ground := Ground.guard }], guard := some (1, true) }) (v := ?_) rfl (by as_aux_lemma => kernel_rfl) (by as_aux_lemma => kernel_rfl) (by as_aux_lemma => kernel_rfl) (fun _ _ _ h => h) (Or.inl ⟨by rfl, ?_⟩) (by assumption) ?_
          rotate_left
          · intro wq hSw
            go_simp
            try with_reducible rfl
          simp only [Act.put, List.setIfInBounds_toArray, List.set_cons_zero, List.set_cons_succ]
          refine wpAnyH_take (i := 4) (oi := { dst := some 138, op := Op.binOp BinOp.eql 3 (Operand.tmp 136) (Operand.tmp 137) 3, type := 4, pos := "law.go:68", after := #[{ on := 2, ground := Ground.data }, { on := 3, ground := Ground.data }, { on := 1, ground := Ground.guard }], guard := some (1, true) }) (v := .bool true) rfl (by as_aux_lemma => kernel_rfl) (by as_aux_lemma => kernel_rfl) (by as_aux_lemma => kernel_rfl) (fun _ _ _ h => h) (Or.inl ⟨by rfl, ?_⟩) (by assumption) ?_
          · intro wq hSw
            go_simp
            try with_reducible rfl
          simp only [Act.put, List.setIfInBounds_toArray, List.set_cons_zero, List.set_cons_succ]
          refine wpAnyH_take (i := 5) (oi := { dst := some 139, op := Op.pick (Operand.tmp 135) (Operand.tmp 138) (Operand.const (Value.bool false)), type := 4, pos := "law.go:68", after := #[{ on := 1, ground := Ground.data }, { on := 4, ground := Ground.data }], guard := none }) (v := ?_) rfl (by as_aux_lemma => kernel_rfl) (by as_aux_lemma => kernel_rfl) (by as_aux_lemma => kernel_rfl) (fun _ _ _ h => h) (Or.inl ⟨by rfl, ?_⟩) (by assumption) ?_
          rotate_left
          · intro wq hSw
            go_simp
            try with_reducible rfl
          simp only [Act.put, List.setIfInBounds_toArray, List.set_cons_zero, List.set_cons_succ]
          refine wpAnyH_take (i := 6) (oi := { dst := some 140, op := Op.move (Operand.tmp 139), type := 4, pos := "law.go:68", after := #[{ on := 5, ground := Ground.data }, { on := 1, ground := Ground.chain }], guard := none }) (v := ?_) rfl (by as_aux_lemma => kernel_rfl) (by as_aux_lemma => kernel_rfl) (by as_aux_lemma => kernel_rfl) (fun _ _ _ h => h) (Or.inl ⟨by rfl, ?_⟩) (by assumption) ?_
          rotate_left
          · intro wq hSw
            go_simp
            try with_reducible rfl
          simp only [Act.put, List.setIfInBounds_toArray, List.set_cons_zero, List.set_cons_succ]
          refine wpAnyH_take (i := 7) (oi := { dst := some 141, op := Op.move (Operand.tmp 21), type := 4, pos := "law.go:68", after := #[{ on := 6, ground := Ground.guard }], guard := some (6, true) }) (v := ?_) rfl (by as_aux_lemma => kernel_rfl) (by as_aux_lemma => kernel_rfl) (by as_aux_lemma => kernel_rfl) (fun _ _ _ h => h) (Or.inl ⟨by rfl, ?_⟩) (by assumption) ?_
          rotate_left
          · intro wq hSw
            go_simp
            try with_reducible rfl
          simp only [Act.put, List.setIfInBounds_toArray, List.set_cons_zero, List.set_cons_succ]
          refine wpAnyH_take (i := 8) (oi := { dst := some 142, op := Op.move (Operand.tmp 14), type := 35, pos := "law.go:68", after := #[{ on := 6, ground := Ground.guard }], guard := some (6, true) }) (v := ?_) rfl (by as_aux_lemma => kernel_rfl) (by as_aux_lemma => kernel_rfl) (by as_aux_lemma => kernel_rfl) (fun _ _ _ h => h) (Or.inl ⟨by rfl, ?_⟩) (by assumption) ?_
          rotate_left
          · intro wq hSw
            go_simp
            try with_reducible rfl
          simp only [Act.put, List.setIfInBounds_toArray, List.set_cons_zero, List.set_cons_succ]
          refine wpAnyH_take (i := 9) (oi := { dst := some 143, op := Op.call { callee := Callee.builtin Builtin.len, args := #[Operand.tmp 142], argTypes := #[35] }, type := 3, pos := "law.go:68", after := #[{ on := 8, ground := Ground.data }, { on := 6, ground := Ground.guard }], guard := some (6, true) }) (v := ?_) rfl (by as_aux_lemma => kernel_rfl) (by as_aux_lemma => kernel_rfl) (by as_aux_lemma => kernel_rfl) (fun _ _ _ h => h) (Or.inl ⟨by rfl, ?_⟩) (by assumption) ?_
          rotate_left
          · intro wq hSw
            go_simp
            try with_reducible rfl
          simp only [Act.put, List.setIfInBounds_toArray, List.set_cons_zero, List.set_cons_succ]
          refine wpAnyH_take (i := 10) (oi := { dst := some 144, op := Op.binOp BinOp.gtr 3 (Operand.tmp 143) (Operand.const (Value.int IntKind.i64 0)) 3, type := 4, pos := "law.go:68", after := #[{ on := 9, ground := Ground.data }, { on := 6, ground := Ground.guard }], guard := some (6, true) }) (v := .bool false) rfl (by as_aux_lemma => kernel_rfl) (by as_aux_lemma => kernel_rfl) (by as_aux_lemma => kernel_rfl) (fun _ _ _ h => h) (Or.inl ⟨by rfl, ?_⟩) (by assumption) ?_
          · intro wq hSw
            go_simp
            try with_reducible rfl
          simp only [Act.put, List.setIfInBounds_toArray, List.set_cons_zero, List.set_cons_succ]
          refine wpAnyH_take (i := 11) (oi := { dst := some 145, op := Op.move (Operand.tmp 144), type := 4, pos := "law.go:68", after := #[{ on := 10, ground := Ground.data }, { on := 6, ground := Ground.chain }, { on := 6, ground := Ground.guard }], guard := some (6, true) }) (v := ?_) rfl (by as_aux_lemma => kernel_rfl) (by as_aux_lemma => kernel_rfl) (by as_aux_lemma => kernel_rfl) (fun _ _ _ h => h) (Or.inl ⟨by rfl, ?_⟩) (by assumption) ?_
          rotate_left
          · intro wq hSw
            go_simp
            try with_reducible rfl
          simp only [Act.put, List.setIfInBounds_toArray, List.set_cons_zero, List.set_cons_succ]
          refine wpAnyH_take (i := 12) (oi := { dst := some 146, op := Op.move (Operand.tmp 18), type := 35, pos := "law.go:68", after := #[{ on := 11, ground := Ground.guard }], guard := some (11, true) }) (v := undef) rfl (by as_aux_lemma => kernel_rfl) (by as_aux_lemma => kernel_rfl) (by as_aux_lemma => kernel_rfl) (fun _ _ _ h => h) (Or.inr ⟨by rfl, rfl⟩) (by assumption) ?_
          simp only [Act.put, List.setIfInBounds_toArray, List.set_cons_zero, List.set_cons_succ]
          refine wpAnyH_take (i := 13) (oi := { dst := some 147, op := Op.call { callee := Callee.builtin Builtin.len, args := #[Operand.tmp 146], argTypes := #[35] }, type := 3, pos := "law.go:68", after := #[{ on := 12, ground := Ground.data }, { on := 11, ground := Ground.guard }], guard := some (11, true) }) (v := undef) rfl (by as_aux_lemma => kernel_rfl) (by as_aux_lemma => kernel_rfl) (by as_aux_lemma => kernel_rfl) (fun _ _ _ h => h) (Or.inr ⟨by rfl, rfl⟩) (by assumption) ?_
          simp only [Act.put, List.setIfInBounds_toArray, List.set_cons_zero, List.set_cons_succ]
          refine wpAnyH_take (i := 14) (oi := { dst := some 148, op := Op.binOp BinOp.gtr 3 (Operand.tmp 147) (Operand.const (Value.int IntKind.i64 0)) 3, type := 4, pos := "law.go:68", after := #[{ on := 13, ground := Ground.data }, { on := 11, ground := Ground.guard }], guard := some (11, true) }) (v := undef) rfl (by as_aux_lemma => kernel_rfl) (by as_aux_lemma => kernel_rfl) (by as_aux_lemma => kernel_rfl) (fun _ _ _ h => h) (Or.inr ⟨by rfl, rfl⟩) (by assumption) ?_
          simp only [Act.put, List.setIfInBounds_toArray, List.set_cons_zero, List.set_cons_succ]
          refine wpAnyH_take (i := 15) (oi := { dst := some 149, op := Op.pick (Operand.tmp 145) (Operand.tmp 148) (Operand.const (Value.bool false)), type := 4, pos := "law.go:68", after := #[{ on := 11, ground := Ground.data }, { on := 14, ground := Ground.data }, { on := 6, ground := Ground.guard }], guard := some (6, true) }) (v := ?_) rfl (by as_aux_lemma => kernel_rfl) (by as_aux_lemma => kernel_rfl) (by as_aux_lemma => kernel_rfl) (fun _ _ _ h => h) (Or.inl ⟨by rfl, ?_⟩) (by assumption) ?_
          rotate_left
          · intro wq hSw
            go_simp
            try with_reducible rfl
          simp only [Act.put, List.setIfInBounds_toArray, List.set_cons_zero, List.set_cons_succ]
          refine wpAnyH_take (i := 16) (oi := { dst := some 150, op := Op.binOp BinOp.eql 4 (Operand.tmp 141) (Operand.tmp 149) 4, type := 4, pos := "law.go:68", after := #[{ on := 7, ground := Ground.data }, { on := 15, ground := Ground.data }, { on := 6, ground := Ground.guard }], guard := some (6, true) }) (v := .bool true) rfl (by as_aux_lemma => kernel_rfl) (by as_aux_lemma => kernel_rfl) (by as_aux_lemma => kernel_rfl) (fun _ _ _ h => h) (Or.inl ⟨by rfl, ?_⟩) (by assumption) ?_
          · intro wq hSw
            go_simp
            try with_reducible rfl
          simp only [Act.put, List.setIfInBounds_toArray, List.set_cons_zero, List.set_cons_succ]
          refine wpAnyH_take (i := 17) (oi := { dst := some 151, op := Op.pick (Operand.tmp 140) (Operand.tmp 150) (Operand.const (Value.bool false)), type := 4, pos := "law.go:68", after := #[{ on := 6, ground := Ground.data }, { on := 16, ground := Ground.data }], guard := none }) (v := ?_) rfl (by as_aux_lemma => kernel_rfl) (by as_aux_lemma => kernel_rfl) (by as_aux_lemma => kernel_rfl) (fun _ _ _ h => h) (Or.inl ⟨by rfl, ?_⟩) (by assumption) ?_
          rotate_left
          · intro wq hSw
            go_simp
            try with_reducible rfl
          simp only [Act.put, List.setIfInBounds_toArray, List.set_cons_zero, List.set_cons_succ]
          refine wpAnyH_take (i := 18) (oi := { dst := some 152, op := Op.move (Operand.tmp 151), type := 4, pos := "law.go:68", after := #[{ on := 17, ground := Ground.data }, { on := 11, ground := Ground.chain }], guard := none }) (v := ?_) rfl (by as_aux_lemma => kernel_rfl) (by as_aux_lemma => kernel_rfl) (by as_aux_lemma => kernel_rfl) (fun _ _ _ h => h) (Or.inl ⟨by rfl, ?_⟩) (by assumption) ?_
          rotate_left
          · intro wq hSw
            go_simp
            try with_reducible rfl
          simp only [Act.put, List.setIfInBounds_toArray, List.set_cons_zero, List.set_cons_succ]
          refine wpAnyH_take (i := 19) (oi := { dst := some 153, op := Op.indexAddr 43 (Operand.tmp 22) (Operand.const (Value.int IntKind.i64 0)), type := 0, pos := "law.go:68", after := #[{ on := 18, ground := Ground.guard }], guard := some (18, true) }) (v := ?_) rfl (by as_aux_lemma => kernel_rfl) (by as_aux_lemma => kernel_rfl) (by as_aux_lemma => kernel_rfl) (fun _ _ _ h => h) (Or.inl ⟨by rfl, ?_⟩) (by assumption) ?_
          rotate_left
          · intro wq hSw
            go_simp
            try with_reducible rfl
          simp only [Act.put, List.setIfInBounds_toArray, List.set_cons_zero, List.set_cons_succ]
          refine wpAnyH_take (i := 20) (oi := { dst := some 154, op := Op.load 39 (Operand.tmp 153), type := 39, pos := "law.go:68", after := #[{ on := 19, ground := Ground.data }, { on := 18, ground := Ground.guard }], guard := some (18, true) }) (v := ?_) rfl (by as_aux_lemma => kernel_rfl) (by as_aux_lemma => kernel_rfl) (by as_aux_lemma => kernel_rfl) (fun _ _ _ h => h) (Or.inl ⟨by rfl, ?_⟩) (by assumption) ?_
          rotate_left
          · intro wq hSw
            have h0 := hSw.1.cell 0 _ rfl; have h1 := hSw.1.cell 1 _ rfl; have h2 := hSw.1.cell 2 _ rfl
            go_simp
            try with_reducible rfl
          simp only [Act.put, List.setIfInBounds_toArray, List.set_cons_zero, List.set_cons_succ]
          refine wpAnyH_take (i := 21) (oi := { dst := some 155, op := Op.load 23 (Operand.tmp 5), type := 23, pos := "law.go:68", after := #[{ on := 18, ground := Ground.guard }], guard := some (18, true) }) (v := ?_) rfl (by as_aux_lemma => kernel_rfl) (by as_aux_lemma => kernel_rfl) (by as_aux_lemma => kernel_rfl) (fun _ _ _ h => h) (Or.inl ⟨by rfl, ?_⟩) (by assumption) ?_
          rotate_left
          · intro wq hSw
            have h0 := hSw.2.1.cell 0 _ rfl; have h1 := hSw.2.1.cell 1 _ rfl; have h2 := hSw.2.1.cell 2 _ rfl; have h3 := hSw.2.1.cell 3 _ rfl; have h4 := hSw.2.1.cell 4 _ rfl; have h5 := hSw.2.1.cell 5 _ rfl; have h6 := hSw.2.1.cell 6 _ rfl
            go_simp
            try with_reducible rfl
          simp only [Act.put, List.setIfInBounds_toArray, List.set_cons_zero, List.set_cons_succ]
          refine wpAnyH_take (i := 22) (oi := { dst := some 156, op := Op.move (Operand.tmp 1), type := 24, pos := "law.go:68", after := #[{ on := 18, ground := Ground.guard }], guard := some (18, true) }) (v := ?_) rfl (by as_aux_lemma => kernel_rfl) (by as_aux_lemma => kernel_rfl) (by as_aux_lemma => kernel_rfl) (fun _ _ _ h => h) (Or.inl ⟨by rfl, ?_⟩) (by assumption) ?_
          rotate_left
          · intro wq hSw
            go_simp
            try with_reducible rfl
          simp only [Act.put, List.setIfInBounds_toArray, List.set_cons_zero, List.set_cons_succ]
          refine wpAnyH_take (i := 23) (oi := { dst := some 157, op := Op.move (Operand.tmp 4), type := 3, pos := "law.go:68", after := #[{ on := 18, ground := Ground.guard }], guard := some (18, true) }) (v := ?_) rfl (by as_aux_lemma => kernel_rfl) (by as_aux_lemma => kernel_rfl) (by as_aux_lemma => kernel_rfl) (fun _ _ _ h => h) (Or.inl ⟨by rfl, ?_⟩) (by assumption) ?_
          rotate_left
          · intro wq hSw
            go_simp
            try with_reducible rfl
          simp only [Act.put, List.setIfInBounds_toArray, List.set_cons_zero, List.set_cons_succ]
          refine wpAnyH_ready (rs := [24]) (by as_aux_lemma => kernel_rfl) (by simp) ?_
          refine AllReadyH.cons (o := { dst := some 158, op := Op.call { callee := Callee.value (Operand.func 13), args := #[Operand.tmp 155, Operand.tmp 156, Operand.tmp 157, Operand.const (Value.int IntKind.i64 0)], argTypes := #[23, 24, 3, 3] }, type := 38, pos := "law.go:68", after := #[{ on := 21, ground := Ground.data }, { on := 22, ground := Ground.data }, { on := 23, ground := Ground.data }, { on := 18, ground := Ground.chain }, { on := 18, ground := Ground.guard }], guard := some (18, true) }) rfl (fun K hK => ?_) AllReadyH.nil
          go_simp
          go_at_call 13
          refine (HS0.out _ hd1.2.2).mono ?_
          rintro ea2 wa2 ⟨rfl, hba⟩
          have hd2 : Bl w7.heap.size [.int .i64 X.p, .int .i64 X.q, .int .i64 X.k, .int .i64 Y.p, .int .i64 Y.q, .int .i64 Y.k] wa2 ∧ Bl w.heap.size [.int .i64 p, .int .i64 c, .int .i64 n, .int .i64 b, .int .i64 r, .int .i64 f, .int .i64 g] wa2 ∧ Below w.heap.size w wa2 := ⟨hd1.1.below hba, hd1.2.1.below hba, Below.step hd1.2.2 hba⟩
          refine hK.out _ _ hd2 (fun hHeld => ?_)
          clear hK K hba
          try simp only [Act.put, List.setIfInBounds_toArray, List.set_cons_zero, List.set_cons_succ]
          refine wpAnyH_take (i := 25) (oi := { dst := some 159, op := Op.binOp BinOp.eql 38 (Operand.tmp 154) (Operand.tmp 158) 38, type := 4, pos := "law.go:68", after := #[{ on := 20, ground := Ground.data }, { on := 24, ground := Ground.data }, { on := 18, ground := Ground.guard }], guard := some (18, true) }) (v := .bool true) rfl (by as_aux_lemma => kernel_rfl) (by as_aux_lemma => kernel_rfl) (by as_aux_lemma => kernel_rfl) (fun _ _ _ h => h) (Or.inl ⟨by rfl, ?_⟩) (by assumption) ?_
          · intro wq hSw
            have he := run_eql_lvl X wq
            go_simp
            try with_reducible rfl
          simp only [Act.put, List.setIfInBounds_toArray, List.set_cons_zero, List.set_cons_succ]
          refine wpAnyH_take (i := 26) (oi := { dst := some 160, op := Op.pick (Operand.tmp 152) (Operand.tmp 159) (Operand.const (Value.bool false)), type := 4, pos := "law.go:68", after := #[{ on := 18, ground := Ground.data }, { on := 25, ground := Ground.data }], guard := none }) (v := ?_) rfl (by as_aux_lemma => kernel_rfl) (by as_aux_lemma => kernel_rfl) (by as_aux_lemma => kernel_rfl) (fun _ _ _ h => h) (Or.inl ⟨by rfl, ?_⟩) (by assumption) ?_
          rotate_left
          · intro wq hSw
            go_simp
            try with_reducible rfl
          simp only [Act.put, List.setIfInBounds_toArray, List.set_cons_zero, List.set_cons_succ]
          refine wpAnyH_take (i := 27) (oi := { dst := some 161, op := Op.move (Operand.tmp 160), type := 4, pos := "law.go:68", after := #[{ on := 26, ground := Ground.data }, { on := 24, ground := Ground.chain }], guard := none }) (v := ?_) rfl (by as_aux_lemma => kernel_rfl) (by as_aux_lemma => kernel_rfl) (by as_aux_lemma => kernel_rfl) (fun _ _ _ h => h) (Or.inl ⟨by rfl, ?_⟩) (by assumption) ?_
          rotate_left
          · intro wq hSw
            go_simp
            try with_reducible rfl
          simp only [Act.put, List.setIfInBounds_toArray, List.set_cons_zero, List.set_cons_succ]
          refine wpAnyH_take (i := 28) (oi := { dst := some 162, op := Op.indexAddr 43 (Operand.tmp 22) (Operand.const (Value.int IntKind.i64 1)), type := 0, pos := "law.go:68", after := #[{ on := 27, ground := Ground.guard }], guard := some (27, true) }) (v := ?_) rfl (by as_aux_lemma => kernel_rfl) (by as_aux_lemma => kernel_rfl) (by as_aux_lemma => kernel_rfl) (fun _ _ _ h => h) (Or.inl ⟨by rfl, ?_⟩) (by assumption) ?_
          rotate_left
          · intro wq hSw
            go_simp
            try with_reducible rfl
          simp only [Act.put, List.setIfInBounds_toArray, List.set_cons_zero, List.set_cons_succ]
          refine wpAnyH_take (i := 29) (oi := { dst := some 163, op := Op.load 39 (Operand.tmp 162), type := 39, pos := "law.go:68", after := #[{ on := 28, ground := Ground.data }, { on := 27, ground := Ground.guard }], guard := some (27, true) }) (v := ?_) rfl (by as_aux_lemma => kernel_rfl) (by as_aux_lemma => kernel_rfl) (by as_aux_lemma => kernel_rfl) (fun _ _ _ h => h) (Or.inl ⟨by rfl, ?_⟩) (by assumption) ?_
          rotate_left
          · intro wq hSw
            have h0 := hSw.1.cell 3 _ rfl; have h1 := hSw.1.cell 4 _ rfl; have h2 := hSw.1.cell 5 _ rfl
            go_simp
            try with_reducible rfl
          simp only [Act.put, List.setIfInBounds_toArray, List.set_cons_zero, List.set_cons_succ]
          refine wpAnyH_take (i := 30) (oi := { dst := some 164, op := Op.load 23 (Operand.tmp 5), type := 23, pos := "law.go:68", after := #[{ on := 27, ground := Ground.guard }], guard := some (27, true) }) (v := ?_) rfl (by as_aux_lemma => kernel_rfl) (by as_aux_lemma => kernel_rfl) (by as_aux_lemma => kernel_rfl) (fun _ _ _ h => h) (Or.inl ⟨by rfl, ?_⟩) (by assumption) ?_
          rotate_left
          · intro wq hSw
            have h0 := hSw.2.1.cell 0 _ rfl; have h1 := hSw.2.1.cell 1 _ rfl; have h2 := hSw.2.1.cell 2 _ rfl; have h3 := hSw.2.1.cell 3 _ rfl; have h4 := hSw.2.1.cell 4 _ rfl; have h5 := hSw.2.1.cell 5 _ rfl; have h6 := hSw.2.1.cell 6 _ rfl
            go_simp
            try with_reducible rfl
          simp only [Act.put, List.setIfInBounds_toArray, List.set_cons_zero, List.set_cons_succ]
          refine wpAnyH_take (i := 31) (oi := { dst := some 165, op := Op.move (Operand.tmp 1), type := 24, pos := "law.go:68", after := #[{ on := 27, ground := Ground.guard }], guard := some (27, true) }) (v := ?_) rfl (by as_aux_lemma => kernel_rfl) (by as_aux_lemma => kernel_rfl) (by as_aux_lemma => kernel_rfl) (fun _ _ _ h => h) (Or.inl ⟨by rfl, ?_⟩) (by assumption) ?_
          rotate_left
          · intro wq hSw
            go_simp
            try with_reducible rfl
          simp only [Act.put, List.setIfInBounds_toArray, List.set_cons_zero, List.set_cons_succ]
          refine wpAnyH_take (i := 32) (oi := { dst := some 166, op := Op.move (Operand.tmp 4), type := 3, pos := "law.go:68", after := #[{ on := 27, ground := Ground.guard }], guard := some (27, true) }) (v := ?_) rfl (by as_aux_lemma => kernel_rfl) (by as_aux_lemma => kernel_rfl) (by as_aux_lemma => kernel_rfl) (fun _ _ _ h => h) (Or.inl ⟨by rfl, ?_⟩) (by assumption) ?_
          rotate_left
          · intro wq hSw
            go_simp
            try with_reducible rfl
          simp only [Act.put, List.setIfInBounds_toArray, List.set_cons_zero, List.set_cons_succ]
          refine wpAnyH_ready (rs := [33]) (by as_aux_lemma => kernel_rfl) (by simp) ?_
          refine AllReadyH.cons (o := { dst := some 167, op := Op.call { callee := Callee.value (Operand.func 13), args := #[Operand.tmp 164, Operand.tmp 165, Operand.tmp 166, Operand.const (Value.int IntKind.i64 1)], argTypes := #[23, 24, 3, 3] }, type := 38, pos := "law.go:68", after := #[{ on := 30, ground := Ground.data }, { on := 31, ground := Ground.data }, { on := 32, ground := Ground.data }, { on := 27, ground := Ground.chain }, { on := 27, ground := Ground.guard }], guard := some (27, true) }) rfl (fun K hK => ?_) AllReadyH.nil
          go_simp
          go_at_call 13
          refine (HS1.out _ hd2.2.2).mono ?_
          rintro ea3 wa3 ⟨rfl, hba⟩
          have hd3 : Bl w7.heap.size [.int .i64 X.p, .int .i64 X.q, .int .i64 X.k, .int .i64 Y.p, .int .i64 Y.q, .int .i64 Y.k] wa3 ∧ Bl w.heap.size [.int .i64 p, .int .i64 c, .int .i64 n, .int .i64 b, .int .i64 r, .int .i64 f, .int .i64 g] wa3 ∧ Below w.heap.size w wa3 := ⟨hd2.1.below hba, hd2.2.1.below hba, Below.step hd2.2.2 hba⟩
          refine hK.out _ _ hd3 (fun hHeld => ?_)
          clear hK K hba
          try simp only [Act.put, List.setIfInBounds_toArray, List.set_cons_zero, List.set_cons_succ]
          refine wpAnyH_take (i := 34) (oi := { dst := some 168, op := Op.binOp BinOp.eql 38 (Operand.tmp 163) (Operand.tmp 167) 38, type := 4, pos := "law.go:68", after := #[{ on := 29, ground := Ground.data }, { on := 33, ground := Ground.data }, { on := 27, ground := Ground.guard }], guard := some (27, true) }) (v := .bool true) rfl (by as_aux_lemma => kernel_rfl) (by as_aux_lemma => kernel_rfl) (by as_aux_lemma => kernel_rfl) (fun _ _ _ h => h) (Or.inl ⟨by rfl, ?_⟩) (by assumption) ?_
          · intro wq hSw
            have he := run_eql_lvl Y wq
            go_simp
            try with_reducible rfl
          simp only [Act.put, List.setIfInBounds_toArray, List.set_cons_zero, List.set_cons_succ]
          refine wpAnyH_take (i := 35) (oi := { dst := some 169, op := Op.pick (Operand.tmp 161) (Operand.tmp 168) (Operand.const (Value.bool false)), type := 4, pos := "law.go:68", after := #[{ on := 27, ground := Ground.data }, { on := 34, ground := Ground.data }], guard := none }) (v := ?_) rfl (by as_aux_lemma => kernel_rfl) (by as_aux_lemma => kernel_rfl) (by as_aux_lemma => kernel_rfl) (fun _ _ _ h => h) (Or.inl ⟨by rfl, ?_⟩) (by assumption) ?_
          rotate_left
          · intro wq hSw
            go_simp
            try with_reducible rfl
          simp only [Act.put, List.setIfInBounds_toArray, List.set_cons_zero, List.set_cons_succ]
          refine wpAnyH_take (i := 36) (oi := { dst := some 10, op := Op.assign (Operand.tmp 169), type := 4, pos := "law.go:68", after := #[{ on := 35, ground := Ground.data }, { on := 33, ground := Ground.chain }, { on := 0, ground := Ground.phase }, { on := 1, ground := Ground.phase }, { on := 2, ground := Ground.phase }, { on := 3, ground := Ground.phase }, { on := 4, ground := Ground.phase }, { on := 5, ground := Ground.phase }, { on := 6, ground := Ground.phase }, { on := 7, ground := Ground.phase }, { on := 8, ground := Ground.phase }, { on := 9, ground := Ground.phase }, { on := 10, ground := Ground.phase }, { on := 11, ground := Ground.phase }, { on := 12, ground := Ground.phase }, { on := 13, ground := Ground.phase }, { on := 14, ground := Ground.phase }, { on := 15, ground := Ground.phase }, { on := 16, ground := Ground.phase }, { on := 17, ground := Ground.phase }, { on := 18, ground := Ground.phase }, { on := 19, ground := Ground.phase }, { on := 20, ground := Ground.phase }, { on := 21, ground := Ground.phase }, { on := 22, ground := Ground.phase }, { on := 23, ground := Ground.phase }, { on := 24, ground := Ground.phase }, { on := 25, ground := Ground.phase }, { on := 26, ground := Ground.phase }, { on := 27, ground := Ground.phase }, { on := 28, ground := Ground.phase }, { on := 29, ground := Ground.phase }, { on := 30, ground := Ground.phase }, { on := 31, ground := Ground.phase }, { on := 32, ground := Ground.phase }, { on := 33, ground := Ground.phase }, { on := 34, ground := Ground.phase }, { on := 35, ground := Ground.phase }], guard := none }) (v := ?_) rfl (by as_aux_lemma => kernel_rfl) (by as_aux_lemma => kernel_rfl) (by as_aux_lemma => kernel_rfl) (fun _ _ _ h => h) (Or.inl ⟨by rfl, ?_⟩) (by assumption) ?_
          rotate_left
          · intro wq hSw
            go_simp
            try with_reducible rfl
          simp only [Act.put, List.setIfInBounds_toArray, List.set_cons_zero, List.set_cons_succ]
          refine wpAnyH_done (by as_aux_lemma => kernel_rfl) ?_ _
          go_wp2_with fail
          go_ret
          exact ⟨rfl, hd3.2.2⟩

      · rcases Z with _ | ⟨z, tz⟩
        · obtain ⟨g4, c7, hv4, _, _⟩ := own_some HT4.out.2 (by simp)
          injection hv4 with e1 e2 e3
          subst e1 e3
          clear e2
          have y0 : w4.cell? ⟨g4, 0, none⟩ = some (.int .i64 x.p) := vrow_cell2 (k := 0) (j := 0) HT4.out.2 (x := x) rfl (by simp) (by omega) rfl
          have hx1 : 0 ≤ x.p := hbx.1
          have hx2 : x.p ≤ 9999 := hbx.2
          have ly : (0 : Int) < ((x :: t).length : Int) := by simp
          have ly2 : 0 < (x :: t).length := by simp
          have HLY : Hid ((x :: t).length ≤ 40) := HN2
          have HRY := Lib.hid HT4.out.2
          have HCY := Lib.hid y0
          clear HN2
          generalize (x :: t).length = NL at *
          clear hbx hbz
          simp only [bp, bk]
          go_wp2_with fail
          refine (HR2.out _ HT4.out.1.bel).mono ?_
          rintro e5 w5 ⟨v5, rfl, ho5, hb5⟩
          obtain ⟨A5, c8, rfl⟩ := oshape ho5
          have y5 : w5.cell? ⟨g4, 0, none⟩ = some (.int .i64 x.p) := (hb5.cell (p := ⟨g4, 0, none⟩) (cell_lt HCY.out)).trans HCY.out
          clear y0
          have HT5 := Lib.hid (HT4.out.1.below hb5)
          clear ho5 hb5
          have q0 := HT5.out.bk.cell 0 _ rfl
          have q1 := HT5.out.bk.cell 1 _ rfl
          have q2 := HT5.out.bk.cell 2 _ rfl
          have q3 := HT5.out.bk.cell 3 _ rfl
          have q4 := HT5.out.bk.cell 4 _ rfl
          have q5 := HT5.out.bk.cell 5 _ rfl
          have q6 := HT5.out.bk.cell 6 _ rfl
          have q7 := HT5.out.bk.cell 7 _ rfl
          go_wp2_with fail
          refine (HSP.out _ _ _ _ _ HT5.out.row).mono ?_
          rintro e6 w6 ⟨l0, l1, rfl, h0, h1, hb6⟩
          have eL := HUL.out _ h1
          have eZ := HUZ.out _ h0
          rw [eL, eZ]
          have HT6 := Lib.hid (HT5.out.below hb6)
          have hsp : spv [] (x :: t) = 0 := by simp [spv, bk, bp]
          rw [hsp]
          simp only [bk, Bool.and_true, Bool.and_false, Bool.true_and, Bool.false_and]
          clear h0 h1 eL eZ hsp hb6 q0 q1 q2 q3 q4 q5 q6 q7
          have q0 := HT6.out.bk.cell 0 _ rfl
          have q1 := HT6.out.bk.cell 1 _ rfl
          have q2 := HT6.out.bk.cell 2 _ rfl
          have q3 := HT6.out.bk.cell 3 _ rfl
          have q4 := HT6.out.bk.cell 4 _ rfl
          have q5 := HT6.out.bk.cell 5 _ rfl
          have q6 := HT6.out.bk.cell 6 _ rfl
          have q7 := HT6.out.bk.cell 7 _ rfl
          go_wp2_with fail
          refine (HSH.out _ _ _ _ _ HT6.out.row).mono ?_
          rintro e7 w7 ⟨rfl, hb7⟩
          have HT7 := Lib.hid (HT6.out.below hb7)
          clear hb7 q0 q1 q2 q3 q4 q5 q6 q7
          obtain ⟨X, hX⟩ : ∃ X, X = shl 0 (fsh n b 0 si) (lst ln gv) := ⟨_, rfl⟩
          obtain ⟨Y, hY⟩ : ∃ Y, Y = shl 1 (fsh n b 1 si) (lst ln gv) := ⟨_, rfl⟩
          rw [← hX, ← hY]
          rw [← hX] at HS0
          rw [← hY] at HS1
          clear hX hY
          go_wp2_with fail
          have b22 := Bl.new w7 [.int .i64 X.p, .int .i64 X.q, .int .i64 X.k, .int .i64 Y.p, .int .i64 Y.q, .int .i64 Y.k] 43
          have g8 : Below w7.heap.size w7 (w7.alloc (.cells (List.toArray [.int .i64 X.p, .int .i64 X.q, .int .i64 X.k, .int .i64 Y.p, .int .i64 Y.q, .int .i64 Y.k]) 43)) := by go_grown
          have hd : Bl w7.heap.size [.int .i64 X.p, .int .i64 X.q, .int .i64 X.k, .int .i64 Y.p, .int .i64 Y.q, .int .i64 Y.k] (w7.alloc (.cells (List.toArray [.int .i64 X.p, .int .i64 X.q, .int .i64 X.k, .int .i64 Y.p, .int .i64 Y.q, .int .i64 Y.k]) 43)).drew ∧ Bl w.heap.size [.int .i64 p, .int .i64 c, .int .i64 n, .int .i64 b, .int .i64 r, .int .i64 f, .int .i64 g] (w7.alloc (.cells (List.toArray [.int .i64 X.p, .int .i64 X.q, .int .i64 X.k, .int .i64 Y.p, .int .i64 Y.q, .int .i64 Y.k]) 43)).drew ∧ Below w.heap.size w (w7.alloc (.cells (List.toArray [.int .i64 X.p, .int .i64 X.q, .int .i64 X.k, .int .i64 Y.p, .int .i64 Y.q, .int .i64 Y.k]) 43)).drew := ⟨b22, (HT7.out.below g8).cfg, (HT7.out.below g8).bel.drew⟩
          clear b22 g8
          refine wp_region_held_drew (S := fun w' => Bl w7.heap.size [.int .i64 X.p, .int .i64 X.q, .int .i64 X.k, .int .i64 Y.p, .int .i64 Y.q, .int .i64 Y.k] w' ∧ Bl w.heap.size [.int .i64 p, .int .i64 c, .int .i64 n, .int .i64 b, .int .i64 r, .int .i64 f, .int .i64 g] w' ∧ Below w.heap.size w w') (by kernel_rfl) hd (fun hHeld => ?_)
          refine wpAnyH_ready (rs := [0]) (by as_aux_lemma => kernel_rfl) (by simp) ?_
          refine AllReadyH.cons (o := { dst := some 134, op := Op.call { callee := Callee.value (Operand.func 7), args := #[], argTypes := #[] }, type := 4, pos := "law.go:68", after := #[], guard := none }) rfl (fun K hK => ?_) AllReadyH.nil
          go_simp
          go_at_call 7
          refine (awake_is _).mono ?_
          rintro ea1 wa1 ⟨rfl, hba⟩
          have hd1 : Bl w7.heap.size [.int .i64 X.p, .int .i64 X.q, .int .i64 X.k, .int .i64 Y.p, .int .i64 Y.q, .int .i64 Y.k] wa1 ∧ Bl w.heap.size [.int .i64 p, .int .i64 c, .int .i64 n, .int .i64 b, .int .i64 r, .int .i64 f, .int .i64 g] wa1 ∧ Below w.heap.size w wa1 := ⟨hd.1.below hba, hd.2.1.below hba, Below.step hd.2.2 hba⟩
          refine hK.out _ _ hd1 (fun hHeld => ?_)
          clear hK K hba
          try simp only [Act.put, List.setIfInBounds_toArray, List.set_cons_zero, List.set_cons_succ]
          refine wpAnyH_take (i := 1) (oi := { dst := some 135, op := Op.move (Operand.tmp 134), type := 4, pos := "law.go:68", after := #[{ on := 0, ground := Ground.data }, { on := 0, ground := Ground.chain }], guard := none }) (v := ?_) rfl (by as_aux_lemma => kernel_rfl) (by as_aux_lemma => kernel_rfl) (by as_aux_lemma => kernel_rfl) (fun _ _ _ h => h) (Or.inl ⟨by rfl, ?_⟩) (by assumption) ?_
          rotate_left
          · intro wq hSw
            go_simp
            try with_reducible rfl
          simp only [Act.put, List.setIfInBounds_toArray, List.set_cons_zero, List.set_cons_succ]
          refine wpAnyH_take (i := 2) (oi := { dst := some 136, op := Op.move (Operand.tmp 20), type := 3, pos := "law.go:68", after := #[{ on := 1, ground := Ground.guard }], guard := some (1, true) }) (v := ?_) rfl (by as_aux_lemma => kernel_rfl) (by as_aux_lemma => kernel_rfl) (by as_aux_lemma => kernel_rfl) (fun _ _ _ h => h) (Or.inl ⟨by rfl, ?_⟩) (by assumption) ?_
          rotate_left
          · intro wq hSw
            go_simp
            try with_reducible rfl
          simp only [Act.put, List.setIfInBounds_toArray, List.set_cons_zero, List.set_cons_succ]
          refine wpAnyH_take (i := 3) (oi := { dst := some 137, op := Op.move (Operand.tmp 19), type := 3, pos := "law.go:68", after := #[{ on := 1, ground := Ground.guard }], guard := some (1, true) }) (v := ?_) rfl (by as_aux_lemma => kernel_rfl) (by as_aux_lemma => kernel_rfl) (by as_aux_lemma => kernel_rfl) (fun _ _ _ h => h) (Or.inl ⟨by rfl, ?_⟩) (by assumption) ?_
          rotate_left
          · intro wq hSw
            go_simp
            try with_reducible rfl
          simp only [Act.put, List.setIfInBounds_toArray, List.set_cons_zero, List.set_cons_succ]
          refine wpAnyH_take (i := 4) (oi := { dst := some 138, op := Op.binOp BinOp.eql 3 (Operand.tmp 136) (Operand.tmp 137) 3, type := 4, pos := "law.go:68", after := #[{ on := 2, ground := Ground.data }, { on := 3, ground := Ground.data }, { on := 1, ground := Ground.guard }], guard := some (1, true) }) (v := .bool true) rfl (by as_aux_lemma => kernel_rfl) (by as_aux_lemma => kernel_rfl) (by as_aux_lemma => kernel_rfl) (fun _ _ _ h => h) (Or.inl ⟨by rfl, ?_⟩) (by assumption) ?_
          · intro wq hSw
            go_simp
            try with_reducible rfl
          simp only [Act.put, List.setIfInBounds_toArray, List.set_cons_zero, List.set_cons_succ]
          refine wpAnyH_take (i := 5) (oi := { dst := some 139, op := Op.pick (Operand.tmp 135) (Operand.tmp 138) (Operand.const (Value.bool false)), type := 4, pos := "law.go:68", after := #[{ on := 1, ground := Ground.data }, { on := 4, ground := Ground.data }], guard := none }) (v := ?_) rfl (by as_aux_lemma => kernel_rfl) (by as_aux_lemma => kernel_rfl) (by as_aux_lemma => kernel_rfl) (fun _ _ _ h => h) (Or.inl ⟨by rfl, ?_⟩) (by assumption) ?_
          rotate_left
          · intro wq hSw
            go_simp
            try with_reducible rfl
          simp only [Act.put, List.setIfInBounds_toArray, List.set_cons_zero, List.set_cons_succ]
          refine wpAnyH_take (i := 6) (oi := { dst := some 140, op := Op.move (Operand.tmp 139), type := 4, pos := "law.go:68", after := #[{ on := 5, ground := Ground.data }, { on := 1, ground := Ground.chain }], guard := none }) (v := ?_) rfl (by as_aux_lemma => kernel_rfl) (by as_aux_lemma => kernel_rfl) (by as_aux_lemma => kernel_rfl) (fun _ _ _ h => h) (Or.inl ⟨by rfl, ?_⟩) (by assumption) ?_
          rotate_left
          · intro wq hSw
            go_simp
            try with_reducible rfl
          simp only [Act.put, List.setIfInBounds_toArray, List.set_cons_zero, List.set_cons_succ]
          refine wpAnyH_take (i := 7) (oi := { dst := some 141, op := Op.move (Operand.tmp 21), type := 4, pos := "law.go:68", after := #[{ on := 6, ground := Ground.guard }], guard := some (6, true) }) (v := ?_) rfl (by as_aux_lemma => kernel_rfl) (by as_aux_lemma => kernel_rfl) (by as_aux_lemma => kernel_rfl) (fun _ _ _ h => h) (Or.inl ⟨by rfl, ?_⟩) (by assumption) ?_
          rotate_left
          · intro wq hSw
            go_simp
            try with_reducible rfl
          simp only [Act.put, List.setIfInBounds_toArray, List.set_cons_zero, List.set_cons_succ]
          refine wpAnyH_take (i := 8) (oi := { dst := some 142, op := Op.move (Operand.tmp 14), type := 35, pos := "law.go:68", after := #[{ on := 6, ground := Ground.guard }], guard := some (6, true) }) (v := ?_) rfl (by as_aux_lemma => kernel_rfl) (by as_aux_lemma => kernel_rfl) (by as_aux_lemma => kernel_rfl) (fun _ _ _ h => h) (Or.inl ⟨by rfl, ?_⟩) (by assumption) ?_
          rotate_left
          · intro wq hSw
            go_simp
            try with_reducible rfl
          simp only [Act.put, List.setIfInBounds_toArray, List.set_cons_zero, List.set_cons_succ]
          refine wpAnyH_take (i := 9) (oi := { dst := some 143, op := Op.call { callee := Callee.builtin Builtin.len, args := #[Operand.tmp 142], argTypes := #[35] }, type := 3, pos := "law.go:68", after := #[{ on := 8, ground := Ground.data }, { on := 6, ground := Ground.guard }], guard := some (6, true) }) (v := ?_) rfl (by as_aux_lemma => kernel_rfl) (by as_aux_lemma => kernel_rfl) (by as_aux_lemma => kernel_rfl) (fun _ _ _ h => h) (Or.inl ⟨by rfl, ?_⟩) (by assumption) ?_
          rotate_left
          · intro wq hSw
            go_simp
            try with_reducible rfl
          simp only [Act.put, List.setIfInBounds_toArray, List.set_cons_zero, List.set_cons_succ]
          refine wpAnyH_take (i := 10) (oi := { dst := some 144, op := Op.binOp BinOp.gtr 3 (Operand.tmp 143) (Operand.const (Value.int IntKind.i64 0)) 3, type := 4, pos := "law.go:68", after := #[{ on := 9, ground := Ground.data }, { on := 6, ground := Ground.guard }], guard := some (6, true) }) (v := .bool true) rfl (by as_aux_lemma => kernel_rfl) (by as_aux_lemma => kernel_rfl) (by as_aux_lemma => kernel_rfl) (fun _ _ _ h => h) (Or.inl ⟨by rfl, ?_⟩) (by assumption) ?_
          · intro wq hSw
            go_simp
            try with_reducible rfl
          simp only [Act.put, List.setIfInBounds_toArray, List.set_cons_zero, List.set_cons_succ]
          refine wpAnyH_take (i := 11) (oi := { dst := some 145, op := Op.move (Operand.tmp 144), type := 4, pos := "law.go:68", after := #[{ on := 10, ground := Ground.data }, { on := 6, ground := Ground.chain }, { on := 6, ground := Ground.guard }], guard := some (6, true) }) (v := ?_) rfl (by as_aux_lemma => kernel_rfl) (by as_aux_lemma => kernel_rfl) (by as_aux_lemma => kernel_rfl) (fun _ _ _ h => h) (Or.inl ⟨by rfl, ?_⟩) (by assumption) ?_
          rotate_left
          · intro wq hSw
            go_simp
            try with_reducible rfl
          simp only [Act.put, List.setIfInBounds_toArray, List.set_cons_zero, List.set_cons_succ]
          refine wpAnyH_take (i := 12) (oi := { dst := some 146, op := Op.move (Operand.tmp 18), type := 35, pos := "law.go:68", after := #[{ on := 11, ground := Ground.guard }], guard := some (11, true) }) (v := ?_) rfl (by as_aux_lemma => kernel_rfl) (by as_aux_lemma => kernel_rfl) (by as_aux_lemma => kernel_rfl) (fun _ _ _ h => h) (Or.inl ⟨by rfl, ?_⟩) (by assumption) ?_
          rotate_left
          · intro wq hSw
            go_simp
            try with_reducible rfl
          simp only [Act.put, List.setIfInBounds_toArray, List.set_cons_zero, List.set_cons_succ]
          refine wpAnyH_take (i := 13) (oi := { dst := some 147, op := Op.call { callee := Callee.builtin Builtin.len, args := #[Operand.tmp 146], argTypes := #[35] }, type := 3, pos := "law.go:68", after := #[{ on := 12, ground := Ground.data }, { on := 11, ground := Ground.guard }], guard := some (11, true) }) (v := ?_) rfl (by as_aux_lemma => kernel_rfl) (by as_aux_lemma => kernel_rfl) (by as_aux_lemma => kernel_rfl) (fun _ _ _ h => h) (Or.inl ⟨by rfl, ?_⟩) (by assumption) ?_
          rotate_left
          · intro wq hSw
            go_simp
            try with_reducible rfl
          simp only [Act.put, List.setIfInBounds_toArray, List.set_cons_zero, List.set_cons_succ]
          refine wpAnyH_take (i := 14) (oi := { dst := some 148, op := Op.binOp BinOp.gtr 3 (Operand.tmp 147) (Operand.const (Value.int IntKind.i64 0)) 3, type := 4, pos := "law.go:68", after := #[{ on := 13, ground := Ground.data }, { on := 11, ground := Ground.guard }], guard := some (11, true) }) (v := .bool false) rfl (by as_aux_lemma => kernel_rfl) (by as_aux_lemma => kernel_rfl) (by as_aux_lemma => kernel_rfl) (fun _ _ _ h => h) (Or.inl ⟨by rfl, ?_⟩) (by assumption) ?_
          · intro wq hSw
            go_simp
            try with_reducible rfl
          simp only [Act.put, List.setIfInBounds_toArray, List.set_cons_zero, List.set_cons_succ]
          refine wpAnyH_take (i := 15) (oi := { dst := some 149, op := Op.pick (Operand.tmp 145) (Operand.tmp 148) (Operand.const (Value.bool false)), type := 4, pos := "law.go:68", after := #[{ on := 11, ground := Ground.data }, { on := 14, ground := Ground.data }, { on := 6, ground := Ground.guard }], guard := some (6, true) }) (v := ?_) rfl (by as_aux_lemma => kernel_rfl) (by as_aux_lemma => kernel_rfl) (by as_aux_lemma => kernel_rfl) (fun _ _ _ h => h) (Or.inl ⟨by rfl, ?_⟩) (by assumption) ?_
          rotate_left
          · intro wq hSw
            go_simp
            try with_reducible rfl
          simp only [Act.put, List.setIfInBounds_toArray, List.set_cons_zero, List.set_cons_succ]
          refine wpAnyH_take (i := 16) (oi := { dst := some 150, op := Op.binOp BinOp.eql 4 (Operand.tmp 141) (Operand.tmp 149) 4, type := 4, pos := "law.go:68", after := #[{ on := 7, ground := Ground.data }, { on := 15, ground := Ground.data }, { on := 6, ground := Ground.guard }], guard := some (6, true) }) (v := .bool true) rfl (by as_aux_lemma => kernel_rfl) (by as_aux_lemma => kernel_rfl) (by as_aux_lemma => kernel_rfl) (fun _ _ _ h => h) (Or.inl ⟨by rfl, ?_⟩) (by assumption) ?_
          · intro wq hSw
            go_simp
            try with_reducible rfl
          simp only [Act.put, List.setIfInBounds_toArray, List.set_cons_zero, List.set_cons_succ]
          refine wpAnyH_take (i := 17) (oi := { dst := some 151, op := Op.pick (Operand.tmp 140) (Operand.tmp 150) (Operand.const (Value.bool false)), type := 4, pos := "law.go:68", after := #[{ on := 6, ground := Ground.data }, { on := 16, ground := Ground.data }], guard := none }) (v := ?_) rfl (by as_aux_lemma => kernel_rfl) (by as_aux_lemma => kernel_rfl) (by as_aux_lemma => kernel_rfl) (fun _ _ _ h => h) (Or.inl ⟨by rfl, ?_⟩) (by assumption) ?_
          rotate_left
          · intro wq hSw
            go_simp
            try with_reducible rfl
          simp only [Act.put, List.setIfInBounds_toArray, List.set_cons_zero, List.set_cons_succ]
          refine wpAnyH_take (i := 18) (oi := { dst := some 152, op := Op.move (Operand.tmp 151), type := 4, pos := "law.go:68", after := #[{ on := 17, ground := Ground.data }, { on := 11, ground := Ground.chain }], guard := none }) (v := ?_) rfl (by as_aux_lemma => kernel_rfl) (by as_aux_lemma => kernel_rfl) (by as_aux_lemma => kernel_rfl) (fun _ _ _ h => h) (Or.inl ⟨by rfl, ?_⟩) (by assumption) ?_
          rotate_left
          · intro wq hSw
            go_simp
            try with_reducible rfl
          simp only [Act.put, List.setIfInBounds_toArray, List.set_cons_zero, List.set_cons_succ]
          refine wpAnyH_take (i := 19) (oi := { dst := some 153, op := Op.indexAddr 43 (Operand.tmp 22) (Operand.const (Value.int IntKind.i64 0)), type := 0, pos := "law.go:68", after := #[{ on := 18, ground := Ground.guard }], guard := some (18, true) }) (v := ?_) rfl (by as_aux_lemma => kernel_rfl) (by as_aux_lemma => kernel_rfl) (by as_aux_lemma => kernel_rfl) (fun _ _ _ h => h) (Or.inl ⟨by rfl, ?_⟩) (by assumption) ?_
          rotate_left
          · intro wq hSw
            go_simp
            try with_reducible rfl
          simp only [Act.put, List.setIfInBounds_toArray, List.set_cons_zero, List.set_cons_succ]
          refine wpAnyH_take (i := 20) (oi := { dst := some 154, op := Op.load 39 (Operand.tmp 153), type := 39, pos := "law.go:68", after := #[{ on := 19, ground := Ground.data }, { on := 18, ground := Ground.guard }], guard := some (18, true) }) (v := ?_) rfl (by as_aux_lemma => kernel_rfl) (by as_aux_lemma => kernel_rfl) (by as_aux_lemma => kernel_rfl) (fun _ _ _ h => h) (Or.inl ⟨by rfl, ?_⟩) (by assumption) ?_
          rotate_left
          · intro wq hSw
            have h0 := hSw.1.cell 0 _ rfl; have h1 := hSw.1.cell 1 _ rfl; have h2 := hSw.1.cell 2 _ rfl
            go_simp
            try with_reducible rfl
          simp only [Act.put, List.setIfInBounds_toArray, List.set_cons_zero, List.set_cons_succ]
          refine wpAnyH_take (i := 21) (oi := { dst := some 155, op := Op.load 23 (Operand.tmp 5), type := 23, pos := "law.go:68", after := #[{ on := 18, ground := Ground.guard }], guard := some (18, true) }) (v := ?_) rfl (by as_aux_lemma => kernel_rfl) (by as_aux_lemma => kernel_rfl) (by as_aux_lemma => kernel_rfl) (fun _ _ _ h => h) (Or.inl ⟨by rfl, ?_⟩) (by assumption) ?_
          rotate_left
          · intro wq hSw
            have h0 := hSw.2.1.cell 0 _ rfl; have h1 := hSw.2.1.cell 1 _ rfl; have h2 := hSw.2.1.cell 2 _ rfl; have h3 := hSw.2.1.cell 3 _ rfl; have h4 := hSw.2.1.cell 4 _ rfl; have h5 := hSw.2.1.cell 5 _ rfl; have h6 := hSw.2.1.cell 6 _ rfl
            go_simp
            try with_reducible rfl
          simp only [Act.put, List.setIfInBounds_toArray, List.set_cons_zero, List.set_cons_succ]
          refine wpAnyH_take (i := 22) (oi := { dst := some 156, op := Op.move (Operand.tmp 1), type := 24, pos := "law.go:68", after := #[{ on := 18, ground := Ground.guard }], guard := some (18, true) }) (v := ?_) rfl (by as_aux_lemma => kernel_rfl) (by as_aux_lemma => kernel_rfl) (by as_aux_lemma => kernel_rfl) (fun _ _ _ h => h) (Or.inl ⟨by rfl, ?_⟩) (by assumption) ?_
          rotate_left
          · intro wq hSw
            go_simp
            try with_reducible rfl
          simp only [Act.put, List.setIfInBounds_toArray, List.set_cons_zero, List.set_cons_succ]
          refine wpAnyH_take (i := 23) (oi := { dst := some 157, op := Op.move (Operand.tmp 4), type := 3, pos := "law.go:68", after := #[{ on := 18, ground := Ground.guard }], guard := some (18, true) }) (v := ?_) rfl (by as_aux_lemma => kernel_rfl) (by as_aux_lemma => kernel_rfl) (by as_aux_lemma => kernel_rfl) (fun _ _ _ h => h) (Or.inl ⟨by rfl, ?_⟩) (by assumption) ?_
          rotate_left
          · intro wq hSw
            go_simp
            try with_reducible rfl
          simp only [Act.put, List.setIfInBounds_toArray, List.set_cons_zero, List.set_cons_succ]
          refine wpAnyH_ready (rs := [24]) (by as_aux_lemma => kernel_rfl) (by simp) ?_
          refine AllReadyH.cons (o := { dst := some 158, op := Op.call { callee := Callee.value (Operand.func 13), args := #[Operand.tmp 155, Operand.tmp 156, Operand.tmp 157, Operand.const (Value.int IntKind.i64 0)], argTypes := #[23, 24, 3, 3] }, type := 38, pos := "law.go:68", after := #[{ on := 21, ground := Ground.data }, { on := 22, ground := Ground.data }, { on := 23, ground := Ground.data }, { on := 18, ground := Ground.chain }, { on := 18, ground := Ground.guard }], guard := some (18, true) }) rfl (fun K hK => ?_) AllReadyH.nil
          go_simp
          go_at_call 13
          refine (HS0.out _ hd1.2.2).mono ?_
          rintro ea2 wa2 ⟨rfl, hba⟩
          have hd2 : Bl w7.heap.size [.int .i64 X.p, .int .i64 X.q, .int .i64 X.k, .int .i64 Y.p, .int .i64 Y.q, .int .i64 Y.k] wa2 ∧ Bl w.heap.size [.int .i64 p, .int .i64 c, .int .i64 n, .int .i64 b, .int .i64 r, .int .i64 f, .int .i64 g] wa2 ∧ Below w.heap.size w wa2 := ⟨hd1.1.below hba, hd1.2.1.below hba, Below.step hd1.2.2 hba⟩
          refine hK.out _ _ hd2 (fun hHeld => ?_)
          clear hK K hba
          try simp only [Act.put, List.setIfInBounds_toArray, List.set_cons_zero, List.set_cons_succ]
          refine wpAnyH_take (i := 25) (oi := { dst := some 159, op := Op.binOp BinOp.eql 38 (Operand.tmp 154) (Operand.tmp 158) 38, type := 4, pos := "law.go:68", after := #[{ on := 20, ground := Ground.data }, { on := 24, ground := Ground.data }, { on := 18, ground := Ground.guard }], guard := some (18, true) }) (v := .bool true) rfl (by as_aux_lemma => kernel_rfl) (by as_aux_lemma => kernel_rfl) (by as_aux_lemma => kernel_rfl) (fun _ _ _ h => h) (Or.inl ⟨by rfl, ?_⟩) (by assumption) ?_
          · intro wq hSw
            have he := run_eql_lvl X wq
            go_simp
            try with_reducible rfl
          simp only [Act.put, List.setIfInBounds_toArray, List.set_cons_zero, List.set_cons_succ]
          refine wpAnyH_take (i := 26) (oi := { dst := some 160, op := Op.pick (Operand.tmp 152) (Operand.tmp 159) (Operand.const (Value.bool false)), type := 4, pos := "law.go:68", after := #[{ on := 18, ground := Ground.data }, { on := 25, ground := Ground.data }], guard := none }) (v := ?_) rfl (by as_aux_lemma => kernel_rfl) (by as_aux_lemma => kernel_rfl) (by as_aux_lemma => kernel_rfl) (fun _ _ _ h => h) (Or.inl ⟨by rfl, ?_⟩) (by assumption) ?_
          rotate_left
          · intro wq hSw
            go_simp
            try with_reducible rfl
          simp only [Act.put, List.setIfInBounds_toArray, List.set_cons_zero, List.set_cons_succ]
          refine wpAnyH_take (i := 27) (oi := { dst := some 161, op := Op.move (Operand.tmp 160), type := 4, pos := "law.go:68", after := #[{ on := 26, ground := Ground.data }, { on := 24, ground := Ground.chain }], guard := none }) (v := ?_) rfl (by as_aux_lemma => kernel_rfl) (by as_aux_lemma => kernel_rfl) (by as_aux_lemma => kernel_rfl) (fun _ _ _ h => h) (Or.inl ⟨by rfl, ?_⟩) (by assumption) ?_
          rotate_left
          · intro wq hSw
            go_simp
            try with_reducible rfl
          simp only [Act.put, List.setIfInBounds_toArray, List.set_cons_zero, List.set_cons_succ]
          refine wpAnyH_take (i := 28) (oi := { dst := some 162, op := Op.indexAddr 43 (Operand.tmp 22) (Operand.const (Value.int IntKind.i64 1)), type := 0, pos := "law.go:68", after := #[{ on := 27, ground := Ground.guard }], guard := some (27, true) }) (v := ?_) rfl (by as_aux_lemma => kernel_rfl) (by as_aux_lemma => kernel_rfl) (by as_aux_lemma => kernel_rfl) (fun _ _ _ h => h) (Or.inl ⟨by rfl, ?_⟩) (by assumption) ?_
          rotate_left
          · intro wq hSw
            go_simp
            try with_reducible rfl
          simp only [Act.put, List.setIfInBounds_toArray, List.set_cons_zero, List.set_cons_succ]
          refine wpAnyH_take (i := 29) (oi := { dst := some 163, op := Op.load 39 (Operand.tmp 162), type := 39, pos := "law.go:68", after := #[{ on := 28, ground := Ground.data }, { on := 27, ground := Ground.guard }], guard := some (27, true) }) (v := ?_) rfl (by as_aux_lemma => kernel_rfl) (by as_aux_lemma => kernel_rfl) (by as_aux_lemma => kernel_rfl) (fun _ _ _ h => h) (Or.inl ⟨by rfl, ?_⟩) (by assumption) ?_
          rotate_left
          · intro wq hSw
            have h0 := hSw.1.cell 3 _ rfl; have h1 := hSw.1.cell 4 _ rfl; have h2 := hSw.1.cell 5 _ rfl
            go_simp
            try with_reducible rfl
          simp only [Act.put, List.setIfInBounds_toArray, List.set_cons_zero, List.set_cons_succ]
          refine wpAnyH_take (i := 30) (oi := { dst := some 164, op := Op.load 23 (Operand.tmp 5), type := 23, pos := "law.go:68", after := #[{ on := 27, ground := Ground.guard }], guard := some (27, true) }) (v := ?_) rfl (by as_aux_lemma => kernel_rfl) (by as_aux_lemma => kernel_rfl) (by as_aux_lemma => kernel_rfl) (fun _ _ _ h => h) (Or.inl ⟨by rfl, ?_⟩) (by assumption) ?_
          rotate_left
          · intro wq hSw
            have h0 := hSw.2.1.cell 0 _ rfl; have h1 := hSw.2.1.cell 1 _ rfl; have h2 := hSw.2.1.cell 2 _ rfl; have h3 := hSw.2.1.cell 3 _ rfl; have h4 := hSw.2.1.cell 4 _ rfl; have h5 := hSw.2.1.cell 5 _ rfl; have h6 := hSw.2.1.cell 6 _ rfl
            go_simp
            try with_reducible rfl
          simp only [Act.put, List.setIfInBounds_toArray, List.set_cons_zero, List.set_cons_succ]
          refine wpAnyH_take (i := 31) (oi := { dst := some 165, op := Op.move (Operand.tmp 1), type := 24, pos := "law.go:68", after := #[{ on := 27, ground := Ground.guard }], guard := some (27, true) }) (v := ?_) rfl (by as_aux_lemma => kernel_rfl) (by as_aux_lemma => kernel_rfl) (by as_aux_lemma => kernel_rfl) (fun _ _ _ h => h) (Or.inl ⟨by rfl, ?_⟩) (by assumption) ?_
          rotate_left
          · intro wq hSw
            go_simp
            try with_reducible rfl
          simp only [Act.put, List.setIfInBounds_toArray, List.set_cons_zero, List.set_cons_succ]
          refine wpAnyH_take (i := 32) (oi := { dst := some 166, op := Op.move (Operand.tmp 4), type := 3, pos := "law.go:68", after := #[{ on := 27, ground := Ground.guard }], guard := some (27, true) }) (v := ?_) rfl (by as_aux_lemma => kernel_rfl) (by as_aux_lemma => kernel_rfl) (by as_aux_lemma => kernel_rfl) (fun _ _ _ h => h) (Or.inl ⟨by rfl, ?_⟩) (by assumption) ?_
          rotate_left
          · intro wq hSw
            go_simp
            try with_reducible rfl
          simp only [Act.put, List.setIfInBounds_toArray, List.set_cons_zero, List.set_cons_succ]
          refine wpAnyH_ready (rs := [33]) (by as_aux_lemma => kernel_rfl) (by simp) ?_
          refine AllReadyH.cons (o := { dst := some 167, op := Op.call { callee := Callee.value (Operand.func 13), args := #[Operand.tmp 164, Operand.tmp 165, Operand.tmp 166, Operand.const (Value.int IntKind.i64 1)], argTypes := #[23, 24, 3, 3] }, type := 38, pos := "law.go:68", after := #[{ on := 30, ground := Ground.data }, { on := 31, ground := Ground.data }, { on := 32, ground := Ground.data }, { on := 27, ground := Ground.chain }, { on := 27, ground := Ground.guard }], guard := some (27, true) }) rfl (fun K hK => ?_) AllReadyH.nil
          go_simp
          go_at_call 13
          refine (HS1.out _ hd2.2.2).mono ?_
          rintro ea3 wa3 ⟨rfl, hba⟩
          have hd3 : Bl w7.heap.size [.int .i64 X.p, .int .i64 X.q, .int .i64 X.k, .int .i64 Y.p, .int .i64 Y.q, .int .i64 Y.k] wa3 ∧ Bl w.heap.size [.int .i64 p, .int .i64 c, .int .i64 n, .int .i64 b, .int .i64 r, .int .i64 f, .int .i64 g] wa3 ∧ Below w.heap.size w wa3 := ⟨hd2.1.below hba, hd2.2.1.below hba, Below.step hd2.2.2 hba⟩
          refine hK.out _ _ hd3 (fun hHeld => ?_)
          clear hK K hba
          try simp only [Act.put, List.setIfInBounds_toArray, List.set_cons_zero, List.set_cons_succ]
          refine wpAnyH_take (i := 34) (oi := { dst := some 168, op := Op.binOp BinOp.eql 38 (Operand.tmp 163) (Operand.tmp 167) 38, type := 4, pos := "law.go:68", after := #[{ on := 29, ground := Ground.data }, { on := 33, ground := Ground.data }, { on := 27, ground := Ground.guard }], guard := some (27, true) }) (v := .bool true) rfl (by as_aux_lemma => kernel_rfl) (by as_aux_lemma => kernel_rfl) (by as_aux_lemma => kernel_rfl) (fun _ _ _ h => h) (Or.inl ⟨by rfl, ?_⟩) (by assumption) ?_
          · intro wq hSw
            have he := run_eql_lvl Y wq
            go_simp
            try with_reducible rfl
          simp only [Act.put, List.setIfInBounds_toArray, List.set_cons_zero, List.set_cons_succ]
          refine wpAnyH_take (i := 35) (oi := { dst := some 169, op := Op.pick (Operand.tmp 161) (Operand.tmp 168) (Operand.const (Value.bool false)), type := 4, pos := "law.go:68", after := #[{ on := 27, ground := Ground.data }, { on := 34, ground := Ground.data }], guard := none }) (v := ?_) rfl (by as_aux_lemma => kernel_rfl) (by as_aux_lemma => kernel_rfl) (by as_aux_lemma => kernel_rfl) (fun _ _ _ h => h) (Or.inl ⟨by rfl, ?_⟩) (by assumption) ?_
          rotate_left
          · intro wq hSw
            go_simp
            try with_reducible rfl
          simp only [Act.put, List.setIfInBounds_toArray, List.set_cons_zero, List.set_cons_succ]
          refine wpAnyH_take (i := 36) (oi := { dst := some 10, op := Op.assign (Operand.tmp 169), type := 4, pos := "law.go:68", after := #[{ on := 35, ground := Ground.data }, { on := 33, ground := Ground.chain }, { on := 0, ground := Ground.phase }, { on := 1, ground := Ground.phase }, { on := 2, ground := Ground.phase }, { on := 3, ground := Ground.phase }, { on := 4, ground := Ground.phase }, { on := 5, ground := Ground.phase }, { on := 6, ground := Ground.phase }, { on := 7, ground := Ground.phase }, { on := 8, ground := Ground.phase }, { on := 9, ground := Ground.phase }, { on := 10, ground := Ground.phase }, { on := 11, ground := Ground.phase }, { on := 12, ground := Ground.phase }, { on := 13, ground := Ground.phase }, { on := 14, ground := Ground.phase }, { on := 15, ground := Ground.phase }, { on := 16, ground := Ground.phase }, { on := 17, ground := Ground.phase }, { on := 18, ground := Ground.phase }, { on := 19, ground := Ground.phase }, { on := 20, ground := Ground.phase }, { on := 21, ground := Ground.phase }, { on := 22, ground := Ground.phase }, { on := 23, ground := Ground.phase }, { on := 24, ground := Ground.phase }, { on := 25, ground := Ground.phase }, { on := 26, ground := Ground.phase }, { on := 27, ground := Ground.phase }, { on := 28, ground := Ground.phase }, { on := 29, ground := Ground.phase }, { on := 30, ground := Ground.phase }, { on := 31, ground := Ground.phase }, { on := 32, ground := Ground.phase }, { on := 33, ground := Ground.phase }, { on := 34, ground := Ground.phase }, { on := 35, ground := Ground.phase }], guard := none }) (v := ?_) rfl (by as_aux_lemma => kernel_rfl) (by as_aux_lemma => kernel_rfl) (by as_aux_lemma => kernel_rfl) (fun _ _ _ h => h) (Or.inl ⟨by rfl, ?_⟩) (by assumption) ?_
          rotate_left
          · intro wq hSw
            go_simp
            try with_reducible rfl
          simp only [Act.put, List.setIfInBounds_toArray, List.set_cons_zero, List.set_cons_succ]
          refine wpAnyH_done (by as_aux_lemma => kernel_rfl) ?_ _
          go_wp2_with fail
          go_ret
          exact ⟨rfl, hd3.2.2⟩

        · obtain ⟨g4, c7, hv4, _, _⟩ := own_some HT4.out.2 (by simp)
          injection hv4 with e1 e2 e3
          subst e1 e3
          clear e2
          have y0 : w4.cell? ⟨g4, 0, none⟩ = some (.int .i64 x.p) := vrow_cell2 (k := 0) (j := 0) HT4.out.2 (x := x) rfl (by simp) (by omega) rfl
          have hx1 : 0 ≤ x.p := hbx.1
          have hx2 : x.p ≤ 9999 := hbx.2
          have ly : (0 : Int) < ((x :: t).length : Int) := by simp
          have ly2 : 0 < (x :: t).length := by simp
          have HLY : Hid ((x :: t).length ≤ 40) := HN2
          have HRY := Lib.hid HT4.out.2
          have HCY := Lib.hid y0
          clear HN2
          generalize (x :: t).length = NL at *
          have hz1 : 0 ≤ z.p := hbz.1
          have hz2 : z.p ≤ 9999 := hbz.2
          clear hbx hbz
          simp only [bp, bk]
          go_wp2_with fail
          refine (HR2.out _ HT4.out.1.bel).mono ?_
          rintro e5 w5 ⟨v5, rfl, ho5, hb5⟩
          obtain ⟨g5, c8, rfl, _, _⟩ := own_some ho5 (by simp)
          have zc : w5.cell? ⟨g5, 0, none⟩ = some (.int .i64 z.p) := vrow_cell2 (k := 0) (j := 0) ho5 (x := z) rfl (by simp) (by omega) rfl
          have lz : (0 : Int) < ((z :: tz).length : Int) := by simp
          have lz2 : 0 < (z :: tz).length := by simp
          have y5 : w5.cell? ⟨g4, 0, none⟩ = some (.int .i64 x.p) := (hb5.cell (p := ⟨g4, 0, none⟩) (cell_lt HCY.out)).trans HCY.out
          clear y0
          have HT5 := Lib.hid (HT4.out.1.below hb5)
          clear ho5 hb5
          generalize (z :: tz).length = NZ at *
          go_wp2_with fail
          go_quiet (fail)
          have HT5a := HT5
          clear HT5
          have HT5 : Hid (SSt w (w5.drewN nq) p c n b r f g BB (w.alloc (.cells (List.toArray [.int .i64 p, .int .i64 c, .int .i64 n, .int .i64 b, .int .i64 r, .int .i64 f, .int .i64 g]) 23)).heap.size A2 c2 (lst ln gv)) := Lib.hid (HT5a.out.below (dn w5 nq))
          have q0 := HT5.out.bk.cell 0 _ rfl
          have q1 := HT5.out.bk.cell 1 _ rfl
          have q2 := HT5.out.bk.cell 2 _ rfl
          have q3 := HT5.out.bk.cell 3 _ rfl
          have q4 := HT5.out.bk.cell 4 _ rfl
          have q5 := HT5.out.bk.cell 5 _ rfl
          have q6 := HT5.out.bk.cell 6 _ rfl
          have q7 := HT5.out.bk.cell 7 _ rfl
          go_wp2_with fail
          refine (HSP.out _ _ _ _ _ HT5.out.row).mono ?_
          rintro e6 w6 ⟨l0, l1, rfl, h0, h1, hb6⟩
          have eL := HUL.out _ h1
          have eZ := HUZ.out _ h0
          rw [eL, eZ]
          have HT6 := Lib.hid (HT5.out.below hb6)
          have hsp : spv (z :: tz) (x :: t) = (-(z.p - x.p)) := by simp [spv, bk, bp]; omega
          rw [hsp]
          simp only [bk, Bool.and_true, Bool.and_false, Bool.true_and, Bool.false_and]
          clear h0 h1 eL eZ hsp hb6 q0 q1 q2 q3 q4 q5 q6 q7
          have q0 := HT6.out.bk.cell 0 _ rfl
          have q1 := HT6.out.bk.cell 1 _ rfl
          have q2 := HT6.out.bk.cell 2 _ rfl
          have q3 := HT6.out.bk.cell 3 _ rfl
          have q4 := HT6.out.bk.cell 4 _ rfl
          have q5 := HT6.out.bk.cell 5 _ rfl
          have q6 := HT6.out.bk.cell 6 _ rfl
          have q7 := HT6.out.bk.cell 7 _ rfl
          go_wp2_with fail
          refine (HSH.out _ _ _ _ _ HT6.out.row).mono ?_
          rintro e7 w7 ⟨rfl, hb7⟩
          have HT7 := Lib.hid (HT6.out.below hb7)
          clear hb7 q0 q1 q2 q3 q4 q5 q6 q7
          obtain ⟨X, hX⟩ : ∃ X, X = shl 0 (fsh n b 0 si) (lst ln gv) := ⟨_, rfl⟩
          obtain ⟨Y, hY⟩ : ∃ Y, Y = shl 1 (fsh n b 1 si) (lst ln gv) := ⟨_, rfl⟩
          rw [← hX, ← hY]
          rw [← hX] at HS0
          rw [← hY] at HS1
          clear hX hY
          go_wp2_with fail
          have b22 := Bl.new w7 [.int .i64 X.p, .int .i64 X.q, .int .i64 X.k, .int .i64 Y.p, .int .i64 Y.q, .int .i64 Y.k] 43
          have g8 : Below w7.heap.size w7 (w7.alloc (.cells (List.toArray [.int .i64 X.p, .int .i64 X.q, .int .i64 X.k, .int .i64 Y.p, .int .i64 Y.q, .int .i64 Y.k]) 43)) := by go_grown
          have hd : Bl w7.heap.size [.int .i64 X.p, .int .i64 X.q, .int .i64 X.k, .int .i64 Y.p, .int .i64 Y.q, .int .i64 Y.k] (w7.alloc (.cells (List.toArray [.int .i64 X.p, .int .i64 X.q, .int .i64 X.k, .int .i64 Y.p, .int .i64 Y.q, .int .i64 Y.k]) 43)).drew ∧ Bl w.heap.size [.int .i64 p, .int .i64 c, .int .i64 n, .int .i64 b, .int .i64 r, .int .i64 f, .int .i64 g] (w7.alloc (.cells (List.toArray [.int .i64 X.p, .int .i64 X.q, .int .i64 X.k, .int .i64 Y.p, .int .i64 Y.q, .int .i64 Y.k]) 43)).drew ∧ Below w.heap.size w (w7.alloc (.cells (List.toArray [.int .i64 X.p, .int .i64 X.q, .int .i64 X.k, .int .i64 Y.p, .int .i64 Y.q, .int .i64 Y.k]) 43)).drew := ⟨b22, (HT7.out.below g8).cfg, (HT7.out.below g8).bel.drew⟩
          clear b22 g8
          refine wp_region_held_drew (S := fun w' => Bl w7.heap.size [.int .i64 X.p, .int .i64 X.q, .int .i64 X.k, .int .i64 Y.p, .int .i64 Y.q, .int .i64 Y.k] w' ∧ Bl w.heap.size [.int .i64 p, .int .i64 c, .int .i64 n, .int .i64 b, .int .i64 r, .int .i64 f, .int .i64 g] w' ∧ Below w.heap.size w w') (by kernel_rfl) hd (fun hHeld => ?_)
          refine wpAnyH_ready (rs := [0]) (by as_aux_lemma => kernel_rfl) (by simp) ?_
          refine AllReadyH.cons (o := { dst := some 134, op := Op.call { callee := Callee.value (Operand.func 7), args := #[], argTypes := #[] }, type := 4, pos := "law.go:68", after := #[], guard := none }) rfl (fun K hK => ?_) AllReadyH.nil
          go_simp
          go_at_call 7
          refine (awake_is _).mono ?_
          rintro ea1 wa1 ⟨rfl, hba⟩
          have hd1 : Bl w7.heap.size [.int .i64 X.p, .int .i64 X.q, .int .i64 X.k, .int .i64 Y.p, .int .i64 Y.q, .int .i64 Y.k] wa1 ∧ Bl w.heap.size [.int .i64 p, .int .i64 c, .int .i64 n, .int .i64 b, .int .i64 r, .int .i64 f, .int .i64 g] wa1 ∧ Below w.heap.size w wa1 := ⟨hd.1.below hba, hd.2.1.below hba, Below.step hd.2.2 hba⟩
          refine hK.out _ _ hd1 (fun hHeld => ?_)
          clear hK K hba
          try simp only [Act.put, List.setIfInBounds_toArray, List.set_cons_zero, List.set_cons_succ]
          refine wpAnyH_take (i := 1) (oi := { dst := some 135, op := Op.move (Operand.tmp 134), type := 4, pos := "law.go:68", after := #[{ on := 0, ground := Ground.data }, { on := 0, ground := Ground.chain }], guard := none }) (v := ?_) rfl (by as_aux_lemma => kernel_rfl) (by as_aux_lemma => kernel_rfl) (by as_aux_lemma => kernel_rfl) (fun _ _ _ h => h) (Or.inl ⟨by rfl, ?_⟩) (by assumption) ?_
          rotate_left
          · intro wq hSw
            go_simp
            try with_reducible rfl
          simp only [Act.put, List.setIfInBounds_toArray, List.set_cons_zero, List.set_cons_succ]
          refine wpAnyH_take (i := 2) (oi := { dst := some 136, op := Op.move (Operand.tmp 20), type := 3, pos := "law.go:68", after := #[{ on := 1, ground := Ground.guard }], guard := some (1, true) }) (v := ?_) rfl (by as_aux_lemma => kernel_rfl) (by as_aux_lemma => kernel_rfl) (by as_aux_lemma => kernel_rfl) (fun _ _ _ h => h) (Or.inl ⟨by rfl, ?_⟩) (by assumption) ?_
          rotate_left
          · intro wq hSw
            go_simp
            try with_reducible rfl
          simp only [Act.put, List.setIfInBounds_toArray, List.set_cons_zero, List.set_cons_succ]
          refine wpAnyH_take (i := 3) (oi := { dst := some 137, op := Op.move (Operand.tmp 19), type := 3, pos := "law.go:68", after := #[{ on := 1, ground := Ground.guard }], guard := some (1, true) }) (v := ?_) rfl (by as_aux_lemma => kernel_rfl) (by as_aux_lemma => kernel_rfl) (by as_aux_lemma => kernel_rfl) (fun _ _ _ h => h) (Or.inl ⟨by rfl, ?_⟩) (by assumption) ?_
          rotate_left
          · intro wq hSw
            go_simp
            try with_reducible rfl
          simp only [Act.put, List.setIfInBounds_toArray, List.set_cons_zero, List.set_cons_succ]
          refine wpAnyH_take (i := 4) (oi := { dst := some 138, op := Op.binOp BinOp.eql 3 (Operand.tmp 136) (Operand.tmp 137) 3, type := 4, pos := "law.go:68", after := #[{ on := 2, ground := Ground.data }, { on := 3, ground := Ground.data }, { on := 1, ground := Ground.guard }], guard := some (1, true) }) (v := .bool true) rfl (by as_aux_lemma => kernel_rfl) (by as_aux_lemma => kernel_rfl) (by as_aux_lemma => kernel_rfl) (fun _ _ _ h => h) (Or.inl ⟨by rfl, ?_⟩) (by assumption) ?_
          · intro wq hSw
            go_simp
            try with_reducible rfl
          simp only [Act.put, List.setIfInBounds_toArray, List.set_cons_zero, List.set_cons_succ]
          refine wpAnyH_take (i := 5) (oi := { dst := some 139, op := Op.pick (Operand.tmp 135) (Operand.tmp 138) (Operand.const (Value.bool false)), type := 4, pos := "law.go:68", after := #[{ on := 1, ground := Ground.data }, { on := 4, ground := Ground.data }], guard := none }) (v := ?_) rfl (by as_aux_lemma => kernel_rfl) (by as_aux_lemma => kernel_rfl) (by as_aux_lemma => kernel_rfl) (fun _ _ _ h => h) (Or.inl ⟨by rfl, ?_⟩) (by assumption) ?_
          rotate_left
          · intro wq hSw
            go_simp
            try with_reducible rfl
          simp only [Act.put, List.setIfInBounds_toArray, List.set_cons_zero, List.set_cons_succ]
          refine wpAnyH_take (i := 6) (oi := { dst := some 140, op := Op.move (Operand.tmp 139), type := 4, pos := "law.go:68", after := #[{ on := 5, ground := Ground.data }, { on := 1, ground := Ground.chain }], guard := none }) (v := ?_) rfl (by as_aux_lemma => kernel_rfl) (by as_aux_lemma => kernel_rfl) (by as_aux_lemma => kernel_rfl) (fun _ _ _ h => h) (Or.inl ⟨by rfl, ?_⟩) (by assumption) ?_
          rotate_left
          · intro wq hSw
            go_simp
            try with_reducible rfl
          simp only [Act.put, List.setIfInBounds_toArray, List.set_cons_zero, List.set_cons_succ]
          refine wpAnyH_take (i := 7) (oi := { dst := some 141, op := Op.move (Operand.tmp 21), type := 4, pos := "law.go:68", after := #[{ on := 6, ground := Ground.guard }], guard := some (6, true) }) (v := ?_) rfl (by as_aux_lemma => kernel_rfl) (by as_aux_lemma => kernel_rfl) (by as_aux_lemma => kernel_rfl) (fun _ _ _ h => h) (Or.inl ⟨by rfl, ?_⟩) (by assumption) ?_
          rotate_left
          · intro wq hSw
            go_simp
            try with_reducible rfl
          simp only [Act.put, List.setIfInBounds_toArray, List.set_cons_zero, List.set_cons_succ]
          refine wpAnyH_take (i := 8) (oi := { dst := some 142, op := Op.move (Operand.tmp 14), type := 35, pos := "law.go:68", after := #[{ on := 6, ground := Ground.guard }], guard := some (6, true) }) (v := ?_) rfl (by as_aux_lemma => kernel_rfl) (by as_aux_lemma => kernel_rfl) (by as_aux_lemma => kernel_rfl) (fun _ _ _ h => h) (Or.inl ⟨by rfl, ?_⟩) (by assumption) ?_
          rotate_left
          · intro wq hSw
            go_simp
            try with_reducible rfl
          simp only [Act.put, List.setIfInBounds_toArray, List.set_cons_zero, List.set_cons_succ]
          refine wpAnyH_take (i := 9) (oi := { dst := some 143, op := Op.call { callee := Callee.builtin Builtin.len, args := #[Operand.tmp 142], argTypes := #[35] }, type := 3, pos := "law.go:68", after := #[{ on := 8, ground := Ground.data }, { on := 6, ground := Ground.guard }], guard := some (6, true) }) (v := ?_) rfl (by as_aux_lemma => kernel_rfl) (by as_aux_lemma => kernel_rfl) (by as_aux_lemma => kernel_rfl) (fun _ _ _ h => h) (Or.inl ⟨by rfl, ?_⟩) (by assumption) ?_
          rotate_left
          · intro wq hSw
            go_simp
            try with_reducible rfl
          simp only [Act.put, List.setIfInBounds_toArray, List.set_cons_zero, List.set_cons_succ]
          refine wpAnyH_take (i := 10) (oi := { dst := some 144, op := Op.binOp BinOp.gtr 3 (Operand.tmp 143) (Operand.const (Value.int IntKind.i64 0)) 3, type := 4, pos := "law.go:68", after := #[{ on := 9, ground := Ground.data }, { on := 6, ground := Ground.guard }], guard := some (6, true) }) (v := .bool true) rfl (by as_aux_lemma => kernel_rfl) (by as_aux_lemma => kernel_rfl) (by as_aux_lemma => kernel_rfl) (fun _ _ _ h => h) (Or.inl ⟨by rfl, ?_⟩) (by assumption) ?_
          · intro wq hSw
            go_simp
            try with_reducible rfl
          simp only [Act.put, List.setIfInBounds_toArray, List.set_cons_zero, List.set_cons_succ]
          refine wpAnyH_take (i := 11) (oi := { dst := some 145, op := Op.move (Operand.tmp 144), type := 4, pos := "law.go:68", after := #[{ on := 10, ground := Ground.data }, { on := 6, ground := Ground.chain }, { on := 6, ground := Ground.guard }], guard := some (6, true) }) (v := ?_) rfl (by as_aux_lemma => kernel_rfl) (by as_aux_lemma => kernel_rfl) (by as_aux_lemma => kernel_rfl) (fun _ _ _ h => h) (Or.inl ⟨by rfl, ?_⟩) (by assumption) ?_
          rotate_left
          · intro wq hSw
            go_simp
            try with_reducible rfl
          simp only [Act.put, List.setIfInBounds_toArray, List.set_cons_zero, List.set_cons_succ]
          refine wpAnyH_take (i := 12) (oi := { dst := some 146, op := Op.move (Operand.tmp 18), type := 35, pos := "law.go:68", after := #[{ on := 11, ground := Ground.guard }], guard := some (11, true) }) (v := ?_) rfl (by as_aux_lemma => kernel_rfl) (by as_aux_lemma => kernel_rfl) (by as_aux_lemma => kernel_rfl) (fun _ _ _ h => h) (Or.inl ⟨by rfl, ?_⟩) (by assumption) ?_
          rotate_left
          · intro wq hSw
            go_simp
            try with_reducible rfl
          simp only [Act.put, List.setIfInBounds_toArray, List.set_cons_zero, List.set_cons_succ]
          refine wpAnyH_take (i := 13) (oi := { dst := some 147, op := Op.call { callee := Callee.builtin Builtin.len, args := #[Operand.tmp 146], argTypes := #[35] }, type := 3, pos := "law.go:68", after := #[{ on := 12, ground := Ground.data }, { on := 11, ground := Ground.guard }], guard := some (11, true) }) (v := ?_) rfl (by as_aux_lemma => kernel_rfl) (by as_aux_lemma => kernel_rfl) (by as_aux_lemma => kernel_rfl) (fun _ _ _ h => h) (Or.inl ⟨by rfl, ?_⟩) (by assumption) ?_
          rotate_left
          · intro wq hSw
            go_simp
            try with_reducible rfl
          simp only [Act.put, List.setIfInBounds_toArray, List.set_cons_zero, List.set_cons_succ]
          refine wpAnyH_take (i := 14) (oi := { dst := some 148, op := Op.binOp BinOp.gtr 3 (Operand.tmp 147) (Operand.const (Value.int IntKind.i64 0)) 3, type := 4, pos := "law.go:68", after := #[{ on := 13, ground := Ground.data }, { on := 11, ground := Ground.guard }], guard := some (11, true) }) (v := .bool true) rfl (by as_aux_lemma => kernel_rfl) (by as_aux_lemma => kernel_rfl) (by as_aux_lemma => kernel_rfl) (fun _ _ _ h => h) (Or.inl ⟨by rfl, ?_⟩) (by assumption) ?_
          · intro wq hSw
            go_simp
            try with_reducible rfl
          simp only [Act.put, List.setIfInBounds_toArray, List.set_cons_zero, List.set_cons_succ]
          refine wpAnyH_take (i := 15) (oi := { dst := some 149, op := Op.pick (Operand.tmp 145) (Operand.tmp 148) (Operand.const (Value.bool false)), type := 4, pos := "law.go:68", after := #[{ on := 11, ground := Ground.data }, { on := 14, ground := Ground.data }, { on := 6, ground := Ground.guard }], guard := some (6, true) }) (v := ?_) rfl (by as_aux_lemma => kernel_rfl) (by as_aux_lemma => kernel_rfl) (by as_aux_lemma => kernel_rfl) (fun _ _ _ h => h) (Or.inl ⟨by rfl, ?_⟩) (by assumption) ?_
          rotate_left
          · intro wq hSw
            go_simp
            try with_reducible rfl
          simp only [Act.put, List.setIfInBounds_toArray, List.set_cons_zero, List.set_cons_succ]
          refine wpAnyH_take (i := 16) (oi := { dst := some 150, op := Op.binOp BinOp.eql 4 (Operand.tmp 141) (Operand.tmp 149) 4, type := 4, pos := "law.go:68", after := #[{ on := 7, ground := Ground.data }, { on := 15, ground := Ground.data }, { on := 6, ground := Ground.guard }], guard := some (6, true) }) (v := .bool true) rfl (by as_aux_lemma => kernel_rfl) (by as_aux_lemma => kernel_rfl) (by as_aux_lemma => kernel_rfl) (fun _ _ _ h => h) (Or.inl ⟨by rfl, ?_⟩) (by assumption) ?_
          · intro wq hSw
            go_simp
            try with_reducible rfl
          simp only [Act.put, List.setIfInBounds_toArray, List.set_cons_zero, List.set_cons_succ]
          refine wpAnyH_take (i := 17) (oi := { dst := some 151, op := Op.pick (Operand.tmp 140) (Operand.tmp 150) (Operand.const (Value.bool false)), type := 4, pos := "law.go:68", after := #[{ on := 6, ground := Ground.data }, { on := 16, ground := Ground.data }], guard := none }) (v := ?_) rfl (by as_aux_lemma => kernel_rfl) (by as_aux_lemma => kernel_rfl) (by as_aux_lemma => kernel_rfl) (fun _ _ _ h => h) (Or.inl ⟨by rfl, ?_⟩) (by assumption) ?_
          rotate_left
          · intro wq hSw
            go_simp
            try with_reducible rfl
          simp only [Act.put, List.setIfInBounds_toArray, List.set_cons_zero, List.set_cons_succ]
          refine wpAnyH_take (i := 18) (oi := { dst := some 152, op := Op.move (Operand.tmp 151), type := 4, pos := "law.go:68", after := #[{ on := 17, ground := Ground.data }, { on := 11, ground := Ground.chain }], guard := none }) (v := ?_) rfl (by as_aux_lemma => kernel_rfl) (by as_aux_lemma => kernel_rfl) (by as_aux_lemma => kernel_rfl) (fun _ _ _ h => h) (Or.inl ⟨by rfl, ?_⟩) (by assumption) ?_
          rotate_left
          · intro wq hSw
            go_simp
            try with_reducible rfl
          simp only [Act.put, List.setIfInBounds_toArray, List.set_cons_zero, List.set_cons_succ]
          refine wpAnyH_take (i := 19) (oi := { dst := some 153, op := Op.indexAddr 43 (Operand.tmp 22) (Operand.const (Value.int IntKind.i64 0)), type := 0, pos := "law.go:68", after := #[{ on := 18, ground := Ground.guard }], guard := some (18, true) }) (v := ?_) rfl (by as_aux_lemma => kernel_rfl) (by as_aux_lemma => kernel_rfl) (by as_aux_lemma => kernel_rfl) (fun _ _ _ h => h) (Or.inl ⟨by rfl, ?_⟩) (by assumption) ?_
          rotate_left
          · intro wq hSw
            go_simp
            try with_reducible rfl
          simp only [Act.put, List.setIfInBounds_toArray, List.set_cons_zero, List.set_cons_succ]
          refine wpAnyH_take (i := 20) (oi := { dst := some 154, op := Op.load 39 (Operand.tmp 153), type := 39, pos := "law.go:68", after := #[{ on := 19, ground := Ground.data }, { on := 18, ground := Ground.guard }], guard := some (18, true) }) (v := ?_) rfl (by as_aux_lemma => kernel_rfl) (by as_aux_lemma => kernel_rfl) (by as_aux_lemma => kernel_rfl) (fun _ _ _ h => h) (Or.inl ⟨by rfl, ?_⟩) (by assumption) ?_
          rotate_left
          · intro wq hSw
            have h0 := hSw.1.cell 0 _ rfl; have h1 := hSw.1.cell 1 _ rfl; have h2 := hSw.1.cell 2 _ rfl
            go_simp
            try with_reducible rfl
          simp only [Act.put, List.setIfInBounds_toArray, List.set_cons_zero, List.set_cons_succ]
          refine wpAnyH_take (i := 21) (oi := { dst := some 155, op := Op.load 23 (Operand.tmp 5), type := 23, pos := "law.go:68", after := #[{ on := 18, ground := Ground.guard }], guard := some (18, true) }) (v := ?_) rfl (by as_aux_lemma => kernel_rfl) (by as_aux_lemma => kernel_rfl) (by as_aux_lemma => kernel_rfl) (fun _ _ _ h => h) (Or.inl ⟨by rfl, ?_⟩) (by assumption) ?_
          rotate_left
          · intro wq hSw
            have h0 := hSw.2.1.cell 0 _ rfl; have h1 := hSw.2.1.cell 1 _ rfl; have h2 := hSw.2.1.cell 2 _ rfl; have h3 := hSw.2.1.cell 3 _ rfl; have h4 := hSw.2.1.cell 4 _ rfl; have h5 := hSw.2.1.cell 5 _ rfl; have h6 := hSw.2.1.cell 6 _ rfl
            go_simp
            try with_reducible rfl
          simp only [Act.put, List.setIfInBounds_toArray, List.set_cons_zero, List.set_cons_succ]
          refine wpAnyH_take (i := 22) (oi := { dst := some 156, op := Op.move (Operand.tmp 1), type := 24, pos := "law.go:68", after := #[{ on := 18, ground := Ground.guard }], guard := some (18, true) }) (v := ?_) rfl (by as_aux_lemma => kernel_rfl) (by as_aux_lemma => kernel_rfl) (by as_aux_lemma => kernel_rfl) (fun _ _ _ h => h) (Or.inl ⟨by rfl, ?_⟩) (by assumption) ?_
          rotate_left
          · intro wq hSw
            go_simp
            try with_reducible rfl
          simp only [Act.put, List.setIfInBounds_toArray, List.set_cons_zero, List.set_cons_succ]
          refine wpAnyH_take (i := 23) (oi := { dst := some 157, op := Op.move (Operand.tmp 4), type := 3, pos := "law.go:68", after := #[{ on := 18, ground := Ground.guard }], guard := some (18, true) }) (v := ?_) rfl (by as_aux_lemma => kernel_rfl) (by as_aux_lemma => kernel_rfl) (by as_aux_lemma => kernel_rfl) (fun _ _ _ h => h) (Or.inl ⟨by rfl, ?_⟩) (by assumption) ?_
          rotate_left
          · intro wq hSw
            go_simp
            try with_reducible rfl
          simp only [Act.put, List.setIfInBounds_toArray, List.set_cons_zero, List.set_cons_succ]
          refine wpAnyH_ready (rs := [24]) (by as_aux_lemma => kernel_rfl) (by simp) ?_
          refine AllReadyH.cons (o := { dst := some 158, op := Op.call { callee := Callee.value (Operand.func 13), args := #[Operand.tmp 155, Operand.tmp 156, Operand.tmp 157, Operand.const (Value.int IntKind.i64 0)], argTypes := #[23, 24, 3, 3] }, type := 38, pos := "law.go:68", after := #[{ on := 21, ground := Ground.data }, { on := 22, ground := Ground.data }, { on := 23, ground := Ground.data }, { on := 18, ground := Ground.chain }, { on := 18, ground := Ground.guard }], guard := some (18, true) }) rfl (fun K hK => ?_) AllReadyH.nil
          go_simp
          go_at_call 13
          refine (HS0.out _ hd1.2.2).mono ?_
          rintro ea2 wa2 ⟨rfl, hba⟩
          have hd2 : Bl w7.heap.size [.int .i64 X.p, .int .i64 X.q, .int .i64 X.k, .int .i64 Y.p, .int .i64 Y.q, .int .i64 Y.k] wa2 ∧ Bl w.heap.size [.int .i64 p, .int .i64 c, .int .i64 n, .int .i64 b, .int .i64 r, .int .i64 f, .int .i64 g] wa2 ∧ Below w.heap.size w wa2 := ⟨hd1.1.below hba, hd1.2.1.below hba, Below.step hd1.2.2 hba⟩
          refine hK.out _ _ hd2 (fun hHeld => ?_)
          clear hK K hba
          try simp only [Act.put, List.setIfInBounds_toArray, List.set_cons_zero, List.set_cons_succ]
          refine wpAnyH_take (i := 25) (oi := { dst := some 159, op := Op.binOp BinOp.eql 38 (Operand.tmp 154) (Operand.tmp 158) 38, type := 4, pos := "law.go:68", after := #[{ on := 20, ground := Ground.data }, { on := 24, ground := Ground.data }, { on := 18, ground := Ground.guard }], guard := some (18, true) }) (v := .bool true) rfl (by as_aux_lemma => kernel_rfl) (by as_aux_lemma => kernel_rfl) (by as_aux_lemma => kernel_rfl) (fun _ _ _ h => h) (Or.inl ⟨by rfl, ?_⟩) (by assumption) ?_
          · intro wq hSw
            have he := run_eql_lvl X wq
            go_simp
            try with_reducible rfl
          simp only [Act.put, List.setIfInBounds_toArray, List.set_cons_zero, List.set_cons_succ]
          refine wpAnyH_take (i := 26) (oi := { dst := some 160, op := Op.pick (Operand.tmp 152) (Operand.tmp 159) (Operand.const (Value.bool false)), type := 4, pos := "law.go:68", after := #[{ on := 18, ground := Ground.data }, { on := 25, ground := Ground.data }], guard := none }) (v := ?_) rfl (by as_aux_lemma => kernel_rfl) (by as_aux_lemma => kernel_rfl) (by as_aux_lemma => kernel_rfl) (fun _ _ _ h => h) (Or.inl ⟨by rfl, ?_⟩) (by assumption) ?_
          rotate_left
          · intro wq hSw
            go_simp
            try with_reducible rfl
          simp only [Act.put, List.setIfInBounds_toArray, List.set_cons_zero, List.set_cons_succ]
          refine wpAnyH_take (i := 27) (oi := { dst := some 161, op := Op.move (Operand.tmp 160), type := 4, pos := "law.go:68", after := #[{ on := 26, ground := Ground.data }, { on := 24, ground := Ground.chain }], guard := none }) (v := ?_) rfl (by as_aux_lemma => kernel_rfl) (by as_aux_lemma => kernel_rfl) (by as_aux_lemma => kernel_rfl) (fun _ _ _ h => h) (Or.inl ⟨by rfl, ?_⟩) (by assumption) ?_
          rotate_left
          · intro wq hSw
            go_simp
            try with_reducible rfl
          simp only [Act.put, List.setIfInBounds_toArray, List.set_cons_zero, List.set_cons_succ]
          refine wpAnyH_take (i := 28) (oi := { dst := some 162, op := Op.indexAddr 43 (Operand.tmp 22) (Operand.const (Value.int IntKind.i64 1)), type := 0, pos := "law.go:68", after := #[{ on := 27, ground := Ground.guard }], guard := some (27, true) }) (v := ?_) rfl (by as_aux_lemma => kernel_rfl) (by as_aux_lemma => kernel_rfl) (by as_aux_lemma => kernel_rfl) (fun _ _ _ h => h) (Or.inl ⟨by rfl, ?_⟩) (by assumption) ?_
          rotate_left
          · intro wq hSw
            go_simp
            try with_reducible rfl
          simp only [Act.put, List.setIfInBounds_toArray, List.set_cons_zero, List.set_cons_succ]
          refine wpAnyH_take (i := 29) (oi := { dst := some 163, op := Op.load 39 (Operand.tmp 162), type := 39, pos := "law.go:68", after := #[{ on := 28, ground := Ground.data }, { on := 27, ground := Ground.guard }], guard := some (27, true) }) (v := ?_) rfl (by as_aux_lemma => kernel_rfl) (by as_aux_lemma => kernel_rfl) (by as_aux_lemma => kernel_rfl) (fun _ _ _ h => h) (Or.inl ⟨by rfl, ?_⟩) (by assumption) ?_
          rotate_left
          · intro wq hSw
            have h0 := hSw.1.cell 3 _ rfl; have h1 := hSw.1.cell 4 _ rfl; have h2 := hSw.1.cell 5 _ rfl
            go_simp
            try with_reducible rfl
          simp only [Act.put, List.setIfInBounds_toArray, List.set_cons_zero, List.set_cons_succ]
          refine wpAnyH_take (i := 30) (oi := { dst := some 164, op := Op.load 23 (Operand.tmp 5), type := 23, pos := "law.go:68", after := #[{ on := 27, ground := Ground.guard }], guard := some (27, true) }) (v := ?_) rfl (by as_aux_lemma => kernel_rfl) (by as_aux_lemma => kernel_rfl) (by as_aux_lemma => kernel_rfl) (fun _ _ _ h => h) (Or.inl ⟨by rfl, ?_⟩) (by assumption) ?_
          rotate_left
          · intro wq hSw
            have h0 := hSw.2.1.cell 0 _ rfl; have h1 := hSw.2.1.cell 1 _ rfl; have h2 := hSw.2.1.cell 2 _ rfl; have h3 := hSw.2.1.cell 3 _ rfl; have h4 := hSw.2.1.cell 4 _ rfl; have h5 := hSw.2.1.cell 5 _ rfl; have h6 := hSw.2.1.cell 6 _ rfl
            go_simp
            try with_reducible rfl
          simp only [Act.put, List.setIfInBounds_toArray, List.set_cons_zero, List.set_cons_succ]
          refine wpAnyH_take (i := 31) (oi := { dst := some 165, op := Op.move (Operand.tmp 1), type := 24, pos := "law.go:68", after := #[{ on := 27, ground := Ground.guard }], guard := some (27, true) }) (v := ?_) rfl (by as_aux_lemma => kernel_rfl) (by as_aux_lemma => kernel_rfl) (by as_aux_lemma => kernel_rfl) (fun _ _ _ h => h) (Or.inl ⟨by rfl, ?_⟩) (by assumption) ?_
          rotate_left
          · intro wq hSw
            go_simp
            try with_reducible rfl
          simp only [Act.put, List.setIfInBounds_toArray, List.set_cons_zero, List.set_cons_succ]
          refine wpAnyH_take (i := 32) (oi := { dst := some 166, op := Op.move (Operand.tmp 4), type := 3, pos := "law.go:68", after := #[{ on := 27, ground := Ground.guard }], guard := some (27, true) }) (v := ?_) rfl (by as_aux_lemma => kernel_rfl) (by as_aux_lemma => kernel_rfl) (by as_aux_lemma => kernel_rfl) (fun _ _ _ h => h) (Or.inl ⟨by rfl, ?_⟩) (by assumption) ?_
          rotate_left
          · intro wq hSw
            go_simp
            try with_reducible rfl
          simp only [Act.put, List.setIfInBounds_toArray, List.set_cons_zero, List.set_cons_succ]
          refine wpAnyH_ready (rs := [33]) (by as_aux_lemma => kernel_rfl) (by simp) ?_
          refine AllReadyH.cons (o := { dst := some 167, op := Op.call { callee := Callee.value (Operand.func 13), args := #[Operand.tmp 164, Operand.tmp 165, Operand.tmp 166, Operand.const (Value.int IntKind.i64 1)], argTypes := #[23, 24, 3, 3] }, type := 38, pos := "law.go:68", after := #[{ on := 30, ground := Ground.data }, { on := 31, ground := Ground.data }, { on := 32, ground := Ground.data }, { on := 27, ground := Ground.chain }, { on := 27, ground := Ground.guard }], guard := some (27, true) }) rfl (fun K hK => ?_) AllReadyH.nil
          go_simp
          go_at_call 13
          refine (HS1.out _ hd2.2.2).mono ?_
          rintro ea3 wa3 ⟨rfl, hba⟩
          have hd3 : Bl w7.heap.size [.int .i64 X.p, .int .i64 X.q, .int .i64 X.k, .int .i64 Y.p, .int .i64 Y.q, .int .i64 Y.k] wa3 ∧ Bl w.heap.size [.int .i64 p, .int .i64 c, .int .i64 n, .int .i64 b, .int .i64 r, .int .i64 f, .int .i64 g] wa3 ∧ Below w.heap.size w wa3 := ⟨hd2.1.below hba, hd2.2.1.below hba, Below.step hd2.2.2 hba⟩
          refine hK.out _ _ hd3 (fun hHeld => ?_)
          clear hK K hba
          try simp only [Act.put, List.setIfInBounds_toArray, List.set_cons_zero, List.set_cons_succ]
          refine wpAnyH_take (i := 34) (oi := { dst := some 168, op := Op.binOp BinOp.eql 38 (Operand.tmp 163) (Operand.tmp 167) 38, type := 4, pos := "law.go:68", after := #[{ on := 29, ground := Ground.data }, { on := 33, ground := Ground.data }, { on := 27, ground := Ground.guard }], guard := some (27, true) }) (v := .bool true) rfl (by as_aux_lemma => kernel_rfl) (by as_aux_lemma => kernel_rfl) (by as_aux_lemma => kernel_rfl) (fun _ _ _ h => h) (Or.inl ⟨by rfl, ?_⟩) (by assumption) ?_
          · intro wq hSw
            have he := run_eql_lvl Y wq
            go_simp
            try with_reducible rfl
          simp only [Act.put, List.setIfInBounds_toArray, List.set_cons_zero, List.set_cons_succ]
          refine wpAnyH_take (i := 35) (oi := { dst := some 169, op := Op.pick (Operand.tmp 161) (Operand.tmp 168) (Operand.const (Value.bool false)), type := 4, pos := "law.go:68", after := #[{ on := 27, ground := Ground.data }, { on := 34, ground := Ground.data }], guard := none }) (v := ?_) rfl (by as_aux_lemma => kernel_rfl) (by as_aux_lemma => kernel_rfl) (by as_aux_lemma => kernel_rfl) (fun _ _ _ h => h) (Or.inl ⟨by rfl, ?_⟩) (by assumption) ?_
          rotate_left
          · intro wq hSw
            go_simp
            try with_reducible rfl
          simp only [Act.put, List.setIfInBounds_toArray, List.set_cons_zero, List.set_cons_succ]
          refine wpAnyH_take (i := 36) (oi := { dst := some 10, op := Op.assign (Operand.tmp 169), type := 4, pos := "law.go:68", after := #[{ on := 35, ground := Ground.data }, { on := 33, ground := Ground.chain }, { on := 0, ground := Ground.phase }, { on := 1, ground := Ground.phase }, { on := 2, ground := Ground.phase }, { on := 3, ground := Ground.phase }, { on := 4, ground := Ground.phase }, { on := 5, ground := Ground.phase }, { on := 6, ground := Ground.phase }, { on := 7, ground := Ground.phase }, { on := 8, ground := Ground.phase }, { on := 9, ground := Ground.phase }, { on := 10, ground := Ground.phase }, { on := 11, ground := Ground.phase }, { on := 12, ground := Ground.phase }, { on := 13, ground := Ground.phase }, { on := 14, ground := Ground.phase }, { on := 15, ground := Ground.phase }, { on := 16, ground := Ground.phase }, { on := 17, ground := Ground.phase }, { on := 18, ground := Ground.phase }, { on := 19, ground := Ground.phase }, { on := 20, ground := Ground.phase }, { on := 21, ground := Ground.phase }, { on := 22, ground := Ground.phase }, { on := 23, ground := Ground.phase }, { on := 24, ground := Ground.phase }, { on := 25, ground := Ground.phase }, { on := 26, ground := Ground.phase }, { on := 27, ground := Ground.phase }, { on := 28, ground := Ground.phase }, { on := 29, ground := Ground.phase }, { on := 30, ground := Ground.phase }, { on := 31, ground := Ground.phase }, { on := 32, ground := Ground.phase }, { on := 33, ground := Ground.phase }, { on := 34, ground := Ground.phase }, { on := 35, ground := Ground.phase }], guard := none }) (v := ?_) rfl (by as_aux_lemma => kernel_rfl) (by as_aux_lemma => kernel_rfl) (by as_aux_lemma => kernel_rfl) (fun _ _ _ h => h) (Or.inl ⟨by rfl, ?_⟩) (by assumption) ?_
          rotate_left
          · intro wq hSw
            go_simp
            try with_reducible rfl
          simp only [Act.put, List.setIfInBounds_toArray, List.set_cons_zero, List.set_cons_succ]
          refine wpAnyH_done (by as_aux_lemma => kernel_rfl) ?_ _
          go_wp2_with fail
          go_ret
          exact ⟨rfl, hd3.2.2⟩

theorem walk (a0_0 : Int) (a0_1 : Int) (a0_2 : Int) (a0_3 : Int) (a0_4 : Int) (a0_5 : Int) (a0_6 : Int) (a1 : Option Addr) (len1 cap1 : Nat) (g1 : Nat → Ord) (a2 : Int) (a3 : Int) (a4 : Int) (w : World) (_ : (Lit.int .i64 a0_0).wf = true) (_ : (Lit.int .i64 a0_1).wf = true) (_ : (Lit.int .i64 a0_2).wf = true) (_ : (Lit.int .i64 a0_3).wf = true) (_ : (Lit.int .i64 a0_4).wf = true) (_ : (Lit.int .i64 a0_5).wf = true) (_ : (Lit.int .i64 a0_6).wf = true) (w1 : OrdsAt a1 len1 g1 w) (_ : (Lit.int .i64 a2).wf = true) (_ : (Lit.int .i64 a3).wf = true) (_ : (Lit.int .i64 a4).wf = true) :
    Calls Try.prog 3 #[.agg #[.int .i64 a0_0, .int .i64 a0_1, .int .i64 a0_2, .int .i64 a0_3, .int .i64 a0_4, .int .i64 a0_5, .int .i64 a0_6], .slice a1 len1 cap1, .int .i64 a2, .int .i64 a3, .int .i64 a4] w fun e w' => e = .returned (.bool true) ∧ Below w.heap.size w w' := by
  by_cases hcfg : (1 ≤ a0_0 ∧ a0_0 ≤ 6) ∧ (1 ≤ a0_1 ∧ a0_1 ≤ 4) ∧ (1 ≤ a0_2 ∧ a0_2 ≤ 3) ∧ (1 ≤ a0_3 ∧ a0_3 ≤ 4) ∧ (0 ≤ a0_4 ∧ a0_4 ≤ 4) ∧ (1 ≤ a0_5 ∧ a0_5 ≤ 4) ∧ (1 ≤ a0_6 ∧ a0_6 ≤ 15)
  · obtain ⟨hp, hc, hn, hb, hr, hf, hg⟩ := hcfg
    by_cases hl : len1 ≤ 40
    · by_cases hF : Fine (lst len1 g1)
      · by_cases h0 : a3 = 0
        · subst h0
          exact main0 a0_0 a0_1 a0_2 a0_3 a0_4 a0_5 a0_6 a1 len1 cap1 g1 a2 a4 w hp hc hn hb hr hf hg hl w1 hF
        · by_cases h1 : a3 = 1
          · subst h1
            exact main1 a0_0 a0_1 a0_2 a0_3 a0_4 a0_5 a0_6 a1 len1 cap1 g1 a2 a4 w hp hc hn hb hr hf hg hl w1 hF
          · exact side_ a0_0 a0_1 a0_2 a0_3 a0_4 a0_5 a0_6 a1 len1 cap1 g1 a2 a3 a4 w hp hc hn hb hr hf hg hl w1 hF h0 h1
      · exact none_ a0_0 a0_1 a0_2 a0_3 a0_4 a0_5 a0_6 a1 len1 cap1 a2 a3 a4 w (fun W hW => made_no a0_0 a0_1 a0_2 a0_3 a0_4 a0_5 a0_6 a1 len1 cap1 g1 W hp hc hn hb hr hf hg hl (w1.below hW) hF)
    · exact none_ a0_0 a0_1 a0_2 a0_3 a0_4 a0_5 a0_6 a1 len1 cap1 a2 a3 a4 w (fun W _ => made_long a0_0 a0_1 a0_2 a0_3 a0_4 a0_5 a0_6 a1 len1 cap1 W hp hc hn hb hr hf hg (by omega))
  · exact none_ a0_0 a0_1 a0_2 a0_3 a0_4 a0_5 a0_6 a1 len1 cap1 a2 a3 a4 w (fun W _ => made_bad a0_0 a0_1 a0_2 a0_3 a0_4 a0_5 a0_6 a1 len1 cap1 W hcfg)
end Go.Proofs.Ytafignfoejefjaa.bookLevels
