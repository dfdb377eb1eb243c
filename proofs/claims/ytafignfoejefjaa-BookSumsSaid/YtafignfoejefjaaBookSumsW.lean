/-
  The law BookSums, walked.
-/
import Derived.Test.YtafignfoejefjaaRows
import Derived.Test.YtafignfoejefjaaKit
import Derived.Test.YtafignfoejefjaaApp
import Derived.Test.YtafignfoejefjaaQuiet
import Derived.WalkKit
import Derived.ProofKit
import Derived.OpenShut
import Derived.ShutString
import Derived.Below
import Derived.Outline
import Derived.WalkLawsBesides
import Derived.WalkSpells
import Derived.Handy
import Derived.Deep.QuietTactic
import Derived.BigQuiet
import Derived.RegionTactic
import Derived.ChangeAlike
import Derived.Lib.Hide
import Derived.Laws.Rows
import Derived.Laws.Tables
import Derived.Laws.CopyOwn
import Derived.Laws.MakeOwn
import Derived.Laws.Entries
import Derived.Laws.OwnMore
import Derived.Deep.WholeRow
import Derived.Deep.LoopGhost
import Derived.Deep.AppendLies
import Derived.Deep.Draws
import Derived.Maps.AppendAt
import Derived.OwnWalk
import Derived.Deep.RegionHeld3
import Derived.Deep.Cut
import Derived.Deep.CutRange
import Derived.Deep.DeepCutAuto
import Derived.Deep.CutBlock
import Derived.Lib.SliceRun
import Derived.IntWalk
import Derived.Test.YtafignfoejefjaaBkM
import Derived.Test.YtafignfoejefjaaBkO
import Derived.Test.YtafignfoejefjaaBkP
import Derived.Test.YtafignfoejefjaaBkQ
import Derived.Test.YtafignfoejefjaaBkL
import Derived.Test.YtafignfoejefjaaBkC
import Derived.Test.YtafignfoejefjaaBkR
import Derived.Test.YtafignfoejefjaaBkS
import Derived.Test.YtafignfoejefjaaBkV
import Derived.Test.YtafignfoejefjaaBkW
import Derived.Test.YtafignfoejefjaaBkX
import Derived.Test.YtafignfoejefjaaRules
import Derived.Test.YtafignfoejefjaaCheck
namespace Go.Proofs.Ytafignfoejefjaa.bookSums
open Go.ChangeShapes Go.WideShapes Go.ChangeAt Go.RowKit
set_option maxRecDepth 100000 in
set_option maxHeartbeats 4000000 in
theorem none_ (p c n b r f g : Int) (A : Option Addr) (ln cp : Nat) (s : Int) (w : World) (hM : ∀ W, Below w.heap.size w W → Calls Try.prog 6 #[.agg #[.int .i64 p, .int .i64 c, .int .i64 n, .int .i64 b, .int .i64 r, .int .i64 f, .int .i64 g], .slice A ln cp] W fun e w' => e = .returned (.tuple #[.agg (List.toArray [.int .i64 0, .int .i64 0, .int .i64 0, .int .i64 0, .int .i64 0, .int .i64 0, .int .i64 0, .slice none 0 0]), .bool false]) ∧ Below W.heap.size W w') : Calls Try.prog 5 #[.agg #[.int .i64 p, .int .i64 c, .int .i64 n, .int .i64 b, .int .i64 r, .int .i64 f, .int .i64 g], .slice A ln cp, .int .i64 s] w fun e w' => e = .returned (.bool true) ∧ Below w.heap.size w w' := by
  have HM := Lib.hid hM
  clear hM
  go_enter Try.func5, Try.ntmps5
  go_wp2_with fail
  have g0 : Below w.heap.size w (w.alloc (.cells (List.toArray [.int .i64 p, .int .i64 c, .int .i64 n, .int .i64 b, .int .i64 r, .int .i64 f, .int .i64 g]) 23)) := by go_grown
  refine (HM.out _ g0).mono ?_
  rintro e1 w1 ⟨rfl, hb1⟩
  have HB := Lib.hid (Below.step g0 hb1)
  clear g0 hb1
  go_wp2_with fail
  have g1 : Below w1.heap.size w1 (w1.alloc (.cells (List.toArray [.int .i64 0, .int .i64 0, .int .i64 0, .int .i64 0, .int .i64 0, .int .i64 0, .int .i64 0, .slice none 0 0]) 29)) := by go_grown
  have HB2 := Lib.hid (Below.step HB.out g1)
  clear g1
  refine (awake_is _).mono ?_
  rintro e2 w2 ⟨rfl, hb2⟩
  go_wp2_with fail
  go_ret
  exact ⟨rfl, Below.step HB2.out hb2⟩
set_option maxRecDepth 100000 in
set_option maxHeartbeats 4000000 in
theorem side_ (p c n b r f g : Int) (A : Option Addr) (ln cp : Nat) (gv : Nat → Ord) (s : Int) (w : World) (hp : 1 ≤ p ∧ p ≤ 6) (hc : 1 ≤ c ∧ c ≤ 4) (hn : 1 ≤ n ∧ n ≤ 3) (hb : 1 ≤ b ∧ b ≤ 4) (hr : 0 ≤ r ∧ r ≤ 4) (hf : 1 ≤ f ∧ f ≤ 4) (hg : 1 ≤ g ∧ g ≤ 15) (hl : ln ≤ 40) (hE : OrdsAt A ln gv w) (hF : Fine (lst ln gv)) (hs0 : s ≠ 0) (hs1 : s ≠ 1) : Calls Try.prog 5 #[.agg #[.int .i64 p, .int .i64 c, .int .i64 n, .int .i64 b, .int .i64 r, .int .i64 f, .int .i64 g], .slice A ln cp, .int .i64 s] w fun e w' => e = .returned (.bool true) ∧ Below w.heap.size w w' := by
  have HM := Lib.hid (fun (W : World) (hW : Below w.heap.size w W) => made_ok p c n b r f g A ln cp gv W hp hc hn hb hr hf hg hl (hE.below hW) hF)
  have s0 : (s != 0) = true := by rw [bne_iff_ne]; exact hs0
  have s1 : (s != 1) = true := by rw [bne_iff_ne]; exact hs1
  clear hp hc hn hb hr hf hg hl hE hF hs0 hs1
  go_enter Try.func5, Try.ntmps5
  go_wp2_with fail
  have g0 : Below w.heap.size w (w.alloc (.cells (List.toArray [.int .i64 p, .int .i64 c, .int .i64 n, .int .i64 b, .int .i64 r, .int .i64 f, .int .i64 g]) 23)) := by go_grown
  refine (HM.out _ g0).mono ?_
  rintro e1 w1 ⟨v, rfl, ho, hb1⟩
  obtain ⟨A2, c2, rfl⟩ := oshape ho
  have HB := Lib.hid (Below.step g0 hb1)
  clear g0 hb1 ho
  go_wp2_with fail
  have g1 : Below w1.heap.size w1 (w1.alloc (.cells (List.toArray [.int .i64 p, .int .i64 c, .int .i64 n, .int .i64 b, .int .i64 r, .int .i64 f, .int .i64 g, .slice A2 (lst ln gv).length c2]) 29)) := by go_grown
  have HB2 := Lib.hid (Below.step HB.out g1)
  clear g1
  refine (awake_is _).mono ?_
  rintro e2 w2 ⟨rfl, hb2⟩
  go_wp2_with fail
  go_ret
  exact ⟨rfl, Below.step HB2.out hb2⟩
/-- What stays through the law's loops. -/
structure SSt (w wr : World) (p c n b r f g : Int) (BB base : Nat) (A2 : Option Addr) (c2 : Nat) (os : List Ord) : Prop where
  cfg : Bl w.heap.size [.int .i64 p, .int .i64 c, .int .i64 n, .int .i64 b, .int .i64 r, .int .i64 f, .int .i64 g] wr
  bk : Bl BB [.int .i64 p, .int .i64 c, .int .i64 n, .int .i64 b, .int .i64 r, .int .i64 f, .int .i64 g, .slice A2 os.length c2] wr
  row : wr.ownsRow base 55 7 (.slice A2 os.length c2) os.length (ov os)
  bel : Below w.heap.size w wr
theorem SSt.below {w wr w' : World} {p c n b r f g : Int} {BB base : Nat} {A2 : Option Addr} {c2 : Nat} {os : List Ord} (h : SSt w wr p c n b r f g BB base A2 c2 os) (hb : Below wr.heap.size wr w') : SSt w w' p c n b r f g BB base A2 c2 os :=
  ⟨h.cfg.below hb, h.bk.below hb, rkept h.row hb, Below.step h.bel hb⟩
set_option maxRecDepth 100000 in
set_option maxHeartbeats 16000000 in
theorem main0 (p c n b r f g : Int) (A : Option Addr) (ln cp : Nat) (gv : Nat → Ord) (w : World) (hp : 1 ≤ p ∧ p ≤ 6) (hc : 1 ≤ c ∧ c ≤ 4) (hn : 1 ≤ n ∧ n ≤ 3) (hb : 1 ≤ b ∧ b ≤ 4) (hr : 0 ≤ r ∧ r ≤ 4) (hf : 1 ≤ f ∧ f ≤ 4) (hg : 1 ≤ g ∧ g ≤ 15) (hl : ln ≤ 40) (hE : OrdsAt A ln gv w) (hF : Fine (lst ln gv)) : Calls Try.prog 5 #[.agg #[.int .i64 p, .int .i64 c, .int .i64 n, .int .i64 b, .int .i64 r, .int .i64 f, .int .i64 g], .slice A ln cp, .int .i64 0] w fun e w' => e = .returned (.bool true) ∧ Below w.heap.size w w' := by
  have HM := Lib.hid (fun (W : World) (hW : Below w.heap.size w W) => made_ok p c n b r f g A ln cp gv W hp hc hn hb hr hf hg hl (hE.below hW) hF)
  have HN := Lib.hid (fun W => rnew_ok p c n b r f g W hp hc hn hb hr hf hg)
  have HSS := Lib.hid (fun W => shards_is p c n b r f g hn hb W)
  have hlen : (lst ln gv).length ≤ 40 := by rw [lst_len]; exact hl
  have HSH := Lib.hid (fun (W : World) (base cap : Nat) (A : Option Addr) (i : Int) (h : W.ownsRow base 55 7 (.slice A (lst ln gv).length cap) (lst ln gv).length (ov (lst ln gv))) => shard_is p c n b r f g base cap A _ (lst ln gv) i W rfl h hlen hF hn hb)
  have HBE := Lib.hid (fun (W : World) (base cap : Nat) (A : Option Addr) (x : Int) (h : W.ownsRow base 55 7 (.slice A (lst ln gv).length cap) (lst ln gv).length (ov (lst ln gv))) => best_is p c n b r f g base cap A _ (lst ln gv) x 0 W rfl h hlen hF)
  have HLV := Lib.hid (fun (W : World) (base cap : Nat) (A : Option Addr) (x : Int) (h : W.ownsRow base 55 7 (.slice A (lst ln gv).length cap) (lst ln gv).length (ov (lst ln gv))) => levels_is p c n b r f g base cap A _ (lst ln gv) x 0 W rfl h hlen hF)
  have HE := Lib.hid hE
  have HF := Lib.hid hF
  have HLN := Lib.hid hlen
  have HL := Lib.hid hl
  have HEQ := Lib.hid (sums_eq n b 0 (lst ln gv) hF hn hb)
  have m12 := mul12 hn hb
  have HM12 := Lib.hid m12
  have n1 : 1 ≤ n := hn.1
  have n2 : n ≤ 3 := hn.2
  clear hp hc hn hb hr hf hg hl hE hF hlen m12
  go_enter Try.func5, Try.ntmps5
  go_wp2_with fail
  have b0 := Bl.new w [.int .i64 p, .int .i64 c, .int .i64 n, .int .i64 b, .int .i64 r, .int .i64 f, .int .i64 g] 23
  have g0 : Below w.heap.size w (w.alloc (.cells (List.toArray [.int .i64 p, .int .i64 c, .int .i64 n, .int .i64 b, .int .i64 r, .int .i64 f, .int .i64 g]) 23)) := by go_grown
  refine (HM.out _ g0).mono ?_
  rintro e1 w1 ⟨v, rfl, ho, hb1⟩
  obtain ⟨A2, c2, rfl⟩ := oshape ho
  have g1 : Below w1.heap.size w1 (w1.alloc (.cells (List.toArray [.int .i64 p, .int .i64 c, .int .i64 n, .int .i64 b, .int .i64 r, .int .i64 f, .int .i64 g, .slice A2 (lst ln gv).length c2]) 29)) := by go_grown
  have bB := Bl.new w1 [.int .i64 p, .int .i64 c, .int .i64 n, .int .i64 b, .int .i64 r, .int .i64 f, .int .i64 g, .slice A2 (lst ln gv).length c2] 29
  obtain ⟨BB, hBB⟩ : ∃ BB, BB = w1.heap.size := ⟨_, rfl⟩
  obtain ⟨W1, hW1⟩ : ∃ W1, W1 = w1.alloc (.cells (List.toArray [.int .i64 p, .int .i64 c, .int .i64 n, .int .i64 b, .int .i64 r, .int .i64 f, .int .i64 g, .slice A2 (lst ln gv).length c2]) 29) := ⟨_, rfl⟩
  have hS1 : SSt w W1 p c n b r f g BB (w.alloc (.cells (List.toArray [.int .i64 p, .int .i64 c, .int .i64 n, .int .i64 b, .int .i64 r, .int .i64 f, .int .i64 g]) 23)).heap.size A2 c2 (lst ln gv) := by
    rw [hW1, hBB]
    exact ⟨(b0.below hb1).below g1, bB, rkept ho g1, Below.step (Below.step g0 hb1) g1⟩
  have HBB := Lib.hid hBB
  have HW1 := Lib.hid hW1
  have HS1 := Lib.hid hS1
  have r0 := hS1.cfg.cell 0 _ rfl
  have r1 := hS1.cfg.cell 1 _ rfl
  have r2 := hS1.cfg.cell 2 _ rfl
  have r3 := hS1.cfg.cell 3 _ rfl
  have r4 := hS1.cfg.cell 4 _ rfl
  have r5 := hS1.cfg.cell 5 _ rfl
  have r6 := hS1.cfg.cell 6 _ rfl
  clear b0 g0 hb1 g1 bB ho hBB hS1
  rw [hW1] at r0 r1 r2 r3 r4 r5 r6
  clear hW1
  go_wp2_with fail
  rw [← HW1.out, ← HBB.out]
  refine (HN.out _).mono ?_
  rintro e2 w2 ⟨rfl, hb2⟩
  have g2 : Below w2.heap.size w2 (w2.alloc (.cells (List.toArray [.int .i64 p, .int .i64 c, .int .i64 n, .int .i64 b, .int .i64 r, .int .i64 f, .int .i64 g]) 26)) := by go_grown
  have HS2 := Lib.hid ((HS1.out.below hb2).below g2)
  clear hb2 g2 r0 r1 r2 r3 r4 r5 r6
  go_wp2_with fail
  refine (HSS.out _).mono ?_
  rintro e3 w3 ⟨rfl, hb3⟩
  have HS3 := Lib.hid (HS2.out.below hb3)
  have m1 : 1 ≤ n * b := HM12.out.1
  have m2 : n * b ≤ 12 := HM12.out.2
  obtain ⟨NB, hNB⟩ : ∃ NB, NB = n * b := ⟨_, rfl⟩
  have HNB := Lib.hid hNB
  rw [← hNB] at m1 m2 ⊢
  clear hb3 hNB
  go_wp2_with fail
  go_loopw [11, 49] (fun t j wr => ∃ k : Nat, (k : Int) ≤ NB ∧ j = .int .i64 (k : Int) ∧ t = .int .i64 (sumK (fun o => sh n b o.n o.p) 0 (lst ln gv) k) ∧ Hid (SSt w wr p c n b r f g BB (w.alloc (.cells (List.toArray [.int .i64 p, .int .i64 c, .int .i64 n, .int .i64 b, .int .i64 r, .int .i64 f, .int .i64 g]) 23)).heap.size A2 c2 (lst ln gv))) (fun _ j _ => NB.toNat + 1 - (intOf j).toNat)
  case atStart => exact ⟨0, by omega, rfl, rfl, HS3⟩
  case round =>
    clear HS3
    obtain ⟨k, hk, rfl, rfl, HR⟩ := hrel
    have k0 : (0 : Int) ≤ (k : Int) := by omega
    have sb := sumK_bd (fun o => sh n b o.n o.p) 0 (lst ln gv) k HF.out HLN.out
    have sb2 := sumK_bd (fun o => sh n b o.n o.p) 0 (lst ln gv) (k + 1) HF.out HLN.out
    have s1 := sb.1
    have s2 := sb.2
    by_cases hlt : (k : Int) < NB
    · have q0 := HR.out.bk.cell 0 _ rfl
      have q1 := HR.out.bk.cell 1 _ rfl
      have q2 := HR.out.bk.cell 2 _ rfl
      have q3 := HR.out.bk.cell 3 _ rfl
      have q4 := HR.out.bk.cell 4 _ rfl
      have q5 := HR.out.bk.cell 5 _ rfl
      have q6 := HR.out.bk.cell 6 _ rfl
      have q7 := HR.out.bk.cell 7 _ rfl
      have hfs : fsh n b 0 (k : Int) = fun o => o.s == 0 && sh n b o.n o.p == (k : Int) := rfl
      have hq : (shl 0 (fsh n b 0 (k : Int)) (lst ln gv)).q = sumq (fun o => o.s == 0 && sh n b o.n o.p == (k : Int)) (lst ln gv) := by rw [shl_q, hfs]
      have hk1 : sumK (fun o => sh n b o.n o.p) 0 (lst ln gv) (k + 1) = sumK (fun o => sh n b o.n o.p) 0 (lst ln gv) k + (shl 0 (fsh n b 0 (k : Int)) (lst ln gv)).q := by rw [hq]; rfl
      have x1 : 0 ≤ (shl 0 (fsh n b 0 (k : Int)) (lst ln gv)).q := by rw [hq]; exact (sumq_bd _ _ HF.out).1
      have x2 : (shl 0 (fsh n b 0 (k : Int)) (lst ln gv)).q ≤ 400000 := by have := sb2.2; omega
      have HK1 := Lib.hid hk1
      have Hk := Lib.hid hlt
      clear hfs hq hk1 hk sb sb2
      generalize sumK (fun o => sh n b o.n o.p) 0 (lst ln gv) k = S at *
      go_wp2_with fail
      refine (HSH.out _ _ _ _ _ HR.out.row).mono ?_
      rintro e4 w4 ⟨rfl, hb4⟩
      have HR4 := Lib.hid (HR.out.below hb4)
      clear hb4 q0 q1 q2 q3 q4 q5 q6 q7
      obtain ⟨X, hX⟩ : ∃ X, X = shl 0 (fsh n b 0 (k : Int)) (lst ln gv) := ⟨_, rfl⟩
      obtain ⟨Y, hY⟩ : ∃ Y, Y = shl 1 (fsh n b 1 (k : Int)) (lst ln gv) := ⟨_, rfl⟩
      rw [← hX] at x1 x2 HK1
      rw [← hX, ← hY]
      clear hX hY
      have i0 : ∀ w, (Instr.index 43 (.agg #[.int .i64 X.p, .int .i64 X.q, .int .i64 X.k, .int .i64 Y.p, .int .i64 Y.q, .int .i64 Y.k]) (.int .i64 0)).run Try.prog w = .ok (.agg #[.int .i64 X.p, .int .i64 X.q, .int .i64 X.k]) w := fun _ => by kernel_rfl
      have i1 : ∀ w, (Instr.field 39 (.agg #[.int .i64 X.p, .int .i64 X.q, .int .i64 X.k]) 1).run Try.prog w = .ok (.int .i64 X.q) w := fun _ => by kernel_rfl
      go_wp2_with fail
      go_roundw
      case rel => exact ⟨k + 1, by have := Hk.out; omega, by go_num, by rw [HK1.out], HR4⟩
      case measure => have := Hk.out; simp [intOf]; omega
    · clear HSH
      have hge : NB ≤ (k : Int) := by omega
      have hkN : k = (n * b).toNat := by have := HNB.out; omega
      have hsum : sumK (fun o => sh n b o.n o.p) 0 (lst ln gv) k = sumK (fun o => o.n) 0 (lst ln gv) n.toNat := by rw [hkN]; exact HEQ.out
      rw [hsum] at s1 s2 ⊢
      obtain ⟨TT, hTT⟩ : ∃ TT, TT = sumK (fun o => o.n) 0 (lst ln gv) n.toNat := ⟨_, rfl⟩
      rw [← hTT] at s1 s2 ⊢
      have HTT := Lib.hid hTT
      have r2 := HR.out.cfg.cell 2 _ rfl
      clear hkN hsum hTT hk sb sb2 hlt HEQ HNB m1 m2
      have HS4 := HR
      clear HR
      go_wp2_with fail
      go_loopw [13, 63] (fun t j wx => ∃ q : Nat, (q : Int) ≤ n ∧ j = .int .i64 (q : Int) ∧ t = .int .i64 (sumK (fun o => o.n) 0 (lst ln gv) q) ∧ Hid (SSt w wx p c n b r f g BB (w.alloc (.cells (List.toArray [.int .i64 p, .int .i64 c, .int .i64 n, .int .i64 b, .int .i64 r, .int .i64 f, .int .i64 g]) 23)).heap.size A2 c2 (lst ln gv))) (fun _ j _ => n.toNat + 1 - (intOf j).toNat)
      case atStart => exact ⟨0, by omega, rfl, rfl, HS4⟩
      case round =>
        clear HS4 r2
        obtain ⟨q, hq, rfl, rfl, HR⟩ := hrel
        have q0 : (0 : Int) ≤ (q : Int) := by omega
        have sb := sumK_bd (fun o => o.n) 0 (lst ln gv) q HF.out HLN.out
        have t1 := sb.1
        have t2 := sb.2
        by_cases hlt : (q : Int) < n
        · have b0 := HR.out.bk.cell 0 _ rfl
          have b1 := HR.out.bk.cell 1 _ rfl
          have b2 := HR.out.bk.cell 2 _ rfl
          have b3 := HR.out.bk.cell 3 _ rfl
          have b4 := HR.out.bk.cell 4 _ rfl
          have b5 := HR.out.bk.cell 5 _ rfl
          have b6 := HR.out.bk.cell 6 _ rfl
          have b7 := HR.out.bk.cell 7 _ rfl
          have hk1 : sumK (fun o => o.n) 0 (lst ln gv) (q + 1) = sumK (fun o => o.n) 0 (lst ln gv) q + sumq (hit (q : Int) 0) (lst ln gv) := by rw [hit_key]; rfl
          have HK1 := Lib.hid hk1
          have Hq := Lib.hid hlt
          clear hk1 sb hq
          generalize sumK (fun o => o.n) 0 (lst ln gv) q = S at *
          go_wp2_with fail
          refine (HBE.out _ _ _ _ _ HR.out.row).mono ?_
          rintro e4 w4 ⟨ls, rfl, hls, hb4⟩
          have HR4 := Lib.hid (HR.out.below hb4)
          have HLS := Lib.hid hls
          clear hb4 hls b0 b1 b2 b3 b4 b5 b6 b7 HR
          have b0 := HR4.out.bk.cell 0 _ rfl
          have b1 := HR4.out.bk.cell 1 _ rfl
          have b2 := HR4.out.bk.cell 2 _ rfl
          have b3 := HR4.out.bk.cell 3 _ rfl
          have b4 := HR4.out.bk.cell 4 _ rfl
          have b5 := HR4.out.bk.cell 5 _ rfl
          have b6 := HR4.out.bk.cell 6 _ rfl
          have b7 := HR4.out.bk.cell 7 _ rfl
          go_wp2_with fail
          refine (HLV.out _ _ _ _ _ HR4.out.row).mono ?_
          rintro e5 w5 ⟨v5, ls5, rfl, hls5, ho5, hl5, hb5⟩
          obtain rfl := HLS.out.unique hls5
          obtain ⟨A5, c5, rfl⟩ := oshape ho5
          have HR5 : Hid (SSt w w5 p c n b r f g BB (w.alloc (.cells (List.toArray [.int .i64 p, .int .i64 c, .int .i64 n, .int .i64 b, .int .i64 r, .int .i64 f, .int .i64 g]) 23)).heap.size A2 c2 (lst ln gv) ∧ w5.ownsRow w4.heap.size 39 3 (.slice A5 ls.length c5) ls.length (vv ls)) := Lib.hid ⟨HR4.out.below hb5, ho5⟩
          have HL5 := Lib.hid hl5
          clear hb5 hls5 ho5 hl5 b0 b1 b2 b3 b4 b5 b6 b7 HR4
          have HSM := Lib.hid HLS.out.sums
          have hsb := sumq_bd (hit (q : Int) 0) (lst ln gv) HF.out
          have hcb := cnt_bd (hit (q : Int) 0) (lst ln gv)
          have HSB := Lib.hid (And.intro hsb hcb)
          clear hsb hcb
          have HBD := Lib.hid (HLS.out.bd HF.out HLN.out)
          obtain ⟨BP, hBP⟩ : ∃ BP, BP = bp ls := ⟨_, rfl⟩
          obtain ⟨BK, hBK⟩ : ∃ BK, BK = bk ls := ⟨_, rfl⟩
          have HTOP : Hid (∀ x ∈ ls, bet 0 x.p BP = false) := Lib.hid (by rw [hBP]; exact HLS.out.top)
          rw [← hBP, ← hBK]
          clear hBP hBK
          go_wp2_with fail
          go_loopw [15, 16, 78] (fun a1 a2 j wx => ∃ k : Nat, k ≤ ls.length ∧ j = .int .i64 (k : Int) ∧ a1 = .int .i64 (sumL (ls.take k)) ∧ a2 = .int .i64 (cntL (ls.take k)) ∧ Hid (SSt w wx p c n b r f g BB (w.alloc (.cells (List.toArray [.int .i64 p, .int .i64 c, .int .i64 n, .int .i64 b, .int .i64 r, .int .i64 f, .int .i64 g]) 23)).heap.size A2 c2 (lst ln gv) ∧ wx.ownsRow w4.heap.size 39 3 (.slice A5 ls.length c5) ls.length (vv ls))) (fun _ _ j _ => ls.length + 1 - (intOf j).toNat)
          case atStart => exact ⟨0, Nat.zero_le _, rfl, rfl, rfl, HR5⟩
          case round =>
            clear HR5
            obtain ⟨k2, hk2, rfl, rfl, rfl, HX⟩ := hrel
            have kk0 : (0 : Int) ≤ (k2 : Int) := by omega
            have bdk := sumL_bd (os := lst ln gv) (n := (q : Int)) (s := 0) (ls.take k2) (fun x hx => HBD.out x (List.mem_of_mem_take hx))
            have ltk : (ls.take k2).length ≤ 40 := by have := HL5.out; simp; omega
            have u1 : 0 ≤ sumL (ls.take k2) := bdk.1
            have u2 : sumL (ls.take k2) ≤ 16000000 := by have := bdk.2.1; omega
            have u3 : 0 ≤ cntL (ls.take k2) := bdk.2.2.1
            have u4 : cntL (ls.take k2) ≤ 1600 := by have := bdk.2.2.2; omega
            clear bdk ltk
            by_cases hl2 : k2 < ls.length
            · obtain ⟨g5, c6, hv, _, _⟩ := own_some HX.out.2 (by omega)
              injection hv with e1 e2 e3
              subst e1
              subst e3
              clear e2
              obtain ⟨x, hx⟩ : ∃ x, ls[k2]? = some x := ⟨ls[k2], List.getElem?_eq_getElem hl2⟩
              have d0 := vrow_cell (j := 0) HX.out.2 hx rfl (by omega) rfl
              have d1 := vrow_cell (j := 1) HX.out.2 hx rfl (by omega) rfl
              have d2 := vrow_cell (j := 2) HX.out.2 hx rfl (by omega) rfl
              rw [Nat.add_zero] at d0
              have hbx := HBD.out x (List.mem_of_getElem? hx)
              have v1 : 0 ≤ x.q := hbx.1
              have v2 : x.q ≤ 400000 := hbx.2.1
              have v3 : 0 ≤ x.k := hbx.2.2.1
              have v4 : x.k ≤ 40 := hbx.2.2.2
              have ht := HTOP.out x (List.mem_of_getElem? hx)
              have htt : decide (BP < x.p) = false := by simpa [bet] using ht
              have hsq := sumL_succ ls k2 x hx
              have hcq := cntL_succ ls k2 x hx
              have HSC := Lib.hid (And.intro hsq hcq)
              have h1 : (k2 : Int) < (ls.length : Int) := by omega
              have h2 : (ls.length : Int) ≤ 40 := by have := HL5.out; omega
              have HL2 := Lib.hid hl2
              clear hx hbx ht hsq hcq hl2 hk2
              generalize sumL (ls.take k2) = S1 at *
              generalize cntL (ls.take k2) = S2 at *
              have gx : ∀ wz : World, Below wz.heap.size wz (wz.alloc (.cells (List.toArray [.int .i64 x.p, .int .i64 x.q, .int .i64 x.k]) 39)) := fun wz => by go_grown
              have HGX := Lib.hid gx
              clear gx
              go_wp2_with fail
              go_roundw
              case rel => exact ⟨k2 + 1, HL2.out, by go_num, by rw [HSC.out.1], by rw [HSC.out.2], Lib.hid ⟨HX.out.1.below (HGX.out _), rkept HX.out.2 (HGX.out _)⟩⟩
              case measure => have := HL2.out; simp [intOf]; omega
            · have hke : k2 = ls.length := by omega
              subst hke
              rw [List.take_length] at u1 u2 u3 u4 ⊢
              rw [HSM.out.1] at u1 u2 ⊢
              rw [HSM.out.2] at u3 u4 ⊢
              have HX1 := Lib.hid HX.out.1
              clear HX hk2 hl2 kk0
              go_wp2_with fail
              go_loopw [21, 22, 111] (fun a1 a2 j wx => ∃ k : Nat, k ≤ ln ∧ j = .int .i64 (k : Int) ∧ a1 = .int .i64 (sumq (hit (q : Int) 0) (lst k gv)) ∧ a2 = .int .i64 (cnt (hit (q : Int) 0) (lst k gv)) ∧ Hid (SSt w wx p c n b r f g BB (w.alloc (.cells (List.toArray [.int .i64 p, .int .i64 c, .int .i64 n, .int .i64 b, .int .i64 r, .int .i64 f, .int .i64 g]) 23)).heap.size A2 c2 (lst ln gv))) (fun _ _ j _ => ln + 1 - (intOf j).toNat)
              case atStart => exact ⟨0, Nat.zero_le _, rfl, rfl, rfl, HX1⟩
              case round =>
                clear HX1
                obtain ⟨k3, hk3, rfl, rfl, rfl, HY⟩ := hrel
                have kk0 : (0 : Int) ≤ (k3 : Int) := by omega
                have bd3 := sumq_bd (hit (q : Int) 0) ((lst ln gv).take k3) (HF.out.take k3)
                have bd4 := cnt_bd (hit (q : Int) 0) ((lst ln gv).take k3)
                rw [lst_take ln gv k3 hk3, lst_len] at bd3 bd4
                have u5 : 0 ≤ sumq (hit (q : Int) 0) (lst k3 gv) := bd3.1
                have u6 : sumq (hit (q : Int) 0) (lst k3 gv) ≤ 400000 := by have := bd3.2; have := HL.out; omega
                have u7 : 0 ≤ cnt (hit (q : Int) 0) (lst k3 gv) := bd4.1
                have u8 : cnt (hit (q : Int) 0) (lst k3 gv) ≤ 40 := by have := bd4.2; have := HL.out; omega
                clear bd3 bd4
                by_cases hl3 : k3 < ln
                · obtain ⟨ad, rfl, hab, hcs⟩ := (HE.out.below HY.out.bel) (by omega)
                  have hcy := hcs k3 hl3
                  clear hcs hab
                  have hq1 : (k3 : Int) < (ln : Int) := by omega
                  have hq2 : (ln : Int) ≤ 40 := by have := HL.out; omega
                  obtain ⟨o, ho⟩ : ∃ o, o = gv k3 := ⟨_, rfl⟩
                  rw [← ho] at hcy
                  have dd0 := hcy 0 _ rfl
                  rw [Nat.add_zero] at dd0
                  have dd1 := hcy 1 _ rfl
                  rw [← add_of_add, addp _ 1 (by decide) (World.cell?_spot dd0)] at dd1
                  have dd2 := hcy 2 _ rfl
                  rw [← add_of_add, addp _ 2 (by decide) (World.cell?_spot dd0)] at dd2
                  have dd3 := hcy 3 _ rfl
                  rw [← add_of_add, addp _ 3 (by decide) (World.cell?_spot dd0)] at dd3
                  have dd4 := hcy 4 _ rfl
                  rw [← add_of_add, addp _ 4 (by decide) (World.cell?_spot dd0)] at dd4
                  have dd5 := hcy 5 _ rfl
                  rw [← add_of_add, addp _ 5 (by decide) (World.cell?_spot dd0)] at dd5
                  have dd6 := hcy 6 _ rfl
                  rw [← add_of_add, addp _ 6 (by decide) (World.cell?_spot dd0)] at dd6
                  have hof := HF.out o (List.mem_of_getElem? (by rw [ho]; exact lst_get ln gv k3 hl3))
                  have v1 : 0 ≤ o.q := hof.2.2.1
                  have v2 : o.q ≤ 9999 := hof.2.2.2
                  have hsq : sumq (hit (q : Int) 0) (lst (k3 + 1) gv) = sumq (hit (q : Int) 0) (lst k3 gv) + if hit (q : Int) 0 o = true then o.q else 0 := by rw [lst_succ, sumq_app, ← ho]; simp [sumq]
                  have hcq : cnt (hit (q : Int) 0) (lst (k3 + 1) gv) = cnt (hit (q : Int) 0) (lst k3 gv) + if hit (q : Int) 0 o = true then 1 else 0 := by rw [lst_succ, cnt_app, ← ho]; simp [cnt]
                  have HSC := Lib.hid (And.intro hsq hcq)
                  have HL3 := Lib.hid hl3
                  have HOO := Lib.hid ho
                  clear hcy hof hsq hcq hl3 hk3 ho
                  generalize sumq (hit (q : Int) 0) (lst k3 gv) = S1 at *
                  generalize cnt (hit (q : Int) 0) (lst k3 gv) = S2 at *
                  have gx : ∀ wz : World, Below wz.heap.size wz (wz.alloc (.cells (List.toArray [.int .i64 o.c, .int .i64 o.n, .int .i64 o.s, .int .i64 o.p, .int .i64 o.l, .int .i64 o.u, .int .i64 o.q]) 50)) := fun wz => by go_grown
                  have HGX := Lib.hid gx
                  clear gx
                  rcases hn : (o.n == (q : Int)) with _ | _
                  · have hh : hit (q : Int) 0 o = false := by unfold hit; rw [hn]; rfl
                    have HHH := Lib.hid hh
                    clear hh
                    go_wp2_with fail
                    go_roundw
                    case rel => exact ⟨k3 + 1, HL3.out, by go_num, by rw [HSC.out.1, HHH.out]; simp, by rw [HSC.out.2, HHH.out]; simp, Lib.hid (HY.out.below (HGX.out _))⟩
                    case measure => have := HL3.out; simp [intOf]; omega
                  · rcases hs : (o.s == 0) with _ | _
                    · have hh : hit (q : Int) 0 o = false := by unfold hit; rw [hn, hs]; rfl
                      have HHH := Lib.hid hh
                      clear hh
                      go_wp2_with fail
                      go_roundw
                      case rel => exact ⟨k3 + 1, HL3.out, by go_num, by rw [HSC.out.1, HHH.out]; simp, by rw [HSC.out.2, HHH.out]; simp, Lib.hid (HY.out.below (HGX.out _))⟩
                      case measure => have := HL3.out; simp [intOf]; omega
                    · have hh : hit (q : Int) 0 o = true := by unfold hit; rw [hn, hs]; rfl
                      have HHH := Lib.hid hh
                      clear hh
                      go_wp2_with fail
                      go_roundw
                      case rel => exact ⟨k3 + 1, HL3.out, by go_num, by rw [HSC.out.1, HHH.out]; simp, by rw [HSC.out.2, HHH.out]; simp, Lib.hid (HY.out.below (HGX.out _))⟩
                      case measure => have := HL3.out; simp [intOf]; omega
                · have hke : k3 = ln := by omega
                  subst hke
                  clear hk3 hl3 kk0
                  have HY1 := HY
                  clear HY
                  obtain ⟨S3, hS3⟩ : ∃ S3, S3 = sumq (hit (q : Int) 0) (lst k3 gv) := ⟨_, rfl⟩
                  obtain ⟨S4, hS4⟩ : ∃ S4, S4 = cnt (hit (q : Int) 0) (lst k3 gv) := ⟨_, rfl⟩
                  rw [← hS3] at u1 u2 u5 u6 HK1 ⊢
                  rw [← hS4] at u3 u4 u7 u8 ⊢
                  clear hS3 hS4
                  have n3 : (S3 != S3) = false := by simp
                  have n4 : (S4 != S4) = false := by simp
                  go_wp2_with fail
                  go_roundw
                  case rel => exact ⟨q + 1, by have := Hq.out; omega, by go_num, by rw [HK1.out], HY1⟩
                  case measure => have := Hq.out; simp [intOf]; omega
        · have hge2 : n ≤ (q : Int) := by omega
          have hqN : q = n.toNat := by omega
          have HR2 := Lib.hid HR.out.bel
          have hTq : sumK (fun o => o.n) 0 (lst ln gv) q = TT := by rw [HTT.out, hqN]
          rw [hTq] at t1 t2 ⊢
          clear sb hTq hqN hq hlt HR
          have tt : (TT == TT) = true := by simp
          go_wp2_with fail
          refine (awake_is _).mono ?_
          rintro e9 w9 ⟨rfl, hb9⟩
          have HB9 := Lib.hid (Below.step HR2.out hb9)
          clear hb9
          go_wp2_with fail
          go_ret
          exact ⟨rfl, HB9.out⟩
set_option maxRecDepth 100000 in
set_option maxHeartbeats 16000000 in
theorem main1 (p c n b r f g : Int) (A : Option Addr) (ln cp : Nat) (gv : Nat → Ord) (w : World) (hp : 1 ≤ p ∧ p ≤ 6) (hc : 1 ≤ c ∧ c ≤ 4) (hn : 1 ≤ n ∧ n ≤ 3) (hb : 1 ≤ b ∧ b ≤ 4) (hr : 0 ≤ r ∧ r ≤ 4) (hf : 1 ≤ f ∧ f ≤ 4) (hg : 1 ≤ g ∧ g ≤ 15) (hl : ln ≤ 40) (hE : OrdsAt A ln gv w) (hF : Fine (lst ln gv)) : Calls Try.prog 5 #[.agg #[.int .i64 p, .int .i64 c, .int .i64 n, .int .i64 b, .int .i64 r, .int .i64 f, .int .i64 g], .slice A ln cp, .int .i64 1] w fun e w' => e = .returned (.bool true) ∧ Below w.heap.size w w' := by
  have HM := Lib.hid (fun (W : World) (hW : Below w.heap.size w W) => made_ok p c n b r f g A ln cp gv W hp hc hn hb hr hf hg hl (hE.below hW) hF)
  have HN := Lib.hid (fun W => rnew_ok p c n b r f g W hp hc hn hb hr hf hg)
  have HSS := Lib.hid (fun W => shards_is p c n b r f g hn hb W)
  have hlen : (lst ln gv).length ≤ 40 := by rw [lst_len]; exact hl
  have HSH := Lib.hid (fun (W : World) (base cap : Nat) (A : Option Addr) (i : Int) (h : W.ownsRow base 55 7 (.slice A (lst ln gv).length cap) (lst ln gv).length (ov (lst ln gv))) => shard_is p c n b r f g base cap A _ (lst ln gv) i W rfl h hlen hF hn hb)
  have HBE := Lib.hid (fun (W : World) (base cap : Nat) (A : Option Addr) (x : Int) (h : W.ownsRow base 55 7 (.slice A (lst ln gv).length cap) (lst ln gv).length (ov (lst ln gv))) => best_is p c n b r f g base cap A _ (lst ln gv) x 1 W rfl h hlen hF)
  have HLV := Lib.hid (fun (W : World) (base cap : Nat) (A : Option Addr) (x : Int) (h : W.ownsRow base 55 7 (.slice A (lst ln gv).length cap) (lst ln gv).length (ov (lst ln gv))) => levels_is p c n b r f g base cap A _ (lst ln gv) x 1 W rfl h hlen hF)
  have HE := Lib.hid hE
  have HF := Lib.hid hF
  have HLN := Lib.hid hlen
  have HL := Lib.hid hl
  have HEQ := Lib.hid (sums_eq n b 1 (lst ln gv) hF hn hb)
  have m12 := mul12 hn hb
  have HM12 := Lib.hid m12
  have n1 : 1 ≤ n := hn.1
  have n2 : n ≤ 3 := hn.2
  clear hp hc hn hb hr hf hg hl hE hF hlen m12
  go_enter Try.func5, Try.ntmps5
  go_wp2_with fail
  have b0 := Bl.new w [.int .i64 p, .int .i64 c, .int .i64 n, .int .i64 b, .int .i64 r, .int .i64 f, .int .i64 g] 23
  have g0 : Below w.heap.size w (w.alloc (.cells (List.toArray [.int .i64 p, .int .i64 c, .int .i64 n, .int .i64 b, .int .i64 r, .int .i64 f, .int .i64 g]) 23)) := by go_grown
  refine (HM.out _ g0).mono ?_
  rintro e1 w1 ⟨v, rfl, ho, hb1⟩
  obtain ⟨A2, c2, rfl⟩ := oshape ho
  have g1 : Below w1.heap.size w1 (w1.alloc (.cells (List.toArray [.int .i64 p, .int .i64 c, .int .i64 n, .int .i64 b, .int .i64 r, .int .i64 f, .int .i64 g, .slice A2 (lst ln gv).length c2]) 29)) := by go_grown
  have bB := Bl.new w1 [.int .i64 p, .int .i64 c, .int .i64 n, .int .i64 b, .int .i64 r, .int .i64 f, .int .i64 g, .slice A2 (lst ln gv).length c2] 29
  obtain ⟨BB, hBB⟩ : ∃ BB, BB = w1.heap.size := ⟨_, rfl⟩
  obtain ⟨W1, hW1⟩ : ∃ W1, W1 = w1.alloc (.cells (List.toArray [.int .i64 p, .int .i64 c, .int .i64 n, .int .i64 b, .int .i64 r, .int .i64 f, .int .i64 g, .slice A2 (lst ln gv).length c2]) 29) := ⟨_, rfl⟩
  have hS1 : SSt w W1 p c n b r f g BB (w.alloc (.cells (List.toArray [.int .i64 p, .int .i64 c, .int .i64 n, .int .i64 b, .int .i64 r, .int .i64 f, .int .i64 g]) 23)).heap.size A2 c2 (lst ln gv) := by
    rw [hW1, hBB]
    exact ⟨(b0.below hb1).below g1, bB, rkept ho g1, Below.step (Below.step g0 hb1) g1⟩
  have HBB := Lib.hid hBB
  have HW1 := Lib.hid hW1
  have HS1 := Lib.hid hS1
  have r0 := hS1.cfg.cell 0 _ rfl
  have r1 := hS1.cfg.cell 1 _ rfl
  have r2 := hS1.cfg.cell 2 _ rfl
  have r3 := hS1.cfg.cell 3 _ rfl
  have r4 := hS1.cfg.cell 4 _ rfl
  have r5 := hS1.cfg.cell 5 _ rfl
  have r6 := hS1.cfg.cell 6 _ rfl
  clear b0 g0 hb1 g1 bB ho hBB hS1
  rw [hW1] at r0 r1 r2 r3 r4 r5 r6
  clear hW1
  go_wp2_with fail
  rw [← HW1.out, ← HBB.out]
  refine (HN.out _).mono ?_
  rintro e2 w2 ⟨rfl, hb2⟩
  have g2 : Below w2.heap.size w2 (w2.alloc (.cells (List.toArray [.int .i64 p, .int .i64 c, .int .i64 n, .int .i64 b, .int .i64 r, .int .i64 f, .int .i64 g]) 26)) := by go_grown
  have HS2 := Lib.hid ((HS1.out.below hb2).below g2)
  clear hb2 g2 r0 r1 r2 r3 r4 r5 r6
  go_wp2_with fail
  refine (HSS.out _).mono ?_
  rintro e3 w3 ⟨rfl, hb3⟩
  have HS3 := Lib.hid (HS2.out.below hb3)
  have m1 : 1 ≤ n * b := HM12.out.1
  have m2 : n * b ≤ 12 := HM12.out.2
  obtain ⟨NB, hNB⟩ : ∃ NB, NB = n * b := ⟨_, rfl⟩
  have HNB := Lib.hid hNB
  rw [← hNB] at m1 m2 ⊢
  clear hb3 hNB
  go_wp2_with fail
  go_loopw [11, 49] (fun t j wr => ∃ k : Nat, (k : Int) ≤ NB ∧ j = .int .i64 (k : Int) ∧ t = .int .i64 (sumK (fun o => sh n b o.n o.p) 1 (lst ln gv) k) ∧ Hid (SSt w wr p c n b r f g BB (w.alloc (.cells (List.toArray [.int .i64 p, .int .i64 c, .int .i64 n, .int .i64 b, .int .i64 r, .int .i64 f, .int .i64 g]) 23)).heap.size A2 c2 (lst ln gv))) (fun _ j _ => NB.toNat + 1 - (intOf j).toNat)
  case atStart => exact ⟨0, by omega, rfl, rfl, HS3⟩
  case round =>
    clear HS3
    obtain ⟨k, hk, rfl, rfl, HR⟩ := hrel
    have k0 : (0 : Int) ≤ (k : Int) := by omega
    have sb := sumK_bd (fun o => sh n b o.n o.p) 1 (lst ln gv) k HF.out HLN.out
    have sb2 := sumK_bd (fun o => sh n b o.n o.p) 1 (lst ln gv) (k + 1) HF.out HLN.out
    have s1 := sb.1
    have s2 := sb.2
    by_cases hlt : (k : Int) < NB
    · have q0 := HR.out.bk.cell 0 _ rfl
      have q1 := HR.out.bk.cell 1 _ rfl
      have q2 := HR.out.bk.cell 2 _ rfl
      have q3 := HR.out.bk.cell 3 _ rfl
      have q4 := HR.out.bk.cell 4 _ rfl
      have q5 := HR.out.bk.cell 5 _ rfl
      have q6 := HR.out.bk.cell 6 _ rfl
      have q7 := HR.out.bk.cell 7 _ rfl
      have hfs : fsh n b 1 (k : Int) = fun o => o.s == 1 && sh n b o.n o.p == (k : Int) := rfl
      have hq : (shl 1 (fsh n b 1 (k : Int)) (lst ln gv)).q = sumq (fun o => o.s == 1 && sh n b o.n o.p == (k : Int)) (lst ln gv) := by rw [shl_q, hfs]
      have hk1 : sumK (fun o => sh n b o.n o.p) 1 (lst ln gv) (k + 1) = sumK (fun o => sh n b o.n o.p) 1 (lst ln gv) k + (shl 1 (fsh n b 1 (k : Int)) (lst ln gv)).q := by rw [hq]; rfl
      have x1 : 0 ≤ (shl 1 (fsh n b 1 (k : Int)) (lst ln gv)).q := by rw [hq]; exact (sumq_bd _ _ HF.out).1
      have x2 : (shl 1 (fsh n b 1 (k : Int)) (lst ln gv)).q ≤ 400000 := by have := sb2.2; omega
      have HK1 := Lib.hid hk1
      have Hk := Lib.hid hlt
      clear hfs hq hk1 hk sb sb2
      generalize sumK (fun o => sh n b o.n o.p) 1 (lst ln gv) k = S at *
      go_wp2_with fail
      refine (HSH.out _ _ _ _ _ HR.out.row).mono ?_
      rintro e4 w4 ⟨rfl, hb4⟩
      have HR4 := Lib.hid (HR.out.below hb4)
      clear hb4 q0 q1 q2 q3 q4 q5 q6 q7
      obtain ⟨X, hX⟩ : ∃ X, X = shl 0 (fsh n b 0 (k : Int)) (lst ln gv) := ⟨_, rfl⟩
      obtain ⟨Y, hY⟩ : ∃ Y, Y = shl 1 (fsh n b 1 (k : Int)) (lst ln gv) := ⟨_, rfl⟩
      rw [← hY] at x1 x2 HK1
      rw [← hX, ← hY]
      clear hX hY
      have i0 : ∀ w, (Instr.index 43 (.agg #[.int .i64 X.p, .int .i64 X.q, .int .i64 X.k, .int .i64 Y.p, .int .i64 Y.q, .int .i64 Y.k]) (.int .i64 1)).run Try.prog w = .ok (.agg #[.int .i64 Y.p, .int .i64 Y.q, .int .i64 Y.k]) w := fun _ => by kernel_rfl
      have i1 : ∀ w, (Instr.field 39 (.agg #[.int .i64 Y.p, .int .i64 Y.q, .int .i64 Y.k]) 1).run Try.prog w = .ok (.int .i64 Y.q) w := fun _ => by kernel_rfl
      go_wp2_with fail
      go_roundw
      case rel => exact ⟨k + 1, by have := Hk.out; omega, by go_num, by rw [HK1.out], HR4⟩
      case measure => have := Hk.out; simp [intOf]; omega
    · clear HSH
      have hge : NB ≤ (k : Int) := by omega
      have hkN : k = (n * b).toNat := by have := HNB.out; omega
      have hsum : sumK (fun o => sh n b o.n o.p) 1 (lst ln gv) k = sumK (fun o => o.n) 1 (lst ln gv) n.toNat := by rw [hkN]; exact HEQ.out
      rw [hsum] at s1 s2 ⊢
      obtain ⟨TT, hTT⟩ : ∃ TT, TT = sumK (fun o => o.n) 1 (lst ln gv) n.toNat := ⟨_, rfl⟩
      rw [← hTT] at s1 s2 ⊢
      have HTT := Lib.hid hTT
      have r2 := HR.out.cfg.cell 2 _ rfl
      clear hkN hsum hTT hk sb sb2 hlt HEQ HNB m1 m2
      have HS4 := HR
      clear HR
      go_wp2_with fail
      go_loopw [13, 63] (fun t j wx => ∃ q : Nat, (q : Int) ≤ n ∧ j = .int .i64 (q : Int) ∧ t = .int .i64 (sumK (fun o => o.n) 1 (lst ln gv) q) ∧ Hid (SSt w wx p c n b r f g BB (w.alloc (.cells (List.toArray [.int .i64 p, .int .i64 c, .int .i64 n, .int .i64 b, .int .i64 r, .int .i64 f, .int .i64 g]) 23)).heap.size A2 c2 (lst ln gv))) (fun _ j _ => n.toNat + 1 - (intOf j).toNat)
      case atStart => exact ⟨0, by omega, rfl, rfl, HS4⟩
      case round =>
        clear HS4 r2
        obtain ⟨q, hq, rfl, rfl, HR⟩ := hrel
        have q0 : (0 : Int) ≤ (q : Int) := by omega
        have sb := sumK_bd (fun o => o.n) 1 (lst ln gv) q HF.out HLN.out
        have t1 := sb.1
        have t2 := sb.2
        by_cases hlt : (q : Int) < n
        · have b0 := HR.out.bk.cell 0 _ rfl
          have b1 := HR.out.bk.cell 1 _ rfl
          have b2 := HR.out.bk.cell 2 _ rfl
          have b3 := HR.out.bk.cell 3 _ rfl
          have b4 := HR.out.bk.cell 4 _ rfl
          have b5 := HR.out.bk.cell 5 _ rfl
          have b6 := HR.out.bk.cell 6 _ rfl
          have b7 := HR.out.bk.cell 7 _ rfl
          have hk1 : sumK (fun o => o.n) 1 (lst ln gv) (q + 1) = sumK (fun o => o.n) 1 (lst ln gv) q + sumq (hit (q : Int) 1) (lst ln gv) := by rw [hit_key]; rfl
          have HK1 := Lib.hid hk1
          have Hq := Lib.hid hlt
          clear hk1 sb hq
          generalize sumK (fun o => o.n) 1 (lst ln gv) q = S at *
          go_wp2_with fail
          refine (HBE.out _ _ _ _ _ HR.out.row).mono ?_
          rintro e4 w4 ⟨ls, rfl, hls, hb4⟩
          have HR4 := Lib.hid (HR.out.below hb4)
          have HLS := Lib.hid hls
          clear hb4 hls b0 b1 b2 b3 b4 b5 b6 b7 HR
          have b0 := HR4.out.bk.cell 0 _ rfl
          have b1 := HR4.out.bk.cell 1 _ rfl
          have b2 := HR4.out.bk.cell 2 _ rfl
          have b3 := HR4.out.bk.cell 3 _ rfl
          have b4 := HR4.out.bk.cell 4 _ rfl
          have b5 := HR4.out.bk.cell 5 _ rfl
          have b6 := HR4.out.bk.cell 6 _ rfl
          have b7 := HR4.out.bk.cell 7 _ rfl
          go_wp2_with fail
          refine (HLV.out _ _ _ _ _ HR4.out.row).mono ?_
          rintro e5 w5 ⟨v5, ls5, rfl, hls5, ho5, hl5, hb5⟩
          obtain rfl := HLS.out.unique hls5
          obtain ⟨A5, c5, rfl⟩ := oshape ho5
          have HR5 : Hid (SSt w w5 p c n b r f g BB (w.alloc (.cells (List.toArray [.int .i64 p, .int .i64 c, .int .i64 n, .int .i64 b, .int .i64 r, .int .i64 f, .int .i64 g]) 23)).heap.size A2 c2 (lst ln gv) ∧ w5.ownsRow w4.heap.size 39 3 (.slice A5 ls.length c5) ls.length (vv ls)) := Lib.hid ⟨HR4.out.below hb5, ho5⟩
          have HL5 := Lib.hid hl5
          clear hb5 hls5 ho5 hl5 b0 b1 b2 b3 b4 b5 b6 b7 HR4
          have HSM := Lib.hid HLS.out.sums
          have hsb := sumq_bd (hit (q : Int) 1) (lst ln gv) HF.out
          have hcb := cnt_bd (hit (q : Int) 1) (lst ln gv)
          have HSB := Lib.hid (And.intro hsb hcb)
          clear hsb hcb
          have HBD := Lib.hid (HLS.out.bd HF.out HLN.out)
          obtain ⟨BP, hBP⟩ : ∃ BP, BP = bp ls := ⟨_, rfl⟩
          obtain ⟨BK, hBK⟩ : ∃ BK, BK = bk ls := ⟨_, rfl⟩
          have HTOP : Hid (∀ x ∈ ls, bet 1 x.p BP = false) := Lib.hid (by rw [hBP]; exact HLS.out.top)
          rw [← hBP, ← hBK]
          clear hBP hBK
          go_wp2_with fail
          go_loopw [15, 16, 78] (fun a1 a2 j wx => ∃ k : Nat, k ≤ ls.length ∧ j = .int .i64 (k : Int) ∧ a1 = .int .i64 (sumL (ls.take k)) ∧ a2 = .int .i64 (cntL (ls.take k)) ∧ Hid (SSt w wx p c n b r f g BB (w.alloc (.cells (List.toArray [.int .i64 p, .int .i64 c, .int .i64 n, .int .i64 b, .int .i64 r, .int .i64 f, .int .i64 g]) 23)).heap.size A2 c2 (lst ln gv) ∧ wx.ownsRow w4.heap.size 39 3 (.slice A5 ls.length c5) ls.length (vv ls))) (fun _ _ j _ => ls.length + 1 - (intOf j).toNat)
          case atStart => exact ⟨0, Nat.zero_le _, rfl, rfl, rfl, HR5⟩
          case round =>
            clear HR5
            obtain ⟨k2, hk2, rfl, rfl, rfl, HX⟩ := hrel
            have kk0 : (0 : Int) ≤ (k2 : Int) := by omega
            have bdk := sumL_bd (os := lst ln gv) (n := (q : Int)) (s := 1) (ls.take k2) (fun x hx => HBD.out x (List.mem_of_mem_take hx))
            have ltk : (ls.take k2).length ≤ 40 := by have := HL5.out; simp; omega
            have u1 : 0 ≤ sumL (ls.take k2) := bdk.1
            have u2 : sumL (ls.take k2) ≤ 16000000 := by have := bdk.2.1; omega
            have u3 : 0 ≤ cntL (ls.take k2) := bdk.2.2.1
            have u4 : cntL (ls.take k2) ≤ 1600 := by have := bdk.2.2.2; omega
            clear bdk ltk
            by_cases hl2 : k2 < ls.length
            · obtain ⟨g5, c6, hv, _, _⟩ := own_some HX.out.2 (by omega)
              injection hv with e1 e2 e3
              subst e1
              subst e3
              clear e2
              obtain ⟨x, hx⟩ : ∃ x, ls[k2]? = some x := ⟨ls[k2], List.getElem?_eq_getElem hl2⟩
              have d0 := vrow_cell (j := 0) HX.out.2 hx rfl (by omega) rfl
              have d1 := vrow_cell (j := 1) HX.out.2 hx rfl (by omega) rfl
              have d2 := vrow_cell (j := 2) HX.out.2 hx rfl (by omega) rfl
              rw [Nat.add_zero] at d0
              have hbx := HBD.out x (List.mem_of_getElem? hx)
              have v1 : 0 ≤ x.q := hbx.1
              have v2 : x.q ≤ 400000 := hbx.2.1
              have v3 : 0 ≤ x.k := hbx.2.2.1
              have v4 : x.k ≤ 40 := hbx.2.2.2
              have ht := HTOP.out x (List.mem_of_getElem? hx)
              have htt : decide (x.p < BP) = false := by simpa [bet] using ht
              have hsq := sumL_succ ls k2 x hx
              have hcq := cntL_succ ls k2 x hx
              have HSC := Lib.hid (And.intro hsq hcq)
              have h1 : (k2 : Int) < (ls.length : Int) := by omega
              have h2 : (ls.length : Int) ≤ 40 := by have := HL5.out; omega
              have HL2 := Lib.hid hl2
              clear hx hbx ht hsq hcq hl2 hk2
              generalize sumL (ls.take k2) = S1 at *
              generalize cntL (ls.take k2) = S2 at *
              have gx : ∀ wz : World, Below wz.heap.size wz (wz.alloc (.cells (List.toArray [.int .i64 x.p, .int .i64 x.q, .int .i64 x.k]) 39)) := fun wz => by go_grown
              have HGX := Lib.hid gx
              clear gx
              go_wp2_with fail
              go_roundw
              case rel => exact ⟨k2 + 1, HL2.out, by go_num, by rw [HSC.out.1], by rw [HSC.out.2], Lib.hid ⟨HX.out.1.below (HGX.out _), rkept HX.out.2 (HGX.out _)⟩⟩
              case measure => have := HL2.out; simp [intOf]; omega
            · have hke : k2 = ls.length := by omega
              subst hke
              rw [List.take_length] at u1 u2 u3 u4 ⊢
              rw [HSM.out.1] at u1 u2 ⊢
              rw [HSM.out.2] at u3 u4 ⊢
              have HX1 := Lib.hid HX.out.1
              clear HX hk2 hl2 kk0
              go_wp2_with fail
              go_loopw [21, 22, 111] (fun a1 a2 j wx => ∃ k : Nat, k ≤ ln ∧ j = .int .i64 (k : Int) ∧ a1 = .int .i64 (sumq (hit (q : Int) 1) (lst k gv)) ∧ a2 = .int .i64 (cnt (hit (q : Int) 1) (lst k gv)) ∧ Hid (SSt w wx p c n b r f g BB (w.alloc (.cells (List.toArray [.int .i64 p, .int .i64 c, .int .i64 n, .int .i64 b, .int .i64 r, .int .i64 f, .int .i64 g]) 23)).heap.size A2 c2 (lst ln gv))) (fun _ _ j _ => ln + 1 - (intOf j).toNat)
              case atStart => exact ⟨0, Nat.zero_le _, rfl, rfl, rfl, HX1⟩
              case round =>
                clear HX1
                obtain ⟨k3, hk3, rfl, rfl, rfl, HY⟩ := hrel
                have kk0 : (0 : Int) ≤ (k3 : Int) := by omega
                have bd3 := sumq_bd (hit (q : Int) 1) ((lst ln gv).take k3) (HF.out.take k3)
                have bd4 := cnt_bd (hit (q : Int) 1) ((lst ln gv).take k3)
                rw [lst_take ln gv k3 hk3, lst_len] at bd3 bd4
                have u5 : 0 ≤ sumq (hit (q : Int) 1) (lst k3 gv) := bd3.1
                have u6 : sumq (hit (q : Int) 1) (lst k3 gv) ≤ 400000 := by have := bd3.2; have := HL.out; omega
                have u7 : 0 ≤ cnt (hit (q : Int) 1) (lst k3 gv) := bd4.1
                have u8 : cnt (hit (q : Int) 1) (lst k3 gv) ≤ 40 := by have := bd4.2; have := HL.out; omega
                clear bd3 bd4
                by_cases hl3 : k3 < ln
                · obtain ⟨ad, rfl, hab, hcs⟩ := (HE.out.below HY.out.bel) (by omega)
                  have hcy := hcs k3 hl3
                  clear hcs hab
                  have hq1 : (k3 : Int) < (ln : Int) := by omega
                  have hq2 : (ln : Int) ≤ 40 := by have := HL.out; omega
                  obtain ⟨o, ho⟩ : ∃ o, o = gv k3 := ⟨_, rfl⟩
                  rw [← ho] at hcy
                  have dd0 := hcy 0 _ rfl
                  rw [Nat.add_zero] at dd0
                  have dd1 := hcy 1 _ rfl
                  rw [← add_of_add, addp _ 1 (by decide) (World.cell?_spot dd0)] at dd1
                  have dd2 := hcy 2 _ rfl
                  rw [← add_of_add, addp _ 2 (by decide) (World.cell?_spot dd0)] at dd2
                  have dd3 := hcy 3 _ rfl
                  rw [← add_of_add, addp _ 3 (by decide) (World.cell?_spot dd0)] at dd3
                  have dd4 := hcy 4 _ rfl
                  rw [← add_of_add, addp _ 4 (by decide) (World.cell?_spot dd0)] at dd4
                  have dd5 := hcy 5 _ rfl
                  rw [← add_of_add, addp _ 5 (by decide) (World.cell?_spot dd0)] at dd5
                  have dd6 := hcy 6 _ rfl
                  rw [← add_of_add, addp _ 6 (by decide) (World.cell?_spot dd0)] at dd6
                  have hof := HF.out o (List.mem_of_getElem? (by rw [ho]; exact lst_get ln gv k3 hl3))
                  have v1 : 0 ≤ o.q := hof.2.2.1
                  have v2 : o.q ≤ 9999 := hof.2.2.2
                  have hsq : sumq (hit (q : Int) 1) (lst (k3 + 1) gv) = sumq (hit (q : Int) 1) (lst k3 gv) + if hit (q : Int) 1 o = true then o.q else 0 := by rw [lst_succ, sumq_app, ← ho]; simp [sumq]
                  have hcq : cnt (hit (q : Int) 1) (lst (k3 + 1) gv) = cnt (hit (q : Int) 1) (lst k3 gv) + if hit (q : Int) 1 o = true then 1 else 0 := by rw [lst_succ, cnt_app, ← ho]; simp [cnt]
                  have HSC := Lib.hid (And.intro hsq hcq)
                  have HL3 := Lib.hid hl3
                  have HOO := Lib.hid ho
                  clear hcy hof hsq hcq hl3 hk3 ho
                  generalize sumq (hit (q : Int) 1) (lst k3 gv) = S1 at *
                  generalize cnt (hit (q : Int) 1) (lst k3 gv) = S2 at *
                  have gx : ∀ wz : World, Below wz.heap.size wz (wz.alloc (.cells (List.toArray [.int .i64 o.c, .int .i64 o.n, .int .i64 o.s, .int .i64 o.p, .int .i64 o.l, .int .i64 o.u, .int .i64 o.q]) 50)) := fun wz => by go_grown
                  have HGX := Lib.hid gx
                  clear gx
                  rcases hn : (o.n == (q : Int)) with _ | _
                  · have hh : hit (q : Int) 1 o = false := by unfold hit; rw [hn]; rfl
                    have HHH := Lib.hid hh
                    clear hh
                    go_wp2_with fail
                    go_roundw
                    case rel => exact ⟨k3 + 1, HL3.out, by go_num, by rw [HSC.out.1, HHH.out]; simp, by rw [HSC.out.2, HHH.out]; simp, Lib.hid (HY.out.below (HGX.out _))⟩
                    case measure => have := HL3.out; simp [intOf]; omega
                  · rcases hs : (o.s == 1) with _ | _
                    · have hh : hit (q : Int) 1 o = false := by unfold hit; rw [hn, hs]; rfl
                      have HHH := Lib.hid hh
                      clear hh
                      go_wp2_with fail
                      go_roundw
                      case rel => exact ⟨k3 + 1, HL3.out, by go_num, by rw [HSC.out.1, HHH.out]; simp, by rw [HSC.out.2, HHH.out]; simp, Lib.hid (HY.out.below (HGX.out _))⟩
                      case measure => have := HL3.out; simp [intOf]; omega
                    · have hh : hit (q : Int) 1 o = true := by unfold hit; rw [hn, hs]; rfl
                      have HHH := Lib.hid hh
                      clear hh
                      go_wp2_with fail
                      go_roundw
                      case rel => exact ⟨k3 + 1, HL3.out, by go_num, by rw [HSC.out.1, HHH.out]; simp, by rw [HSC.out.2, HHH.out]; simp, Lib.hid (HY.out.below (HGX.out _))⟩
                      case measure => have := HL3.out; simp [intOf]; omega
                · have hke : k3 = ln := by omega
                  subst hke
                  clear hk3 hl3 kk0
                  have HY1 := HY
                  clear HY
                  obtain ⟨S3, hS3⟩ : ∃ S3, S3 = sumq (hit (q : Int) 1) (lst k3 gv) := ⟨_, rfl⟩
                  obtain ⟨S4, hS4⟩ : ∃ S4, S4 = cnt (hit (q : Int) 1) (lst k3 gv) := ⟨_, rfl⟩
                  rw [← hS3] at u1 u2 u5 u6 HK1 ⊢
                  rw [← hS4] at u3 u4 u7 u8 ⊢
                  clear hS3 hS4
                  have n3 : (S3 != S3) = false := by simp
                  have n4 : (S4 != S4) = false := by simp
                  go_wp2_with fail
                  go_roundw
                  case rel => exact ⟨q + 1, by have := Hq.out; omega, by go_num, by rw [HK1.out], HY1⟩
                  case measure => have := Hq.out; simp [intOf]; omega
        · have hge2 : n ≤ (q : Int) := by omega
          have hqN : q = n.toNat := by omega
          have HR2 := Lib.hid HR.out.bel
          have hTq : sumK (fun o => o.n) 1 (lst ln gv) q = TT := by rw [HTT.out, hqN]
          rw [hTq] at t1 t2 ⊢
          clear sb hTq hqN hq hlt HR
          have tt : (TT == TT) = true := by simp
          go_wp2_with fail
          refine (awake_is _).mono ?_
          rintro e9 w9 ⟨rfl, hb9⟩
          have HB9 := Lib.hid (Below.step HR2.out hb9)
          clear hb9
          go_wp2_with fail
          go_ret
          exact ⟨rfl, HB9.out⟩
theorem walk (a0_0 : Int) (a0_1 : Int) (a0_2 : Int) (a0_3 : Int) (a0_4 : Int) (a0_5 : Int) (a0_6 : Int) (a1 : Option Addr) (len1 cap1 : Nat) (g1 : Nat → Ord) (a2 : Int) (w : World) (_ : (Lit.int .i64 a0_0).wf = true) (_ : (Lit.int .i64 a0_1).wf = true) (_ : (Lit.int .i64 a0_2).wf = true) (_ : (Lit.int .i64 a0_3).wf = true) (_ : (Lit.int .i64 a0_4).wf = true) (_ : (Lit.int .i64 a0_5).wf = true) (_ : (Lit.int .i64 a0_6).wf = true) (w1 : OrdsAt a1 len1 g1 w) (_ : (Lit.int .i64 a2).wf = true) :
    Calls Try.prog 5 #[.agg #[.int .i64 a0_0, .int .i64 a0_1, .int .i64 a0_2, .int .i64 a0_3, .int .i64 a0_4, .int .i64 a0_5, .int .i64 a0_6], .slice a1 len1 cap1, .int .i64 a2] w fun e w' => e = .returned (.bool true) ∧ Below w.heap.size w w' := by
  by_cases hcfg : (1 ≤ a0_0 ∧ a0_0 ≤ 6) ∧ (1 ≤ a0_1 ∧ a0_1 ≤ 4) ∧ (1 ≤ a0_2 ∧ a0_2 ≤ 3) ∧ (1 ≤ a0_3 ∧ a0_3 ≤ 4) ∧ (0 ≤ a0_4 ∧ a0_4 ≤ 4) ∧ (1 ≤ a0_5 ∧ a0_5 ≤ 4) ∧ (1 ≤ a0_6 ∧ a0_6 ≤ 15)
  · obtain ⟨hp, hc, hn, hb, hr, hf, hg⟩ := hcfg
    by_cases hl : len1 ≤ 40
    · by_cases hF : Fine (lst len1 g1)
      · by_cases h0 : a2 = 0
        · subst h0
          exact main0 a0_0 a0_1 a0_2 a0_3 a0_4 a0_5 a0_6 a1 len1 cap1 g1 w hp hc hn hb hr hf hg hl w1 hF
        · by_cases h1 : a2 = 1
          · subst h1
            exact main1 a0_0 a0_1 a0_2 a0_3 a0_4 a0_5 a0_6 a1 len1 cap1 g1 w hp hc hn hb hr hf hg hl w1 hF
          · exact side_ a0_0 a0_1 a0_2 a0_3 a0_4 a0_5 a0_6 a1 len1 cap1 g1 a2 w hp hc hn hb hr hf hg hl w1 hF h0 h1
      · exact none_ a0_0 a0_1 a0_2 a0_3 a0_4 a0_5 a0_6 a1 len1 cap1 a2 w (fun W hW => made_no a0_0 a0_1 a0_2 a0_3 a0_4 a0_5 a0_6 a1 len1 cap1 g1 W hp hc hn hb hr hf hg hl (w1.below hW) hF)
    · exact none_ a0_0 a0_1 a0_2 a0_3 a0_4 a0_5 a0_6 a1 len1 cap1 a2 w (fun W _ => made_long a0_0 a0_1 a0_2 a0_3 a0_4 a0_5 a0_6 a1 len1 cap1 W hp hc hn hb hr hf hg (by omega))
  · exact none_ a0_0 a0_1 a0_2 a0_3 a0_4 a0_5 a0_6 a1 len1 cap1 a2 w (fun W _ => made_bad a0_0 a0_1 a0_2 a0_3 a0_4 a0_5 a0_6 a1 len1 cap1 W hcfg)
end Go.Proofs.Ytafignfoejefjaa.bookSums
