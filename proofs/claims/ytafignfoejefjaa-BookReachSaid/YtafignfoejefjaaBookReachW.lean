/-
  The law BookReach, walked.
-/
import Derived.Test.YtafignfoejefjaaRows
import Derived.Test.YtafignfoejefjaaKit
import Derived.Test.YtafignfoejefjaaApp
import Derived.Test.YtafignfoejefjaaQuiet
import Derived.WalkKit
import Derived.ProofKit
import Derived.OpenShut
import Derived.ShutString
import Derived.Below
import Derived.Outline
import Derived.WalkLawsBesides
import Derived.WalkSpells
import Derived.Handy
import Derived.Deep.QuietTactic
import Derived.BigQuiet
import Derived.RegionTactic
import Derived.ChangeAlike
import Derived.Lib.Hide
import Derived.Laws.Rows
import Derived.Laws.Tables
import Derived.Laws.CopyOwn
import Derived.Laws.MakeOwn
import Derived.Laws.Entries
import Derived.Laws.OwnMore
import Derived.Deep.WholeRow
import Derived.Deep.LoopGhost
import Derived.Deep.AppendLies
import Derived.Deep.Draws
import Derived.Maps.AppendAt
import Derived.OwnWalk
import Derived.Deep.RegionHeld3
import Derived.Deep.Cut
import Derived.Deep.CutRange
import Derived.Deep.DeepCutAuto
import Derived.Deep.CutBlock
import Derived.Lib.SliceRun
import Derived.IntWalk
import Derived.Test.YtafignfoejefjaaBkM
import Derived.Test.YtafignfoejefjaaBkO
import Derived.Test.YtafignfoejefjaaBkP
import Derived.Test.YtafignfoejefjaaBkQ
import Derived.Test.YtafignfoejefjaaBkL
import Derived.Test.YtafignfoejefjaaBkC
import Derived.Test.YtafignfoejefjaaBkR
import Derived.Test.YtafignfoejefjaaBkV
import Derived.Test.YtafignfoejefjaaBkW
import Derived.Test.YtafignfoejefjaaBkU
import Derived.Test.YtafignfoejefjaaBkUr
import Derived.Test.YtafignfoejefjaaBkCr
import Derived.Test.YtafignfoejefjaaBkRc
import Derived.Test.YtafignfoejefjaaBkPt
import Derived.Test.YtafignfoejefjaaRules
import Derived.Test.YtafignfoejefjaaCheck
namespace Go.Proofs.Ytafignfoejefjaa.bookReach
open Go.ChangeShapes Go.WideShapes Go.ChangeAt Go.RowKit
theorem dn (w : World) (k : Nat) : Below w.heap.size w (w.drewN k) := ⟨rfl, rfl, rfl, Nat.le_refl _, fun _ _ => rfl⟩
theorem eqTer (x : Ord) (w : World) : (Op.equalIn 9999 48 (.agg #[.int .i64 x.n, .int .i64 x.s, .int .i64 x.p, .int .i64 x.l, .int .i64 x.u]) (.agg #[.int .i64 x.n, .int .i64 x.s, .int .i64 x.p, .int .i64 x.l, .int .i64 x.u])).run Try.prog w = .ok true w := by
  have u3 := Try.underlying3
  have a3' := Try.isAgg3
  have z3 := Try.sizeOf3
  have hS : Try.prog.underlying 48 = some (.struct (Try.prog.fieldsOf 48)) := by kernel_rfl
  have hp : Try.prog.stoodInHeld 48 = false := by kernel_rfl
  rw [show (9999 : Nat) = 9998 + 1 from rfl, run_equalIn_agg w 9998 48 _ _ hS hp]
  simp only [Program.fieldsOf, Try.underlying48]
  go_simp
theorem eqOrd (x : Ord) (w : World) : (Op.equalIn 10000 50 (.agg (List.toArray [.int .i64 x.c, .int .i64 x.n, .int .i64 x.s, .int .i64 x.p, .int .i64 x.l, .int .i64 x.u, .int .i64 x.q])) (.agg (List.toArray [.int .i64 x.c, .int .i64 x.n, .int .i64 x.s, .int .i64 x.p, .int .i64 x.l, .int .i64 x.u, .int .i64 x.q]))).run Try.prog w = .ok true w := by
  have u3 := Try.underlying3
  have a3' := Try.isAgg3
  have z3 := Try.sizeOf3
  have a48 := Try.isAgg48
  have z48 := Try.sizeOf48
  have ht := eqTer x w
  have hS : Try.prog.underlying 50 = some (.struct (Try.prog.fieldsOf 50)) := by kernel_rfl
  have hp : Try.prog.stoodInHeld 50 = false := by kernel_rfl
  rw [show (10000 : Nat) = 9999 + 1 from rfl, run_equalIn_agg w 9999 50 _ _ hS hp]
  simp only [Program.fieldsOf, Try.underlying50]
  go_simp
theorem run_neq_ord (x : Ord) (w : World) : (binOp .neq 50 (.agg (List.toArray [.int .i64 x.c, .int .i64 x.n, .int .i64 x.s, .int .i64 x.p, .int .i64 x.l, .int .i64 x.u, .int .i64 x.q])) (.agg (List.toArray [.int .i64 x.c, .int .i64 x.n, .int .i64 x.s, .int .i64 x.p, .int .i64 x.l, .int .i64 x.u, .int .i64 x.q]))).run Try.prog w = .ok (.bool false) w := by
  simp only [binOp]
  simp [Op.equal, Op.maxDepth, eqOrd x w]
/-- So many orders of a participant; of nobody. -/
def nx (p c pt : Int) : List Ord → Int
  | [] => 0
  | o :: t => (if ow p c o.c = pt then 1 else 0) + nx p c pt t
theorem nx_app (p c pt : Int) (a b : List Ord) : nx p c pt (a ++ b) = nx p c pt a + nx p c pt b := by
  induction a with
  | nil => simp [nx]
  | cons x t ih => simp only [List.cons_append, nx, ih]; omega
theorem nx_bd (p c pt : Int) : ∀ os : List Ord, 0 ≤ nx p c pt os ∧ nx p c pt os ≤ (os.length : Int)
  | [] => by simp [nx]
  | o :: t => by
    have := nx_bd p c pt t
    simp only [nx, List.length_cons]
    split <;> omega
theorem nx_po (p c pt : Int) (h : 0 ≤ pt) : ∀ os : List Ord, nx p c pt os = ((po p c pt os).length : Int)
  | [] => rfl
  | o :: t => by
    have ih := nx_po p c pt h t
    simp only [nx, po, ih, List.length_append]
    by_cases e : ow p c o.c = pt
    · rw [if_pos e, if_pos ⟨h, e⟩]; simp
    · rw [if_neg e, if_neg (fun hh => e hh.2)]; simp
theorem po_at (p c pt : Int) (l : List Ord) (k : Nat) (o : Ord) (h : l[k]? = some o) (hh : 0 ≤ pt ∧ ow p c o.c = pt) : (po p c pt l)[(po p c pt (l.take k)).length]? = some o := by
  have hk : k < l.length := by
    rcases Nat.lt_or_ge k l.length with h2 | h2
    · exact h2
    · rw [List.getElem?_eq_none h2] at h; cases h
  have e : l = l.take k ++ (o :: l.drop (k + 1)) := by
    have e1 : l[k] = o := by rw [List.getElem?_eq_getElem hk] at h; injection h
    rw [← e1, ← List.drop_eq_getElem_cons hk, List.take_append_drop]
  have e2 : po p c pt l = po p c pt (l.take k) ++ po p c pt (o :: l.drop (k + 1)) := by rw [← po_app, ← e]
  rw [e2, List.getElem?_append_right (Nat.le_refl _), Nat.sub_self]
  simp only [po]
  rw [if_pos hh]
  rfl
/-- What stays. -/
structure SS (w wr : World) (p c n b r f g : Int) (o : Ord) (BB base : Nat) (A2 : Option Addr) (c2 : Nat) (os : List Ord) : Prop where
  cfg : Bl w.heap.size [.int .i64 p, .int .i64 c, .int .i64 n, .int .i64 b, .int .i64 r, .int .i64 f, .int .i64 g] wr
  ob : Bl (w.heap.size + 1) [.int .i64 o.c, .int .i64 o.n, .int .i64 o.s, .int .i64 o.p, .int .i64 o.l, .int .i64 o.u, .int .i64 o.q] wr
  bk : Bl BB [.int .i64 p, .int .i64 c, .int .i64 n, .int .i64 b, .int .i64 r, .int .i64 f, .int .i64 g, .slice A2 os.length c2] wr
  row : wr.ownsRow base 55 7 (.slice A2 os.length c2) os.length (ov os)
  bel : Below w.heap.size w wr
theorem SS.below {w wr w' : World} {p c n b r f g : Int} {o : Ord} {BB base : Nat} {A2 : Option Addr} {c2 : Nat} {os : List Ord} (h : SS w wr p c n b r f g o BB base A2 c2 os) (hb : Below wr.heap.size wr w') : SS w w' p c n b r f g o BB base A2 c2 os :=
  ⟨h.cfg.below hb, h.ob.below hb, h.bk.below hb, rkept h.row hb, Below.step h.bel hb⟩
set_option maxRecDepth 100000 in
set_option maxHeartbeats 4000000 in
theorem none_ (p c n b r f g : Int) (A : Option Addr) (ln cp : Nat) (o : Ord) (nm pt : Int) (w : World) (hM : ∀ W, Below w.heap.size w W → Calls Try.prog 6 #[.agg #[.int .i64 p, .int .i64 c, .int .i64 n, .int .i64 b, .int .i64 r, .int .i64 f, .int .i64 g], .slice A ln cp] W fun e w' => e = .returned (.tuple #[.agg (List.toArray [.int .i64 0, .int .i64 0, .int .i64 0, .int .i64 0, .int .i64 0, .int .i64 0, .int .i64 0, .slice none 0 0]), .bool false]) ∧ Below W.heap.size W w') : Calls Try.prog 4 #[.agg #[.int .i64 p, .int .i64 c, .int .i64 n, .int .i64 b, .int .i64 r, .int .i64 f, .int .i64 g], .slice A ln cp, .agg (List.toArray [.int .i64 o.c, .int .i64 o.n, .int .i64 o.s, .int .i64 o.p, .int .i64 o.l, .int .i64 o.u, .int .i64 o.q]), .int .i64 nm, .int .i64 pt] w fun e w' => e = .returned (.bool true) ∧ Below w.heap.size w w' := by
  have HM := Lib.hid hM
  clear hM
  go_enter Try.func4, Try.ntmps4
  go_wp2_with fail
  have g0 : Below w.heap.size w ((w.alloc (.cells (List.toArray [.int .i64 p, .int .i64 c, .int .i64 n, .int .i64 b, .int .i64 r, .int .i64 f, .int .i64 g]) 23)).alloc (.cells (List.toArray [.int .i64 o.c, .int .i64 o.n, .int .i64 o.s, .int .i64 o.p, .int .i64 o.l, .int .i64 o.u, .int .i64 o.q]) 50)) := by go_grown
  refine (HM.out _ g0).mono ?_
  rintro e1 w1 ⟨rfl, hb1⟩
  have HB := Lib.hid (Below.step g0 hb1)
  clear g0 hb1
  go_wp2_with fail
  have g1 : Below w1.heap.size w1 (w1.alloc (.cells (List.toArray [.int .i64 0, .int .i64 0, .int .i64 0, .int .i64 0, .int .i64 0, .int .i64 0, .int .i64 0, .slice none 0 0]) 29)) := by go_grown
  have HB2 := Lib.hid (Below.step HB.out g1)
  clear g1
  refine (awake_is _).mono ?_
  rintro e2 w2 ⟨rfl, hb2⟩
  go_wp2_with fail
  go_ret
  exact ⟨rfl, Below.step HB2.out hb2⟩
set_option maxRecDepth 100000 in
set_option maxHeartbeats 4000000 in
theorem bad_ (p c n b r f g : Int) (A : Option Addr) (ln cp : Nat) (gv : Nat → Ord) (o : Ord) (nm pt : Int) (w : World) (hp : 1 ≤ p ∧ p ≤ 6) (hc : 1 ≤ c ∧ c ≤ 4) (hn : 1 ≤ n ∧ n ≤ 3) (hb : 1 ≤ b ∧ b ≤ 4) (hr : 0 ≤ r ∧ r ≤ 4) (hf : 1 ≤ f ∧ f ≤ 4) (hg : 1 ≤ g ∧ g ≤ 15) (hl : ln ≤ 40) (hE : OrdsAt A ln gv w) (hF : Fine (lst ln gv)) (hbad : ¬ (1 ≤ o.p ∧ o.p ≤ 9999 ∧ o.q ≤ 9999)) : Calls Try.prog 4 #[.agg #[.int .i64 p, .int .i64 c, .int .i64 n, .int .i64 b, .int .i64 r, .int .i64 f, .int .i64 g], .slice A ln cp, .agg (List.toArray [.int .i64 o.c, .int .i64 o.n, .int .i64 o.s, .int .i64 o.p, .int .i64 o.l, .int .i64 o.u, .int .i64 o.q]), .int .i64 nm, .int .i64 pt] w fun e w' => e = .returned (.bool true) ∧ Below w.heap.size w w' := by
  have HM := Lib.hid (fun (W : World) (hW : Below w.heap.size w W) => made_ok p c n b r f g A ln cp gv W hp hc hn hb hr hf hg hl (hE.below hW) hF)
  clear hp hc hn hb hr hf hg hl hE hF
  go_enter Try.func4, Try.ntmps4
  go_wp2_with fail
  have b0 := (Bl.new w [.int .i64 p, .int .i64 c, .int .i64 n, .int .i64 b, .int .i64 r, .int .i64 f, .int .i64 g] 23).below (w' := ((w.alloc (.cells (List.toArray [.int .i64 p, .int .i64 c, .int .i64 n, .int .i64 b, .int .i64 r, .int .i64 f, .int .i64 g]) 23)).alloc (.cells (List.toArray [.int .i64 o.c, .int .i64 o.n, .int .i64 o.s, .int .i64 o.p, .int .i64 o.l, .int .i64 o.u, .int .i64 o.q]) 50))) (by go_grown)
  have b1 := Bl.new (w.alloc (.cells (List.toArray [.int .i64 p, .int .i64 c, .int .i64 n, .int .i64 b, .int .i64 r, .int .i64 f, .int .i64 g]) 23)) [.int .i64 o.c, .int .i64 o.n, .int .i64 o.s, .int .i64 o.p, .int .i64 o.l, .int .i64 o.u, .int .i64 o.q] 50
  rw [World.size_alloc] at b1
  have g0 : Below w.heap.size w ((w.alloc (.cells (List.toArray [.int .i64 p, .int .i64 c, .int .i64 n, .int .i64 b, .int .i64 r, .int .i64 f, .int .i64 g]) 23)).alloc (.cells (List.toArray [.int .i64 o.c, .int .i64 o.n, .int .i64 o.s, .int .i64 o.p, .int .i64 o.l, .int .i64 o.u, .int .i64 o.q]) 50)) := by go_grown
  refine (HM.out _ g0).mono ?_
  rintro e1 w1 ⟨v, rfl, ho, hb1⟩
  obtain ⟨A2, c2, rfl⟩ := oshape ho
  have g1 : Below w1.heap.size w1 (w1.alloc (.cells (List.toArray [.int .i64 p, .int .i64 c, .int .i64 n, .int .i64 b, .int .i64 r, .int .i64 f, .int .i64 g, .slice A2 (lst ln gv).length c2]) 29)) := by go_grown
  have bB := Bl.new w1 [.int .i64 p, .int .i64 c, .int .i64 n, .int .i64 b, .int .i64 r, .int .i64 f, .int .i64 g, .slice A2 (lst ln gv).length c2] 29
  obtain ⟨BB, hBB⟩ : ∃ BB, BB = w1.heap.size := ⟨_, rfl⟩
  obtain ⟨W1, hW1⟩ : ∃ W1, W1 = w1.alloc (.cells (List.toArray [.int .i64 p, .int .i64 c, .int .i64 n, .int .i64 b, .int .i64 r, .int .i64 f, .int .i64 g, .slice A2 (lst ln gv).length c2]) 29) := ⟨_, rfl⟩
  obtain ⟨RB, hRB⟩ : ∃ RB, RB = ((w.alloc (.cells (List.toArray [.int .i64 p, .int .i64 c, .int .i64 n, .int .i64 b, .int .i64 r, .int .i64 f, .int .i64 g]) 23)).alloc (.cells (List.toArray [.int .i64 o.c, .int .i64 o.n, .int .i64 o.s, .int .i64 o.p, .int .i64 o.l, .int .i64 o.u, .int .i64 o.q]) 50)).heap.size := ⟨_, rfl⟩
  rw [← hRB] at ho
  have hS1 : SS w W1 p c n b r f g o BB RB A2 c2 (lst ln gv) := by
    rw [hW1, hBB]
    exact ⟨(b0.below hb1).below g1, (b1.below hb1).below g1, bB, rkept ho g1, Below.step (Below.step g0 hb1) g1⟩
  have HBB := Lib.hid hBB
  have HW1 := Lib.hid hW1
  have HS := Lib.hid hS1
  have o3 := hS1.ob.cell 3 _ rfl
  have o6 := hS1.ob.cell 6 _ rfl
  clear b0 b1 g0 hb1 g1 bB ho hBB hS1 hRB
  rw [hW1] at o3 o6
  clear hW1
  by_cases h1 : o.p < 1
  · clear hbad
    go_wp2_with fail
    rw [← HW1.out]
    refine (awake_is _).mono ?_
    rintro e2 w2 ⟨rfl, hb2⟩
    go_wp2_with fail
    go_ret
    exact ⟨rfl, Below.step HS.out.bel hb2⟩
  have d1 : decide (o.p < 1) = false := decide_eq_false h1
  by_cases h2 : 9999 < o.p
  · clear hbad h1
    go_wp2_with fail
    rw [← HW1.out]
    refine (awake_is _).mono ?_
    rintro e2 w2 ⟨rfl, hb2⟩
    go_wp2_with fail
    go_ret
    exact ⟨rfl, Below.step HS.out.bel hb2⟩
  have d2 : decide (9999 < o.p) = false := decide_eq_false h2
  have h3 : 9999 < o.q := by omega
  clear hbad h1 h2
  go_wp2_with fail
  rw [← HW1.out]
  refine (awake_is _).mono ?_
  rintro e2 w2 ⟨rfl, hb2⟩
  go_wp2_with fail
  go_ret
  exact ⟨rfl, Below.step HS.out.bel hb2⟩
set_option maxRecDepth 100000 in
set_option maxHeartbeats 16000000 in
theorem main_ (p c n b r f g : Int) (A : Option Addr) (ln cp : Nat) (gv : Nat → Ord) (o : Ord) (nm pt : Int) (w : World) (hp : 1 ≤ p ∧ p ≤ 6) (hc : 1 ≤ c ∧ c ≤ 4) (hn : 1 ≤ n ∧ n ≤ 3) (hb : 1 ≤ b ∧ b ≤ 4) (hr : 0 ≤ r ∧ r ≤ 4) (hf : 1 ≤ f ∧ f ≤ 4) (hg : 1 ≤ g ∧ g ≤ 15) (hl : ln ≤ 40) (hE : OrdsAt A ln gv w) (hF : Fine (lst ln gv)) (ho : 1 ≤ o.p ∧ o.p ≤ 9999) (hoq : o.q ≤ 9999) : Calls Try.prog 4 #[.agg #[.int .i64 p, .int .i64 c, .int .i64 n, .int .i64 b, .int .i64 r, .int .i64 f, .int .i64 g], .slice A ln cp, .agg (List.toArray [.int .i64 o.c, .int .i64 o.n, .int .i64 o.s, .int .i64 o.p, .int .i64 o.l, .int .i64 o.u, .int .i64 o.q]), .int .i64 nm, .int .i64 pt] w fun e w' => e = .returned (.bool true) ∧ Below w.heap.size w w' := by
  have HM := Lib.hid (fun (W : World) (hW : Below w.heap.size w W) => made_ok p c n b r f g A ln cp gv W hp hc hn hb hr hf hg hl (hE.below hW) hF)
  have hlen : (lst ln gv).length ≤ 40 := by rw [lst_len]; exact hl
  have HCR := Lib.hid (fun (W : World) (base cap : Nat) (A : Option Addr) (h : W.ownsRow base 55 7 (.slice A (lst ln gv).length cap) (lst ln gv).length (ov (lst ln gv))) => cross_is p c n b r f g base cap A _ (lst ln gv) nm W rfl h hlen hF)
  have HRC := Lib.hid (fun (W : World) (hW : Below w.heap.size w W) => rcross_is A ln cp gv nm W (hE.below hW) hl hF)
  have HRE := Lib.hid (fun (W : World) (base cap : Nat) (A : Option Addr) (h : W.ownsRow base 55 7 (.slice A (lst ln gv).length cap) (lst ln gv).length (ov (lst ln gv))) => reach_is p c n b r f g base cap A _ (lst ln gv) o W rfl h hlen hF ho hp hc)
  have HRR := Lib.hid (fun (W : World) (hW : Below w.heap.size w W) => refReach_is p c n b r f g A ln cp gv o W (hE.below hW) hl hF ho hp hc)
  have HPT := Lib.hid (fun (W : World) (base cap : Nat) (A : Option Addr) (h : W.ownsRow base 55 7 (.slice A (lst ln gv).length cap) (lst ln gv).length (ov (lst ln gv))) => part_is p c n b r f g base cap A _ (lst ln gv) pt W rfl h hlen hp hc)
  have HOR := Lib.hid (fun (W : World) (base cap : Nat) (A : Option Addr) (h : W.ownsRow base 55 7 (.slice A (lst ln gv).length cap) (lst ln gv).length (ov (lst ln gv))) => orders_is p c n b r f g base cap A _ (lst ln gv) W rfl h (by omega))
  have HE := Lib.hid hE
  have HL := Lib.hid hl
  have HPR := Lib.hid (fun ps (h : PrIs (lst ln gv) nm ps) => pc_rc hF h)
  obtain ⟨m0, m1⟩ := mul24 hp hc
  have c1 : 1 ≤ c := hc.1
  have c4 : c ≤ 4 := hc.2
  have cne : (c == 0) = false := by simp; omega
  have k1 : decide (o.p < 1) = false := decide_eq_false (by omega)
  have k2 : decide (9999 < o.p) = false := decide_eq_false (by omega)
  have k3 : decide (9999 < o.q) = false := decide_eq_false (by omega)
  have HP6 := Lib.hid (And.intro hp hc)
  clear hp hc hn hb hr hf hg hl hE hF hlen ho hoq
  go_enter Try.func4, Try.ntmps4
  go_wp2_with fail
  have b0 := (Bl.new w [.int .i64 p, .int .i64 c, .int .i64 n, .int .i64 b, .int .i64 r, .int .i64 f, .int .i64 g] 23).below (w' := ((w.alloc (.cells (List.toArray [.int .i64 p, .int .i64 c, .int .i64 n, .int .i64 b, .int .i64 r, .int .i64 f, .int .i64 g]) 23)).alloc (.cells (List.toArray [.int .i64 o.c, .int .i64 o.n, .int .i64 o.s, .int .i64 o.p, .int .i64 o.l, .int .i64 o.u, .int .i64 o.q]) 50))) (by go_grown)
  have b1 := Bl.new (w.alloc (.cells (List.toArray [.int .i64 p, .int .i64 c, .int .i64 n, .int .i64 b, .int .i64 r, .int .i64 f, .int .i64 g]) 23)) [.int .i64 o.c, .int .i64 o.n, .int .i64 o.s, .int .i64 o.p, .int .i64 o.l, .int .i64 o.u, .int .i64 o.q] 50
  rw [World.size_alloc] at b1
  have g0 : Below w.heap.size w ((w.alloc (.cells (List.toArray [.int .i64 p, .int .i64 c, .int .i64 n, .int .i64 b, .int .i64 r, .int .i64 f, .int .i64 g]) 23)).alloc (.cells (List.toArray [.int .i64 o.c, .int .i64 o.n, .int .i64 o.s, .int .i64 o.p, .int .i64 o.l, .int .i64 o.u, .int .i64 o.q]) 50)) := by go_grown
  refine (HM.out _ g0).mono ?_
  rintro e1 w1 ⟨v, rfl, ho, hb1⟩
  obtain ⟨A2, c2, rfl⟩ := oshape ho
  have g1 : Below w1.heap.size w1 (w1.alloc (.cells (List.toArray [.int .i64 p, .int .i64 c, .int .i64 n, .int .i64 b, .int .i64 r, .int .i64 f, .int .i64 g, .slice A2 (lst ln gv).length c2]) 29)) := by go_grown
  have bB := Bl.new w1 [.int .i64 p, .int .i64 c, .int .i64 n, .int .i64 b, .int .i64 r, .int .i64 f, .int .i64 g, .slice A2 (lst ln gv).length c2] 29
  obtain ⟨BB, hBB⟩ : ∃ BB, BB = w1.heap.size := ⟨_, rfl⟩
  obtain ⟨W1, hW1⟩ : ∃ W1, W1 = w1.alloc (.cells (List.toArray [.int .i64 p, .int .i64 c, .int .i64 n, .int .i64 b, .int .i64 r, .int .i64 f, .int .i64 g, .slice A2 (lst ln gv).length c2]) 29) := ⟨_, rfl⟩
  obtain ⟨RB, hRB⟩ : ∃ RB, RB = ((w.alloc (.cells (List.toArray [.int .i64 p, .int .i64 c, .int .i64 n, .int .i64 b, .int .i64 r, .int .i64 f, .int .i64 g]) 23)).alloc (.cells (List.toArray [.int .i64 o.c, .int .i64 o.n, .int .i64 o.s, .int .i64 o.p, .int .i64 o.l, .int .i64 o.u, .int .i64 o.q]) 50)).heap.size := ⟨_, rfl⟩
  rw [← hRB] at ho
  have hS1 : SS w W1 p c n b r f g o BB RB A2 c2 (lst ln gv) := by
    rw [hW1, hBB]
    exact ⟨(b0.below hb1).below g1, (b1.below hb1).below g1, bB, rkept ho g1, Below.step (Below.step g0 hb1) g1⟩
  have HBB := Lib.hid hBB
  have HW1 := Lib.hid hW1
  have HS := Lib.hid hS1
  have o3 := hS1.ob.cell 3 _ rfl
  have o6 := hS1.ob.cell 6 _ rfl
  have q0 := hS1.bk.cell 0 _ rfl
  have q1 := hS1.bk.cell 1 _ rfl
  have q2 := hS1.bk.cell 2 _ rfl
  have q3 := hS1.bk.cell 3 _ rfl
  have q4 := hS1.bk.cell 4 _ rfl
  have q5 := hS1.bk.cell 5 _ rfl
  have q6 := hS1.bk.cell 6 _ rfl
  have q7 := hS1.bk.cell 7 _ rfl
  clear b0 b1 g0 hb1 g1 bB ho hS1 hRB
  rw [hW1, hBB] at q0 q1 q2 q3 q4 q5 q6 q7
  rw [hW1] at o3 o6
  clear hW1 hBB
  go_wp2_with fail
  rw [← HW1.out, ← HBB.out]
  refine (HCR.out _ _ _ _ HS.out.row).mono ?_
  rintro e2 w2 ⟨ps, rfl, hps, hb2⟩
  rw [HPR.out ps hps]
  have HT2 := Lib.hid (HS.out.below hb2)
  clear hps hb2 q0 q1 q2 q3 q4 q5 q6 q7 o3 o6 k1 k2 k3 HM
  go_wp2_with fail
  refine (HRC.out _ HT2.out.bel).mono ?_
  rintro e3 w3 ⟨rfl, hb3⟩
  have HT3 := Lib.hid (HT2.out.below hb3)
  obtain ⟨X, hX⟩ : ∃ X, X = rc (lst ln gv) nm 9999 := ⟨_, rfl⟩
  rw [← hX]
  have x1 : (X.1 != X.1) = false := by simp
  have x2 : (X.2 != X.2) = false := by simp
  obtain ⟨R, hR⟩ : ∃ R, R = rch p c o (lst ln gv) := ⟨_, rfl⟩
  rw [← hR] at HRE HRR
  have x3 : (R != R) = false := by simp
  have hd : SS w w3.drew p c n b r f g o BB RB A2 c2 (lst ln gv) := HT3.out.below (dn w3 1)
  clear hb3 hX hR HPR HRC HCR
  go_wp2_with fail
  refine wp_region_held_drew (S := fun w' => SS w w' p c n b r f g o BB RB A2 c2 (lst ln gv)) (by kernel_rfl) hd (fun hHeld => ?_)
  refine wpAnyH_take (i := 0) (oi := { dst := some 59, op := Op.move (Operand.tmp 13), type := 3, pos := "law.go:79", after := #[], guard := none }) (v := ?_) rfl (by as_aux_lemma => kernel_rfl) (by as_aux_lemma => kernel_rfl) (by as_aux_lemma => kernel_rfl) (fun _ _ _ h => h) (Or.inl ⟨by rfl, ?_⟩) (by assumption) ?_
  rotate_left
  · intro wq hSw
    go_simp
    try with_reducible rfl
  simp only [Act.put, List.setIfInBounds_toArray, List.set_cons_zero, List.set_cons_succ]
  refine wpAnyH_take (i := 1) (oi := { dst := some 60, op := Op.move (Operand.tmp 15), type := 3, pos := "law.go:79", after := #[], guard := none }) (v := ?_) rfl (by as_aux_lemma => kernel_rfl) (by as_aux_lemma => kernel_rfl) (by as_aux_lemma => kernel_rfl) (fun _ _ _ h => h) (Or.inl ⟨by rfl, ?_⟩) (by assumption) ?_
  rotate_left
  · intro wq hSw
    go_simp
    try with_reducible rfl
  simp only [Act.put, List.setIfInBounds_toArray, List.set_cons_zero, List.set_cons_succ]
  refine wpAnyH_take (i := 2) (oi := { dst := some 61, op := Op.binOp BinOp.neq 3 (Operand.tmp 59) (Operand.tmp 60) 3, type := 4, pos := "law.go:79", after := #[{ on := 0, ground := Ground.data }, { on := 1, ground := Ground.data }], guard := none }) (v := .bool false) rfl (by as_aux_lemma => kernel_rfl) (by as_aux_lemma => kernel_rfl) (by as_aux_lemma => kernel_rfl) (fun _ _ _ h => h) (Or.inl ⟨by rfl, ?_⟩) (by assumption) ?_
  · intro wq hSw
    go_simp
    try with_reducible rfl
  simp only [Act.put, List.setIfInBounds_toArray, List.set_cons_zero, List.set_cons_succ]
  refine wpAnyH_take (i := 3) (oi := { dst := some 62, op := Op.move (Operand.tmp 61), type := 4, pos := "law.go:79", after := #[{ on := 2, ground := Ground.data }], guard := none }) (v := ?_) rfl (by as_aux_lemma => kernel_rfl) (by as_aux_lemma => kernel_rfl) (by as_aux_lemma => kernel_rfl) (fun _ _ _ h => h) (Or.inl ⟨by rfl, ?_⟩) (by assumption) ?_
  rotate_left
  · intro wq hSw
    go_simp
    try with_reducible rfl
  simp only [Act.put, List.setIfInBounds_toArray, List.set_cons_zero, List.set_cons_succ]
  refine wpAnyH_take (i := 4) (oi := { dst := some 63, op := Op.move (Operand.tmp 14), type := 3, pos := "law.go:79", after := #[{ on := 3, ground := Ground.guard }], guard := some (3, false) }) (v := ?_) rfl (by as_aux_lemma => kernel_rfl) (by as_aux_lemma => kernel_rfl) (by as_aux_lemma => kernel_rfl) (fun _ _ _ h => h) (Or.inl ⟨by rfl, ?_⟩) (by assumption) ?_
  rotate_left
  · intro wq hSw
    go_simp
    try with_reducible rfl
  simp only [Act.put, List.setIfInBounds_toArray, List.set_cons_zero, List.set_cons_succ]
  refine wpAnyH_take (i := 5) (oi := { dst := some 64, op := Op.move (Operand.tmp 16), type := 3, pos := "law.go:79", after := #[{ on := 3, ground := Ground.guard }], guard := some (3, false) }) (v := ?_) rfl (by as_aux_lemma => kernel_rfl) (by as_aux_lemma => kernel_rfl) (by as_aux_lemma => kernel_rfl) (fun _ _ _ h => h) (Or.inl ⟨by rfl, ?_⟩) (by assumption) ?_
  rotate_left
  · intro wq hSw
    go_simp
    try with_reducible rfl
  simp only [Act.put, List.setIfInBounds_toArray, List.set_cons_zero, List.set_cons_succ]
  refine wpAnyH_take (i := 6) (oi := { dst := some 65, op := Op.binOp BinOp.neq 3 (Operand.tmp 63) (Operand.tmp 64) 3, type := 4, pos := "law.go:79", after := #[{ on := 4, ground := Ground.data }, { on := 5, ground := Ground.data }, { on := 3, ground := Ground.guard }], guard := some (3, false) }) (v := .bool false) rfl (by as_aux_lemma => kernel_rfl) (by as_aux_lemma => kernel_rfl) (by as_aux_lemma => kernel_rfl) (fun _ _ _ h => h) (Or.inl ⟨by rfl, ?_⟩) (by assumption) ?_
  · intro wq hSw
    go_simp
    try with_reducible rfl
  simp only [Act.put, List.setIfInBounds_toArray, List.set_cons_zero, List.set_cons_succ]
  refine wpAnyH_take (i := 7) (oi := { dst := some 66, op := Op.pick (Operand.tmp 62) (Operand.const (Value.bool true)) (Operand.tmp 65), type := 4, pos := "law.go:79", after := #[{ on := 3, ground := Ground.data }, { on := 6, ground := Ground.data }], guard := none }) (v := ?_) rfl (by as_aux_lemma => kernel_rfl) (by as_aux_lemma => kernel_rfl) (by as_aux_lemma => kernel_rfl) (fun _ _ _ h => h) (Or.inl ⟨by rfl, ?_⟩) (by assumption) ?_
  rotate_left
  · intro wq hSw
    go_simp
    try with_reducible rfl
  simp only [Act.put, List.setIfInBounds_toArray, List.set_cons_zero, List.set_cons_succ]
  refine wpAnyH_take (i := 8) (oi := { dst := some 67, op := Op.move (Operand.tmp 66), type := 4, pos := "law.go:79", after := #[{ on := 7, ground := Ground.data }, { on := 3, ground := Ground.chain }], guard := none }) (v := ?_) rfl (by as_aux_lemma => kernel_rfl) (by as_aux_lemma => kernel_rfl) (by as_aux_lemma => kernel_rfl) (fun _ _ _ h => h) (Or.inl ⟨by rfl, ?_⟩) (by assumption) ?_
  rotate_left
  · intro wq hSw
    go_simp
    try with_reducible rfl
  simp only [Act.put, List.setIfInBounds_toArray, List.set_cons_zero, List.set_cons_succ]
  refine wpAnyH_take (i := 9) (oi := { dst := some 68, op := Op.load 29 (Operand.tmp 11), type := 29, pos := "law.go:79", after := #[{ on := 8, ground := Ground.guard }], guard := some (8, false) }) (v := ?_) rfl (by as_aux_lemma => kernel_rfl) (by as_aux_lemma => kernel_rfl) (by as_aux_lemma => kernel_rfl) (fun _ _ _ h => h) (Or.inl ⟨by rfl, ?_⟩) (by assumption) ?_
  rotate_left
  · intro wq hSw
    have h0 := hSw.bk.cell 0 _ rfl; have h1 := hSw.bk.cell 1 _ rfl; have h2 := hSw.bk.cell 2 _ rfl; have h3 := hSw.bk.cell 3 _ rfl; have h4 := hSw.bk.cell 4 _ rfl; have h5 := hSw.bk.cell 5 _ rfl; have h6 := hSw.bk.cell 6 _ rfl; have h7 := hSw.bk.cell 7 _ rfl
    go_simp
    try with_reducible rfl
  simp only [Act.put, List.setIfInBounds_toArray, List.set_cons_zero, List.set_cons_succ]
  refine wpAnyH_take (i := 10) (oi := { dst := some 69, op := Op.load 50 (Operand.tmp 7), type := 50, pos := "law.go:79", after := #[{ on := 8, ground := Ground.guard }], guard := some (8, false) }) (v := ?_) rfl (by as_aux_lemma => kernel_rfl) (by as_aux_lemma => kernel_rfl) (by as_aux_lemma => kernel_rfl) (fun _ _ _ h => h) (Or.inl ⟨by rfl, ?_⟩) (by assumption) ?_
  rotate_left
  · intro wq hSw
    have h0 := hSw.ob.cell 0 _ rfl; have h1 := hSw.ob.cell 1 _ rfl; have h2 := hSw.ob.cell 2 _ rfl; have h3 := hSw.ob.cell 3 _ rfl; have h4 := hSw.ob.cell 4 _ rfl; have h5 := hSw.ob.cell 5 _ rfl; have h6 := hSw.ob.cell 6 _ rfl
    go_simp
    try with_reducible rfl
  simp only [Act.put, List.setIfInBounds_toArray, List.set_cons_zero, List.set_cons_succ]
  refine wpAnyH_take (i := 12) (oi := { dst := some 71, op := Op.load 23 (Operand.tmp 5), type := 23, pos := "law.go:79", after := #[{ on := 8, ground := Ground.guard }], guard := some (8, false) }) (v := ?_) rfl (by as_aux_lemma => kernel_rfl) (by as_aux_lemma => kernel_rfl) (by as_aux_lemma => kernel_rfl) (fun _ _ _ h => h) (Or.inl ⟨by rfl, ?_⟩) (by assumption) ?_
  rotate_left
  · intro wq hSw
    have h0 := hSw.cfg.cell 0 _ rfl; have h1 := hSw.cfg.cell 1 _ rfl; have h2 := hSw.cfg.cell 2 _ rfl; have h3 := hSw.cfg.cell 3 _ rfl; have h4 := hSw.cfg.cell 4 _ rfl; have h5 := hSw.cfg.cell 5 _ rfl; have h6 := hSw.cfg.cell 6 _ rfl
    go_simp
    try with_reducible rfl
  simp only [Act.put, List.setIfInBounds_toArray, List.set_cons_zero, List.set_cons_succ]
  refine wpAnyH_take (i := 13) (oi := { dst := some 72, op := Op.move (Operand.tmp 1), type := 24, pos := "law.go:79", after := #[{ on := 8, ground := Ground.guard }], guard := some (8, false) }) (v := ?_) rfl (by as_aux_lemma => kernel_rfl) (by as_aux_lemma => kernel_rfl) (by as_aux_lemma => kernel_rfl) (fun _ _ _ h => h) (Or.inl ⟨by rfl, ?_⟩) (by assumption) ?_
  rotate_left
  · intro wq hSw
    go_simp
    try with_reducible rfl
  simp only [Act.put, List.setIfInBounds_toArray, List.set_cons_zero, List.set_cons_succ]
  refine wpAnyH_take (i := 14) (oi := { dst := some 73, op := Op.load 50 (Operand.tmp 7), type := 50, pos := "law.go:79", after := #[{ on := 8, ground := Ground.guard }], guard := some (8, false) }) (v := ?_) rfl (by as_aux_lemma => kernel_rfl) (by as_aux_lemma => kernel_rfl) (by as_aux_lemma => kernel_rfl) (fun _ _ _ h => h) (Or.inl ⟨by rfl, ?_⟩) (by assumption) ?_
  rotate_left
  · intro wq hSw
    have h0 := hSw.ob.cell 0 _ rfl; have h1 := hSw.ob.cell 1 _ rfl; have h2 := hSw.ob.cell 2 _ rfl; have h3 := hSw.ob.cell 3 _ rfl; have h4 := hSw.ob.cell 4 _ rfl; have h5 := hSw.ob.cell 5 _ rfl; have h6 := hSw.ob.cell 6 _ rfl
    go_simp
    try with_reducible rfl
  simp only [Act.put, List.setIfInBounds_toArray, List.set_cons_zero, List.set_cons_succ]
  refine wpAnyH_ready (rs := [11]) (by as_aux_lemma => kernel_rfl) (by simp) ?_
  refine AllReadyH.cons (o := { dst := some 70, op := Op.call { callee := Callee.value (Operand.func 16), args := #[Operand.tmp 68, Operand.tmp 69], argTypes := #[29, 55] }, type := 3, pos := "law.go:79", after := #[{ on := 9, ground := Ground.data }, { on := 10, ground := Ground.data }, { on := 8, ground := Ground.chain }, { on := 8, ground := Ground.guard }], guard := some (8, false) }) rfl (fun K hK => ?_) AllReadyH.nil
  go_simp
  go_at_call 16
  refine (HRE.out _ _ _ _ hd.row).mono ?_
  rintro ea1 wa1 ⟨rfl, hba⟩
  have hd1 : SS w wa1 p c n b r f g o BB RB A2 c2 (lst ln gv) := hd.below hba
  refine hK.out _ _ hd1 (fun hHeld => ?_)
  clear hK K hba
  try simp only [Act.put, List.setIfInBounds_toArray, List.set_cons_zero, List.set_cons_succ]
  refine wpAnyH_ready (rs := [15]) (by as_aux_lemma => kernel_rfl) (by simp) ?_
  refine AllReadyH.cons (o := { dst := some 74, op := Op.call { callee := Callee.value (Operand.func 17), args := #[Operand.tmp 71, Operand.tmp 72, Operand.tmp 73], argTypes := #[23, 24, 50] }, type := 3, pos := "law.go:79", after := #[{ on := 12, ground := Ground.data }, { on := 13, ground := Ground.data }, { on := 14, ground := Ground.data }, { on := 11, ground := Ground.chain }, { on := 8, ground := Ground.guard }], guard := some (8, false) }) rfl (fun K hK => ?_) AllReadyH.nil
  go_simp
  go_at_call 17
  refine (HRR.out _ hd1.bel).mono ?_
  rintro ea2 wa2 ⟨rfl, hba⟩
  have hd2 : SS w wa2 p c n b r f g o BB RB A2 c2 (lst ln gv) := hd1.below hba
  refine hK.out _ _ hd2 (fun hHeld => ?_)
  clear hK K hba
  try simp only [Act.put, List.setIfInBounds_toArray, List.set_cons_zero, List.set_cons_succ]
  refine wpAnyH_take (i := 16) (oi := { dst := some 75, op := Op.binOp BinOp.neq 3 (Operand.tmp 70) (Operand.tmp 74) 3, type := 4, pos := "law.go:79", after := #[{ on := 11, ground := Ground.data }, { on := 15, ground := Ground.data }, { on := 8, ground := Ground.guard }], guard := some (8, false) }) (v := .bool false) rfl (by as_aux_lemma => kernel_rfl) (by as_aux_lemma => kernel_rfl) (by as_aux_lemma => kernel_rfl) (fun _ _ _ h => h) (Or.inl ⟨by rfl, ?_⟩) (by assumption) ?_
  · intro wq hSw
    go_simp
    try with_reducible rfl
  simp only [Act.put, List.setIfInBounds_toArray, List.set_cons_zero, List.set_cons_succ]
  refine wpAnyH_take (i := 17) (oi := { dst := some 76, op := Op.pick (Operand.tmp 67) (Operand.const (Value.bool true)) (Operand.tmp 75), type := 4, pos := "law.go:79", after := #[{ on := 8, ground := Ground.data }, { on := 16, ground := Ground.data }], guard := none }) (v := ?_) rfl (by as_aux_lemma => kernel_rfl) (by as_aux_lemma => kernel_rfl) (by as_aux_lemma => kernel_rfl) (fun _ _ _ h => h) (Or.inl ⟨by rfl, ?_⟩) (by assumption) ?_
  rotate_left
  · intro wq hSw
    go_simp
    try with_reducible rfl
  simp only [Act.put, List.setIfInBounds_toArray, List.set_cons_zero, List.set_cons_succ]
  refine wpAnyH_done (by as_aux_lemma => kernel_rfl) ?_ _
  have HT4 := Lib.hid hd2
  clear hd hd1 hd2 x1 x2 x3 HRE HRR hHeld HT3 HT2
  have q0 := HT4.out.bk.cell 0 _ rfl
  have q1 := HT4.out.bk.cell 1 _ rfl
  have q2 := HT4.out.bk.cell 2 _ rfl
  have q3 := HT4.out.bk.cell 3 _ rfl
  have q4 := HT4.out.bk.cell 4 _ rfl
  have q5 := HT4.out.bk.cell 5 _ rfl
  have q6 := HT4.out.bk.cell 6 _ rfl
  have q7 := HT4.out.bk.cell 7 _ rfl
  go_wp2_with fail
  refine (HPT.out _ _ _ _ HT4.out.row).mono ?_
  rintro e5 w5 ⟨v5, rfl, ho5, hb5⟩
  obtain ⟨A3, c3, rfl⟩ := oshape ho5
  have HT5 := Lib.hid (And.intro (HT4.out.below hb5) ho5)
  have HML := Lib.hid (po_len p c pt (lst ln gv))
  obtain ⟨B3, hB3⟩ : ∃ B3, B3 = wa2.heap.size := ⟨_, rfl⟩
  rw [← hB3] at HT5
  clear ho5 hb5 q0 q1 q2 q3 q4 q5 q6 q7 HPT HT4 hB3
  obtain ⟨M, hM⟩ : ∃ M, M = (po p c pt (lst ln gv)).length := ⟨_, rfl⟩
  rw [← hM] at HT5 HML ⊢
  have HMM := Lib.hid hM
  have m40 : (M : Int) ≤ 40 := by have h1 := HML.out; have := HL.out; rw [lst_len] at h1; omega
  have m00 : (0 : Int) ≤ (M : Int) := by omega
  clear hM
  go_wp2_with fail
  go_loopw [17, 82] (fun y j wr => ∃ k : Nat, k ≤ ln ∧ j = .int .i64 (k : Int) ∧ y = .int .i64 (nx p c pt (lst k gv)) ∧ Hid (SS w wr p c n b r f g o BB RB A2 c2 (lst ln gv) ∧ wr.ownsRow B3 55 7 (.slice A3 M c3) M (ov (po p c pt (lst ln gv))))) (fun _ j _ => ln + 1 - (intOf j).toNat)
  case atStart => exact ⟨0, Nat.zero_le _, rfl, rfl, HT5⟩
  case round =>
    clear HT5
    obtain ⟨k, hk, rfl, rfl, HR⟩ := hrel
    have k0 : (0 : Int) ≤ (k : Int) := by omega
    have nb := nx_bd p c pt (lst k gv)
    rw [lst_len] at nb
    have u1 : 0 ≤ (nx p c pt (lst k gv)) := nb.1
    have u2 : (nx p c pt (lst k gv)) ≤ 40 := by have := nb.2; have := HL.out; omega
    clear nb
    by_cases hlt : k < ln
    · obtain ⟨ad, rfl, hab, hcs⟩ := (HE.out.below HR.out.1.bel) (by omega)
      have hcy := hcs k hlt
      clear hcs
      have q1 : (k : Int) < (ln : Int) := by omega
      have q2 : (ln : Int) ≤ 40 := by have := HL.out; omega
      obtain ⟨x, hx⟩ : ∃ x, x = gv k := ⟨_, rfl⟩
      rw [← hx] at hcy
      have d0 : wr.cell? (ad.add (k * 7)) = some (.int .i64 x.c) := hcy 0 _ rfl
      have d1 : wr.cell? ⟨(ad.add (k * 7)).block, (ad.add (k * 7)).off + 1, none⟩ = some (.int .i64 x.n) := by rw [← addp _ 1 (by decide) (World.cell?_spot d0), add_of_add]; exact hcy 1 _ rfl
      have d2 : wr.cell? ⟨(ad.add (k * 7)).block, (ad.add (k * 7)).off + 2, none⟩ = some (.int .i64 x.s) := by rw [← addp _ 2 (by decide) (World.cell?_spot d0), add_of_add]; exact hcy 2 _ rfl
      have d3 : wr.cell? ⟨(ad.add (k * 7)).block, (ad.add (k * 7)).off + 3, none⟩ = some (.int .i64 x.p) := by rw [← addp _ 3 (by decide) (World.cell?_spot d0), add_of_add]; exact hcy 3 _ rfl
      have d4 : wr.cell? ⟨(ad.add (k * 7)).block, (ad.add (k * 7)).off + 4, none⟩ = some (.int .i64 x.l) := by rw [← addp _ 4 (by decide) (World.cell?_spot d0), add_of_add]; exact hcy 4 _ rfl
      have d5 : wr.cell? ⟨(ad.add (k * 7)).block, (ad.add (k * 7)).off + 5, none⟩ = some (.int .i64 x.u) := by rw [← addp _ 5 (by decide) (World.cell?_spot d0), add_of_add]; exact hcy 5 _ rfl
      have d6 : wr.cell? ⟨(ad.add (k * 7)).block, (ad.add (k * 7)).off + 6, none⟩ = some (.int .i64 x.q) := by rw [← addp _ 6 (by decide) (World.cell?_spot d0), add_of_add]; exact hcy 6 _ rfl
      have r0 := HR.out.1.cfg.cell 0 _ rfl
      have r1 := HR.out.1.cfg.cell 1 _ rfl
      have cl := HR.out.1.cfg.lt
      have hNX : nx p c pt (lst (k + 1) gv) = (nx p c pt (lst k gv)) + (if ow p c x.c = pt then 1 else 0) := by rw [lst_succ, nx_app, ← hx]; simp [nx]
      have HNX := Lib.hid hNX
      have HAT := Lib.hid (fun (h : 0 ≤ pt ∧ ow p c x.c = pt) => po_at p c pt (lst ln gv) k x (by rw [hx]; exact lst_get ln gv k hlt) h)
      rw [lst_take ln gv k (by omega)] at HAT
      have Hk := Lib.hid hlt
      have gO : Below wr.heap.size wr (wr.alloc (.cells (List.toArray [.int .i64 x.c, .int .i64 x.n, .int .i64 x.s, .int .i64 x.p, .int .i64 x.l, .int .i64 x.u, .int .i64 x.q]) 50)) := by go_grown
      have HGO := Lib.hid gO
      clear gO hcy hab hx hlt hk hNX
      by_cases hin : 0 ≤ x.c ∧ x.c < p * c
      rotate_left
      · have how : ow p c x.c = -1 := by unfold ow; rw [if_neg hin]
        generalize (nx p c pt (lst k gv)) = N at *
        by_cases hx0 : x.c < 0
        · clear HAT
          have hxx : True := trivial
          rcases hpt : (pt == (-1 : Int)) with _ | _
          · have HNE := Lib.hid (show ¬ ow p c x.c = pt from fun h => by rw [how] at h; rw [beq_eq_false_iff_ne] at hpt; exact hpt h.symm)
            clear how hin
            go_wp2_with fail
            go_roundw
            case rel => exact ⟨k + 1, Hk.out, by go_num, by rw [HNX.out, if_neg HNE.out, Int.add_zero], Lib.hid ⟨HR.out.1.below (HGO.out), rkept HR.out.2 (HGO.out)⟩⟩
            case measure => have := Hk.out; simp [intOf]; omega
          · have HNE := Lib.hid (show ow p c x.c = pt by rw [how]; exact (beq_iff_eq.1 hpt).symm)
            clear how hin
            go_wp2_with fail
            go_roundw
            case rel => exact ⟨k + 1, Hk.out, by go_num, by rw [HNX.out, if_pos HNE.out], Lib.hid ⟨HR.out.1.below (HGO.out), rkept HR.out.2 (HGO.out)⟩⟩
            case measure => have := Hk.out; simp [intOf]; omega
        · have e0 : decide (x.c < 0) = false := decide_eq_false hx0
          have e1 : p * c ≤ x.c := by omega
          clear HAT hx0
          have hxx : True := trivial
          rcases hpt : (pt == (-1 : Int)) with _ | _
          · have HNE := Lib.hid (show ¬ ow p c x.c = pt from fun h => by rw [how] at h; rw [beq_eq_false_iff_ne] at hpt; exact hpt h.symm)
            clear how hin
            go_wp2_with fail
            go_roundw
            case rel => exact ⟨k + 1, Hk.out, by go_num, by rw [HNX.out, if_neg HNE.out, Int.add_zero], Lib.hid ⟨HR.out.1.below (HGO.out), rkept HR.out.2 (HGO.out)⟩⟩
            case measure => have := Hk.out; simp [intOf]; omega
          · have HNE := Lib.hid (show ow p c x.c = pt by rw [how]; exact (beq_iff_eq.1 hpt).symm)
            clear how hin
            go_wp2_with fail
            go_roundw
            case rel => exact ⟨k + 1, Hk.out, by go_num, by rw [HNX.out, if_pos HNE.out], Lib.hid ⟨HR.out.1.below (HGO.out), rkept HR.out.2 (HGO.out)⟩⟩
            case measure => have := Hk.out; simp [intOf]; omega
      · have how : ow p c x.c = x.c / c := by unfold ow; rw [if_pos hin]
        have e0 : decide (x.c < 0) = false := decide_eq_false (by omega)
        have e1 : decide (p * c ≤ x.c) = false := decide_eq_false (by omega)
        have x0 : 0 ≤ x.c := hin.1
        have hq : Int.tdiv x.c c = x.c / c := Int.tdiv_eq_ediv_of_nonneg x0
        have hq0 : 0 ≤ x.c / c := Int.ediv_nonneg x0 (by omega)
        have hq1 : x.c / c ≤ x.c := Int.ediv_le_self c x0
        have hx24 : x.c ≤ 24 := by omega
        by_cases he : x.c / c = pt
        rotate_left
        · have e3 : (x.c / c == pt) = false := beq_eq_false_iff_ne.2 he
          have e4 : (Int.tdiv x.c c == pt) = false := by rw [hq]; exact e3
          have HNE := Lib.hid (show ¬ ow p c x.c = pt by rw [how]; exact he)
          generalize (nx p c pt (lst k gv)) = N at *
          clear how hin he HAT
          go_wp2_with fail
          go_roundw
          case rel => exact ⟨k + 1, Hk.out, by go_num, by rw [HNX.out, if_neg HNE.out, Int.add_zero], Lib.hid ⟨HR.out.1.below (HGO.out), rkept HR.out.2 (HGO.out)⟩⟩
          case measure => have := Hk.out; simp [intOf]; omega
        · have e3 : (x.c / c == pt) = true := by rw [he]; simp
          have e4 : (Int.tdiv x.c c == pt) = true := by rw [hq]; exact e3
          have p0 : 0 ≤ pt := by omega
          have HNE := Lib.hid (show ow p c x.c = pt by rw [how]; exact he)
          have hat := HAT.out ⟨p0, HNE.out⟩
          have hK := nx_po p c pt p0 (lst k gv)
          rw [hK] at HNX u1 u2 ⊢
          have hKM : (po p c pt (lst k gv)).length < M := by rw [HMM.out]; exact (List.getElem?_eq_some_iff.1 hat).1
          obtain ⟨g3, c9, hv3, _, hg3⟩ := own_some HR.out.2 (by omega)
          injection hv3 with e5 e6 e7
          subst e5 e7
          clear e6
          obtain ⟨K, hKK⟩ : ∃ K, K = (po p c pt (lst k gv)).length := ⟨_, rfl⟩
          rw [← hKK] at hat hKM HNX u1 u2 ⊢
          have y0 := orow_cell (j := 0) HR.out.2 hat HMM.out (by omega) rfl
          have y1 := orow_cell (j := 1) HR.out.2 hat HMM.out (by omega) rfl
          have y2 := orow_cell (j := 2) HR.out.2 hat HMM.out (by omega) rfl
          have y3 := orow_cell (j := 3) HR.out.2 hat HMM.out (by omega) rfl
          have y4 := orow_cell (j := 4) HR.out.2 hat HMM.out (by omega) rfl
          have y5 := orow_cell (j := 5) HR.out.2 hat HMM.out (by omega) rfl
          have y6 := orow_cell (j := 6) HR.out.2 hat HMM.out (by omega) rfl
          rw [Nat.add_zero] at y0
          have km : (K : Int) < (M : Int) := by omega
          have km2 : decide ((M : Int) ≤ (K : Int)) = false := decide_eq_false (by omega)
          have km3 : decide (M ≤ K) = false := decide_eq_false (by omega)
          have km4 : K < M := hKM
          have hnl := fun wq => run_neq_ord x wq
          clear how hin he HAT hat hK hKM hKK p0
          go_wp2_with fail
          go_quiet (fail)
          go_wp2_with fail
          go_roundw
          case rel => exact ⟨k + 1, Hk.out, by go_num, by rw [HNX.out, if_pos HNE.out], Lib.hid ⟨(HR.out.1.below HGO.out).below (dn _ _), rkept (rkept HR.out.2 HGO.out) (dn _ _)⟩⟩
          case measure => have := Hk.out; simp [intOf]; omega
    · have hke : k = ln := by omega
      subst hke
      have HS9 := Lib.hid HR.out.1
      have e9 : ((k : Int) == (k : Int)) = true := by simp
      have hnx := nx_po p c pt
      by_cases hneg : pt < 0
      · generalize (nx p c pt (lst k gv)) = N at *
        clear HR hk hlt hnx
        go_wp2_with fail
        refine (awake_is _).mono ?_
        rintro e6 w6 ⟨rfl, hb6⟩
        have HS10 := Lib.hid (HS9.out.below hb6)
        clear hb6
        have q0 := HS10.out.bk.cell 0 _ rfl
        have q1 := HS10.out.bk.cell 1 _ rfl
        have q2 := HS10.out.bk.cell 2 _ rfl
        have q3 := HS10.out.bk.cell 3 _ rfl
        have q4 := HS10.out.bk.cell 4 _ rfl
        have q5 := HS10.out.bk.cell 5 _ rfl
        have q6 := HS10.out.bk.cell 6 _ rfl
        have q7 := HS10.out.bk.cell 7 _ rfl
        go_wp2_with fail
        refine (HOR.out _ _ _ _ HS10.out.row).mono ?_
        rintro e7 w7 ⟨v7, rfl, ho7, hb7⟩
        rw [lst_len] at ho7
        obtain ⟨A9, c8, rfl⟩ := oshape ho7
        have HB9 := Lib.hid (Below.step HS10.out.bel hb7)
        clear ho7 hb7 q0 q1 q2 q3 q4 q5 q6 q7
        go_wp2_with fail
        go_ret
        exact ⟨rfl, HB9.out⟩
      · have n0 : decide (pt < 0) = false := decide_eq_false hneg
        rw [hnx (by omega) (lst k gv), ← HMM.out]
        have e8 : ((M : Int) == (M : Int)) = true := by simp
        clear HR hk hlt hnx hneg u1 u2
        go_wp2_with fail
        refine (awake_is _).mono ?_
        rintro e6 w6 ⟨rfl, hb6⟩
        have HS10 := Lib.hid (HS9.out.below hb6)
        clear hb6
        have q0 := HS10.out.bk.cell 0 _ rfl
        have q1 := HS10.out.bk.cell 1 _ rfl
        have q2 := HS10.out.bk.cell 2 _ rfl
        have q3 := HS10.out.bk.cell 3 _ rfl
        have q4 := HS10.out.bk.cell 4 _ rfl
        have q5 := HS10.out.bk.cell 5 _ rfl
        have q6 := HS10.out.bk.cell 6 _ rfl
        have q7 := HS10.out.bk.cell 7 _ rfl
        go_wp2_with fail
        refine (HOR.out _ _ _ _ HS10.out.row).mono ?_
        rintro e7 w7 ⟨v7, rfl, ho7, hb7⟩
        rw [lst_len] at ho7
        obtain ⟨A9, c8, rfl⟩ := oshape ho7
        have HB9 := Lib.hid (Below.step HS10.out.bel hb7)
        clear ho7 hb7 q0 q1 q2 q3 q4 q5 q6 q7
        go_wp2_with fail
        go_ret
        exact ⟨rfl, HB9.out⟩
theorem walk (a0_0 : Int) (a0_1 : Int) (a0_2 : Int) (a0_3 : Int) (a0_4 : Int) (a0_5 : Int) (a0_6 : Int) (a1 : Option Addr) (len1 cap1 : Nat) (g1 : Nat → Ord) (e2 : Ord) (a3 : Int) (a4 : Int) (w : World) (_ : (Lit.int .i64 a0_0).wf = true) (_ : (Lit.int .i64 a0_1).wf = true) (_ : (Lit.int .i64 a0_2).wf = true) (_ : (Lit.int .i64 a0_3).wf = true) (_ : (Lit.int .i64 a0_4).wf = true) (_ : (Lit.int .i64 a0_5).wf = true) (_ : (Lit.int .i64 a0_6).wf = true) (w1 : OrdsAt a1 len1 g1 w) (_ : (Lit.int .i64 a3).wf = true) (_ : (Lit.int .i64 a4).wf = true) :
    Calls Try.prog 4 #[.agg #[.int .i64 a0_0, .int .i64 a0_1, .int .i64 a0_2, .int .i64 a0_3, .int .i64 a0_4, .int .i64 a0_5, .int .i64 a0_6], .slice a1 len1 cap1, .agg #[.int .i64 e2.c, .int .i64 e2.n, .int .i64 e2.s, .int .i64 e2.p, .int .i64 e2.l, .int .i64 e2.u, .int .i64 e2.q], .int .i64 a3, .int .i64 a4] w fun e w' => e = .returned (.bool true) ∧ Below w.heap.size w w' := by
  by_cases hcfg : (1 ≤ a0_0 ∧ a0_0 ≤ 6) ∧ (1 ≤ a0_1 ∧ a0_1 ≤ 4) ∧ (1 ≤ a0_2 ∧ a0_2 ≤ 3) ∧ (1 ≤ a0_3 ∧ a0_3 ≤ 4) ∧ (0 ≤ a0_4 ∧ a0_4 ≤ 4) ∧ (1 ≤ a0_5 ∧ a0_5 ≤ 4) ∧ (1 ≤ a0_6 ∧ a0_6 ≤ 15)
  · obtain ⟨hp, hc, hn, hb, hr, hf, hg⟩ := hcfg
    by_cases hl : len1 ≤ 40
    · by_cases hF : Fine (lst len1 g1)
      · by_cases ho : 1 ≤ e2.p ∧ e2.p ≤ 9999 ∧ e2.q ≤ 9999
        · exact main_ a0_0 a0_1 a0_2 a0_3 a0_4 a0_5 a0_6 a1 len1 cap1 g1 e2 a3 a4 w hp hc hn hb hr hf hg hl w1 hF ⟨ho.1, ho.2.1⟩ ho.2.2
        · exact bad_ a0_0 a0_1 a0_2 a0_3 a0_4 a0_5 a0_6 a1 len1 cap1 g1 e2 a3 a4 w hp hc hn hb hr hf hg hl w1 hF ho
      · exact none_ a0_0 a0_1 a0_2 a0_3 a0_4 a0_5 a0_6 a1 len1 cap1 e2 a3 a4 w (fun W hW => made_no a0_0 a0_1 a0_2 a0_3 a0_4 a0_5 a0_6 a1 len1 cap1 g1 W hp hc hn hb hr hf hg hl (w1.below hW) hF)
    · exact none_ a0_0 a0_1 a0_2 a0_3 a0_4 a0_5 a0_6 a1 len1 cap1 e2 a3 a4 w (fun W _ => made_long a0_0 a0_1 a0_2 a0_3 a0_4 a0_5 a0_6 a1 len1 cap1 W hp hc hn hb hr hf hg (by omega))
  · exact none_ a0_0 a0_1 a0_2 a0_3 a0_4 a0_5 a0_6 a1 len1 cap1 e2 a3 a4 w (fun W _ => made_bad a0_0 a0_1 a0_2 a0_3 a0_4 a0_5 a0_6 a1 len1 cap1 W hcfg)
end Go.Proofs.Ytafignfoejefjaa.bookReach
