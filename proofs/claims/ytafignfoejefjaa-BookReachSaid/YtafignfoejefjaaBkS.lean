/-
  What waits in a shard.
-/
import Derived.Test.YtafignfoejefjaaRows
import Derived.Test.YtafignfoejefjaaKit
import Derived.Test.YtafignfoejefjaaApp
import Derived.Test.YtafignfoejefjaaQuiet
import Derived.WalkKit
import Derived.ProofKit
import Derived.OpenShut
import Derived.ShutString
import Derived.Below
import Derived.Outline
import Derived.WalkLawsBesides
import Derived.WalkSpells
import Derived.Handy
import Derived.Deep.QuietTactic
import Derived.BigQuiet
import Derived.RegionTactic
import Derived.ChangeAlike
import Derived.Lib.Hide
import Derived.Laws.Rows
import Derived.Laws.Tables
import Derived.Laws.CopyOwn
import Derived.Laws.MakeOwn
import Derived.Laws.Entries
import Derived.Laws.OwnMore
import Derived.Deep.WholeRow
import Derived.Deep.LoopGhost
import Derived.Deep.AppendLies
import Derived.Deep.Draws
import Derived.Maps.AppendAt
import Derived.OwnWalk
import Derived.Deep.RegionHeld3
import Derived.Deep.Cut
import Derived.Deep.CutRange
import Derived.Deep.DeepCutAuto
import Derived.Deep.CutBlock
import Derived.Lib.SliceRun
import Derived.IntWalk
import Derived.Test.YtafignfoejefjaaBkM
import Derived.Test.YtafignfoejefjaaBkO
import Derived.Test.YtafignfoejefjaaBkP
import Derived.Test.YtafignfoejefjaaBkQ
import Derived.Test.YtafignfoejefjaaBkL
import Derived.Test.YtafignfoejefjaaBkR
namespace Go.Proofs.Ytafignfoejefjaa
open Go.ChangeShapes Go.WideShapes Go.ChangeAt Go.RowKit
/-- An order more at a place. -/
def stp (s : Int) (f : Ord → Bool) (x : Lvl) (o : Ord) : Lvl := if f o = true then ⟨if x.k = 0 ∨ bet s o.p x.p = true then o.p else x.p, x.q + o.q, x.k + 1⟩ else x
def shl (s : Int) (f : Ord → Bool) (os : List Ord) : Lvl := os.foldl (stp s f) ⟨0, 0, 0⟩
def fsh (n b s i : Int) (o : Ord) : Bool := o.s == s && sh n b o.n o.p == i
theorem shl_snoc (s : Int) (f : Ord → Bool) (os : List Ord) (o : Ord) : shl s f (os ++ [o]) = stp s f (shl s f os) o := by unfold shl; rw [List.foldl_append]; rfl
theorem stp_miss {s : Int} {f : Ord → Bool} {x : Lvl} {o : Ord} (h : f o = false) : stp s f x o = x := by unfold stp; simp [h]
theorem shl_qk (s : Int) (f : Ord → Bool) : ∀ (os : List Ord) (x : Lvl), (os.foldl (stp s f) x).q = x.q + sumq f os ∧ (os.foldl (stp s f) x).k = x.k + cnt f os
  | [], x => by simp [sumq, cnt]
  | o :: t, x => by
    obtain ⟨h1, h2⟩ := shl_qk s f t (stp s f x o)
    simp only [List.foldl_cons, h1, h2, sumq, cnt]
    unfold stp
    by_cases h : f o = true
    · simp only [h, if_true]; constructor <;> omega
    · simp only [h, if_false]; constructor <;> simp
theorem shl_q (s : Int) (f : Ord → Bool) (os : List Ord) : (shl s f os).q = sumq f os := by have := (shl_qk s f os ⟨0, 0, 0⟩).1; unfold shl; simpa using this
theorem shl_k (s : Int) (f : Ord → Bool) (os : List Ord) : (shl s f os).k = cnt f os := by have := (shl_qk s f os ⟨0, 0, 0⟩).2; unfold shl; simpa using this
set_option maxRecDepth 100000 in
set_option maxHeartbeats 8000000 in
theorem shard_is (p c n b r f g : Int) (base cap : Nat) (A : Option Addr) (m : Nat) (os : List Ord) (i : Int) (w : World) (hm : m = os.length) (h : w.ownsRow base 55 7 (.slice A m cap) m (ov os)) (hl : os.length ≤ 40) (hF : Fine os) (hn : 1 ≤ n ∧ n ≤ 3) (hb : 1 ≤ b ∧ b ≤ 4) : Calls Try.prog 12 #[.agg #[.int .i64 p, .int .i64 c, .int .i64 n, .int .i64 b, .int .i64 r, .int .i64 f, .int .i64 g, .slice A m cap], .int .i64 i] w fun e w' => e = .returned (.agg #[.int .i64 (shl 0 (fsh n b 0 i) os).p, .int .i64 (shl 0 (fsh n b 0 i) os).q, .int .i64 (shl 0 (fsh n b 0 i) os).k, .int .i64 (shl 1 (fsh n b 1 i) os).p, .int .i64 (shl 1 (fsh n b 1 i) os).q, .int .i64 (shl 1 (fsh n b 1 i) os).k]) ∧ Below w.heap.size w w' := by
  subst hm
  have HH := Lib.hid h
  have HL := Lib.hid hl
  have HF := Lib.hid hF
  have HT := Lib.hid (fun (tn ts tp tl tu : Int) (x0 : 1 ≤ tp) (x1 : tp ≤ 9999) W => tsh_is p c n b r f g tn ts tp tl tu hn hb x0 x1 W)
  clear h hl hF hn hb
  go_enter Try.func12, Try.ntmps12
  go_wp2_with fail
  have b0 := ((Bl.new w [.int .i64 p, .int .i64 c, .int .i64 n, .int .i64 b, .int .i64 r, .int .i64 f, .int .i64 g, .slice A os.length cap] 29).below (w' := (w.alloc (.cells (List.toArray [.int .i64 p, .int .i64 c, .int .i64 n, .int .i64 b, .int .i64 r, .int .i64 f, .int .i64 g, .slice A os.length cap]) 29)).alloc (.cells (List.toArray [.int .i64 0, .int .i64 0, .int .i64 0, .int .i64 0, .int .i64 0, .int .i64 0]) 43)) (by go_grown)).below (w' := ((w.alloc (.cells (List.toArray [.int .i64 p, .int .i64 c, .int .i64 n, .int .i64 b, .int .i64 r, .int .i64 f, .int .i64 g, .slice A os.length cap]) 29)).alloc (.cells (List.toArray [.int .i64 0, .int .i64 0, .int .i64 0, .int .i64 0, .int .i64 0, .int .i64 0]) 43)).alloc (.cells (List.toArray [.int .i64 0, .int .i64 0, .int .i64 0, .int .i64 0, .int .i64 0, .int .i64 0]) 43)) (by go_grown)
  have b1 := (Bl.new (w.alloc (.cells (List.toArray [.int .i64 p, .int .i64 c, .int .i64 n, .int .i64 b, .int .i64 r, .int .i64 f, .int .i64 g, .slice A os.length cap]) 29)) [.int .i64 0, .int .i64 0, .int .i64 0, .int .i64 0, .int .i64 0, .int .i64 0] 43).below (w' := ((w.alloc (.cells (List.toArray [.int .i64 p, .int .i64 c, .int .i64 n, .int .i64 b, .int .i64 r, .int .i64 f, .int .i64 g, .slice A os.length cap]) 29)).alloc (.cells (List.toArray [.int .i64 0, .int .i64 0, .int .i64 0, .int .i64 0, .int .i64 0, .int .i64 0]) 43)).alloc (.cells (List.toArray [.int .i64 0, .int .i64 0, .int .i64 0, .int .i64 0, .int .i64 0, .int .i64 0]) 43)) (by go_grown)
  have b2 := Bl.new ((w.alloc (.cells (List.toArray [.int .i64 p, .int .i64 c, .int .i64 n, .int .i64 b, .int .i64 r, .int .i64 f, .int .i64 g, .slice A os.length cap]) 29)).alloc (.cells (List.toArray [.int .i64 0, .int .i64 0, .int .i64 0, .int .i64 0, .int .i64 0, .int .i64 0]) 43)) [.int .i64 0, .int .i64 0, .int .i64 0, .int .i64 0, .int .i64 0, .int .i64 0] 43
  have g0 : Below w.heap.size w (((w.alloc (.cells (List.toArray [.int .i64 p, .int .i64 c, .int .i64 n, .int .i64 b, .int .i64 r, .int .i64 f, .int .i64 g, .slice A os.length cap]) 29)).alloc (.cells (List.toArray [.int .i64 0, .int .i64 0, .int .i64 0, .int .i64 0, .int .i64 0, .int .i64 0]) 43)).alloc (.cells (List.toArray [.int .i64 0, .int .i64 0, .int .i64 0, .int .i64 0, .int .i64 0, .int .i64 0]) 43)) := by go_grown
  rw [World.size_alloc] at b1
  rw [World.size_alloc, World.size_alloc] at b2
  obtain ⟨W, hW⟩ : ∃ W, W = ((w.alloc (.cells (List.toArray [.int .i64 p, .int .i64 c, .int .i64 n, .int .i64 b, .int .i64 r, .int .i64 f, .int .i64 g, .slice A os.length cap]) 29)).alloc (.cells (List.toArray [.int .i64 0, .int .i64 0, .int .i64 0, .int .i64 0, .int .i64 0, .int .i64 0]) 43)).alloc (.cells (List.toArray [.int .i64 0, .int .i64 0, .int .i64 0, .int .i64 0, .int .i64 0, .int .i64 0]) 43) := ⟨_, rfl⟩
  rw [← hW] at b0 b1 b2 g0 ⊢
  obtain ⟨LB, hLB⟩ : ∃ LB, LB = w.heap.size + 1 + 1 := ⟨_, rfl⟩
  rw [← hLB] at b2 ⊢
  have HM0 : Hid (Bl w.heap.size [.int .i64 p, .int .i64 c, .int .i64 n, .int .i64 b, .int .i64 r, .int .i64 f, .int .i64 g, .slice A os.length cap] W ∧ Bl (w.heap.size + 1) [.int .i64 0, .int .i64 0, .int .i64 0, .int .i64 0, .int .i64 0, .int .i64 0] W ∧ Bl LB [.int .i64 (shl 0 (fsh n b 0 i) (os.take 0)).p, .int .i64 (shl 0 (fsh n b 0 i) (os.take 0)).q, .int .i64 (shl 0 (fsh n b 0 i) (os.take 0)).k, .int .i64 (shl 1 (fsh n b 1 i) (os.take 0)).p, .int .i64 (shl 1 (fsh n b 1 i) (os.take 0)).q, .int .i64 (shl 1 (fsh n b 1 i) (os.take 0)).k] W ∧ Below w.heap.size w W) := Lib.hid ⟨b0, b1, b2, g0⟩
  have HLB := Lib.hid hLB
  clear b0 b1 b2 g0 hW hLB
  go_loopw [13] (fun j wr => ∃ k : Nat, k ≤ os.length ∧ j = .int .i64 (k : Int) ∧ Hid (Bl w.heap.size [.int .i64 p, .int .i64 c, .int .i64 n, .int .i64 b, .int .i64 r, .int .i64 f, .int .i64 g, .slice A os.length cap] wr ∧ Bl (w.heap.size + 1) [.int .i64 0, .int .i64 0, .int .i64 0, .int .i64 0, .int .i64 0, .int .i64 0] wr ∧ Bl LB [.int .i64 (shl 0 (fsh n b 0 i) (os.take k)).p, .int .i64 (shl 0 (fsh n b 0 i) (os.take k)).q, .int .i64 (shl 0 (fsh n b 0 i) (os.take k)).k, .int .i64 (shl 1 (fsh n b 1 i) (os.take k)).p, .int .i64 (shl 1 (fsh n b 1 i) (os.take k)).q, .int .i64 (shl 1 (fsh n b 1 i) (os.take k)).k] wr ∧ Below w.heap.size w wr)) (fun j _ => os.length + 1 - (intOf j).toNat)
  case atStart => exact ⟨0, Nat.zero_le _, rfl, HM0⟩
  case round =>
    clear HM0
    obtain ⟨k, hk, rfl, HR⟩ := hrel
    have k0 : (0 : Int) ≤ (k : Int) := by omega
    by_cases hlt : k < os.length
    · obtain ⟨gb, cp2, hv, _, hgl⟩ := own_some HH.out (by omega)
      injection hv with e1 e2 e3
      subst e1
      subst e3
      clear e2
      obtain ⟨o, ho⟩ : ∃ o, os[k]? = some o := ⟨os[k], List.getElem?_eq_getElem hlt⟩
      have d0 : wr.cell? ⟨gb, k * 7, none⟩ = some (.int .i64 o.c) := (HR.out.2.2.2.cell (p := ⟨gb, k * 7, none⟩) hgl).trans (orow_cell (j := 0) HH.out ho rfl (by omega) rfl)
      have d1 : wr.cell? ⟨gb, k * 7 + 1, none⟩ = some (.int .i64 o.n) := (HR.out.2.2.2.cell (p := ⟨gb, k * 7 + 1, none⟩) hgl).trans (orow_cell (j := 1) HH.out ho rfl (by omega) rfl)
      have d2 : wr.cell? ⟨gb, k * 7 + 2, none⟩ = some (.int .i64 o.s) := (HR.out.2.2.2.cell (p := ⟨gb, k * 7 + 2, none⟩) hgl).trans (orow_cell (j := 2) HH.out ho rfl (by omega) rfl)
      have d3 : wr.cell? ⟨gb, k * 7 + 3, none⟩ = some (.int .i64 o.p) := (HR.out.2.2.2.cell (p := ⟨gb, k * 7 + 3, none⟩) hgl).trans (orow_cell (j := 3) HH.out ho rfl (by omega) rfl)
      have d4 : wr.cell? ⟨gb, k * 7 + 4, none⟩ = some (.int .i64 o.l) := (HR.out.2.2.2.cell (p := ⟨gb, k * 7 + 4, none⟩) hgl).trans (orow_cell (j := 4) HH.out ho rfl (by omega) rfl)
      have d5 : wr.cell? ⟨gb, k * 7 + 5, none⟩ = some (.int .i64 o.u) := (HR.out.2.2.2.cell (p := ⟨gb, k * 7 + 5, none⟩) hgl).trans (orow_cell (j := 5) HH.out ho rfl (by omega) rfl)
      have d6 : wr.cell? ⟨gb, k * 7 + 6, none⟩ = some (.int .i64 o.q) := (HR.out.2.2.2.cell (p := ⟨gb, k * 7 + 6, none⟩) hgl).trans (orow_cell (j := 6) HH.out ho rfl (by omega) rfl)
      have q1 : (k : Int) < (os.length : Int) := by omega
      have q2 : (os.length : Int) ≤ 40 := by have := HL.out; omega
      have HO := Lib.hid ho
      have Hk := Lib.hid hlt
      have hT : os.take (k + 1) = os.take k ++ [o] := by rw [List.take_add_one, ho]; rfl
      have HTK := Lib.hid hT
      have hf := HF.out o (List.mem_of_getElem? ho)
      have p1 : 1 ≤ o.p := hf.1
      have p2 : o.p ≤ 9999 := hf.2.1
      have p3 : 0 ≤ o.q := hf.2.2.1
      have p4 : o.q ≤ 9999 := hf.2.2.2
      clear ho hlt hT hgl hk hf
      have gO : Below wr.heap.size wr (wr.alloc (.cells (List.toArray [.int .i64 o.c, .int .i64 o.n, .int .i64 o.s, .int .i64 o.p, .int .i64 o.l, .int .i64 o.u, .int .i64 o.q]) 55)) := by go_grown
      have bO := Bl.new wr [.int .i64 o.c, .int .i64 o.n, .int .i64 o.s, .int .i64 o.p, .int .i64 o.l, .int .i64 o.u, .int .i64 o.q] 55
      have HGO := Lib.hid (And.intro gO bO)
      clear gO bO
      by_cases hs : o.s ≠ 0 ∧ o.s ≠ 1
      · have s0 : (o.s != 0) = true := by rw [bne_iff_ne]; exact hs.1
        have s1 : (o.s != 1) = true := by rw [bne_iff_ne]; exact hs.2
        have f0 : fsh n b 0 i o = false := by unfold fsh; rw [beq_eq_false_iff_ne.2 hs.1]; rfl
        have f1 : fsh n b 1 i o = false := by unfold fsh; rw [beq_eq_false_iff_ne.2 hs.2]; rfl
        have HF0 := Lib.hid f0
        have HF1 := Lib.hid f1
        clear hs f0 f1
        go_wp2_with fail
        go_roundw
        case rel => exact ⟨k + 1, Hk.out, by go_num, Lib.hid (by rw [HTK.out, shl_snoc, shl_snoc, stp_miss HF0.out, stp_miss HF1.out]; exact ⟨HR.out.1.below HGO.out.1, HR.out.2.1.below HGO.out.1, HR.out.2.2.1.below HGO.out.1, Below.step HR.out.2.2.2 HGO.out.1⟩)⟩
        case measure => have := Hk.out; simp [intOf]; omega
      · rcases (show o.s = 0 ∨ o.s = 1 by omega) with es | es
        · rw [es] at d2
          have HGO2 : Hid (Bl wr.heap.size [.int .i64 o.c, .int .i64 o.n, .int .i64 0, .int .i64 o.p, .int .i64 o.l, .int .i64 o.u, .int .i64 o.q] (wr.alloc (.cells (List.toArray [.int .i64 o.c, .int .i64 o.n, .int .i64 0, .int .i64 o.p, .int .i64 o.l, .int .i64 o.u, .int .i64 o.q]) 55))) := Lib.hid (by have h := HGO.out.2; rw [es] at h; exact h)
          have HG2 : Hid (Below wr.heap.size wr (wr.alloc (.cells (List.toArray [.int .i64 o.c, .int .i64 o.n, .int .i64 0, .int .i64 o.p, .int .i64 o.l, .int .i64 o.u, .int .i64 o.q]) 55))) := Lib.hid (by have h := HGO.out.1; rw [es] at h; exact h)
          have ft : fsh n b 1 i o = false := by unfold fsh; rw [es]; rfl
          have HFT := Lib.hid ft
          have c0 := HR.out.1.cell 0 _ rfl
          have c1 := HR.out.1.cell 1 _ rfl
          have c2 := HR.out.1.cell 2 _ rfl
          have c3 := HR.out.1.cell 3 _ rfl
          have c4 := HR.out.1.cell 4 _ rfl
          have c5 := HR.out.1.cell 5 _ rfl
          have c6 := HR.out.1.cell 6 _ rfl
          have cl := HR.out.1.lt
          have HC := Lib.hid (fun W => HT.out o.n 0 o.p o.l o.u p1 p2 W)
          rcases hq : (sh n b o.n o.p == i) with _ | _
          · have fs : fsh n b 0 i o = false := by unfold fsh; rw [es, hq]; rfl
            have HFS := Lib.hid fs
            have hq2 : (sh n b o.n o.p != i) = true := by rw [bne, hq]; rfl
            have HE := Lib.hid es
            clear es ft fs hq
            generalize sh n b o.n o.p = S at *
            clear HGO
            go_wp2_with fail
            refine (HC.out _).mono ?_
            rintro e1 w1 ⟨rfl, hb1⟩
            have HG3 := Lib.hid (Below.step HG2.out hb1)
            clear hb1
            go_wp2_with fail
            go_roundw
            case rel => exact ⟨k + 1, Hk.out, by go_num, Lib.hid (by rw [HTK.out, shl_snoc, shl_snoc, stp_miss HFS.out, stp_miss HFT.out]; exact ⟨HR.out.1.below HG3.out, HR.out.2.1.below HG3.out, HR.out.2.2.1.below HG3.out, Below.step HR.out.2.2.2 HG3.out⟩)⟩
            case measure => have := Hk.out; simp [intOf]; omega
          · have fs : fsh n b 0 i o = true := by unfold fsh; rw [es, hq]; rfl
            have HFS := Lib.hid fs
            have hq2 : (sh n b o.n o.p != i) = false := by rw [bne, hq]; rfl
            have HE := Lib.hid es
            clear es ft fs hq
            generalize sh n b o.n o.p = S at *
            clear HGO
            obtain ⟨X, hX⟩ : ∃ X, X = (shl 0 (fsh n b 0 i) (os.take k)) := ⟨_, rfl⟩
            have yq := sumq_bd (fsh n b 0 i) (os.take k) (HF.out.take k)
            have yk := cnt_bd (fsh n b 0 i) (os.take k)
            have yl : (os.take k).length ≤ 40 := by have := HL.out; simp; omega
            rw [← shl_q 0, ← hX] at yq
            rw [← shl_k 0, ← hX] at yk
            have y1 : 0 ≤ X.q := yq.1
            have y2 : X.q ≤ 400000 := by have := yq.2; omega
            have y3 : 0 ≤ X.k := yk.1
            have y4 : X.k ≤ 40 := by have := yk.2; omega
            have HX := Lib.hid hX
            clear yq yk yl hX
            go_wp2_with fail
            refine (HC.out _).mono ?_
            rintro e1 w1 ⟨rfl, hb1⟩
            have hg3 := Below.step HG2.out hb1
            have hbo := HGO2.out.below hb1
            have hbl := HR.out.2.2.1.below hg3
            rw [← HX.out] at hbl
            have HG3 := Lib.hid hg3
            have HBL := Lib.hid hbl
            have ol := hbo.lt
            have o3 := hbo.cell 3 _ rfl
            have o6 := hbo.cell 6 _ rfl
            have x0 := hbl.cell 0 _ rfl
            have x1 := hbl.cell 1 _ rfl
            have x2 := hbl.cell 2 _ rfl
            have z0 := hbl.frz 0
            have z1 := hbl.frz 1
            have z2 := hbl.frz 2
            have xl := hbl.lt
            have hne : wr.heap.size ≠ LB := by have := HR.out.2.2.1.lt; omega
            have HNE := Lib.hid hne
            clear hb1 hg3 hbo hbl HC c0 c1 c2 c3 c4 c5 c6 hne d0 d1 d2 d3 d4 d5 d6
            rcases hk0 : (X.k == 0) with _ | _
            rotate_left
            · go_wp2_with fail
              go_quiet (fail)
              go_wp2_with fail
              go_region
              go_wp2_with fail
              have e1 : shl 0 (fsh n b 0 i) (os.take (k + 1)) = ⟨o.p, X.q + o.q, X.k + 1⟩ := by
                rw [HTK.out, shl_snoc, ← HX.out]; unfold stp; rw [if_pos HFS.out, if_pos (Or.inl (by simpa using hk0))]
              have e2 : shl 1 (fsh n b 1 i) (os.take (k + 1)) = shl 1 (fsh n b 1 i) (os.take k) := by
                rw [HTK.out, shl_snoc, stp_miss HFT.out]
              have l1 : w.heap.size ≠ LB := by have := HLB.out; omega
              have l2 : w.heap.size + 1 ≠ LB := by have := HLB.out; omega
              have l3 : w.heap.size ≤ LB := by have := HLB.out; omega
              have hA0 := HR.out.1.below HG3.out
              have hA1 := HR.out.2.1.below HG3.out
              have hb9 := Below.step HR.out.2.2.2 HG3.out
              have hb8 : Below w.heap.size w (w1.drewN (nq + 1)) := ⟨hb9.os, hb9.tape, hb9.output, hb9.size, hb9.block⟩
              refine ⟨⟨k + 1, Hk.out, by go_num, Lib.hid ⟨?_, ?_, ?_, ?_⟩⟩, by have := Hk.out; simp [intOf]; omega⟩
              · exact (Bl.far (Bl.far (Bl.far (show Bl _ _ (w1.drewN (nq + 1)) from hA0) (p := ⟨LB, 0, none⟩) (fun e => l1 e.symm) _) (p := ⟨LB, 1, none⟩) (fun e => l1 e.symm) _) (p := ⟨LB, 2, none⟩) (fun e => l1 e.symm) _)
              · exact (Bl.far (Bl.far (Bl.far (show Bl _ _ (w1.drewN (nq + 1)) from hA1) (p := ⟨LB, 0, none⟩) (fun e => l2 e.symm) _) (p := ⟨LB, 1, none⟩) (fun e => l2 e.symm) _) (p := ⟨LB, 2, none⟩) (fun e => l2 e.symm) _)
              · rw [e1, e2]; exact (Bl.set (Bl.set (Bl.set (show Bl _ _ (w1.drewN (nq + 1)) from HBL.out) 0 _) 1 _) 2 _)
              · exact (((hb8.setCell (p := ⟨LB, 0, none⟩) l3 _).setCell (p := ⟨LB, 1, none⟩) l3 _).setCell (p := ⟨LB, 2, none⟩) l3 _)
            · rcases hbt : bet 0 o.p X.p with _ | _
              rotate_left
              · have HBT := Lib.hid hbt
                clear hbt
                go_wp2_with fail
                go_quiet ((go_at_call 26; exact Calls.quiet_of_same (better_v 0 o.p X.p true HBT.out _)))
                go_wp2_with fail
                go_region
                go_wp2_with fail
                have e1 : shl 0 (fsh n b 0 i) (os.take (k + 1)) = ⟨o.p, X.q + o.q, X.k + 1⟩ := by
                  rw [HTK.out, shl_snoc, ← HX.out]; unfold stp; rw [if_pos HFS.out, if_pos (Or.inr HBT.out)]
                have e2 : shl 1 (fsh n b 1 i) (os.take (k + 1)) = shl 1 (fsh n b 1 i) (os.take k) := by
                  rw [HTK.out, shl_snoc, stp_miss HFT.out]
                have l1 : w.heap.size ≠ LB := by have := HLB.out; omega
                have l2 : w.heap.size + 1 ≠ LB := by have := HLB.out; omega
                have l3 : w.heap.size ≤ LB := by have := HLB.out; omega
                have hA0 := HR.out.1.below HG3.out
                have hA1 := HR.out.2.1.below HG3.out
                have hb9 := Below.step HR.out.2.2.2 HG3.out
                have hb8 : Below w.heap.size w (w1.drewN (nq + 1)) := ⟨hb9.os, hb9.tape, hb9.output, hb9.size, hb9.block⟩
                refine ⟨⟨k + 1, Hk.out, by go_num, Lib.hid ⟨?_, ?_, ?_, ?_⟩⟩, by have := Hk.out; simp [intOf]; omega⟩
                · exact (Bl.far (Bl.far (Bl.far (show Bl _ _ (w1.drewN (nq + 1)) from hA0) (p := ⟨LB, 0, none⟩) (fun e => l1 e.symm) _) (p := ⟨LB, 1, none⟩) (fun e => l1 e.symm) _) (p := ⟨LB, 2, none⟩) (fun e => l1 e.symm) _)
                · exact (Bl.far (Bl.far (Bl.far (show Bl _ _ (w1.drewN (nq + 1)) from hA1) (p := ⟨LB, 0, none⟩) (fun e => l2 e.symm) _) (p := ⟨LB, 1, none⟩) (fun e => l2 e.symm) _) (p := ⟨LB, 2, none⟩) (fun e => l2 e.symm) _)
                · rw [e1, e2]; exact (Bl.set (Bl.set (Bl.set (show Bl _ _ (w1.drewN (nq + 1)) from HBL.out) 0 _) 1 _) 2 _)
                · exact (((hb8.setCell (p := ⟨LB, 0, none⟩) l3 _).setCell (p := ⟨LB, 1, none⟩) l3 _).setCell (p := ⟨LB, 2, none⟩) l3 _)
              · have HBT := Lib.hid hbt
                clear hbt
                go_wp2_with fail
                go_quiet ((go_at_call 26; exact Calls.quiet_of_same (better_v 0 o.p X.p false HBT.out _)))
                go_wp2_with fail
                go_region
                go_wp2_with fail
                have e1 : shl 0 (fsh n b 0 i) (os.take (k + 1)) = ⟨X.p, X.q + o.q, X.k + 1⟩ := by
                  rw [HTK.out, shl_snoc, ← HX.out]; unfold stp; rw [if_pos HFS.out, if_neg (fun h => h.elim (fun h => by simp [h] at hk0) (fun h => by rw [HBT.out] at h; cases h))]
                have e2 : shl 1 (fsh n b 1 i) (os.take (k + 1)) = shl 1 (fsh n b 1 i) (os.take k) := by
                  rw [HTK.out, shl_snoc, stp_miss HFT.out]
                have l1 : w.heap.size ≠ LB := by have := HLB.out; omega
                have l2 : w.heap.size + 1 ≠ LB := by have := HLB.out; omega
                have l3 : w.heap.size ≤ LB := by have := HLB.out; omega
                have hA0 := HR.out.1.below HG3.out
                have hA1 := HR.out.2.1.below HG3.out
                have hb9 := Below.step HR.out.2.2.2 HG3.out
                have hb8 : Below w.heap.size w (w1.drewN (nq + 1)) := ⟨hb9.os, hb9.tape, hb9.output, hb9.size, hb9.block⟩
                refine ⟨⟨k + 1, Hk.out, by go_num, Lib.hid ⟨?_, ?_, ?_, ?_⟩⟩, by have := Hk.out; simp [intOf]; omega⟩
                · exact (Bl.far (Bl.far (show Bl _ _ (w1.drewN (nq + 1)) from hA0) (p := ⟨LB, 1, none⟩) (fun e => l1 e.symm) _) (p := ⟨LB, 2, none⟩) (fun e => l1 e.symm) _)
                · exact (Bl.far (Bl.far (show Bl _ _ (w1.drewN (nq + 1)) from hA1) (p := ⟨LB, 1, none⟩) (fun e => l2 e.symm) _) (p := ⟨LB, 2, none⟩) (fun e => l2 e.symm) _)
                · rw [e1, e2]; exact (Bl.set (Bl.set (show Bl _ _ (w1.drewN (nq + 1)) from HBL.out) 1 _) 2 _)
                · exact ((hb8.setCell (p := ⟨LB, 1, none⟩) l3 _).setCell (p := ⟨LB, 2, none⟩) l3 _)
        · rw [es] at d2
          have HGO2 : Hid (Bl wr.heap.size [.int .i64 o.c, .int .i64 o.n, .int .i64 1, .int .i64 o.p, .int .i64 o.l, .int .i64 o.u, .int .i64 o.q] (wr.alloc (.cells (List.toArray [.int .i64 o.c, .int .i64 o.n, .int .i64 1, .int .i64 o.p, .int .i64 o.l, .int .i64 o.u, .int .i64 o.q]) 55))) := Lib.hid (by have h := HGO.out.2; rw [es] at h; exact h)
          have HG2 : Hid (Below wr.heap.size wr (wr.alloc (.cells (List.toArray [.int .i64 o.c, .int .i64 o.n, .int .i64 1, .int .i64 o.p, .int .i64 o.l, .int .i64 o.u, .int .i64 o.q]) 55))) := Lib.hid (by have h := HGO.out.1; rw [es] at h; exact h)
          have ft : fsh n b 0 i o = false := by unfold fsh; rw [es]; rfl
          have HFT := Lib.hid ft
          have c0 := HR.out.1.cell 0 _ rfl
          have c1 := HR.out.1.cell 1 _ rfl
          have c2 := HR.out.1.cell 2 _ rfl
          have c3 := HR.out.1.cell 3 _ rfl
          have c4 := HR.out.1.cell 4 _ rfl
          have c5 := HR.out.1.cell 5 _ rfl
          have c6 := HR.out.1.cell 6 _ rfl
          have cl := HR.out.1.lt
          have HC := Lib.hid (fun W => HT.out o.n 1 o.p o.l o.u p1 p2 W)
          rcases hq : (sh n b o.n o.p == i) with _ | _
          · have fs : fsh n b 1 i o = false := by unfold fsh; rw [es, hq]; rfl
            have HFS := Lib.hid fs
            have hq2 : (sh n b o.n o.p != i) = true := by rw [bne, hq]; rfl
            have HE := Lib.hid es
            clear es ft fs hq
            generalize sh n b o.n o.p = S at *
            clear HGO
            go_wp2_with fail
            refine (HC.out _).mono ?_
            rintro e1 w1 ⟨rfl, hb1⟩
            have HG3 := Lib.hid (Below.step HG2.out hb1)
            clear hb1
            go_wp2_with fail
            go_roundw
            case rel => exact ⟨k + 1, Hk.out, by go_num, Lib.hid (by rw [HTK.out, shl_snoc, shl_snoc, stp_miss HFT.out, stp_miss HFS.out]; exact ⟨HR.out.1.below HG3.out, HR.out.2.1.below HG3.out, HR.out.2.2.1.below HG3.out, Below.step HR.out.2.2.2 HG3.out⟩)⟩
            case measure => have := Hk.out; simp [intOf]; omega
          · have fs : fsh n b 1 i o = true := by unfold fsh; rw [es, hq]; rfl
            have HFS := Lib.hid fs
            have hq2 : (sh n b o.n o.p != i) = false := by rw [bne, hq]; rfl
            have HE := Lib.hid es
            clear es ft fs hq
            generalize sh n b o.n o.p = S at *
            clear HGO
            obtain ⟨X, hX⟩ : ∃ X, X = (shl 1 (fsh n b 1 i) (os.take k)) := ⟨_, rfl⟩
            have yq := sumq_bd (fsh n b 1 i) (os.take k) (HF.out.take k)
            have yk := cnt_bd (fsh n b 1 i) (os.take k)
            have yl : (os.take k).length ≤ 40 := by have := HL.out; simp; omega
            rw [← shl_q 1, ← hX] at yq
            rw [← shl_k 1, ← hX] at yk
            have y1 : 0 ≤ X.q := yq.1
            have y2 : X.q ≤ 400000 := by have := yq.2; omega
            have y3 : 0 ≤ X.k := yk.1
            have y4 : X.k ≤ 40 := by have := yk.2; omega
            have HX := Lib.hid hX
            clear yq yk yl hX
            go_wp2_with fail
            refine (HC.out _).mono ?_
            rintro e1 w1 ⟨rfl, hb1⟩
            have hg3 := Below.step HG2.out hb1
            have hbo := HGO2.out.below hb1
            have hbl := HR.out.2.2.1.below hg3
            rw [← HX.out] at hbl
            have HG3 := Lib.hid hg3
            have HBL := Lib.hid hbl
            have ol := hbo.lt
            have o3 := hbo.cell 3 _ rfl
            have o6 := hbo.cell 6 _ rfl
            have x0 := hbl.cell 3 _ rfl
            have x1 := hbl.cell 4 _ rfl
            have x2 := hbl.cell 5 _ rfl
            have z0 := hbl.frz 3
            have z1 := hbl.frz 4
            have z2 := hbl.frz 5
            have xl := hbl.lt
            have hne : wr.heap.size ≠ LB := by have := HR.out.2.2.1.lt; omega
            have HNE := Lib.hid hne
            clear hb1 hg3 hbo hbl HC c0 c1 c2 c3 c4 c5 c6 hne d0 d1 d2 d3 d4 d5 d6
            rcases hk0 : (X.k == 0) with _ | _
            rotate_left
            · go_wp2_with fail
              go_quiet (fail)
              go_wp2_with fail
              go_region
              go_wp2_with fail
              have e1 : shl 1 (fsh n b 1 i) (os.take (k + 1)) = ⟨o.p, X.q + o.q, X.k + 1⟩ := by
                rw [HTK.out, shl_snoc, ← HX.out]; unfold stp; rw [if_pos HFS.out, if_pos (Or.inl (by simpa using hk0))]
              have e2 : shl 0 (fsh n b 0 i) (os.take (k + 1)) = shl 0 (fsh n b 0 i) (os.take k) := by
                rw [HTK.out, shl_snoc, stp_miss HFT.out]
              have l1 : w.heap.size ≠ LB := by have := HLB.out; omega
              have l2 : w.heap.size + 1 ≠ LB := by have := HLB.out; omega
              have l3 : w.heap.size ≤ LB := by have := HLB.out; omega
              have hA0 := HR.out.1.below HG3.out
              have hA1 := HR.out.2.1.below HG3.out
              have hb9 := Below.step HR.out.2.2.2 HG3.out
              have hb8 : Below w.heap.size w (w1.drewN (nq + 1)) := ⟨hb9.os, hb9.tape, hb9.output, hb9.size, hb9.block⟩
              refine ⟨⟨k + 1, Hk.out, by go_num, Lib.hid ⟨?_, ?_, ?_, ?_⟩⟩, by have := Hk.out; simp [intOf]; omega⟩
              · exact (Bl.far (Bl.far (Bl.far (show Bl _ _ (w1.drewN (nq + 1)) from hA0) (p := ⟨LB, 3, none⟩) (fun e => l1 e.symm) _) (p := ⟨LB, 4, none⟩) (fun e => l1 e.symm) _) (p := ⟨LB, 5, none⟩) (fun e => l1 e.symm) _)
              · exact (Bl.far (Bl.far (Bl.far (show Bl _ _ (w1.drewN (nq + 1)) from hA1) (p := ⟨LB, 3, none⟩) (fun e => l2 e.symm) _) (p := ⟨LB, 4, none⟩) (fun e => l2 e.symm) _) (p := ⟨LB, 5, none⟩) (fun e => l2 e.symm) _)
              · rw [e1, e2]; exact (Bl.set (Bl.set (Bl.set (show Bl _ _ (w1.drewN (nq + 1)) from HBL.out) 3 _) 4 _) 5 _)
              · exact (((hb8.setCell (p := ⟨LB, 3, none⟩) l3 _).setCell (p := ⟨LB, 4, none⟩) l3 _).setCell (p := ⟨LB, 5, none⟩) l3 _)
            · rcases hbt : bet 1 o.p X.p with _ | _
              rotate_left
              · have HBT := Lib.hid hbt
                clear hbt
                go_wp2_with fail
                go_quiet ((go_at_call 26; exact Calls.quiet_of_same (better_v 1 o.p X.p true HBT.out _)))
                go_wp2_with fail
                go_region
                go_wp2_with fail
                have e1 : shl 1 (fsh n b 1 i) (os.take (k + 1)) = ⟨o.p, X.q + o.q, X.k + 1⟩ := by
                  rw [HTK.out, shl_snoc, ← HX.out]; unfold stp; rw [if_pos HFS.out, if_pos (Or.inr HBT.out)]
                have e2 : shl 0 (fsh n b 0 i) (os.take (k + 1)) = shl 0 (fsh n b 0 i) (os.take k) := by
                  rw [HTK.out, shl_snoc, stp_miss HFT.out]
                have l1 : w.heap.size ≠ LB := by have := HLB.out; omega
                have l2 : w.heap.size + 1 ≠ LB := by have := HLB.out; omega
                have l3 : w.heap.size ≤ LB := by have := HLB.out; omega
                have hA0 := HR.out.1.below HG3.out
                have hA1 := HR.out.2.1.below HG3.out
                have hb9 := Below.step HR.out.2.2.2 HG3.out
                have hb8 : Below w.heap.size w (w1.drewN (nq + 1)) := ⟨hb9.os, hb9.tape, hb9.output, hb9.size, hb9.block⟩
                refine ⟨⟨k + 1, Hk.out, by go_num, Lib.hid ⟨?_, ?_, ?_, ?_⟩⟩, by have := Hk.out; simp [intOf]; omega⟩
                · exact (Bl.far (Bl.far (Bl.far (show Bl _ _ (w1.drewN (nq + 1)) from hA0) (p := ⟨LB, 3, none⟩) (fun e => l1 e.symm) _) (p := ⟨LB, 4, none⟩) (fun e => l1 e.symm) _) (p := ⟨LB, 5, none⟩) (fun e => l1 e.symm) _)
                · exact (Bl.far (Bl.far (Bl.far (show Bl _ _ (w1.drewN (nq + 1)) from hA1) (p := ⟨LB, 3, none⟩) (fun e => l2 e.symm) _) (p := ⟨LB, 4, none⟩) (fun e => l2 e.symm) _) (p := ⟨LB, 5, none⟩) (fun e => l2 e.symm) _)
                · rw [e1, e2]; exact (Bl.set (Bl.set (Bl.set (show Bl _ _ (w1.drewN (nq + 1)) from HBL.out) 3 _) 4 _) 5 _)
                · exact (((hb8.setCell (p := ⟨LB, 3, none⟩) l3 _).setCell (p := ⟨LB, 4, none⟩) l3 _).setCell (p := ⟨LB, 5, none⟩) l3 _)
              · have HBT := Lib.hid hbt
                clear hbt
                go_wp2_with fail
                go_quiet ((go_at_call 26; exact Calls.quiet_of_same (better_v 1 o.p X.p false HBT.out _)))
                go_wp2_with fail
                go_region
                go_wp2_with fail
                have e1 : shl 1 (fsh n b 1 i) (os.take (k + 1)) = ⟨X.p, X.q + o.q, X.k + 1⟩ := by
                  rw [HTK.out, shl_snoc, ← HX.out]; unfold stp; rw [if_pos HFS.out, if_neg (fun h => h.elim (fun h => by simp [h] at hk0) (fun h => by rw [HBT.out] at h; cases h))]
                have e2 : shl 0 (fsh n b 0 i) (os.take (k + 1)) = shl 0 (fsh n b 0 i) (os.take k) := by
                  rw [HTK.out, shl_snoc, stp_miss HFT.out]
                have l1 : w.heap.size ≠ LB := by have := HLB.out; omega
                have l2 : w.heap.size + 1 ≠ LB := by have := HLB.out; omega
                have l3 : w.heap.size ≤ LB := by have := HLB.out; omega
                have hA0 := HR.out.1.below HG3.out
                have hA1 := HR.out.2.1.below HG3.out
                have hb9 := Below.step HR.out.2.2.2 HG3.out
                have hb8 : Below w.heap.size w (w1.drewN (nq + 1)) := ⟨hb9.os, hb9.tape, hb9.output, hb9.size, hb9.block⟩
                refine ⟨⟨k + 1, Hk.out, by go_num, Lib.hid ⟨?_, ?_, ?_, ?_⟩⟩, by have := Hk.out; simp [intOf]; omega⟩
                · exact (Bl.far (Bl.far (show Bl _ _ (w1.drewN (nq + 1)) from hA0) (p := ⟨LB, 4, none⟩) (fun e => l1 e.symm) _) (p := ⟨LB, 5, none⟩) (fun e => l1 e.symm) _)
                · exact (Bl.far (Bl.far (show Bl _ _ (w1.drewN (nq + 1)) from hA1) (p := ⟨LB, 4, none⟩) (fun e => l2 e.symm) _) (p := ⟨LB, 5, none⟩) (fun e => l2 e.symm) _)
                · rw [e1, e2]; exact (Bl.set (Bl.set (show Bl _ _ (w1.drewN (nq + 1)) from HBL.out) 4 _) 5 _)
                · exact ((hb8.setCell (p := ⟨LB, 4, none⟩) l3 _).setCell (p := ⟨LB, 5, none⟩) l3 _)
    · have hke : k = os.length := by omega
      subst hke
      have h := HR.out
      rw [List.take_length] at h

      have l0 := h.2.2.1.cell 0 _ rfl
      have l1 := h.2.2.1.cell 1 _ rfl
      have l2 := h.2.2.1.cell 2 _ rfl
      have l3 := h.2.2.1.cell 3 _ rfl
      have l4 := h.2.2.1.cell 4 _ rfl
      have l5 := h.2.2.1.cell 5 _ rfl
      have HR2 := Lib.hid h
      clear HR h hk hlt
      obtain ⟨X, hX⟩ : ∃ X, X = shl 0 (fsh n b 0 i) os := ⟨_, rfl⟩
      obtain ⟨Y, hY⟩ : ∃ Y, Y = shl 1 (fsh n b 1 i) os := ⟨_, rfl⟩
      rw [← hX, ← hY] at HR2
      rw [← hX] at l0 l1 l2
      rw [← hY] at l3 l4 l5
      have HXY := Lib.hid (And.intro hX hY)
      clear hX hY
      go_wp2_with (refine wpList_store_bl rfl 43 (.tmp 4) (.tmp 76) rfl (w.heap.size + 1) [.int .i64 0, .int .i64 0, .int .i64 0, .int .i64 0, .int .i64 0, .int .i64 0] [.int .i64 X.p, .int .i64 X.q, .int .i64 X.k, .int .i64 Y.p, .int .i64 Y.q, .int .i64 Y.k] rfl rfl HR2.out.2.1 rfl (by kernel_rfl) rfl ?_; intro w8 hb8 hk8 hs8 hbel8; have HF8 := Lib.hid (And.intro hb8 hbel8); clear hb8 hk8 hs8 hbel8)
      refine bodyPost_ret (results_bl (ty := 43) rfl _ _ (w.heap.size + 1) _ _ rfl HF8.out.1 Try.underlying43 rfl (by kernel_rfl)) rfl ⟨?_, ?_⟩
      · rw [← HXY.out.1, ← HXY.out.2]
      · exact HF8.out.2 _ _ (by omega) HR2.out.2.2.2
end Go.Proofs.Ytafignfoejefjaa
