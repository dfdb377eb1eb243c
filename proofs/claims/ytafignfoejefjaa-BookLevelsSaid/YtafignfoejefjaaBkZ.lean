/-
  The document's Shard of a book.
-/
import Derived.Test.YtafignfoejefjaaRows
import Derived.Test.YtafignfoejefjaaKit
import Derived.Test.YtafignfoejefjaaApp
import Derived.Test.YtafignfoejefjaaQuiet
import Derived.WalkKit
import Derived.ProofKit
import Derived.OpenShut
import Derived.ShutString
import Derived.Below
import Derived.Outline
import Derived.WalkLawsBesides
import Derived.WalkSpells
import Derived.Handy
import Derived.Deep.QuietTactic
import Derived.BigQuiet
import Derived.RegionTactic
import Derived.ChangeAlike
import Derived.Lib.Hide
import Derived.Laws.Rows
import Derived.Laws.Tables
import Derived.Laws.CopyOwn
import Derived.Laws.MakeOwn
import Derived.Laws.Entries
import Derived.Laws.OwnMore
import Derived.Deep.WholeRow
import Derived.Deep.LoopGhost
import Derived.Deep.AppendLies
import Derived.Deep.Draws
import Derived.Maps.AppendAt
import Derived.OwnWalk
import Derived.Deep.RegionHeld3
import Derived.Deep.Cut
import Derived.Deep.CutRange
import Derived.Deep.DeepCutAuto
import Derived.Deep.CutBlock
import Derived.Lib.SliceRun
import Derived.IntWalk
import Derived.Test.YtafignfoejefjaaBkM
import Derived.Test.YtafignfoejefjaaBkO
import Derived.Test.YtafignfoejefjaaBkP
import Derived.Test.YtafignfoejefjaaBkQ
import Derived.Test.YtafignfoejefjaaBkL
import Derived.Test.YtafignfoejefjaaBkR
import Derived.Test.YtafignfoejefjaaBkS
import Derived.Test.YtafignfoejefjaaBkY
namespace Go.Proofs.Ytafignfoejefjaa
open Go.ChangeShapes Go.WideShapes Go.ChangeAt Go.RowKit
theorem shl_p0 (s : Int) (f : Ord → Bool) (os : List Ord) (h : Fine os) : ((shl s f os).p = 0 ↔ (shl s f os).k = 0) := by
  have key : ∀ (os : List Ord) (x : Lvl), Fine os → 0 ≤ x.k → 0 ≤ x.p → (x.p = 0 ↔ x.k = 0) → ((os.foldl (stp s f) x).p = 0 ↔ (os.foldl (stp s f) x).k = 0) := by
    intro os
    induction os with
    | nil => intro x _ _ _ hx; exact hx
    | cons o t ih =>
      intro x hF h0 h1 hx
      have ho := hF o (List.mem_cons_self ..)
      simp only [List.foldl_cons]
      refine ih _ (fun y hy => hF y (List.mem_cons_of_mem _ hy)) ?_ ?_ ?_
      · unfold stp; split
        · show 0 ≤ x.k + 1; omega
        · exact h0
      · unfold stp; split
        · show 0 ≤ (if x.k = 0 ∨ bet s o.p x.p = true then o.p else x.p)
          split
          · omega
          · exact h1
        · exact h1
      · unfold stp; split
        · show (if x.k = 0 ∨ bet s o.p x.p = true then o.p else x.p) = 0 ↔ x.k + 1 = 0
          split
          · constructor <;> intro h <;> omega
          · rename_i hne
            have hk : ¬ x.k = 0 := fun h => hne (Or.inl h)
            constructor
            · intro h; exact absurd (hx.1 h) hk
            · intro h; omega
        · exact hx
  exact key os ⟨0, 0, 0⟩ h (Int.le_refl _) (Int.le_refl _) (by simp)
set_option maxRecDepth 100000 in
set_option maxHeartbeats 8000000 in
theorem sh20_0 (p c n b r f g : Int) (A : Option Addr) (ln cp : Nat) (gv : Nat → Ord) (i : Int) (w : World) (hE : OrdsAt A ln gv w) (hl : ln ≤ 40) (hF : Fine (lst ln gv)) (hn : 1 ≤ n ∧ n ≤ 3) (hb : 1 ≤ b ∧ b ≤ 4) : Calls Try.prog 13 #[.agg #[.int .i64 p, .int .i64 c, .int .i64 n, .int .i64 b, .int .i64 r, .int .i64 f, .int .i64 g], .slice A ln cp, .int .i64 i, .int .i64 0] w fun e w' => e = .returned (.agg #[.int .i64 (shl 0 (fsh n b 0 i) (lst ln gv)).p, .int .i64 (shl 0 (fsh n b 0 i) (lst ln gv)).q, .int .i64 (shl 0 (fsh n b 0 i) (lst ln gv)).k]) ∧ Below w.heap.size w w' := by
  have HE := Lib.hid hE
  have HL := Lib.hid hl
  have HF := Lib.hid hF
  have HT := Lib.hid (fun (tn ts tp tl tu : Int) (x0 : 1 ≤ tp) (x1 : tp ≤ 9999) W => sh7_is p c n b r f g tn ts tp tl tu hn hb x0 x1 W)
  clear hE hl hF hn hb
  go_enter Try.func13, Try.ntmps13
  go_wp2_with fail
  have b0 := ((Bl.new w [.int .i64 p, .int .i64 c, .int .i64 n, .int .i64 b, .int .i64 r, .int .i64 f, .int .i64 g] 23).below (w' := (w.alloc (.cells (List.toArray [.int .i64 p, .int .i64 c, .int .i64 n, .int .i64 b, .int .i64 r, .int .i64 f, .int .i64 g]) 23)).alloc (.cells (List.toArray [.int .i64 0, .int .i64 0, .int .i64 0]) 38)) (by go_grown)).below (w' := ((w.alloc (.cells (List.toArray [.int .i64 p, .int .i64 c, .int .i64 n, .int .i64 b, .int .i64 r, .int .i64 f, .int .i64 g]) 23)).alloc (.cells (List.toArray [.int .i64 0, .int .i64 0, .int .i64 0]) 38)).alloc (.cells (List.toArray [.int .i64 0, .int .i64 0, .int .i64 0]) 38)) (by go_grown)
  have b1 := (Bl.new (w.alloc (.cells (List.toArray [.int .i64 p, .int .i64 c, .int .i64 n, .int .i64 b, .int .i64 r, .int .i64 f, .int .i64 g]) 23)) [.int .i64 0, .int .i64 0, .int .i64 0] 38).below (w' := ((w.alloc (.cells (List.toArray [.int .i64 p, .int .i64 c, .int .i64 n, .int .i64 b, .int .i64 r, .int .i64 f, .int .i64 g]) 23)).alloc (.cells (List.toArray [.int .i64 0, .int .i64 0, .int .i64 0]) 38)).alloc (.cells (List.toArray [.int .i64 0, .int .i64 0, .int .i64 0]) 38)) (by go_grown)
  have b2 := Bl.new ((w.alloc (.cells (List.toArray [.int .i64 p, .int .i64 c, .int .i64 n, .int .i64 b, .int .i64 r, .int .i64 f, .int .i64 g]) 23)).alloc (.cells (List.toArray [.int .i64 0, .int .i64 0, .int .i64 0]) 38)) [.int .i64 0, .int .i64 0, .int .i64 0] 38
  have g0 : Below w.heap.size w (((w.alloc (.cells (List.toArray [.int .i64 p, .int .i64 c, .int .i64 n, .int .i64 b, .int .i64 r, .int .i64 f, .int .i64 g]) 23)).alloc (.cells (List.toArray [.int .i64 0, .int .i64 0, .int .i64 0]) 38)).alloc (.cells (List.toArray [.int .i64 0, .int .i64 0, .int .i64 0]) 38)) := by go_grown
  rw [World.size_alloc] at b1
  rw [World.size_alloc, World.size_alloc] at b2
  obtain ⟨W, hW⟩ : ∃ W, W = ((w.alloc (.cells (List.toArray [.int .i64 p, .int .i64 c, .int .i64 n, .int .i64 b, .int .i64 r, .int .i64 f, .int .i64 g]) 23)).alloc (.cells (List.toArray [.int .i64 0, .int .i64 0, .int .i64 0]) 38)).alloc (.cells (List.toArray [.int .i64 0, .int .i64 0, .int .i64 0]) 38) := ⟨_, rfl⟩
  rw [← hW] at b0 b1 b2 g0 ⊢
  obtain ⟨LB, hLB⟩ : ∃ LB, LB = w.heap.size + 1 + 1 := ⟨_, rfl⟩
  rw [← hLB] at b2 ⊢
  have HM0 : Hid (Bl w.heap.size [.int .i64 p, .int .i64 c, .int .i64 n, .int .i64 b, .int .i64 r, .int .i64 f, .int .i64 g] W ∧ Bl (w.heap.size + 1) [.int .i64 0, .int .i64 0, .int .i64 0] W ∧ Bl LB [.int .i64 (shl 0 (fsh n b 0 i) (lst 0 gv)).p, .int .i64 (shl 0 (fsh n b 0 i) (lst 0 gv)).q, .int .i64 (shl 0 (fsh n b 0 i) (lst 0 gv)).k] W ∧ Below w.heap.size w W) := Lib.hid ⟨b0, b1, b2, g0⟩
  have HLB := Lib.hid hLB
  clear b0 b1 b2 g0 hW hLB
  go_loopw [10] (fun j wr => ∃ k : Nat, k ≤ ln ∧ j = .int .i64 (k : Int) ∧ Hid (Bl w.heap.size [.int .i64 p, .int .i64 c, .int .i64 n, .int .i64 b, .int .i64 r, .int .i64 f, .int .i64 g] wr ∧ Bl (w.heap.size + 1) [.int .i64 0, .int .i64 0, .int .i64 0] wr ∧ Bl LB [.int .i64 (shl 0 (fsh n b 0 i) (lst k gv)).p, .int .i64 (shl 0 (fsh n b 0 i) (lst k gv)).q, .int .i64 (shl 0 (fsh n b 0 i) (lst k gv)).k] wr ∧ Below w.heap.size w wr)) (fun j _ => ln + 1 - (intOf j).toNat)
  case atStart => exact ⟨0, Nat.zero_le _, rfl, HM0⟩
  case round =>
    clear HM0
    obtain ⟨k, hk, rfl, HR⟩ := hrel
    have k0 : (0 : Int) ≤ (k : Int) := by omega
    by_cases hlt : k < ln
    · obtain ⟨ad, rfl, hab, hcs⟩ := (HE.out.below HR.out.2.2.2) (by omega)
      have hcy := hcs k hlt
      clear hcs
      have habw : (ad.add (k * 7)).block < wr.heap.size := by rw [block_of_add]; exact hab
      have HAB := Lib.hid habw
      have q1 : (k : Int) < (ln : Int) := by omega
      have q2 : (ln : Int) ≤ 40 := by have := HL.out; omega
      obtain ⟨o, ho⟩ : ∃ o, o = gv k := ⟨_, rfl⟩
      rw [← ho] at hcy
      have d0 : wr.cell? (ad.add (k * 7)) = some (.int .i64 o.c) := hcy 0 _ rfl
      have d1 : wr.cell? ⟨(ad.add (k * 7)).block, (ad.add (k * 7)).off + 1, none⟩ = some (.int .i64 o.n) := by rw [← addp _ 1 (by decide) (World.cell?_spot d0), add_of_add]; exact hcy 1 _ rfl
      have d2 : wr.cell? ⟨(ad.add (k * 7)).block, (ad.add (k * 7)).off + 2, none⟩ = some (.int .i64 o.s) := by rw [← addp _ 2 (by decide) (World.cell?_spot d0), add_of_add]; exact hcy 2 _ rfl
      have d3 : wr.cell? ⟨(ad.add (k * 7)).block, (ad.add (k * 7)).off + 3, none⟩ = some (.int .i64 o.p) := by rw [← addp _ 3 (by decide) (World.cell?_spot d0), add_of_add]; exact hcy 3 _ rfl
      have d4 : wr.cell? ⟨(ad.add (k * 7)).block, (ad.add (k * 7)).off + 4, none⟩ = some (.int .i64 o.l) := by rw [← addp _ 4 (by decide) (World.cell?_spot d0), add_of_add]; exact hcy 4 _ rfl
      have d5 : wr.cell? ⟨(ad.add (k * 7)).block, (ad.add (k * 7)).off + 5, none⟩ = some (.int .i64 o.u) := by rw [← addp _ 5 (by decide) (World.cell?_spot d0), add_of_add]; exact hcy 5 _ rfl
      have d6 : wr.cell? ⟨(ad.add (k * 7)).block, (ad.add (k * 7)).off + 6, none⟩ = some (.int .i64 o.q) := by rw [← addp _ 6 (by decide) (World.cell?_spot d0), add_of_add]; exact hcy 6 _ rfl
      have HD6 := Lib.hid d6
      have hf := HF.out o (List.mem_of_getElem? (by rw [ho]; exact lst_get ln gv k hlt))
      have p1 : 1 ≤ o.p := hf.1
      have p2 : o.p ≤ 9999 := hf.2.1
      have p3 : 0 ≤ o.q := hf.2.2.1
      have p4 : o.q ≤ 9999 := hf.2.2.2
      have HOO := Lib.hid ho
      have Hk := Lib.hid hlt
      clear ho hlt hk hf hcy hab habw
      have c0 := HR.out.1.cell 0 _ rfl
      have c1 := HR.out.1.cell 1 _ rfl
      have c2 := HR.out.1.cell 2 _ rfl
      have c3 := HR.out.1.cell 3 _ rfl
      have c4 := HR.out.1.cell 4 _ rfl
      have c5 := HR.out.1.cell 5 _ rfl
      have c6 := HR.out.1.cell 6 _ rfl
      have cl := HR.out.1.lt
      have gO : Below wr.heap.size wr (wr.alloc (.cells (List.toArray [.int .i64 o.n, .int .i64 o.s, .int .i64 o.p, .int .i64 o.l, .int .i64 o.u]) 48)) := by go_grown
      have bO := Bl.new wr [.int .i64 o.n, .int .i64 o.s, .int .i64 o.p, .int .i64 o.l, .int .i64 o.u] 48
      have HGO := Lib.hid (And.intro gO bO)
      clear gO bO
      by_cases hs : o.s ≠ 0
      · have s0 : (o.s != 0) = true := by rw [bne_iff_ne]; exact hs
        have f0 : fsh n b 0 i o = false := by unfold fsh; rw [beq_eq_false_iff_ne.2 hs]; rfl
        have HF0 := Lib.hid f0
        clear hs f0
        go_wp2_with fail
        go_roundw
        case rel => exact ⟨k + 1, Hk.out, by go_num, Lib.hid (by rw [lst_succ, ← HOO.out, shl_snoc, stp_miss HF0.out]; exact ⟨HR.out.1.below HGO.out.1, HR.out.2.1.below HGO.out.1, HR.out.2.2.1.below HGO.out.1, Below.step HR.out.2.2.2 HGO.out.1⟩)⟩
        case measure => have := Hk.out; simp [intOf]; omega
      have es : o.s = 0 := by omega
      rw [es] at d2
      have HGO2 : Hid (Below wr.heap.size wr (wr.alloc (.cells (List.toArray [.int .i64 o.n, .int .i64 0, .int .i64 o.p, .int .i64 o.l, .int .i64 o.u]) 48)) ∧ Bl wr.heap.size [.int .i64 o.n, .int .i64 0, .int .i64 o.p, .int .i64 o.l, .int .i64 o.u] (wr.alloc (.cells (List.toArray [.int .i64 o.n, .int .i64 0, .int .i64 o.p, .int .i64 o.l, .int .i64 o.u]) 48))) := Lib.hid (by have h := HGO.out; rw [es] at h; exact h)
      clear hs
      have HC := Lib.hid (fun W => HT.out o.n 0 o.p o.l o.u p1 p2 W)
      rcases hq : (sh n b o.n o.p == i) with _ | _
      · have fs : fsh n b 0 i o = false := by unfold fsh; rw [es, hq]; rfl
        have HFS := Lib.hid fs
        have hq2 : (sh n b o.n o.p != i) = true := by rw [bne, hq]; rfl
        have HES := Lib.hid es
        clear es fs hq
        generalize sh n b o.n o.p = S at *
        clear HGO
        go_wp2_with fail
        refine (HC.out _).mono ?_
        rintro e1 w1 ⟨rfl, hb1⟩
        have HG3 := Lib.hid (Below.step HGO2.out.1 hb1)
        clear hb1
        go_wp2_with fail
        go_roundw
        case rel => exact ⟨k + 1, Hk.out, by go_num, Lib.hid (by rw [lst_succ, ← HOO.out, shl_snoc, stp_miss HFS.out]; exact ⟨HR.out.1.below HG3.out, HR.out.2.1.below HG3.out, HR.out.2.2.1.below HG3.out, Below.step HR.out.2.2.2 HG3.out⟩)⟩
        case measure => have := Hk.out; simp [intOf]; omega
      · have fs : fsh n b 0 i o = true := by unfold fsh; rw [es, hq]; rfl
        have HFS := Lib.hid fs
        have hq2 : (sh n b o.n o.p != i) = false := by rw [bne, hq]; rfl
        have HES := Lib.hid es
        clear es fs hq
        generalize sh n b o.n o.p = S at *
        clear HGO
        obtain ⟨X, hX⟩ : ∃ X, X = (shl 0 (fsh n b 0 i) (lst k gv)) := ⟨_, rfl⟩
        have hft : Fine (lst k gv) := by rw [← lst_take ln gv k (by have := Hk.out; omega)]; exact HF.out.take k
        have yq := sumq_bd (fsh n b 0 i) (lst k gv) hft
        have yk := cnt_bd (fsh n b 0 i) (lst k gv)
        have yp := shl_p0 0 (fsh n b 0 i) (lst k gv) hft
        have yl : (lst k gv).length ≤ 40 := by rw [lst_len]; have := HL.out; have := Hk.out; omega
        rw [← shl_q 0, ← hX] at yq
        rw [← shl_k 0, ← hX] at yk
        rw [← hX] at yp
        have y1 : 0 ≤ X.q := yq.1
        have y2 : X.q ≤ 400000 := by have := yq.2; omega
        have y3 : 0 ≤ X.k := yk.1
        have y4 : X.k ≤ 40 := by have := yk.2; omega
        have HXP := Lib.hid yp
        have HX := Lib.hid hX
        clear yq yk yl hX yp hft
        go_wp2_with fail
        refine (HC.out _).mono ?_
        rintro e1 w1 ⟨rfl, hb1⟩
        have hg3 := Below.step HGO2.out.1 hb1
        have hbo := HGO2.out.2.below hb1
        have hbl := HR.out.2.2.1.below hg3
        rw [← HX.out] at hbl
        have HG3 := Lib.hid hg3
        have HBL := Lib.hid hbl
        have e6 := (hg3.cell (p := ⟨(ad.add (k * 7)).block, (ad.add (k * 7)).off + 6, none⟩) HAB.out).trans HD6.out
        have ol := hbo.lt
        have o2 := hbo.cell 2 _ rfl
        have x0 := hbl.cell 0 _ rfl
        have x1 := hbl.cell 1 _ rfl
        have x2 := hbl.cell 2 _ rfl
        have z0 := hbl.frz 0
        have z1 := hbl.frz 1
        have z2 := hbl.frz 2
        have xl := hbl.lt
        have hne : wr.heap.size ≠ LB := by have := HR.out.2.2.1.lt; omega
        have hne2 : LB ≠ wr.heap.size := fun e => hne e.symm
        clear hb1 hg3 hbo hbl HC c0 c1 c2 c3 c4 c5 c6 d0 d1 d2 d3 d4 d5 d6
        by_cases hp0 : X.p = 0
        · have hz : (X.p == 0) = true := beq_iff_eq.2 hp0
          have hxk : X.k = 0 := HXP.out.1 hp0
          have HXK := Lib.hid hxk
          clear hxk hp0
          go_wp2_with fail
          go_region
          go_wp2_with fail
          go_roundw
          case measure => have := Hk.out; simp [intOf]; omega
          case rel =>
            have e1 : shl 0 (fsh n b 0 i) (lst (k + 1) gv) = ⟨o.p, X.q + o.q, X.k + 1⟩ := by
              rw [lst_succ, ← HOO.out, shl_snoc, ← HX.out]; unfold stp; rw [if_pos HFS.out, if_pos (Or.inl HXK.out)]
            have l1 : w.heap.size ≠ LB := by have := HLB.out; omega
            have l2 : w.heap.size + 1 ≠ LB := by have := HLB.out; omega
            have l3 : w.heap.size ≤ LB := by have := HLB.out; omega
            have hA0 := HR.out.1.below HG3.out
            have hA1 := HR.out.2.1.below HG3.out
            have hb9 := Below.step HR.out.2.2.2 HG3.out
            have hb8 : Below w.heap.size w w1.drew := hb9.drew
            refine ⟨k + 1, Hk.out, by go_num, Lib.hid ⟨?_, ?_, ?_, ?_⟩⟩
            · exact (Bl.far (Bl.far (Bl.far (show Bl _ _ w1.drew from hA0) (p := ⟨LB, 1, none⟩) (fun e => l1 e.symm) _) (p := ⟨LB, 2, none⟩) (fun e => l1 e.symm) _) (p := ⟨LB, 0, none⟩) (fun e => l1 e.symm) _)
            · exact (Bl.far (Bl.far (Bl.far (show Bl _ _ w1.drew from hA1) (p := ⟨LB, 1, none⟩) (fun e => l2 e.symm) _) (p := ⟨LB, 2, none⟩) (fun e => l2 e.symm) _) (p := ⟨LB, 0, none⟩) (fun e => l2 e.symm) _)
            · rw [e1]; exact (Bl.set (Bl.set (Bl.set (show Bl _ _ w1.drew from HBL.out) 1 _) 2 _) 0 _)
            · exact (((hb8.setCell (p := ⟨LB, 1, none⟩) l3 _).setCell (p := ⟨LB, 2, none⟩) l3 _).setCell (p := ⟨LB, 0, none⟩) l3 _)
        · have hz : (X.p == 0) = false := beq_eq_false_iff_ne.2 hp0
          rcases hbt : bet 0 o.p X.p with _ | _
          rotate_left
          · have hxk : ¬ X.k = 0 := fun h => hp0 (HXP.out.2 h)
            have HXK := Lib.hid hxk
            have htt : decide (X.p < o.p) = true := by simpa [bet] using hbt
            have HBT := Lib.hid hbt
            clear hxk hbt hp0
            go_wp2_with fail
            go_region
            go_wp2_with fail
            go_roundw
            case measure => have := Hk.out; simp [intOf]; omega
            case rel =>
              have e1 : shl 0 (fsh n b 0 i) (lst (k + 1) gv) = ⟨o.p, X.q + o.q, X.k + 1⟩ := by
                rw [lst_succ, ← HOO.out, shl_snoc, ← HX.out]; unfold stp; rw [if_pos HFS.out, if_pos (Or.inr HBT.out)]
              have l1 : w.heap.size ≠ LB := by have := HLB.out; omega
              have l2 : w.heap.size + 1 ≠ LB := by have := HLB.out; omega
              have l3 : w.heap.size ≤ LB := by have := HLB.out; omega
              have hA0 := HR.out.1.below HG3.out
              have hA1 := HR.out.2.1.below HG3.out
              have hb9 := Below.step HR.out.2.2.2 HG3.out
              have hb8 : Below w.heap.size w w1.drew := hb9.drew
              refine ⟨k + 1, Hk.out, by go_num, Lib.hid ⟨?_, ?_, ?_, ?_⟩⟩
              · exact (Bl.far (Bl.far (Bl.far (show Bl _ _ w1.drew from hA0) (p := ⟨LB, 1, none⟩) (fun e => l1 e.symm) _) (p := ⟨LB, 2, none⟩) (fun e => l1 e.symm) _) (p := ⟨LB, 0, none⟩) (fun e => l1 e.symm) _)
              · exact (Bl.far (Bl.far (Bl.far (show Bl _ _ w1.drew from hA1) (p := ⟨LB, 1, none⟩) (fun e => l2 e.symm) _) (p := ⟨LB, 2, none⟩) (fun e => l2 e.symm) _) (p := ⟨LB, 0, none⟩) (fun e => l2 e.symm) _)
              · rw [e1]; exact (Bl.set (Bl.set (Bl.set (show Bl _ _ w1.drew from HBL.out) 1 _) 2 _) 0 _)
              · exact (((hb8.setCell (p := ⟨LB, 1, none⟩) l3 _).setCell (p := ⟨LB, 2, none⟩) l3 _).setCell (p := ⟨LB, 0, none⟩) l3 _)
          · have hxk : ¬ X.k = 0 := fun h => hp0 (HXP.out.2 h)
            have HXK := Lib.hid hxk
            have htt : decide (X.p < o.p) = false := by simpa [bet] using hbt
            have HBT := Lib.hid hbt
            clear hxk hbt hp0
            go_wp2_with fail
            go_region
            go_wp2_with fail
            go_roundw
            case measure => have := Hk.out; simp [intOf]; omega
            case rel =>
              have e1 : shl 0 (fsh n b 0 i) (lst (k + 1) gv) = ⟨X.p, X.q + o.q, X.k + 1⟩ := by
                rw [lst_succ, ← HOO.out, shl_snoc, ← HX.out]; unfold stp; rw [if_pos HFS.out, if_neg (fun h => h.elim (fun h => HXK.out h) (fun h => by rw [HBT.out] at h; cases h))]
              have l1 : w.heap.size ≠ LB := by have := HLB.out; omega
              have l2 : w.heap.size + 1 ≠ LB := by have := HLB.out; omega
              have l3 : w.heap.size ≤ LB := by have := HLB.out; omega
              have hA0 := HR.out.1.below HG3.out
              have hA1 := HR.out.2.1.below HG3.out
              have hb9 := Below.step HR.out.2.2.2 HG3.out
              have hb8 : Below w.heap.size w w1.drew := hb9.drew
              refine ⟨k + 1, Hk.out, by go_num, Lib.hid ⟨?_, ?_, ?_, ?_⟩⟩
              · exact (Bl.far (Bl.far (show Bl _ _ w1.drew from hA0) (p := ⟨LB, 1, none⟩) (fun e => l1 e.symm) _) (p := ⟨LB, 2, none⟩) (fun e => l1 e.symm) _)
              · exact (Bl.far (Bl.far (show Bl _ _ w1.drew from hA1) (p := ⟨LB, 1, none⟩) (fun e => l2 e.symm) _) (p := ⟨LB, 2, none⟩) (fun e => l2 e.symm) _)
              · rw [e1]; exact (Bl.set (Bl.set (show Bl _ _ w1.drew from HBL.out) 1 _) 2 _)
              · exact ((hb8.setCell (p := ⟨LB, 1, none⟩) l3 _).setCell (p := ⟨LB, 2, none⟩) l3 _)
    · have hke : k = ln := by omega
      subst hke
      have h := HR.out
      obtain ⟨X, hX⟩ : ∃ X, X = (shl 0 (fsh n b 0 i) (lst k gv)) := ⟨_, rfl⟩
      rw [← hX] at h
      have l0 := h.2.2.1.cell 0 _ rfl
      have l1 := h.2.2.1.cell 1 _ rfl
      have l2 := h.2.2.1.cell 2 _ rfl
      have HR2 := Lib.hid h
      have HX := Lib.hid hX
      clear HR h hk hlt hX
      go_wp2_with (refine wpList_store_bl rfl 38 (.tmp 8) (.tmp 75) rfl (w.heap.size + 1) [.int .i64 0, .int .i64 0, .int .i64 0] [.int .i64 X.p, .int .i64 X.q, .int .i64 X.k] rfl rfl HR2.out.2.1 rfl (by kernel_rfl) rfl ?_; intro w8 hb8 hk8 hs8 hbel8; have HF8 := Lib.hid (And.intro hb8 hbel8); clear hb8 hk8 hs8 hbel8)
      refine bodyPost_ret (results_bl (ty := 38) rfl _ _ (w.heap.size + 1) _ _ rfl HF8.out.1 Try.underlying38 rfl (by kernel_rfl)) rfl ⟨?_, ?_⟩
      · rw [← HX.out]
      · exact HF8.out.2 _ _ (by omega) HR2.out.2.2.2
set_option maxRecDepth 100000 in
set_option maxHeartbeats 8000000 in
theorem sh20_1 (p c n b r f g : Int) (A : Option Addr) (ln cp : Nat) (gv : Nat → Ord) (i : Int) (w : World) (hE : OrdsAt A ln gv w) (hl : ln ≤ 40) (hF : Fine (lst ln gv)) (hn : 1 ≤ n ∧ n ≤ 3) (hb : 1 ≤ b ∧ b ≤ 4) : Calls Try.prog 13 #[.agg #[.int .i64 p, .int .i64 c, .int .i64 n, .int .i64 b, .int .i64 r, .int .i64 f, .int .i64 g], .slice A ln cp, .int .i64 i, .int .i64 1] w fun e w' => e = .returned (.agg #[.int .i64 (shl 1 (fsh n b 1 i) (lst ln gv)).p, .int .i64 (shl 1 (fsh n b 1 i) (lst ln gv)).q, .int .i64 (shl 1 (fsh n b 1 i) (lst ln gv)).k]) ∧ Below w.heap.size w w' := by
  have HE := Lib.hid hE
  have HL := Lib.hid hl
  have HF := Lib.hid hF
  have HT := Lib.hid (fun (tn ts tp tl tu : Int) (x0 : 1 ≤ tp) (x1 : tp ≤ 9999) W => sh7_is p c n b r f g tn ts tp tl tu hn hb x0 x1 W)
  clear hE hl hF hn hb
  go_enter Try.func13, Try.ntmps13
  go_wp2_with fail
  have b0 := ((Bl.new w [.int .i64 p, .int .i64 c, .int .i64 n, .int .i64 b, .int .i64 r, .int .i64 f, .int .i64 g] 23).below (w' := (w.alloc (.cells (List.toArray [.int .i64 p, .int .i64 c, .int .i64 n, .int .i64 b, .int .i64 r, .int .i64 f, .int .i64 g]) 23)).alloc (.cells (List.toArray [.int .i64 0, .int .i64 0, .int .i64 0]) 38)) (by go_grown)).below (w' := ((w.alloc (.cells (List.toArray [.int .i64 p, .int .i64 c, .int .i64 n, .int .i64 b, .int .i64 r, .int .i64 f, .int .i64 g]) 23)).alloc (.cells (List.toArray [.int .i64 0, .int .i64 0, .int .i64 0]) 38)).alloc (.cells (List.toArray [.int .i64 0, .int .i64 0, .int .i64 0]) 38)) (by go_grown)
  have b1 := (Bl.new (w.alloc (.cells (List.toArray [.int .i64 p, .int .i64 c, .int .i64 n, .int .i64 b, .int .i64 r, .int .i64 f, .int .i64 g]) 23)) [.int .i64 0, .int .i64 0, .int .i64 0] 38).below (w' := ((w.alloc (.cells (List.toArray [.int .i64 p, .int .i64 c, .int .i64 n, .int .i64 b, .int .i64 r, .int .i64 f, .int .i64 g]) 23)).alloc (.cells (List.toArray [.int .i64 0, .int .i64 0, .int .i64 0]) 38)).alloc (.cells (List.toArray [.int .i64 0, .int .i64 0, .int .i64 0]) 38)) (by go_grown)
  have b2 := Bl.new ((w.alloc (.cells (List.toArray [.int .i64 p, .int .i64 c, .int .i64 n, .int .i64 b, .int .i64 r, .int .i64 f, .int .i64 g]) 23)).alloc (.cells (List.toArray [.int .i64 0, .int .i64 0, .int .i64 0]) 38)) [.int .i64 0, .int .i64 0, .int .i64 0] 38
  have g0 : Below w.heap.size w (((w.alloc (.cells (List.toArray [.int .i64 p, .int .i64 c, .int .i64 n, .int .i64 b, .int .i64 r, .int .i64 f, .int .i64 g]) 23)).alloc (.cells (List.toArray [.int .i64 0, .int .i64 0, .int .i64 0]) 38)).alloc (.cells (List.toArray [.int .i64 0, .int .i64 0, .int .i64 0]) 38)) := by go_grown
  rw [World.size_alloc] at b1
  rw [World.size_alloc, World.size_alloc] at b2
  obtain ⟨W, hW⟩ : ∃ W, W = ((w.alloc (.cells (List.toArray [.int .i64 p, .int .i64 c, .int .i64 n, .int .i64 b, .int .i64 r, .int .i64 f, .int .i64 g]) 23)).alloc (.cells (List.toArray [.int .i64 0, .int .i64 0, .int .i64 0]) 38)).alloc (.cells (List.toArray [.int .i64 0, .int .i64 0, .int .i64 0]) 38) := ⟨_, rfl⟩
  rw [← hW] at b0 b1 b2 g0 ⊢
  obtain ⟨LB, hLB⟩ : ∃ LB, LB = w.heap.size + 1 + 1 := ⟨_, rfl⟩
  rw [← hLB] at b2 ⊢
  have HM0 : Hid (Bl w.heap.size [.int .i64 p, .int .i64 c, .int .i64 n, .int .i64 b, .int .i64 r, .int .i64 f, .int .i64 g] W ∧ Bl (w.heap.size + 1) [.int .i64 0, .int .i64 0, .int .i64 0] W ∧ Bl LB [.int .i64 (shl 1 (fsh n b 1 i) (lst 0 gv)).p, .int .i64 (shl 1 (fsh n b 1 i) (lst 0 gv)).q, .int .i64 (shl 1 (fsh n b 1 i) (lst 0 gv)).k] W ∧ Below w.heap.size w W) := Lib.hid ⟨b0, b1, b2, g0⟩
  have HLB := Lib.hid hLB
  clear b0 b1 b2 g0 hW hLB
  go_loopw [10] (fun j wr => ∃ k : Nat, k ≤ ln ∧ j = .int .i64 (k : Int) ∧ Hid (Bl w.heap.size [.int .i64 p, .int .i64 c, .int .i64 n, .int .i64 b, .int .i64 r, .int .i64 f, .int .i64 g] wr ∧ Bl (w.heap.size + 1) [.int .i64 0, .int .i64 0, .int .i64 0] wr ∧ Bl LB [.int .i64 (shl 1 (fsh n b 1 i) (lst k gv)).p, .int .i64 (shl 1 (fsh n b 1 i) (lst k gv)).q, .int .i64 (shl 1 (fsh n b 1 i) (lst k gv)).k] wr ∧ Below w.heap.size w wr)) (fun j _ => ln + 1 - (intOf j).toNat)
  case atStart => exact ⟨0, Nat.zero_le _, rfl, HM0⟩
  case round =>
    clear HM0
    obtain ⟨k, hk, rfl, HR⟩ := hrel
    have k0 : (0 : Int) ≤ (k : Int) := by omega
    by_cases hlt : k < ln
    · obtain ⟨ad, rfl, hab, hcs⟩ := (HE.out.below HR.out.2.2.2) (by omega)
      have hcy := hcs k hlt
      clear hcs
      have habw : (ad.add (k * 7)).block < wr.heap.size := by rw [block_of_add]; exact hab
      have HAB := Lib.hid habw
      have q1 : (k : Int) < (ln : Int) := by omega
      have q2 : (ln : Int) ≤ 40 := by have := HL.out; omega
      obtain ⟨o, ho⟩ : ∃ o, o = gv k := ⟨_, rfl⟩
      rw [← ho] at hcy
      have d0 : wr.cell? (ad.add (k * 7)) = some (.int .i64 o.c) := hcy 0 _ rfl
      have d1 : wr.cell? ⟨(ad.add (k * 7)).block, (ad.add (k * 7)).off + 1, none⟩ = some (.int .i64 o.n) := by rw [← addp _ 1 (by decide) (World.cell?_spot d0), add_of_add]; exact hcy 1 _ rfl
      have d2 : wr.cell? ⟨(ad.add (k * 7)).block, (ad.add (k * 7)).off + 2, none⟩ = some (.int .i64 o.s) := by rw [← addp _ 2 (by decide) (World.cell?_spot d0), add_of_add]; exact hcy 2 _ rfl
      have d3 : wr.cell? ⟨(ad.add (k * 7)).block, (ad.add (k * 7)).off + 3, none⟩ = some (.int .i64 o.p) := by rw [← addp _ 3 (by decide) (World.cell?_spot d0), add_of_add]; exact hcy 3 _ rfl
      have d4 : wr.cell? ⟨(ad.add (k * 7)).block, (ad.add (k * 7)).off + 4, none⟩ = some (.int .i64 o.l) := by rw [← addp _ 4 (by decide) (World.cell?_spot d0), add_of_add]; exact hcy 4 _ rfl
      have d5 : wr.cell? ⟨(ad.add (k * 7)).block, (ad.add (k * 7)).off + 5, none⟩ = some (.int .i64 o.u) := by rw [← addp _ 5 (by decide) (World.cell?_spot d0), add_of_add]; exact hcy 5 _ rfl
      have d6 : wr.cell? ⟨(ad.add (k * 7)).block, (ad.add (k * 7)).off + 6, none⟩ = some (.int .i64 o.q) := by rw [← addp _ 6 (by decide) (World.cell?_spot d0), add_of_add]; exact hcy 6 _ rfl
      have HD6 := Lib.hid d6
      have hf := HF.out o (List.mem_of_getElem? (by rw [ho]; exact lst_get ln gv k hlt))
      have p1 : 1 ≤ o.p := hf.1
      have p2 : o.p ≤ 9999 := hf.2.1
      have p3 : 0 ≤ o.q := hf.2.2.1
      have p4 : o.q ≤ 9999 := hf.2.2.2
      have HOO := Lib.hid ho
      have Hk := Lib.hid hlt
      clear ho hlt hk hf hcy hab habw
      have c0 := HR.out.1.cell 0 _ rfl
      have c1 := HR.out.1.cell 1 _ rfl
      have c2 := HR.out.1.cell 2 _ rfl
      have c3 := HR.out.1.cell 3 _ rfl
      have c4 := HR.out.1.cell 4 _ rfl
      have c5 := HR.out.1.cell 5 _ rfl
      have c6 := HR.out.1.cell 6 _ rfl
      have cl := HR.out.1.lt
      have gO : Below wr.heap.size wr (wr.alloc (.cells (List.toArray [.int .i64 o.n, .int .i64 o.s, .int .i64 o.p, .int .i64 o.l, .int .i64 o.u]) 48)) := by go_grown
      have bO := Bl.new wr [.int .i64 o.n, .int .i64 o.s, .int .i64 o.p, .int .i64 o.l, .int .i64 o.u] 48
      have HGO := Lib.hid (And.intro gO bO)
      clear gO bO
      by_cases hs : o.s ≠ 1
      · have s0 : (o.s != 1) = true := by rw [bne_iff_ne]; exact hs
        have f0 : fsh n b 1 i o = false := by unfold fsh; rw [beq_eq_false_iff_ne.2 hs]; rfl
        have HF0 := Lib.hid f0
        clear hs f0
        go_wp2_with fail
        go_roundw
        case rel => exact ⟨k + 1, Hk.out, by go_num, Lib.hid (by rw [lst_succ, ← HOO.out, shl_snoc, stp_miss HF0.out]; exact ⟨HR.out.1.below HGO.out.1, HR.out.2.1.below HGO.out.1, HR.out.2.2.1.below HGO.out.1, Below.step HR.out.2.2.2 HGO.out.1⟩)⟩
        case measure => have := Hk.out; simp [intOf]; omega
      have es : o.s = 1 := by omega
      rw [es] at d2
      have HGO2 : Hid (Below wr.heap.size wr (wr.alloc (.cells (List.toArray [.int .i64 o.n, .int .i64 1, .int .i64 o.p, .int .i64 o.l, .int .i64 o.u]) 48)) ∧ Bl wr.heap.size [.int .i64 o.n, .int .i64 1, .int .i64 o.p, .int .i64 o.l, .int .i64 o.u] (wr.alloc (.cells (List.toArray [.int .i64 o.n, .int .i64 1, .int .i64 o.p, .int .i64 o.l, .int .i64 o.u]) 48))) := Lib.hid (by have h := HGO.out; rw [es] at h; exact h)
      clear hs
      have HC := Lib.hid (fun W => HT.out o.n 1 o.p o.l o.u p1 p2 W)
      rcases hq : (sh n b o.n o.p == i) with _ | _
      · have fs : fsh n b 1 i o = false := by unfold fsh; rw [es, hq]; rfl
        have HFS := Lib.hid fs
        have hq2 : (sh n b o.n o.p != i) = true := by rw [bne, hq]; rfl
        have HES := Lib.hid es
        clear es fs hq
        generalize sh n b o.n o.p = S at *
        clear HGO
        go_wp2_with fail
        refine (HC.out _).mono ?_
        rintro e1 w1 ⟨rfl, hb1⟩
        have HG3 := Lib.hid (Below.step HGO2.out.1 hb1)
        clear hb1
        go_wp2_with fail
        go_roundw
        case rel => exact ⟨k + 1, Hk.out, by go_num, Lib.hid (by rw [lst_succ, ← HOO.out, shl_snoc, stp_miss HFS.out]; exact ⟨HR.out.1.below HG3.out, HR.out.2.1.below HG3.out, HR.out.2.2.1.below HG3.out, Below.step HR.out.2.2.2 HG3.out⟩)⟩
        case measure => have := Hk.out; simp [intOf]; omega
      · have fs : fsh n b 1 i o = true := by unfold fsh; rw [es, hq]; rfl
        have HFS := Lib.hid fs
        have hq2 : (sh n b o.n o.p != i) = false := by rw [bne, hq]; rfl
        have HES := Lib.hid es
        clear es fs hq
        generalize sh n b o.n o.p = S at *
        clear HGO
        obtain ⟨X, hX⟩ : ∃ X, X = (shl 1 (fsh n b 1 i) (lst k gv)) := ⟨_, rfl⟩
        have hft : Fine (lst k gv) := by rw [← lst_take ln gv k (by have := Hk.out; omega)]; exact HF.out.take k
        have yq := sumq_bd (fsh n b 1 i) (lst k gv) hft
        have yk := cnt_bd (fsh n b 1 i) (lst k gv)
        have yp := shl_p0 1 (fsh n b 1 i) (lst k gv) hft
        have yl : (lst k gv).length ≤ 40 := by rw [lst_len]; have := HL.out; have := Hk.out; omega
        rw [← shl_q 1, ← hX] at yq
        rw [← shl_k 1, ← hX] at yk
        rw [← hX] at yp
        have y1 : 0 ≤ X.q := yq.1
        have y2 : X.q ≤ 400000 := by have := yq.2; omega
        have y3 : 0 ≤ X.k := yk.1
        have y4 : X.k ≤ 40 := by have := yk.2; omega
        have HXP := Lib.hid yp
        have HX := Lib.hid hX
        clear yq yk yl hX yp hft
        go_wp2_with fail
        refine (HC.out _).mono ?_
        rintro e1 w1 ⟨rfl, hb1⟩
        have hg3 := Below.step HGO2.out.1 hb1
        have hbo := HGO2.out.2.below hb1
        have hbl := HR.out.2.2.1.below hg3
        rw [← HX.out] at hbl
        have HG3 := Lib.hid hg3
        have HBL := Lib.hid hbl
        have e6 := (hg3.cell (p := ⟨(ad.add (k * 7)).block, (ad.add (k * 7)).off + 6, none⟩) HAB.out).trans HD6.out
        have ol := hbo.lt
        have o2 := hbo.cell 2 _ rfl
        have x0 := hbl.cell 0 _ rfl
        have x1 := hbl.cell 1 _ rfl
        have x2 := hbl.cell 2 _ rfl
        have z0 := hbl.frz 0
        have z1 := hbl.frz 1
        have z2 := hbl.frz 2
        have xl := hbl.lt
        have hne : wr.heap.size ≠ LB := by have := HR.out.2.2.1.lt; omega
        have hne2 : LB ≠ wr.heap.size := fun e => hne e.symm
        clear hb1 hg3 hbo hbl HC c0 c1 c2 c3 c4 c5 c6 d0 d1 d2 d3 d4 d5 d6
        by_cases hp0 : X.p = 0
        · have hz : (X.p == 0) = true := beq_iff_eq.2 hp0
          have hxk : X.k = 0 := HXP.out.1 hp0
          have HXK := Lib.hid hxk
          clear hxk hp0
          go_wp2_with fail
          go_region
          go_wp2_with fail
          go_roundw
          case measure => have := Hk.out; simp [intOf]; omega
          case rel =>
            have e1 : shl 1 (fsh n b 1 i) (lst (k + 1) gv) = ⟨o.p, X.q + o.q, X.k + 1⟩ := by
              rw [lst_succ, ← HOO.out, shl_snoc, ← HX.out]; unfold stp; rw [if_pos HFS.out, if_pos (Or.inl HXK.out)]
            have l1 : w.heap.size ≠ LB := by have := HLB.out; omega
            have l2 : w.heap.size + 1 ≠ LB := by have := HLB.out; omega
            have l3 : w.heap.size ≤ LB := by have := HLB.out; omega
            have hA0 := HR.out.1.below HG3.out
            have hA1 := HR.out.2.1.below HG3.out
            have hb9 := Below.step HR.out.2.2.2 HG3.out
            have hb8 : Below w.heap.size w w1.drew := hb9.drew
            refine ⟨k + 1, Hk.out, by go_num, Lib.hid ⟨?_, ?_, ?_, ?_⟩⟩
            · exact (Bl.far (Bl.far (Bl.far (show Bl _ _ w1.drew from hA0) (p := ⟨LB, 1, none⟩) (fun e => l1 e.symm) _) (p := ⟨LB, 2, none⟩) (fun e => l1 e.symm) _) (p := ⟨LB, 0, none⟩) (fun e => l1 e.symm) _)
            · exact (Bl.far (Bl.far (Bl.far (show Bl _ _ w1.drew from hA1) (p := ⟨LB, 1, none⟩) (fun e => l2 e.symm) _) (p := ⟨LB, 2, none⟩) (fun e => l2 e.symm) _) (p := ⟨LB, 0, none⟩) (fun e => l2 e.symm) _)
            · rw [e1]; exact (Bl.set (Bl.set (Bl.set (show Bl _ _ w1.drew from HBL.out) 1 _) 2 _) 0 _)
            · exact (((hb8.setCell (p := ⟨LB, 1, none⟩) l3 _).setCell (p := ⟨LB, 2, none⟩) l3 _).setCell (p := ⟨LB, 0, none⟩) l3 _)
        · have hz : (X.p == 0) = false := beq_eq_false_iff_ne.2 hp0
          rcases hbt : bet 1 o.p X.p with _ | _
          rotate_left
          · have hxk : ¬ X.k = 0 := fun h => hp0 (HXP.out.2 h)
            have HXK := Lib.hid hxk
            have htt : decide (o.p < X.p) = true := by simpa [bet] using hbt
            have HBT := Lib.hid hbt
            clear hxk hbt hp0
            go_wp2_with fail
            go_region
            go_wp2_with fail
            go_roundw
            case measure => have := Hk.out; simp [intOf]; omega
            case rel =>
              have e1 : shl 1 (fsh n b 1 i) (lst (k + 1) gv) = ⟨o.p, X.q + o.q, X.k + 1⟩ := by
                rw [lst_succ, ← HOO.out, shl_snoc, ← HX.out]; unfold stp; rw [if_pos HFS.out, if_pos (Or.inr HBT.out)]
              have l1 : w.heap.size ≠ LB := by have := HLB.out; omega
              have l2 : w.heap.size + 1 ≠ LB := by have := HLB.out; omega
              have l3 : w.heap.size ≤ LB := by have := HLB.out; omega
              have hA0 := HR.out.1.below HG3.out
              have hA1 := HR.out.2.1.below HG3.out
              have hb9 := Below.step HR.out.2.2.2 HG3.out
              have hb8 : Below w.heap.size w w1.drew := hb9.drew
              refine ⟨k + 1, Hk.out, by go_num, Lib.hid ⟨?_, ?_, ?_, ?_⟩⟩
              · exact (Bl.far (Bl.far (Bl.far (show Bl _ _ w1.drew from hA0) (p := ⟨LB, 1, none⟩) (fun e => l1 e.symm) _) (p := ⟨LB, 2, none⟩) (fun e => l1 e.symm) _) (p := ⟨LB, 0, none⟩) (fun e => l1 e.symm) _)
              · exact (Bl.far (Bl.far (Bl.far (show Bl _ _ w1.drew from hA1) (p := ⟨LB, 1, none⟩) (fun e => l2 e.symm) _) (p := ⟨LB, 2, none⟩) (fun e => l2 e.symm) _) (p := ⟨LB, 0, none⟩) (fun e => l2 e.symm) _)
              · rw [e1]; exact (Bl.set (Bl.set (Bl.set (show Bl _ _ w1.drew from HBL.out) 1 _) 2 _) 0 _)
              · exact (((hb8.setCell (p := ⟨LB, 1, none⟩) l3 _).setCell (p := ⟨LB, 2, none⟩) l3 _).setCell (p := ⟨LB, 0, none⟩) l3 _)
          · have hxk : ¬ X.k = 0 := fun h => hp0 (HXP.out.2 h)
            have HXK := Lib.hid hxk
            have htt : decide (o.p < X.p) = false := by simpa [bet] using hbt
            have HBT := Lib.hid hbt
            clear hxk hbt hp0
            go_wp2_with fail
            go_region
            go_wp2_with fail
            go_roundw
            case measure => have := Hk.out; simp [intOf]; omega
            case rel =>
              have e1 : shl 1 (fsh n b 1 i) (lst (k + 1) gv) = ⟨X.p, X.q + o.q, X.k + 1⟩ := by
                rw [lst_succ, ← HOO.out, shl_snoc, ← HX.out]; unfold stp; rw [if_pos HFS.out, if_neg (fun h => h.elim (fun h => HXK.out h) (fun h => by rw [HBT.out] at h; cases h))]
              have l1 : w.heap.size ≠ LB := by have := HLB.out; omega
              have l2 : w.heap.size + 1 ≠ LB := by have := HLB.out; omega
              have l3 : w.heap.size ≤ LB := by have := HLB.out; omega
              have hA0 := HR.out.1.below HG3.out
              have hA1 := HR.out.2.1.below HG3.out
              have hb9 := Below.step HR.out.2.2.2 HG3.out
              have hb8 : Below w.heap.size w w1.drew := hb9.drew
              refine ⟨k + 1, Hk.out, by go_num, Lib.hid ⟨?_, ?_, ?_, ?_⟩⟩
              · exact (Bl.far (Bl.far (show Bl _ _ w1.drew from hA0) (p := ⟨LB, 1, none⟩) (fun e => l1 e.symm) _) (p := ⟨LB, 2, none⟩) (fun e => l1 e.symm) _)
              · exact (Bl.far (Bl.far (show Bl _ _ w1.drew from hA1) (p := ⟨LB, 1, none⟩) (fun e => l2 e.symm) _) (p := ⟨LB, 2, none⟩) (fun e => l2 e.symm) _)
              · rw [e1]; exact (Bl.set (Bl.set (show Bl _ _ w1.drew from HBL.out) 1 _) 2 _)
              · exact ((hb8.setCell (p := ⟨LB, 1, none⟩) l3 _).setCell (p := ⟨LB, 2, none⟩) l3 _)
    · have hke : k = ln := by omega
      subst hke
      have h := HR.out
      obtain ⟨X, hX⟩ : ∃ X, X = (shl 1 (fsh n b 1 i) (lst k gv)) := ⟨_, rfl⟩
      rw [← hX] at h
      have l0 := h.2.2.1.cell 0 _ rfl
      have l1 := h.2.2.1.cell 1 _ rfl
      have l2 := h.2.2.1.cell 2 _ rfl
      have HR2 := Lib.hid h
      have HX := Lib.hid hX
      clear HR h hk hlt hX
      go_wp2_with (refine wpList_store_bl rfl 38 (.tmp 8) (.tmp 75) rfl (w.heap.size + 1) [.int .i64 0, .int .i64 0, .int .i64 0] [.int .i64 X.p, .int .i64 X.q, .int .i64 X.k] rfl rfl HR2.out.2.1 rfl (by kernel_rfl) rfl ?_; intro w8 hb8 hk8 hs8 hbel8; have HF8 := Lib.hid (And.intro hb8 hbel8); clear hb8 hk8 hs8 hbel8)
      refine bodyPost_ret (results_bl (ty := 38) rfl _ _ (w.heap.size + 1) _ _ rfl HF8.out.1 Try.underlying38 rfl (by kernel_rfl)) rfl ⟨?_, ?_⟩
      · rw [← HX.out]
      · exact HF8.out.2 _ _ (by omega) HR2.out.2.2.2
end Go.Proofs.Ytafignfoejefjaa
