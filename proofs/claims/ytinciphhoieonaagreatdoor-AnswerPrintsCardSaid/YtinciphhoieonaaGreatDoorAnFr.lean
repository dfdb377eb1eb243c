/-
  A reply of the program's as one of the document's.
-/
import Derived.Test.YtinciphhoieonaaGreatDoorRows
import Derived.Test.YtinciphhoieonaaGreatDoorKit
import Derived.Test.YtinciphhoieonaaGreatDoorApp
import Derived.Test.YtinciphhoieonaaGreatDoorQuiet
import Derived.WalkKit
import Derived.ProofKit
import Derived.OpenShut
import Derived.ShutString
import Derived.Below
import Derived.Outline
import Derived.WalkLawsBesides
import Derived.WalkSpells
import Derived.Handy
import Derived.Deep.QuietTactic
import Derived.BigQuiet
import Derived.RegionTactic
import Derived.ChangeAlike
import Derived.Lib.Hide
import Derived.Laws.Rows
import Derived.Laws.Tables
import Derived.Laws.CopyOwn
import Derived.Laws.MakeOwn
import Derived.Laws.Entries
import Derived.Laws.OwnMore
import Derived.Deep.WholeRow
import Derived.Deep.LoopGhost
import Derived.Deep.AppendLies
import Derived.Deep.Draws
import Derived.Maps.AppendAt
import Derived.OwnWalk
import Derived.Deep.RegionHeld3
import Derived.Deep.Cut
import Derived.Deep.CutRange
import Derived.Deep.DeepCutAuto
import Derived.Deep.CutBlock
import Derived.Lib.SliceRun
import Derived.IntWalk
import Derived.Laws.Strings
import Derived.Lib.Bytealg
import Derived.Lib.Strings
import Derived.Laws.Externs
import Derived.Test.YtinciphhoieonaaGreatDoorAnV
namespace Go.Proofs.YtinciphhoieonaaGreatDoor
open Go.ChangeShapes Go.WideShapes Go.ChangeAt Go.RowKit
theorem infoLk2 : (Tryz.prog.info? 53).map (fun i => (i.zero, i.size, i.bytes)) = some (some (.agg #[.int .i64 0, .int .i64 0, .int .i64 0]), 3, 24) := by kernel_rfl
theorem own_lk2 {base : Nat} {A : Option Addr} {cap n : Nat} {L : List Lk} {w : World} (h : w.ownsRow base 53 3 (.slice A n cap) n (lcs L)) (hn : n = L.length) : LkAt A L w := fun h0 => by
  obtain ⟨g, c2, hv, hb, hlt⟩ := h.form (by omega)
  injection hv with hA _ _
  subst hA
  refine ⟨⟨g, 0, none⟩, rfl, hlt, fun i x hx => ?_⟩
  have hc := h.cells (g := g) rfl
  obtain ⟨h1, h2, h3⟩ := lcs_get L i x hx
  exact ⟨hc _ _ h1, hc _ _ h2, hc _ _ h3⟩
set_option maxRecDepth 100000 in
set_option maxHeartbeats 8000000 in
theorem from_is (k cd t i c : Int) (ask : Bool) (r0 r1 r2 r3 r4 r5 : Int) (L : List Lk) (A : Option Addr) (cap : Nat) (w : World) (hL : LkAt A L w) (hl : L.length ≤ 1000) : Calls Tryz.prog 7 #[.agg (List.toArray [.int .i64 k, .int .i64 cd, .int .i64 t, .int .i64 i, .int .i64 c, .bool ask, .int .i64 r0, .int .i64 r1, .int .i64 r2, .int .i64 r3, .int .i64 r4, .int .i64 r5, .slice A L.length cap])] w fun e w' => ∃ A' cap', e = .returned (.agg (List.toArray [.int .i64 k, .int .i64 cd, .int .i64 t, .int .i64 i, .int .i64 c, .bool ask, .int .i64 r0, .int .i64 r1, .int .i64 r2, .int .i64 r3, .int .i64 r4, .int .i64 r5, (.slice A' L.length cap')])) ∧ LkAt A' L w' ∧ Below w.heap.size w w' := by
  have HL := Lib.hid hL
  have HLL := Lib.hid hl
  have n1 : (L.length : Int) ≤ 1000 := by omega
  obtain ⟨i0s, hii, hiz⟩ := Option.map_eq_some_iff.1 infoLk2
  obtain ⟨hz0, hz1, hz2⟩ : i0s.zero = some (.agg #[.int .i64 0, .int .i64 0, .int .i64 0]) ∧ i0s.size = 3 ∧ i0s.bytes = 24 := by simpa using hiz
  have HII := Lib.hid hii
  have HZ0 := Lib.hid hz0
  have HZ1 := Lib.hid hz1
  have HZ2 := Lib.hid hz2
  clear hii hiz hz0 hz1 hz2 hL hl
  go_enter Tryz.func7, Tryz.ntmps7
  go_wp2_with fail
  have b1 := (Bl.new (w.alloc (.cells (List.toArray [.int .i64 k, .int .i64 cd, .int .i64 t, .int .i64 i, .int .i64 c, .bool ask, .int .i64 r0, .int .i64 r1, .int .i64 r2, .int .i64 r3, .int .i64 r4, .int .i64 r5, .slice A L.length cap]) 27)) [.int .i64 0, .int .i64 0, .int .i64 0, .int .i64 0, .int .i64 0, .bool false, .int .i64 0, .int .i64 0, .int .i64 0, .int .i64 0, .int .i64 0, .int .i64 0, .slice none 0 0] 32).below (w' := ((w.alloc (.cells (List.toArray [.int .i64 k, .int .i64 cd, .int .i64 t, .int .i64 i, .int .i64 c, .bool ask, .int .i64 r0, .int .i64 r1, .int .i64 r2, .int .i64 r3, .int .i64 r4, .int .i64 r5, .slice A L.length cap]) 27)).alloc (.cells (List.toArray [.int .i64 0, .int .i64 0, .int .i64 0, .int .i64 0, .int .i64 0, .bool false, .int .i64 0, .int .i64 0, .int .i64 0, .int .i64 0, .int .i64 0, .int .i64 0, .slice none 0 0]) 32)).alloc (.cells (List.toArray [.int .i64 k, .int .i64 cd, .int .i64 t, .int .i64 i, .int .i64 c, .bool ask, .int .i64 r0, .int .i64 r1, .int .i64 r2, .int .i64 r3, .int .i64 r4, .int .i64 r5, .slice none 0 0]) 32)) (by go_grown)
  have b2 := Bl.new ((w.alloc (.cells (List.toArray [.int .i64 k, .int .i64 cd, .int .i64 t, .int .i64 i, .int .i64 c, .bool ask, .int .i64 r0, .int .i64 r1, .int .i64 r2, .int .i64 r3, .int .i64 r4, .int .i64 r5, .slice A L.length cap]) 27)).alloc (.cells (List.toArray [.int .i64 0, .int .i64 0, .int .i64 0, .int .i64 0, .int .i64 0, .bool false, .int .i64 0, .int .i64 0, .int .i64 0, .int .i64 0, .int .i64 0, .int .i64 0, .slice none 0 0]) 32)) [.int .i64 k, .int .i64 cd, .int .i64 t, .int .i64 i, .int .i64 c, .bool ask, .int .i64 r0, .int .i64 r1, .int .i64 r2, .int .i64 r3, .int .i64 r4, .int .i64 r5, .slice none 0 0] 32
  have g0 : Below w.heap.size w (((w.alloc (.cells (List.toArray [.int .i64 k, .int .i64 cd, .int .i64 t, .int .i64 i, .int .i64 c, .bool ask, .int .i64 r0, .int .i64 r1, .int .i64 r2, .int .i64 r3, .int .i64 r4, .int .i64 r5, .slice A L.length cap]) 27)).alloc (.cells (List.toArray [.int .i64 0, .int .i64 0, .int .i64 0, .int .i64 0, .int .i64 0, .bool false, .int .i64 0, .int .i64 0, .int .i64 0, .int .i64 0, .int .i64 0, .int .i64 0, .slice none 0 0]) 32)).alloc (.cells (List.toArray [.int .i64 k, .int .i64 cd, .int .i64 t, .int .i64 i, .int .i64 c, .bool ask, .int .i64 r0, .int .i64 r1, .int .i64 r2, .int .i64 r3, .int .i64 r4, .int .i64 r5, .slice none 0 0]) 32)) := by go_grown
  rw [World.size_alloc] at b1
  rw [World.size_alloc, World.size_alloc] at b2
  obtain ⟨W, hW⟩ : ∃ W, W = ((w.alloc (.cells (List.toArray [.int .i64 k, .int .i64 cd, .int .i64 t, .int .i64 i, .int .i64 c, .bool ask, .int .i64 r0, .int .i64 r1, .int .i64 r2, .int .i64 r3, .int .i64 r4, .int .i64 r5, .slice A L.length cap]) 27)).alloc (.cells (List.toArray [.int .i64 0, .int .i64 0, .int .i64 0, .int .i64 0, .int .i64 0, .bool false, .int .i64 0, .int .i64 0, .int .i64 0, .int .i64 0, .int .i64 0, .int .i64 0, .slice none 0 0]) 32)).alloc (.cells (List.toArray [.int .i64 k, .int .i64 cd, .int .i64 t, .int .i64 i, .int .i64 c, .bool ask, .int .i64 r0, .int .i64 r1, .int .i64 r2, .int .i64 r3, .int .i64 r4, .int .i64 r5, .slice none 0 0]) 32) := ⟨_, rfl⟩
  rw [← hW] at b1 b2 g0 ⊢
  obtain ⟨TB, hTB⟩ : ∃ TB, TB = w.heap.size + 1 + 1 := ⟨_, rfl⟩
  obtain ⟨OB, hOB⟩ : ∃ OB, OB = w.heap.size + 1 := ⟨_, rfl⟩
  rw [← hTB] at b2 ⊢
  rw [← hOB] at b1 ⊢
  have HM0 : Hid (Bl TB [.int .i64 k, .int .i64 cd, .int .i64 t, .int .i64 i, .int .i64 c, .bool ask, .int .i64 r0, .int .i64 r1, .int .i64 r2, .int .i64 r3, .int .i64 r4, .int .i64 r5, .slice none 0 0] W ∧ Bl OB [.int .i64 0, .int .i64 0, .int .i64 0, .int .i64 0, .int .i64 0, .bool false, .int .i64 0, .int .i64 0, .int .i64 0, .int .i64 0, .int .i64 0, .int .i64 0, .slice none 0 0] W ∧ W.ownsRow (TB + 1) 53 3 (.slice none 0 0) 0 (lcs (L.take 0)) ∧ Below w.heap.size w W) := Lib.hid ⟨b2, b1, World.ownsRow_nil _ _ _ _, g0⟩
  have HTB : Hid (OB < TB ∧ w.heap.size ≤ TB ∧ w.heap.size ≤ OB) := Lib.hid (by omega)
  clear b1 b2 g0 hW hTB hOB
  go_loopw [24] (fun j wr => ∃ n : Nat, n ≤ L.length ∧ j = .int .i64 (n : Int) ∧ Hid (∃ A6 c6, Bl TB [.int .i64 k, .int .i64 cd, .int .i64 t, .int .i64 i, .int .i64 c, .bool ask, .int .i64 r0, .int .i64 r1, .int .i64 r2, .int .i64 r3, .int .i64 r4, .int .i64 r5, (.slice A6 n c6)] wr ∧ Bl OB [.int .i64 0, .int .i64 0, .int .i64 0, .int .i64 0, .int .i64 0, .bool false, .int .i64 0, .int .i64 0, .int .i64 0, .int .i64 0, .int .i64 0, .int .i64 0, .slice none 0 0] wr ∧ wr.ownsRow (TB + 1) 53 3 ((.slice A6 n c6)) n (lcs (L.take n)) ∧ Below w.heap.size w wr)) (fun j _ => L.length + 1 - (intOf j).toNat)
  case atStart => exact ⟨0, Nat.zero_le _, rfl, Lib.hid ⟨none, 0, HM0.out⟩⟩
  case round =>
    clear HM0
    obtain ⟨n, hn, rfl, HM⟩ := hrel
    have i0 : (0 : Int) ≤ (n : Int) := by omega
    obtain ⟨A6, c6, hT, hO, hown, hB⟩ := HM.out
    by_cases hlt : n < L.length
    · have hx : L[n]? = some L[n] := List.getElem?_eq_getElem hlt
      obtain ⟨ad, hA, hb, hc⟩ := (HL.out.below hB) (by omega)
      obtain ⟨d0, d1', d2'⟩ := hc n _ hx
      have hXX : lcs (L.take (n + 1)) = lcs (L.take n) ++ [.int .i64 L[n].k, .int .i64 L[n].l, .int .i64 L[n].f] := by
        rw [List.take_add_one, hx, lcs_append]
        rfl
      subst hA
      generalize L[n] = x at d0 d1' d2' hXX
      obtain ⟨xk, xl, xf⟩ := x
      simp only at d0 d1' d2' hXX
      have d1 : wr.cell? ⟨(ad.add (n * 3)).block, (ad.add (n * 3)).off + 1, none⟩ = some (.int .i64 xl) := by
        rw [← addp _ 1 (by decide) (World.cell?_spot d0), add_of_add]; exact d1'
      have d2 : wr.cell? ⟨(ad.add (n * 3)).block, (ad.add (n * 3)).off + 2, none⟩ = some (.int .i64 xf) := by
        rw [← addp _ 2 (by decide) (World.cell?_spot d0), add_of_add]; exact d2'
      have q1 : (n : Int) < (L.length : Int) := by omega
      have Hi := Lib.hid hlt
      have HXX := Lib.hid hXX
      have gA : Below wr.heap.size wr (wr.alloc (.cells (List.toArray [.int .i64 xk, .int .i64 xl, .int .i64 xf]) 54)) := by go_grown
      have bA := Bl.new wr [.int .i64 xk, .int .i64 xl, .int .i64 xf] 54
      obtain ⟨WL, hWL⟩ : ∃ WL, WL = (wr.alloc (.cells (List.toArray [.int .i64 xk, .int .i64 xl, .int .i64 xf]) 54)) := ⟨_, rfl⟩
      obtain ⟨LB, hLB⟩ : ∃ LB, LB = wr.heap.size := ⟨_, rfl⟩
      rw [← hWL] at gA bA
      rw [← hLB] at bA
      have HL0 := Lib.hid (And.intro (hT.below gA) (And.intro (hO.below gA) (And.intro (rkept hown gA) (Below.step hB gA))))
      have HLB := Lib.hid bA
      have HWE := Lib.hid hWL
      have HLE := Lib.hid hLB
      have HN := Lib.hid (show n < 1000 by have := HLL.out; omega)
      clear hx hb hc d1' d2' hlt hn hXX gA bA hWL hLB HM hT hO hown hB
      go_upto_region 5 with fail
      rw [← HWE.out, ← HLE.out]
      clear d0 d1 d2
      have y12 := HL0.out.1.cell 12 _ rfl
      have z0 := HLB.out.cell 0 _ rfl
      have z1 := HLB.out.cell 1 _ rfl
      have z2 := HLB.out.cell 2 _ rfl
      have g9 : Below WL.heap.size WL (WL.alloc (.cells (List.toArray [.int .i64 xk, .int .i64 xl, .int .i64 xf]) 53)) := by go_grown
      have HW9 := Lib.hid (And.intro (HL0.out.1.below g9) (And.intro (HL0.out.2.1.below g9) (And.intro (rkept HL0.out.2.2.1 g9) (Below.step HL0.out.2.2.2 g9))))
      have HRD := Lib.hid (reads_newN WL 1 3 [.int .i64 xk, .int .i64 xl, .int .i64 xf] 53 rfl)
      have N1 := Lib.hid (show n + 1 ≤ maxLen from by have := HN.out; unfold maxLen; omega)
      have N2 := Lib.hid (show (n + 1) * 24 ≤ 140737488355328 from by have := HN.out; omega)
      have N3 := Lib.hid (show TB + 1 ≤ (WL.alloc (.cells (List.toArray [.int .i64 xk, .int .i64 xl, .int .i64 xf]) 53)).heap.size from by have := HW9.out.1.lt; omega)
      clear g9
      go_wp2_with (at_builtin; refine wpList_append_any _ rfl (.tmp 29) (.tmp 31) 30 rfl (TB + 1) 53 i0s (.agg #[.int .i64 0, .int .i64 0, .int .i64 0]) 3 24 Tryz.underlying30 HII.out HZ0.out HZ1.out HZ2.out rfl (by decide) _ n (lcs (L.take n)) rfl HW9.out.2.2.1 _ (some ⟨WL.heap.size, 0, none⟩) 1 1 [.int .i64 xk, .int .i64 xl, .int .i64 xf] rfl HRD.out (by intro u hu; simp only [List.mem_cons, List.not_mem_nil, or_false] at hu; rcases hu with rfl | rfl | rfl <;> rfl) N1.out N2.out N3.out ?_; intro v3 w8 hown3 hgrow3 hblk3; obtain ⟨A8, c8, hv8⟩ := oshape hown3; subst hv8; have HPP := Lib.hid (And.intro hown3 (And.intro hgrow3 hblk3)); have HT8 := Lib.hid (bl_grown HW9.out.1 hgrow3 (fun b e => by have := HW9.out.2.2.1.lt b e; omega)); have HO8 := Lib.hid (bl_grown HW9.out.2.1 hgrow3 (fun b e => by have h1 := HW9.out.2.2.1.lt b e; have h2 := HTB.out; omega)); have HB8 := Lib.hid (Below.grown HW9.out.2.2.2 hgrow3 (by have h1 := HW9.out.2.2.2.size; omega) (fun b e => by have h1 := HW9.out.2.2.1.lt b e; have h2 := HTB.out; omega)); clear hown3 hgrow3 hblk3; have xb := HT8.out.cell 12 _ rfl; have xf := HT8.out.frz 12)
      go_roundw
      case measure => have := Hi.out; simp [intOf]; omega
      case rel =>
        refine ⟨n + 1, Hi.out, by go_num, Lib.hid ⟨A8, c8, ?_, ?_, ?_, ?_⟩⟩
        · exact Bl.set HT8.out 12 _
        · exact Bl.far HO8.out (p := ⟨TB, 12, none⟩) (fun e => by have h2 := HTB.out; have h3 : TB = OB := e; omega) _
        · rw [HXX.out]
          exact rfar HPP.out.1 (fun b h1 h2 => Below.heap_setCell w8 ⟨TB, 12, none⟩ _ b (by show b ≠ TB; omega))
        · exact Below.setCell (p := ⟨TB, 12, none⟩) HB8.out HTB.out.2.1 _
    · obtain rfl : n = L.length := by omega
      have q5 : decide ((L.length : Int) < (L.length : Int)) = false := decide_eq_false (by omega)
      have HF := Lib.hid (And.intro hT (And.intro hO (And.intro hown hB)))
      clear hn hlt HM hT hO hown hB
      go_upto_region 7 with fail
      have y0 := HF.out.1.cell 0 _ rfl
      have y1 := HF.out.1.cell 1 _ rfl
      have y2 := HF.out.1.cell 2 _ rfl
      have y3 := HF.out.1.cell 3 _ rfl
      have y4 := HF.out.1.cell 4 _ rfl
      have y5 := HF.out.1.cell 5 _ rfl
      have y6 := HF.out.1.cell 6 _ rfl
      have y7 := HF.out.1.cell 7 _ rfl
      have y8 := HF.out.1.cell 8 _ rfl
      have y9 := HF.out.1.cell 9 _ rfl
      have y10 := HF.out.1.cell 10 _ rfl
      have y11 := HF.out.1.cell 11 _ rfl
      have y12 := HF.out.1.cell 12 _ rfl
      go_wp2_with (refine wpList_store_bl rfl 32 (.tmp 2) (.tmp 35) rfl OB [.int .i64 0, .int .i64 0, .int .i64 0, .int .i64 0, .int .i64 0, .bool false, .int .i64 0, .int .i64 0, .int .i64 0, .int .i64 0, .int .i64 0, .int .i64 0, .slice none 0 0] [.int .i64 k, .int .i64 cd, .int .i64 t, .int .i64 i, .int .i64 c, .bool ask, .int .i64 r0, .int .i64 r1, .int .i64 r2, .int .i64 r3, .int .i64 r4, .int .i64 r5, (.slice A6 L.length c6)] rfl rfl HF.out.2.1 rfl (by kernel_rfl) rfl (fun w1 hb1 hk1 hs1 hbel1 => ?_); have HH := Lib.hid (And.intro hb1 (And.intro hk1 (And.intro hs1 hbel1))); clear hb1 hk1 hs1 hbel1)
      refine bodyPost_ret (results_bl (ty := 32) rfl _ _ OB [.int .i64 k, .int .i64 cd, .int .i64 t, .int .i64 i, .int .i64 c, .bool ask, .int .i64 r0, .int .i64 r1, .int .i64 r2, .int .i64 r3, .int .i64 r4, .int .i64 r5, (.slice A6 L.length c6)] _ rfl HH.out.1 Tryz.underlying32 rfl (by kernel_rfl)) rfl ?_
      refine ⟨A6, c6, rfl, own_lk2 (rfar (by simpa [List.take_length] using HF.out.2.2.1) (fun b h1 h2 => HH.out.2.1 b (by have := HTB.out; omega) h2)) rfl, HH.out.2.2.2 _ _ HTB.out.2.2 HF.out.2.2.2⟩

end Go.Proofs.YtinciphhoieonaaGreatDoor
