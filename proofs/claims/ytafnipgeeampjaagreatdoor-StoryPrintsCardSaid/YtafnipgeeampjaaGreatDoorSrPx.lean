/-
  An event's line.
-/
import Derived.Test.YtafnipgeeampjaaGreatDoorRows
import Derived.Test.YtafnipgeeampjaaGreatDoorKit
import Derived.Test.YtafnipgeeampjaaGreatDoorApp
import Derived.Test.YtafnipgeeampjaaGreatDoorQuiet
import Derived.WalkKit
import Derived.ProofKit
import Derived.OpenShut
import Derived.ShutString
import Derived.Below
import Derived.Outline
import Derived.WalkLawsBesides
import Derived.WalkSpells
import Derived.Handy
import Derived.Deep.QuietTactic
import Derived.BigQuiet
import Derived.RegionTactic
import Derived.ChangeAlike
import Derived.Lib.Hide
import Derived.Laws.Rows
import Derived.Laws.Tables
import Derived.Laws.CopyOwn
import Derived.Laws.MakeOwn
import Derived.Laws.Entries
import Derived.Laws.OwnMore
import Derived.Deep.WholeRow
import Derived.Deep.LoopGhost
import Derived.Deep.AppendLies
import Derived.Deep.Draws
import Derived.Maps.AppendAt
import Derived.OwnWalk
import Derived.Deep.RegionHeld3
import Derived.Deep.Cut
import Derived.Deep.CutRange
import Derived.Deep.DeepCutAuto
import Derived.Deep.CutBlock
import Derived.Lib.SliceRun
import Derived.IntWalk
import Derived.Laws.Strings
import Derived.Lib.Bytealg
import Derived.Lib.Strings
import Derived.Laws.Externs
import Derived.Test.YtafnipgeeampjaaGreatDoorSrN
import Derived.Test.YtafnipgeeampjaaGreatDoorSrO
import Derived.Test.YtafnipgeeampjaaGreatDoorSrJ
import Derived.Test.YtafnipgeeampjaaGreatDoorSrK
namespace Go.Proofs.YtafnipgeeampjaaGreatDoor
open Go.ChangeShapes Go.WideShapes Go.ChangeAt Go.RowKit
theorem bs_lit (l : List UInt8) : (⟨l.toArray⟩ : ByteArray) = Bs l := rfl
theorem say_bs (a l : List UInt8) : (⟨#[115, 97, 121, 32]⟩ : ByteArray) ++ Bs a ++ ⟨#[32]⟩ ++ Bs l = Bs (vsay ++ 32 :: (a ++ 32 :: l)) := by
  show Bs [115, 97, 121, 32] ++ Bs a ++ Bs [32] ++ Bs l = _
  rw [Bs_append, Bs_append, Bs_append]
  congr 1
  simp [vsay]
theorem tick_bs (a : List UInt8) : (⟨#[116, 105, 99, 107, 32]⟩ : ByteArray) ++ Bs a = Bs (vtick ++ 32 :: a) := by
  show Bs [116, 105, 99, 107, 32] ++ Bs a = _
  rw [Bs_append]
  congr 1
theorem pick_bs (a : List UInt8) : (⟨#[112, 105, 99, 107, 32]⟩ : ByteArray) ++ Bs a = Bs (vpick ++ 32 :: a) := by
  show Bs [112, 105, 99, 107, 32] ++ Bs a = _
  rw [Bs_append]
  congr 1
theorem picks_bs (a l : List UInt8) : (⟨#[112, 105, 99, 107, 32]⟩ : ByteArray) ++ Bs a ++ ⟨#[32]⟩ ++ Bs l = Bs (vpick ++ 32 :: (a ++ 32 :: l)) := by
  show Bs [112, 105, 99, 107, 32] ++ Bs a ++ Bs [32] ++ Bs l = _
  rw [Bs_append, Bs_append, Bs_append]
  congr 1
  simp [vpick]
theorem draw_bs (a l : List UInt8) : (⟨#[100, 114, 97, 119, 32]⟩ : ByteArray) ++ Bs a ++ ⟨#[32]⟩ ++ Bs l = Bs (vdraw ++ 32 :: (a ++ 32 :: l)) := by
  show Bs [100, 114, 97, 119, 32] ++ Bs a ++ Bs [32] ++ Bs l = _
  rw [Bs_append, Bs_append, Bs_append]
  congr 1
  simp [vdraw]
theorem txt1 (a n : Int) (l : List UInt8) (t : Nat) : txtM ⟨1, a, n, l⟩ t = vsay ++ 32 :: (dcI a ++ 32 :: l) := rfl
theorem txt2 (a n : Int) (l : List UInt8) (t : Nat) : txtM ⟨2, a, n, l⟩ t = vtick ++ 32 :: dcI n := rfl
theorem txt4 (a n : Int) (l : List UInt8) (t : Nat) : txtM ⟨4, a, n, l⟩ t = vdraw ++ 32 :: (dcI a ++ 32 :: dcI n) := rfl
theorem txt3 (a n : Int) (l : List UInt8) : txtM ⟨3, a, n, l⟩ 1 = vpick ++ 32 :: dcI a := rfl
theorem txt3s (a n : Int) (l : List UInt8) (t : Nat) (h : t ≠ 1) : txtM ⟨3, a, n, l⟩ t = vpick ++ 32 :: (dcI a ++ 32 :: dcI (t : Int)) := by
  unfold txtM
  dsimp only
  rw [if_neg (by decide), if_neg (by decide), if_neg (by decide), if_neg h]
theorem dcI_len (x : Int) (h : -9999999 ≤ x ∧ x ≤ 9999999) : (dcI x).length ≤ 8 := by
  unfold dcI
  have h7 : (dcl x.natAbs).length ≤ 7 := dcl_len 6 _ (by omega)
  split
  · rw [List.length_cons]; omega
  · omega
set_option maxRecDepth 100000 in
set_option maxHeartbeats 4000000 in
theorem text_is (k a n : Int) (l : List UInt8) (t : Nat) (htell : tellM ⟨k, a, n, l⟩ = true) (hl : l.length ≤ 5000) (h1 : 1 ≤ t) (h2 : t ≤ 10000) (w : World) (htb : Tb w) : Calls Tryz.prog 28 #[.agg (List.toArray [.int .i64 k, .int .i64 a, .int .i64 n, .string (Bs l)]), .int .i64 (t : Int)] w fun e w' => e = .returned (.string (Bs (txtM ⟨k, a, n, l⟩ t))) ∧ Below w.heap.size w w' := by
  have hkk : k = 1 ∨ k = 2 ∨ k = 3 ∨ k = 4 := by
    unfold tellM at htell
    rw [Bool.and_eq_true] at htell
    have h := htell.2
    dsimp only at h
    by_cases k1 : k = 1
    · omega
    · by_cases k2 : k = 2
      · omega
      · by_cases k3 : k = 3
        · omega
        · by_cases k4 : k = 4
          · omega
          · rw [if_neg k1, if_neg k2, if_neg k3, if_neg k4] at h
            cases h
  have hr : -9999999 ≤ a ∧ a ≤ 9999999 ∧ -9999999 ≤ n ∧ n ≤ 9999999 := by
    unfold tellM at htell
    rw [Bool.and_eq_true, Bool.and_eq_true] at htell
    have h3 := small_bd htell.1.1
    have h4 := small_bd htell.1.2
    exact ⟨h3.1, h3.2, h4.1, h4.2⟩
  have HR := Lib.hid hr
  have HL := Lib.hid hl
  have HTB := Lib.hid htb
  have HT := Lib.hid (And.intro h1 h2)
  clear hr hl htb h1 h2 htell
  rcases hkk with rfl | rfl | rfl | rfl
  · have hb := Bl.new w [.int .i64 1, .int .i64 a, .int .i64 n, .string (Bs l)] 40
    have hg : Below w.heap.size w (w.alloc (.cells (List.toArray [.int .i64 1, .int .i64 a, .int .i64 n, .string (Bs l)]) 40)) := by go_grown
    obtain ⟨W, hW⟩ : ∃ W, W = w.alloc (.cells (List.toArray [.int .i64 1, .int .i64 a, .int .i64 n, .string (Bs l)]) 40) := ⟨_, rfl⟩
    obtain ⟨EB, hEB⟩ : ∃ EB, EB = w.heap.size := ⟨_, rfl⟩
    rw [← hW] at hb hg
    rw [← hEB] at hb
    have HS := Lib.hid (And.intro hb hg)
    have HW := Lib.hid hW
    have HEB := Lib.hid hEB
    clear hb hg hW hEB
    have s1 := Bs_size (dcI a)
    have s2 := Bs_size (dcI n)
    have s3 := Bs_size l
    have t1 := dcI_len a ⟨HR.out.1, HR.out.2.1⟩
    have t2 := dcI_len n ⟨HR.out.2.2.1, HR.out.2.2.2⟩
    have HSZ := Lib.hid (And.intro s1 (And.intro s2 (And.intro s3 (And.intro t1 t2))))
    have v1 : (Bs (dcI a)).size ≤ 8 := by omega
    have v2 : (Bs (dcI n)).size ≤ 8 := by omega
    have v3 : (Bs l).size ≤ 5000 := by have := HL.out; omega
    clear s1 s2 s3 t1 t2
    go_enter Tryz.func28, Tryz.ntmps28
    go_upto_region 1 with fail
    rw [← HW.out, ← HEB.out]
    refine region_sc (by kernel_rfl) (by kernel_rfl) ?_
    iterate 1 (first | go_big_quiet_skip | (go_big_quiet_want; go_big_quiet_op; first | go_big_quiet_on | (refine ⟨_, fun _ _ => rfl, ?_⟩; go_big_quiet_on)))
    go_big_quiet_want
    refine ⟨.int .i64 a, fun wq hq => ?_, ?_⟩
    · have c0 := (HS.out.1.below hq).cell 1 _ rfl
      unfold Oper.quietAt
      simp [go_sem, c0, Oper.quietUpon]
    simp only [Act.put, List.setIfInBounds_toArray, List.set_cons_zero, List.set_cons_succ]
    go_big_quiet_on
    go_big_quiet_want
    go_big_quiet_op
    refine ⟨.string (Bs (dcI a)), fun wq hq => (itoa_int a (by have := HR.out; omega) wq ((HTB.out.below HS.out.2).below hq)).mono fun _ _ ⟨h1, h2⟩ => ⟨h1, Below.step hq h2⟩, ?_⟩
    go_big_quiet_on
    iterate 1 (first | go_big_quiet_skip | (go_big_quiet_want; go_big_quiet_op; first | go_big_quiet_on | (refine ⟨_, fun _ _ => rfl, ?_⟩; go_big_quiet_on)))
    go_big_quiet_want
    refine ⟨.int .i64 n, fun wq hq => ?_, ?_⟩
    · have c0 := (HS.out.1.below hq).cell 2 _ rfl
      unfold Oper.quietAt
      simp [go_sem, c0, Oper.quietUpon]
    simp only [Act.put, List.setIfInBounds_toArray, List.set_cons_zero, List.set_cons_succ]
    go_big_quiet_on
    go_big_quiet_want
    go_big_quiet_op
    refine ⟨.string (Bs (dcI n)), fun wq hq => (itoa_int n (by have := HR.out; omega) wq ((HTB.out.below HS.out.2).below hq)).mono fun _ _ ⟨h1, h2⟩ => ⟨h1, Below.step hq h2⟩, ?_⟩
    go_big_quiet_on
    iterate 2 (first | go_big_quiet_skip | (go_big_quiet_want; go_big_quiet_op; first | go_big_quiet_on | (refine ⟨_, fun _ _ => rfl, ?_⟩; go_big_quiet_on)))
    refine wpQuiet_nil ?_
    intro w4 hS4
    have H4 := Lib.hid (And.intro (HS.out.1.below hS4) (Below.step HS.out.2 hS4))
    clear hS4
    have y0 := H4.out.1.cell 0 _ rfl
    have y1 := H4.out.1.cell 1 _ rfl
    have y2 := H4.out.1.cell 2 _ rfl
    have y3 := H4.out.1.cell 3 _ rfl
    go_wp2_with fail
    go_ret
    refine ⟨?_, H4.out.2⟩
    rw [txt1, ← say_bs]
    first | done | rfl
  · have hb := Bl.new w [.int .i64 2, .int .i64 a, .int .i64 n, .string (Bs l)] 40
    have hg : Below w.heap.size w (w.alloc (.cells (List.toArray [.int .i64 2, .int .i64 a, .int .i64 n, .string (Bs l)]) 40)) := by go_grown
    obtain ⟨W, hW⟩ : ∃ W, W = w.alloc (.cells (List.toArray [.int .i64 2, .int .i64 a, .int .i64 n, .string (Bs l)]) 40) := ⟨_, rfl⟩
    obtain ⟨EB, hEB⟩ : ∃ EB, EB = w.heap.size := ⟨_, rfl⟩
    rw [← hW] at hb hg
    rw [← hEB] at hb
    have HS := Lib.hid (And.intro hb hg)
    have HW := Lib.hid hW
    have HEB := Lib.hid hEB
    clear hb hg hW hEB
    have s1 := Bs_size (dcI a)
    have s2 := Bs_size (dcI n)
    have s3 := Bs_size l
    have t1 := dcI_len a ⟨HR.out.1, HR.out.2.1⟩
    have t2 := dcI_len n ⟨HR.out.2.2.1, HR.out.2.2.2⟩
    have HSZ := Lib.hid (And.intro s1 (And.intro s2 (And.intro s3 (And.intro t1 t2))))
    have v1 : (Bs (dcI a)).size ≤ 8 := by omega
    have v2 : (Bs (dcI n)).size ≤ 8 := by omega
    have v3 : (Bs l).size ≤ 5000 := by have := HL.out; omega
    clear s1 s2 s3 t1 t2
    go_enter Tryz.func28, Tryz.ntmps28
    go_upto_region 1 with fail
    rw [← HW.out, ← HEB.out]
    refine region_sc (by kernel_rfl) (by kernel_rfl) ?_
    iterate 1 (first | go_big_quiet_skip | (go_big_quiet_want; go_big_quiet_op; first | go_big_quiet_on | (refine ⟨_, fun _ _ => rfl, ?_⟩; go_big_quiet_on)))
    go_big_quiet_want
    refine ⟨.int .i64 a, fun wq hq => ?_, ?_⟩
    · have c0 := (HS.out.1.below hq).cell 1 _ rfl
      unfold Oper.quietAt
      simp [go_sem, c0, Oper.quietUpon]
    simp only [Act.put, List.setIfInBounds_toArray, List.set_cons_zero, List.set_cons_succ]
    go_big_quiet_on
    go_big_quiet_want
    go_big_quiet_op
    refine ⟨.string (Bs (dcI a)), fun wq hq => (itoa_int a (by have := HR.out; omega) wq ((HTB.out.below HS.out.2).below hq)).mono fun _ _ ⟨h1, h2⟩ => ⟨h1, Below.step hq h2⟩, ?_⟩
    go_big_quiet_on
    iterate 1 (first | go_big_quiet_skip | (go_big_quiet_want; go_big_quiet_op; first | go_big_quiet_on | (refine ⟨_, fun _ _ => rfl, ?_⟩; go_big_quiet_on)))
    go_big_quiet_want
    refine ⟨.int .i64 n, fun wq hq => ?_, ?_⟩
    · have c0 := (HS.out.1.below hq).cell 2 _ rfl
      unfold Oper.quietAt
      simp [go_sem, c0, Oper.quietUpon]
    simp only [Act.put, List.setIfInBounds_toArray, List.set_cons_zero, List.set_cons_succ]
    go_big_quiet_on
    go_big_quiet_want
    go_big_quiet_op
    refine ⟨.string (Bs (dcI n)), fun wq hq => (itoa_int n (by have := HR.out; omega) wq ((HTB.out.below HS.out.2).below hq)).mono fun _ _ ⟨h1, h2⟩ => ⟨h1, Below.step hq h2⟩, ?_⟩
    go_big_quiet_on
    iterate 2 (first | go_big_quiet_skip | (go_big_quiet_want; go_big_quiet_op; first | go_big_quiet_on | (refine ⟨_, fun _ _ => rfl, ?_⟩; go_big_quiet_on)))
    refine wpQuiet_nil ?_
    intro w4 hS4
    have H4 := Lib.hid (And.intro (HS.out.1.below hS4) (Below.step HS.out.2 hS4))
    clear hS4
    have y0 := H4.out.1.cell 0 _ rfl
    have y1 := H4.out.1.cell 1 _ rfl
    have y2 := H4.out.1.cell 2 _ rfl
    have y3 := H4.out.1.cell 3 _ rfl
    go_wp2_with fail
    go_ret
    refine ⟨?_, H4.out.2⟩
    rw [txt2, ← tick_bs]
    first | done | rfl
  · by_cases ht : t = 1
    · subst ht
      have hb := Bl.new w [.int .i64 3, .int .i64 a, .int .i64 n, .string (Bs l)] 40
      have hg : Below w.heap.size w (w.alloc (.cells (List.toArray [.int .i64 3, .int .i64 a, .int .i64 n, .string (Bs l)]) 40)) := by go_grown
      obtain ⟨W, hW⟩ : ∃ W, W = w.alloc (.cells (List.toArray [.int .i64 3, .int .i64 a, .int .i64 n, .string (Bs l)]) 40) := ⟨_, rfl⟩
      obtain ⟨EB, hEB⟩ : ∃ EB, EB = w.heap.size := ⟨_, rfl⟩
      rw [← hW] at hb hg
      rw [← hEB] at hb
      have HS := Lib.hid (And.intro hb hg)
      have HW := Lib.hid hW
      have HEB := Lib.hid hEB
      clear hb hg hW hEB
      have s1 := Bs_size (dcI a)
      have s2 := Bs_size (dcI n)
      have s3 := Bs_size l
      have t1 := dcI_len a ⟨HR.out.1, HR.out.2.1⟩
      have t2 := dcI_len n ⟨HR.out.2.2.1, HR.out.2.2.2⟩
      have HSZ := Lib.hid (And.intro s1 (And.intro s2 (And.intro s3 (And.intro t1 t2))))
      have v1 : (Bs (dcI a)).size ≤ 8 := by omega
      have v2 : (Bs (dcI n)).size ≤ 8 := by omega
      have v3 : (Bs l).size ≤ 5000 := by have := HL.out; omega
      clear s1 s2 s3 t1 t2
      go_enter Tryz.func28, Tryz.ntmps28
      go_upto_region 1 with fail
      rw [← HW.out, ← HEB.out]
      refine region_sc (by kernel_rfl) (by kernel_rfl) ?_
      iterate 1 (first | go_big_quiet_skip | (go_big_quiet_want; go_big_quiet_op; first | go_big_quiet_on | (refine ⟨_, fun _ _ => rfl, ?_⟩; go_big_quiet_on)))
      go_big_quiet_want
      refine ⟨.int .i64 a, fun wq hq => ?_, ?_⟩
      · have c0 := (HS.out.1.below hq).cell 1 _ rfl
        unfold Oper.quietAt
        simp [go_sem, c0, Oper.quietUpon]
      simp only [Act.put, List.setIfInBounds_toArray, List.set_cons_zero, List.set_cons_succ]
      go_big_quiet_on
      go_big_quiet_want
      go_big_quiet_op
      refine ⟨.string (Bs (dcI a)), fun wq hq => (itoa_int a (by have := HR.out; omega) wq ((HTB.out.below HS.out.2).below hq)).mono fun _ _ ⟨h1, h2⟩ => ⟨h1, Below.step hq h2⟩, ?_⟩
      go_big_quiet_on
      iterate 1 (first | go_big_quiet_skip | (go_big_quiet_want; go_big_quiet_op; first | go_big_quiet_on | (refine ⟨_, fun _ _ => rfl, ?_⟩; go_big_quiet_on)))
      go_big_quiet_want
      refine ⟨.int .i64 n, fun wq hq => ?_, ?_⟩
      · have c0 := (HS.out.1.below hq).cell 2 _ rfl
        unfold Oper.quietAt
        simp [go_sem, c0, Oper.quietUpon]
      simp only [Act.put, List.setIfInBounds_toArray, List.set_cons_zero, List.set_cons_succ]
      go_big_quiet_on
      go_big_quiet_want
      go_big_quiet_op
      refine ⟨.string (Bs (dcI n)), fun wq hq => (itoa_int n (by have := HR.out; omega) wq ((HTB.out.below HS.out.2).below hq)).mono fun _ _ ⟨h1, h2⟩ => ⟨h1, Below.step hq h2⟩, ?_⟩
      go_big_quiet_on
      iterate 2 (first | go_big_quiet_skip | (go_big_quiet_want; go_big_quiet_op; first | go_big_quiet_on | (refine ⟨_, fun _ _ => rfl, ?_⟩; go_big_quiet_on)))
      refine wpQuiet_nil ?_
      intro w4 hS4
      have H4 := Lib.hid (And.intro (HS.out.1.below hS4) (Below.step HS.out.2 hS4))
      clear hS4
      have y0 := H4.out.1.cell 0 _ rfl
      have y1 := H4.out.1.cell 1 _ rfl
      have y2 := H4.out.1.cell 2 _ rfl
      have y3 := H4.out.1.cell 3 _ rfl
      go_wp2_with fail
      go_ret
      refine ⟨?_, H4.out.2⟩
      rw [txt3, ← pick_bs]
      first | done | rfl
    · have q9 : ((t : Int) == 1) = false := beq_eq_false_iff_ne.2 (by omega)
      have HT1 := Lib.hid ht
      clear ht
      have hb := Bl.new w [.int .i64 3, .int .i64 a, .int .i64 n, .string (Bs l)] 40
      have hg : Below w.heap.size w (w.alloc (.cells (List.toArray [.int .i64 3, .int .i64 a, .int .i64 n, .string (Bs l)]) 40)) := by go_grown
      obtain ⟨W, hW⟩ : ∃ W, W = w.alloc (.cells (List.toArray [.int .i64 3, .int .i64 a, .int .i64 n, .string (Bs l)]) 40) := ⟨_, rfl⟩
      obtain ⟨EB, hEB⟩ : ∃ EB, EB = w.heap.size := ⟨_, rfl⟩
      rw [← hW] at hb hg
      rw [← hEB] at hb
      have HS := Lib.hid (And.intro hb hg)
      have HW := Lib.hid hW
      have HEB := Lib.hid hEB
      clear hb hg hW hEB
      have s1 := Bs_size (dcI a)
      have s2 := Bs_size (dcI n)
      have s3 := Bs_size l
      have t1 := dcI_len a ⟨HR.out.1, HR.out.2.1⟩
      have t2 := dcI_len n ⟨HR.out.2.2.1, HR.out.2.2.2⟩
      have HSZ := Lib.hid (And.intro s1 (And.intro s2 (And.intro s3 (And.intro t1 t2))))
      have v1 : (Bs (dcI a)).size ≤ 8 := by omega
      have v2 : (Bs (dcI n)).size ≤ 8 := by omega
      have v3 : (Bs l).size ≤ 5000 := by have := HL.out; omega
      clear s1 s2 s3 t1 t2
      go_enter Tryz.func28, Tryz.ntmps28
      go_upto_region 1 with fail
      rw [← HW.out, ← HEB.out]
      refine region_sc (by kernel_rfl) (by kernel_rfl) ?_
      iterate 1 (first | go_big_quiet_skip | (go_big_quiet_want; go_big_quiet_op; first | go_big_quiet_on | (refine ⟨_, fun _ _ => rfl, ?_⟩; go_big_quiet_on)))
      go_big_quiet_want
      refine ⟨.int .i64 a, fun wq hq => ?_, ?_⟩
      · have c0 := (HS.out.1.below hq).cell 1 _ rfl
        unfold Oper.quietAt
        simp [go_sem, c0, Oper.quietUpon]
      simp only [Act.put, List.setIfInBounds_toArray, List.set_cons_zero, List.set_cons_succ]
      go_big_quiet_on
      go_big_quiet_want
      go_big_quiet_op
      refine ⟨.string (Bs (dcI a)), fun wq hq => (itoa_int a (by have := HR.out; omega) wq ((HTB.out.below HS.out.2).below hq)).mono fun _ _ ⟨h1, h2⟩ => ⟨h1, Below.step hq h2⟩, ?_⟩
      go_big_quiet_on
      iterate 1 (first | go_big_quiet_skip | (go_big_quiet_want; go_big_quiet_op; first | go_big_quiet_on | (refine ⟨_, fun _ _ => rfl, ?_⟩; go_big_quiet_on)))
      go_big_quiet_want
      refine ⟨.int .i64 n, fun wq hq => ?_, ?_⟩
      · have c0 := (HS.out.1.below hq).cell 2 _ rfl
        unfold Oper.quietAt
        simp [go_sem, c0, Oper.quietUpon]
      simp only [Act.put, List.setIfInBounds_toArray, List.set_cons_zero, List.set_cons_succ]
      go_big_quiet_on
      go_big_quiet_want
      go_big_quiet_op
      refine ⟨.string (Bs (dcI n)), fun wq hq => (itoa_int n (by have := HR.out; omega) wq ((HTB.out.below HS.out.2).below hq)).mono fun _ _ ⟨h1, h2⟩ => ⟨h1, Below.step hq h2⟩, ?_⟩
      go_big_quiet_on
      iterate 2 (first | go_big_quiet_skip | (go_big_quiet_want; go_big_quiet_op; first | go_big_quiet_on | (refine ⟨_, fun _ _ => rfl, ?_⟩; go_big_quiet_on)))
      refine wpQuiet_nil ?_
      intro w4 hS4
      have H4 := Lib.hid (And.intro (HS.out.1.below hS4) (Below.step HS.out.2 hS4))
      clear hS4
      have y0 := H4.out.1.cell 0 _ rfl
      have y1 := H4.out.1.cell 1 _ rfl
      have y2 := H4.out.1.cell 2 _ rfl
      have y3 := H4.out.1.cell 3 _ rfl
      go_wp2_with fail
      refine (itoa_int (t : Int) (by have := HT.out; omega) _ (HTB.out.below H4.out.2)).mono ?_
      rintro e5 w5 ⟨rfl, hb5⟩
      have H5 := Lib.hid (Below.step H4.out.2 hb5)
      have v4 : (Bs (dcI (t : Int))).size ≤ 8 := by rw [Bs_size]; exact dcI_len _ (by have := HT.out; omega)
      clear hb5
      go_wp2_with fail
      go_ret
      refine ⟨?_, H5.out⟩
      rw [txt3s _ _ _ _ HT1.out, ← picks_bs]
      first | done | rfl
  · have hb := Bl.new w [.int .i64 4, .int .i64 a, .int .i64 n, .string (Bs l)] 40
    have hg : Below w.heap.size w (w.alloc (.cells (List.toArray [.int .i64 4, .int .i64 a, .int .i64 n, .string (Bs l)]) 40)) := by go_grown
    obtain ⟨W, hW⟩ : ∃ W, W = w.alloc (.cells (List.toArray [.int .i64 4, .int .i64 a, .int .i64 n, .string (Bs l)]) 40) := ⟨_, rfl⟩
    obtain ⟨EB, hEB⟩ : ∃ EB, EB = w.heap.size := ⟨_, rfl⟩
    rw [← hW] at hb hg
    rw [← hEB] at hb
    have HS := Lib.hid (And.intro hb hg)
    have HW := Lib.hid hW
    have HEB := Lib.hid hEB
    clear hb hg hW hEB
    have s1 := Bs_size (dcI a)
    have s2 := Bs_size (dcI n)
    have s3 := Bs_size l
    have t1 := dcI_len a ⟨HR.out.1, HR.out.2.1⟩
    have t2 := dcI_len n ⟨HR.out.2.2.1, HR.out.2.2.2⟩
    have HSZ := Lib.hid (And.intro s1 (And.intro s2 (And.intro s3 (And.intro t1 t2))))
    have v1 : (Bs (dcI a)).size ≤ 8 := by omega
    have v2 : (Bs (dcI n)).size ≤ 8 := by omega
    have v3 : (Bs l).size ≤ 5000 := by have := HL.out; omega
    clear s1 s2 s3 t1 t2
    go_enter Tryz.func28, Tryz.ntmps28
    go_upto_region 1 with fail
    rw [← HW.out, ← HEB.out]
    refine region_sc (by kernel_rfl) (by kernel_rfl) ?_
    iterate 1 (first | go_big_quiet_skip | (go_big_quiet_want; go_big_quiet_op; first | go_big_quiet_on | (refine ⟨_, fun _ _ => rfl, ?_⟩; go_big_quiet_on)))
    go_big_quiet_want
    refine ⟨.int .i64 a, fun wq hq => ?_, ?_⟩
    · have c0 := (HS.out.1.below hq).cell 1 _ rfl
      unfold Oper.quietAt
      simp [go_sem, c0, Oper.quietUpon]
    simp only [Act.put, List.setIfInBounds_toArray, List.set_cons_zero, List.set_cons_succ]
    go_big_quiet_on
    go_big_quiet_want
    go_big_quiet_op
    refine ⟨.string (Bs (dcI a)), fun wq hq => (itoa_int a (by have := HR.out; omega) wq ((HTB.out.below HS.out.2).below hq)).mono fun _ _ ⟨h1, h2⟩ => ⟨h1, Below.step hq h2⟩, ?_⟩
    go_big_quiet_on
    iterate 1 (first | go_big_quiet_skip | (go_big_quiet_want; go_big_quiet_op; first | go_big_quiet_on | (refine ⟨_, fun _ _ => rfl, ?_⟩; go_big_quiet_on)))
    go_big_quiet_want
    refine ⟨.int .i64 n, fun wq hq => ?_, ?_⟩
    · have c0 := (HS.out.1.below hq).cell 2 _ rfl
      unfold Oper.quietAt
      simp [go_sem, c0, Oper.quietUpon]
    simp only [Act.put, List.setIfInBounds_toArray, List.set_cons_zero, List.set_cons_succ]
    go_big_quiet_on
    go_big_quiet_want
    go_big_quiet_op
    refine ⟨.string (Bs (dcI n)), fun wq hq => (itoa_int n (by have := HR.out; omega) wq ((HTB.out.below HS.out.2).below hq)).mono fun _ _ ⟨h1, h2⟩ => ⟨h1, Below.step hq h2⟩, ?_⟩
    go_big_quiet_on
    iterate 2 (first | go_big_quiet_skip | (go_big_quiet_want; go_big_quiet_op; first | go_big_quiet_on | (refine ⟨_, fun _ _ => rfl, ?_⟩; go_big_quiet_on)))
    refine wpQuiet_nil ?_
    intro w4 hS4
    have H4 := Lib.hid (And.intro (HS.out.1.below hS4) (Below.step HS.out.2 hS4))
    clear hS4
    have y0 := H4.out.1.cell 0 _ rfl
    have y1 := H4.out.1.cell 1 _ rfl
    have y2 := H4.out.1.cell 2 _ rfl
    have y3 := H4.out.1.cell 3 _ rfl
    go_wp2_with fail
    go_ret
    refine ⟨?_, H4.out.2⟩
    rw [txt4, ← draw_bs]
    first | done | rfl

end Go.Proofs.YtafnipgeeampjaaGreatDoor
