/-
  MemPlays: the walk.
-/
import Derived.Test.YtjkojbaphdlhlaaDoorRows
import Derived.Test.YtjkojbaphdlhlaaDoorKit
import Derived.Test.YtjkojbaphdlhlaaDoorAsF
import Derived.Test.YtjkojbaphdlhlaaDoorAsC
import Derived.Test.YtjkojbaphdlhlaaDoorAsD
import Derived.Test.YtjkojbaphdlhlaaDoorAsE
import Derived.Test.YtjkojbaphdlhlaaDoorApp
import Derived.Test.YtjkojbaphdlhlaaDoorAsG
import Derived.Test.YtjkojbaphdlhlaaDoorWraps
import Derived.Test.YtjkojbaphdlhlaaDoorAwake1
import Derived.Test.YtjkojbaphdlhlaaDoorIsC
import Derived.Test.YtjkojbaphdlhlaaDoorMmT
import Derived.Test.YtjkojbaphdlhlaaDoorMmU
import Derived.Test.YtjkojbaphdlhlaaDoorMmO
import Derived.Test.YtjkojbaphdlhlaaDoorMmP
import Derived.Test.YtjkojbaphdlhlaaDoorQuiet
import Derived.Lib.SliceRun
import Derived.Deep.Slices
import Derived.Deep.Fields
import Derived.ChangeSame
import Derived.Deep.RegionLaw
import Derived.Deep.AppendLies
import Derived.WalkKit
import Derived.ProofKit
import Derived.OpenShut
import Derived.ShutString
import Derived.Below
import Derived.Outline
import Derived.WalkLawsBesides
import Derived.WalkSpells
import Derived.Handy
import Derived.Deep.QuietTactic
import Derived.BigQuiet
import Derived.RegionTactic
import Derived.ChangeAlike
import Derived.Lib.Hide
import Derived.Deep.LoopGhost
import Derived.Deep.RegionHeld3
import Derived.Deep.Cut
import Derived.Deep.CutRange
import Derived.Deep.DeepCutAuto
import Derived.Deep.CutBlock
import Derived.Deep.RegionLaw
import Derived.LaidEql
import Derived.Stop.Asserts
import Derived.RowKitTokens
import Derived.Defers
import Derived.Recover
namespace Go.Proofs.YtjkojbaphdlhlaaDoor.memPlays
set_option linter.unusedVariables false
set_option linter.unusedSimpArgs false
open Go.ChangeShapes Go.WideShapes Go.ChangeAt Go.RowKit
open Mm (MS MAt OpV OpsAt Inv Oth upd rAt pc PSl)
theorem infoP : (Tryd.prog.info? 65).map (fun i => (i.zero, i.size, i.bytes)) = some (some (.agg #[.int .i64 0, .int .u64 0]), 2, 16) := by kernel_rfl
theorem reads_two (w : World) (l : List Value) (t : TypeId) (hl : l.length = 2) : Reads (w.alloc (.cells l.toArray t)) (w.alloc (.cells l.toArray t)).heap.size 2 (some ⟨w.heap.size, 0, none⟩) 1 l := by
  refine ⟨hl, fun _ => ⟨_, rfl, by simp, fun j u hu => ?_⟩⟩
  have hg := heap_alloc_new w (.cells l.toArray t)
  rw [Mm.add_zero_of, cell_of_row _ _ _ _ _ _ hg]
  simpa using hu
theorem upd_same (ws : Nat → Int) (i j : Nat) : upd ws i (ws i) j = ws j := by
  unfold Mm.upd
  split
  · subst_vars; rfl
  · rfl
theorem Oth.new {M B : Nat} {w w1 : World} (h : Oth M B w w1) (g i : Nat) (v : Value) (hg : w.heap.size ≤ g) : Oth M B w (w1.setCell ⟨g, i, none⟩ v) :=
  ⟨h.1, h.2.1, h.2.2.1, by rw [World.size_setCell]; exact h.2.2.2.1, fun x hx h1 h2 => by
    rw [Below.heap_setCell _ _ _ _ (show x ≠ g from by omega)]; exact h.2.2.2.2 x hx h1 h2⟩
theorem mat_set {M B n c : Nat} {s : MS} {w : World} (h : MAt M B n c s w) (g i : Nat) (v : Value) (h1 : M ≠ g) (h2 : B ≠ g) : MAt M B n c s (w.setCell ⟨g, i, none⟩ v) :=
  h.oth (Mm.Oth.set (Mm.Oth.refl g g w) g i v (.inl rfl)) h1 h1 h2 h2
theorem Inv.twin {w wr w6 : World} {n M B c M3 B3 c3 : Nat} {s : MS} {L : List (Int × Int)} {A : Option Addr} {cp k : Nat} (h : Inv w wr n M B c s L A cp k) (hb : Below wr.heap.size wr w6) (hm : MAt M3 B3 n c3 s w6) (h3 : wr.heap.size ≤ M3) (h4 : wr.heap.size ≤ B3) : Inv w w6 n M3 B3 c3 s L A cp k :=
  ⟨hm, row_kept h.r hb, h.i, h.ll, h.s0, h.s1, Nat.le_trans h.b.size h3, Nat.le_trans h.b.size h4, fun e => by have := (World.ownsRow.lt h.r _ e).2; omega, fun e => by have := (World.ownsRow.lt h.r _ e).2; omega, Below.step h.b hb⟩
theorem len_is {M B n c : Nat} {s : MS} {w : World} (h : MAt M B n c s w) : Calls Tryd.prog 21 #[.pointer (some ⟨M, 0, none⟩)] w fun e w' => e = .returned (.int .i64 n) ∧ w = w' := by
  have c0 := h.c0
  clear h
  go_enter Tryd.func21, Tryd.ntmps21
  go_wp2
  go_ret
  exact ⟨rfl, rfl⟩
set_option maxRecDepth 100000 in
set_option maxHeartbeats 64000000 in
theorem walk (a0 : Int) (a1 : Option Addr) (len1 cap1 : Nat) (g1 : Nat → OpV) (w : World) (hg : w.cell? ⟨0, 0, none⟩ = some (.iface 126 (.agg #[.pointer (some ⟨1, 30, none⟩)]))) (hgl : 0 < w.heap.size) (w0 : (Lit.int .i64 a0).wf = true) (w1 : OpsAt a1 len1 g1 w) :
    Calls Tryd.prog 4 #[.int .i64 a0, .slice a1 len1 cap1] w fun e w' => e = .returned (.bool true) ∧ Below w.heap.size w w' := by
  have HG0 := Lib.hid hg
  have hl0 := hgl
  have HO := Lib.hid w1
  clear hg w0 w1
  by_cases hn : a0 < 0
  · go_enter Tryd.func4, Tryd.ntmps4
    go_wp2_with fail
    refine (Mm.new_no a0 (.inl hn) _).mono ?_
    rintro e w1 ⟨rfl, rfl⟩
    go_wp2_with fail
    refine (Mm.awake03 _).mono ?_
    rintro e w2 ⟨rfl, hb2⟩
    go_wp2_with fail
    refine (num_ch [] 4 (by decide) (by decide) _ _ rfl).mono ?_
    rintro e w3 ⟨rfl, hb3⟩
    have HB3 := Lib.hid (Below.step hb2 hb3)
    clear hb2 hb3
    go_wp2
    go_ret
    exact ⟨rfl, HB3.out⟩
  by_cases hn2 : 8192 < a0
  · go_enter Tryd.func4, Tryd.ntmps4
    go_wp2_with fail
    refine (Mm.new_no a0 (.inr hn2) _).mono ?_
    rintro e w1 ⟨rfl, rfl⟩
    go_wp2_with fail
    refine (Mm.awake03 _).mono ?_
    rintro e w2 ⟨rfl, hb2⟩
    go_wp2_with fail
    refine (num_ch [] 4 (by decide) (by decide) _ _ rfl).mono ?_
    rintro e w3 ⟨rfl, hb3⟩
    have HB3 := Lib.hid (Below.step hb2 hb3)
    clear hb2 hb3
    go_wp2
    go_ret
    exact ⟨rfl, HB3.out⟩
  obtain ⟨n, rfl⟩ : ∃ n : Nat, a0 = (n : Int) := ⟨a0.toNat, by omega⟩
  have HN := Lib.hid (show n ≤ 8192 by omega)
  obtain ⟨i0, hi0, hz0, hz1, hz2⟩ := info_parts infoP
  have HPI := Lib.hid hi0
  have HPZ0 := Lib.hid hz0
  have HPZ1 := Lib.hid hz1
  have HPZ2 := Lib.hid hz2
  clear hi0 hz0 hz1 hz2
  go_enter Tryd.func4, Tryd.ntmps4
  go_wp2_with fail
  refine (Mm.new_mat n HN.out _).mono ?_
  rintro e w1 ⟨M, B, rfl, hm1, hM1, hB1, hb1⟩
  have HM1 := Lib.hid hm1
  have HMB := Lib.hid (And.intro hM1 hB1)
  have HB1 := Lib.hid hb1
  clear hm1 hM1 hB1 hb1
  go_wp2_with fail
  refine (len_is HM1.out).mono ?_
  rintro e w2 ⟨rfl, rfl⟩
  go_upto_block 0 with fail
  go_cut [5, 7, 8] (fun s5 s7 s8 wx => ∃ (M B c k : Nat) (s : MS) (L : List (Int × Int)) (A : Option Addr) (cp : Nat), s5 = .pointer (some ⟨M, 0, none⟩) ∧ s7 = .slice A L.length cp ∧ s8 = .int .i64 s.st ∧ k ≤ 200 ∧ Hid (Inv w wx n M B c s L A cp k))
  case first =>
    go_wp2_with fail
    go_loopg [5, 7, 8, 57] (len1 + 1) (fun gk m p st i wr => ∃ (k M B c : Nat) (s : MS) (L : List (Int × Int)) (A : Option Addr) (cp : Nat), gk = len1 + 1 - k ∧ k ≤ len1 ∧ k ≤ 200 ∧ m = .pointer (some ⟨M, 0, none⟩) ∧ p = .slice A L.length cp ∧ st = .int .i64 s.st ∧ i = .int .i64 k ∧ Hid (Inv w wr n M B c s L A cp k))
    case atStart => exact ⟨0, M, B, n, _, [], none, 0, rfl, Nat.zero_le _, by decide, rfl, rfl, rfl, rfl, Lib.hid ⟨HM1.out, World.ownsRow_nil _ _ _ _, fun j hj => rfl, Nat.le_refl _, by decide, by decide, HMB.out.1, HMB.out.2, by simp [Value.ownBlock], by simp [Value.ownBlock], HB1.out⟩⟩
    case round =>
      clear HM1 HMB HB1
      obtain ⟨k, M, B, c, s, L, A, cp, rfl, hk, hk2, rfl, rfl, rfl, rfl, HI⟩ := hrel
      by_cases hkl : k < len1
      · obtain ⟨ad, rfl, hb, hc⟩ := HO.out (by omega)
        obtain ⟨c0, c1, c2, c3, hx0, hx1⟩ := hc k hkl
        have hlt : (ad.add (k * 4)).block < w.heap.size := by rw [block_of_add]; exact hb
        have hwr : ∀ j, wr.cell? ((ad.add (k * 4)).add j) = w.cell? ((ad.add (k * 4)).add j) := fun j => HI.out.b.cell (p := (ad.add (k * 4)).add j) (by rw [block_of_add]; exact hlt)
        have d0 : wr.cell? (ad.add (k * 4)) = some (.int .i64 (g1 k).k) := (HI.out.b.cell (p := ad.add (k * 4)) hlt).trans c0
        have d1 : wr.cell? ⟨(ad.add (k * 4)).block, (ad.add (k * 4)).off + 1, none⟩ = some (.int .i64 (g1 k).a) := by rw [← add_pos _ 1 (by decide) (World.cell?_spot d0), hwr, add_of_add]; exact c1
        have d2 : wr.cell? ⟨(ad.add (k * 4)).block, (ad.add (k * 4)).off + 2, none⟩ = some (.int .u64 (g1 k).o) := by rw [← add_pos _ 2 (by decide) (World.cell?_spot d0), hwr, add_of_add]; exact c2
        have d3 : wr.cell? ⟨(ad.add (k * 4)).block, (ad.add (k * 4)).off + 3, none⟩ = some (.int .u64 (g1 k).x) := by rw [← add_pos _ 3 (by decide) (World.cell?_spot d0), hwr, add_of_add]; exact c3
        clear c0 c1 c2 c3 hc hwr
        have k0 : (0 : Int) ≤ (k : Int) := by omega
        have k1 : (k : Int) < (len1 : Int) := by omega
        have HK := Lib.hid (And.intro hk (And.intro hk2 hkl))
        have HM := Lib.hid (show len1 + 1 - (k + 1) < len1 + 1 - k by omega)
        generalize g1 k = op at d0 d1 d2 d3 hx0 hx1
        obtain ⟨kd, at_, old, x⟩ := op
        have d0' : wr.cell? (ad.add (k * 4)) = some (.int .i64 kd) := d0
        have d1' : wr.cell? ⟨(ad.add (k * 4)).block, (ad.add (k * 4)).off + 1, none⟩ = some (.int .i64 at_) := d1
        have d2' : wr.cell? ⟨(ad.add (k * 4)).block, (ad.add (k * 4)).off + 2, none⟩ = some (.int .u64 old) := d2
        have d3' : wr.cell? ⟨(ad.add (k * 4)).block, (ad.add (k * 4)).off + 3, none⟩ = some (.int .u64 x) := d3
        have hX : 0 ≤ x ∧ x ≤ 18446744073709551615 := ⟨hx0, hx1⟩
        have HX := Lib.hid hX
        clear d0 d1 d2 d3 hx0 hx1 hX
        by_cases h200 : 200 ≤ k
        · have k2 : (200 : Int) ≤ (k : Int) := by omega
          go_wp2_with fail
          go_meet
          case rel => exact ⟨M, B, c, k, s, L, A, cp, rfl, rfl, rfl, HK.out.2.1, Lib.hid (HI.out.below (by go_grown))⟩
        · have k2 : (k : Int) < 200 := by omega
          clear h200
          have HLL := Lib.hid (show L.length ≤ 1000 from by have := HI.out.ll; omega)
          have hs0 := HI.out.s0
          have hs1 : s.st ≤ 200 := by have := HI.out.s1; omega
          have HML := Lib.hid (show M < wr.heap.size from HI.out.m.ml)
          have HBL := Lib.hid (show B < wr.heap.size from HI.out.m.bl)
          clear hlt hb hk hk2 hkl
          by_cases hin : 0 ≤ at_ ∧ at_ < (n : Int)
          · obtain ⟨i, rfl⟩ : ∃ i : Nat, at_ = (i : Int) := ⟨at_.toNat, by omega⟩
            have hi : i < n := by omega
            have i00 : (0 : Int) ≤ (i : Int) := by omega
            have i1 : (i : Int) < (n : Int) := by omega
            have HII := Lib.hid hi
            have HV := Lib.hid (HI.out.i i hi)
            clear hin hi
            have HIo := Lib.hid (HI.out.below (show Below wr.heap.size wr (wr.alloc (.cells #[.int .i64 kd, .int .i64 (i : Int), .int .u64 old, .int .u64 x] 54)) from by go_grown))
            have HOB := Lib.hid (show Below wr.heap.size wr (wr.alloc (.cells #[.int .i64 kd, .int .i64 (i : Int), .int .u64 old, .int .u64 x] 54)) from by go_grown)
            have HC0 := Lib.hid (show (wr.alloc (.cells #[.int .i64 kd, .int .i64 (i : Int), .int .u64 old, .int .u64 x] 54)).cell? ⟨wr.heap.size, 0, none⟩ = some (.int .i64 kd) ∧ (wr.alloc (.cells #[.int .i64 kd, .int .i64 (i : Int), .int .u64 old, .int .u64 x] 54)).cell? ⟨wr.heap.size, 1, none⟩ = some (.int .i64 (i : Int)) ∧ (wr.alloc (.cells #[.int .i64 kd, .int .i64 (i : Int), .int .u64 old, .int .u64 x] 54)).cell? ⟨wr.heap.size, 2, none⟩ = some (.int .u64 old) ∧ (wr.alloc (.cells #[.int .i64 kd, .int .i64 (i : Int), .int .u64 old, .int .u64 x] 54)).cell? ⟨wr.heap.size, 3, none⟩ = some (.int .u64 x) from ⟨by simp [go_sem], by simp [go_sem], by simp [go_sem], by simp [go_sem]⟩)
            have HRA := Lib.hid (show Calls Tryd.prog 22 #[.slice A L.length cp, .int .i64 (i : Int)] (wr.alloc (.cells #[.int .i64 kd, .int .i64 (i : Int), .int .u64 old, .int .u64 x] 54)) fun e w' => e = .returned (.int .u64 (s.ws i)) ∧ Below (wr.alloc (.cells #[.int .i64 kd, .int .i64 (i : Int), .int .u64 old, .int .u64 x] 54)).heap.size (wr.alloc (.cells #[.int .i64 kd, .int .i64 (i : Int), .int .u64 old, .int .u64 x] 54)) w' from by rw [← HV.out]; exact Mm.rat_is L A cp (i : Int) _ (PSl.of HIo.out.r) HLL.out)
            go_wp2_with fail
            refine HRA.out.mono ?_
            rintro e w2 ⟨rfl, hb2⟩
            have hpo : wr.heap.size < w2.heap.size := Nat.lt_of_lt_of_le (by simp) hb2.size
            have e0 := (hb2.cell (p := ⟨wr.heap.size, 0, none⟩) (by simp)).trans HC0.out.1
            have e1 := (hb2.cell (p := ⟨wr.heap.size, 1, none⟩) (by simp)).trans HC0.out.2.1
            have e2 := (hb2.cell (p := ⟨wr.heap.size, 2, none⟩) (by simp)).trans HC0.out.2.2.1
            have e3 := (hb2.cell (p := ⟨wr.heap.size, 3, none⟩) (by simp)).trans HC0.out.2.2.2
            have HI2 := Lib.hid (HIo.out.below hb2)
            have HB2 := Lib.hid (Below.step HOB.out hb2)
            clear hb2 HIo HOB HC0 HRA d0' d1' d2' d3'
            have HI3 := Lib.hid (HI2.out.below (show Below w2.heap.size w2 (w2.alloc (.cells #[.int .i64 kd, .int .i64 (i : Int), .int .u64 (s.ws i), .int .u64 (s.ws i), .bool true] 57)) from by go_grown))
            have HB3 := Lib.hid (Below.step HB2.out (show Below w2.heap.size w2 (w2.alloc (.cells #[.int .i64 kd, .int .i64 (i : Int), .int .u64 (s.ws i), .int .u64 (s.ws i), .bool true] 57)) from by go_grown))
            by_cases e1k : kd = 1
            · subst e1k
              as_aux_lemma =>
                go_wp2_with fail
                refine (Mm.load_in HI3.out.m i HII.out (by omega)).mono ?_
                rintro e w4 ⟨rfl, hm4, hz4, hbb4, ho4⟩
                have hne21 : w2.heap.size ≠ wr.heap.size := by omega
                have hpw : w2.heap.size < (w2.alloc (.cells #[.int .i64 1, .int .i64 (i : Int), .int .u64 (s.ws i), .int .u64 (s.ws i), .bool true] 57)).heap.size := by simp
                have hpo3 : wr.heap.size < (w2.alloc (.cells #[.int .i64 1, .int .i64 (i : Int), .int .u64 (s.ws i), .int .u64 (s.ws i), .bool true] 57)).heap.size := by simp only [World.size_alloc]; omega
                have nM : wr.heap.size ≠ M := by have := HML.out; omega
                have nB : wr.heap.size ≠ B := by have := HBL.out; omega
                have mM : w2.heap.size ≠ M := by have := HML.out; omega
                have mB : w2.heap.size ≠ B := by have := HBL.out; omega
                have q0 := (Mm.Oth.cell ho4 (p := ⟨w2.heap.size, 0, none⟩) hpw mM mB).trans (show (w2.alloc (.cells #[.int .i64 1, .int .i64 (i : Int), .int .u64 (s.ws i), .int .u64 (s.ws i), .bool true] 57)).cell? ⟨w2.heap.size, 0, none⟩ = some (.int .i64 1) by simp [go_sem])
                have q1 := (Mm.Oth.cell ho4 (p := ⟨w2.heap.size, 1, none⟩) hpw mM mB).trans (show (w2.alloc (.cells #[.int .i64 1, .int .i64 (i : Int), .int .u64 (s.ws i), .int .u64 (s.ws i), .bool true] 57)).cell? ⟨w2.heap.size, 1, none⟩ = some (.int .i64 (i : Int)) by simp [go_sem])
                have q2 := (Mm.Oth.cell ho4 (p := ⟨w2.heap.size, 2, none⟩) hpw mM mB).trans (show (w2.alloc (.cells #[.int .i64 1, .int .i64 (i : Int), .int .u64 (s.ws i), .int .u64 (s.ws i), .bool true] 57)).cell? ⟨w2.heap.size, 2, none⟩ = some (.int .u64 (s.ws i)) by simp [go_sem])
                have q3 := (Mm.Oth.cell ho4 (p := ⟨w2.heap.size, 3, none⟩) hpw mM mB).trans (show (w2.alloc (.cells #[.int .i64 1, .int .i64 (i : Int), .int .u64 (s.ws i), .int .u64 (s.ws i), .bool true] 57)).cell? ⟨w2.heap.size, 3, none⟩ = some (.int .u64 (s.ws i)) by simp [go_sem])
                have q4 := (Mm.Oth.cell ho4 (p := ⟨w2.heap.size, 4, none⟩) hpw mM mB).trans (show (w2.alloc (.cells #[.int .i64 1, .int .i64 (i : Int), .int .u64 (s.ws i), .int .u64 (s.ws i), .bool true] 57)).cell? ⟨w2.heap.size, 4, none⟩ = some (.bool true) by simp [go_sem])
                have fq3 := (Mm.Oth.frozen ho4 (p := ⟨w2.heap.size, 3, none⟩) hpw mM mB).trans (show (w2.alloc (.cells #[.int .i64 1, .int .i64 (i : Int), .int .u64 (s.ws i), .int .u64 (s.ws i), .bool true] 57)).frozen? ⟨w2.heap.size, 3, none⟩ = false by simp [go_sem])
                have fq4 := (Mm.Oth.frozen ho4 (p := ⟨w2.heap.size, 4, none⟩) hpw mM mB).trans (show (w2.alloc (.cells #[.int .i64 1, .int .i64 (i : Int), .int .u64 (s.ws i), .int .u64 (s.ws i), .bool true] 57)).frozen? ⟨w2.heap.size, 4, none⟩ = false by simp [go_sem])
                have z0 := (Mm.Oth.cell ho4 (p := ⟨wr.heap.size, 0, none⟩) hpo3 nM nB).trans ((World.cell?_alloc_lt w2 _ ⟨wr.heap.size, 0, none⟩ hpo).trans e0)
                have z1 := (Mm.Oth.cell ho4 (p := ⟨wr.heap.size, 1, none⟩) hpo3 nM nB).trans ((World.cell?_alloc_lt w2 _ ⟨wr.heap.size, 1, none⟩ hpo).trans e1)
                have z2 := (Mm.Oth.cell ho4 (p := ⟨wr.heap.size, 2, none⟩) hpo3 nM nB).trans ((World.cell?_alloc_lt w2 _ ⟨wr.heap.size, 2, none⟩ hpo).trans e2)
                have z3 := (Mm.Oth.cell ho4 (p := ⟨wr.heap.size, 3, none⟩) hpo3 nM nB).trans ((World.cell?_alloc_lt w2 _ ⟨wr.heap.size, 3, none⟩ hpo).trans e3)
                have HM4 := Lib.hid (show MAt M B n c (⟨upd s.ws i (s.ws i), s.st + 1, 1, (i : Int), s.ws i, (s.ws i), true⟩ : MS) w4 from hm4)
                have HO4 := Lib.hid (show Oth M B wr w4 from (Mm.Oth.of HB3.out).trans ho4)
                have hs4 : w2.heap.size < w4.heap.size := by rw [hz4]; exact hpw
                clear e0 e1 e2 e3 hm4 hz4 hbb4 ho4 hpw hpo3
                go_wp2_with fail
                have HM5 := Lib.hid (show MAt M B n c (⟨upd s.ws i (s.ws i), s.st + 1, 1, (i : Int), s.ws i, (s.ws i), true⟩ : MS) w4 from HM4.out)
                have HO5 := Lib.hid (show Oth M B wr w4 from HO4.out)
                have r0 : w4.cell? ⟨w2.heap.size, 0, none⟩ = some (.int .i64 1) := by simp [go_sem, q0, q1, q2, q3, q4]
                have r1 : w4.cell? ⟨w2.heap.size, 1, none⟩ = some (.int .i64 (i : Int)) := by simp [go_sem, q0, q1, q2, q3, q4]
                have r2 : w4.cell? ⟨w2.heap.size, 2, none⟩ = some (.int .u64 (s.ws i)) := by simp [go_sem, q0, q1, q2, q3, q4]
                have r3 : w4.cell? ⟨w2.heap.size, 3, none⟩ = some (.int .u64 (s.ws i)) := by simp [go_sem, q0, q1, q2, q3, q4]
                have r4 : w4.cell? ⟨w2.heap.size, 4, none⟩ = some (.bool true) := by simp [go_sem, q0, q1, q2, q3, q4]
                have y1 : w4.cell? ⟨wr.heap.size, 1, none⟩ = some (.int .i64 (i : Int)) := by first | exact z1 | (rw [World.cell?_setCell_other _ _ _ _ (Mm.addr_ne (.inl hne21))]; exact z1) | (rw [World.cell?_setCell_other _ _ _ _ (Mm.addr_ne (.inl hne21)), World.cell?_setCell_other _ _ _ _ (Mm.addr_ne (.inl hne21))]; exact z1)
                have hs5 : w2.heap.size < w4.heap.size := by first | exact hs4 | (simp only [World.size_setCell]; exact hs4)
                clear q0 q1 q2 q3 q4 fq3 fq4 z0 z1 z2 z3 hs4
                generalize w4 = W5 at HM5 HO5 r0 r1 r2 r3 r4 y1 hs5 ⊢
                have HR := Lib.hid (And.intro r0 (And.intro r1 (And.intro r2 (And.intro r3 (And.intro r4 (And.intro y1 hs5))))))
                clear r0 r1 r2 r3 r4 y1 hs5
                refine region_sc (by kernel_rfl) (by kernel_rfl) ?_
                iterate 4 (first | go_big_quiet_skip | (go_big_quiet_want; go_big_quiet_op; first | go_big_quiet_on | (refine ⟨_, fun _ _ => rfl, ?_⟩; go_big_quiet_on)))
                go_big_quiet_want
                go_big_quiet_op
                refine ⟨_, fun wq hq => (Mm.steps_is (HM5.out.below hq)).mono fun e w' ⟨he, hw⟩ => ⟨he, hw ▸ hq⟩, ?_⟩
                go_big_quiet_on
                iterate 5 (first | go_big_quiet_skip | (go_big_quiet_want; go_big_quiet_op; first | go_big_quiet_on | (refine ⟨_, fun _ _ => rfl, ?_⟩; go_big_quiet_on)))
                go_big_quiet_want
                go_big_quiet_op
                refine ⟨_, fun wq hq => (Mm.last_is (HM5.out.below hq)).mono fun e w' ⟨he, hb⟩ => ⟨he, Below.step hq hb⟩, ?_⟩
                go_big_quiet_on
                go_big_quiet_want
                refine ⟨.agg #[.int .i64 1, .int .i64 (i : Int), .int .u64 (s.ws i), .int .u64 (s.ws i), .bool true], fun wq hq => ?_, ?_⟩
                · have g : ∀ j, wq.cell? ⟨w2.heap.size, j, none⟩ = W5.cell? ⟨w2.heap.size, j, none⟩ := fun j => Below.cell (show Below W5.heap.size W5 wq from hq) (p := ⟨w2.heap.size, j, none⟩) HR.out.2.2.2.2.2.2
                  have g0 := (g 0).trans HR.out.1
                  have g1' := (g 1).trans HR.out.2.1
                  have g2 := (g 2).trans HR.out.2.2.1
                  have g3 := (g 3).trans HR.out.2.2.2.1
                  have g4 := (g 4).trans HR.out.2.2.2.2.1
                  unfold Oper.quietAt
                  simp [go_sem, g0, g1', g2, g3, g4, Oper.quietUpon]
                simp only [Act.put, List.setIfInBounds_toArray, List.set_cons_zero, List.set_cons_succ]
                go_big_quiet_on
                iterate 2 (first | go_big_quiet_skip | (go_big_quiet_want; go_big_quiet_op; first | go_big_quiet_on | (refine ⟨_, fun _ _ => rfl, ?_⟩; go_big_quiet_on)))
                refine wpQuiet_nil ?_
                intro w6 hv
                have hv' : Below W5.heap.size W5 w6 := hv
                have y3 := (hv'.cell (p := ⟨w2.heap.size, 3, none⟩) HR.out.2.2.2.2.2.2).trans HR.out.2.2.2.1
                have hs6 := Nat.lt_of_lt_of_le HR.out.2.2.2.2.2.2 hv'.size
                have y1 := (hv'.cell (p := ⟨wr.heap.size, 1, none⟩) (by have := HR.out.2.2.2.2.2.2; show wr.heap.size < W5.heap.size; omega)).trans HR.out.2.2.2.2.2.1
                have HV6 := Lib.hid hv'
                clear hv hv'
                go_wp2_with fail
                go_roundg (len1 + 1 - (k + 1))
                case measure => exact HM.out
                case rel => exact ⟨k + 1, M, B, c, (⟨upd s.ws i (s.ws i), s.st + 1, 1, (i : Int), s.ws i, (s.ws i), true⟩ : MS), L, A, cp, rfl, HK.out.2.2, by omega, rfl, rfl, rfl, by go_num, Lib.hid ((Inv.same HI.out HO5.out HM5.out (fun j _ => upd_same s.ws i j) rfl).below HV6.out)⟩

            by_cases e2k : kd = 2
            · subst e2k
              as_aux_lemma =>
                by_cases hxw : x = s.ws i
                · have HXW := Lib.hid hxw
                  have hxb : (x == s.ws i) = true := by rw [hxw]; simp
                  clear hxw
                  go_wp2_with fail
                  refine (Mm.store_in HI3.out.m i HII.out x HX.out (by omega)).mono ?_
                  rintro e w4 ⟨rfl, hm4, hz4, hbb4, ho4⟩
                  have hne21 : w2.heap.size ≠ wr.heap.size := by omega
                  have hpw : w2.heap.size < (w2.alloc (.cells #[.int .i64 2, .int .i64 (i : Int), .int .u64 (s.ws i), .int .u64 (s.ws i), .bool true] 57)).heap.size := by simp
                  have hpo3 : wr.heap.size < (w2.alloc (.cells #[.int .i64 2, .int .i64 (i : Int), .int .u64 (s.ws i), .int .u64 (s.ws i), .bool true] 57)).heap.size := by simp only [World.size_alloc]; omega
                  have nM : wr.heap.size ≠ M := by have := HML.out; omega
                  have nB : wr.heap.size ≠ B := by have := HBL.out; omega
                  have mM : w2.heap.size ≠ M := by have := HML.out; omega
                  have mB : w2.heap.size ≠ B := by have := HBL.out; omega
                  have q0 := (Mm.Oth.cell ho4 (p := ⟨w2.heap.size, 0, none⟩) hpw mM mB).trans (show (w2.alloc (.cells #[.int .i64 2, .int .i64 (i : Int), .int .u64 (s.ws i), .int .u64 (s.ws i), .bool true] 57)).cell? ⟨w2.heap.size, 0, none⟩ = some (.int .i64 2) by simp [go_sem])
                  have q1 := (Mm.Oth.cell ho4 (p := ⟨w2.heap.size, 1, none⟩) hpw mM mB).trans (show (w2.alloc (.cells #[.int .i64 2, .int .i64 (i : Int), .int .u64 (s.ws i), .int .u64 (s.ws i), .bool true] 57)).cell? ⟨w2.heap.size, 1, none⟩ = some (.int .i64 (i : Int)) by simp [go_sem])
                  have q2 := (Mm.Oth.cell ho4 (p := ⟨w2.heap.size, 2, none⟩) hpw mM mB).trans (show (w2.alloc (.cells #[.int .i64 2, .int .i64 (i : Int), .int .u64 (s.ws i), .int .u64 (s.ws i), .bool true] 57)).cell? ⟨w2.heap.size, 2, none⟩ = some (.int .u64 (s.ws i)) by simp [go_sem])
                  have q3 := (Mm.Oth.cell ho4 (p := ⟨w2.heap.size, 3, none⟩) hpw mM mB).trans (show (w2.alloc (.cells #[.int .i64 2, .int .i64 (i : Int), .int .u64 (s.ws i), .int .u64 (s.ws i), .bool true] 57)).cell? ⟨w2.heap.size, 3, none⟩ = some (.int .u64 (s.ws i)) by simp [go_sem])
                  have q4 := (Mm.Oth.cell ho4 (p := ⟨w2.heap.size, 4, none⟩) hpw mM mB).trans (show (w2.alloc (.cells #[.int .i64 2, .int .i64 (i : Int), .int .u64 (s.ws i), .int .u64 (s.ws i), .bool true] 57)).cell? ⟨w2.heap.size, 4, none⟩ = some (.bool true) by simp [go_sem])
                  have fq3 := (Mm.Oth.frozen ho4 (p := ⟨w2.heap.size, 3, none⟩) hpw mM mB).trans (show (w2.alloc (.cells #[.int .i64 2, .int .i64 (i : Int), .int .u64 (s.ws i), .int .u64 (s.ws i), .bool true] 57)).frozen? ⟨w2.heap.size, 3, none⟩ = false by simp [go_sem])
                  have fq4 := (Mm.Oth.frozen ho4 (p := ⟨w2.heap.size, 4, none⟩) hpw mM mB).trans (show (w2.alloc (.cells #[.int .i64 2, .int .i64 (i : Int), .int .u64 (s.ws i), .int .u64 (s.ws i), .bool true] 57)).frozen? ⟨w2.heap.size, 4, none⟩ = false by simp [go_sem])
                  have z0 := (Mm.Oth.cell ho4 (p := ⟨wr.heap.size, 0, none⟩) hpo3 nM nB).trans ((World.cell?_alloc_lt w2 _ ⟨wr.heap.size, 0, none⟩ hpo).trans e0)
                  have z1 := (Mm.Oth.cell ho4 (p := ⟨wr.heap.size, 1, none⟩) hpo3 nM nB).trans ((World.cell?_alloc_lt w2 _ ⟨wr.heap.size, 1, none⟩ hpo).trans e1)
                  have z2 := (Mm.Oth.cell ho4 (p := ⟨wr.heap.size, 2, none⟩) hpo3 nM nB).trans ((World.cell?_alloc_lt w2 _ ⟨wr.heap.size, 2, none⟩ hpo).trans e2)
                  have z3 := (Mm.Oth.cell ho4 (p := ⟨wr.heap.size, 3, none⟩) hpo3 nM nB).trans ((World.cell?_alloc_lt w2 _ ⟨wr.heap.size, 3, none⟩ hpo).trans e3)
                  have HM4 := Lib.hid (show MAt M B n c (⟨upd s.ws i x, s.st + 1, 2, (i : Int), s.ws i, x, true⟩ : MS) w4 from hm4)
                  have HO4 := Lib.hid (show Oth M B wr w4 from (Mm.Oth.of HB3.out).trans ho4)
                  have hs4 : w2.heap.size < w4.heap.size := by rw [hz4]; exact hpw
                  clear e0 e1 e2 e3 hm4 hz4 hbb4 ho4 hpw hpo3
                  go_wp2_with fail
                  have HM5 := Lib.hid (show MAt M B n c (⟨upd s.ws i x, s.st + 1, 2, (i : Int), s.ws i, x, true⟩ : MS) (w4.setCell ⟨w2.heap.size, 3, none⟩ (.int .u64 x)) from mat_set (HM4.out) w2.heap.size 3 (.int .u64 x) mM.symm mB.symm)
                  have HO5 := Lib.hid (show Oth M B wr (w4.setCell ⟨w2.heap.size, 3, none⟩ (.int .u64 x)) from Oth.new (HO4.out) w2.heap.size 3 (.int .u64 x) (by omega))
                  have r0 : (w4.setCell ⟨w2.heap.size, 3, none⟩ (.int .u64 x)).cell? ⟨w2.heap.size, 0, none⟩ = some (.int .i64 2) := by simp [go_sem, q0, q1, q2, q3, q4]
                  have r1 : (w4.setCell ⟨w2.heap.size, 3, none⟩ (.int .u64 x)).cell? ⟨w2.heap.size, 1, none⟩ = some (.int .i64 (i : Int)) := by simp [go_sem, q0, q1, q2, q3, q4]
                  have r2 : (w4.setCell ⟨w2.heap.size, 3, none⟩ (.int .u64 x)).cell? ⟨w2.heap.size, 2, none⟩ = some (.int .u64 (s.ws i)) := by simp [go_sem, q0, q1, q2, q3, q4]
                  have r3 : (w4.setCell ⟨w2.heap.size, 3, none⟩ (.int .u64 x)).cell? ⟨w2.heap.size, 3, none⟩ = some (.int .u64 x) := by simp [go_sem, q0, q1, q2, q3, q4]
                  have r4 : (w4.setCell ⟨w2.heap.size, 3, none⟩ (.int .u64 x)).cell? ⟨w2.heap.size, 4, none⟩ = some (.bool true) := by simp [go_sem, q0, q1, q2, q3, q4]
                  have y1 : (w4.setCell ⟨w2.heap.size, 3, none⟩ (.int .u64 x)).cell? ⟨wr.heap.size, 1, none⟩ = some (.int .i64 (i : Int)) := by first | exact z1 | (rw [World.cell?_setCell_other _ _ _ _ (Mm.addr_ne (.inl hne21))]; exact z1) | (rw [World.cell?_setCell_other _ _ _ _ (Mm.addr_ne (.inl hne21)), World.cell?_setCell_other _ _ _ _ (Mm.addr_ne (.inl hne21))]; exact z1)
                  have hs5 : w2.heap.size < (w4.setCell ⟨w2.heap.size, 3, none⟩ (.int .u64 x)).heap.size := by first | exact hs4 | (simp only [World.size_setCell]; exact hs4)
                  clear q0 q1 q2 q3 q4 fq3 fq4 z0 z1 z2 z3 hs4
                  change Code.wp _ _ _ _ (w4.setCell ⟨w2.heap.size, 3, none⟩ (.int .u64 x))
                  generalize (w4.setCell ⟨w2.heap.size, 3, none⟩ (.int .u64 x)) = W5 at HM5 HO5 r0 r1 r2 r3 r4 y1 hs5 ⊢
                  have HR := Lib.hid (And.intro r0 (And.intro r1 (And.intro r2 (And.intro r3 (And.intro r4 (And.intro y1 hs5))))))
                  clear r0 r1 r2 r3 r4 y1 hs5
                  refine region_sc (by kernel_rfl) (by kernel_rfl) ?_
                  iterate 4 (first | go_big_quiet_skip | (go_big_quiet_want; go_big_quiet_op; first | go_big_quiet_on | (refine ⟨_, fun _ _ => rfl, ?_⟩; go_big_quiet_on)))
                  go_big_quiet_want
                  go_big_quiet_op
                  refine ⟨_, fun wq hq => (Mm.steps_is (HM5.out.below hq)).mono fun e w' ⟨he, hw⟩ => ⟨he, hw ▸ hq⟩, ?_⟩
                  go_big_quiet_on
                  iterate 5 (first | go_big_quiet_skip | (go_big_quiet_want; go_big_quiet_op; first | go_big_quiet_on | (refine ⟨_, fun _ _ => rfl, ?_⟩; go_big_quiet_on)))
                  go_big_quiet_want
                  go_big_quiet_op
                  refine ⟨_, fun wq hq => (Mm.last_is (HM5.out.below hq)).mono fun e w' ⟨he, hb⟩ => ⟨he, Below.step hq hb⟩, ?_⟩
                  go_big_quiet_on
                  go_big_quiet_want
                  refine ⟨.agg #[.int .i64 2, .int .i64 (i : Int), .int .u64 (s.ws i), .int .u64 x, .bool true], fun wq hq => ?_, ?_⟩
                  · have g : ∀ j, wq.cell? ⟨w2.heap.size, j, none⟩ = W5.cell? ⟨w2.heap.size, j, none⟩ := fun j => Below.cell (show Below W5.heap.size W5 wq from hq) (p := ⟨w2.heap.size, j, none⟩) HR.out.2.2.2.2.2.2
                    have g0 := (g 0).trans HR.out.1
                    have g1' := (g 1).trans HR.out.2.1
                    have g2 := (g 2).trans HR.out.2.2.1
                    have g3 := (g 3).trans HR.out.2.2.2.1
                    have g4 := (g 4).trans HR.out.2.2.2.2.1
                    unfold Oper.quietAt
                    simp [go_sem, g0, g1', g2, g3, g4, Oper.quietUpon]
                  simp only [Act.put, List.setIfInBounds_toArray, List.set_cons_zero, List.set_cons_succ]
                  go_big_quiet_on
                  iterate 2 (first | go_big_quiet_skip | (go_big_quiet_want; go_big_quiet_op; first | go_big_quiet_on | (refine ⟨_, fun _ _ => rfl, ?_⟩; go_big_quiet_on)))
                  refine wpQuiet_nil ?_
                  intro w6 hv
                  have hv' : Below W5.heap.size W5 w6 := hv
                  have y3 := (hv'.cell (p := ⟨w2.heap.size, 3, none⟩) HR.out.2.2.2.2.2.2).trans HR.out.2.2.2.1
                  have hs6 := Nat.lt_of_lt_of_le HR.out.2.2.2.2.2.2 hv'.size
                  have y1 := (hv'.cell (p := ⟨wr.heap.size, 1, none⟩) (by have := HR.out.2.2.2.2.2.2; show wr.heap.size < W5.heap.size; omega)).trans HR.out.2.2.2.2.2.1
                  have HV6 := Lib.hid hv'
                  clear hv hv'
                  go_wp2_with fail
                  go_roundg (len1 + 1 - (k + 1))
                  case measure => exact HM.out
                  case rel => exact ⟨k + 1, M, B, c, (⟨upd s.ws i x, s.st + 1, 2, (i : Int), s.ws i, x, true⟩ : MS), L, A, cp, rfl, HK.out.2.2, by omega, rfl, rfl, rfl, by go_num, Lib.hid ((Inv.same HI.out HO5.out HM5.out (fun j _ => by show upd s.ws i x j = s.ws j; rw [HXW.out]; exact upd_same s.ws i j) rfl).below HV6.out)⟩

                · have hxb : (x == s.ws i) = false := by simpa using hxw
                  clear hxw
                  go_wp2_with fail
                  refine (Mm.store_in HI3.out.m i HII.out x HX.out (by omega)).mono ?_
                  rintro e w4 ⟨rfl, hm4, hz4, hbb4, ho4⟩
                  have hne21 : w2.heap.size ≠ wr.heap.size := by omega
                  have hpw : w2.heap.size < (w2.alloc (.cells #[.int .i64 2, .int .i64 (i : Int), .int .u64 (s.ws i), .int .u64 (s.ws i), .bool true] 57)).heap.size := by simp
                  have hpo3 : wr.heap.size < (w2.alloc (.cells #[.int .i64 2, .int .i64 (i : Int), .int .u64 (s.ws i), .int .u64 (s.ws i), .bool true] 57)).heap.size := by simp only [World.size_alloc]; omega
                  have nM : wr.heap.size ≠ M := by have := HML.out; omega
                  have nB : wr.heap.size ≠ B := by have := HBL.out; omega
                  have mM : w2.heap.size ≠ M := by have := HML.out; omega
                  have mB : w2.heap.size ≠ B := by have := HBL.out; omega
                  have q0 := (Mm.Oth.cell ho4 (p := ⟨w2.heap.size, 0, none⟩) hpw mM mB).trans (show (w2.alloc (.cells #[.int .i64 2, .int .i64 (i : Int), .int .u64 (s.ws i), .int .u64 (s.ws i), .bool true] 57)).cell? ⟨w2.heap.size, 0, none⟩ = some (.int .i64 2) by simp [go_sem])
                  have q1 := (Mm.Oth.cell ho4 (p := ⟨w2.heap.size, 1, none⟩) hpw mM mB).trans (show (w2.alloc (.cells #[.int .i64 2, .int .i64 (i : Int), .int .u64 (s.ws i), .int .u64 (s.ws i), .bool true] 57)).cell? ⟨w2.heap.size, 1, none⟩ = some (.int .i64 (i : Int)) by simp [go_sem])
                  have q2 := (Mm.Oth.cell ho4 (p := ⟨w2.heap.size, 2, none⟩) hpw mM mB).trans (show (w2.alloc (.cells #[.int .i64 2, .int .i64 (i : Int), .int .u64 (s.ws i), .int .u64 (s.ws i), .bool true] 57)).cell? ⟨w2.heap.size, 2, none⟩ = some (.int .u64 (s.ws i)) by simp [go_sem])
                  have q3 := (Mm.Oth.cell ho4 (p := ⟨w2.heap.size, 3, none⟩) hpw mM mB).trans (show (w2.alloc (.cells #[.int .i64 2, .int .i64 (i : Int), .int .u64 (s.ws i), .int .u64 (s.ws i), .bool true] 57)).cell? ⟨w2.heap.size, 3, none⟩ = some (.int .u64 (s.ws i)) by simp [go_sem])
                  have q4 := (Mm.Oth.cell ho4 (p := ⟨w2.heap.size, 4, none⟩) hpw mM mB).trans (show (w2.alloc (.cells #[.int .i64 2, .int .i64 (i : Int), .int .u64 (s.ws i), .int .u64 (s.ws i), .bool true] 57)).cell? ⟨w2.heap.size, 4, none⟩ = some (.bool true) by simp [go_sem])
                  have fq3 := (Mm.Oth.frozen ho4 (p := ⟨w2.heap.size, 3, none⟩) hpw mM mB).trans (show (w2.alloc (.cells #[.int .i64 2, .int .i64 (i : Int), .int .u64 (s.ws i), .int .u64 (s.ws i), .bool true] 57)).frozen? ⟨w2.heap.size, 3, none⟩ = false by simp [go_sem])
                  have fq4 := (Mm.Oth.frozen ho4 (p := ⟨w2.heap.size, 4, none⟩) hpw mM mB).trans (show (w2.alloc (.cells #[.int .i64 2, .int .i64 (i : Int), .int .u64 (s.ws i), .int .u64 (s.ws i), .bool true] 57)).frozen? ⟨w2.heap.size, 4, none⟩ = false by simp [go_sem])
                  have z0 := (Mm.Oth.cell ho4 (p := ⟨wr.heap.size, 0, none⟩) hpo3 nM nB).trans ((World.cell?_alloc_lt w2 _ ⟨wr.heap.size, 0, none⟩ hpo).trans e0)
                  have z1 := (Mm.Oth.cell ho4 (p := ⟨wr.heap.size, 1, none⟩) hpo3 nM nB).trans ((World.cell?_alloc_lt w2 _ ⟨wr.heap.size, 1, none⟩ hpo).trans e1)
                  have z2 := (Mm.Oth.cell ho4 (p := ⟨wr.heap.size, 2, none⟩) hpo3 nM nB).trans ((World.cell?_alloc_lt w2 _ ⟨wr.heap.size, 2, none⟩ hpo).trans e2)
                  have z3 := (Mm.Oth.cell ho4 (p := ⟨wr.heap.size, 3, none⟩) hpo3 nM nB).trans ((World.cell?_alloc_lt w2 _ ⟨wr.heap.size, 3, none⟩ hpo).trans e3)
                  have HM4 := Lib.hid (show MAt M B n c (⟨upd s.ws i x, s.st + 1, 2, (i : Int), s.ws i, x, true⟩ : MS) w4 from hm4)
                  have HO4 := Lib.hid (show Oth M B wr w4 from (Mm.Oth.of HB3.out).trans ho4)
                  have hs4 : w2.heap.size < w4.heap.size := by rw [hz4]; exact hpw
                  clear e0 e1 e2 e3 hm4 hz4 hbb4 ho4 hpw hpo3
                  go_wp2_with fail
                  have HM5 := Lib.hid (show MAt M B n c (⟨upd s.ws i x, s.st + 1, 2, (i : Int), s.ws i, x, true⟩ : MS) (w4.setCell ⟨w2.heap.size, 3, none⟩ (.int .u64 x)) from mat_set (HM4.out) w2.heap.size 3 (.int .u64 x) mM.symm mB.symm)
                  have HO5 := Lib.hid (show Oth M B wr (w4.setCell ⟨w2.heap.size, 3, none⟩ (.int .u64 x)) from Oth.new (HO4.out) w2.heap.size 3 (.int .u64 x) (by omega))
                  have r0 : (w4.setCell ⟨w2.heap.size, 3, none⟩ (.int .u64 x)).cell? ⟨w2.heap.size, 0, none⟩ = some (.int .i64 2) := by simp [go_sem, q0, q1, q2, q3, q4]
                  have r1 : (w4.setCell ⟨w2.heap.size, 3, none⟩ (.int .u64 x)).cell? ⟨w2.heap.size, 1, none⟩ = some (.int .i64 (i : Int)) := by simp [go_sem, q0, q1, q2, q3, q4]
                  have r2 : (w4.setCell ⟨w2.heap.size, 3, none⟩ (.int .u64 x)).cell? ⟨w2.heap.size, 2, none⟩ = some (.int .u64 (s.ws i)) := by simp [go_sem, q0, q1, q2, q3, q4]
                  have r3 : (w4.setCell ⟨w2.heap.size, 3, none⟩ (.int .u64 x)).cell? ⟨w2.heap.size, 3, none⟩ = some (.int .u64 x) := by simp [go_sem, q0, q1, q2, q3, q4]
                  have r4 : (w4.setCell ⟨w2.heap.size, 3, none⟩ (.int .u64 x)).cell? ⟨w2.heap.size, 4, none⟩ = some (.bool true) := by simp [go_sem, q0, q1, q2, q3, q4]
                  have y1 : (w4.setCell ⟨w2.heap.size, 3, none⟩ (.int .u64 x)).cell? ⟨wr.heap.size, 1, none⟩ = some (.int .i64 (i : Int)) := by first | exact z1 | (rw [World.cell?_setCell_other _ _ _ _ (Mm.addr_ne (.inl hne21))]; exact z1) | (rw [World.cell?_setCell_other _ _ _ _ (Mm.addr_ne (.inl hne21)), World.cell?_setCell_other _ _ _ _ (Mm.addr_ne (.inl hne21))]; exact z1)
                  have hs5 : w2.heap.size < (w4.setCell ⟨w2.heap.size, 3, none⟩ (.int .u64 x)).heap.size := by first | exact hs4 | (simp only [World.size_setCell]; exact hs4)
                  clear q0 q1 q2 q3 q4 fq3 fq4 z0 z1 z2 z3 hs4
                  change Code.wp _ _ _ _ (w4.setCell ⟨w2.heap.size, 3, none⟩ (.int .u64 x))
                  generalize (w4.setCell ⟨w2.heap.size, 3, none⟩ (.int .u64 x)) = W5 at HM5 HO5 r0 r1 r2 r3 r4 y1 hs5 ⊢
                  have HR := Lib.hid (And.intro r0 (And.intro r1 (And.intro r2 (And.intro r3 (And.intro r4 (And.intro y1 hs5))))))
                  clear r0 r1 r2 r3 r4 y1 hs5
                  refine region_sc (by kernel_rfl) (by kernel_rfl) ?_
                  iterate 4 (first | go_big_quiet_skip | (go_big_quiet_want; go_big_quiet_op; first | go_big_quiet_on | (refine ⟨_, fun _ _ => rfl, ?_⟩; go_big_quiet_on)))
                  go_big_quiet_want
                  go_big_quiet_op
                  refine ⟨_, fun wq hq => (Mm.steps_is (HM5.out.below hq)).mono fun e w' ⟨he, hw⟩ => ⟨he, hw ▸ hq⟩, ?_⟩
                  go_big_quiet_on
                  iterate 5 (first | go_big_quiet_skip | (go_big_quiet_want; go_big_quiet_op; first | go_big_quiet_on | (refine ⟨_, fun _ _ => rfl, ?_⟩; go_big_quiet_on)))
                  go_big_quiet_want
                  go_big_quiet_op
                  refine ⟨_, fun wq hq => (Mm.last_is (HM5.out.below hq)).mono fun e w' ⟨he, hb⟩ => ⟨he, Below.step hq hb⟩, ?_⟩
                  go_big_quiet_on
                  go_big_quiet_want
                  refine ⟨.agg #[.int .i64 2, .int .i64 (i : Int), .int .u64 (s.ws i), .int .u64 x, .bool true], fun wq hq => ?_, ?_⟩
                  · have g : ∀ j, wq.cell? ⟨w2.heap.size, j, none⟩ = W5.cell? ⟨w2.heap.size, j, none⟩ := fun j => Below.cell (show Below W5.heap.size W5 wq from hq) (p := ⟨w2.heap.size, j, none⟩) HR.out.2.2.2.2.2.2
                    have g0 := (g 0).trans HR.out.1
                    have g1' := (g 1).trans HR.out.2.1
                    have g2 := (g 2).trans HR.out.2.2.1
                    have g3 := (g 3).trans HR.out.2.2.2.1
                    have g4 := (g 4).trans HR.out.2.2.2.2.1
                    unfold Oper.quietAt
                    simp [go_sem, g0, g1', g2, g3, g4, Oper.quietUpon]
                  simp only [Act.put, List.setIfInBounds_toArray, List.set_cons_zero, List.set_cons_succ]
                  go_big_quiet_on
                  iterate 2 (first | go_big_quiet_skip | (go_big_quiet_want; go_big_quiet_op; first | go_big_quiet_on | (refine ⟨_, fun _ _ => rfl, ?_⟩; go_big_quiet_on)))
                  refine wpQuiet_nil ?_
                  intro w6 hv
                  have hv' : Below W5.heap.size W5 w6 := hv
                  have y3 := (hv'.cell (p := ⟨w2.heap.size, 3, none⟩) HR.out.2.2.2.2.2.2).trans HR.out.2.2.2.1
                  have hs6 := Nat.lt_of_lt_of_le HR.out.2.2.2.2.2.2 hv'.size
                  have y1 := (hv'.cell (p := ⟨wr.heap.size, 1, none⟩) (by have := HR.out.2.2.2.2.2.2; show wr.heap.size < W5.heap.size; omega)).trans HR.out.2.2.2.2.2.1
                  have HV6 := Lib.hid hv'
                  clear hv hv'
                  have HR1 := Lib.hid (World.ownsRow.alloc (w := w6) (row_kept (HI.out.oth_row HO5.out).1 HV6.out) (Obj.cells #[.int .i64 (i : Int), .int .u64 x] 65))
                  have HRD := Lib.hid (reads_two w6 [.int .i64 (i : Int), .int .u64 x] 65 rfl)
                  have N1 := Lib.hid (show L.length + 1 ≤ maxLen from by have := HLL.out; unfold maxLen; omega)
                  have N2 := Lib.hid (show (L.length + 1) * 16 ≤ 140737488355328 from by have := HLL.out; omega)
                  have hb67 : Below w6.heap.size w6 (w6.alloc (.cells #[.int .i64 (i : Int), .int .u64 x] 65)) := by go_grown
                  have N3 := Lib.hid (show w.heap.size ≤ (w6.alloc (.cells #[.int .i64 (i : Int), .int .u64 x] 65)).heap.size from Nat.le_trans (Below.step (HI.out.oth_row HO5.out).2 HV6.out).size hb67.size)
                  have NV := Lib.hid (show ∀ u ∈ ([.int .i64 (i : Int), .int .u64 x] : List Value), u.oneCell' = true from by intro u hu; simp only [List.mem_cons, List.not_mem_nil, or_false] at hu; rcases hu with h | h <;> (subst h; rfl))
                  have HWA := Lib.hid (Below.step HV6.out hb67)
                  clear hb67
                  go_wp2_with (at_builtin; refine wpList_append_any _ rfl (.tmp 201) (.tmp 207) 52 rfl w.heap.size 65 i0 (.agg #[.int .i64 0, .int .u64 0]) 2 16 Tryd.underlying52 HPI.out HPZ0.out HPZ1.out HPZ2.out rfl (by decide) _ L.length (pc L) rfl HR1.out _ (some ⟨w6.heap.size, 0, none⟩) 1 1 [.int .i64 (i : Int), .int .u64 x] rfl HRD.out NV.out N1.out N2.out N3.out ?_; intro v7 w7 hown7 hgrow7 hblk7; obtain ⟨A7, c7, hv7⟩ := own_shape hown7; subst hv7; have HP := Lib.hid (And.intro hown7 (And.intro hgrow7 hblk7)); clear hown7 hgrow7 hblk7)
                  go_roundg (len1 + 1 - (k + 1))
                  case measure => exact HM.out
                  case rel => exact ⟨k + 1, M, B, c, (⟨upd s.ws i x, s.st + 1, 2, (i : Int), s.ws i, x, true⟩ : MS), L ++ [((i : Int), x)], A7, c7, rfl, HK.out.2.2, by omega, rfl, by rw [List.length_append]; rfl, rfl, by go_num, Lib.hid (Inv.put HI.out HO5.out HM5.out i x (fun j _ => rfl) rfl HWA.out HP.out.2.1 HP.out.1 HP.out.2.2)⟩


            by_cases e3k : kd = 3
            · subst e3k
              as_aux_lemma =>
                by_cases hso : s.ws i = old
                · have HSO := Lib.hid hso
                  have hsb : (s.ws i == old) = true := by simpa using hso
                  clear hso
                  by_cases hxw : x = s.ws i
                  · have HXW := Lib.hid hxw
                    have hxb : (x == s.ws i) = true := by rw [hxw]; simp
                    clear hxw
                    go_wp2_with fail
                    refine (Mm.swap_yes HI3.out.m i HII.out old x HX.out (by omega) HSO.out).mono ?_
                    rintro e w4 ⟨rfl, hm4, hz4, hbb4, ho4⟩
                    have hne21 : w2.heap.size ≠ wr.heap.size := by omega
                    have hpw : w2.heap.size < (w2.alloc (.cells #[.int .i64 3, .int .i64 (i : Int), .int .u64 (s.ws i), .int .u64 (s.ws i), .bool true] 57)).heap.size := by simp
                    have hpo3 : wr.heap.size < (w2.alloc (.cells #[.int .i64 3, .int .i64 (i : Int), .int .u64 (s.ws i), .int .u64 (s.ws i), .bool true] 57)).heap.size := by simp only [World.size_alloc]; omega
                    have nM : wr.heap.size ≠ M := by have := HML.out; omega
                    have nB : wr.heap.size ≠ B := by have := HBL.out; omega
                    have mM : w2.heap.size ≠ M := by have := HML.out; omega
                    have mB : w2.heap.size ≠ B := by have := HBL.out; omega
                    have q0 := (Mm.Oth.cell ho4 (p := ⟨w2.heap.size, 0, none⟩) hpw mM mB).trans (show (w2.alloc (.cells #[.int .i64 3, .int .i64 (i : Int), .int .u64 (s.ws i), .int .u64 (s.ws i), .bool true] 57)).cell? ⟨w2.heap.size, 0, none⟩ = some (.int .i64 3) by simp [go_sem])
                    have q1 := (Mm.Oth.cell ho4 (p := ⟨w2.heap.size, 1, none⟩) hpw mM mB).trans (show (w2.alloc (.cells #[.int .i64 3, .int .i64 (i : Int), .int .u64 (s.ws i), .int .u64 (s.ws i), .bool true] 57)).cell? ⟨w2.heap.size, 1, none⟩ = some (.int .i64 (i : Int)) by simp [go_sem])
                    have q2 := (Mm.Oth.cell ho4 (p := ⟨w2.heap.size, 2, none⟩) hpw mM mB).trans (show (w2.alloc (.cells #[.int .i64 3, .int .i64 (i : Int), .int .u64 (s.ws i), .int .u64 (s.ws i), .bool true] 57)).cell? ⟨w2.heap.size, 2, none⟩ = some (.int .u64 (s.ws i)) by simp [go_sem])
                    have q3 := (Mm.Oth.cell ho4 (p := ⟨w2.heap.size, 3, none⟩) hpw mM mB).trans (show (w2.alloc (.cells #[.int .i64 3, .int .i64 (i : Int), .int .u64 (s.ws i), .int .u64 (s.ws i), .bool true] 57)).cell? ⟨w2.heap.size, 3, none⟩ = some (.int .u64 (s.ws i)) by simp [go_sem])
                    have q4 := (Mm.Oth.cell ho4 (p := ⟨w2.heap.size, 4, none⟩) hpw mM mB).trans (show (w2.alloc (.cells #[.int .i64 3, .int .i64 (i : Int), .int .u64 (s.ws i), .int .u64 (s.ws i), .bool true] 57)).cell? ⟨w2.heap.size, 4, none⟩ = some (.bool true) by simp [go_sem])
                    have fq3 := (Mm.Oth.frozen ho4 (p := ⟨w2.heap.size, 3, none⟩) hpw mM mB).trans (show (w2.alloc (.cells #[.int .i64 3, .int .i64 (i : Int), .int .u64 (s.ws i), .int .u64 (s.ws i), .bool true] 57)).frozen? ⟨w2.heap.size, 3, none⟩ = false by simp [go_sem])
                    have fq4 := (Mm.Oth.frozen ho4 (p := ⟨w2.heap.size, 4, none⟩) hpw mM mB).trans (show (w2.alloc (.cells #[.int .i64 3, .int .i64 (i : Int), .int .u64 (s.ws i), .int .u64 (s.ws i), .bool true] 57)).frozen? ⟨w2.heap.size, 4, none⟩ = false by simp [go_sem])
                    have z0 := (Mm.Oth.cell ho4 (p := ⟨wr.heap.size, 0, none⟩) hpo3 nM nB).trans ((World.cell?_alloc_lt w2 _ ⟨wr.heap.size, 0, none⟩ hpo).trans e0)
                    have z1 := (Mm.Oth.cell ho4 (p := ⟨wr.heap.size, 1, none⟩) hpo3 nM nB).trans ((World.cell?_alloc_lt w2 _ ⟨wr.heap.size, 1, none⟩ hpo).trans e1)
                    have z2 := (Mm.Oth.cell ho4 (p := ⟨wr.heap.size, 2, none⟩) hpo3 nM nB).trans ((World.cell?_alloc_lt w2 _ ⟨wr.heap.size, 2, none⟩ hpo).trans e2)
                    have z3 := (Mm.Oth.cell ho4 (p := ⟨wr.heap.size, 3, none⟩) hpo3 nM nB).trans ((World.cell?_alloc_lt w2 _ ⟨wr.heap.size, 3, none⟩ hpo).trans e3)
                    have HM4 := Lib.hid (show MAt M B n c (⟨upd s.ws i x, s.st + 1, 3, (i : Int), s.ws i, x, true⟩ : MS) w4 from hm4)
                    have HO4 := Lib.hid (show Oth M B wr w4 from (Mm.Oth.of HB3.out).trans ho4)
                    have hs4 : w2.heap.size < w4.heap.size := by rw [hz4]; exact hpw
                    clear e0 e1 e2 e3 hm4 hz4 hbb4 ho4 hpw hpo3
                    go_wp2_with fail
                    have HM5 := Lib.hid (show MAt M B n c (⟨upd s.ws i x, s.st + 1, 3, (i : Int), s.ws i, x, true⟩ : MS) ((w4.setCell ⟨w2.heap.size, 4, none⟩ (.bool true)).setCell ⟨w2.heap.size, 3, none⟩ (.int .u64 x)) from mat_set (mat_set (HM4.out) w2.heap.size 4 (.bool true) mM.symm mB.symm) w2.heap.size 3 (.int .u64 x) mM.symm mB.symm)
                    have HO5 := Lib.hid (show Oth M B wr ((w4.setCell ⟨w2.heap.size, 4, none⟩ (.bool true)).setCell ⟨w2.heap.size, 3, none⟩ (.int .u64 x)) from Oth.new (Oth.new (HO4.out) w2.heap.size 4 (.bool true) (by omega)) w2.heap.size 3 (.int .u64 x) (by omega))
                    have r0 : ((w4.setCell ⟨w2.heap.size, 4, none⟩ (.bool true)).setCell ⟨w2.heap.size, 3, none⟩ (.int .u64 x)).cell? ⟨w2.heap.size, 0, none⟩ = some (.int .i64 3) := by simp [go_sem, q0, q1, q2, q3, q4]
                    have r1 : ((w4.setCell ⟨w2.heap.size, 4, none⟩ (.bool true)).setCell ⟨w2.heap.size, 3, none⟩ (.int .u64 x)).cell? ⟨w2.heap.size, 1, none⟩ = some (.int .i64 (i : Int)) := by simp [go_sem, q0, q1, q2, q3, q4]
                    have r2 : ((w4.setCell ⟨w2.heap.size, 4, none⟩ (.bool true)).setCell ⟨w2.heap.size, 3, none⟩ (.int .u64 x)).cell? ⟨w2.heap.size, 2, none⟩ = some (.int .u64 (s.ws i)) := by simp [go_sem, q0, q1, q2, q3, q4]
                    have r3 : ((w4.setCell ⟨w2.heap.size, 4, none⟩ (.bool true)).setCell ⟨w2.heap.size, 3, none⟩ (.int .u64 x)).cell? ⟨w2.heap.size, 3, none⟩ = some (.int .u64 x) := by simp [go_sem, q0, q1, q2, q3, q4]
                    have r4 : ((w4.setCell ⟨w2.heap.size, 4, none⟩ (.bool true)).setCell ⟨w2.heap.size, 3, none⟩ (.int .u64 x)).cell? ⟨w2.heap.size, 4, none⟩ = some (.bool true) := by simp [go_sem, q0, q1, q2, q3, q4]
                    have y1 : ((w4.setCell ⟨w2.heap.size, 4, none⟩ (.bool true)).setCell ⟨w2.heap.size, 3, none⟩ (.int .u64 x)).cell? ⟨wr.heap.size, 1, none⟩ = some (.int .i64 (i : Int)) := by first | exact z1 | (rw [World.cell?_setCell_other _ _ _ _ (Mm.addr_ne (.inl hne21))]; exact z1) | (rw [World.cell?_setCell_other _ _ _ _ (Mm.addr_ne (.inl hne21)), World.cell?_setCell_other _ _ _ _ (Mm.addr_ne (.inl hne21))]; exact z1)
                    have hs5 : w2.heap.size < ((w4.setCell ⟨w2.heap.size, 4, none⟩ (.bool true)).setCell ⟨w2.heap.size, 3, none⟩ (.int .u64 x)).heap.size := by first | exact hs4 | (simp only [World.size_setCell]; exact hs4)
                    clear q0 q1 q2 q3 q4 fq3 fq4 z0 z1 z2 z3 hs4
                    change Code.wp _ _ _ _ ((w4.setCell ⟨w2.heap.size, 4, none⟩ (.bool true)).setCell ⟨w2.heap.size, 3, none⟩ (.int .u64 x))
                    generalize ((w4.setCell ⟨w2.heap.size, 4, none⟩ (.bool true)).setCell ⟨w2.heap.size, 3, none⟩ (.int .u64 x)) = W5 at HM5 HO5 r0 r1 r2 r3 r4 y1 hs5 ⊢
                    have HR := Lib.hid (And.intro r0 (And.intro r1 (And.intro r2 (And.intro r3 (And.intro r4 (And.intro y1 hs5))))))
                    clear r0 r1 r2 r3 r4 y1 hs5
                    refine region_sc (by kernel_rfl) (by kernel_rfl) ?_
                    iterate 4 (first | go_big_quiet_skip | (go_big_quiet_want; go_big_quiet_op; first | go_big_quiet_on | (refine ⟨_, fun _ _ => rfl, ?_⟩; go_big_quiet_on)))
                    go_big_quiet_want
                    go_big_quiet_op
                    refine ⟨_, fun wq hq => (Mm.steps_is (HM5.out.below hq)).mono fun e w' ⟨he, hw⟩ => ⟨he, hw ▸ hq⟩, ?_⟩
                    go_big_quiet_on
                    iterate 5 (first | go_big_quiet_skip | (go_big_quiet_want; go_big_quiet_op; first | go_big_quiet_on | (refine ⟨_, fun _ _ => rfl, ?_⟩; go_big_quiet_on)))
                    go_big_quiet_want
                    go_big_quiet_op
                    refine ⟨_, fun wq hq => (Mm.last_is (HM5.out.below hq)).mono fun e w' ⟨he, hb⟩ => ⟨he, Below.step hq hb⟩, ?_⟩
                    go_big_quiet_on
                    go_big_quiet_want
                    refine ⟨.agg #[.int .i64 3, .int .i64 (i : Int), .int .u64 (s.ws i), .int .u64 x, .bool true], fun wq hq => ?_, ?_⟩
                    · have g : ∀ j, wq.cell? ⟨w2.heap.size, j, none⟩ = W5.cell? ⟨w2.heap.size, j, none⟩ := fun j => Below.cell (show Below W5.heap.size W5 wq from hq) (p := ⟨w2.heap.size, j, none⟩) HR.out.2.2.2.2.2.2
                      have g0 := (g 0).trans HR.out.1
                      have g1' := (g 1).trans HR.out.2.1
                      have g2 := (g 2).trans HR.out.2.2.1
                      have g3 := (g 3).trans HR.out.2.2.2.1
                      have g4 := (g 4).trans HR.out.2.2.2.2.1
                      unfold Oper.quietAt
                      simp [go_sem, g0, g1', g2, g3, g4, Oper.quietUpon]
                    simp only [Act.put, List.setIfInBounds_toArray, List.set_cons_zero, List.set_cons_succ]
                    go_big_quiet_on
                    iterate 2 (first | go_big_quiet_skip | (go_big_quiet_want; go_big_quiet_op; first | go_big_quiet_on | (refine ⟨_, fun _ _ => rfl, ?_⟩; go_big_quiet_on)))
                    refine wpQuiet_nil ?_
                    intro w6 hv
                    have hv' : Below W5.heap.size W5 w6 := hv
                    have y3 := (hv'.cell (p := ⟨w2.heap.size, 3, none⟩) HR.out.2.2.2.2.2.2).trans HR.out.2.2.2.1
                    have hs6 := Nat.lt_of_lt_of_le HR.out.2.2.2.2.2.2 hv'.size
                    have y1 := (hv'.cell (p := ⟨wr.heap.size, 1, none⟩) (by have := HR.out.2.2.2.2.2.2; show wr.heap.size < W5.heap.size; omega)).trans HR.out.2.2.2.2.2.1
                    have HV6 := Lib.hid hv'
                    clear hv hv'
                    go_wp2_with fail
                    go_roundg (len1 + 1 - (k + 1))
                    case measure => exact HM.out
                    case rel => exact ⟨k + 1, M, B, c, (⟨upd s.ws i x, s.st + 1, 3, (i : Int), s.ws i, x, true⟩ : MS), L, A, cp, rfl, HK.out.2.2, by omega, rfl, rfl, rfl, by go_num, Lib.hid ((Inv.same HI.out HO5.out HM5.out (fun j _ => by show upd s.ws i x j = s.ws j; rw [HXW.out]; exact upd_same s.ws i j) rfl).below HV6.out)⟩

                  · have hxb : (x == s.ws i) = false := by simpa using hxw
                    clear hxw
                    go_wp2_with fail
                    refine (Mm.swap_yes HI3.out.m i HII.out old x HX.out (by omega) HSO.out).mono ?_
                    rintro e w4 ⟨rfl, hm4, hz4, hbb4, ho4⟩
                    have hne21 : w2.heap.size ≠ wr.heap.size := by omega
                    have hpw : w2.heap.size < (w2.alloc (.cells #[.int .i64 3, .int .i64 (i : Int), .int .u64 (s.ws i), .int .u64 (s.ws i), .bool true] 57)).heap.size := by simp
                    have hpo3 : wr.heap.size < (w2.alloc (.cells #[.int .i64 3, .int .i64 (i : Int), .int .u64 (s.ws i), .int .u64 (s.ws i), .bool true] 57)).heap.size := by simp only [World.size_alloc]; omega
                    have nM : wr.heap.size ≠ M := by have := HML.out; omega
                    have nB : wr.heap.size ≠ B := by have := HBL.out; omega
                    have mM : w2.heap.size ≠ M := by have := HML.out; omega
                    have mB : w2.heap.size ≠ B := by have := HBL.out; omega
                    have q0 := (Mm.Oth.cell ho4 (p := ⟨w2.heap.size, 0, none⟩) hpw mM mB).trans (show (w2.alloc (.cells #[.int .i64 3, .int .i64 (i : Int), .int .u64 (s.ws i), .int .u64 (s.ws i), .bool true] 57)).cell? ⟨w2.heap.size, 0, none⟩ = some (.int .i64 3) by simp [go_sem])
                    have q1 := (Mm.Oth.cell ho4 (p := ⟨w2.heap.size, 1, none⟩) hpw mM mB).trans (show (w2.alloc (.cells #[.int .i64 3, .int .i64 (i : Int), .int .u64 (s.ws i), .int .u64 (s.ws i), .bool true] 57)).cell? ⟨w2.heap.size, 1, none⟩ = some (.int .i64 (i : Int)) by simp [go_sem])
                    have q2 := (Mm.Oth.cell ho4 (p := ⟨w2.heap.size, 2, none⟩) hpw mM mB).trans (show (w2.alloc (.cells #[.int .i64 3, .int .i64 (i : Int), .int .u64 (s.ws i), .int .u64 (s.ws i), .bool true] 57)).cell? ⟨w2.heap.size, 2, none⟩ = some (.int .u64 (s.ws i)) by simp [go_sem])
                    have q3 := (Mm.Oth.cell ho4 (p := ⟨w2.heap.size, 3, none⟩) hpw mM mB).trans (show (w2.alloc (.cells #[.int .i64 3, .int .i64 (i : Int), .int .u64 (s.ws i), .int .u64 (s.ws i), .bool true] 57)).cell? ⟨w2.heap.size, 3, none⟩ = some (.int .u64 (s.ws i)) by simp [go_sem])
                    have q4 := (Mm.Oth.cell ho4 (p := ⟨w2.heap.size, 4, none⟩) hpw mM mB).trans (show (w2.alloc (.cells #[.int .i64 3, .int .i64 (i : Int), .int .u64 (s.ws i), .int .u64 (s.ws i), .bool true] 57)).cell? ⟨w2.heap.size, 4, none⟩ = some (.bool true) by simp [go_sem])
                    have fq3 := (Mm.Oth.frozen ho4 (p := ⟨w2.heap.size, 3, none⟩) hpw mM mB).trans (show (w2.alloc (.cells #[.int .i64 3, .int .i64 (i : Int), .int .u64 (s.ws i), .int .u64 (s.ws i), .bool true] 57)).frozen? ⟨w2.heap.size, 3, none⟩ = false by simp [go_sem])
                    have fq4 := (Mm.Oth.frozen ho4 (p := ⟨w2.heap.size, 4, none⟩) hpw mM mB).trans (show (w2.alloc (.cells #[.int .i64 3, .int .i64 (i : Int), .int .u64 (s.ws i), .int .u64 (s.ws i), .bool true] 57)).frozen? ⟨w2.heap.size, 4, none⟩ = false by simp [go_sem])
                    have z0 := (Mm.Oth.cell ho4 (p := ⟨wr.heap.size, 0, none⟩) hpo3 nM nB).trans ((World.cell?_alloc_lt w2 _ ⟨wr.heap.size, 0, none⟩ hpo).trans e0)
                    have z1 := (Mm.Oth.cell ho4 (p := ⟨wr.heap.size, 1, none⟩) hpo3 nM nB).trans ((World.cell?_alloc_lt w2 _ ⟨wr.heap.size, 1, none⟩ hpo).trans e1)
                    have z2 := (Mm.Oth.cell ho4 (p := ⟨wr.heap.size, 2, none⟩) hpo3 nM nB).trans ((World.cell?_alloc_lt w2 _ ⟨wr.heap.size, 2, none⟩ hpo).trans e2)
                    have z3 := (Mm.Oth.cell ho4 (p := ⟨wr.heap.size, 3, none⟩) hpo3 nM nB).trans ((World.cell?_alloc_lt w2 _ ⟨wr.heap.size, 3, none⟩ hpo).trans e3)
                    have HM4 := Lib.hid (show MAt M B n c (⟨upd s.ws i x, s.st + 1, 3, (i : Int), s.ws i, x, true⟩ : MS) w4 from hm4)
                    have HO4 := Lib.hid (show Oth M B wr w4 from (Mm.Oth.of HB3.out).trans ho4)
                    have hs4 : w2.heap.size < w4.heap.size := by rw [hz4]; exact hpw
                    clear e0 e1 e2 e3 hm4 hz4 hbb4 ho4 hpw hpo3
                    go_wp2_with fail
                    have HM5 := Lib.hid (show MAt M B n c (⟨upd s.ws i x, s.st + 1, 3, (i : Int), s.ws i, x, true⟩ : MS) ((w4.setCell ⟨w2.heap.size, 4, none⟩ (.bool true)).setCell ⟨w2.heap.size, 3, none⟩ (.int .u64 x)) from mat_set (mat_set (HM4.out) w2.heap.size 4 (.bool true) mM.symm mB.symm) w2.heap.size 3 (.int .u64 x) mM.symm mB.symm)
                    have HO5 := Lib.hid (show Oth M B wr ((w4.setCell ⟨w2.heap.size, 4, none⟩ (.bool true)).setCell ⟨w2.heap.size, 3, none⟩ (.int .u64 x)) from Oth.new (Oth.new (HO4.out) w2.heap.size 4 (.bool true) (by omega)) w2.heap.size 3 (.int .u64 x) (by omega))
                    have r0 : ((w4.setCell ⟨w2.heap.size, 4, none⟩ (.bool true)).setCell ⟨w2.heap.size, 3, none⟩ (.int .u64 x)).cell? ⟨w2.heap.size, 0, none⟩ = some (.int .i64 3) := by simp [go_sem, q0, q1, q2, q3, q4]
                    have r1 : ((w4.setCell ⟨w2.heap.size, 4, none⟩ (.bool true)).setCell ⟨w2.heap.size, 3, none⟩ (.int .u64 x)).cell? ⟨w2.heap.size, 1, none⟩ = some (.int .i64 (i : Int)) := by simp [go_sem, q0, q1, q2, q3, q4]
                    have r2 : ((w4.setCell ⟨w2.heap.size, 4, none⟩ (.bool true)).setCell ⟨w2.heap.size, 3, none⟩ (.int .u64 x)).cell? ⟨w2.heap.size, 2, none⟩ = some (.int .u64 (s.ws i)) := by simp [go_sem, q0, q1, q2, q3, q4]
                    have r3 : ((w4.setCell ⟨w2.heap.size, 4, none⟩ (.bool true)).setCell ⟨w2.heap.size, 3, none⟩ (.int .u64 x)).cell? ⟨w2.heap.size, 3, none⟩ = some (.int .u64 x) := by simp [go_sem, q0, q1, q2, q3, q4]
                    have r4 : ((w4.setCell ⟨w2.heap.size, 4, none⟩ (.bool true)).setCell ⟨w2.heap.size, 3, none⟩ (.int .u64 x)).cell? ⟨w2.heap.size, 4, none⟩ = some (.bool true) := by simp [go_sem, q0, q1, q2, q3, q4]
                    have y1 : ((w4.setCell ⟨w2.heap.size, 4, none⟩ (.bool true)).setCell ⟨w2.heap.size, 3, none⟩ (.int .u64 x)).cell? ⟨wr.heap.size, 1, none⟩ = some (.int .i64 (i : Int)) := by first | exact z1 | (rw [World.cell?_setCell_other _ _ _ _ (Mm.addr_ne (.inl hne21))]; exact z1) | (rw [World.cell?_setCell_other _ _ _ _ (Mm.addr_ne (.inl hne21)), World.cell?_setCell_other _ _ _ _ (Mm.addr_ne (.inl hne21))]; exact z1)
                    have hs5 : w2.heap.size < ((w4.setCell ⟨w2.heap.size, 4, none⟩ (.bool true)).setCell ⟨w2.heap.size, 3, none⟩ (.int .u64 x)).heap.size := by first | exact hs4 | (simp only [World.size_setCell]; exact hs4)
                    clear q0 q1 q2 q3 q4 fq3 fq4 z0 z1 z2 z3 hs4
                    change Code.wp _ _ _ _ ((w4.setCell ⟨w2.heap.size, 4, none⟩ (.bool true)).setCell ⟨w2.heap.size, 3, none⟩ (.int .u64 x))
                    generalize ((w4.setCell ⟨w2.heap.size, 4, none⟩ (.bool true)).setCell ⟨w2.heap.size, 3, none⟩ (.int .u64 x)) = W5 at HM5 HO5 r0 r1 r2 r3 r4 y1 hs5 ⊢
                    have HR := Lib.hid (And.intro r0 (And.intro r1 (And.intro r2 (And.intro r3 (And.intro r4 (And.intro y1 hs5))))))
                    clear r0 r1 r2 r3 r4 y1 hs5
                    refine region_sc (by kernel_rfl) (by kernel_rfl) ?_
                    iterate 4 (first | go_big_quiet_skip | (go_big_quiet_want; go_big_quiet_op; first | go_big_quiet_on | (refine ⟨_, fun _ _ => rfl, ?_⟩; go_big_quiet_on)))
                    go_big_quiet_want
                    go_big_quiet_op
                    refine ⟨_, fun wq hq => (Mm.steps_is (HM5.out.below hq)).mono fun e w' ⟨he, hw⟩ => ⟨he, hw ▸ hq⟩, ?_⟩
                    go_big_quiet_on
                    iterate 5 (first | go_big_quiet_skip | (go_big_quiet_want; go_big_quiet_op; first | go_big_quiet_on | (refine ⟨_, fun _ _ => rfl, ?_⟩; go_big_quiet_on)))
                    go_big_quiet_want
                    go_big_quiet_op
                    refine ⟨_, fun wq hq => (Mm.last_is (HM5.out.below hq)).mono fun e w' ⟨he, hb⟩ => ⟨he, Below.step hq hb⟩, ?_⟩
                    go_big_quiet_on
                    go_big_quiet_want
                    refine ⟨.agg #[.int .i64 3, .int .i64 (i : Int), .int .u64 (s.ws i), .int .u64 x, .bool true], fun wq hq => ?_, ?_⟩
                    · have g : ∀ j, wq.cell? ⟨w2.heap.size, j, none⟩ = W5.cell? ⟨w2.heap.size, j, none⟩ := fun j => Below.cell (show Below W5.heap.size W5 wq from hq) (p := ⟨w2.heap.size, j, none⟩) HR.out.2.2.2.2.2.2
                      have g0 := (g 0).trans HR.out.1
                      have g1' := (g 1).trans HR.out.2.1
                      have g2 := (g 2).trans HR.out.2.2.1
                      have g3 := (g 3).trans HR.out.2.2.2.1
                      have g4 := (g 4).trans HR.out.2.2.2.2.1
                      unfold Oper.quietAt
                      simp [go_sem, g0, g1', g2, g3, g4, Oper.quietUpon]
                    simp only [Act.put, List.setIfInBounds_toArray, List.set_cons_zero, List.set_cons_succ]
                    go_big_quiet_on
                    iterate 2 (first | go_big_quiet_skip | (go_big_quiet_want; go_big_quiet_op; first | go_big_quiet_on | (refine ⟨_, fun _ _ => rfl, ?_⟩; go_big_quiet_on)))
                    refine wpQuiet_nil ?_
                    intro w6 hv
                    have hv' : Below W5.heap.size W5 w6 := hv
                    have y3 := (hv'.cell (p := ⟨w2.heap.size, 3, none⟩) HR.out.2.2.2.2.2.2).trans HR.out.2.2.2.1
                    have hs6 := Nat.lt_of_lt_of_le HR.out.2.2.2.2.2.2 hv'.size
                    have y1 := (hv'.cell (p := ⟨wr.heap.size, 1, none⟩) (by have := HR.out.2.2.2.2.2.2; show wr.heap.size < W5.heap.size; omega)).trans HR.out.2.2.2.2.2.1
                    have HV6 := Lib.hid hv'
                    clear hv hv'
                    have HR1 := Lib.hid (World.ownsRow.alloc (w := w6) (row_kept (HI.out.oth_row HO5.out).1 HV6.out) (Obj.cells #[.int .i64 (i : Int), .int .u64 x] 65))
                    have HRD := Lib.hid (reads_two w6 [.int .i64 (i : Int), .int .u64 x] 65 rfl)
                    have N1 := Lib.hid (show L.length + 1 ≤ maxLen from by have := HLL.out; unfold maxLen; omega)
                    have N2 := Lib.hid (show (L.length + 1) * 16 ≤ 140737488355328 from by have := HLL.out; omega)
                    have hb67 : Below w6.heap.size w6 (w6.alloc (.cells #[.int .i64 (i : Int), .int .u64 x] 65)) := by go_grown
                    have N3 := Lib.hid (show w.heap.size ≤ (w6.alloc (.cells #[.int .i64 (i : Int), .int .u64 x] 65)).heap.size from Nat.le_trans (Below.step (HI.out.oth_row HO5.out).2 HV6.out).size hb67.size)
                    have NV := Lib.hid (show ∀ u ∈ ([.int .i64 (i : Int), .int .u64 x] : List Value), u.oneCell' = true from by intro u hu; simp only [List.mem_cons, List.not_mem_nil, or_false] at hu; rcases hu with h | h <;> (subst h; rfl))
                    have HWA := Lib.hid (Below.step HV6.out hb67)
                    clear hb67
                    go_wp2_with (at_builtin; refine wpList_append_any _ rfl (.tmp 201) (.tmp 207) 52 rfl w.heap.size 65 i0 (.agg #[.int .i64 0, .int .u64 0]) 2 16 Tryd.underlying52 HPI.out HPZ0.out HPZ1.out HPZ2.out rfl (by decide) _ L.length (pc L) rfl HR1.out _ (some ⟨w6.heap.size, 0, none⟩) 1 1 [.int .i64 (i : Int), .int .u64 x] rfl HRD.out NV.out N1.out N2.out N3.out ?_; intro v7 w7 hown7 hgrow7 hblk7; obtain ⟨A7, c7, hv7⟩ := own_shape hown7; subst hv7; have HP := Lib.hid (And.intro hown7 (And.intro hgrow7 hblk7)); clear hown7 hgrow7 hblk7)
                    go_roundg (len1 + 1 - (k + 1))
                    case measure => exact HM.out
                    case rel => exact ⟨k + 1, M, B, c, (⟨upd s.ws i x, s.st + 1, 3, (i : Int), s.ws i, x, true⟩ : MS), L ++ [((i : Int), x)], A7, c7, rfl, HK.out.2.2, by omega, rfl, by rw [List.length_append]; rfl, rfl, by go_num, Lib.hid (Inv.put HI.out HO5.out HM5.out i x (fun j _ => rfl) rfl HWA.out HP.out.2.1 HP.out.1 HP.out.2.2)⟩


                · have HSO := Lib.hid hso
                  have hsb : (s.ws i == old) = false := by simpa using hso
                  clear hso
                  go_wp2_with fail
                  refine (Mm.swap_no HI3.out.m i HII.out old x (by omega) HSO.out).mono ?_
                  rintro e w4 ⟨rfl, hm4, hz4, hbb4, ho4⟩
                  have hne21 : w2.heap.size ≠ wr.heap.size := by omega
                  have hpw : w2.heap.size < (w2.alloc (.cells #[.int .i64 3, .int .i64 (i : Int), .int .u64 (s.ws i), .int .u64 (s.ws i), .bool true] 57)).heap.size := by simp
                  have hpo3 : wr.heap.size < (w2.alloc (.cells #[.int .i64 3, .int .i64 (i : Int), .int .u64 (s.ws i), .int .u64 (s.ws i), .bool true] 57)).heap.size := by simp only [World.size_alloc]; omega
                  have nM : wr.heap.size ≠ M := by have := HML.out; omega
                  have nB : wr.heap.size ≠ B := by have := HBL.out; omega
                  have mM : w2.heap.size ≠ M := by have := HML.out; omega
                  have mB : w2.heap.size ≠ B := by have := HBL.out; omega
                  have q0 := (Mm.Oth.cell ho4 (p := ⟨w2.heap.size, 0, none⟩) hpw mM mB).trans (show (w2.alloc (.cells #[.int .i64 3, .int .i64 (i : Int), .int .u64 (s.ws i), .int .u64 (s.ws i), .bool true] 57)).cell? ⟨w2.heap.size, 0, none⟩ = some (.int .i64 3) by simp [go_sem])
                  have q1 := (Mm.Oth.cell ho4 (p := ⟨w2.heap.size, 1, none⟩) hpw mM mB).trans (show (w2.alloc (.cells #[.int .i64 3, .int .i64 (i : Int), .int .u64 (s.ws i), .int .u64 (s.ws i), .bool true] 57)).cell? ⟨w2.heap.size, 1, none⟩ = some (.int .i64 (i : Int)) by simp [go_sem])
                  have q2 := (Mm.Oth.cell ho4 (p := ⟨w2.heap.size, 2, none⟩) hpw mM mB).trans (show (w2.alloc (.cells #[.int .i64 3, .int .i64 (i : Int), .int .u64 (s.ws i), .int .u64 (s.ws i), .bool true] 57)).cell? ⟨w2.heap.size, 2, none⟩ = some (.int .u64 (s.ws i)) by simp [go_sem])
                  have q3 := (Mm.Oth.cell ho4 (p := ⟨w2.heap.size, 3, none⟩) hpw mM mB).trans (show (w2.alloc (.cells #[.int .i64 3, .int .i64 (i : Int), .int .u64 (s.ws i), .int .u64 (s.ws i), .bool true] 57)).cell? ⟨w2.heap.size, 3, none⟩ = some (.int .u64 (s.ws i)) by simp [go_sem])
                  have q4 := (Mm.Oth.cell ho4 (p := ⟨w2.heap.size, 4, none⟩) hpw mM mB).trans (show (w2.alloc (.cells #[.int .i64 3, .int .i64 (i : Int), .int .u64 (s.ws i), .int .u64 (s.ws i), .bool true] 57)).cell? ⟨w2.heap.size, 4, none⟩ = some (.bool true) by simp [go_sem])
                  have fq3 := (Mm.Oth.frozen ho4 (p := ⟨w2.heap.size, 3, none⟩) hpw mM mB).trans (show (w2.alloc (.cells #[.int .i64 3, .int .i64 (i : Int), .int .u64 (s.ws i), .int .u64 (s.ws i), .bool true] 57)).frozen? ⟨w2.heap.size, 3, none⟩ = false by simp [go_sem])
                  have fq4 := (Mm.Oth.frozen ho4 (p := ⟨w2.heap.size, 4, none⟩) hpw mM mB).trans (show (w2.alloc (.cells #[.int .i64 3, .int .i64 (i : Int), .int .u64 (s.ws i), .int .u64 (s.ws i), .bool true] 57)).frozen? ⟨w2.heap.size, 4, none⟩ = false by simp [go_sem])
                  have z0 := (Mm.Oth.cell ho4 (p := ⟨wr.heap.size, 0, none⟩) hpo3 nM nB).trans ((World.cell?_alloc_lt w2 _ ⟨wr.heap.size, 0, none⟩ hpo).trans e0)
                  have z1 := (Mm.Oth.cell ho4 (p := ⟨wr.heap.size, 1, none⟩) hpo3 nM nB).trans ((World.cell?_alloc_lt w2 _ ⟨wr.heap.size, 1, none⟩ hpo).trans e1)
                  have z2 := (Mm.Oth.cell ho4 (p := ⟨wr.heap.size, 2, none⟩) hpo3 nM nB).trans ((World.cell?_alloc_lt w2 _ ⟨wr.heap.size, 2, none⟩ hpo).trans e2)
                  have z3 := (Mm.Oth.cell ho4 (p := ⟨wr.heap.size, 3, none⟩) hpo3 nM nB).trans ((World.cell?_alloc_lt w2 _ ⟨wr.heap.size, 3, none⟩ hpo).trans e3)
                  have HM4 := Lib.hid (show MAt M B n c (⟨upd s.ws i (s.ws i), s.st + 1, 3, (i : Int), s.ws i, (s.ws i), false⟩ : MS) w4 from hm4)
                  have HO4 := Lib.hid (show Oth M B wr w4 from (Mm.Oth.of HB3.out).trans ho4)
                  have hs4 : w2.heap.size < w4.heap.size := by rw [hz4]; exact hpw
                  clear e0 e1 e2 e3 hm4 hz4 hbb4 ho4 hpw hpo3
                  go_wp2_with fail
                  have HM5 := Lib.hid (show MAt M B n c (⟨upd s.ws i (s.ws i), s.st + 1, 3, (i : Int), s.ws i, (s.ws i), false⟩ : MS) (w4.setCell ⟨w2.heap.size, 4, none⟩ (.bool false)) from mat_set (HM4.out) w2.heap.size 4 (.bool false) mM.symm mB.symm)
                  have HO5 := Lib.hid (show Oth M B wr (w4.setCell ⟨w2.heap.size, 4, none⟩ (.bool false)) from Oth.new (HO4.out) w2.heap.size 4 (.bool false) (by omega))
                  have r0 : (w4.setCell ⟨w2.heap.size, 4, none⟩ (.bool false)).cell? ⟨w2.heap.size, 0, none⟩ = some (.int .i64 3) := by simp [go_sem, q0, q1, q2, q3, q4]
                  have r1 : (w4.setCell ⟨w2.heap.size, 4, none⟩ (.bool false)).cell? ⟨w2.heap.size, 1, none⟩ = some (.int .i64 (i : Int)) := by simp [go_sem, q0, q1, q2, q3, q4]
                  have r2 : (w4.setCell ⟨w2.heap.size, 4, none⟩ (.bool false)).cell? ⟨w2.heap.size, 2, none⟩ = some (.int .u64 (s.ws i)) := by simp [go_sem, q0, q1, q2, q3, q4]
                  have r3 : (w4.setCell ⟨w2.heap.size, 4, none⟩ (.bool false)).cell? ⟨w2.heap.size, 3, none⟩ = some (.int .u64 (s.ws i)) := by simp [go_sem, q0, q1, q2, q3, q4]
                  have r4 : (w4.setCell ⟨w2.heap.size, 4, none⟩ (.bool false)).cell? ⟨w2.heap.size, 4, none⟩ = some (.bool false) := by simp [go_sem, q0, q1, q2, q3, q4]
                  have y1 : (w4.setCell ⟨w2.heap.size, 4, none⟩ (.bool false)).cell? ⟨wr.heap.size, 1, none⟩ = some (.int .i64 (i : Int)) := by first | exact z1 | (rw [World.cell?_setCell_other _ _ _ _ (Mm.addr_ne (.inl hne21))]; exact z1) | (rw [World.cell?_setCell_other _ _ _ _ (Mm.addr_ne (.inl hne21)), World.cell?_setCell_other _ _ _ _ (Mm.addr_ne (.inl hne21))]; exact z1)
                  have hs5 : w2.heap.size < (w4.setCell ⟨w2.heap.size, 4, none⟩ (.bool false)).heap.size := by first | exact hs4 | (simp only [World.size_setCell]; exact hs4)
                  clear q0 q1 q2 q3 q4 fq3 fq4 z0 z1 z2 z3 hs4
                  change Code.wp _ _ _ _ (w4.setCell ⟨w2.heap.size, 4, none⟩ (.bool false))
                  generalize (w4.setCell ⟨w2.heap.size, 4, none⟩ (.bool false)) = W5 at HM5 HO5 r0 r1 r2 r3 r4 y1 hs5 ⊢
                  have HR := Lib.hid (And.intro r0 (And.intro r1 (And.intro r2 (And.intro r3 (And.intro r4 (And.intro y1 hs5))))))
                  clear r0 r1 r2 r3 r4 y1 hs5
                  refine region_sc (by kernel_rfl) (by kernel_rfl) ?_
                  iterate 4 (first | go_big_quiet_skip | (go_big_quiet_want; go_big_quiet_op; first | go_big_quiet_on | (refine ⟨_, fun _ _ => rfl, ?_⟩; go_big_quiet_on)))
                  go_big_quiet_want
                  go_big_quiet_op
                  refine ⟨_, fun wq hq => (Mm.steps_is (HM5.out.below hq)).mono fun e w' ⟨he, hw⟩ => ⟨he, hw ▸ hq⟩, ?_⟩
                  go_big_quiet_on
                  iterate 5 (first | go_big_quiet_skip | (go_big_quiet_want; go_big_quiet_op; first | go_big_quiet_on | (refine ⟨_, fun _ _ => rfl, ?_⟩; go_big_quiet_on)))
                  go_big_quiet_want
                  go_big_quiet_op
                  refine ⟨_, fun wq hq => (Mm.last_is (HM5.out.below hq)).mono fun e w' ⟨he, hb⟩ => ⟨he, Below.step hq hb⟩, ?_⟩
                  go_big_quiet_on
                  go_big_quiet_want
                  refine ⟨.agg #[.int .i64 3, .int .i64 (i : Int), .int .u64 (s.ws i), .int .u64 (s.ws i), .bool false], fun wq hq => ?_, ?_⟩
                  · have g : ∀ j, wq.cell? ⟨w2.heap.size, j, none⟩ = W5.cell? ⟨w2.heap.size, j, none⟩ := fun j => Below.cell (show Below W5.heap.size W5 wq from hq) (p := ⟨w2.heap.size, j, none⟩) HR.out.2.2.2.2.2.2
                    have g0 := (g 0).trans HR.out.1
                    have g1' := (g 1).trans HR.out.2.1
                    have g2 := (g 2).trans HR.out.2.2.1
                    have g3 := (g 3).trans HR.out.2.2.2.1
                    have g4 := (g 4).trans HR.out.2.2.2.2.1
                    unfold Oper.quietAt
                    simp [go_sem, g0, g1', g2, g3, g4, Oper.quietUpon]
                  simp only [Act.put, List.setIfInBounds_toArray, List.set_cons_zero, List.set_cons_succ]
                  go_big_quiet_on
                  iterate 2 (first | go_big_quiet_skip | (go_big_quiet_want; go_big_quiet_op; first | go_big_quiet_on | (refine ⟨_, fun _ _ => rfl, ?_⟩; go_big_quiet_on)))
                  refine wpQuiet_nil ?_
                  intro w6 hv
                  have hv' : Below W5.heap.size W5 w6 := hv
                  have y3 := (hv'.cell (p := ⟨w2.heap.size, 3, none⟩) HR.out.2.2.2.2.2.2).trans HR.out.2.2.2.1
                  have hs6 := Nat.lt_of_lt_of_le HR.out.2.2.2.2.2.2 hv'.size
                  have y1 := (hv'.cell (p := ⟨wr.heap.size, 1, none⟩) (by have := HR.out.2.2.2.2.2.2; show wr.heap.size < W5.heap.size; omega)).trans HR.out.2.2.2.2.2.1
                  have HV6 := Lib.hid hv'
                  clear hv hv'
                  go_wp2_with fail
                  go_roundg (len1 + 1 - (k + 1))
                  case measure => exact HM.out
                  case rel => exact ⟨k + 1, M, B, c, (⟨upd s.ws i (s.ws i), s.st + 1, 3, (i : Int), s.ws i, (s.ws i), false⟩ : MS), L, A, cp, rfl, HK.out.2.2, by omega, rfl, rfl, rfl, by go_num, Lib.hid ((Inv.same HI.out HO5.out HM5.out (fun j _ => upd_same s.ws i j) rfl).below HV6.out)⟩


            by_cases e4k : kd = 4
            · subst e4k
              as_aux_lemma =>
                go_wp2_with fail
                refine (Mm.twin_is HI3.out.m HN.out).mono ?_
                rintro e w4 ⟨M2, B2, c2, rfl, hm4, hM2, hB2, hb4⟩
                have HM4 := Lib.hid hm4
                have HO4 := Lib.hid (HI3.out.m.below hb4)
                have HB4 := Lib.hid (Below.step HB3.out hb4)
                have HMB2 := Lib.hid (show wr.heap.size ≤ M2 ∧ wr.heap.size ≤ B2 from ⟨Nat.le_trans HB3.out.size hM2, Nat.le_trans HB3.out.size hB2⟩)
                clear hm4 hM2 hB2 hb4
                by_cases hn0 : 0 < n
                · have hst := Mm.store_in HM4.out 0 hn0 99 (by decide) (by omega)
                  have HST := Lib.hid hst
                  clear hst
                  go_wp2_with fail
                  refine HST.out.mono ?_
                  rintro e w5 ⟨rfl, hm5, hz5, hbb5, ho5⟩
                  have HB5 := Lib.hid (show Below wr.heap.size wr w5 from Mm.Oth.below ho5 (by have := HMB2.out.1; omega) (by have := HMB2.out.2; omega) HB4.out.size HB4.out)
                  have HM5 := Lib.hid (show MAt M B n c s w5 from HO4.out.oth ho5 (by have := HMB2.out.1; have := HML.out; omega) (by have := HMB2.out.2; have := HML.out; omega) (by have := HMB2.out.1; have := HBL.out; omega) (by have := HMB2.out.2; have := HBL.out; omega))
                  clear hm5 hz5 hbb5 ho5
                  go_wp2_with fail
                  refine (Mm.twin_is HM5.out HN.out).mono ?_
                  rintro e w6 ⟨M3, B3, c3, rfl, hm6, hM3, hB3, hb6⟩
                  have HB6 := Lib.hid (Below.step HB5.out hb6)
                  have HI6 := Lib.hid (Inv.twin HI.out HB6.out hm6 (Nat.le_trans HB5.out.size hM3) (Nat.le_trans HB5.out.size hB3))
                  clear hm6 hM3 hB3 hb6
                  go_wp2_with fail
                  go_roundg (len1 + 1 - (k + 1))
                  case measure => exact HM.out
                  case rel => exact ⟨k + 1, M3, B3, c3, s, L, A, cp, rfl, HK.out.2.2, by omega, rfl, rfl, rfl, by go_num, Lib.hid (HI6.out.more (Nat.le_succ k))⟩

                · have hst := Mm.store_out HM4.out 0 (.inr (by omega)) 99
                  have HST := Lib.hid hst
                  clear hst
                  go_wp2_with fail
                  refine HST.out.mono ?_
                  rintro e w5 ⟨v5, rfl, hat5, hb5⟩
                  have HB5 := Lib.hid (Below.step HB4.out hb5)
                  have HM5 := Lib.hid (show MAt M B n c s w5 from HO4.out.below hb5)
                  clear hat5 hb5
                  go_wp2_with fail
                  refine (Mm.twin_is HM5.out HN.out).mono ?_
                  rintro e w6 ⟨M3, B3, c3, rfl, hm6, hM3, hB3, hb6⟩
                  have HB6 := Lib.hid (Below.step HB5.out hb6)
                  have HI6 := Lib.hid (Inv.twin HI.out HB6.out hm6 (Nat.le_trans HB5.out.size hM3) (Nat.le_trans HB5.out.size hB3))
                  clear hm6 hM3 hB3 hb6
                  go_wp2_with fail
                  go_roundg (len1 + 1 - (k + 1))
                  case measure => exact HM.out
                  case rel => exact ⟨k + 1, M3, B3, c3, s, L, A, cp, rfl, HK.out.2.2, by omega, rfl, rfl, rfl, by go_num, Lib.hid (HI6.out.more (Nat.le_succ k))⟩


            have f1 : (kd == 1) = false := by simpa using e1k
            have f2 : (kd == 2) = false := by simpa using e2k
            have f3 : (kd == 3) = false := by simpa using e3k
            have f4 : (kd == 4) = false := by simpa using e4k
            clear e1k e2k e3k e4k
            go_wp2_with fail
            go_roundg (len1 + 1 - (k + 1))
            case measure => exact HM.out
            case rel => exact ⟨k + 1, M, B, c, s, L, A, cp, rfl, HK.out.2.2, by omega, rfl, rfl, rfl, by go_num, Lib.hid (HI3.out.more (Nat.le_succ k))⟩
          · by_cases hneg : at_ < 0
            · have HOUT := Lib.hid (show at_ < 0 ∨ (n : Int) ≤ at_ from .inl hneg)
              have hge0 : decide (0 ≤ at_) = false := decide_eq_false (by omega)
              clear hin
              obtain ⟨V, hV⟩ : ∃ V, rAt L at_ = V := ⟨_, rfl⟩
              have HV := Lib.hid hV
              clear hV
              have HIo := Lib.hid (HI.out.below (show Below wr.heap.size wr (wr.alloc (.cells #[.int .i64 kd, .int .i64 at_, .int .u64 old, .int .u64 x] 54)) from by go_grown))
              have HOB := Lib.hid (show Below wr.heap.size wr (wr.alloc (.cells #[.int .i64 kd, .int .i64 at_, .int .u64 old, .int .u64 x] 54)) from by go_grown)
              have HC0 := Lib.hid (show (wr.alloc (.cells #[.int .i64 kd, .int .i64 at_, .int .u64 old, .int .u64 x] 54)).cell? ⟨wr.heap.size, 0, none⟩ = some (.int .i64 kd) ∧ (wr.alloc (.cells #[.int .i64 kd, .int .i64 at_, .int .u64 old, .int .u64 x] 54)).cell? ⟨wr.heap.size, 1, none⟩ = some (.int .i64 at_) ∧ (wr.alloc (.cells #[.int .i64 kd, .int .i64 at_, .int .u64 old, .int .u64 x] 54)).cell? ⟨wr.heap.size, 2, none⟩ = some (.int .u64 old) ∧ (wr.alloc (.cells #[.int .i64 kd, .int .i64 at_, .int .u64 old, .int .u64 x] 54)).cell? ⟨wr.heap.size, 3, none⟩ = some (.int .u64 x) from ⟨by simp [go_sem], by simp [go_sem], by simp [go_sem], by simp [go_sem]⟩)
              have HRA := Lib.hid (show Calls Tryd.prog 22 #[.slice A L.length cp, .int .i64 at_] (wr.alloc (.cells #[.int .i64 kd, .int .i64 at_, .int .u64 old, .int .u64 x] 54)) fun e w' => e = .returned (.int .u64 V) ∧ Below (wr.alloc (.cells #[.int .i64 kd, .int .i64 at_, .int .u64 old, .int .u64 x] 54)).heap.size (wr.alloc (.cells #[.int .i64 kd, .int .i64 at_, .int .u64 old, .int .u64 x] 54)) w' from by rw [← HV.out]; exact Mm.rat_is L A cp at_ _ (PSl.of HIo.out.r) HLL.out)
              go_wp2_with fail
              refine HRA.out.mono ?_
              rintro e w2 ⟨rfl, hb2⟩
              have hpo : wr.heap.size < w2.heap.size := Nat.lt_of_lt_of_le (by simp) hb2.size
              have e0 := (hb2.cell (p := ⟨wr.heap.size, 0, none⟩) (by simp)).trans HC0.out.1
              have e1 := (hb2.cell (p := ⟨wr.heap.size, 1, none⟩) (by simp)).trans HC0.out.2.1
              have e2 := (hb2.cell (p := ⟨wr.heap.size, 2, none⟩) (by simp)).trans HC0.out.2.2.1
              have e3 := (hb2.cell (p := ⟨wr.heap.size, 3, none⟩) (by simp)).trans HC0.out.2.2.2
              have HI2 := Lib.hid (HIo.out.below hb2)
              have HB2 := Lib.hid (Below.step HOB.out hb2)
              clear hb2 HIo HOB HC0 HRA d0' d1' d2' d3'
              have HI3 := Lib.hid (HI2.out.below (show Below w2.heap.size w2 (w2.alloc (.cells #[.int .i64 kd, .int .i64 at_, .int .u64 V, .int .u64 V, .bool true] 57)) from by go_grown))
              have HB3 := Lib.hid (Below.step HB2.out (show Below w2.heap.size w2 (w2.alloc (.cells #[.int .i64 kd, .int .i64 at_, .int .u64 V, .int .u64 V, .bool true] 57)) from by go_grown))
              by_cases e1k : kd = 1
              · subst e1k
                as_aux_lemma =>
                  go_wp2_with fail
                  refine (Mm.load_out HI3.out.m at_ HOUT.out).mono ?_
                  rintro e w4 ⟨v, rfl, hat, hb4⟩
                  obtain ⟨pb, hv, hp1, hp2, hp3, hp4⟩ := hat
                  subst hv
                  have hpw : w2.heap.size < (w2.alloc (.cells #[.int .i64 1, .int .i64 at_, .int .u64 V, .int .u64 V, .bool true] 57)).heap.size := by simp
                  have hpo3 : wr.heap.size < (w2.alloc (.cells #[.int .i64 1, .int .i64 at_, .int .u64 V, .int .u64 V, .bool true] 57)).heap.size := by simp only [World.size_alloc]; omega
                  have q0 := (hb4.cell (p := ⟨w2.heap.size, 0, none⟩) hpw).trans (show (w2.alloc (.cells #[.int .i64 1, .int .i64 at_, .int .u64 V, .int .u64 V, .bool true] 57)).cell? ⟨w2.heap.size, 0, none⟩ = some (.int .i64 1) by simp [go_sem])
                  have q1 := (hb4.cell (p := ⟨w2.heap.size, 1, none⟩) hpw).trans (show (w2.alloc (.cells #[.int .i64 1, .int .i64 at_, .int .u64 V, .int .u64 V, .bool true] 57)).cell? ⟨w2.heap.size, 1, none⟩ = some (.int .i64 at_) by simp [go_sem])
                  have q2 := (hb4.cell (p := ⟨w2.heap.size, 2, none⟩) hpw).trans (show (w2.alloc (.cells #[.int .i64 1, .int .i64 at_, .int .u64 V, .int .u64 V, .bool true] 57)).cell? ⟨w2.heap.size, 2, none⟩ = some (.int .u64 V) by simp [go_sem])
                  have q3 := (hb4.cell (p := ⟨w2.heap.size, 3, none⟩) hpw).trans (show (w2.alloc (.cells #[.int .i64 1, .int .i64 at_, .int .u64 V, .int .u64 V, .bool true] 57)).cell? ⟨w2.heap.size, 3, none⟩ = some (.int .u64 V) by simp [go_sem])
                  have q4 := (hb4.cell (p := ⟨w2.heap.size, 4, none⟩) hpw).trans (show (w2.alloc (.cells #[.int .i64 1, .int .i64 at_, .int .u64 V, .int .u64 V, .bool true] 57)).cell? ⟨w2.heap.size, 4, none⟩ = some (.bool true) by simp [go_sem])
                  have fq3 := (hb4.frozen (p := ⟨w2.heap.size, 3, none⟩) hpw).trans (show (w2.alloc (.cells #[.int .i64 1, .int .i64 at_, .int .u64 V, .int .u64 V, .bool true] 57)).frozen? ⟨w2.heap.size, 3, none⟩ = false by simp [go_sem])
                  have fq4 := (hb4.frozen (p := ⟨w2.heap.size, 4, none⟩) hpw).trans (show (w2.alloc (.cells #[.int .i64 1, .int .i64 at_, .int .u64 V, .int .u64 V, .bool true] 57)).frozen? ⟨w2.heap.size, 4, none⟩ = false by simp [go_sem])
                  have z0 := (hb4.cell (p := ⟨wr.heap.size, 0, none⟩) hpo3).trans ((World.cell?_alloc_lt w2 _ ⟨wr.heap.size, 0, none⟩ hpo).trans e0)
                  have z1 := (hb4.cell (p := ⟨wr.heap.size, 1, none⟩) hpo3).trans ((World.cell?_alloc_lt w2 _ ⟨wr.heap.size, 1, none⟩ hpo).trans e1)
                  have z2 := (hb4.cell (p := ⟨wr.heap.size, 2, none⟩) hpo3).trans ((World.cell?_alloc_lt w2 _ ⟨wr.heap.size, 2, none⟩ hpo).trans e2)
                  have z3 := (hb4.cell (p := ⟨wr.heap.size, 3, none⟩) hpo3).trans ((World.cell?_alloc_lt w2 _ ⟨wr.heap.size, 3, none⟩ hpo).trans e3)
                  have hne21 : w2.heap.size ≠ wr.heap.size := by omega
                  have hne2p : w2.heap.size ≠ pb := by omega
                  have HB4 := Lib.hid (Below.step HB3.out hb4)
                  have hs4 := hp2
                  clear e0 e1 e2 e3 hb4 hpw hpo3
                  go_upto_region 36 with fail
                  have HB5 := Lib.hid (show Below wr.heap.size wr w4 from HB4.out)
                  have HC5 := Lib.hid (show Ch w4 5 [.pl at_] (.iface 88 (.pointer (some ⟨pb, 0, none⟩))) from ⟨pb, _, rfl, by first | exact hp2 | (simp only [World.size_setCell]; exact hp2), by first | exact hp3 | (rw [World.cell?_setCell_other _ _ _ _ (Mm.addr_ne (.inl hne2p))]; exact hp3), by first | exact hp4 | (rw [World.cell?_setCell_other _ _ _ _ (Mm.addr_ne (.inl hne2p))]; exact hp4), rfl⟩)
                  have y1 : w4.cell? ⟨wr.heap.size, 1, none⟩ = some (.int .i64 at_) := by first | exact z1 | (rw [World.cell?_setCell_other _ _ _ _ (Mm.addr_ne (.inl hne21))]; exact z1) | (rw [World.cell?_setCell_other _ _ _ _ (Mm.addr_ne (.inl hne21)), World.cell?_setCell_other _ _ _ _ (Mm.addr_ne (.inl hne21))]; exact z1)
                  clear q0 q1 q2 q3 q4 fq3 fq4 z0 z1 z2 z3 hp1 hp2 hp3 hp4 hs4 hne2p
                  generalize w4 = W5 at HB5 HC5 y1 ⊢
                  have HY1 := Lib.hid y1
                  have HM5 := Lib.hid (show MAt M B n c s W5 from HI.out.m.below HB5.out)
                  have HG5 := Lib.hid (((Below.step HI.out.b HB5.out).cell (p := ⟨0, 0, none⟩) hl0).trans HG0.out)
                  have hl5 := Nat.lt_of_lt_of_le hl0 (Below.step HI.out.b HB5.out).size
                  clear y1
                  go_wp2_with fail
                  refine (place_some at_ _ _ _ _ HC5.out HG5.out hl5 rfl).mono ?_
                  rintro e w6 ⟨rfl, hb6⟩
                  have HB6 := Lib.hid (Below.step HB5.out hb6)
                  have HC6 := Lib.hid (HC5.out.below hb6)
                  have HY2 := Lib.hid ((hb6.cell (p := ⟨wr.heap.size, 1, none⟩) (cell_lt HY1.out)).trans HY1.out)
                  clear hb6
                  go_wp2_with fail
                  refine (num_ch [.pl at_] 5 (by decide) (by decide) _ _ HC6.out).mono ?_
                  rintro e w7 ⟨rfl, hb7⟩
                  have HB7 := Lib.hid (Below.step HB6.out hb7)
                  have y2 := (hb7.cell (p := ⟨wr.heap.size, 1, none⟩) (cell_lt HY2.out)).trans HY2.out
                  have HM7 := Lib.hid (show MAt M B n c s w7 from HI.out.m.below HB7.out)
                  clear hb7
                  go_wp2_with fail
                  refine (Mm.steps_is HM7.out).mono ?_
                  rintro e w8 ⟨rfl, rfl⟩
                  go_wp2_with fail
                  go_roundg (len1 + 1 - (k + 1))
                  case measure => exact HM.out
                  case rel => exact ⟨k + 1, M, B, c, s, L, A, cp, rfl, HK.out.2.2, by omega, rfl, rfl, rfl, by go_num, Lib.hid ((HI.out.below HB7.out).more (Nat.le_succ k))⟩

              by_cases e2k : kd = 2
              · subst e2k
                as_aux_lemma =>
                  go_wp2_with fail
                  refine (Mm.store_out HI3.out.m at_ HOUT.out x).mono ?_
                  rintro e w4 ⟨v, rfl, hat, hb4⟩
                  obtain ⟨pb, hv, hp1, hp2, hp3, hp4⟩ := hat
                  subst hv
                  have hpw : w2.heap.size < (w2.alloc (.cells #[.int .i64 2, .int .i64 at_, .int .u64 V, .int .u64 V, .bool true] 57)).heap.size := by simp
                  have hpo3 : wr.heap.size < (w2.alloc (.cells #[.int .i64 2, .int .i64 at_, .int .u64 V, .int .u64 V, .bool true] 57)).heap.size := by simp only [World.size_alloc]; omega
                  have q0 := (hb4.cell (p := ⟨w2.heap.size, 0, none⟩) hpw).trans (show (w2.alloc (.cells #[.int .i64 2, .int .i64 at_, .int .u64 V, .int .u64 V, .bool true] 57)).cell? ⟨w2.heap.size, 0, none⟩ = some (.int .i64 2) by simp [go_sem])
                  have q1 := (hb4.cell (p := ⟨w2.heap.size, 1, none⟩) hpw).trans (show (w2.alloc (.cells #[.int .i64 2, .int .i64 at_, .int .u64 V, .int .u64 V, .bool true] 57)).cell? ⟨w2.heap.size, 1, none⟩ = some (.int .i64 at_) by simp [go_sem])
                  have q2 := (hb4.cell (p := ⟨w2.heap.size, 2, none⟩) hpw).trans (show (w2.alloc (.cells #[.int .i64 2, .int .i64 at_, .int .u64 V, .int .u64 V, .bool true] 57)).cell? ⟨w2.heap.size, 2, none⟩ = some (.int .u64 V) by simp [go_sem])
                  have q3 := (hb4.cell (p := ⟨w2.heap.size, 3, none⟩) hpw).trans (show (w2.alloc (.cells #[.int .i64 2, .int .i64 at_, .int .u64 V, .int .u64 V, .bool true] 57)).cell? ⟨w2.heap.size, 3, none⟩ = some (.int .u64 V) by simp [go_sem])
                  have q4 := (hb4.cell (p := ⟨w2.heap.size, 4, none⟩) hpw).trans (show (w2.alloc (.cells #[.int .i64 2, .int .i64 at_, .int .u64 V, .int .u64 V, .bool true] 57)).cell? ⟨w2.heap.size, 4, none⟩ = some (.bool true) by simp [go_sem])
                  have fq3 := (hb4.frozen (p := ⟨w2.heap.size, 3, none⟩) hpw).trans (show (w2.alloc (.cells #[.int .i64 2, .int .i64 at_, .int .u64 V, .int .u64 V, .bool true] 57)).frozen? ⟨w2.heap.size, 3, none⟩ = false by simp [go_sem])
                  have fq4 := (hb4.frozen (p := ⟨w2.heap.size, 4, none⟩) hpw).trans (show (w2.alloc (.cells #[.int .i64 2, .int .i64 at_, .int .u64 V, .int .u64 V, .bool true] 57)).frozen? ⟨w2.heap.size, 4, none⟩ = false by simp [go_sem])
                  have z0 := (hb4.cell (p := ⟨wr.heap.size, 0, none⟩) hpo3).trans ((World.cell?_alloc_lt w2 _ ⟨wr.heap.size, 0, none⟩ hpo).trans e0)
                  have z1 := (hb4.cell (p := ⟨wr.heap.size, 1, none⟩) hpo3).trans ((World.cell?_alloc_lt w2 _ ⟨wr.heap.size, 1, none⟩ hpo).trans e1)
                  have z2 := (hb4.cell (p := ⟨wr.heap.size, 2, none⟩) hpo3).trans ((World.cell?_alloc_lt w2 _ ⟨wr.heap.size, 2, none⟩ hpo).trans e2)
                  have z3 := (hb4.cell (p := ⟨wr.heap.size, 3, none⟩) hpo3).trans ((World.cell?_alloc_lt w2 _ ⟨wr.heap.size, 3, none⟩ hpo).trans e3)
                  have hne21 : w2.heap.size ≠ wr.heap.size := by omega
                  have hne2p : w2.heap.size ≠ pb := by omega
                  have HB4 := Lib.hid (Below.step HB3.out hb4)
                  have hs4 := hp2
                  clear e0 e1 e2 e3 hb4 hpw hpo3
                  go_upto_region 36 with fail
                  have HB5 := Lib.hid (show Below wr.heap.size wr (w4.setCell ⟨w2.heap.size, 3, none⟩ (.int .u64 x)) from (HB4.out).setCell (show wr.heap.size ≤ w2.heap.size by omega) _)
                  have HC5 := Lib.hid (show Ch (w4.setCell ⟨w2.heap.size, 3, none⟩ (.int .u64 x)) 5 [.pl at_] (.iface 88 (.pointer (some ⟨pb, 0, none⟩))) from ⟨pb, _, rfl, by first | exact hp2 | (simp only [World.size_setCell]; exact hp2), by first | exact hp3 | (rw [World.cell?_setCell_other _ _ _ _ (Mm.addr_ne (.inl hne2p))]; exact hp3), by first | exact hp4 | (rw [World.cell?_setCell_other _ _ _ _ (Mm.addr_ne (.inl hne2p))]; exact hp4), rfl⟩)
                  have y1 : (w4.setCell ⟨w2.heap.size, 3, none⟩ (.int .u64 x)).cell? ⟨wr.heap.size, 1, none⟩ = some (.int .i64 at_) := by first | exact z1 | (rw [World.cell?_setCell_other _ _ _ _ (Mm.addr_ne (.inl hne21))]; exact z1) | (rw [World.cell?_setCell_other _ _ _ _ (Mm.addr_ne (.inl hne21)), World.cell?_setCell_other _ _ _ _ (Mm.addr_ne (.inl hne21))]; exact z1)
                  clear q0 q1 q2 q3 q4 fq3 fq4 z0 z1 z2 z3 hp1 hp2 hp3 hp4 hs4 hne2p
                  change Code.wp _ _ _ _ (w4.setCell ⟨w2.heap.size, 3, none⟩ (.int .u64 x))
                  generalize (w4.setCell ⟨w2.heap.size, 3, none⟩ (.int .u64 x)) = W5 at HB5 HC5 y1 ⊢
                  have HY1 := Lib.hid y1
                  have HM5 := Lib.hid (show MAt M B n c s W5 from HI.out.m.below HB5.out)
                  have HG5 := Lib.hid (((Below.step HI.out.b HB5.out).cell (p := ⟨0, 0, none⟩) hl0).trans HG0.out)
                  have hl5 := Nat.lt_of_lt_of_le hl0 (Below.step HI.out.b HB5.out).size
                  clear y1
                  go_wp2_with fail
                  refine (place_some at_ _ _ _ _ HC5.out HG5.out hl5 rfl).mono ?_
                  rintro e w6 ⟨rfl, hb6⟩
                  have HB6 := Lib.hid (Below.step HB5.out hb6)
                  have HC6 := Lib.hid (HC5.out.below hb6)
                  have HY2 := Lib.hid ((hb6.cell (p := ⟨wr.heap.size, 1, none⟩) (cell_lt HY1.out)).trans HY1.out)
                  clear hb6
                  go_wp2_with fail
                  refine (num_ch [.pl at_] 5 (by decide) (by decide) _ _ HC6.out).mono ?_
                  rintro e w7 ⟨rfl, hb7⟩
                  have HB7 := Lib.hid (Below.step HB6.out hb7)
                  have y2 := (hb7.cell (p := ⟨wr.heap.size, 1, none⟩) (cell_lt HY2.out)).trans HY2.out
                  have HM7 := Lib.hid (show MAt M B n c s w7 from HI.out.m.below HB7.out)
                  clear hb7
                  go_wp2_with fail
                  refine (Mm.steps_is HM7.out).mono ?_
                  rintro e w8 ⟨rfl, rfl⟩
                  go_wp2_with fail
                  go_roundg (len1 + 1 - (k + 1))
                  case measure => exact HM.out
                  case rel => exact ⟨k + 1, M, B, c, s, L, A, cp, rfl, HK.out.2.2, by omega, rfl, rfl, rfl, by go_num, Lib.hid ((HI.out.below HB7.out).more (Nat.le_succ k))⟩

              by_cases e3k : kd = 3
              · subst e3k
                as_aux_lemma =>
                  go_wp2_with fail
                  refine (Mm.swap_out HI3.out.m at_ HOUT.out old x).mono ?_
                  rintro e w4 ⟨v, rfl, hat, hb4⟩
                  obtain ⟨pb, hv, hp1, hp2, hp3, hp4⟩ := hat
                  subst hv
                  have hpw : w2.heap.size < (w2.alloc (.cells #[.int .i64 3, .int .i64 at_, .int .u64 V, .int .u64 V, .bool true] 57)).heap.size := by simp
                  have hpo3 : wr.heap.size < (w2.alloc (.cells #[.int .i64 3, .int .i64 at_, .int .u64 V, .int .u64 V, .bool true] 57)).heap.size := by simp only [World.size_alloc]; omega
                  have q0 := (hb4.cell (p := ⟨w2.heap.size, 0, none⟩) hpw).trans (show (w2.alloc (.cells #[.int .i64 3, .int .i64 at_, .int .u64 V, .int .u64 V, .bool true] 57)).cell? ⟨w2.heap.size, 0, none⟩ = some (.int .i64 3) by simp [go_sem])
                  have q1 := (hb4.cell (p := ⟨w2.heap.size, 1, none⟩) hpw).trans (show (w2.alloc (.cells #[.int .i64 3, .int .i64 at_, .int .u64 V, .int .u64 V, .bool true] 57)).cell? ⟨w2.heap.size, 1, none⟩ = some (.int .i64 at_) by simp [go_sem])
                  have q2 := (hb4.cell (p := ⟨w2.heap.size, 2, none⟩) hpw).trans (show (w2.alloc (.cells #[.int .i64 3, .int .i64 at_, .int .u64 V, .int .u64 V, .bool true] 57)).cell? ⟨w2.heap.size, 2, none⟩ = some (.int .u64 V) by simp [go_sem])
                  have q3 := (hb4.cell (p := ⟨w2.heap.size, 3, none⟩) hpw).trans (show (w2.alloc (.cells #[.int .i64 3, .int .i64 at_, .int .u64 V, .int .u64 V, .bool true] 57)).cell? ⟨w2.heap.size, 3, none⟩ = some (.int .u64 V) by simp [go_sem])
                  have q4 := (hb4.cell (p := ⟨w2.heap.size, 4, none⟩) hpw).trans (show (w2.alloc (.cells #[.int .i64 3, .int .i64 at_, .int .u64 V, .int .u64 V, .bool true] 57)).cell? ⟨w2.heap.size, 4, none⟩ = some (.bool true) by simp [go_sem])
                  have fq3 := (hb4.frozen (p := ⟨w2.heap.size, 3, none⟩) hpw).trans (show (w2.alloc (.cells #[.int .i64 3, .int .i64 at_, .int .u64 V, .int .u64 V, .bool true] 57)).frozen? ⟨w2.heap.size, 3, none⟩ = false by simp [go_sem])
                  have fq4 := (hb4.frozen (p := ⟨w2.heap.size, 4, none⟩) hpw).trans (show (w2.alloc (.cells #[.int .i64 3, .int .i64 at_, .int .u64 V, .int .u64 V, .bool true] 57)).frozen? ⟨w2.heap.size, 4, none⟩ = false by simp [go_sem])
                  have z0 := (hb4.cell (p := ⟨wr.heap.size, 0, none⟩) hpo3).trans ((World.cell?_alloc_lt w2 _ ⟨wr.heap.size, 0, none⟩ hpo).trans e0)
                  have z1 := (hb4.cell (p := ⟨wr.heap.size, 1, none⟩) hpo3).trans ((World.cell?_alloc_lt w2 _ ⟨wr.heap.size, 1, none⟩ hpo).trans e1)
                  have z2 := (hb4.cell (p := ⟨wr.heap.size, 2, none⟩) hpo3).trans ((World.cell?_alloc_lt w2 _ ⟨wr.heap.size, 2, none⟩ hpo).trans e2)
                  have z3 := (hb4.cell (p := ⟨wr.heap.size, 3, none⟩) hpo3).trans ((World.cell?_alloc_lt w2 _ ⟨wr.heap.size, 3, none⟩ hpo).trans e3)
                  have hne21 : w2.heap.size ≠ wr.heap.size := by omega
                  have hne2p : w2.heap.size ≠ pb := by omega
                  have HB4 := Lib.hid (Below.step HB3.out hb4)
                  have hs4 := hp2
                  clear e0 e1 e2 e3 hb4 hpw hpo3
                  go_upto_region 36 with fail
                  have HB5 := Lib.hid (show Below wr.heap.size wr (w4.setCell ⟨w2.heap.size, 4, none⟩ (.bool false)) from (HB4.out).setCell (show wr.heap.size ≤ w2.heap.size by omega) _)
                  have HC5 := Lib.hid (show Ch (w4.setCell ⟨w2.heap.size, 4, none⟩ (.bool false)) 5 [.pl at_] (.iface 88 (.pointer (some ⟨pb, 0, none⟩))) from ⟨pb, _, rfl, by first | exact hp2 | (simp only [World.size_setCell]; exact hp2), by first | exact hp3 | (rw [World.cell?_setCell_other _ _ _ _ (Mm.addr_ne (.inl hne2p))]; exact hp3), by first | exact hp4 | (rw [World.cell?_setCell_other _ _ _ _ (Mm.addr_ne (.inl hne2p))]; exact hp4), rfl⟩)
                  have y1 : (w4.setCell ⟨w2.heap.size, 4, none⟩ (.bool false)).cell? ⟨wr.heap.size, 1, none⟩ = some (.int .i64 at_) := by first | exact z1 | (rw [World.cell?_setCell_other _ _ _ _ (Mm.addr_ne (.inl hne21))]; exact z1) | (rw [World.cell?_setCell_other _ _ _ _ (Mm.addr_ne (.inl hne21)), World.cell?_setCell_other _ _ _ _ (Mm.addr_ne (.inl hne21))]; exact z1)
                  clear q0 q1 q2 q3 q4 fq3 fq4 z0 z1 z2 z3 hp1 hp2 hp3 hp4 hs4 hne2p
                  change Code.wp _ _ _ _ (w4.setCell ⟨w2.heap.size, 4, none⟩ (.bool false))
                  generalize (w4.setCell ⟨w2.heap.size, 4, none⟩ (.bool false)) = W5 at HB5 HC5 y1 ⊢
                  have HY1 := Lib.hid y1
                  have HM5 := Lib.hid (show MAt M B n c s W5 from HI.out.m.below HB5.out)
                  have HG5 := Lib.hid (((Below.step HI.out.b HB5.out).cell (p := ⟨0, 0, none⟩) hl0).trans HG0.out)
                  have hl5 := Nat.lt_of_lt_of_le hl0 (Below.step HI.out.b HB5.out).size
                  clear y1
                  go_wp2_with fail
                  refine (place_some at_ _ _ _ _ HC5.out HG5.out hl5 rfl).mono ?_
                  rintro e w6 ⟨rfl, hb6⟩
                  have HB6 := Lib.hid (Below.step HB5.out hb6)
                  have HC6 := Lib.hid (HC5.out.below hb6)
                  have HY2 := Lib.hid ((hb6.cell (p := ⟨wr.heap.size, 1, none⟩) (cell_lt HY1.out)).trans HY1.out)
                  clear hb6
                  go_wp2_with fail
                  refine (num_ch [.pl at_] 5 (by decide) (by decide) _ _ HC6.out).mono ?_
                  rintro e w7 ⟨rfl, hb7⟩
                  have HB7 := Lib.hid (Below.step HB6.out hb7)
                  have y2 := (hb7.cell (p := ⟨wr.heap.size, 1, none⟩) (cell_lt HY2.out)).trans HY2.out
                  have HM7 := Lib.hid (show MAt M B n c s w7 from HI.out.m.below HB7.out)
                  clear hb7
                  go_wp2_with fail
                  refine (Mm.steps_is HM7.out).mono ?_
                  rintro e w8 ⟨rfl, rfl⟩
                  go_wp2_with fail
                  go_roundg (len1 + 1 - (k + 1))
                  case measure => exact HM.out
                  case rel => exact ⟨k + 1, M, B, c, s, L, A, cp, rfl, HK.out.2.2, by omega, rfl, rfl, rfl, by go_num, Lib.hid ((HI.out.below HB7.out).more (Nat.le_succ k))⟩

              by_cases e4k : kd = 4
              · subst e4k
                as_aux_lemma =>
                  go_wp2_with fail
                  refine (Mm.twin_is HI3.out.m HN.out).mono ?_
                  rintro e w4 ⟨M2, B2, c2, rfl, hm4, hM2, hB2, hb4⟩
                  have HM4 := Lib.hid hm4
                  have HO4 := Lib.hid (HI3.out.m.below hb4)
                  have HB4 := Lib.hid (Below.step HB3.out hb4)
                  have HMB2 := Lib.hid (show wr.heap.size ≤ M2 ∧ wr.heap.size ≤ B2 from ⟨Nat.le_trans HB3.out.size hM2, Nat.le_trans HB3.out.size hB2⟩)
                  clear hm4 hM2 hB2 hb4
                  by_cases hn0 : 0 < n
                  · have hst := Mm.store_in HM4.out 0 hn0 99 (by decide) (by omega)
                    have HST := Lib.hid hst
                    clear hst
                    go_wp2_with fail
                    refine HST.out.mono ?_
                    rintro e w5 ⟨rfl, hm5, hz5, hbb5, ho5⟩
                    have HB5 := Lib.hid (show Below wr.heap.size wr w5 from Mm.Oth.below ho5 (by have := HMB2.out.1; omega) (by have := HMB2.out.2; omega) HB4.out.size HB4.out)
                    have HM5 := Lib.hid (show MAt M B n c s w5 from HO4.out.oth ho5 (by have := HMB2.out.1; have := HML.out; omega) (by have := HMB2.out.2; have := HML.out; omega) (by have := HMB2.out.1; have := HBL.out; omega) (by have := HMB2.out.2; have := HBL.out; omega))
                    clear hm5 hz5 hbb5 ho5
                    go_wp2_with fail
                    refine (Mm.twin_is HM5.out HN.out).mono ?_
                    rintro e w6 ⟨M3, B3, c3, rfl, hm6, hM3, hB3, hb6⟩
                    have HB6 := Lib.hid (Below.step HB5.out hb6)
                    have HI6 := Lib.hid (Inv.twin HI.out HB6.out hm6 (Nat.le_trans HB5.out.size hM3) (Nat.le_trans HB5.out.size hB3))
                    clear hm6 hM3 hB3 hb6
                    go_wp2_with fail
                    go_roundg (len1 + 1 - (k + 1))
                    case measure => exact HM.out
                    case rel => exact ⟨k + 1, M3, B3, c3, s, L, A, cp, rfl, HK.out.2.2, by omega, rfl, rfl, rfl, by go_num, Lib.hid (HI6.out.more (Nat.le_succ k))⟩

                  · have hst := Mm.store_out HM4.out 0 (.inr (by omega)) 99
                    have HST := Lib.hid hst
                    clear hst
                    go_wp2_with fail
                    refine HST.out.mono ?_
                    rintro e w5 ⟨v5, rfl, hat5, hb5⟩
                    have HB5 := Lib.hid (Below.step HB4.out hb5)
                    have HM5 := Lib.hid (show MAt M B n c s w5 from HO4.out.below hb5)
                    clear hat5 hb5
                    go_wp2_with fail
                    refine (Mm.twin_is HM5.out HN.out).mono ?_
                    rintro e w6 ⟨M3, B3, c3, rfl, hm6, hM3, hB3, hb6⟩
                    have HB6 := Lib.hid (Below.step HB5.out hb6)
                    have HI6 := Lib.hid (Inv.twin HI.out HB6.out hm6 (Nat.le_trans HB5.out.size hM3) (Nat.le_trans HB5.out.size hB3))
                    clear hm6 hM3 hB3 hb6
                    go_wp2_with fail
                    go_roundg (len1 + 1 - (k + 1))
                    case measure => exact HM.out
                    case rel => exact ⟨k + 1, M3, B3, c3, s, L, A, cp, rfl, HK.out.2.2, by omega, rfl, rfl, rfl, by go_num, Lib.hid (HI6.out.more (Nat.le_succ k))⟩


              have f1 : (kd == 1) = false := by simpa using e1k
              have f2 : (kd == 2) = false := by simpa using e2k
              have f3 : (kd == 3) = false := by simpa using e3k
              have f4 : (kd == 4) = false := by simpa using e4k
              clear e1k e2k e3k e4k
              go_wp2_with fail
              go_roundg (len1 + 1 - (k + 1))
              case measure => exact HM.out
              case rel => exact ⟨k + 1, M, B, c, s, L, A, cp, rfl, HK.out.2.2, by omega, rfl, rfl, rfl, by go_num, Lib.hid (HI3.out.more (Nat.le_succ k))⟩
            · have hge : (n : Int) ≤ at_ := by omega
              have hp0 : 0 ≤ at_ := by omega
              have hlt0 : decide (at_ < (n : Int)) = false := decide_eq_false (by omega)
              have hnl : ¬ at_ < (n : Int) := by omega
              have HOUT := Lib.hid (show at_ < 0 ∨ (n : Int) ≤ at_ from .inr hge)
              clear hin hneg
              obtain ⟨V, hV⟩ : ∃ V, rAt L at_ = V := ⟨_, rfl⟩
              have HV := Lib.hid hV
              clear hV
              have HIo := Lib.hid (HI.out.below (show Below wr.heap.size wr (wr.alloc (.cells #[.int .i64 kd, .int .i64 at_, .int .u64 old, .int .u64 x] 54)) from by go_grown))
              have HOB := Lib.hid (show Below wr.heap.size wr (wr.alloc (.cells #[.int .i64 kd, .int .i64 at_, .int .u64 old, .int .u64 x] 54)) from by go_grown)
              have HC0 := Lib.hid (show (wr.alloc (.cells #[.int .i64 kd, .int .i64 at_, .int .u64 old, .int .u64 x] 54)).cell? ⟨wr.heap.size, 0, none⟩ = some (.int .i64 kd) ∧ (wr.alloc (.cells #[.int .i64 kd, .int .i64 at_, .int .u64 old, .int .u64 x] 54)).cell? ⟨wr.heap.size, 1, none⟩ = some (.int .i64 at_) ∧ (wr.alloc (.cells #[.int .i64 kd, .int .i64 at_, .int .u64 old, .int .u64 x] 54)).cell? ⟨wr.heap.size, 2, none⟩ = some (.int .u64 old) ∧ (wr.alloc (.cells #[.int .i64 kd, .int .i64 at_, .int .u64 old, .int .u64 x] 54)).cell? ⟨wr.heap.size, 3, none⟩ = some (.int .u64 x) from ⟨by simp [go_sem], by simp [go_sem], by simp [go_sem], by simp [go_sem]⟩)
              have HRA := Lib.hid (show Calls Tryd.prog 22 #[.slice A L.length cp, .int .i64 at_] (wr.alloc (.cells #[.int .i64 kd, .int .i64 at_, .int .u64 old, .int .u64 x] 54)) fun e w' => e = .returned (.int .u64 V) ∧ Below (wr.alloc (.cells #[.int .i64 kd, .int .i64 at_, .int .u64 old, .int .u64 x] 54)).heap.size (wr.alloc (.cells #[.int .i64 kd, .int .i64 at_, .int .u64 old, .int .u64 x] 54)) w' from by rw [← HV.out]; exact Mm.rat_is L A cp at_ _ (PSl.of HIo.out.r) HLL.out)
              go_wp2_with fail
              refine HRA.out.mono ?_
              rintro e w2 ⟨rfl, hb2⟩
              have hpo : wr.heap.size < w2.heap.size := Nat.lt_of_lt_of_le (by simp) hb2.size
              have e0 := (hb2.cell (p := ⟨wr.heap.size, 0, none⟩) (by simp)).trans HC0.out.1
              have e1 := (hb2.cell (p := ⟨wr.heap.size, 1, none⟩) (by simp)).trans HC0.out.2.1
              have e2 := (hb2.cell (p := ⟨wr.heap.size, 2, none⟩) (by simp)).trans HC0.out.2.2.1
              have e3 := (hb2.cell (p := ⟨wr.heap.size, 3, none⟩) (by simp)).trans HC0.out.2.2.2
              have HI2 := Lib.hid (HIo.out.below hb2)
              have HB2 := Lib.hid (Below.step HOB.out hb2)
              clear hb2 HIo HOB HC0 HRA d0' d1' d2' d3'
              have HI3 := Lib.hid (HI2.out.below (show Below w2.heap.size w2 (w2.alloc (.cells #[.int .i64 kd, .int .i64 at_, .int .u64 V, .int .u64 V, .bool true] 57)) from by go_grown))
              have HB3 := Lib.hid (Below.step HB2.out (show Below w2.heap.size w2 (w2.alloc (.cells #[.int .i64 kd, .int .i64 at_, .int .u64 V, .int .u64 V, .bool true] 57)) from by go_grown))
              by_cases e1k : kd = 1
              · subst e1k
                as_aux_lemma =>
                  go_wp2_with fail
                  refine (Mm.load_out HI3.out.m at_ HOUT.out).mono ?_
                  rintro e w4 ⟨v, rfl, hat, hb4⟩
                  obtain ⟨pb, hv, hp1, hp2, hp3, hp4⟩ := hat
                  subst hv
                  have hpw : w2.heap.size < (w2.alloc (.cells #[.int .i64 1, .int .i64 at_, .int .u64 V, .int .u64 V, .bool true] 57)).heap.size := by simp
                  have hpo3 : wr.heap.size < (w2.alloc (.cells #[.int .i64 1, .int .i64 at_, .int .u64 V, .int .u64 V, .bool true] 57)).heap.size := by simp only [World.size_alloc]; omega
                  have q0 := (hb4.cell (p := ⟨w2.heap.size, 0, none⟩) hpw).trans (show (w2.alloc (.cells #[.int .i64 1, .int .i64 at_, .int .u64 V, .int .u64 V, .bool true] 57)).cell? ⟨w2.heap.size, 0, none⟩ = some (.int .i64 1) by simp [go_sem])
                  have q1 := (hb4.cell (p := ⟨w2.heap.size, 1, none⟩) hpw).trans (show (w2.alloc (.cells #[.int .i64 1, .int .i64 at_, .int .u64 V, .int .u64 V, .bool true] 57)).cell? ⟨w2.heap.size, 1, none⟩ = some (.int .i64 at_) by simp [go_sem])
                  have q2 := (hb4.cell (p := ⟨w2.heap.size, 2, none⟩) hpw).trans (show (w2.alloc (.cells #[.int .i64 1, .int .i64 at_, .int .u64 V, .int .u64 V, .bool true] 57)).cell? ⟨w2.heap.size, 2, none⟩ = some (.int .u64 V) by simp [go_sem])
                  have q3 := (hb4.cell (p := ⟨w2.heap.size, 3, none⟩) hpw).trans (show (w2.alloc (.cells #[.int .i64 1, .int .i64 at_, .int .u64 V, .int .u64 V, .bool true] 57)).cell? ⟨w2.heap.size, 3, none⟩ = some (.int .u64 V) by simp [go_sem])
                  have q4 := (hb4.cell (p := ⟨w2.heap.size, 4, none⟩) hpw).trans (show (w2.alloc (.cells #[.int .i64 1, .int .i64 at_, .int .u64 V, .int .u64 V, .bool true] 57)).cell? ⟨w2.heap.size, 4, none⟩ = some (.bool true) by simp [go_sem])
                  have fq3 := (hb4.frozen (p := ⟨w2.heap.size, 3, none⟩) hpw).trans (show (w2.alloc (.cells #[.int .i64 1, .int .i64 at_, .int .u64 V, .int .u64 V, .bool true] 57)).frozen? ⟨w2.heap.size, 3, none⟩ = false by simp [go_sem])
                  have fq4 := (hb4.frozen (p := ⟨w2.heap.size, 4, none⟩) hpw).trans (show (w2.alloc (.cells #[.int .i64 1, .int .i64 at_, .int .u64 V, .int .u64 V, .bool true] 57)).frozen? ⟨w2.heap.size, 4, none⟩ = false by simp [go_sem])
                  have z0 := (hb4.cell (p := ⟨wr.heap.size, 0, none⟩) hpo3).trans ((World.cell?_alloc_lt w2 _ ⟨wr.heap.size, 0, none⟩ hpo).trans e0)
                  have z1 := (hb4.cell (p := ⟨wr.heap.size, 1, none⟩) hpo3).trans ((World.cell?_alloc_lt w2 _ ⟨wr.heap.size, 1, none⟩ hpo).trans e1)
                  have z2 := (hb4.cell (p := ⟨wr.heap.size, 2, none⟩) hpo3).trans ((World.cell?_alloc_lt w2 _ ⟨wr.heap.size, 2, none⟩ hpo).trans e2)
                  have z3 := (hb4.cell (p := ⟨wr.heap.size, 3, none⟩) hpo3).trans ((World.cell?_alloc_lt w2 _ ⟨wr.heap.size, 3, none⟩ hpo).trans e3)
                  have hne21 : w2.heap.size ≠ wr.heap.size := by omega
                  have hne2p : w2.heap.size ≠ pb := by omega
                  have HB4 := Lib.hid (Below.step HB3.out hb4)
                  have hs4 := hp2
                  clear e0 e1 e2 e3 hb4 hpw hpo3
                  go_upto_region 36 with fail
                  have HB5 := Lib.hid (show Below wr.heap.size wr w4 from HB4.out)
                  have HC5 := Lib.hid (show Ch w4 5 [.pl at_] (.iface 88 (.pointer (some ⟨pb, 0, none⟩))) from ⟨pb, _, rfl, by first | exact hp2 | (simp only [World.size_setCell]; exact hp2), by first | exact hp3 | (rw [World.cell?_setCell_other _ _ _ _ (Mm.addr_ne (.inl hne2p))]; exact hp3), by first | exact hp4 | (rw [World.cell?_setCell_other _ _ _ _ (Mm.addr_ne (.inl hne2p))]; exact hp4), rfl⟩)
                  have y1 : w4.cell? ⟨wr.heap.size, 1, none⟩ = some (.int .i64 at_) := by first | exact z1 | (rw [World.cell?_setCell_other _ _ _ _ (Mm.addr_ne (.inl hne21))]; exact z1) | (rw [World.cell?_setCell_other _ _ _ _ (Mm.addr_ne (.inl hne21)), World.cell?_setCell_other _ _ _ _ (Mm.addr_ne (.inl hne21))]; exact z1)
                  clear q0 q1 q2 q3 q4 fq3 fq4 z0 z1 z2 z3 hp1 hp2 hp3 hp4 hs4 hne2p
                  generalize w4 = W5 at HB5 HC5 y1 ⊢
                  have HY1 := Lib.hid y1
                  have HM5 := Lib.hid (show MAt M B n c s W5 from HI.out.m.below HB5.out)
                  have HG5 := Lib.hid (((Below.step HI.out.b HB5.out).cell (p := ⟨0, 0, none⟩) hl0).trans HG0.out)
                  have hl5 := Nat.lt_of_lt_of_le hl0 (Below.step HI.out.b HB5.out).size
                  clear y1
                  go_wp2_with fail
                  refine (place_some at_ _ _ _ _ HC5.out HG5.out hl5 rfl).mono ?_
                  rintro e w6 ⟨rfl, hb6⟩
                  have HB6 := Lib.hid (Below.step HB5.out hb6)
                  have HC6 := Lib.hid (HC5.out.below hb6)
                  have HY2 := Lib.hid ((hb6.cell (p := ⟨wr.heap.size, 1, none⟩) (cell_lt HY1.out)).trans HY1.out)
                  clear hb6
                  go_wp2_with fail
                  refine (num_ch [.pl at_] 5 (by decide) (by decide) _ _ HC6.out).mono ?_
                  rintro e w7 ⟨rfl, hb7⟩
                  have HB7 := Lib.hid (Below.step HB6.out hb7)
                  have y2 := (hb7.cell (p := ⟨wr.heap.size, 1, none⟩) (cell_lt HY2.out)).trans HY2.out
                  have HM7 := Lib.hid (show MAt M B n c s w7 from HI.out.m.below HB7.out)
                  clear hb7
                  go_wp2_with fail
                  refine (Mm.steps_is HM7.out).mono ?_
                  rintro e w8 ⟨rfl, rfl⟩
                  go_wp2_with fail
                  go_roundg (len1 + 1 - (k + 1))
                  case measure => exact HM.out
                  case rel => exact ⟨k + 1, M, B, c, s, L, A, cp, rfl, HK.out.2.2, by omega, rfl, rfl, rfl, by go_num, Lib.hid ((HI.out.below HB7.out).more (Nat.le_succ k))⟩

              by_cases e2k : kd = 2
              · subst e2k
                as_aux_lemma =>
                  go_wp2_with fail
                  refine (Mm.store_out HI3.out.m at_ HOUT.out x).mono ?_
                  rintro e w4 ⟨v, rfl, hat, hb4⟩
                  obtain ⟨pb, hv, hp1, hp2, hp3, hp4⟩ := hat
                  subst hv
                  have hpw : w2.heap.size < (w2.alloc (.cells #[.int .i64 2, .int .i64 at_, .int .u64 V, .int .u64 V, .bool true] 57)).heap.size := by simp
                  have hpo3 : wr.heap.size < (w2.alloc (.cells #[.int .i64 2, .int .i64 at_, .int .u64 V, .int .u64 V, .bool true] 57)).heap.size := by simp only [World.size_alloc]; omega
                  have q0 := (hb4.cell (p := ⟨w2.heap.size, 0, none⟩) hpw).trans (show (w2.alloc (.cells #[.int .i64 2, .int .i64 at_, .int .u64 V, .int .u64 V, .bool true] 57)).cell? ⟨w2.heap.size, 0, none⟩ = some (.int .i64 2) by simp [go_sem])
                  have q1 := (hb4.cell (p := ⟨w2.heap.size, 1, none⟩) hpw).trans (show (w2.alloc (.cells #[.int .i64 2, .int .i64 at_, .int .u64 V, .int .u64 V, .bool true] 57)).cell? ⟨w2.heap.size, 1, none⟩ = some (.int .i64 at_) by simp [go_sem])
                  have q2 := (hb4.cell (p := ⟨w2.heap.size, 2, none⟩) hpw).trans (show (w2.alloc (.cells #[.int .i64 2, .int .i64 at_, .int .u64 V, .int .u64 V, .bool true] 57)).cell? ⟨w2.heap.size, 2, none⟩ = some (.int .u64 V) by simp [go_sem])
                  have q3 := (hb4.cell (p := ⟨w2.heap.size, 3, none⟩) hpw).trans (show (w2.alloc (.cells #[.int .i64 2, .int .i64 at_, .int .u64 V, .int .u64 V, .bool true] 57)).cell? ⟨w2.heap.size, 3, none⟩ = some (.int .u64 V) by simp [go_sem])
                  have q4 := (hb4.cell (p := ⟨w2.heap.size, 4, none⟩) hpw).trans (show (w2.alloc (.cells #[.int .i64 2, .int .i64 at_, .int .u64 V, .int .u64 V, .bool true] 57)).cell? ⟨w2.heap.size, 4, none⟩ = some (.bool true) by simp [go_sem])
                  have fq3 := (hb4.frozen (p := ⟨w2.heap.size, 3, none⟩) hpw).trans (show (w2.alloc (.cells #[.int .i64 2, .int .i64 at_, .int .u64 V, .int .u64 V, .bool true] 57)).frozen? ⟨w2.heap.size, 3, none⟩ = false by simp [go_sem])
                  have fq4 := (hb4.frozen (p := ⟨w2.heap.size, 4, none⟩) hpw).trans (show (w2.alloc (.cells #[.int .i64 2, .int .i64 at_, .int .u64 V, .int .u64 V, .bool true] 57)).frozen? ⟨w2.heap.size, 4, none⟩ = false by simp [go_sem])
                  have z0 := (hb4.cell (p := ⟨wr.heap.size, 0, none⟩) hpo3).trans ((World.cell?_alloc_lt w2 _ ⟨wr.heap.size, 0, none⟩ hpo).trans e0)
                  have z1 := (hb4.cell (p := ⟨wr.heap.size, 1, none⟩) hpo3).trans ((World.cell?_alloc_lt w2 _ ⟨wr.heap.size, 1, none⟩ hpo).trans e1)
                  have z2 := (hb4.cell (p := ⟨wr.heap.size, 2, none⟩) hpo3).trans ((World.cell?_alloc_lt w2 _ ⟨wr.heap.size, 2, none⟩ hpo).trans e2)
                  have z3 := (hb4.cell (p := ⟨wr.heap.size, 3, none⟩) hpo3).trans ((World.cell?_alloc_lt w2 _ ⟨wr.heap.size, 3, none⟩ hpo).trans e3)
                  have hne21 : w2.heap.size ≠ wr.heap.size := by omega
                  have hne2p : w2.heap.size ≠ pb := by omega
                  have HB4 := Lib.hid (Below.step HB3.out hb4)
                  have hs4 := hp2
                  clear e0 e1 e2 e3 hb4 hpw hpo3
                  go_upto_region 36 with fail
                  have HB5 := Lib.hid (show Below wr.heap.size wr (w4.setCell ⟨w2.heap.size, 3, none⟩ (.int .u64 x)) from (HB4.out).setCell (show wr.heap.size ≤ w2.heap.size by omega) _)
                  have HC5 := Lib.hid (show Ch (w4.setCell ⟨w2.heap.size, 3, none⟩ (.int .u64 x)) 5 [.pl at_] (.iface 88 (.pointer (some ⟨pb, 0, none⟩))) from ⟨pb, _, rfl, by first | exact hp2 | (simp only [World.size_setCell]; exact hp2), by first | exact hp3 | (rw [World.cell?_setCell_other _ _ _ _ (Mm.addr_ne (.inl hne2p))]; exact hp3), by first | exact hp4 | (rw [World.cell?_setCell_other _ _ _ _ (Mm.addr_ne (.inl hne2p))]; exact hp4), rfl⟩)
                  have y1 : (w4.setCell ⟨w2.heap.size, 3, none⟩ (.int .u64 x)).cell? ⟨wr.heap.size, 1, none⟩ = some (.int .i64 at_) := by first | exact z1 | (rw [World.cell?_setCell_other _ _ _ _ (Mm.addr_ne (.inl hne21))]; exact z1) | (rw [World.cell?_setCell_other _ _ _ _ (Mm.addr_ne (.inl hne21)), World.cell?_setCell_other _ _ _ _ (Mm.addr_ne (.inl hne21))]; exact z1)
                  clear q0 q1 q2 q3 q4 fq3 fq4 z0 z1 z2 z3 hp1 hp2 hp3 hp4 hs4 hne2p
                  change Code.wp _ _ _ _ (w4.setCell ⟨w2.heap.size, 3, none⟩ (.int .u64 x))
                  generalize (w4.setCell ⟨w2.heap.size, 3, none⟩ (.int .u64 x)) = W5 at HB5 HC5 y1 ⊢
                  have HY1 := Lib.hid y1
                  have HM5 := Lib.hid (show MAt M B n c s W5 from HI.out.m.below HB5.out)
                  have HG5 := Lib.hid (((Below.step HI.out.b HB5.out).cell (p := ⟨0, 0, none⟩) hl0).trans HG0.out)
                  have hl5 := Nat.lt_of_lt_of_le hl0 (Below.step HI.out.b HB5.out).size
                  clear y1
                  go_wp2_with fail
                  refine (place_some at_ _ _ _ _ HC5.out HG5.out hl5 rfl).mono ?_
                  rintro e w6 ⟨rfl, hb6⟩
                  have HB6 := Lib.hid (Below.step HB5.out hb6)
                  have HC6 := Lib.hid (HC5.out.below hb6)
                  have HY2 := Lib.hid ((hb6.cell (p := ⟨wr.heap.size, 1, none⟩) (cell_lt HY1.out)).trans HY1.out)
                  clear hb6
                  go_wp2_with fail
                  refine (num_ch [.pl at_] 5 (by decide) (by decide) _ _ HC6.out).mono ?_
                  rintro e w7 ⟨rfl, hb7⟩
                  have HB7 := Lib.hid (Below.step HB6.out hb7)
                  have y2 := (hb7.cell (p := ⟨wr.heap.size, 1, none⟩) (cell_lt HY2.out)).trans HY2.out
                  have HM7 := Lib.hid (show MAt M B n c s w7 from HI.out.m.below HB7.out)
                  clear hb7
                  go_wp2_with fail
                  refine (Mm.steps_is HM7.out).mono ?_
                  rintro e w8 ⟨rfl, rfl⟩
                  go_wp2_with fail
                  go_roundg (len1 + 1 - (k + 1))
                  case measure => exact HM.out
                  case rel => exact ⟨k + 1, M, B, c, s, L, A, cp, rfl, HK.out.2.2, by omega, rfl, rfl, rfl, by go_num, Lib.hid ((HI.out.below HB7.out).more (Nat.le_succ k))⟩

              by_cases e3k : kd = 3
              · subst e3k
                as_aux_lemma =>
                  go_wp2_with fail
                  refine (Mm.swap_out HI3.out.m at_ HOUT.out old x).mono ?_
                  rintro e w4 ⟨v, rfl, hat, hb4⟩
                  obtain ⟨pb, hv, hp1, hp2, hp3, hp4⟩ := hat
                  subst hv
                  have hpw : w2.heap.size < (w2.alloc (.cells #[.int .i64 3, .int .i64 at_, .int .u64 V, .int .u64 V, .bool true] 57)).heap.size := by simp
                  have hpo3 : wr.heap.size < (w2.alloc (.cells #[.int .i64 3, .int .i64 at_, .int .u64 V, .int .u64 V, .bool true] 57)).heap.size := by simp only [World.size_alloc]; omega
                  have q0 := (hb4.cell (p := ⟨w2.heap.size, 0, none⟩) hpw).trans (show (w2.alloc (.cells #[.int .i64 3, .int .i64 at_, .int .u64 V, .int .u64 V, .bool true] 57)).cell? ⟨w2.heap.size, 0, none⟩ = some (.int .i64 3) by simp [go_sem])
                  have q1 := (hb4.cell (p := ⟨w2.heap.size, 1, none⟩) hpw).trans (show (w2.alloc (.cells #[.int .i64 3, .int .i64 at_, .int .u64 V, .int .u64 V, .bool true] 57)).cell? ⟨w2.heap.size, 1, none⟩ = some (.int .i64 at_) by simp [go_sem])
                  have q2 := (hb4.cell (p := ⟨w2.heap.size, 2, none⟩) hpw).trans (show (w2.alloc (.cells #[.int .i64 3, .int .i64 at_, .int .u64 V, .int .u64 V, .bool true] 57)).cell? ⟨w2.heap.size, 2, none⟩ = some (.int .u64 V) by simp [go_sem])
                  have q3 := (hb4.cell (p := ⟨w2.heap.size, 3, none⟩) hpw).trans (show (w2.alloc (.cells #[.int .i64 3, .int .i64 at_, .int .u64 V, .int .u64 V, .bool true] 57)).cell? ⟨w2.heap.size, 3, none⟩ = some (.int .u64 V) by simp [go_sem])
                  have q4 := (hb4.cell (p := ⟨w2.heap.size, 4, none⟩) hpw).trans (show (w2.alloc (.cells #[.int .i64 3, .int .i64 at_, .int .u64 V, .int .u64 V, .bool true] 57)).cell? ⟨w2.heap.size, 4, none⟩ = some (.bool true) by simp [go_sem])
                  have fq3 := (hb4.frozen (p := ⟨w2.heap.size, 3, none⟩) hpw).trans (show (w2.alloc (.cells #[.int .i64 3, .int .i64 at_, .int .u64 V, .int .u64 V, .bool true] 57)).frozen? ⟨w2.heap.size, 3, none⟩ = false by simp [go_sem])
                  have fq4 := (hb4.frozen (p := ⟨w2.heap.size, 4, none⟩) hpw).trans (show (w2.alloc (.cells #[.int .i64 3, .int .i64 at_, .int .u64 V, .int .u64 V, .bool true] 57)).frozen? ⟨w2.heap.size, 4, none⟩ = false by simp [go_sem])
                  have z0 := (hb4.cell (p := ⟨wr.heap.size, 0, none⟩) hpo3).trans ((World.cell?_alloc_lt w2 _ ⟨wr.heap.size, 0, none⟩ hpo).trans e0)
                  have z1 := (hb4.cell (p := ⟨wr.heap.size, 1, none⟩) hpo3).trans ((World.cell?_alloc_lt w2 _ ⟨wr.heap.size, 1, none⟩ hpo).trans e1)
                  have z2 := (hb4.cell (p := ⟨wr.heap.size, 2, none⟩) hpo3).trans ((World.cell?_alloc_lt w2 _ ⟨wr.heap.size, 2, none⟩ hpo).trans e2)
                  have z3 := (hb4.cell (p := ⟨wr.heap.size, 3, none⟩) hpo3).trans ((World.cell?_alloc_lt w2 _ ⟨wr.heap.size, 3, none⟩ hpo).trans e3)
                  have hne21 : w2.heap.size ≠ wr.heap.size := by omega
                  have hne2p : w2.heap.size ≠ pb := by omega
                  have HB4 := Lib.hid (Below.step HB3.out hb4)
                  have hs4 := hp2
                  clear e0 e1 e2 e3 hb4 hpw hpo3
                  go_upto_region 36 with fail
                  have HB5 := Lib.hid (show Below wr.heap.size wr (w4.setCell ⟨w2.heap.size, 4, none⟩ (.bool false)) from (HB4.out).setCell (show wr.heap.size ≤ w2.heap.size by omega) _)
                  have HC5 := Lib.hid (show Ch (w4.setCell ⟨w2.heap.size, 4, none⟩ (.bool false)) 5 [.pl at_] (.iface 88 (.pointer (some ⟨pb, 0, none⟩))) from ⟨pb, _, rfl, by first | exact hp2 | (simp only [World.size_setCell]; exact hp2), by first | exact hp3 | (rw [World.cell?_setCell_other _ _ _ _ (Mm.addr_ne (.inl hne2p))]; exact hp3), by first | exact hp4 | (rw [World.cell?_setCell_other _ _ _ _ (Mm.addr_ne (.inl hne2p))]; exact hp4), rfl⟩)
                  have y1 : (w4.setCell ⟨w2.heap.size, 4, none⟩ (.bool false)).cell? ⟨wr.heap.size, 1, none⟩ = some (.int .i64 at_) := by first | exact z1 | (rw [World.cell?_setCell_other _ _ _ _ (Mm.addr_ne (.inl hne21))]; exact z1) | (rw [World.cell?_setCell_other _ _ _ _ (Mm.addr_ne (.inl hne21)), World.cell?_setCell_other _ _ _ _ (Mm.addr_ne (.inl hne21))]; exact z1)
                  clear q0 q1 q2 q3 q4 fq3 fq4 z0 z1 z2 z3 hp1 hp2 hp3 hp4 hs4 hne2p
                  change Code.wp _ _ _ _ (w4.setCell ⟨w2.heap.size, 4, none⟩ (.bool false))
                  generalize (w4.setCell ⟨w2.heap.size, 4, none⟩ (.bool false)) = W5 at HB5 HC5 y1 ⊢
                  have HY1 := Lib.hid y1
                  have HM5 := Lib.hid (show MAt M B n c s W5 from HI.out.m.below HB5.out)
                  have HG5 := Lib.hid (((Below.step HI.out.b HB5.out).cell (p := ⟨0, 0, none⟩) hl0).trans HG0.out)
                  have hl5 := Nat.lt_of_lt_of_le hl0 (Below.step HI.out.b HB5.out).size
                  clear y1
                  go_wp2_with fail
                  refine (place_some at_ _ _ _ _ HC5.out HG5.out hl5 rfl).mono ?_
                  rintro e w6 ⟨rfl, hb6⟩
                  have HB6 := Lib.hid (Below.step HB5.out hb6)
                  have HC6 := Lib.hid (HC5.out.below hb6)
                  have HY2 := Lib.hid ((hb6.cell (p := ⟨wr.heap.size, 1, none⟩) (cell_lt HY1.out)).trans HY1.out)
                  clear hb6
                  go_wp2_with fail
                  refine (num_ch [.pl at_] 5 (by decide) (by decide) _ _ HC6.out).mono ?_
                  rintro e w7 ⟨rfl, hb7⟩
                  have HB7 := Lib.hid (Below.step HB6.out hb7)
                  have y2 := (hb7.cell (p := ⟨wr.heap.size, 1, none⟩) (cell_lt HY2.out)).trans HY2.out
                  have HM7 := Lib.hid (show MAt M B n c s w7 from HI.out.m.below HB7.out)
                  clear hb7
                  go_wp2_with fail
                  refine (Mm.steps_is HM7.out).mono ?_
                  rintro e w8 ⟨rfl, rfl⟩
                  go_wp2_with fail
                  go_roundg (len1 + 1 - (k + 1))
                  case measure => exact HM.out
                  case rel => exact ⟨k + 1, M, B, c, s, L, A, cp, rfl, HK.out.2.2, by omega, rfl, rfl, rfl, by go_num, Lib.hid ((HI.out.below HB7.out).more (Nat.le_succ k))⟩

              by_cases e4k : kd = 4
              · subst e4k
                as_aux_lemma =>
                  go_wp2_with fail
                  refine (Mm.twin_is HI3.out.m HN.out).mono ?_
                  rintro e w4 ⟨M2, B2, c2, rfl, hm4, hM2, hB2, hb4⟩
                  have HM4 := Lib.hid hm4
                  have HO4 := Lib.hid (HI3.out.m.below hb4)
                  have HB4 := Lib.hid (Below.step HB3.out hb4)
                  have HMB2 := Lib.hid (show wr.heap.size ≤ M2 ∧ wr.heap.size ≤ B2 from ⟨Nat.le_trans HB3.out.size hM2, Nat.le_trans HB3.out.size hB2⟩)
                  clear hm4 hM2 hB2 hb4
                  by_cases hn0 : 0 < n
                  · have hst := Mm.store_in HM4.out 0 hn0 99 (by decide) (by omega)
                    have HST := Lib.hid hst
                    clear hst
                    go_wp2_with fail
                    refine HST.out.mono ?_
                    rintro e w5 ⟨rfl, hm5, hz5, hbb5, ho5⟩
                    have HB5 := Lib.hid (show Below wr.heap.size wr w5 from Mm.Oth.below ho5 (by have := HMB2.out.1; omega) (by have := HMB2.out.2; omega) HB4.out.size HB4.out)
                    have HM5 := Lib.hid (show MAt M B n c s w5 from HO4.out.oth ho5 (by have := HMB2.out.1; have := HML.out; omega) (by have := HMB2.out.2; have := HML.out; omega) (by have := HMB2.out.1; have := HBL.out; omega) (by have := HMB2.out.2; have := HBL.out; omega))
                    clear hm5 hz5 hbb5 ho5
                    go_wp2_with fail
                    refine (Mm.twin_is HM5.out HN.out).mono ?_
                    rintro e w6 ⟨M3, B3, c3, rfl, hm6, hM3, hB3, hb6⟩
                    have HB6 := Lib.hid (Below.step HB5.out hb6)
                    have HI6 := Lib.hid (Inv.twin HI.out HB6.out hm6 (Nat.le_trans HB5.out.size hM3) (Nat.le_trans HB5.out.size hB3))
                    clear hm6 hM3 hB3 hb6
                    go_wp2_with fail
                    go_roundg (len1 + 1 - (k + 1))
                    case measure => exact HM.out
                    case rel => exact ⟨k + 1, M3, B3, c3, s, L, A, cp, rfl, HK.out.2.2, by omega, rfl, rfl, rfl, by go_num, Lib.hid (HI6.out.more (Nat.le_succ k))⟩

                  · have hst := Mm.store_out HM4.out 0 (.inr (by omega)) 99
                    have HST := Lib.hid hst
                    clear hst
                    go_wp2_with fail
                    refine HST.out.mono ?_
                    rintro e w5 ⟨v5, rfl, hat5, hb5⟩
                    have HB5 := Lib.hid (Below.step HB4.out hb5)
                    have HM5 := Lib.hid (show MAt M B n c s w5 from HO4.out.below hb5)
                    clear hat5 hb5
                    go_wp2_with fail
                    refine (Mm.twin_is HM5.out HN.out).mono ?_
                    rintro e w6 ⟨M3, B3, c3, rfl, hm6, hM3, hB3, hb6⟩
                    have HB6 := Lib.hid (Below.step HB5.out hb6)
                    have HI6 := Lib.hid (Inv.twin HI.out HB6.out hm6 (Nat.le_trans HB5.out.size hM3) (Nat.le_trans HB5.out.size hB3))
                    clear hm6 hM3 hB3 hb6
                    go_wp2_with fail
                    go_roundg (len1 + 1 - (k + 1))
                    case measure => exact HM.out
                    case rel => exact ⟨k + 1, M3, B3, c3, s, L, A, cp, rfl, HK.out.2.2, by omega, rfl, rfl, rfl, by go_num, Lib.hid (HI6.out.more (Nat.le_succ k))⟩


              have f1 : (kd == 1) = false := by simpa using e1k
              have f2 : (kd == 2) = false := by simpa using e2k
              have f3 : (kd == 3) = false := by simpa using e3k
              have f4 : (kd == 4) = false := by simpa using e4k
              clear e1k e2k e3k e4k
              go_wp2_with fail
              go_roundg (len1 + 1 - (k + 1))
              case measure => exact HM.out
              case rel => exact ⟨k + 1, M, B, c, s, L, A, cp, rfl, HK.out.2.2, by omega, rfl, rfl, rfl, by go_num, Lib.hid (HI3.out.more (Nat.le_succ k))⟩
      · obtain rfl : k = len1 := by omega
        have k1 : (k : Int) ≤ (k : Int) := Int.le_refl _
        go_wp2_with fail
        go_meet
        case rel => exact ⟨M, B, c, k, s, L, A, cp, rfl, rfl, rfl, hk2, HI⟩
  case rest =>
    obtain ⟨M, B, c, k, s, L, A, cp, rfl, rfl, rfl, hk, HI⟩ := hcut
    clear HM1 HMB HB1
    have HLL := Lib.hid (show L.length ≤ 1000 from by have := HI.out.ll; omega)
    have HM0 := Lib.hid HI.out.m
    go_wp2_with fail
    refine (Mm.words_is HM0.out HN.out).mono ?_
    rintro e w2 ⟨B', c', rfl, hw2, hB', hb2⟩
    have HW2 := Lib.hid (show Mm.WordsAt B' n (some ⟨B', 0, none⟩) s.ws w2 from hw2)
    have HI2 := Lib.hid (HI.out.below hb2)
    clear hw2 hB' hb2
    go_wp2_with fail
    refine (Mm.steps_is HI2.out.m).mono ?_
    rintro e w3 ⟨rfl, rfl⟩
    go_wp2_with fail
    go_loopg [224] n (fun gk i wr => ∃ j : Nat, gk = n - j ∧ j ≤ n ∧ i = .int .i64 j ∧ Below w2.heap.size w2 wr)
    case atStart => exact ⟨0, rfl, Nat.zero_le _, rfl, Below.refl _ _⟩
    case round =>
      obtain ⟨j, rfl, hj, rfl, hB⟩ := hrel
      by_cases hjn : j < n
      · have c0 := (hB.cell (p := ⟨B', j, none⟩) HW2.out.bl).trans (HW2.out.wd j hjn).1
        have hbl := Nat.lt_of_lt_of_le HW2.out.bl hB.size
        have HV := Lib.hid (HI2.out.i j hjn)
        have HRA := Lib.hid (show Calls Tryd.prog 22 #[.slice A L.length cp, .int .i64 (j : Int)] wr fun e w' => e = .returned (.int .u64 (s.ws j)) ∧ Below wr.heap.size wr w' from by rw [← HV.out]; exact Mm.rat_is L A cp j _ (PSl.of (HI2.out.below hB).r) HLL.out)
        have j0 : (0 : Int) ≤ (j : Int) := by omega
        have j1 : (j : Int) < (n : Int) := by omega
        have j2 : (j : Int) ≤ 8192 := by have := HN.out; omega
        have HK := Lib.hid hjn
        have HMM := Lib.hid (show n - (j + 1) < n - j by omega)
        go_wp2_with fail
        refine HRA.out.mono ?_
        rintro e w4 ⟨rfl, hb4⟩
        have HB4 := Lib.hid (Below.step hB hb4)
        clear hb4
        go_wp2_with fail
        go_roundg (n - (j + 1))
        case measure => exact HMM.out
        case rel => exact ⟨j + 1, rfl, HK.out, by go_num, HB4.out⟩
      · obtain rfl : j = n := by omega
        have HB3 := Lib.hid (Below.step HI2.out.b hB)
        go_wp2_with fail
        refine (Mm.awake03 _).mono ?_
        rintro e w5 ⟨rfl, hb5⟩
        have HB5 := Lib.hid (Below.step HB3.out hb5)
        clear hb5
        go_wp2
        go_ret
        exact ⟨rfl, HB5.out⟩
end Go.Proofs.YtjkojbaphdlhlaaDoor.memPlays
