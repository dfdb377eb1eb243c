/-
  All numbers of a script, lowered.
-/
import Derived.Test.YtfdjbhlpkfbgnaaRows
import Derived.Test.YtfdjbhlpkfbgnaaKit
import Derived.Test.YtfdjbhlpkfbgnaaApp
import Derived.Test.YtfdjbhlpkfbgnaaQuiet
import Derived.Test.YtfdjbhlpkfbgnaaShM
import Derived.Test.YtfdjbhlpkfbgnaaShO
import Derived.Test.YtfdjbhlpkfbgnaaShB
import Derived.Test.YtfdjbhlpkfbgnaaShC
import Derived.Test.YtfdjbhlpkfbgnaaShD
import Derived.Test.YtfdjbhlpkfbgnaaShA
import Derived.Test.YtfdjbhlpkfbgnaaShF
import Derived.Test.YtfdjbhlpkfbgnaaShH
import Derived.Test.YtfdjbhlpkfbgnaaShNa
import Derived.Test.YtfdjbhlpkfbgnaaShNb
import Derived.Test.YtfdjbhlpkfbgnaaShNc
import Derived.WalkKit
import Derived.ProofKit
import Derived.OpenShut
import Derived.ShutString
import Derived.Below
import Derived.Outline
import Derived.WalkLawsBesides
import Derived.WalkSpells
import Derived.Handy
import Derived.Deep.QuietTactic
import Derived.BigQuiet
import Derived.RegionTactic
import Derived.ChangeAlike
import Derived.Lib.Hide
import Derived.Laws.Rows
import Derived.Laws.Tables
import Derived.Laws.CopyOwn
import Derived.Laws.MakeOwn
import Derived.Laws.Entries
import Derived.Laws.OwnMore
import Derived.Deep.WholeRow
import Derived.Deep.LoopGhost
import Derived.Deep.AppendLies
import Derived.Deep.Draws
import Derived.Maps.AppendAt
import Derived.OwnWalk
import Derived.Deep.RegionHeld3
import Derived.Deep.Cut
import Derived.Deep.CutRange
import Derived.Deep.DeepCutAuto
import Derived.Deep.CutBlock
import Derived.Lib.SliceRun
import Derived.IntWalk
import Derived.Laws.EntriesVeiled
namespace Go.Proofs.Ytfdjbhlpkfbgnaa
open Go.ChangeShapes Go.WideShapes Go.ChangeAt Go.RowKit
/-- The cells that the asker looks at. -/
def Ask13 (HB bk bm q : Nat) (m : Int) (w : World) : Prop := w.cell? ⟨HB, 0, none⟩ = some (.func (.func 13) #[] #[.pointer (some ⟨bk, 0, none⟩), .pointer (some ⟨bm, 0, none⟩)]) ∧ w.cell? ⟨bk, 0, none⟩ = some (.int .i64 (q : Int)) ∧ w.cell? ⟨bm, 0, none⟩ = some (.int .i64 m) ∧ HB < w.heap.size ∧ bk < w.heap.size ∧ bm < w.heap.size
theorem Ask13.ok {HB bk bm q : Nat} {m : Int} {w : World} (h : Ask13 HB bk bm q m w) : AskOk w HB (atE q m) := ask13 w HB bk bm q m h.1 h.2.2.2.1 h.2.1 h.2.2.1 h.2.2.2.2.1 h.2.2.2.2.2
theorem Ask13.oth {HB bk bm q g : Nat} {m : Int} {w w' : World} (h : Ask13 HB bk bm q m w) (ho : Oth g w w') (h1 : HB ≠ g) (h2 : bk ≠ g) (h3 : bm ≠ g) : Ask13 HB bk bm q m w' :=
  ⟨(ho.1 ⟨HB, 0, none⟩ h.2.2.2.1 h1).trans h.1, (ho.1 ⟨bk, 0, none⟩ h.2.2.2.2.1 h2).trans h.2.1, (ho.1 ⟨bm, 0, none⟩ h.2.2.2.2.2 h3).trans h.2.2.1, Nat.lt_of_lt_of_le h.2.2.2.1 ho.2.2, Nat.lt_of_lt_of_le h.2.2.2.2.1 ho.2.2, Nat.lt_of_lt_of_le h.2.2.2.2.2 ho.2.2⟩
theorem set_same {l : List Evn} {k : Nat} {x : Evn} (h : l[k]? = some x) : l.set k x = l := by
  obtain ⟨h1, rfl⟩ := List.getElem?_eq_some_iff.1 h
  exact List.set_getElem_self h1
set_option maxRecDepth 100000 in
set_option maxHeartbeats 2000000 in
theorem numbers_yes (w : World) (bk bm q : Nat) (m : Int) (base N c : Nat) (A : Option Addr) (l : List Evn) (ho : w.ownsRow base 38 12 (.slice A N c) N (nv l)) (hN : N = l.length) (hl : N ≤ 60) (hk : w.cell? ⟨bk, 0, none⟩ = some (.int .i64 (q : Int))) (hm : w.cell? ⟨bm, 0, none⟩ = some (.int .i64 m)) (hbk : bk < w.heap.size) (hbm : bm < w.heap.size) (hp : atE q m l = true) (hw : ∀ x ∈ l, x.n ≤ 9223372036854775807) : Calls Try.prog 14 #[.slice A N c, (.func (.func 13) #[] #[.pointer (some ⟨bk, 0, none⟩), .pointer (some ⟨bm, 0, none⟩)])] w fun e w' => ∃ v, e = .returned (.tuple #[v, .bool true]) ∧ OwnE w' (lowl q m l N) v ∧ Below w.heap.size w w' := by
  have hmf : ∀ (fn : Fn) (first cap : Array Value) (w : World), (Instr.makeFunc fn first cap).run Try.prog w = .ok (.func fn first cap) w := fun _ _ _ _ => rfl
  have HAS := Lib.hid (asker_is (.func 13) #[.pointer (some ⟨bk, 0, none⟩), .pointer (some ⟨bm, 0, none⟩)] (w.alloc (.cells #[.slice A N c] 24)))
  rw [World.size_alloc] at HAS
  obtain ⟨V3, hV3⟩ : ∃ V3, V3 = (((w.alloc (.cells #[.slice A N c] 24)).alloc (.cells #[(.func (.func 13) #[] #[.pointer (some ⟨bk, 0, none⟩), .pointer (some ⟨bm, 0, none⟩)])] 44)).alloc (.cells #[(.func (.func 26) #[] #[.pointer (some ⟨w.heap.size + 1, 0, none⟩)])] 44)) := ⟨_, rfl⟩
  have hb3 : Below w.heap.size w V3 := by rw [hV3]; go_grown
  have hs3 : V3.heap.size = w.heap.size + 3 := by rw [hV3]; simp only [World.size_alloc]
  have hlb : V3.cell? ⟨w.heap.size, 0, none⟩ = some (.slice A N c) := by rw [hV3]; simp [go_sem]
  have hHB : V3.cell? ⟨w.heap.size + 1, 0, none⟩ = some (.func (.func 13) #[] #[.pointer (some ⟨bk, 0, none⟩), .pointer (some ⟨bm, 0, none⟩)]) := by rw [hV3]; simp [go_sem]
  have hkb : V3.cell? ⟨w.heap.size + 1 + 1, 0, none⟩ = some (.func (.func 26) #[] #[.pointer (some ⟨w.heap.size + 1, 0, none⟩)]) := by rw [hV3]; simp [go_sem]
  have hfz : V3.frozen? ⟨w.heap.size, 0, none⟩ = false := by rw [hV3]; simp [go_sem]
  have hA3 : Ask13 (w.heap.size + 1) bk bm q m V3 := ⟨hHB, (hb3.cell (p := ⟨bk, 0, none⟩) hbk).trans hk, (hb3.cell (p := ⟨bm, 0, none⟩) hbm).trans hm, by omega, by omega, by omega⟩
  have ho3 := rkept ho hb3
  have HQ := Lib.hid (hA3.ok V3 base N c A l (Below.refl _ _) ho3 hN hl)
  rw [hp] at HQ
  have HV3 := Lib.hid hV3
  have HX3 := Lib.hid (And.intro hlb (And.intro hkb (And.intro hfz (And.intro hA3 (And.intro hs3 (And.intro ho3 hb3))))))
  have HNN := Lib.hid hN
  have HP := Lib.hid hp
  rw [hV3] at HQ
  have HBK := Lib.hid (And.intro hbk hbm)
  have HWF := Lib.hid hw
  clear hw hb3 hs3 hlb hHB hkb hfz hA3 ho3 hV3 ho hN hk hm hbk hbm hp
  go_enter Try.func14, Try.ntmps14
  go_wp2_with fail
  refine HAS.out.mono ?_
  rintro e1 w1 ⟨rfl, rfl⟩
  go_wp2_with fail
  refine HQ.out.mono ?_
  rintro e4 w4 ⟨rfl, hb4⟩
  rw [← HV3.out] at hb4
  obtain ⟨x1, x2, x3, x4, x5, x6, x7⟩ := HX3.out
  have lb4 : w4.cell? ⟨w.heap.size, 0, none⟩ = some (.slice A N c) := (hb4.cell (p := ⟨w.heap.size, 0, none⟩) (show w.heap.size < _ by omega)).trans x1
  have kb4 := (hb4.cell (p := ⟨w.heap.size + 1 + 1, 0, none⟩) (show w.heap.size + 1 + 1 < _ by omega)).trans x2
  have fz4 := (hb4.frozen (p := ⟨w.heap.size, 0, none⟩) (show w.heap.size < _ by omega)).trans x3
  have hs4 : w.heap.size + 3 ≤ w4.heap.size := by have := hb4.size; omega
  have HA4 := Lib.hid (x4.oth (Oth.of (g := w4.heap.size) hb4) (by omega) (by have := x4.2.2.2.2.1; have := hb4.size; omega) (by have := x4.2.2.2.2.2; have := hb4.size; omega))
  have HC := Lib.hid (clone_is base c A l w4 (by rw [← HNN.out]; exact rkept x6 hb4) (by have := HNN.out; omega))
  rw [← HNN.out] at HC
  have HB4 := Lib.hid (Below.step x7 hb4)
  have HF4 := Lib.hid (And.intro kb4 (And.intro fz4 hs4))
  have HL4 := Lib.hid lb4
  clear x1 x2 x3 x4 x5 x6 x7 hb4 kb4 fz4 hs4 HX3
  go_wp2_with fail
  refine HC.out.mono ?_
  rintro e5 w5 ⟨v5, rfl, ho5, hb5⟩
  obtain ⟨A5, c5, rfl⟩ := oshape ho5
  have hN0 : 0 < N := by
    have h1 := HP.out
    unfold atE at h1
    have h2 := HNN.out
    rcases Nat.eq_zero_or_pos N with hz | hz
    · rw [List.eq_nil_of_length_eq_zero (by omega : l.length = 0)] at h1
      cases h1
    · exact hz
  obtain ⟨g, cp, hv, hg1, hg2⟩ := World.ownsRow.form ho5 hN0
  obtain ⟨rfl, rfl⟩ : A5 = some ⟨g, 0, none⟩ ∧ cp = c5 := by
    injection hv with h1 h2 h3
    exact ⟨h1, h3.symm⟩
  have hgw : w4.heap.size ≤ g := (World.ownsRow.lt ho5 g rfl).1
  obtain ⟨f1, f2, f3⟩ := HF4.out
  have lb5 : w5.cell? ⟨w.heap.size, 0, none⟩ = some (.slice A N c) := (hb5.cell (p := ⟨w.heap.size, 0, none⟩) (show w.heap.size < _ by omega)).trans HL4.out
  have fz5 : w5.frozen? ⟨w.heap.size, 0, none⟩ = false := (hb5.frozen (p := ⟨w.heap.size, 0, none⟩) (show w.heap.size < _ by omega)).trans f2
  have hne : w.heap.size ≠ g := by omega
  have W6c : (w5.setCell ⟨w.heap.size, 0, none⟩ (.slice (some ⟨g, 0, none⟩) N cp)).cell? ⟨w.heap.size, 0, none⟩ = some (.slice (some ⟨g, 0, none⟩) N cp) := World.cell?_setCell_same _ _ _ lb5
  have W6k : (w5.setCell ⟨w.heap.size, 0, none⟩ (.slice (some ⟨g, 0, none⟩) N cp)).cell? ⟨w.heap.size + 1 + 1, 0, none⟩ = some (.func (.func 26) #[] #[.pointer (some ⟨w.heap.size + 1, 0, none⟩)]) := (World.cell?_setCell_far _ _ _ _ (show w.heap.size ≠ w.heap.size + 1 + 1 by omega)).trans ((hb5.cell (p := ⟨w.heap.size + 1 + 1, 0, none⟩) (show w.heap.size + 1 + 1 < _ by omega)).trans f1)
  have W6o : (w5.setCell ⟨w.heap.size, 0, none⟩ (.slice (some ⟨g, 0, none⟩) N cp)).ownsRow w4.heap.size 38 12 (.slice (some ⟨g, 0, none⟩) N cp) N (nv l) := rfar ho5 (fun k h1 _ => heap_setCell_other w5 ⟨w.heap.size, 0, none⟩ k _ (by show k ≠ w.heap.size; omega))
  have W6b : Below w.heap.size w (w5.setCell ⟨w.heap.size, 0, none⟩ (.slice (some ⟨g, 0, none⟩) N cp)) := (Below.step HB4.out hb5).setCell (Nat.le_refl _) _
  have hq1 := HA4.out
  have W6a : Ask13 (w.heap.size + 1) bk bm q m (w5.setCell ⟨w.heap.size, 0, none⟩ (.slice (some ⟨g, 0, none⟩) N cp)) := (hq1.oth (Oth.of (g := w.heap.size) hb5) (by omega) (Nat.ne_of_lt HBK.out.1) (Nat.ne_of_lt HBK.out.2)).oth (Oth.set w.heap.size 0 w5 _) (by omega) (Nat.ne_of_lt HBK.out.1) (Nat.ne_of_lt HBK.out.2)
  have W6s : g < (w5.setCell ⟨w.heap.size, 0, none⟩ (.slice (some ⟨g, 0, none⟩) N cp)).heap.size := (World.ownsRow.lt W6o g rfl).2
  have H6 := Lib.hid (And.intro W6c (And.intro W6k (And.intro W6o (And.intro W6b (And.intro W6a W6s)))))
  have HGB := Lib.hid (show w.heap.size + 1 + 1 < w4.heap.size ∧ w4.heap.size ≤ g from ⟨by omega, hgw⟩)
  have n0 : (N : Int) ≤ 60 := by omega
  have lb6 := W6c
  clear W6c W6k W6o W6b W6a W6s hq1 ho5 hb5 hg1 hg2 f1 f2 f3 hv HC HL4 HF4 HA4 HQ HAS
  go_upto_region 5 with fail
  clear lb5 fz5
  generalize w5.setCell ⟨w.heap.size, 0, none⟩ (.slice (some ⟨g, 0, none⟩) N cp) = w6 at *
  go_wp2_with fail
  go_loopw [7, 18] (fun _ kv wr => ∃ k : Nat, k ≤ N ∧ kv = .int .i64 (k : Int) ∧ Hid (wr.ownsRow w4.heap.size 38 12 (.slice (some ⟨g, 0, none⟩) N cp) N (nv (lowl q m l k)) ∧ Oth g w6 wr ∧ Below g w6 wr)) (fun _ kv _ => N + 1 - (intOf kv).toNat)
  case atStart => exact ⟨0, Nat.zero_le _, rfl, Lib.hid ⟨H6.out.2.2.1, Oth.refl _ _, Below.refl _ _⟩⟩
  case round =>
    obtain ⟨k, hk, rfl, HR⟩ := hrel
    clear lb6
    have k0 : (0 : Int) ≤ (k : Int) := by omega
    have hl6 : w.heap.size < w6.heap.size := by have := H6.out.2.2.2.1.size; have := H6.out.2.2.2.2.2; have := HGB.out; omega
    have lbr : wr.cell? ⟨w.heap.size, 0, none⟩ = some (.slice (some ⟨g, 0, none⟩) N cp) := (HR.out.2.1.1 ⟨w.heap.size, 0, none⟩ hl6 hne).trans H6.out.1
    by_cases hkN : k < N
    · have k1 : (k : Int) < (N : Int) := by omega
      obtain ⟨x, hx⟩ : ∃ x, l[k]? = some x := ⟨_, List.getElem?_eq_getElem (by rw [← HNN.out]; exact hkN)⟩
      have hlx : (lowl q m l k)[k]? = some x := (lowl_late q m l k k (Nat.le_refl _)).trans hx
      have hlen : N = (lowl q m l k).length := by rw [lowl_len]; exact HNN.out
      have HLS := Lib.hid (lowl_succ (q := q) (m := m) hx)
      have hrs := HR.out.2.1.2.2
      have hba : Below wr.heap.size wr (wr.alloc (.cells #[.int .i64 (k : Int)] 3)) := (Below.refl _ _).alloc (Nat.le_refl _) _
      have lb1 : (wr.alloc (.cells #[.int .i64 (k : Int)] 3)).cell? ⟨w.heap.size, 0, none⟩ = some (.slice (some ⟨g, 0, none⟩) N cp) := (hba.cell (p := ⟨w.heap.size, 0, none⟩) (show w.heap.size < _ by omega)).trans lbr
      have hgr : g < wr.heap.size := by have := H6.out.2.2.2.2.2; omega
      have nx1 : (wr.alloc (.cells #[.int .i64 (k : Int)] 3)).cell? ⟨g, k * 12 + 2, none⟩ = some (.int .i64 x.n) := (hba.cell (p := ⟨g, k * 12 + 2, none⟩) hgr).trans (erow_cell HR.out.1 hlx hlen (by omega) rfl)
      have HHX := Lib.hid (And.intro hx (And.intro hlx (And.intro hlen (And.intro hba hgr))))
      by_cases h0 : 0 < x.n
      · obtain ⟨F, hF⟩ : ∃ F : Int, (if k = q then m else 0) = F := ⟨_, rfl⟩
        have hFx : F ≤ x.n := by
          rw [← hF]
          split
          · rename_i hkq
            have h9 := HP.out
            unfold atE at h9
            rw [← hkq, hx] at h9
            exact of_decide_eq_true h9
          · omega
        have hwx : x.n ≤ 9223372036854775807 := HWF.out x (List.mem_of_getElem? hx)
        have hlow : low q m k x = { x with n := if F ≤ 0 then 0 else F } := by
          unfold low
          rw [if_pos h0, ← hF]
          by_cases hkq : k = q
          · rw [if_pos hkq, if_pos hkq]
          · rw [if_neg hkq, if_neg hkq]
            rfl
        have hOV : Oth g wr (wr.alloc (.cells #[.int .i64 (k : Int)] 3)).drew := Oth.of (Below.drew hba)
        have hBV : Below g wr (wr.alloc (.cells #[.int .i64 (k : Int)] 3)).drew := (Below.drew hba).mono (Nat.le_of_lt hgr)
        have hoV : (wr.alloc (.cells #[.int .i64 (k : Int)] 3)).drew.ownsRow w4.heap.size 38 12 (.slice (some ⟨g, 0, none⟩) N cp) N (nv (lowl q m l k)) := rkept HR.out.1 (Below.drew hba)
        have ibV : (wr.alloc (.cells #[.int .i64 (k : Int)] 3)).drew.cell? ⟨wr.heap.size, 0, none⟩ = some (.int .i64 (k : Int)) := (Bl.new wr [.int .i64 (k : Int)] 3).cell 0 _ rfl
        have lbV : (wr.alloc (.cells #[.int .i64 (k : Int)] 3)).drew.cell? ⟨w.heap.size, 0, none⟩ = some (.slice (some ⟨g, 0, none⟩) N cp) := lb1
        have nxV : (wr.alloc (.cells #[.int .i64 (k : Int)] 3)).drew.cell? ⟨g, k * 12 + 2, none⟩ = some (.int .i64 x.n) := nx1
        have hk6 : w.heap.size + 1 + 1 < w6.heap.size := by have := H6.out.2.2.2.2.2; have := HGB.out; omega
        have hsV : wr.heap.size < (wr.alloc (.cells #[.int .i64 (k : Int)] 3)).drew.heap.size := by show _ < (wr.alloc (.cells #[.int .i64 (k : Int)] 3)).heap.size; rw [World.size_alloc]; omega
        have kbV : (wr.alloc (.cells #[.int .i64 (k : Int)] 3)).drew.cell? ⟨w.heap.size + 1 + 1, 0, none⟩ = some (.func (.func 26) #[] #[.pointer (some ⟨w.heap.size + 1, 0, none⟩)]) := (hOV.1 ⟨w.heap.size + 1 + 1, 0, none⟩ (show w.heap.size + 1 + 1 < _ by omega) (show w.heap.size + 1 + 1 ≠ g by have := HGB.out; omega)).trans ((HR.out.2.1.1 ⟨w.heap.size + 1 + 1, 0, none⟩ hk6 (show w.heap.size + 1 + 1 ≠ g by have := HGB.out; omega)).trans H6.out.2.1)
        have hAV : Ask13 (w.heap.size + 1) bk bm q m (wr.alloc (.cells #[.int .i64 (k : Int)] 3)).drew := H6.out.2.2.2.2.1.oth (HR.out.2.1.trans hOV) (by have := HGB.out; omega) (by have := HGB.out; have := HBK.out.1; omega) (by have := HGB.out; have := HBK.out.2; omega)
        have hs0 : (fun W => ∃ cur : Int, W.ownsRow w4.heap.size 38 12 (.slice (some ⟨g, 0, none⟩) N cp) N (nv ((lowl q m l k).set k { x with n := cur })) ∧ Oth g (wr.alloc (.cells #[.int .i64 (k : Int)] 3)).drew W ∧ Below g (wr.alloc (.cells #[.int .i64 (k : Int)] 3)).drew W) (wr.alloc (.cells #[.int .i64 (k : Int)] 3)).drew := ⟨x.n, by rw [show (lowl q m l k).set k { x with n := x.n } = lowl q m l k from set_same hlx]; exact hoV, Oth.refl _ _, Below.refl _ _⟩
        have hklt : k < (lowl q m l k).length := by rw [lowl_len, ← HNN.out]; exact hkN
        have hT : ∀ (W : World) (v : Int), (fun W => ∃ cur : Int, W.ownsRow w4.heap.size 38 12 (.slice (some ⟨g, 0, none⟩) N cp) N (nv ((lowl q m l k).set k { x with n := cur })) ∧ Oth g (wr.alloc (.cells #[.int .i64 (k : Int)] 3)).drew W ∧ Below g (wr.alloc (.cells #[.int .i64 (k : Int)] 3)).drew W) W → 0 ≤ v → v ≤ x.n → Calls Try.prog 24 #[.int .i64 v, .pointer (some ⟨w.heap.size, 0, none⟩), .pointer (some ⟨wr.heap.size, 0, none⟩), .pointer (some ⟨w.heap.size + 1 + 1, 0, none⟩)] W fun e w' => e = .returned (.bool (decide (F ≤ v))) ∧ (fun W => ∃ cur : Int, W.ownsRow w4.heap.size 38 12 (.slice (some ⟨g, 0, none⟩) N cp) N (nv ((lowl q m l k).set k { x with n := cur })) ∧ Oth g (wr.alloc (.cells #[.int .i64 (k : Int)] 3)).drew W ∧ Below g (wr.alloc (.cells #[.int .i64 (k : Int)] 3)).drew W) w' := by
          intro W v ⟨cur, ho, hot, hbe⟩ hv0 hvm
          have hA := (hAV.oth (hot.trans (Oth.set g (k * 12 + 2) W (.int .i64 v))) (by have := HGB.out; omega) (by have := HGB.out; have := HBK.out.1; omega) (by have := HGB.out; have := HBK.out.2; omega)).ok
          have hset : ((lowl q m l k).set k { x with n := cur })[k]? = some { x with n := cur } := List.getElem?_set_self hklt
          have h := try_is (atE q m) W w4.heap.size w.heap.size wr.heap.size (w.heap.size + 1 + 1) (w.heap.size + 1) g N cp k v ((lowl q m l k).set k { x with n := cur }) { x with n := cur } ho (by rw [List.length_set]; exact hlen) hl hset ((hot.1 ⟨w.heap.size, 0, none⟩ (show w.heap.size < (wr.alloc (.cells #[.int .i64 (k : Int)] 3)).heap.size by rw [World.size_alloc]; omega) hne).trans lbV) ((hot.1 ⟨wr.heap.size, 0, none⟩ hsV (show wr.heap.size ≠ g by omega)).trans ibV) ((hot.1 ⟨w.heap.size + 1 + 1, 0, none⟩ (show w.heap.size + 1 + 1 < (wr.alloc (.cells #[.int .i64 (k : Int)] 3)).heap.size by rw [World.size_alloc]; omega) (show w.heap.size + 1 + 1 ≠ g by have := HGB.out; omega)).trans kbV) hne (by omega) (by have := HGB.out; omega) hA
          refine h.mono ?_
          rintro e w' ⟨he, hot2, hbe2, ho2⟩
          rw [List.set_set] at he ho2
          refine ⟨?_, v, ho2, hot.trans hot2, hbe.trans hbe2⟩
          rw [he]
          have h7 := lowl_holds HP.out k k x v hx (Nat.le_refl _)
          rw [show ({ ({ x with n := cur } : Evn) with n := v } : Evn) = { x with n := v } from rfl, h7, ← hF]
          by_cases hkq : k = q
          · rw [if_pos hkq, if_pos hkq]
          · rw [if_neg hkq, if_neg hkq, decide_eq_true hv0]
        have HLE := Lib.hid (least_is (fun W => ∃ cur : Int, W.ownsRow w4.heap.size 38 12 (.slice (some ⟨g, 0, none⟩) N cp) N (nv ((lowl q m l k).set k { x with n := cur })) ∧ Oth g (wr.alloc (.cells #[.int .i64 (k : Int)] 3)).drew W ∧ Below g (wr.alloc (.cells #[.int .i64 (k : Int)] 3)).drew W) w.heap.size wr.heap.size (w.heap.size + 1 + 1) F x.n (by omega) hFx hwx (wr.alloc (.cells #[.int .i64 (k : Int)] 3)).drew hs0 hT)
        have HV := Lib.hid (And.intro hOV (And.intro hBV (And.intro hlow (And.intro hklt hgr))))
        have HVB := Lib.hid (show w.heap.size < (wr.alloc (.cells #[.int .i64 (k : Int)] 3)).heap.size ∧ wr.heap.size < (wr.alloc (.cells #[.int .i64 (k : Int)] 3)).heap.size from ⟨by rw [World.size_alloc]; omega, hsV⟩)
        have hgib : wr.heap.size ≠ g := by omega
        clear hF hFx hwx hlow hOV hBV hoV kbV hk6 hAV hs0 hT hx hlx hlen hba hrs hsV
        generalize (if F ≤ 0 then 0 else F) = R at *
        generalize hXN : x.n = XN at HLE nxV nx1 h0
        clear hXN
        go_wp2_with fail
        refine wp_region_held_drew (S := fun w' => w'.cell? ⟨w.heap.size, 0, none⟩ = some (.slice (some ⟨g, 0, none⟩) N cp) ∧ w'.cell? ⟨wr.heap.size, 0, none⟩ = some (.int .i64 (k : Int))) (by kernel_rfl) ⟨lbV, ibV⟩ (fun hHeld => ?_)
        refine wpAnyH_take (i := 0) (oi := { dst := some 27, op := Op.load 24 (Operand.tmp 2), type := 24, pos := "shrink.go:81", after := #[], guard := none }) (v := ?_) rfl (by as_aux_lemma => kernel_rfl) (by as_aux_lemma => kernel_rfl) (by as_aux_lemma => kernel_rfl) (fun _ _ _ h => h) (Or.inl ⟨by rfl, ?_⟩) (by assumption) ?_
        rotate_left
        · intro wq hSw
          have h1 := hSw.1
          go_simp
          try with_reducible rfl
        simp only [Act.put, List.setIfInBounds_toArray, List.set_cons_zero, List.set_cons_succ]
        refine wpAnyH_take (i := 1) (oi := { dst := some 28, op := Op.load 3 (Operand.tmp 7), type := 3, pos := "shrink.go:81", after := #[], guard := none }) (v := ?_) rfl (by as_aux_lemma => kernel_rfl) (by as_aux_lemma => kernel_rfl) (by as_aux_lemma => kernel_rfl) (fun _ _ _ h => h) (Or.inl ⟨by rfl, ?_⟩) (by assumption) ?_
        rotate_left
        · intro wq hSw
          have h2 := hSw.2
          go_simp
          try with_reducible rfl
        simp only [Act.put, List.setIfInBounds_toArray, List.set_cons_zero, List.set_cons_succ]
        refine wpAnyH_take (i := 2) (oi := { dst := some 29, op := Op.load 24 (Operand.tmp 2), type := 24, pos := "shrink.go:81", after := #[], guard := none }) (v := ?_) rfl (by as_aux_lemma => kernel_rfl) (by as_aux_lemma => kernel_rfl) (by as_aux_lemma => kernel_rfl) (fun _ _ _ h => h) (Or.inl ⟨by rfl, ?_⟩) (by assumption) ?_
        rotate_left
        · intro wq hSw
          have h1 := hSw.1
          go_simp
          try with_reducible rfl
        simp only [Act.put, List.setIfInBounds_toArray, List.set_cons_zero, List.set_cons_succ]
        refine wpAnyH_take (i := 3) (oi := { dst := some 30, op := Op.load 3 (Operand.tmp 7), type := 3, pos := "shrink.go:81", after := #[], guard := none }) (v := ?_) rfl (by as_aux_lemma => kernel_rfl) (by as_aux_lemma => kernel_rfl) (by as_aux_lemma => kernel_rfl) (fun _ _ _ h => h) (Or.inl ⟨by rfl, ?_⟩) (by assumption) ?_
        rotate_left
        · intro wq hSw
          have h2 := hSw.2
          go_simp
          try with_reducible rfl
        simp only [Act.put, List.setIfInBounds_toArray, List.set_cons_zero, List.set_cons_succ]
        refine wpAnyH_take (i := 4) (oi := { dst := some 31, op := Op.indexAddr 24 (Operand.tmp 29) (Operand.tmp 30), type := 0, pos := "shrink.go:81", after := #[{ on := 2, ground := Ground.data }, { on := 3, ground := Ground.data }], guard := none }) (v := ?_) rfl (by as_aux_lemma => kernel_rfl) (by as_aux_lemma => kernel_rfl) (by as_aux_lemma => kernel_rfl) (fun _ _ _ h => h) (Or.inl ⟨by rfl, ?_⟩) (by assumption) ?_
        rotate_left
        · intro wq hSw
          go_simp
          try with_reducible rfl
        simp only [Act.put, List.setIfInBounds_toArray, List.set_cons_zero, List.set_cons_succ]
        refine wpAnyH_take (i := 5) (oi := { dst := some 32, op := Op.fieldAddr 38 (Operand.tmp 31) 2, type := 0, pos := "shrink.go:81", after := #[{ on := 4, ground := Ground.data }], guard := none }) (v := ?_) rfl (by as_aux_lemma => kernel_rfl) (by as_aux_lemma => kernel_rfl) (by as_aux_lemma => kernel_rfl) (fun _ _ _ h => h) (Or.inl ⟨by rfl, ?_⟩) (by assumption) ?_
        rotate_left
        · intro wq hSw
          go_simp
          try with_reducible rfl
        simp only [Act.put, List.setIfInBounds_toArray, List.set_cons_zero, List.set_cons_succ]
        refine wpAnyH_take (i := 7) (oi := { dst := some 34, op := Op.makeFunc (Fn.func 24) #[] #[Operand.tmp 2, Operand.tmp 7, Operand.tmp 6], type := 50, pos := "shrink.go:81", after := #[], guard := none }) (v := ?_) rfl (by as_aux_lemma => kernel_rfl) (by as_aux_lemma => kernel_rfl) (by as_aux_lemma => kernel_rfl) (fun _ _ _ h => h) (Or.inl ⟨by rfl, ?_⟩) (by assumption) ?_
        rotate_left
        · intro wq hSw
          go_simp
          try with_reducible rfl
        simp only [Act.put, List.setIfInBounds_toArray, List.set_cons_zero, List.set_cons_succ]
        refine wpAnyH_ready (rs := [6]) (by as_aux_lemma => kernel_rfl) (by simp) ?_
        refine AllReadyH.cons (o := { dst := some 33, op := Op.load 3 (Operand.tmp 32), type := 3, pos := "shrink.go:81", after := #[{ on := 5, ground := Ground.data }], guard := none }) rfl (fun K hK => ?_) AllReadyH.nil
        go_simp
        refine hK.out _ _ hHeld (fun hHeld => ?_)
        clear hK K
        try simp only [Act.put, List.setIfInBounds_toArray, List.set_cons_zero, List.set_cons_succ]
        refine wpAnyH_ready (rs := [8]) (by as_aux_lemma => kernel_rfl) (by simp) ?_
        refine AllReadyH.cons (o := { dst := some 35, op := Op.call { callee := Callee.value (Operand.func 23), args := #[Operand.tmp 33, Operand.tmp 34], argTypes := #[3, 50] }, type := 3, pos := "shrink.go:81", after := #[{ on := 6, ground := Ground.data }, { on := 7, ground := Ground.data }], guard := none }) rfl (fun K hK => ?_) AllReadyH.nil
        go_simp
        go_at_call 23
        refine HLE.out.mono ?_
        rintro e8 w8 ⟨rfl, cur, ho8, hot8, hbe8⟩
        have HH8 := Lib.hid (And.intro ho8 (And.intro hot8 hbe8))
        have c8 : w8.cell? ⟨g, k * 12 + 2, none⟩ = some (.int .i64 cur) := erow_cell (x := { x with n := cur }) ho8 (List.getElem?_set_self HV.out.2.2.2.1) (by rw [List.length_set, lowl_len]; exact HNN.out) (by omega) rfl
        have f8 : w8.frozen? ⟨g, k * 12 + 2, none⟩ = false := World.ownsRow.frozenAt ho8 _
        have hH8 : w8.cell? ⟨w.heap.size, 0, none⟩ = some (.slice (some ⟨g, 0, none⟩) N cp) ∧ w8.cell? ⟨wr.heap.size, 0, none⟩ = some (.int .i64 (k : Int)) := ⟨(hot8.1 ⟨w.heap.size, 0, none⟩ HVB.out.1 hne).trans lbV, (hot8.1 ⟨wr.heap.size, 0, none⟩ HVB.out.2 hgib).trans ibV⟩
        refine hK.out _ _ hH8 (fun hHeld => ?_)
        clear hK K ho8 hot8 hbe8 nxV nx1
        try simp only [Act.put, List.setIfInBounds_toArray, List.set_cons_zero, List.set_cons_succ]
        refine wpAnyH_take (i := 9) (oi := { dst := some 36, op := Op.indexAddr 24 (Operand.tmp 27) (Operand.tmp 28), type := 0, pos := "shrink.go:81", after := #[{ on := 0, ground := Ground.data }, { on := 1, ground := Ground.data }, { on := 0, ground := Ground.phase }, { on := 1, ground := Ground.phase }, { on := 2, ground := Ground.phase }, { on := 3, ground := Ground.phase }, { on := 4, ground := Ground.phase }, { on := 5, ground := Ground.phase }, { on := 6, ground := Ground.phase }, { on := 7, ground := Ground.phase }, { on := 8, ground := Ground.phase }], guard := none }) (v := ?_) rfl (by as_aux_lemma => kernel_rfl) (by as_aux_lemma => kernel_rfl) (by as_aux_lemma => kernel_rfl) (fun _ _ _ h => h) (Or.inl ⟨by rfl, ?_⟩) (by assumption) ?_
        rotate_left
        · intro wq hSw
          go_simp
          try with_reducible rfl
        simp only [Act.put, List.setIfInBounds_toArray, List.set_cons_zero, List.set_cons_succ]
        refine wpAnyH_take (i := 10) (oi := { dst := some 37, op := Op.fieldAddr 38 (Operand.tmp 36) 2, type := 0, pos := "shrink.go:81", after := #[{ on := 9, ground := Ground.data }, { on := 0, ground := Ground.phase }, { on := 1, ground := Ground.phase }, { on := 2, ground := Ground.phase }, { on := 3, ground := Ground.phase }, { on := 4, ground := Ground.phase }, { on := 5, ground := Ground.phase }, { on := 6, ground := Ground.phase }, { on := 7, ground := Ground.phase }, { on := 8, ground := Ground.phase }], guard := none }) (v := ?_) rfl (by as_aux_lemma => kernel_rfl) (by as_aux_lemma => kernel_rfl) (by as_aux_lemma => kernel_rfl) (fun _ _ _ h => h) (Or.inl ⟨by rfl, ?_⟩) (by assumption) ?_
        rotate_left
        · intro wq hSw
          go_simp
          try with_reducible rfl
        simp only [Act.put, List.setIfInBounds_toArray, List.set_cons_zero, List.set_cons_succ]
        refine wpAnyH_ready (rs := [11]) (by as_aux_lemma => kernel_rfl) (by simp) ?_
        refine AllReadyH.cons (o := { dst := none, op := Op.store 3 (Operand.tmp 37) (Operand.tmp 35), type := 0, pos := "shrink.go:81", after := #[{ on := 10, ground := Ground.data }, { on := 8, ground := Ground.data }, { on := 8, ground := Ground.chain }, { on := 0, ground := Ground.phase }, { on := 1, ground := Ground.phase }, { on := 2, ground := Ground.phase }, { on := 3, ground := Ground.phase }, { on := 4, ground := Ground.phase }, { on := 5, ground := Ground.phase }, { on := 6, ground := Ground.phase }, { on := 7, ground := Ground.phase }, { on := 8, ground := Ground.phase }], guard := none }) rfl (fun K hK => ?_) AllReadyH.nil
        go_simp
        refine hK.out _ _ ⟨(World.cell?_setCell_far _ _ _ _ (fun e => hne e.symm)).trans hHeld.1, (World.cell?_setCell_far _ _ _ _ (fun e => hgib e.symm)).trans hHeld.2⟩ (fun hHeld => ?_)
        clear hK K
        try simp only [Act.put, List.setIfInBounds_toArray, List.set_cons_zero, List.set_cons_succ]
        refine wpAnyH_done (by as_aux_lemma => kernel_rfl) ?_ _
        go_wp2_with fail
        go_roundw
        case rel =>
          refine ⟨k + 1, by omega, by go_num, Lib.hid ⟨?_, (HR.out.2.1.trans HV.out.1).trans (HH8.out.2.1.trans (Oth.set g (k * 12 + 2) w8 _)), (HR.out.2.2.trans HV.out.2.1).trans (HH8.out.2.2.setCell (p := ⟨g, k * 12 + 2, none⟩) (Nat.le_refl _) _)⟩⟩
          have h9 := (World.ownsRow.stored HH8.out.1 (k * 12 + 2) (.int .i64 R)).1
          rw [← nv_set R _ k { x with n := cur } (List.getElem?_set_self HV.out.2.2.2.1), List.set_set] at h9
          rw [HLS.out, HV.out.2.2.1]
          exact h9
        case measure => simp [intOf]; omega
      · have HLO := Lib.hid (show low q m k x = x from if_neg h0)
        clear hx hlx hlen hba hrs
        go_wp2_with fail
        go_roundw
        case rel =>
          refine ⟨k + 1, by omega, by go_num, Lib.hid ⟨?_, HR.out.2.1.trans (Oth.of HHX.out.2.2.2.1), HR.out.2.2.trans (HHX.out.2.2.2.1.mono (Nat.le_of_lt HHX.out.2.2.2.2))⟩⟩
          rw [HLS.out, HLO.out, set_same HHX.out.2.1]
          exact rkept HR.out.1 HHX.out.2.2.2.1
        case measure => simp [intOf]; omega
    · obtain rfl : k = N := by omega
      go_wp2_with fail
      go_ret2
      exact ⟨_, rfl, ⟨_, _, _, by rw [lowl_len, ← HNN.out]; rfl, by rw [lowl_len, ← HNN.out]; exact HR.out.1⟩, H6.out.2.2.2.1.trans (HR.out.2.2.mono (by have := HGB.out; omega))⟩
end Go.Proofs.Ytfdjbhlpkfbgnaa
