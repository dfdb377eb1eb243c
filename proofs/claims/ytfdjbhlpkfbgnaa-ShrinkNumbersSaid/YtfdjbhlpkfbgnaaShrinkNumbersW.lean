/-
  Each number is the least that holds; all else stays.
-/
import Derived.Test.YtfdjbhlpkfbgnaaRows
import Derived.Test.YtfdjbhlpkfbgnaaKit
import Derived.Test.YtfdjbhlpkfbgnaaApp
import Derived.Test.YtfdjbhlpkfbgnaaQuiet
import Derived.Test.YtfdjbhlpkfbgnaaShM
import Derived.Test.YtfdjbhlpkfbgnaaShO
import Derived.Test.YtfdjbhlpkfbgnaaShB
import Derived.Test.YtfdjbhlpkfbgnaaShC
import Derived.Test.YtfdjbhlpkfbgnaaShD
import Derived.Test.YtfdjbhlpkfbgnaaShO
import Derived.Test.YtfdjbhlpkfbgnaaShOw
import Derived.Test.YtfdjbhlpkfbgnaaShT
import Derived.Test.YtfdjbhlpkfbgnaaShK
import Derived.Test.YtfdjbhlpkfbgnaaShA
import Derived.Test.YtfdjbhlpkfbgnaaShF
import Derived.Test.YtfdjbhlpkfbgnaaShH
import Derived.Test.YtfdjbhlpkfbgnaaShNa
import Derived.Test.YtfdjbhlpkfbgnaaShNb
import Derived.Test.YtfdjbhlpkfbgnaaShNc
import Derived.Test.YtfdjbhlpkfbgnaaShNd
import Derived.Test.YtfdjbhlpkfbgnaaShZ
import Derived.WalkKit
import Derived.ProofKit
import Derived.OpenShut
import Derived.ShutString
import Derived.Below
import Derived.Outline
import Derived.WalkLawsBesides
import Derived.WalkSpells
import Derived.Handy
import Derived.Deep.QuietTactic
import Derived.BigQuiet
import Derived.RegionTactic
import Derived.ChangeAlike
import Derived.Lib.Hide
import Derived.Laws.Rows
import Derived.Laws.Tables
import Derived.Laws.CopyOwn
import Derived.Laws.MakeOwn
import Derived.Laws.Entries
import Derived.Laws.OwnMore
import Derived.Deep.WholeRow
import Derived.Deep.LoopGhost
import Derived.Deep.AppendLies
import Derived.Deep.Draws
import Derived.Maps.AppendAt
import Derived.OwnWalk
import Derived.Deep.RegionHeld3
import Derived.Deep.Cut
import Derived.Deep.CutRange
import Derived.Deep.DeepCutAuto
import Derived.Deep.CutBlock
import Derived.Lib.SliceRun
import Derived.IntWalk
namespace Go.Proofs.Ytfdjbhlpkfbgnaa.shrinkNumbers
open Go.ChangeShapes Go.WideShapes Go.ChangeAt Go.RowKit
theorem neqEvn (x : Evn) (w : World) : (binOp .neq 38 (.agg (List.toArray [.int .i64 x.k, .int .i64 x.w, .int .i64 x.n, .int .i64 x.ak, .int .i64 x.ai, .int .i64 x.ac, .int .i64 x.an, .int .i64 x.sd, .int .i64 x.ap, .int .i64 x.al, .int .i64 x.au, .int .i64 x.aq])) (.agg (List.toArray [.int .i64 x.k, .int .i64 x.w, .int .i64 x.n, .int .i64 x.ak, .int .i64 x.ai, .int .i64 x.ac, .int .i64 x.an, .int .i64 x.sd, .int .i64 x.ap, .int .i64 x.al, .int .i64 x.au, .int .i64 x.aq]))).run Try.prog w = .ok (.bool false) w := by
  simp only [binOp]
  simp [Op.equal, Op.maxDepth, eqEvn x w]
set_option maxRecDepth 100000 in
set_option maxHeartbeats 2000000 in
theorem numbers_no (w : World) (bk bm q : Nat) (m : Int) (base N c : Nat) (A : Option Addr) (l : List Evn) (ho : w.ownsRow base 38 12 (.slice A N c) N (nv l)) (hN : N = l.length) (hl : N ≤ 60) (hk : w.cell? ⟨bk, 0, none⟩ = some (.int .i64 (q : Int))) (hm : w.cell? ⟨bm, 0, none⟩ = some (.int .i64 m)) (hbk : bk < w.heap.size) (hbm : bm < w.heap.size) (hp : atE q m l = false) : Calls Try.prog 14 #[.slice A N c, (.func (.func 13) #[] #[.pointer (some ⟨bk, 0, none⟩), .pointer (some ⟨bm, 0, none⟩)])] w fun e w' => e = .returned (.tuple #[.slice none 0 0, .bool false]) ∧ Below w.heap.size w w' := by
  have hmf : ∀ (fn : Fn) (first cap : Array Value) (w : World), (Instr.makeFunc fn first cap).run Try.prog w = .ok (.func fn first cap) w := fun _ _ _ _ => rfl
  have HAS := Lib.hid (asker_is (.func 13) #[.pointer (some ⟨bk, 0, none⟩), .pointer (some ⟨bm, 0, none⟩)] (w.alloc (.cells #[.slice A N c] 24)))
  rw [World.size_alloc] at HAS
  obtain ⟨V3, hV3⟩ : ∃ V3, V3 = (((w.alloc (.cells #[.slice A N c] 24)).alloc (.cells #[(.func (.func 13) #[] #[.pointer (some ⟨bk, 0, none⟩), .pointer (some ⟨bm, 0, none⟩)])] 44)).alloc (.cells #[(.func (.func 26) #[] #[.pointer (some ⟨w.heap.size + 1, 0, none⟩)])] 44)) := ⟨_, rfl⟩
  have hb3 : Below w.heap.size w V3 := by rw [hV3]; go_grown
  have hs3 : V3.heap.size = w.heap.size + 3 := by rw [hV3]; simp only [World.size_alloc]
  have hlb : V3.cell? ⟨w.heap.size, 0, none⟩ = some (.slice A N c) := by rw [hV3]; simp [go_sem]
  have hHB : V3.cell? ⟨w.heap.size + 1, 0, none⟩ = some (.func (.func 13) #[] #[.pointer (some ⟨bk, 0, none⟩), .pointer (some ⟨bm, 0, none⟩)]) := by rw [hV3]; simp [go_sem]
  have hkb : V3.cell? ⟨w.heap.size + 1 + 1, 0, none⟩ = some (.func (.func 26) #[] #[.pointer (some ⟨w.heap.size + 1, 0, none⟩)]) := by rw [hV3]; simp [go_sem]
  have hfz : V3.frozen? ⟨w.heap.size, 0, none⟩ = false := by rw [hV3]; simp [go_sem]
  have hA3 : Ask13 (w.heap.size + 1) bk bm q m V3 := ⟨hHB, (hb3.cell (p := ⟨bk, 0, none⟩) hbk).trans hk, (hb3.cell (p := ⟨bm, 0, none⟩) hbm).trans hm, by omega, by omega, by omega⟩
  have ho3 := rkept ho hb3
  have HQ := Lib.hid (hA3.ok V3 base N c A l (Below.refl _ _) ho3 hN hl)
  rw [hp] at HQ
  have HV3 := Lib.hid hV3
  have HX3 := Lib.hid (And.intro hlb (And.intro hkb (And.intro hfz (And.intro hA3 (And.intro hs3 (And.intro ho3 hb3))))))
  have HNN := Lib.hid hN
  have HP := Lib.hid hp
  rw [hV3] at HQ
  have HBK := Lib.hid (And.intro hbk hbm)
  clear hb3 hs3 hlb hHB hkb hfz hA3 ho3 hV3 ho hN hk hm hbk hbm hp
  go_enter Try.func14, Try.ntmps14
  go_wp2_with fail
  refine HAS.out.mono ?_
  rintro e1 w1 ⟨rfl, rfl⟩
  go_wp2_with fail
  refine HQ.out.mono ?_
  rintro e4 w4 ⟨rfl, hb4⟩
  rw [← HV3.out] at hb4
  have HB4 := Lib.hid (Below.step HX3.out.2.2.2.2.2.2 hb4)
  clear hb4 HX3
  go_wp2_with fail
  go_ret2
  exact ⟨rfl, HB4.out⟩
/-- The law's two boxes. -/
def Box (b : Nat) (q : Nat) (m : Int) (w : World) : Prop := w.cell? ⟨b, 0, none⟩ = some (.int .i64 (q : Int)) ∧ w.cell? ⟨b + 1, 0, none⟩ = some (.int .i64 m) ∧ b + 1 < w.heap.size
theorem Box.below {b q : Nat} {m : Int} {w w' : World} (h : Box b q m w) (hb : Below w.heap.size w w') : Box b q m w' :=
  ⟨(hb.cell (p := ⟨b, 0, none⟩) (show b < _ from by have := h.2.2; omega)).trans h.1, (hb.cell (p := ⟨b + 1, 0, none⟩) h.2.2).trans h.2.1, Nat.lt_of_lt_of_le h.2.2 hb.size⟩
set_option maxRecDepth 100000 in
set_option maxHeartbeats 2000000 in
theorem walk (A : Option Addr) (n cp : Nat) (g : Nat → Evn) (at0 m : Int) (w : World) (hh : EvnAt A n g w ∧ ∀ i, i < n → (Lit.int .i64 (g i).n).wf = true) (_ : (Lit.int .i64 at0).wf = true) (_ : (Lit.int .i64 m).wf = true) : Calls Try.prog 4 #[.slice A n cp, .int .i64 at0, .int .i64 m] w fun e w' => e = .returned (.bool true) ∧ Below w.heap.size w w' := by
  have HAW := Lib.hid awake_is
  have hmf : ∀ (fn : Fn) (first cap : Array Value) (w : World), (Instr.makeFunc fn first cap).run Try.prog w = .ok (.func fn first cap) w := fun _ _ _ _ => rfl
  obtain ⟨W2, hW2⟩ : ∃ W2, W2 = (w.alloc (.cells #[.int .i64 at0] 3)).alloc (.cells #[.int .i64 m] 3) := ⟨_, rfl⟩
  have hb2 : Below w.heap.size w W2 := by rw [hW2]; go_grown
  have HB2 := Lib.hid hb2
  have HW2 := Lib.hid hW2
  by_cases hn : n ≤ 60
  · have n0 : ¬ ((60 : Int) < (n : Int)) := by omega
    by_cases ha : 0 ≤ at0
    · have ha2 : ¬ (at0 < 0) := by omega
      by_cases hq : at0 < (n : Int)
      · obtain ⟨q, rfl⟩ : ∃ q : Nat, at0 = (q : Int) := ⟨at0.toNat, by omega⟩
        have hx2 : Box w.heap.size q m W2 := ⟨by rw [hW2]; simp [go_sem], by rw [hW2]; simp [go_sem], by rw [hW2]; simp only [World.size_alloc]; omega⟩
        have hq2 : ¬ ((n : Int) ≤ (q : Int)) := by omega
        have hq3 : ¬ ((q : Int) ≥ (n : Int)) := by omega
        have HALL := Lib.hid (all_is A n cp g (by omega) W2 (hh.1.below hb2))
        have HWF := Lib.hid (show ∀ x ∈ evs g n, x.n ≤ 9223372036854775807 from fun x hx => by
          unfold evs at hx
          obtain ⟨i, hi, rfl⟩ := List.mem_map.1 hx
          have h9 := hh.2 i (List.mem_range.1 hi)
          simp [Lit.wf, show IntKind.i64.min = -9223372036854775808 from by decide, show IntKind.i64.max = 9223372036854775807 from by decide] at h9
          omega)
        have HN := Lib.hid hn
        have HX2 := Lib.hid hx2
        have HE := Lib.hid (evs_len g n)
        rw [hW2] at HALL
        clear hh hb2 hx2 hW2 hn
        generalize evs g n = L at *
        go_enter Try.func4, Try.ntmps4
        go_wp2_with fail
        refine HALL.out.mono ?_
        rintro e3 w3 ⟨A3, c3, rfl, ho3, hb3⟩
        rw [← HW2.out] at ho3 hb3
        have hx3 := HX2.out.below hb3
        have HX3 := Lib.hid hx3
        have HO3 := Lib.hid ho3
        have HB3 := Lib.hid (Below.step HB2.out hb3)
        clear hb3 HALL HX2
        cases hp : atE q m L
        · have HS1 := Lib.hid (numbers_no w3 w.heap.size (w.heap.size + 1) q m W2.heap.size n c3 A3 L ho3 HE.out.symm HN.out hx3.1 hx3.2.1 (by have := hx3.2.2; omega) hx3.2.2 hp)
          have HP := Lib.hid hp
          clear hp hx3 ho3
          go_wp2_with fail
          refine HS1.out.mono ?_
          rintro e4 w4 ⟨rfl, hb4⟩
          have HB4 := Lib.hid (Below.step HB3.out hb4)
          have hx4 := HX3.out.below hb4
          have HC4 := Lib.hid (callee13 w.heap.size (w.heap.size + 1) q m W2.heap.size n c3 A3 L w4 (rkept HO3.out hb4) HE.out.symm HN.out hx4.1 hx4.2.1)
          rw [HP.out] at HC4
          clear hb4 hx4 HS1
          go_wp2_with fail
          refine HC4.out.mono ?_
          rintro e5 w5 ⟨rfl, hb5⟩
          have HB5 := Lib.hid (Below.step HB4.out hb5)
          clear hb5 HC4
          go_wp2_with fail
          refine (HAW.out _).mono ?_
          rintro e7 w7 ⟨rfl, hb7⟩
          have HB7 := Lib.hid (Below.step HB5.out hb7)
          clear hb7
          go_wp2_with fail
          go_ret
          exact ⟨rfl, HB7.out⟩
        · have HS1 := Lib.hid (numbers_yes w3 w.heap.size (w.heap.size + 1) q m W2.heap.size n c3 A3 L ho3 HE.out.symm HN.out hx3.1 hx3.2.1 (by have := hx3.2.2; omega) hx3.2.2 hp HWF.out)
          have HP := Lib.hid hp
          clear hp hx3 ho3
          go_wp2_with fail
          refine HS1.out.mono ?_
          rintro e4 w4 ⟨v4, rfl, ⟨b4, A4, c4, rfl, ho4⟩, hb4⟩
          have HB4 := Lib.hid (Below.step HB3.out hb4)
          have hx4 := HX3.out.below hb4
          have HC4 := Lib.hid (callee13 w.heap.size (w.heap.size + 1) q m W2.heap.size n c3 A3 L w4 (rkept HO3.out hb4) HE.out.symm HN.out hx4.1 hx4.2.1)
          rw [HP.out] at HC4
          have HX4 := Lib.hid hx4
          have HL4 := Lib.hid (rkept HO3.out hb4)
          rw [lowl_len, HE.out] at ho4 ⊢
          have HO4 := Lib.hid ho4
          clear hb4 hx4 ho4 HS1 HX3 HO3
          go_wp2_with fail
          refine HC4.out.mono ?_
          rintro e5 w5 ⟨rfl, hb5⟩
          have HB5 := Lib.hid (Below.step HB4.out hb5)
          have HX5 := Lib.hid (HX4.out.below hb5)
          have HO5 := Lib.hid (rkept HO4.out hb5)
          have HL5 := Lib.hid (rkept HL4.out hb5)
          clear hb5 HC4 HX4 HO4 HL4
          have n1 : (n : Int) ≤ 60 := by have := HN.out; omega
          go_wp2_with fail
          go_loopw [11, 12, 56] (fun _ _ kv wr => ∃ k : Nat, k ≤ n ∧ kv = .int .i64 (k : Int) ∧ Hid (Below w5.heap.size w5 wr)) (fun _ _ kv _ => n + 1 - (intOf kv).toNat)
          case atStart => exact ⟨0, Nat.zero_le _, rfl, Lib.hid (Below.refl _ _)⟩
          case round =>
            obtain ⟨k, hk, rfl, HBR⟩ := hrel
            have k0 : (0 : Int) ≤ (k : Int) := by omega
            by_cases hkn : k < n
            · have k1 : (k : Int) < (n : Int) := by omega
              obtain ⟨y, hy⟩ : ∃ y, L[k]? = some y := ⟨_, List.getElem?_eq_getElem (by rw [HE.out]; exact hkn)⟩
              have hz : (lowl q m L n)[k]? = some (low q m k y) := by rw [lowl_get q m L n k hkn, hy]; rfl
              have hrL := rkept HL5.out HBR.out
              obtain ⟨g3, cp3, hv3, hg3, _⟩ := World.ownsRow.form hrL (by omega)
              obtain ⟨rfl, rfl⟩ : A3 = some ⟨g3, 0, none⟩ ∧ cp3 = c3 := by
                injection hv3 with h1 h2 h3
                exact ⟨h1, h3.symm⟩
              have hle : ∀ (j : Nat) (u : Value), j < 12 → (nc y)[j]? = some u → wr.cell? ⟨g3, k * 12 + j, none⟩ = some u := fun j u hj hu => erow_cell hrL hy HE.out.symm hj hu
              have hrX := rkept HO5.out HBR.out
              obtain ⟨gx, cpx, hvx, _, _⟩ := World.ownsRow.form hrX (by omega)
              obtain ⟨rfl, rfl⟩ : A4 = some ⟨gx, 0, none⟩ ∧ cpx = c4 := by
                injection hvx with h1 h2 h3
                exact ⟨h1, h3.symm⟩
              have hgx : gx < wr.heap.size := (World.ownsRow.lt hrX gx rfl).2
              have hzc : ∀ (j : Nat) (u : Value), (nc (low q m k y))[j]? = some u → wr.cell? ⟨gx, k * 12 + j, none⟩ = some u := fun j u hu => erow_cell hrX hz (by rw [lowl_len]; exact HE.out.symm) (by have := (List.getElem?_eq_some_iff.1 hu).1; rw [nc_len] at this; exact this) hu
              have e0 : wr.cell? ⟨g3, k * 12, none⟩ = some (.int .i64 y.k) := hle 0 _ (by omega) rfl
              have e1 : wr.cell? ⟨g3, k * 12 + 1, none⟩ = some (.int .i64 y.w) := hle 1 _ (by omega) rfl
              have e2 : wr.cell? ⟨g3, k * 12 + 2, none⟩ = some (.int .i64 y.n) := hle 2 _ (by omega) rfl
              have e3 : wr.cell? ⟨g3, k * 12 + 3, none⟩ = some (.int .i64 y.ak) := hle 3 _ (by omega) rfl
              have e4 : wr.cell? ⟨g3, k * 12 + 4, none⟩ = some (.int .i64 y.ai) := hle 4 _ (by omega) rfl
              have e5 : wr.cell? ⟨g3, k * 12 + 5, none⟩ = some (.int .i64 y.ac) := hle 5 _ (by omega) rfl
              have e6 : wr.cell? ⟨g3, k * 12 + 6, none⟩ = some (.int .i64 y.an) := hle 6 _ (by omega) rfl
              have e7 : wr.cell? ⟨g3, k * 12 + 7, none⟩ = some (.int .i64 y.sd) := hle 7 _ (by omega) rfl
              have e8 : wr.cell? ⟨g3, k * 12 + 8, none⟩ = some (.int .i64 y.ap) := hle 8 _ (by omega) rfl
              have e9 : wr.cell? ⟨g3, k * 12 + 9, none⟩ = some (.int .i64 y.al) := hle 9 _ (by omega) rfl
              have e10 : wr.cell? ⟨g3, k * 12 + 10, none⟩ = some (.int .i64 y.au) := hle 10 _ (by omega) rfl
              have e11 : wr.cell? ⟨g3, k * 12 + 11, none⟩ = some (.int .i64 y.aq) := hle 11 _ (by omega) rfl
              have hbx := HX5.out.below HBR.out
              have hbn : Below wr.heap.size wr (wr.alloc (.cells (List.toArray [.int .i64 y.k, .int .i64 y.w, .int .i64 y.n, .int .i64 y.ak, .int .i64 y.ai, .int .i64 y.ac, .int .i64 y.an, .int .i64 y.sd, .int .i64 y.ap, .int .i64 y.al, .int .i64 y.au, .int .i64 y.aq]) 38)) := (Below.refl _ _).alloc (Nat.le_refl _) _
              have HBN := Lib.hid hbn
              have HZC := Lib.hid hzc
              have HGX := Lib.hid hgx
              have HBX := Lib.hid hbx
              have HY := Lib.hid hy
              have bq := hbx.1
              have bmm := hbx.2.1
              clear hbn hzc hgx hbx hy hz hrL hv3 hg3 hle hrX hvx
              by_cases h0 : 0 < y.n
              · by_cases hkq : k = q
                · subst hkq
                  have hmn : m ≤ y.n := by
                    have h9 := HP.out
                    unfold atE at h9
                    rw [HY.out] at h9
                    exact of_decide_eq_true h9
                  obtain ⟨R, hR⟩ : ∃ R : Int, (if m ≤ 0 then 0 else m) = R := ⟨_, rfl⟩
                  have HLO := Lib.hid (show low k m k y = { y with n := R } from by unfold low; rw [if_pos h0, if_pos rfl, hR])
                  have hbB : Below wr.heap.size wr (wr.alloc (.cells (List.toArray [.int .i64 y.k, .int .i64 y.w, .int .i64 0, .int .i64 y.ak, .int .i64 y.ai, .int .i64 y.ac, .int .i64 y.an, .int .i64 y.sd, .int .i64 y.ap, .int .i64 y.al, .int .i64 y.au, .int .i64 y.aq]) 38)) := (Below.refl _ _).alloc (Nat.le_refl _) _
                  have bqB : (wr.alloc (.cells (List.toArray [.int .i64 y.k, .int .i64 y.w, .int .i64 0, .int .i64 y.ak, .int .i64 y.ai, .int .i64 y.ac, .int .i64 y.an, .int .i64 y.sd, .int .i64 y.ap, .int .i64 y.al, .int .i64 y.au, .int .i64 y.aq]) 38)).cell? ⟨w.heap.size, 0, none⟩ = some (.int .i64 (k : Int)) := (hbB.cell (p := ⟨w.heap.size, 0, none⟩) (show w.heap.size < _ by have := HBX.out.2.2; omega)).trans bq
                  have bmB : (wr.alloc (.cells (List.toArray [.int .i64 y.k, .int .i64 y.w, .int .i64 0, .int .i64 y.ak, .int .i64 y.ai, .int .i64 y.ac, .int .i64 y.an, .int .i64 y.sd, .int .i64 y.ap, .int .i64 y.al, .int .i64 y.au, .int .i64 y.aq]) 38)).cell? ⟨w.heap.size + 1, 0, none⟩ = some (.int .i64 m) := (hbB.cell (p := ⟨w.heap.size + 1, 0, none⟩) HBX.out.2.2).trans bmm
                  have nyB : (wr.alloc (.cells (List.toArray [.int .i64 y.k, .int .i64 y.w, .int .i64 0, .int .i64 y.ak, .int .i64 y.ai, .int .i64 y.ac, .int .i64 y.an, .int .i64 y.sd, .int .i64 y.ap, .int .i64 y.al, .int .i64 y.au, .int .i64 y.aq]) 38)).cell? ⟨g3, k * 12 + 2, none⟩ = some (.int .i64 y.n) := (hbB.cell (p := ⟨g3, k * 12 + 2, none⟩) (cell_lt0 e2)).trans e2
                  have HRL := Lib.hid (show ∀ W, Calls Try.prog 15 #[.int .i64 y.n, .int .i64 m] W (fun e w' => e = .returned (.int .i64 R) ∧ Below W.heap.size W w') from fun W => (ref_least y.n m W).mono fun e w' hh2 => ⟨by rw [hh2.1, ← hR, if_neg (show ¬ (y.n < m) by omega)], hh2.2⟩)
                  have HBB := Lib.hid hbB
                  clear hbB hR hmn
                  go_wp2_with fail
                  refine wp_region_held_drew (S := fun w' => w'.cell? ⟨g3, k * 12 + 2, none⟩ = some (.int .i64 y.n) ∧ w'.cell? ⟨w.heap.size + 1, 0, none⟩ = some (.int .i64 m)) (by kernel_rfl) ⟨nyB, bmB⟩ (fun hHeld => ?_)
                  refine wpAnyH_take (i := 0) (oi := { dst := some 68, op := Op.move (Operand.tmp 7), type := 24, pos := "law.go:96", after := #[], guard := none }) (v := ?_) rfl (by as_aux_lemma => kernel_rfl) (by as_aux_lemma => kernel_rfl) (by as_aux_lemma => kernel_rfl) (fun _ _ _ h => h) (Or.inl ⟨by rfl, ?_⟩) (by assumption) ?_
                  rotate_left
                  · intro wq hSw
                    go_simp
                    try with_reducible rfl
                  simp only [Act.put, List.setIfInBounds_toArray, List.set_cons_zero, List.set_cons_succ]
                  refine wpAnyH_take (i := 1) (oi := { dst := some 69, op := Op.move (Operand.tmp 11), type := 3, pos := "law.go:96", after := #[], guard := none }) (v := ?_) rfl (by as_aux_lemma => kernel_rfl) (by as_aux_lemma => kernel_rfl) (by as_aux_lemma => kernel_rfl) (fun _ _ _ h => h) (Or.inl ⟨by rfl, ?_⟩) (by assumption) ?_
                  rotate_left
                  · intro wq hSw
                    go_simp
                    try with_reducible rfl
                  simp only [Act.put, List.setIfInBounds_toArray, List.set_cons_zero, List.set_cons_succ]
                  refine wpAnyH_take (i := 2) (oi := { dst := some 70, op := Op.indexAddr 24 (Operand.tmp 68) (Operand.tmp 69), type := 0, pos := "law.go:96", after := #[{ on := 0, ground := Ground.data }, { on := 1, ground := Ground.data }], guard := none }) (v := ?_) rfl (by as_aux_lemma => kernel_rfl) (by as_aux_lemma => kernel_rfl) (by as_aux_lemma => kernel_rfl) (fun _ _ _ h => h) (Or.inl ⟨by rfl, ?_⟩) (by assumption) ?_
                  rotate_left
                  · intro wq hSw
                    go_simp
                    try with_reducible rfl
                  simp only [Act.put, List.setIfInBounds_toArray, List.set_cons_zero, List.set_cons_succ]
                  refine wpAnyH_take (i := 3) (oi := { dst := some 71, op := Op.fieldAddr 38 (Operand.tmp 70) 2, type := 0, pos := "law.go:96", after := #[{ on := 2, ground := Ground.data }], guard := none }) (v := ?_) rfl (by as_aux_lemma => kernel_rfl) (by as_aux_lemma => kernel_rfl) (by as_aux_lemma => kernel_rfl) (fun _ _ _ h => h) (Or.inl ⟨by rfl, ?_⟩) (by assumption) ?_
                  rotate_left
                  · intro wq hSw
                    go_simp
                    try with_reducible rfl
                  simp only [Act.put, List.setIfInBounds_toArray, List.set_cons_zero, List.set_cons_succ]
                  refine wpAnyH_take (i := 4) (oi := { dst := some 72, op := Op.load 3 (Operand.tmp 71), type := 3, pos := "law.go:96", after := #[{ on := 3, ground := Ground.data }], guard := none }) (v := ?_) rfl (by as_aux_lemma => kernel_rfl) (by as_aux_lemma => kernel_rfl) (by as_aux_lemma => kernel_rfl) (fun _ _ _ h => h) (Or.inl ⟨by rfl, ?_⟩) (by assumption) ?_
                  rotate_left
                  · intro wq hSw
                    have h1 := hSw.1
                    go_simp
                    try with_reducible rfl
                  simp only [Act.put, List.setIfInBounds_toArray, List.set_cons_zero, List.set_cons_succ]
                  refine wpAnyH_take (i := 5) (oi := { dst := some 73, op := Op.load 3 (Operand.tmp 5), type := 3, pos := "law.go:96", after := #[], guard := none }) (v := ?_) rfl (by as_aux_lemma => kernel_rfl) (by as_aux_lemma => kernel_rfl) (by as_aux_lemma => kernel_rfl) (fun _ _ _ h => h) (Or.inl ⟨by rfl, ?_⟩) (by assumption) ?_
                  rotate_left
                  · intro wq hSw
                    have h2 := hSw.2
                    go_simp
                    try with_reducible rfl
                  simp only [Act.put, List.setIfInBounds_toArray, List.set_cons_zero, List.set_cons_succ]
                  refine wpAnyH_ready (rs := [6]) (by as_aux_lemma => kernel_rfl) (by simp) ?_
                  refine AllReadyH.cons (o := { dst := some 74, op := Op.call { callee := Callee.value (Operand.func 15), args := #[Operand.tmp 72, Operand.tmp 73], argTypes := #[3, 3] }, type := 3, pos := "law.go:96", after := #[{ on := 4, ground := Ground.data }, { on := 5, ground := Ground.data }], guard := none }) rfl (fun K hK => ?_) AllReadyH.nil
                  go_simp
                  go_at_call 15
                  refine (HRL.out _).mono ?_
                  rintro ea wa ⟨rfl, hba⟩
                  have hbl := ((Bl.new wr (nc ({ y with n := 0 } : Evn)) 38).below (Below.drew (Below.refl _ _))).below hba
                  have c2 : wa.cell? ⟨wr.heap.size, 2, none⟩ = some (.int .i64 0) := hbl.cell 2 _ rfl
                  have f2 : wa.frozen? ⟨wr.heap.size, 2, none⟩ = false := hbl.frz 2
                  have hS2 : wa.cell? ⟨g3, k * 12 + 2, none⟩ = some (.int .i64 y.n) ∧ wa.cell? ⟨w.heap.size + 1, 0, none⟩ = some (.int .i64 m) := ⟨(hba.cell (p := ⟨g3, k * 12 + 2, none⟩) (cell_lt0 hHeld.1)).trans hHeld.1, (hba.cell (p := ⟨w.heap.size + 1, 0, none⟩) (cell_lt0 hHeld.2)).trans hHeld.2⟩
                  have HBA := Lib.hid (Below.step (Below.drew HBB.out) hba)
                  have HBL := Lib.hid (show Bl wr.heap.size (nc ({ y with n := R } : Evn)) (wa.setCell ⟨wr.heap.size, 2, none⟩ (.int .i64 R)) from hbl.set 2 (.int .i64 R))
                  have n3 : wr.heap.size ≠ g3 := Nat.ne_of_gt (cell_lt0 e2)
                  have n4 : wr.heap.size ≠ w.heap.size + 1 := Nat.ne_of_gt HBX.out.2.2
                  refine hK.out _ _ hS2 (fun hHeld => ?_)
                  clear hK K hba hbl
                  try simp only [Act.put, List.setIfInBounds_toArray, List.set_cons_zero, List.set_cons_succ]
                  refine wpAnyH_take (i := 7) (oi := { dst := some 75, op := Op.fieldAddr 38 (Operand.tmp 12) 2, type := 0, pos := "law.go:96", after := #[{ on := 0, ground := Ground.phase }, { on := 1, ground := Ground.phase }, { on := 2, ground := Ground.phase }, { on := 3, ground := Ground.phase }, { on := 4, ground := Ground.phase }, { on := 5, ground := Ground.phase }, { on := 6, ground := Ground.phase }], guard := none }) (v := ?_) rfl (by as_aux_lemma => kernel_rfl) (by as_aux_lemma => kernel_rfl) (by as_aux_lemma => kernel_rfl) (fun _ _ _ h => h) (Or.inl ⟨by rfl, ?_⟩) (by assumption) ?_
                  rotate_left
                  · intro wq hSw
                    go_simp
                    try with_reducible rfl
                  simp only [Act.put, List.setIfInBounds_toArray, List.set_cons_zero, List.set_cons_succ]
                  refine wpAnyH_ready (rs := [8]) (by as_aux_lemma => kernel_rfl) (by simp) ?_
                  refine AllReadyH.cons (o := { dst := none, op := Op.store 3 (Operand.tmp 75) (Operand.tmp 74), type := 0, pos := "law.go:96", after := #[{ on := 7, ground := Ground.data }, { on := 6, ground := Ground.data }, { on := 6, ground := Ground.chain }, { on := 0, ground := Ground.phase }, { on := 1, ground := Ground.phase }, { on := 2, ground := Ground.phase }, { on := 3, ground := Ground.phase }, { on := 4, ground := Ground.phase }, { on := 5, ground := Ground.phase }, { on := 6, ground := Ground.phase }], guard := none }) rfl (fun K hK => ?_) AllReadyH.nil
                  go_simp
                  refine hK.out _ _ ⟨(World.cell?_setCell_far _ _ _ _ n3).trans hHeld.1, (World.cell?_setCell_far _ _ _ _ n4).trans hHeld.2⟩ (fun hHeld => ?_)
                  clear hK K
                  try simp only [Act.put, List.setIfInBounds_toArray, List.set_cons_zero, List.set_cons_succ]
                  refine wpAnyH_done (by as_aux_lemma => kernel_rfl) ?_ _
                  have HBZ := Lib.hid (HBA.out.setCell (p := ⟨wr.heap.size, 2, none⟩) (Nat.le_refl _) (.int .i64 R))
                  clear c2 f2 hS2 hHeld HBA
                  generalize wa.setCell ⟨wr.heap.size, 2, none⟩ (.int .i64 R) = wz at *
                  have hS : (∀ (j : Nat) (u : Value), (nc ({ y with n := R } : Evn))[j]? = some u → wz.drew.cell? ⟨gx, k * 12 + j, none⟩ = some u) ∧ (∀ (j : Nat) (u : Value), (nc ({ y with n := R } : Evn))[j]? = some u → wz.drew.cell? ⟨wr.heap.size, j, none⟩ = some u) := ⟨fun j u hu => (HBZ.out.cell (p := ⟨gx, k * 12 + j, none⟩) HGX.out).trans (HZC.out j u (by rw [HLO.out]; exact hu)), fun j u hu => HBL.out.cell j u hu⟩
                  have HSS := Lib.hid hS
                  clear hS
                  go_wp2_with fail
                  refine wp_region_held_drew (S := fun w' => (∀ (j : Nat) (u : Value), (nc ({ y with n := R } : Evn))[j]? = some u → w'.cell? ⟨gx, k * 12 + j, none⟩ = some u) ∧ (∀ (j : Nat) (u : Value), (nc ({ y with n := R } : Evn))[j]? = some u → w'.cell? ⟨wr.heap.size, j, none⟩ = some u)) (by kernel_rfl) HSS.out (fun hHeld => ?_)
                  refine wpAnyH_take (i := 0) (oi := { dst := some 76, op := Op.move (Operand.tmp 9), type := 24, pos := "law.go:99", after := #[], guard := none }) (v := ?_) rfl (by as_aux_lemma => kernel_rfl) (by as_aux_lemma => kernel_rfl) (by as_aux_lemma => kernel_rfl) (fun _ _ _ h => h) (Or.inl ⟨by rfl, ?_⟩) (by assumption) ?_
                  rotate_left
                  · intro wq hSw
                    go_simp
                    try with_reducible rfl
                  simp only [Act.put, List.setIfInBounds_toArray, List.set_cons_zero, List.set_cons_succ]
                  refine wpAnyH_take (i := 1) (oi := { dst := some 77, op := Op.move (Operand.tmp 11), type := 3, pos := "law.go:99", after := #[], guard := none }) (v := ?_) rfl (by as_aux_lemma => kernel_rfl) (by as_aux_lemma => kernel_rfl) (by as_aux_lemma => kernel_rfl) (fun _ _ _ h => h) (Or.inl ⟨by rfl, ?_⟩) (by assumption) ?_
                  rotate_left
                  · intro wq hSw
                    go_simp
                    try with_reducible rfl
                  simp only [Act.put, List.setIfInBounds_toArray, List.set_cons_zero, List.set_cons_succ]
                  refine wpAnyH_take (i := 2) (oi := { dst := some 78, op := Op.indexAddr 24 (Operand.tmp 76) (Operand.tmp 77), type := 0, pos := "law.go:99", after := #[{ on := 0, ground := Ground.data }, { on := 1, ground := Ground.data }], guard := none }) (v := ?_) rfl (by as_aux_lemma => kernel_rfl) (by as_aux_lemma => kernel_rfl) (by as_aux_lemma => kernel_rfl) (fun _ _ _ h => h) (Or.inl ⟨by rfl, ?_⟩) (by assumption) ?_
                  rotate_left
                  · intro wq hSw
                    go_simp
                    try with_reducible rfl
                  simp only [Act.put, List.setIfInBounds_toArray, List.set_cons_zero, List.set_cons_succ]
                  refine wpAnyH_take (i := 3) (oi := { dst := some 79, op := Op.load 38 (Operand.tmp 78), type := 38, pos := "law.go:99", after := #[{ on := 2, ground := Ground.data }], guard := none }) (v := ?_) rfl (by as_aux_lemma => kernel_rfl) (by as_aux_lemma => kernel_rfl) (by as_aux_lemma => kernel_rfl) (fun _ _ _ h => h) (Or.inl ⟨by rfl, ?_⟩) (by assumption) ?_
                  rotate_left
                  · intro wq hSw
                    have c0 : wq.cell? ⟨gx, k * 12, none⟩ = some (.int .i64 y.k) := hSw.1 0 _ rfl
                    have c1 : wq.cell? ⟨gx, k * 12 + 1, none⟩ = some (.int .i64 y.w) := hSw.1 1 _ rfl
                    have c2 : wq.cell? ⟨gx, k * 12 + 2, none⟩ = some (.int .i64 R) := hSw.1 2 _ rfl
                    have c3 : wq.cell? ⟨gx, k * 12 + 3, none⟩ = some (.int .i64 y.ak) := hSw.1 3 _ rfl
                    have c4 : wq.cell? ⟨gx, k * 12 + 4, none⟩ = some (.int .i64 y.ai) := hSw.1 4 _ rfl
                    have c5 : wq.cell? ⟨gx, k * 12 + 5, none⟩ = some (.int .i64 y.ac) := hSw.1 5 _ rfl
                    have c6 : wq.cell? ⟨gx, k * 12 + 6, none⟩ = some (.int .i64 y.an) := hSw.1 6 _ rfl
                    have c7 : wq.cell? ⟨gx, k * 12 + 7, none⟩ = some (.int .i64 y.sd) := hSw.1 7 _ rfl
                    have c8 : wq.cell? ⟨gx, k * 12 + 8, none⟩ = some (.int .i64 y.ap) := hSw.1 8 _ rfl
                    have c9 : wq.cell? ⟨gx, k * 12 + 9, none⟩ = some (.int .i64 y.al) := hSw.1 9 _ rfl
                    have c10 : wq.cell? ⟨gx, k * 12 + 10, none⟩ = some (.int .i64 y.au) := hSw.1 10 _ rfl
                    have c11 : wq.cell? ⟨gx, k * 12 + 11, none⟩ = some (.int .i64 y.aq) := hSw.1 11 _ rfl
                    go_simp
                    try with_reducible rfl
                  simp only [Act.put, List.setIfInBounds_toArray, List.set_cons_zero, List.set_cons_succ]
                  refine wpAnyH_take (i := 4) (oi := { dst := some 80, op := Op.load 38 (Operand.tmp 12), type := 38, pos := "law.go:99", after := #[], guard := none }) (v := ?_) rfl (by as_aux_lemma => kernel_rfl) (by as_aux_lemma => kernel_rfl) (by as_aux_lemma => kernel_rfl) (fun _ _ _ h => h) (Or.inl ⟨by rfl, ?_⟩) (by assumption) ?_
                  rotate_left
                  · intro wq hSw
                    have c0 : wq.cell? ⟨wr.heap.size, 0, none⟩ = some (.int .i64 y.k) := hSw.2 0 _ rfl
                    have c1 : wq.cell? ⟨wr.heap.size, 1, none⟩ = some (.int .i64 y.w) := hSw.2 1 _ rfl
                    have c2 : wq.cell? ⟨wr.heap.size, 2, none⟩ = some (.int .i64 R) := hSw.2 2 _ rfl
                    have c3 : wq.cell? ⟨wr.heap.size, 3, none⟩ = some (.int .i64 y.ak) := hSw.2 3 _ rfl
                    have c4 : wq.cell? ⟨wr.heap.size, 4, none⟩ = some (.int .i64 y.ai) := hSw.2 4 _ rfl
                    have c5 : wq.cell? ⟨wr.heap.size, 5, none⟩ = some (.int .i64 y.ac) := hSw.2 5 _ rfl
                    have c6 : wq.cell? ⟨wr.heap.size, 6, none⟩ = some (.int .i64 y.an) := hSw.2 6 _ rfl
                    have c7 : wq.cell? ⟨wr.heap.size, 7, none⟩ = some (.int .i64 y.sd) := hSw.2 7 _ rfl
                    have c8 : wq.cell? ⟨wr.heap.size, 8, none⟩ = some (.int .i64 y.ap) := hSw.2 8 _ rfl
                    have c9 : wq.cell? ⟨wr.heap.size, 9, none⟩ = some (.int .i64 y.al) := hSw.2 9 _ rfl
                    have c10 : wq.cell? ⟨wr.heap.size, 10, none⟩ = some (.int .i64 y.au) := hSw.2 10 _ rfl
                    have c11 : wq.cell? ⟨wr.heap.size, 11, none⟩ = some (.int .i64 y.aq) := hSw.2 11 _ rfl
                    go_simp
                    try with_reducible rfl
                  simp only [Act.put, List.setIfInBounds_toArray, List.set_cons_zero, List.set_cons_succ]
                  refine wpAnyH_take (i := 5) (oi := { dst := some 81, op := Op.binOp BinOp.neq 38 (Operand.tmp 79) (Operand.tmp 80) 38, type := 4, pos := "law.go:99", after := #[{ on := 3, ground := Ground.data }, { on := 4, ground := Ground.data }], guard := none }) (v := .bool false) rfl (by as_aux_lemma => kernel_rfl) (by as_aux_lemma => kernel_rfl) (by as_aux_lemma => kernel_rfl) (fun _ _ _ h => h) (Or.inl ⟨by rfl, ?_⟩) (by assumption) ?_
                  · intro wq hSw
                    have hne := neqEvn ({ y with n := R } : Evn) wq
                    dsimp only at hne
                    go_simp
                    try with_reducible rfl
                  simp only [Act.put, List.setIfInBounds_toArray, List.set_cons_zero, List.set_cons_succ]
                  refine wpAnyH_done (by as_aux_lemma => kernel_rfl) ?_ _
                  go_wp2_with fail
                  go_roundw
                  case rel => exact ⟨k + 1, by omega, by go_num, Lib.hid (Below.drew (Below.step HBR.out HBZ.out))⟩
                  case measure => simp [intOf]; omega
                · have hkq2 : ¬ ((k : Int) = (q : Int)) := by omega
                  have HLO := Lib.hid (show low q m k y = { y with n := 0 } from by unfold low; rw [if_pos h0, if_neg hkq])
                  have hbB : Below wr.heap.size wr (wr.alloc (.cells (List.toArray [.int .i64 y.k, .int .i64 y.w, .int .i64 0, .int .i64 y.ak, .int .i64 y.ai, .int .i64 y.ac, .int .i64 y.an, .int .i64 y.sd, .int .i64 y.ap, .int .i64 y.al, .int .i64 y.au, .int .i64 y.aq]) 38)) := (Below.refl _ _).alloc (Nat.le_refl _) _
                  have HBB := Lib.hid hbB
                  have bqB : (wr.alloc (.cells (List.toArray [.int .i64 y.k, .int .i64 y.w, .int .i64 0, .int .i64 y.ak, .int .i64 y.ai, .int .i64 y.ac, .int .i64 y.an, .int .i64 y.sd, .int .i64 y.ap, .int .i64 y.al, .int .i64 y.au, .int .i64 y.aq]) 38)).cell? ⟨w.heap.size, 0, none⟩ = some (.int .i64 (q : Int)) := (hbB.cell (p := ⟨w.heap.size, 0, none⟩) (show w.heap.size < _ by have := HBX.out.2.2; omega)).trans bq
                  clear hbB
                  have hS : (∀ (j : Nat) (u : Value), (nc ({ y with n := 0 } : Evn))[j]? = some u → (wr.alloc (.cells (List.toArray [.int .i64 y.k, .int .i64 y.w, .int .i64 0, .int .i64 y.ak, .int .i64 y.ai, .int .i64 y.ac, .int .i64 y.an, .int .i64 y.sd, .int .i64 y.ap, .int .i64 y.al, .int .i64 y.au, .int .i64 y.aq]) 38)).drew.cell? ⟨gx, k * 12 + j, none⟩ = some u) ∧ (∀ (j : Nat) (u : Value), (nc ({ y with n := 0 } : Evn))[j]? = some u → (wr.alloc (.cells (List.toArray [.int .i64 y.k, .int .i64 y.w, .int .i64 0, .int .i64 y.ak, .int .i64 y.ai, .int .i64 y.ac, .int .i64 y.an, .int .i64 y.sd, .int .i64 y.ap, .int .i64 y.al, .int .i64 y.au, .int .i64 y.aq]) 38)).drew.cell? ⟨wr.heap.size, j, none⟩ = some u) := ⟨fun j u hu => (HBB.out.cell (p := ⟨gx, k * 12 + j, none⟩) HGX.out).trans (HZC.out j u (by rw [HLO.out]; exact hu)), fun j u hu => (Bl.new wr (nc ({ y with n := 0 } : Evn)) 38).cell j u hu⟩
                  have HSS := Lib.hid hS
                  clear hS
                  go_wp2_with fail
                  refine wp_region_held_drew (S := fun w' => (∀ (j : Nat) (u : Value), (nc ({ y with n := 0 } : Evn))[j]? = some u → w'.cell? ⟨gx, k * 12 + j, none⟩ = some u) ∧ (∀ (j : Nat) (u : Value), (nc ({ y with n := 0 } : Evn))[j]? = some u → w'.cell? ⟨wr.heap.size, j, none⟩ = some u)) (by kernel_rfl) HSS.out (fun hHeld => ?_)
                  refine wpAnyH_take (i := 0) (oi := { dst := some 76, op := Op.move (Operand.tmp 9), type := 24, pos := "law.go:99", after := #[], guard := none }) (v := ?_) rfl (by as_aux_lemma => kernel_rfl) (by as_aux_lemma => kernel_rfl) (by as_aux_lemma => kernel_rfl) (fun _ _ _ h => h) (Or.inl ⟨by rfl, ?_⟩) (by assumption) ?_
                  rotate_left
                  · intro wq hSw
                    go_simp
                    try with_reducible rfl
                  simp only [Act.put, List.setIfInBounds_toArray, List.set_cons_zero, List.set_cons_succ]
                  refine wpAnyH_take (i := 1) (oi := { dst := some 77, op := Op.move (Operand.tmp 11), type := 3, pos := "law.go:99", after := #[], guard := none }) (v := ?_) rfl (by as_aux_lemma => kernel_rfl) (by as_aux_lemma => kernel_rfl) (by as_aux_lemma => kernel_rfl) (fun _ _ _ h => h) (Or.inl ⟨by rfl, ?_⟩) (by assumption) ?_
                  rotate_left
                  · intro wq hSw
                    go_simp
                    try with_reducible rfl
                  simp only [Act.put, List.setIfInBounds_toArray, List.set_cons_zero, List.set_cons_succ]
                  refine wpAnyH_take (i := 2) (oi := { dst := some 78, op := Op.indexAddr 24 (Operand.tmp 76) (Operand.tmp 77), type := 0, pos := "law.go:99", after := #[{ on := 0, ground := Ground.data }, { on := 1, ground := Ground.data }], guard := none }) (v := ?_) rfl (by as_aux_lemma => kernel_rfl) (by as_aux_lemma => kernel_rfl) (by as_aux_lemma => kernel_rfl) (fun _ _ _ h => h) (Or.inl ⟨by rfl, ?_⟩) (by assumption) ?_
                  rotate_left
                  · intro wq hSw
                    go_simp
                    try with_reducible rfl
                  simp only [Act.put, List.setIfInBounds_toArray, List.set_cons_zero, List.set_cons_succ]
                  refine wpAnyH_take (i := 3) (oi := { dst := some 79, op := Op.load 38 (Operand.tmp 78), type := 38, pos := "law.go:99", after := #[{ on := 2, ground := Ground.data }], guard := none }) (v := ?_) rfl (by as_aux_lemma => kernel_rfl) (by as_aux_lemma => kernel_rfl) (by as_aux_lemma => kernel_rfl) (fun _ _ _ h => h) (Or.inl ⟨by rfl, ?_⟩) (by assumption) ?_
                  rotate_left
                  · intro wq hSw
                    have c0 : wq.cell? ⟨gx, k * 12, none⟩ = some (.int .i64 y.k) := hSw.1 0 _ rfl
                    have c1 : wq.cell? ⟨gx, k * 12 + 1, none⟩ = some (.int .i64 y.w) := hSw.1 1 _ rfl
                    have c2 : wq.cell? ⟨gx, k * 12 + 2, none⟩ = some (.int .i64 0) := hSw.1 2 _ rfl
                    have c3 : wq.cell? ⟨gx, k * 12 + 3, none⟩ = some (.int .i64 y.ak) := hSw.1 3 _ rfl
                    have c4 : wq.cell? ⟨gx, k * 12 + 4, none⟩ = some (.int .i64 y.ai) := hSw.1 4 _ rfl
                    have c5 : wq.cell? ⟨gx, k * 12 + 5, none⟩ = some (.int .i64 y.ac) := hSw.1 5 _ rfl
                    have c6 : wq.cell? ⟨gx, k * 12 + 6, none⟩ = some (.int .i64 y.an) := hSw.1 6 _ rfl
                    have c7 : wq.cell? ⟨gx, k * 12 + 7, none⟩ = some (.int .i64 y.sd) := hSw.1 7 _ rfl
                    have c8 : wq.cell? ⟨gx, k * 12 + 8, none⟩ = some (.int .i64 y.ap) := hSw.1 8 _ rfl
                    have c9 : wq.cell? ⟨gx, k * 12 + 9, none⟩ = some (.int .i64 y.al) := hSw.1 9 _ rfl
                    have c10 : wq.cell? ⟨gx, k * 12 + 10, none⟩ = some (.int .i64 y.au) := hSw.1 10 _ rfl
                    have c11 : wq.cell? ⟨gx, k * 12 + 11, none⟩ = some (.int .i64 y.aq) := hSw.1 11 _ rfl
                    go_simp
                    try with_reducible rfl
                  simp only [Act.put, List.setIfInBounds_toArray, List.set_cons_zero, List.set_cons_succ]
                  refine wpAnyH_take (i := 4) (oi := { dst := some 80, op := Op.load 38 (Operand.tmp 12), type := 38, pos := "law.go:99", after := #[], guard := none }) (v := ?_) rfl (by as_aux_lemma => kernel_rfl) (by as_aux_lemma => kernel_rfl) (by as_aux_lemma => kernel_rfl) (fun _ _ _ h => h) (Or.inl ⟨by rfl, ?_⟩) (by assumption) ?_
                  rotate_left
                  · intro wq hSw
                    have c0 : wq.cell? ⟨wr.heap.size, 0, none⟩ = some (.int .i64 y.k) := hSw.2 0 _ rfl
                    have c1 : wq.cell? ⟨wr.heap.size, 1, none⟩ = some (.int .i64 y.w) := hSw.2 1 _ rfl
                    have c2 : wq.cell? ⟨wr.heap.size, 2, none⟩ = some (.int .i64 0) := hSw.2 2 _ rfl
                    have c3 : wq.cell? ⟨wr.heap.size, 3, none⟩ = some (.int .i64 y.ak) := hSw.2 3 _ rfl
                    have c4 : wq.cell? ⟨wr.heap.size, 4, none⟩ = some (.int .i64 y.ai) := hSw.2 4 _ rfl
                    have c5 : wq.cell? ⟨wr.heap.size, 5, none⟩ = some (.int .i64 y.ac) := hSw.2 5 _ rfl
                    have c6 : wq.cell? ⟨wr.heap.size, 6, none⟩ = some (.int .i64 y.an) := hSw.2 6 _ rfl
                    have c7 : wq.cell? ⟨wr.heap.size, 7, none⟩ = some (.int .i64 y.sd) := hSw.2 7 _ rfl
                    have c8 : wq.cell? ⟨wr.heap.size, 8, none⟩ = some (.int .i64 y.ap) := hSw.2 8 _ rfl
                    have c9 : wq.cell? ⟨wr.heap.size, 9, none⟩ = some (.int .i64 y.al) := hSw.2 9 _ rfl
                    have c10 : wq.cell? ⟨wr.heap.size, 10, none⟩ = some (.int .i64 y.au) := hSw.2 10 _ rfl
                    have c11 : wq.cell? ⟨wr.heap.size, 11, none⟩ = some (.int .i64 y.aq) := hSw.2 11 _ rfl
                    go_simp
                    try with_reducible rfl
                  simp only [Act.put, List.setIfInBounds_toArray, List.set_cons_zero, List.set_cons_succ]
                  refine wpAnyH_take (i := 5) (oi := { dst := some 81, op := Op.binOp BinOp.neq 38 (Operand.tmp 79) (Operand.tmp 80) 38, type := 4, pos := "law.go:99", after := #[{ on := 3, ground := Ground.data }, { on := 4, ground := Ground.data }], guard := none }) (v := .bool false) rfl (by as_aux_lemma => kernel_rfl) (by as_aux_lemma => kernel_rfl) (by as_aux_lemma => kernel_rfl) (fun _ _ _ h => h) (Or.inl ⟨by rfl, ?_⟩) (by assumption) ?_
                  · intro wq hSw
                    have hne := neqEvn ({ y with n := 0 } : Evn) wq
                    dsimp only at hne
                    go_simp
                    try with_reducible rfl
                  simp only [Act.put, List.setIfInBounds_toArray, List.set_cons_zero, List.set_cons_succ]
                  refine wpAnyH_done (by as_aux_lemma => kernel_rfl) ?_ _
                  go_wp2_with fail
                  go_roundw
                  case rel => exact ⟨k + 1, by omega, by go_num, Lib.hid (Below.drew (Below.step HBR.out HBB.out))⟩
                  case measure => simp [intOf]; omega
              · have HLO := Lib.hid (show low q m k y = y from if_neg h0)
                have hS : (∀ (j : Nat) (u : Value), (nc y)[j]? = some u → (wr.alloc (.cells (List.toArray [.int .i64 y.k, .int .i64 y.w, .int .i64 y.n, .int .i64 y.ak, .int .i64 y.ai, .int .i64 y.ac, .int .i64 y.an, .int .i64 y.sd, .int .i64 y.ap, .int .i64 y.al, .int .i64 y.au, .int .i64 y.aq]) 38)).drew.cell? ⟨gx, k * 12 + j, none⟩ = some u) ∧ (∀ (j : Nat) (u : Value), (nc y)[j]? = some u → (wr.alloc (.cells (List.toArray [.int .i64 y.k, .int .i64 y.w, .int .i64 y.n, .int .i64 y.ak, .int .i64 y.ai, .int .i64 y.ac, .int .i64 y.an, .int .i64 y.sd, .int .i64 y.ap, .int .i64 y.al, .int .i64 y.au, .int .i64 y.aq]) 38)).drew.cell? ⟨wr.heap.size, j, none⟩ = some u) := ⟨fun j u hu => (HBN.out.cell (p := ⟨gx, k * 12 + j, none⟩) HGX.out).trans (HZC.out j u (by rw [HLO.out]; exact hu)), fun j u hu => (Bl.new wr (nc y) 38).cell j u hu⟩
                have HSS := Lib.hid hS
                clear hS
                go_wp2_with fail
                refine wp_region_held_drew (S := fun w' => (∀ (j : Nat) (u : Value), (nc y)[j]? = some u → w'.cell? ⟨gx, k * 12 + j, none⟩ = some u) ∧ (∀ (j : Nat) (u : Value), (nc y)[j]? = some u → w'.cell? ⟨wr.heap.size, j, none⟩ = some u)) (by kernel_rfl) HSS.out (fun hHeld => ?_)
                refine wpAnyH_take (i := 0) (oi := { dst := some 76, op := Op.move (Operand.tmp 9), type := 24, pos := "law.go:99", after := #[], guard := none }) (v := ?_) rfl (by as_aux_lemma => kernel_rfl) (by as_aux_lemma => kernel_rfl) (by as_aux_lemma => kernel_rfl) (fun _ _ _ h => h) (Or.inl ⟨by rfl, ?_⟩) (by assumption) ?_
                rotate_left
                · intro wq hSw
                  go_simp
                  try with_reducible rfl
                simp only [Act.put, List.setIfInBounds_toArray, List.set_cons_zero, List.set_cons_succ]
                refine wpAnyH_take (i := 1) (oi := { dst := some 77, op := Op.move (Operand.tmp 11), type := 3, pos := "law.go:99", after := #[], guard := none }) (v := ?_) rfl (by as_aux_lemma => kernel_rfl) (by as_aux_lemma => kernel_rfl) (by as_aux_lemma => kernel_rfl) (fun _ _ _ h => h) (Or.inl ⟨by rfl, ?_⟩) (by assumption) ?_
                rotate_left
                · intro wq hSw
                  go_simp
                  try with_reducible rfl
                simp only [Act.put, List.setIfInBounds_toArray, List.set_cons_zero, List.set_cons_succ]
                refine wpAnyH_take (i := 2) (oi := { dst := some 78, op := Op.indexAddr 24 (Operand.tmp 76) (Operand.tmp 77), type := 0, pos := "law.go:99", after := #[{ on := 0, ground := Ground.data }, { on := 1, ground := Ground.data }], guard := none }) (v := ?_) rfl (by as_aux_lemma => kernel_rfl) (by as_aux_lemma => kernel_rfl) (by as_aux_lemma => kernel_rfl) (fun _ _ _ h => h) (Or.inl ⟨by rfl, ?_⟩) (by assumption) ?_
                rotate_left
                · intro wq hSw
                  go_simp
                  try with_reducible rfl
                simp only [Act.put, List.setIfInBounds_toArray, List.set_cons_zero, List.set_cons_succ]
                refine wpAnyH_take (i := 3) (oi := { dst := some 79, op := Op.load 38 (Operand.tmp 78), type := 38, pos := "law.go:99", after := #[{ on := 2, ground := Ground.data }], guard := none }) (v := ?_) rfl (by as_aux_lemma => kernel_rfl) (by as_aux_lemma => kernel_rfl) (by as_aux_lemma => kernel_rfl) (fun _ _ _ h => h) (Or.inl ⟨by rfl, ?_⟩) (by assumption) ?_
                rotate_left
                · intro wq hSw
                  have c0 : wq.cell? ⟨gx, k * 12, none⟩ = some (.int .i64 y.k) := hSw.1 0 _ rfl
                  have c1 : wq.cell? ⟨gx, k * 12 + 1, none⟩ = some (.int .i64 y.w) := hSw.1 1 _ rfl
                  have c2 : wq.cell? ⟨gx, k * 12 + 2, none⟩ = some (.int .i64 y.n) := hSw.1 2 _ rfl
                  have c3 : wq.cell? ⟨gx, k * 12 + 3, none⟩ = some (.int .i64 y.ak) := hSw.1 3 _ rfl
                  have c4 : wq.cell? ⟨gx, k * 12 + 4, none⟩ = some (.int .i64 y.ai) := hSw.1 4 _ rfl
                  have c5 : wq.cell? ⟨gx, k * 12 + 5, none⟩ = some (.int .i64 y.ac) := hSw.1 5 _ rfl
                  have c6 : wq.cell? ⟨gx, k * 12 + 6, none⟩ = some (.int .i64 y.an) := hSw.1 6 _ rfl
                  have c7 : wq.cell? ⟨gx, k * 12 + 7, none⟩ = some (.int .i64 y.sd) := hSw.1 7 _ rfl
                  have c8 : wq.cell? ⟨gx, k * 12 + 8, none⟩ = some (.int .i64 y.ap) := hSw.1 8 _ rfl
                  have c9 : wq.cell? ⟨gx, k * 12 + 9, none⟩ = some (.int .i64 y.al) := hSw.1 9 _ rfl
                  have c10 : wq.cell? ⟨gx, k * 12 + 10, none⟩ = some (.int .i64 y.au) := hSw.1 10 _ rfl
                  have c11 : wq.cell? ⟨gx, k * 12 + 11, none⟩ = some (.int .i64 y.aq) := hSw.1 11 _ rfl
                  go_simp
                  try with_reducible rfl
                simp only [Act.put, List.setIfInBounds_toArray, List.set_cons_zero, List.set_cons_succ]
                refine wpAnyH_take (i := 4) (oi := { dst := some 80, op := Op.load 38 (Operand.tmp 12), type := 38, pos := "law.go:99", after := #[], guard := none }) (v := ?_) rfl (by as_aux_lemma => kernel_rfl) (by as_aux_lemma => kernel_rfl) (by as_aux_lemma => kernel_rfl) (fun _ _ _ h => h) (Or.inl ⟨by rfl, ?_⟩) (by assumption) ?_
                rotate_left
                · intro wq hSw
                  have c0 : wq.cell? ⟨wr.heap.size, 0, none⟩ = some (.int .i64 y.k) := hSw.2 0 _ rfl
                  have c1 : wq.cell? ⟨wr.heap.size, 1, none⟩ = some (.int .i64 y.w) := hSw.2 1 _ rfl
                  have c2 : wq.cell? ⟨wr.heap.size, 2, none⟩ = some (.int .i64 y.n) := hSw.2 2 _ rfl
                  have c3 : wq.cell? ⟨wr.heap.size, 3, none⟩ = some (.int .i64 y.ak) := hSw.2 3 _ rfl
                  have c4 : wq.cell? ⟨wr.heap.size, 4, none⟩ = some (.int .i64 y.ai) := hSw.2 4 _ rfl
                  have c5 : wq.cell? ⟨wr.heap.size, 5, none⟩ = some (.int .i64 y.ac) := hSw.2 5 _ rfl
                  have c6 : wq.cell? ⟨wr.heap.size, 6, none⟩ = some (.int .i64 y.an) := hSw.2 6 _ rfl
                  have c7 : wq.cell? ⟨wr.heap.size, 7, none⟩ = some (.int .i64 y.sd) := hSw.2 7 _ rfl
                  have c8 : wq.cell? ⟨wr.heap.size, 8, none⟩ = some (.int .i64 y.ap) := hSw.2 8 _ rfl
                  have c9 : wq.cell? ⟨wr.heap.size, 9, none⟩ = some (.int .i64 y.al) := hSw.2 9 _ rfl
                  have c10 : wq.cell? ⟨wr.heap.size, 10, none⟩ = some (.int .i64 y.au) := hSw.2 10 _ rfl
                  have c11 : wq.cell? ⟨wr.heap.size, 11, none⟩ = some (.int .i64 y.aq) := hSw.2 11 _ rfl
                  go_simp
                  try with_reducible rfl
                simp only [Act.put, List.setIfInBounds_toArray, List.set_cons_zero, List.set_cons_succ]
                refine wpAnyH_take (i := 5) (oi := { dst := some 81, op := Op.binOp BinOp.neq 38 (Operand.tmp 79) (Operand.tmp 80) 38, type := 4, pos := "law.go:99", after := #[{ on := 3, ground := Ground.data }, { on := 4, ground := Ground.data }], guard := none }) (v := .bool false) rfl (by as_aux_lemma => kernel_rfl) (by as_aux_lemma => kernel_rfl) (by as_aux_lemma => kernel_rfl) (fun _ _ _ h => h) (Or.inl ⟨by rfl, ?_⟩) (by assumption) ?_
                · intro wq hSw
                  have hne := neqEvn y wq
                  go_simp
                  try with_reducible rfl
                simp only [Act.put, List.setIfInBounds_toArray, List.set_cons_zero, List.set_cons_succ]
                refine wpAnyH_done (by as_aux_lemma => kernel_rfl) ?_ _
                go_wp2_with fail
                go_roundw
                case rel => exact ⟨k + 1, by omega, by go_num, Lib.hid (Below.drew (Below.step HBR.out HBN.out))⟩
                case measure => simp [intOf]; omega
            · obtain rfl : k = n := by omega
              go_wp2_with fail
              refine (HAW.out _).mono ?_
              rintro e6 w6 ⟨rfl, hb6⟩
              have HB6 := Lib.hid (Below.step (Below.step HB5.out HBR.out) hb6)
              clear hb6
              go_wp2_with fail
              go_ret
              exact ⟨rfl, HB6.out⟩
      · have hq2 : (n : Int) ≤ at0 := by omega
        clear hb2 hn hh
        go_enter Try.func4, Try.ntmps4
        go_wp2_with fail
        refine (HAW.out _).mono ?_
        rintro e6 w6 ⟨rfl, hb6⟩
        rw [← HW2.out] at hb6
        have HB6 := Lib.hid (Below.step HB2.out hb6)
        clear hb6
        go_wp2_with fail
        go_ret
        exact ⟨rfl, HB6.out⟩
    · have ha2 : at0 < 0 := by omega
      clear hb2 hn hh
      go_enter Try.func4, Try.ntmps4
      go_wp2_with fail
      refine (HAW.out _).mono ?_
      rintro e6 w6 ⟨rfl, hb6⟩
      rw [← HW2.out] at hb6
      have HB6 := Lib.hid (Below.step HB2.out hb6)
      clear hb6
      go_wp2_with fail
      go_ret
      exact ⟨rfl, HB6.out⟩
  · have n0 : (60 : Int) < (n : Int) := by omega
    clear hb2 hn hh
    go_enter Try.func4, Try.ntmps4
    go_wp2_with fail
    refine (HAW.out _).mono ?_
    rintro e6 w6 ⟨rfl, hb6⟩
    rw [← HW2.out] at hb6
    have HB6 := Lib.hid (Below.step HB2.out hb6)
    clear hb6
    go_wp2_with fail
    go_ret
    exact ⟨rfl, HB6.out⟩
end Go.Proofs.Ytfdjbhlpkfbgnaa.shrinkNumbers
