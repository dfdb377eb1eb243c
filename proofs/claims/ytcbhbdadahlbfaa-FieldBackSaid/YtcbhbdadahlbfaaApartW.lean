/-
  The walk of FieldApart.
-/
import Derived.Test.YtcbhbdadahlbfaaRows
import Derived.WalkKit
import Derived.ProofKit
import Derived.OpenShut
import Derived.ShutString
import Derived.Below
import Derived.Outline
import Derived.WalkLawsBesides
import Derived.WalkSpells
import Derived.Handy
import Derived.Deep.QuietTactic
import Derived.BigQuiet
import Derived.RegionTactic
import Derived.ChangeAlike
import Derived.Lib.Hide
import Derived.Laws.Rows
import Derived.Laws.Tables
import Derived.Laws.CopyOwn
import Derived.Deep.WholeRow
import Derived.Deep.LoopGhost
import Derived.Laws.BitsAllLaws
import Derived.Laws.BitsLemmas
import Derived.IntWalk
import Derived.Test.YtcbhbdadahlbfaaKit
import Derived.Deep.Cut
import Derived.Deep.CutRange
import Derived.Deep.DeepCutAuto
import Derived.Test.YtcbhbdadahlbfaaAny
namespace Go.Proofs.Ytcbhbdadahlbfaa.fieldApart
open Go.ChangeShapes Go.WideShapes Go.ChangeAt Go.RowKit
theorem wpList_load_on {P : Program} {ops : Array Oper} {rest : List Oper} {o : Oper} {a : Act} {w : World} {Q : Exit → Act → World → Prop} (hw : Region.wanted o (yielded ops a.tmps) = true) (ty : TypeId) (x : Operand) (ho : o.op = .load ty x)
    (g : Nat) (hx : a.eval x = .pointer (some ⟨g, 0, none⟩)) (t : TypeId) (cs : Array Value) (fr : Nat × Nat) (d : TypeDesc) (hg : w.heap[g]? = some (.cells cs t fr))
    (hu : P.underlying ty = some d) (hd : (match d with | .struct _ | .array _ _ => true | _ => false) = true) (hi : (P.info? ty).map (·.size) = some cs.size)
    (h : wpList P ops Q rest (a.put o.dst (.agg cs)) w) : wpList P ops Q (o :: rest) a w :=
  wpList_step fun K hK => by rw [if_pos hw]; exact wp_load_row ty x ho g hx t cs fr d hg hu hd hi (hK _ _ h)

theorem light9 (A : Option Addr) (n cap : Nat) (w : World) (hn : n ≤ 70) : Calls Try.prog 9 #[.slice A n cap] w fun e w' => e = .returned (.bool true) ∧ w = w' := by
  have hd : decide ((n : Int) ≤ 70) = true := decide_eq_true (by omega)
  go_enter Try.func9, Try.ntmps9
  go_wp2
  go_ret
  exact ⟨rfl, rfl⟩
theorem light9_no (A : Option Addr) (n cap : Nat) (w : World) (hn : 70 < n) (h0 : n ≤ 9223372036854775807) : Calls Try.prog 9 #[.slice A n cap] w fun e w' => e = .returned (.bool false) ∧ w = w' := by
  have hd : decide ((n : Int) ≤ 70) = false := decide_eq_false (by omega)
  go_enter Try.func9, Try.ntmps9
  go_wp2
  go_ret
  exact ⟨rfl, rfl⟩
theorem below_drewN {B : Nat} {a w : World} (h : Below B a w) (n : Nat) : Below B a (w.drewN n) := ⟨h.os, h.tape, h.output, h.size, h.block⟩
/-- Are the first numbers of two rows the same? -/
def smb (za zb : Nat → Int) : Nat → Bool
  | 0 => true
  | k + 1 => smb za zb k && (za k == zb k)
theorem smb_iff (za zb : Nat → Int) (n : Nat) : smb za zb n = true ↔ ∀ k, k < n → za k = zb k := by
  induction n with
  | zero => exact ⟨fun _ k hk => absurd hk (Nat.not_lt_zero k), fun _ => rfl⟩
  | succ n ih =>
    simp only [smb, Bool.and_eq_true, ih, beq_iff_eq]
    constructor
    · intro ⟨h1, h2⟩ k hk
      rcases Nat.lt_or_ge k n with h | h
      · exact h1 k h
      · rw [show k = n by omega]; exact h2
    · exact fun h => ⟨fun k hk => h k (by omega), h n (by omega)⟩
theorem steps_last {n : Nat} {s : Nat → Int} (h : Steps n s) : 0 ≤ s n ∧ s n ≤ 64 := by
  rcases Nat.eq_zero_or_pos n with h0 | h0
  · subst h0; rw [h.1]; exact ⟨Int.le_refl _, by decide⟩
  · have := h.2.2 (n - 1) (by omega)
    rw [show n - 1 + 1 = n by omega] at this
    omega
theorem xx_iff {n : Nat} {s za zb : Nat → Int} {x1 x2 : Int} (hS : Steps n s) (hz : ∀ k, k < n → 0 ≤ za k ∧ za k < 2 ^ (s (k + 1) - s k).toNat) (hy : ∀ k, k < n → 0 ≤ zb k ∧ zb k < 2 ^ (s (k + 1) - s k).toNat) (h1 : x1 = word s za n) (h2 : x2 = word s zb n) :
    (x1 == x2) = smb za zb n := by
  rw [Bool.eq_iff_iff, smb_iff, beq_iff_eq]
  constructor
  · intro h
    exact word_inj hS hz hy n (Nat.le_refl _) (by have := h1.symm.trans (h.trans h2); omega)
  · intro h
    rw [h1, h2]
    congr 1
    have hm : ∀ m, m ≤ n → word s za m = word s zb m := by
      intro m
      induction m with
      | zero => intro _; rfl
      | succ m ih => intro hm; show word s za m + (za m).toNat * _ = word s zb m + (zb m).toNat * _; rw [ih (by omega), h m (by omega)]
    exact hm n (Nat.le_refl _)
theorem sound_word {cs : Array Value} {n : Nat} {s z : Nat → Int} (hL : Lay cs n s) (hS : Steps n s) (hz : ∀ k, k < n → 0 ≤ z k ∧ z k < 2 ^ (s (k + 1) - s k).toNat) (x : Int) (hx : x = word s z n) (W : World) :
    Calls Try.prog 14 #[.agg cs, .int .u64 x] W fun e w' => e = .returned (.bool true) ∧ Below W.heap.size W w' := by
  have h1 := word_lt hS hz n (Nat.le_refl _)
  have h2 := steps_last hS
  have p1 : 2 ^ (s n).toNat ≤ 2 ^ 64 := Nat.pow_le_pow_right (by decide) (by omega)
  have e : x / 2 ^ (s n).toNat = 0 := by
    rw [hx, show ((2 : Int) ^ (s n).toNat) = ((2 ^ (s n).toNat : Nat) : Int) by simp, ← Int.natCast_ediv, Nat.div_eq_of_lt h1]
    rfl
  have h := sound_is hL x W hS.2.1 h2.1 h2.2 (by omega) (by omega)
  rw [e] at h
  exact h

theorem row_of {w : World} {A : Option Addr} {len cap : Nat} {zs : List Int} (h : IsRow .i64 w A len cap zs) : RowI w A len (fun k => zs.getD k 0) := by
  intro k hk
  rcases h with ⟨rfl, rfl, rfl, rfl⟩ | ⟨x, rfl, hlc, hcm, hzl, hcell, hwz⟩
  · omega
  · obtain ⟨g, off, rfl, hc⟩ := ints_at hcell (by omega)
    have h := hc k (by omega)
    have hg : g < w.heap.size := by
      rcases Nat.lt_or_ge g w.heap.size with hlt | hge
      · exact hlt
      · exact absurd h (by simp [World.cell?, Array.getElem?_eq_none hge])
    have hw := bounds_i64 (hwz (zs.getD k 0) (by rw [List.getD_eq_getElem?_getD, List.getElem?_eq_getElem (by omega : k < zs.length)]; exact List.getElem_mem _))
    exact ⟨g, off, rfl, hg, h, hw.1, hw.2⟩
theorem len_le {w : World} {A : Option Addr} {len cap : Nat} {zs : List Int} (h : IsRow .i64 w A len cap zs) : len ≤ 9223372036854775807 := by
  rcases h with ⟨rfl, rfl, rfl, rfl⟩ | ⟨x, rfl, hlc, hcm, _⟩
  · omega
  · unfold maxLen at hcm; omega

set_option maxRecDepth 100000 in
set_option maxHeartbeats 8000000 in
theorem main (A B C : Option Addr) (n m l capa capb capc : Nat) (ws za zb : Nat → Int) (w : World) (hn : n ≤ 70) (hm : m ≤ 70) (hl : l ≤ 70) (hR : RowI w A n ws) (hA : RowI w B m za) (hC : RowI w C l zb) :
    Calls Try.prog 5 #[.slice A n capa, .slice B m capb, .slice C l capc] w fun e w' => e = .returned (.bool true) ∧ Below w.heap.size w w' := by
  have hzero := zero70
  have HR := Lib.hid hR
  have HA := Lib.hid hA
  have HC := Lib.hid hC
  clear hR hA hC
  go_enter Try.func5, Try.ntmps5
  go_wp2_with fail
  refine (light9 A n capa _ hn).mono ?_
  rintro e w' ⟨rfl, rfl⟩
  go_wp2_with fail
  refine (new_any A n capa ws _ HR.out).mono ?_
  rintro e w1 ⟨cs, n', s', y, rfl, hN, hb1⟩
  have HN := Lib.hid hN
  have HSZ := Lib.hid (lay_info hN.1)
  have HZS := Lib.hid (show Z0.size = cs.size from by rw [hN.1.size]; rfl)
  have HON := Lib.hid hN.1.one
  have HG1 := Lib.hid (heap_alloc_new w1 (Obj.cells Z0 28))
  have HB1 := Lib.hid hb1
  have hs1 := hb1.size
  clear hN hb1
  have HG2 := Lib.hid (heap_alloc_new w1 (Obj.cells cs 28))
  have HB2 := Lib.hid (show Below w.heap.size w (w1.alloc (Obj.cells cs 28)) from HB1.out.alloc hs1 _)
  go_wp2_with (first | (refine wpList_store_row rfl 28 _ _ rfl w1.heap.size cs rfl rfl 28 Z0 HG1.out HSZ.out HZS.out HON.out ?_; rw [World.setRow_alloc_new]) | (refine wpList_load_row rfl 28 _ rfl w1.heap.size rfl 28 _ (0, 0) _ HG2.out Try.underlying28 rfl HSZ.out ?_))
  refine (pack_any HN.out.1 HN.out.2.1 B m capb _ (row_below HA.out HB2.out)).mono ?_
  rintro e w3 ⟨x1, y1, rfl, hP, hb3⟩
  have HP := Lib.hid hP
  have HB3 := Lib.hid (Below.step HB2.out hb3)
  have HG3 := Lib.hid ((hb3.block w1.heap.size (by simp)).trans HG2.out)
  clear hP hb3
  go_wp2_with (refine wpList_load_row rfl 28 _ rfl w1.heap.size rfl 28 _ (0, 0) _ HG3.out Try.underlying28 rfl HSZ.out ?_)
  refine (pack_any HN.out.1 HN.out.2.1 C l capc _ (row_below HC.out HB3.out)).mono ?_
  rintro e w4 ⟨x2, y2, rfl, hQ, hb4⟩
  have HQ := Lib.hid hQ
  have HB4 := Lib.hid (Below.step HB3.out hb4)
  have HG4 := Lib.hid ((hb4.block w1.heap.size (by have := blk_lt HG3.out; exact this)).trans HG3.out)
  clear hQ hb4
  rcases HN.out.2.2 with ⟨ey, en⟩ | ⟨T, v, ey⟩
  · rcases HP.out with ⟨em, fz, ex1, ey1⟩ | ⟨T, v, ey1⟩
    · rcases HQ.out with ⟨el, fy, ex2, ey2⟩ | ⟨T, v, ey2⟩
      · subst ey ey1 ey2
        subst en
        subst em
        subst el
        have HX1 := Lib.hid ex1
        have HX2 := Lib.hid ex2
        have HF1 := Lib.hid fz
        have HF2 := Lib.hid fy
        clear ex1 ex2 fz fy
        have HXX := Lib.hid (xx_iff HN.out.2.1 HF1.out HF2.out HX1.out HX2.out)
        have hs4 := HB4.out.size
        go_wp2_with fail
        go_loopw [13, 59] (fun x i wr => ∃ (k : Nat) (c : Bool), k ≤ l ∧ i = .int .i64 k ∧ x = .bool c ∧ Hid (smb za zb k = c) ∧ Below w4.heap.size w4 wr) (fun _ i _ => l - (intOf i).toNat)
        case atStart => exact ⟨0, true, Nat.zero_le _, rfl, rfl, rfl, Below.refl _ _⟩
        case round =>
          obtain ⟨k, c, hk, rfl, rfl, HS, hbw⟩ := hrel
          have hBr : Below w.heap.size w wr := Below.step HB4.out hbw
          by_cases hlt : k < l
          · obtain ⟨ga, oa, rfl, hga, hza, _, _⟩ := HA.out k hlt
            obtain ⟨gb, ob, rfl, hgb, hzb, _, _⟩ := HC.out k hlt
            have cA : wr.cell? ⟨ga, oa + k, none⟩ = some (.int .i64 (za k)) := (hBr.cell (p := ⟨ga, oa + k, none⟩) hga).trans hza
            have cB : wr.cell? ⟨gb, ob + k, none⟩ = some (.int .i64 (zb k)) := (hBr.cell (p := ⟨gb, ob + k, none⟩) hgb).trans hzb
            have i0 : (0 : Int) ≤ (k : Int) := Int.natCast_nonneg k
            have i1 : (k : Int) < (l : Int) := by omega
            clear hza hzb hBr
            cases c with
            | true =>
              have HS2 : Hid (smb za zb (k + 1) = (za k == zb k)) := by show (smb za zb k && (za k == zb k)) = _; rw [HS.out]; rfl
              go_wp2_with fail
              go_quiet (fail)
              go_wp2
              go_roundw
              case rel => exact ⟨k + 1, _, by omega, by go_num, rfl, HS2, below_drewN hbw _⟩
              case measure => simp [intOf]; omega
            | false =>
              have HS2 : Hid (smb za zb (k + 1) = false) := by show (smb za zb k && (za k == zb k)) = _; rw [HS.out]; rfl
              go_wp2_with fail
              go_quiet (fail)
              go_wp2
              go_roundw
              case rel => exact ⟨k + 1, _, by omega, by go_num, rfl, HS2, below_drewN hbw _⟩
              case measure => simp [intOf]; omega
          · obtain rfl : k = l := by omega
            have hxx := HXX.out
            rw [HS.out] at hxx
            have HG5 := Lib.hid ((hbw.block w1.heap.size (blk_lt HG4.out)).trans HG4.out)
            have hg5 := blk_lt HG5.out
            have HS1 := Lib.hid (fun W => sound_word HN.out.1 HN.out.2.1 HF1.out x1 HX1.out W)
            have HS2 := Lib.hid (fun W => sound_word HN.out.1 HN.out.2.1 HF2.out x2 HX2.out W)
            cases c with
            | true =>
              go_wp2_with fail
              refine (awake10 _).mono ?_
              rintro e w6 ⟨rfl, hb6⟩
              have HG6 := Lib.hid ((hb6.block w1.heap.size hg5).trans HG5.out)
              have hB6 : Below w.heap.size w w6 := Below.step hBr hb6
              go_wp2_with (refine wpList_load_on rfl 28 _ rfl w1.heap.size rfl 28 _ (0, 0) _ HG6.out Try.underlying28 rfl HSZ.out ?_)
              refine (HS1.out _).mono ?_
              rintro e w7 ⟨rfl, hb7⟩
              have HG7 := Lib.hid ((hb7.block w1.heap.size (blk_lt HG6.out)).trans HG6.out)
              have hB7 : Below w.heap.size w w7 := Below.step hB6 hb7
              go_wp2_with (refine wpList_load_on rfl 28 _ rfl w1.heap.size rfl 28 _ (0, 0) _ HG7.out Try.underlying28 rfl HSZ.out ?_)
              refine (HS2.out _).mono ?_
              rintro e w8 ⟨rfl, hb8⟩
              go_wp2
              go_ret
              exact ⟨rfl, Below.step hB7 hb8⟩
            | false =>
              go_wp2_with fail
              refine (awake10 _).mono ?_
              rintro e w6 ⟨rfl, hb6⟩
              have HG6 := Lib.hid ((hb6.block w1.heap.size hg5).trans HG5.out)
              have hB6 : Below w.heap.size w w6 := Below.step hBr hb6
              go_wp2_with (refine wpList_load_on rfl 28 _ rfl w1.heap.size rfl 28 _ (0, 0) _ HG6.out Try.underlying28 rfl HSZ.out ?_)
              refine (HS1.out _).mono ?_
              rintro e w7 ⟨rfl, hb7⟩
              have HG7 := Lib.hid ((hb7.block w1.heap.size (blk_lt HG6.out)).trans HG6.out)
              have hB7 : Below w.heap.size w w7 := Below.step hB6 hb7
              go_wp2_with (refine wpList_load_on rfl 28 _ rfl w1.heap.size rfl 28 _ (0, 0) _ HG7.out Try.underlying28 rfl HSZ.out ?_)
              refine (HS2.out _).mono ?_
              rintro e w8 ⟨rfl, hb8⟩
              go_wp2
              go_ret
              exact ⟨rfl, Below.step hB7 hb8⟩
      · subst ey ey1 ey2
        clear HP HQ HN
        go_wp2_with fail
        refine (awake10 _).mono ?_
        rintro e w5 ⟨rfl, hb5⟩
        go_wp2
        go_ret
        exact ⟨rfl, Below.step HB4.out hb5⟩
    · subst ey ey1
      clear HP HQ HN
      go_wp2_with fail
      refine (awake10 _).mono ?_
      rintro e w5 ⟨rfl, hb5⟩
      go_wp2
      go_ret
      exact ⟨rfl, Below.step HB4.out hb5⟩
  · subst ey
    clear HP HQ HN
    go_wp2_with fail
    refine (awake10 _).mono ?_
    rintro e w5 ⟨rfl, hb5⟩
    go_wp2
    go_ret
    exact ⟨rfl, Below.step HB4.out hb5⟩

set_option maxHeartbeats 1000000 in
theorem long1 (A B C : Option Addr) (n m l capa capb capc : Nat) (w : World) (hn : 70 < n) (h0 : n ≤ 9223372036854775807) :
    Calls Try.prog 5 #[.slice A n capa, .slice B m capb, .slice C l capc] w fun e w' => e = .returned (.bool true) ∧ Below w.heap.size w w' := by
  go_enter Try.func5, Try.ntmps5
  go_wp2_with fail
  refine (light9_no A n capa _ hn h0).mono ?_
  rintro e w' ⟨rfl, rfl⟩
  go_wp2_with fail
  refine (awake10 _).mono ?_
  rintro e w1 ⟨rfl, hb1⟩
  go_wp2
  go_ret
  exact ⟨rfl, hb1⟩

set_option maxHeartbeats 1000000 in
theorem long2 (A B C : Option Addr) (n m l capa capb capc : Nat) (w : World) (hn : n ≤ 70) (hm : 70 < m) (h0 : m ≤ 9223372036854775807) :
    Calls Try.prog 5 #[.slice A n capa, .slice B m capb, .slice C l capc] w fun e w' => e = .returned (.bool true) ∧ Below w.heap.size w w' := by
  go_enter Try.func5, Try.ntmps5
  go_wp2_with fail
  refine (light9 A n capa _ hn).mono ?_
  rintro e w' ⟨rfl, rfl⟩
  go_wp2_with fail
  refine (awake10 _).mono ?_
  rintro e w1 ⟨rfl, hb1⟩
  go_wp2
  go_ret
  exact ⟨rfl, hb1⟩

set_option maxHeartbeats 1000000 in
theorem long3 (A B C : Option Addr) (n m l capa capb capc : Nat) (w : World) (hn : n ≤ 70) (hm : m ≤ 70) (hl : 70 < l) (h0 : l ≤ 9223372036854775807) :
    Calls Try.prog 5 #[.slice A n capa, .slice B m capb, .slice C l capc] w fun e w' => e = .returned (.bool true) ∧ Below w.heap.size w w' := by
  go_enter Try.func5, Try.ntmps5
  go_wp2_with fail
  refine (light9 A n capa _ hn).mono ?_
  rintro e w' ⟨rfl, rfl⟩
  go_wp2_with fail
  refine (awake10 _).mono ?_
  rintro e w1 ⟨rfl, hb1⟩
  go_wp2
  go_ret
  exact ⟨rfl, hb1⟩

theorem walk (a0 : Option Addr) (len0 cap0 : Nat) (z0 : List Int) (a1 : Option Addr) (len1 cap1 : Nat) (z1 : List Int) (a2 : Option Addr) (len2 cap2 : Nat) (z2 : List Int) (w : World) (w0 : IsRow .i64 w a0 len0 cap0 z0) (w1 : IsRow .i64 w a1 len1 cap1 z1) (w2 : IsRow .i64 w a2 len2 cap2 z2) :
    Calls Try.prog 5 #[.slice a0 len0 cap0, .slice a1 len1 cap1, .slice a2 len2 cap2] w fun e w' => e = .returned (.bool true) ∧ Below w.heap.size w w' := by
  by_cases h0 : 70 < len0
  · exact long1 _ _ _ _ _ _ _ _ _ w h0 (len_le w0)
  by_cases h1 : 70 < len1
  · exact long2 _ _ _ _ _ _ _ _ _ w (by omega) h1 (len_le w1)
  by_cases h2 : 70 < len2
  · exact long3 _ _ _ _ _ _ _ _ _ w (by omega) (by omega) h2 (len_le w2)
  exact main _ _ _ _ _ _ _ _ _ _ _ _ w (by omega) (by omega) (by omega) (row_of w0) (row_of w1) (row_of w2)
end Go.Proofs.Ytcbhbdadahlbfaa.fieldApart
