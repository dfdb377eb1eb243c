/-
  The walk of FieldSums.
-/
import Derived.Test.YtcbhbdadahlbfaaRows
import Derived.WalkKit
import Derived.ProofKit
import Derived.OpenShut
import Derived.ShutString
import Derived.Below
import Derived.Outline
import Derived.WalkLawsBesides
import Derived.WalkSpells
import Derived.Handy
import Derived.Deep.QuietTactic
import Derived.BigQuiet
import Derived.RegionTactic
import Derived.ChangeAlike
import Derived.Lib.Hide
import Derived.Laws.Rows
import Derived.Laws.Tables
import Derived.Laws.CopyOwn
import Derived.Deep.WholeRow
import Derived.Deep.LoopGhost
import Derived.Laws.BitsAllLaws
import Derived.Laws.BitsLemmas
import Derived.IntWalk
import Derived.Test.YtcbhbdadahlbfaaKit
import Derived.Test.YtcbhbdadahlbfaaSums
namespace Go.Proofs.Ytcbhbdadahlbfaa.fieldSums
open Go.ChangeShapes Go.WideShapes Go.ChangeAt Go.RowKit

theorem rowU_below {A : Option Addr} {m : Nat} {z : Nat → Int} {w w' : World} (h : RowU w A m z) (hb : Below w.heap.size w w') : RowU w' A m z := fun k hk => by
  obtain ⟨g, off, e, hg, hc, h1, h2⟩ := h k hk
  exact ⟨g, off, e, Nat.lt_of_lt_of_le hg hb.size, (hb.cell (p := ⟨g, off + k, none⟩) hg).trans hc, h1, h2⟩
set_option maxRecDepth 100000 in
set_option maxHeartbeats 2000000 in
theorem main (most a b : Int) (A : Option Addr) (n cap : Nat) (z : Nat → Int) (w : World) (hR : RowU w A n z) (m0 : 0 ≤ most) (m1 : most ≤ 18446744073709551615) (a0 : 0 ≤ a) (a1 : a ≤ 4294967295) (b0 : 0 ≤ b) (b1 : b ≤ 4294967295) (hn : n ≤ 1000) :
    Calls Try.prog 4 #[.int .u64 most, .slice A n cap, .int .u32 a, .int .u32 b] w fun e w' => e = .returned (.bool true) ∧ Below w.heap.size w w' := by
  have HR := Lib.hid hR
  clear hR
  obtain ⟨v, hv⟩ : ∃ v, v = (acc most z n).getD most := ⟨_, rfl⟩
  have HV := Lib.hid hv
  have t1 : (v == v) = true := by simp
  clear hv
  have x0 : 0 ≤ a % 1000000001 := by omega
  have x1 : a % 1000000001 ≤ 1000000000 := by omega
  have y0 : 0 ≤ b % 1000000001 := by omega
  have y1 : b % 1000000001 ≤ 1000000000 := by omega
  have t2 : ((a % 1000000001 + b % 1000000001) / 2 == (a % 1000000001 + b % 1000000001) / 2) = true := by simp
  go_enter Try.func4, Try.ntmps4
  go_wp2_with fail
  refine (awake10 _).mono ?_
  rintro e w1 ⟨rfl, hb1⟩
  have HR1 := Lib.hid (rowU_below HR.out hb1)
  go_wp2_with fail
  refine (add15 most A n cap z _ HR1.out m0 m1 hn).mono ?_
  rintro e w2 ⟨rfl, rfl⟩
  rw [← HV.out]
  go_wp2_with fail
  refine (radd16 most A n cap z _ HR1.out m0 m1 hn).mono ?_
  rintro e w2 ⟨rfl, rfl⟩
  rw [← HV.out]
  go_wp2_with fail
  refine (mid17 _ _ _ (by omega) (by omega) (by omega) (by omega)).mono ?_
  rintro e w2 ⟨rfl, rfl⟩
  go_wp2_with fail
  refine (mid17 _ _ _ (by omega) (by omega) (by omega) (by omega)).mono ?_
  rintro e w2 ⟨rfl, rfl⟩
  rw [Int.add_comm (b % 1000000001) (a % 1000000001)]
  go_wp2
  go_ret
  exact ⟨rfl, hb1⟩
set_option maxHeartbeats 1000000 in
theorem long (most a b : Int) (A : Option Addr) (n cap : Nat) (w : World) (hn : 1000 < n) (h0 : n ≤ 9223372036854775807) :
    Calls Try.prog 4 #[.int .u64 most, .slice A n cap, .int .u32 a, .int .u32 b] w fun e w' => e = .returned (.bool true) ∧ Below w.heap.size w w' := by
  go_enter Try.func4, Try.ntmps4
  go_wp2_with fail
  refine (awake10 _).mono ?_
  rintro e w1 ⟨rfl, hb1⟩
  go_wp2
  go_ret
  exact ⟨rfl, hb1⟩
theorem walk (a0 : Int) (a1 : Option Addr) (len1 cap1 : Nat) (z1 : List Int) (a2 a3 : Int) (w : World) (w0 : (Lit.int .u64 a0).wf = true) (w1 : IsRow .u64 w a1 len1 cap1 z1) (w2 : (Lit.int .u32 a2).wf = true) (w3 : (Lit.int .u32 a3).wf = true) :
    Calls Try.prog 4 #[.int .u64 a0, .slice a1 len1 cap1, .int .u32 a2, .int .u32 a3] w fun e w' => e = .returned (.bool true) ∧ Below w.heap.size w w' := by
  have b0 := bounds_u64 w0
  have b2 := bounds_u32 w2
  have b3 := bounds_u32 w3
  by_cases hl : len1 ≤ 1000
  · refine main a0 a2 a3 a1 len1 cap1 (fun k => z1.getD k 0) w ?_ b0.1 b0.2 b2.1 b2.2 b3.1 b3.2 hl
    intro k hk
    rcases w1 with ⟨rfl, rfl, rfl, rfl⟩ | ⟨x, rfl, hlc, hcm, hzl, hcell, hwz⟩
    · omega
    · obtain ⟨g, off, rfl, hc⟩ := ints_at hcell (by omega)
      have h := hc k (by omega)
      have hg : g < w.heap.size := by
        rcases Nat.lt_or_ge g w.heap.size with hlt | hge
        · exact hlt
        · exact absurd h (by simp [World.cell?, Array.getElem?_eq_none hge])
      have hw := bounds_u64 (hwz (z1.getD k 0) (by rw [List.getD_eq_getElem?_getD, List.getElem?_eq_getElem (by omega : k < z1.length)]; exact List.getElem_mem _))
      exact ⟨g, off, rfl, hg, h, hw.1, hw.2⟩
  · have hb : len1 ≤ 9223372036854775807 := by
      rcases w1 with ⟨rfl, rfl, rfl, rfl⟩ | ⟨x, rfl, hlc, hcm, _⟩
      · omega
      · unfold maxLen at hcm; omega
    exact long a0 a2 a3 a1 len1 cap1 w (by omega) hb
end Go.Proofs.Ytcbhbdadahlbfaa.fieldSums
