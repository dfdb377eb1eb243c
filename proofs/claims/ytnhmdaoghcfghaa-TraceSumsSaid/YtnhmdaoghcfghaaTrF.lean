/-
  The abstract pool: an order looked up.
-/
import Derived.Test.YtnhmdaoghcfghaaRows
import Derived.Test.YtnhmdaoghcfghaaKit
import Derived.Test.YtnhmdaoghcfghaaApp
import Derived.Test.YtnhmdaoghcfghaaQuiet
import Derived.Test.YtnhmdaoghcfghaaTrM
import Derived.Test.YtnhmdaoghcfghaaTrS
import Derived.WalkKit
import Derived.ProofKit
import Derived.OpenShut
import Derived.ShutString
import Derived.Below
import Derived.Outline
import Derived.WalkLawsBesides
import Derived.WalkSpells
import Derived.Handy
import Derived.Deep.QuietTactic
import Derived.BigQuiet
import Derived.RegionTactic
import Derived.ChangeAlike
import Derived.Lib.Hide
import Derived.Laws.Rows
import Derived.Laws.Tables
import Derived.Laws.CopyOwn
import Derived.Laws.MakeOwn
import Derived.Laws.Entries
import Derived.Laws.OwnMore
import Derived.Deep.WholeRow
import Derived.Deep.LoopGhost
import Derived.Deep.AppendLies
import Derived.Deep.Draws
import Derived.Maps.AppendAt
import Derived.OwnWalk
import Derived.Deep.RegionHeld3
import Derived.Deep.Cut
import Derived.Deep.CutRange
import Derived.Deep.DeepCutAuto
import Derived.Deep.CutBlock
import Derived.Lib.SliceRun
import Derived.IntWalk
namespace Go.Proofs.Ytnhmdaoghcfghaa
open Go.ChangeShapes Go.WideShapes Go.ChangeAt Go.RowKit
theorem lt_cell {w : World} {b o : Nat} {v : Value} (hc : w.cell? ⟨b, o, none⟩ = some v) : b < w.heap.size := by
  rcases Nat.lt_or_ge b w.heap.size with h | h
  · exact h
  · simp [World.cell?, Array.getElem?_eq_none h] at hc
theorem clo_is (o : Ord) (a b : Nat) (c g : Int) (w : World) (h1 : w.cell? ⟨a, 0, none⟩ = some (.int .i64 c)) (h2 : w.cell? ⟨b, 0, none⟩ = some (.int .i64 g)) : Calls Try.prog 28 #[.agg #[.int .i64 o.c, .int .i64 o.g, .int .i64 o.n, .int .i64 o.s, .int .i64 o.p, .int .i64 o.l, .int .i64 o.u, .int .i64 o.q, .int .i64 o.lf, .int .i64 o.fl, .bool o.ak, .bool o.rs, .int .i64 o.en], .pointer (some ⟨a, 0, none⟩), .pointer (some ⟨b, 0, none⟩)] w fun e w' => e = .returned (.bool (o.c == c && o.g == g)) ∧ Below w.heap.size w w' := by
  obtain ⟨oc, og, on, os, op, ol, ou, oq, olf, ofl, oak, ors, oen⟩ := o
  dsimp only
  have la := lt_cell h1
  have lb := lt_cell h2
  by_cases hc : oc = c
  · subst hc
    have e1 : (oc == oc) = true := by simp
    go_enter Try.func28, Try.ntmps28
    go_wp2_with fail
    go_ret
    exact ⟨by rw [e1]; rfl, by go_grown⟩
  · have e1 : (oc == c) = false := by simpa using hc
    go_enter Try.func28, Try.ntmps28
    go_wp2
    go_ret
    exact ⟨by rw [e1]; rfl, by go_grown⟩
set_option maxRecDepth 100000 in
set_option maxHeartbeats 4000000 in
theorem index_none (base g cap a b : Nat) (c gn : Int) (os : List Ord) (w : World) (h : w.ownsRow base 44 13 (.slice (some ⟨g, 0, none⟩) os.length cap) os.length (ov os)) (hl : os.length ≤ 1000) (h1 : w.cell? ⟨a, 0, none⟩ = some (.int .i64 c)) (h2 : w.cell? ⟨b, 0, none⟩ = some (.int .i64 gn)) (hn : ∀ (t : Nat) (o : Ord), os[t]? = some o → (o.c == c && o.g == gn) = false) :
    Calls Try.prog 27 #[.slice (some ⟨g, 0, none⟩) os.length cap, .func (.func 28) #[] #[.pointer (some ⟨a, 0, none⟩), .pointer (some ⟨b, 0, none⟩)]] w fun e w' => e = .returned (.int .i64 (-1)) ∧ Below w.heap.size w w' := by
  have HR := Lib.hid h
  have hgl := (h.lt g rfl).2
  have HN := Lib.hid hn
  have HA := Lib.hid h1
  have HB := Lib.hid h2
  have la := lt_cell h1
  have lb := lt_cell h2
  have HC := Lib.hid (fun (o : Ord) W (h1 : W.cell? ⟨a, 0, none⟩ = some (.int .i64 c)) (h2 : W.cell? ⟨b, 0, none⟩ = some (.int .i64 gn)) => clo_is o a b c gn W h1 h2)
  clear h hn h1 h2
  go_enter Try.func27, Try.ntmps27
  go_wp2_with fail
  go_loopw [8] (fun j wr => ∃ k : Nat, k ≤ os.length ∧ j = .int .i64 (k : Int) ∧ Below w.heap.size w wr) (fun j _ => os.length + 1 - (intOf j).toNat)
  case atStart => exact ⟨0, Nat.zero_le _, rfl, Below.refl _ _⟩
  case round =>
    obtain ⟨k, hk, rfl, hB⟩ := hrel
    have k0 : (0 : Int) ≤ (k : Int) := by omega
    by_cases hlt : k < os.length
    · have k1 : (k : Int) < (os.length : Int) := by omega
      have k2 : (os.length : Int) ≤ 1000 := by omega
      obtain ⟨o, ho⟩ : ∃ e, os[k]? = some e := ⟨_, List.getElem?_eq_getElem hlt⟩
      have c0 : wr.cell? ⟨g, k * 13, none⟩ = some (.int .i64 o.c) := (hB.cell (p := ⟨g, k * 13, none⟩) hgl).trans (row_cell HR.out ho rfl (j := 0) (by omega) rfl)
      have c1 : wr.cell? ⟨g, k * 13 + 1, none⟩ = some (.int .i64 o.g) := (hB.cell (p := ⟨g, k * 13 + 1, none⟩) hgl).trans (row_cell HR.out ho rfl (j := 1) (by omega) rfl)
      have c2 : wr.cell? ⟨g, k * 13 + 2, none⟩ = some (.int .i64 o.n) := (hB.cell (p := ⟨g, k * 13 + 2, none⟩) hgl).trans (row_cell HR.out ho rfl (j := 2) (by omega) rfl)
      have c3 : wr.cell? ⟨g, k * 13 + 3, none⟩ = some (.int .i64 o.s) := (hB.cell (p := ⟨g, k * 13 + 3, none⟩) hgl).trans (row_cell HR.out ho rfl (j := 3) (by omega) rfl)
      have c4 : wr.cell? ⟨g, k * 13 + 4, none⟩ = some (.int .i64 o.p) := (hB.cell (p := ⟨g, k * 13 + 4, none⟩) hgl).trans (row_cell HR.out ho rfl (j := 4) (by omega) rfl)
      have c5 : wr.cell? ⟨g, k * 13 + 5, none⟩ = some (.int .i64 o.l) := (hB.cell (p := ⟨g, k * 13 + 5, none⟩) hgl).trans (row_cell HR.out ho rfl (j := 5) (by omega) rfl)
      have c6 : wr.cell? ⟨g, k * 13 + 6, none⟩ = some (.int .i64 o.u) := (hB.cell (p := ⟨g, k * 13 + 6, none⟩) hgl).trans (row_cell HR.out ho rfl (j := 6) (by omega) rfl)
      have c7 : wr.cell? ⟨g, k * 13 + 7, none⟩ = some (.int .i64 o.q) := (hB.cell (p := ⟨g, k * 13 + 7, none⟩) hgl).trans (row_cell HR.out ho rfl (j := 7) (by omega) rfl)
      have c8 : wr.cell? ⟨g, k * 13 + 8, none⟩ = some (.int .i64 o.lf) := (hB.cell (p := ⟨g, k * 13 + 8, none⟩) hgl).trans (row_cell HR.out ho rfl (j := 8) (by omega) rfl)
      have c9 : wr.cell? ⟨g, k * 13 + 9, none⟩ = some (.int .i64 o.fl) := (hB.cell (p := ⟨g, k * 13 + 9, none⟩) hgl).trans (row_cell HR.out ho rfl (j := 9) (by omega) rfl)
      have c10 : wr.cell? ⟨g, k * 13 + 10, none⟩ = some (.bool o.ak) := (hB.cell (p := ⟨g, k * 13 + 10, none⟩) hgl).trans (row_cell HR.out ho rfl (j := 10) (by omega) rfl)
      have c11 : wr.cell? ⟨g, k * 13 + 11, none⟩ = some (.bool o.rs) := (hB.cell (p := ⟨g, k * 13 + 11, none⟩) hgl).trans (row_cell HR.out ho rfl (j := 11) (by omega) rfl)
      have c12 : wr.cell? ⟨g, k * 13 + 12, none⟩ = some (.int .i64 o.en) := (hB.cell (p := ⟨g, k * 13 + 12, none⟩) hgl).trans (row_cell HR.out ho rfl (j := 12) (by omega) rfl)
      have hno := HN.out k o ho
      have HCR := Lib.hid (HC.out o wr ((hB.cell (p := ⟨a, 0, none⟩) la).trans HA.out) ((hB.cell (p := ⟨b, 0, none⟩) lb).trans HB.out))
      rw [hno] at HCR
      clear ho hno
      go_wp2_with fail
      refine HCR.out.mono ?_
      rintro e w2 ⟨rfl, hb2⟩
      have hB2 := Below.step hB hb2
      go_wp2_with fail
      go_roundw
      case rel => exact ⟨k + 1, by omega, by go_num, hB2⟩
      case measure => simp [intOf]; omega
    · obtain rfl : k = os.length := by omega
      have hd : decide ((os.length : Int) < (os.length : Int)) = false := decide_eq_false (by omega)
      go_wp2_with fail
      go_ret
      exact ⟨rfl, hB⟩
set_option maxRecDepth 100000 in
set_option maxHeartbeats 4000000 in
theorem index_some (base g cap a b q : Nat) (c gn : Int) (os : List Ord) (o0 : Ord) (w : World) (h : w.ownsRow base 44 13 (.slice (some ⟨g, 0, none⟩) os.length cap) os.length (ov os)) (hl : os.length ≤ 1000) (h1 : w.cell? ⟨a, 0, none⟩ = some (.int .i64 c)) (h2 : w.cell? ⟨b, 0, none⟩ = some (.int .i64 gn)) (hq : os[q]? = some o0) (hq0 : (o0.c == c && o0.g == gn) = true) (hn : ∀ (t : Nat) (o : Ord), t < q → os[t]? = some o → (o.c == c && o.g == gn) = false) :
    Calls Try.prog 27 #[.slice (some ⟨g, 0, none⟩) os.length cap, .func (.func 28) #[] #[.pointer (some ⟨a, 0, none⟩), .pointer (some ⟨b, 0, none⟩)]] w fun e w' => e = .returned (.int .i64 (q : Int)) ∧ Below w.heap.size w w' := by
  have HR := Lib.hid h
  have hgl := (h.lt g rfl).2
  have HN := Lib.hid hn
  have HA := Lib.hid h1
  have HB := Lib.hid h2
  have la := lt_cell h1
  have lb := lt_cell h2
  have hql : q < os.length := (List.getElem?_eq_some_iff.1 hq).1
  have HQ := Lib.hid hq
  have HC := Lib.hid (fun (o : Ord) W (h1 : W.cell? ⟨a, 0, none⟩ = some (.int .i64 c)) (h2 : W.cell? ⟨b, 0, none⟩ = some (.int .i64 gn)) => clo_is o a b c gn W h1 h2)
  clear h hn h1 h2 hq
  go_enter Try.func27, Try.ntmps27
  go_wp2_with fail
  go_loopw [8] (fun j wr => ∃ k : Nat, k ≤ q ∧ j = .int .i64 (k : Int) ∧ Below w.heap.size w wr) (fun j _ => q + 1 - (intOf j).toNat)
  case atStart => exact ⟨0, Nat.zero_le _, rfl, Below.refl _ _⟩
  case round =>
    obtain ⟨k, hk, rfl, hB⟩ := hrel
    have k0 : (0 : Int) ≤ (k : Int) := by omega
    have k1 : (k : Int) < (os.length : Int) := by omega
    have k2 : (os.length : Int) ≤ 1000 := by omega
    have hH : Hid (os[k]? = os[k]?) := Lib.hid rfl
    by_cases hlt : k < q
    · obtain ⟨o, ho⟩ : ∃ e, os[k]? = some e := ⟨_, List.getElem?_eq_getElem (by omega)⟩
      have c0 : wr.cell? ⟨g, k * 13, none⟩ = some (.int .i64 o.c) := (hB.cell (p := ⟨g, k * 13, none⟩) hgl).trans (row_cell HR.out ho rfl (j := 0) (by omega) rfl)
      have c1 : wr.cell? ⟨g, k * 13 + 1, none⟩ = some (.int .i64 o.g) := (hB.cell (p := ⟨g, k * 13 + 1, none⟩) hgl).trans (row_cell HR.out ho rfl (j := 1) (by omega) rfl)
      have c2 : wr.cell? ⟨g, k * 13 + 2, none⟩ = some (.int .i64 o.n) := (hB.cell (p := ⟨g, k * 13 + 2, none⟩) hgl).trans (row_cell HR.out ho rfl (j := 2) (by omega) rfl)
      have c3 : wr.cell? ⟨g, k * 13 + 3, none⟩ = some (.int .i64 o.s) := (hB.cell (p := ⟨g, k * 13 + 3, none⟩) hgl).trans (row_cell HR.out ho rfl (j := 3) (by omega) rfl)
      have c4 : wr.cell? ⟨g, k * 13 + 4, none⟩ = some (.int .i64 o.p) := (hB.cell (p := ⟨g, k * 13 + 4, none⟩) hgl).trans (row_cell HR.out ho rfl (j := 4) (by omega) rfl)
      have c5 : wr.cell? ⟨g, k * 13 + 5, none⟩ = some (.int .i64 o.l) := (hB.cell (p := ⟨g, k * 13 + 5, none⟩) hgl).trans (row_cell HR.out ho rfl (j := 5) (by omega) rfl)
      have c6 : wr.cell? ⟨g, k * 13 + 6, none⟩ = some (.int .i64 o.u) := (hB.cell (p := ⟨g, k * 13 + 6, none⟩) hgl).trans (row_cell HR.out ho rfl (j := 6) (by omega) rfl)
      have c7 : wr.cell? ⟨g, k * 13 + 7, none⟩ = some (.int .i64 o.q) := (hB.cell (p := ⟨g, k * 13 + 7, none⟩) hgl).trans (row_cell HR.out ho rfl (j := 7) (by omega) rfl)
      have c8 : wr.cell? ⟨g, k * 13 + 8, none⟩ = some (.int .i64 o.lf) := (hB.cell (p := ⟨g, k * 13 + 8, none⟩) hgl).trans (row_cell HR.out ho rfl (j := 8) (by omega) rfl)
      have c9 : wr.cell? ⟨g, k * 13 + 9, none⟩ = some (.int .i64 o.fl) := (hB.cell (p := ⟨g, k * 13 + 9, none⟩) hgl).trans (row_cell HR.out ho rfl (j := 9) (by omega) rfl)
      have c10 : wr.cell? ⟨g, k * 13 + 10, none⟩ = some (.bool o.ak) := (hB.cell (p := ⟨g, k * 13 + 10, none⟩) hgl).trans (row_cell HR.out ho rfl (j := 10) (by omega) rfl)
      have c11 : wr.cell? ⟨g, k * 13 + 11, none⟩ = some (.bool o.rs) := (hB.cell (p := ⟨g, k * 13 + 11, none⟩) hgl).trans (row_cell HR.out ho rfl (j := 11) (by omega) rfl)
      have c12 : wr.cell? ⟨g, k * 13 + 12, none⟩ = some (.int .i64 o.en) := (hB.cell (p := ⟨g, k * 13 + 12, none⟩) hgl).trans (row_cell HR.out ho rfl (j := 12) (by omega) rfl)
      have hno := HN.out k o hlt ho
      have HCR := Lib.hid (HC.out o wr ((hB.cell (p := ⟨a, 0, none⟩) la).trans HA.out) ((hB.cell (p := ⟨b, 0, none⟩) lb).trans HB.out))
      rw [hno] at HCR
      clear ho hno
      go_wp2_with fail
      refine HCR.out.mono ?_
      rintro e w2 ⟨rfl, hb2⟩
      have hB2 := Below.step hB hb2
      go_wp2_with fail
      go_roundw
      case rel => exact ⟨k + 1, by omega, by go_num, hB2⟩
      case measure => simp [intOf]; omega
    · obtain rfl : q = k := by omega
      have ho := HQ.out
      obtain ⟨o, rfl⟩ : ∃ o, o = o0 := ⟨_, rfl⟩
      have c0 : wr.cell? ⟨g, q * 13, none⟩ = some (.int .i64 o.c) := (hB.cell (p := ⟨g, q * 13, none⟩) hgl).trans (row_cell HR.out ho rfl (j := 0) (by omega) rfl)
      have c1 : wr.cell? ⟨g, q * 13 + 1, none⟩ = some (.int .i64 o.g) := (hB.cell (p := ⟨g, q * 13 + 1, none⟩) hgl).trans (row_cell HR.out ho rfl (j := 1) (by omega) rfl)
      have c2 : wr.cell? ⟨g, q * 13 + 2, none⟩ = some (.int .i64 o.n) := (hB.cell (p := ⟨g, q * 13 + 2, none⟩) hgl).trans (row_cell HR.out ho rfl (j := 2) (by omega) rfl)
      have c3 : wr.cell? ⟨g, q * 13 + 3, none⟩ = some (.int .i64 o.s) := (hB.cell (p := ⟨g, q * 13 + 3, none⟩) hgl).trans (row_cell HR.out ho rfl (j := 3) (by omega) rfl)
      have c4 : wr.cell? ⟨g, q * 13 + 4, none⟩ = some (.int .i64 o.p) := (hB.cell (p := ⟨g, q * 13 + 4, none⟩) hgl).trans (row_cell HR.out ho rfl (j := 4) (by omega) rfl)
      have c5 : wr.cell? ⟨g, q * 13 + 5, none⟩ = some (.int .i64 o.l) := (hB.cell (p := ⟨g, q * 13 + 5, none⟩) hgl).trans (row_cell HR.out ho rfl (j := 5) (by omega) rfl)
      have c6 : wr.cell? ⟨g, q * 13 + 6, none⟩ = some (.int .i64 o.u) := (hB.cell (p := ⟨g, q * 13 + 6, none⟩) hgl).trans (row_cell HR.out ho rfl (j := 6) (by omega) rfl)
      have c7 : wr.cell? ⟨g, q * 13 + 7, none⟩ = some (.int .i64 o.q) := (hB.cell (p := ⟨g, q * 13 + 7, none⟩) hgl).trans (row_cell HR.out ho rfl (j := 7) (by omega) rfl)
      have c8 : wr.cell? ⟨g, q * 13 + 8, none⟩ = some (.int .i64 o.lf) := (hB.cell (p := ⟨g, q * 13 + 8, none⟩) hgl).trans (row_cell HR.out ho rfl (j := 8) (by omega) rfl)
      have c9 : wr.cell? ⟨g, q * 13 + 9, none⟩ = some (.int .i64 o.fl) := (hB.cell (p := ⟨g, q * 13 + 9, none⟩) hgl).trans (row_cell HR.out ho rfl (j := 9) (by omega) rfl)
      have c10 : wr.cell? ⟨g, q * 13 + 10, none⟩ = some (.bool o.ak) := (hB.cell (p := ⟨g, q * 13 + 10, none⟩) hgl).trans (row_cell HR.out ho rfl (j := 10) (by omega) rfl)
      have c11 : wr.cell? ⟨g, q * 13 + 11, none⟩ = some (.bool o.rs) := (hB.cell (p := ⟨g, q * 13 + 11, none⟩) hgl).trans (row_cell HR.out ho rfl (j := 11) (by omega) rfl)
      have c12 : wr.cell? ⟨g, q * 13 + 12, none⟩ = some (.int .i64 o.en) := (hB.cell (p := ⟨g, q * 13 + 12, none⟩) hgl).trans (row_cell HR.out ho rfl (j := 12) (by omega) rfl)
      have HCR := Lib.hid (HC.out o wr ((hB.cell (p := ⟨a, 0, none⟩) la).trans HA.out) ((hB.cell (p := ⟨b, 0, none⟩) lb).trans HB.out))
      rw [hq0] at HCR
      clear ho hq0
      go_wp2_with fail
      refine HCR.out.mono ?_
      rintro e w2 ⟨rfl, hb2⟩
      have hB2 := Below.step hB hb2
      go_wp2_with fail
      go_ret
      exact ⟨rfl, hB2⟩
theorem index_nil (cap : Nat) (f : Value) (w : World) : Calls Try.prog 27 #[.slice none 0 cap, f] w fun e w' => e = .returned (.int .i64 (-1)) ∧ Below w.heap.size w w' := by
  go_enter Try.func27, Try.ntmps27
  go_wp2
  go_loopw [8] (fun j wr => j = .int .i64 0 ∧ wr = w) (fun _ _ => 0)
  case atStart => exact ⟨rfl, rfl⟩
  case round =>
    obtain ⟨rfl, rfl⟩ := hrel
    go_wp2_with fail
    go_ret
    exact ⟨rfl, Below.refl _ _⟩
end Go.Proofs.Ytnhmdaoghcfghaa
