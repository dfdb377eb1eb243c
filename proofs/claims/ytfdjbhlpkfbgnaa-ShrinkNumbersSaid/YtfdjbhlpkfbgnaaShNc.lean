/-
  The search by halves.
-/
import Derived.Test.YtfdjbhlpkfbgnaaRows
import Derived.Test.YtfdjbhlpkfbgnaaKit
import Derived.Test.YtfdjbhlpkfbgnaaApp
import Derived.Test.YtfdjbhlpkfbgnaaQuiet
import Derived.Test.YtfdjbhlpkfbgnaaShM
import Derived.Test.YtfdjbhlpkfbgnaaShO
import Derived.Test.YtfdjbhlpkfbgnaaShB
import Derived.Test.YtfdjbhlpkfbgnaaShC
import Derived.Test.YtfdjbhlpkfbgnaaShD
import Derived.Test.YtfdjbhlpkfbgnaaShA
import Derived.Test.YtfdjbhlpkfbgnaaShNa
import Derived.Test.YtfdjbhlpkfbgnaaShNb
import Derived.WalkKit
import Derived.ProofKit
import Derived.OpenShut
import Derived.ShutString
import Derived.Below
import Derived.Outline
import Derived.WalkLawsBesides
import Derived.WalkSpells
import Derived.Handy
import Derived.Deep.QuietTactic
import Derived.BigQuiet
import Derived.RegionTactic
import Derived.ChangeAlike
import Derived.Lib.Hide
import Derived.Laws.Rows
import Derived.Laws.Tables
import Derived.Laws.CopyOwn
import Derived.Laws.MakeOwn
import Derived.Laws.Entries
import Derived.Laws.OwnMore
import Derived.Deep.WholeRow
import Derived.Deep.LoopGhost
import Derived.Deep.AppendLies
import Derived.Deep.Draws
import Derived.Maps.AppendAt
import Derived.OwnWalk
import Derived.Deep.RegionHeld3
import Derived.Deep.Cut
import Derived.Deep.CutRange
import Derived.Deep.DeepCutAuto
import Derived.Deep.CutBlock
import Derived.Lib.SliceRun
import Derived.IntWalk
namespace Go.Proofs.Ytfdjbhlpkfbgnaa
open Go.ChangeShapes Go.WideShapes Go.ChangeAt Go.RowKit
set_option maxRecDepth 100000 in
set_option maxHeartbeats 1000000 in
theorem least_is (St : World → Prop) (lb ib kb : Nat) (F most : Int) (h0 : 0 ≤ most) (hF : F ≤ most) (hm : most ≤ 9223372036854775807) (w : World) (hs : St w) (HT0 : ∀ (W : World) (v : Int), St W → 0 ≤ v → v ≤ most → Calls Try.prog 24 #[.int .i64 v, .pointer (some ⟨lb, 0, none⟩), .pointer (some ⟨ib, 0, none⟩), .pointer (some ⟨kb, 0, none⟩)] W fun e w' => e = .returned (.bool (decide (F ≤ v))) ∧ St w') : Calls Try.prog 23 #[.int .i64 most, .func (.func 24) #[] #[.pointer (some ⟨lb, 0, none⟩), .pointer (some ⟨ib, 0, none⟩), .pointer (some ⟨kb, 0, none⟩)]] w fun e w' => e = .returned (.int .i64 (if F ≤ 0 then 0 else F)) ∧ St w' := by
  obtain ⟨R, hR⟩ : ∃ R : Int, (if F ≤ 0 then 0 else F) = R := ⟨_, rfl⟩
  rw [hR]
  have HRR := Lib.hid hR
  clear hR
  have HT := Lib.hid HT0
  have HS := Lib.hid hs
  have H0 := Lib.hid (And.intro h0 (And.intro hF hm))
  clear HT0 hs h0 hF hm
  go_enter Try.func23, Try.ntmps23
  go_wp2_with fail
  go_loopg [0, 5, 6] most.toNat (fun gk bv av _ wr => ∃ (a b : Int), gk = (b - a).toNat ∧ bv = .int .i64 b ∧ av = .int .i64 a ∧ Hid (0 ≤ a ∧ a ≤ b ∧ b ≤ most ∧ F ≤ b ∧ (a = 0 ∨ a ≤ F) ∧ St wr))
  case atStart => exact ⟨0, most, by rw [Int.sub_zero], rfl, rfl, Lib.hid ⟨Int.le_refl _, H0.out.1, Int.le_refl _, H0.out.2.1, .inl rfl, HS.out⟩⟩
  case round =>
    obtain ⟨a, b, rfl, rfl, rfl, HR⟩ := hrel
    clear HS
    by_cases hab : a < b
    · obtain ⟨d, hd, hd0, hd1⟩ : ∃ d : Int, (b - a).tdiv 2 = d ∧ 0 ≤ d ∧ a + d < b := by
        refine ⟨(b - a) / 2, ?_, by omega, by omega⟩
        rw [Int.tdiv_eq_ediv_of_nonneg (by omega)]
      have W1 : IntKind.i64.wrap (b - a) = b - a := IntWalk.i64_in _ (by have := HR.out; have := H0.out; omega)
      have W2 : IntKind.i64.wrap d = d := IntWalk.i64_in _ (by have := HR.out; have := H0.out; omega)
      have W3 : IntKind.i64.wrap (a + d) = a + d := IntWalk.i64_in _ (by have := HR.out; have := H0.out; omega)
      have W4 : IntKind.i64.wrap (a + d + 1) = a + d + 1 := IntWalk.i64_in _ (by have := HR.out; have := H0.out; omega)
      have HC := Lib.hid (HT.out _ (a + d) HR.out.2.2.2.2.2 (by have := HR.out; omega) (by have := HR.out; omega))
      have HD := Lib.hid (And.intro hd0 hd1)
      clear hd0 hd1
      by_cases hg : F ≤ a + d
      · rw [decide_eq_true hg] at HC
        have HG := Lib.hid hg
        clear hg
        go_wp2_with fail
        refine HC.out.mono ?_
        rintro e1 w1 ⟨rfl, hs1⟩
        have HS1 := Lib.hid hs1
        clear hs1 HC
        go_wp2_with fail
        go_roundg ((a + d - a).toNat)
        case measure => have := HD.out; omega
        case rel => exact ⟨a, a + d, rfl, rfl, rfl, Lib.hid ⟨HR.out.1, by have := HD.out; omega, by have := HD.out; have := HR.out; omega, HG.out, HR.out.2.2.2.2.1, HS1.out⟩⟩
      · rw [decide_eq_false hg] at HC
        have HG := Lib.hid hg
        clear hg
        go_wp2_with fail
        refine HC.out.mono ?_
        rintro e1 w1 ⟨rfl, hs1⟩
        have HS1 := Lib.hid hs1
        clear hs1 HC
        go_wp2_with fail
        go_roundg ((b - (a + d + 1)).toNat)
        case measure => have := HD.out; omega
        case rel => exact ⟨a + d + 1, b, rfl, rfl, rfl, Lib.hid ⟨by have := HD.out; have := HR.out; omega, by have := HD.out; omega, HR.out.2.2.1, HR.out.2.2.2.1, .inr (by have := HG.out; omega), HS1.out⟩⟩
    · go_wp2_with fail
      go_ret
      obtain ⟨h1, h2, h3, h4, h5, h6⟩ := HR.out
      have he : b = R := by
        rw [← HRR.out]
        by_cases hz : F ≤ 0
        · rw [if_pos hz]
          omega
        · rw [if_neg hz]
          omega
      subst he
      exact ⟨rfl, h6⟩
/-- What a number becomes. -/
def low (q : Nat) (m : Int) (i : Nat) (x : Evn) : Evn := if 0 < x.n then { x with n := if i = q then (if m ≤ 0 then 0 else m) else 0 } else x
def lowl (q : Nat) (m : Int) (l : List Evn) : Nat → List Evn
  | 0 => l
  | k + 1 => match l[k]? with
    | some x => (lowl q m l k).set k (low q m k x)
    | none => lowl q m l k
theorem lowl_len (q : Nat) (m : Int) (l : List Evn) : ∀ k, (lowl q m l k).length = l.length
  | 0 => rfl
  | k + 1 => by
    unfold lowl
    split
    · rw [List.length_set, lowl_len q m l k]
    · exact lowl_len q m l k
theorem lowl_late (q : Nat) (m : Int) (l : List Evn) : ∀ k j, k ≤ j → (lowl q m l k)[j]? = l[j]?
  | 0, j, _ => rfl
  | k + 1, j, h => by
    unfold lowl
    split
    · rw [List.getElem?_set_ne (by omega), lowl_late q m l k j (by omega)]
    · exact lowl_late q m l k j (by omega)
theorem lowl_get (q : Nat) (m : Int) (l : List Evn) : ∀ k j, j < k → (lowl q m l k)[j]? = (l[j]?).map (low q m j)
  | 0, j, h => by omega
  | k + 1, j, h => by
    unfold lowl
    by_cases hj : j = k
    · subst hj
      split
      · rename_i x hx
        have hlt := (List.getElem?_eq_some_iff.1 hx).1
        rw [hx, List.getElem?_set_self (by rw [lowl_len]; exact hlt)]
        rfl
      · rename_i hx
        rw [lowl_late q m l j j (Nat.le_refl _), hx]
        rfl
    · split
      · rw [List.getElem?_set_ne (by omega), lowl_get q m l k j (by omega)]
      · exact lowl_get q m l k j (by omega)
theorem lowl_succ {q : Nat} {m : Int} {l : List Evn} {k : Nat} {x : Evn} (h : l[k]? = some x) : lowl q m l (k + 1) = (lowl q m l k).set k (low q m k x) := by
  show (match l[k]? with | some x => (lowl q m l k).set k (low q m k x) | none => lowl q m l k) = _
  rw [h]
/-- The place asked of holds all the way. -/
theorem lowl_holds {q : Nat} {m : Int} {l : List Evn} (h : atE q m l = true) (k i : Nat) (x : Evn) (v : Int) (hx : l[i]? = some x) (hi : k ≤ i) : atE q m ((lowl q m l k).set i { x with n := v }) = if i = q then decide (m ≤ v) else true := by
  have hlt := (List.getElem?_eq_some_iff.1 hx).1
  unfold atE at h ⊢
  by_cases hq : i = q
  · subst hq
    rw [List.getElem?_set_self (by rw [lowl_len]; exact hlt), if_pos rfl]
  · rw [List.getElem?_set_ne hq, if_neg hq]
    cases hlq : l[q]? with
    | none => rw [hlq] at h; cases h
    | some y =>
      rw [hlq] at h
      have h2 : m ≤ y.n := of_decide_eq_true h
      by_cases hk : q < k
      · rw [lowl_get q m l k q hk, hlq]
        show decide (m ≤ (low q m q y).n) = true
        apply decide_eq_true
        unfold low
        split
        · show m ≤ (if q = q then (if m ≤ 0 then 0 else m) else 0)
          rw [if_pos rfl]
          split <;> omega
        · exact h2
      · rw [lowl_late q m l k q (by omega), hlq]
        exact h
end Go.Proofs.Ytfdjbhlpkfbgnaa
