/-
  Lines of one ask are one; a blank more.
-/
import Derived.Test.YtinciphhoieonaaGreatDoorRows
import Derived.Test.YtinciphhoieonaaGreatDoorKit
import Derived.Test.YtinciphhoieonaaGreatDoorApp
import Derived.Test.YtinciphhoieonaaGreatDoorQuiet
import Derived.WalkKit
import Derived.ProofKit
import Derived.OpenShut
import Derived.ShutString
import Derived.Below
import Derived.Outline
import Derived.WalkLawsBesides
import Derived.WalkSpells
import Derived.Handy
import Derived.Deep.QuietTactic
import Derived.BigQuiet
import Derived.RegionTactic
import Derived.ChangeAlike
import Derived.Lib.Hide
import Derived.Laws.Rows
import Derived.Laws.Tables
import Derived.Laws.CopyOwn
import Derived.Laws.MakeOwn
import Derived.Laws.Entries
import Derived.Laws.OwnMore
import Derived.Deep.WholeRow
import Derived.Deep.LoopGhost
import Derived.Deep.AppendLies
import Derived.Deep.Draws
import Derived.Maps.AppendAt
import Derived.OwnWalk
import Derived.Deep.RegionHeld3
import Derived.Deep.Cut
import Derived.Deep.CutRange
import Derived.Deep.DeepCutAuto
import Derived.Deep.CutBlock
import Derived.Lib.SliceRun
import Derived.IntWalk
import Derived.Laws.Strings
import Derived.Test.YtinciphhoieonaaGreatDoorLnD
namespace Go.Proofs.YtinciphhoieonaaGreatDoor
open Go.ChangeShapes Go.WideShapes Go.ChangeAt Go.RowKit
theorem beq_Bs {a b : ByteArray} (h : (a.toList == b.toList) = true) : a.data.toList = b.data.toList := by
  have e := beq_iff_eq.1 h
  rwa [ByteArray.toList_eq, ByteArray.toList_eq] at e
/-- Where no blank is, and where the first is. -/
theorem ib_none : ∀ {l : List UInt8}, ib l = -1 → ∀ x ∈ l, x ≠ 32
  | [], _, x, h => by simp at h
  | a :: t, h, x, hx => by
    unfold ib Lib.indexByte at h
    by_cases ha : a == 32
    · rw [if_pos ha] at h; omega
    · rw [if_neg ha] at h
      by_cases ht : Lib.indexByte t 32 == -1
      · rcases List.mem_cons.1 hx with rfl | hx
        · intro e; exact ha (by rw [e]; rfl)
        · exact ib_none (l := t) (beq_iff_eq.1 ht) x hx
      · rw [if_neg ht] at h
        rcases ibyte_cases t 32 with e | ⟨i, e, _⟩
        · exact absurd (by rw [e]; rfl) ht
        · omega
theorem ib_some : ∀ {l : List UInt8} {i : Nat}, ib l = (i : Int) → l = l.take i ++ 32 :: l.drop (i + 1) ∧ ∀ x ∈ l.take i, x ≠ 32
  | [], i, h => by unfold ib Lib.indexByte at h; omega
  | a :: t, i, h => by
    unfold ib Lib.indexByte at h
    by_cases ha : a == 32
    · rw [if_pos ha] at h
      have : i = 0 := by omega
      subst this
      have := beq_iff_eq.1 ha
      subst this
      exact ⟨by simp, by simp⟩
    · rw [if_neg ha] at h
      by_cases ht : Lib.indexByte t 32 == -1
      · rw [if_pos ht] at h; omega
      · rw [if_neg ht] at h
        rcases ibyte_cases t 32 with e | ⟨j, e, _⟩
        · exact absurd (by rw [e]; rfl) ht
        · obtain ⟨h1, h2⟩ := ib_some (l := t) (i := j) e
          have : i = j + 1 := by omega
          subst this
          refine ⟨?_, fun x hx => ?_⟩
          · simp only [List.take_succ_cons, List.drop_succ_cons, List.cons_append]
            rw [← h1]
          · simp only [List.take_succ_cons, List.mem_cons] at hx
            rcases hx with rfl | hx
            · intro e2; exact ha (by rw [e2]; rfl)
            · exact h2 x hx
/-- What is left of a line, with its blank. -/
def tx (m : Bool) (r : List UInt8) : List UInt8 := if m = true then 32 :: r else []
theorem cutb_join (l : List UInt8) : l = (cutb l).1 ++ tx (cutb l).2.2 (cutb l).2.1 ∧ (∀ x ∈ (cutb l).1, x ≠ 32) ∧ ((cutb l).2.2 = false → (cutb l).2.1 = []) := by
  rcases ibyte_cases l 32 with h | ⟨i, h, _⟩
  · have hx : ib l = -1 := h
    rw [cutb_miss hx]
    exact ⟨by simp [tx], ib_none hx, fun _ => rfl⟩
  · have hx : ib l = (i : Int) := h
    obtain ⟨h1, h2⟩ := ib_some hx
    rw [cutb_hit hx]
    exact ⟨by simpa [tx] using h1, h2, fun e => by simp at e⟩
theorem dec_ge : ∀ (l : List UInt8) (acc n : Nat), Lib.decFrom acc l = some n → acc * 10 ^ l.length ≤ n
  | [], acc, n, h => by simp only [Lib.decFrom, Option.some.injEq] at h; subst h; simp
  | a :: t, acc, n, h => by
    simp only [Lib.decFrom] at h
    rcases e : Lib.digitVal a with _ | d
    · rw [e] at h; cases h
    · rw [e] at h
      have h1 := dec_ge t _ n h
      rw [List.length_cons, Nat.pow_succ]
      have h2 : acc * (10 ^ t.length * 10) = acc * 10 * 10 ^ t.length := by rw [Nat.mul_comm (10 ^ t.length) 10, Nat.mul_assoc]
      rw [h2]
      exact Nat.le_trans (Nat.mul_le_mul_right _ (by omega)) h1
theorem dval_inj {a b : UInt8} {d : Nat} (ha : Lib.digitVal a = some d) (hb : Lib.digitVal b = some d) : a = b := by
  obtain ⟨h1, h2, h3⟩ := Lib.digitVal_eq ha
  obtain ⟨g1, g2, g3⟩ := Lib.digitVal_eq hb
  exact UInt8.toNat_inj.1 (by omega)
theorem dec_inj : ∀ (l l' : List UInt8) (acc m : Nat), l.length = l'.length → Lib.decFrom acc l = some m → Lib.decFrom acc l' = some m → l = l'
  | [], [], _, _, _, _, _ => rfl
  | [], _ :: _, _, _, h, _, _ => by simp at h
  | _ :: _, [], _, _, h, _, _ => by simp at h
  | a :: t, b :: u, acc, m, hl, h1, h2 => by
    simp only [List.length_cons, Nat.add_right_cancel_iff] at hl
    simp only [Lib.decFrom] at h1 h2
    rcases e1 : Lib.digitVal a with _ | d
    · rw [e1] at h1; cases h1
    · rcases e2 : Lib.digitVal b with _ | d'
      · rw [e2] at h2; cases h2
      · rw [e1] at h1
        rw [e2] at h2
        simp only at h1 h2
        have a1 := dec_ge t _ m h1
        have a2 := Lib.decFrom_lt t _ m h1
        have b1 := dec_ge u _ m h2
        have b2 := Lib.decFrom_lt u _ m h2
        rw [← hl] at b1 b2
        have c1 := Nat.lt_of_mul_lt_mul_right (Nat.lt_of_le_of_lt a1 b2)
        have c2 := Nat.lt_of_mul_lt_mul_right (Nat.lt_of_le_of_lt b1 a2)
        have hd : d = d' := by omega
        subst hd
        rw [dval_inj e1 e2, dec_inj t u _ m hl h1 h2]
theorem digs_long {l l' : List UInt8} (h : digs l = true) (h' : digs l' = true) (e : nv l = nv l') : ¬ l.length < l'.length := by
  intro hlt
  obtain ⟨a1, a2, a3, _⟩ := digs_dec h
  obtain ⟨b1, b2, b3, _⟩ := digs_dec h'
  rcases l' with _ | ⟨b, t⟩
  · simp at hlt
  · have hb := digs_first h' b t rfl
    have hnz : b ≠ 48 := by
      intro hb0
      subst hb0
      unfold digs at h'
      simp only [Bool.and_eq_true] at h'
      have := h'.2.2.1
      simp at this
      simp only [List.length_cons] at hlt
      rw [this] at hlt
      simp at hlt
      rw [hlt] at a1
      simp at a1
    have hb1 : 49 ≤ b.toNat := by
      rcases Nat.lt_or_ge b.toNat 49 with h1 | h1
      · exact absurd (UInt8.toNat_inj.1 (show b.toNat = (48 : UInt8).toNat by show b.toNat = 48; omega)) hnz
      · exact h1
    have hdv : Lib.digitVal b = some (b.toNat - 48) := by unfold Lib.digitVal; rw [if_pos hb]
    unfold Lib.decFrom at b3
    rw [hdv] at b3
    simp only at b3
    have c1 := dec_ge t _ _ b3
    have c2 := Lib.decFrom_lt l 0 _ a3
    simp only [List.length_cons] at hlt
    have c3 := Nat.pow_le_pow_right (n := 10) (by decide) (show l.length ≤ t.length by omega)
    have c4 : 1 * 10 ^ t.length ≤ (0 * 10 + (b.toNat - 48)) * 10 ^ t.length := Nat.mul_le_mul_right _ (by omega)
    rw [← e] at c1
    omega
theorem digs_inj {l l' : List UInt8} (h : digs l = true) (h' : digs l' = true) (e : nv l = nv l') : l = l' := by
  have h1 := digs_long h h' e
  have h2 := digs_long h' h e.symm
  have a3 := (digs_dec h).2.2.1
  have b3 := (digs_dec h').2.2.1
  rw [← e] at b3
  exact dec_inj l l' 0 _ (by omega) a3 b3
end Go.Proofs.YtinciphhoieonaaGreatDoor
