/-
  Lines of one ask are one; a blank more.
-/
import Derived.Test.YtnppopeoloigeaaDoorRows
import Derived.Test.YtnppopeoloigeaaDoorKit
import Derived.Test.YtnppopeoloigeaaDoorApp
import Derived.Test.YtnppopeoloigeaaDoorQuiet
import Derived.WalkKit
import Derived.ProofKit
import Derived.OpenShut
import Derived.ShutString
import Derived.Below
import Derived.Outline
import Derived.WalkLawsBesides
import Derived.WalkSpells
import Derived.Handy
import Derived.Deep.QuietTactic
import Derived.BigQuiet
import Derived.RegionTactic
import Derived.ChangeAlike
import Derived.Lib.Hide
import Derived.Laws.Rows
import Derived.Laws.Tables
import Derived.Laws.CopyOwn
import Derived.Laws.MakeOwn
import Derived.Laws.Entries
import Derived.Laws.OwnMore
import Derived.Deep.WholeRow
import Derived.Deep.LoopGhost
import Derived.Deep.AppendLies
import Derived.Deep.Draws
import Derived.Maps.AppendAt
import Derived.OwnWalk
import Derived.Deep.RegionHeld3
import Derived.Deep.Cut
import Derived.Deep.CutRange
import Derived.Deep.DeepCutAuto
import Derived.Deep.CutBlock
import Derived.Lib.SliceRun
import Derived.IntWalk
import Derived.Laws.Strings
import Derived.Test.YtnppopeoloigeaaDoorLnP
namespace Go.Proofs.YtnppopeoloigeaaDoor
open Go.ChangeShapes Go.WideShapes Go.ChangeAt Go.RowKit
theorem beq_Bs {a b : ByteArray} (h : (a.toList == b.toList) = true) : a.data.toList = b.data.toList := by
  have e := beq_iff_eq.1 h
  rwa [ByteArray.toList_eq, ByteArray.toList_eq] at e
/-- Where no blank is, and where the first is. -/
theorem ib_none : ∀ {l : List UInt8}, ib l = -1 → ∀ x ∈ l, x ≠ 32
  | [], _, x, h => by simp at h
  | a :: t, h, x, hx => by
    unfold ib Lib.indexByte at h
    by_cases ha : a == 32
    · rw [if_pos ha] at h; omega
    · rw [if_neg ha] at h
      by_cases ht : Lib.indexByte t 32 == -1
      · rcases List.mem_cons.1 hx with rfl | hx
        · intro e; exact ha (by rw [e]; rfl)
        · exact ib_none (l := t) (beq_iff_eq.1 ht) x hx
      · rw [if_neg ht] at h
        rcases ibyte_cases t 32 with e | ⟨i, e, _⟩
        · exact absurd (by rw [e]; rfl) ht
        · omega
theorem ib_some : ∀ {l : List UInt8} {i : Nat}, ib l = (i : Int) → l = l.take i ++ 32 :: l.drop (i + 1) ∧ ∀ x ∈ l.take i, x ≠ 32
  | [], i, h => by unfold ib Lib.indexByte at h; omega
  | a :: t, i, h => by
    unfold ib Lib.indexByte at h
    by_cases ha : a == 32
    · rw [if_pos ha] at h
      have : i = 0 := by omega
      subst this
      have := beq_iff_eq.1 ha
      subst this
      exact ⟨by simp, by simp⟩
    · rw [if_neg ha] at h
      by_cases ht : Lib.indexByte t 32 == -1
      · rw [if_pos ht] at h; omega
      · rw [if_neg ht] at h
        rcases ibyte_cases t 32 with e | ⟨j, e, _⟩
        · exact absurd (by rw [e]; rfl) ht
        · obtain ⟨h1, h2⟩ := ib_some (l := t) (i := j) e
          have : i = j + 1 := by omega
          subst this
          refine ⟨?_, fun x hx => ?_⟩
          · simp only [List.take_succ_cons, List.drop_succ_cons, List.cons_append]
            rw [← h1]
          · simp only [List.take_succ_cons, List.mem_cons] at hx
            rcases hx with rfl | hx
            · intro e2; exact ha (by rw [e2]; rfl)
            · exact h2 x hx
/-- What is left of a line, with its blank. -/
def tx (m : Bool) (r : List UInt8) : List UInt8 := if m = true then 32 :: r else []
theorem cutb_join (l : List UInt8) : l = (cutb l).1 ++ tx (cutb l).2.2 (cutb l).2.1 ∧ (∀ x ∈ (cutb l).1, x ≠ 32) ∧ ((cutb l).2.2 = false → (cutb l).2.1 = []) := by
  rcases ibyte_cases l 32 with h | ⟨i, h, _⟩
  · have hx : ib l = -1 := h
    rw [cutb_miss hx]
    exact ⟨by simp [tx], ib_none hx, fun _ => rfl⟩
  · have hx : ib l = (i : Int) := h
    obtain ⟨h1, h2⟩ := ib_some hx
    rw [cutb_hit hx]
    exact ⟨by simpa [tx] using h1, h2, fun e => by simp at e⟩
theorem dec_ge : ∀ (l : List UInt8) (acc n : Nat), Lib.decFrom acc l = some n → acc * 10 ^ l.length ≤ n
  | [], acc, n, h => by simp only [Lib.decFrom, Option.some.injEq] at h; subst h; simp
  | a :: t, acc, n, h => by
    simp only [Lib.decFrom] at h
    rcases e : Lib.digitVal a with _ | d
    · rw [e] at h; cases h
    · rw [e] at h
      have h1 := dec_ge t _ n h
      rw [List.length_cons, Nat.pow_succ]
      have h2 : acc * (10 ^ t.length * 10) = acc * 10 * 10 ^ t.length := by rw [Nat.mul_comm (10 ^ t.length) 10, Nat.mul_assoc]
      rw [h2]
      exact Nat.le_trans (Nat.mul_le_mul_right _ (by omega)) h1
theorem dval_inj {a b : UInt8} {d : Nat} (ha : Lib.digitVal a = some d) (hb : Lib.digitVal b = some d) : a = b := by
  obtain ⟨h1, h2, h3⟩ := Lib.digitVal_eq ha
  obtain ⟨g1, g2, g3⟩ := Lib.digitVal_eq hb
  exact UInt8.toNat_inj.1 (by omega)
theorem dec_inj : ∀ (l l' : List UInt8) (acc m : Nat), l.length = l'.length → Lib.decFrom acc l = some m → Lib.decFrom acc l' = some m → l = l'
  | [], [], _, _, _, _, _ => rfl
  | [], _ :: _, _, _, h, _, _ => by simp at h
  | _ :: _, [], _, _, h, _, _ => by simp at h
  | a :: t, b :: u, acc, m, hl, h1, h2 => by
    simp only [List.length_cons, Nat.add_right_cancel_iff] at hl
    simp only [Lib.decFrom] at h1 h2
    rcases e1 : Lib.digitVal a with _ | d
    · rw [e1] at h1; cases h1
    · rcases e2 : Lib.digitVal b with _ | d'
      · rw [e2] at h2; cases h2
      · rw [e1] at h1
        rw [e2] at h2
        simp only at h1 h2
        have a1 := dec_ge t _ m h1
        have a2 := Lib.decFrom_lt t _ m h1
        have b1 := dec_ge u _ m h2
        have b2 := Lib.decFrom_lt u _ m h2
        rw [← hl] at b1 b2
        have c1 := Nat.lt_of_mul_lt_mul_right (Nat.lt_of_le_of_lt a1 b2)
        have c2 := Nat.lt_of_mul_lt_mul_right (Nat.lt_of_le_of_lt b1 a2)
        have hd : d = d' := by omega
        subst hd
        rw [dval_inj e1 e2, dec_inj t u _ m hl h1 h2]
theorem digs_long {l l' : List UInt8} (h : digs l = true) (h' : digs l' = true) (e : nv l = nv l') : ¬ l.length < l'.length := by
  intro hlt
  obtain ⟨a1, a2, a3, _⟩ := digs_dec h
  obtain ⟨b1, b2, b3, _⟩ := digs_dec h'
  rcases l' with _ | ⟨b, t⟩
  · simp at hlt
  · have hb := digs_first h' b t rfl
    have hnz : b ≠ 48 := by
      intro hb0
      subst hb0
      unfold digs at h'
      simp only [Bool.and_eq_true] at h'
      have := h'.2.2.1
      simp at this
      simp only [List.length_cons] at hlt
      rw [this] at hlt
      simp at hlt
      rw [hlt] at a1
      simp at a1
    have hb1 : 49 ≤ b.toNat := by
      rcases Nat.lt_or_ge b.toNat 49 with h1 | h1
      · exact absurd (UInt8.toNat_inj.1 (show b.toNat = (48 : UInt8).toNat by show b.toNat = 48; omega)) hnz
      · exact h1
    have hdv : Lib.digitVal b = some (b.toNat - 48) := by unfold Lib.digitVal; rw [if_pos hb]
    unfold Lib.decFrom at b3
    rw [hdv] at b3
    simp only at b3
    have c1 := dec_ge t _ _ b3
    have c2 := Lib.decFrom_lt l 0 _ a3
    simp only [List.length_cons] at hlt
    have c3 := Nat.pow_le_pow_right (n := 10) (by decide) (show l.length ≤ t.length by omega)
    have c4 : 1 * 10 ^ t.length ≤ (0 * 10 + (b.toNat - 48)) * 10 ^ t.length := Nat.mul_le_mul_right _ (by omega)
    rw [← e] at c1
    omega
theorem digs_inj {l l' : List UInt8} (h : digs l = true) (h' : digs l' = true) (e : nv l = nv l') : l = l' := by
  have h1 := digs_long h h' e
  have h2 := digs_long h' h e.symm
  have a3 := (digs_dec h).2.2.1
  have b3 := (digs_dec h').2.2.1
  rw [← e] at b3
  exact dec_inj l l' 0 _ (by omega) a3 b3
/-- A word that stands is told by its number. -/
theorem rdv_inj {b : Bool} {x y : List UInt8} (hx : (rdv b (Bs x)).1 = 0) (hy : (rdv b (Bs y)).1 = 0) (h : (rdv b (Bs x)).2 = (rdv b (Bs y)).2) : x = y := by
  cases b with
  | false =>
    unfold rdv at hx hy h
    simp only [Bs_list, Bool.false_eq_true, if_false] at hx hy h
    by_cases h1 : digs x = true
    · by_cases h2 : digs y = true
      · rw [if_pos h1, if_pos h2] at h
        exact digs_inj h1 h2 (by have h' : (nv x : Int) = (nv y : Int) := h; omega)
      · rw [if_neg h2] at hy; simp at hy
    · rw [if_neg h1] at hx; simp at hx
  | true =>
    unfold rdv at hx hy h
    simp only [if_true] at hx hy h
    by_cases x0 : ((sd 0).toList == (Bs x).toList) = true
    · by_cases y0 : ((sd 0).toList == (Bs y).toList) = true
      · have e1 := beq_Bs x0; have e2 := beq_Bs y0
        rw [Bs_list] at e1 e2
        rw [← e1, ← e2]
      · rw [if_pos x0, if_neg y0] at h
        rw [if_neg y0] at hy
        split at h <;> simp at h
        · rename_i h5; rw [if_neg h5] at hy; simp at hy
    · by_cases y0 : ((sd 0).toList == (Bs y).toList) = true
      · rw [if_neg x0, if_pos y0] at h
        rw [if_neg x0] at hx
        split at h <;> simp at h
        · rename_i h5; rw [if_neg h5] at hx; simp at hx
      · rw [if_neg x0] at hx
        rw [if_neg y0] at hy
        by_cases x1 : ((sd 1).toList == (Bs x).toList) = true
        · by_cases y1 : ((sd 1).toList == (Bs y).toList) = true
          · have e1 := beq_Bs x1; have e2 := beq_Bs y1
            rw [Bs_list] at e1 e2
            rw [← e1, ← e2]
          · rw [if_neg y1] at hy; simp at hy
        · rw [if_neg x1] at hx; simp at hx
theorem stp_keep (n : Int) : ∀ (L : List (Nat × Bool)) (cs : List Int) (r : List UInt8) (m : Bool) (c' : List Int) (r' : List UInt8) (m' : Bool), stp n L cs r m = .go c' r' m' → ∀ q, (∀ x ∈ L, x.1 ≠ q) → c'[q]? = cs[q]?
  | [], cs, r, m, c', r', m', h, q, _ => by
    simp only [stp] at h
    injection h with h1
    rw [h1]
  | (j, b) :: t, cs, r, m, c', r', m', h, q, hq => by
    rw [stp_cons] at h
    split at h
    · cases h
    · split at h
      · have ih := stp_keep n t _ _ _ c' r' m' h q (fun x hx => hq x (List.mem_cons_of_mem _ hx))
        rw [ih, List.getElem?_set_ne (hq (j, b) (List.mem_cons_self ..))]
      · cases h
theorem stp_uniq : ∀ (L : List (Nat × Bool)) (n n2 : Int) (cs cs2 : List Int) (r r2 : List UInt8) (m m2 : Bool) (c' : List Int) (q1 q2 : List UInt8), (L.map Prod.fst).Nodup → (∀ x ∈ L, x.1 < cs.length) → cs.length = cs2.length → stp n L cs r m = .go c' q1 false → stp n2 L cs2 r2 m2 = .go c' q2 false → tx m r = tx m2 r2
  | [], n, n2, cs, cs2, r, r2, m, m2, c', q1, q2, _, _, _, h1, h2 => by
    simp only [stp] at h1 h2
    injection h1 with _ _ h1
    injection h2 with _ _ h2
    rw [h1, h2]
    rfl
  | (j, b) :: t, n, n2, cs, cs2, r, r2, m, m2, c', q1, q2, hN, hlt, hl, h1, h2 => by
    rw [stp_cons] at h1 h2
    rw [List.map_cons, List.nodup_cons] at hN
    have hj : ∀ x ∈ t, x.1 ≠ j := fun x hx e => hN.1 (List.mem_map.2 ⟨x, hx, e⟩)
    have hjl := hlt (j, b) (List.mem_cons_self ..)
    split at h1
    · cases h1
    · rename_i hm
      split at h2
      · cases h2
      · rename_i hm2
        split at h1
        · rename_i hx
          split at h2
          · rename_i hy
            have k1 := stp_keep n t _ _ _ c' q1 false h1 j hj
            have k2 := stp_keep n2 t _ _ _ c' q2 false h2 j hj
            rw [List.getElem?_set_self (by omega)] at k1
            rw [List.getElem?_set_self (by omega)] at k2
            rw [k1] at k2
            injection k2 with k2
            have hw := rdv_inj hx hy k2
            have ih := stp_uniq t n n2 _ _ _ _ _ _ c' q1 q2 hN.2 (fun x hx => by rw [List.length_set]; exact hlt x (List.mem_cons_of_mem _ hx)) (by rw [List.length_set, List.length_set]; exact hl) h1 h2
            have e1 := (cutb_join r).1
            have e2 := (cutb_join r2).1
            rw [hw, ih, ← e2] at e1
            have hmt : m = true := by simpa using hm
            have hmt2 : m2 = true := by simpa using hm2
            rw [hmt, hmt2, e1]
          · cases h2
        · cases h1
theorem tg_nodup (k : Int) : ((tg k).map Prod.fst).Nodup := by
  unfold tg
  split
  · decide
  · split
    · decide
    · split <;> decide
theorem tg_pos (k : Int) : ∀ x ∈ tg k, x.1 ≠ 0 ∧ x.1 < 9 := by
  intro x hx
  unfold tg at hx
  split at hx
  · simp at hx; rcases hx with rfl | rfl | rfl | rfl | rfl | rfl | rfl | rfl <;> simp
  · split at hx
    · simp at hx; rcases hx with rfl | rfl <;> simp
    · split at hx
      · simp at hx; subst hx; simp
      · simp at hx
theorem kd_word {x y : List UInt8} (h : kd (Bs x) = kd (Bs y)) (hz : kd (Bs x) ≠ 0) : x = y := by
  have key : ∀ z : List UInt8, kd (Bs z) ≠ 0 → z = (vb (kd (Bs z)).toNat).data.toList := by
    intro z hz
    unfold kd at hz ⊢
    split
    · rename_i e; have := beq_Bs e; rw [Bs_list] at this; exact this.symm
    · split
      · rename_i e; have := beq_Bs e; rw [Bs_list] at this; exact this.symm
      · split
        · rename_i e; have := beq_Bs e; rw [Bs_list] at this; exact this.symm
        · split
          · rename_i e; have := beq_Bs e; rw [Bs_list] at this; exact this.symm
          · rename_i e1 e2 e3 e4; rw [if_neg e1, if_neg e2, if_neg e3, if_neg e4] at hz; exact absurd rfl hz
  rw [key x hz, key y (by rw [← h]; exact hz), h]
/-- What an accepted line is. -/
theorem lp_ok {s : ByteArray} {c : List Int} (h : lp s = .ok c) : kd (Bs (cutb s.data.toList).1) ≠ 0 ∧ ∃ q, stp (s.size : Int) (tg (kd (Bs (cutb s.data.toList).1))) [kd (Bs (cutb s.data.toList).1), 0, 0, 0, 0, 0, 0, 0, 0] (cutb s.data.toList).2.1 (cutb s.data.toList).2.2 = .go c q false := by
  unfold lp at h
  split at h
  · cases h
  · split at h
    · cases h
    · split at h
      · cases h
      · rename_i hz
        refine ⟨hz, ?_⟩
        rcases e : stp (s.size : Int) (tg (kd (Bs (cutb s.data.toList).1))) [kd (Bs (cutb s.data.toList).1), 0, 0, 0, 0, 0, 0, 0, 0] (cutb s.data.toList).2.1 (cutb s.data.toList).2.2 with ⟨a, b⟩ | ⟨cs, r, m⟩
        · rw [e] at h; cases h
        · rw [e] at h
          unfold fin_ at h
          simp only at h
          split at h
          · cases h
          · rename_i hm
            injection h with h
            have : m = false := by simpa using hm
            rw [this, h]
            exact ⟨r, rfl⟩
/-- Lines that ask one thing are one. -/
theorem lp_uniq {s t : ByteArray} {c : List Int} (h1 : lp s = .ok c) (h2 : lp t = .ok c) : s = t := by
  obtain ⟨z1, q1, e1⟩ := lp_ok h1
  obtain ⟨z2, q2, e2⟩ := lp_ok h2
  have k1 := stp_keep _ _ _ _ _ _ _ _ e1 0 (fun x hx => (tg_pos _ x hx).1)
  have k2 := stp_keep _ _ _ _ _ _ _ _ e2 0 (fun x hx => (tg_pos _ x hx).1)
  rw [k1] at k2
  have hk : kd (Bs (cutb s.data.toList).1) = kd (Bs (cutb t.data.toList).1) := by simpa using k2
  have hw := kd_word hk z1
  rw [← hk] at e2
  have hx := stp_uniq _ _ _ _ _ _ _ _ _ c q1 q2 (tg_nodup _) (by intro x hx; exact (tg_pos _ x hx).2) rfl e1 e2
  have j1 := (cutb_join s.data.toList).1
  have j2 := (cutb_join t.data.toList).1
  rw [hw, hx, ← j2] at j1
  rw [← Bs_of s, ← Bs_of t, j1]
end Go.Proofs.YtnppopeoloigeaaDoor
