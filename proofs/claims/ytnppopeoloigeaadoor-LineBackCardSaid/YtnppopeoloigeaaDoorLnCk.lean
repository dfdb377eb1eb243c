/-
  What is printed is read, what is read is printed.
-/
import Derived.Test.YtnppopeoloigeaaDoorRows
import Derived.Test.YtnppopeoloigeaaDoorKit
import Derived.Test.YtnppopeoloigeaaDoorApp
import Derived.Test.YtnppopeoloigeaaDoorQuiet
import Derived.WalkKit
import Derived.ProofKit
import Derived.OpenShut
import Derived.ShutString
import Derived.Below
import Derived.Outline
import Derived.WalkLawsBesides
import Derived.WalkSpells
import Derived.Handy
import Derived.Deep.QuietTactic
import Derived.BigQuiet
import Derived.RegionTactic
import Derived.ChangeAlike
import Derived.Lib.Hide
import Derived.Laws.Rows
import Derived.Laws.Tables
import Derived.Laws.CopyOwn
import Derived.Laws.MakeOwn
import Derived.Laws.Entries
import Derived.Laws.OwnMore
import Derived.Deep.WholeRow
import Derived.Deep.LoopGhost
import Derived.Deep.AppendLies
import Derived.Deep.Draws
import Derived.Maps.AppendAt
import Derived.OwnWalk
import Derived.Deep.RegionHeld3
import Derived.Deep.Cut
import Derived.Deep.CutRange
import Derived.Deep.DeepCutAuto
import Derived.Deep.CutBlock
import Derived.Lib.SliceRun
import Derived.IntWalk
import Derived.Laws.Strings
import Derived.Lib.Bytealg
import Derived.Lib.Strings
import Derived.Laws.Externs
import Derived.Test.YtnppopeoloigeaaDoorLnY
import Derived.Test.YtnppopeoloigeaaDoorLnO
import Derived.Test.YtnppopeoloigeaaDoorLnM
import Derived.Test.YtnppopeoloigeaaDoorLnR
import Derived.Test.YtnppopeoloigeaaDoorLnH
namespace Go.Proofs.YtnppopeoloigeaaDoor
open Go.ChangeShapes Go.WideShapes Go.ChangeAt Go.RowKit
def good (b : Bool) (v : Int) : Prop := if b = true then v = 0 ∨ v = 1 else 0 ≤ v ∧ v ≤ 9999999
def setc (c : List Int) (L : List (Nat × Bool)) (cs : List Int) : List Int := L.foldl (fun cs x => cs.set x.1 (c.getD x.1 0)) cs
theorem setc_cons (c : List Int) (x : Nat × Bool) (t : List (Nat × Bool)) (cs : List Int) : setc c (x :: t) cs = setc c t (cs.set x.1 (c.getD x.1 0)) := rfl
theorem rdv_good (b : Bool) (x : List UInt8) (h : (rdv b (Bs x)).1 = 0) : good b (rdv b (Bs x)).2 := by
  cases b with
  | true =>
    rcases rdv_side (Bs x) with ⟨_, e⟩ | ⟨_, _, e⟩ | ⟨_, _, e⟩
    · rw [e]; exact .inl rfl
    · rw [e]; exact .inr rfl
    · rw [e] at h; cases h
  | false =>
    rw [rdv_numb] at h ⊢
    rw [Bs_list] at h ⊢
    by_cases hd : digs x = true
    · rw [if_pos hd]
      have := (digs_dec hd).2.2.2
      show 0 ≤ (nv x : Int) ∧ (nv x : Int) ≤ 9999999
      omega
    · rw [if_neg hd] at h; cases h
theorem rdv_wd (b : Bool) (v : Int) (h : good b v) : rdv b (Bs (wd b v)) = (0, v) := by
  cases b with
  | true =>
    rcases h with rfl | rfl
    · kernel_rfl
    · kernel_rfl
  | false =>
    have h' : 0 ≤ v ∧ v ≤ 9999999 := h
    obtain ⟨n, rfl⟩ : ∃ n : Nat, v = (n : Int) := ⟨v.toNat, by omega⟩
    rw [rdv_numb, Bs_list]
    have e : wd false (n : Int) = dcl n := by unfold wd; simp
    rw [e, if_pos (dcl_digs (by omega)), nv_dcl]
theorem dg_vis {n : Nat} (h : n < 10) : vis (dg n) = true ∧ dg n ≠ 32 := by
  have e := ofNat_dig h
  refine ⟨?_, fun h2 => ?_⟩
  · unfold vis
    rw [e, decide_eq_true (show 32 ≤ 48 + n by omega), decide_eq_true (show 48 + n ≤ 126 by omega)]; rfl
  · rw [h2] at e
    have : (32 : UInt8).toNat = 32 := rfl
    omega
theorem dcl_vis (n : Nat) : ∀ x ∈ dcl n, vis x = true ∧ x ≠ 32 := by
  induction n using Nat.strongRecOn with
  | ind n ih =>
    by_cases h : n < 10
    · rw [dcl_small h]
      intro x hx
      rw [List.mem_singleton.1 hx]
      exact dg_vis h
    · rw [dcl_big h]
      intro x hx
      rcases List.mem_append.1 hx with hx | hx
      · exact ih _ (by omega) x hx
      · rw [List.mem_singleton.1 hx]
        exact dg_vis (by omega)
theorem wd_vis (b : Bool) (v : Int) : ∀ x ∈ wd b v, vis x = true ∧ x ≠ 32 := by
  cases b with
  | false => intro x hx; exact dcl_vis _ x (by unfold wd at hx; simpa using hx)
  | true =>
    intro x hx
    unfold wd at hx
    simp only [if_true] at hx
    unfold sd at hx
    split at hx
    · revert x; decide
    · split at hx
      · revert x; decide
      · revert x; decide
theorem ws_head (c : List Int) (L : List (Nat × Bool)) : ws c L = [] ∨ ∃ W', ws c L = 32 :: W' := by
  cases L with
  | nil => exact .inl rfl
  | cons x t => exact .inr ⟨_, rfl⟩
theorem ws_vis (c : List Int) (L : List (Nat × Bool)) : ∀ x ∈ ws c L, vis x = true := by
  intro x hx
  obtain ⟨y, _, hx⟩ := List.mem_flatMap.1 hx
  rcases List.mem_cons.1 hx with rfl | hx
  · decide
  · exact (wd_vis _ _ x hx).1
theorem cut_word (V W : List UInt8) (hV : ∀ x ∈ V, x ≠ 32) (hW : W = [] ∨ ∃ W', W = 32 :: W') : (cutb (V ++ W)).1 = V ∧ tx (cutb (V ++ W)).2.2 (cutb (V ++ W)).2.1 = W := by
  have h1 : (cutb (V ++ W)).1 = V := by rw [cutb_tw]; exact tw_app V W hV hW
  refine ⟨h1, ?_⟩
  have h2 := (cutb_join (V ++ W)).1
  rw [h1] at h2
  exact (List.append_cancel_left h2).symm
theorem tx_true {m : Bool} {r W : List UInt8} (h : tx m r = 32 :: W) : m = true ∧ r = W := by
  cases m with
  | false => cases h
  | true => exact ⟨rfl, by simpa [tx] using h⟩
theorem tx_false {m : Bool} {r : List UInt8} (h : tx m r = []) : m = false := by
  cases m with
  | false => rfl
  | true => cases h
theorem stp_ws (n : Int) (c : List Int) : ∀ (L : List (Nat × Bool)) (cs : List Int) (r : List UInt8) (m : Bool), (∀ x ∈ L, good x.2 (c.getD x.1 0)) → tx m r = ws c L → ∃ q, stp n L cs r m = .go (setc c L cs) q false
  | [], cs, r, m, _, h => ⟨r, by rw [tx_false h]; rfl⟩
  | (j, b) :: t, cs, r, m, hg, h => by
    have hw : ws c ((j, b) :: t) = 32 :: (wd b (c.getD j 0) ++ ws c t) := rfl
    rw [hw] at h
    obtain ⟨rfl, rfl⟩ := tx_true h
    obtain ⟨h1, h2⟩ := cut_word (wd b (c.getD j 0)) (ws c t) (fun x hx => (wd_vis _ _ x hx).2) (ws_head c t)
    have hv := rdv_wd b (c.getD j 0) (hg (j, b) (List.mem_cons_self ..))
    rw [stp_cons, if_neg (by decide), h1, hv, if_pos rfl]
    obtain ⟨q, hq⟩ := stp_ws n c t (cs.set j (c.getD j 0)) _ _ (fun x hx => hg x (List.mem_cons_of_mem _ hx)) h2
    exact ⟨q, hq⟩
theorem stp_setc (n : Int) : ∀ (L : List (Nat × Bool)) (cs : List Int) (r : List UInt8) (m : Bool) (c' : List Int) (r' : List UInt8) (m' : Bool), stp n L cs r m = .go c' r' m' → (L.map Prod.fst).Nodup → (∀ x ∈ L, x.1 < cs.length) → c' = setc c' L cs ∧ ∀ x ∈ L, good x.2 (c'.getD x.1 0)
  | [], cs, r, m, c', r', m', h, _, _ => by
    simp only [stp] at h
    injection h with h1
    exact ⟨h1.symm, fun x hx => by cases hx⟩
  | (j, b) :: t, cs, r, m, c', r', m', h, hn, hl => by
    rw [stp_cons] at h
    split at h
    · cases h
    · split at h
      · rename_i h0
        rw [List.map_cons, List.nodup_cons] at hn
        obtain ⟨i1, i2⟩ := stp_setc n t _ _ _ c' r' m' h hn.2 (fun x hx => by rw [List.length_set]; exact hl x (List.mem_cons_of_mem _ hx))
        have hk := stp_keep n t _ _ _ c' r' m' h j (fun x hx e => hn.1 (List.mem_map.2 ⟨x, hx, e⟩))
        have hj := hl (j, b) (List.mem_cons_self ..)
        have hv : c'.getD j 0 = (rdv b (Bs (cutb r).1)).2 := by
          unfold List.getD
          rw [hk, List.getElem?_set_self hj]; rfl
        refine ⟨?_, fun x hx => ?_⟩
        · rw [setc_cons, hv]; exact i1
        · rcases List.mem_cons.1 hx with rfl | hx
          · show good b (c'.getD j 0)
            rw [hv]; exact rdv_good _ _ h0
          · exact i2 x hx
      · cases h
theorem un_of (c : List Int) : ∀ (L : List (Nat × Bool)) (a : Nat), (∀ x ∈ L, good x.2 (c.getD x.1 0)) → ((c.getD 4 0 = 0 ∨ c.getD 4 0 = 1) ∨ a + L.length ≤ 2) → un c L a = none
  | [], _, _, _ => rfl
  | (j, b) :: t, a, hg, h4 => by
    have hgt := fun x hx => hg x (List.mem_cons_of_mem (j, b) hx)
    rw [List.length_cons] at h4
    cases b with
    | true => rw [un_skip]; exact un_of c t a hgt (by omega)
    | false =>
      have hj : 0 ≤ c.getD j 0 ∧ c.getD j 0 ≤ 9999999 := hg (j, false) (List.mem_cons_self ..)
      rw [un_num, if_neg (by omega), if_neg (by omega)]
      exact un_of c t (a + 1) hgt (by omega)
theorem un_side (c : List Int) (h : un c (tg 1) 0 = none) : c.getD 4 0 = 0 ∨ c.getD 4 0 = 1 := by
  have hn := un_none c (tg 1) 0 h
  have e : tg 1 = [(1, false), (2, false), (4, true), (3, false), (8, false), (5, false), (6, false), (7, false)] := rfl
  rw [e] at h hn
  have h1 := hn 1 (by decide)
  have h2 := hn 2 (by decide)
  have h3 := hn 3 (by decide)
  rw [un_num, if_neg (by omega), if_neg (by omega), un_num, if_neg (by omega), if_neg (by omega), un_skip, un_num, if_neg (by omega)] at h
  by_cases h4 : c.getD 4 0 = 0 ∨ c.getD 4 0 = 1
  · exact h4
  · rw [if_pos ⟨rfl, by omega, by omega⟩] at h
    cases h
theorem good_tg (c : List Int) (k : Int) (h : un c (tg k) 0 = none) : ∀ x ∈ tg k, good x.2 (c.getD x.1 0) := by
  intro x hx
  obtain ⟨j, b⟩ := x
  cases b with
  | false => exact un_none c _ 0 h j hx
  | true =>
    have hk : k = 1 ∧ j = 4 := by
      unfold tg at hx
      split at hx
      · rename_i h1
        simp at hx
        exact ⟨h1, hx⟩
      · split at hx
        · simp at hx
        · split at hx
          · simp at hx
          · simp at hx
    obtain ⟨rfl, rfl⟩ := hk
    exact un_side c h
theorem vb_vis (k : Nat) (hk : 1 ≤ k ∧ k ≤ 4) : (∀ x ∈ (vb k).data.toList, vis x = true ∧ x ≠ 32) ∧ (vb k).data.toList.length ≤ 6 ∧ kd (Bs (vb k).data.toList) = (k : Int) := by
  rcases (show k = 1 ∨ k = 2 ∨ k = 3 ∨ k = 4 by omega) with rfl | rfl | rfl | rfl
  · exact ⟨by decide, by decide, by kernel_rfl⟩
  · exact ⟨by decide, by decide, by kernel_rfl⟩
  · exact ⟨by decide, by decide, by kernel_rfl⟩
  · exact ⟨by decide, by decide, by kernel_rfl⟩
/-- What is printed is read: its cells. -/
theorem lp_of (c : List Int) (k : Nat) (hk : 1 ≤ k ∧ k ≤ 4) (hg : ∀ x ∈ tg (k : Int), good x.2 (c.getD x.1 0)) : lp (Bs ((vb k).data.toList ++ ws c (tg (k : Int)))) = .ok (setc c (tg (k : Int)) [(k : Int), 0, 0, 0, 0, 0, 0, 0, 0]) := by
  obtain ⟨hv, hvl, hkd⟩ := vb_vis k hk
  have hwl := ws_len c (fun j _ => Or.inr trivial) (tg (k : Int)) (fun x hx => wd_len x.2 _ (fun hb => by
    have := hg x hx
    rw [hb] at this
    exact this.2))
  have ht := tg_len (k : Int)
  have hsz : (Bs ((vb k).data.toList ++ ws c (tg (k : Int)))).size ≤ 200 := by
    rw [Bs_size, List.length_append]; omega
  obtain ⟨h1, h2⟩ := cut_word (vb k).data.toList (ws c (tg (k : Int))) (fun x hx => (hv x hx).2) (ws_head _ _)
  have hfb : fb ((vb k).data.toList ++ ws c (tg (k : Int))) = none := by
    refine fb_none _ (fun i hi => ?_)
    have hm : ((vb k).data.toList ++ ws c (tg (k : Int))).getD i 0 ∈ (vb k).data.toList ++ ws c (tg (k : Int)) := by
      have : ((vb k).data.toList ++ ws c (tg (k : Int))).getD i 0 = ((vb k).data.toList ++ ws c (tg (k : Int)))[i] := by unfold List.getD; rw [List.getElem?_eq_getElem hi]; rfl
      rw [this]; exact List.getElem_mem hi
    rcases List.mem_append.1 hm with h | h
    · exact (hv _ h).1
    · exact ws_vis _ _ _ h
  unfold lp
  rw [if_neg (by omega), Bs_list, hfb]
  show (if kd (Bs (cutb ((vb k).data.toList ++ ws c (tg (k : Int)))).1) = 0 then _ else _) = _
  rw [h1, hkd, if_neg (by omega)]
  obtain ⟨q, hq⟩ := stp_ws ((Bs ((vb k).data.toList ++ ws c (tg (k : Int)))).size : Int) c (tg (k : Int)) [(k : Int), 0, 0, 0, 0, 0, 0, 0, 0] _ _ hg h2
  rw [hq]
  rfl
theorem pt_of_ok {c : List Int} {l : List UInt8} (h : pt c = .ok l) : ∃ k : Nat, c.getD 0 0 = (k : Int) ∧ 1 ≤ k ∧ k ≤ 4 ∧ un c (tg (k : Int)) 0 = none ∧ l = (vb k).data.toList ++ ws c (tg (k : Int)) := by
  unfold pt at h
  split at h
  · cases h
  · rename_i hk
    refine ⟨(c.getD 0 0).toNat, by omega, by omega, by omega, ?_⟩
    rw [show (((c.getD 0 0).toNat : Nat) : Int) = c.getD 0 0 by omega]
    split at h
    · cases h
    · rename_i hu
      injection h with h
      exact ⟨hu, h.symm⟩
theorem pt_mk {c : List Int} {k : Nat} (hc : c.getD 0 0 = (k : Int)) (hk : 1 ≤ k ∧ k ≤ 4) (hu : un c (tg (k : Int)) 0 = none) : pt c = .ok ((vb k).data.toList ++ ws c (tg (k : Int))) := by
  unfold pt
  rw [if_neg (by omega), hc, hu, Int.toNat_natCast]
/-- A line that asks something, printed, is that line. -/
theorem lp_pt {s : ByteArray} {c : List Int} (h : lp s = .ok c) : pt c = .ok s.data.toList := by
  obtain ⟨hz, q, hs⟩ := lp_ok h
  obtain ⟨k, hk⟩ : ∃ k : Nat, kd (Bs (cutb s.data.toList).1) = (k : Int) := by
    rcases kd_cases (Bs (cutb s.data.toList).1) with e | e | e | e | e
    · exact ⟨0, e⟩
    · exact ⟨1, e⟩
    · exact ⟨2, e⟩
    · exact ⟨3, e⟩
    · exact ⟨4, e⟩
  have hk4 : 1 ≤ k ∧ k ≤ 4 := by
    rcases kd_cases (Bs (cutb s.data.toList).1) with e | e | e | e | e <;> omega
  rw [hk] at hs
  obtain ⟨h1, h2⟩ := stp_setc _ _ _ _ _ _ _ _ hs (tg_nodup _) (fun x hx => by have := (tg_pos _ x hx).2; simpa using this)
  have h0 : c.getD 0 0 = (k : Int) := by
    have := stp_keep _ _ _ _ _ _ _ _ hs 0 (fun x hx => (tg_pos _ x hx).1)
    unfold List.getD
    rw [this]; rfl
  have hu : un c (tg (k : Int)) 0 = none := by
    refine un_of c _ 0 h2 ?_
    rcases (show k = 1 ∨ k = 2 ∨ k = 3 ∨ k = 4 by omega) with rfl | rfl | rfl | rfl
    · exact .inl (h2 (4, true) (by decide))
    · exact .inr (by decide)
    · exact .inr (by decide)
    · exact .inr (by decide)
  have h3 := lp_of c k hk4 h2
  rw [← h1] at h3
  have h4 := lp_uniq h h3
  rw [pt_mk h0 hk4 hu, h4, Bs_list]
/-- What is printed is read as what it tells. -/
theorem pt_lp {c0 c1 c2 c3 c4 c5 c6 c7 c8 : Int} {l : List UInt8} (h : pt [c0, c1, c2, c3, c4, c5, c6, c7, c8] = .ok l) : ∃ d1 d2 d3 d4 d5 d6 d7 d8, lp (Bs l) = .ok [c0, d1, d2, d3, d4, d5, d6, d7, d8] ∧ pt [c0, d1, d2, d3, d4, d5, d6, d7, d8] = .ok l ∧ (c0 = 1 → d1 = c1 ∧ d2 = c2 ∧ d3 = c3 ∧ d4 = c4 ∧ d5 = c5 ∧ d6 = c6 ∧ d7 = c7 ∧ d8 = c8) ∧ 1 ≤ c0 ∧ c0 ≤ 4 ∧ l.length ≤ 200 := by
  obtain ⟨k, hc, hk1, hk4, hu, hl⟩ := pt_of_ok h
  have hc' : c0 = (k : Int) := hc
  have hg := good_tg _ _ hu
  have h1 := lp_of _ k ⟨hk1, hk4⟩ hg
  rw [← hl] at h1
  have h2 := lp_pt h1
  rw [Bs_list] at h2
  have hsz : l.length ≤ 200 := by
    rcases Nat.lt_or_ge 200 l.length with h3 | h3
    · unfold lp at h1
      rw [if_pos (by rw [Bs_size]; exact h3)] at h1
      cases h1
    · exact h3
  rcases (show k = 1 ∨ k = 2 ∨ k = 3 ∨ k = 4 by omega) with rfl | rfl | rfl | rfl
  · refine ⟨c1, c2, c3, c4, c5, c6, c7, c8, ?_, ?_, fun _ => ⟨rfl, rfl, rfl, rfl, rfl, rfl, rfl, rfl⟩, by omega, by omega, hsz⟩
    · rw [h1, hc']; rfl
    · exact h
  · refine ⟨c1, c2, 0, 0, 0, 0, 0, 0, ?_, ?_, fun e => by omega, by omega, by omega, hsz⟩
    · rw [h1, hc']; rfl
    · rw [hc']; exact h2
  · refine ⟨0, c2, 0, 0, 0, 0, 0, 0, ?_, ?_, fun e => by omega, by omega, by omega, hsz⟩
    · rw [h1, hc']; rfl
    · rw [hc']; exact h2
  · refine ⟨0, 0, 0, 0, 0, 0, 0, 0, ?_, ?_, fun e => by omega, by omega, by omega, hsz⟩
    · rw [h1, hc']; rfl
    · rw [hc']; exact h2

end Go.Proofs.YtnppopeoloigeaaDoor
