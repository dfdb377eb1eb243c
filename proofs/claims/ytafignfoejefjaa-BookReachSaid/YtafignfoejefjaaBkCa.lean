/-
  Cross, plainly: of prices that rise the first one at which most could be exchanged.
-/
import Derived.WalkKit
import Derived.Lib.SlicesCompact
import Derived.Test.YtafignfoejefjaaBkM
import Derived.Test.YtafignfoejefjaaBkX
namespace Go.Proofs.Ytafignfoejefjaa
theorem sumq_mono {f g : Ord → Bool} : ∀ os : List Ord, Fine os → (∀ o ∈ os, f o = true → g o = true) → sumq f os ≤ sumq g os
  | [], _, _ => Int.le_refl _
  | o :: t, hF, h => by
    have h1 := sumq_mono t (fun x hx => hF x (List.mem_cons_of_mem _ hx)) (fun x hx => h x (List.mem_cons_of_mem _ hx))
    have h2 := hF o (List.mem_cons_self ..)
    have h3 := h o (List.mem_cons_self ..)
    simp only [sumq]
    cases hf : f o <;> cases hg : g o <;> simp_all <;> omega
def buyF (nm p : Int) (o : Ord) : Bool := o.n == nm && (o.s == 0 && decide (p ≤ o.p))
def sellF (nm p : Int) (o : Ord) : Bool := o.n == nm && (o.s == 1 && decide (o.p ≤ p))
/-- So many could be exchanged at a price. -/
def exv (os : List Ord) (nm p : Int) : Int := min (sumq (buyF nm p) os) (sumq (sellF nm p) os)
theorem exv_bd (os : List Ord) (nm p : Int) (hF : Fine os) : 0 ≤ exv os nm p := by
  have h1 := sumq_bd (buyF nm p) os hF
  have h2 := sumq_bd (sellF nm p) os hF
  unfold exv; omega
def Sell (os : List Ord) (nm p : Int) : Prop := ∃ o ∈ os, o.n = nm ∧ o.s = 1 ∧ o.p = p
theorem exv_down (os : List Ord) (nm p : Int) (hF : Fine os) (hn : ¬ Sell os nm p) : exv os nm p ≤ exv os nm (p - 1) := by
  have h1 : sumq (buyF nm p) os ≤ sumq (buyF nm (p - 1)) os := sumq_mono os hF (fun o _ h => by
    unfold buyF at *; simp only [Bool.and_eq_true, decide_eq_true_eq] at *; exact ⟨h.1, h.2.1, by omega⟩)
  have h2 : sumq (sellF nm p) os = sumq (sellF nm (p - 1)) os := sumq_congr os (fun o ho => by
    unfold sellF
    by_cases a : o.n = nm
    · by_cases b : o.s = 1
      · have c : o.p ≠ p := fun e => hn ⟨o, ho, a, b, e⟩
        have d : (o.p ≤ p) ↔ (o.p ≤ p - 1) := by omega
        simp [d]
      · rw [beq_eq_false_iff_ne.2 b]; simp
    · rw [beq_eq_false_iff_ne.2 a]; simp)
  unfold exv; omega
theorem exv_low (os : List Ord) (nm : Int) (hF : Fine os) (p : Int) (hp : p < 1) : exv os nm p = 0 := by
  have h2 : sumq (sellF nm p) os = 0 := sumq_zero _ os (fun o ho => by
    have := (hF o ho).1
    unfold sellF
    have : decide (o.p ≤ p) = false := decide_eq_false (by omega)
    rw [this]; simp)
  have h1 := sumq_bd (buyF nm p) os hF
  unfold exv; omega
theorem exv_sell (os : List Ord) (nm : Int) (hF : Fine os) : ∀ (k : Nat) (p : Int), p ≤ (k : Int) → 0 < exv os nm p → ∃ q, q ≤ p ∧ Sell os nm q ∧ exv os nm p ≤ exv os nm q
  | 0, p, h, hpos => by
    rw [exv_low os nm hF p (by omega)] at hpos; omega
  | k + 1, p, h, hpos => by
    by_cases hs : Sell os nm p
    · exact ⟨p, Int.le_refl _, hs, Int.le_refl _⟩
    · have hd := exv_down os nm p hF hs
      obtain ⟨q, a, b, c⟩ := exv_sell os nm hF k (p - 1) (by omega) (by omega)
      exact ⟨q, by omega, b, by omega⟩
/-- The first one at which it is most. -/
def Sp (M : Int → Prop) (e : Int → Int) (P Q : Int) : Prop := 0 ≤ Q ∧ (∀ x, M x → e x ≤ Q) ∧ ((Q = 0 ∧ P = 0) ∨ (M P ∧ e P = Q ∧ 0 < Q ∧ ∀ x, M x → x < P → e x < Q))
theorem Sp.none_ {M : Int → Prop} (e : Int → Int) (h : ∀ x, ¬ M x) : Sp M e 0 0 := ⟨Int.le_refl _, fun x hx => absurd hx (h x), .inl ⟨rfl, rfl⟩⟩
theorem Sp.more {M N : Int → Prop} {e : Int → Int} {P Q x : Int} (h : Sp M e P Q) (hM : ∀ y, M y → y < x) (hN : ∀ y, N y ↔ (M y ∨ y = x)) (hx : Q < e x) : Sp N e x (e x) := by
  obtain ⟨a, b, _⟩ := h
  refine ⟨by omega, fun y hy => ?_, .inr ⟨(hN x).2 (.inr rfl), rfl, by omega, fun y hy hlt => ?_⟩⟩
  · rcases (hN y).1 hy with h1 | h1
    · have := b y h1; omega
    · rw [h1]; exact Int.le_refl _
  · rcases (hN y).1 hy with h1 | h1
    · have := b y h1; omega
    · omega
theorem Sp.less {M N : Int → Prop} {e : Int → Int} {P Q x : Int} (h : Sp M e P Q) (hM : ∀ y, M y → y < x) (hN : ∀ y, N y ↔ (M y ∨ y = x)) (hx : e x ≤ Q) : Sp N e P Q := by
  obtain ⟨a, b, c⟩ := h
  refine ⟨a, fun y hy => ?_, ?_⟩
  · rcases (hN y).1 hy with h1 | h1
    · exact b y h1
    · rw [h1]; exact hx
  · rcases c with c | ⟨c1, c2, c3, c4⟩
    · exact .inl c
    · refine .inr ⟨(hN P).2 (.inl c1), c2, c3, fun y hy hlt => ?_⟩
      rcases (hN y).1 hy with h1 | h1
      · exact c4 y h1 hlt
      · have := hM P c1; omega
theorem Sp.cong {M N : Int → Prop} {e : Int → Int} {P Q : Int} (h : Sp M e P Q) (hN : ∀ y, N y ↔ M y) : Sp N e P Q := by
  obtain ⟨a, b, c⟩ := h
  refine ⟨a, fun y hy => b y ((hN y).1 hy), ?_⟩
  rcases c with c | ⟨c1, c2, c3, c4⟩
  · exact .inl c
  · exact .inr ⟨(hN P).2 c1, c2, c3, fun y hy => c4 y ((hN y).1 hy)⟩
theorem Sp.uniq {M : Int → Prop} {e : Int → Int} {P Q P' Q' : Int} (h : Sp M e P Q) (g : Sp M e P' Q') : P = P' ∧ Q = Q' := by
  obtain ⟨a, b, c⟩ := h
  obtain ⟨a', b', c'⟩ := g
  rcases c with ⟨c1, c2⟩ | ⟨c1, c2, c3, c4⟩
  · rcases c' with ⟨d1, d2⟩ | ⟨d1, d2, d3, d4⟩
    · omega
    · have := b P' d1; omega
  · rcases c' with ⟨d1, d2⟩ | ⟨d1, d2, d3, d4⟩
    · have := b' P c1; omega
    · have e1 := b P' d1
      have e2 := b' P c1
      have hq : Q = Q' := by omega
      refine ⟨?_, hq⟩
      rcases Int.lt_trichotomy P P' with h | h | h
      · have := d4 P c1 h; omega
      · exact h
      · have := c4 P' d1 h; omega
/-- All prices of a name; those of a side that is one. -/
def AllP (os : List Ord) (nm p : Int) : Prop := ∃ o ∈ os, o.n = nm ∧ o.p = p
def SideP (os : List Ord) (nm p : Int) : Prop := ∃ o ∈ os, o.n = nm ∧ (o.s = 0 ∨ o.s = 1) ∧ o.p = p
theorem Sp.sides {os : List Ord} {nm P Q : Int} (hF : Fine os) (h : Sp (AllP os nm) (exv os nm) P Q) : Sp (SideP os nm) (exv os nm) P Q := by
  obtain ⟨a, b, c⟩ := h
  have sub : ∀ x, SideP os nm x → AllP os nm x := fun x ⟨o, h1, h2, _, h4⟩ => ⟨o, h1, h2, h4⟩
  refine ⟨a, fun x hx => b x (sub x hx), ?_⟩
  rcases c with c | ⟨c1, c2, c3, c4⟩
  · exact .inl c
  · refine .inr ⟨?_, c2, c3, fun x hx => c4 x (sub x hx)⟩
    obtain ⟨q, h1, ⟨o, ho, hn, hs, hp⟩, h3⟩ := exv_sell os nm hF P.toNat P (by omega) (by omega)
    by_cases e : q = P
    · subst e
      exact ⟨o, ho, hn, .inr hs, hp⟩
    · have := c4 q ⟨o, ho, hn, hp⟩ (by omega)
      omega
/-- Prices that rise: what prices hands back. -/
def PrIs (os : List Ord) (nm : Int) (ps : List Int) : Prop := ps.Pairwise (· < ·) ∧ ∀ x, x ∈ ps ↔ AllP os nm x
open Go.Lib in
theorem comp_inv (d : Array Int) (hs : ∀ i j : Nat, i < j → j < d.size → d[i]! ≤ d[j]!) : ∀ m, m ≤ d.size → (compactUpTo d m).Pairwise (· < ·) ∧ ∀ x, x ∈ compactUpTo d m ↔ ∃ j, j < m ∧ d[j]! = x
  | 0, _ => by simp [compactUpTo]
  | m + 1, hm => by
    obtain ⟨h1, h2⟩ := comp_inv d hs m (by omega)
    rw [compactUpTo_succ]
    by_cases hk : keeps d m = true
    · rw [if_pos hk]
      have hk2 : m = 0 ∨ d[m]! ≠ d[m - 1]! := by unfold keeps at hk; exact of_decide_eq_true hk
      refine ⟨?_, fun x => ?_⟩
      · rw [List.pairwise_append]
        refine ⟨h1, List.pairwise_singleton _ _, fun x hx y hy => ?_⟩
        simp at hy
        subst hy
        obtain ⟨j, hj, rfl⟩ := (h2 x).1 hx
        have a := hs (m - 1) m (by omega) (by omega)
        have b : d[j]! ≤ d[m - 1]! := by
          by_cases e : j = m - 1
          · rw [e]; exact Int.le_refl _
          · exact hs j (m - 1) (by omega) (by omega)
        rcases hk2 with h | h <;> omega
      · rw [List.mem_append, h2]
        constructor
        · rintro (⟨j, hj, e⟩ | h)
          · exact ⟨j, by omega, e⟩
          · simp at h; exact ⟨m, by omega, h.symm⟩
        · rintro ⟨j, hj, e⟩
          by_cases hjm : j = m
          · right; subst hjm; simp [e]
          · left; exact ⟨j, by omega, e⟩
    · rw [if_neg hk]
      have hk2 : 0 < m ∧ d[m]! = d[m - 1]! := by
        unfold keeps at hk
        simp at hk
        exact ⟨by omega, hk.2⟩
      refine ⟨by simpa using h1, fun x => ?_⟩
      rw [List.append_nil, h2]
      constructor
      · rintro ⟨j, hj, e⟩; exact ⟨j, by omega, e⟩
      · rintro ⟨j, hj, e⟩
        by_cases hjm : j = m
        · subst hjm; exact ⟨j - 1, by omega, by rw [← hk2.2]; exact e⟩
        · exact ⟨j, by omega, e⟩
theorem comp_sorted (zs : List Int) (nm : Int) (os : List Ord) (h : ∀ x, x ∈ zs ↔ AllP os nm x) : PrIs os nm (Go.Lib.compact (zs.mergeSort fun x y => decide (x ≤ y))) := by
  have hsort : (zs.mergeSort fun x y => decide (x ≤ y)).Pairwise (fun x y => decide (x ≤ y) = true) := List.pairwise_mergeSort (fun a b c h1 h2 => by simp at *; omega) (fun a b => by simp; omega) zs
  have hmem : ∀ x, x ∈ (zs.mergeSort fun x y => decide (x ≤ y)) ↔ x ∈ zs := fun x => List.mem_mergeSort
  generalize (zs.mergeSort fun x y => decide (x ≤ y)) = l at *
  obtain ⟨h1, h2⟩ := comp_inv l.toArray (fun i j hij hj => by
    have hj' : j < l.length := by simpa using hj
    have := List.pairwise_iff_getElem.1 hsort i j (by omega) hj' hij
    rw [getElem!_pos l.toArray i (by simp; omega), getElem!_pos l.toArray j hj]
    simpa using this) l.length (by simp)
  refine ⟨h1, fun x => ?_⟩
  rw [← h, ← hmem]
  unfold Go.Lib.compact
  rw [h2]
  constructor
  · rintro ⟨j, hj, rfl⟩
    rw [getElem!_pos l.toArray j (by simpa using hj)]
    simp
  · intro hx
    obtain ⟨j, hj, e⟩ := List.getElem_of_mem hx
    exact ⟨j, hj, by rw [getElem!_pos l.toArray j (by simpa using hj)]; simpa using e⟩
def pstep (os : List Ord) (nm : Int) (x : Int × Int) (p : Int) : Int × Int := if x.2 < exv os nm p then (p, exv os nm p) else x
def pc (os : List Ord) (nm : Int) (ps : List Int) : Int × Int := ps.foldl (pstep os nm) (0, 0)
theorem pc_snoc (os : List Ord) (nm : Int) (ps : List Int) (p : Int) : pc os nm (ps ++ [p]) = pstep os nm (pc os nm ps) p := by unfold pc; rw [List.foldl_append]; rfl
theorem pc_sp (os : List Ord) (nm : Int) (ps : List Int) (hp : ps.Pairwise (· < ·)) : ∀ k, k ≤ ps.length → Sp (fun x => x ∈ ps.take k) (exv os nm) (pc os nm (ps.take k)).1 (pc os nm (ps.take k)).2
  | 0, _ => Sp.none_ _ (fun x hx => by simp at hx)
  | k + 1, hk => by
    have ih := pc_sp os nm ps hp k (by omega)
    have e : ps.take (k + 1) = ps.take k ++ [ps[k]] := by rw [List.take_add_one, List.getElem?_eq_getElem (by omega)]; rfl
    have hlt : ∀ y, y ∈ ps.take k → y < ps[k] := fun y hy => by
      obtain ⟨i, hi, rfl⟩ := List.getElem_of_mem hy
      have hi' : i < k := by simp at hi; omega
      rw [List.getElem_take]
      exact List.pairwise_iff_getElem.1 hp i k (by omega) (by omega) hi'
    have hN : ∀ y, y ∈ ps.take (k + 1) ↔ (y ∈ ps.take k ∨ y = ps[k]) := fun y => by rw [e, List.mem_append]; simp
    rw [e, pc_snoc] 
    rw [e] at hN
    unfold pstep
    by_cases h : (pc os nm (ps.take k)).2 < exv os nm ps[k]
    · rw [if_pos h]; exact ih.more hlt hN h
    · rw [if_neg h]; exact ih.less hlt hN (by omega)
theorem pc_is {os : List Ord} {nm : Int} {ps : List Int} (hF : Fine os) (h : PrIs os nm ps) : Sp (SideP os nm) (exv os nm) (pc os nm ps).1 (pc os nm ps).2 := by
  have h1 := pc_sp os nm ps h.1 ps.length (Nat.le_refl _)
  rw [List.take_length] at h1
  exact (h1.cong (fun y => (h.2 y).symm)).sides hF
theorem pc_bd {os : List Ord} {nm : Int} {ps : List Int} (h : ps.Pairwise (· < ·)) (k : Nat) (hk : k ≤ ps.length) : 0 ≤ (pc os nm (ps.take k)).2 := (pc_sp os nm ps h k hk).1
open Classical in
noncomputable def rc (os : List Ord) (nm : Int) : Nat → Int × Int
  | 0 => (0, 0)
  | k + 1 => if SideP os nm ((k : Int) + 1) ∧ (rc os nm k).2 < exv os nm ((k : Int) + 1) then ((k : Int) + 1, exv os nm ((k : Int) + 1)) else rc os nm k
theorem rc_sp (os : List Ord) (nm : Int) : ∀ k : Nat, Sp (fun x => SideP os nm x ∧ 1 ≤ x ∧ x ≤ (k : Int)) (exv os nm) (rc os nm k).1 (rc os nm k).2
  | 0 => Sp.none_ _ (fun x hx => by omega)
  | k + 1 => by
    have ih := rc_sp os nm k
    by_cases hs : SideP os nm ((k : Int) + 1)
    · have hN : ∀ y, (SideP os nm y ∧ 1 ≤ y ∧ y ≤ ((k + 1 : Nat) : Int)) ↔ ((SideP os nm y ∧ 1 ≤ y ∧ y ≤ (k : Int)) ∨ y = (k : Int) + 1) := fun y => by
        constructor
        · rintro ⟨a, b, c⟩
          by_cases e : y = (k : Int) + 1
          · exact .inr e
          · exact .inl ⟨a, b, by omega⟩
        · rintro (⟨a, b, c⟩ | e)
          · exact ⟨a, b, by omega⟩
          · subst e; exact ⟨hs, by omega, by omega⟩
      have hM : ∀ y, (SideP os nm y ∧ 1 ≤ y ∧ y ≤ (k : Int)) → y < (k : Int) + 1 := fun y h => by omega
      by_cases h : (rc os nm k).2 < exv os nm ((k : Int) + 1)
      · simp only [rc]; rw [if_pos ⟨hs, h⟩]; exact ih.more hM hN h
      · simp only [rc]; rw [if_neg (fun hh => h hh.2)]; exact ih.less hM hN (by omega)
    · simp only [rc]
      rw [if_neg (fun hh => hs hh.1)]
      refine ih.cong (fun y => ?_)
      constructor
      · rintro ⟨a, b, c⟩
        refine ⟨a, b, ?_⟩
        by_cases e : y = (k : Int) + 1
        · exact absurd (e ▸ a) hs
        · omega
      · rintro ⟨a, b, c⟩; exact ⟨a, b, by omega⟩
theorem rc_is {os : List Ord} {nm : Int} (hF : Fine os) : Sp (SideP os nm) (exv os nm) (rc os nm 9999).1 (rc os nm 9999).2 :=
  (rc_sp os nm 9999).cong (fun y => ⟨fun h => by
    obtain ⟨o, ho, hn, hs, hp⟩ := h
    have := hF o ho
    exact ⟨⟨o, ho, hn, hs, hp⟩, by omega, by omega⟩, fun h => h.1⟩)
theorem pc_rc {os : List Ord} {nm : Int} {ps : List Int} (hF : Fine os) (h : PrIs os nm ps) : pc os nm ps = rc os nm 9999 := by
  obtain ⟨a, b⟩ := (pc_is hF h).uniq (rc_is hF)
  exact Prod.ext a b
end Go.Proofs.Ytafignfoejefjaa
