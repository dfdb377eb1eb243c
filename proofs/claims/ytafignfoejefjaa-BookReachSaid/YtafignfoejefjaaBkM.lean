/-
  Orders and levels as plain numbers: sums, counts, what is better; what Levels hands back, said by what stands on it.
-/
import Derived.WalkKit
import Derived.Sort.Statements
import Derived.Shelf.SlSortCmp.Insertion
namespace Go.Proofs.Ytafignfoejefjaa
structure Ord where
  c : Int
  n : Int
  s : Int
  p : Int
  l : Int
  u : Int
  q : Int
structure Lvl where
  p : Int
  q : Int
  k : Int
instance : Inhabited Lvl := ⟨⟨0, 0, 0⟩⟩
instance : Inhabited Ord := ⟨⟨0, 0, 0, 0, 0, 0, 0⟩⟩
theorem Lvl.ext {x y : Lvl} (h1 : x.p = y.p) (h2 : x.q = y.q) (h3 : x.k = y.k) : x = y := by
  cases x; cases y; simp at h1 h2 h3; simp [h1, h2, h3]
def sumq (f : Ord → Bool) : List Ord → Int
  | [] => 0
  | o :: t => (if f o = true then o.q else 0) + sumq f t
def cnt (f : Ord → Bool) : List Ord → Int
  | [] => 0
  | o :: t => (if f o = true then 1 else 0) + cnt f t
theorem sumq_app (f : Ord → Bool) (a b : List Ord) : sumq f (a ++ b) = sumq f a + sumq f b := by
  induction a with
  | nil => simp [sumq]
  | cons x t ih => simp only [List.cons_append, sumq, ih]; omega
theorem cnt_app (f : Ord → Bool) (a b : List Ord) : cnt f (a ++ b) = cnt f a + cnt f b := by
  induction a with
  | nil => simp [cnt]
  | cons x t ih => simp only [List.cons_append, cnt, ih]; omega
theorem sumq_succ (f : Ord → Bool) (os : List Ord) (k : Nat) (o : Ord) (h : os[k]? = some o) : sumq f (os.take (k + 1)) = sumq f (os.take k) + if f o = true then o.q else 0 := by
  rw [List.take_add_one, h, sumq_app]; simp [sumq]
theorem cnt_succ (f : Ord → Bool) (os : List Ord) (k : Nat) (o : Ord) (h : os[k]? = some o) : cnt f (os.take (k + 1)) = cnt f (os.take k) + if f o = true then 1 else 0 := by
  rw [List.take_add_one, h, cnt_app]; simp [cnt]
def Fine (os : List Ord) : Prop := ∀ o ∈ os, 1 ≤ o.p ∧ o.p ≤ 9999 ∧ 0 ≤ o.q ∧ o.q ≤ 9999
theorem Fine.take {os : List Ord} (h : Fine os) (k : Nat) : Fine (os.take k) := fun o ho => h o (List.mem_of_mem_take ho)
theorem sumq_bd (f : Ord → Bool) : ∀ os : List Ord, Fine os → 0 ≤ sumq f os ∧ sumq f os ≤ 9999 * (os.length : Int)
  | [], _ => by simp [sumq]
  | o :: t, h => by
    have h1 := sumq_bd f t (fun x hx => h x (List.mem_cons_of_mem _ hx))
    have h2 := h o (List.mem_cons_self ..)
    simp only [sumq, List.length_cons]
    split <;> omega
theorem cnt_bd (f : Ord → Bool) : ∀ os : List Ord, 0 ≤ cnt f os ∧ cnt f os ≤ (os.length : Int)
  | [] => by simp [cnt]
  | o :: t => by
    have h1 := cnt_bd f t
    simp only [cnt, List.length_cons]
    split <;> omega
theorem cnt_pos (f : Ord → Bool) : ∀ os : List Ord, 0 < cnt f os ↔ ∃ o ∈ os, f o = true
  | [] => by simp [cnt]
  | o :: t => by
    have h1 := cnt_pos f t
    have h2 := cnt_bd f t
    simp only [cnt, List.mem_cons, exists_eq_or_imp]
    by_cases hf : f o = true
    · simp only [hf, if_true, true_or, iff_true]; omega
    · have hf' : f o = false := by simpa using hf
      simp [hf', h1]
theorem sumq_zero (f : Ord → Bool) : ∀ os : List Ord, (∀ o ∈ os, f o = false) → sumq f os = 0
  | [], _ => rfl
  | o :: t, h => by
    simp only [sumq, h o (List.mem_cons_self ..), sumq_zero f t (fun x hx => h x (List.mem_cons_of_mem _ hx))]; simp
theorem sumq_congr {f g : Ord → Bool} : ∀ os : List Ord, (∀ o ∈ os, f o = g o) → sumq f os = sumq g os
  | [], _ => rfl
  | o :: t, h => by
    simp only [sumq, h o (List.mem_cons_self ..), sumq_congr t (fun x hx => h x (List.mem_cons_of_mem _ hx))]
theorem cnt_congr {f g : Ord → Bool} : ∀ os : List Ord, (∀ o ∈ os, f o = g o) → cnt f os = cnt g os
  | [], _ => rfl
  | o :: t, h => by
    simp only [cnt, h o (List.mem_cons_self ..), cnt_congr t (fun x hx => h x (List.mem_cons_of_mem _ hx))]
/-- Of a name, on a side; at a price. -/
def hit (n s : Int) (o : Ord) : Bool := o.n == n && o.s == s
def hitp (n s p : Int) (o : Ord) : Bool := o.n == n && o.s == s && o.p == p
/-- Which price is better. -/
def bet (s x y : Int) : Bool := if s = 0 then decide (y < x) else decide (x < y)
theorem bet_irr (s x : Int) : bet s x x = false := by unfold bet; split <;> simp
theorem bet_asym {s x y : Int} (h : bet s x y = true) : bet s y x = false := by
  unfold bet at *; split <;> simp_all <;> omega
theorem bet_trans {s x y z : Int} (h : bet s x y = true) (h2 : bet s y z = true) : bet s x z = true := by
  unfold bet at *; split <;> simp_all <;> omega
theorem bet_ntrans {s x y z : Int} (h : bet s x y = false) (h2 : bet s y z = false) : bet s x z = false := by
  unfold bet at *; split <;> simp_all <;> omega
theorem bet_eq {s x y : Int} (h : bet s x y = false) (h2 : bet s y x = false) : x = y := by
  unfold bet at *; split at h <;> simp_all <;> omega
def cf (s : Int) (x y : Lvl) : Int := if bet s x.p y.p = true then -1 else if bet s y.p x.p = true then 1 else 0
theorem lt_cf (s : Int) (x y : Lvl) : Go.Proofs.ltOf (cf s) x y = bet s x.p y.p := by
  unfold Go.Proofs.ltOf cf
  by_cases h1 : bet s x.p y.p = true
  · simp [h1]
  · by_cases h2 : bet s y.p x.p = true <;> simp [h1, h2]
theorem swo_cf (s : Int) : Go.Sort.SWO (Go.Proofs.ltOf (cf s)) where
  irrefl x := by rw [lt_cf]; exact bet_irr s _
  trans x y z h1 h2 := by rw [lt_cf] at *; exact bet_trans h1 h2
  ntrans x y z h1 h2 := by rw [lt_cf] at *; exact bet_ntrans h1 h2
/-- What Levels hands back. -/
structure LvIs (os : List Ord) (n s : Int) (ls : List Lvl) : Prop where
  srt : ls.Pairwise (fun x y => bet s x.p y.p = true)
  val : ∀ x ∈ ls, x = ⟨x.p, sumq (hitp n s x.p) os, cnt (hitp n s x.p) os⟩ ∧ 0 < x.k
  all : ∀ p, 0 < cnt (hitp n s p) os → ∃ x ∈ ls, x.p = p
theorem LvIs.mem {os : List Ord} {n s : Int} {ls ms : List Lvl} (h : LvIs os n s ls) (g : LvIs os n s ms) : ∀ x ∈ ls, x ∈ ms := fun x hx => by
  obtain ⟨h1, h2⟩ := h.val x hx
  have h3 : 0 < cnt (hitp n s x.p) os := by rw [h1] at h2; exact h2
  obtain ⟨y, hy, hp⟩ := g.all x.p h3
  have h4 := (g.val y hy).1
  rw [hp] at h4
  rw [h1, ← h4]; exact hy
theorem pw_unique (s : Int) : ∀ (ls ms : List Lvl), ls.Pairwise (fun x y => bet s x.p y.p = true) → ms.Pairwise (fun x y => bet s x.p y.p = true) → (∀ x ∈ ls, x ∈ ms) → (∀ x ∈ ms, x ∈ ls) → ls = ms
  | [], [], _, _, _, _ => rfl
  | [], y :: t, _, _, _, h => absurd (h y (List.mem_cons_self ..)) (by simp)
  | x :: r, [], _, _, h, _ => absurd (h x (List.mem_cons_self ..)) (by simp)
  | x :: r, y :: t, h1, h2, h3, h4 => by
    rw [List.pairwise_cons] at h1 h2
    have e : x = y := by
      rcases List.mem_cons.1 (h3 x (List.mem_cons_self ..)) with e | hx
      · exact e
      · rcases List.mem_cons.1 (h4 y (List.mem_cons_self ..)) with e | hy
        · exact e.symm
        · have a := h2.1 x hx
          have b := h1.1 y hy
          rw [bet_asym a] at b; cases b
    subst e
    have tail : r = t := pw_unique s r t h1.2 h2.2
      (fun z hz => by
        rcases List.mem_cons.1 (h3 z (List.mem_cons_of_mem _ hz)) with e | h
        · have a := h1.1 z hz; rw [e, bet_irr] at a; cases a
        · exact h)
      (fun z hz => by
        rcases List.mem_cons.1 (h4 z (List.mem_cons_of_mem _ hz)) with e | h
        · have a := h2.1 z hz; rw [e, bet_irr] at a; cases a
        · exact h)
    rw [tail]
theorem LvIs.unique {os : List Ord} {n s : Int} {ls ms : List Lvl} (h : LvIs os n s ls) (g : LvIs os n s ms) : ls = ms := pw_unique s ls ms h.srt g.srt (h.mem g) (g.mem h)
def sumL : List Lvl → Int
  | [] => 0
  | x :: t => x.q + sumL t
def cntL : List Lvl → Int
  | [] => 0
  | x :: t => x.k + cntL t
theorem sumL_app (a b : List Lvl) : sumL (a ++ b) = sumL a + sumL b := by
  induction a with
  | nil => simp [sumL]
  | cons x t ih => simp only [List.cons_append, sumL, ih]; omega
theorem cntL_app (a b : List Lvl) : cntL (a ++ b) = cntL a + cntL b := by
  induction a with
  | nil => simp [cntL]
  | cons x t ih => simp only [List.cons_append, cntL, ih]; omega
theorem sumL_succ (ls : List Lvl) (k : Nat) (x : Lvl) (h : ls[k]? = some x) : sumL (ls.take (k + 1)) = sumL (ls.take k) + x.q := by
  rw [List.take_add_one, h, sumL_app]; simp [sumL]
theorem cntL_succ (ls : List Lvl) (k : Nat) (x : Lvl) (h : ls[k]? = some x) : cntL (ls.take (k + 1)) = cntL (ls.take k) + x.k := by
  rw [List.take_add_one, h, cntL_app]; simp [cntL]
/-- The sum over prices that stand once each and are all there are. -/
def sumP (n s : Int) (os : List Ord) : List Int → Int
  | [] => 0
  | p :: t => sumq (hitp n s p) os + sumP n s os t
def cntP (n s : Int) (os : List Ord) : List Int → Int
  | [] => 0
  | p :: t => cnt (hitp n s p) os + cntP n s os t
theorem sumP_nil (n s : Int) : ∀ ps : List Int, sumP n s [] ps = 0
  | [] => rfl
  | p :: t => by simp [sumP, sumq, sumP_nil n s t]
theorem cntP_nil (n s : Int) : ∀ ps : List Int, cntP n s [] ps = 0
  | [] => rfl
  | p :: t => by simp [cntP, cnt, cntP_nil n s t]
theorem sumP_out (n s : Int) (o : Ord) (t : List Ord) : ∀ ps : List Int, (hit n s o = false ∨ o.p ∉ ps) → sumP n s (o :: t) ps = sumP n s t ps
  | [], _ => rfl
  | p :: r, h => by
    have hh : hitp n s p o = false := by
      rcases h with h | h
      · unfold hit at h; unfold hitp; rw [h]; rfl
      · unfold hitp
        have : (o.p == p) = false := beq_eq_false_iff_ne.2 (fun e => h (by rw [e]; exact List.mem_cons_self ..))
        rw [this]; simp
    simp only [sumP, sumq, hh, sumP_out n s o t r (h.imp id (fun a b => a (List.mem_cons_of_mem _ b)))]
    simp
theorem cntP_out (n s : Int) (o : Ord) (t : List Ord) : ∀ ps : List Int, (hit n s o = false ∨ o.p ∉ ps) → cntP n s (o :: t) ps = cntP n s t ps
  | [], _ => rfl
  | p :: r, h => by
    have hh : hitp n s p o = false := by
      rcases h with h | h
      · unfold hit at h; unfold hitp; rw [h]; rfl
      · unfold hitp
        have : (o.p == p) = false := beq_eq_false_iff_ne.2 (fun e => h (by rw [e]; exact List.mem_cons_self ..))
        rw [this]; simp
    simp only [cntP, cnt, hh, cntP_out n s o t r (h.imp id (fun a b => a (List.mem_cons_of_mem _ b)))]
    simp
theorem sumP_in (n s : Int) (o : Ord) (t : List Ord) (hh : hit n s o = true) : ∀ ps : List Int, ps.Nodup → o.p ∈ ps → sumP n s (o :: t) ps = o.q + sumP n s t ps
  | [], _, h => absurd h (by simp)
  | p :: r, hn, h => by
    rw [List.nodup_cons] at hn
    by_cases e : o.p = p
    · have hp : hitp n s p o = true := by unfold hitp; unfold hit at hh; rw [hh, e]; simp
      have := sumP_out n s o t r (.inr (by rw [e]; exact hn.1))
      simp only [sumP, sumq, hp, this, if_true]; omega
    · have hp : hitp n s p o = false := by unfold hitp; rw [beq_eq_false_iff_ne.2 e]; simp
      have := sumP_in n s o t hh r hn.2 (by
        rcases List.mem_cons.1 h with h | h
        · exact absurd h e
        · exact h)
      simp only [sumP, sumq, hp, this]; simp; omega
theorem cntP_in (n s : Int) (o : Ord) (t : List Ord) (hh : hit n s o = true) : ∀ ps : List Int, ps.Nodup → o.p ∈ ps → cntP n s (o :: t) ps = 1 + cntP n s t ps
  | [], _, h => absurd h (by simp)
  | p :: r, hn, h => by
    rw [List.nodup_cons] at hn
    by_cases e : o.p = p
    · have hp : hitp n s p o = true := by unfold hitp; unfold hit at hh; rw [hh, e]; simp
      have := cntP_out n s o t r (.inr (by rw [e]; exact hn.1))
      simp only [cntP, cnt, hp, this, if_true]; omega
    · have hp : hitp n s p o = false := by unfold hitp; rw [beq_eq_false_iff_ne.2 e]; simp
      have := cntP_in n s o t hh r hn.2 (by
        rcases List.mem_cons.1 h with h | h
        · exact absurd h e
        · exact h)
      simp only [cntP, cnt, hp, this]; simp; omega
theorem sumP_all (n s : Int) (ps : List Int) (hn : ps.Nodup) : ∀ os : List Ord, (∀ o ∈ os, hit n s o = true → o.p ∈ ps) → sumP n s os ps = sumq (hit n s) os
  | [], _ => by rw [sumP_nil]; rfl
  | o :: t, h => by
    have ih := sumP_all n s ps hn t (fun x hx => h x (List.mem_cons_of_mem _ hx))
    by_cases hh : hit n s o = true
    · rw [sumP_in n s o t hh ps hn (h o (List.mem_cons_self ..) hh), ih]; simp [sumq, hh]
    · have hh' : hit n s o = false := by simpa using hh
      rw [sumP_out n s o t ps (.inl hh'), ih]; simp [sumq, hh']
theorem cntP_all (n s : Int) (ps : List Int) (hn : ps.Nodup) : ∀ os : List Ord, (∀ o ∈ os, hit n s o = true → o.p ∈ ps) → cntP n s os ps = cnt (hit n s) os
  | [], _ => by rw [cntP_nil]; rfl
  | o :: t, h => by
    have ih := cntP_all n s ps hn t (fun x hx => h x (List.mem_cons_of_mem _ hx))
    by_cases hh : hit n s o = true
    · rw [cntP_in n s o t hh ps hn (h o (List.mem_cons_self ..) hh), ih]; simp [cnt, hh]
    · have hh' : hit n s o = false := by simpa using hh
      rw [cntP_out n s o t ps (.inl hh'), ih]; simp [cnt, hh']
theorem sumL_P (n s : Int) (os : List Ord) : ∀ ls : List Lvl, (∀ x ∈ ls, x = ⟨x.p, sumq (hitp n s x.p) os, cnt (hitp n s x.p) os⟩ ∧ 0 < x.k) → sumL ls = sumP n s os (ls.map (·.p)) ∧ cntL ls = cntP n s os (ls.map (·.p))
  | [], _ => ⟨rfl, rfl⟩
  | x :: t, h => by
    obtain ⟨a, b⟩ := sumL_P n s os t (fun y hy => h y (List.mem_cons_of_mem _ hy))
    have e := (h x (List.mem_cons_self ..)).1
    have e1 := congrArg Lvl.q e
    have e2 := congrArg Lvl.k e
    simp only at e1 e2
    simp only [sumL, cntL, List.map_cons, sumP, cntP, a, b]
    omega
theorem LvIs.nodup {os : List Ord} {n s : Int} {ls : List Lvl} (h : LvIs os n s ls) : (ls.map (·.p)).Nodup := by
  rw [List.Nodup, List.pairwise_map]
  exact h.srt.imp (fun {a b} hab e => by rw [e, bet_irr] at hab; cases hab)
theorem LvIs.sums {os : List Ord} {n s : Int} {ls : List Lvl} (h : LvIs os n s ls) : sumL ls = sumq (hit n s) os ∧ cntL ls = cnt (hit n s) os := by
  obtain ⟨a, b⟩ := sumL_P n s os ls h.val
  have hall : ∀ o ∈ os, hit n s o = true → o.p ∈ ls.map (·.p) := fun o ho hh => by
    have : hitp n s o.p o = true := by unfold hitp; unfold hit at hh; rw [hh]; simp
    obtain ⟨x, hx, e⟩ := h.all o.p ((cnt_pos _ os).2 ⟨o, ho, this⟩)
    exact List.mem_map.2 ⟨x, hx, e⟩
  rw [a, b]
  exact ⟨sumP_all n s _ h.nodup os hall, cntP_all n s _ h.nodup os hall⟩
end Go.Proofs.Ytafignfoejefjaa
