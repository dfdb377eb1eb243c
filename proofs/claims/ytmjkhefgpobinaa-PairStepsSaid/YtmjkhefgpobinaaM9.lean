/-
  Texts of the machine of pairs, part 9.
-/
import Derived.Lib.Bytealg
import Derived.Lib.Strings
import Derived.Laws.Externs
import Derived.Lib.SplitLaws
import Derived.Shelf.Strings.Split
import Derived.Lib.Join
import Derived.Laws.BitsAllLaws
import Derived.Laws.BitsLemmas
import Derived.Deep.RegionLaw
import Derived.Test.YtmjkhefgpobinaaM1
import Derived.Test.YtmjkhefgpobinaaM3
import Derived.Test.YtmjkhefgpobinaaM4
import Derived.Test.YtmjkhefgpobinaaM5
import Derived.Test.YtmjkhefgpobinaaM6
import Derived.Test.YtmjkhefgpobinaaM7
import Derived.Test.YtmjkhefgpobinaaM8
namespace Go.Proofs.Ytmjkhefgpobinaa
open Go.ChangeShapes Go.WideShapes Go.ChangeAt Go.RowKit
section
variable {T : Type} {P : Pm T} {n : Nat} {ts : Nat → Tr T} {w : Mw T} {was : Nat → Int}
/-- A look at the one that is held. -/
theorem Inv.stLook (h : Inv P n ts w was) (k : Nat) (hk : k < n) (a : Nat) (ha : (ts k).pc + 1 = a) (hpc : (ts k).pc = 6 ∨ (ts k).pc = 8) : Inv P n (upd ts k (stLook { ts k with pc := a } w).1) (stLook { ts k with pc := a } w).2 was := by
  have hl := h.loc k hk
  unfold Go.Proofs.Ytmjkhefgpobinaa.stLook
  split
  · rename_i hc
    have hgk : hg (ts k) := hc
    refine h.calm k hk _ (hl.next rfl rfl rfl rfl rfl rfl (fun _ => rfl) (by show (ts k).pc ≤ a; omega) (fun _ => by show a ≤ 9; omega) (fun _ e => .inl rfl) (fun _ e => ?_) (fun _ e => ⟨rfl, ?_⟩)) rfl rfl rfl rfl rfl rfl rfl
    · have e' : a = 8 := e
      omega
    · have e' : a = 9 := e
      exact hl.p8 hgk (by omega)
  · rename_i hc
    have hng : ¬ hg (ts k) := hc
    exact h.calm k hk _ (hl.next rfl rfl rfl rfl rfl rfl (fun _ => rfl) (by show (ts k).pc ≤ a; omega) (fun g => absurd g hng) (fun g => absurd g hng) (fun g => absurd g hng) (fun g => absurd g hng)) rfl rfl rfl rfl rfl rfl rfl
/-- The one that is held goes. -/
theorem Inv.stLet (h : Inv P n ts w was) (k : Nat) (hk : k < n) (a : Nat) (ha : (ts k).pc + 1 = a) (hpc : (ts k).pc = 7 ∨ (ts k).pc = 9) (hok : (ts k).ok = true) : Inv P n (upd ts k (stLet P { ts k with pc := a } w).1) (stLet P { ts k with pc := a } w).2 was := by
  have hl := h.loc k hk
  unfold Go.Proofs.Ytmjkhefgpobinaa.stLet
  split
  · rename_i hc
    have hgk : hg (ts k) := hc
    have hheld := hgk.1
    have hf := hgk.2
    obtain ⟨o1, o2, o3⟩ := hl.hold hgk
    have hq : 0 ≤ (ts k).q ∧ (ts k).q ≤ (ts k).sx.left := by
      rcases e : (ts k).made with _ | _
      · rw [hl.q0 e]
        have := (h.wf (ts k).x).1
        omega
      · have := hl.q1 e
        omega
    have hnw : w.S (ts k).x = (ts k).nw ∨ ((ts k).pc = 7 ∧ (ts k).nw.flag = false ∧ w.S (ts k).x = { (ts k).nw with flag := true }) := by
      rcases hpc with e | e
      · rcases hl.p7 hgk e with e2 | e2
        · exact .inl e2
        · exact .inr ⟨e, e2⟩
      · exact .inl (hl.p9 hgk e).1
    have hsame : (ts k).nw.left = (w.S (ts k).x).left ∧ (ts k).nw.fills = (w.S (ts k).x).fills ∧ heldS (ts k).nw = true := by
      rcases hnw with e | ⟨_, _, e⟩
      · rw [e] at o1 ⊢; exact ⟨rfl, rfl, o1⟩
      · rw [e] at o1 ⊢; exact ⟨rfl, rfl, o1⟩
    obtain ⟨n1, n2, n3⟩ := hsame
    have hwf := (h.wf (ts k).x).2.1 (.inr o1)
    obtain ⟨s, hs⟩ := releaseS_some (q := (ts k).q) n3 hq.1 (by omega) (show (ts k).nw.fills < P.F by omega)
    split
    · rename_i hx
      have hx' : releaseS (ts k).nw (ts k).q P.F = none := hx
      rw [hs] at hx'; cases hx'
    · rename_i s' hx
      have hx' : releaseS (ts k).nw (ts k).q P.F = some s' := hx
      obtain ⟨b1, b2, b3, b4, b5, b6⟩ := releaseS_is hx'
      split
      · rename_i hS
        refine h.put k hk _ _ (fun i => ?_) ?_ (fun j hj ne g => upd_ne _ _ (fun e => ne (h.one j k hj hk g hgk e))) (fun g => absurd g.2 (by show ¬ true = false; decide)) (fun i hi => ?_) (fun i => ?_) (fun _ => h.two k hk hok)
        · show wfS P.F (upd w.S (ts k).x s' i)
          by_cases e : i = (ts k).x
          · rw [e, upd_at]; exact b6
          · rw [upd_ne _ _ e]; exact h.wf i
        · have hno : ∀ {t : Tr T}, t.freed = true → ¬ hg t := fun e g => by
            have q := g.2
            rw [e] at q; cases q
          refine ⟨fun e => ?_, hl.mh, fun _ => hheld, fun e => ?_, fun e => ?_, fun e => ?_, hl.q0, hl.q1, fun g => absurd g (hno rfl), fun g => absurd g (hno rfl), fun g => absurd g (hno rfl), fun g => absurd g (hno rfl)⟩
          · have e' : (ts k).ok = false := e
            rw [hok] at e'; cases e'
          · have e' : a ≤ 2 := e
            omega
          · have e' : a ≤ 5 := e
            omega
          · have e' : a ≤ 7 := e
            omega
        · have hi' : heldS (upd w.S (ts k).x s' i) = true := hi
          by_cases e : i = (ts k).x
          · rw [e, upd_at, b5] at hi'; cases hi'
          · rw [upd_ne _ _ e] at hi'
            obtain ⟨j, hj, g, ej⟩ := h.own i hi'
            exact .inr ⟨j, hj, fun q => e (by rw [← ej, q]), g, ej⟩
        · show (upd w.S (ts k).x s' i).left + doneL i (if overS s' = true then w.log ++ [.over (ts k).x s'.gen s'.kind w.now] else w.log) - (if (ts k).made = true ∧ true = false ∧ (ts k).x = i then (ts k).q else 0) = _
          have d : doneL i (if overS s' = true then w.log ++ [Lg.over (ts k).x s'.gen s'.kind w.now] else w.log) = doneL i w.log := by
            split
            · rw [doneL_app]; simp [doneL, lgq]
            · rfl
          rw [d, if_neg (fun q => absurd q.2.1 (by decide))]
          unfold pd
          by_cases e : i = (ts k).x
          · rw [e, upd_at, b4, n1]
            rcases em : (ts k).made with _ | _
            · rw [if_neg (fun q => absurd q.1 (by decide)), hl.q0 em]; omega
            · rw [if_pos ⟨rfl, hf, rfl⟩]; omega
          · rw [upd_ne _ _ e, if_neg (fun q => e q.2.2.symm)]
      · rename_i hS
        have hS' : ¬ w.S (ts k).x = (ts k).nw := hS
        rcases hnw with e | ⟨e7, ef, e⟩
        · exact absurd e hS'
        · refine h.calm k hk _ (hl.next rfl rfl rfl rfl rfl rfl (fun _ => rfl) (by show (ts k).pc ≤ a; omega) (fun _ => by show a ≤ 9; omega) (fun _ e => ?_) (fun _ _ => ?_) (fun _ e => ?_)) rfl rfl rfl rfl rfl rfl rfl
          · have e' : a = 7 := e
            omega
          · show (w.S (ts k).x).flag = true
            rw [e]
          · have e' : a = 9 := e
            omega
  · rename_i hc
    have hng : ¬ hg (ts k) := hc
    exact h.calm k hk _ (hl.next rfl rfl rfl rfl rfl rfl (fun _ => rfl) (by show (ts k).pc ≤ a; omega) (fun g => absurd g hng) (fun g => absurd g hng) (fun g => absurd g hng) (fun g => absurd g hng)) rfl rfl rfl rfl rfl rfl rfl
theorem upd_self {α : Type} (f : Nat → α) (k : Nat) : upd f k (f k) = f := by
  funext j
  unfold upd
  split
  · rename_i e; rw [e]
  · rfl
/-- Any step keeps what is true. -/
theorem Inv.step (hP : ∀ a b l m q p, P.mt a b l m = some (q, p) → 1 ≤ q ∧ q ≤ l) (h : Inv P n ts w was) (k : Nat) (hk : k < n) : Inv P n (upd ts k (stepT P (ts k) w).1) (stepT P (ts k) w).2 was := by
  have hl := h.loc k hk
  have hbump : ∀ a, (ts k).pc < a → ¬ hg (ts k) → Inv P n (upd ts k { ts k with pc := a }) w was := fun a ha hng =>
    h.calm k hk _ (hl.next rfl rfl rfl rfl rfl rfl (fun _ => rfl) (by show (ts k).pc ≤ a; omega) (fun g => absurd g hng) (fun g => absurd g hng) (fun g => absurd g hng) (fun g => absurd g hng)) rfl rfl rfl rfl rfl rfl rfl
  unfold stepT
  split
  · show Inv P n (upd ts k (ts k)) w was
    rw [upd_self]; exact h
  · split
    · rename_i hok
      exact hbump _ (Nat.lt_succ_self _) (fun g => by have := (hl.out hok).1; rw [g.1] at this; cases this)
    · rename_i hno
      have hok : (ts k).ok = true := by simpa using hno
      split
      · rename_i hpc
        have hh := hl.h2 (by omega)
        have hm := hl.m5 (by omega)
        have hng : ¬ hg (ts k) := fun g => by have e := g.1; rw [hh] at e; cases e
        exact h.calm k hk _ (hl.next rfl rfl rfl rfl rfl rfl (fun e => by rw [hh, hm] at e; simp at e) (by show (ts k).pc ≤ 1; omega) (fun g => absurd g hng) (fun g => absurd g hng) (fun g => absurd g hng) (fun g => absurd g hng)) rfl rfl rfl rfl rfl rfl rfl
      · rename_i hpc
        have hh := hl.h2 (by omega)
        have hng : ¬ hg (ts k) := fun g => by have e := g.1; rw [hh] at e; cases e
        exact h.calm k hk _ (hl.next rfl rfl rfl rfl rfl rfl (fun _ => rfl) (by show (ts k).pc ≤ 2; omega) (fun g => absurd g hng) (fun g => absurd g hng) (fun g => absurd g hng) (fun g => absurd g hng)) rfl rfl rfl rfl rfl rfl rfl
      · rename_i hpc; exact h.stHold k hk hpc hok
      · rename_i hpc
        exact h.calm k hk _ (hl.next rfl rfl rfl rfl rfl rfl (fun _ => rfl) (by show (ts k).pc ≤ 4; omega) (fun _ => (by decide : 4 ≤ 9)) (fun _ e => absurd e (by show ¬ 4 = 7; decide)) (fun _ e => absurd e (by show ¬ 4 = 8; decide)) (fun _ e => absurd e (by show ¬ 4 = 9; decide))) rfl rfl rfl rfl rfl rfl rfl
      · rename_i hpc
        exact h.calm k hk _ (hl.next rfl rfl rfl rfl rfl rfl (fun _ => rfl) (by show (ts k).pc ≤ 5; omega) (fun _ => (by decide : 5 ≤ 9)) (fun _ e => absurd e (by show ¬ 5 = 7; decide)) (fun _ e => absurd e (by show ¬ 5 = 8; decide)) (fun _ e => absurd e (by show ¬ 5 = 9; decide))) rfl rfl rfl rfl rfl rfl rfl
      · rename_i hpc; exact h.stTake hP k hk hpc hok
      · rename_i hpc; exact h.stLook k hk 7 (by omega) (.inl hpc)
      · rename_i hpc; exact h.stLet k hk 8 (by omega) (.inl hpc) hok
      · rename_i hpc; exact h.stLook k hk 9 (by omega) (.inr hpc)
      · rename_i hpc; exact h.stLet k hk 10 (by omega) (.inr hpc) hok
      · refine hbump _ (Nat.lt_succ_self _) (fun g => ?_)
        have h9 := (hl.hold g).2.2
        have hc : (ts k).pc = 0 ∨ (ts k).pc = 1 ∨ (ts k).pc = 2 ∨ (ts k).pc = 3 ∨ (ts k).pc = 4 ∨ (ts k).pc = 5 ∨ (ts k).pc = 6 ∨ (ts k).pc = 7 ∨ (ts k).pc = 8 ∨ (ts k).pc = 9 := by omega
        rcases hc with e | e | e | e | e | e | e | e | e | e <;> exact absurd e (by assumption)
/-- An owner's wish, by a load and a swap at once. -/
def wish {T : Type} (w : Mw T) (i : Nat) : Mw T := match cancelS (w.S i) with | some s => if (w.S i).flag = false then { w with S := upd w.S i s } else w | none => w
theorem Inv.wish (h : Inv P n ts w was) (i : Nat) : Inv P n ts (wish w i) was := by
  unfold Go.Proofs.Ytmjkhefgpobinaa.wish
  split
  · rename_i s hs
    split
    · rename_i hf
      obtain ⟨c1, c2, c3⟩ := cancelS_is (h.wf i) hs hf
      refine ⟨fun j => ?_, fun k hk => ?_, h.one, fun j hj => ?_, fun j => ?_, h.two⟩
      · show wfS P.F (upd w.S i s j)
        by_cases e : j = i
        · rw [e, upd_at]; exact c2
        · rw [upd_ne _ _ e]; exact h.wf j
      · have hl := h.loc k hk
        show Loc P.F (ts k) (upd w.S i s)
        by_cases e : (ts k).x = i
        · rcases c3 with ⟨l1, _⟩ | ⟨l1, l2, l3⟩
          · exact hl.keep (fun g => absurd e (h.apart l1 hk g))
          · exact {
              out := hl.out
              mh := hl.mh
              fh := hl.fh
              h2 := hl.h2
              m5 := hl.m5
              f7 := hl.f7
              q0 := hl.q0
              q1 := hl.q1
              hold := fun g => by
                have := hl.hold g
                rw [e] at this ⊢
                rw [upd_at, c1]
                exact ⟨l3, this.2⟩
              p7 := fun g q => by
                have := hl.p7 g q
                rw [e] at this ⊢
                rw [upd_at, l2]
                rcases this with q | ⟨_, q⟩
                · rw [q] at hf ⊢
                  exact .inr ⟨hf, rfl⟩
                · rw [q] at hf
                  cases hf
              p8 := fun g q => by
                have := hl.p8 g q
                rw [e, hf] at this
                cases this
              p9 := fun g q => by
                obtain ⟨q1, q2⟩ := hl.p9 g q
                rw [e] at q1
                rw [q1, q2] at hf
                cases hf }
        · exact hl.keep (fun _ => upd_ne _ _ e)
      · have hj' : heldS (upd w.S i s j) = true := hj
        by_cases e : j = i
        · rw [e, upd_at] at hj'
          rcases c3 with ⟨_, l2⟩ | ⟨l1, _⟩
          · rw [l2] at hj'; cases hj'
          · rw [e]; exact h.own i l1
        · rw [upd_ne _ _ e] at hj'; exact h.own j hj'
      · show (upd w.S i s j).left + doneL j w.log = _
        rw [← h.sum j]
        by_cases e : j = i
        · rw [e, upd_at, c1]
        · rw [upd_ne _ _ e]
    · exact h
  · exact h
/-- Behind all last steps: nobody is held, and all comes to what it was. -/
theorem pend_zero (i : Nat) : ∀ n, (∀ k, k < n → ¬ hg (ts k) ∧ ((ts k).made = true → (ts k).held = true)) → pend i ts n = 0
  | 0, _ => rfl
  | n + 1, h => by
    simp only [pend]
    rw [pend_zero i n (fun k hk => h k (by omega))]
    have := h n (by omega)
    unfold pd
    rw [if_neg (fun q => this.1 ⟨this.2 q.1, q.2.1⟩)]
    rfl
theorem Inv.done (h : Inv P n ts w was) (hd : ∀ k, k < n → 14 ≤ (ts k).pc) (i : Nat) : heldS (w.S i) = false ∧ (w.S i).flag = false ∧ (w.S i).left + doneL i w.log = was i ∧ 0 ≤ (w.S i).left := by
  have hng : ∀ k, k < n → ¬ hg (ts k) := fun k hk g => by
    have := ((h.loc k hk).hold g).2.2
    have := hd k hk
    omega
  have hh : heldS (w.S i) = false := not_true fun e => by
    obtain ⟨k, hk, g, _⟩ := h.own i e
    exact hng k hk g
  refine ⟨hh, not_true fun e => ?_, ?_, (h.wf i).1⟩
  · have := (h.wf i).2.2 e
    rw [hh] at this; cases this
  · rw [h.sum i, pend_zero i n (fun k hk => ⟨hng k hk, (h.loc k hk).mh⟩), Int.add_zero]
end

end Go.Proofs.Ytmjkhefgpobinaa
namespace Go.Proofs.Ytmjkhefgpobinaa
open Go.ChangeShapes Go.WideShapes Go.ChangeAt Go.RowKit
section
variable {T : Type} {P : Pm T}
def iter (P : Pm T) : Nat → Tr T → Mw T → Tr T × Mw T
  | 0, t, w => (t, w)
  | n + 1, t, w => iter P n (stepT P t w).1 (stepT P t w).2
/-- A try that does nothing takes its steps. -/
theorem iter_idle : ∀ (n : Nat) (t : Tr T) (w : Mw T), (∀ t' : Tr T, (∃ a, t' = { t with pc := a }) → t'.pc < 14 → t.pc ≤ t'.pc → stepT P t' w = ({ t' with pc := t'.pc + 1 }, w)) → t.pc + n ≤ 14 → iter P n t w = ({ t with pc := t.pc + n }, w)
  | 0, t, w, _, _ => rfl
  | n + 1, t, w, h, hn => by
    have e := h t ⟨t.pc, rfl⟩ (by omega) (Nat.le_refl _)
    unfold iter
    rw [e]
    have := iter_idle n { t with pc := t.pc + 1 } w (fun t' ⟨a, ha⟩ h1 h2 => h t' ⟨a, by rw [ha]⟩ h1 (by
      have h2' : t.pc + 1 ≤ t'.pc := h2
      omega)) (by show t.pc + 1 + n ≤ 14; omega)
    show iter P n { t with pc := t.pc + 1 } w = _
    rw [this]
    show ({ t with pc := t.pc + 1 + n }, w) = _
    rw [show t.pc + 1 + n = t.pc + (n + 1) by omega]
theorem stLook_no {t : Tr T} {w : Mw T} (h : t.held = false ∨ t.freed = true) : stLook t w = (t, w) := by
  unfold stLook
  rw [if_neg]
  rintro ⟨a, b⟩
  rcases h with e | e
  · rw [e] at a; cases a
  · rw [e] at b; cases b
theorem stLet_no {t : Tr T} {w : Mw T} (h : t.held = false ∨ t.freed = true) : stLet P t w = (t, w) := by
  unfold stLet
  rw [if_neg]
  rintro ⟨a, b⟩
  rcases h with e | e
  · rw [e] at a; cases a
  · rw [e] at b; cases b
theorem stTake_no {t : Tr T} {w : Mw T} (h : t.held = false) : stTake P t w = (t, w) := by
  unfold stTake
  rw [if_neg]
  rintro ⟨a, b⟩
  rw [h] at a; cases a
/-- The first three steps of a sweep. -/
theorem first_three (x y : Nat) (g sh : Int) (sx sy : Cs) (tx ty : T) (q p tk : Int) (tn nw lt : Cs) (ltk : Int) (w : Mw T) (n : Nat) :
    iter P (n + 2) (Tr.mk 3 x g y sh true 0 sx sy tx ty false false false q p tk tn nw lt ltk) w = iter P n (Tr.mk 3 x g y sh true 2 (w.S x) sy (w.Tm x) ty false false false q p tk tn nw lt ltk) w := rfl
theorem iter_to {n : Nat} {t t' : Tr T} {w w' : Mw T} (h : stepT P t w = (t', w')) : iter P (n + 1) t w = iter P n t' w' := by
  show iter P n (stepT P t w).1 (stepT P t w).2 = _
  rw [h]
/-- What a sweep is that may not hold: nothing. -/
theorem alone_none (x y : Nat) (g sh : Int) (sx sy : Cs) (tx ty : T) (q p tk : Int) (tn nw lt : Cs) (ltk : Int) (w : Mw T) (h : ¬ ((w.S x).kind = 2 ∧ P.buy (w.Tm x) = true ∧ P.sh (w.Tm x) = sh)) :
    ∃ t', iter P 14 (Tr.mk 3 x g y sh true 0 sx sy tx ty false false false q p tk tn nw lt ltk) w = (t', w) ∧ t'.made = false ∧ t'.pc = 14 := by
  have hm : mayHold P (Tr.mk 3 x g y sh true 3 (w.S x) sy (w.Tm x) ty false false false q p tk tn nw lt ltk) = false := by
    apply not_true
    intro e
    unfold mayHold at e
    rw [if_neg (by simp), if_pos rfl, Bool.and_eq_true, Bool.and_eq_true, decide_eq_true_eq, decide_eq_true_eq] at e
    exact h e
  have e0 : stepT P (Tr.mk 3 x g y sh true 0 sx sy tx ty false false false q p tk tn nw lt ltk) w = (Tr.mk 3 x g y sh true 1 (w.S x) sy tx ty false false false q p tk tn nw lt ltk, w) := rfl
  have e1 : stepT P (Tr.mk 3 x g y sh true 1 (w.S x) sy tx ty false false false q p tk tn nw lt ltk) w = (Tr.mk 3 x g y sh true 2 (w.S x) sy (w.Tm x) ty false false false q p tk tn nw lt ltk, w) := rfl
  have e2 : stepT P (Tr.mk 3 x g y sh true 2 (w.S x) sy (w.Tm x) ty false false false q p tk tn nw lt ltk) w = (Tr.mk 3 x g y sh true 3 (w.S x) sy (w.Tm x) ty false false false q p tk tn nw lt ltk, w) := by
    show stHold P (Tr.mk 3 x g y sh true 3 (w.S x) sy (w.Tm x) ty false false false q p tk tn nw lt ltk) w = _
    unfold stHold
    rw [if_neg (by rw [hm]; decide)]
  have e3 : stepT P (Tr.mk 3 x g y sh true 3 (w.S x) sy (w.Tm x) ty false false false q p tk tn nw lt ltk) w = (Tr.mk 3 x g y sh true 4 (w.S x) (w.S y) (w.Tm x) ty false false false q p tk tn nw lt ltk, w) := rfl
  have e4 : stepT P (Tr.mk 3 x g y sh true 4 (w.S x) (w.S y) (w.Tm x) ty false false false q p tk tn nw lt ltk) w = (Tr.mk 3 x g y sh true 5 (w.S x) (w.S y) (w.Tm x) (w.Tm y) false false false q p tk tn nw lt ltk, w) := rfl
  have e5 : stepT P (Tr.mk 3 x g y sh true 5 (w.S x) (w.S y) (w.Tm x) (w.Tm y) false false false q p tk tn nw lt ltk) w = (Tr.mk 3 x g y sh true 6 (w.S x) (w.S y) (w.Tm x) (w.Tm y) false false false q p tk tn nw lt ltk, w) := by
    show stTake P (Tr.mk 3 x g y sh true 6 (w.S x) (w.S y) (w.Tm x) (w.Tm y) false false false q p tk tn nw lt ltk) w = _
    exact stTake_no rfl
  have e6 : stepT P (Tr.mk 3 x g y sh true 6 (w.S x) (w.S y) (w.Tm x) (w.Tm y) false false false q p tk tn nw lt ltk) w = (Tr.mk 3 x g y sh true 7 (w.S x) (w.S y) (w.Tm x) (w.Tm y) false false false q p tk tn nw lt ltk, w) := by
    show stLook (Tr.mk 3 x g y sh true 7 (w.S x) (w.S y) (w.Tm x) (w.Tm y) false false false q p tk tn nw lt ltk) w = _
    exact stLook_no (.inl rfl)
  have e7 : stepT P (Tr.mk 3 x g y sh true 7 (w.S x) (w.S y) (w.Tm x) (w.Tm y) false false false q p tk tn nw lt ltk) w = (Tr.mk 3 x g y sh true 8 (w.S x) (w.S y) (w.Tm x) (w.Tm y) false false false q p tk tn nw lt ltk, w) := by
    show stLet P (Tr.mk 3 x g y sh true 8 (w.S x) (w.S y) (w.Tm x) (w.Tm y) false false false q p tk tn nw lt ltk) w = _
    exact stLet_no (.inl rfl)
  have e8 : stepT P (Tr.mk 3 x g y sh true 8 (w.S x) (w.S y) (w.Tm x) (w.Tm y) false false false q p tk tn nw lt ltk) w = (Tr.mk 3 x g y sh true 9 (w.S x) (w.S y) (w.Tm x) (w.Tm y) false false false q p tk tn nw lt ltk, w) := by
    show stLook (Tr.mk 3 x g y sh true 9 (w.S x) (w.S y) (w.Tm x) (w.Tm y) false false false q p tk tn nw lt ltk) w = _
    exact stLook_no (.inl rfl)
  have e9 : stepT P (Tr.mk 3 x g y sh true 9 (w.S x) (w.S y) (w.Tm x) (w.Tm y) false false false q p tk tn nw lt ltk) w = (Tr.mk 3 x g y sh true 10 (w.S x) (w.S y) (w.Tm x) (w.Tm y) false false false q p tk tn nw lt ltk, w) := by
    show stLet P (Tr.mk 3 x g y sh true 10 (w.S x) (w.S y) (w.Tm x) (w.Tm y) false false false q p tk tn nw lt ltk) w = _
    exact stLet_no (.inl rfl)
  have e10 : stepT P (Tr.mk 3 x g y sh true 10 (w.S x) (w.S y) (w.Tm x) (w.Tm y) false false false q p tk tn nw lt ltk) w = ((Tr.mk 3 x g y sh true 11 (w.S x) (w.S y) (w.Tm x) (w.Tm y) false false false q p tk tn nw lt ltk), w) := rfl
  have e11 : stepT P (Tr.mk 3 x g y sh true 11 (w.S x) (w.S y) (w.Tm x) (w.Tm y) false false false q p tk tn nw lt ltk) w = ((Tr.mk 3 x g y sh true 12 (w.S x) (w.S y) (w.Tm x) (w.Tm y) false false false q p tk tn nw lt ltk), w) := rfl
  have e12 : stepT P (Tr.mk 3 x g y sh true 12 (w.S x) (w.S y) (w.Tm x) (w.Tm y) false false false q p tk tn nw lt ltk) w = ((Tr.mk 3 x g y sh true 13 (w.S x) (w.S y) (w.Tm x) (w.Tm y) false false false q p tk tn nw lt ltk), w) := rfl
  have e13 : stepT P (Tr.mk 3 x g y sh true 13 (w.S x) (w.S y) (w.Tm x) (w.Tm y) false false false q p tk tn nw lt ltk) w = ((Tr.mk 3 x g y sh true 14 (w.S x) (w.S y) (w.Tm x) (w.Tm y) false false false q p tk tn nw lt ltk), w) := rfl
  refine ⟨(Tr.mk 3 x g y sh true 14 (w.S x) (w.S y) (w.Tm x) (w.Tm y) false false false q p tk tn nw lt ltk), ?_, rfl, rfl⟩
  refine (iter_to (n := 13) e0).trans ((iter_to (n := 12) e1).trans ((iter_to (n := 11) e2).trans ((iter_to (n := 10) e3).trans ((iter_to (n := 9) e4).trans ((iter_to (n := 8) e5).trans ((iter_to (n := 7) e6).trans ((iter_to (n := 6) e7).trans ((iter_to (n := 5) e8).trans ((iter_to (n := 4) e9).trans ((iter_to (n := 3) e10).trans ((iter_to (n := 2) e11).trans ((iter_to (n := 1) e12).trans ((iter_to (n := 0) e13))))))))))))))
theorem release_hold {F : Int} {s : Cs} (hw : wfS F s) (hk : s.kind = 2) (hf : s.flag = false) : releaseS (holdS s) 0 F = some s := by
  obtain ⟨k, fl, g, l, f⟩ := s
  simp only at hk hf
  subst hk hf
  have h2 := hw.2.1 (.inl rfl)
  simp only at h2
  have e : holdS ⟨2, false, g, l, f⟩ = ⟨4, false, g, l, f⟩ := rfl
  rw [e]
  unfold releaseS
  rw [if_neg (by simp [heldS]), if_neg (by show ¬ ((0 : Int) < 0 ∨ l < 0); omega), if_neg (by rintro ⟨a, _⟩; exact a rfl)]
  have e2 : loosenS ⟨4, false, g, l, f⟩ = ⟨2, false, g, l, f⟩ := rfl
  rw [e2]
  have e3 : spendS ⟨2, false, g, l, f⟩ 0 F = ⟨2, false, g, l, f⟩ := by
    have e4 : paidS ⟨2, false, g, l, f⟩ 0 = ⟨2, false, g, l, f⟩ := if_neg (by decide)
    unfold spendS
    rw [e4]
    unfold endS
    rw [if_neg (by show ¬ l = 0; omega), if_neg (by show ¬ F ≤ f; omega)]
  rw [e3]
  unfold wishS
  rw [if_neg (by rintro ⟨_, a⟩; cases a)]
end

end Go.Proofs.Ytmjkhefgpobinaa
namespace Go.Proofs.Ytmjkhefgpobinaa
open Go.ChangeShapes Go.WideShapes Go.ChangeAt Go.RowKit
section
variable {T : Type} {P : Pm T}
/-- The last eight steps of who holds. -/
theorem late (x y : Nat) (g sh : Int) (sx sy : Cs) (tx ty : T) (m : Bool) (q p tk : Int) (tn nw lt : Cs) (ltk : Int) (w : Mw T) (s : Cs) (h : releaseS (w.S x) q P.F = some s) :
    iter P 8 (Tr.mk 3 x g y sh true 6 sx sy tx ty true m false q p tk tn nw lt ltk) w = (Tr.mk 3 x g y sh true 14 sx sy tx ty true m true q p tk tn (w.S x) s w.now, { w with S := upd w.S x s, log := if overS s = true then w.log ++ [.over x s.gen s.kind w.now] else w.log }) := by
  have e6 : stepT P (Tr.mk 3 x g y sh true 6 sx sy tx ty true m false q p tk tn nw lt ltk) w = (Tr.mk 3 x g y sh true 7 sx sy tx ty true m false q p tk tn (w.S x) lt ltk, w) := by
    show stLook (Tr.mk 3 x g y sh true 7 sx sy tx ty true m false q p tk tn nw lt ltk) w = _
    unfold stLook
    rw [if_pos ⟨rfl, rfl⟩]
  have e7 : stepT P (Tr.mk 3 x g y sh true 7 sx sy tx ty true m false q p tk tn (w.S x) lt ltk) w = (Tr.mk 3 x g y sh true 8 sx sy tx ty true m true q p tk tn (w.S x) s w.now, { w with S := upd w.S x s, log := if overS s = true then w.log ++ [.over x s.gen s.kind w.now] else w.log }) := by
    show stLet P (Tr.mk 3 x g y sh true 8 sx sy tx ty true m false q p tk tn (w.S x) lt ltk) w = _
    unfold stLet
    rw [if_pos ⟨rfl, rfl⟩, h]
    simp only
    rw [if_pos trivial]
  generalize hw2 : ({ w with S := upd w.S x s, log := if overS s = true then w.log ++ [.over x s.gen s.kind w.now] else w.log } : Mw T) = w2 at e7 ⊢
  have e8 : stepT P (Tr.mk 3 x g y sh true 8 sx sy tx ty true m true q p tk tn (w.S x) s w.now) w2 = (Tr.mk 3 x g y sh true 9 sx sy tx ty true m true q p tk tn (w.S x) s w.now, w2) := by
    show stLook (Tr.mk 3 x g y sh true 9 sx sy tx ty true m true q p tk tn (w.S x) s w.now) w2 = _
    exact stLook_no (.inr rfl)
  have e9 : stepT P (Tr.mk 3 x g y sh true 9 sx sy tx ty true m true q p tk tn (w.S x) s w.now) w2 = (Tr.mk 3 x g y sh true 10 sx sy tx ty true m true q p tk tn (w.S x) s w.now, w2) := by
    show stLet P (Tr.mk 3 x g y sh true 10 sx sy tx ty true m true q p tk tn (w.S x) s w.now) w2 = _
    exact stLet_no (.inr rfl)
  have e10 : stepT P (Tr.mk 3 x g y sh true 10 sx sy tx ty true m true q p tk tn (w.S x) s w.now) w2 = (Tr.mk 3 x g y sh true 11 sx sy tx ty true m true q p tk tn (w.S x) s w.now, w2) := rfl
  have e11 : stepT P (Tr.mk 3 x g y sh true 11 sx sy tx ty true m true q p tk tn (w.S x) s w.now) w2 = (Tr.mk 3 x g y sh true 12 sx sy tx ty true m true q p tk tn (w.S x) s w.now, w2) := rfl
  have e12 : stepT P (Tr.mk 3 x g y sh true 12 sx sy tx ty true m true q p tk tn (w.S x) s w.now) w2 = (Tr.mk 3 x g y sh true 13 sx sy tx ty true m true q p tk tn (w.S x) s w.now, w2) := rfl
  have e13 : stepT P (Tr.mk 3 x g y sh true 13 sx sy tx ty true m true q p tk tn (w.S x) s w.now) w2 = (Tr.mk 3 x g y sh true 14 sx sy tx ty true m true q p tk tn (w.S x) s w.now, w2) := rfl
  exact (iter_to (n := 7) e6).trans ((iter_to (n := 6) e7).trans ((iter_to (n := 5) e8).trans ((iter_to (n := 4) e9).trans ((iter_to (n := 3) e10).trans ((iter_to (n := 2) e11).trans ((iter_to (n := 1) e12).trans (iter_to (n := 0) e13)))))))
/-- The first five steps of who may hold. -/
theorem early (x y : Nat) (g sh : Int) (sx sy : Cs) (tx ty : T) (q p tk : Int) (tn nw lt : Cs) (ltk : Int) (w : Mw T) (h : (w.S x).kind = 2 ∧ P.buy (w.Tm x) = true ∧ P.sh (w.Tm x) = sh) (hxy : x ≠ y) (n : Nat) :
    iter P (n + 5) (Tr.mk 3 x g y sh true 0 sx sy tx ty false false false q p tk tn nw lt ltk) w = iter P n (Tr.mk 3 x g y sh true 5 (w.S x) (w.S y) (w.Tm x) (w.Tm y) true false false q p tk tn nw lt ltk) { w with S := upd w.S x (holdS (w.S x)) } := by
  have hm : mayHold P (Tr.mk 3 x g y sh true 3 (w.S x) sy (w.Tm x) ty false false false q p tk tn nw lt ltk) = true := by
    unfold mayHold
    rw [if_neg (by simp), if_pos rfl, Bool.and_eq_true, Bool.and_eq_true, decide_eq_true_eq, decide_eq_true_eq]
    exact h
  have e0 : stepT P (Tr.mk 3 x g y sh true 0 sx sy tx ty false false false q p tk tn nw lt ltk) w = (Tr.mk 3 x g y sh true 1 (w.S x) sy tx ty false false false q p tk tn nw lt ltk, w) := rfl
  have e1 : stepT P (Tr.mk 3 x g y sh true 1 (w.S x) sy tx ty false false false q p tk tn nw lt ltk) w = (Tr.mk 3 x g y sh true 2 (w.S x) sy (w.Tm x) ty false false false q p tk tn nw lt ltk, w) := rfl
  have e2 : stepT P (Tr.mk 3 x g y sh true 2 (w.S x) sy (w.Tm x) ty false false false q p tk tn nw lt ltk) w = (Tr.mk 3 x g y sh true 3 (w.S x) sy (w.Tm x) ty true false false q p tk tn nw lt ltk, { w with S := upd w.S x (holdS (w.S x)) }) := by
    show stHold P (Tr.mk 3 x g y sh true 3 (w.S x) sy (w.Tm x) ty false false false q p tk tn nw lt ltk) w = _
    unfold stHold
    rw [if_pos hm, if_pos rfl]
  have hy : ({ w with S := upd w.S x (holdS (w.S x)) } : Mw T).S y = w.S y := upd_ne _ _ (fun e => hxy e.symm)
  have ht : ({ w with S := upd w.S x (holdS (w.S x)) } : Mw T).Tm = w.Tm := rfl
  generalize ({ w with S := upd w.S x (holdS (w.S x)) } : Mw T) = w1 at e2 hy ht ⊢
  have e3 : stepT P (Tr.mk 3 x g y sh true 3 (w.S x) sy (w.Tm x) ty true false false q p tk tn nw lt ltk) w1 = (Tr.mk 3 x g y sh true 4 (w.S x) (w.S y) (w.Tm x) ty true false false q p tk tn nw lt ltk, w1) := by
    rw [← hy]; rfl
  have e4 : stepT P (Tr.mk 3 x g y sh true 4 (w.S x) (w.S y) (w.Tm x) ty true false false q p tk tn nw lt ltk) w1 = (Tr.mk 3 x g y sh true 5 (w.S x) (w.S y) (w.Tm x) (w.Tm y) true false false q p tk tn nw lt ltk, w1) := by
    rw [← ht]; rfl
  exact (iter_to (n := n + 4) e0).trans ((iter_to (n := n + 3) e1).trans ((iter_to (n := n + 2) e2).trans ((iter_to (n := n + 1) e3).trans (iter_to (n := n) e4))))
theorem upd_upd {α : Type} (f : Nat → α) (i : Nat) (a b : α) : upd (upd f i a) i b = upd f i b := by
  funext j
  unfold upd
  split <;> rfl
/-- Who holds, and takes nobody: all is as it was. -/
theorem alone_quiet (x y : Nat) (g sh : Int) (sx sy : Cs) (tx ty : T) (p tk : Int) (tn nw lt : Cs) (ltk : Int) (w : Mw T) (h : (w.S x).kind = 2 ∧ P.buy (w.Tm x) = true ∧ P.sh (w.Tm x) = sh) (hxy : x ≠ y) (hwf : wfS P.F (w.S x)) (hf : (w.S x).flag = false) (hn : (w.S y).kind ≠ 2 ∨ P.mt (w.Tm x) (w.Tm y) (w.S x).left (w.S y).left = none) :
    ∃ t', iter P 14 (Tr.mk 3 x g y sh true 0 sx sy tx ty false false false 0 p tk tn nw lt ltk) w = (t', w) ∧ t'.made = false ∧ t'.pc = 14 := by
  rw [show (14 : Nat) = 9 + 5 from rfl, early x y g sh sx sy tx ty 0 p tk tn nw lt ltk w h hxy 9]
  have e5 : stepT P (Tr.mk 3 x g y sh true 5 (w.S x) (w.S y) (w.Tm x) (w.Tm y) true false false 0 p tk tn nw lt ltk) { w with S := upd w.S x (holdS (w.S x)) } = (Tr.mk 3 x g y sh true 6 (w.S x) (w.S y) (w.Tm x) (w.Tm y) true false false 0 p tk tn nw lt ltk, { w with S := upd w.S x (holdS (w.S x)) }) := by
    show stTake P (Tr.mk 3 x g y sh true 6 (w.S x) (w.S y) (w.Tm x) (w.Tm y) true false false 0 p tk tn nw lt ltk) _ = _
    unfold stTake
    split
    · rename_i hc
      have hmt := hc.2
      unfold mayTake at hmt
      rw [if_neg (by simp), if_neg (by simp), if_pos rfl, decide_eq_true_eq] at hmt
      rcases hn with e | e
      · exact absurd hmt e
      · simp only
        rw [e]
    · rfl
  rw [iter_to (n := 8) e5]
  have hr : releaseS (({ w with S := upd w.S x (holdS (w.S x)) } : Mw T).S x) 0 P.F = some (w.S x) := by
    show releaseS (upd w.S x (holdS (w.S x)) x) 0 P.F = _
    rw [upd_at]
    exact release_hold hwf h.1 hf
  rw [late _ _ _ _ _ _ _ _ _ _ _ _ _ _ _ _ _ _ hr]
  have ho : ¬ overS (w.S x) = true := by rw [over_iff]; omega
  refine ⟨_, Prod.ext rfl ?_, rfl, rfl⟩
  show ({ w with S := upd (upd w.S x (holdS (w.S x))) x (w.S x), log := if overS (w.S x) = true then w.log ++ [.over x (w.S x).gen (w.S x).kind w.now] else w.log } : Mw T) = w
  rw [if_neg ho, upd_upd, upd_self]
/-- Who holds, and takes: what both come to. -/
theorem alone_made (x y : Nat) (g sh : Int) (sx sy : Cs) (tx ty : T) (p tk : Int) (tn nw lt : Cs) (ltk : Int) (w : Mw T) (h : (w.S x).kind = 2 ∧ P.buy (w.Tm x) = true ∧ P.sh (w.Tm x) = sh) (hxy : x ≠ y) (hwx : wfS P.F (w.S x)) (hwy : wfS P.F (w.S y)) (hy : (w.S y).kind = 2) (q pr : Int) (hm : P.mt (w.Tm x) (w.Tm y) (w.S x).left (w.S y).left = some (q, pr)) (hq : 1 ≤ q ∧ q ≤ (w.S x).left ∧ q ≤ (w.S y).left) :
    ∃ t' w' ex ey rest, iter P 14 (Tr.mk 3 x g y sh true 0 sx sy tx ty false false false 0 p tk tn nw lt ltk) w = (t', w') ∧ t'.made = true ∧ t'.pc = 14 ∧ w'.S = upd (upd w.S y ey) x ex ∧ ex.left = (w.S x).left - q ∧ ey.left = (w.S y).left - q ∧ heldS ex = false ∧ heldS ey = false ∧ w'.log = w.log ++ .fill x (w.S x).gen y (w.S y).gen q pr w.now :: rest := by
  rw [show (14 : Nat) = 9 + 5 from rfl, early x y g sh sx sy tx ty 0 p tk tn nw lt ltk w h hxy 9]
  have hlx : looseS (w.S x) = true := by rw [loose_iff]; exact .inr h.1
  have hly : looseS (w.S y) = true := by rw [loose_iff]; exact .inr hy
  have hfy := hwy.2.1 (.inl hly)
  have hfx := hwx.2.1 (.inl hlx)
  obtain ⟨ey, hey⟩ : ∃ s, takeS (w.S y) q P.F = some s := by
    unfold takeS
    rw [if_neg (by rw [hly]; decide), if_neg (by omega), if_neg (by omega)]
    exact ⟨_, rfl⟩
  obtain ⟨_, _, _, t4, t5, _⟩ := takeS_is hwy hey
  obtain ⟨g1, g2, g3, _, _⟩ := holdS_is hlx
  obtain ⟨ex, hex⟩ := releaseS_some (F := P.F) (q := q) g1 (by omega) (by rw [g2]; omega) (by rw [g3]; omega)
  obtain ⟨_, _, _, r4, r5, _⟩ := releaseS_is hex
  have e5 : stepT P (Tr.mk 3 x g y sh true 5 (w.S x) (w.S y) (w.Tm x) (w.Tm y) true false false 0 p tk tn nw lt ltk) { w with S := upd w.S x (holdS (w.S x)) } = (Tr.mk 3 x g y sh true 6 (w.S x) (w.S y) (w.Tm x) (w.Tm y) true true false q pr w.now ey nw lt ltk, { w with S := upd (upd w.S x (holdS (w.S x))) y ey, log := w.log ++ [.fill x (w.S x).gen y (w.S y).gen q pr w.now] }) := by
    show stTake P (Tr.mk 3 x g y sh true 6 (w.S x) (w.S y) (w.Tm x) (w.Tm y) true false false 0 p tk tn nw lt ltk) _ = _
    unfold stTake
    rw [if_pos ⟨rfl, by unfold mayTake; rw [if_neg (by simp), if_neg (by simp), if_pos rfl, decide_eq_true_eq]; exact hy⟩]
    simp only
    rw [hm]
    simp only
    rw [hey]
    simp only
    rw [if_pos (upd_ne _ _ (fun e => hxy e.symm))]
  rw [iter_to (n := 8) e5]
  have hr : releaseS (({ w with S := upd (upd w.S x (holdS (w.S x))) y ey, log := w.log ++ [.fill x (w.S x).gen y (w.S y).gen q pr w.now] } : Mw T).S x) q P.F = some ex := by
    show releaseS (upd (upd w.S x (holdS (w.S x))) y ey x) q P.F = _
    rw [upd_ne _ _ hxy, upd_at]
    exact hex
  rw [late _ _ _ _ _ _ _ _ _ _ _ _ _ _ _ _ _ _ hr]
  refine ⟨_, _, ex, ey, if overS ex = true then [.over x ex.gen ex.kind w.now] else [], rfl, rfl, rfl, ?_, by rw [r4, g2], t4, r5, t5, ?_⟩
  · show upd (upd (upd w.S x (holdS (w.S x))) y ey) x ex = upd (upd w.S y ey) x ex
    funext j
    unfold upd
    split
    · rfl
    · split
      · rfl
      · rfl
  · show (if overS ex = true then (w.log ++ [Lg.fill x (w.S x).gen y (w.S y).gen q pr w.now]) ++ [.over x ex.gen ex.kind w.now] else w.log ++ [.fill x (w.S x).gen y (w.S y).gen q pr w.now]) = _
    split
    · rw [List.append_assoc]; rfl
    · rfl
end

end Go.Proofs.Ytmjkhefgpobinaa
namespace Go.Proofs.Ytmjkhefgpobinaa
open Go.ChangeShapes Go.WideShapes Go.ChangeAt Go.RowKit
/-- Words, and how many steps there were. -/
def Mx (M B n : Nat) (ws : Nat → Int) (st : Int) (w : World) : Prop := ∃ k a p q d, Mm.MemAt M B n n (some ⟨B, 0, none⟩) ws st k a p q d w
theorem Mx.below {M B n : Nat} {ws : Nat → Int} {st : Int} {w w' : World} (h : Mx M B n ws st w) (hb : Below w.heap.size w w') : Mx M B n ws st w' := by
  obtain ⟨k, a, p, q, d, hm⟩ := h
  exact ⟨k, a, p, q, d, Mm.MemAt.below hm hb⟩
theorem Mx.ne {M B n : Nat} {ws : Nat → Int} {st : Int} {w : World} (h : Mx M B n ws st w) : M ≠ B := by
  obtain ⟨k, a, p, q, d, hm⟩ := h
  exact hm.ne
theorem Mx.bd {M B n : Nat} {ws : Nat → Int} {st : Int} {w : World} (h : Mx M B n ws st w) (i : Nat) (hi : i < n) : 0 ≤ ws i ∧ ws i ≤ 18446744073709551615 := by
  obtain ⟨k, a, p, q, d, hm⟩ := h
  exact (hm.wd i hi).2.2.2.2
theorem Mx.far {M B n : Nat} {ws : Nat → Int} {st : Int} {w w' : World} (h : Mx M B n ws st w) (hM : w'.heap[M]? = w.heap[M]?) (hB : w'.heap[B]? = w.heap[B]?) (hs : w.heap.size ≤ w'.heap.size) : Mx M B n ws st w' := by
  obtain ⟨k, a, p, q, d, hm⟩ := h
  have hc : ∀ o, w'.cell? ⟨M, o, none⟩ = w.cell? ⟨M, o, none⟩ := fun o => World.cell?_of_block (w := w) hM
  have hf : ∀ o, w'.frozen? ⟨M, o, none⟩ = w.frozen? ⟨M, o, none⟩ := fun o => World.frozen?_of_block (w := w) hM
  have bc : ∀ o, w'.cell? ⟨B, o, none⟩ = w.cell? ⟨B, o, none⟩ := fun o => World.cell?_of_block (w := w) hB
  have bf : ∀ o, w'.frozen? ⟨B, o, none⟩ = w.frozen? ⟨B, o, none⟩ := fun o => World.frozen?_of_block (w := w) hB
  refine ⟨k, a, p, q, d, (hc 0).trans hm.c0, (hc 1).trans hm.c1, (hc 2).trans hm.c2, (hc 3).trans hm.c3, (hc 4).trans hm.c4, (hc 5).trans hm.c5, (hc 6).trans hm.c6, fun o ho => (hf o).trans (hm.fz o ho), Nat.lt_of_lt_of_le hm.ml hs, fun i hi => ?_, hm.ne, hm.ha, Nat.lt_of_lt_of_le hm.bl hs⟩
  obtain ⟨h1, h2, h3, h4, h5⟩ := hm.wd i hi
  exact ⟨h1, Nat.lt_of_lt_of_le h2 hs, (bc i).trans h3, (bf i).trans h4, h5⟩
theorem upd_id (ws : Nat → Int) (i : Nat) : Mm.upd ws i (ws i) = ws := by
  funext j
  unfold Mm.upd
  split
  · rename_i e; rw [e]
  · rfl
/-- What a step of the memory leaves. -/
def MOp (M B n : Nat) (ws : Nat → Int) (st : Int) (v : Value) (w : World) (e : Ending) (w' : World) : Prop := e = .returned v ∧ Mx M B n ws st w' ∧ w'.heap.size = w.heap.size ∧ Mm.Oth M B w w'
section
variable {M B n : Nat} {ws : Nat → Int} {st : Int} {w : World}
theorem mload (h : Mx M B n ws st w) (i : Nat) (hi : i < n) (hs : 0 ≤ st ∧ st ≤ 1000000) : Calls Try.prog 16 #[.pointer (some ⟨M, 0, none⟩), .int .i64 (i : Int)] w (MOp M B n ws (st + 1) (.tuple #[.int .u64 (ws i), .nilIface]) w) := by
  obtain ⟨k, a, p, q, d, hm⟩ := h
  refine (Mm.load_in hm i hi hs).mono ?_
  rintro e w' ⟨rfl, h1, h2, _, h3⟩
  rw [upd_id] at h1
  exact ⟨rfl, ⟨_, _, _, _, _, h1⟩, h2, h3⟩
theorem mstore (h : Mx M B n ws st w) (i : Nat) (hi : i < n) (x : Int) (hx : 0 ≤ x ∧ x ≤ 18446744073709551615) (hs : 0 ≤ st ∧ st ≤ 1000000) : Calls Try.prog 33 #[.pointer (some ⟨M, 0, none⟩), .int .i64 (i : Int), .int .u64 x] w (MOp M B n (Mm.upd ws i x) (st + 1) .nilIface w) := by
  obtain ⟨k, a, p, q, d, hm⟩ := h
  refine (Mm.store_in hm i hi x hx hs).mono ?_
  rintro e w' ⟨rfl, h1, h2, _, h3⟩
  exact ⟨rfl, ⟨_, _, _, _, _, h1⟩, h2, h3⟩
theorem mstore_out (h : Mx M B n ws st w) (i : Int) (hi : i < 0 ∨ (n : Int) ≤ i) (x : Int) : Calls Try.prog 33 #[.pointer (some ⟨M, 0, none⟩), .int .i64 i, .int .u64 x] w fun e w' => ∃ T v, e = .returned (.iface T v) ∧ Below w.heap.size w w' := by
  obtain ⟨k, a, p, q, d, hm⟩ := h
  refine (Mm.store_out hm i hi x).mono ?_
  rintro e w' ⟨v, rfl, ⟨pb, rfl, _⟩, hb⟩
  exact ⟨_, _, rfl, hb⟩
theorem mswap_yes (h : Mx M B n ws st w) (i : Nat) (hi : i < n) (old x : Int) (hx : 0 ≤ x ∧ x ≤ 18446744073709551615) (hs : 0 ≤ st ∧ st ≤ 1000000) (ho : ws i = old) : Calls Try.prog 51 #[.pointer (some ⟨M, 0, none⟩), .int .i64 (i : Int), .int .u64 old, .int .u64 x] w (MOp M B n (Mm.upd ws i x) (st + 1) (.tuple #[.bool true, .nilIface]) w) := by
  obtain ⟨k, a, p, q, d, hm⟩ := h
  refine (Mm.swap_yes hm i hi old x hx hs ho).mono ?_
  rintro e w' ⟨rfl, h1, h2, _, h3⟩
  exact ⟨rfl, ⟨_, _, _, _, _, h1⟩, h2, h3⟩
theorem mswap_no (h : Mx M B n ws st w) (i : Nat) (hi : i < n) (old x : Int) (hs : 0 ≤ st ∧ st ≤ 1000000) (ho : ws i ≠ old) : Calls Try.prog 51 #[.pointer (some ⟨M, 0, none⟩), .int .i64 (i : Int), .int .u64 old, .int .u64 x] w (MOp M B n ws (st + 1) (.tuple #[.bool false, .nilIface]) w) := by
  obtain ⟨k, a, p, q, d, hm⟩ := h
  refine (Mm.swap_no hm i hi old x hs ho).mono ?_
  rintro e w' ⟨rfl, h1, h2, _, h3⟩
  rw [upd_id] at h1
  exact ⟨rfl, ⟨_, _, _, _, _, h1⟩, h2, h3⟩
end
/-- A configuration. -/
structure Cfg where
  p : Nat
  c : Nat
  f : Nat
  g : Nat
  n : Int
  b : Int
  r : Int
def Cfg.A (C : Cfg) : Nat := C.p * C.c
def Cfg.N (C : Cfg) : Nat := 2 * C.A + C.A * (C.g * (C.f + 1))
structure Cfg.Ok (C : Cfg) : Prop where
  hp : 1 ≤ C.p ∧ C.p ≤ 6
  hc : 1 ≤ C.c ∧ C.c ≤ 4
  hf : 1 ≤ C.f ∧ C.f ≤ 4
  hg : 1 ≤ C.g ∧ C.g ≤ 15
  hn : 1 ≤ C.n ∧ C.n ≤ 3
  hb : 1 ≤ C.b ∧ C.b ≤ 4
  hr : 0 ≤ C.r ∧ C.r ≤ 4
theorem Cfg.Ok.a24 {C : Cfg} (h : C.Ok) : 1 ≤ C.A ∧ C.A ≤ 24 := by
  have h1 := h.hp
  have h2 := h.hc
  constructor
  · exact Nat.mul_pos (by omega) (by omega)
  · exact Nat.le_trans (Nat.mul_le_mul h1.2 h2.2) (by decide)
theorem Cfg.Ok.n8 {C : Cfg} (h : C.Ok) : C.N ≤ 8192 := by
  have h1 := h.a24
  have h2 := h.hf
  have h3 := h.hg
  have h4 : C.g * (C.f + 1) ≤ 15 * 5 := Nat.mul_le_mul h3.2 (by omega)
  have h5 : C.A * (C.g * (C.f + 1)) ≤ 24 * (15 * 5) := Nat.mul_le_mul h1.2 h4
  unfold Cfg.N
  omega
theorem Cfg.st_lt {C : Cfg} {i : Nat} (hi : i < C.A) : 2 * i < C.N ∧ 2 * i + 1 < C.N := by
  unfold Cfg.N
  omega
/-- A line of the log. -/
def lgc : Lg → List Value
  | .fill x gn y wi q pr t => [.int .i64 2, .int .i64 (x : Int), .int .i64 gn, .int .i64 (y : Int), .int .i64 wi, .int .i64 0, .int .i64 0, .int .i64 0, .int .i64 0, .int .i64 0, .int .i64 q, .int .i64 pr, .int .i64 t, .int .i64 0]
  | .over x gn e t => [.int .i64 7, .int .i64 (x : Int), .int .i64 gn, .int .i64 0, .int .i64 0, .int .i64 0, .int .i64 0, .int .i64 0, .int .i64 0, .int .i64 0, .int .i64 0, .int .i64 0, .int .i64 t, .int .i64 e]
  | .raw k c t => [.int .i64 k, .int .i64 c, .int .i64 0, .int .i64 0, .int .i64 0, .int .i64 0, .int .i64 0, .int .i64 0, .int .i64 0, .int .i64 0, .int .i64 0, .int .i64 0, .int .i64 t, .int .i64 0]
def lgs (L : List Lg) : List Value := L.flatMap lgc
theorem lgs_snoc (L : List Lg) (e : Lg) : lgs (L ++ [e]) = lgs L ++ lgc e := by unfold lgs; rw [List.flatMap_append]; simp
theorem lgc_len (e : Lg) : (lgc e).length = 14 := by cases e <;> rfl
theorem lgs_len (L : List Lg) : (lgs L).length = L.length * 14 := by
  induction L with
  | nil => rfl
  | cons e l ih => show (lgc e ++ lgs l).length = _; rw [List.length_append, lgc_len, ih, List.length_cons]; omega
/-- The world of pairs: its block, its words, its clock, its log. -/
structure PW (K : Nat) (C : Cfg) (W M B Ck : Nat) (ws : Nat → Int) (st now : Int) (lv : Value) (L : List Lg) (w : World) : Prop where
  blk : Bl W [.int .i64 (C.p : Int), .int .i64 (C.c : Int), .int .i64 C.n, .int .i64 C.b, .int .i64 C.r, .int .i64 (C.f : Int), .int .i64 (C.g : Int), .pointer (some ⟨M, 0, none⟩), .pointer (some ⟨Ck, 0, none⟩), lv] w
  mem : Mx M B C.N ws st w
  clk : Bl Ck [.int .i64 now] w
  row : w.ownsRow K 68 14 lv L.length (lgs L)
  lo : W < K ∧ M < K ∧ B < K ∧ Ck < K
  hK : K ≤ w.heap.size
  ne : W ≠ M ∧ W ≠ B ∧ W ≠ Ck ∧ M ≠ Ck ∧ B ≠ Ck
section
variable {K : Nat} {C : Cfg} {W M B Ck : Nat} {ws ws' : Nat → Int} {st st' now : Int} {lv : Value} {L : List Lg} {w w' : World}
theorem PW.below (h : PW K C W M B Ck ws st now lv L w) (hb : Below w.heap.size w w') : PW K C W M B Ck ws st now lv L w' :=
  ⟨h.blk.below hb, h.mem.below hb, h.clk.below hb, rkept h.row hb, h.lo, Nat.le_trans h.hK hb.size, h.ne⟩
theorem PW.op (h : PW K C W M B Ck ws st now lv L w) (ho : Mm.Oth M B w w') (hm : Mx M B C.N ws' st' w') : PW K C W M B Ck ws' st' now lv L w' := by
  obtain ⟨n1, n2, n3, n4, n5⟩ := h.ne
  obtain ⟨l1, l2, l3, l4⟩ := h.lo
  have hz := ho.2.2.2.1
  have hk := h.hK
  refine ⟨?_, hm, ?_, ?_, h.lo, by omega, h.ne⟩
  · obtain ⟨t, hh⟩ := h.blk
    exact ⟨t, (ho.2.2.2.2 W (by omega) n1 n2).trans hh⟩
  · obtain ⟨t, hh⟩ := h.clk
    exact ⟨t, (ho.2.2.2.2 Ck (by omega) (Ne.symm n4) (Ne.symm n5)).trans hh⟩
  · exact rfar h.row fun k h1 h2 => ho.2.2.2.2 k h2 (by omega) (by omega)
end
end Go.Proofs.Ytmjkhefgpobinaa
namespace Go.Proofs.Ytmjkhefgpobinaa
open Go.ChangeShapes Go.WideShapes Go.ChangeAt Go.RowKit
/-- Where terms' fields begin. -/
def sht : Nat → Int
  | 0 => 0 | 1 => 4 | 2 => 5 | 3 => 21 | 4 => 37 | 5 => 61 | _ => 0
def wdt : Nat → Int
  | 0 => 4 | 1 => 1 | 2 => 16 | 3 => 16 | 4 => 24 | _ => 0
theorem sht_steps : Steps 5 sht := ⟨rfl, by decide, fun k hk => by
  match k, hk with
  | 0, _ | 1, _ | 2, _ | 3, _ | 4, _ => decide⟩
theorem sht_wd : ∀ k, k < 5 → sht (k + 1) = sht k + wdt k := fun k hk => by match k, hk with | 0, _ | 1, _ | 2, _ | 3, _ | 4, _ => rfl
theorem sht_cut : (fun k => if k ≤ 5 then sht k else 0) = sht := by
  funext k
  by_cases h : k ≤ 5
  · rw [if_pos h]
  · rw [if_neg h]
    match k, h with
    | 0, h | 1, h | 2, h | 3, h | 4, h | 5, h => exact absurd h (by decide)
    | n + 6, _ => rfl
def tz (k s p l u : Int) : Nat → Int
  | 0 => k | 1 => s | 2 => p | 3 => l | 4 => u | _ => 0
def FitsT (z : Nat → Int) : Prop := ∀ k, k < 5 → 0 ≤ z k ∧ z k < 2 ^ (sht (k + 1) - sht k).toNat
theorem fld_word {n : Nat} {s z : Nat → Int} (hS : Steps n s) (hz : ∀ k, k < n → 0 ≤ z k ∧ z k < 2 ^ (s (k + 1) - s k).toNat) : ∀ k, k < n → fld s (word s z n) k = z k :=
  word_inj hS (fun k _ => fld_fit (n := n) (s := s) _ k) hz n (Nat.le_refl _) ((word_fld hS (word s z n) n (Nat.le_refl _)).trans (Nat.mod_eq_of_lt (word_lt hS hz n (Nat.le_refl _))))
set_option maxRecDepth 100000 in
set_option maxHeartbeats 4000000 in
theorem layoutT (w : World) : Calls Try.prog 80 #[] w fun e w' => ∃ cs, e = .returned (.agg cs) ∧ Lay cs 5 sht ∧ Below w.heap.size w w' := by
  have hzero := zero70
  have hrow := row5_new (w.alloc (Obj.cells Z0 123)) 3 4 1 16 16 24 wdt ⟨rfl, rfl, rfl, rfl, rfl⟩ (fun k hk => by match k, hk with | 0, _ | 1, _ | 2, _ | 3, _ | 4, _ => decide)
  rw [World.size_alloc] at hrow
  have HROW := Lib.hid hrow
  clear hrow
  go_enter Try.func80, Try.ntmps80
  go_wp2_with fail
  refine (new_ok _ 5 5 wdt sht _ HROW.out sht_steps sht_wd).mono ?_
  rintro e w1 ⟨cs, rfl, hL, hb1⟩
  rw [sht_cut] at hL
  have hB1 : Below w.heap.size w w1 := Below.step (by go_grown) hb1
  have hz1 := hb1.size
  simp only [World.size_alloc] at hz1
  have hlt : w.heap.size < w1.heap.size := by omega
  have h0 : w1.heap[w.heap.size]? = some (.cells Z0 123 (0, 0)) := (hb1.block w.heap.size (by simp only [World.size_alloc]; omega)).trans ((Below.heap_alloc _ _ _ (by simp)).trans (heap_alloc_new w _))
  have HSZ := Lib.hid (lay_info hL)
  have HZS := Lib.hid (show Z0.size = cs.size from by rw [hL.size]; rfl)
  have HON := Lib.hid hL.one
  have g1 := heap_alloc_new w1 (Obj.cells Z0 123)
  have g2 := heap_setRow _ _ _ _ cs g1
  have g3 : ((w1.alloc (Obj.cells Z0 123)).setRow w1.heap.size cs).heap[w.heap.size]? = some (.cells Z0 123 (0, 0)) := by
    rw [World.setRow_alloc_new]
    exact (Below.heap_alloc _ _ _ hlt).trans h0
  have g4 := heap_setRow _ _ _ _ cs g3
  have HG1 := Lib.hid g1
  have HG2 := Lib.hid g2
  have HG3 := Lib.hid g3
  have HG4 := Lib.hid g4
  have HL := Lib.hid hL
  clear g1 g2 g3 g4 hL h0 hb1
  go_wp2_with (first | (refine wpList_store_row rfl 123 _ _ rfl w1.heap.size cs rfl rfl 123 Z0 HG1.out HSZ.out HZS.out HON.out ?_) | (refine wpList_load_row rfl 123 _ rfl w1.heap.size rfl 123 _ (0, 0) _ HG2.out Try.underlying123 rfl HSZ.out ?_) | (refine wpList_store_row rfl 123 _ _ rfl w.heap.size cs rfl rfl 123 Z0 HG3.out HSZ.out HZS.out HON.out ?_))
  refine bodyPost_ret (results_cell_row rfl _ _ w.heap.size 123 _ (0, 0) _ rfl HG4.out Try.underlying123 rfl HSZ.out) rfl ?_
  exact ⟨cs, rfl, HL.out, below_setRow (below_setRow (hB1.alloc hB1.size _) hB1.size _) (Nat.le_refl _) _⟩
attribute [local go_sem ↓] exec_loadL
attribute [local go_sem] ptrB
set_option maxRecDepth 100000 in
set_option maxHeartbeats 4000000 in
theorem ofT_is (x : Nat) (hx : x < 18446744073709551616) (w : World) : Calls Try.prog 72 #[.int .u64 (x : Int)] w fun e w' => e = .returned (.agg #[.int .i64 (fld sht x 0), .int .i64 (fld sht x 1), .int .i64 (fld sht x 2), .int .i64 (fld sht x 3), .int .i64 (fld sht x 4)]) ∧ Below w.heap.size w w' := by
  go_enter Try.func72, Try.ntmps72
  go_wp2_with fail
  refine (layoutT _).mono ?_
  rintro e w1 ⟨cs, rfl, hL, hb1⟩
  have hB1 : Below w.heap.size w w1 := Below.step (by go_grown) hb1
  have hz1 := hb1.size
  simp only [World.size_alloc] at hz1
  have hlt : w.heap.size < w1.heap.size := by omega
  have HSZ := Lib.hid (lay_info hL)
  have HZS := Lib.hid (show Z0.size = cs.size from by rw [hL.size]; rfl)
  have HON := Lib.hid hL.one
  have HG1 := Lib.hid (heap_alloc_new w1 (Obj.cells Z0 123))
  have HG2 := Lib.hid (heap_alloc_new w1 (Obj.cells cs 123))
  have HGT0 := Lib.hid (fun W => show Calls Try.prog 49 #[.agg cs, .int .u64 (x : Int), .int .i64 0] W fun e w' => e = .returned (.int .i64 (fld sht x 0)) ∧ Below W.heap.size W w' from get43 hL sht_steps x 0 hx (by decide) W)
  have HGT1 := Lib.hid (fun W => show Calls Try.prog 49 #[.agg cs, .int .u64 (x : Int), .int .i64 1] W fun e w' => e = .returned (.int .i64 (fld sht x 1)) ∧ Below W.heap.size W w' from get43 hL sht_steps x 1 hx (by decide) W)
  have HGT2 := Lib.hid (fun W => show Calls Try.prog 49 #[.agg cs, .int .u64 (x : Int), .int .i64 2] W fun e w' => e = .returned (.int .i64 (fld sht x 2)) ∧ Below W.heap.size W w' from get43 hL sht_steps x 2 hx (by decide) W)
  have HGT3 := Lib.hid (fun W => show Calls Try.prog 49 #[.agg cs, .int .u64 (x : Int), .int .i64 3] W fun e w' => e = .returned (.int .i64 (fld sht x 3)) ∧ Below W.heap.size W w' from get43 hL sht_steps x 3 hx (by decide) W)
  have HGT4 := Lib.hid (fun W => show Calls Try.prog 49 #[.agg cs, .int .u64 (x : Int), .int .i64 4] W fun e w' => e = .returned (.int .i64 (fld sht x 4)) ∧ Below W.heap.size W w' from get43 hL sht_steps x 4 hx (by decide) W)
  have bn : Blk5 w.heap.size (.int .i64 0) (.int .i64 0) (.int .i64 0) (.int .i64 0) (.int .i64 0) (w.alloc (.cells #[.int .i64 0, .int .i64 0, .int .i64 0, .int .i64 0, .int .i64 0] 44)) := ⟨⟨by simp [go_sem], by simp [go_sem], by simp [go_sem], by simp [go_sem], by simp [go_sem]⟩, ⟨by simp [go_sem], by simp [go_sem], by simp [go_sem], by simp [go_sem], by simp [go_sem]⟩, by simp⟩
  have bx := Blk5.below (Blk5.below bn hb1) (show Below w1.heap.size w1 (w1.alloc (Obj.cells cs 123)) from by go_grown)
  clear hL hb1 bn
  go_wp2_with (refine wpList_store_row rfl 123 _ _ rfl w1.heap.size cs rfl rfl 123 Z0 HG1.out HSZ.out HZS.out HON.out ?_; rw [World.setRow_alloc_new])
  have H0 : Hid ((w1.alloc (Obj.cells cs 123)).drew.heap[w1.heap.size]? = some (.cells cs 123 (0, 0))) := HG2.out
  have hC0 : Below w.heap.size w (w1.alloc (Obj.cells cs 123)).drew := Below.drew (hB1.alloc hB1.size _)
  have bx0 : Blk5 w.heap.size (.int .i64 0) (.int .i64 0) (.int .i64 0) (.int .i64 0) (.int .i64 0) (w1.alloc (Obj.cells cs 123)).drew := bx
  have hS0 := lay_at H0.out HSZ.out
  go_region_held3 (fun w' => LayAt w' w1.heap.size ∧ cellsAt w' w1.heap.size = cs) (first | with_reducible exact hS0 | with_reducible exact hS1 | with_reducible exact hS2 | with_reducible exact hS3 | with_reducible exact hS4 | with_reducible exact hS5 | with_reducible exact lay_far5 hS5 (by omega) _ _ _ _ _ | fail)
    (first
      | ((with_reducible refine (HGT0.out _).mono ?_); rintro e wy1 ⟨rfl, hby1⟩; have H1 := Lib.hid ((hby1.block _ (blk_lt H0.out)).trans H0.out); have hC1 := Below.step hC0 hby1; have hS1 := lay_at H1.out HSZ.out; have bx1 := Blk5.below bx0 hby1; obtain ⟨⟨r1x0, r1x1, r1x2, r1x3, r1x4⟩, ⟨r1xf0, r1xf1, r1xf2, r1xf3, r1xf4⟩, _⟩ := id bx1; clear hby1)
      | ((with_reducible refine (HGT1.out _).mono ?_); rintro e wy2 ⟨rfl, hby2⟩; have H2 := Lib.hid ((hby2.block _ (blk_lt H1.out)).trans H1.out); have hC2 := Below.step hC1 hby2; have hS2 := lay_at H2.out HSZ.out; have bx2 := Blk5.below bx1 hby2; obtain ⟨⟨r2x0, r2x1, r2x2, r2x3, r2x4⟩, ⟨r2xf0, r2xf1, r2xf2, r2xf3, r2xf4⟩, _⟩ := id bx2; clear hby2)
      | ((with_reducible refine (HGT2.out _).mono ?_); rintro e wy3 ⟨rfl, hby3⟩; have H3 := Lib.hid ((hby3.block _ (blk_lt H2.out)).trans H2.out); have hC3 := Below.step hC2 hby3; have hS3 := lay_at H3.out HSZ.out; have bx3 := Blk5.below bx2 hby3; obtain ⟨⟨r3x0, r3x1, r3x2, r3x3, r3x4⟩, ⟨r3xf0, r3xf1, r3xf2, r3xf3, r3xf4⟩, _⟩ := id bx3; clear hby3)
      | ((with_reducible refine (HGT3.out _).mono ?_); rintro e wy4 ⟨rfl, hby4⟩; have H4 := Lib.hid ((hby4.block _ (blk_lt H3.out)).trans H3.out); have hC4 := Below.step hC3 hby4; have hS4 := lay_at H4.out HSZ.out; have bx4 := Blk5.below bx3 hby4; obtain ⟨⟨r4x0, r4x1, r4x2, r4x3, r4x4⟩, ⟨r4xf0, r4xf1, r4xf2, r4xf3, r4xf4⟩, _⟩ := id bx4; clear hby4)
      | ((with_reducible refine (HGT4.out _).mono ?_); rintro e wy5 ⟨rfl, hby5⟩; have H5 := Lib.hid ((hby5.block _ (blk_lt H4.out)).trans H4.out); have hC5 := Below.step hC4 hby5; have hS5 := lay_at H5.out HSZ.out; have bx5 := Blk5.below bx4 hby5; obtain ⟨⟨r5x0, r5x1, r5x2, r5x3, r5x4⟩, ⟨r5xf0, r5xf1, r5xf2, r5xf3, r5xf4⟩, _⟩ := id bx5; clear hby5)
      | fail)
  have bz := bx5.set (.int .i64 (fld sht x 0)) (.int .i64 (fld sht x 1)) (.int .i64 (fld sht x 2)) (.int .i64 (fld sht x 3)) (.int .i64 (fld sht x 4))
  have hBz := below_set5b hC5 (Nat.le_refl _) (.int .i64 (fld sht x 0)) (.int .i64 (fld sht x 1)) (.int .i64 (fld sht x 2)) (.int .i64 (fld sht x 3)) (.int .i64 (fld sht x 4))
  generalize (((((wy5.setCell ⟨w.heap.size, 0, none⟩ (.int .i64 (fld sht x 0))).setCell ⟨w.heap.size, 1, none⟩ (.int .i64 (fld sht x 1))).setCell ⟨w.heap.size, 2, none⟩ (.int .i64 (fld sht x 2))).setCell ⟨w.heap.size, 3, none⟩ (.int .i64 (fld sht x 3))).setCell ⟨w.heap.size, 4, none⟩ (.int .i64 (fld sht x 4))) = wz at bz hBz ⊢
  obtain ⟨⟨z0, z1, z2, z3, z4⟩, ⟨zf0, zf1, zf2, zf3, zf4⟩, _⟩ := id bz
  go_wp2
  refine bodyPost_ret (by simp [results, Try.results72, go_sem, z0, z1, z2, z3, z4]; try rfl) rfl ⟨rfl, hBz⟩
set_option maxRecDepth 100000 in
set_option maxHeartbeats 4000000 in
theorem rwordT_ok (k s g l f : Int) (w : World) (hb : ∀ j, j < 5 → -9223372036854775808 ≤ (tz k s g l f) j ∧ (tz k s g l f) j ≤ 9223372036854775807) (hf : FitsT (tz k s g l f)) :
    Calls Try.prog 30 #[.agg #[.int .i64 k, .int .i64 s, .int .i64 g, .int .i64 l, .int .i64 f]] w fun e w' => e = .returned (.tuple #[.int .u64 (word sht (tz k s g l f) 5), .int .i64 0]) ∧ Below w.heap.size w w' := by
  have hR0 := row5_new (w.alloc (Obj.cells #[.int .i64 k, .int .i64 s, .int .i64 g, .int .i64 l, .int .i64 f] 44)) 3 4 1 16 16 24 wdt ⟨rfl, rfl, rfl, rfl, rfl⟩ (fun k hk => by match k, hk with | 0, _ | 1, _ | 2, _ | 3, _ | 4, _ => decide)
  have hR1 : Hid (RowI (((w.alloc (Obj.cells #[.int .i64 k, .int .i64 s, .int .i64 g, .int .i64 l, .int .i64 f] 44)).alloc (Obj.cells #[.int .i64 4, .int .i64 1, .int .i64 16, .int .i64 16, .int .i64 24] 3)).alloc (Obj.cells #[.int .i64 k, .int .i64 s, .int .i64 g, .int .i64 l, .int .i64 f] 3)) (some ⟨(w.alloc (Obj.cells #[.int .i64 k, .int .i64 s, .int .i64 g, .int .i64 l, .int .i64 f] 44)).heap.size, 0, none⟩) 5 wdt) := row_below hR0 (by go_grown)
  have hR2 := Lib.hid (row5_new ((w.alloc (Obj.cells #[.int .i64 k, .int .i64 s, .int .i64 g, .int .i64 l, .int .i64 f] 44)).alloc (Obj.cells #[.int .i64 4, .int .i64 1, .int .i64 16, .int .i64 16, .int .i64 24] 3)) 3 k s g l f (tz k s g l f) ⟨rfl, rfl, rfl, rfl, rfl⟩ hb)
  have HP := Lib.hid (show Calls Try.prog 57 #[.slice (some ⟨w.heap.size + 1, 0, none⟩) 5 5, .slice (some ⟨w.heap.size + 1 + 1, 0, none⟩) 5 5] (((w.alloc (Obj.cells #[.int .i64 k, .int .i64 s, .int .i64 g, .int .i64 l, .int .i64 f] 44)).alloc (Obj.cells #[.int .i64 4, .int .i64 1, .int .i64 16, .int .i64 16, .int .i64 24] 3)).alloc (Obj.cells #[.int .i64 k, .int .i64 s, .int .i64 g, .int .i64 l, .int .i64 f] 3)) fun e w' => e = .returned (.tuple #[.int .u64 (word sht (tz k s g l f) 5), .int .i64 0, .int .i64 0]) ∧ (((w.alloc (Obj.cells #[.int .i64 k, .int .i64 s, .int .i64 g, .int .i64 l, .int .i64 f] 44)).alloc (Obj.cells #[.int .i64 4, .int .i64 1, .int .i64 16, .int .i64 16, .int .i64 24] 3)).alloc (Obj.cells #[.int .i64 k, .int .i64 s, .int .i64 g, .int .i64 l, .int .i64 f] 3)) = w' from by
    have e1 := hR1.out
    have e2 := hR2.out
    simp only [World.size_alloc] at e1 e2
    have hR1 := Lib.hid e1
    have hR2 := Lib.hid e2
    exact rpack_ok sht_steps sht_wd _ _ 5 5 _ hR1.out hR2.out hf)
  clear hR0 hR1 hR2 hb hf
  go_enter Try.func30, Try.ntmps30
  go_wp2_with fail
  refine HP.out.mono ?_
  rintro e w' ⟨rfl, rfl⟩
  go_wp2
  go_ret2
  exact ⟨rfl, by go_grown⟩
end Go.Proofs.Ytmjkhefgpobinaa
