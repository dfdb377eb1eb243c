/-
  How the document reads a line, and where the first event is that no line tells: no program.
-/
import Derived.Test.YtafnipgeeampjaaGreatDoorRows
import Derived.Test.YtafnipgeeampjaaGreatDoorKit
import Derived.Test.YtafnipgeeampjaaGreatDoorApp
import Derived.Test.YtafnipgeeampjaaGreatDoorQuiet
import Derived.WalkKit
import Derived.ProofKit
import Derived.OpenShut
import Derived.ShutString
import Derived.Below
import Derived.Outline
import Derived.WalkLawsBesides
import Derived.WalkSpells
import Derived.Handy
import Derived.Deep.QuietTactic
import Derived.BigQuiet
import Derived.RegionTactic
import Derived.ChangeAlike
import Derived.Lib.Hide
import Derived.Laws.Rows
import Derived.Laws.Tables
import Derived.Laws.CopyOwn
import Derived.Laws.MakeOwn
import Derived.Laws.Entries
import Derived.Laws.OwnMore
import Derived.Deep.WholeRow
import Derived.Deep.LoopGhost
import Derived.Deep.AppendLies
import Derived.Deep.Draws
import Derived.Maps.AppendAt
import Derived.OwnWalk
import Derived.Deep.RegionHeld3
import Derived.Deep.Cut
import Derived.Deep.CutRange
import Derived.Deep.DeepCutAuto
import Derived.Deep.CutBlock
import Derived.Lib.SliceRun
import Derived.IntWalk
import Derived.Laws.Strings
import Derived.Lib.Bytealg
import Derived.Lib.Strings
import Derived.Laws.Externs
import Derived.Test.YtafnipgeeampjaaGreatDoorLnB
import Derived.Test.YtafnipgeeampjaaGreatDoorLnD
import Derived.Test.YtafnipgeeampjaaGreatDoorLnG
import Derived.Lib.SplitLaws
import Derived.Shelf.Strings.Split
import Derived.Test.YtafnipgeeampjaaGreatDoorSrN
import Derived.Lib.Join
namespace Go.Proofs.YtafnipgeeampjaaGreatDoor
open Go.ChangeShapes Go.WideShapes Go.ChangeAt Go.RowKit
theorem drop_cut (a r : List UInt8) : (a ++ 32 :: r).drop (a.length + 1) = r := by
  rw [show a ++ 32 :: r = (a ++ [32]) ++ r by simp, List.drop_left' (by simp)]
/-- The words of 'say': too few. -/
theorem say_few (s : List UInt8) (h : (wl s 0).length < 3) : sayM (cutb s).2.1 = .er 13 4 := by
  obtain ⟨_, _, h3⟩ := cutb_join s
  rw [wl_eq s 0] at h
  rcases hc : (cutb s).2.2 with _ | _
  · rw [h3 hc]; rfl
  · rw [hc, if_pos rfl, wl_eq (cutb s).2.1] at h
    rcases hd : (cutb (cutb s).2.1).2.2 with _ | _
    · unfold sayM
      rw [hd, if_neg (by decide)]
    · rw [hd, if_pos rfl] at h
      have := wl_pos (cutb (cutb s).2.1).2.1 (0 + (cutb s).1.length + 1 + (cutb (cutb s).2.1).1.length + 1)
      simp only [List.length_cons] at h
      omega
/-- Enough. -/
theorem say_more (s : List UInt8) (h : 3 ≤ (wl s 0).length) : ∃ x t, wl s 0 = ((cutb s).1, 0) :: ((cutb (cutb s).2.1).1, (cutb s).1.length + 1) :: (x, (cutb s).1.length + 1 + (cutb (cutb s).2.1).1.length + 1) :: t ∧ (cutb (cutb s).2.1).2.2 = true ∧ s.drop ((cutb s).1.length + 1 + (cutb (cutb s).2.1).1.length + 1) = (cutb (cutb s).2.1).2.1 ∧ (cutb s).1.length + 1 + (cutb (cutb s).2.1).1.length + 1 ≤ s.length := by
  obtain ⟨h1, _, h3⟩ := cutb_join s
  obtain ⟨g1, _, _⟩ := cutb_join (cutb s).2.1
  rw [wl_eq s 0] at h ⊢
  rcases hc : (cutb s).2.2 with _ | _
  · rw [hc, if_neg (by decide)] at h
    simp at h
  · rw [hc, if_pos rfl, wl_eq (cutb s).2.1] at h
    rw [if_pos rfl, wl_eq (cutb s).2.1]
    rcases hd : (cutb (cutb s).2.1).2.2 with _ | _
    · rw [hd, if_neg (by decide)] at h
      simp at h
    · rw [if_pos rfl, wl_eq (cutb (cutb s).2.1).2.1]
      rw [hc] at h1
      rw [hd] at g1
      simp only [tx, if_true] at h1 g1
      refine ⟨_, _, by rw [Nat.zero_add], rfl, ?_, ?_⟩
      · have e : s.drop ((cutb s).1.length + 1) = (cutb s).2.1 := by
          have := drop_cut (cutb s).1 (cutb s).2.1
          rwa [← h1] at this
        rw [show (cutb s).1.length + 1 + (cutb (cutb s).2.1).1.length + 1 = (cutb s).1.length + 1 + ((cutb (cutb s).2.1).1.length + 1) by omega, ← List.drop_drop, e]
        have := drop_cut (cutb (cutb s).2.1).1 (cutb (cutb s).2.1).2.1
        rwa [← g1] at this
      · have e1 := congrArg List.length h1
        have e2 := congrArg List.length g1
        simp only [List.length_append, List.length_cons] at e1 e2
        omega
/-- The first word and the others. -/
theorem wl_head (s : List UInt8) : ∃ t, wl s 0 = ((cutb s).1, 0) :: t ∧ t.map Prod.fst = (ws s).tail := by
  have e := wl_ws s 0
  rw [wl_eq s 0] at e
  rw [wl_eq s 0]
  refine ⟨_, rfl, ?_⟩
  rw [← e, List.map_cons, List.tail_cons]
theorem wl_tail (s : List UInt8) : (wl s 0).tail.map Prod.fst = (ws s).tail := by
  rw [← wl_ws s 0, List.map_tail]
/-- The document reads all words behind the first. -/
theorem verb_words (s : List UInt8) : wordM (cutb s).1 (ws (cutb s).2.1) = if (wl s 0).length = 1 then .er 13 ((cutb s).1.length + 1) else wordM (cutb s).1 (ws s).tail := by
  have hl : (wl s 0).length = (ws s).length := by rw [← wl_ws s 0, List.length_map]
  have hp := ws_pos s
  by_cases h : (wl s 0).length = 1
  · rw [if_pos h]
    have ht : (ws s).tail = [] := by
      apply List.eq_nil_of_length_eq_zero
      rw [List.length_tail]; omega
    rw [(lineM_bare s ht).1]
    rfl
  · rw [if_neg h, lineM_tail s (by rw [List.length_tail]; omega)]
theorem numsM_snoc : ∀ (A : List (List UInt8)) (w : List UInt8) (a : List Int) (x : Int), numsM A = some a → inum w = some x → numsM (A ++ [w]) = some (a ++ [x])
  | [], w, a, x, h, g => by
    simp only [numsM, Option.some.injEq] at h
    subst h
    simp [numsM, g]
  | v :: A, w, a, x, h, g => by
    simp only [numsM, List.cons_append] at h ⊢
    rcases hv : inum v with _ | y
    · rw [hv] at h; cases h
    · rw [hv] at h
      simp only at h ⊢
      rcases hA : numsM A with _ | b
      · rw [hA] at h; cases h
      · rw [hA] at h
        rw [numsM_snoc A w b x hA g]
        simp at h ⊢
        rw [← h]; rfl
theorem numsM_none : ∀ (A : List (List UInt8)) (w : List UInt8), w ∈ A → inum w = none → numsM A = none
  | [], w, h, _ => by cases h
  | v :: A, w, h, g => by
    simp only [numsM]
    rcases hv : inum v with _ | y
    · rfl
    · rcases List.mem_cons.1 h with rfl | h
      · rw [g] at hv; cases hv
      · rw [numsM_none A w h g]; rfl
theorem numsM_len : ∀ (A : List (List UInt8)) (a : List Int), numsM A = some a → a.length = A.length
  | [], a, h => by simp only [numsM, Option.some.injEq] at h; subst h; rfl
  | v :: A, a, h => by
    simp only [numsM] at h
    rcases hv : inum v with _ | y
    · rw [hv] at h; cases h
    · rw [hv] at h
      rcases hA : numsM A with _ | b
      · rw [hA] at h; cases h
      · rw [hA] at h
        simp at h
        rw [← h, List.length_cons, List.length_cons, numsM_len A b hA]
theorem inum_bd {w : List UInt8} {x : Int} (h : inum w = some x) : -9999999 ≤ x ∧ x ≤ 9999999 := by
  unfold inum at h
  split at h
  · split at h
    · rename_i g
      have := (digs_dec g.1).2.2.2
      simp at h
      omega
    · cases h
  · split at h
    · rename_i g
      have := (digs_dec g).2.2.2
      simp at h
      omega
    · cases h
theorem numsM_bd : ∀ (A : List (List UInt8)) (a : List Int), numsM A = some a → ∀ x ∈ a, -9999999 ≤ x ∧ x ≤ 9999999
  | [], a, h, x, hx => by simp only [numsM, Option.some.injEq] at h; subst h; cases hx
  | v :: A, a, h, x, hx => by
    simp only [numsM] at h
    rcases hv : inum v with _ | y
    · rw [hv] at h; cases h
    · rw [hv] at h
      rcases hA : numsM A with _ | b
      · rw [hA] at h; cases h
      · rw [hA] at h
        simp at h
        subst h
        rcases List.mem_cons.1 hx with rfl | hx
        · exact inum_bd hv
        · exact numsM_bd A b hA x hx
/-- What stands of lines: printed so far and still to print. -/
theorem linesM_more : ∀ (f g : Nat) (l : List Sev), l.length ≤ f → l.length ≤ g → linesM f l = linesM g l
  | 0, 0, _, _, _ => rfl
  | 0, g + 1, [], _, _ => rfl
  | 0, _ + 1, _ :: _, h, _ => by simp at h
  | f + 1, 0, [], _, _ => rfl
  | f + 1, 0, _ :: _, _, h => by simp at h
  | f + 1, g + 1, [], _, _ => rfl
  | f + 1, g + 1, e :: t, h, h' => by
    simp only [linesM, List.length_cons] at h h' ⊢
    rw [linesM_more f g _ (by rw [List.length_drop]; omega) (by rw [List.length_drop]; omega)]
def lns (l : List Sev) : List (List UInt8) := linesM l.length l
theorem lns_nil : lns [] = [] := rfl
theorem lns_cons (e : Sev) (t : List Sev) : lns (e :: t) = txtM e (timesM e t) :: lns (t.drop (timesM e t - 1)) := by
  unfold lns
  rw [List.length_cons]
  simp only [linesM]
  rw [linesM_more _ _ _ (by rw [List.length_drop]; omega) (Nat.le_refl _)]
theorem lns_at (l : List Sev) (i : Nat) (e : Sev) (h : l[i]? = some e) : lns (l.drop i) = txtM e (timesM e (l.drop (i + 1))) :: lns (l.drop (i + timesM e (l.drop (i + 1)))) := by
  obtain ⟨hi, he⟩ := List.getElem?_eq_some_iff.1 h
  have hb := (timesM_bd e (l.drop (i + 1))).1
  rw [List.drop_eq_getElem_cons hi, he, lns_cons, List.drop_drop]
  rw [show i + 1 + (timesM e (l.drop (i + 1)) - 1) = i + timesM e (l.drop (i + 1)) by omega]
theorem lns_len : ∀ (n : Nat) (l : List Sev), l.length ≤ n → (lns l).length ≤ l.length
  | 0, [], _ => by simp [lns_nil]
  | 0, _ :: _, h => by simp at h
  | n + 1, [], _ => by simp [lns_nil]
  | n + 1, e :: t, h => by
    rw [lns_cons, List.length_cons, List.length_cons]
    have := lns_len n (t.drop (timesM e t - 1)) (by rw [List.length_drop]; simp only [List.length_cons] at h; omega)
    rw [List.length_drop] at this
    omega
theorem parM_lns (l : List Sev) (h : ∀ e ∈ l, tellM e = true) : parM 0 (lns l) [] = .ok l := by
  have := parM_lines l.length l 0 [] (Nat.le_refl _) h
  simpa [lns] using this
/-- The run's length, one step at a time. -/
theorem sameM_step : ∀ (f n : Nat) (e : Sev) (l : List Sev), n ≤ sameM e f l → (n < f ∧ l[n]? = some e → n + 1 ≤ sameM e f l) ∧ (¬ (n < f ∧ l[n]? = some e) → sameM e f l = n)
  | 0, n, e, l, h => by
    simp only [sameM] at h ⊢
    exact ⟨fun g => by omega, fun _ => by omega⟩
  | f + 1, n, e, [], h => by
    simp only [sameM] at h ⊢
    exact ⟨fun g => by simp at g, fun _ => by omega⟩
  | f + 1, 0, e, b :: t, h => by
    simp only [sameM]
    refine ⟨fun g => ?_, fun g => ?_⟩
    · rw [if_pos (by simpa using g.2)]; omega
    · rw [if_neg (fun q => g ⟨by omega, by simpa using q⟩)]
  | f + 1, n + 1, e, b :: t, h => by
    simp only [sameM] at h ⊢
    by_cases hb : b = e
    · rw [if_pos hb] at h ⊢
      obtain ⟨h1, h2⟩ := sameM_step f n e t (by omega)
      refine ⟨fun g => ?_, fun g => ?_⟩
      · have := h1 ⟨by omega, by simpa using g.2⟩
        omega
      · rw [h2 (fun q => g ⟨by omega, by simpa using q.2⟩)]
    · rw [if_neg hb] at h
      omega
/-- The words are no longer than the line. -/
theorem cutb_size (l : List UInt8) : (cutb l).1.length ≤ l.length ∧ (cutb l).2.1.length ≤ l.length := by
  obtain ⟨h1, _, h3⟩ := cutb_join l
  have e := congrArg List.length h1
  rcases hc : (cutb l).2.2 with _ | _
  · rw [h3 hc]
    rw [hc] at e
    simp [tx] at e ⊢
    omega
  · rw [hc] at e
    simp [tx] at e
    omega
theorem jt_mem : ∀ (L : List (List UInt8)) (w : List UInt8), w ∈ L → w.length + 1 ≤ (jt L).length ∧ L.length ≤ (jt L).length
  | [], w, h => by cases h
  | x :: L, w, h => by
    rw [jt_cons, List.length_cons, List.length_append, List.length_cons]
    rcases List.mem_cons.1 h with rfl | h
    · rcases L with _ | ⟨y, L⟩
      · simp
      · have := jt_mem (y :: L) y (List.mem_cons_self ..)
        omega
    · have := jt_mem L w h
      omega
theorem ws_size (l w : List UInt8) (h : w ∈ ws l) : w.length ≤ l.length ∧ (ws l).length ≤ l.length + 1 := by
  have e := ws_jl l
  rcases hw : ws l with _ | ⟨x, L⟩
  · rw [hw] at h; cases h
  · rw [hw] at h e
    have := jt_mem (x :: L) w h
    rw [jl_cons] at e
    have e2 := congrArg List.length e
    rw [jt_cons, List.length_cons] at this
    omega

end Go.Proofs.YtafnipgeeampjaaGreatDoor
