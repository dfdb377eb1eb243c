/-
  The document's Parse: what no program says.
-/
import Derived.Test.YtnppopeoloigeaaDoorRows
import Derived.Test.YtnppopeoloigeaaDoorKit
import Derived.Test.YtnppopeoloigeaaDoorApp
import Derived.Test.YtnppopeoloigeaaDoorQuiet
import Derived.WalkKit
import Derived.ProofKit
import Derived.OpenShut
import Derived.ShutString
import Derived.Below
import Derived.Outline
import Derived.WalkLawsBesides
import Derived.WalkSpells
import Derived.Handy
import Derived.Deep.QuietTactic
import Derived.BigQuiet
import Derived.RegionTactic
import Derived.ChangeAlike
import Derived.Lib.Hide
import Derived.Laws.Rows
import Derived.Laws.Tables
import Derived.Laws.CopyOwn
import Derived.Laws.MakeOwn
import Derived.Laws.Entries
import Derived.Laws.OwnMore
import Derived.Deep.WholeRow
import Derived.Deep.LoopGhost
import Derived.Deep.AppendLies
import Derived.Deep.Draws
import Derived.Maps.AppendAt
import Derived.OwnWalk
import Derived.Deep.RegionHeld3
import Derived.Deep.Cut
import Derived.Deep.CutRange
import Derived.Deep.DeepCutAuto
import Derived.Deep.CutBlock
import Derived.Lib.SliceRun
import Derived.IntWalk
import Derived.Laws.Strings
import Derived.Lib.Bytealg
import Derived.Lib.Strings
import Derived.Laws.Externs
import Derived.Test.YtnppopeoloigeaaDoorLnT
import Derived.Test.YtnppopeoloigeaaDoorLnU
import Derived.Test.YtnppopeoloigeaaDoorLnP
import Derived.Deep.Slices
import Derived.Deep.Fields
import Derived.ChangeSame
import Derived.ChangeArms
import Derived.Deep.MidRow
import Derived.Deep.Upon
namespace Go.Proofs.YtnppopeoloigeaaDoor
open Go.ChangeShapes Go.WideShapes Go.ChangeAt Go.RowKit
theorem results_three {P : Program} {fn : Func} {p q q2 : Tmp} {ty : TypeId} (h : fn.results = #[.cell p ty, .tmp q, .tmp q2]) (tmps : Array Value) (w : World) (g : Nat) (l : List Value) (d : TypeDesc) (v v2 : Value)
    (hp : tmps.getD p undef = .pointer (some ⟨g, 0, none⟩)) (hq : tmps.getD q undef = v) (hq2 : tmps.getD q2 undef = v2) (hg : Bl g l w)
    (hu : P.underlying ty = some d) (hd : (match d with | .struct _ | .array _ _ => true | _ => false) = true) (hi : (P.info? ty).map (·.size) = some l.length) :
    (results fn tmps).run P w = .ok (.tuple #[.agg l.toArray, v, v2]) w := by
  obtain ⟨t, hh⟩ := hg
  have hp' : tmps[p]?.getD undef = .pointer (some ⟨g, 0, none⟩) := by simpa using hp
  have hq' : tmps[q]?.getD undef = v := by simpa using hq
  have hq2' : tmps[q2]?.getD undef = v2 := by simpa using hq2
  have hrun := run_loadVar_row w g t ty l.toArray (0, 0) d hh hu hd (by simpa using hi)
  simp [results, h, hp', hq', hq2', asAddr, hrun, Result.andThen]
/-- What the document's Parse hands back. -/
def RPp (r : LR) (w : World) (e : Ending) (w' : World) : Prop := match r with
  | .er c p => e = .returned (.tuple #[.agg (List.toArray [.int .i64 0, .int .i64 0, .int .i64 0, .int .i64 0, .int .i64 0, .int .i64 0, .int .i64 0, .int .i64 0, .int .i64 0]), .int .i64 c, .int .i64 p]) ∧ Below w.heap.size w w'
  | .ok cs => e = .returned (.tuple #[.agg (cs.map (Value.int .i64)).toArray, .int .i64 0, .int .i64 0]) ∧ Below w.heap.size w w'
/-- Numbers, each at its place. -/
def sa (L : List (Nat × Bool)) (cs : List Int) (ns : List Int) : List Int := (L.zip ns).foldl (fun c x => c.set x.1.1 x.2) cs
theorem sa_snoc {L : List (Nat × Bool)} {i j : Nat} {b : Bool} (cs ns : List Int) (v : Int) (hj : L[i]? = some (j, b)) (hn : ns.length = i) : sa (L.take (i + 1)) cs (ns ++ [v]) = (sa (L.take i) cs ns).set j v := by
  have hi : i < L.length := by
    rcases Nat.lt_or_ge i L.length with h | h
    · exact h
    · rw [List.getElem?_eq_none h] at hj; cases hj
  have e : L.take (i + 1) = L.take i ++ [(j, b)] := by
    rw [List.take_add_one, hj]; rfl
  unfold sa
  rw [e, List.zip_append (by rw [List.length_take, hn]; omega), List.foldl_append]
  rfl
/-- The words ahead: what is left of the line, where it begins. -/
def ahead (n : Nat) (W : List Wo) (i : Nat) (r : List UInt8) (m : Bool) : Prop := W.length = i + 1 + (if m = true then (wl r (n - r.length)).length else 0) ∧ W.drop (i + 1) = (if m = true then wl r (n - r.length) else []) ∧ r.length ≤ n
theorem ahead_at {n i : Nat} {W : List Wo} {r : List UInt8} (h : ahead n W i r true) : i + 1 < W.length ∧ W[i + 1]? = some ((cutb r).1, n - r.length) := by
  obtain ⟨h1, h2, h3⟩ := h
  have hp := wl_pos r (n - r.length)
  simp only [if_true] at h1 h2
  refine ⟨by omega, ?_⟩
  have h4 : (W.drop (i + 1))[0]? = some ((cutb r).1, n - r.length) := by rw [h2, wl_eq]; rfl
  rw [List.getElem?_drop] at h4
  exact h4
theorem ahead_no {n i : Nat} {W : List Wo} {r : List UInt8} (h : ahead n W i r false) : W.length = i + 1 := by
  have := h.1
  simpa using this
theorem ahead_len {n i : Nat} {W : List Wo} {r : List UInt8} (h : ahead n W i r true) : i + 1 < W.length := (ahead_at h).1
theorem cutb_sum (r : List UInt8) (h : (cutb r).2.2 = true) : r.length = (cutb r).1.length + 1 + (cutb r).2.1.length := by
  have e := congrArg List.length (cutb_join r).1
  rw [h] at e
  simp [tx] at e
  omega
theorem ahead_cut (r : List UInt8) (n f i : Nat) (W : List Wo) (hn : f + r.length = n) (h : W.drop i = wl r f) : ahead n W i (cutb r).2.1 (cutb r).2.2 := by
  have hl := (cutb_len r).2
  have e : W.drop i = ((cutb r).1, f) :: (if (cutb r).2.2 = true then wl (cutb r).2.1 (f + (cutb r).1.length + 1) else []) := by rw [h, wl_eq]
  have e2 : W.drop (i + 1) = (if (cutb r).2.2 = true then wl (cutb r).2.1 (f + (cutb r).1.length + 1) else []) := by
    have := congrArg (List.drop 1) e
    rw [List.drop_drop] at this
    simpa using this
  have e3 : (if (cutb r).2.2 = true then wl (cutb r).2.1 (f + (cutb r).1.length + 1) else []) = (if (cutb r).2.2 = true then wl (cutb r).2.1 (n - (cutb r).2.1.length) else []) := by
    split
    · rename_i hm
      have := cutb_sum r hm
      rw [show f + (cutb r).1.length + 1 = n - (cutb r).2.1.length by omega]
    · rfl
  refine ⟨?_, e2.trans e3, by omega⟩
  have hw : 0 < (W.drop i).length := by rw [e]; simp
  have h5 := congrArg List.length (e2.trans e3)
  rw [List.length_drop] at h5 hw
  split
  · rename_i hm
    rw [if_pos hm] at h5
    have := wl_pos (cutb r).2.1 (n - (cutb r).2.1.length)
    omega
  · rename_i hm
    rw [if_neg hm] at h5
    simp at h5
    omega
theorem ahead_start (l : List UInt8) : ahead l.length (wl l 0) 0 (cutb l).2.1 (cutb l).2.2 := ahead_cut l l.length 0 0 _ (by omega) (by simp)
theorem ahead_step {n i : Nat} {W : List Wo} {r : List UInt8} (h : ahead n W i r true) : ahead n W (i + 1) (cutb r).2.1 (cutb r).2.2 := by
  refine ahead_cut r n (n - r.length) (i + 1) W (by have := h.2.2; omega) ?_
  have := h.2.1
  simpa using this
/-- The letters of a shape say which words are sides. -/
theorem wt_is (k : Int) : (wt k).size = (tg k).length ∧ ∀ i j b, (tg k)[i]? = some (j, b) → (wt k).data.toList.getD i 0 = if b = true then 115 else 110 := by
  unfold wt tg
  by_cases h1 : k = 1
  · rw [if_pos h1, if_pos h1]
    refine ⟨rfl, fun i j b h => ?_⟩
    have hi : i < 8 := by
      rcases Nat.lt_or_ge i 8 with h | h2
      · exact h
      · rw [List.getElem?_eq_none (by simpa using h2)] at h; cases h
    rcases (show i = 0 ∨ i = 1 ∨ i = 2 ∨ i = 3 ∨ i = 4 ∨ i = 5 ∨ i = 6 ∨ i = 7 by omega) with rfl | rfl | rfl | rfl | rfl | rfl | rfl | rfl <;> (simp at h; obtain ⟨rfl, rfl⟩ := h; rfl)
  · rw [if_neg h1, if_neg h1]
    by_cases h2 : k = 2
    · rw [if_pos h2, if_pos h2]
      refine ⟨rfl, fun i j b h => ?_⟩
      have hi : i < 2 := by
        rcases Nat.lt_or_ge i 2 with h | h2
        · exact h
        · rw [List.getElem?_eq_none (by simpa using h2)] at h; cases h
      rcases (show i = 0 ∨ i = 1 by omega) with rfl | rfl <;> (simp at h; obtain ⟨rfl, rfl⟩ := h; rfl)
    · rw [if_neg h2, if_neg h2]
      by_cases h3 : k = 3
      · rw [if_pos h3, if_pos h3]
        refine ⟨rfl, fun i j b h => ?_⟩
        have hi : i < 1 := by
          rcases Nat.lt_or_ge i 1 with h | h2
          · exact h
          · rw [List.getElem?_eq_none (by simpa using h2)] at h; cases h
        have : i = 0 := by omega
        subst this
        simp at h; obtain ⟨rfl, rfl⟩ := h; rfl
      · rw [if_neg h3, if_neg h3]
        exact ⟨rfl, fun i j b h => by simp at h⟩
theorem rdv_side (s : ByteArray) : (s.toList == [98, 117, 121]) = true ∧ rdv true s = (0, 0) ∨ (s.toList == [98, 117, 121]) = false ∧ (s.toList == [115, 101, 108, 108]) = true ∧ rdv true s = (0, 1) ∨ (s.toList == [98, 117, 121]) = false ∧ (s.toList == [115, 101, 108, 108]) = false ∧ rdv true s = (10, 0) := by
  have e0 : (sd 0).toList = [98, 117, 121] := by kernel_rfl
  have e1 : (sd 1).toList = [115, 101, 108, 108] := by kernel_rfl
  unfold rdv
  simp only [if_true]
  rw [e0, e1, beq_flip [98, 117, 121], beq_flip [115, 101, 108, 108]]
  rcases h0 : (s.toList == [98, 117, 121]) with _ | _
  · rcases h1 : (s.toList == [115, 101, 108, 108]) with _ | _
    · exact .inr (.inr ⟨rfl, rfl, rfl⟩)
    · exact .inr (.inl ⟨rfl, rfl, rfl⟩)
  · exact .inl ⟨rfl, rfl⟩
theorem rdv_numb (s : ByteArray) : rdv false s = if digs s.data.toList = true then (0, (nv s.data.toList : Int)) else (13, 0) := by
  unfold rdv
  simp
theorem stp_len (n : Int) : ∀ (L : List (Nat × Bool)) (cs : List Int) (r : List UInt8) (m : Bool) (c' : List Int) (r' : List UInt8) (m' : Bool), stp n L cs r m = .go c' r' m' → c'.length = cs.length
  | [], cs, r, m, c', r', m', h => by
    simp only [stp] at h
    injection h with h1
    rw [h1]
  | (j, b) :: t, cs, r, m, c', r', m', h => by
    rw [stp_cons] at h
    split at h
    · cases h
    · split at h
      · have ih := stp_len n t _ _ _ c' r' m' h
        rw [ih, List.length_set]
      · cases h

end Go.Proofs.YtnppopeoloigeaaDoor
