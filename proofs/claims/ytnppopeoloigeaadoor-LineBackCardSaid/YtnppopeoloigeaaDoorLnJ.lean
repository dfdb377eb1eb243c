/-
  What is asked as a line: what no program says; strconv.Itoa.
-/
import Derived.Test.YtnppopeoloigeaaDoorRows
import Derived.Test.YtnppopeoloigeaaDoorKit
import Derived.Test.YtnppopeoloigeaaDoorApp
import Derived.Test.YtnppopeoloigeaaDoorQuiet
import Derived.WalkKit
import Derived.ProofKit
import Derived.OpenShut
import Derived.ShutString
import Derived.Below
import Derived.Outline
import Derived.WalkLawsBesides
import Derived.WalkSpells
import Derived.Handy
import Derived.Deep.QuietTactic
import Derived.BigQuiet
import Derived.RegionTactic
import Derived.ChangeAlike
import Derived.Lib.Hide
import Derived.Laws.Rows
import Derived.Laws.Tables
import Derived.Laws.CopyOwn
import Derived.Laws.MakeOwn
import Derived.Laws.Entries
import Derived.Laws.OwnMore
import Derived.Deep.WholeRow
import Derived.Deep.LoopGhost
import Derived.Deep.AppendLies
import Derived.Deep.Draws
import Derived.Maps.AppendAt
import Derived.OwnWalk
import Derived.Deep.RegionHeld3
import Derived.Deep.Cut
import Derived.Deep.CutRange
import Derived.Deep.DeepCutAuto
import Derived.Deep.CutBlock
import Derived.Lib.SliceRun
import Derived.IntWalk
import Derived.Laws.Strings
import Derived.Lib.Bytealg
import Derived.Lib.Strings
import Derived.Laws.Externs
import Derived.Test.YtnppopeoloigeaaDoorLnH
import Derived.Test.YtnppopeoloigeaaDoorLnP
import Derived.Test.YtnppopeoloigeaaDoorShelf
import Derived.Lib.Join
import Derived.Lib.LaidTab
import Derived.Lib.ItoaNum
namespace Go.Proofs.YtnppopeoloigeaaDoor
open Go.ChangeShapes Go.WideShapes Go.ChangeAt Go.RowKit
theorem dcl_dec (n : Nat) : dcl n = Lib.decDigits n := by
  induction n using Nat.strongRecOn with
  | ind n ih =>
    by_cases h : n < 10
    · rw [dcl_small h, Lib.decDigits, dif_pos h]; rfl
    · rw [dcl_big h, Lib.decDigits, dif_neg h, ih _ (by omega)]; rfl
/-- The table of powers of ten, as strconv's own initialiser lays it. -/
structure Tb (w : World) : Prop where
  tab : Lib.TabIs Tryd.prog w "internal/strconv.uint64pow10" .u64 Lib.pow10Tab
  lt : 5 < w.heap.size
theorem Tb.below {w w' : World} (h : Tb w) (hb : Below w.heap.size w w') : Tb w' := by
  have hgn : Tryd.prog.globalNamed "internal/strconv.uint64pow10" = some 5 := by kernel_rfl
  refine ⟨?_, by have := hb.size; have := h.lt; omega⟩
  have ht := h.tab
  unfold Lib.TabIs World.var? at ht ⊢
  rw [hgn] at ht ⊢
  simp only [Option.bind_some] at ht ⊢
  rw [hb.block 5 h.lt]
  exact ht
theorem grow_bel (w : World) (k : Nat) (os : Array Obj) : Below w.heap.size w (Sort.grow (w.drewN k) os) :=
  ⟨rfl, rfl, rfl, by show w.heap.size ≤ (w.heap ++ os).size; rw [Array.size_append]; omega, fun k' hk' => by
    simp only [Sort.grow]
    rw [Array.getElem?_append_left (by exact hk')]
    rfl⟩
theorem itoa_is (n : Nat) (hn : n < 100000000) (w : World) (ht : Tb w) : Calls Tryd.prog 33 #[.int .i64 (n : Int)] w fun e w' => e = .returned (.string (Bs (dcl n))) ∧ Below w.heap.size w w' :=
  (Any.strconv_Itoa laysM171 (n : Int) (by omega) (by omega) w ht.tab).mono fun e w' ⟨h1, k, os, h2⟩ => by
    refine ⟨?_, by rw [h2]; exact grow_bel _ _ _⟩
    rw [h1, dcl_dec]
    have : Lib.itoa (n : Int) = Lib.decDigits n := by
      unfold Lib.itoa
      rw [if_neg (by omega), Int.toNat_natCast]
    rw [this]; rfl
/-- A word behind a verb, as it is printed. -/
def wd (b : Bool) (x : Int) : List UInt8 := if b = true then (sd x).data.toList else dcl x.toNat
/-- What is told wrong of an ask: which code, at which number. -/
def un (c : List Int) : List (Nat × Bool) → Nat → Option (Int × Int)
  | [], _ => none
  | (j, b) :: t, a => if b = true then un c t a else if c.getD j 0 < 0 ∨ 9999999 < c.getD j 0 then some (5, (a : Int)) else if a = 2 ∧ c.getD 4 0 ≠ 0 ∧ c.getD 4 0 ≠ 1 then some (1, 2) else un c t (a + 1)
/-- An ask's words, each with the blank ahead of it. -/
def ws (c : List Int) (L : List (Nat × Bool)) : List UInt8 := L.flatMap fun x => 32 :: wd x.2 (c.getD x.1 0)
theorem ws_app (c : List Int) (L M : List (Nat × Bool)) : ws c (L ++ M) = ws c L ++ ws c M := by simp [ws]
theorem ws_len (c : List Int) (hc : ∀ j, 0 ≤ c.getD j 0 → c.getD j 0 ≤ 9999999 ∨ True) (L : List (Nat × Bool)) (h : ∀ x ∈ L, (wd x.2 (c.getD x.1 0)).length ≤ 8) : (ws c L).length ≤ 9 * L.length := by
  induction L with
  | nil => simp [ws]
  | cons x t ih =>
    have h1 := h x (List.mem_cons_self ..)
    have h2 := ih (fun y hy => h y (List.mem_cons_of_mem _ hy))
    simp only [ws, List.flatMap_cons, List.length_append, List.length_cons] at h2 ⊢
    omega
/-- A line printed: which code, where; or the line. -/
inductive PR where
  | er (c p : Int)
  | ok (l : List UInt8)
def pt (c : List Int) : PR := if c.getD 0 0 < 1 ∨ 4 < c.getD 0 0 then .er 6 (-1) else match un c (tg (c.getD 0 0)) 0 with
  | some (e, p) => .er e p
  | none => .ok ((vb (c.getD 0 0).toNat).data.toList ++ ws c (tg (c.getD 0 0)))
theorem join_ws (v : List UInt8) (c : List Int) (L : List (Nat × Bool)) : Lib.join (v :: L.map fun x => wd x.2 (c.getD x.1 0)) [32] = v ++ ws c L := by
  rw [Lib.join_cons]
  congr 1
  induction L with
  | nil => rfl
  | cons x t ih =>
    simp only [Lib.joinTail, List.map_cons, List.flatten_cons, ws, List.flatMap_cons] at ih ⊢
    rw [ih]
    simp

end Go.Proofs.YtnppopeoloigeaaDoor
