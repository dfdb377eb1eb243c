/-
  A row of numbers told.
-/
import Derived.Test.YtinciphhoieonaaGreatDoorRows
import Derived.Test.YtinciphhoieonaaGreatDoorKit
import Derived.Test.YtinciphhoieonaaGreatDoorApp
import Derived.Test.YtinciphhoieonaaGreatDoorQuiet
import Derived.WalkKit
import Derived.ProofKit
import Derived.OpenShut
import Derived.ShutString
import Derived.Below
import Derived.Outline
import Derived.WalkLawsBesides
import Derived.WalkSpells
import Derived.Handy
import Derived.Deep.QuietTactic
import Derived.BigQuiet
import Derived.RegionTactic
import Derived.ChangeAlike
import Derived.Lib.Hide
import Derived.Laws.Rows
import Derived.Laws.Tables
import Derived.Laws.CopyOwn
import Derived.Laws.MakeOwn
import Derived.Laws.Entries
import Derived.Laws.OwnMore
import Derived.Deep.WholeRow
import Derived.Deep.LoopGhost
import Derived.Deep.AppendLies
import Derived.Deep.Draws
import Derived.Maps.AppendAt
import Derived.OwnWalk
import Derived.Deep.RegionHeld3
import Derived.Deep.Cut
import Derived.Deep.CutRange
import Derived.Deep.DeepCutAuto
import Derived.Deep.CutBlock
import Derived.Lib.SliceRun
import Derived.IntWalk
import Derived.Laws.Strings
import Derived.Lib.Bytealg
import Derived.Lib.Strings
import Derived.Laws.Externs
import Derived.Test.YtinciphhoieonaaGreatDoorAnP
namespace Go.Proofs.YtinciphhoieonaaGreatDoor
open Go.ChangeShapes Go.WideShapes Go.ChangeAt Go.RowKit
/-- The words told so far, in a run that keeps what stands below their cell. -/
def At (WB : Nat) (w2 : World) (xs : List (List UInt8)) (wx : World) : Prop := ∃ A c, Wv WB (.slice A xs.length c) xs wx ∧ Below WB w2 wx
theorem At.of {WB : Nat} {w2 : World} {xs : List (List UInt8)} {wx : World} {v : Value} (h : Wv WB v xs wx) (hb : Below WB w2 wx) : At WB w2 xs wx := by
  obtain ⟨A, c, rfl⟩ := oshape h.2
  exact ⟨A, c, h, hb⟩
theorem At.lt {WB : Nat} {w2 : World} {xs : List (List UInt8)} {wx : World} (h : At WB w2 xs wx) : WB < wx.heap.size := by
  obtain ⟨A, c, h, _⟩ := h
  exact h.1.lt
theorem At.bel {WB : Nat} {w2 : World} {xs : List (List UInt8)} {wx : World} (h : At WB w2 xs wx) : Below WB w2 wx := by
  obtain ⟨A, c, _, h⟩ := h
  exact h
theorem At.below {WB : Nat} {w2 : World} {xs : List (List UInt8)} {wx wy : World} (h : At WB w2 xs wx) (hb : Below wx.heap.size wx wy) : At WB w2 xs wy := by
  have hl := h.lt
  obtain ⟨A, c, h1, h2⟩ := h
  exact ⟨A, c, h1.below hb, stepB h2 hb (Nat.le_of_lt hl)⟩
theorem Bl.keep {B C : Nat} {l : List Value} {w w' : World} (h : Bl B l w) (hb : Below C w w') (hB : B < C) : Bl B l w' := by
  obtain ⟨t, ht⟩ := h
  exact ⟨t, (hb.block B hB).trans ht⟩
/-- A row of fresh numbers is told. -/
theorem put_at (WB n : Nat) (w2 wx : World) (xs : List (List UInt8)) (ns : List Int) (hA : At WB w2 xs wx) (hn : ns.length = n) (hn2 : n ≤ 3) (hx : xs.length ≤ 5000) (hall : ∀ x ∈ ns, 0 ≤ x ∧ x ≤ 9223372036854775807) (h1 : 2 < WB) (ht : Tb w2) : Calls Tryz.prog 20 #[.slice (some ⟨wx.heap.size, 0, none⟩) n n, .pointer (some ⟨WB, 0, none⟩)] (wx.alloc (.cells (ns.map (Value.int .i64)).toArray 3)) fun e w' => e = .returned (.tuple #[]) ∧ At WB w2 (xs ++ ns.map fun n => dcl n.toNat) w' := by
  have g : Below wx.heap.size wx (wx.alloc (.cells (ns.map (Value.int .i64)).toArray 3)) := by go_grown
  have hl := hA.lt
  obtain ⟨A, c, hW, hB⟩ := hA
  have hB2 := stepB hB g (Nat.le_of_lt hl)
  refine (put_is WB wx.heap.size n n _ xs ns hn hn2 hx hall _ (hW.below g) (Bl.new wx (ns.map (Value.int .i64)) 3) (by omega) (fun b e => by have := (hW.own_ne b e).2; omega) h1 (ht.keep hB2 h1)).mono ?_
  rintro e w' ⟨rfl, ⟨v', hv'⟩, hb'⟩
  exact ⟨rfl, At.of hv' (hB2.trans hb')⟩
theorem put_1 (WB : Nat) (w2 wx : World) (xs : List (List UInt8)) (a : Int) (hA : At WB w2 xs wx) (hx : xs.length ≤ 5000) (ha : 0 ≤ a ∧ a ≤ 9223372036854775807) (h1 : 2 < WB) (ht : Tb w2) : Calls Tryz.prog 20 #[.slice (some ⟨wx.heap.size, 0, none⟩) 1 1, .pointer (some ⟨WB, 0, none⟩)] (wx.alloc (.cells #[.int .i64 a] 3)) fun e w' => e = .returned (.tuple #[]) ∧ At WB w2 (xs ++ [dcl a.toNat]) w' :=
  put_at WB 1 w2 wx xs [a] hA rfl (by decide) hx (by intro x hx; simp only [List.mem_cons, List.not_mem_nil, or_false] at hx; subst hx; exact ha) h1 ht
theorem put_2 (WB : Nat) (w2 wx : World) (xs : List (List UInt8)) (a b : Int) (hA : At WB w2 xs wx) (hx : xs.length ≤ 5000) (ha : 0 ≤ a ∧ a ≤ 9223372036854775807) (hb : 0 ≤ b ∧ b ≤ 9223372036854775807) (h1 : 2 < WB) (ht : Tb w2) : Calls Tryz.prog 20 #[.slice (some ⟨wx.heap.size, 0, none⟩) 2 2, .pointer (some ⟨WB, 0, none⟩)] (wx.alloc (.cells #[.int .i64 a, .int .i64 b] 3)) fun e w' => e = .returned (.tuple #[]) ∧ At WB w2 (xs ++ [dcl a.toNat, dcl b.toNat]) w' :=
  put_at WB 2 w2 wx xs [a, b] hA rfl (by decide) hx (by intro x hx; simp only [List.mem_cons, List.not_mem_nil, or_false] at hx; rcases hx with rfl | rfl; exact ha; exact hb) h1 ht
theorem put_3 (WB : Nat) (w2 wx : World) (xs : List (List UInt8)) (a b c : Int) (hA : At WB w2 xs wx) (hx : xs.length ≤ 5000) (ha : 0 ≤ a ∧ a ≤ 9223372036854775807) (hb : 0 ≤ b ∧ b ≤ 9223372036854775807) (hc : 0 ≤ c ∧ c ≤ 9223372036854775807) (h1 : 2 < WB) (ht : Tb w2) : Calls Tryz.prog 20 #[.slice (some ⟨wx.heap.size, 0, none⟩) 3 3, .pointer (some ⟨WB, 0, none⟩)] (wx.alloc (.cells #[.int .i64 a, .int .i64 b, .int .i64 c] 3)) fun e w' => e = .returned (.tuple #[]) ∧ At WB w2 (xs ++ [dcl a.toNat, dcl b.toNat, dcl c.toNat]) w' :=
  put_at WB 3 w2 wx xs [a, b, c] hA rfl (by decide) hx (by intro x hx; simp only [List.mem_cons, List.not_mem_nil, or_false] at hx; rcases hx with rfl | rfl | rfl; exact ha; exact hb; exact hc) h1 ht
/-- A word more, as the walk leaves it. -/
theorem told_at {WB RB : Nat} {cs : List Value} {v u : Value} {xs : List (List UInt8)} {x : List UInt8} {w2 w w' : World} (hW : Wv WB v xs w) (hB : Below WB w2 w) (hR : Bl RB cs w2) (hlt : RB < WB) (ho : w'.ownsRow (WB + 1) 9 1 u (xs ++ [x]).length ((xs ++ [x]).map fun l => .string (Bs l))) (hg : w.grownBy w' v.ownBlock) (hb : u.ownBlock = v.ownBlock ∨ u.ownBlock = some w.heap.size) : At WB w2 (xs ++ [x]) (w'.setCell ⟨WB, 0, none⟩ u) := by
  have ht := told hW ho hg (hb.elim (fun h => Or.inl h.symm) Or.inr) (hR.keep hB hlt) (by omega) (fun b e => by have := (hW.own_ne b e).1; omega) hB
  exact At.of ht.1 ht.2.2.2

end Go.Proofs.YtinciphhoieonaaGreatDoor
