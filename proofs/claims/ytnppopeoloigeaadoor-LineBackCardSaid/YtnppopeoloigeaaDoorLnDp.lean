/-
  Print and the document's, each outcome decided ahead.
-/
import Derived.Test.YtnppopeoloigeaaDoorRows
import Derived.Test.YtnppopeoloigeaaDoorKit
import Derived.Test.YtnppopeoloigeaaDoorApp
import Derived.Test.YtnppopeoloigeaaDoorQuiet
import Derived.WalkKit
import Derived.ProofKit
import Derived.OpenShut
import Derived.ShutString
import Derived.Below
import Derived.Outline
import Derived.WalkLawsBesides
import Derived.WalkSpells
import Derived.Handy
import Derived.Deep.QuietTactic
import Derived.BigQuiet
import Derived.RegionTactic
import Derived.ChangeAlike
import Derived.Lib.Hide
import Derived.Laws.Rows
import Derived.Laws.Tables
import Derived.Laws.CopyOwn
import Derived.Laws.MakeOwn
import Derived.Laws.Entries
import Derived.Laws.OwnMore
import Derived.Deep.WholeRow
import Derived.Deep.LoopGhost
import Derived.Deep.AppendLies
import Derived.Deep.Draws
import Derived.Maps.AppendAt
import Derived.OwnWalk
import Derived.Deep.RegionHeld3
import Derived.Deep.Cut
import Derived.Deep.CutRange
import Derived.Deep.DeepCutAuto
import Derived.Deep.CutBlock
import Derived.Lib.SliceRun
import Derived.IntWalk
import Derived.Laws.Strings
import Derived.Lib.Bytealg
import Derived.Lib.Strings
import Derived.Laws.Externs
import Derived.Test.YtnppopeoloigeaaDoorLnY
import Derived.Test.YtnppopeoloigeaaDoorLnBp
import Derived.Test.YtnppopeoloigeaaDoorLnN
namespace Go.Proofs.YtnppopeoloigeaaDoor
open Go.ChangeShapes Go.WideShapes Go.ChangeAt Go.RowKit
theorem to_is (c0 c1 c2 c3 c4 c5 c6 c7 c8 : Int) (w : World) : Calls Tryd.prog 16 #[.agg (List.toArray [.int .i64 c0, .int .i64 c1, .int .i64 c2, .int .i64 c3, .int .i64 c4, .int .i64 c5, .int .i64 c6, .int .i64 c7, .int .i64 c8])] w fun e w' => e = .returned (.agg (List.toArray [.int .i64 c0, .int .i64 c1, .int .i64 c2, .int .i64 c3, .int .i64 c4, .int .i64 c5, .int .i64 c6, .int .i64 c7, .int .i64 c8])) ∧ Below w.heap.size w w' := by
  go_enter Tryd.func16, Tryd.ntmps16
  go_wp2
  refine bodyPost_ret (by simp [results, Tryd.results16, go_sem]; try rfl) rfl ⟨rfl, ?_⟩
  go_grown
theorem un_code : ∀ (c : List Int) (L : List (Nat × Bool)) (a : Nat) (x p : Int), un c L a = some (x, p) → x = 5 ∨ x = 1
  | c, [], a, x, p, h => by cases h
  | c, (i, b) :: t, a, x, p, h => by
    cases b with
    | true => rw [un_skip] at h; exact un_code c t a x p h
    | false =>
      rw [un_num] at h
      split at h
      · injection h with h; injection h with h1 h2; exact .inl h1.symm
      · split at h
        · injection h with h; injection h with h1 h2; exact .inr h1.symm
        · exact un_code c t _ x p h
theorem pt_code {c : List Int} {x p : Int} (h : pt c = .er x p) : (x = 6 ∧ p = -1 ∧ (c.getD 0 0 < 1 ∨ 4 < c.getD 0 0)) ∨ ((x = 5 ∨ x = 1) ∧ 1 ≤ c.getD 0 0 ∧ c.getD 0 0 ≤ 4) := by
  unfold pt at h
  split at h
  · rename_i hk
    injection h with h1 h2
    exact .inl ⟨h1.symm, h2.symm, hk⟩
  · rename_i hk
    split at h
    · rename_i e q hu
      injection h with h1 h2
      subst h1; subst h2
      exact .inr ⟨un_code _ _ _ _ _ hu, by omega, by omega⟩
    · cases h
theorem pt_ok {c : List Int} {l : List UInt8} (h : pt c = .ok l) : 1 ≤ c.getD 0 0 ∧ c.getD 0 0 ≤ 4 := by
  unfold pt at h
  split at h
  · cases h
  · rename_i hk; omega
theorem pp_er (c0 c1 c2 c3 c4 c5 c6 c7 c8 : Int) (x p : Int) (hx : x ≠ 6) (h : pt [c0, c1, c2, c3, c4, c5, c6, c7, c8] = .er x p) (w : World) (hv : Vb w) (ht : Tb w) : Calls Tryd.prog 15 #[.agg (List.toArray [.int .i64 c0, .int .i64 c1, .int .i64 c2, .int .i64 c3, .int .i64 c4, .int .i64 c5, .int .i64 c6, .int .i64 c7, .int .i64 c8])] w fun e w' => ∃ v, e = .returned (.tuple #[.string ⟨#[]⟩, v]) ∧ Ch w' x [.pl p] v ∧ Below w.heap.size w w' :=
  (print_is c0 c1 c2 c3 c4 c5 c6 c7 c8 w hv ht).mono fun e w' hp => by
    rw [h] at hp
    obtain ⟨v, ll, h1, h2, h3, h4⟩ := hp
    rw [h3 hx] at h2
    exact ⟨v, h1, h2, h4⟩
theorem pp_no (c0 c1 c2 c3 c4 c5 c6 c7 c8 : Int) (h : pt [c0, c1, c2, c3, c4, c5, c6, c7, c8] = .er 6 (-1)) (w : World) (hv : Vb w) (ht : Tb w) : Calls Tryd.prog 15 #[.agg (List.toArray [.int .i64 c0, .int .i64 c1, .int .i64 c2, .int .i64 c3, .int .i64 c4, .int .i64 c5, .int .i64 c6, .int .i64 c7, .int .i64 c8])] w fun e w' => ∃ v ll, e = .returned (.tuple #[.string ⟨#[]⟩, v]) ∧ Ch w' 6 ll v ∧ Below w.heap.size w w' :=
  (print_is c0 c1 c2 c3 c4 c5 c6 c7 c8 w hv ht).mono fun e w' hp => by
    rw [h] at hp
    obtain ⟨v, ll, h1, h2, h3, h4⟩ := hp
    exact ⟨v, ll, h1, h2, h4⟩
theorem pp_ok (c0 c1 c2 c3 c4 c5 c6 c7 c8 : Int) (l : List UInt8) (h : pt [c0, c1, c2, c3, c4, c5, c6, c7, c8] = .ok l) (w : World) (hv : Vb w) (ht : Tb w) : Calls Tryd.prog 15 #[.agg (List.toArray [.int .i64 c0, .int .i64 c1, .int .i64 c2, .int .i64 c3, .int .i64 c4, .int .i64 c5, .int .i64 c6, .int .i64 c7, .int .i64 c8])] w fun e w' => e = .returned (.tuple #[.string (Bs l), .nilIface]) ∧ Below w.heap.size w w' :=
  (print_is c0 c1 c2 c3 c4 c5 c6 c7 c8 w hv ht).mono fun e w' hp => by rw [h] at hp; exact hp
theorem rp_er (c0 c1 c2 c3 c4 c5 c6 c7 c8 : Int) (x p : Int) (hx : x ≠ 6) (h : pt [c0, c1, c2, c3, c4, c5, c6, c7, c8] = .er x p) (w : World) : Calls Tryd.prog 17 #[.agg (List.toArray [.int .i64 c0, .int .i64 c1, .int .i64 c2, .int .i64 c3, .int .i64 c4, .int .i64 c5, .int .i64 c6, .int .i64 c7, .int .i64 c8])] w fun e w' => e = .returned (.tuple #[.string ⟨#[]⟩, .int .i64 x, .int .i64 p]) ∧ Below w.heap.size w w' :=
  (rprint_is c0 c1 c2 c3 c4 c5 c6 c7 c8 w).mono fun e w' hp => by
    rw [h] at hp
    obtain ⟨h1, h2⟩ := hp
    rw [if_neg hx] at h1
    exact ⟨h1, h2⟩
theorem rp_no (c0 c1 c2 c3 c4 c5 c6 c7 c8 : Int) (h : pt [c0, c1, c2, c3, c4, c5, c6, c7, c8] = .er 6 (-1)) (w : World) : Calls Tryd.prog 17 #[.agg (List.toArray [.int .i64 c0, .int .i64 c1, .int .i64 c2, .int .i64 c3, .int .i64 c4, .int .i64 c5, .int .i64 c6, .int .i64 c7, .int .i64 c8])] w fun e w' => e = .returned (.tuple #[.string ⟨#[]⟩, .int .i64 6, .int .i64 0]) ∧ Below w.heap.size w w' :=
  (rprint_is c0 c1 c2 c3 c4 c5 c6 c7 c8 w).mono fun e w' hp => by rw [h] at hp; exact hp
theorem rp_ok (c0 c1 c2 c3 c4 c5 c6 c7 c8 : Int) (l : List UInt8) (h : pt [c0, c1, c2, c3, c4, c5, c6, c7, c8] = .ok l) (w : World) : Calls Tryd.prog 17 #[.agg (List.toArray [.int .i64 c0, .int .i64 c1, .int .i64 c2, .int .i64 c3, .int .i64 c4, .int .i64 c5, .int .i64 c6, .int .i64 c7, .int .i64 c8])] w fun e w' => e = .returned (.tuple #[.string (Bs l), .int .i64 0, .int .i64 0]) ∧ Below w.heap.size w w' :=
  (rprint_is c0 c1 c2 c3 c4 c5 c6 c7 c8 w).mono fun e w' hp => by rw [h] at hp; exact hp

end Go.Proofs.YtnppopeoloigeaaDoor
