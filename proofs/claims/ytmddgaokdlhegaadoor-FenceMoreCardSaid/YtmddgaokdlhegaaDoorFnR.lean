/-
  Limits such as may be; numbers such as may be.
-/
import Derived.Test.YtmddgaokdlhegaaDoorRows
import Derived.Test.YtmddgaokdlhegaaDoorKit
import Derived.Test.YtmddgaokdlhegaaDoorApp
import Derived.Test.YtmddgaokdlhegaaDoorQuiet
import Derived.Test.YtmddgaokdlhegaaDoorFnM
import Derived.Test.YtmddgaokdlhegaaDoorFnO
import Derived.Test.YtmddgaokdlhegaaDoorFnB
import Derived.WalkKit
import Derived.ProofKit
import Derived.OpenShut
import Derived.ShutString
import Derived.Below
import Derived.Outline
import Derived.WalkLawsBesides
import Derived.WalkSpells
import Derived.Handy
import Derived.Deep.QuietTactic
import Derived.BigQuiet
import Derived.RegionTactic
import Derived.ChangeAlike
import Derived.Lib.Hide
import Derived.Laws.Rows
import Derived.Laws.Tables
import Derived.Laws.CopyOwn
import Derived.Laws.MakeOwn
import Derived.Laws.Entries
import Derived.Laws.OwnMore
import Derived.Deep.WholeRow
import Derived.Deep.LoopGhost
import Derived.Deep.AppendLies
import Derived.Deep.Draws
import Derived.Maps.AppendAt
import Derived.OwnWalk
import Derived.Deep.RegionHeld3
import Derived.Deep.Cut
import Derived.Deep.CutRange
import Derived.Deep.DeepCutAuto
import Derived.Deep.CutBlock
import Derived.Lib.SliceRun
import Derived.IntWalk
namespace Go.Proofs.YtmddgaokdlhegaaDoor
open Go.ChangeShapes Go.WideShapes Go.ChangeAt Go.RowKit
def l5 (x : Lim) : List Int := [x.o, x.q, x.w, x.n, x.p]
theorem l5_ok (x : Lim) : Lok x ↔ ∀ (j : Nat) (y : Int), (l5 x)[j]? = some y → okN y := by
  rw [Lok.iff]
  constructor
  · rintro ⟨h0, h1, h2, h3, h4⟩ j y hy
    match j with
    | 0 => obtain rfl := Option.some.inj hy; exact h0
    | 1 => obtain rfl := Option.some.inj hy; exact h1
    | 2 => obtain rfl := Option.some.inj hy; exact h2
    | 3 => obtain rfl := Option.some.inj hy; exact h3
    | 4 => obtain rfl := Option.some.inj hy; exact h4
    | j + 5 => simp [l5] at hy
  · intro h
    exact ⟨h 0 _ rfl, h 1 _ rfl, h 2 _ rfl, h 3 _ rfl, h 4 _ rfl⟩
set_option maxRecDepth 100000 in
set_option maxHeartbeats 4000000 in
theorem right_yes (x : Lim) (h : Lok x) (w : World) : Calls Tryd.prog 17 #[.agg #[.int .i64 x.o, .int .i64 x.q, .int .i64 x.w, .int .i64 x.n, .int .i64 x.p]] w fun e w' => e = .returned (.bool true) ∧ Below w.heap.size w w' := by
  have HOK := Lib.hid ((l5_ok x).1 h)
  have HB := Lib.hid (show Below w.heap.size w ((w.alloc (.cells (List.toArray [.int .i64 x.o, .int .i64 x.q, .int .i64 x.w, .int .i64 x.n, .int .i64 x.p]) 61)).alloc (.cells (List.toArray [.int .i64 x.o, .int .i64 x.q, .int .i64 x.w, .int .i64 x.n, .int .i64 x.p]) 3)) from by go_grown)
  have HC := Lib.hid (show ∀ (j : Nat) (y : Int), (l5 x)[j]? = some y → ((w.alloc (.cells (List.toArray [.int .i64 x.o, .int .i64 x.q, .int .i64 x.w, .int .i64 x.n, .int .i64 x.p]) 61)).alloc (.cells (List.toArray [.int .i64 x.o, .int .i64 x.q, .int .i64 x.w, .int .i64 x.n, .int .i64 x.p]) 3)).cell? ⟨w.heap.size + 1, j, none⟩ = some (.int .i64 y) from fun j y hy => by
    have h := Bl.new (w.alloc (.cells (List.toArray [.int .i64 x.o, .int .i64 x.q, .int .i64 x.w, .int .i64 x.n, .int .i64 x.p]) 61)) [.int .i64 x.o, .int .i64 x.q, .int .i64 x.w, .int .i64 x.n, .int .i64 x.p] 3
    rw [World.size_alloc] at h
    refine h.cell j _ ?_
    have h2 : [.int .i64 x.o, .int .i64 x.q, .int .i64 x.w, .int .i64 x.n, .int .i64 x.p] = (l5 x).map (Value.int .i64) := rfl
    rw [h2, List.getElem?_map, hy]
    rfl)
  clear h
  go_enter Tryd.func17, Tryd.ntmps17
  go_wp2_with fail
  generalize hW : ((w.alloc (.cells (List.toArray [.int .i64 x.o, .int .i64 x.q, .int .i64 x.w, .int .i64 x.n, .int .i64 x.p]) 61)).alloc (.cells (List.toArray [.int .i64 x.o, .int .i64 x.q, .int .i64 x.w, .int .i64 x.n, .int .i64 x.p]) 3)) = W5 at *
  clear hW
  go_loopw [4, 17] (fun _ i wr => ∃ t : Nat, t ≤ 5 ∧ i = .int .i64 (t : Int) ∧ wr = W5) (fun _ i _ => 6 - (intOf i).toNat)
  case atStart => exact ⟨0, Nat.zero_le _, rfl, rfl⟩
  case round =>
    obtain ⟨t, ht, rfl, rfl⟩ := hrel
    have t0 : (0 : Int) ≤ (t : Int) := by omega
    by_cases htn : t < 5
    · have t1 : (t : Int) < 5 := by omega
      obtain ⟨y, hy⟩ : ∃ y, (l5 x)[t]? = some y := ⟨_, List.getElem?_eq_getElem (by exact htn)⟩
      have hc := HC.out t y hy
      have hok := HOK.out t y hy
      have d1 : decide (y < 0) = false := decide_eq_false (by have := hok.1; omega)
      have d2 : decide (1099511627776 < y) = false := decide_eq_false (by have := hok.2; omega)
      clear hy hok
      go_wp2_with fail
      go_roundw
      case rel => exact ⟨t + 1, by omega, by go_num, by first | rfl | trivial⟩
      case measure => simp [intOf]; omega
    · obtain rfl : t = 5 := by omega
      go_wp2_with fail
      go_ret
      exact ⟨rfl, HB.out⟩
def smb (x : Int) : Bool := decide (sm x)
set_option maxRecDepth 100000 in
set_option maxHeartbeats 4000000 in
theorem small_is (B n cp : Nat) (ns : List Int) (hl : ns.length = n) (hn : n ≤ 100) (w : World) (hr : ∀ (k : Nat) (x : Int), ns[k]? = some x → w.cell? ⟨B, k, none⟩ = some (.int .i64 x)) : Calls Tryd.prog 6 #[.slice (some ⟨B, 0, none⟩) n cp] w fun e w' => e = .returned (.bool (ns.all smb)) ∧ w' = w := by
  have HR := Lib.hid hr
  have HL := Lib.hid hl
  have n0 : (0 : Int) ≤ (n : Int) := by omega
  have n1 : (n : Int) ≤ 100 := by omega
  clear hr hl hn
  go_enter Tryd.func6, Tryd.ntmps6
  go_wp2_with fail
  go_loopw [4, 7] (fun _ i wr => ∃ k : Nat, k ≤ n ∧ i = .int .i64 (k : Int) ∧ Hid (∀ (j : Nat) (x : Int), j < k → ns[j]? = some x → sm x) ∧ wr = w) (fun _ i _ => n + 1 - (intOf i).toNat)
  case atStart => exact ⟨0, Nat.zero_le _, rfl, Lib.hid (fun j x h => absurd h (Nat.not_lt_zero _)), rfl⟩
  case round =>
    obtain ⟨k, hk, rfl, HS, rfl⟩ := hrel
    have k0 : (0 : Int) ≤ (k : Int) := by omega
    by_cases hkn : k < n
    · have k1 : (k : Int) < (n : Int) := by omega
      obtain ⟨x, hx⟩ : ∃ x, ns[k]? = some x := ⟨_, List.getElem?_eq_getElem (by rw [HL.out]; exact hkn)⟩
      have hc := HR.out k x hx
      have HX := Lib.hid hx
      clear hx
      by_cases h1 : x < -1073741824
      · have d1 : decide (x < -1073741824) = true := decide_eq_true h1
        have HB := Lib.hid (show ns.all smb = false from by
          rw [List.all_eq_false]
          exact ⟨x, List.mem_of_getElem? HX.out, fun h => by have h2 : sm x := of_decide_eq_true h; have := h2.1; have := h2.2; omega⟩)
        clear h1
        go_wp2_with fail
        go_ret
        exact ⟨by rw [HB.out]; rfl, rfl⟩
      · have d1 : decide (x < -1073741824) = false := decide_eq_false h1
        by_cases h2 : 1073741824 < x
        · have d2 : decide (1073741824 < x) = true := decide_eq_true h2
          have HB := Lib.hid (show ns.all smb = false from by
            rw [List.all_eq_false]
            exact ⟨x, List.mem_of_getElem? HX.out, fun h => by have h2 : sm x := of_decide_eq_true h; have := h2.1; have := h2.2; omega⟩)
          clear h1 h2
          go_wp2_with fail
          go_ret
          exact ⟨by rw [HB.out]; rfl, rfl⟩
        · have d2 : decide (1073741824 < x) = false := decide_eq_false h2
          have HX2 := Lib.hid (show sm x from ⟨by omega, by omega⟩)
          clear h1 h2
          go_wp2_with fail
          go_roundw
          case rel => exact ⟨k + 1, by omega, by go_num, Lib.hid (fun j y hj hy => by
            rcases Nat.lt_or_ge j k with h3 | h3
            · exact HS.out j y h3 hy
            · obtain rfl : j = k := by omega
              rw [HX.out] at hy
              obtain rfl := Option.some.inj hy
              exact HX2.out), by first | rfl | trivial⟩
          case measure => simp [intOf]; omega
    · obtain rfl : k = n := by omega
      have hd : decide ((k : Int) < (k : Int)) = false := decide_eq_false (by omega)
      have HB := Lib.hid (show ns.all smb = true from by
        rw [List.all_eq_true]
        intro x hx
        obtain ⟨j, hj⟩ := List.getElem?_of_mem hx
        have hjl := (List.getElem?_eq_some_iff.1 hj).1
        have := HS.out j x (by rw [← HL.out]; exact hjl) hj
        unfold smb
        exact decide_eq_true this)
      go_wp2_with fail
      go_ret
      exact ⟨by rw [HB.out]; rfl, rfl⟩
set_option maxRecDepth 100000 in
set_option maxHeartbeats 8000000 in
theorem wrong_is (A : Option Addr) (len cp : Nat) (g : Nat → Lim) (hn : len ≤ 100) (w : World) (h : LimsAt A len g w) : Calls Tryd.prog 5 #[.slice A len cp] w fun e w' => ∃ k : Int, e = .returned (.int .i64 k) ∧ Below w.heap.size w w' ∧ ((∀ i, i < len → Lok (g i)) → k = -1) ∧ ((¬ ∀ i, i < len → Lok (g i)) → 0 ≤ k) := by
  have HA := Lib.hid h
  have n0 : (0 : Int) ≤ (len : Int) := by omega
  have n1 : (len : Int) ≤ 100 := by omega
  clear h hn
  go_enter Tryd.func5, Tryd.ntmps5
  go_wp2_with fail
  go_loopw [3, 4, 6, 9] (fun _ _ _ i wr => ∃ k : Nat, k ≤ len ∧ i = .int .i64 (k : Int) ∧ Hid ((∀ j, j < k → Lok (g j)) ∧ Below w.heap.size w wr)) (fun _ _ _ i _ => len + 1 - (intOf i).toNat)
  case atStart => exact ⟨0, Nat.zero_le _, rfl, Lib.hid ⟨fun j h => absurd h (Nat.not_lt_zero _), Below.refl _ _⟩⟩
  case round =>
    obtain ⟨k, hk, rfl, HS⟩ := hrel
    have k0 : (0 : Int) ≤ (k : Int) := by omega
    by_cases hkn : k < len
    · have k1 : (k : Int) < (len : Int) := by omega
      obtain ⟨ad, rfl, hab, hcs⟩ := (HA.out.below HS.out.2) (by omega)
      have hc := hcs k hkn
      have HGK := Lib.hid (rfl : g k = g k)
      obtain ⟨x, hx⟩ : ∃ x, x = g k := ⟨_, rfl⟩
      rw [← hx] at hc
      have HX := Lib.hid hx
      clear hcs hab hx HGK
      have q0' : wr.cell? (ad.add (k * 5)) = some (.int .i64 x.o) := hc 0 _ rfl
      have q1' : wr.cell? ⟨(ad.add (k * 5)).block, (ad.add (k * 5)).off + 1, none⟩ = some (.int .i64 x.q) := by rw [← addp _ 1 (by decide) (World.cell?_spot q0'), add_of_add]; exact hc 1 _ rfl
      have q2' : wr.cell? ⟨(ad.add (k * 5)).block, (ad.add (k * 5)).off + 2, none⟩ = some (.int .i64 x.w) := by rw [← addp _ 2 (by decide) (World.cell?_spot q0'), add_of_add]; exact hc 2 _ rfl
      have q3' : wr.cell? ⟨(ad.add (k * 5)).block, (ad.add (k * 5)).off + 3, none⟩ = some (.int .i64 x.n) := by rw [← addp _ 3 (by decide) (World.cell?_spot q0'), add_of_add]; exact hc 3 _ rfl
      have q4' : wr.cell? ⟨(ad.add (k * 5)).block, (ad.add (k * 5)).off + 4, none⟩ = some (.int .i64 x.p) := by rw [← addp _ 4 (by decide) (World.cell?_spot q0'), add_of_add]; exact hc 4 _ rfl
      clear hc
      have HB := Lib.hid (show Below w.heap.size w ((wr.alloc (.cells (List.toArray [.int .i64 x.o, .int .i64 x.q, .int .i64 x.w, .int .i64 x.n, .int .i64 x.p]) 42)).alloc (.cells (List.toArray [.int .i64 x.o, .int .i64 x.q, .int .i64 x.w, .int .i64 x.n, .int .i64 x.p]) 3)) from (HS.out.2.alloc HS.out.2.size _).alloc (HS.out.2.alloc HS.out.2.size _).size _)
      have HC := Lib.hid (show ∀ (j : Nat) (y : Int), (l5 x)[j]? = some y → ((wr.alloc (.cells (List.toArray [.int .i64 x.o, .int .i64 x.q, .int .i64 x.w, .int .i64 x.n, .int .i64 x.p]) 42)).alloc (.cells (List.toArray [.int .i64 x.o, .int .i64 x.q, .int .i64 x.w, .int .i64 x.n, .int .i64 x.p]) 3)).cell? ⟨wr.heap.size + 1, j, none⟩ = some (.int .i64 y) from fun j y hy => by
        have h := Bl.new (wr.alloc (.cells (List.toArray [.int .i64 x.o, .int .i64 x.q, .int .i64 x.w, .int .i64 x.n, .int .i64 x.p]) 42)) [.int .i64 x.o, .int .i64 x.q, .int .i64 x.w, .int .i64 x.n, .int .i64 x.p] 3
        rw [World.size_alloc] at h
        refine h.cell j _ ?_
        have h2 : [.int .i64 x.o, .int .i64 x.q, .int .i64 x.w, .int .i64 x.n, .int .i64 x.p] = (l5 x).map (Value.int .i64) := rfl
        rw [h2, List.getElem?_map, hy]
        rfl)
      go_wp2_with fail
      generalize hW : ((wr.alloc (.cells (List.toArray [.int .i64 x.o, .int .i64 x.q, .int .i64 x.w, .int .i64 x.n, .int .i64 x.p]) 42)).alloc (.cells (List.toArray [.int .i64 x.o, .int .i64 x.q, .int .i64 x.w, .int .i64 x.n, .int .i64 x.p]) 3)) = W5 at *
      clear hW
      go_loopw [6, 26] (fun _ i wr => ∃ t : Nat, t ≤ 5 ∧ i = .int .i64 (t : Int) ∧ Hid (∀ (j : Nat) (y : Int), j < t → (l5 x)[j]? = some y → okN y) ∧ wr = W5) (fun _ i _ => 6 - (intOf i).toNat)
      case atStart => exact ⟨0, Nat.zero_le _, rfl, Lib.hid (fun j y h => absurd h (Nat.not_lt_zero _)), rfl⟩
      case round =>
        obtain ⟨t, ht, rfl, HT, rfl⟩ := hrel
        have t0 : (0 : Int) ≤ (t : Int) := by omega
        by_cases htn : t < 5
        · have t1 : (t : Int) < 5 := by omega
          obtain ⟨y, hy⟩ : ∃ y, (l5 x)[t]? = some y := ⟨_, List.getElem?_eq_getElem (by exact htn)⟩
          have hc := HC.out t y hy
          have HY := Lib.hid hy
          clear hy
          by_cases h1 : y < 0
          · have d1 : decide (y < 0) = true := decide_eq_true h1
            have HN := Lib.hid (show ¬ okN y from fun h => by have := h.1; omega)
            clear h1
            go_wp2_with fail
            go_ret
            exact ⟨_, rfl, HB.out, fun hall => absurd (((l5_ok x).1 (by rw [HX.out]; exact hall k hkn)) t y HY.out) HN.out, fun _ => by omega⟩
          · have d1 : decide (y < 0) = false := decide_eq_false h1
            by_cases h2 : 1099511627776 < y
            · have d2 : decide (1099511627776 < y) = true := decide_eq_true h2
              have HN := Lib.hid (show ¬ okN y from fun h => by have := h.2; omega)
              clear h1 h2
              go_wp2_with fail
              go_ret
              exact ⟨_, rfl, HB.out, fun hall => absurd (((l5_ok x).1 (by rw [HX.out]; exact hall k hkn)) t y HY.out) HN.out, fun _ => by omega⟩
            · have d2 : decide (1099511627776 < y) = false := decide_eq_false h2
              have HN := Lib.hid (show okN y from ⟨by omega, by omega⟩)
              clear h1 h2
              go_wp2_with fail
              go_roundw
              case rel => exact ⟨t + 1, by omega, by go_num, Lib.hid (fun j z hj hz => by
                rcases Nat.lt_or_ge j t with h3 | h3
                · exact HT.out j z h3 hz
                · obtain rfl : j = t := by omega
                  rw [HY.out] at hz
                  obtain rfl := Option.some.inj hz
                  exact HN.out), by first | rfl | trivial⟩
              case measure => simp [intOf]; omega
        · obtain rfl : t = 5 := by omega
          have HK := Lib.hid (show Lok (g k) from by
            rw [← HX.out, l5_ok]
            intro j y hy
            exact HT.out j y (List.getElem?_eq_some_iff.1 hy).1 hy)
          go_wp2_with fail
          go_roundw
          case rel => exact ⟨k + 1, by omega, by go_num, Lib.hid ⟨fun j hj => by
            rcases Nat.lt_or_ge j k with h3 | h3
            · exact HS.out.1 j h3
            · obtain rfl : j = k := by omega
              exact HK.out, HB.out⟩⟩
          case measure => simp [intOf]; omega
    · obtain rfl : k = len := by omega
      have hd : decide ((k : Int) < (k : Int)) = false := decide_eq_false (by omega)
      go_wp2_with fail
      go_ret
      exact ⟨_, rfl, HS.out.2, fun _ => rfl, fun h => absurd HS.out.1 h⟩
end Go.Proofs.YtmddgaokdlhegaaDoor
