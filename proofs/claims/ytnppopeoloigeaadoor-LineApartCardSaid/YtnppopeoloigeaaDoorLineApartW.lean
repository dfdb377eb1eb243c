/-
  The law LineApart, walked.
-/
import Derived.Test.YtnppopeoloigeaaDoorRows
import Derived.Test.YtnppopeoloigeaaDoorKit
import Derived.Test.YtnppopeoloigeaaDoorApp
import Derived.Test.YtnppopeoloigeaaDoorQuiet
import Derived.WalkKit
import Derived.ProofKit
import Derived.OpenShut
import Derived.ShutString
import Derived.Below
import Derived.Outline
import Derived.WalkLawsBesides
import Derived.WalkSpells
import Derived.Handy
import Derived.Deep.QuietTactic
import Derived.BigQuiet
import Derived.RegionTactic
import Derived.ChangeAlike
import Derived.Lib.Hide
import Derived.Laws.Rows
import Derived.Laws.Tables
import Derived.Laws.CopyOwn
import Derived.Laws.MakeOwn
import Derived.Laws.Entries
import Derived.Laws.OwnMore
import Derived.Deep.WholeRow
import Derived.Deep.LoopGhost
import Derived.Deep.AppendLies
import Derived.Deep.Draws
import Derived.Maps.AppendAt
import Derived.OwnWalk
import Derived.Deep.RegionHeld3
import Derived.Deep.Cut
import Derived.Deep.CutRange
import Derived.Deep.DeepCutAuto
import Derived.Deep.CutBlock
import Derived.Lib.SliceRun
import Derived.IntWalk
import Derived.Laws.Strings
import Derived.Test.YtnppopeoloigeaaDoorLnZ
import Derived.Deep.RegionHeld3
namespace Go.Proofs.YtnppopeoloigeaaDoor
open Go.ChangeShapes Go.WideShapes Go.ChangeAt Go.RowKit
theorem stp_len (n : Int) : ∀ (L : List (Nat × Bool)) (cs : List Int) (r : List UInt8) (m : Bool) (c' : List Int) (r' : List UInt8) (m' : Bool), stp n L cs r m = .go c' r' m' → c'.length = cs.length
  | [], cs, r, m, c', r', m', h => by
    simp only [stp] at h
    injection h with h1
    rw [h1]
  | (j, b) :: t, cs, r, m, c', r', m', h => by
    rw [stp_cons] at h
    split at h
    · cases h
    · split at h
      · have ih := stp_len n t _ _ _ c' r' m' h
        rw [ih, List.length_set]
      · cases h
theorem lp_nine {s : ByteArray} {c : List Int} (h : lp s = .ok c) : ∃ c0 c1 c2 c3 c4 c5 c6 c7 c8, c = [c0, c1, c2, c3, c4, c5, c6, c7, c8] := by
  obtain ⟨_, q, e⟩ := lp_ok h
  have h9 := stp_len _ _ _ _ _ _ _ _ e
  match c, h9 with
  | [c0, c1, c2, c3, c4, c5, c6, c7, c8], _ => exact ⟨c0, c1, c2, c3, c4, c5, c6, c7, c8, rfl⟩
theorem parse_er (s : ByteArray) (hs : s.size ≤ 1000) (c p : Int) (h : lp s = .er c p) (w : World) (hv : Vb w) : Calls Tryd.prog 8 #[.string s] w fun e w' => ∃ b, e = .returned (.tuple #[.agg (List.toArray [.int .i64 0, .int .i64 0, .int .i64 0, .int .i64 0, .int .i64 0, .int .i64 0, .int .i64 0, .int .i64 0, .int .i64 0]), .iface 73 (.pointer (some ⟨b, 0, none⟩))]) ∧ Below w.heap.size w w' :=
  (parse_is s hs w hv).mono fun e w' hp => by
    rw [h] at hp
    obtain ⟨v, e1, ⟨b, e2, _⟩, hb⟩ := hp
    exact ⟨b, by rw [e1, e2], hb⟩
theorem parse_ok (s : ByteArray) (hs : s.size ≤ 1000) (c0 c1 c2 c3 c4 c5 c6 c7 c8 : Int) (h : lp s = .ok [c0, c1, c2, c3, c4, c5, c6, c7, c8]) (w : World) (hv : Vb w) : Calls Tryd.prog 8 #[.string s] w fun e w' => e = .returned (.tuple #[.agg (List.toArray [.int .i64 c0, .int .i64 c1, .int .i64 c2, .int .i64 c3, .int .i64 c4, .int .i64 c5, .int .i64 c6, .int .i64 c7, .int .i64 c8]), .nilIface]) ∧ Below w.heap.size w w' :=
  (parse_is s hs w hv).mono fun e w' hp => by
    rw [h] at hp
    exact hp
set_option maxRecDepth 100000 in
set_option maxHeartbeats 4000000 in
theorem way_long (s t : ByteArray) (at_ : Int) (w : World) (hw : Wd w) (h : 190 < s.size ∨ 190 < t.size) : Calls Tryd.prog 6 #[.string s, .string t, .int .u8 at_] w fun e w' => e = .returned (.bool true) ∧ Below w.heap.size w w' := by
  have HA := Lib.hid (fun W hW => awake_is W hW)
  have HW := Lib.hid hw
  clear hw
  by_cases h1 : 190 < s.size
  · have g1 : (190 : Int) < (s.size : Int) := by omega
    clear h h1
    go_enter Tryd.func6, Tryd.ntmps6
    go_wp2_with fail
    refine (HA.out _ HW.out).mono ?_
    rintro e w' ⟨rfl, hb⟩
    go_wp2_with fail
    go_ret
    exact ⟨rfl, hb⟩
  · have g0 : decide ((190 : Int) < (s.size : Int)) = false := decide_eq_false (by omega)
    have g1 : (190 : Int) < (t.size : Int) := by omega
    clear h h1
    go_enter Tryd.func6, Tryd.ntmps6
    go_wp2_with fail
    refine (HA.out _ HW.out).mono ?_
    rintro e w' ⟨rfl, hb⟩
    go_wp2_with fail
    go_ret
    exact ⟨rfl, hb⟩
set_option maxRecDepth 100000 in
set_option maxHeartbeats 8000000 in
theorem way_er (s t : ByteArray) (at_ : Int) (w : World) (hw : Wd w) (hs : s.size ≤ 190) (ht : t.size ≤ 190) (c p : Int) (h1 : lp s = .er c p) : Calls Tryd.prog 6 #[.string s, .string t, .int .u8 at_] w fun e w' => e = .returned (.bool true) ∧ Below w.heap.size w w' := by
  have HA := Lib.hid (fun W hW => awake_is W hW)
  have HW := Lib.hid hw
  have HB0 := Lib.hid (Below.refl w.heap.size w)
  have g0 : decide ((190 : Int) < (s.size : Int)) = false := decide_eq_false (by omega)
  have g1 : decide ((190 : Int) < (t.size : Int)) = false := decide_eq_false (by omega)
  have HP1 := Lib.hid (fun W hv => parse_er s (by omega) c p h1 W hv)
  rcases h2 : lp t with ⟨c', p'⟩ | cl
  · have HP2 := Lib.hid (fun W hv => parse_er t (by omega) c' p' h2 W hv)
    clear h1 h2 hs ht hw
    go_enter Tryd.func6, Tryd.ntmps6
    go_wp2_with fail
    refine (HP1.out _ (HW.out.below HB0.out).vb).mono ?_
    rintro e1 w1 ⟨p1, rfl, hb1⟩
    have g1 : Below w1.heap.size w1 (w1.alloc (.cells (List.toArray [.int .i64 0, .int .i64 0, .int .i64 0, .int .i64 0, .int .i64 0, .int .i64 0, .int .i64 0, .int .i64 0, .int .i64 0]) 26)) := by go_grown
    have HB1 := Lib.hid (Below.step (Below.step HB0.out hb1) g1)
    have b1l := Bl.new w1 [.int .i64 0, .int .i64 0, .int .i64 0, .int .i64 0, .int .i64 0, .int .i64 0, .int .i64 0, .int .i64 0, .int .i64 0] 26
    have HL1 := Lib.hid b1l
    clear g1 hb1 b1l HP1
    go_wp2_with fail
    refine (HP2.out _ (HW.out.below HB1.out).vb).mono ?_
    rintro e2 w2 ⟨p2, rfl, hb2⟩
    have g2 : Below w2.heap.size w2 (w2.alloc (.cells (List.toArray [.int .i64 0, .int .i64 0, .int .i64 0, .int .i64 0, .int .i64 0, .int .i64 0, .int .i64 0, .int .i64 0, .int .i64 0]) 26)) := by go_grown
    have HB2 := Lib.hid (Below.step (Below.step HB1.out hb2) g2)
    have b2l := Bl.new w2 [.int .i64 0, .int .i64 0, .int .i64 0, .int .i64 0, .int .i64 0, .int .i64 0, .int .i64 0, .int .i64 0, .int .i64 0] 26
    have HL2 := Lib.hid b2l
    clear g2 hb2 b2l HP2
    go_wp2_with fail
    refine (HA.out _ (HW.out.below HB2.out)).mono ?_
    rintro e w' ⟨rfl, hb⟩
    go_wp2_with fail
    go_ret
    exact ⟨rfl, Below.step HB2.out hb⟩
  · obtain ⟨b0, b1, b2, b3, b4, b5, b6, b7, b8, rfl⟩ := lp_nine h2
    have HP2 := Lib.hid (fun W hv => parse_ok t (by omega) b0 b1 b2 b3 b4 b5 b6 b7 b8 h2 W hv)
    clear h1 h2 hs ht hw
    go_enter Tryd.func6, Tryd.ntmps6
    go_wp2_with fail
    refine (HP1.out _ (HW.out.below HB0.out).vb).mono ?_
    rintro e1 w1 ⟨p1, rfl, hb1⟩
    have g1 : Below w1.heap.size w1 (w1.alloc (.cells (List.toArray [.int .i64 0, .int .i64 0, .int .i64 0, .int .i64 0, .int .i64 0, .int .i64 0, .int .i64 0, .int .i64 0, .int .i64 0]) 26)) := by go_grown
    have HB1 := Lib.hid (Below.step (Below.step HB0.out hb1) g1)
    have b1l := Bl.new w1 [.int .i64 0, .int .i64 0, .int .i64 0, .int .i64 0, .int .i64 0, .int .i64 0, .int .i64 0, .int .i64 0, .int .i64 0] 26
    have HL1 := Lib.hid b1l
    clear g1 hb1 b1l HP1
    go_wp2_with fail
    refine (HP2.out _ (HW.out.below HB1.out).vb).mono ?_
    rintro e2 w2 ⟨rfl, hb2⟩
    have g2 : Below w2.heap.size w2 (w2.alloc (.cells (List.toArray [.int .i64 b0, .int .i64 b1, .int .i64 b2, .int .i64 b3, .int .i64 b4, .int .i64 b5, .int .i64 b6, .int .i64 b7, .int .i64 b8]) 26)) := by go_grown
    have HB2 := Lib.hid (Below.step (Below.step HB1.out hb2) g2)
    have b2l := Bl.new w2 [.int .i64 b0, .int .i64 b1, .int .i64 b2, .int .i64 b3, .int .i64 b4, .int .i64 b5, .int .i64 b6, .int .i64 b7, .int .i64 b8] 26
    have HL2 := Lib.hid b2l
    clear g2 hb2 b2l HP2
    go_wp2_with fail
    refine (HA.out _ (HW.out.below HB2.out)).mono ?_
    rintro e w' ⟨rfl, hb⟩
    go_wp2_with fail
    go_ret
    exact ⟨rfl, Below.step HB2.out hb⟩
theorem rem_of (s : ByteArray) (at_ : Int) (h0 : 0 ≤ at_) : ∃ K : Nat, Int.tmod at_ ((s.size : Int) + 1) = (K : Int) ∧ K ≤ s.size := by
  have e : Int.tmod at_ ((s.size : Int) + 1) = at_ % ((s.size : Int) + 1) := Int.tmod_eq_emod_of_nonneg h0
  have h1 := Int.emod_nonneg at_ (show ((s.size : Int) + 1) ≠ 0 by omega)
  have h2 := Int.emod_lt_of_pos at_ (show (0 : Int) < (s.size : Int) + 1 by omega)
  exact ⟨(at_ % ((s.size : Int) + 1)).toNat, by rw [e]; omega, by omega⟩
theorem cat_is (s : ByteArray) (K : Nat) (hk : K ≤ s.size) : s.extract 0 K ++ ⟨#[32]⟩ ++ s.extract K s.size = Bs (s.data.toList.take K ++ 32 :: s.data.toList.drop K) := by
  rw [Lib.extract_eq, Lib.extract_eq]
  have e1 : (List.drop K s.data.toList).take (s.size - K) = List.drop K s.data.toList := List.take_of_length_le (by rw [List.length_drop, size_len]; omega)
  rw [e1, List.drop_zero, Nat.sub_zero]
  apply ByteArray.ext
  simp [Bs, ByteArray.data_append]
theorem third_er (s : ByteArray) {c : List Int} (h : lp s = .ok c) (hs : s.size ≤ 190) (K : Nat) (w : World) (hv : Vb w) : Calls Tryd.prog 8 #[.string (Bs (s.data.toList.take K ++ 32 :: s.data.toList.drop K))] w fun e w' => ∃ b, e = .returned (.tuple #[.agg (List.toArray [.int .i64 0, .int .i64 0, .int .i64 0, .int .i64 0, .int .i64 0, .int .i64 0, .int .i64 0, .int .i64 0, .int .i64 0]), .iface 73 (.pointer (some ⟨b, 0, none⟩))]) ∧ Below w.heap.size w w' := by
  have hsz : (Bs (s.data.toList.take K ++ 32 :: s.data.toList.drop K)).size ≤ 1000 := by
    rw [Bs_size, List.length_append, List.length_cons, List.length_take, List.length_drop, size_len]; omega
  rcases e : lp (Bs (s.data.toList.take K ++ 32 :: s.data.toList.drop K)) with ⟨c', p'⟩ | c'
  · exact parse_er _ hsz c' p' e w hv
  · exact absurd e (lp_blank h K c')
set_option maxRecDepth 100000 in
set_option maxHeartbeats 8000000 in
theorem way_ok_er (s t : ByteArray) (at_ : Int) (w : World) (hw : Wd w) (hs : s.size ≤ 190) (ht : t.size ≤ 190) (hat : 0 ≤ at_ ∧ at_ ≤ 255) (c0 c1 c2 c3 c4 c5 c6 c7 c8 : Int) (h1 : lp s = .ok [c0, c1, c2, c3, c4, c5, c6, c7, c8]) (c p : Int) (h2 : lp t = .er c p) : Calls Tryd.prog 6 #[.string s, .string t, .int .u8 at_] w fun e w' => e = .returned (.bool true) ∧ Below w.heap.size w w' := by
  have HA := Lib.hid (fun W hW => awake_is W hW)
  have HW := Lib.hid hw
  have HB0 := Lib.hid (Below.refl w.heap.size w)
  have g0 : decide ((190 : Int) < (s.size : Int)) = false := decide_eq_false (by omega)
  have g1 : decide ((190 : Int) < (t.size : Int)) = false := decide_eq_false (by omega)
  obtain ⟨K, hK, hKs⟩ := rem_of s at_ hat.1
  have HP3 := Lib.hid (fun W hv => third_er s h1 hs K W hv)
  have HCAT := Lib.hid (cat_is s K hKs)
  have HP1 := Lib.hid (fun W hv => parse_ok s (by omega) c0 c1 c2 c3 c4 c5 c6 c7 c8 h1 W hv)
  have k0 : (0 : Int) ≤ (K : Int) := by omega
  have k1 : (K : Int) ≤ (s.size : Int) := by omega
  have a0 : 0 ≤ at_ := hat.1
  have a1 : at_ ≤ 255 := hat.2
  have s1 : (s.size : Int) ≤ 190 := by omega
  have s0 : (0 : Int) ≤ (s.size : Int) := by omega
  have dv : ((s.size : Int) + 1 == 0) = false := by rw [beq_eq_false_iff_ne]; omega
  have HP2 := Lib.hid (fun W hv => parse_er t (by omega) c p h2 W hv)
  clear h1 h2 hs ht hw hat hKs
  go_enter Tryd.func6, Tryd.ntmps6
  go_wp2_with fail
  refine (HP1.out _ (HW.out.below HB0.out).vb).mono ?_
  rintro e1 w1 ⟨rfl, hb1⟩
  have g1 : Below w1.heap.size w1 (w1.alloc (.cells (List.toArray [.int .i64 c0, .int .i64 c1, .int .i64 c2, .int .i64 c3, .int .i64 c4, .int .i64 c5, .int .i64 c6, .int .i64 c7, .int .i64 c8]) 26)) := by go_grown
  have HB1 := Lib.hid (Below.step (Below.step HB0.out hb1) g1)
  have b1l := Bl.new w1 [.int .i64 c0, .int .i64 c1, .int .i64 c2, .int .i64 c3, .int .i64 c4, .int .i64 c5, .int .i64 c6, .int .i64 c7, .int .i64 c8] 26
  have HL1 := Lib.hid b1l
  clear g1 hb1 b1l HP1
  go_wp2_with fail
  refine (HP2.out _ (HW.out.below HB1.out).vb).mono ?_
  rintro e2 w2 ⟨p2, rfl, hb2⟩
  have g2 : Below w2.heap.size w2 (w2.alloc (.cells (List.toArray [.int .i64 0, .int .i64 0, .int .i64 0, .int .i64 0, .int .i64 0, .int .i64 0, .int .i64 0, .int .i64 0, .int .i64 0]) 26)) := by go_grown
  have HB2 := Lib.hid (Below.step (Below.step HB1.out hb2) g2)
  have b2l := Bl.new w2 [.int .i64 0, .int .i64 0, .int .i64 0, .int .i64 0, .int .i64 0, .int .i64 0, .int .i64 0, .int .i64 0, .int .i64 0] 26
  have HL2 := Lib.hid b2l
  clear g2 hb2 b2l HP2
  go_wp2_with fail
  have hCAT := HCAT.out
  have hd : Below w.heap.size w _ := HB2.out.drew
  refine wp_region_held_drew (S := fun w' => Below w.heap.size w w') (by kernel_rfl) hd (fun hHeld => ?_)
  refine wpAnyH_take (i := 0) (oi := { dst := some 58, op := Op.move (Operand.tmp 0), type := 9, pos := "law.go:99", after := #[], guard := none }) (v := ?_) rfl (by as_aux_lemma => kernel_rfl) (by as_aux_lemma => kernel_rfl) (by as_aux_lemma => kernel_rfl) (fun _ _ _ h => h) (Or.inl ⟨by rfl, ?_⟩) (by assumption) ?_
  rotate_left
  · intro wq hSw
    go_simp
    try with_reducible rfl
  simp only [Act.put, List.setIfInBounds_toArray, List.set_cons_zero, List.set_cons_succ]
  refine wpAnyH_take (i := 1) (oi := { dst := some 59, op := Op.move (Operand.tmp 11), type := 3, pos := "law.go:99", after := #[], guard := none }) (v := ?_) rfl (by as_aux_lemma => kernel_rfl) (by as_aux_lemma => kernel_rfl) (by as_aux_lemma => kernel_rfl) (fun _ _ _ h => h) (Or.inl ⟨by rfl, ?_⟩) (by assumption) ?_
  rotate_left
  · intro wq hSw
    go_simp
    try with_reducible rfl
  simp only [Act.put, List.setIfInBounds_toArray, List.set_cons_zero, List.set_cons_succ]
  refine wpAnyH_take (i := 2) (oi := { dst := some 60, op := Op.slice 9 (Operand.tmp 58) none (some (Operand.tmp 59)) none, type := 9, pos := "law.go:99", after := #[{ on := 0, ground := Ground.data }, { on := 1, ground := Ground.data }], guard := none }) (v := ?_) rfl (by as_aux_lemma => kernel_rfl) (by as_aux_lemma => kernel_rfl) (by as_aux_lemma => kernel_rfl) (fun _ _ _ h => h) (Or.inl ⟨by rfl, ?_⟩) (by assumption) ?_
  rotate_left
  · intro wq hSw
    go_simp
    try with_reducible rfl
  simp only [Act.put, List.setIfInBounds_toArray, List.set_cons_zero, List.set_cons_succ]
  refine wpAnyH_take (i := 3) (oi := { dst := some 61, op := Op.binOp BinOp.add 9 (Operand.tmp 60) (Operand.const (Value.string { data := #[32] })) 9, type := 9, pos := "law.go:99", after := #[{ on := 2, ground := Ground.data }], guard := none }) (v := .string (s.extract 0 K ++ ⟨#[32]⟩)) rfl (by as_aux_lemma => kernel_rfl) (by as_aux_lemma => kernel_rfl) (by as_aux_lemma => kernel_rfl) (fun _ _ _ h => h) (Or.inl ⟨by rfl, ?_⟩) (by assumption) ?_
  · intro wq hSw
    go_simp
    first | omega | rw [if_neg (by omega)]
  simp only [Act.put, List.setIfInBounds_toArray, List.set_cons_zero, List.set_cons_succ]
  refine wpAnyH_take (i := 4) (oi := { dst := some 62, op := Op.move (Operand.tmp 0), type := 9, pos := "law.go:99", after := #[], guard := none }) (v := ?_) rfl (by as_aux_lemma => kernel_rfl) (by as_aux_lemma => kernel_rfl) (by as_aux_lemma => kernel_rfl) (fun _ _ _ h => h) (Or.inl ⟨by rfl, ?_⟩) (by assumption) ?_
  rotate_left
  · intro wq hSw
    go_simp
    try with_reducible rfl
  simp only [Act.put, List.setIfInBounds_toArray, List.set_cons_zero, List.set_cons_succ]
  refine wpAnyH_take (i := 5) (oi := { dst := some 63, op := Op.move (Operand.tmp 11), type := 3, pos := "law.go:99", after := #[], guard := none }) (v := ?_) rfl (by as_aux_lemma => kernel_rfl) (by as_aux_lemma => kernel_rfl) (by as_aux_lemma => kernel_rfl) (fun _ _ _ h => h) (Or.inl ⟨by rfl, ?_⟩) (by assumption) ?_
  rotate_left
  · intro wq hSw
    go_simp
    try with_reducible rfl
  simp only [Act.put, List.setIfInBounds_toArray, List.set_cons_zero, List.set_cons_succ]
  refine wpAnyH_take (i := 6) (oi := { dst := some 64, op := Op.slice 9 (Operand.tmp 62) (some (Operand.tmp 63)) none none, type := 9, pos := "law.go:99", after := #[{ on := 4, ground := Ground.data }, { on := 5, ground := Ground.data }], guard := none }) (v := ?_) rfl (by as_aux_lemma => kernel_rfl) (by as_aux_lemma => kernel_rfl) (by as_aux_lemma => kernel_rfl) (fun _ _ _ h => h) (Or.inl ⟨by rfl, ?_⟩) (by assumption) ?_
  rotate_left
  · intro wq hSw
    go_simp
    try with_reducible rfl
  simp only [Act.put, List.setIfInBounds_toArray, List.set_cons_zero, List.set_cons_succ]
  refine wpAnyH_take (i := 7) (oi := { dst := some 65, op := Op.binOp BinOp.add 9 (Operand.tmp 61) (Operand.tmp 64) 9, type := 9, pos := "law.go:99", after := #[{ on := 3, ground := Ground.data }, { on := 6, ground := Ground.data }], guard := none }) (v := .string (s.extract 0 K ++ ⟨#[32]⟩ ++ s.extract K s.size)) rfl (by as_aux_lemma => kernel_rfl) (by as_aux_lemma => kernel_rfl) (by as_aux_lemma => kernel_rfl) (fun _ _ _ h => h) (Or.inl ⟨by rfl, ?_⟩) (by assumption) ?_
  · intro wq hSw
    go_simp
    first | omega | rw [if_neg (by omega)]
  simp only [Act.put, List.setIfInBounds_toArray, List.set_cons_zero, List.set_cons_succ]
  refine wpAnyH_ready (rs := [8, 12]) (by as_aux_lemma => kernel_rfl) (by simp) ?_
  refine AllReadyH.cons (o := { dst := some 66, op := Op.call { callee := Callee.value (Operand.func 8), args := #[Operand.tmp 65], argTypes := #[9] }, type := 29, pos := "law.go:99", after := #[{ on := 7, ground := Ground.data }], guard := none }) rfl (fun K2 hK => ?_) (AllReadyH.cons (o := { dst := some 12, op := Op.alloc 26, type := 0, pos := "law.go:99", after := #[], guard := none }) rfl (fun K2 hK => ?_) AllReadyH.nil)
  · go_simp
    go_at_call 8
    try rw [hCAT]
    refine (HP3.out _ (HW.out.below hd).vb).mono ?_
    rintro e3 w3 ⟨p3, rfl, hb3⟩
    have hd3 : Below w.heap.size w w3 := Below.step hd hb3
    refine hK.out _ _ hd3 (fun hHeld => ?_)
    clear hK K2
    try simp only [Act.put, List.setIfInBounds_toArray, List.set_cons_zero, List.set_cons_succ]
    refine wpAnyH_take (i := 9) (oi := { dst := some 57, op := Op.move (Operand.tmp 66), type := 29, pos := "law.go:99", after := #[{ on := 8, ground := Ground.data }], guard := none }) (v := ?_) rfl (by as_aux_lemma => kernel_rfl) (by as_aux_lemma => kernel_rfl) (by as_aux_lemma => kernel_rfl) (fun _ _ _ h => h) (Or.inl ⟨by rfl, ?_⟩) (by assumption) ?_
    rotate_left
    · intro wq hSw
      go_simp
      try with_reducible rfl
    simp only [Act.put, List.setIfInBounds_toArray, List.set_cons_zero, List.set_cons_succ]
    refine wpAnyH_take (i := 10) (oi := { dst := some 67, op := Op.extract (Operand.tmp 57) 0, type := 26, pos := "law.go:99", after := #[{ on := 9, ground := Ground.data }], guard := none }) (v := ?_) rfl (by as_aux_lemma => kernel_rfl) (by as_aux_lemma => kernel_rfl) (by as_aux_lemma => kernel_rfl) (fun _ _ _ h => h) (Or.inl ⟨by rfl, ?_⟩) (by assumption) ?_
    rotate_left
    · intro wq hSw
      go_simp
      try with_reducible rfl
    simp only [Act.put, List.setIfInBounds_toArray, List.set_cons_zero, List.set_cons_succ]
    refine wpAnyH_take (i := 11) (oi := { dst := some 68, op := Op.extract (Operand.tmp 57) 1, type := 28, pos := "law.go:99", after := #[{ on := 9, ground := Ground.data }, { on := 13, ground := Ground.gcOnly Departure.lateStores }], guard := none }) (v := ?_) rfl (by as_aux_lemma => kernel_rfl) (by as_aux_lemma => kernel_rfl) (by as_aux_lemma => kernel_rfl) (fun _ _ _ h => h) (Or.inl ⟨by rfl, ?_⟩) (by assumption) ?_
    rotate_left
    · intro wq hSw
      go_simp
      try with_reducible rfl
    simp only [Act.put, List.setIfInBounds_toArray, List.set_cons_zero, List.set_cons_succ]
    refine wpAnyH_ready (rs := [12]) (by as_aux_lemma => kernel_rfl) (by simp) ?_
    refine AllReadyH.cons (o := { dst := some 12, op := Op.alloc 26, type := 0, pos := "law.go:99", after := #[], guard := none }) rfl (fun K2 hK => ?_) AllReadyH.nil
    go_simp
    have gz4 : Below w3.heap.size (w3) ((w3).alloc (.cells (List.toArray [.int .i64 0, .int .i64 0, .int .i64 0, .int .i64 0, .int .i64 0, .int .i64 0, .int .i64 0, .int .i64 0, .int .i64 0]) 26)) := by go_grown
    have hd4 : Below w.heap.size w _ := Below.step hd3 gz4
    refine hK.out _ _ hd4 (fun hHeld => ?_)
    clear hK K2
    try simp only [Act.put, List.setIfInBounds_toArray, List.set_cons_zero, List.set_cons_succ]
    have HD9 := hd4
    refine wpAnyH_ready (rs := [13]) (by as_aux_lemma => kernel_rfl) (by simp) ?_
    refine AllReadyH.cons (o := { dst := none, op := Op.store 26 (Operand.tmp 12) (Operand.tmp 67), type := 0, pos := "law.go:99", after := #[{ on := 12, ground := Ground.data }, { on := 10, ground := Ground.data }, { on := 8, ground := Ground.chain }, { on := 0, ground := Ground.phase }, { on := 1, ground := Ground.phase }, { on := 2, ground := Ground.phase }, { on := 3, ground := Ground.phase }, { on := 4, ground := Ground.phase }, { on := 5, ground := Ground.phase }, { on := 6, ground := Ground.phase }, { on := 7, ground := Ground.phase }, { on := 8, ground := Ground.phase }, { on := 9, ground := Ground.phase }, { on := 10, ground := Ground.phase }, { on := 11, ground := Ground.textOnly Departure.lateStores }, { on := 12, ground := Ground.phase }], guard := none }) rfl (fun K2 hK => ?_) AllReadyH.nil
    refine wp_store_bl 26 (.tmp 12) (.tmp 67) rfl w3.heap.size [.int .i64 0, .int .i64 0, .int .i64 0, .int .i64 0, .int .i64 0, .int .i64 0, .int .i64 0, .int .i64 0, .int .i64 0] [.int .i64 0, .int .i64 0, .int .i64 0, .int .i64 0, .int .i64 0, .int .i64 0, .int .i64 0, .int .i64 0, .int .i64 0] rfl rfl (Bl.new w3 [.int .i64 0, .int .i64 0, .int .i64 0, .int .i64 0, .int .i64 0, .int .i64 0, .int .i64 0, .int .i64 0, .int .i64 0] 26) rfl (by kernel_rfl) rfl (fun w8 hb8 hk8 hs8 hbel8 => ?_)
    have hd9 : Below w.heap.size w w8 := hbel8 _ _ (by first | exact (hd3).size | (have h1 := (hd3).size; omega)) HD9
    refine hK.out _ _ hd9 (fun hHeld => ?_)
    clear hK K2
    try simp only [Act.put, List.setIfInBounds_toArray, List.set_cons_zero, List.set_cons_succ]
    refine wpAnyH_take (i := 14) (oi := { dst := some 13, op := Op.assign (Operand.tmp 68), type := 28, pos := "law.go:99", after := #[{ on := 11, ground := Ground.data }, { on := 13, ground := Ground.chain }, { on := 0, ground := Ground.phase }, { on := 1, ground := Ground.phase }, { on := 2, ground := Ground.phase }, { on := 3, ground := Ground.phase }, { on := 4, ground := Ground.phase }, { on := 5, ground := Ground.phase }, { on := 6, ground := Ground.phase }, { on := 7, ground := Ground.phase }, { on := 8, ground := Ground.phase }, { on := 9, ground := Ground.phase }, { on := 10, ground := Ground.phase }, { on := 11, ground := Ground.phase }, { on := 12, ground := Ground.phase }, { on := 13, ground := Ground.phase }], guard := none }) (v := ?_) rfl (by as_aux_lemma => kernel_rfl) (by as_aux_lemma => kernel_rfl) (by as_aux_lemma => kernel_rfl) (fun _ _ _ h => h) (Or.inl ⟨by rfl, ?_⟩) (by assumption) ?_
    rotate_left
    · intro wq hSw
      go_simp
      try with_reducible rfl
    simp only [Act.put, List.setIfInBounds_toArray, List.set_cons_zero, List.set_cons_succ]
    refine wpAnyH_done (by as_aux_lemma => kernel_rfl) ?_ _
    go_wp2_with fail
    refine (HA.out _ (HW.out.below hd9)).mono ?_
    rintro e w' ⟨rfl, hb⟩
    go_wp2_with fail
    go_ret
    exact ⟨rfl, Below.step hd9 hb⟩
  · go_simp
    have gz7 : Below (((w2.alloc (.cells (List.toArray [.int .i64 0, .int .i64 0, .int .i64 0, .int .i64 0, .int .i64 0, .int .i64 0, .int .i64 0, .int .i64 0, .int .i64 0]) 26)).drew)).heap.size ((w2.alloc (.cells (List.toArray [.int .i64 0, .int .i64 0, .int .i64 0, .int .i64 0, .int .i64 0, .int .i64 0, .int .i64 0, .int .i64 0, .int .i64 0]) 26)).drew) ((((w2.alloc (.cells (List.toArray [.int .i64 0, .int .i64 0, .int .i64 0, .int .i64 0, .int .i64 0, .int .i64 0, .int .i64 0, .int .i64 0, .int .i64 0]) 26)).drew)).alloc (.cells (List.toArray [.int .i64 0, .int .i64 0, .int .i64 0, .int .i64 0, .int .i64 0, .int .i64 0, .int .i64 0, .int .i64 0, .int .i64 0]) 26)) := by go_grown
    have sz7 : (((w2.alloc (.cells (List.toArray [.int .i64 0, .int .i64 0, .int .i64 0, .int .i64 0, .int .i64 0, .int .i64 0, .int .i64 0, .int .i64 0, .int .i64 0]) 26)).drew)).heap.size = w2.heap.size + 1 := World.size_alloc ..
    have bz7 := Bl.new ((w2.alloc (.cells (List.toArray [.int .i64 0, .int .i64 0, .int .i64 0, .int .i64 0, .int .i64 0, .int .i64 0, .int .i64 0, .int .i64 0, .int .i64 0]) 26)).drew) [.int .i64 0, .int .i64 0, .int .i64 0, .int .i64 0, .int .i64 0, .int .i64 0, .int .i64 0, .int .i64 0, .int .i64 0] 26
    rw [sz7] at bz7
    have hd7 : Below w.heap.size w ((((w2.alloc (.cells (List.toArray [.int .i64 0, .int .i64 0, .int .i64 0, .int .i64 0, .int .i64 0, .int .i64 0, .int .i64 0, .int .i64 0, .int .i64 0]) 26)).drew)).alloc (.cells (List.toArray [.int .i64 0, .int .i64 0, .int .i64 0, .int .i64 0, .int .i64 0, .int .i64 0, .int .i64 0, .int .i64 0, .int .i64 0]) 26)) := Below.step hd gz7
    refine hK.out _ _ hd7 (fun hHeld => ?_)
    clear hK K2
    try simp only [Act.put, List.setIfInBounds_toArray, List.set_cons_zero, List.set_cons_succ]
    refine wpAnyH_ready (rs := [8]) (by as_aux_lemma => kernel_rfl) (by simp) ?_
    refine AllReadyH.cons (o := { dst := some 66, op := Op.call { callee := Callee.value (Operand.func 8), args := #[Operand.tmp 65], argTypes := #[9] }, type := 29, pos := "law.go:99", after := #[{ on := 7, ground := Ground.data }], guard := none }) rfl (fun K2 hK => ?_) AllReadyH.nil
    go_simp
    go_at_call 8
    try rw [hCAT]
    refine (HP3.out _ (HW.out.below hd7).vb).mono ?_
    rintro e3 w3 ⟨p3, rfl, hb3⟩
    have HD9 : Below w.heap.size w w3 := Below.step hd7 hb3
    have bz8 := bz7.below hb3
    refine hK.out _ _ HD9 (fun hHeld => ?_)
    clear hK K2
    try simp only [Act.put, List.setIfInBounds_toArray, List.set_cons_zero, List.set_cons_succ]
    refine wpAnyH_take (i := 9) (oi := { dst := some 57, op := Op.move (Operand.tmp 66), type := 29, pos := "law.go:99", after := #[{ on := 8, ground := Ground.data }], guard := none }) (v := ?_) rfl (by as_aux_lemma => kernel_rfl) (by as_aux_lemma => kernel_rfl) (by as_aux_lemma => kernel_rfl) (fun _ _ _ h => h) (Or.inl ⟨by rfl, ?_⟩) (by assumption) ?_
    rotate_left
    · intro wq hSw
      go_simp
      try with_reducible rfl
    simp only [Act.put, List.setIfInBounds_toArray, List.set_cons_zero, List.set_cons_succ]
    refine wpAnyH_take (i := 10) (oi := { dst := some 67, op := Op.extract (Operand.tmp 57) 0, type := 26, pos := "law.go:99", after := #[{ on := 9, ground := Ground.data }], guard := none }) (v := ?_) rfl (by as_aux_lemma => kernel_rfl) (by as_aux_lemma => kernel_rfl) (by as_aux_lemma => kernel_rfl) (fun _ _ _ h => h) (Or.inl ⟨by rfl, ?_⟩) (by assumption) ?_
    rotate_left
    · intro wq hSw
      go_simp
      try with_reducible rfl
    simp only [Act.put, List.setIfInBounds_toArray, List.set_cons_zero, List.set_cons_succ]
    refine wpAnyH_take (i := 11) (oi := { dst := some 68, op := Op.extract (Operand.tmp 57) 1, type := 28, pos := "law.go:99", after := #[{ on := 9, ground := Ground.data }, { on := 13, ground := Ground.gcOnly Departure.lateStores }], guard := none }) (v := ?_) rfl (by as_aux_lemma => kernel_rfl) (by as_aux_lemma => kernel_rfl) (by as_aux_lemma => kernel_rfl) (fun _ _ _ h => h) (Or.inl ⟨by rfl, ?_⟩) (by assumption) ?_
    rotate_left
    · intro wq hSw
      go_simp
      try with_reducible rfl
    simp only [Act.put, List.setIfInBounds_toArray, List.set_cons_zero, List.set_cons_succ]
    refine wpAnyH_ready (rs := [13]) (by as_aux_lemma => kernel_rfl) (by simp) ?_
    refine AllReadyH.cons (o := { dst := none, op := Op.store 26 (Operand.tmp 12) (Operand.tmp 67), type := 0, pos := "law.go:99", after := #[{ on := 12, ground := Ground.data }, { on := 10, ground := Ground.data }, { on := 8, ground := Ground.chain }, { on := 0, ground := Ground.phase }, { on := 1, ground := Ground.phase }, { on := 2, ground := Ground.phase }, { on := 3, ground := Ground.phase }, { on := 4, ground := Ground.phase }, { on := 5, ground := Ground.phase }, { on := 6, ground := Ground.phase }, { on := 7, ground := Ground.phase }, { on := 8, ground := Ground.phase }, { on := 9, ground := Ground.phase }, { on := 10, ground := Ground.phase }, { on := 11, ground := Ground.textOnly Departure.lateStores }, { on := 12, ground := Ground.phase }], guard := none }) rfl (fun K2 hK => ?_) AllReadyH.nil
    refine wp_store_bl 26 (.tmp 12) (.tmp 67) rfl (w2.heap.size + 1) [.int .i64 0, .int .i64 0, .int .i64 0, .int .i64 0, .int .i64 0, .int .i64 0, .int .i64 0, .int .i64 0, .int .i64 0] [.int .i64 0, .int .i64 0, .int .i64 0, .int .i64 0, .int .i64 0, .int .i64 0, .int .i64 0, .int .i64 0, .int .i64 0] rfl rfl bz8 rfl (by kernel_rfl) rfl (fun w8 hb8 hk8 hs8 hbel8 => ?_)
    have hd9 : Below w.heap.size w w8 := hbel8 _ _ (by have h1 := hd.size; rw [sz7] at h1; exact h1) HD9
    refine hK.out _ _ hd9 (fun hHeld => ?_)
    clear hK K2
    try simp only [Act.put, List.setIfInBounds_toArray, List.set_cons_zero, List.set_cons_succ]
    refine wpAnyH_take (i := 14) (oi := { dst := some 13, op := Op.assign (Operand.tmp 68), type := 28, pos := "law.go:99", after := #[{ on := 11, ground := Ground.data }, { on := 13, ground := Ground.chain }, { on := 0, ground := Ground.phase }, { on := 1, ground := Ground.phase }, { on := 2, ground := Ground.phase }, { on := 3, ground := Ground.phase }, { on := 4, ground := Ground.phase }, { on := 5, ground := Ground.phase }, { on := 6, ground := Ground.phase }, { on := 7, ground := Ground.phase }, { on := 8, ground := Ground.phase }, { on := 9, ground := Ground.phase }, { on := 10, ground := Ground.phase }, { on := 11, ground := Ground.phase }, { on := 12, ground := Ground.phase }, { on := 13, ground := Ground.phase }], guard := none }) (v := ?_) rfl (by as_aux_lemma => kernel_rfl) (by as_aux_lemma => kernel_rfl) (by as_aux_lemma => kernel_rfl) (fun _ _ _ h => h) (Or.inl ⟨by rfl, ?_⟩) (by assumption) ?_
    rotate_left
    · intro wq hSw
      go_simp
      try with_reducible rfl
    simp only [Act.put, List.setIfInBounds_toArray, List.set_cons_zero, List.set_cons_succ]
    refine wpAnyH_done (by as_aux_lemma => kernel_rfl) ?_ _
    go_wp2_with fail
    refine (HA.out _ (HW.out.below hd9)).mono ?_
    rintro e w' ⟨rfl, hb⟩
    go_wp2_with fail
    go_ret
    exact ⟨rfl, Below.step hd9 hb⟩
set_option maxRecDepth 100000 in
set_option maxHeartbeats 8000000 in
theorem way_same (s t : ByteArray) (at_ : Int) (w : World) (hw : Wd w) (hs : s.size ≤ 190) (ht : t.size ≤ 190) (hat : 0 ≤ at_ ∧ at_ ≤ 255) (c0 c1 c2 c3 c4 c5 c6 c7 c8 : Int) (h1 : lp s = .ok [c0, c1, c2, c3, c4, c5, c6, c7, c8]) (hst : s = t) : Calls Tryd.prog 6 #[.string s, .string t, .int .u8 at_] w fun e w' => e = .returned (.bool true) ∧ Below w.heap.size w w' := by
  have HA := Lib.hid (fun W hW => awake_is W hW)
  have HW := Lib.hid hw
  have HB0 := Lib.hid (Below.refl w.heap.size w)
  have g0 : decide ((190 : Int) < (s.size : Int)) = false := decide_eq_false (by omega)
  have g1 : decide ((190 : Int) < (t.size : Int)) = false := decide_eq_false (by omega)
  obtain ⟨K, hK, hKs⟩ := rem_of s at_ hat.1
  have HP3 := Lib.hid (fun W hv => third_er s h1 hs K W hv)
  have HCAT := Lib.hid (cat_is s K hKs)
  have HP1 := Lib.hid (fun W hv => parse_ok s (by omega) c0 c1 c2 c3 c4 c5 c6 c7 c8 h1 W hv)
  have k0 : (0 : Int) ≤ (K : Int) := by omega
  have k1 : (K : Int) ≤ (s.size : Int) := by omega
  have a0 : 0 ≤ at_ := hat.1
  have a1 : at_ ≤ 255 := hat.2
  have s1 : (s.size : Int) ≤ 190 := by omega
  have s0 : (0 : Int) ≤ (s.size : Int) := by omega
  have dv : ((s.size : Int) + 1 == 0) = false := by rw [beq_eq_false_iff_ne]; omega
  subst hst
  have HP2 := HP1
  have ea := fun W => eqlAsk c0 c1 c2 c3 c4 c5 c6 c7 c8 W
  have es : (s.toList == s.toList) = true := by simp
  clear h1 hs ht hw hat hKs
  go_enter Tryd.func6, Tryd.ntmps6
  go_wp2_with fail
  refine (HP1.out _ (HW.out.below HB0.out).vb).mono ?_
  rintro e1 w1 ⟨rfl, hb1⟩
  have g1 : Below w1.heap.size w1 (w1.alloc (.cells (List.toArray [.int .i64 c0, .int .i64 c1, .int .i64 c2, .int .i64 c3, .int .i64 c4, .int .i64 c5, .int .i64 c6, .int .i64 c7, .int .i64 c8]) 26)) := by go_grown
  have HB1 := Lib.hid (Below.step (Below.step HB0.out hb1) g1)
  have b1l := Bl.new w1 [.int .i64 c0, .int .i64 c1, .int .i64 c2, .int .i64 c3, .int .i64 c4, .int .i64 c5, .int .i64 c6, .int .i64 c7, .int .i64 c8] 26
  have HL1 := Lib.hid b1l
  clear g1 hb1 b1l HP1
  go_wp2_with fail
  refine (HP2.out _ (HW.out.below HB1.out).vb).mono ?_
  rintro e2 w2 ⟨rfl, hb2⟩
  have g2 : Below w2.heap.size w2 (w2.alloc (.cells (List.toArray [.int .i64 c0, .int .i64 c1, .int .i64 c2, .int .i64 c3, .int .i64 c4, .int .i64 c5, .int .i64 c6, .int .i64 c7, .int .i64 c8]) 26)) := by go_grown
  have HB2 := Lib.hid (Below.step (Below.step HB1.out hb2) g2)
  have b2l := Bl.new w2 [.int .i64 c0, .int .i64 c1, .int .i64 c2, .int .i64 c3, .int .i64 c4, .int .i64 c5, .int .i64 c6, .int .i64 c7, .int .i64 c8] 26
  have HL2 := Lib.hid b2l
  have HL1b := HL1.out.below (Below.step hb2 g2)
  have HL2b := HL2.out
  have x0 := HL1b.cell 0 _ rfl
  have x1 := HL1b.cell 1 _ rfl
  have x2 := HL1b.cell 2 _ rfl
  have x3 := HL1b.cell 3 _ rfl
  have x4 := HL1b.cell 4 _ rfl
  have x5 := HL1b.cell 5 _ rfl
  have x6 := HL1b.cell 6 _ rfl
  have x7 := HL1b.cell 7 _ rfl
  have x8 := HL1b.cell 8 _ rfl
  have y0 := HL2b.cell 0 _ rfl
  have y1 := HL2b.cell 1 _ rfl
  have y2 := HL2b.cell 2 _ rfl
  have y3 := HL2b.cell 3 _ rfl
  have y4 := HL2b.cell 4 _ rfl
  have y5 := HL2b.cell 5 _ rfl
  have y6 := HL2b.cell 6 _ rfl
  have y7 := HL2b.cell 7 _ rfl
  have y8 := HL2b.cell 8 _ rfl
  clear HL1b HL2b
  clear g2 hb2 b2l HP2
  go_wp2_with fail
  have hCAT := HCAT.out
  have hd : Below w.heap.size w _ := HB2.out.drew
  refine wp_region_held_drew (S := fun w' => Below w.heap.size w w') (by kernel_rfl) hd (fun hHeld => ?_)
  refine wpAnyH_take (i := 0) (oi := { dst := some 58, op := Op.move (Operand.tmp 0), type := 9, pos := "law.go:99", after := #[], guard := none }) (v := ?_) rfl (by as_aux_lemma => kernel_rfl) (by as_aux_lemma => kernel_rfl) (by as_aux_lemma => kernel_rfl) (fun _ _ _ h => h) (Or.inl ⟨by rfl, ?_⟩) (by assumption) ?_
  rotate_left
  · intro wq hSw
    go_simp
    try with_reducible rfl
  simp only [Act.put, List.setIfInBounds_toArray, List.set_cons_zero, List.set_cons_succ]
  refine wpAnyH_take (i := 1) (oi := { dst := some 59, op := Op.move (Operand.tmp 11), type := 3, pos := "law.go:99", after := #[], guard := none }) (v := ?_) rfl (by as_aux_lemma => kernel_rfl) (by as_aux_lemma => kernel_rfl) (by as_aux_lemma => kernel_rfl) (fun _ _ _ h => h) (Or.inl ⟨by rfl, ?_⟩) (by assumption) ?_
  rotate_left
  · intro wq hSw
    go_simp
    try with_reducible rfl
  simp only [Act.put, List.setIfInBounds_toArray, List.set_cons_zero, List.set_cons_succ]
  refine wpAnyH_take (i := 2) (oi := { dst := some 60, op := Op.slice 9 (Operand.tmp 58) none (some (Operand.tmp 59)) none, type := 9, pos := "law.go:99", after := #[{ on := 0, ground := Ground.data }, { on := 1, ground := Ground.data }], guard := none }) (v := ?_) rfl (by as_aux_lemma => kernel_rfl) (by as_aux_lemma => kernel_rfl) (by as_aux_lemma => kernel_rfl) (fun _ _ _ h => h) (Or.inl ⟨by rfl, ?_⟩) (by assumption) ?_
  rotate_left
  · intro wq hSw
    go_simp
    try with_reducible rfl
  simp only [Act.put, List.setIfInBounds_toArray, List.set_cons_zero, List.set_cons_succ]
  refine wpAnyH_take (i := 3) (oi := { dst := some 61, op := Op.binOp BinOp.add 9 (Operand.tmp 60) (Operand.const (Value.string { data := #[32] })) 9, type := 9, pos := "law.go:99", after := #[{ on := 2, ground := Ground.data }], guard := none }) (v := .string (s.extract 0 K ++ ⟨#[32]⟩)) rfl (by as_aux_lemma => kernel_rfl) (by as_aux_lemma => kernel_rfl) (by as_aux_lemma => kernel_rfl) (fun _ _ _ h => h) (Or.inl ⟨by rfl, ?_⟩) (by assumption) ?_
  · intro wq hSw
    go_simp
    first | omega | rw [if_neg (by omega)]
  simp only [Act.put, List.setIfInBounds_toArray, List.set_cons_zero, List.set_cons_succ]
  refine wpAnyH_take (i := 4) (oi := { dst := some 62, op := Op.move (Operand.tmp 0), type := 9, pos := "law.go:99", after := #[], guard := none }) (v := ?_) rfl (by as_aux_lemma => kernel_rfl) (by as_aux_lemma => kernel_rfl) (by as_aux_lemma => kernel_rfl) (fun _ _ _ h => h) (Or.inl ⟨by rfl, ?_⟩) (by assumption) ?_
  rotate_left
  · intro wq hSw
    go_simp
    try with_reducible rfl
  simp only [Act.put, List.setIfInBounds_toArray, List.set_cons_zero, List.set_cons_succ]
  refine wpAnyH_take (i := 5) (oi := { dst := some 63, op := Op.move (Operand.tmp 11), type := 3, pos := "law.go:99", after := #[], guard := none }) (v := ?_) rfl (by as_aux_lemma => kernel_rfl) (by as_aux_lemma => kernel_rfl) (by as_aux_lemma => kernel_rfl) (fun _ _ _ h => h) (Or.inl ⟨by rfl, ?_⟩) (by assumption) ?_
  rotate_left
  · intro wq hSw
    go_simp
    try with_reducible rfl
  simp only [Act.put, List.setIfInBounds_toArray, List.set_cons_zero, List.set_cons_succ]
  refine wpAnyH_take (i := 6) (oi := { dst := some 64, op := Op.slice 9 (Operand.tmp 62) (some (Operand.tmp 63)) none none, type := 9, pos := "law.go:99", after := #[{ on := 4, ground := Ground.data }, { on := 5, ground := Ground.data }], guard := none }) (v := ?_) rfl (by as_aux_lemma => kernel_rfl) (by as_aux_lemma => kernel_rfl) (by as_aux_lemma => kernel_rfl) (fun _ _ _ h => h) (Or.inl ⟨by rfl, ?_⟩) (by assumption) ?_
  rotate_left
  · intro wq hSw
    go_simp
    try with_reducible rfl
  simp only [Act.put, List.setIfInBounds_toArray, List.set_cons_zero, List.set_cons_succ]
  refine wpAnyH_take (i := 7) (oi := { dst := some 65, op := Op.binOp BinOp.add 9 (Operand.tmp 61) (Operand.tmp 64) 9, type := 9, pos := "law.go:99", after := #[{ on := 3, ground := Ground.data }, { on := 6, ground := Ground.data }], guard := none }) (v := .string (s.extract 0 K ++ ⟨#[32]⟩ ++ s.extract K s.size)) rfl (by as_aux_lemma => kernel_rfl) (by as_aux_lemma => kernel_rfl) (by as_aux_lemma => kernel_rfl) (fun _ _ _ h => h) (Or.inl ⟨by rfl, ?_⟩) (by assumption) ?_
  · intro wq hSw
    go_simp
    first | omega | rw [if_neg (by omega)]
  simp only [Act.put, List.setIfInBounds_toArray, List.set_cons_zero, List.set_cons_succ]
  refine wpAnyH_ready (rs := [8, 12]) (by as_aux_lemma => kernel_rfl) (by simp) ?_
  refine AllReadyH.cons (o := { dst := some 66, op := Op.call { callee := Callee.value (Operand.func 8), args := #[Operand.tmp 65], argTypes := #[9] }, type := 29, pos := "law.go:99", after := #[{ on := 7, ground := Ground.data }], guard := none }) rfl (fun K2 hK => ?_) (AllReadyH.cons (o := { dst := some 12, op := Op.alloc 26, type := 0, pos := "law.go:99", after := #[], guard := none }) rfl (fun K2 hK => ?_) AllReadyH.nil)
  · go_simp
    go_at_call 8
    try rw [hCAT]
    refine (HP3.out _ (HW.out.below hd).vb).mono ?_
    rintro e3 w3 ⟨p3, rfl, hb3⟩
    have hd3 : Below w.heap.size w w3 := Below.step hd hb3
    refine hK.out _ _ hd3 (fun hHeld => ?_)
    clear hK K2
    try simp only [Act.put, List.setIfInBounds_toArray, List.set_cons_zero, List.set_cons_succ]
    refine wpAnyH_take (i := 9) (oi := { dst := some 57, op := Op.move (Operand.tmp 66), type := 29, pos := "law.go:99", after := #[{ on := 8, ground := Ground.data }], guard := none }) (v := ?_) rfl (by as_aux_lemma => kernel_rfl) (by as_aux_lemma => kernel_rfl) (by as_aux_lemma => kernel_rfl) (fun _ _ _ h => h) (Or.inl ⟨by rfl, ?_⟩) (by assumption) ?_
    rotate_left
    · intro wq hSw
      go_simp
      try with_reducible rfl
    simp only [Act.put, List.setIfInBounds_toArray, List.set_cons_zero, List.set_cons_succ]
    refine wpAnyH_take (i := 10) (oi := { dst := some 67, op := Op.extract (Operand.tmp 57) 0, type := 26, pos := "law.go:99", after := #[{ on := 9, ground := Ground.data }], guard := none }) (v := ?_) rfl (by as_aux_lemma => kernel_rfl) (by as_aux_lemma => kernel_rfl) (by as_aux_lemma => kernel_rfl) (fun _ _ _ h => h) (Or.inl ⟨by rfl, ?_⟩) (by assumption) ?_
    rotate_left
    · intro wq hSw
      go_simp
      try with_reducible rfl
    simp only [Act.put, List.setIfInBounds_toArray, List.set_cons_zero, List.set_cons_succ]
    refine wpAnyH_take (i := 11) (oi := { dst := some 68, op := Op.extract (Operand.tmp 57) 1, type := 28, pos := "law.go:99", after := #[{ on := 9, ground := Ground.data }, { on := 13, ground := Ground.gcOnly Departure.lateStores }], guard := none }) (v := ?_) rfl (by as_aux_lemma => kernel_rfl) (by as_aux_lemma => kernel_rfl) (by as_aux_lemma => kernel_rfl) (fun _ _ _ h => h) (Or.inl ⟨by rfl, ?_⟩) (by assumption) ?_
    rotate_left
    · intro wq hSw
      go_simp
      try with_reducible rfl
    simp only [Act.put, List.setIfInBounds_toArray, List.set_cons_zero, List.set_cons_succ]
    refine wpAnyH_ready (rs := [12]) (by as_aux_lemma => kernel_rfl) (by simp) ?_
    refine AllReadyH.cons (o := { dst := some 12, op := Op.alloc 26, type := 0, pos := "law.go:99", after := #[], guard := none }) rfl (fun K2 hK => ?_) AllReadyH.nil
    go_simp
    have gz4 : Below w3.heap.size (w3) ((w3).alloc (.cells (List.toArray [.int .i64 0, .int .i64 0, .int .i64 0, .int .i64 0, .int .i64 0, .int .i64 0, .int .i64 0, .int .i64 0, .int .i64 0]) 26)) := by go_grown
    have hd4 : Below w.heap.size w _ := Below.step hd3 gz4
    refine hK.out _ _ hd4 (fun hHeld => ?_)
    clear hK K2
    try simp only [Act.put, List.setIfInBounds_toArray, List.set_cons_zero, List.set_cons_succ]
    have HD9 := hd4
    refine wpAnyH_ready (rs := [13]) (by as_aux_lemma => kernel_rfl) (by simp) ?_
    refine AllReadyH.cons (o := { dst := none, op := Op.store 26 (Operand.tmp 12) (Operand.tmp 67), type := 0, pos := "law.go:99", after := #[{ on := 12, ground := Ground.data }, { on := 10, ground := Ground.data }, { on := 8, ground := Ground.chain }, { on := 0, ground := Ground.phase }, { on := 1, ground := Ground.phase }, { on := 2, ground := Ground.phase }, { on := 3, ground := Ground.phase }, { on := 4, ground := Ground.phase }, { on := 5, ground := Ground.phase }, { on := 6, ground := Ground.phase }, { on := 7, ground := Ground.phase }, { on := 8, ground := Ground.phase }, { on := 9, ground := Ground.phase }, { on := 10, ground := Ground.phase }, { on := 11, ground := Ground.textOnly Departure.lateStores }, { on := 12, ground := Ground.phase }], guard := none }) rfl (fun K2 hK => ?_) AllReadyH.nil
    refine wp_store_bl 26 (.tmp 12) (.tmp 67) rfl w3.heap.size [.int .i64 0, .int .i64 0, .int .i64 0, .int .i64 0, .int .i64 0, .int .i64 0, .int .i64 0, .int .i64 0, .int .i64 0] [.int .i64 0, .int .i64 0, .int .i64 0, .int .i64 0, .int .i64 0, .int .i64 0, .int .i64 0, .int .i64 0, .int .i64 0] rfl rfl (Bl.new w3 [.int .i64 0, .int .i64 0, .int .i64 0, .int .i64 0, .int .i64 0, .int .i64 0, .int .i64 0, .int .i64 0, .int .i64 0] 26) rfl (by kernel_rfl) rfl (fun w8 hb8 hk8 hs8 hbel8 => ?_)
    have hd9 : Below w.heap.size w w8 := hbel8 _ _ (by first | exact (hd3).size | (have h1 := (hd3).size; omega)) HD9
    refine hK.out _ _ hd9 (fun hHeld => ?_)
    clear hK K2
    try simp only [Act.put, List.setIfInBounds_toArray, List.set_cons_zero, List.set_cons_succ]
    refine wpAnyH_take (i := 14) (oi := { dst := some 13, op := Op.assign (Operand.tmp 68), type := 28, pos := "law.go:99", after := #[{ on := 11, ground := Ground.data }, { on := 13, ground := Ground.chain }, { on := 0, ground := Ground.phase }, { on := 1, ground := Ground.phase }, { on := 2, ground := Ground.phase }, { on := 3, ground := Ground.phase }, { on := 4, ground := Ground.phase }, { on := 5, ground := Ground.phase }, { on := 6, ground := Ground.phase }, { on := 7, ground := Ground.phase }, { on := 8, ground := Ground.phase }, { on := 9, ground := Ground.phase }, { on := 10, ground := Ground.phase }, { on := 11, ground := Ground.phase }, { on := 12, ground := Ground.phase }, { on := 13, ground := Ground.phase }], guard := none }) (v := ?_) rfl (by as_aux_lemma => kernel_rfl) (by as_aux_lemma => kernel_rfl) (by as_aux_lemma => kernel_rfl) (fun _ _ _ h => h) (Or.inl ⟨by rfl, ?_⟩) (by assumption) ?_
    rotate_left
    · intro wq hSw
      go_simp
      try with_reducible rfl
    simp only [Act.put, List.setIfInBounds_toArray, List.set_cons_zero, List.set_cons_succ]
    refine wpAnyH_done (by as_aux_lemma => kernel_rfl) ?_ _
    go_wp2_with fail
    refine (HA.out _ (HW.out.below hd9)).mono ?_
    rintro e w' ⟨rfl, hb⟩
    go_wp2_with fail
    go_ret
    exact ⟨rfl, Below.step hd9 hb⟩
  · go_simp
    have gz7 : Below (((w2.alloc (.cells (List.toArray [.int .i64 c0, .int .i64 c1, .int .i64 c2, .int .i64 c3, .int .i64 c4, .int .i64 c5, .int .i64 c6, .int .i64 c7, .int .i64 c8]) 26)).drew)).heap.size ((w2.alloc (.cells (List.toArray [.int .i64 c0, .int .i64 c1, .int .i64 c2, .int .i64 c3, .int .i64 c4, .int .i64 c5, .int .i64 c6, .int .i64 c7, .int .i64 c8]) 26)).drew) ((((w2.alloc (.cells (List.toArray [.int .i64 c0, .int .i64 c1, .int .i64 c2, .int .i64 c3, .int .i64 c4, .int .i64 c5, .int .i64 c6, .int .i64 c7, .int .i64 c8]) 26)).drew)).alloc (.cells (List.toArray [.int .i64 0, .int .i64 0, .int .i64 0, .int .i64 0, .int .i64 0, .int .i64 0, .int .i64 0, .int .i64 0, .int .i64 0]) 26)) := by go_grown
    have sz7 : (((w2.alloc (.cells (List.toArray [.int .i64 c0, .int .i64 c1, .int .i64 c2, .int .i64 c3, .int .i64 c4, .int .i64 c5, .int .i64 c6, .int .i64 c7, .int .i64 c8]) 26)).drew)).heap.size = w2.heap.size + 1 := World.size_alloc ..
    have bz7 := Bl.new ((w2.alloc (.cells (List.toArray [.int .i64 c0, .int .i64 c1, .int .i64 c2, .int .i64 c3, .int .i64 c4, .int .i64 c5, .int .i64 c6, .int .i64 c7, .int .i64 c8]) 26)).drew) [.int .i64 0, .int .i64 0, .int .i64 0, .int .i64 0, .int .i64 0, .int .i64 0, .int .i64 0, .int .i64 0, .int .i64 0] 26
    rw [sz7] at bz7
    have hd7 : Below w.heap.size w ((((w2.alloc (.cells (List.toArray [.int .i64 c0, .int .i64 c1, .int .i64 c2, .int .i64 c3, .int .i64 c4, .int .i64 c5, .int .i64 c6, .int .i64 c7, .int .i64 c8]) 26)).drew)).alloc (.cells (List.toArray [.int .i64 0, .int .i64 0, .int .i64 0, .int .i64 0, .int .i64 0, .int .i64 0, .int .i64 0, .int .i64 0, .int .i64 0]) 26)) := Below.step hd gz7
    refine hK.out _ _ hd7 (fun hHeld => ?_)
    clear hK K2
    try simp only [Act.put, List.setIfInBounds_toArray, List.set_cons_zero, List.set_cons_succ]
    refine wpAnyH_ready (rs := [8]) (by as_aux_lemma => kernel_rfl) (by simp) ?_
    refine AllReadyH.cons (o := { dst := some 66, op := Op.call { callee := Callee.value (Operand.func 8), args := #[Operand.tmp 65], argTypes := #[9] }, type := 29, pos := "law.go:99", after := #[{ on := 7, ground := Ground.data }], guard := none }) rfl (fun K2 hK => ?_) AllReadyH.nil
    go_simp
    go_at_call 8
    try rw [hCAT]
    refine (HP3.out _ (HW.out.below hd7).vb).mono ?_
    rintro e3 w3 ⟨p3, rfl, hb3⟩
    have HD9 : Below w.heap.size w w3 := Below.step hd7 hb3
    have bz8 := bz7.below hb3
    refine hK.out _ _ HD9 (fun hHeld => ?_)
    clear hK K2
    try simp only [Act.put, List.setIfInBounds_toArray, List.set_cons_zero, List.set_cons_succ]
    refine wpAnyH_take (i := 9) (oi := { dst := some 57, op := Op.move (Operand.tmp 66), type := 29, pos := "law.go:99", after := #[{ on := 8, ground := Ground.data }], guard := none }) (v := ?_) rfl (by as_aux_lemma => kernel_rfl) (by as_aux_lemma => kernel_rfl) (by as_aux_lemma => kernel_rfl) (fun _ _ _ h => h) (Or.inl ⟨by rfl, ?_⟩) (by assumption) ?_
    rotate_left
    · intro wq hSw
      go_simp
      try with_reducible rfl
    simp only [Act.put, List.setIfInBounds_toArray, List.set_cons_zero, List.set_cons_succ]
    refine wpAnyH_take (i := 10) (oi := { dst := some 67, op := Op.extract (Operand.tmp 57) 0, type := 26, pos := "law.go:99", after := #[{ on := 9, ground := Ground.data }], guard := none }) (v := ?_) rfl (by as_aux_lemma => kernel_rfl) (by as_aux_lemma => kernel_rfl) (by as_aux_lemma => kernel_rfl) (fun _ _ _ h => h) (Or.inl ⟨by rfl, ?_⟩) (by assumption) ?_
    rotate_left
    · intro wq hSw
      go_simp
      try with_reducible rfl
    simp only [Act.put, List.setIfInBounds_toArray, List.set_cons_zero, List.set_cons_succ]
    refine wpAnyH_take (i := 11) (oi := { dst := some 68, op := Op.extract (Operand.tmp 57) 1, type := 28, pos := "law.go:99", after := #[{ on := 9, ground := Ground.data }, { on := 13, ground := Ground.gcOnly Departure.lateStores }], guard := none }) (v := ?_) rfl (by as_aux_lemma => kernel_rfl) (by as_aux_lemma => kernel_rfl) (by as_aux_lemma => kernel_rfl) (fun _ _ _ h => h) (Or.inl ⟨by rfl, ?_⟩) (by assumption) ?_
    rotate_left
    · intro wq hSw
      go_simp
      try with_reducible rfl
    simp only [Act.put, List.setIfInBounds_toArray, List.set_cons_zero, List.set_cons_succ]
    refine wpAnyH_ready (rs := [13]) (by as_aux_lemma => kernel_rfl) (by simp) ?_
    refine AllReadyH.cons (o := { dst := none, op := Op.store 26 (Operand.tmp 12) (Operand.tmp 67), type := 0, pos := "law.go:99", after := #[{ on := 12, ground := Ground.data }, { on := 10, ground := Ground.data }, { on := 8, ground := Ground.chain }, { on := 0, ground := Ground.phase }, { on := 1, ground := Ground.phase }, { on := 2, ground := Ground.phase }, { on := 3, ground := Ground.phase }, { on := 4, ground := Ground.phase }, { on := 5, ground := Ground.phase }, { on := 6, ground := Ground.phase }, { on := 7, ground := Ground.phase }, { on := 8, ground := Ground.phase }, { on := 9, ground := Ground.phase }, { on := 10, ground := Ground.phase }, { on := 11, ground := Ground.textOnly Departure.lateStores }, { on := 12, ground := Ground.phase }], guard := none }) rfl (fun K2 hK => ?_) AllReadyH.nil
    refine wp_store_bl 26 (.tmp 12) (.tmp 67) rfl (w2.heap.size + 1) [.int .i64 0, .int .i64 0, .int .i64 0, .int .i64 0, .int .i64 0, .int .i64 0, .int .i64 0, .int .i64 0, .int .i64 0] [.int .i64 0, .int .i64 0, .int .i64 0, .int .i64 0, .int .i64 0, .int .i64 0, .int .i64 0, .int .i64 0, .int .i64 0] rfl rfl bz8 rfl (by kernel_rfl) rfl (fun w8 hb8 hk8 hs8 hbel8 => ?_)
    have hd9 : Below w.heap.size w w8 := hbel8 _ _ (by have h1 := hd.size; rw [sz7] at h1; exact h1) HD9
    refine hK.out _ _ hd9 (fun hHeld => ?_)
    clear hK K2
    try simp only [Act.put, List.setIfInBounds_toArray, List.set_cons_zero, List.set_cons_succ]
    refine wpAnyH_take (i := 14) (oi := { dst := some 13, op := Op.assign (Operand.tmp 68), type := 28, pos := "law.go:99", after := #[{ on := 11, ground := Ground.data }, { on := 13, ground := Ground.chain }, { on := 0, ground := Ground.phase }, { on := 1, ground := Ground.phase }, { on := 2, ground := Ground.phase }, { on := 3, ground := Ground.phase }, { on := 4, ground := Ground.phase }, { on := 5, ground := Ground.phase }, { on := 6, ground := Ground.phase }, { on := 7, ground := Ground.phase }, { on := 8, ground := Ground.phase }, { on := 9, ground := Ground.phase }, { on := 10, ground := Ground.phase }, { on := 11, ground := Ground.phase }, { on := 12, ground := Ground.phase }, { on := 13, ground := Ground.phase }], guard := none }) (v := ?_) rfl (by as_aux_lemma => kernel_rfl) (by as_aux_lemma => kernel_rfl) (by as_aux_lemma => kernel_rfl) (fun _ _ _ h => h) (Or.inl ⟨by rfl, ?_⟩) (by assumption) ?_
    rotate_left
    · intro wq hSw
      go_simp
      try with_reducible rfl
    simp only [Act.put, List.setIfInBounds_toArray, List.set_cons_zero, List.set_cons_succ]
    refine wpAnyH_done (by as_aux_lemma => kernel_rfl) ?_ _
    go_wp2_with fail
    refine (HA.out _ (HW.out.below hd9)).mono ?_
    rintro e w' ⟨rfl, hb⟩
    go_wp2_with fail
    go_ret
    exact ⟨rfl, Below.step hd9 hb⟩
set_option maxRecDepth 100000 in
set_option maxHeartbeats 8000000 in
theorem way_ne (s t : ByteArray) (at_ : Int) (w : World) (hw : Wd w) (hs : s.size ≤ 190) (ht : t.size ≤ 190) (hat : 0 ≤ at_ ∧ at_ ≤ 255) (c0 c1 c2 c3 c4 c5 c6 c7 c8 : Int) (h1 : lp s = .ok [c0, c1, c2, c3, c4, c5, c6, c7, c8]) (b0 b1 b2 b3 b4 b5 b6 b7 b8 : Int) (h2 : lp t = .ok [b0, b1, b2, b3, b4, b5, b6, b7, b8]) (hne : ¬ (c0 = b0 ∧ c1 = b1 ∧ c2 = b2 ∧ c3 = b3 ∧ c4 = b4 ∧ c5 = b5 ∧ c6 = b6 ∧ c7 = b7 ∧ c8 = b8)) (hst : s ≠ t) : Calls Tryd.prog 6 #[.string s, .string t, .int .u8 at_] w fun e w' => e = .returned (.bool true) ∧ Below w.heap.size w w' := by
  have HA := Lib.hid (fun W hW => awake_is W hW)
  have HW := Lib.hid hw
  have HB0 := Lib.hid (Below.refl w.heap.size w)
  have g0 : decide ((190 : Int) < (s.size : Int)) = false := decide_eq_false (by omega)
  have g1 : decide ((190 : Int) < (t.size : Int)) = false := decide_eq_false (by omega)
  obtain ⟨K, hK, hKs⟩ := rem_of s at_ hat.1
  have HP3 := Lib.hid (fun W hv => third_er s h1 hs K W hv)
  have HCAT := Lib.hid (cat_is s K hKs)
  have HP1 := Lib.hid (fun W hv => parse_ok s (by omega) c0 c1 c2 c3 c4 c5 c6 c7 c8 h1 W hv)
  have k0 : (0 : Int) ≤ (K : Int) := by omega
  have k1 : (K : Int) ≤ (s.size : Int) := by omega
  have a0 : 0 ≤ at_ := hat.1
  have a1 : at_ ≤ 255 := hat.2
  have s1 : (s.size : Int) ≤ 190 := by omega
  have s0 : (0 : Int) ≤ (s.size : Int) := by omega
  have dv : ((s.size : Int) + 1 == 0) = false := by rw [beq_eq_false_iff_ne]; omega
  have HP2 := Lib.hid (fun W hv => parse_ok t (by omega) b0 b1 b2 b3 b4 b5 b6 b7 b8 h2 W hv)
  have ea := fun W => nelAsk c0 c1 c2 c3 c4 c5 c6 c7 c8 b0 b1 b2 b3 b4 b5 b6 b7 b8 W hne
  have es : (s.toList == t.toList) = false := by
    rw [beq_eq_false_iff_ne]
    intro e
    rw [ByteArray.toList_eq, ByteArray.toList_eq] at e
    exact hst (by rw [← Bs_of s, ← Bs_of t, e])
  clear h2 hne hst
  clear h1 hs ht hw hat hKs
  go_enter Tryd.func6, Tryd.ntmps6
  go_wp2_with fail
  refine (HP1.out _ (HW.out.below HB0.out).vb).mono ?_
  rintro e1 w1 ⟨rfl, hb1⟩
  have g1 : Below w1.heap.size w1 (w1.alloc (.cells (List.toArray [.int .i64 c0, .int .i64 c1, .int .i64 c2, .int .i64 c3, .int .i64 c4, .int .i64 c5, .int .i64 c6, .int .i64 c7, .int .i64 c8]) 26)) := by go_grown
  have HB1 := Lib.hid (Below.step (Below.step HB0.out hb1) g1)
  have b1l := Bl.new w1 [.int .i64 c0, .int .i64 c1, .int .i64 c2, .int .i64 c3, .int .i64 c4, .int .i64 c5, .int .i64 c6, .int .i64 c7, .int .i64 c8] 26
  have HL1 := Lib.hid b1l
  clear g1 hb1 b1l HP1
  go_wp2_with fail
  refine (HP2.out _ (HW.out.below HB1.out).vb).mono ?_
  rintro e2 w2 ⟨rfl, hb2⟩
  have g2 : Below w2.heap.size w2 (w2.alloc (.cells (List.toArray [.int .i64 b0, .int .i64 b1, .int .i64 b2, .int .i64 b3, .int .i64 b4, .int .i64 b5, .int .i64 b6, .int .i64 b7, .int .i64 b8]) 26)) := by go_grown
  have HB2 := Lib.hid (Below.step (Below.step HB1.out hb2) g2)
  have b2l := Bl.new w2 [.int .i64 b0, .int .i64 b1, .int .i64 b2, .int .i64 b3, .int .i64 b4, .int .i64 b5, .int .i64 b6, .int .i64 b7, .int .i64 b8] 26
  have HL2 := Lib.hid b2l
  have HL1b := HL1.out.below (Below.step hb2 g2)
  have HL2b := HL2.out
  have x0 := HL1b.cell 0 _ rfl
  have x1 := HL1b.cell 1 _ rfl
  have x2 := HL1b.cell 2 _ rfl
  have x3 := HL1b.cell 3 _ rfl
  have x4 := HL1b.cell 4 _ rfl
  have x5 := HL1b.cell 5 _ rfl
  have x6 := HL1b.cell 6 _ rfl
  have x7 := HL1b.cell 7 _ rfl
  have x8 := HL1b.cell 8 _ rfl
  have y0 := HL2b.cell 0 _ rfl
  have y1 := HL2b.cell 1 _ rfl
  have y2 := HL2b.cell 2 _ rfl
  have y3 := HL2b.cell 3 _ rfl
  have y4 := HL2b.cell 4 _ rfl
  have y5 := HL2b.cell 5 _ rfl
  have y6 := HL2b.cell 6 _ rfl
  have y7 := HL2b.cell 7 _ rfl
  have y8 := HL2b.cell 8 _ rfl
  clear HL1b HL2b
  clear g2 hb2 b2l HP2
  go_wp2_with fail
  have hCAT := HCAT.out
  have hd : Below w.heap.size w _ := HB2.out.drew
  refine wp_region_held_drew (S := fun w' => Below w.heap.size w w') (by kernel_rfl) hd (fun hHeld => ?_)
  refine wpAnyH_take (i := 0) (oi := { dst := some 58, op := Op.move (Operand.tmp 0), type := 9, pos := "law.go:99", after := #[], guard := none }) (v := ?_) rfl (by as_aux_lemma => kernel_rfl) (by as_aux_lemma => kernel_rfl) (by as_aux_lemma => kernel_rfl) (fun _ _ _ h => h) (Or.inl ⟨by rfl, ?_⟩) (by assumption) ?_
  rotate_left
  · intro wq hSw
    go_simp
    try with_reducible rfl
  simp only [Act.put, List.setIfInBounds_toArray, List.set_cons_zero, List.set_cons_succ]
  refine wpAnyH_take (i := 1) (oi := { dst := some 59, op := Op.move (Operand.tmp 11), type := 3, pos := "law.go:99", after := #[], guard := none }) (v := ?_) rfl (by as_aux_lemma => kernel_rfl) (by as_aux_lemma => kernel_rfl) (by as_aux_lemma => kernel_rfl) (fun _ _ _ h => h) (Or.inl ⟨by rfl, ?_⟩) (by assumption) ?_
  rotate_left
  · intro wq hSw
    go_simp
    try with_reducible rfl
  simp only [Act.put, List.setIfInBounds_toArray, List.set_cons_zero, List.set_cons_succ]
  refine wpAnyH_take (i := 2) (oi := { dst := some 60, op := Op.slice 9 (Operand.tmp 58) none (some (Operand.tmp 59)) none, type := 9, pos := "law.go:99", after := #[{ on := 0, ground := Ground.data }, { on := 1, ground := Ground.data }], guard := none }) (v := ?_) rfl (by as_aux_lemma => kernel_rfl) (by as_aux_lemma => kernel_rfl) (by as_aux_lemma => kernel_rfl) (fun _ _ _ h => h) (Or.inl ⟨by rfl, ?_⟩) (by assumption) ?_
  rotate_left
  · intro wq hSw
    go_simp
    try with_reducible rfl
  simp only [Act.put, List.setIfInBounds_toArray, List.set_cons_zero, List.set_cons_succ]
  refine wpAnyH_take (i := 3) (oi := { dst := some 61, op := Op.binOp BinOp.add 9 (Operand.tmp 60) (Operand.const (Value.string { data := #[32] })) 9, type := 9, pos := "law.go:99", after := #[{ on := 2, ground := Ground.data }], guard := none }) (v := .string (s.extract 0 K ++ ⟨#[32]⟩)) rfl (by as_aux_lemma => kernel_rfl) (by as_aux_lemma => kernel_rfl) (by as_aux_lemma => kernel_rfl) (fun _ _ _ h => h) (Or.inl ⟨by rfl, ?_⟩) (by assumption) ?_
  · intro wq hSw
    go_simp
    first | omega | rw [if_neg (by omega)]
  simp only [Act.put, List.setIfInBounds_toArray, List.set_cons_zero, List.set_cons_succ]
  refine wpAnyH_take (i := 4) (oi := { dst := some 62, op := Op.move (Operand.tmp 0), type := 9, pos := "law.go:99", after := #[], guard := none }) (v := ?_) rfl (by as_aux_lemma => kernel_rfl) (by as_aux_lemma => kernel_rfl) (by as_aux_lemma => kernel_rfl) (fun _ _ _ h => h) (Or.inl ⟨by rfl, ?_⟩) (by assumption) ?_
  rotate_left
  · intro wq hSw
    go_simp
    try with_reducible rfl
  simp only [Act.put, List.setIfInBounds_toArray, List.set_cons_zero, List.set_cons_succ]
  refine wpAnyH_take (i := 5) (oi := { dst := some 63, op := Op.move (Operand.tmp 11), type := 3, pos := "law.go:99", after := #[], guard := none }) (v := ?_) rfl (by as_aux_lemma => kernel_rfl) (by as_aux_lemma => kernel_rfl) (by as_aux_lemma => kernel_rfl) (fun _ _ _ h => h) (Or.inl ⟨by rfl, ?_⟩) (by assumption) ?_
  rotate_left
  · intro wq hSw
    go_simp
    try with_reducible rfl
  simp only [Act.put, List.setIfInBounds_toArray, List.set_cons_zero, List.set_cons_succ]
  refine wpAnyH_take (i := 6) (oi := { dst := some 64, op := Op.slice 9 (Operand.tmp 62) (some (Operand.tmp 63)) none none, type := 9, pos := "law.go:99", after := #[{ on := 4, ground := Ground.data }, { on := 5, ground := Ground.data }], guard := none }) (v := ?_) rfl (by as_aux_lemma => kernel_rfl) (by as_aux_lemma => kernel_rfl) (by as_aux_lemma => kernel_rfl) (fun _ _ _ h => h) (Or.inl ⟨by rfl, ?_⟩) (by assumption) ?_
  rotate_left
  · intro wq hSw
    go_simp
    try with_reducible rfl
  simp only [Act.put, List.setIfInBounds_toArray, List.set_cons_zero, List.set_cons_succ]
  refine wpAnyH_take (i := 7) (oi := { dst := some 65, op := Op.binOp BinOp.add 9 (Operand.tmp 61) (Operand.tmp 64) 9, type := 9, pos := "law.go:99", after := #[{ on := 3, ground := Ground.data }, { on := 6, ground := Ground.data }], guard := none }) (v := .string (s.extract 0 K ++ ⟨#[32]⟩ ++ s.extract K s.size)) rfl (by as_aux_lemma => kernel_rfl) (by as_aux_lemma => kernel_rfl) (by as_aux_lemma => kernel_rfl) (fun _ _ _ h => h) (Or.inl ⟨by rfl, ?_⟩) (by assumption) ?_
  · intro wq hSw
    go_simp
    first | omega | rw [if_neg (by omega)]
  simp only [Act.put, List.setIfInBounds_toArray, List.set_cons_zero, List.set_cons_succ]
  refine wpAnyH_ready (rs := [8, 12]) (by as_aux_lemma => kernel_rfl) (by simp) ?_
  refine AllReadyH.cons (o := { dst := some 66, op := Op.call { callee := Callee.value (Operand.func 8), args := #[Operand.tmp 65], argTypes := #[9] }, type := 29, pos := "law.go:99", after := #[{ on := 7, ground := Ground.data }], guard := none }) rfl (fun K2 hK => ?_) (AllReadyH.cons (o := { dst := some 12, op := Op.alloc 26, type := 0, pos := "law.go:99", after := #[], guard := none }) rfl (fun K2 hK => ?_) AllReadyH.nil)
  · go_simp
    go_at_call 8
    try rw [hCAT]
    refine (HP3.out _ (HW.out.below hd).vb).mono ?_
    rintro e3 w3 ⟨p3, rfl, hb3⟩
    have hd3 : Below w.heap.size w w3 := Below.step hd hb3
    refine hK.out _ _ hd3 (fun hHeld => ?_)
    clear hK K2
    try simp only [Act.put, List.setIfInBounds_toArray, List.set_cons_zero, List.set_cons_succ]
    refine wpAnyH_take (i := 9) (oi := { dst := some 57, op := Op.move (Operand.tmp 66), type := 29, pos := "law.go:99", after := #[{ on := 8, ground := Ground.data }], guard := none }) (v := ?_) rfl (by as_aux_lemma => kernel_rfl) (by as_aux_lemma => kernel_rfl) (by as_aux_lemma => kernel_rfl) (fun _ _ _ h => h) (Or.inl ⟨by rfl, ?_⟩) (by assumption) ?_
    rotate_left
    · intro wq hSw
      go_simp
      try with_reducible rfl
    simp only [Act.put, List.setIfInBounds_toArray, List.set_cons_zero, List.set_cons_succ]
    refine wpAnyH_take (i := 10) (oi := { dst := some 67, op := Op.extract (Operand.tmp 57) 0, type := 26, pos := "law.go:99", after := #[{ on := 9, ground := Ground.data }], guard := none }) (v := ?_) rfl (by as_aux_lemma => kernel_rfl) (by as_aux_lemma => kernel_rfl) (by as_aux_lemma => kernel_rfl) (fun _ _ _ h => h) (Or.inl ⟨by rfl, ?_⟩) (by assumption) ?_
    rotate_left
    · intro wq hSw
      go_simp
      try with_reducible rfl
    simp only [Act.put, List.setIfInBounds_toArray, List.set_cons_zero, List.set_cons_succ]
    refine wpAnyH_take (i := 11) (oi := { dst := some 68, op := Op.extract (Operand.tmp 57) 1, type := 28, pos := "law.go:99", after := #[{ on := 9, ground := Ground.data }, { on := 13, ground := Ground.gcOnly Departure.lateStores }], guard := none }) (v := ?_) rfl (by as_aux_lemma => kernel_rfl) (by as_aux_lemma => kernel_rfl) (by as_aux_lemma => kernel_rfl) (fun _ _ _ h => h) (Or.inl ⟨by rfl, ?_⟩) (by assumption) ?_
    rotate_left
    · intro wq hSw
      go_simp
      try with_reducible rfl
    simp only [Act.put, List.setIfInBounds_toArray, List.set_cons_zero, List.set_cons_succ]
    refine wpAnyH_ready (rs := [12]) (by as_aux_lemma => kernel_rfl) (by simp) ?_
    refine AllReadyH.cons (o := { dst := some 12, op := Op.alloc 26, type := 0, pos := "law.go:99", after := #[], guard := none }) rfl (fun K2 hK => ?_) AllReadyH.nil
    go_simp
    have gz4 : Below w3.heap.size (w3) ((w3).alloc (.cells (List.toArray [.int .i64 0, .int .i64 0, .int .i64 0, .int .i64 0, .int .i64 0, .int .i64 0, .int .i64 0, .int .i64 0, .int .i64 0]) 26)) := by go_grown
    have hd4 : Below w.heap.size w _ := Below.step hd3 gz4
    refine hK.out _ _ hd4 (fun hHeld => ?_)
    clear hK K2
    try simp only [Act.put, List.setIfInBounds_toArray, List.set_cons_zero, List.set_cons_succ]
    have HD9 := hd4
    refine wpAnyH_ready (rs := [13]) (by as_aux_lemma => kernel_rfl) (by simp) ?_
    refine AllReadyH.cons (o := { dst := none, op := Op.store 26 (Operand.tmp 12) (Operand.tmp 67), type := 0, pos := "law.go:99", after := #[{ on := 12, ground := Ground.data }, { on := 10, ground := Ground.data }, { on := 8, ground := Ground.chain }, { on := 0, ground := Ground.phase }, { on := 1, ground := Ground.phase }, { on := 2, ground := Ground.phase }, { on := 3, ground := Ground.phase }, { on := 4, ground := Ground.phase }, { on := 5, ground := Ground.phase }, { on := 6, ground := Ground.phase }, { on := 7, ground := Ground.phase }, { on := 8, ground := Ground.phase }, { on := 9, ground := Ground.phase }, { on := 10, ground := Ground.phase }, { on := 11, ground := Ground.textOnly Departure.lateStores }, { on := 12, ground := Ground.phase }], guard := none }) rfl (fun K2 hK => ?_) AllReadyH.nil
    refine wp_store_bl 26 (.tmp 12) (.tmp 67) rfl w3.heap.size [.int .i64 0, .int .i64 0, .int .i64 0, .int .i64 0, .int .i64 0, .int .i64 0, .int .i64 0, .int .i64 0, .int .i64 0] [.int .i64 0, .int .i64 0, .int .i64 0, .int .i64 0, .int .i64 0, .int .i64 0, .int .i64 0, .int .i64 0, .int .i64 0] rfl rfl (Bl.new w3 [.int .i64 0, .int .i64 0, .int .i64 0, .int .i64 0, .int .i64 0, .int .i64 0, .int .i64 0, .int .i64 0, .int .i64 0] 26) rfl (by kernel_rfl) rfl (fun w8 hb8 hk8 hs8 hbel8 => ?_)
    have hd9 : Below w.heap.size w w8 := hbel8 _ _ (by first | exact (hd3).size | (have h1 := (hd3).size; omega)) HD9
    refine hK.out _ _ hd9 (fun hHeld => ?_)
    clear hK K2
    try simp only [Act.put, List.setIfInBounds_toArray, List.set_cons_zero, List.set_cons_succ]
    refine wpAnyH_take (i := 14) (oi := { dst := some 13, op := Op.assign (Operand.tmp 68), type := 28, pos := "law.go:99", after := #[{ on := 11, ground := Ground.data }, { on := 13, ground := Ground.chain }, { on := 0, ground := Ground.phase }, { on := 1, ground := Ground.phase }, { on := 2, ground := Ground.phase }, { on := 3, ground := Ground.phase }, { on := 4, ground := Ground.phase }, { on := 5, ground := Ground.phase }, { on := 6, ground := Ground.phase }, { on := 7, ground := Ground.phase }, { on := 8, ground := Ground.phase }, { on := 9, ground := Ground.phase }, { on := 10, ground := Ground.phase }, { on := 11, ground := Ground.phase }, { on := 12, ground := Ground.phase }, { on := 13, ground := Ground.phase }], guard := none }) (v := ?_) rfl (by as_aux_lemma => kernel_rfl) (by as_aux_lemma => kernel_rfl) (by as_aux_lemma => kernel_rfl) (fun _ _ _ h => h) (Or.inl ⟨by rfl, ?_⟩) (by assumption) ?_
    rotate_left
    · intro wq hSw
      go_simp
      try with_reducible rfl
    simp only [Act.put, List.setIfInBounds_toArray, List.set_cons_zero, List.set_cons_succ]
    refine wpAnyH_done (by as_aux_lemma => kernel_rfl) ?_ _
    go_wp2_with fail
    refine (HA.out _ (HW.out.below hd9)).mono ?_
    rintro e w' ⟨rfl, hb⟩
    go_wp2_with fail
    go_ret
    exact ⟨rfl, Below.step hd9 hb⟩
  · go_simp
    have gz7 : Below (((w2.alloc (.cells (List.toArray [.int .i64 b0, .int .i64 b1, .int .i64 b2, .int .i64 b3, .int .i64 b4, .int .i64 b5, .int .i64 b6, .int .i64 b7, .int .i64 b8]) 26)).drew)).heap.size ((w2.alloc (.cells (List.toArray [.int .i64 b0, .int .i64 b1, .int .i64 b2, .int .i64 b3, .int .i64 b4, .int .i64 b5, .int .i64 b6, .int .i64 b7, .int .i64 b8]) 26)).drew) ((((w2.alloc (.cells (List.toArray [.int .i64 b0, .int .i64 b1, .int .i64 b2, .int .i64 b3, .int .i64 b4, .int .i64 b5, .int .i64 b6, .int .i64 b7, .int .i64 b8]) 26)).drew)).alloc (.cells (List.toArray [.int .i64 0, .int .i64 0, .int .i64 0, .int .i64 0, .int .i64 0, .int .i64 0, .int .i64 0, .int .i64 0, .int .i64 0]) 26)) := by go_grown
    have sz7 : (((w2.alloc (.cells (List.toArray [.int .i64 b0, .int .i64 b1, .int .i64 b2, .int .i64 b3, .int .i64 b4, .int .i64 b5, .int .i64 b6, .int .i64 b7, .int .i64 b8]) 26)).drew)).heap.size = w2.heap.size + 1 := World.size_alloc ..
    have bz7 := Bl.new ((w2.alloc (.cells (List.toArray [.int .i64 b0, .int .i64 b1, .int .i64 b2, .int .i64 b3, .int .i64 b4, .int .i64 b5, .int .i64 b6, .int .i64 b7, .int .i64 b8]) 26)).drew) [.int .i64 0, .int .i64 0, .int .i64 0, .int .i64 0, .int .i64 0, .int .i64 0, .int .i64 0, .int .i64 0, .int .i64 0] 26
    rw [sz7] at bz7
    have hd7 : Below w.heap.size w ((((w2.alloc (.cells (List.toArray [.int .i64 b0, .int .i64 b1, .int .i64 b2, .int .i64 b3, .int .i64 b4, .int .i64 b5, .int .i64 b6, .int .i64 b7, .int .i64 b8]) 26)).drew)).alloc (.cells (List.toArray [.int .i64 0, .int .i64 0, .int .i64 0, .int .i64 0, .int .i64 0, .int .i64 0, .int .i64 0, .int .i64 0, .int .i64 0]) 26)) := Below.step hd gz7
    refine hK.out _ _ hd7 (fun hHeld => ?_)
    clear hK K2
    try simp only [Act.put, List.setIfInBounds_toArray, List.set_cons_zero, List.set_cons_succ]
    refine wpAnyH_ready (rs := [8]) (by as_aux_lemma => kernel_rfl) (by simp) ?_
    refine AllReadyH.cons (o := { dst := some 66, op := Op.call { callee := Callee.value (Operand.func 8), args := #[Operand.tmp 65], argTypes := #[9] }, type := 29, pos := "law.go:99", after := #[{ on := 7, ground := Ground.data }], guard := none }) rfl (fun K2 hK => ?_) AllReadyH.nil
    go_simp
    go_at_call 8
    try rw [hCAT]
    refine (HP3.out _ (HW.out.below hd7).vb).mono ?_
    rintro e3 w3 ⟨p3, rfl, hb3⟩
    have HD9 : Below w.heap.size w w3 := Below.step hd7 hb3
    have bz8 := bz7.below hb3
    refine hK.out _ _ HD9 (fun hHeld => ?_)
    clear hK K2
    try simp only [Act.put, List.setIfInBounds_toArray, List.set_cons_zero, List.set_cons_succ]
    refine wpAnyH_take (i := 9) (oi := { dst := some 57, op := Op.move (Operand.tmp 66), type := 29, pos := "law.go:99", after := #[{ on := 8, ground := Ground.data }], guard := none }) (v := ?_) rfl (by as_aux_lemma => kernel_rfl) (by as_aux_lemma => kernel_rfl) (by as_aux_lemma => kernel_rfl) (fun _ _ _ h => h) (Or.inl ⟨by rfl, ?_⟩) (by assumption) ?_
    rotate_left
    · intro wq hSw
      go_simp
      try with_reducible rfl
    simp only [Act.put, List.setIfInBounds_toArray, List.set_cons_zero, List.set_cons_succ]
    refine wpAnyH_take (i := 10) (oi := { dst := some 67, op := Op.extract (Operand.tmp 57) 0, type := 26, pos := "law.go:99", after := #[{ on := 9, ground := Ground.data }], guard := none }) (v := ?_) rfl (by as_aux_lemma => kernel_rfl) (by as_aux_lemma => kernel_rfl) (by as_aux_lemma => kernel_rfl) (fun _ _ _ h => h) (Or.inl ⟨by rfl, ?_⟩) (by assumption) ?_
    rotate_left
    · intro wq hSw
      go_simp
      try with_reducible rfl
    simp only [Act.put, List.setIfInBounds_toArray, List.set_cons_zero, List.set_cons_succ]
    refine wpAnyH_take (i := 11) (oi := { dst := some 68, op := Op.extract (Operand.tmp 57) 1, type := 28, pos := "law.go:99", after := #[{ on := 9, ground := Ground.data }, { on := 13, ground := Ground.gcOnly Departure.lateStores }], guard := none }) (v := ?_) rfl (by as_aux_lemma => kernel_rfl) (by as_aux_lemma => kernel_rfl) (by as_aux_lemma => kernel_rfl) (fun _ _ _ h => h) (Or.inl ⟨by rfl, ?_⟩) (by assumption) ?_
    rotate_left
    · intro wq hSw
      go_simp
      try with_reducible rfl
    simp only [Act.put, List.setIfInBounds_toArray, List.set_cons_zero, List.set_cons_succ]
    refine wpAnyH_ready (rs := [13]) (by as_aux_lemma => kernel_rfl) (by simp) ?_
    refine AllReadyH.cons (o := { dst := none, op := Op.store 26 (Operand.tmp 12) (Operand.tmp 67), type := 0, pos := "law.go:99", after := #[{ on := 12, ground := Ground.data }, { on := 10, ground := Ground.data }, { on := 8, ground := Ground.chain }, { on := 0, ground := Ground.phase }, { on := 1, ground := Ground.phase }, { on := 2, ground := Ground.phase }, { on := 3, ground := Ground.phase }, { on := 4, ground := Ground.phase }, { on := 5, ground := Ground.phase }, { on := 6, ground := Ground.phase }, { on := 7, ground := Ground.phase }, { on := 8, ground := Ground.phase }, { on := 9, ground := Ground.phase }, { on := 10, ground := Ground.phase }, { on := 11, ground := Ground.textOnly Departure.lateStores }, { on := 12, ground := Ground.phase }], guard := none }) rfl (fun K2 hK => ?_) AllReadyH.nil
    refine wp_store_bl 26 (.tmp 12) (.tmp 67) rfl (w2.heap.size + 1) [.int .i64 0, .int .i64 0, .int .i64 0, .int .i64 0, .int .i64 0, .int .i64 0, .int .i64 0, .int .i64 0, .int .i64 0] [.int .i64 0, .int .i64 0, .int .i64 0, .int .i64 0, .int .i64 0, .int .i64 0, .int .i64 0, .int .i64 0, .int .i64 0] rfl rfl bz8 rfl (by kernel_rfl) rfl (fun w8 hb8 hk8 hs8 hbel8 => ?_)
    have hd9 : Below w.heap.size w w8 := hbel8 _ _ (by have h1 := hd.size; rw [sz7] at h1; exact h1) HD9
    refine hK.out _ _ hd9 (fun hHeld => ?_)
    clear hK K2
    try simp only [Act.put, List.setIfInBounds_toArray, List.set_cons_zero, List.set_cons_succ]
    refine wpAnyH_take (i := 14) (oi := { dst := some 13, op := Op.assign (Operand.tmp 68), type := 28, pos := "law.go:99", after := #[{ on := 11, ground := Ground.data }, { on := 13, ground := Ground.chain }, { on := 0, ground := Ground.phase }, { on := 1, ground := Ground.phase }, { on := 2, ground := Ground.phase }, { on := 3, ground := Ground.phase }, { on := 4, ground := Ground.phase }, { on := 5, ground := Ground.phase }, { on := 6, ground := Ground.phase }, { on := 7, ground := Ground.phase }, { on := 8, ground := Ground.phase }, { on := 9, ground := Ground.phase }, { on := 10, ground := Ground.phase }, { on := 11, ground := Ground.phase }, { on := 12, ground := Ground.phase }, { on := 13, ground := Ground.phase }], guard := none }) (v := ?_) rfl (by as_aux_lemma => kernel_rfl) (by as_aux_lemma => kernel_rfl) (by as_aux_lemma => kernel_rfl) (fun _ _ _ h => h) (Or.inl ⟨by rfl, ?_⟩) (by assumption) ?_
    rotate_left
    · intro wq hSw
      go_simp
      try with_reducible rfl
    simp only [Act.put, List.setIfInBounds_toArray, List.set_cons_zero, List.set_cons_succ]
    refine wpAnyH_done (by as_aux_lemma => kernel_rfl) ?_ _
    go_wp2_with fail
    refine (HA.out _ (HW.out.below hd9)).mono ?_
    rintro e w' ⟨rfl, hb⟩
    go_wp2_with fail
    go_ret
    exact ⟨rfl, Below.step hd9 hb⟩
theorem walk (s t : ByteArray) (at_ : Int) (w : World) (hw : Wd w) (hat : 0 ≤ at_ ∧ at_ ≤ 255) : Calls Tryd.prog 6 #[.string s, .string t, .int .u8 at_] w fun e w' => e = .returned (.bool true) ∧ Below w.heap.size w w' := by
  by_cases hl : 190 < s.size ∨ 190 < t.size
  · exact way_long s t at_ w hw hl
  have hs : s.size ≤ 190 := by omega
  have ht : t.size ≤ 190 := by omega
  rcases h1 : lp s with ⟨c, p⟩ | cl
  · exact way_er s t at_ w hw hs ht c p h1
  · obtain ⟨c0, c1, c2, c3, c4, c5, c6, c7, c8, rfl⟩ := lp_nine h1
    rcases h2 : lp t with ⟨c, p⟩ | bl
    · exact way_ok_er s t at_ w hw hs ht hat c0 c1 c2 c3 c4 c5 c6 c7 c8 h1 c p h2
    · obtain ⟨b0, b1, b2, b3, b4, b5, b6, b7, b8, rfl⟩ := lp_nine h2
      by_cases hst : s = t
      · exact way_same s t at_ w hw hs ht hat c0 c1 c2 c3 c4 c5 c6 c7 c8 h1 hst
      · refine way_ne s t at_ w hw hs ht hat c0 c1 c2 c3 c4 c5 c6 c7 c8 h1 b0 b1 b2 b3 b4 b5 b6 b7 b8 h2 (fun h => hst ?_) hst
        obtain ⟨rfl, rfl, rfl, rfl, rfl, rfl, rfl, rfl, rfl⟩ := h
        exact lp_uniq h1 h2
end Go.Proofs.YtnppopeoloigeaaDoor
