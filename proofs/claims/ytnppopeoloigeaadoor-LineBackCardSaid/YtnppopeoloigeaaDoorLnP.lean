/-
  What a line asks: Parse.
-/
import Derived.Test.YtnppopeoloigeaaDoorRows
import Derived.Test.YtnppopeoloigeaaDoorKit
import Derived.Test.YtnppopeoloigeaaDoorApp
import Derived.Test.YtnppopeoloigeaaDoorQuiet
import Derived.WalkKit
import Derived.ProofKit
import Derived.OpenShut
import Derived.ShutString
import Derived.Below
import Derived.Outline
import Derived.WalkLawsBesides
import Derived.WalkSpells
import Derived.Handy
import Derived.Deep.QuietTactic
import Derived.BigQuiet
import Derived.RegionTactic
import Derived.ChangeAlike
import Derived.Lib.Hide
import Derived.Laws.Rows
import Derived.Laws.Tables
import Derived.Laws.CopyOwn
import Derived.Laws.MakeOwn
import Derived.Laws.Entries
import Derived.Laws.OwnMore
import Derived.Deep.WholeRow
import Derived.Deep.LoopGhost
import Derived.Deep.AppendLies
import Derived.Deep.Draws
import Derived.Maps.AppendAt
import Derived.OwnWalk
import Derived.Deep.RegionHeld3
import Derived.Deep.Cut
import Derived.Deep.CutRange
import Derived.Deep.DeepCutAuto
import Derived.Deep.CutBlock
import Derived.Lib.SliceRun
import Derived.IntWalk
import Derived.Laws.Strings
import Derived.Test.YtnppopeoloigeaaDoorLnF
import Derived.Test.YtnppopeoloigeaaDoorLnK
namespace Go.Proofs.YtnppopeoloigeaaDoor
open Go.ChangeShapes Go.WideShapes Go.ChangeAt Go.RowKit
def vis (b : UInt8) : Bool := decide (32 ≤ b.toNat) && decide (b.toNat ≤ 126)
/-- What a line comes to. -/
inductive LR where
  | er (c p : Int)
  | ok (cs : List Int)
inductive LS where
  | er (c p : Int)
  | go (cs : List Int) (r : List UInt8) (m : Bool)
/-- The words behind a verb, one by one. -/
def stp (n : Int) : List (Nat × Bool) → List Int → List UInt8 → Bool → LS
  | [], cs, r, m => .go cs r m
  | (j, b) :: t, cs, r, m => if m = false then .er 11 n else if (rdv b (Bs (cutb r).1)).1 = 0 then stp n t (cs.set j (rdv b (Bs (cutb r).1)).2) (cutb r).2.1 (cutb r).2.2 else .er (rdv b (Bs (cutb r).1)).1 (n - (r.length : Int))
def fin_ (n : Int) : LS → LR
  | .er c p => .er c p
  | .go cs r m => if m = true then .er 12 (n - (r.length : Int)) else .ok cs
/-- The first byte that no line has. -/
def fb (l : List UInt8) : Option Nat := l.findIdx? (fun b => !vis b)
def lp (s : ByteArray) : LR :=
  if 200 < s.size then .er 14 200 else match fb s.data.toList with
  | some i => .er 15 (i : Int)
  | none => if kd (Bs (cutb s.data.toList).1) = 0 then .er 10 0 else fin_ (s.size : Int) (stp (s.size : Int) (tg (kd (Bs (cutb s.data.toList).1))) [kd (Bs (cutb s.data.toList).1), 0, 0, 0, 0, 0, 0, 0, 0] (cutb s.data.toList).2.1 (cutb s.data.toList).2.2)
/-- What Parse hands back. -/
def PP (r : LR) (w : World) (e : Ending) (w' : World) : Prop := match r with
  | .er c p => ∃ v, e = .returned (.tuple #[.agg (List.toArray [.int .i64 0, .int .i64 0, .int .i64 0, .int .i64 0, .int .i64 0, .int .i64 0, .int .i64 0, .int .i64 0, .int .i64 0]), v]) ∧ Er w' c p v ∧ Below w.heap.size w w'
  | .ok cs => e = .returned (.tuple #[.agg (cs.map (Value.int .i64)).toArray, .nilIface]) ∧ Below w.heap.size w w'
theorem fb_hit (l : List UInt8) (k : Nat) (hk : k < l.length) (hall : ∀ i, i < k → vis (l.getD i 0) = true) (hd : vis (l.getD k 0) = false) : fb l = some k := by
  unfold fb
  rw [List.findIdx?_eq_some_iff_getElem]
  refine ⟨hk, ?_, fun j hj => ?_⟩
  · have : l.getD k 0 = l[k] := by simp [List.getD, hk]
    rw [this] at hd; rw [hd]; rfl
  · have := hall j hj
    have e : l.getD j 0 = l[j]'(by omega) := by simp [List.getD, show j < l.length by omega]
    rw [e] at this; rw [this]; simp
theorem fb_none (l : List UInt8) (hall : ∀ i, i < l.length → vis (l.getD i 0) = true) : fb l = none := by
  unfold fb
  rw [List.findIdx?_eq_none_iff]
  intro x hx
  obtain ⟨i, hi, rfl⟩ := List.getElem_of_mem hx
  have := hall i hi
  have e : l.getD i 0 = l[i] := by simp [List.getD, hi]
  rw [e] at this; rw [this]; rfl
theorem cutb_len (l : List UInt8) : (cutb l).1.length ≤ l.length ∧ (cutb l).2.1.length ≤ l.length := by
  unfold cutb
  split <;> simp <;> omega
theorem kd_cases (s : ByteArray) : kd s = 0 ∨ kd s = 1 ∨ kd s = 2 ∨ kd s = 3 ∨ kd s = 4 := by
  unfold kd
  split <;> (try split) <;> (try split) <;> (try split) <;> simp
theorem stp_cons (n : Int) (j : Nat) (b : Bool) (t : List (Nat × Bool)) (cs : List Int) (r : List UInt8) (m : Bool) : stp n ((j, b) :: t) cs r m = if m = false then .er 11 n else if (rdv b (Bs (cutb r).1)).1 = 0 then stp n t (cs.set j (rdv b (Bs (cutb r).1)).2) (cutb r).2.1 (cutb r).2.2 else .er (rdv b (Bs (cutb r).1)).1 (n - (r.length : Int)) := rfl
theorem tg_lt (k : Int) (i : Nat) (j : Nat) (b : Bool) (h : (tg k)[i]? = some (j, b)) : j < 9 := by
  have hm := List.mem_of_getElem? h
  unfold tg at hm
  split at hm
  · simp at hm; omega
  · split at hm
    · simp at hm; omega
    · split at hm
      · simp at hm; omega
      · simp at hm
theorem read_is (p : Option Addr) (b : Bool) (s : ByteArray) (hs : s.size ≤ 1000) (w : World) : Calls Tryd.prog 24 #[.agg #[.pointer p, .bool b], .string s] w fun e w' => e = .returned (.tuple #[.int .i64 (rdv b s).2, ev (rdv b s).1]) ∧ Below w.heap.size w w' := by
  cases b
  · exact read_num p s hs w
  · exact read_side p s w
theorem rdv_small (b : Bool) (s : ByteArray) : 0 ≤ (rdv b s).1 ∧ (rdv b s).1 ≤ 13 := by
  unfold rdv
  split
  · split
    · simp
    · split <;> simp
  · split <;> simp
theorem cell_far {w : World} {g B : Nat} (h : g ≠ B) (i j : Nat) (u : Value) : (w.setCell ⟨B, j, none⟩ u).cell? ⟨g, i, none⟩ = w.cell? ⟨g, i, none⟩ := World.cell?_of_block (w := w) (a := ⟨g, i, none⟩) (Below.heap_setCell w ⟨B, j, none⟩ u g h)
theorem Er.stay {w w' : World} {c p : Int} {v : Value} {R : Nat} {l : List Value} (h : Er w c p v) (hz : Bl R l w) (hk : ∀ k, k ≠ R → k < w.heap.size → w'.heap[k]? = w.heap[k]?) (hs : w'.heap.size = w.heap.size) (hne : 3 ≤ l.length := by decide) (h0 : ∀ x, l[1]? = some x → ∃ y, x = .int .i64 y := by intro x hx; simp at hx; exact ⟨_, hx.symm⟩) : Er w' c p v := by
  obtain ⟨b, e, hl, h1, h2⟩ := h
  have hb : b ≠ R := by
    intro hbr
    subst hbr
    obtain ⟨x, hx⟩ : ∃ x, l[1]? = some x := ⟨_, List.getElem?_eq_getElem (by omega)⟩
    have := hz.cell 1 x hx
    rw [this] at h2
    obtain ⟨y, rfl⟩ := h0 x hx
    simp at h2
  have hc := hk b hb hl
  refine ⟨b, e, by omega, ?_, ?_⟩
  · rw [← h1]; exact World.cell?_of_block (w := w) hc
  · rw [← h2]; exact World.cell?_of_block (w := w) hc
set_option maxRecDepth 100000 in
set_option maxHeartbeats 8000000 in
theorem parse_is (s : ByteArray) (hs : s.size ≤ 1000) (w : World) (hv : Vb w) : Calls Tryd.prog 8 #[.string s] w (PP (lp s) w) := by
  have hlen := size_len s
  have g0 : Below w.heap.size w (w.alloc (.cells (List.toArray [.int .i64 0, .int .i64 0, .int .i64 0, .int .i64 0, .int .i64 0, .int .i64 0, .int .i64 0, .int .i64 0, .int .i64 0]) 26)) := by go_grown
  have b0 := Bl.new w [.int .i64 0, .int .i64 0, .int .i64 0, .int .i64 0, .int .i64 0, .int .i64 0, .int .i64 0, .int .i64 0, .int .i64 0] 26
  have HV := Lib.hid (hv.below g0)
  have HLN := Lib.hid hlen
  have HS := Lib.hid hs
  by_cases h2 : 200 < s.size
  · have h2i : (200 : Int) < (s.size : Int) := by omega
    have HG := Lib.hid (And.intro b0 g0)
    have HL := Lib.hid (show lp s = .er 14 200 by unfold lp; rw [if_pos h2])
    clear h2 hs hlen hv g0 b0
    go_enter Tryd.func8, Tryd.ntmps8
    go_wp2_with fail
    refine (at_is 200 14 _).mono ?_
    rintro e9 w9 ⟨v9, rfl, hE9, hb9⟩
    have HE9 := Lib.hid hE9
    have HZ9 := Lib.hid (HG.out.1.below hb9)
    have HB9 := Lib.hid (Below.step HG.out.2 hb9)
    have HLP := Lib.hid (HL.out)
    clear hE9 hb9
    go_wp2_with (refine wpList_store_bl rfl 26 (.tmp 2) (.tmp 18) rfl w.heap.size [.int .i64 0, .int .i64 0, .int .i64 0, .int .i64 0, .int .i64 0, .int .i64 0, .int .i64 0, .int .i64 0, .int .i64 0] [.int .i64 0, .int .i64 0, .int .i64 0, .int .i64 0, .int .i64 0, .int .i64 0, .int .i64 0, .int .i64 0, .int .i64 0] rfl rfl HZ9.out rfl (by kernel_rfl) rfl ?_; intro w8 hb8 hk8 hs8 hbel8; have HF8 := Lib.hid (And.intro hb8 (And.intro hk8 (And.intro hs8 hbel8))); clear hb8 hk8 hs8 hbel8)
    refine bodyPost_ret (results_two (ty := 26) rfl _ _ w.heap.size [.int .i64 0, .int .i64 0, .int .i64 0, .int .i64 0, .int .i64 0, .int .i64 0, .int .i64 0, .int .i64 0, .int .i64 0] _ _ rfl rfl HF8.out.1 Tryd.underlying26 rfl (by kernel_rfl)) rfl ?_
    rw [HLP.out]
    exact ⟨_, rfl, HE9.out.stay HZ9.out HF8.out.2.1 HF8.out.2.2.1, HF8.out.2.2.2 _ _ (Nat.le_refl _) HB9.out⟩
  have n2 : decide ((200 : Int) < (s.size : Int)) = false := decide_eq_false (by omega)
  have hl1 : lp s = match fb s.data.toList with
      | some i => LR.er 15 (i : Int)
      | none => if kd (Bs (cutb s.data.toList).1) = 0 then .er 10 0 else fin_ (s.size : Int) (stp (s.size : Int) (tg (kd (Bs (cutb s.data.toList).1))) [kd (Bs (cutb s.data.toList).1), 0, 0, 0, 0, 0, 0, 0, 0] (cutb s.data.toList).2.1 (cutb s.data.toList).2.2) := by unfold lp; rw [if_neg h2]
  have HL1 := Lib.hid hl1
  obtain ⟨W1, hW1⟩ : ∃ W1, W1 = w.alloc (.cells (List.toArray [.int .i64 0, .int .i64 0, .int .i64 0, .int .i64 0, .int .i64 0, .int .i64 0, .int .i64 0, .int .i64 0, .int .i64 0]) 26) := ⟨_, rfl⟩
  rw [← hW1] at HV b0 g0
  have HG := Lib.hid (And.intro b0 g0)
  have HW1 := Lib.hid hW1
  have s200 : (s.size : Int) ≤ 200 := by omega
  clear h2 hs hlen hv g0 b0 hl1 hW1
  go_enter Tryd.func8, Tryd.ntmps8
  go_wp2_with fail
  rw [← HW1.out]
  go_loopw [23] (fun j wr => ∃ k : Nat, k ≤ s.size ∧ j = .int .i64 (k : Int) ∧ Hid (∀ i, i < k → vis (s.data.toList.getD i 0) = true) ∧ W1 = wr) (fun j _ => s.size + 1 - (intOf j).toNat)
  case atStart => exact ⟨0, Nat.zero_le _, rfl, Lib.hid (fun i h => by omega), rfl⟩
  case round =>
    obtain ⟨k, hk, rfl, HALL, rfl⟩ := hrel
    have k0 : (0 : Int) ≤ (k : Int) := by omega
    by_cases hlt : k < s.size
    · obtain ⟨B, hB⟩ : ∃ B, B = s[k]'hlt := ⟨_, rfl⟩
      have hsk : s[k]'hlt = B := hB.symm
      have hgd : s.data.toList.getD k 0 = B := by rw [hB]; exact (get_bt s k hlt).symm
      have q1 : (k : Int) < (s.size : Int) := by omega
      have HGD := Lib.hid hgd
      have Hk := Lib.hid hlt
      clear hgd hB hk
      by_cases hd : vis B = true
      · have HDG := Lib.hid hd
        have d1 : 32 ≤ B.toNat ∧ B.toNat ≤ 126 := by unfold vis at hd; rw [Bool.and_eq_true, decide_eq_true_eq, decide_eq_true_eq] at hd; exact hd
        have e1 : decide ((B.toNat : Int) < 32) = false := decide_eq_false (by omega)
        have e2 : decide ((126 : Int) < (B.toNat : Int)) = false := decide_eq_false (by omega)
        clear hd d1
        go_wp2_with fail
        go_roundw
        case rel => exact ⟨k + 1, Hk.out, by go_num, Lib.hid (fun i h => by
          rcases Nat.lt_or_ge i k with h3 | h3
          · exact HALL.out i h3
          · rw [show i = k by omega, HGD.out]; exact HDG.out), by first | rfl | trivial⟩
        case measure => have := Hk.out; simp [intOf]; omega
      · have hf : vis B = false := by simpa using hd
        have HL := Lib.hid (show lp s = .er 15 (k : Int) by rw [HL1.out, fb_hit s.data.toList k (by rw [HLN.out]; exact hlt) HALL.out (by rw [HGD.out]; exact hf)])
        have d1 : (B.toNat : Int) < 32 ∨ (126 : Int) < (B.toNat : Int) := by
          by_cases h4 : B.toNat < 32
          · exact .inl (by omega)
          · by_cases h5 : 126 < B.toNat
            · exact .inr (by omega)
            · unfold vis at hf
              rw [decide_eq_true (show 32 ≤ B.toNat by omega), decide_eq_true (show B.toNat ≤ 126 by omega)] at hf
              cases hf
        clear hd hf
        rcases d1 with d1 | d1
        · have hxx : True := trivial
          go_wp2_with fail
          refine (at_is (k : Int) 15 _).mono ?_
          rintro e9 w9 ⟨v9, rfl, hE9, hb9⟩
          have HE9 := Lib.hid hE9
          have HZ9 := Lib.hid (HG.out.1.below hb9)
          have HB9 := Lib.hid (Below.step HG.out.2 hb9)
          have HLP := Lib.hid (HL.out)
          clear hE9 hb9
          go_wp2_with (refine wpList_store_bl rfl 26 (.tmp 2) (.tmp 36) rfl w.heap.size [.int .i64 0, .int .i64 0, .int .i64 0, .int .i64 0, .int .i64 0, .int .i64 0, .int .i64 0, .int .i64 0, .int .i64 0] [.int .i64 0, .int .i64 0, .int .i64 0, .int .i64 0, .int .i64 0, .int .i64 0, .int .i64 0, .int .i64 0, .int .i64 0] rfl rfl HZ9.out rfl (by kernel_rfl) rfl ?_; intro w8 hb8 hk8 hs8 hbel8; have HF8 := Lib.hid (And.intro hb8 (And.intro hk8 (And.intro hs8 hbel8))); clear hb8 hk8 hs8 hbel8)
          refine bodyPost_ret (results_two (ty := 26) rfl _ _ w.heap.size [.int .i64 0, .int .i64 0, .int .i64 0, .int .i64 0, .int .i64 0, .int .i64 0, .int .i64 0, .int .i64 0, .int .i64 0] _ _ rfl rfl HF8.out.1 Tryd.underlying26 rfl (by kernel_rfl)) rfl ?_
          rw [HLP.out]
          exact ⟨_, rfl, HE9.out.stay HZ9.out HF8.out.2.1 HF8.out.2.2.1, HF8.out.2.2.2 _ _ (Nat.le_refl _) HB9.out⟩
        · have e1 : decide ((B.toNat : Int) < 32) = false := decide_eq_false (by omega)
          go_wp2_with fail
          refine (at_is (k : Int) 15 _).mono ?_
          rintro e9 w9 ⟨v9, rfl, hE9, hb9⟩
          have HE9 := Lib.hid hE9
          have HZ9 := Lib.hid (HG.out.1.below hb9)
          have HB9 := Lib.hid (Below.step HG.out.2 hb9)
          have HLP := Lib.hid (HL.out)
          clear hE9 hb9
          go_wp2_with (refine wpList_store_bl rfl 26 (.tmp 2) (.tmp 36) rfl w.heap.size [.int .i64 0, .int .i64 0, .int .i64 0, .int .i64 0, .int .i64 0, .int .i64 0, .int .i64 0, .int .i64 0, .int .i64 0] [.int .i64 0, .int .i64 0, .int .i64 0, .int .i64 0, .int .i64 0, .int .i64 0, .int .i64 0, .int .i64 0, .int .i64 0] rfl rfl HZ9.out rfl (by kernel_rfl) rfl ?_; intro w8 hb8 hk8 hs8 hbel8; have HF8 := Lib.hid (And.intro hb8 (And.intro hk8 (And.intro hs8 hbel8))); clear hb8 hk8 hs8 hbel8)
          refine bodyPost_ret (results_two (ty := 26) rfl _ _ w.heap.size [.int .i64 0, .int .i64 0, .int .i64 0, .int .i64 0, .int .i64 0, .int .i64 0, .int .i64 0, .int .i64 0, .int .i64 0] _ _ rfl rfl HF8.out.1 Tryd.underlying26 rfl (by kernel_rfl)) rfl ?_
          rw [HLP.out]
          exact ⟨_, rfl, HE9.out.stay HZ9.out HF8.out.2.1 HF8.out.2.2.1, HF8.out.2.2.2 _ _ (Nat.le_refl _) HB9.out⟩
    · have hke : k = s.size := by omega
      have HL2 := Lib.hid (HL1.out.trans (by rw [fb_none s.data.toList (by rw [HLN.out, ← hke]; exact HALL.out)]))
      clear HL1 HALL hk hlt
      subst hke
      obtain ⟨C, hC⟩ : ∃ C, C = cutb s.data.toList := ⟨_, rfl⟩
      have hcut := cut_is s HS.out W1
      have hcl := cutb_len s.data.toList
      rw [← hC] at HL2 hcut hcl
      rw [HLN.out] at hcl
      have HCT := Lib.hid hcut
      have HCL := Lib.hid hcl
      clear hC hcut hcl k0
      go_wp2_with fail
      refine HCT.out.mono ?_
      rintro e2 w2 ⟨rfl, hb2⟩
      have HG2 := Lib.hid (And.intro (HG.out.1.below hb2) (Below.step HG.out.2 hb2))
      have HK := Lib.hid (kind_is (Bs C.1) w2 (HV.out.below hb2))
      have hkc := kd_cases (Bs C.1)
      obtain ⟨KD, hKD⟩ : ∃ KD, KD = kd (Bs C.1) := ⟨_, rfl⟩
      rw [← hKD] at HK HL2 hkc
      have HKC := Lib.hid hkc
      clear hb2 HCT hKD hkc
      go_wp2_with fail
      refine HK.out.mono ?_
      rintro e3 w3 ⟨rfl, rfl⟩
      have gA : Below w2.heap.size w2 (w2.alloc (.cells (List.toArray [.int .i64 KD, .int .i64 0, .int .i64 0, .int .i64 0, .int .i64 0, .int .i64 0, .int .i64 0, .int .i64 0, .int .i64 0]) 26)) := by go_grown
      have bA := Bl.new w2 [.int .i64 KD, .int .i64 0, .int .i64 0, .int .i64 0, .int .i64 0, .int .i64 0, .int .i64 0, .int .i64 0, .int .i64 0] 26
      have HZ2 := Lib.hid (And.intro (HG2.out.1.below gA) (Below.step HG2.out.2 gA))
      by_cases hz : KD = 0
      · have HL := Lib.hid (show lp s = .er 10 0 by rw [HL2.out, if_pos hz])
        rw [hz] at HZ2
        rw [hz]
        clear gA bA hz HKC HK HL2
        go_wp2_with fail
        refine (at_is 0 10 _).mono ?_
        rintro e9 w9 ⟨v9, rfl, hE9, hb9⟩
        have HE9 := Lib.hid hE9
        have HZ9 := Lib.hid (HZ2.out.1.below hb9)
        have HB9 := Lib.hid (Below.step HZ2.out.2 hb9)
        have HLP := Lib.hid (HL.out)
        clear hE9 hb9
        go_wp2_with (refine wpList_store_bl rfl 26 (.tmp 2) (.tmp 53) rfl w.heap.size [.int .i64 0, .int .i64 0, .int .i64 0, .int .i64 0, .int .i64 0, .int .i64 0, .int .i64 0, .int .i64 0, .int .i64 0] [.int .i64 0, .int .i64 0, .int .i64 0, .int .i64 0, .int .i64 0, .int .i64 0, .int .i64 0, .int .i64 0, .int .i64 0] rfl rfl HZ9.out rfl (by kernel_rfl) rfl ?_; intro w8 hb8 hk8 hs8 hbel8; have HF8 := Lib.hid (And.intro hb8 (And.intro hk8 (And.intro hs8 hbel8))); clear hb8 hk8 hs8 hbel8)
        refine bodyPost_ret (results_two (ty := 26) rfl _ _ w.heap.size [.int .i64 0, .int .i64 0, .int .i64 0, .int .i64 0, .int .i64 0, .int .i64 0, .int .i64 0, .int .i64 0, .int .i64 0] _ _ rfl rfl HF8.out.1 Tryd.underlying26 rfl (by kernel_rfl)) rfl ?_
        rw [HLP.out]
        exact ⟨_, rfl, HE9.out.stay HZ9.out HF8.out.2.1 HF8.out.2.2.1, HF8.out.2.2.2 _ _ (Nat.le_refl _) HB9.out⟩
      have HL3 := Lib.hid (HL2.out.trans (if_neg hz))
      have kz : (KD == 0) = false := beq_eq_false_iff_ne.2 hz
      obtain ⟨AB, hAB⟩ : ∃ AB, AB = w2.heap.size := ⟨_, rfl⟩
      obtain ⟨W4, hW4⟩ : ∃ W4, W4 = w2.alloc (.cells (List.toArray [.int .i64 KD, .int .i64 0, .int .i64 0, .int .i64 0, .int .i64 0, .int .i64 0, .int .i64 0, .int .i64 0, .int .i64 0]) 26) := ⟨_, rfl⟩
      rw [← hW4] at HZ2 bA
      rw [← hAB] at bA
      have HW4 := Lib.hid hW4
      have HAB := Lib.hid hAB
      have HSL := Lib.hid (slots_is AB KD W4 (by rcases HKC.out with h | h; exact absurd h hz; exact h) (bA.cell 0 _ rfl))
      have HBA := Lib.hid bA
      have HLA := Lib.hid (show w.heap.size < AB by rw [hAB]; exact HG2.out.1.lt)
      clear HL2 HKC HK gA bA hz hW4 hAB
      go_wp2_with fail
      rw [← HW4.out, ← HAB.out]
      refine HSL.out.mono ?_
      rintro e5 w5 ⟨A5, c5, rfl, hsl, hb5⟩
      have HL8 := Lib.hid (tg_len KD)
      have HTG := Lib.hid (fun i j b => tg_lt KD i j b)
      obtain ⟨LL, hLL⟩ : ∃ LL, LL = tg KD := ⟨_, rfl⟩
      rw [← hLL] at hsl HL3 HL8 HTG ⊢
      have HST : Hid (Bl AB (([KD, 0, 0, 0, 0, 0, 0, 0, 0] : List Int).map (Value.int .i64)) w5 ∧ SlAt w5 AB A5 LL ∧ Bl w.heap.size [.int .i64 0, .int .i64 0, .int .i64 0, .int .i64 0, .int .i64 0, .int .i64 0, .int .i64 0, .int .i64 0, .int .i64 0] w5 ∧ Below w.heap.size w w5) := Lib.hid ⟨HBA.out.below hb5, hsl, HZ2.out.1.below hb5, Below.step HZ2.out.2 hb5⟩
      have l8 : (LL.length : Int) ≤ 8 := by have := HL8.out; omega
      clear hsl hb5 hLL HSL HZ2 HBA kz
      go_wp2_with fail
      go_loopw [6, 7, 58] (fun x y j wr => ∃ (i : Nat) (cs : List Int) (r : List UInt8) (m : Bool), i ≤ LL.length ∧ j = .int .i64 (i : Int) ∧ x = .string (Bs r) ∧ y = .bool m ∧ Hid (lp s = fin_ (s.size : Int) (stp (s.size : Int) (LL.drop i) cs r m) ∧ cs.length = 9 ∧ r.length ≤ s.size) ∧ Hid (Bl AB (cs.map (Value.int .i64)) wr ∧ SlAt wr AB A5 LL ∧ Bl w.heap.size [.int .i64 0, .int .i64 0, .int .i64 0, .int .i64 0, .int .i64 0, .int .i64 0, .int .i64 0, .int .i64 0, .int .i64 0] wr ∧ Below w.heap.size w wr)) (fun _ _ j _ => LL.length + 1 - (intOf j).toNat)
      case atStart => exact ⟨0, [KD, 0, 0, 0, 0, 0, 0, 0, 0], C.2.1, C.2.2, Nat.zero_le _, rfl, rfl, rfl, Lib.hid ⟨HL3.out, rfl, HCL.out.2⟩, HST⟩
      case round =>
        clear HST
        obtain ⟨i, cs, r, m, hi, rfl, rfl, rfl, HP, HM⟩ := hrel
        have i0 : (0 : Int) ≤ (i : Int) := by omega
        have hbs : (Bs r).size = r.length := Bs_size r
        have r200 : (r.length : Int) ≤ 200 := by have := HP.out.2.2; omega
        have rss : (r.length : Int) ≤ (s.size : Int) := by have := HP.out.2.2; omega
        by_cases hlt : i < LL.length
        · obtain ⟨⟨j, b⟩, hjb⟩ : ∃ x, LL[i]? = some x := ⟨LL[i], List.getElem?_eq_getElem hlt⟩
          obtain ⟨g, rfl, hgl, hcc⟩ := HM.out.2.1 (by omega)
          obtain ⟨p0, p1⟩ := hcc i j b hjb
          have hdr : LL.drop i = (j, b) :: LL.drop (i + 1) := by
            have e1 : LL[i] = (j, b) := by rw [List.getElem?_eq_getElem hlt] at hjb; injection hjb
            rw [← e1]; exact List.drop_eq_getElem_cons hlt
          have hj9 := HTG.out i j b hjb
          have HJ9 := Lib.hid hj9
          have hgAB : g ≠ AB := by
            intro e
            subst e
            obtain ⟨⟨j0, b0⟩, h00⟩ : ∃ x, LL[0]? = some x := ⟨LL[0]'(by omega), List.getElem?_eq_getElem (by omega)⟩
            have h1 := (hcc 0 j0 b0 h00).1
            have h2 := HM.out.1.cell 0 (.int .i64 (cs[0]'(by have := HP.out.2.1; omega))) (by rw [List.getElem?_map, List.getElem?_eq_getElem (by have := HP.out.2.1; omega)]; rfl)
            rw [Nat.zero_mul] at h1
            rw [h1] at h2
            simp at h2
          have HGA := Lib.hid hgAB
          have HP2 : Hid (lp s = fin_ (s.size : Int) (stp (s.size : Int) ((j, b) :: LL.drop (i + 1)) cs r m)) := Lib.hid (by rw [← hdr]; exact HP.out.1)
          have q1 : (i : Int) < (LL.length : Int) := by omega
          have gS : Below wr.heap.size wr (wr.alloc (.cells (List.toArray [.pointer (some ⟨AB, j, none⟩), .bool b]) 62)) := by go_grown
          have bS := Bl.new wr [.pointer (some ⟨AB, j, none⟩), .bool b] 62
          have HSS := Lib.hid (And.intro gS bS)
          have Hi := Lib.hid hlt
          clear hjb hcc hdr hj9 hgAB gS bS hi hlt
          rcases m with _ | _
          · have HL := Lib.hid (show lp s = .er 11 (s.size : Int) by rw [HP2.out, stp_cons]; rfl)
            clear HP2
            go_wp2_with fail
            refine (at_is (s.size : Int) 11 _).mono ?_
            rintro e9 w9 ⟨v9, rfl, hE9, hb9⟩
            have HE9 := Lib.hid hE9
            have HZ9 := Lib.hid ((HM.out.2.2.1.below HSS.out.1).below hb9)
            have HB9 := Lib.hid (Below.step (Below.step HM.out.2.2.2 HSS.out.1) hb9)
            have HLP := Lib.hid (HL.out)
            clear hE9 hb9
            go_wp2_with (refine wpList_store_bl rfl 26 (.tmp 2) (.tmp 64) rfl w.heap.size [.int .i64 0, .int .i64 0, .int .i64 0, .int .i64 0, .int .i64 0, .int .i64 0, .int .i64 0, .int .i64 0, .int .i64 0] [.int .i64 0, .int .i64 0, .int .i64 0, .int .i64 0, .int .i64 0, .int .i64 0, .int .i64 0, .int .i64 0, .int .i64 0] rfl rfl HZ9.out rfl (by kernel_rfl) rfl ?_; intro w8 hb8 hk8 hs8 hbel8; have HF8 := Lib.hid (And.intro hb8 (And.intro hk8 (And.intro hs8 hbel8))); clear hb8 hk8 hs8 hbel8)
            refine bodyPost_ret (results_two (ty := 26) rfl _ _ w.heap.size [.int .i64 0, .int .i64 0, .int .i64 0, .int .i64 0, .int .i64 0, .int .i64 0, .int .i64 0, .int .i64 0, .int .i64 0] _ _ rfl rfl HF8.out.1 Tryd.underlying26 rfl (by kernel_rfl)) rfl ?_
            rw [HLP.out]
            exact ⟨_, rfl, HE9.out.stay HZ9.out HF8.out.2.1 HF8.out.2.2.1, HF8.out.2.2.2 _ _ (Nat.le_refl _) HB9.out⟩
          have hr1 : r.length ≤ 1000 := by have := HP.out.2.2; have := HS.out; omega
          have hcut := cut_is (Bs r) (by rw [hbs]; exact hr1) (wr.alloc (.cells (List.toArray [.pointer (some ⟨AB, j, none⟩), .bool b]) 62))
          rw [Bs_list] at hcut
          have hcl := cutb_len r
          obtain ⟨D, hD⟩ : ∃ D, D = cutb r := ⟨_, rfl⟩
          rw [← hD] at hcut hcl
          have HCT := Lib.hid hcut
          have hrd := fun W => read_is (some ⟨AB, j, none⟩) b (Bs D.1) (by rw [Bs_size]; omega) W
          have HL4 : Hid (lp s = fin_ (s.size : Int) (if (rdv b (Bs D.1)).1 = 0 then stp (s.size : Int) (LL.drop (i + 1)) (cs.set j (rdv b (Bs D.1)).2) D.2.1 D.2.2 else .er (rdv b (Bs D.1)).1 ((s.size : Int) - (r.length : Int)))) := Lib.hid (by rw [HP2.out, stp_cons, ← hD]; rfl)
          have hsm := rdv_small b (Bs D.1)
          obtain ⟨X, hX⟩ : ∃ X, X = rdv b (Bs D.1) := ⟨_, rfl⟩
          rw [← hX] at hrd HL4 hsm
          have HRD := Lib.hid hrd
          have HDL := Lib.hid hcl.2
          clear hcut hcl hD hrd hX hr1 HP2
          go_wp2_with fail
          refine HCT.out.mono ?_
          rintro e6 w6 ⟨rfl, hb6⟩
          have hg6 := Below.step HSS.out.1 hb6
          have bS6 := HSS.out.2.below hb6
          have z0 := bS6.cell 0 _ rfl
          have z1 := bS6.cell 1 _ rfl
          have HB6 := Lib.hid (And.intro hg6 bS6)
          clear hb6 hg6 bS6 p0 p1 HCT
          go_wp2_with fail
          refine (HRD.out _).mono ?_
          rintro e7 w7 ⟨rfl, hb7⟩
          have hg7 := Below.step HB6.out.1 hb7
          have bS7 := HB6.out.2.below hb7
          have HM7 := Lib.hid (And.intro (HM.out.1.below hg7) (And.intro (HM.out.2.1.below hg7) (And.intro (HM.out.2.2.1.below hg7) (Below.step HM.out.2.2.2 hg7))))
          have y0 := bS7.cell 0 _ rfl
          clear hb7 hg7 bS7 z0 z1 HB6
          by_cases hx : X.1 = 0
          · have hev : ev X.1 = .nilIface := by unfold ev; rw [if_pos hx]
            rw [hev]
            obtain ⟨yv, hyv⟩ : ∃ yv, (cs.map (Value.int .i64))[j]? = some (.int .i64 yv) := ⟨cs[j]'(by have := HP.out.2.1; have := HJ9.out; omega), by rw [List.getElem?_map, List.getElem?_eq_getElem (by have := HP.out.2.1; have := HJ9.out; omega)]; rfl⟩
            have aj := HM7.out.1.cell j _ hyv
            have fj := HM7.out.1.frz j
            have lj := HM7.out.1.lt
            have HL5 := Lib.hid (HL4.out.trans (by rw [if_pos hx]))
            clear hev hx hsm HL4 hyv
            go_wp2_with fail
            go_roundw
            case rel =>
              refine ⟨i + 1, cs.set j X.2, D.2.1, D.2.2, Hi.out, by go_num, rfl, rfl, Lib.hid ⟨HL5.out, by rw [List.length_set]; exact HP.out.2.1, Nat.le_trans HDL.out HP.out.2.2⟩, Lib.hid ⟨?_, ?_, ?_, ?_⟩⟩
              · rw [List.map_set]; exact Bl.set HM7.out.1 j _
              · intro h0
                obtain ⟨g', e', hl', hc'⟩ := HM7.out.2.1 h0
                injection e' with e'
                injection e' with e'
                subst e'
                exact ⟨g, rfl, by simpa using hl', fun i2 j2 b2 h2 => ⟨(cell_far (HGA.out) _ _ _).trans (hc' i2 j2 b2 h2).1, (cell_far (HGA.out) _ _ _).trans (hc' i2 j2 b2 h2).2⟩⟩
              · exact Bl.far HM7.out.2.2.1 (p := ⟨AB, j, none⟩) (by have := HLA.out; show AB ≠ w.heap.size; omega) _
              · exact HM7.out.2.2.2.setCell (p := ⟨AB, j, none⟩) (by have := HLA.out; show w.heap.size ≤ AB; omega) _
            case measure => have := Hi.out; simp [intOf]; omega
          · have hev : ev X.1 = .iface 51 (.int .i64 X.1) := by unfold ev; rw [if_neg hx]
            rw [hev]
            have HL := Lib.hid (HL4.out.trans (by rw [if_neg hx]; try rfl))
            clear hev hx HL4 y0
            go_wp2_with fail
            refine (at_is ((s.size : Int) - (r.length : Int)) X.1 _).mono ?_
            rintro e9 w9 ⟨v9, rfl, hE9, hb9⟩
            have HE9 := Lib.hid hE9
            have HZ9 := Lib.hid (HM7.out.2.2.1.below hb9)
            have HB9 := Lib.hid (Below.step HM7.out.2.2.2 hb9)
            have HLP := Lib.hid (HL.out)
            clear hE9 hb9
            go_wp2_with (refine wpList_store_bl rfl 26 (.tmp 2) (.tmp 88) rfl w.heap.size [.int .i64 0, .int .i64 0, .int .i64 0, .int .i64 0, .int .i64 0, .int .i64 0, .int .i64 0, .int .i64 0, .int .i64 0] [.int .i64 0, .int .i64 0, .int .i64 0, .int .i64 0, .int .i64 0, .int .i64 0, .int .i64 0, .int .i64 0, .int .i64 0] rfl rfl HZ9.out rfl (by kernel_rfl) rfl ?_; intro w8 hb8 hk8 hs8 hbel8; have HF8 := Lib.hid (And.intro hb8 (And.intro hk8 (And.intro hs8 hbel8))); clear hb8 hk8 hs8 hbel8)
            refine bodyPost_ret (results_two (ty := 26) rfl _ _ w.heap.size [.int .i64 0, .int .i64 0, .int .i64 0, .int .i64 0, .int .i64 0, .int .i64 0, .int .i64 0, .int .i64 0, .int .i64 0] _ _ rfl rfl HF8.out.1 Tryd.underlying26 rfl (by kernel_rfl)) rfl ?_
            rw [HLP.out]
            exact ⟨_, rfl, HE9.out.stay HZ9.out HF8.out.2.1 HF8.out.2.2.1, HF8.out.2.2.2 _ _ (Nat.le_refl _) HB9.out⟩
        · have hke : i = LL.length := by omega
          have HP3 : Hid (lp s = fin_ (s.size : Int) (.go cs r m)) := Lib.hid (by rw [HP.out.1, hke, List.drop_length]; rfl)
          subst hke
          clear hi hlt
          rcases m with _ | _
          rotate_left
          · have HL := Lib.hid (show lp s = .er 12 ((s.size : Int) - (r.length : Int)) from HP3.out)
            clear HP3
            go_wp2_with fail
            refine (at_is ((s.size : Int) - (r.length : Int)) 12 _).mono ?_
            rintro e9 w9 ⟨v9, rfl, hE9, hb9⟩
            have HE9 := Lib.hid hE9
            have HZ9 := Lib.hid (HM.out.2.2.1.below hb9)
            have HB9 := Lib.hid (Below.step HM.out.2.2.2 hb9)
            have HLP := Lib.hid (HL.out)
            clear hE9 hb9
            go_wp2_with (refine wpList_store_bl rfl 26 (.tmp 2) (.tmp 98) rfl w.heap.size [.int .i64 0, .int .i64 0, .int .i64 0, .int .i64 0, .int .i64 0, .int .i64 0, .int .i64 0, .int .i64 0, .int .i64 0] [.int .i64 0, .int .i64 0, .int .i64 0, .int .i64 0, .int .i64 0, .int .i64 0, .int .i64 0, .int .i64 0, .int .i64 0] rfl rfl HZ9.out rfl (by kernel_rfl) rfl ?_; intro w8 hb8 hk8 hs8 hbel8; have HF8 := Lib.hid (And.intro hb8 (And.intro hk8 (And.intro hs8 hbel8))); clear hb8 hk8 hs8 hbel8)
            refine bodyPost_ret (results_two (ty := 26) rfl _ _ w.heap.size [.int .i64 0, .int .i64 0, .int .i64 0, .int .i64 0, .int .i64 0, .int .i64 0, .int .i64 0, .int .i64 0, .int .i64 0] _ _ rfl rfl HF8.out.1 Tryd.underlying26 rfl (by kernel_rfl)) rfl ?_
            rw [HLP.out]
            exact ⟨_, rfl, HE9.out.stay HZ9.out HF8.out.2.1 HF8.out.2.2.1, HF8.out.2.2.2 _ _ (Nat.le_refl _) HB9.out⟩
          · have HL : Hid (lp s = .ok cs) := Lib.hid HP3.out
            obtain ⟨c0, c1, c2, c3, c4, c5', c6, c7, c8, hcs⟩ : ∃ c0 c1 c2 c3 c4 c5' c6 c7 c8, cs = [c0, c1, c2, c3, c4, c5', c6, c7, c8] := by
              have h9 := HP.out.2.1
              match cs, h9 with
              | [c0, c1, c2, c3, c4, c5', c6, c7, c8], _ => exact ⟨c0, c1, c2, c3, c4, c5', c6, c7, c8, rfl⟩
            subst hcs
            have a0 := HM.out.1.cell 0 _ rfl
            have a1 := HM.out.1.cell 1 _ rfl
            have a2 := HM.out.1.cell 2 _ rfl
            have a3 := HM.out.1.cell 3 _ rfl
            have a4 := HM.out.1.cell 4 _ rfl
            have a5 := HM.out.1.cell 5 _ rfl
            have a6 := HM.out.1.cell 6 _ rfl
            have a7 := HM.out.1.cell 7 _ rfl
            have a8 := HM.out.1.cell 8 _ rfl
            clear HP3
            go_wp2_with (refine wpList_store_bl rfl 26 (.tmp 2) (.tmp 106) rfl w.heap.size [.int .i64 0, .int .i64 0, .int .i64 0, .int .i64 0, .int .i64 0, .int .i64 0, .int .i64 0, .int .i64 0, .int .i64 0] [.int .i64 c0, .int .i64 c1, .int .i64 c2, .int .i64 c3, .int .i64 c4, .int .i64 c5', .int .i64 c6, .int .i64 c7, .int .i64 c8] rfl rfl HM.out.2.2.1 rfl (by kernel_rfl) rfl ?_; intro w8 hb8 hk8 hs8 hbel8; have HF8 := Lib.hid (And.intro hb8 (And.intro hk8 (And.intro hs8 hbel8))); clear hb8 hk8 hs8 hbel8)
            refine bodyPost_ret (results_two (ty := 26) rfl _ _ w.heap.size [.int .i64 c0, .int .i64 c1, .int .i64 c2, .int .i64 c3, .int .i64 c4, .int .i64 c5', .int .i64 c6, .int .i64 c7, .int .i64 c8] _ _ rfl rfl HF8.out.1 Tryd.underlying26 rfl (by kernel_rfl)) rfl ?_
            rw [HL.out]
            exact ⟨rfl, HF8.out.2.2.2 _ _ (Nat.le_refl _) HM.out.2.2.2⟩
end Go.Proofs.YtnppopeoloigeaaDoor
