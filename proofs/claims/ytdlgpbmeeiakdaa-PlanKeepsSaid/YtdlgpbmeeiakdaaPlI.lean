/-
  Drawn and weighted rows; rows held against numbers.
-/
import Derived.Test.YtdlgpbmeeiakdaaRows
import Derived.Test.YtdlgpbmeeiakdaaKit
import Derived.Test.YtdlgpbmeeiakdaaApp
import Derived.Test.YtdlgpbmeeiakdaaEv
import Derived.Test.YtdlgpbmeeiakdaaEvP
import Derived.Test.YtdlgpbmeeiakdaaEvQ
import Derived.Test.YtdlgpbmeeiakdaaEvR
import Derived.Test.YtdlgpbmeeiakdaaQuiet
import Derived.Test.YtdlgpbmeeiakdaaPlA
import Derived.Test.YtdlgpbmeeiakdaaPlB
import Derived.Test.YtdlgpbmeeiakdaaPlF
import Derived.WalkKit
import Derived.ProofKit
import Derived.OpenShut
import Derived.ShutString
import Derived.Below
import Derived.Outline
import Derived.WalkLawsBesides
import Derived.WalkSpells
import Derived.Handy
import Derived.Deep.QuietTactic
import Derived.BigQuiet
import Derived.RegionTactic
import Derived.ChangeAlike
import Derived.Lib.Hide
import Derived.Laws.Rows
import Derived.Laws.Tables
import Derived.Laws.CopyOwn
import Derived.Laws.MakeOwn
import Derived.Laws.Entries
import Derived.Laws.OwnMore
import Derived.Deep.WholeRow
import Derived.Deep.LoopGhost
import Derived.Deep.AppendLies
import Derived.Deep.Draws
import Derived.Maps.AppendAt
import Derived.OwnWalk
import Derived.Deep.RegionHeld3
import Derived.Deep.Cut
import Derived.Deep.CutRange
import Derived.Deep.DeepCutAuto
import Derived.Deep.CutBlock
import Derived.Lib.SliceRun
import Derived.IntWalk
namespace Go.Proofs.Ytdlgpbmeeiakdaa
open Go.ChangeShapes Go.WideShapes Go.ChangeAt Go.RowKit
def ev3 (x : Int) : Ev := (3, x, 0)
/-- A number's place among some. -/
def pkS (x m : Int) : Int := if x.tmod m < 0 then x.tmod m + m else x.tmod m
theorem pkS_range (x m : Int) (hm : 1 ≤ m) : 0 ≤ pkS x m ∧ pkS x m < m := by
  have h1 : (x.tmod m).natAbs < m.natAbs := by rw [Int.natAbs_tmod]; exact Nat.mod_lt _ (by omega)
  unfold pkS
  split <;> omega
theorem tmod_bd (x m : Int) (hm : 1 ≤ m) : -m < x.tmod m ∧ x.tmod m < m := by
  have h1 : (x.tmod m).natAbs < m.natAbs := by rw [Int.natAbs_tmod]; exact Nat.mod_lt _ (by omega)
  omega
theorem refpick_is (x m : Int) (w : World) (h0 : 1 ≤ m) (h1 : m ≤ 1000) : Calls Try.prog 18 #[.int .i64 x, .int .i64 m] w fun e w' => e = .returned (.int .i64 (pkS x m)) ∧ Below w.heap.size w w' := by
  have hb := tmod_bd x m h0
  have hne : ¬ m = 0 := by omega
  have hne2 : (m == 0) = false := by rw [beq_eq_false_iff_ne]; exact hne
  unfold pkS
  by_cases h : x.tmod m < 0
  · rw [if_pos h]
    obtain ⟨b1, b2⟩ := hb
    generalize hT : x.tmod m = T at *
    go_enter Try.func18, Try.ntmps18
    go_wp2
    go_ret
    exact ⟨rfl, by go_grown⟩
  · rw [if_neg h]
    have hd : decide (x.tmod m < 0) = false := decide_eq_false h
    obtain ⟨b1, b2⟩ := hb
    generalize hT : x.tmod m = T at *
    go_enter Try.func18, Try.ntmps18
    go_wp2
    go_ret
    exact ⟨rfl, by go_grown⟩
theorem tickpick_is (x m : Int) (w : World) (h0 : 1 ≤ m) (h1 : m ≤ 1000) : Calls Try.prog 48 #[.int .i64 x, .int .i64 m] w fun e w' => e = .returned (.int .i64 (pkS x m)) ∧ Below w.heap.size w w' := by
  have hb := tmod_bd x m h0
  have hne : ¬ m = 0 := by omega
  have hne2 : (m == 0) = false := by rw [beq_eq_false_iff_ne]; exact hne
  unfold pkS
  by_cases h : x.tmod m < 0
  · rw [if_pos h]
    obtain ⟨b1, b2⟩ := hb
    generalize hT : x.tmod m = T at *
    go_enter Try.func48, Try.ntmps48
    go_wp2
    go_ret
    exact ⟨rfl, by go_grown⟩
  · rw [if_neg h]
    have hd : decide (x.tmod m < 0) = false := decide_eq_false h
    obtain ⟨b1, b2⟩ := hb
    generalize hT : x.tmod m = T at *
    go_enter Try.func48, Try.ntmps48
    go_wp2
    go_ret
    exact ⟨rfl, by go_grown⟩
theorem IAt.of_own {w : World} {base c : Nat} {A : Option Addr} {L : List Int} (h : w.ownsRow base 3 1 (.slice A L.length c) L.length (L.map (Value.int .i64))) : IAt w A L := by
  intro k x hx
  have hk := (List.getElem?_eq_some_iff.1 hx).1
  obtain ⟨g, cap, hv, _, hlt⟩ := World.ownsRow.form h (by omega)
  have hA : A = some ⟨g, 0, none⟩ := by injection hv
  subst hA
  exact ⟨_, rfl, hlt, World.ownsRow.cells h (g := g) rfl k _ (by rw [List.getElem?_map, hx]; rfl)⟩
set_option maxRecDepth 100000 in
set_option maxHeartbeats 4000000 in
theorem drawn_is (p c n b r f g : Int) (m : Nat) (A : Option Addr) (cap : Nat) (L : List Int) (w : World) (h : IAt w A L) (hl : L.length ≤ 200) (hm : (m : Int) = p + 2 * (n * b)) (hnb : 1 ≤ n * b ∧ n * b ≤ 12) (hp : 1 ≤ p ∧ p ≤ 6) :
    Calls Try.prog 21 #[.agg #[.int .i64 p, .int .i64 c, .int .i64 n, .int .i64 b, .int .i64 r, .int .i64 f, .int .i64 g], .slice A L.length cap] w (ERow (w.heap.size + 1) ((L.map (fun x => pkS x (m : Int))).map ev3) w) := by
  obtain ⟨i0, hi, hz0, hz1, hz2⟩ := info_parts infoE
  have HI := Lib.hid hi
  have HZ0 := Lib.hid hz0
  have HZ1 := Lib.hid hz1
  have HZ2 := Lib.hid hz2
  clear hi hz0 hz1 hz2
  have H := Lib.hid h
  have HAG := Lib.hid (fun W => show Calls Try.prog 15 #[.agg #[.int .i64 p, .int .i64 c, .int .i64 n, .int .i64 b, .int .i64 r, .int .i64 f, .int .i64 g]] W (fun e w' => e = .returned (.int .i64 (m : Int)) ∧ Below W.heap.size W w') from by rw [hm]; exact agents_i p c n b r f g W hnb hp)
  have HPK := Lib.hid (fun (a : Int) W => pick_is a W)
  have m0 : (1 : Int) ≤ (m : Int) := by omega
  have m1 : (m : Int) ≤ 30 := by omega
  have HTP := Lib.hid (fun (x : Int) W => tickpick_is x (m : Int) W (by omega) (by omega))
  have bX := Blk7.new w p c n b r f g 25
  clear hm hnb hp h
  go_enter Try.func21, Try.ntmps21
  go_wp2_with fail
  obtain ⟨W0, hW0⟩ : ∃ W0, W0 = w.alloc (.cells #[.int .i64 p, .int .i64 c, .int .i64 n, .int .i64 b, .int .i64 r, .int .i64 f, .int .i64 g] 25) := ⟨_, rfl⟩
  have hz : W0.heap.size = w.heap.size + 1 := by rw [hW0, World.size_alloc]
  have hBW : Below w.heap.size w W0 := by rw [hW0]; go_grown
  rw [← hW0] at bX ⊢
  have HBW := Lib.hid hBW
  have HBX0 := Lib.hid bX
  have HZW := Lib.hid hz
  have HI0 := Lib.hid (H.out.below hBW)
  clear hW0 hBW bX hz
  go_loopw [5, 10] (fun v i wr => ∃ k : Nat, k ≤ L.length ∧ i = .int .i64 (k : Int) ∧ Hid (wr.ownsRow W0.heap.size 67 12 v k (evl (((L.take k).map (fun x => pkS x (m : Int))).map ev3))) ∧ Below W0.heap.size W0 wr) (fun _ i _ => L.length + 1 - (intOf i).toNat)
  case atStart => exact ⟨0, Nat.zero_le _, rfl, ⟨rfl, .inl ⟨rfl, rfl⟩⟩, Below.refl _ _⟩
  case round =>
    obtain ⟨k, hk, rfl, HO, hB⟩ := hrel
    by_cases hlt : k < L.length
    · obtain ⟨x, hx⟩ : ∃ e, L[k]? = some e := ⟨_, List.getElem?_eq_getElem hlt⟩
      obtain ⟨ad, hA, hadl, hc⟩ := (HI0.out.below hB) k x hx
      subst hA
      have hBX := (HBX0.out).below hB
      obtain ⟨⟨c0, c1, c2, c3, c4, c5, c6⟩, hlX⟩ := id hBX
      have k0 : (0 : Int) ≤ (k : Int) := by omega
      have k1 : (k : Int) < (L.length : Int) := by omega
      have k2 : (L.length : Int) ≤ 200 := by omega
      have HL := Lib.hid (show evl (((L.take (k + 1)).map (fun x => pkS x (m : Int))).map ev3) = evl (((L.take k).map (fun x => pkS x (m : Int))).map ev3) ++ evc ((3 : Int), pkS x (m : Int), (0 : Int)) from by
        rw [List.take_add_one, hx, List.map_append, List.map_append, evl_app]; show _ ++ (evc (ev3 (pkS x (m : Int))) ++ []) = _; rw [List.append_nil]; rfl)
      clear hx
      generalize hPX : pkS x (m : Int) = y at HL
      go_wp2_with fail
      refine (HAG.out _).mono ?_
      rintro e w1 ⟨rfl, hb1⟩
      have hB1 := Below.step hB hb1
      have HO1a := Lib.hid (row_kept HO.out hb1)
      clear hb1 hB HO hBX c0 c1 c2 c3 c4 c5 c6 hlX hc
      go_wp2_with fail
      refine (HTP.out x _).mono ?_
      rw [hPX]
      rintro e w2 ⟨rfl, hb2⟩
      have hB2 := Below.step hB1 hb2
      have HO2a := Lib.hid (row_kept HO1a.out hb2)
      clear hb2 hB1 HO1a
      go_wp2_with fail
      refine (HPK.out _ _).mono ?_
      rintro e w3 ⟨rfl, hb3⟩
      have hB3 := Below.step hB2 hb3
      have hs3 := hB3.size
      have HO3 := Lib.hid (row_kept HO2a.out hb3)
      clear hb3 hB2 HO2a
      have HR := Lib.hid (reads_newN w3 1 12 (evc ((3 : Int), y, (0 : Int))) 67 rfl)
      have HO1 := Lib.hid (HO3.out.alloc (Obj.cells #[.int .i64 3, .int .i64 y, .int .i64 0, .int .i64 0, .int .i64 0, .int .i64 0, .int .i64 0, .int .i64 0, .int .i64 0, .int .i64 0, .int .i64 0, .int .i64 0] 67))
      have N1 := Lib.hid (show k + 1 ≤ maxLen from by unfold maxLen; omega)
      have N2 := Lib.hid (show (k + 1) * 96 ≤ 140737488355328 from by omega)
      have N3 := Lib.hid (show W0.heap.size ≤ (w3.alloc (Obj.cells #[.int .i64 3, .int .i64 y, .int .i64 0, .int .i64 0, .int .i64 0, .int .i64 0, .int .i64 0, .int .i64 0, .int .i64 0, .int .i64 0, .int .i64 0, .int .i64 0] 67)).heap.size from by simp; omega)
      have NV := Lib.hid (evc_one ((3 : Int), y, (0 : Int)))
      have hBA : Below W0.heap.size W0 (w3.alloc (Obj.cells #[.int .i64 3, .int .i64 y, .int .i64 0, .int .i64 0, .int .i64 0, .int .i64 0, .int .i64 0, .int .i64 0, .int .i64 0, .int .i64 0, .int .i64 0, .int .i64 0] 67)) := hB3.alloc hs3 _
      go_wp2_with (at_builtin; refine wpList_append_any _ rfl (.tmp 14) (.tmp 20) 38 rfl W0.heap.size 67 i0 (.agg #[.int .i64 0, .int .i64 0, .int .i64 0, .int .i64 0, .int .i64 0, .int .i64 0, .int .i64 0, .int .i64 0, .int .i64 0, .int .i64 0, .int .i64 0, .int .i64 0]) 12 96 Try.underlying38 HI.out HZ0.out HZ1.out HZ2.out rfl (by decide) _ k (evl (((L.take k).map (fun x => pkS x (m : Int))).map ev3)) rfl HO1.out _ (some ⟨w3.heap.size, 0, none⟩) 1 1 _ rfl HR.out NV.out N1.out N2.out N3.out ?_; intro v3 w3 hown3 hgrow3 hblk3; have HP := Lib.hid (And.intro hown3 hgrow3); clear hown3 hgrow3 hblk3)
      go_roundw
      case rel => exact ⟨k + 1, by omega, by go_num, by have h := HP.out.1; refine Lib.hid ?_; rw [HL.out]; exact h, Below.grown hBA HP.out.2 (by simp; omega) (fun g e => (HO1.out.lt g e).1)⟩
      case measure => simp [intOf]; omega
    · obtain rfl : k = L.length := by omega
      have hd : decide ((L.length : Int) < (L.length : Int)) = false := decide_eq_false (by omega)
      go_wp2_with fail
      go_ret
      exact ⟨_, rfl, by rw [List.length_map, List.length_map]; have h := HO.out; rw [List.take_length, HZW.out] at h; exact h, HBW.out.trans (hB.mono (by rw [HZW.out]; omega))⟩
end Go.Proofs.Ytdlgpbmeeiakdaa
