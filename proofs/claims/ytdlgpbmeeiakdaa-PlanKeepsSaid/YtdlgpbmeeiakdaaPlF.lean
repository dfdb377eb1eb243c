/-
  Numbers as events; the document's gap and runs.
-/
import Derived.Test.YtdlgpbmeeiakdaaRows
import Derived.Test.YtdlgpbmeeiakdaaKit
import Derived.Test.YtdlgpbmeeiakdaaApp
import Derived.Test.YtdlgpbmeeiakdaaEv
import Derived.Test.YtdlgpbmeeiakdaaEvP
import Derived.Test.YtdlgpbmeeiakdaaEvQ
import Derived.Test.YtdlgpbmeeiakdaaEvR
import Derived.Test.YtdlgpbmeeiakdaaQuiet
import Derived.Test.YtdlgpbmeeiakdaaPlA
import Derived.Test.YtdlgpbmeeiakdaaPlB
import Derived.Test.YtdlgpbmeeiakdaaPlC
import Derived.Test.YtdlgpbmeeiakdaaPlD
import Derived.Test.YtdlgpbmeeiakdaaPlE
import Derived.WalkKit
import Derived.ProofKit
import Derived.OpenShut
import Derived.ShutString
import Derived.Below
import Derived.Outline
import Derived.WalkLawsBesides
import Derived.WalkSpells
import Derived.Handy
import Derived.Deep.QuietTactic
import Derived.BigQuiet
import Derived.RegionTactic
import Derived.ChangeAlike
import Derived.Lib.Hide
import Derived.Laws.Rows
import Derived.Laws.Tables
import Derived.Laws.CopyOwn
import Derived.Laws.MakeOwn
import Derived.Laws.Entries
import Derived.Laws.OwnMore
import Derived.Deep.WholeRow
import Derived.Deep.LoopGhost
import Derived.Deep.AppendLies
import Derived.Deep.Draws
import Derived.Maps.AppendAt
import Derived.OwnWalk
import Derived.Deep.RegionHeld3
import Derived.Deep.Cut
import Derived.Deep.CutRange
import Derived.Deep.DeepCutAuto
import Derived.Deep.CutBlock
import Derived.Lib.SliceRun
import Derived.IntWalk
namespace Go.Proofs.Ytdlgpbmeeiakdaa
open Go.ChangeShapes Go.WideShapes Go.ChangeAt Go.RowKit
/-- A slice of numbers that reads as a list. -/
def IAt (w : World) (A : Option Addr) (L : List Int) : Prop := ∀ (k : Nat) (x : Int), L[k]? = some x → ∃ ad, A = some ad ∧ ad.block < w.heap.size ∧ w.cell? (ad.add k) = some (.int .i64 x)
theorem IAt.below {w w' : World} {A : Option Addr} {L : List Int} (h : IAt w A L) (hb : Below w.heap.size w w') : IAt w' A L := by
  intro k x hx
  obtain ⟨ad, e, hl, hc⟩ := h k x hx
  exact ⟨ad, e, Nat.lt_of_lt_of_le hl hb.size, (hb.cell (p := ad.add k) (by rw [block_of_add]; exact hl)).trans hc⟩
theorem IAt.of {w : World} {A : Option Addr} {len cap : Nat} {zs : List Int} (h : IsRow .i64 w A len cap zs) : IAt w A (zs.take len) ∧ (zs.take len).length = len := by
  rcases h with ⟨rfl, rfl, rfl, rfl⟩ | ⟨x, rfl, hlc, hcm, hzl, hcell, hwz⟩
  · exact ⟨fun k x hx => by simp at hx, rfl⟩
  · refine ⟨fun k y hy => ?_, by rw [List.length_take]; omega⟩
    have hk : k < len := by
      have := (List.getElem?_eq_some_iff.1 hy).1
      rw [List.length_take] at this; omega
    rw [List.getElem?_take_of_lt hk] at hy
    have hc := hcell k (by omega)
    rw [List.getD_eq_getElem?_getD, hy] at hc
    refine ⟨x, rfl, ?_, hc⟩
    rcases Nat.lt_or_ge x.block w.heap.size with hlt | hge
    · exact hlt
    · exfalso
      have hb : (x.add k).block = x.block := block_of_add x k
      simp [World.cell?, hb, Array.getElem?_eq_none hge] at hc
set_option maxRecDepth 100000 in
set_option maxHeartbeats 4000000 in
theorem events_is (A : Option Addr) (cap : Nat) (L : List Int) (w : World) (h : IAt w A L) (hl : L.length ≤ 1000) : Calls Try.prog 24 #[.slice A L.length cap] w (ERow w.heap.size (L.map evOf) w) := by
  obtain ⟨i0, hi, hz0, hz1, hz2⟩ := info_parts infoE
  have HI := Lib.hid hi
  have HZ0 := Lib.hid hz0
  have HZ1 := Lib.hid hz1
  have HZ2 := Lib.hid hz2
  clear hi hz0 hz1 hz2
  have H := Lib.hid h
  clear h
  go_enter Try.func24, Try.ntmps24
  go_wp2_with fail
  go_loopw [3, 9] (fun v i wr => ∃ k : Nat, k ≤ L.length ∧ i = .int .i64 (k : Int) ∧ Hid (wr.ownsRow w.heap.size 67 12 v k (evl ((L.take k).map evOf))) ∧ Below w.heap.size w wr) (fun _ i _ => L.length + 1 - (intOf i).toNat)
  case atStart => exact ⟨0, Nat.zero_le _, rfl, ⟨rfl, .inl ⟨rfl, rfl⟩⟩, Below.refl _ _⟩
  case round =>
    obtain ⟨k, hk, rfl, HO, hB⟩ := hrel
    have hs := hB.size
    by_cases hlt : k < L.length
    · obtain ⟨x, hx⟩ : ∃ e, L[k]? = some e := ⟨_, List.getElem?_eq_getElem hlt⟩
      obtain ⟨ad, hA, hadl, hc⟩ := H.out k x hx
      have hc1 := (hB.cell (p := ad.add k) (by rw [block_of_add]; exact hadl)).trans hc
      subst hA
      have k0 : (0 : Int) ≤ (k : Int) := by omega
      have k1 : (k : Int) < (L.length : Int) := by omega
      have k2 : (L.length : Int) ≤ 1000 := by omega
      have N1 := Lib.hid (show k + 1 ≤ maxLen from by unfold maxLen; omega)
      have N2 := Lib.hid (show (k + 1) * 96 ≤ 140737488355328 from by omega)
      clear hc
      by_cases hneg : x < 0
      · have HEV := Lib.hid (show evOf x = ((2 : Int), (0 : Int), (1 : Int)) from by unfold evOf; rw [if_pos hneg])
        have HL := Lib.hid (show evl ((L.take (k + 1)).map evOf) = evl ((L.take k).map evOf) ++ evc ((2 : Int), (0 : Int), (1 : Int)) from by rw [List.take_add_one, hx, List.map_append, evl_app, ← HEV.out]; show _ ++ (evc (evOf x) ++ []) = _; rw [List.append_nil])
        have HR := Lib.hid (fun W => reads_newN W 1 12 (evc ((2 : Int), (0 : Int), (1 : Int))) 67 rfl)
        have NV := Lib.hid (evc_one ((2 : Int), (0 : Int), (1 : Int)))
        have hHE : Below wr.heap.size wr (wr.alloc (.cells #[.int .i64 2, .int .i64 0, .int .i64 1, .int .i64 0, .int .i64 0, .int .i64 0, .int .i64 0, .int .i64 0, .int .i64 0, .int .i64 0, .int .i64 0, .int .i64 0] 67)) := by go_grown
        have HOa := Lib.hid ((row_kept HO.out hHE).alloc (Obj.cells #[.int .i64 2, .int .i64 0, .int .i64 1, .int .i64 0, .int .i64 0, .int .i64 0, .int .i64 0, .int .i64 0, .int .i64 0, .int .i64 0, .int .i64 0, .int .i64 0] 67))
        have hB2 := (Below.step hB hHE).alloc (Below.step hB hHE).size (Obj.cells #[.int .i64 2, .int .i64 0, .int .i64 1, .int .i64 0, .int .i64 0, .int .i64 0, .int .i64 0, .int .i64 0, .int .i64 0, .int .i64 0, .int .i64 0, .int .i64 0] 67)
        have N3 := Lib.hid (show w.heap.size ≤ ((wr.alloc (.cells #[.int .i64 2, .int .i64 0, .int .i64 1, .int .i64 0, .int .i64 0, .int .i64 0, .int .i64 0, .int .i64 0, .int .i64 0, .int .i64 0, .int .i64 0, .int .i64 0] 67)).alloc (.cells #[.int .i64 2, .int .i64 0, .int .i64 1, .int .i64 0, .int .i64 0, .int .i64 0, .int .i64 0, .int .i64 0, .int .i64 0, .int .i64 0, .int .i64 0, .int .i64 0] 67)).heap.size from hB2.size)
        have HR1 := Lib.hid (HR.out (wr.alloc (.cells #[.int .i64 2, .int .i64 0, .int .i64 1, .int .i64 0, .int .i64 0, .int .i64 0, .int .i64 0, .int .i64 0, .int .i64 0, .int .i64 0, .int .i64 0, .int .i64 0] 67)))
        clear hHE HR hx
        go_wp2_with (at_builtin; refine wpList_append_any _ rfl (.tmp 18) (.tmp 20) 38 rfl w.heap.size 67 i0 (.agg #[.int .i64 0, .int .i64 0, .int .i64 0, .int .i64 0, .int .i64 0, .int .i64 0, .int .i64 0, .int .i64 0, .int .i64 0, .int .i64 0, .int .i64 0, .int .i64 0]) 12 96 Try.underlying38 HI.out HZ0.out HZ1.out HZ2.out rfl (by decide) _ k (evl ((L.take k).map evOf)) rfl HOa.out _ (some ⟨(wr.alloc (.cells #[.int .i64 2, .int .i64 0, .int .i64 1, .int .i64 0, .int .i64 0, .int .i64 0, .int .i64 0, .int .i64 0, .int .i64 0, .int .i64 0, .int .i64 0, .int .i64 0] 67)).heap.size, 0, none⟩) 1 1 _ (by simp only [World.size_alloc]; rfl) HR1.out NV.out N1.out N2.out N3.out ?_; intro v3 w3 hown3 hgrow3 hblk3; have HP := Lib.hid (And.intro hown3 hgrow3); clear hown3 hgrow3 hblk3)
        go_roundw
        case rel => exact ⟨k + 1, by omega, by go_num, by have h := HP.out.1; refine Lib.hid ?_; rw [HL.out]; exact h, Below.grown hB2 HP.out.2 hB2.size (fun g e => (HOa.out.lt g e).1)⟩
        case measure => simp [intOf]; omega
      · have HEV := Lib.hid (show evOf x = ((3 : Int), x, (0 : Int)) from by unfold evOf; rw [if_neg hneg])
        have HL := Lib.hid (show evl ((L.take (k + 1)).map evOf) = evl ((L.take k).map evOf) ++ evc ((3 : Int), x, (0 : Int)) from by rw [List.take_add_one, hx, List.map_append, evl_app, ← HEV.out]; show _ ++ (evc (evOf x) ++ []) = _; rw [List.append_nil])
        have HR := Lib.hid (fun W => reads_newN W 1 12 (evc ((3 : Int), x, (0 : Int))) 67 rfl)
        have NV := Lib.hid (evc_one ((3 : Int), x, (0 : Int)))
        have hd : decide (x < 0) = false := decide_eq_false hneg
        have hHE : Below wr.heap.size wr (wr.alloc (.cells #[.int .i64 3, .int .i64 x, .int .i64 0, .int .i64 0, .int .i64 0, .int .i64 0, .int .i64 0, .int .i64 0, .int .i64 0, .int .i64 0, .int .i64 0, .int .i64 0] 67)) := by go_grown
        have HOa := Lib.hid ((row_kept HO.out hHE).alloc (Obj.cells #[.int .i64 3, .int .i64 x, .int .i64 0, .int .i64 0, .int .i64 0, .int .i64 0, .int .i64 0, .int .i64 0, .int .i64 0, .int .i64 0, .int .i64 0, .int .i64 0] 67))
        have hB2 := (Below.step hB hHE).alloc (Below.step hB hHE).size (Obj.cells #[.int .i64 3, .int .i64 x, .int .i64 0, .int .i64 0, .int .i64 0, .int .i64 0, .int .i64 0, .int .i64 0, .int .i64 0, .int .i64 0, .int .i64 0, .int .i64 0] 67)
        have N3 := Lib.hid (show w.heap.size ≤ ((wr.alloc (.cells #[.int .i64 3, .int .i64 x, .int .i64 0, .int .i64 0, .int .i64 0, .int .i64 0, .int .i64 0, .int .i64 0, .int .i64 0, .int .i64 0, .int .i64 0, .int .i64 0] 67)).alloc (.cells #[.int .i64 3, .int .i64 x, .int .i64 0, .int .i64 0, .int .i64 0, .int .i64 0, .int .i64 0, .int .i64 0, .int .i64 0, .int .i64 0, .int .i64 0, .int .i64 0] 67)).heap.size from hB2.size)
        have HR1 := Lib.hid (HR.out (wr.alloc (.cells #[.int .i64 3, .int .i64 x, .int .i64 0, .int .i64 0, .int .i64 0, .int .i64 0, .int .i64 0, .int .i64 0, .int .i64 0, .int .i64 0, .int .i64 0, .int .i64 0] 67)))
        clear hHE HR hx
        go_wp2_with (at_builtin; refine wpList_append_any _ rfl (.tmp 18) (.tmp 20) 38 rfl w.heap.size 67 i0 (.agg #[.int .i64 0, .int .i64 0, .int .i64 0, .int .i64 0, .int .i64 0, .int .i64 0, .int .i64 0, .int .i64 0, .int .i64 0, .int .i64 0, .int .i64 0, .int .i64 0]) 12 96 Try.underlying38 HI.out HZ0.out HZ1.out HZ2.out rfl (by decide) _ k (evl ((L.take k).map evOf)) rfl HOa.out _ (some ⟨(wr.alloc (.cells #[.int .i64 3, .int .i64 x, .int .i64 0, .int .i64 0, .int .i64 0, .int .i64 0, .int .i64 0, .int .i64 0, .int .i64 0, .int .i64 0, .int .i64 0, .int .i64 0] 67)).heap.size, 0, none⟩) 1 1 _ (by simp only [World.size_alloc]; rfl) HR1.out NV.out N1.out N2.out N3.out ?_; intro v3 w3 hown3 hgrow3 hblk3; have HP := Lib.hid (And.intro hown3 hgrow3); clear hown3 hgrow3 hblk3)
        go_roundw
        case rel => exact ⟨k + 1, by omega, by go_num, by have h := HP.out.1; refine Lib.hid ?_; rw [HL.out]; exact h, Below.grown hB2 HP.out.2 hB2.size (fun g e => (HOa.out.lt g e).1)⟩
        case measure => simp [intOf]; omega
    · obtain rfl : k = L.length := by omega
      have hd : decide ((L.length : Int) < (L.length : Int)) = false := decide_eq_false (by omega)
      go_wp2_with fail
      go_ret
      exact ⟨_, rfl, by rw [List.length_map]; have h := HO.out; rw [List.take_length] at h; exact h, hB⟩
set_option maxRecDepth 100000 in
set_option maxHeartbeats 4000000 in
theorem refgap_is (a : Int) (A : Option Addr) (cap : Nat) (L : List Int) (w : World) (h : IAt w A L) (hl : L.length ≤ 1000) : Calls Try.prog 29 #[.int .i64 a, .slice A L.length cap] w fun e w' => e = .returned (.int .i64 ((Mg a L : Nat) : Int)) ∧ Below w.heap.size w w' := by
  have H := Lib.hid h
  clear h
  go_enter Try.func29, Try.ntmps29
  go_wp2_with fail
  go_loopw [5, 6] (fun s i wr => wr = w ∧ ∃ k : Nat, k ≤ L.length ∧ i = .int .i64 (k : Int) ∧ s = .int .i64 ((mx a L k : Nat) : Int)) (fun _ i _ => L.length + 1 - (intOf i).toNat)
  case atStart => exact ⟨rfl, 0, Nat.zero_le _, rfl, rfl⟩
  case round =>
    obtain ⟨rfl, k, hk, rfl, rfl⟩ := hrel
    by_cases hlt : k < L.length
    · have k0 : (0 : Int) ≤ (k : Int) := by omega
      have k1 : (k : Int) < (L.length : Int) := by omega
      have k2 : (L.length : Int) ≤ 1000 := by omega
      have HMX := Lib.hid (show mx a L (k + 1) = max (mx a L k) (pre a (L.drop k)) from rfl)
      generalize mx a L k = M at *
      go_wp2_with fail
      go_loopw [7] (fun j wq => wq = wr ∧ ∃ n : Nat, n ≤ pre a (L.drop k) ∧ k + n ≤ L.length ∧ j = .int .i64 (n : Int)) (fun j _ => L.length + 1 - (intOf j).toNat)
      case atStart => exact ⟨rfl, 0, Nat.zero_le _, by omega, rfl⟩
      case round =>
        obtain ⟨rfl, n, hn, hkn, rfl⟩ := hrel
        have n0 : (0 : Int) ≤ (n : Int) := by omega
        obtain ⟨T, hT⟩ : ∃ T, T = k + n := ⟨_, rfl⟩
        have hTI : (k : Int) + (n : Int) = (T : Int) := by omega
        have HT := Lib.hid hT
        have T0 : (0 : Int) ≤ (T : Int) := by omega
        by_cases hTl : T < L.length
        · have T1 : (T : Int) < (L.length : Int) := by omega
          obtain ⟨x, hx⟩ : ∃ e, L[T]? = some e := ⟨_, List.getElem?_eq_getElem hTl⟩
          obtain ⟨ad, hA, hadl, hc⟩ := H.out T x hx
          subst hA
          have hpl := pre_lt a (L.drop k) n x (by rw [List.getElem?_drop, ← hT]; exact hx) hn
          clear hx hT
          by_cases hxa : x = a
          · have hne : (x != a) = false := by simpa using hxa
            have hnp : n = pre a (L.drop k) := hpl.1 hxa
            rw [← hnp] at HMX
            by_cases hgt : M < n
            · have hgI : (M : Int) < (n : Int) := by omega
              clear hxa hpl hnp
              go_wp2_with fail
              go_roundw
              case rel => exact ⟨trivial, k + 1, by omega, by go_num, by rw [HMX.out, Nat.max_eq_right (by omega)]⟩
              case measure => simp [intOf]; omega
            · have hgI : decide ((M : Int) < (n : Int)) = false := decide_eq_false (by omega)
              clear hxa hpl hnp
              go_wp2_with fail
              go_roundw
              case rel => exact ⟨trivial, k + 1, by omega, by go_num, by rw [HMX.out, Nat.max_eq_left (by omega)]⟩
              case measure => simp [intOf]; omega
          · have hne : (x != a) = true := by simpa using hxa
            have hnp : ¬ n = pre a (L.drop k) := fun e => hxa (hpl.2 e)
            have hn1 : n + 1 ≤ pre a (L.drop k) := by omega
            have hTT : k + (n + 1) ≤ L.length := by omega
            have hn9 : (n : Int) ≤ 1000 := by omega
            clear hxa hpl hnp
            go_wp2_with fail
            go_roundw
            case rel => exact ⟨trivial, n + 1, hn1, hTT, by go_num⟩
            case measure => simp [intOf]; omega
        · have hd : decide ((T : Int) < (L.length : Int)) = false := decide_eq_false (by omega)
          have hnp : n = pre a (L.drop k) := pre_end a (L.drop k) n hn (by rw [List.length_drop]; omega)
          rw [← hnp] at HMX
          clear hT hnp
          by_cases hgt : M < n
          · have hgI : (M : Int) < (n : Int) := by omega
            go_wp2_with fail
            go_roundw
            case rel => exact ⟨trivial, k + 1, by omega, by go_num, by rw [HMX.out, Nat.max_eq_right (by omega)]⟩
            case measure => simp [intOf]; omega
          · have hgI : decide ((M : Int) < (n : Int)) = false := decide_eq_false (by omega)
            go_wp2_with fail
            go_roundw
            case rel => exact ⟨trivial, k + 1, by omega, by go_num, by rw [HMX.out, Nat.max_eq_left (by omega)]⟩
            case measure => simp [intOf]; omega
    · obtain rfl : k = L.length := by omega
      have hd : decide ((L.length : Int) < (L.length : Int)) = false := decide_eq_false (by omega)
      go_wp2_with fail
      go_ret
      rw [mx_all]
      exact ⟨rfl, Below.refl _ _⟩
end Go.Proofs.Ytdlgpbmeeiakdaa
