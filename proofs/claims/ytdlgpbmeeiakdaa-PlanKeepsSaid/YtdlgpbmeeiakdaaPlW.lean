/-
  Events without an agent.
-/
import Derived.Test.YtdlgpbmeeiakdaaRows
import Derived.Test.YtdlgpbmeeiakdaaKit
import Derived.Test.YtdlgpbmeeiakdaaApp
import Derived.Test.YtdlgpbmeeiakdaaEv
import Derived.Test.YtdlgpbmeeiakdaaEvP
import Derived.Test.YtdlgpbmeeiakdaaEvQ
import Derived.Test.YtdlgpbmeeiakdaaEvR
import Derived.Test.YtdlgpbmeeiakdaaQuiet
import Derived.Test.YtdlgpbmeeiakdaaPlA
import Derived.Test.YtdlgpbmeeiakdaaPlB
import Derived.WalkKit
import Derived.ProofKit
import Derived.OpenShut
import Derived.ShutString
import Derived.Below
import Derived.Outline
import Derived.WalkLawsBesides
import Derived.WalkSpells
import Derived.Handy
import Derived.Deep.QuietTactic
import Derived.BigQuiet
import Derived.RegionTactic
import Derived.ChangeAlike
import Derived.Lib.Hide
import Derived.Laws.Rows
import Derived.Laws.Tables
import Derived.Laws.CopyOwn
import Derived.Laws.MakeOwn
import Derived.Laws.Entries
import Derived.Laws.OwnMore
import Derived.Deep.WholeRow
import Derived.Deep.LoopGhost
import Derived.Deep.AppendLies
import Derived.Deep.Draws
import Derived.Maps.AppendAt
import Derived.OwnWalk
import Derived.Deep.RegionHeld3
import Derived.Deep.Cut
import Derived.Deep.CutRange
import Derived.Deep.DeepCutAuto
import Derived.Deep.CutBlock
import Derived.Lib.SliceRun
import Derived.IntWalk
namespace Go.Proofs.Ytdlgpbmeeiakdaa
open Go.ChangeShapes Go.WideShapes Go.ChangeAt Go.RowKit
/-- Without an agent's steps. -/
def woF (a : Int) (l : List Ev) : List Ev := l.filter (fun e => !isP a e)
theorem woF_take (a : Int) (l : List Ev) (k : Nat) (e : Ev) (h : l[k]? = some e) : woF a (l.take (k + 1)) = woF a (l.take k) ++ (if isP a e then [] else [e]) := by
  unfold woF
  rw [List.take_add_one, h, List.filter_append]
  cases hp : isP a e <;> simp [hp]
theorem woF_len (a : Int) (l : List Ev) : (woF a l).length ≤ l.length := List.length_filter_le ..
set_option maxRecDepth 100000 in
set_option maxHeartbeats 4000000 in
theorem without_is (a : Int) (A : Option Addr) (cap : Nat) (l : List Ev) (w : World) (h : EAt w A l) (hl : l.length ≤ 100000) :
    Calls Try.prog 27 #[.int .i64 a, .slice A l.length cap] w (ERow w.heap.size (woF a l) w) := by
  obtain ⟨i0, hi, hz0, hz1, hz2⟩ := info_parts infoE
  have HI := Lib.hid hi
  have HZ0 := Lib.hid hz0
  have HZ1 := Lib.hid hz1
  have HZ2 := Lib.hid hz2
  clear hi hz0 hz1 hz2
  have H := Lib.hid h
  clear h
  go_enter Try.func27, Try.ntmps27
  go_wp2_with fail
  go_loopw [5, 10] (fun v i wr => ∃ k : Nat, k ≤ l.length ∧ i = .int .i64 (k : Int) ∧ Hid (wr.ownsRow w.heap.size 67 12 v (woF a (l.take k)).length (evl (woF a (l.take k)))) ∧ Below w.heap.size w wr) (fun _ i _ => l.length + 1 - (intOf i).toNat)
  case atStart => exact ⟨0, Nat.zero_le _, rfl, ⟨rfl, .inl ⟨rfl, rfl⟩⟩, Below.refl _ _⟩
  case round =>
    obtain ⟨k, hk, rfl, HO, hB⟩ := hrel
    have hs := hB.size
    by_cases hlt : k < l.length
    · obtain ⟨ev, hev⟩ : ∃ e, l[k]? = some e := ⟨_, List.getElem?_eq_getElem hlt⟩
      have HT := Lib.hid (woF_take a l k ev hev)
      have HLN := Lib.hid (show (woF a (l.take k)).length ≤ 100000 from by have h1 := woF_len a (l.take k); rw [List.length_take] at h1; omega)
      generalize woF a (l.take k) = X at *
      obtain ⟨g, hA, hg, c0, c1, c2, c3, c4, c5, c6, c7, c8, c9, c10, c11⟩ := H.out.cells k ev hev
      obtain ⟨ek, ex, en⟩ := ev
      dsimp only at c0 c1 c2
      have d0 := (hB.cell (p := ⟨g, k * 12, none⟩) hg).trans c0
      have d1 := (hB.cell (p := ⟨g, k * 12 + 1, none⟩) hg).trans c1
      have d2 := (hB.cell (p := ⟨g, k * 12 + 2, none⟩) hg).trans c2
      have d3 := (hB.cell (p := ⟨g, k * 12 + 3, none⟩) hg).trans c3
      have d4 := (hB.cell (p := ⟨g, k * 12 + 4, none⟩) hg).trans c4
      have d5 := (hB.cell (p := ⟨g, k * 12 + 5, none⟩) hg).trans c5
      have d6 := (hB.cell (p := ⟨g, k * 12 + 6, none⟩) hg).trans c6
      have d7 := (hB.cell (p := ⟨g, k * 12 + 7, none⟩) hg).trans c7
      have d8 := (hB.cell (p := ⟨g, k * 12 + 8, none⟩) hg).trans c8
      have d9 := (hB.cell (p := ⟨g, k * 12 + 9, none⟩) hg).trans c9
      have d10 := (hB.cell (p := ⟨g, k * 12 + 10, none⟩) hg).trans c10
      have d11 := (hB.cell (p := ⟨g, k * 12 + 11, none⟩) hg).trans c11
      subst hA
      clear c0 c1 c2 c3 c4 c5 c6 c7 c8 c9 c10 c11
      have k0 : (0 : Int) ≤ (k : Int) := by omega
      have k1 : (k : Int) < (l.length : Int) := by omega
      have k2 : (l.length : Int) ≤ 100000 := by omega
      have HPK := Lib.hid (fun W => picks_is ek ex en a W)
      have hBE : Below wr.heap.size wr (wr.alloc (.cells #[.int .i64 ek, .int .i64 ex, .int .i64 en, .int .i64 0, .int .i64 0, .int .i64 0, .int .i64 0, .int .i64 0, .int .i64 0, .int .i64 0, .int .i64 0, .int .i64 0] 67)) := by go_grown
      have HO1a := Lib.hid (row_kept HO.out hBE)
      have hB1 := Below.step hB hBE
      have HBX := Lib.hid (heap_alloc_new wr (.cells #[.int .i64 ek, .int .i64 ex, .int .i64 en, .int .i64 0, .int .i64 0, .int .i64 0, .int .i64 0, .int .i64 0, .int .i64 0, .int .i64 0, .int .i64 0, .int .i64 0] 67))
      clear hev HO
      go_wp2_with fail
      clear d0 d1 d2 d3 d4 d5 d6 d7 d8 d9 d10 d11
      refine (HPK.out _).mono ?_
      rintro e w2 ⟨rfl, hb2⟩
      have hB2 := Below.step hB1 hb2
      have hs2 := hB2.size
      have HO2 := Lib.hid (row_kept HO1a.out hb2)
      have y0 := (hb2.cell (p := ⟨wr.heap.size, 0, none⟩) (by simp)).trans (show (wr.alloc (.cells #[.int .i64 ek, .int .i64 ex, .int .i64 en, .int .i64 0, .int .i64 0, .int .i64 0, .int .i64 0, .int .i64 0, .int .i64 0, .int .i64 0, .int .i64 0, .int .i64 0] 67)).cell? ⟨wr.heap.size, 0, none⟩ = some (.int .i64 ek) from by simp [go_sem])
      have y1 := (hb2.cell (p := ⟨wr.heap.size, 1, none⟩) (by simp)).trans (show (wr.alloc (.cells #[.int .i64 ek, .int .i64 ex, .int .i64 en, .int .i64 0, .int .i64 0, .int .i64 0, .int .i64 0, .int .i64 0, .int .i64 0, .int .i64 0, .int .i64 0, .int .i64 0] 67)).cell? ⟨wr.heap.size, 1, none⟩ = some (.int .i64 ex) from by simp [go_sem])
      have y2 := (hb2.cell (p := ⟨wr.heap.size, 2, none⟩) (by simp)).trans (show (wr.alloc (.cells #[.int .i64 ek, .int .i64 ex, .int .i64 en, .int .i64 0, .int .i64 0, .int .i64 0, .int .i64 0, .int .i64 0, .int .i64 0, .int .i64 0, .int .i64 0, .int .i64 0] 67)).cell? ⟨wr.heap.size, 2, none⟩ = some (.int .i64 en) from by simp [go_sem])
      have y3 := (hb2.cell (p := ⟨wr.heap.size, 3, none⟩) (by simp)).trans (show (wr.alloc (.cells #[.int .i64 ek, .int .i64 ex, .int .i64 en, .int .i64 0, .int .i64 0, .int .i64 0, .int .i64 0, .int .i64 0, .int .i64 0, .int .i64 0, .int .i64 0, .int .i64 0] 67)).cell? ⟨wr.heap.size, 3, none⟩ = some (.int .i64 0) from by simp [go_sem])
      have y4 := (hb2.cell (p := ⟨wr.heap.size, 4, none⟩) (by simp)).trans (show (wr.alloc (.cells #[.int .i64 ek, .int .i64 ex, .int .i64 en, .int .i64 0, .int .i64 0, .int .i64 0, .int .i64 0, .int .i64 0, .int .i64 0, .int .i64 0, .int .i64 0, .int .i64 0] 67)).cell? ⟨wr.heap.size, 4, none⟩ = some (.int .i64 0) from by simp [go_sem])
      have y5 := (hb2.cell (p := ⟨wr.heap.size, 5, none⟩) (by simp)).trans (show (wr.alloc (.cells #[.int .i64 ek, .int .i64 ex, .int .i64 en, .int .i64 0, .int .i64 0, .int .i64 0, .int .i64 0, .int .i64 0, .int .i64 0, .int .i64 0, .int .i64 0, .int .i64 0] 67)).cell? ⟨wr.heap.size, 5, none⟩ = some (.int .i64 0) from by simp [go_sem])
      have y6 := (hb2.cell (p := ⟨wr.heap.size, 6, none⟩) (by simp)).trans (show (wr.alloc (.cells #[.int .i64 ek, .int .i64 ex, .int .i64 en, .int .i64 0, .int .i64 0, .int .i64 0, .int .i64 0, .int .i64 0, .int .i64 0, .int .i64 0, .int .i64 0, .int .i64 0] 67)).cell? ⟨wr.heap.size, 6, none⟩ = some (.int .i64 0) from by simp [go_sem])
      have y7 := (hb2.cell (p := ⟨wr.heap.size, 7, none⟩) (by simp)).trans (show (wr.alloc (.cells #[.int .i64 ek, .int .i64 ex, .int .i64 en, .int .i64 0, .int .i64 0, .int .i64 0, .int .i64 0, .int .i64 0, .int .i64 0, .int .i64 0, .int .i64 0, .int .i64 0] 67)).cell? ⟨wr.heap.size, 7, none⟩ = some (.int .i64 0) from by simp [go_sem])
      have y8 := (hb2.cell (p := ⟨wr.heap.size, 8, none⟩) (by simp)).trans (show (wr.alloc (.cells #[.int .i64 ek, .int .i64 ex, .int .i64 en, .int .i64 0, .int .i64 0, .int .i64 0, .int .i64 0, .int .i64 0, .int .i64 0, .int .i64 0, .int .i64 0, .int .i64 0] 67)).cell? ⟨wr.heap.size, 8, none⟩ = some (.int .i64 0) from by simp [go_sem])
      have y9 := (hb2.cell (p := ⟨wr.heap.size, 9, none⟩) (by simp)).trans (show (wr.alloc (.cells #[.int .i64 ek, .int .i64 ex, .int .i64 en, .int .i64 0, .int .i64 0, .int .i64 0, .int .i64 0, .int .i64 0, .int .i64 0, .int .i64 0, .int .i64 0, .int .i64 0] 67)).cell? ⟨wr.heap.size, 9, none⟩ = some (.int .i64 0) from by simp [go_sem])
      have y10 := (hb2.cell (p := ⟨wr.heap.size, 10, none⟩) (by simp)).trans (show (wr.alloc (.cells #[.int .i64 ek, .int .i64 ex, .int .i64 en, .int .i64 0, .int .i64 0, .int .i64 0, .int .i64 0, .int .i64 0, .int .i64 0, .int .i64 0, .int .i64 0, .int .i64 0] 67)).cell? ⟨wr.heap.size, 10, none⟩ = some (.int .i64 0) from by simp [go_sem])
      have y11 := (hb2.cell (p := ⟨wr.heap.size, 11, none⟩) (by simp)).trans (show (wr.alloc (.cells #[.int .i64 ek, .int .i64 ex, .int .i64 en, .int .i64 0, .int .i64 0, .int .i64 0, .int .i64 0, .int .i64 0, .int .i64 0, .int .i64 0, .int .i64 0, .int .i64 0] 67)).cell? ⟨wr.heap.size, 11, none⟩ = some (.int .i64 0) from by simp [go_sem])
      clear hb2 hBE hB1 HO1a HBX hB hs
      cases hp : isP a (ek, ex, en) with
      | true =>
        have HX := Lib.hid (show woF a (l.take (k + 1)) = X from by rw [HT.out, hp]; simp)
        clear hp
        go_wp2_with fail
        go_roundw
        case rel => exact ⟨k + 1, by omega, by go_num, by rw [HX.out]; exact HO2, hB2⟩
        case measure => simp [intOf]; omega
      | false =>
        have HX := Lib.hid (show woF a (l.take (k + 1)) = X ++ [(ek, ex, en)] from by rw [HT.out, hp]; rfl)
        have HR := Lib.hid (reads_newN w2 1 12 (evc (ek, ex, en)) 67 rfl)
        have HO1 := Lib.hid (HO2.out.alloc (Obj.cells #[.int .i64 ek, .int .i64 ex, .int .i64 en, .int .i64 0, .int .i64 0, .int .i64 0, .int .i64 0, .int .i64 0, .int .i64 0, .int .i64 0, .int .i64 0, .int .i64 0] 67))
        have N1 := Lib.hid (show X.length + 1 ≤ maxLen from by have := HLN.out; unfold maxLen; omega)
        have N2 := Lib.hid (show (X.length + 1) * 96 ≤ 140737488355328 from by have := HLN.out; omega)
        have N3 := Lib.hid (show w.heap.size ≤ (w2.alloc (Obj.cells #[.int .i64 ek, .int .i64 ex, .int .i64 en, .int .i64 0, .int .i64 0, .int .i64 0, .int .i64 0, .int .i64 0, .int .i64 0, .int .i64 0, .int .i64 0, .int .i64 0] 67)).heap.size from by simp; omega)
        have NV := Lib.hid (evc_one (ek, ex, en))
        have hBA : Below w.heap.size w (w2.alloc (Obj.cells #[.int .i64 ek, .int .i64 ex, .int .i64 en, .int .i64 0, .int .i64 0, .int .i64 0, .int .i64 0, .int .i64 0, .int .i64 0, .int .i64 0, .int .i64 0, .int .i64 0] 67)) := hB2.alloc hs2 _
        clear hp
        go_wp2_with (at_builtin; refine wpList_append_any _ rfl (.tmp 18) (.tmp 20) 38 rfl w.heap.size 67 i0 (.agg #[.int .i64 0, .int .i64 0, .int .i64 0, .int .i64 0, .int .i64 0, .int .i64 0, .int .i64 0, .int .i64 0, .int .i64 0, .int .i64 0, .int .i64 0, .int .i64 0]) 12 96 Try.underlying38 HI.out HZ0.out HZ1.out HZ2.out rfl (by decide) _ X.length (evl X) rfl HO1.out _ (some ⟨w2.heap.size, 0, none⟩) 1 1 _ rfl HR.out NV.out N1.out N2.out N3.out ?_; intro v3 w3 hown3 hgrow3 hblk3; have HP := Lib.hid (And.intro hown3 hgrow3); clear hown3 hgrow3 hblk3)
        go_roundw
        case rel => exact ⟨k + 1, by omega, by go_num, by have h := HP.out.1; refine Lib.hid ?_; rw [HX.out, List.length_append, evl_snoc]; exact h, Below.grown hBA HP.out.2 (by simp; omega) (fun g e => (HO1.out.lt g e).1)⟩
        case measure => simp [intOf]; omega
    · obtain rfl : k = l.length := by omega
      have hd : decide ((l.length : Int) < (l.length : Int)) = false := decide_eq_false (by omega)
      go_wp2_with fail
      go_ret
      exact ⟨_, rfl, by have h := HO.out; rw [List.take_length] at h; exact h, hB⟩
end Go.Proofs.Ytdlgpbmeeiakdaa
