/-
  The numbers of a line.
-/
import Derived.Test.YtafnipgeeampjaaGreatDoorRows
import Derived.Test.YtafnipgeeampjaaGreatDoorKit
import Derived.Test.YtafnipgeeampjaaGreatDoorApp
import Derived.Test.YtafnipgeeampjaaGreatDoorQuiet
import Derived.WalkKit
import Derived.ProofKit
import Derived.OpenShut
import Derived.ShutString
import Derived.Below
import Derived.Outline
import Derived.WalkLawsBesides
import Derived.WalkSpells
import Derived.Handy
import Derived.Deep.QuietTactic
import Derived.BigQuiet
import Derived.RegionTactic
import Derived.ChangeAlike
import Derived.Lib.Hide
import Derived.Laws.Rows
import Derived.Laws.Tables
import Derived.Laws.CopyOwn
import Derived.Laws.MakeOwn
import Derived.Laws.Entries
import Derived.Laws.OwnMore
import Derived.Deep.WholeRow
import Derived.Deep.LoopGhost
import Derived.Deep.AppendLies
import Derived.Deep.Draws
import Derived.Maps.AppendAt
import Derived.OwnWalk
import Derived.Deep.RegionHeld3
import Derived.Deep.Cut
import Derived.Deep.CutRange
import Derived.Deep.DeepCutAuto
import Derived.Deep.CutBlock
import Derived.Lib.SliceRun
import Derived.IntWalk
import Derived.Laws.Strings
import Derived.Lib.Bytealg
import Derived.Lib.Strings
import Derived.Laws.Externs
import Derived.Test.YtafnipgeeampjaaGreatDoorSrT
import Derived.Test.YtafnipgeeampjaaGreatDoorSrO
import Derived.Lib.SplitLaws
import Derived.Shelf.Strings.Split
namespace Go.Proofs.YtafnipgeeampjaaGreatDoor
open Go.ChangeShapes Go.WideShapes Go.ChangeAt Go.RowKit
/-- MaxLen's cell. -/
def Ml (w : World) : Prop := 1 < w.heap.size ∧ ∃ m, w.cell? ⟨1, 0, none⟩ = some (.int .i64 m)
theorem Ml.below {w w' : World} (h : Ml w) (hb : Below w.heap.size w w') : Ml w' := by
  obtain ⟨h1, m, h2⟩ := h
  exact ⟨Nat.lt_of_lt_of_le h1 hb.size, m, (hb.cell (p := ⟨1, 0, none⟩) h1).trans h2⟩
theorem infoS9 : (Tryz.prog.info? (lays146_ren.t 9)).map (fun i => (i.zero, i.size, i.bytes)) = some (some (.string ByteArray.empty), 1, 16) := by kernel_rfl
/-- The words as a block of strings. -/
def stc (l : List (List UInt8)) : List Value := l.map fun x => .string (Bs x)
theorem split_is (x : List UInt8) (L : List (List UInt8)) (h : nbl (x :: L)) (hl : (jl (x :: L)).length < 4000000000) (w : World) (hm : Ml w) : Calls Tryz.prog 46 #[.string (Bs (jl (x :: L))), .string ⟨#[32]⟩] w fun e w' => e = .returned (.slice (some ⟨w.heap.size, 0, none⟩) (x :: L).length (x :: L).length) ∧ w' = w.alloc (.cells (stc (x :: L)).toArray 9) := by
  obtain ⟨_, m, hm⟩ := hm
  have c := Any.strings_Split lays146 infoS9 (Bs (jl (x :: L))) ⟨#[32]⟩ m w (by rw [Bs_size]; omega) hm (by decide)
  obtain ⟨e1, e2⟩ := splitB_jl x L h
  rw [e1, e2, List.map_map] at c
  exact c
theorem split_ws (r : List UInt8) (hr : r.length < 4000000000) (w : World) (hm : Ml w) : Calls Tryz.prog 46 #[.string (Bs r), .string ⟨#[32]⟩] w fun e w' => e = .returned (.slice (some ⟨w.heap.size, 0, none⟩) (ws r).length (ws r).length) ∧ Bl w.heap.size (stc (ws r)) w' ∧ Below w.heap.size w w' := by
  have hp := ws_pos r
  rcases hw : ws r with _ | ⟨x, L⟩
  · rw [hw] at hp; simp at hp
  · have hj := ws_jl r
    have hn := ws_nb r
    rw [hw] at hj hn
    refine (show Calls Tryz.prog 46 #[.string (Bs r), .string ⟨#[32]⟩] w _ from by
      have := split_is x L hn (by rw [hj]; exact hr) w hm
      rw [hj] at this
      exact this).mono ?_
    rintro e w' ⟨rfl, rfl⟩
    exact ⟨rfl, Bl.new _ _ _, by go_grown⟩
/-- Numbers as cells. -/
def itc (l : List Int) : List Value := l.map fun x => .int .i64 x
theorem itc_snoc (a : List Int) (x : Int) : itc a ++ [.int .i64 x] = itc (a ++ [x]) := by simp [itc]
/-- What 'numbers' gives. -/
def NumP (W : List (List UInt8)) (w : World) (e : Ending) (w' : World) : Prop :=
  (match numsM W with
   | none => e = .returned (.tuple #[.slice none 0 0, .bool false])
   | some a => ∃ v, e = .returned (.tuple #[v, .bool true]) ∧ w'.ownsRow w.heap.size 3 1 v a.length (itc a)) ∧ Below w.heap.size w w'
theorem NumP.none {W : List (List UInt8)} {w w' : World} {e : Ending} (h : NumP W w e w') (hn : numsM W = none) : e = .returned (.tuple #[.slice none 0 0, .bool false]) ∧ Below w.heap.size w w' := by
  unfold NumP at h
  rw [hn] at h
  exact h
theorem NumP.some {W : List (List UInt8)} {w w' : World} {e : Ending} {a : List Int} (h : NumP W w e w') (hn : numsM W = some a) : ∃ v, e = .returned (.tuple #[v, .bool true]) ∧ w'.ownsRow w.heap.size 3 1 v a.length (itc a) ∧ Below w.heap.size w w' := by
  unfold NumP at h
  rw [hn] at h
  obtain ⟨⟨v, h1, h2⟩, h3⟩ := h
  exact ⟨v, h1, h2, h3⟩
theorem own_mono {w : World} {b b' : Nat} {e : TypeId} {s n : Nat} {v : Value} {xs : List Value} (h : w.ownsRow b e s v n xs) (hb : b' ≤ b) : w.ownsRow b' e s v n xs := by
  refine ⟨h.1, ?_⟩
  rcases h.2 with h0 | ⟨g, cap, cur, hv, hg, hr⟩
  · exact .inl h0
  · exact .inr ⟨g, cap, cur, hv, Nat.le_trans hb hg, hr⟩
theorem Bl.grown {B : Nat} {l : List Value} {w w' : World} {row : Option Nat} (h : Bl B l w) (hg : w.grownBy w' row) (hr : ∀ b, row = some b → b ≠ B) : Bl B l w' := by
  have hl := h.lt
  obtain ⟨t, hh⟩ := h
  exact ⟨t, (hg.block B hl fun e => hr B e.symm rfl).trans hh⟩
set_option maxRecDepth 100000 in
set_option maxHeartbeats 4000000 in
theorem numbers_is (r : List UInt8) (hr : r.length ≤ 6000) (w : World) (hm : Ml w) : Calls Tryz.prog 32 #[.string (Bs r)] w (NumP (ws r) w) := by
  have hsz := fun x hx => ws_size r x hx
  have hlen : (ws r).length ≤ 6001 := by
    have hp := ws_pos r
    rcases hw : ws r with _ | ⟨x, L⟩
    · rw [hw] at hp; simp at hp
    · rw [← hw]
      have := (ws_size r x (by rw [hw]; exact List.mem_cons_self ..)).2
      omega
  have HS := Lib.hid (split_ws r (by omega) w hm)
  obtain ⟨W, hW⟩ : ∃ W, W = ws r := ⟨_, rfl⟩
  rw [← hW] at HS hsz hlen ⊢
  have HZ := Lib.hid hsz
  have HL := Lib.hid hlen
  have HR := Lib.hid hr
  obtain ⟨i0, hi, hz0, hz1, hz2⟩ := info_parts infoI
  have HII := Lib.hid hi
  have HZ0 := Lib.hid hz0
  have HZ1 := Lib.hid hz1
  have HZ2 := Lib.hid hz2
  clear hW hsz hlen hr hi hz0 hz1 hz2 hm
  go_enter Tryz.func32, Tryz.ntmps32
  go_wp2_with fail
  refine HS.out.mono ?_
  rintro e1 w1 ⟨rfl, hl1, hb1⟩
  have HB1 := Lib.hid hb1
  have HL1 := Lib.hid hl1
  clear hb1 hl1
  obtain ⟨S, hS⟩ : ∃ S, S = w.heap.size := ⟨_, rfl⟩
  rw [← hS]
  have HSS := Lib.hid hS
  clear hS
  go_wp2_with fail
  go_loopw [12, 4] (fun vk va wr => ∃ (k : Nat) (a : List Int), k ≤ W.length ∧ vk = .int .i64 (k : Int) ∧ Hid (numsM (W.take k) = some a) ∧ Hid (wr.ownsRow (S + 1) 3 1 va a.length (itc a)) ∧ Hid (Bl S (stc W) wr) ∧ Hid (Below S w wr)) (fun vk _ _ => W.length + 1 - (intOf vk).toNat)
  case atStart => exact ⟨0, [], Nat.zero_le _, rfl, Lib.hid rfl, Lib.hid ⟨rfl, .inl ⟨rfl, rfl⟩⟩, by rw [HSS.out]; exact HL1, by rw [HSS.out]; exact HB1⟩
  case round =>
    obtain ⟨k, a, hk, rfl, hnm, hown, hS, hB⟩ := hrel
    have k0 : (0 : Int) ≤ (k : Int) := by omega
    by_cases hkn : k < W.length
    · obtain ⟨x, hx⟩ : ∃ x, x = W[k] := ⟨_, rfl⟩
      have hxk : W[k]? = some x := by rw [List.getElem?_eq_getElem hkn, hx]
      have hc1 : wr.cell? ⟨S, k, none⟩ = some (.string (Bs x)) := hS.out.cell k _ (by unfold stc; rw [List.getElem?_map, hxk]; rfl)
      have q1 : (k : Int) < (W.length : Int) := by omega
      have HX : Hid (x.length ≤ 6000) := Lib.hid (by have := HZ.out x (List.mem_of_getElem? hxk); have := HR.out; omega)
      have HXK := Lib.hid hxk
      have q2 : (k : Int) ≤ 6001 := by have := HL.out; omega
      have HK := Lib.hid hkn
      clear hx hxk hkn hk
      rcases hin : inum x with _ | y
      · have HIN := Lib.hid hin
        clear hin
        go_wp2_with fail
        refine (number_no x (by have := HX.out; omega) HIN.out _).mono ?_
        rintro e2 w2 ⟨rfl, rfl⟩
        go_wp2_with fail
        go_ret2
        refine ⟨?_, by rw [← HSS.out]; exact hB.out⟩
        rw [numsM_none W x (List.mem_of_getElem? HXK.out) HIN.out]
        rfl
      · have HIN := Lib.hid hin
        clear hin
        go_wp2_with fail
        refine (number_some x (by have := HX.out; omega) y HIN.out _).mono ?_
        rintro e2 w2 ⟨rfl, hb2⟩
        have HB2 := Lib.hid hb2
        clear hb2
        have N1 : Hid (a.length + 1 ≤ maxLen) := Lib.hid (by have h1 := numsM_len _ _ hnm.out; rw [List.length_take] at h1; have h2 := HL.out; unfold maxLen; omega)
        have N2 : Hid ((a.length + 1) * 8 ≤ 140737488355328) := Lib.hid (by have h1 := numsM_len _ _ hnm.out; rw [List.length_take] at h1; have h2 := HL.out; omega)
        have HO := Lib.hid (rkept hown.out (HB2.out.alloc HB2.out.size (.cells #[.int .i64 y] 3)))
        go_wp2_with (at_builtin; refine wpList_append_any _ rfl (.tmp 23) (.tmp 25) 53 rfl (S + 1) 3 i0 (.int .i64 0) 1 8 Tryz.underlying53 HII.out HZ0.out HZ1.out HZ2.out rfl (by decide) _ a.length (itc a) rfl HO.out _ (some ⟨w2.heap.size, 0, none⟩) 1 1 [.int .i64 y] rfl (reads_newN w2 1 1 [.int .i64 y] 3 rfl) (by intro u hu; simp only [List.mem_cons, List.not_mem_nil, or_false] at hu; subst hu; rfl) N1.out N2.out (by have h1 := hS.out.lt; have h2 := HB2.out.size; simp; omega) ?_; intro v3 w3 hown3 hgrow3 hb3; have HP := Lib.hid (And.intro hown3 hgrow3); clear hown3 hgrow3 hb3)
        go_roundw
        case rel =>
          refine ⟨k + 1, a ++ [y], HK.out, by go_num, Lib.hid ?_, Lib.hid ?_, Lib.hid ?_, Lib.hid ?_⟩
          · rw [List.take_add_one, HXK.out]
            exact numsM_snoc _ _ _ _ hnm.out HIN.out
          · rw [List.length_append, ← itc_snoc]
            exact HP.out.1
          · exact ((hS.out.below HB2.out).below (by go_grown : Below w2.heap.size w2 (w2.alloc (.cells #[.int .i64 y] 3)))).grown HP.out.2 (fun b e => by have := (HO.out.lt b e).1; omega)
          · exact Below.grown ((hB.out.trans (HB2.out.mono (by have := hS.out.lt; omega))).alloc (by have := hS.out.lt; have := HB2.out.size; omega) _) HP.out.2 (by have h1 := hS.out.lt; have h2 := HB2.out.size; simp; omega) (fun b e => by have := (HO.out.lt b e).1; omega)
        case measure => have := HK.out; simp [intOf]; omega
    · have hke : k = W.length := by omega
      subst hke
      have hfin := hnm.out
      rw [List.take_of_length_le (Nat.le_refl _)] at hfin
      have HF := Lib.hid hfin
      clear hfin hk hkn
      go_wp2_with fail
      go_ret2
      refine ⟨?_, by rw [← HSS.out]; exact hB.out⟩
      rw [HF.out]
      exact ⟨_, rfl, own_mono hown.out (by have := HSS.out; omega)⟩

end Go.Proofs.YtafnipgeeampjaaGreatDoor
