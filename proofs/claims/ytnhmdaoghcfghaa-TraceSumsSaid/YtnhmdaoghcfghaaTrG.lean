/-
  The abstract pool: find, live, spent.
-/
import Derived.Test.YtnhmdaoghcfghaaRows
import Derived.Test.YtnhmdaoghcfghaaKit
import Derived.Test.YtnhmdaoghcfghaaApp
import Derived.Test.YtnhmdaoghcfghaaQuiet
import Derived.Test.YtnhmdaoghcfghaaTrM
import Derived.Test.YtnhmdaoghcfghaaTrS
import Derived.Test.YtnhmdaoghcfghaaTrF
import Derived.WalkKit
import Derived.ProofKit
import Derived.OpenShut
import Derived.ShutString
import Derived.Below
import Derived.Outline
import Derived.WalkLawsBesides
import Derived.WalkSpells
import Derived.Handy
import Derived.Deep.QuietTactic
import Derived.BigQuiet
import Derived.RegionTactic
import Derived.ChangeAlike
import Derived.Lib.Hide
import Derived.Laws.Rows
import Derived.Laws.Tables
import Derived.Laws.CopyOwn
import Derived.Laws.MakeOwn
import Derived.Laws.Entries
import Derived.Laws.OwnMore
import Derived.Deep.WholeRow
import Derived.Deep.LoopGhost
import Derived.Deep.AppendLies
import Derived.Deep.Draws
import Derived.Maps.AppendAt
import Derived.OwnWalk
import Derived.Deep.RegionHeld3
import Derived.Deep.Cut
import Derived.Deep.CutRange
import Derived.Deep.DeepCutAuto
import Derived.Deep.CutBlock
import Derived.Lib.SliceRun
import Derived.IntWalk
namespace Go.Proofs.Ytnhmdaoghcfghaa
open Go.ChangeShapes Go.WideShapes Go.ChangeAt Go.RowKit
set_option maxRecDepth 100000 in
set_option maxHeartbeats 2000000 in
theorem find_none (Fx : Nat → Option Obj → Prop) (w wr : World) (B K : Nat) (p c n b r f g now : Int) (v : Value) (os : List Ord) (cl gn : Int) (h : MS Fx w wr B K p c n b r f g v os now) (hl : os.length ≤ 1000) (hn : ∀ (t : Nat) (o : Ord), os[t]? = some o → (o.c == cl && o.g == gn) = false) : Calls Try.prog 17 #[.pointer (some ⟨B, 0, none⟩), .int .i64 cl, .int .i64 gn] wr fun e w' => e = .returned (.int .i64 (-1)) ∧ Below wr.heap.size wr w' := by
  obtain ⟨A, cp, rfl⟩ := own_shape h.row
  have b7 := h.blk.cell 7 _ rfl
  have hBl := h.blk.lt
  have g1 : Below wr.heap.size wr ((wr.alloc (.cells #[.int .i64 cl] 3)).alloc (.cells #[.int .i64 gn] 3)) := by go_grown
  have HR := Lib.hid (row_kept h.row g1)
  have HC1 := Lib.hid (show ((wr.alloc (.cells #[.int .i64 cl] 3)).alloc (.cells #[.int .i64 gn] 3)).cell? ⟨wr.heap.size, 0, none⟩ = some (.int .i64 cl) from by simp [go_sem])
  have HC2 := Lib.hid (show ((wr.alloc (.cells #[.int .i64 cl] 3)).alloc (.cells #[.int .i64 gn] 3)).cell? ⟨wr.heap.size + 1, 0, none⟩ = some (.int .i64 gn) from by simp [go_sem])
  have HX : Hid (Calls Try.prog 27 #[.slice A os.length cp, .func (.func 28) #[] #[.pointer (some ⟨wr.heap.size, 0, none⟩), .pointer (some ⟨wr.heap.size + 1, 0, none⟩)]] ((wr.alloc (.cells #[.int .i64 cl] 3)).alloc (.cells #[.int .i64 gn] 3)) fun e w' => e = .returned (.int .i64 (-1)) ∧ Below ((wr.alloc (.cells #[.int .i64 cl] 3)).alloc (.cells #[.int .i64 gn] 3)).heap.size ((wr.alloc (.cells #[.int .i64 cl] 3)).alloc (.cells #[.int .i64 gn] 3)) w') := by
    refine Lib.hid ?_
    rcases Nat.eq_zero_or_pos os.length with h0 | h0
    · have hf := HR.out.2
      rcases hf with ⟨hv, _⟩ | ⟨g', cap, cur, hv, _⟩
      · injection hv with e1 e2 e3
        subst e1
        rw [h0]
        exact index_nil cp _ _
      · injection hv with e1 e2 e3
        subst e1
        exact index_none K g' cp _ _ cl gn os _ HR.out hl HC1.out HC2.out hn
    · obtain ⟨g', cap, hv, _, _⟩ := World.ownsRow.form HR.out h0
      injection hv with e1 e2 e3
      subst e1
      exact index_none K g' cp _ _ cl gn os _ HR.out hl HC1.out HC2.out hn
  have HG := Lib.hid g1
  clear h hn g1 HR HC1 HC2 
  go_enter Try.func17, Try.ntmps17
  go_wp2_with fail
  refine HX.out.mono ?_
  rintro e w2 ⟨rfl, hb2⟩
  go_wp2_with fail
  go_ret
  exact ⟨rfl, Below.step HG.out hb2⟩
set_option maxRecDepth 100000 in
set_option maxHeartbeats 2000000 in
theorem find_some (Fx : Nat → Option Obj → Prop) (w wr : World) (B K : Nat) (p c n b r f g now : Int) (v : Value) (os : List Ord) (cl gn : Int) (h : MS Fx w wr B K p c n b r f g v os now) (hl : os.length ≤ 1000) (q : Nat) (o0 : Ord) (hq : os[q]? = some o0) (hq0 : (o0.c == cl && o0.g == gn) = true) (hn : ∀ (t : Nat) (o : Ord), t < q → os[t]? = some o → (o.c == cl && o.g == gn) = false) : Calls Try.prog 17 #[.pointer (some ⟨B, 0, none⟩), .int .i64 cl, .int .i64 gn] wr fun e w' => e = .returned (.int .i64 (q : Int)) ∧ Below wr.heap.size wr w' := by
  obtain ⟨A, cp, rfl⟩ := own_shape h.row
  have b7 := h.blk.cell 7 _ rfl
  have hBl := h.blk.lt
  have g1 : Below wr.heap.size wr ((wr.alloc (.cells #[.int .i64 cl] 3)).alloc (.cells #[.int .i64 gn] 3)) := by go_grown
  have HR := Lib.hid (row_kept h.row g1)
  have HC1 := Lib.hid (show ((wr.alloc (.cells #[.int .i64 cl] 3)).alloc (.cells #[.int .i64 gn] 3)).cell? ⟨wr.heap.size, 0, none⟩ = some (.int .i64 cl) from by simp [go_sem])
  have HC2 := Lib.hid (show ((wr.alloc (.cells #[.int .i64 cl] 3)).alloc (.cells #[.int .i64 gn] 3)).cell? ⟨wr.heap.size + 1, 0, none⟩ = some (.int .i64 gn) from by simp [go_sem])
  have HX : Hid (Calls Try.prog 27 #[.slice A os.length cp, .func (.func 28) #[] #[.pointer (some ⟨wr.heap.size, 0, none⟩), .pointer (some ⟨wr.heap.size + 1, 0, none⟩)]] ((wr.alloc (.cells #[.int .i64 cl] 3)).alloc (.cells #[.int .i64 gn] 3)) fun e w' => e = .returned (.int .i64 (q : Int)) ∧ Below ((wr.alloc (.cells #[.int .i64 cl] 3)).alloc (.cells #[.int .i64 gn] 3)).heap.size ((wr.alloc (.cells #[.int .i64 cl] 3)).alloc (.cells #[.int .i64 gn] 3)) w') := by
    refine Lib.hid ?_
    obtain ⟨g', cap, hv, _, _⟩ := World.ownsRow.form HR.out (by have := (List.getElem?_eq_some_iff.1 hq).1; omega)
    injection hv with e1 e2 e3
    subst e1
    exact index_some K g' cp _ _ q cl gn os o0 _ HR.out hl HC1.out HC2.out hq hq0 hn
  have HG := Lib.hid g1
  clear h hn g1 HR HC1 HC2 hq hq0
  go_enter Try.func17, Try.ntmps17
  go_wp2_with fail
  refine HX.out.mono ?_
  rintro e w2 ⟨rfl, hb2⟩
  go_wp2_with fail
  go_ret
  exact ⟨rfl, Below.step HG.out hb2⟩
set_option maxRecDepth 100000 in
set_option maxHeartbeats 2000000 in
theorem live_none (Fx : Nat → Option Obj → Prop) (w wr : World) (B K : Nat) (p c n b r f g now : Int) (v : Value) (os : List Ord) (cl gn : Int) (h : MS Fx w wr B K p c n b r f g v os now) (hl : os.length ≤ 1000) (hn : ∀ (t : Nat) (o : Ord), os[t]? = some o → (o.c == cl && o.g == gn) = false) : Calls Try.prog 34 #[.pointer (some ⟨B, 0, none⟩), .int .i64 cl, .int .i64 gn] wr fun e w' => e = .returned (.tuple #[.pointer none, .iface 57 (.int .i64 3)]) ∧ Below wr.heap.size wr w' := by
  have HX := Lib.hid (find_none Fx w wr B K p c n b r f g now v os cl gn h hl hn)
  clear h hn
  go_enter Try.func34, Try.ntmps34
  go_wp2_with fail
  refine HX.out.mono ?_
  rintro e w2 ⟨rfl, hb2⟩
  go_wp2_with fail
  refine bodyPost_ret (by simp [results, Try.results34, go_sem]; try rfl) rfl ⟨rfl, hb2⟩
set_option maxRecDepth 100000 in
set_option maxHeartbeats 2000000 in
theorem live_gone (Fx : Nat → Option Obj → Prop) (w wr : World) (B K : Nat) (p c n b r f g now : Int) (v : Value) (os : List Ord) (cl gn : Int) (h : MS Fx w wr B K p c n b r f g v os now) (hl : os.length ≤ 1000) (q : Nat) (o0 : Ord) (hq : os[q]? = some o0) (hq0 : (o0.c == cl && o0.g == gn) = true) (hn : ∀ (t : Nat) (o : Ord), t < q → os[t]? = some o → (o.c == cl && o.g == gn) = false) (hen : o0.en ≠ 0) : Calls Try.prog 34 #[.pointer (some ⟨B, 0, none⟩), .int .i64 cl, .int .i64 gn] wr fun e w' => e = .returned (.tuple #[.pointer none, .iface 57 (.int .i64 29)]) ∧ Below wr.heap.size wr w' := by
  have HX := Lib.hid (find_some Fx w wr B K p c n b r f g now v os cl gn h hl q o0 hq hq0 hn)
  have hql : q < os.length := (List.getElem?_eq_some_iff.1 hq).1
  obtain ⟨A, cp, rfl⟩ := own_shape h.row
  obtain ⟨gb, rfl, _, _, _⟩ := h.form (Nat.lt_of_le_of_lt (Nat.zero_le _) hql)
  have b7 := h.blk.cell 7 _ rfl
  have hBl := h.blk.lt
  have hgl := (h.row.lt gb rfl).2
  have ce := row_cell h.row hq rfl (j := 12) (by omega) rfl
  have HB7 := Lib.hid b7
  have HCE := Lib.hid ce
  have q0 : (0 : Int) ≤ (q : Int) := by omega
  have q1 : (q : Int) < (os.length : Int) := by omega
  have q2 : (os.length : Int) ≤ 1000 := by omega
  clear h hn hq hq0 ce b7
  have e1 : (o0.en != 0) = true := by simpa using hen
  go_enter Try.func34, Try.ntmps34
  go_wp2_with fail
  refine HX.out.mono ?_
  rintro e w2 ⟨rfl, hb2⟩
  have b7 := (hb2.cell (p := ⟨B, 7, none⟩) hBl).trans HB7.out
  have ce := (hb2.cell (p := ⟨gb, q * 13 + 12, none⟩) hgl).trans HCE.out
  have n1 : decide ((q : Int) < 0) = false := decide_eq_false (by omega)
  go_wp2_with fail
  refine bodyPost_ret (by simp [results, Try.results34, go_sem]; try rfl) rfl ⟨?_, hb2⟩
  first | rfl | simp
set_option maxRecDepth 100000 in
set_option maxHeartbeats 2000000 in
theorem live_ok (Fx : Nat → Option Obj → Prop) (w wr : World) (B K : Nat) (p c n b r f g now : Int) (gb cp : Nat) (os : List Ord) (cl gn : Int) (h : MS Fx w wr B K p c n b r f g (.slice (some ⟨gb, 0, none⟩) os.length cp) os now) (hl : os.length ≤ 1000) (q : Nat) (o0 : Ord) (hq : os[q]? = some o0) (hq0 : (o0.c == cl && o0.g == gn) = true) (hn : ∀ (t : Nat) (o : Ord), t < q → os[t]? = some o → (o.c == cl && o.g == gn) = false) (hen : o0.en = 0) : Calls Try.prog 34 #[.pointer (some ⟨B, 0, none⟩), .int .i64 cl, .int .i64 gn] wr fun e w' => e = .returned (.tuple #[.pointer (some ⟨gb, q * 13, none⟩), .nilIface]) ∧ Below wr.heap.size wr w' := by
  have HX := Lib.hid (find_some Fx w wr B K p c n b r f g now (.slice (some ⟨gb, 0, none⟩) os.length cp) os cl gn h hl q o0 hq hq0 hn)
  have hql : q < os.length := (List.getElem?_eq_some_iff.1 hq).1
  have b7 := h.blk.cell 7 _ rfl
  have hBl := h.blk.lt
  have hgl := (h.row.lt gb rfl).2
  have ce := row_cell h.row hq rfl (j := 12) (by omega) rfl
  have HB7 := Lib.hid b7
  have HCE := Lib.hid ce
  have q0 : (0 : Int) ≤ (q : Int) := by omega
  have q1 : (q : Int) < (os.length : Int) := by omega
  have q2 : (os.length : Int) ≤ 1000 := by omega
  clear h hn hq hq0 ce b7
  rw [hen] at HCE
  clear hen
  go_enter Try.func34, Try.ntmps34
  go_wp2_with fail
  refine HX.out.mono ?_
  rintro e w2 ⟨rfl, hb2⟩
  have b7 := (hb2.cell (p := ⟨B, 7, none⟩) hBl).trans HB7.out
  have ce := (hb2.cell (p := ⟨gb, q * 13 + 12, none⟩) hgl).trans HCE.out
  have n1 : decide ((q : Int) < 0) = false := decide_eq_false (by omega)
  go_wp2_with fail
  refine bodyPost_ret (by simp [results, Try.results34, go_sem]; try rfl) rfl ⟨?_, hb2⟩
  first | rfl | simp
end Go.Proofs.Ytnhmdaoghcfghaa
