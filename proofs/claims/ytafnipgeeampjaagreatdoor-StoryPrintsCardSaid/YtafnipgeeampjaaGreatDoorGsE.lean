/-
  At, With, Place, Code, note, Words of a chain of faults and notes round a code, by their contracts.
-/
import Derived.Test.YtafnipgeeampjaaGreatDoorRows
import Derived.Test.YtafnipgeeampjaaGreatDoorKit
import Derived.Test.YtafnipgeeampjaaGreatDoorGsF
import Derived.Test.YtafnipgeeampjaaGreatDoorGsC
import Derived.Test.YtafnipgeeampjaaGreatDoorGsD
import Derived.WalkKit
import Derived.ProofKit
import Derived.OpenShut
import Derived.ShutString
import Derived.Below
import Derived.Outline
import Derived.WalkLawsBesides
import Derived.WalkSpells
import Derived.Handy
import Derived.Deep.QuietTactic
import Derived.BigQuiet
import Derived.RegionTactic
import Derived.ChangeAlike
import Derived.Lib.Hide
import Derived.Deep.LoopGhost
import Derived.Deep.RegionHeld3
import Derived.Deep.Cut
import Derived.Deep.CutRange
import Derived.Deep.DeepCutAuto
import Derived.Deep.CutBlock
import Derived.Deep.RegionLaw
import Derived.LaidEql
import Derived.Stop.Asserts
import Derived.RowKitTokens
import Derived.Defers
import Derived.Recover
namespace Go.Proofs.YtafnipgeeampjaaGreatDoor
open Go.RowKit Go.Extern.Stop Go.Stop Go.Extern Go.ChangeShapes Go.WideShapes Go.ChangeAt
def IsErr (c : Int) (l : List Wr) (w : World) (e : Ending) (w' : World) : Prop := ∃ v, e = .returned v ∧ Ch w' c l v ∧ Below w.heap.size w w'
theorem at_ch (n : Int) (l : List Wr) (c : Int) (v : Value) (w : World) (h : Ch w c l v) : Calls Tryz.prog 27 #[.int .i64 n, v] w (IsErr c (.pl n :: l) w) := by
  have HC := Lib.hid h
  obtain ⟨T, x, rfl⟩ := h.iface
  clear h
  go_enter Tryz.func27, Tryz.ntmps27
  go_wp2
  go_ret
  exact ⟨_, rfl, ⟨w.heap.size, _, rfl, by simp, by simp [Wr.val], by simp, HC.out.below (by go_grown)⟩, by go_grown⟩
theorem with_ch (s : ByteArray) (l : List Wr) (c : Int) (v : Value) (w : World) (h : Ch w c l v) : Calls Tryz.prog 16 #[.string s, v] w (IsErr c (.wo s :: l) w) := by
  have HC := Lib.hid h
  obtain ⟨T, x, rfl⟩ := h.iface
  clear h
  go_enter Tryz.func16, Tryz.ntmps16
  go_wp2
  go_ret
  exact ⟨_, rfl, ⟨w.heap.size, _, rfl, by simp, by simp [Wr.val], by simp, HC.out.below (by go_grown)⟩, by go_grown⟩
theorem at_nil (n : Int) (w : World) : Calls Tryz.prog 27 #[.int .i64 n, .nilIface] w fun e w' => e = .returned .nilIface ∧ w = w' := by
  go_enter Tryz.func27, Tryz.ntmps27
  go_wp2
  go_ret
  exact ⟨rfl, rfl⟩
theorem with_nil (s : ByteArray) (w : World) : Calls Tryz.prog 16 #[.string s, .nilIface] w fun e w' => e = .returned .nilIface ∧ w = w' := by
  go_enter Tryz.func16, Tryz.ntmps16
  go_wp2
  go_ret
  exact ⟨rfl, rfl⟩
theorem place_idle (a b : Addr) (w : World) : CallsD Tryz.prog 20 #[.pointer (some a), .pointer (some b)] .returning w fun e u' w' => e = .returned (.tuple #[]) ∧ u' = .returning ∧ w' = w := by
  refine callsD_of_wpS Tryz.func20 rfl fun c₀ cs hu => ?_
  apply wpS_seq
  apply wpS_region
  simp [wpOpsS, go_sem, recoverD, hu, Tryz.ntmps20, Exit.thenS]
  refine wpS_cond (t := false) (by simp [Act.eval, Array.replicate]) ?_
  simp only [Bool.false_eq_true, if_false]
  refine wpS_of_wp (wp_skip ?_)
  cases c₀
  simp_all [bodyPostS, results, Tryz.results20]
theorem words_idle (a : Addr) (w : World) : CallsD Tryz.prog 22 #[.pointer (some a)] .returning w fun e u' w' => e = .returned (.tuple #[]) ∧ u' = .returning ∧ w' = w := by
  refine callsD_of_wpS Tryz.func22 rfl fun c₀ cs hu => ?_
  apply wpS_seq
  apply wpS_region
  simp [wpOpsS, go_sem, recoverD, hu, Tryz.ntmps22, Exit.thenS]
  refine wpS_cond (t := false) (by simp [Act.eval, Array.replicate]) ?_
  simp only [Bool.false_eq_true, if_false]
  refine wpS_of_wp (wp_skip ?_)
  cases c₀
  simp_all [bodyPostS, results, Tryz.results22]
set_option maxHeartbeats 2000000 in
theorem place_some (n : Int) (l : List Wr) (c : Int) (v : Value) (w : World) (h : Ch w c l v) (hg : w.cell? ⟨0, 0, none⟩ = some (.iface 97 (.agg #[.pointer (some ⟨9, 27, none⟩)]))) (hgl : 0 < w.heap.size) (hn : firstPl l = some n) :
    Calls Tryz.prog 9 #[v] w fun e w' => e = .returned (.tuple #[.int .i64 n, .bool true]) ∧ Below w.heap.size w w' := by
  have hmf : ∀ (fn : Fn) (first cap : Array Value) (w : World), (Instr.makeFunc fn first cap).run Tryz.prog w = .ok (.func fn first cap) w := fun _ _ _ _ => rfl
  have hB3 : Below w.heap.size w (((w.alloc (.cells #[.int .i64 0] 3)).alloc (.cells #[.bool false] 4)).alloc (.cells #[.pointer none] 54)) := by go_grown
  have hg3 : (((w.alloc (.cells #[.int .i64 0] 3)).alloc (.cells #[.bool false] 4)).alloc (.cells #[.pointer none] 54)).cell? ⟨0, 0, none⟩ = some (.iface 97 (.agg #[.pointer (some ⟨9, 27, none⟩)])) := (hB3.cell (p := ⟨0, 0, none⟩) hgl).trans hg
  have HS := Lib.hid (As_fault_some l c v (w.heap.size + 1 + 1) (.pointer none) w (((w.alloc (.cells #[.int .i64 0] 3)).alloc (.cells #[.bool false] 4)).alloc (.cells #[.pointer none] 54)) hB3 h hg3 (Nat.lt_of_lt_of_le hgl hB3.size) (show (((w.alloc (.cells #[.int .i64 0] 3)).alloc (.cells #[.bool false] 4)).alloc (.cells #[.pointer none] 54)).cell? ⟨w.heap.size + 1 + 1, 0, none⟩ = some (.pointer none) by simp [go_sem]) (show w.heap.size + 1 + 1 < (((w.alloc (.cells #[.int .i64 0] 3)).alloc (.cells #[.bool false] 4)).alloc (.cells #[.pointer none] 54)).heap.size by simp only [World.size_alloc]; omega) (show (((w.alloc (.cells #[.int .i64 0] 3)).alloc (.cells #[.bool false] 4)).alloc (.cells #[.pointer none] 54)).frozen? ⟨w.heap.size + 1 + 1, 0, none⟩ = false by simp [go_sem]) n hn)
  have HB3 := Lib.hid hB3
  clear hB3 hg3 hn h hg
  go_enter_defers Tryz.func9, Tryz.ntmps9
  go_wp2_with (go_at_call 21; (with_reducible refine HS.out.mono ?_); rintro ex w' ⟨rfl, hp⟩; obtain ⟨b, hbl, h0, hp1⟩ := hp; have ct := hp1.c; have cb := (hp1.cell b 0 (Nat.lt_of_lt_of_le hbl HB3.out.size) (by omega)).trans ((HB3.out.cell (p := ⟨b, 0, none⟩) hbl).trans h0); have d0 := (hp1.cell w.heap.size 0 (by simp only [World.size_alloc]; omega) (by omega)).trans (show (((w.alloc (.cells #[.int .i64 0] 3)).alloc (.cells #[.bool false] 4)).alloc (.cells #[.pointer none] 54)).cell? ⟨w.heap.size, 0, none⟩ = some (.int .i64 0) by simp [go_sem]); have d1 := (hp1.cell (w.heap.size + 1) 0 (by simp only [World.size_alloc]; omega) (by omega)).trans (show (((w.alloc (.cells #[.int .i64 0] 3)).alloc (.cells #[.bool false] 4)).alloc (.cells #[.pointer none] 54)).cell? ⟨w.heap.size + 1, 0, none⟩ = some (.bool false) by simp [go_sem]); have f0 := (hp1.frozen w.heap.size 0 (by simp only [World.size_alloc]; omega) (by omega)).trans (show (((w.alloc (.cells #[.int .i64 0] 3)).alloc (.cells #[.bool false] 4)).alloc (.cells #[.pointer none] 54)).frozen? ⟨w.heap.size, 0, none⟩ = false by simp [go_sem]); have f1 := (hp1.frozen (w.heap.size + 1) 0 (by simp only [World.size_alloc]; omega) (by omega)).trans (show (((w.alloc (.cells #[.int .i64 0] 3)).alloc (.cells #[.bool false] 4)).alloc (.cells #[.pointer none] 54)).frozen? ⟨w.heap.size + 1, 0, none⟩ = false by simp [go_sem]); have HP := Lib.hid (show Below w.heap.size w w' from HB3.out.trans (hp1.b.mono (by omega))); clear hp1 h0)
  refine leaves_cons (f := 20) (args := #[.pointer (some ⟨w.heap.size, 0, none⟩), .pointer (some ⟨w.heap.size + 1, 0, none⟩)]) (by simp) (by simp [go_sem]) ?_
  refine (place_idle _ _ _).mono ?_
  rintro ex u' w'' ⟨rfl, rfl, rfl⟩
  simp [Leaves, settle, results, Tryz.results9, go_sem, d0, d1, f0, f1]
  exact ((HP.out.setCell (Nat.le_refl _) _).setCell (Nat.le_succ _) _)
set_option maxHeartbeats 2000000 in
theorem place_none (l : List Wr) (c : Int) (v : Value) (w : World) (h : Ch w c l v) (hg : w.cell? ⟨0, 0, none⟩ = some (.iface 97 (.agg #[.pointer (some ⟨9, 27, none⟩)]))) (hgl : 0 < w.heap.size) (hn : firstPl l = none) :
    Calls Tryz.prog 9 #[v] w fun e w' => e = .returned (.tuple #[.int .i64 0, .bool false]) ∧ Below w.heap.size w w' := by
  have hmf : ∀ (fn : Fn) (first cap : Array Value) (w : World), (Instr.makeFunc fn first cap).run Tryz.prog w = .ok (.func fn first cap) w := fun _ _ _ _ => rfl
  have hB3 : Below w.heap.size w (((w.alloc (.cells #[.int .i64 0] 3)).alloc (.cells #[.bool false] 4)).alloc (.cells #[.pointer none] 54)) := by go_grown
  have hg3 : (((w.alloc (.cells #[.int .i64 0] 3)).alloc (.cells #[.bool false] 4)).alloc (.cells #[.pointer none] 54)).cell? ⟨0, 0, none⟩ = some (.iface 97 (.agg #[.pointer (some ⟨9, 27, none⟩)])) := (hB3.cell (p := ⟨0, 0, none⟩) hgl).trans hg
  have HS := Lib.hid (As_fault_none l c v (w.heap.size + 1 + 1) (.pointer none) w (((w.alloc (.cells #[.int .i64 0] 3)).alloc (.cells #[.bool false] 4)).alloc (.cells #[.pointer none] 54)) hB3 h hg3 (Nat.lt_of_lt_of_le hgl hB3.size) (show (((w.alloc (.cells #[.int .i64 0] 3)).alloc (.cells #[.bool false] 4)).alloc (.cells #[.pointer none] 54)).cell? ⟨w.heap.size + 1 + 1, 0, none⟩ = some (.pointer none) by simp [go_sem]) (show w.heap.size + 1 + 1 < (((w.alloc (.cells #[.int .i64 0] 3)).alloc (.cells #[.bool false] 4)).alloc (.cells #[.pointer none] 54)).heap.size by simp only [World.size_alloc]; omega) (show (((w.alloc (.cells #[.int .i64 0] 3)).alloc (.cells #[.bool false] 4)).alloc (.cells #[.pointer none] 54)).frozen? ⟨w.heap.size + 1 + 1, 0, none⟩ = false by simp [go_sem]) hn)
  have HB3 := Lib.hid hB3
  clear hB3 hg3 hn h hg
  go_enter_defers Tryz.func9, Tryz.ntmps9
  go_wp2_with (go_at_call 21; (with_reducible refine HS.out.mono ?_); rintro ex w' ⟨rfl, hb⟩; have d0 := (hb.cell (p := ⟨w.heap.size, 0, none⟩) (by simp only [World.size_alloc]; omega)).trans (show (((w.alloc (.cells #[.int .i64 0] 3)).alloc (.cells #[.bool false] 4)).alloc (.cells #[.pointer none] 54)).cell? ⟨w.heap.size, 0, none⟩ = some (.int .i64 0) by simp [go_sem]); have d1 := (hb.cell (p := ⟨w.heap.size + 1, 0, none⟩) (by simp only [World.size_alloc]; omega)).trans (show (((w.alloc (.cells #[.int .i64 0] 3)).alloc (.cells #[.bool false] 4)).alloc (.cells #[.pointer none] 54)).cell? ⟨w.heap.size + 1, 0, none⟩ = some (.bool false) by simp [go_sem]); have f0 := (hb.frozen (p := ⟨w.heap.size, 0, none⟩) (by simp only [World.size_alloc]; omega)).trans (show (((w.alloc (.cells #[.int .i64 0] 3)).alloc (.cells #[.bool false] 4)).alloc (.cells #[.pointer none] 54)).frozen? ⟨w.heap.size, 0, none⟩ = false by simp [go_sem]); have f1 := (hb.frozen (p := ⟨w.heap.size + 1, 0, none⟩) (by simp only [World.size_alloc]; omega)).trans (show (((w.alloc (.cells #[.int .i64 0] 3)).alloc (.cells #[.bool false] 4)).alloc (.cells #[.pointer none] 54)).frozen? ⟨w.heap.size + 1, 0, none⟩ = false by simp [go_sem]); have HP := Lib.hid (show Below w.heap.size w w' from Below.step HB3.out hb); clear hb)
  refine leaves_cons (f := 20) (args := #[.pointer (some ⟨w.heap.size, 0, none⟩), .pointer (some ⟨w.heap.size + 1, 0, none⟩)]) (by simp) (by simp [go_sem]) ?_
  refine (place_idle _ _ _).mono ?_
  rintro ex u' w'' ⟨rfl, rfl, rfl⟩
  simp [Leaves, settle, results, Tryz.results9, go_sem, d0, d1, f0, f1]
  exact ((HP.out.setCell (Nat.le_refl _) _).setCell (Nat.le_succ _) _)
def NoteIs (w : World) (c : Int) (s : ByteArray) (l' : List Wr) (e : Ending) (w' : World) : Prop := ∃ b v', e = .returned (.pointer (some ⟨b, 0, none⟩)) ∧ b < w.heap.size ∧ w'.cell? ⟨b, 0, none⟩ = some (.string s) ∧ w'.cell? ⟨b, 1, none⟩ = some v' ∧ Ch w c l' v' ∧ Below w.heap.size w w'
set_option maxHeartbeats 2000000 in
theorem note_some (s : ByteArray) (l' l : List Wr) (c : Int) (v : Value) (w : World) (h : Ch w c l v) (hg : w.cell? ⟨0, 0, none⟩ = some (.iface 97 (.agg #[.pointer (some ⟨9, 27, none⟩)]))) (hgl : 0 < w.heap.size) (hn : firstWo l = some (s, l')) :
    Calls Tryz.prog 23 #[v] w (NoteIs w c s l') := by
  have hB3 : Below w.heap.size w (w.alloc (.cells #[.pointer none] 59)) := by go_grown
  have hg3 : (w.alloc (.cells #[.pointer none] 59)).cell? ⟨0, 0, none⟩ = some (.iface 97 (.agg #[.pointer (some ⟨9, 27, none⟩)])) := (hB3.cell (p := ⟨0, 0, none⟩) hgl).trans hg
  have HS := Lib.hid (As_note_some l c v w.heap.size (.pointer none) w (w.alloc (.cells #[.pointer none] 59)) hB3 h hg3 (Nat.lt_of_lt_of_le hgl hB3.size) (show (w.alloc (.cells #[.pointer none] 59)).cell? ⟨w.heap.size, 0, none⟩ = some (.pointer none) by simp [go_sem]) (show w.heap.size < (w.alloc (.cells #[.pointer none] 59)).heap.size by simp only [World.size_alloc]; omega) (show (w.alloc (.cells #[.pointer none] 59)).frozen? ⟨w.heap.size, 0, none⟩ = false by simp [go_sem]) s l' hn)
  have HB3 := Lib.hid hB3
  clear hB3 hg3 hn h hg
  go_enter Tryz.func23, Tryz.ntmps23
  go_wp2_with (go_at_call 21; (with_reducible refine HS.out.mono ?_); rintro ex w' ⟨rfl, hp⟩; obtain ⟨b, v', hbl, h0, h1, h2, hp1⟩ := hp; have ct := hp1.c; have HP := Lib.hid hp1; have H0 := Lib.hid h0; have H1 := Lib.hid h1; have H2 := Lib.hid h2; clear hp1 h0 h1 h2)
  go_ret
  have hne : b ≠ w.heap.size := by omega
  have hb2 : Below w.heap.size w w' := HB3.out.trans HP.out.b
  exact ⟨b, v', rfl, hbl, (hb2.cell (p := ⟨b, 0, none⟩) hbl).trans H0.out, (hb2.cell (p := ⟨b, 1, none⟩) hbl).trans H1.out, H2.out, hb2⟩
set_option maxHeartbeats 2000000 in
theorem note_none (l : List Wr) (c : Int) (v : Value) (w : World) (h : Ch w c l v) (hg : w.cell? ⟨0, 0, none⟩ = some (.iface 97 (.agg #[.pointer (some ⟨9, 27, none⟩)]))) (hgl : 0 < w.heap.size) (hn : firstWo l = none) :
    Calls Tryz.prog 23 #[v] w fun e w' => e = .returned (.pointer none) ∧ Below w.heap.size w w' := by
  have hB3 : Below w.heap.size w (w.alloc (.cells #[.pointer none] 59)) := by go_grown
  have hg3 : (w.alloc (.cells #[.pointer none] 59)).cell? ⟨0, 0, none⟩ = some (.iface 97 (.agg #[.pointer (some ⟨9, 27, none⟩)])) := (hB3.cell (p := ⟨0, 0, none⟩) hgl).trans hg
  have HS := Lib.hid (As_note_none l c v w.heap.size (.pointer none) w (w.alloc (.cells #[.pointer none] 59)) hB3 h hg3 (Nat.lt_of_lt_of_le hgl hB3.size) (show (w.alloc (.cells #[.pointer none] 59)).cell? ⟨w.heap.size, 0, none⟩ = some (.pointer none) by simp [go_sem]) (show w.heap.size < (w.alloc (.cells #[.pointer none] 59)).heap.size by simp only [World.size_alloc]; omega) (show (w.alloc (.cells #[.pointer none] 59)).frozen? ⟨w.heap.size, 0, none⟩ = false by simp [go_sem]) hn)
  have HB3 := Lib.hid hB3
  clear hB3 hg3 hn h hg
  go_enter Tryz.func23, Tryz.ntmps23
  go_wp2_with (go_at_call 21; (with_reducible refine HS.out.mono ?_); rintro ex w' ⟨rfl, hb⟩; have d0 := (hb.cell (p := ⟨w.heap.size, 0, none⟩) (by simp only [World.size_alloc]; omega)).trans (show (w.alloc (.cells #[.pointer none] 59)).cell? ⟨w.heap.size, 0, none⟩ = some (.pointer none) by simp [go_sem]); have HP := Lib.hid (show Below w.heap.size w w' from Below.step HB3.out hb); clear hb)
  go_ret
  exact ⟨rfl, HP.out⟩
end Go.Proofs.YtafnipgeeampjaaGreatDoor
