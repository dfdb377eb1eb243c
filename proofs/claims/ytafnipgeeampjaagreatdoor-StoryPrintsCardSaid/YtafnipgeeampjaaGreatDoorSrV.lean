/-
  What a line says.
-/
import Derived.Test.YtafnipgeeampjaaGreatDoorRows
import Derived.Test.YtafnipgeeampjaaGreatDoorKit
import Derived.Test.YtafnipgeeampjaaGreatDoorApp
import Derived.Test.YtafnipgeeampjaaGreatDoorQuiet
import Derived.WalkKit
import Derived.ProofKit
import Derived.OpenShut
import Derived.ShutString
import Derived.Below
import Derived.Outline
import Derived.WalkLawsBesides
import Derived.WalkSpells
import Derived.Handy
import Derived.Deep.QuietTactic
import Derived.BigQuiet
import Derived.RegionTactic
import Derived.ChangeAlike
import Derived.Lib.Hide
import Derived.Laws.Rows
import Derived.Laws.Tables
import Derived.Laws.CopyOwn
import Derived.Laws.MakeOwn
import Derived.Laws.Entries
import Derived.Laws.OwnMore
import Derived.Deep.WholeRow
import Derived.Deep.LoopGhost
import Derived.Deep.AppendLies
import Derived.Deep.Draws
import Derived.Maps.AppendAt
import Derived.OwnWalk
import Derived.Deep.RegionHeld3
import Derived.Deep.Cut
import Derived.Deep.CutRange
import Derived.Deep.DeepCutAuto
import Derived.Deep.CutBlock
import Derived.Lib.SliceRun
import Derived.IntWalk
import Derived.Laws.Strings
import Derived.Lib.Bytealg
import Derived.Lib.Strings
import Derived.Laws.Externs
import Derived.Test.YtafnipgeeampjaaGreatDoorSrU
namespace Go.Proofs.YtafnipgeeampjaaGreatDoor
open Go.ChangeShapes Go.WideShapes Go.ChangeAt Go.RowKit
/-- What a line's reading gives. -/
def EvP (m : Sr) (w : World) (e : Ending) (w' : World) : Prop :=
  (match m with
   | .ok L => ∃ A c, e = .returned (.tuple #[.slice A L.length c, .nilIface]) ∧ Reads w' w'.heap.size 4 A L.length (evs L)
   | .er c p => ∃ v, e = .returned (.tuple #[.slice none 0 0, v]) ∧ Er w' (c : Int) (p : Int) v) ∧ Below w.heap.size w w'
theorem EvP.ok {L : List Sev} {m : Sr} {w w' : World} {e : Ending} (h : EvP m w e w') (hm : m = .ok L) : ∃ A c, e = .returned (.tuple #[.slice A L.length c, .nilIface]) ∧ Reads w' w'.heap.size 4 A L.length (evs L) ∧ Below w.heap.size w w' := by
  subst hm
  obtain ⟨⟨A, c, h1, h2⟩, h3⟩ := h
  exact ⟨A, c, h1, h2, h3⟩
theorem EvP.er {c p : Nat} {m : Sr} {w w' : World} {e : Ending} (h : EvP m w e w') (hm : m = .er c p) : ∃ v, e = .returned (.tuple #[.slice none 0 0, v]) ∧ Er w' (c : Int) (p : Int) v ∧ Below w.heap.size w w' := by
  subst hm
  obtain ⟨⟨v, h1, h2⟩, h3⟩ := h
  exact ⟨v, h1, h2, h3⟩
theorem EvP.mk_ok {L : List Sev} {m : Sr} {w w' : World} {A : Option Addr} {c : Nat} (hm : m = .ok L) (h : Reads w' w'.heap.size 4 A L.length (evs L)) (hb : Below w.heap.size w w') : EvP m w (.returned (.tuple #[.slice A L.length c, .nilIface])) w' := by
  subst hm
  exact ⟨⟨A, c, rfl, h⟩, hb⟩
theorem EvP.mk_er {c p : Nat} {m : Sr} {w w' : World} {v : Value} (hm : m = .er c p) (h : Er w' (c : Int) (p : Int) v) (hb : Below w.heap.size w w') : EvP m w (.returned (.tuple #[.slice none 0 0, v])) w' := by
  subst hm
  exact ⟨⟨v, rfl, h⟩, hb⟩
theorem reads_bl {B n : Nat} {L : List Sev} {w : World} (h : Bl B (evs L) w) (hn : L.length = n) : Reads w w.heap.size 4 (some ⟨B, 0, none⟩) n (evs L) :=
  ⟨by rw [evs_len, hn], fun _ => ⟨_, rfl, h.lt, fun j u hj => h.src 0 j u (by rwa [Nat.zero_add])⟩⟩
/-- What does at_is at a literal. -/
theorem at_lit (n c : Int) (w : World) : Calls Tryz.prog 27 #[.int .i64 n, .iface 64 (.int .i64 c)] w fun e w' => ∃ v, e = .returned v ∧ Er w' c n v ∧ Below w.heap.size w w' := at_is n c w
theorem cut_l (l : List UInt8) (hl : l.length ≤ 100000) (w : World) : Calls Tryz.prog 30 #[.string (Bs l), .string ⟨#[32]⟩] w fun e w' => e = .returned (.tuple #[.string (Bs (cutb l).1), .string (Bs (cutb l).2.1), .bool (cutb l).2.2]) ∧ Below w.heap.size w w' := by
  have c := cut_is (Bs l) (by rw [Bs_size]; exact hl) w
  rwa [Bs_list] at c
set_option maxRecDepth 100000 in
set_option maxHeartbeats 4000000 in
theorem say_is (r : List UInt8) (hr : r.length ≤ 6000) (w : World) : Calls Tryz.prog 31 #[.string (Bs r)] w (EvP (sayM r) w) := by
  have hc := cut_l r (by omega) w
  have hz := cutb_size r
  rcases hcut : cutb r with ⟨cw, cr, cm⟩
  rw [hcut] at hc hz
  simp only at hc hz
  have HC := Lib.hid hc
  have HW : Hid (cw.length ≤ 100000) := Lib.hid (by omega)
  have HCUT := Lib.hid hcut
  have HM : Hid (sayM r = if cm = true then (match inum cw with | some n => .ok [⟨1, n, 0, cr⟩] | none => .er 13 4) else .er 13 4) := Lib.hid (by unfold sayM; rw [hcut]; rfl)
  clear hc hz hcut hr
  rcases hin : inum cw with _ | y
  · have HIN := Lib.hid hin
    clear hin
    cases cm with
    | false =>
      have HE : Hid (sayM r = .er 13 4) := Lib.hid (by rw [HM.out]; rfl)
      go_enter Tryz.func31, Tryz.ntmps31
      go_wp2_with fail
      refine HC.out.mono ?_
      rintro e1 w1 ⟨rfl, hb1⟩
      have HB1 := Lib.hid hb1
      clear hb1
      go_wp2_with fail
      refine (number_no cw HW.out HIN.out _).mono ?_
      rintro e2 w2 ⟨rfl, rfl⟩
      go_wp2_with fail
      refine (at_is 4 13 _).mono ?_
      rintro e3 w3 ⟨v, rfl, he, hb3⟩
      have HB3 := Lib.hid (And.intro he hb3)
      clear he hb3
      go_wp2_with fail
      go_ret2
      exact EvP.mk_er HE.out HB3.out.1 (Below.step HB1.out HB3.out.2)
    | true =>
      have HE : Hid (sayM r = .er 13 4) := Lib.hid (by rw [HM.out, HIN.out]; rfl)
      go_enter Tryz.func31, Tryz.ntmps31
      go_wp2_with fail
      refine HC.out.mono ?_
      rintro e1 w1 ⟨rfl, hb1⟩
      have HB1 := Lib.hid hb1
      clear hb1
      go_wp2_with fail
      refine (number_no cw HW.out HIN.out _).mono ?_
      rintro e2 w2 ⟨rfl, rfl⟩
      go_wp2_with fail
      refine (at_is 4 13 _).mono ?_
      rintro e3 w3 ⟨v, rfl, he, hb3⟩
      have HB3 := Lib.hid (And.intro he hb3)
      clear he hb3
      go_wp2_with fail
      go_ret2
      exact EvP.mk_er HE.out HB3.out.1 (Below.step HB1.out HB3.out.2)
  · have HIN := Lib.hid hin
    clear hin
    cases cm with
    | false =>
      have HE : Hid (sayM r = .er 13 4) := Lib.hid (by rw [HM.out]; rfl)
      go_enter Tryz.func31, Tryz.ntmps31
      go_wp2_with fail
      refine HC.out.mono ?_
      rintro e1 w1 ⟨rfl, hb1⟩
      have HB1 := Lib.hid hb1
      clear hb1
      go_wp2_with fail
      refine (number_some cw HW.out y HIN.out _).mono ?_
      rintro e2 w2 ⟨rfl, hb2⟩
      have HB2 := Lib.hid (Below.step HB1.out hb2)
      clear hb2
      go_wp2_with fail
      refine (at_is 4 13 _).mono ?_
      rintro e3 w3 ⟨v, rfl, he, hb3⟩
      have HB3 := Lib.hid (And.intro he hb3)
      clear he hb3
      go_wp2_with fail
      go_ret2
      exact EvP.mk_er HE.out HB3.out.1 (Below.step HB2.out HB3.out.2)
    | true =>
      have HE : Hid (sayM r = .ok [⟨1, y, 0, cr⟩]) := Lib.hid (by rw [HM.out, HIN.out]; rfl)
      go_enter Tryz.func31, Tryz.ntmps31
      go_wp2_with fail
      refine HC.out.mono ?_
      rintro e1 w1 ⟨rfl, hb1⟩
      have HB1 := Lib.hid hb1
      clear hb1
      go_wp2_with fail
      refine (number_some cw HW.out y HIN.out _).mono ?_
      rintro e2 w2 ⟨rfl, hb2⟩
      have HB2 := Lib.hid (Below.step HB1.out hb2)
      clear hb2
      go_wp2_with fail
      go_ret2
      exact EvP.mk_ok HE.out (reads_bl (L := [⟨1, y, 0, cr⟩]) (Bl.new w2 (evs [⟨1, y, 0, cr⟩]) 40) rfl) (HB2.out.alloc HB2.out.size _)
/-- What a verb's reading gives. -/
def DoneP (m : Option (List Sev)) (base : Nat) (w : World) (e : Ending) (w' : World) : Prop :=
  (match m with
   | some L => ∃ B, e = .returned (.slice (some ⟨B, 0, none⟩) L.length L.length) ∧ Bl B (evs L) w'
   | none => e = .returned (.slice none 0 0)) ∧ Below base w w'
theorem done_all (v : List UInt8) (n : List Int) (hv : v = vtick ∨ v = vpick ∨ v = vdraw) (h0 : 0 < n.length) (base : Nat) (w : World) (u : Value) (h : w.ownsRow base 3 1 u n.length (itc n)) (hb : base ≤ w.heap.size) : Calls Tryz.prog 33 #[.string (Bs v), u] w (DoneP (doneM v n) base w) := by
  have Y : ∀ (L : List Sev) (k : Nat) (hk : L.length = k) (hm : doneM v n = some L), (Calls Tryz.prog 33 #[.string (Bs v), u] w fun e w' => ∃ B, e = .returned (.slice (some ⟨B, 0, none⟩) k k) ∧ Bl B (evs L) w' ∧ Below base w w') → Calls Tryz.prog 33 #[.string (Bs v), u] w (DoneP (doneM v n) base w) := by
    intro L k hk hm c
    refine c.mono ?_
    rintro e w' ⟨B, h1, h2, h3⟩
    rw [hm]
    subst hk
    exact ⟨⟨B, h1, h2⟩, h3⟩
  have Z : ∀ (hm : doneM v n = none), (Calls Tryz.prog 33 #[.string (Bs v), u] w fun e w' => e = .returned (.slice none 0 0) ∧ w' = w) → Calls Tryz.prog 33 #[.string (Bs v), u] w (DoneP (doneM v n) base w) := by
    intro hm c
    refine c.mono ?_
    rintro e w' ⟨h1, rfl⟩
    rw [hm]
    exact ⟨h1, Below.refl _ _⟩
  rcases hv with rfl | rfl | rfl
  · rcases n with _ | ⟨a, _ | ⟨b, t⟩⟩
    · simp at h0
    · exact Y _ 1 rfl (doneM_tick a) (done_tick a base w u h hb)
    · exact Z (by unfold doneM; rw [if_pos rfl]) (done_tick_no (t.length + 1 + 1) _ base w u h hb (by omega) (by omega))
  · rcases n with _ | ⟨a, _ | ⟨b, _ | ⟨c, t⟩⟩⟩
    · simp at h0
    · exact Y _ 1 rfl (doneM_pick a) (done_pick a base w u h hb)
    · by_cases h2 : b < 2
      · exact Z (by unfold doneM; rw [if_neg (by decide), if_neg (by decide)]; simp only; rw [if_neg (by omega)]) (done_pick_few a b base w u h hb h2)
      · by_cases h3 : 10000 < b
        · exact Z (by unfold doneM; rw [if_neg (by decide), if_neg (by decide)]; simp only; rw [if_neg (by omega)]) (done_pick_many a b base w u h hb h3)
        · obtain ⟨N, rfl⟩ : ∃ N : Nat, b = (N : Int) := ⟨b.toNat, by omega⟩
          exact Y _ N (by rw [List.length_replicate]; omega) (doneM_picks a N (by omega)) (done_picks a N base w u h hb (by omega) (by omega))
    · exact Z (by unfold doneM; rw [if_neg (by decide), if_neg (by decide)]) (done_pick_no (t.length + 1 + 1 + 1) _ base w u h hb (by omega) (by omega))
  · rcases n with _ | ⟨a, _ | ⟨b, _ | ⟨c, t⟩⟩⟩
    · simp at h0
    · exact Z (by unfold doneM; rw [if_neg (by decide), if_pos rfl]) (done_draw_no 1 _ base w u h hb (by omega) (by omega))
    · exact Y _ 1 rfl (doneM_draw a b) (done_draw a b base w u h hb)
    · exact Z (by unfold doneM; rw [if_neg (by decide), if_pos rfl]) (done_draw_no (t.length + 1 + 1 + 1) _ base w u h hb (by omega) (by omega))

end Go.Proofs.YtafnipgeeampjaaGreatDoor
