/-
  Lines that are light.
-/
import Derived.Test.YtafnipgeeampjaaGreatDoorRows
import Derived.Test.YtafnipgeeampjaaGreatDoorKit
import Derived.Test.YtafnipgeeampjaaGreatDoorApp
import Derived.Test.YtafnipgeeampjaaGreatDoorQuiet
import Derived.WalkKit
import Derived.ProofKit
import Derived.OpenShut
import Derived.ShutString
import Derived.Below
import Derived.Outline
import Derived.WalkLawsBesides
import Derived.WalkSpells
import Derived.Handy
import Derived.Deep.QuietTactic
import Derived.BigQuiet
import Derived.RegionTactic
import Derived.ChangeAlike
import Derived.Lib.Hide
import Derived.Laws.Rows
import Derived.Laws.Tables
import Derived.Laws.CopyOwn
import Derived.Laws.MakeOwn
import Derived.Laws.Entries
import Derived.Laws.OwnMore
import Derived.Deep.WholeRow
import Derived.Deep.LoopGhost
import Derived.Deep.AppendLies
import Derived.Deep.Draws
import Derived.Maps.AppendAt
import Derived.OwnWalk
import Derived.Deep.RegionHeld3
import Derived.Deep.Cut
import Derived.Deep.CutRange
import Derived.Deep.DeepCutAuto
import Derived.Deep.CutBlock
import Derived.Lib.SliceRun
import Derived.IntWalk
import Derived.Laws.Strings
import Derived.Lib.Bytealg
import Derived.Lib.Strings
import Derived.Laws.Externs
import Derived.Test.YtafnipgeeampjaaGreatDoorSrX
namespace Go.Proofs.YtafnipgeeampjaaGreatDoor
open Go.ChangeShapes Go.WideShapes Go.ChangeAt Go.RowKit
/-- Lines that aren't too long. -/
def LtP (L : List (List UInt8)) (w : World) (e : Ending) (w' : World) : Prop := ∃ b : Bool, e = .returned (.bool b) ∧ (b = true → L.length ≤ 100 ∧ ∀ s ∈ L, s.length ≤ 5000) ∧ w' = w
theorem LtP.mk {L : List (List UInt8)} {w w' : World} (b : Bool) (h : b = true → L.length ≤ 100 ∧ ∀ s ∈ L, s.length ≤ 5000) (hw : w = w') : LtP L w (.returned (.bool b)) w' := ⟨b, rfl, h, hw.symm⟩
set_option maxRecDepth 100000 in
set_option maxHeartbeats 4000000 in
theorem light_is (L : List (List UInt8)) (hL : L.length ≤ 140737488355328) (hs : ∀ s ∈ L, s.length ≤ 140737488355328) (A : Option Addr) (cap : Nat) (w : World) (hr : Reads w w.heap.size 1 A L.length (stc L)) : Calls Tryz.prog 5 #[.slice A L.length cap] w (LtP L w) := by
  have HL := Lib.hid hL
  have HS := Lib.hid hs
  have HR := Lib.hid hr
  have n47 : (L.length : Int) ≤ 140737488355328 := by omega
  clear hL hs hr
  go_enter Tryz.func5, Tryz.ntmps5
  go_wp2_with fail
  go_loopw [9, 3] (fun vk vn wr => ∃ (k n : Nat), k ≤ L.length ∧ vk = .int .i64 (k : Int) ∧ vn = .int .i64 (n : Int) ∧ n ≤ 5000 ∧ Hid (∀ s ∈ L.take k, s.length ≤ 5000) ∧ w = wr) (fun vk _ _ => L.length + 1 - (intOf vk).toNat)
  case atStart => exact ⟨0, 0, Nat.zero_le _, rfl, rfl, Nat.zero_le _, Lib.hid (by simp), rfl⟩
  case round =>
    obtain ⟨k, n, hk, rfl, rfl, hn, hsm, rfl⟩ := hrel
    have k0 : (0 : Int) ≤ (k : Int) := by omega
    have m0 : (0 : Int) ≤ (n : Int) := by omega
    have m5 : (n : Int) ≤ 5000 := by omega
    by_cases hkn : k < L.length
    · obtain ⟨x, hx⟩ : ∃ x, x = L[k] := ⟨_, rfl⟩
      have hxk : L[k]? = some x := by rw [List.getElem?_eq_getElem hkn, hx]
      obtain ⟨ad, u, hA, hadl, hu, hcu⟩ := HR.out.at_ hkn
      obtain rfl : u = .string (Bs x) := by
        unfold stc at hu
        rw [List.getElem?_map, hxk] at hu
        exact (Option.some.inj hu).symm
      subst hA
      have q1 : (k : Int) < (L.length : Int) := by omega
      have hxl := HS.out x (List.mem_of_getElem? hxk)
      have hsz := Bs_size x
      obtain ⟨z, hz⟩ : ∃ z, z = (Bs x).size := ⟨_, rfl⟩
      have z0 : (0 : Int) ≤ ((Bs x).size : Int) := by omega
      have z1 : ((Bs x).size : Int) ≤ 140737488355328 := by omega
      have HX := Lib.hid (And.intro hxk (And.intro hsz hkn))
      have HN := Lib.hid hn
      clear hx hxk hkn hk hu hadl hxl hsz hz hn
      by_cases hbig : 5000 < (n : Int) + (((Bs x).size : Int) + 1)
      · go_wp2_with fail
        go_ret
        exact LtP.mk _ (fun h => by cases h) rfl
      · have HBG := Lib.hid hbig
        have b5 : (n : Int) + (((Bs x).size : Int) + 1) ≤ 5000 := by omega
        clear hbig
        go_wp2_with fail
        go_loopw [22] (fun vj wr => ∃ (j : Nat), j ≤ (Bs x).size ∧ vj = .int .i64 (j : Int) ∧ w = wr) (fun vj _ => (Bs x).size + 1 - (intOf vj).toNat)
        case atStart => exact ⟨0, Nat.zero_le _, rfl, rfl⟩
        case round =>
          obtain ⟨j, hj, rfl, rfl⟩ := hrel
          have j0 : (0 : Int) ≤ (j : Int) := by omega
          by_cases hjn : j < (Bs x).size
          · have p1 : (j : Int) < ((Bs x).size : Int) := by omega
            have HJ := Lib.hid hjn
            clear hj
            go_wp2_with fail
            · go_ret
              exact LtP.mk _ (fun h => by cases h) rfl
            · go_roundw
              case rel => exact ⟨j + 1, HJ.out, by go_num, by first | rfl | trivial⟩
              case measure => have := HJ.out; simp [intOf]; omega
          · have hje : j = (Bs x).size := by omega
            subst hje
            clear hj hjn
            go_wp2_with fail
            go_roundw
            case rel =>
              refine ⟨k + 1, n + ((Bs x).size + 1), HX.out.2.2, by go_num, by go_num, by omega, Lib.hid ?_, by first | rfl | trivial⟩
              intro s hs
              rw [List.take_add_one, HX.out.1] at hs
              rcases List.mem_append.1 hs with hs | hs
              · exact hsm.out s hs
              · have := List.mem_singleton.1 (show s ∈ [x] from hs)
                subst this
                have := HX.out.2.1
                omega
            case measure => have := HX.out.2.2; simp [intOf]; omega
    · have hke : k = L.length := by omega
      subst hke
      have hfin := hsm.out
      rw [List.take_of_length_le (Nat.le_refl _)] at hfin
      have HF := Lib.hid hfin
      clear hfin hk hkn hsm
      go_wp2_with fail
      go_ret
      exact LtP.mk _ (fun h => ⟨by have := of_decide_eq_true h; omega, HF.out⟩) rfl
/-- An event is itself. -/
theorem eq_ev (k a n : Int) (l : List UInt8) (w : World) : (Op.equalIn 10000 40 (.agg #[.int .i64 k, .int .i64 a, .int .i64 n, .string (Bs l)]) (.agg #[.int .i64 k, .int .i64 a, .int .i64 n, .string (Bs l)])).run Tryz.prog w = .ok true w := by
  have u3 := Tryz.underlying3
  have a3' := Tryz.isAgg3
  have z3 := Tryz.sizeOf3
  have u9 := Tryz.underlying9
  have a9 := Tryz.isAgg9
  have z9 := Tryz.sizeOf9
  have hS : Tryz.prog.underlying 40 = some (.struct (Tryz.prog.fieldsOf 40)) := by kernel_rfl
  have hp : Tryz.prog.stoodInHeld 40 = false := by kernel_rfl
  rw [show (10000 : Nat) = 9999 + 1 from rfl, run_equalIn_agg w 9999 40 _ _ hS hp]
  simp only [Program.fieldsOf, Tryz.underlying40]
  go_simp
theorem eql_ev (k a n : Int) (l : List UInt8) (w : World) : (binOp .eql 40 (.agg #[.int .i64 k, .int .i64 a, .int .i64 n, .string (Bs l)]) (.agg #[.int .i64 k, .int .i64 a, .int .i64 n, .string (Bs l)])).run Tryz.prog w = .ok (.bool true) w := by
  simp only [binOp]
  simp [Op.equal, Op.maxDepth, eq_ev k a n l w]
theorem neq_ev (k a n : Int) (l : List UInt8) (w : World) : (binOp .neq 40 (.agg #[.int .i64 k, .int .i64 a, .int .i64 n, .string (Bs l)]) (.agg #[.int .i64 k, .int .i64 a, .int .i64 n, .string (Bs l)])).run Tryz.prog w = .ok (.bool false) w := by
  simp only [binOp]
  simp [Op.equal, Op.maxDepth, eq_ev k a n l w]
/-- The document's example. -/
def aw0 : List UInt8 := [115, 97, 121, 32, 48, 32, 118, 105, 101, 119]
def aw1 : List UInt8 := [112, 105, 99, 107, 32, 48, 32, 51]
def awx : List Sev := [⟨1, 0, 0, [118, 105, 101, 119]⟩, ⟨3, 0, 0, []⟩, ⟨3, 0, 0, []⟩, ⟨3, 0, 0, []⟩]
theorem aw_par : parM 0 [aw0, aw1] [] = .ok awx := by kernel_rfl
/-- A row of events: its cells. -/
theorem ev_at {w : World} {base n : Nat} {v : Value} {X : List Sev} (h : w.ownsRow base 40 4 v n (evs X)) (h0 : 0 < n) : ∃ g c, v = .slice (some ⟨g, 0, none⟩) n c ∧ base ≤ g ∧ g < w.heap.size ∧ n ≤ c ∧ ∀ (i : Nat) (e : Sev), X[i]? = some e → w.cell? ⟨g, i * 4, none⟩ = some (.int .i64 e.k) ∧ w.cell? ⟨g, i * 4 + 1, none⟩ = some (.int .i64 e.who) ∧ w.cell? ⟨g, i * 4 + 2, none⟩ = some (.int .i64 e.n) ∧ w.cell? ⟨g, i * 4 + 3, none⟩ = some (.string (Bs e.line)) := by
  rcases h.2 with ⟨_, h2⟩ | ⟨g, c, cur, hv, hg, hh, hc, _, _, hr⟩
  · omega
  · refine ⟨g, c, hv, hg, blk_lt hh, hc, fun i e hi => ?_⟩
    have key : ∀ (j : Nat) (u : Value), (evs X)[j]? = some u → w.cell? ⟨g, j, none⟩ = some u := by
      intro j u hj
      rw [cell_of_row _ _ _ _ _ _ hh]
      rw [← hr, List.getElem?_take] at hj
      split at hj
      · simpa using hj
      · cases hj
    obtain ⟨g0, g1, g2, g3⟩ := evs_get _ _ _ hi
    exact ⟨key _ _ g0, key _ _ g1, key _ _ g2, key _ _ g3⟩
set_option maxRecDepth 100000 in
set_option maxHeartbeats 4000000 in
theorem awake_is (w : World) (hml : Ml w) (htb : Tb w) : Calls Tryz.prog 6 #[] w fun e w' => e = .returned (.bool true) ∧ Below w.heap.size w w' := by
  obtain ⟨W, hW⟩ : ∃ W, W = w.alloc (.cells #[.string ⟨#[115, 97, 121, 32, 48, 32, 118, 105, 101, 119]⟩, .string ⟨#[112, 105, 99, 107, 32, 48, 32, 51]⟩] 9) := ⟨_, rfl⟩
  have hg : Below w.heap.size w W := by rw [hW]; go_grown
  have hr : Reads W W.heap.size 1 (some ⟨w.heap.size, 0, none⟩) [aw0, aw1].length (stc [aw0, aw1]) := by
    have hb := Bl.new w (stc [aw0, aw1]) 9
    rw [hW]
    exact ⟨rfl, fun _ => ⟨_, rfl, hb.lt, fun j u hj => hb.src 0 j u (by rwa [Nat.zero_add])⟩⟩
  have hp := parse_is [aw0, aw1] (by decide) (by decide) W.heap.size (some ⟨w.heap.size, 0, none⟩) 2 W (Nat.le_refl _) hr (hml.below hg) (htb.below hg)
  rw [aw_par] at hp
  have HP := Lib.hid hp
  have HG := Lib.hid hg
  have HW := Lib.hid hW
  have h4 : ((awx.length : Nat) : Int) = 4 := rfl
  have hq1 : (Bs [118, 105, 101, 119]).toList = [118, 105, 101, 119] := by rw [ByteArray.toList_eq, Bs_list]
  have hq2 : (Bs []).toList = [] := by rw [ByteArray.toList_eq, Bs_list]
  clear hp hg hr hml htb hW
  go_enter Tryz.func6, Tryz.ntmps6
  go_wp2_with fail
  rw [← HW.out]
  refine HP.out.mono ?_
  rintro e1 w1 hp1
  obtain ⟨v, rfl, ho, hb⟩ := hp1.ok rfl
  obtain ⟨g, c, rfl, _, hgl, hc, hx⟩ := ev_at ho (by decide)
  have HB := Lib.hid (Below.step HG.out hb)
  obtain ⟨x0, x1, x2, x3⟩ := hx 0 _ rfl
  obtain ⟨y0, y1, y2, y3⟩ := hx 3 _ rfl
  clear hp1 ho hx hb
  go_wp2_with fail
  go_ret
  exact ⟨rfl, HB.out⟩

end Go.Proofs.YtafnipgeeampjaaGreatDoor
