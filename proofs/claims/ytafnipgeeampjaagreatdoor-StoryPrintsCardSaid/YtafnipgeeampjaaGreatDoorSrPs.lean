/-
  Events as lines: the document's.
-/
import Derived.Test.YtafnipgeeampjaaGreatDoorRows
import Derived.Test.YtafnipgeeampjaaGreatDoorKit
import Derived.Test.YtafnipgeeampjaaGreatDoorApp
import Derived.Test.YtafnipgeeampjaaGreatDoorQuiet
import Derived.WalkKit
import Derived.ProofKit
import Derived.OpenShut
import Derived.ShutString
import Derived.Below
import Derived.Outline
import Derived.WalkLawsBesides
import Derived.WalkSpells
import Derived.Handy
import Derived.Deep.QuietTactic
import Derived.BigQuiet
import Derived.RegionTactic
import Derived.ChangeAlike
import Derived.Lib.Hide
import Derived.Laws.Rows
import Derived.Laws.Tables
import Derived.Laws.CopyOwn
import Derived.Laws.MakeOwn
import Derived.Laws.Entries
import Derived.Laws.OwnMore
import Derived.Deep.WholeRow
import Derived.Deep.LoopGhost
import Derived.Deep.AppendLies
import Derived.Deep.Draws
import Derived.Maps.AppendAt
import Derived.OwnWalk
import Derived.Deep.RegionHeld3
import Derived.Deep.Cut
import Derived.Deep.CutRange
import Derived.Deep.DeepCutAuto
import Derived.Deep.CutBlock
import Derived.Lib.SliceRun
import Derived.IntWalk
import Derived.Laws.Strings
import Derived.Lib.Bytealg
import Derived.Lib.Strings
import Derived.Laws.Externs
import Derived.Test.YtafnipgeeampjaaGreatDoorSrPl
import Derived.Test.YtafnipgeeampjaaGreatDoorSrPp
import Derived.Test.YtafnipgeeampjaaGreatDoorSrG
namespace Go.Proofs.YtafnipgeeampjaaGreatDoor
open Go.ChangeShapes Go.WideShapes Go.ChangeAt Go.RowKit
/-- A row of events that came in: its cells as the walk reckons them. -/
theorem sv_at {A : Option Addr} {X : List Sev} {w : World} (h : SvAt A X w) (h0 : 0 < X.length) : ∃ ad, A = some ad ∧ (∀ k, (ad.add k).block < w.heap.size) ∧ ∀ (i : Nat) (e : Sev), X[i]? = some e → w.cell? (ad.add (i * 4)) = some (.int .i64 e.k) ∧ w.cell? ⟨(ad.add (i * 4)).block, (ad.add (i * 4)).off + 1, none⟩ = some (.int .i64 e.who) ∧ w.cell? ⟨(ad.add (i * 4)).block, (ad.add (i * 4)).off + 2, none⟩ = some (.int .i64 e.n) ∧ w.cell? ⟨(ad.add (i * 4)).block, (ad.add (i * 4)).off + 3, none⟩ = some (.string (Bs e.line)) := by
  obtain ⟨ad, hA, hl, hx⟩ := h h0
  refine ⟨ad, hA, fun k => by rw [block_of_add]; exact hl, fun i e hi => ?_⟩
  obtain ⟨c0, c1, c2, c3⟩ := hx i e hi
  have ha : ∀ j, 0 < j → ad.add (i * 4 + j) = ⟨(ad.add (i * 4)).block, (ad.add (i * 4)).off + j, none⟩ := fun j hj => by
    rw [← add_of_add]
    conv => lhs; unfold Addr.add
    rw [if_neg (by omega)]
    rfl
  exact ⟨c0, by rw [← ha 1 (by decide)]; exact c1, by rw [← ha 2 (by decide)]; exact c2, by rw [← ha 3 (by decide)]; exact c3⟩
/-- What the document's 'Print' gives. -/
def RrP (X : List Sev) (w : World) (e : Ending) (w' : World) : Prop :=
  (match badM X with
   | some i => e = .returned (.tuple #[.slice none 0 0, .int .i64 (i : Int)])
   | none => ∃ v, e = .returned (.tuple #[v, .int .i64 (-1)]) ∧ w'.ownsRow w.heap.size 9 1 v (lns X).length (stc (lns X))) ∧ Below w.heap.size w w'
theorem RrP.mk_bad {X : List Sev} {w w' : World} {i : Nat} (hb : badM X = some i) (h : Below w.heap.size w w') : RrP X w (.returned (.tuple #[.slice none 0 0, .int .i64 (i : Int)])) w' := by
  unfold RrP
  rw [hb]
  exact ⟨rfl, h⟩
theorem RrP.mk_ok {X : List Sev} {w w' : World} {v : Value} (hb : badM X = none) (hv : w'.ownsRow w.heap.size 9 1 v (lns X).length (stc (lns X))) (h : Below w.heap.size w w') : RrP X w (.returned (.tuple #[v, .int .i64 (-1)])) w' := by
  unfold RrP
  rw [hb]
  exact ⟨⟨v, rfl, hv⟩, h⟩
theorem RrP.bad {X : List Sev} {w w' : World} {e : Ending} {i : Nat} (h : RrP X w e w') (hb : badM X = some i) : e = .returned (.tuple #[.slice none 0 0, .int .i64 (i : Int)]) ∧ Below w.heap.size w w' := by
  unfold RrP at h
  rw [hb] at h
  exact h
theorem RrP.ok {X : List Sev} {w w' : World} {e : Ending} (h : RrP X w e w') (hb : badM X = none) : ∃ v, e = .returned (.tuple #[v, .int .i64 (-1)]) ∧ w'.ownsRow w.heap.size 9 1 v (lns X).length (stc (lns X)) ∧ Below w.heap.size w w' := by
  unfold RrP at h
  rw [hb] at h
  obtain ⟨⟨u, h1, h2⟩, h3⟩ := h
  exact ⟨u, h1, h2, h3⟩
set_option maxRecDepth 100000 in
set_option maxHeartbeats 4000000 in
theorem rprint_is (X : List Sev) (A : Option Addr) (cap : Nat) (hX : X.length ≤ 5000) (hln : ∀ e ∈ X, e.line.length ≤ 5000) (w : World) (ha : SvAt A X w) : Calls Tryz.prog 14 #[.slice A X.length cap] w (RrP X w) := by
  have HO := Lib.hid ha
  have HXL := Lib.hid hX
  have HLL := Lib.hid hln
  have x5 : (X.length : Int) ≤ 5000 := by omega
  obtain ⟨i0, hi, hz0, hz1, hz2⟩ := info_parts infoSt2
  have HII := Lib.hid hi
  have HZ0 := Lib.hid hz0
  have HZ1 := Lib.hid hz1
  have HZ2 := Lib.hid hz2
  clear hi hz0 hz1 hz2 ha hX hln
  go_enter Tryz.func14, Tryz.ntmps14
  go_wp2_with fail
  go_loopw [5, 4] (fun vi vl wr => ∃ (i : Nat) (ls : List (List UInt8)), i ≤ X.length ∧ vi = .int .i64 (i : Int) ∧ Hid (lns X = ls ++ lns (X.drop i) ∧ ls.length ≤ i ∧ ∀ x ∈ X.take i, tellM x = true) ∧ Hid (wr.ownsRow w.heap.size 9 1 vl ls.length (stc ls)) ∧ Hid (Below w.heap.size w wr)) (fun vi _ _ => X.length + 1 - (intOf vi).toNat)
  case atStart => exact ⟨0, [], Nat.zero_le _, rfl, Lib.hid ⟨rfl, Nat.le_refl _, by simp⟩, Lib.hid ⟨rfl, .inl ⟨rfl, rfl⟩⟩, Lib.hid (Below.refl _ _)⟩
  case round =>
    obtain ⟨i, ls, hi, rfl, hls, hown, hBi⟩ := hrel
    have i0' : (0 : Int) ≤ (i : Int) := by omega
    by_cases hkn : i < X.length
    · obtain ⟨ek, hek⟩ : ∃ ek, X[i]? = some ek := ⟨_, List.getElem?_eq_getElem hkn⟩
      have p0 : (i : Int) < (X.length : Int) := by omega
      have HI := Lib.hid (And.intro hek hkn)
      have HOO := Lib.hid (HO.out.below hBi.out)
      obtain ⟨WO, rfl⟩ : ∃ WO, WO = wr := ⟨_, rfl⟩
      clear hek hkn hi
      go_wp2_with fail
      go_loopw [6] (fun vm wr => ∃ (m : Nat), 1 ≤ m ∧ m ≤ 10000 ∧ vm = .int .i64 (m : Int) ∧ Hid ((ek.k = 3 → m - 1 ≤ sameM ek 9999 (X.drop (i + 1))) ∧ (ek.k ≠ 3 → m = 1)) ∧ Hid (Below WO.heap.size WO wr)) (fun vm _ => 10001 - (intOf vm).toNat)
      case atStart => exact ⟨1, Nat.le_refl _, by omega, rfl, Lib.hid ⟨fun _ => Nat.zero_le _, fun _ => rfl⟩, Lib.hid (Below.refl _ _)⟩
      case round =>
        obtain ⟨m, hm1, hm2, rfl, hms0, hB2⟩ := hrel
        have hms := hms0.out
        have m0 : (0 : Int) ≤ (m : Int) := by omega
        have m9 : (m : Int) ≤ 10000 := by omega
        obtain ⟨ad, hv1, hgx, hxx⟩ := sv_at (HOO.out.below hB2.out) (by have := HI.out.2; omega)
        subst hv1
        have HGX := Lib.hid hgx
        have HCE := Lib.hid (hxx i ek HI.out.1)
        have p1 : (i : Int) < (X.length : Int) := by have := HI.out.2; omega
        clear hgx hms0
        obtain ⟨jj, hjj⟩ : ∃ jj, jj = i + m := ⟨_, rfl⟩
        have qj : (i : Int) + (m : Int) = (jj : Int) := by omega
        have j0 : (0 : Int) ≤ (jj : Int) := by omega
        have j5 : (jj : Int) ≤ 15000 := by omega
        have HJ := Lib.hid hjj
        by_cases hk3 : ek.k = 3
        · have hstep := sameM_step 9999 (m - 1) ek (X.drop (i + 1)) (hms.1 hk3)
          by_cases hm9 : m < 10000
          · by_cases hjx : jj < X.length
            · obtain ⟨bk, hbk⟩ : ∃ bk, X[jj]? = some bk := ⟨_, List.getElem?_eq_getElem hjx⟩
              by_cases hbe : bk = ek
              · have hle : (jj : Int) < (X.length : Int) := by omega
                have hlt : (m : Int) < 10000 := by omega
                have hk3 : ek.k = 3 := hk3
                have HCB := Lib.hid (hxx jj bk hbk)
                have HEQ := Lib.hid (fun W => eqE_ref bk ek W)
                have HEB : Hid (bk = ek) := Lib.hid hbe
                have HEQ : Hid (∀ W, (binOp .eql 39 (.agg #[.int .i64 bk.k, .int .i64 bk.who, .int .i64 bk.n, .string (Bs bk.line)]) (.agg #[.int .i64 ek.k, .int .i64 ek.who, .int .i64 ek.n, .string (Bs ek.line)])).run Tryz.prog W = .ok (.bool true) W) := Lib.hid (fun W => by rw [eqE_ref, decide_eq_true hbe])
                have HST := Lib.hid (And.intro hstep (And.intro hm1 (And.intro hk3 hbk)))
                clear hbk hbe hstep hm1 hxx hms
                have HK3 := Lib.hid hk3
                clear hjj hk3
                go_wp2_with fail
                refine region_sc (by kernel_rfl) (by kernel_rfl) ?_
                iterate 4 (first | go_big_quiet_skip | (go_big_quiet_want; go_big_quiet_op; first | go_big_quiet_on | (refine ⟨_, fun _ _ => rfl, ?_⟩; go_big_quiet_on)))
                go_big_quiet_want
                refine ⟨.int .i64 ek.k, fun wq hq => ?_, ?_⟩
                · have c0 := (hq.cell (p := ad.add _) (HGX.out _)).trans HCE.out.1
                  unfold Oper.quietAt
                  simp [go_sem, c0, Oper.quietUpon]
                simp only [Act.put, List.setIfInBounds_toArray, List.set_cons_zero, List.set_cons_succ]
                go_big_quiet_on
                go_big_quiet_want
                refine ⟨.bool true, fun wq hq => ?_, ?_⟩
                · unfold Oper.quietAt
                  simp [go_sem, HK3.out, Oper.quietUpon]
                simp only [Act.put, List.setIfInBounds_toArray, List.set_cons_zero, List.set_cons_succ]
                go_big_quiet_on
                iterate 3 (first | go_big_quiet_skip | (go_big_quiet_want; go_big_quiet_op; first | go_big_quiet_on | (refine ⟨_, fun _ _ => rfl, ?_⟩; go_big_quiet_on)))
                go_big_quiet_want
                refine ⟨.int .i64 (jj : Int), fun wq hq => ?_, ?_⟩
                · unfold Oper.quietAt
                  simp [go_sem, qj, Oper.quietUpon]
                  try exact IntWalk.i64_in _ (by omega)
                simp only [Act.put, List.setIfInBounds_toArray, List.set_cons_zero, List.set_cons_succ]
                go_big_quiet_on
                iterate 2 (first | go_big_quiet_skip | (go_big_quiet_want; go_big_quiet_op; first | go_big_quiet_on | (refine ⟨_, fun _ _ => rfl, ?_⟩; go_big_quiet_on)))
                go_big_quiet_want
                refine ⟨.bool true, fun wq hq => ?_, ?_⟩
                · unfold Oper.quietAt
                  simp [go_sem, hle, Oper.quietUpon]
                  try omega
                simp only [Act.put, List.setIfInBounds_toArray, List.set_cons_zero, List.set_cons_succ]
                go_big_quiet_on
                iterate 3 (first | go_big_quiet_skip | (go_big_quiet_want; go_big_quiet_op; first | go_big_quiet_on | (refine ⟨_, fun _ _ => rfl, ?_⟩; go_big_quiet_on)))
                go_big_quiet_want
                refine ⟨.bool true, fun wq hq => ?_, ?_⟩
                · unfold Oper.quietAt
                  simp [go_sem, hlt, Oper.quietUpon]
                  try omega
                simp only [Act.put, List.setIfInBounds_toArray, List.set_cons_zero, List.set_cons_succ]
                go_big_quiet_on
                iterate 5 (first | go_big_quiet_skip | (go_big_quiet_want; go_big_quiet_op; first | go_big_quiet_on | (refine ⟨_, fun _ _ => rfl, ?_⟩; go_big_quiet_on)))
                go_big_quiet_want
                refine ⟨.int .i64 (jj : Int), fun wq hq => ?_, ?_⟩
                · unfold Oper.quietAt
                  simp [go_sem, qj, Oper.quietUpon]
                  try exact IntWalk.i64_in _ (by omega)
                simp only [Act.put, List.setIfInBounds_toArray, List.set_cons_zero, List.set_cons_succ]
                go_big_quiet_on
                iterate 1 (first | go_big_quiet_skip | (go_big_quiet_want; go_big_quiet_op; first | go_big_quiet_on | (refine ⟨_, fun _ _ => rfl, ?_⟩; go_big_quiet_on)))
                go_big_quiet_want
                refine ⟨.agg #[.int .i64 bk.k, .int .i64 bk.who, .int .i64 bk.n, .string (Bs bk.line)], fun wq hq => ?_, ?_⟩
                · have c0 := (hq.cell (p := ad.add _) (HGX.out _)).trans HCB.out.1
                  have c1 := (hq.cell (p := ⟨(ad.add _).block, _, none⟩) (HGX.out _)).trans HCB.out.2.1
                  have c2 := (hq.cell (p := ⟨(ad.add _).block, _, none⟩) (HGX.out _)).trans HCB.out.2.2.1
                  have c3 := (hq.cell (p := ⟨(ad.add _).block, _, none⟩) (HGX.out _)).trans HCB.out.2.2.2
                  unfold Oper.quietAt
                  simp [go_sem, c0, c1, c2, c3, Oper.quietUpon]
                simp only [Act.put, List.setIfInBounds_toArray, List.set_cons_zero, List.set_cons_succ]
                go_big_quiet_on
                iterate 3 (first | go_big_quiet_skip | (go_big_quiet_want; go_big_quiet_op; first | go_big_quiet_on | (refine ⟨_, fun _ _ => rfl, ?_⟩; go_big_quiet_on)))
                go_big_quiet_want
                refine ⟨.agg #[.int .i64 ek.k, .int .i64 ek.who, .int .i64 ek.n, .string (Bs ek.line)], fun wq hq => ?_, ?_⟩
                · have c0 := (hq.cell (p := ad.add _) (HGX.out _)).trans HCE.out.1
                  have c1 := (hq.cell (p := ⟨(ad.add _).block, _, none⟩) (HGX.out _)).trans HCE.out.2.1
                  have c2 := (hq.cell (p := ⟨(ad.add _).block, _, none⟩) (HGX.out _)).trans HCE.out.2.2.1
                  have c3 := (hq.cell (p := ⟨(ad.add _).block, _, none⟩) (HGX.out _)).trans HCE.out.2.2.2
                  unfold Oper.quietAt
                  simp [go_sem, c0, c1, c2, c3, Oper.quietUpon]
                simp only [Act.put, List.setIfInBounds_toArray, List.set_cons_zero, List.set_cons_succ]
                go_big_quiet_on
                go_big_quiet_want
                refine ⟨.bool true, fun wq hq => ?_, ?_⟩
                · unfold Oper.quietAt
                  simp [go_sem, HEQ.out, Oper.quietUpon]
                simp only [Act.put, List.setIfInBounds_toArray, List.set_cons_zero, List.set_cons_succ]
                go_big_quiet_on
                iterate 1 (first | go_big_quiet_skip | (go_big_quiet_want; go_big_quiet_op; first | go_big_quiet_on | (refine ⟨_, fun _ _ => rfl, ?_⟩; go_big_quiet_on)))
                refine wpQuiet_nil ?_
                intro w4 hS4
                have HBN := Lib.hid (hB2.out.trans (hS4.mono hB2.out.size))
                clear hS4
                go_wp2_with fail
                go_roundw
                case rel =>
                  refine ⟨m + 1, by omega, by omega, by go_num, Lib.hid ⟨fun _ => ?_, fun h => absurd HST.out.2.2.1 h⟩, HBN⟩
                  have := HST.out.1.1 ⟨by omega, by rw [List.getElem?_drop, show i + 1 + (m - 1) = jj by have := HJ.out; have := HST.out.2.1; omega, HST.out.2.2.2, HEB.out]⟩
                  omega
                case measure => simp [intOf]; omega
              · have hle : (jj : Int) < (X.length : Int) := by omega
                have hlt : (m : Int) < 10000 := by omega
                have HCB := Lib.hid (hxx jj bk hbk)
                have HEQ : Hid (∀ W, (binOp .eql 39 (.agg #[.int .i64 bk.k, .int .i64 bk.who, .int .i64 bk.n, .string (Bs bk.line)]) (.agg #[.int .i64 ek.k, .int .i64 ek.who, .int .i64 ek.n, .string (Bs ek.line)])).run Tryz.prog W = .ok (.bool false) W) := Lib.hid (fun W => by rw [eqE_ref, decide_eq_false hbe])
                have HM : Hid (m = timesM ek (X.drop (i + 1))) := Lib.hid (by
                  unfold timesM
                  rw [if_pos hk3]
                  have := (hstep.2 (fun h => hbe (by have h2 := h.2; rw [List.getElem?_drop, show i + 1 + (m - 1) = jj by omega, hbk] at h2; exact Option.some.inj h2)))
                  omega)
                clear hbk hbe hstep hxx hms
                have HK3 := Lib.hid hk3
                clear hjj hk3
                go_wp2_with fail
                refine region_sc (by kernel_rfl) (by kernel_rfl) ?_
                iterate 4 (first | go_big_quiet_skip | (go_big_quiet_want; go_big_quiet_op; first | go_big_quiet_on | (refine ⟨_, fun _ _ => rfl, ?_⟩; go_big_quiet_on)))
                go_big_quiet_want
                refine ⟨.int .i64 ek.k, fun wq hq => ?_, ?_⟩
                · have c0 := (hq.cell (p := ad.add _) (HGX.out _)).trans HCE.out.1
                  unfold Oper.quietAt
                  simp [go_sem, c0, Oper.quietUpon]
                simp only [Act.put, List.setIfInBounds_toArray, List.set_cons_zero, List.set_cons_succ]
                go_big_quiet_on
                go_big_quiet_want
                refine ⟨.bool true, fun wq hq => ?_, ?_⟩
                · unfold Oper.quietAt
                  simp [go_sem, HK3.out, Oper.quietUpon]
                simp only [Act.put, List.setIfInBounds_toArray, List.set_cons_zero, List.set_cons_succ]
                go_big_quiet_on
                iterate 3 (first | go_big_quiet_skip | (go_big_quiet_want; go_big_quiet_op; first | go_big_quiet_on | (refine ⟨_, fun _ _ => rfl, ?_⟩; go_big_quiet_on)))
                go_big_quiet_want
                refine ⟨.int .i64 (jj : Int), fun wq hq => ?_, ?_⟩
                · unfold Oper.quietAt
                  simp [go_sem, qj, Oper.quietUpon]
                  try exact IntWalk.i64_in _ (by omega)
                simp only [Act.put, List.setIfInBounds_toArray, List.set_cons_zero, List.set_cons_succ]
                go_big_quiet_on
                iterate 2 (first | go_big_quiet_skip | (go_big_quiet_want; go_big_quiet_op; first | go_big_quiet_on | (refine ⟨_, fun _ _ => rfl, ?_⟩; go_big_quiet_on)))
                go_big_quiet_want
                refine ⟨.bool true, fun wq hq => ?_, ?_⟩
                · unfold Oper.quietAt
                  simp [go_sem, hle, Oper.quietUpon]
                  try omega
                simp only [Act.put, List.setIfInBounds_toArray, List.set_cons_zero, List.set_cons_succ]
                go_big_quiet_on
                iterate 3 (first | go_big_quiet_skip | (go_big_quiet_want; go_big_quiet_op; first | go_big_quiet_on | (refine ⟨_, fun _ _ => rfl, ?_⟩; go_big_quiet_on)))
                go_big_quiet_want
                refine ⟨.bool true, fun wq hq => ?_, ?_⟩
                · unfold Oper.quietAt
                  simp [go_sem, hlt, Oper.quietUpon]
                  try omega
                simp only [Act.put, List.setIfInBounds_toArray, List.set_cons_zero, List.set_cons_succ]
                go_big_quiet_on
                iterate 5 (first | go_big_quiet_skip | (go_big_quiet_want; go_big_quiet_op; first | go_big_quiet_on | (refine ⟨_, fun _ _ => rfl, ?_⟩; go_big_quiet_on)))
                go_big_quiet_want
                refine ⟨.int .i64 (jj : Int), fun wq hq => ?_, ?_⟩
                · unfold Oper.quietAt
                  simp [go_sem, qj, Oper.quietUpon]
                  try exact IntWalk.i64_in _ (by omega)
                simp only [Act.put, List.setIfInBounds_toArray, List.set_cons_zero, List.set_cons_succ]
                go_big_quiet_on
                iterate 1 (first | go_big_quiet_skip | (go_big_quiet_want; go_big_quiet_op; first | go_big_quiet_on | (refine ⟨_, fun _ _ => rfl, ?_⟩; go_big_quiet_on)))
                go_big_quiet_want
                refine ⟨.agg #[.int .i64 bk.k, .int .i64 bk.who, .int .i64 bk.n, .string (Bs bk.line)], fun wq hq => ?_, ?_⟩
                · have c0 := (hq.cell (p := ad.add _) (HGX.out _)).trans HCB.out.1
                  have c1 := (hq.cell (p := ⟨(ad.add _).block, _, none⟩) (HGX.out _)).trans HCB.out.2.1
                  have c2 := (hq.cell (p := ⟨(ad.add _).block, _, none⟩) (HGX.out _)).trans HCB.out.2.2.1
                  have c3 := (hq.cell (p := ⟨(ad.add _).block, _, none⟩) (HGX.out _)).trans HCB.out.2.2.2
                  unfold Oper.quietAt
                  simp [go_sem, c0, c1, c2, c3, Oper.quietUpon]
                simp only [Act.put, List.setIfInBounds_toArray, List.set_cons_zero, List.set_cons_succ]
                go_big_quiet_on
                iterate 3 (first | go_big_quiet_skip | (go_big_quiet_want; go_big_quiet_op; first | go_big_quiet_on | (refine ⟨_, fun _ _ => rfl, ?_⟩; go_big_quiet_on)))
                go_big_quiet_want
                refine ⟨.agg #[.int .i64 ek.k, .int .i64 ek.who, .int .i64 ek.n, .string (Bs ek.line)], fun wq hq => ?_, ?_⟩
                · have c0 := (hq.cell (p := ad.add _) (HGX.out _)).trans HCE.out.1
                  have c1 := (hq.cell (p := ⟨(ad.add _).block, _, none⟩) (HGX.out _)).trans HCE.out.2.1
                  have c2 := (hq.cell (p := ⟨(ad.add _).block, _, none⟩) (HGX.out _)).trans HCE.out.2.2.1
                  have c3 := (hq.cell (p := ⟨(ad.add _).block, _, none⟩) (HGX.out _)).trans HCE.out.2.2.2
                  unfold Oper.quietAt
                  simp [go_sem, c0, c1, c2, c3, Oper.quietUpon]
                simp only [Act.put, List.setIfInBounds_toArray, List.set_cons_zero, List.set_cons_succ]
                go_big_quiet_on
                go_big_quiet_want
                refine ⟨.bool false, fun wq hq => ?_, ?_⟩
                · unfold Oper.quietAt
                  simp [go_sem, HEQ.out, Oper.quietUpon]
                simp only [Act.put, List.setIfInBounds_toArray, List.set_cons_zero, List.set_cons_succ]
                go_big_quiet_on
                iterate 1 (first | go_big_quiet_skip | (go_big_quiet_want; go_big_quiet_op; first | go_big_quiet_on | (refine ⟨_, fun _ _ => rfl, ?_⟩; go_big_quiet_on)))
                refine wpQuiet_nil ?_
                intro w4 hS4
                have HBN := Lib.hid (hB2.out.trans (hS4.mono hB2.out.size))
                clear hS4
                have hHT := times_len X i ek HI.out.1
                rw [← HM.out] at hHT
                have HTT := Lib.hid hHT
                have HBW := Lib.hid (hBi.out.trans (HBN.out.mono hBi.out.size))
                obtain ⟨ad9, hv9, hg9, hx9⟩ := sv_at (HOO.out.below HBN.out) (by have := HI.out.2; omega)
                obtain rfl : ad = ad9 := by injection hv9
                obtain ⟨z0, z1, z2, z3⟩ := hx9 i ek HI.out.1
                clear hv9 hg9 hx9 hHT
                go_wp2_with fail
                refine (rline_is ek.k ek.who ek.n ek.line m (HLL.out ek (List.mem_of_getElem? HI.out.1)) HTT.out.1 HTT.out.2.1 _).mono ?_
                rintro e5 w5 ⟨tx, tb, rfl, htb5, htx, hb5⟩
                have HB5 := Lib.hid (HBN.out.trans (hb5.mono HBN.out.size))
                have HBX := Lib.hid (hBi.out.trans (HB5.out.mono hBi.out.size))
                have HTX := Lib.hid (And.intro (show tellM ek = tb from htb5) (show tb = true → tx = Bs (txtM ek m) from htx))
                clear hb5 htx htb5 z0 z1 z2 z3
                cases tb with
                | false =>
                  go_wp2_with fail
                  go_ret2
                  exact RrP.mk_bad (badM_at X i ek HI.out.1 HTX.out.1 hls.out.2.2) HBX.out
                | true =>
                  obtain rfl := HTX.out.2 rfl
                  have HOW := Lib.hid (rkept hown.out (HB5.out.alloc HB5.out.size (.cells #[.string (Bs (txtM ek m))] 9)))
                  have N1 : Hid (ls.length + 1 ≤ maxLen) := Lib.hid (by have h1 := hls.out.2.1; have h2 := HI.out.2; have h3 := HXL.out; unfold maxLen; omega)
                  have N2 : Hid ((ls.length + 1) * 16 ≤ 140737488355328) := Lib.hid (by have h1 := hls.out.2.1; have h2 := HI.out.2; have h3 := HXL.out; omega)
                  have m5 : (i : Int) + (m : Int) ≤ 5000 := by have := HTT.out.2.2; have := HXL.out; omega
                  go_wp2_with (at_builtin; refine wpList_append_any _ rfl (.tmp 58) (.tmp 60) 22 rfl w.heap.size 9 i0 (.string ⟨#[]⟩) 1 16 Tryz.underlying22 HII.out HZ0.out HZ1.out HZ2.out rfl (by decide) _ ls.length (stc ls) rfl HOW.out _ (some ⟨w5.heap.size, 0, none⟩) 1 1 [.string (Bs (txtM ek m))] rfl (reads_newN w5 1 1 [.string (Bs (txtM ek m))] 9 rfl) (by intro u hu; simp only [List.mem_cons, List.not_mem_nil, or_false] at hu; subst hu; rfl) N1.out N2.out (by have h1 := HBX.out.size; simp; omega) ?_; intro v3 w6 hown3 hgrow3 hb3; have HP := Lib.hid (And.intro hown3 hgrow3); clear hown3 hgrow3 hb3)
                  go_roundw
                  case rel =>
                    refine ⟨i + m, ls ++ [txtM ek m], HTT.out.2.2, by go_num, Lib.hid ⟨?_, ?_, ?_⟩, Lib.hid ?_, Lib.hid ?_⟩
                    · have h1 := lns_at X i ek HI.out.1
                      rw [← HM.out] at h1
                      rw [hls.out.1, h1, List.append_assoc]
                      rfl
                    · rw [List.length_append]
                      have h1 := hls.out.2.1
                      have h2 := HTT.out.1
                      simp only [List.length_cons, List.length_nil]
                      omega
                    · intro x hx
                      have h1 := run_take X i ek HI.out.1
                      rw [← HM.out] at h1
                      rw [h1] at hx
                      rcases List.mem_append.1 hx with hx | hx
                      · exact hls.out.2.2 x hx
                      · rw [List.eq_of_mem_replicate hx]
                        exact HTX.out.1
                    · rw [List.length_append, ← stc_snoc]
                      exact HP.out.1
                    · exact Below.grown (HBX.out.alloc HBX.out.size _) HP.out.2 (by have h1 := HBX.out.size; simp; omega) (fun b e => (HOW.out.lt b e).1)
                  case measure => have h1 := HTT.out.1; have h2 := HTT.out.2.2; simp [intOf]; omega
            · have hle : ¬ (jj : Int) < (X.length : Int) := by omega
              have hlt : (m : Int) < 10000 := by omega
              have HM : Hid (m = timesM ek (X.drop (i + 1))) := Lib.hid (by
                unfold timesM
                rw [if_pos hk3]
                have := (hstep.2 (fun h => by have h2 := h.2; rw [List.getElem?_drop, show i + 1 + (m - 1) = jj by omega, List.getElem?_eq_none (by omega)] at h2; cases h2))
                omega)
              clear hstep hxx hms
              have HK3 := Lib.hid hk3
              clear hjj hk3
              go_wp2_with fail
              refine region_sc (by kernel_rfl) (by kernel_rfl) ?_
              iterate 4 (first | go_big_quiet_skip | (go_big_quiet_want; go_big_quiet_op; first | go_big_quiet_on | (refine ⟨_, fun _ _ => rfl, ?_⟩; go_big_quiet_on)))
              go_big_quiet_want
              refine ⟨.int .i64 ek.k, fun wq hq => ?_, ?_⟩
              · have c0 := (hq.cell (p := ad.add _) (HGX.out _)).trans HCE.out.1
                unfold Oper.quietAt
                simp [go_sem, c0, Oper.quietUpon]
              simp only [Act.put, List.setIfInBounds_toArray, List.set_cons_zero, List.set_cons_succ]
              go_big_quiet_on
              go_big_quiet_want
              refine ⟨.bool true, fun wq hq => ?_, ?_⟩
              · unfold Oper.quietAt
                simp [go_sem, HK3.out, Oper.quietUpon]
              simp only [Act.put, List.setIfInBounds_toArray, List.set_cons_zero, List.set_cons_succ]
              go_big_quiet_on
              iterate 3 (first | go_big_quiet_skip | (go_big_quiet_want; go_big_quiet_op; first | go_big_quiet_on | (refine ⟨_, fun _ _ => rfl, ?_⟩; go_big_quiet_on)))
              go_big_quiet_want
              refine ⟨.int .i64 (jj : Int), fun wq hq => ?_, ?_⟩
              · unfold Oper.quietAt
                simp [go_sem, qj, Oper.quietUpon]
                try exact IntWalk.i64_in _ (by omega)
              simp only [Act.put, List.setIfInBounds_toArray, List.set_cons_zero, List.set_cons_succ]
              go_big_quiet_on
              iterate 2 (first | go_big_quiet_skip | (go_big_quiet_want; go_big_quiet_op; first | go_big_quiet_on | (refine ⟨_, fun _ _ => rfl, ?_⟩; go_big_quiet_on)))
              go_big_quiet_want
              refine ⟨.bool false, fun wq hq => ?_, ?_⟩
              · unfold Oper.quietAt
                simp [go_sem, hle, Oper.quietUpon]
                try omega
              simp only [Act.put, List.setIfInBounds_toArray, List.set_cons_zero, List.set_cons_succ]
              go_big_quiet_on
              iterate 18 (first | go_big_quiet_skip | (go_big_quiet_want; go_big_quiet_op; first | go_big_quiet_on | (refine ⟨_, fun _ _ => rfl, ?_⟩; go_big_quiet_on)))
              refine wpQuiet_nil ?_
              intro w4 hS4
              have HBN := Lib.hid (hB2.out.trans (hS4.mono hB2.out.size))
              clear hS4
              have hHT := times_len X i ek HI.out.1
              rw [← HM.out] at hHT
              have HTT := Lib.hid hHT
              have HBW := Lib.hid (hBi.out.trans (HBN.out.mono hBi.out.size))
              obtain ⟨ad9, hv9, hg9, hx9⟩ := sv_at (HOO.out.below HBN.out) (by have := HI.out.2; omega)
              obtain rfl : ad = ad9 := by injection hv9
              obtain ⟨z0, z1, z2, z3⟩ := hx9 i ek HI.out.1
              clear hv9 hg9 hx9 hHT
              go_wp2_with fail
              refine (rline_is ek.k ek.who ek.n ek.line m (HLL.out ek (List.mem_of_getElem? HI.out.1)) HTT.out.1 HTT.out.2.1 _).mono ?_
              rintro e5 w5 ⟨tx, tb, rfl, htb5, htx, hb5⟩
              have HB5 := Lib.hid (HBN.out.trans (hb5.mono HBN.out.size))
              have HBX := Lib.hid (hBi.out.trans (HB5.out.mono hBi.out.size))
              have HTX := Lib.hid (And.intro (show tellM ek = tb from htb5) (show tb = true → tx = Bs (txtM ek m) from htx))
              clear hb5 htx htb5 z0 z1 z2 z3
              cases tb with
              | false =>
                go_wp2_with fail
                go_ret2
                exact RrP.mk_bad (badM_at X i ek HI.out.1 HTX.out.1 hls.out.2.2) HBX.out
              | true =>
                obtain rfl := HTX.out.2 rfl
                have HOW := Lib.hid (rkept hown.out (HB5.out.alloc HB5.out.size (.cells #[.string (Bs (txtM ek m))] 9)))
                have N1 : Hid (ls.length + 1 ≤ maxLen) := Lib.hid (by have h1 := hls.out.2.1; have h2 := HI.out.2; have h3 := HXL.out; unfold maxLen; omega)
                have N2 : Hid ((ls.length + 1) * 16 ≤ 140737488355328) := Lib.hid (by have h1 := hls.out.2.1; have h2 := HI.out.2; have h3 := HXL.out; omega)
                have m5 : (i : Int) + (m : Int) ≤ 5000 := by have := HTT.out.2.2; have := HXL.out; omega
                go_wp2_with (at_builtin; refine wpList_append_any _ rfl (.tmp 58) (.tmp 60) 22 rfl w.heap.size 9 i0 (.string ⟨#[]⟩) 1 16 Tryz.underlying22 HII.out HZ0.out HZ1.out HZ2.out rfl (by decide) _ ls.length (stc ls) rfl HOW.out _ (some ⟨w5.heap.size, 0, none⟩) 1 1 [.string (Bs (txtM ek m))] rfl (reads_newN w5 1 1 [.string (Bs (txtM ek m))] 9 rfl) (by intro u hu; simp only [List.mem_cons, List.not_mem_nil, or_false] at hu; subst hu; rfl) N1.out N2.out (by have h1 := HBX.out.size; simp; omega) ?_; intro v3 w6 hown3 hgrow3 hb3; have HP := Lib.hid (And.intro hown3 hgrow3); clear hown3 hgrow3 hb3)
                go_roundw
                case rel =>
                  refine ⟨i + m, ls ++ [txtM ek m], HTT.out.2.2, by go_num, Lib.hid ⟨?_, ?_, ?_⟩, Lib.hid ?_, Lib.hid ?_⟩
                  · have h1 := lns_at X i ek HI.out.1
                    rw [← HM.out] at h1
                    rw [hls.out.1, h1, List.append_assoc]
                    rfl
                  · rw [List.length_append]
                    have h1 := hls.out.2.1
                    have h2 := HTT.out.1
                    simp only [List.length_cons, List.length_nil]
                    omega
                  · intro x hx
                    have h1 := run_take X i ek HI.out.1
                    rw [← HM.out] at h1
                    rw [h1] at hx
                    rcases List.mem_append.1 hx with hx | hx
                    · exact hls.out.2.2 x hx
                    · rw [List.eq_of_mem_replicate hx]
                      exact HTX.out.1
                  · rw [List.length_append, ← stc_snoc]
                    exact HP.out.1
                  · exact Below.grown (HBX.out.alloc HBX.out.size _) HP.out.2 (by have h1 := HBX.out.size; simp; omega) (fun b e => (HOW.out.lt b e).1)
                case measure => have h1 := HTT.out.1; have h2 := HTT.out.2.2; simp [intOf]; omega
          · exfalso
            have hlt : ¬ (m : Int) < 10000 := by omega
            have HM : Hid (m = timesM ek (X.drop (i + 1))) := Lib.hid (by
              unfold timesM
              rw [if_pos hk3]
              have := (hstep.2 (fun h => by omega))
              omega)
            have h9 := times_len X i ek HI.out.1
            rw [← HM.out] at h9
            have := h9.2.2
            have := HXL.out
            omega
        · have hk3 : (ek.k == 3) = false := beq_eq_false_iff_ne.2 hk3
          have HM : Hid (m = timesM ek (X.drop (i + 1))) := Lib.hid (by
            unfold timesM
            rw [if_neg (beq_eq_false_iff_ne.1 hk3)]
            exact hms.2 (beq_eq_false_iff_ne.1 hk3))
          clear hms
          have HK3 := Lib.hid hk3
          clear hjj hk3
          go_wp2_with fail
          refine region_sc (by kernel_rfl) (by kernel_rfl) ?_
          iterate 4 (first | go_big_quiet_skip | (go_big_quiet_want; go_big_quiet_op; first | go_big_quiet_on | (refine ⟨_, fun _ _ => rfl, ?_⟩; go_big_quiet_on)))
          go_big_quiet_want
          refine ⟨.int .i64 ek.k, fun wq hq => ?_, ?_⟩
          · have c0 := (hq.cell (p := ad.add _) (HGX.out _)).trans HCE.out.1
            unfold Oper.quietAt
            simp [go_sem, c0, Oper.quietUpon]
          simp only [Act.put, List.setIfInBounds_toArray, List.set_cons_zero, List.set_cons_succ]
          go_big_quiet_on
          go_big_quiet_want
          refine ⟨.bool false, fun wq hq => ?_, ?_⟩
          · unfold Oper.quietAt
            simp [go_sem, HK3.out, Oper.quietUpon]
          simp only [Act.put, List.setIfInBounds_toArray, List.set_cons_zero, List.set_cons_succ]
          go_big_quiet_on
          iterate 25 (first | go_big_quiet_skip | (go_big_quiet_want; go_big_quiet_op; first | go_big_quiet_on | (refine ⟨_, fun _ _ => rfl, ?_⟩; go_big_quiet_on)))
          refine wpQuiet_nil ?_
          intro w4 hS4
          have HBN := Lib.hid (hB2.out.trans (hS4.mono hB2.out.size))
          clear hS4
          have hHT := times_len X i ek HI.out.1
          rw [← HM.out] at hHT
          have HTT := Lib.hid hHT
          have HBW := Lib.hid (hBi.out.trans (HBN.out.mono hBi.out.size))
          obtain ⟨ad9, hv9, hg9, hx9⟩ := sv_at (HOO.out.below HBN.out) (by have := HI.out.2; omega)
          obtain rfl : ad = ad9 := by injection hv9
          obtain ⟨z0, z1, z2, z3⟩ := hx9 i ek HI.out.1
          clear hv9 hg9 hx9 hHT
          go_wp2_with fail
          refine (rline_is ek.k ek.who ek.n ek.line m (HLL.out ek (List.mem_of_getElem? HI.out.1)) HTT.out.1 HTT.out.2.1 _).mono ?_
          rintro e5 w5 ⟨tx, tb, rfl, htb5, htx, hb5⟩
          have HB5 := Lib.hid (HBN.out.trans (hb5.mono HBN.out.size))
          have HBX := Lib.hid (hBi.out.trans (HB5.out.mono hBi.out.size))
          have HTX := Lib.hid (And.intro (show tellM ek = tb from htb5) (show tb = true → tx = Bs (txtM ek m) from htx))
          clear hb5 htx htb5 z0 z1 z2 z3
          cases tb with
          | false =>
            go_wp2_with fail
            go_ret2
            exact RrP.mk_bad (badM_at X i ek HI.out.1 HTX.out.1 hls.out.2.2) HBX.out
          | true =>
            obtain rfl := HTX.out.2 rfl
            have HOW := Lib.hid (rkept hown.out (HB5.out.alloc HB5.out.size (.cells #[.string (Bs (txtM ek m))] 9)))
            have N1 : Hid (ls.length + 1 ≤ maxLen) := Lib.hid (by have h1 := hls.out.2.1; have h2 := HI.out.2; have h3 := HXL.out; unfold maxLen; omega)
            have N2 : Hid ((ls.length + 1) * 16 ≤ 140737488355328) := Lib.hid (by have h1 := hls.out.2.1; have h2 := HI.out.2; have h3 := HXL.out; omega)
            have m5 : (i : Int) + (m : Int) ≤ 5000 := by have := HTT.out.2.2; have := HXL.out; omega
            go_wp2_with (at_builtin; refine wpList_append_any _ rfl (.tmp 58) (.tmp 60) 22 rfl w.heap.size 9 i0 (.string ⟨#[]⟩) 1 16 Tryz.underlying22 HII.out HZ0.out HZ1.out HZ2.out rfl (by decide) _ ls.length (stc ls) rfl HOW.out _ (some ⟨w5.heap.size, 0, none⟩) 1 1 [.string (Bs (txtM ek m))] rfl (reads_newN w5 1 1 [.string (Bs (txtM ek m))] 9 rfl) (by intro u hu; simp only [List.mem_cons, List.not_mem_nil, or_false] at hu; subst hu; rfl) N1.out N2.out (by have h1 := HBX.out.size; simp; omega) ?_; intro v3 w6 hown3 hgrow3 hb3; have HP := Lib.hid (And.intro hown3 hgrow3); clear hown3 hgrow3 hb3)
            go_roundw
            case rel =>
              refine ⟨i + m, ls ++ [txtM ek m], HTT.out.2.2, by go_num, Lib.hid ⟨?_, ?_, ?_⟩, Lib.hid ?_, Lib.hid ?_⟩
              · have h1 := lns_at X i ek HI.out.1
                rw [← HM.out] at h1
                rw [hls.out.1, h1, List.append_assoc]
                rfl
              · rw [List.length_append]
                have h1 := hls.out.2.1
                have h2 := HTT.out.1
                simp only [List.length_cons, List.length_nil]
                omega
              · intro x hx
                have h1 := run_take X i ek HI.out.1
                rw [← HM.out] at h1
                rw [h1] at hx
                rcases List.mem_append.1 hx with hx | hx
                · exact hls.out.2.2 x hx
                · rw [List.eq_of_mem_replicate hx]
                  exact HTX.out.1
              · rw [List.length_append, ← stc_snoc]
                exact HP.out.1
              · exact Below.grown (HBX.out.alloc HBX.out.size _) HP.out.2 (by have h1 := HBX.out.size; simp; omega) (fun b e => (HOW.out.lt b e).1)
            case measure => have h1 := HTT.out.1; have h2 := HTT.out.2.2; simp [intOf]; omega
    · have hke : i = X.length := by omega
      subst hke
      have hfin := hls.out.1
      have hall := hls.out.2.2
      rw [List.drop_length, lns_nil, List.append_nil] at hfin
      rw [List.take_of_length_le (Nat.le_refl _)] at hall
      have HF := Lib.hid (And.intro hfin hall)
      clear hfin hall hi hkn
      go_wp2_with fail
      go_ret2
      refine RrP.mk_ok (badM_none X HF.out.2) ?_ hBi.out
      rw [HF.out.1]
      exact hown.out

end Go.Proofs.YtafnipgeeampjaaGreatDoor
