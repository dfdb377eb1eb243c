/-
  The document's script.
-/
import Derived.Test.YtgakgnofflnjoaaRows
import Derived.Test.YtgakgnofflnjoaaKit
import Derived.Test.YtgakgnofflnjoaaApp
import Derived.Test.YtgakgnofflnjoaaQuiet
import Derived.Test.YtgakgnofflnjoaaSt
import Derived.Test.YtgakgnofflnjoaaStA
import Derived.Test.YtgakgnofflnjoaaStT
import Derived.Test.YtgakgnofflnjoaaStK
import Derived.Test.YtgakgnofflnjoaaStR
import Derived.Test.YtgakgnofflnjoaaStL
import Derived.Test.YtgakgnofflnjoaaStM
import Derived.Test.YtgakgnofflnjoaaStS
import Derived.Test.YtgakgnofflnjoaaStV
import Derived.Test.YtgakgnofflnjoaaStD
import Derived.Test.YtgakgnofflnjoaaSxP
import Derived.Test.YtgakgnofflnjoaaSxA
import Derived.Test.YtgakgnofflnjoaaSxB
import Derived.Test.YtgakgnofflnjoaaSxT
import Derived.Test.YtgakgnofflnjoaaSxK
import Derived.Test.YtgakgnofflnjoaaSxM
import Derived.Test.YtgakgnofflnjoaaSyR
import Derived.WalkKit
import Derived.ProofKit
import Derived.OpenShut
import Derived.ShutString
import Derived.Below
import Derived.Outline
import Derived.WalkLawsBesides
import Derived.WalkSpells
import Derived.Handy
import Derived.Deep.QuietTactic
import Derived.BigQuiet
import Derived.RegionTactic
import Derived.ChangeAlike
import Derived.Lib.Hide
import Derived.Laws.Rows
import Derived.Laws.Tables
import Derived.Laws.CopyOwn
import Derived.Laws.MakeOwn
import Derived.Laws.Entries
import Derived.Laws.OwnMore
import Derived.Deep.WholeRow
import Derived.Deep.LoopGhost
import Derived.Deep.AppendLies
import Derived.Deep.Draws
import Derived.Maps.AppendAt
import Derived.OwnWalk
import Derived.Deep.RegionHeld3
import Derived.Deep.Cut
import Derived.Deep.CutRange
import Derived.Deep.DeepCutAuto
import Derived.Deep.CutBlock
import Derived.Lib.SliceRun
import Derived.IntWalk
namespace Go.Proofs.Ytgakgnofflnjoaa
open Go.ChangeShapes Go.WideShapes Go.ChangeAt Go.RowKit
def lenV : Value → Nat
  | .slice _ n _ => n
  | _ => 0
theorem itS_succ {p c n b ma mt md ms mp mw seed : Int} {k : Nat} {s : SM} {L : List (List Int)} (h : itS p c n b ma mt md ms mp mw seed k = (s, L)) : itS p c n b ma mt md ms mp mw seed (k + 1) = ((stepM p c n b ma mt md ms mp mw s).1, L ++ (stepM p c n b ma mt md ms mp mw s).2) := by
  show ((stepM p c n b ma mt md ms mp mw (itS p c n b ma mt md ms mp mw seed k).1).1, (itS p c n b ma mt md ms mp mw seed k).2 ++ (stepM p c n b ma mt md ms mp mw (itS p c n b ma mt md ms mp mw seed k).1).2) = _
  rw [h]
theorem step_1 {p c n b ma mt md ms mp mw N nw NA : Int} {ids : Nat → Nat} {u : Nat} {a1 a2 a3 a4 a5 a6 a7 a8 a9 : Int} (hk : bl (nx (nx N)) (mx0 ma + mx0 mt + mx0 md + 4) < mx0 ma) (hu : bl (nx N) p = (u : Int)) (hA : askV c n mp mw ((ids u + 1 : Nat) : Int) nw (nx (nx N)) = ((a1, a2, a3, a4, a5, a6, a7, a8, a9), NA)) : stepM p c n b ma mt md ms mp mw (N, nw, ids) = ((NA, nw, fun i => if i = u then ids u + 1 else ids i), [[1, (u : Int), 0, a1, a2, a3, a4, a5, a6, a7, a8, a9]]) := by
  unfold stepM
  dsimp only
  rw [if_pos hk, hu, Int.toNat_natCast, hA]
  rfl
theorem step_2 {p c n b ma mt md ms mp mw N nw : Int} {ids : Nat → Nat} (h1 : ¬ bl (nx (nx N)) (mx0 ma + mx0 mt + mx0 md + 4) < mx0 ma) (h2 : bl (nx (nx N)) (mx0 ma + mx0 mt + mx0 md + 4) < mx0 ma + mx0 mt) : stepM p c n b ma mt md ms mp mw (N, nw, ids) = ((nx (nx (nx N)), hold2 (nw + (1 + bl (nx (nx (nx N))) 3)), ids), [[2, 0, 1 + bl (nx (nx (nx N))) 3, 0, 0, 0, 0, 0, 0, 0, 0, 0]]) := by
  unfold stepM
  dsimp only
  rw [if_neg h1, if_pos h2]
theorem step_3 {p c n b ma mt md ms mp mw N nw : Int} {ids : Nat → Nat} (h1 : ¬ bl (nx (nx N)) (mx0 ma + mx0 mt + mx0 md + 4) < mx0 ma) (h2 : ¬ bl (nx (nx N)) (mx0 ma + mx0 mt + mx0 md + 4) < mx0 ma + mx0 mt) (h3 : bl (nx (nx N)) (mx0 ma + mx0 mt + mx0 md + 4) < mx0 ma + mx0 mt + mx0 md) : stepM p c n b ma mt md ms mp mw (N, nw, ids) = ((nx (nx (nx N)), nw, ids), [[4, bl (nx N) p, bl (nx (nx (nx N))) (p * c), 0, 0, 0, 0, 0, 0, 0, 0, 0]]) := by
  unfold stepM
  dsimp only
  rw [if_neg h1, if_neg h2, if_pos h3]
theorem step_4 {p c n b ma mt md ms mp mw N nw : Int} {ids : Nat → Nat} (h1 : ¬ bl (nx (nx N)) (mx0 ma + mx0 mt + mx0 md + 4) < mx0 ma) (h2 : ¬ bl (nx (nx N)) (mx0 ma + mx0 mt + mx0 md + 4) < mx0 ma + mx0 mt) (h3 : ¬ bl (nx (nx N)) (mx0 ma + mx0 mt + mx0 md + 4) < mx0 ma + mx0 mt + mx0 md) : stepM p c n b ma mt md ms mp mw (N, nw, ids) = ((nx (nx (nx (nx (nx N)))), nw, ids), List.replicate (1 + bl (nx (nx (nx (nx (nx N))))) ms).toNat [3, agt (bl (nx (nx (nx (nx N)))) 3) (bl (nx N) p) (bl (nx (nx (nx N))) (p + 2 * (n * b))), 0, 0, 0, 0, 0, 0, 0, 0, 0, 0]) := by
  unfold stepM
  dsimp only
  rw [if_neg h1, if_neg h2, if_neg h3]
set_option maxRecDepth 100000 in
set_option maxHeartbeats 16000000 in
theorem refscr_is (p c n b r f g ma mt md ms mp mw seed most : Int) (w : World) (hp : 1 ≤ p ∧ p ≤ 6) (hc : 1 ≤ c ∧ c ≤ 4) (hn : 1 ≤ n ∧ n ≤ 3) (hb : 1 ≤ b ∧ b ≤ 4) (hm1 : -10000 ≤ ma ∧ ma ≤ 10000) (hm2 : -10000 ≤ mt ∧ mt ≤ 10000) (hm3 : -10000 ≤ md ∧ md ≤ 10000) (hm4 : -10000 ≤ ms ∧ ms ≤ 10000) (hm5 : -10000 ≤ mp ∧ mp ≤ 10000) (hm6 : 0 ≤ mw ∧ mw ≤ 10000) (hmost : most ≤ 2000) : Calls Try.prog 11 #[.agg #[.int .i64 p, .int .i64 c, .int .i64 n, .int .i64 b, .int .i64 r, .int .i64 f, .int .i64 g], .int .u64 seed, .agg #[.int .i64 ma, .int .i64 mt, .int .i64 md, .int .i64 ms, .int .i64 mp, .int .i64 mw], .int .i64 most] w fun e w' => ∃ A cp, e = .returned (.slice A most.toNat cp) ∧ w'.ownsRow w.heap.size 67 12 (.slice A most.toNat cp) most.toNat (lv (scr p c n b ma mt md ms mp mw seed most.toNat)) ∧ Below w.heap.size w w' := by
  obtain ⟨np, hnp⟩ : ∃ np : Nat, (np : Int) = p := ⟨p.toNat, by omega⟩
  have hnp2 : np ≤ 6 := by omega
  have HNP := Lib.hid hnp
  have hmk : ∀ W : World, (Instr.makeSlice 56 (.int .i64 p) (.int .i64 p)).run Try.prog W = .ok (.slice (some ⟨W.heap.size, 0, none⟩) np np) (W.alloc (.cells (madeCells (Value.int .i64 0).cells (np * 1)) 3)) := fun W => by rw [← hnp]; exact makeI np (by omega) W
  obtain ⟨mst, hmst⟩ : ∃ mst : Nat, most.toNat = mst := ⟨_, rfl⟩
  have hms1 : (mst : Int) ≤ 2000 := by omega
  have HH1 := Lib.hid (fun W => show Calls Try.prog 19 #[.int .i64 ma, .int .i64 0, .int .i64 (ma + 1)] W (fun e w' => e = .returned (.int .i64 (mx0 ma)) ∧ Below W.heap.size W w') from by
    have h := hold_is ma 0 (ma + 1) W
    rw [show holdS ma 0 (ma + 1) = mx0 ma from by unfold holdS mx0; (repeat' split) <;> omega] at h
    exact h)
  have HH2 := Lib.hid (fun W => show Calls Try.prog 19 #[.int .i64 mt, .int .i64 0, .int .i64 (mt + 1)] W (fun e w' => e = .returned (.int .i64 (mx0 mt)) ∧ Below W.heap.size W w') from by
    have h := hold_is mt 0 (mt + 1) W
    rw [show holdS mt 0 (mt + 1) = mx0 mt from by unfold holdS mx0; (repeat' split) <;> omega] at h
    exact h)
  have HH3 := Lib.hid (fun W => show Calls Try.prog 19 #[.int .i64 md, .int .i64 0, .int .i64 (md + 1)] W (fun e w' => e = .returned (.int .i64 (mx0 md)) ∧ Below W.heap.size W w') from by
    have h := hold_is md 0 (md + 1) W
    rw [show holdS md 0 (md + 1) = mx0 md from by unfold holdS mx0; (repeat' split) <;> omega] at h
    exact h)
  have HH4 := Lib.hid (fun W => show Calls Try.prog 19 #[.int .i64 most, .int .i64 0, .int .i64 65536] W (fun e w' => e = .returned (.int .i64 (mst : Int)) ∧ Below W.heap.size W w') from by
    have h := hold_is most 0 65536 W
    rw [show holdS most 0 65536 = (mst : Int) from by unfold holdS; (repeat' split) <;> omega] at h
    exact h)
  have HH5 := Lib.hid (fun (x : Int) (W : World) (h0 : 0 ≤ x) => show Calls Try.prog 19 #[.int .i64 x, .int .i64 0, .int .i64 1000000] W (fun e w' => e = .returned (.int .i64 (hold2 x)) ∧ Below W.heap.size W w') from by
    have h := hold_is x 0 1000000 W
    rw [show holdS x 0 1000000 = hold2 x from by unfold holdS hold2; (repeat' split) <;> omega] at h
    exact h)
  have HBL := Lib.hid (fun (S : Nat) (N k : Int) (W : World) (hk1 : k ≤ 9223372036854775807) (hc : W.cell? ⟨S, 0, none⟩ = some (.int .u64 N)) (hf : W.frozen? ⟨S, 0, none⟩ = false) => below_ref S N k W W hk1 (Src.refl hc hf))
  obtain ⟨i0, hi, hz0, hz1, hz2⟩ := info_parts infoR
  have HI := Lib.hid hi
  have HZ0 := Lib.hid hz0
  have HZ1 := Lib.hid hz1
  have HZ2 := Lib.hid hz2
  have HMST := Lib.hid hmst
  clear hi hz0 hz1 hz2 hmst
  obtain ⟨m1a, m1b⟩ := mx0_bd ma hm1
  obtain ⟨m2a, m2b⟩ := mx0_bd mt hm2
  obtain ⟨m3a, m3b⟩ := mx0_bd md hm3
  have hnb := mul12 hn hb
  have hpc : 1 ≤ p * c ∧ p * c ≤ 24 := by
    obtain ⟨p0, p1⟩ := hp
    obtain ⟨c0, c1⟩ := hc
    exact ⟨by have := Int.mul_le_mul p0 c0 (by omega) (by omega); omega, by have := Int.mul_le_mul p1 c1 (by omega) (by omega); omega⟩
  go_enter Try.func11, Try.ntmps11
  go_wp2_with fail
  have HM := Lib.hid (rs_start p c n b r f g ma mt md ms mp mw seed np w)
  have hd : FarR w w.heap.size (w.heap.size + 1) (w.heap.size + 2) (w.heap.size + 3) (w.heap.size + 4) := ⟨by omega, by omega, by omega, by omega, by omega, by omega, by omega, by omega, by omega, by omega, by omega, by omega, by omega⟩
  generalize (((w.alloc (.cells (List.toArray [.int .i64 p, .int .i64 c, .int .i64 n, .int .i64 b, .int .i64 r, .int .i64 f, .int .i64 g]) 23)).alloc (.cells (List.toArray [.int .i64 ma, .int .i64 mt, .int .i64 md, .int .i64 ms, .int .i64 mp, .int .i64 mw]) 26)).alloc (.cells #[.int .u64 seed] 71)).alloc (.cells (madeCells #[Value.int .i64 0] np) 3) = W4 at *
  obtain ⟨C, M, S, I, K, hE⟩ : ∃ C M S I K : Nat, C = w.heap.size ∧ M = w.heap.size + 1 ∧ S = w.heap.size + 1 + 1 ∧ I = w.heap.size + 1 + 1 + 1 ∧ K = w.heap.size + 4 := ⟨_, _, _, _, _, rfl, rfl, rfl, rfl, rfl⟩
  obtain ⟨e0, e1, e2, e3, e4⟩ := hE
  have hd : FarR w C M S I K := by rw [e0, e1, e2, e3, e4]; exact hd
  have hM : RS w W4 C M S I K np p c n b r f g ma mt md ms mp mw seed (fun _ => 0) (.slice none 0 0) [] := by rw [e0, e1, e2, e3, e4]; exact HM.out
  rw [← e3, ← e2, ← e1, ← e0]
  have HE := Lib.hid e0
  clear e0 e1 e2 e3 e4 HM hmk hnp
  have hM := hM.below hd (Below.drew (Below.refl _ _))
  have hS := And.intro (hM.bm.cell 0 _ rfl) (And.intro (hM.bm.cell 1 _ rfl) (hM.bm.cell 2 _ rfl))
  have W1 : IntKind.i64.wrap (ma + 1) = ma + 1 := IntWalk.i64_in _ (by omega)
  have W2 : IntKind.i64.wrap (mt + 1) = mt + 1 := IntWalk.i64_in _ (by omega)
  have W3 : IntKind.i64.wrap (md + 1) = md + 1 := IntWalk.i64_in _ (by omega)
  go_cut [13, 14, 15] (fun a t d wx => a = .int .i64 (mx0 ma) ∧ t = .int .i64 (mx0 mt) ∧ d = .int .i64 (mx0 md) ∧ Hid (RS w wx C M S I K np p c n b r f g ma mt md ms mp mw seed (fun _ => 0) (.slice none 0 0) []))
  case first =>
    go_region_held3 (fun w' => w'.cell? ⟨M, 0, none⟩ = some (.int .i64 ma) ∧ w'.cell? ⟨M, 1, none⟩ = some (.int .i64 mt) ∧ w'.cell? ⟨M, 2, none⟩ = some (.int .i64 md)) (first | with_reducible exact hS | fail) (first | (go_at_call 19; (with_reducible refine (HH1.out _).mono ?_); rintro e w1 ⟨rfl, hb1⟩; have hM := hM.below hd hb1; have hS := (And.intro (hM.bm.cell 0 _ rfl) (And.intro (hM.bm.cell 1 _ rfl) (hM.bm.cell 2 _ rfl))); clear hb1) | (go_at_call 19; (with_reducible refine (HH2.out _).mono ?_); rintro e w1 ⟨rfl, hb1⟩; have hM := hM.below hd hb1; have hS := (And.intro (hM.bm.cell 0 _ rfl) (And.intro (hM.bm.cell 1 _ rfl) (hM.bm.cell 2 _ rfl))); clear hb1) | (go_at_call 19; (with_reducible refine (HH3.out _).mono ?_); rintro e w1 ⟨rfl, hb1⟩; have hM := hM.below hd hb1; have hS := (And.intro (hM.bm.cell 0 _ rfl) (And.intro (hM.bm.cell 1 _ rfl) (hM.bm.cell 2 _ rfl))); clear hb1) | fail)
    all_goals ((apply meet_of); (focus (assumption)); (go_meet; exact ⟨rfl, rfl, rfl, hM⟩))
  case rest =>
    obtain ⟨rfl, rfl, rfl, HM⟩ := hcut
    clear hS hM W1 W2 W3 HH1 HH2 HH3
    obtain ⟨xa, hxa⟩ : ∃ xa, xa = mx0 ma := ⟨_, rfl⟩
    obtain ⟨xt, hxt⟩ : ∃ xt, xt = mx0 mt := ⟨_, rfl⟩
    obtain ⟨xd, hxd⟩ : ∃ xd, xd = mx0 md := ⟨_, rfl⟩
    rw [← hxa] at m1a m1b ⊢
    rw [← hxt] at m2a m2b ⊢
    rw [← hxd] at m3a m3b ⊢
    have HX := Lib.hid (And.intro hxa (And.intro hxt hxd))
    clear hxa hxt hxd
    have h9 : xa + xt + xd + 4 ≤ 9223372036854775807 := by omega
    have hp9 : p ≤ 9223372036854775807 := by omega
    obtain ⟨hpc0, hpc1⟩ := hpc
    have q0 : (0 : Int) ≤ (mst : Int) := by omega
    go_wp2_with fail
    refine (HH4.out _).mono ?_
    rintro e w1 ⟨rfl, hb1⟩
    have hM := HM.out.below hd hb1
    have c0 := hM.bc.cell 0 _ rfl
    have c1 := hM.bc.cell 1 _ rfl
    have HM1 := Lib.hid hM
    clear hM hb1 HM
    go_wp2_with fail
    go_loopw [11, 12] (fun now out wr => ∃ (k : Nat) (N nw : Int) (ids : Nat → Nat) (L : List (List Int)), now = .int .i64 nw ∧ Hid (itS p c n b ma mt md ms mp mw seed k = ((N, nw, ids), L)) ∧ Hid (RS w wr C M S I K np p c n b r f g ma mt md ms mp mw N ids out L)) (fun _ out _ => mst - lenV out)
    case atStart => exact ⟨0, seed, 0, fun _ => 0, [], rfl, Lib.hid rfl, HM1⟩
    case round =>
      clear HM1 c0 c1
      obtain ⟨k, N, nw, ids, L, rfl, HIT, HM⟩ := hrel
      obtain ⟨Av, cv, rfl⟩ := own_shape HM.out.row
      have hbd := itS_bd p c n b ma mt md ms mp mw seed k
      rw [HIT.out] at hbd
      obtain ⟨⟨n0, n1⟩, hids⟩ := hbd
      have n0 : 0 ≤ nw := n0
      have n1 : nw ≤ 1000000 := n1
      have HIDS := Lib.hid (show ∀ j, ids j ≤ L.length from hids)
      clear hids
      by_cases hlm : L.length < mst
      · have hl : (L.length : Int) < (mst : Int) := by omega
        have hM := HM.out
        have c0 := hM.bc.cell 0 _ rfl
        have w0 := bl_lo (nx N) p
        have w1 := bl_hi (nx N) p hp.1
        go_wp2_with fail
        refine (HBL.out S N p _ hp9 hM.sc hM.sf).mono ?_
        rintro e w1 ⟨rfl, hs1⟩
        have hM := hM.src hd hs1
        clear hs1 c0 HM
        go_wp2_with fail
        refine (HBL.out S (nx N) (xa + xt + xd + 4) _ h9 hM.sc hM.sf).mono ?_
        rintro e w2 ⟨rfl, hs2⟩
        have hM := hM.src hd hs2
        clear hs2
        have HK : Hid (bl (nx (nx N)) (xa + xt + xd + 4) = bl (nx (nx N)) (mx0 ma + mx0 mt + mx0 md + 4)) := by rw [HX.out.1, HX.out.2.1, HX.out.2.2]; exact Lib.hid rfl
        generalize bl (nx (nx N)) (xa + xt + xd + 4) = kk at *
        generalize hww : bl (nx N) p = who at *
        have HWW := Lib.hid hww
        clear hww
        have N1 := Lib.hid (show L.length + 1 ≤ maxLen from by unfold maxLen; omega)
        have N2 := Lib.hid (show (L.length + 1) * 96 ≤ 140737488355328 from by omega)
        by_cases k1 : kk < xa
        · obtain ⟨u, rfl⟩ : ∃ u : Nat, who = (u : Int) := ⟨who.toNat, by omega⟩
          have hnp' := HNP.out
          have hu1 : u < np := by omega
          have u0 : (0 : Int) ≤ (u : Int) := by omega
          have u1 : (u : Int) < (np : Int) := by omega
          clear hnp'
          have hiu := HIDS.out u
          obtain ⟨y0, y1, y2⟩ := hM.ids.cell u hu1
          have hMb := hM.bump (x := ids u + 1) hd hu1
          have eU : ((ids u + 1 : Nat) : Int) = (ids u : Int) + 1 := by omega
          rw [eU] at hMb
          have i0' : (0 : Int) ≤ (ids u : Int) := by omega
          have i1' : (ids u : Int) ≤ 70000 := by omega
          go_wp2_with fail
          clear y0 y1 y2
          generalize w2.setCell ⟨I, u, none⟩ (.int .i64 ((ids u : Int) + 1)) = W2 at *
          rcases hA : askV c n mp mw ((ids u + 1 : Nat) : Int) nw (nx (nx N)) with ⟨⟨a1, a2, a3, a4, a5, a6, a7, a8, a9⟩, NA⟩
          have HASK := Lib.hid (fun W (hc1 : W.cell? ⟨S, 0, none⟩ = some (.int .u64 (nx (nx N)))) (hf : W.frozen? ⟨S, 0, none⟩ = false) => show Calls Try.prog 21 #[.agg #[.int .i64 p, .int .i64 c, .int .i64 n, .int .i64 b, .int .i64 r, .int .i64 f, .int .i64 g], .pointer (some ⟨S, 0, none⟩), .agg #[.int .i64 ma, .int .i64 mt, .int .i64 md, .int .i64 ms, .int .i64 mp, .int .i64 mw], .int .i64 ((ids u : Int) + 1), .int .i64 nw] W (fun e w' => e = .returned (.agg #[.int .i64 a1, .int .i64 a2, .int .i64 a3, .int .i64 a4, .int .i64 a5, .int .i64 a6, .int .i64 a7, .int .i64 a8, .int .i64 a9]) ∧ Src W w' S NA) from by
            have h2 := ref_is S (nx (nx N)) p c n b r f g ma mt md ms mp mw ((ids u + 1 : Nat) : Int) nw W hc1 hf hc hn hm5 hm6 ⟨by omega, by omega⟩ ⟨n0, n1⟩
            rw [hA] at h2
            rw [← eU]
            exact h2)
          have HA := Lib.hid hA
          clear hA
          have iu : ∀ {W : World} {N' : Int} {v' : Value} {L' : List (List Int)} (h : RS w W C M S I K np p c n b r f g ma mt md ms mp mw N' (fun i => if i = u then ids u + 1 else ids i) v' L'), W.cell? ⟨I, u, none⟩ = some (.int .i64 ((ids u : Int) + 1)) := fun h => by
            have h2 := (h.ids.cell u hu1).1
            rw [if_pos rfl, eU] at h2
            exact h2
          have hM := hMb.below hd (Below.drew (Below.refl _ _))
          have hS := And.intro (hM.bc.cell 0 _ rfl) (And.intro (hM.bc.cell 1 _ rfl) (And.intro (hM.bc.cell 2 _ rfl) (And.intro (hM.bc.cell 3 _ rfl) (And.intro (hM.bc.cell 4 _ rfl) (And.intro (hM.bc.cell 5 _ rfl) (And.intro (hM.bc.cell 6 _ rfl) (And.intro (hM.bm.cell 0 _ rfl) (And.intro (hM.bm.cell 1 _ rfl) (And.intro (hM.bm.cell 2 _ rfl) (And.intro (hM.bm.cell 3 _ rfl) (And.intro (hM.bm.cell 4 _ rfl) (And.intro (hM.bm.cell 5 _ rfl) (iu hM)))))))))))))
          have NV := Lib.hid (show ∀ zz ∈ [Value.int .i64 1, .int .i64 (u : Int), .int .i64 0, .int .i64 a1, .int .i64 a2, .int .i64 a3, .int .i64 a4, .int .i64 a5, .int .i64 a6, .int .i64 a7, .int .i64 a8, .int .i64 a9], zz.oneCell' = true from ints_one [1, (u : Int), 0, a1, a2, a3, a4, a5, a6, a7, a8, a9])
          clear hMb eU
          go_cut [12] (fun out wx => ∃ A' c', out = .slice A' (L.length + 1) c' ∧ Hid (RS w wx C M S I K np p c n b r f g ma mt md ms mp mw NA (fun i => if i = u then ids u + 1 else ids i) (.slice A' (L.length + 1) c') (L ++ [[1, (u : Int), 0, a1, a2, a3, a4, a5, a6, a7, a8, a9]])))
          case first =>
            go_region_held3 (fun w' => w'.cell? ⟨C, 0, none⟩ = some (.int .i64 p) ∧ w'.cell? ⟨C, 1, none⟩ = some (.int .i64 c) ∧ w'.cell? ⟨C, 2, none⟩ = some (.int .i64 n) ∧ w'.cell? ⟨C, 3, none⟩ = some (.int .i64 b) ∧ w'.cell? ⟨C, 4, none⟩ = some (.int .i64 r) ∧ w'.cell? ⟨C, 5, none⟩ = some (.int .i64 f) ∧ w'.cell? ⟨C, 6, none⟩ = some (.int .i64 g) ∧ w'.cell? ⟨M, 0, none⟩ = some (.int .i64 ma) ∧ w'.cell? ⟨M, 1, none⟩ = some (.int .i64 mt) ∧ w'.cell? ⟨M, 2, none⟩ = some (.int .i64 md) ∧ w'.cell? ⟨M, 3, none⟩ = some (.int .i64 ms) ∧ w'.cell? ⟨M, 4, none⟩ = some (.int .i64 mp) ∧ w'.cell? ⟨M, 5, none⟩ = some (.int .i64 mw) ∧ w'.cell? ⟨I, u, none⟩ = some (.int .i64 ((ids u : Int) + 1))) (first | with_reducible exact hS | with_reducible exact hSa | with_reducible exact hSp | fail) (first | (go_at_call 21; (with_reducible refine (HASK.out _ hM.sc hM.sf).mono ?_); rintro e w4 ⟨rfl, hs⟩; have hM := hM.src hd hs; have hS := And.intro (hM.bc.cell 0 _ rfl) (And.intro (hM.bc.cell 1 _ rfl) (And.intro (hM.bc.cell 2 _ rfl) (And.intro (hM.bc.cell 3 _ rfl) (And.intro (hM.bc.cell 4 _ rfl) (And.intro (hM.bc.cell 5 _ rfl) (And.intro (hM.bc.cell 6 _ rfl) (And.intro (hM.bm.cell 0 _ rfl) (And.intro (hM.bm.cell 1 _ rfl) (And.intro (hM.bm.cell 2 _ rfl) (And.intro (hM.bm.cell 3 _ rfl) (And.intro (hM.bm.cell 4 _ rfl) (And.intro (hM.bm.cell 5 _ rfl) (iu hM))))))))))))); have hMa := hM.below hd ((Below.refl _ _).alloc (Nat.le_refl _) (Obj.cells #[.int .i64 1, .int .i64 (u : Int), .int .i64 0, .int .i64 a1, .int .i64 a2, .int .i64 a3, .int .i64 a4, .int .i64 a5, .int .i64 a6, .int .i64 a7, .int .i64 a8, .int .i64 a9] 67)); have hSa := And.intro (hMa.bc.cell 0 _ rfl) (And.intro (hMa.bc.cell 1 _ rfl) (And.intro (hMa.bc.cell 2 _ rfl) (And.intro (hMa.bc.cell 3 _ rfl) (And.intro (hMa.bc.cell 4 _ rfl) (And.intro (hMa.bc.cell 5 _ rfl) (And.intro (hMa.bc.cell 6 _ rfl) (And.intro (hMa.bm.cell 0 _ rfl) (And.intro (hMa.bm.cell 1 _ rfl) (And.intro (hMa.bm.cell 2 _ rfl) (And.intro (hMa.bm.cell 3 _ rfl) (And.intro (hMa.bm.cell 4 _ rfl) (And.intro (hMa.bm.cell 5 _ rfl) (iu hMa))))))))))))); have HR := Lib.hid (reads_newN w4 1 12 [.int .i64 1, .int .i64 (u : Int), .int .i64 0, .int .i64 a1, .int .i64 a2, .int .i64 a3, .int .i64 a4, .int .i64 a5, .int .i64 a6, .int .i64 a7, .int .i64 a8, .int .i64 a9] 67 rfl); clear hs) | (refine step_append_any _ (by rfl) (.tmp 78) (.tmp 90) 40 (by rfl) K 67 i0 (Value.agg #[.int .i64 0, .int .i64 0, .int .i64 0, .int .i64 0, .int .i64 0, .int .i64 0, .int .i64 0, .int .i64 0, .int .i64 0, .int .i64 0, .int .i64 0, .int .i64 0]) 12 96 Try.underlying40 HI.out HZ0.out HZ1.out HZ2.out rfl (by decide) _ L.length (lv L) (by rfl) hMa.row _ (some ⟨w4.heap.size, 0, none⟩) 1 1 _ (by rfl) HR.out NV.out N1.out N2.out hMa.hK ?_; intro v6 w6 hown6 hgrow6 hblk6; obtain ⟨A6, c6, rfl⟩ := own_shape hown6; have hP := hM.push (x := [1, (u : Int), 0, a1, a2, a3, a4, a5, a6, a7, a8, a9]) hd hown6 hgrow6; have hSp := And.intro (hP.bc.cell 0 _ rfl) (And.intro (hP.bc.cell 1 _ rfl) (And.intro (hP.bc.cell 2 _ rfl) (And.intro (hP.bc.cell 3 _ rfl) (And.intro (hP.bc.cell 4 _ rfl) (And.intro (hP.bc.cell 5 _ rfl) (And.intro (hP.bc.cell 6 _ rfl) (And.intro (hP.bm.cell 0 _ rfl) (And.intro (hP.bm.cell 1 _ rfl) (And.intro (hP.bm.cell 2 _ rfl) (And.intro (hP.bm.cell 3 _ rfl) (And.intro (hP.bm.cell 4 _ rfl) (And.intro (hP.bm.cell 5 _ rfl) (iu hP)))))))))))))) | fail)
            all_goals ((apply meet_of); (focus (assumption)); (go_meet; exact ⟨_, _, rfl, hP⟩))
          case rest =>
            obtain ⟨A', c', rfl, HP⟩ := hcut
            clear hM hS iu
            go_wp2_with fail
            go_roundw
            case rel =>
              refine ⟨k + 1, NA, nw, fun i => if i = u then ids u + 1 else ids i, L ++ [[1, (u : Int), 0, a1, a2, a3, a4, a5, a6, a7, a8, a9]], rfl, ?_, HP⟩
              have h := itS_succ HIT.out
              rw [step_1 (by rw [← HK.out, ← HX.out.1]; exact k1) HWW.out HA.out] at h
              exact h
            case measure => simp [lenV]; omega
        · by_cases k2 : kk < xa + xt
          · have y0 := bl_lo (nx (nx (nx N))) 3
            have y1 := bl_hi (nx (nx (nx N))) 3 (by omega)
            have d1 : decide (kk < xa) = false := decide_eq_false k1
            go_wp2_with fail
            refine (HBL.out S (nx (nx N)) 3 _ (by omega) hM.sc hM.sf).mono ?_
            rintro e w3 ⟨rfl, hs3⟩
            have hM := hM.src hd hs3
            clear hs3
            generalize hyy : bl (nx (nx (nx N))) 3 = y at *
            have HYY := Lib.hid hyy
            clear hyy
            generalize hnn : nx (nx (nx N)) = N3 at *
            have HNN := Lib.hid hnn
            clear hnn
            have HK1 := Lib.hid k1
            clear k1
            go_wp2_with fail
            refine (HH5.out (nw + (1 + y)) _ (by omega)).mono ?_
            rintro e w4 ⟨rfl, hb4⟩
            have HM4 := Lib.hid (hM.below hd hb4)
            clear hM hb4
            have HR := Lib.hid (reads_newN w4 1 12 [.int .i64 2, .int .i64 0, .int .i64 (1 + y), .int .i64 0, .int .i64 0, .int .i64 0, .int .i64 0, .int .i64 0, .int .i64 0, .int .i64 0, .int .i64 0, .int .i64 0] 67 rfl)
            have HO1 := Lib.hid (World.ownsRow.alloc HM4.out.row (Obj.cells #[.int .i64 2, .int .i64 0, .int .i64 (1 + y), .int .i64 0, .int .i64 0, .int .i64 0, .int .i64 0, .int .i64 0, .int .i64 0, .int .i64 0, .int .i64 0, .int .i64 0] 67))
            have N3' := Lib.hid (show K ≤ (w4.alloc (Obj.cells #[.int .i64 2, .int .i64 0, .int .i64 (1 + y), .int .i64 0, .int .i64 0, .int .i64 0, .int .i64 0, .int .i64 0, .int .i64 0, .int .i64 0, .int .i64 0, .int .i64 0] 67)).heap.size from by rw [World.size_alloc]; have := HM4.out.hK; omega)
            have NV := Lib.hid (show ∀ zz ∈ [Value.int .i64 2, .int .i64 0, .int .i64 (1 + y), .int .i64 0, .int .i64 0, .int .i64 0, .int .i64 0, .int .i64 0, .int .i64 0, .int .i64 0, .int .i64 0, .int .i64 0], zz.oneCell' = true from ints_one [2, 0, (1 + y), 0, 0, 0, 0, 0, 0, 0, 0, 0])
            go_wp2_with (at_builtin; refine wpList_append_any _ rfl (.tmp 104) (.tmp 107) 40 rfl K 67 i0 (Value.agg #[.int .i64 0, .int .i64 0, .int .i64 0, .int .i64 0, .int .i64 0, .int .i64 0, .int .i64 0, .int .i64 0, .int .i64 0, .int .i64 0, .int .i64 0, .int .i64 0]) 12 96 Try.underlying40 HI.out HZ0.out HZ1.out HZ2.out rfl (by decide) _ L.length (lv L) rfl HO1.out _ (some ⟨w4.heap.size, 0, none⟩) 1 1 _ rfl HR.out NV.out N1.out N2.out N3'.out ?_; intro v6 w6 hown6 hgrow6 hblk6; obtain ⟨A6, c6, rfl⟩ := own_shape hown6; have HP := Lib.hid (And.intro hown6 hgrow6); clear hown6 hgrow6 hblk6)
            go_roundw
            case rel =>
              refine ⟨k + 1, N3, hold2 (nw + (1 + y)), ids, L ++ [[2, 0, (1 + y), 0, 0, 0, 0, 0, 0, 0, 0, 0]], rfl, ?_, HM4.out.push hd HP.out.1 HP.out.2⟩
              have h := itS_succ HIT.out
              rw [step_2 (by rw [← HK.out, ← HX.out.1]; first | exact HK1.out | exact Int.not_lt.2 (HK1.out)) (by rw [← HK.out, ← HX.out.1, ← HX.out.2.1]; exact k2), HNN.out, HYY.out] at h
              exact h
            case measure => simp [lenV]; omega
          · by_cases k3 : kk < xa + xt + xd
            · have d1 : decide (kk < xa) = false := decide_eq_false k1
              have d2 : decide (kk < xa + xt) = false := decide_eq_false k2
              have HK1 := Lib.hid (And.intro k1 k2)
              clear k1 k2
              go_wp2_with fail
              refine (HBL.out S (nx (nx N)) (p * c) _ (by omega) hM.sc hM.sf).mono ?_
              rintro e w3 ⟨rfl, hs3⟩
              have HM4 := Lib.hid (hM.src hd hs3)
              clear hs3 hM
              generalize hyy : bl (nx (nx (nx N))) (p * c) = y at *
              have HYY := Lib.hid hyy
              clear hyy
              have HR := Lib.hid (reads_newN w3 1 12 [.int .i64 4, .int .i64 who, .int .i64 y, .int .i64 0, .int .i64 0, .int .i64 0, .int .i64 0, .int .i64 0, .int .i64 0, .int .i64 0, .int .i64 0, .int .i64 0] 67 rfl)
              have HO1 := Lib.hid (World.ownsRow.alloc HM4.out.row (Obj.cells #[.int .i64 4, .int .i64 who, .int .i64 y, .int .i64 0, .int .i64 0, .int .i64 0, .int .i64 0, .int .i64 0, .int .i64 0, .int .i64 0, .int .i64 0, .int .i64 0] 67))
              have N3' := Lib.hid (show K ≤ (w3.alloc (Obj.cells #[.int .i64 4, .int .i64 who, .int .i64 y, .int .i64 0, .int .i64 0, .int .i64 0, .int .i64 0, .int .i64 0, .int .i64 0, .int .i64 0, .int .i64 0, .int .i64 0] 67)).heap.size from by rw [World.size_alloc]; have := HM4.out.hK; omega)
              have NV := Lib.hid (show ∀ zz ∈ [Value.int .i64 4, .int .i64 who, .int .i64 y, .int .i64 0, .int .i64 0, .int .i64 0, .int .i64 0, .int .i64 0, .int .i64 0, .int .i64 0, .int .i64 0, .int .i64 0], zz.oneCell' = true from ints_one [4, who, y, 0, 0, 0, 0, 0, 0, 0, 0, 0])
              go_wp2_with (at_builtin; refine wpList_append_any _ rfl (.tmp 116) (.tmp 122) 40 rfl K 67 i0 (Value.agg #[.int .i64 0, .int .i64 0, .int .i64 0, .int .i64 0, .int .i64 0, .int .i64 0, .int .i64 0, .int .i64 0, .int .i64 0, .int .i64 0, .int .i64 0, .int .i64 0]) 12 96 Try.underlying40 HI.out HZ0.out HZ1.out HZ2.out rfl (by decide) _ L.length (lv L) rfl HO1.out _ (some ⟨w3.heap.size, 0, none⟩) 1 1 _ rfl HR.out NV.out N1.out N2.out N3'.out ?_; intro v6 w6 hown6 hgrow6 hblk6; obtain ⟨A6, c6, rfl⟩ := own_shape hown6; have HP := Lib.hid (And.intro hown6 hgrow6); clear hown6 hgrow6 hblk6)
              go_roundw
              case rel =>
                refine ⟨k + 1, nx (nx (nx N)), nw, ids, L ++ [[4, who, y, 0, 0, 0, 0, 0, 0, 0, 0, 0]], rfl, ?_, HM4.out.push hd HP.out.1 HP.out.2⟩
                have h := itS_succ HIT.out
                rw [step_3 (by rw [← HK.out, ← HX.out.1]; first | exact HK1.out.1 | exact Int.not_lt.2 (HK1.out.1)) (by rw [← HK.out, ← HX.out.1, ← HX.out.2.1]; first | exact HK1.out.2 | exact Int.not_lt.2 (HK1.out.2)) (by rw [← HK.out, ← HX.out.1, ← HX.out.2.1, ← HX.out.2.2]; exact k3), HWW.out, HYY.out] at h
                exact h
              case measure => simp [lenV]; omega
            · have d1 : decide (kk < xa) = false := decide_eq_false k1
              have d2 : decide (kk < xa + xt) = false := decide_eq_false k2
              have d3 : decide (kk < xa + xt + xd) = false := decide_eq_false k3
              have HK1 := Lib.hid (And.intro k1 (And.intro k2 k3))
              clear k1 k2 k3
              have c0 := hM.bc.cell 0 _ rfl
              have c2 := hM.bc.cell 2 _ rfl
              have c3 := hM.bc.cell 3 _ rfl
              have eM : 2 * n * b = 2 * (n * b) := Int.mul_assoc 2 n b
              have eM0 : 0 ≤ 2 * n * b := by rw [eM]; omega
              have eM1 : 2 * n * b ≤ 24 := by rw [eM]; omega
              have HEM := Lib.hid eM
              clear eM
              go_wp2_with fail
              refine (HBL.out S (nx (nx N)) (p + 2 * n * b) _ (by omega) hM.sc hM.sf).mono ?_
              rintro e w3 ⟨rfl, hs3⟩
              have hM := hM.src hd hs3
              clear hs3 c0 c2 c3
              rw [HEM.out]
              generalize hyy : bl (nx (nx (nx N))) (p + 2 * (n * b)) = y at *
              have HYY := Lib.hid hyy
              clear hyy
              go_wp2_with fail
              refine (HBL.out S (nx (nx (nx N))) 3 _ (by omega) hM.sc hM.sf).mono ?_
              rintro e w4 ⟨rfl, hs4⟩
              have hM := hM.src hd hs4
              clear hs4
              have z0 := bl_lo (nx (nx (nx (nx (nx N))))) ms
              have z1 : bl (nx (nx (nx (nx (nx N))))) ms ≤ 10000 := by
                by_cases hz : 1 ≤ ms
                · have := bl_hi (nx (nx (nx (nx (nx N))))) ms hz; omega
                · have : bl (nx (nx (nx (nx (nx N))))) ms = 0 := by unfold bl; rw [if_pos (by omega)]
                  omega
              have y0 := bl_lo (nx (nx (nx (nx N)))) 3
              have y1 := bl_hi (nx (nx (nx (nx N)))) 3 (by omega)
              have c3 := hM.bm.cell 3 _ rfl
              obtain ⟨ag, hag⟩ : ∃ ag, ag = agt (bl (nx (nx (nx (nx N)))) 3) who y := ⟨_, rfl⟩
              generalize hdd : bl (nx (nx (nx (nx N)))) 3 = dd at *
              by_cases hd2 : dd = 2
              · have e7 : ag = y := by rw [hag, hd2]; rfl
                have HAG := Lib.hid hag.symm
                have HDD := Lib.hid hdd
                have e8 : (dd == 2) = true := by rw [hd2]; rfl
                clear hag hdd hd2
                subst e7
                have hms := hm4
                go_wp2_with fail
                refine (HBL.out S (nx (nx (nx (nx N)))) ms _ (by omega) hM.sc hM.sf).mono ?_
                rintro e w6 ⟨rfl, hs6⟩
                have HM6 := Lib.hid (hM.src hd hs6)
                clear hs6 hM c3
                generalize htt : bl (nx (nx (nx (nx (nx N))))) ms = T at *
                have HTT := Lib.hid htt
                clear htt
                generalize hnn : nx (nx (nx (nx (nx N)))) = N5 at *
                have HNN := Lib.hid hnn
                clear hnn
                go_wp2_with fail
                go_loopw [12, 21] (fun out i wx => ∃ q : Nat, (q : Int) ≤ 1 + T ∧ i = .int .i64 (1 + T - (q : Int)) ∧ Hid (RS w wx C M S I K np p c n b r f g ma mt md ms mp mw N5 ids out (L ++ List.replicate q [3, ag, 0, 0, 0, 0, 0, 0, 0, 0, 0, 0]))) (fun _ i _ => (intOf i).toNat)
                case atStart => exact ⟨0, by omega, by simp, by rw [List.replicate_zero, List.append_nil]; exact HM6⟩
                case round =>
                  clear HM6
                  obtain ⟨q, hq, rfl, HM7⟩ := hrel
                  by_cases hqT : (q : Int) < 1 + T
                  · obtain ⟨A7, c7, rfl⟩ := own_shape HM7.out.row
                    have hLq : (L ++ List.replicate q [3, ag, 0, 0, 0, 0, 0, 0, 0, 0, 0, 0]).length ≤ 80000 := by rw [List.length_append, List.length_replicate]; omega
                    have HSN := Lib.hid (rep_snoc [3, ag, 0, 0, 0, 0, 0, 0, 0, 0, 0, 0] q L)
                    generalize L ++ List.replicate q [3, ag, 0, 0, 0, 0, 0, 0, 0, 0, 0, 0] = LL at *
                    have N1 := Lib.hid (show LL.length + 1 ≤ maxLen from by unfold maxLen; omega)
                    have N2 := Lib.hid (show (LL.length + 1) * 96 ≤ 140737488355328 from by omega)
                    have e1 : (0 : Int) < 1 + T - (q : Int) := by omega
                    have q0' : (0 : Int) ≤ (q : Int) := by omega
                    have HR := Lib.hid (reads_newN wr 1 12 [.int .i64 3, .int .i64 ag, .int .i64 0, .int .i64 0, .int .i64 0, .int .i64 0, .int .i64 0, .int .i64 0, .int .i64 0, .int .i64 0, .int .i64 0, .int .i64 0] 67 rfl)
                    have HO1 := Lib.hid (World.ownsRow.alloc HM7.out.row (Obj.cells #[.int .i64 3, .int .i64 ag, .int .i64 0, .int .i64 0, .int .i64 0, .int .i64 0, .int .i64 0, .int .i64 0, .int .i64 0, .int .i64 0, .int .i64 0, .int .i64 0] 67))
                    have N3' := Lib.hid (show K ≤ (wr.alloc (Obj.cells #[.int .i64 3, .int .i64 ag, .int .i64 0, .int .i64 0, .int .i64 0, .int .i64 0, .int .i64 0, .int .i64 0, .int .i64 0, .int .i64 0, .int .i64 0, .int .i64 0] 67)).heap.size from by rw [World.size_alloc]; have := HM7.out.hK; omega)
                    have NV := Lib.hid (show ∀ zz ∈ [Value.int .i64 3, .int .i64 ag, .int .i64 0, .int .i64 0, .int .i64 0, .int .i64 0, .int .i64 0, .int .i64 0, .int .i64 0, .int .i64 0, .int .i64 0, .int .i64 0], zz.oneCell' = true from ints_one [3, ag, 0, 0, 0, 0, 0, 0, 0, 0, 0, 0])
                    go_wp2_with (at_builtin; refine wpList_append_any _ rfl (.tmp 148) (.tmp 151) 40 rfl K 67 i0 (Value.agg #[.int .i64 0, .int .i64 0, .int .i64 0, .int .i64 0, .int .i64 0, .int .i64 0, .int .i64 0, .int .i64 0, .int .i64 0, .int .i64 0, .int .i64 0, .int .i64 0]) 12 96 Try.underlying40 HI.out HZ0.out HZ1.out HZ2.out rfl (by decide) _ LL.length (lv LL) rfl HO1.out _ (some ⟨wr.heap.size, 0, none⟩) 1 1 _ rfl HR.out NV.out N1.out N2.out N3'.out ?_; intro v6 w6 hown6 hgrow6 hblk6; obtain ⟨A6, c6, rfl⟩ := own_shape hown6; have HP := Lib.hid (And.intro hown6 hgrow6); clear hown6 hgrow6 hblk6)
                    go_roundw
                    case rel => exact ⟨q + 1, by omega, by go_num, by rw [← HSN.out]; exact HM7.out.push hd HP.out.1 HP.out.2⟩
                    case measure => simp [intOf]; omega
                  · have hqe : 1 + T = (q : Int) := by omega
                    have e1 : decide ((0 : Int) < 1 + T - (q : Int)) = false := decide_eq_false (by omega)
                    have HQ := Lib.hid hqe
                    clear hqe
                    obtain ⟨A7, c7, rfl⟩ := own_shape HM7.out.row
                    go_wp2_with fail
                    go_roundw
                    case rel =>
                      refine ⟨k + 1, N5, nw, ids, L ++ List.replicate q [3, ag, 0, 0, 0, 0, 0, 0, 0, 0, 0, 0], rfl, ?_, HM7⟩
                      have h := itS_succ HIT.out
                      rw [step_4 (by rw [← HK.out, ← HX.out.1]; first | exact HK1.out.1 | exact Int.not_lt.2 (HK1.out.1)) (by rw [← HK.out, ← HX.out.1, ← HX.out.2.1]; first | exact HK1.out.2.1 | exact Int.not_lt.2 (HK1.out.2.1)) (by rw [← HK.out, ← HX.out.1, ← HX.out.2.1, ← HX.out.2.2]; first | exact HK1.out.2.2 | exact Int.not_lt.2 (HK1.out.2.2)), HNN.out, HTT.out, HQ.out, HWW.out, HYY.out, HDD.out, HAG.out, Int.toNat_natCast] at h
                      exact h
                    case measure =>
                      have hq1 := HQ.out
                      simp [lenV]
                      omega

              · have e7 : ag = who := by rw [hag]; unfold agt; rw [if_pos (by omega)]
                have HAG := Lib.hid hag.symm
                have HDD := Lib.hid hdd
                have e8 : (dd == 2) = false := by simpa using hd2
                clear hag hdd hd2
                subst e7
                have hms := hm4
                go_wp2_with fail
                refine (HBL.out S (nx (nx (nx (nx N)))) ms _ (by omega) hM.sc hM.sf).mono ?_
                rintro e w6 ⟨rfl, hs6⟩
                have HM6 := Lib.hid (hM.src hd hs6)
                clear hs6 hM c3
                generalize htt : bl (nx (nx (nx (nx (nx N))))) ms = T at *
                have HTT := Lib.hid htt
                clear htt
                generalize hnn : nx (nx (nx (nx (nx N)))) = N5 at *
                have HNN := Lib.hid hnn
                clear hnn
                go_wp2_with fail
                go_loopw [12, 21] (fun out i wx => ∃ q : Nat, (q : Int) ≤ 1 + T ∧ i = .int .i64 (1 + T - (q : Int)) ∧ Hid (RS w wx C M S I K np p c n b r f g ma mt md ms mp mw N5 ids out (L ++ List.replicate q [3, ag, 0, 0, 0, 0, 0, 0, 0, 0, 0, 0]))) (fun _ i _ => (intOf i).toNat)
                case atStart => exact ⟨0, by omega, by simp, by rw [List.replicate_zero, List.append_nil]; exact HM6⟩
                case round =>
                  clear HM6
                  obtain ⟨q, hq, rfl, HM7⟩ := hrel
                  by_cases hqT : (q : Int) < 1 + T
                  · obtain ⟨A7, c7, rfl⟩ := own_shape HM7.out.row
                    have hLq : (L ++ List.replicate q [3, ag, 0, 0, 0, 0, 0, 0, 0, 0, 0, 0]).length ≤ 80000 := by rw [List.length_append, List.length_replicate]; omega
                    have HSN := Lib.hid (rep_snoc [3, ag, 0, 0, 0, 0, 0, 0, 0, 0, 0, 0] q L)
                    generalize L ++ List.replicate q [3, ag, 0, 0, 0, 0, 0, 0, 0, 0, 0, 0] = LL at *
                    have N1 := Lib.hid (show LL.length + 1 ≤ maxLen from by unfold maxLen; omega)
                    have N2 := Lib.hid (show (LL.length + 1) * 96 ≤ 140737488355328 from by omega)
                    have e1 : (0 : Int) < 1 + T - (q : Int) := by omega
                    have q0' : (0 : Int) ≤ (q : Int) := by omega
                    have HR := Lib.hid (reads_newN wr 1 12 [.int .i64 3, .int .i64 ag, .int .i64 0, .int .i64 0, .int .i64 0, .int .i64 0, .int .i64 0, .int .i64 0, .int .i64 0, .int .i64 0, .int .i64 0, .int .i64 0] 67 rfl)
                    have HO1 := Lib.hid (World.ownsRow.alloc HM7.out.row (Obj.cells #[.int .i64 3, .int .i64 ag, .int .i64 0, .int .i64 0, .int .i64 0, .int .i64 0, .int .i64 0, .int .i64 0, .int .i64 0, .int .i64 0, .int .i64 0, .int .i64 0] 67))
                    have N3' := Lib.hid (show K ≤ (wr.alloc (Obj.cells #[.int .i64 3, .int .i64 ag, .int .i64 0, .int .i64 0, .int .i64 0, .int .i64 0, .int .i64 0, .int .i64 0, .int .i64 0, .int .i64 0, .int .i64 0, .int .i64 0] 67)).heap.size from by rw [World.size_alloc]; have := HM7.out.hK; omega)
                    have NV := Lib.hid (show ∀ zz ∈ [Value.int .i64 3, .int .i64 ag, .int .i64 0, .int .i64 0, .int .i64 0, .int .i64 0, .int .i64 0, .int .i64 0, .int .i64 0, .int .i64 0, .int .i64 0, .int .i64 0], zz.oneCell' = true from ints_one [3, ag, 0, 0, 0, 0, 0, 0, 0, 0, 0, 0])
                    go_wp2_with (at_builtin; refine wpList_append_any _ rfl (.tmp 148) (.tmp 151) 40 rfl K 67 i0 (Value.agg #[.int .i64 0, .int .i64 0, .int .i64 0, .int .i64 0, .int .i64 0, .int .i64 0, .int .i64 0, .int .i64 0, .int .i64 0, .int .i64 0, .int .i64 0, .int .i64 0]) 12 96 Try.underlying40 HI.out HZ0.out HZ1.out HZ2.out rfl (by decide) _ LL.length (lv LL) rfl HO1.out _ (some ⟨wr.heap.size, 0, none⟩) 1 1 _ rfl HR.out NV.out N1.out N2.out N3'.out ?_; intro v6 w6 hown6 hgrow6 hblk6; obtain ⟨A6, c6, rfl⟩ := own_shape hown6; have HP := Lib.hid (And.intro hown6 hgrow6); clear hown6 hgrow6 hblk6)
                    go_roundw
                    case rel => exact ⟨q + 1, by omega, by go_num, by rw [← HSN.out]; exact HM7.out.push hd HP.out.1 HP.out.2⟩
                    case measure => simp [intOf]; omega
                  · have hqe : 1 + T = (q : Int) := by omega
                    have e1 : decide ((0 : Int) < 1 + T - (q : Int)) = false := decide_eq_false (by omega)
                    have HQ := Lib.hid hqe
                    clear hqe
                    obtain ⟨A7, c7, rfl⟩ := own_shape HM7.out.row
                    go_wp2_with fail
                    go_roundw
                    case rel =>
                      refine ⟨k + 1, N5, nw, ids, L ++ List.replicate q [3, ag, 0, 0, 0, 0, 0, 0, 0, 0, 0, 0], rfl, ?_, HM7⟩
                      have h := itS_succ HIT.out
                      rw [step_4 (by rw [← HK.out, ← HX.out.1]; first | exact HK1.out.1 | exact Int.not_lt.2 (HK1.out.1)) (by rw [← HK.out, ← HX.out.1, ← HX.out.2.1]; first | exact HK1.out.2.1 | exact Int.not_lt.2 (HK1.out.2.1)) (by rw [← HK.out, ← HX.out.1, ← HX.out.2.1, ← HX.out.2.2]; first | exact HK1.out.2.2 | exact Int.not_lt.2 (HK1.out.2.2)), HNN.out, HTT.out, HQ.out, HWW.out, HYY.out, HDD.out, HAG.out, Int.toNat_natCast] at h
                      exact h
                    case measure =>
                      have hq1 := HQ.out
                      simp [lenV]
                      omega
      · have hl : decide ((L.length : Int) < (mst : Int)) = false := decide_eq_false (by omega)
        have hcv : (mst : Int) ≤ (cv : Int) := by have := own_cap HM.out.row; omega
        have HL := Lib.hid hlm
        clear hlm
        go_wp2_with fail
        go_ret
        refine ⟨Av, cv, by rw [HMST.out]; first | rfl | simp, ?_, by rw [← HE.out]; first | exact HM.out.bel | (rw [HE.out]; exact HM.out.bel)⟩
        have h1 := own_take (k := mst) HM.out.row (by have := HL.out; omega)
        have h2 := itS_12 p c n b ma mt md ms mp mw seed k
        have h3 := scr_of p c n b ma mt md ms mp mw seed mst k
        rw [HIT.out] at h2 h3
        rw [lv_take L mst h2, h3 (by have := HL.out; show mst ≤ L.length; omega)] at h1
        rw [HMST.out]
        exact own_base h1 (by have := hd.wC; have := hd.kC; omega)
end Go.Proofs.Ytgakgnofflnjoaa
