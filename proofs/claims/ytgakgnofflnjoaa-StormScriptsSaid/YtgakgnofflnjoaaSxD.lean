/-
  A storm's writer draws: draws.
-/
import Derived.Test.YtgakgnofflnjoaaRows
import Derived.Test.YtgakgnofflnjoaaKit
import Derived.Test.YtgakgnofflnjoaaApp
import Derived.Test.YtgakgnofflnjoaaQuiet
import Derived.Test.YtgakgnofflnjoaaSt
import Derived.Test.YtgakgnofflnjoaaStA
import Derived.Test.YtgakgnofflnjoaaStT
import Derived.Test.YtgakgnofflnjoaaStK
import Derived.Test.YtgakgnofflnjoaaStR
import Derived.Test.YtgakgnofflnjoaaStL
import Derived.Test.YtgakgnofflnjoaaStS
import Derived.Test.YtgakgnofflnjoaaStM
import Derived.Test.YtgakgnofflnjoaaStV
import Derived.Test.YtgakgnofflnjoaaStD
import Derived.Test.YtgakgnofflnjoaaSxP
import Derived.Test.YtgakgnofflnjoaaSxA
import Derived.Test.YtgakgnofflnjoaaSxB
import Derived.Test.YtgakgnofflnjoaaSxT
import Derived.WalkKit
import Derived.ProofKit
import Derived.OpenShut
import Derived.ShutString
import Derived.Below
import Derived.Outline
import Derived.WalkLawsBesides
import Derived.WalkSpells
import Derived.Handy
import Derived.Deep.QuietTactic
import Derived.BigQuiet
import Derived.RegionTactic
import Derived.ChangeAlike
import Derived.Lib.Hide
import Derived.Laws.Rows
import Derived.Laws.Tables
import Derived.Laws.CopyOwn
import Derived.Laws.MakeOwn
import Derived.Laws.Entries
import Derived.Laws.OwnMore
import Derived.Deep.WholeRow
import Derived.Deep.LoopGhost
import Derived.Deep.AppendLies
import Derived.Deep.Draws
import Derived.Maps.AppendAt
import Derived.OwnWalk
import Derived.Deep.RegionHeld3
import Derived.Deep.Cut
import Derived.Deep.CutRange
import Derived.Deep.DeepCutAuto
import Derived.Deep.CutBlock
import Derived.Lib.SliceRun
import Derived.IntWalk
namespace Go.Proofs.Ytgakgnofflnjoaa
open Go.ChangeShapes Go.WideShapes Go.ChangeAt Go.RowKit
def gv (B : Nat) (w : World) : Value := (w.cell? ⟨B, 17, none⟩).getD undef
theorem gv_is {B : Nat} {w : World} {u : Value} (h : w.cell? ⟨B, 17, none⟩ = some u) : gv B w = u := by unfold gv; rw [h]; rfl
theorem gv_at {B : Nat} {w : World} {u : Value} (h : w.cell? ⟨B, 17, none⟩ = some u) : w.cell? ⟨B, 17, none⟩ = some (gv B w) := by rw [gv_is h]; exact h
theorem sk18 {w wr w' : World} {B S I K np : Nat} {p c n b r f g ma mt md ms mp mw most N now : Int} {ids : Nat → Nat} {v : Value} {L : List (List Int)} (hd : Far w B S I K) (h : WS w wr B S I K np p c n b r f g ma mt md ms mp mw most N now ids v L) (hb : Below K wr w') : w'.cell? ⟨B, 0, none⟩ = some (.int .i64 p) ∧ w'.cell? ⟨B, 1, none⟩ = some (.int .i64 c) ∧ w'.cell? ⟨B, 2, none⟩ = some (.int .i64 n) ∧ w'.cell? ⟨B, 3, none⟩ = some (.int .i64 b) ∧ w'.cell? ⟨B, 4, none⟩ = some (.int .i64 r) ∧ w'.cell? ⟨B, 5, none⟩ = some (.int .i64 f) ∧ w'.cell? ⟨B, 6, none⟩ = some (.int .i64 g) ∧ w'.cell? ⟨B, 7, none⟩ = some (.pointer (some ⟨S, 0, none⟩)) ∧ w'.cell? ⟨B, 17, none⟩ = some (gv B w') := by
  have hc : ∀ j u, wr.cell? ⟨B, j, none⟩ = some u → w'.cell? ⟨B, j, none⟩ = some u := fun j u hu => (hb.cell (p := ⟨B, j, none⟩) hd.kB).trans hu
  exact ⟨hc 0 _ (h.blk.cell 0 _ rfl), hc 1 _ (h.blk.cell 1 _ rfl), hc 2 _ (h.blk.cell 2 _ rfl), hc 3 _ (h.blk.cell 3 _ rfl), hc 4 _ (h.blk.cell 4 _ rfl), hc 5 _ (h.blk.cell 5 _ rfl), hc 6 _ (h.blk.cell 6 _ rfl), hc 7 _ (h.blk.cell 7 _ rfl), gv_at (hc 17 _ (h.blk.cell 17 _ rfl))⟩
theorem all_i (p c n b r f g : Int) (w : World) (hp : 1 ≤ p ∧ p ≤ 6) (hc : 1 ≤ c ∧ c ≤ 4) : Calls Try.prog 26 #[.agg #[.int .i64 p, .int .i64 c, .int .i64 n, .int .i64 b, .int .i64 r, .int .i64 f, .int .i64 g]] w fun e w' => e = .returned (.int .i64 (p * c)) ∧ Below w.heap.size w w' := by
  obtain ⟨p1, p2⟩ := hp
  obtain ⟨c1, c2⟩ := hc
  have m0 : 1 ≤ p * c := by have := Int.mul_le_mul p1 c1 (by omega) (by omega); omega
  have m1 : p * c ≤ 24 := by have := Int.mul_le_mul p2 c2 (by omega) (by omega); omega
  go_enter Try.func26, Try.ntmps26
  go_wp2_with fail
  go_ret
  exact ⟨rfl, by go_grown⟩
set_option maxRecDepth 100000 in
set_option maxHeartbeats 8000000 in
theorem draw3 (w wr : World) (B S I K np : Nat) (p c n b r f g ma mt md ms mp mw : Int) (most N now : Int) (ids : Nat → Nat) (v : Value) (L : List (List Int)) (hd : Far w B S I K) (h : WS w wr B S I K np p c n b r f g ma mt md ms mp mw most N now ids v L) (hp : 1 ≤ p ∧ p ≤ 6) (hc : 1 ≤ c ∧ c ≤ 4) (hn : 1 ≤ n ∧ n ≤ 3) (hb : 1 ≤ b ∧ b ≤ 4) (hm1 : -10000 ≤ ma ∧ ma ≤ 10000) (hm2 : -10000 ≤ mt ∧ mt ≤ 10000) (hm3 : -10000 ≤ md ∧ md ≤ 10000) (hm4 : -10000 ≤ ms ∧ ms ≤ 10000) (hm5 : -10000 ≤ mp ∧ mp ≤ 10000) (hm6 : 0 ≤ mw ∧ mw ≤ 10000) (hL : L.length ≤ 70000)
    (hk : ¬ bl (nx (nx N)) (mx0 ma + mx0 mt + mx0 md + 4) < mx0 ma + mx0 mt ∧ bl (nx (nx N)) (mx0 ma + mx0 mt + mx0 md + 4) < mx0 ma + mx0 mt + mx0 md) : Calls Try.prog 17 #[.pointer (some ⟨B, 0, none⟩)] wr fun e w' => ∃ q v', e = .returned q ∧ WS w w' B S I K np p c n b r f g ma mt md ms mp mw most (nx (nx (nx N))) now ids v' (L ++ [[4, bl (nx N) p, bl (nx (nx (nx N))) (p * c), 0, 0, 0, 0, 0, 0, 0, 0, 0]]) := by
  have HAL := Lib.hid (fun W => all_i p c n b r f g W hp hc)
  have hpc : p * c ≤ 9223372036854775807 := by have := Int.mul_le_mul hp.2 hc.2 (by omega) (by omega); omega
  have c8 := h.blk.cell 8 _ rfl
  have c9 := h.blk.cell 9 _ rfl
  have c10 := h.blk.cell 10 _ rfl
  have hM := h.below hd (Below.drew (Below.refl _ _))
  have hS := (And.intro (hM.blk.cell 8 _ rfl) (And.intro (hM.blk.cell 9 _ rfl) (hM.blk.cell 10 _ rfl)))
  have HBL := Lib.hid (fun (M k : Int) (W : World) (hk1 : k ≤ 9223372036854775807) (hc : W.cell? ⟨S, 0, none⟩ = some (.int .u64 M)) (hf : W.frozen? ⟨S, 0, none⟩ = false) => below_src S M k W W hk1 (Src.refl hc hf))
  have HD := Lib.hid hd
  have hp9 : p ≤ 9223372036854775807 := by omega
  obtain ⟨m1a, m1b⟩ := mx0_bd ma hm1
  obtain ⟨m2a, m2b⟩ := mx0_bd mt hm2
  obtain ⟨m3a, m3b⟩ := mx0_bd md hm3
  obtain ⟨Av, cv, rfl⟩ := own_shape h.row
  obtain ⟨i0, hi, hz0, hz1, hz2⟩ := info_parts infoE
  have HI := Lib.hid hi
  have HZ0 := Lib.hid hz0
  have HZ1 := Lib.hid hz1
  have HZ2 := Lib.hid hz2
  clear hi hz0 hz1 hz2
  clear h hm1 hm2 hm3
  go_enter Try.func17, Try.ntmps17
  go_wp2_with fail
  go_cut [2, 3, 4] (fun a t d wx => a = .int .i64 (mx0 ma) ∧ t = .int .i64 (mx0 mt) ∧ d = .int .i64 (mx0 md) ∧ wx = wr.drew)
  case first =>
    go_region_held3 (fun w' => w'.cell? ⟨B, 8, none⟩ = some (.int .i64 ma) ∧ w'.cell? ⟨B, 9, none⟩ = some (.int .i64 mt) ∧ w'.cell? ⟨B, 10, none⟩ = some (.int .i64 md)) (first | with_reducible exact hS | fail) (first | fail)
    all_goals ((apply meet_of); (focus (assumption)); (go_meet; exact ⟨rfl, rfl, rfl, rfl⟩))
  case rest =>
    obtain ⟨rfl, rfl, rfl, rfl⟩ := hcut
    clear c8 c9 c10 hS
    have HM1 := Lib.hid (hM.below hd (Below.drew (Below.refl _ _)))
    clear hM
    generalize wr.drew = wr1 at *
    have hM := HM1.out
    clear HM1
    generalize mx0 ma = xa at *
    generalize mx0 mt = xt at *
    generalize mx0 md = xd at *
    have hS := (And.intro (hM.blk.cell 0 _ rfl) (hM.blk.cell 7 _ rfl))
    go_wp2_with fail
    go_region_held3 (fun w' => w'.cell? ⟨B, 0, none⟩ = some (.int .i64 p) ∧ w'.cell? ⟨B, 7, none⟩ = some (.pointer (some ⟨S, 0, none⟩))) (first | with_reducible exact hS | fail) (first | (go_at_call 22; (with_reducible refine (HBL.out N p _ hp9 hM.sc hM.sf).mono ?_); rintro e w1 ⟨rfl, hs⟩; have hM := hM.src hd hs; have hS := (And.intro (hM.blk.cell 0 _ rfl) (hM.blk.cell 7 _ rfl)); clear hs) | fail)
    have m7 := hM.blk.cell 7 _ rfl
    have h9 : xa + xt + xd + 4 ≤ 9223372036854775807 := by omega
    clear hS
    go_wp2_with fail
    refine (HBL.out (nx N) (xa + xt + xd + 4) _ h9 hM.sc hM.sf).mono ?_
    rintro e w2 ⟨rfl, hs2⟩
    have hM := hM.src hd hs2
    clear hs2 m7 h9
    obtain ⟨k1, k2⟩ := hk
    generalize bl (nx (nx N)) (xa + xt + xd + 4) = kk at *
    have d1 : decide (kk < xa) = false := decide_eq_false (by omega)
    have d2 : decide (kk < xa + xt) = false := decide_eq_false (by omega)
    have y0 := bl_lo (nx (nx (nx N))) (p * c)
    generalize hww : bl (nx N) p = who at *
    have HWW := Lib.hid hww
    clear hww
    generalize hyy : bl (nx (nx (nx N))) (p * c) = y at *
    have HYY := Lib.hid hyy
    clear hyy
    have hM := hM.below hd (Below.drew (Below.refl _ _))
    have N1 := Lib.hid (show L.length + 1 ≤ maxLen from by unfold maxLen; omega)
    have N2 := Lib.hid (show (L.length + 1) * 96 ≤ 140737488355328 from by omega)
    have NV := Lib.hid (show ∀ u ∈ [Value.int .i64 4, .int .i64 who, .int .i64 y, .int .i64 0, .int .i64 0, .int .i64 0, .int .i64 0, .int .i64 0, .int .i64 0, .int .i64 0, .int .i64 0, .int .i64 0], u.oneCell' = true from ints_one [4, who, y, 0, 0, 0, 0, 0, 0, 0, 0, 0])
    have HBY := Lib.hid (fun W (hc : W.cell? ⟨S, 0, none⟩ = some (.int .u64 (nx (nx N)))) (hf : W.frozen? ⟨S, 0, none⟩ = false) => show Calls Try.prog 22 #[.pointer (some ⟨S, 0, none⟩), .int .i64 (p * c)] W (fun e w' => e = .returned (.int .i64 y) ∧ Src W w' S (nx (nx (nx N)))) from by have h := HBL.out (nx (nx N)) (p * c) W hpc hc hf; rw [HYY.out] at h; exact h)
    clear k1
    go_wp2_with fail
    have m0 := hM.blk.cell 0 _ rfl
    have m1 := hM.blk.cell 1 _ rfl
    have m2 := hM.blk.cell 2 _ rfl
    have m3 := hM.blk.cell 3 _ rfl
    have m4 := hM.blk.cell 4 _ rfl
    have m5 := hM.blk.cell 5 _ rfl
    have m6 := hM.blk.cell 6 _ rfl
    have m7 := hM.blk.cell 7 _ rfl
    have m17 := hM.blk.cell 17 _ rfl
    go_region_law (first | (refine step_append_any _ (by rfl) (.tmp 196) (.tmp 209) 36 (by rfl) K 47 i0 (Value.agg #[.int .i64 0, .int .i64 0, .int .i64 0, .int .i64 0, .int .i64 0, .int .i64 0, .int .i64 0, .int .i64 0, .int .i64 0, .int .i64 0, .int .i64 0, .int .i64 0]) 12 96 Try.underlying36 HI.out HZ0.out HZ1.out HZ2.out rfl (by decide) (.slice Av L.length cv) L.length (lv L) (by rfl) hMa.row (w4.heap.size + 1) (some ⟨w4.heap.size, 0, none⟩) 1 1 [.int .i64 4, .int .i64 who, .int .i64 y, .int .i64 0, .int .i64 0, .int .i64 0, .int .i64 0, .int .i64 0, .int .i64 0, .int .i64 0, .int .i64 0, .int .i64 0] (by rfl) (reads_newN w4 1 12 [.int .i64 4, .int .i64 who, .int .i64 y, .int .i64 0, .int .i64 0, .int .i64 0, .int .i64 0, .int .i64 0, .int .i64 0, .int .i64 0, .int .i64 0, .int .i64 0] 47 rfl) NV.out N1.out N2.out hMa.hK ?_; intro v6 w6 hown6 hgrow6 hblk6; obtain ⟨A6, c6, rfl⟩ := own_shape hown6; have hb6 := hM.app_low hgrow6; have hP := hM.push (x := [4, who, y, 0, 0, 0, 0, 0, 0, 0, 0, 0]) hd hown6 hgrow6; have c17 := (hb6.cell (p := ⟨B, 17, none⟩) hd.kB).trans (hM.blk.cell 17 _ rfl); have g17 := (hb6.frozen (p := ⟨B, 17, none⟩) hd.kB).trans (hM.blk.frz 17)) | (go_simp; go_at_call 26; (with_reducible refine (HAL.out _).mono ?_); rintro e w3 ⟨rfl, hb3⟩; have hM := hM.below hd hb3; have m0 := hM.blk.cell 0 _ rfl; have m1 := hM.blk.cell 1 _ rfl; have m2 := hM.blk.cell 2 _ rfl; have m3 := hM.blk.cell 3 _ rfl; have m4 := hM.blk.cell 4 _ rfl; have m5 := hM.blk.cell 5 _ rfl; have m6 := hM.blk.cell 6 _ rfl; have m7 := hM.blk.cell 7 _ rfl; have m17 := hM.blk.cell 17 _ rfl; clear hb3) | (go_simp; go_at_call 22; (with_reducible refine (HBY.out _ hM.sc hM.sf).mono ?_); rintro e w4 ⟨rfl, hs⟩; have hM := hM.src hd hs; have m0 := hM.blk.cell 0 _ rfl; have m1 := hM.blk.cell 1 _ rfl; have m2 := hM.blk.cell 2 _ rfl; have m3 := hM.blk.cell 3 _ rfl; have m4 := hM.blk.cell 4 _ rfl; have m5 := hM.blk.cell 5 _ rfl; have m6 := hM.blk.cell 6 _ rfl; have m7 := hM.blk.cell 7 _ rfl; have m17 := hM.blk.cell 17 _ rfl; have hMa := hM.below hd ((Below.refl _ _).alloc (Nat.le_refl _) (Obj.cells #[.int .i64 4, .int .i64 who, .int .i64 y, .int .i64 0, .int .i64 0, .int .i64 0, .int .i64 0, .int .i64 0, .int .i64 0, .int .i64 0, .int .i64 0, .int .i64 0] 47)); have lB := hM.blk.lt; clear hs) | fail)
    all_goals (go_wp2_with fail; refine bodyPost_end (v := .tuple #[]) (by simp [results, Try.results17, go_sem]; try rfl) rfl ?_; obtain rfl := HYY.out; obtain rfl := HWW.out; exact ⟨_, _, rfl, hP⟩)
end Go.Proofs.Ytgakgnofflnjoaa
