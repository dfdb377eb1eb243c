/-
  A storm's writer draws: ticks.
-/
import Derived.Test.YtgakgnofflnjoaaRows
import Derived.Test.YtgakgnofflnjoaaKit
import Derived.Test.YtgakgnofflnjoaaApp
import Derived.Test.YtgakgnofflnjoaaQuiet
import Derived.Test.YtgakgnofflnjoaaSt
import Derived.Test.YtgakgnofflnjoaaStA
import Derived.Test.YtgakgnofflnjoaaStT
import Derived.Test.YtgakgnofflnjoaaStK
import Derived.Test.YtgakgnofflnjoaaStR
import Derived.Test.YtgakgnofflnjoaaStL
import Derived.Test.YtgakgnofflnjoaaStS
import Derived.Test.YtgakgnofflnjoaaStM
import Derived.Test.YtgakgnofflnjoaaStV
import Derived.Test.YtgakgnofflnjoaaStD
import Derived.Test.YtgakgnofflnjoaaSxP
import Derived.Test.YtgakgnofflnjoaaSxA
import Derived.Test.YtgakgnofflnjoaaSxB
import Derived.WalkKit
import Derived.ProofKit
import Derived.OpenShut
import Derived.ShutString
import Derived.Below
import Derived.Outline
import Derived.WalkLawsBesides
import Derived.WalkSpells
import Derived.Handy
import Derived.Deep.QuietTactic
import Derived.BigQuiet
import Derived.RegionTactic
import Derived.ChangeAlike
import Derived.Lib.Hide
import Derived.Laws.Rows
import Derived.Laws.Tables
import Derived.Laws.CopyOwn
import Derived.Laws.MakeOwn
import Derived.Laws.Entries
import Derived.Laws.OwnMore
import Derived.Deep.WholeRow
import Derived.Deep.LoopGhost
import Derived.Deep.AppendLies
import Derived.Deep.Draws
import Derived.Maps.AppendAt
import Derived.OwnWalk
import Derived.Deep.RegionHeld3
import Derived.Deep.Cut
import Derived.Deep.CutRange
import Derived.Deep.DeepCutAuto
import Derived.Deep.CutBlock
import Derived.Lib.SliceRun
import Derived.IntWalk
namespace Go.Proofs.Ytgakgnofflnjoaa
open Go.ChangeShapes Go.WideShapes Go.ChangeAt Go.RowKit
theorem meet_of {J K : Act → World → Prop} {Q : Exit → Act → World → Prop} {a : Act} {w : World} (hk : ∀ a w, Met J a w → K a w) (h : Met J a w) : Exit.then K Q .normal a w := hk a w h
def mx0 (m : Int) : Int := if (0 : Int) < m then m else 0
theorem ints_one (l : List Int) : ∀ u ∈ l.map (Value.int .i64), u.oneCell' = true := by
  intro u hu
  obtain ⟨x, _, rfl⟩ := List.mem_map.1 hu
  rfl
theorem mx0_bd (m : Int) (h : -10000 ≤ m ∧ m ≤ 10000) : 0 ≤ mx0 m ∧ mx0 m ≤ 10000 := by
  unfold mx0; split <;> omega
set_option maxRecDepth 100000 in
set_option maxHeartbeats 8000000 in
theorem draw2 (w wr : World) (B S I K np : Nat) (p c n b r f g ma mt md ms mp mw : Int) (most N now : Int) (ids : Nat → Nat) (v : Value) (L : List (List Int)) (hd : Far w B S I K) (h : WS w wr B S I K np p c n b r f g ma mt md ms mp mw most N now ids v L) (hp : 1 ≤ p ∧ p ≤ 6) (hc : 1 ≤ c ∧ c ≤ 4) (hn : 1 ≤ n ∧ n ≤ 3) (hb : 1 ≤ b ∧ b ≤ 4) (hm1 : -10000 ≤ ma ∧ ma ≤ 10000) (hm2 : -10000 ≤ mt ∧ mt ≤ 10000) (hm3 : -10000 ≤ md ∧ md ≤ 10000) (hm4 : -10000 ≤ ms ∧ ms ≤ 10000) (hm5 : -10000 ≤ mp ∧ mp ≤ 10000) (hm6 : 0 ≤ mw ∧ mw ≤ 10000) (hnow : 0 ≤ now ∧ now ≤ 1000000) (hL : L.length ≤ 70000)
    (hk : ¬ bl (nx (nx N)) (mx0 ma + mx0 mt + mx0 md + 4) < mx0 ma ∧ bl (nx (nx N)) (mx0 ma + mx0 mt + mx0 md + 4) < mx0 ma + mx0 mt) : Calls Try.prog 17 #[.pointer (some ⟨B, 0, none⟩)] wr fun e w' => ∃ q v', e = .returned q ∧ WS w w' B S I K np p c n b r f g ma mt md ms mp mw most (nx (nx (nx N))) (hold2 (now + (1 + bl (nx (nx (nx N))) 3))) ids v' (L ++ [[2, 0, 1 + bl (nx (nx (nx N))) 3, 0, 0, 0, 0, 0, 0, 0, 0, 0]]) := by
  have c8 := h.blk.cell 8 _ rfl
  have c9 := h.blk.cell 9 _ rfl
  have c10 := h.blk.cell 10 _ rfl
  have hM := h.below hd (Below.drew (Below.refl _ _))
  have hS := (And.intro (hM.blk.cell 8 _ rfl) (And.intro (hM.blk.cell 9 _ rfl) (hM.blk.cell 10 _ rfl)))
  have HBL := Lib.hid (fun (M k : Int) (W : World) (hk1 : k ≤ 9223372036854775807) (hc : W.cell? ⟨S, 0, none⟩ = some (.int .u64 M)) (hf : W.frozen? ⟨S, 0, none⟩ = false) => below_src S M k W W hk1 (Src.refl hc hf))
  have HD := Lib.hid hd
  have hp9 : p ≤ 9223372036854775807 := by omega
  obtain ⟨m1a, m1b⟩ := mx0_bd ma hm1
  obtain ⟨m2a, m2b⟩ := mx0_bd mt hm2
  obtain ⟨m3a, m3b⟩ := mx0_bd md hm3
  obtain ⟨Av, cv, rfl⟩ := own_shape h.row
  obtain ⟨i0, hi, hz0, hz1, hz2⟩ := info_parts infoE
  have HI := Lib.hid hi
  have HZ0 := Lib.hid hz0
  have HZ1 := Lib.hid hz1
  have HZ2 := Lib.hid hz2
  clear hi hz0 hz1 hz2
  clear h hm1 hm2 hm3
  go_enter Try.func17, Try.ntmps17
  go_wp2_with fail
  go_cut [2, 3, 4] (fun a t d wx => a = .int .i64 (mx0 ma) ∧ t = .int .i64 (mx0 mt) ∧ d = .int .i64 (mx0 md) ∧ wx = wr.drew)
  case first =>
    go_region_held3 (fun w' => w'.cell? ⟨B, 8, none⟩ = some (.int .i64 ma) ∧ w'.cell? ⟨B, 9, none⟩ = some (.int .i64 mt) ∧ w'.cell? ⟨B, 10, none⟩ = some (.int .i64 md)) (first | with_reducible exact hS | fail) (first | fail)
    all_goals ((apply meet_of); (focus (assumption)); (go_meet; exact ⟨rfl, rfl, rfl, rfl⟩))
  case rest =>
    obtain ⟨rfl, rfl, rfl, rfl⟩ := hcut
    clear c8 c9 c10 hS
    have HM1 := Lib.hid (hM.below hd (Below.drew (Below.refl _ _)))
    clear hM
    generalize wr.drew = wr1 at *
    have hM := HM1.out
    clear HM1
    generalize mx0 ma = xa at *
    generalize mx0 mt = xt at *
    generalize mx0 md = xd at *
    have hS := (And.intro (hM.blk.cell 0 _ rfl) (hM.blk.cell 7 _ rfl))
    go_wp2_with fail
    go_region_held3 (fun w' => w'.cell? ⟨B, 0, none⟩ = some (.int .i64 p) ∧ w'.cell? ⟨B, 7, none⟩ = some (.pointer (some ⟨S, 0, none⟩))) (first | with_reducible exact hS | fail) (first | (go_at_call 22; (with_reducible refine (HBL.out N p _ hp9 hM.sc hM.sf).mono ?_); rintro e w1 ⟨rfl, hs⟩; have hM := hM.src hd hs; have hS := (And.intro (hM.blk.cell 0 _ rfl) (hM.blk.cell 7 _ rfl)); clear hs) | fail)
    have m7 := hM.blk.cell 7 _ rfl
    have h9 : xa + xt + xd + 4 ≤ 9223372036854775807 := by omega
    clear hS
    go_wp2_with fail
    refine (HBL.out (nx N) (xa + xt + xd + 4) _ h9 hM.sc hM.sf).mono ?_
    rintro e w2 ⟨rfl, hs2⟩
    have hM := hM.src hd hs2
    clear hs2 m7 h9
    obtain ⟨k1, k2⟩ := hk
    generalize bl (nx (nx N)) (xa + xt + xd + 4) = kk at *
    have d1 : decide (kk < xa) = false := decide_eq_false (by omega)
    have m7 := hM.blk.cell 7 _ rfl
    have y0 := bl_lo (nx (nx (nx N))) 3
    have y1 := bl_hi (nx (nx (nx N))) 3 (by omega)
    obtain ⟨now0, now1⟩ := hnow
    clear k1
    go_wp2_with fail
    refine (HBL.out (nx (nx N)) 3 _ (by omega) hM.sc hM.sf).mono ?_
    rintro e w3 ⟨rfl, hs3⟩
    have hM3 := hM.src hd hs3
    clear m7 hs3 hM
    generalize hyy : bl (nx (nx (nx N))) 3 = y at *
    have HYY := Lib.hid hyy
    clear hyy
    generalize hnn : nx (nx (nx N)) = N3 at *
    have HNN := Lib.hid hnn
    clear hnn
    go_wp2_with fail
    have hM3a := hM3.below hd ((Below.refl _ _).alloc (Nat.le_refl _) (.cells #[.int .i64 (1 + y)] 3))
    refine (go_is B 15 w3.heap.size now (1 + y) _ _ hM3a.blk rfl ⟨now0, now1⟩ (by omega) (by simp [go_sem])).mono ?_
    rintro e w4 ⟨r4, rfl, hb4, ho4⟩
    have hM4 := hM3a.clk hd hb4 ho4
    have m17 := hM4.blk.cell 17 _ rfl
    have f17 := hM4.blk.frz 17
    have HM4 := Lib.hid hM4
    have HR := Lib.hid (reads_newN w4 1 12 [.int .i64 2, .int .i64 0, .int .i64 (1 + y), .int .i64 0, .int .i64 0, .int .i64 0, .int .i64 0, .int .i64 0, .int .i64 0, .int .i64 0, .int .i64 0, .int .i64 0] 47 rfl)
    have HO1 := Lib.hid (World.ownsRow.alloc hM4.row (Obj.cells #[.int .i64 2, .int .i64 0, .int .i64 (1 + y), .int .i64 0, .int .i64 0, .int .i64 0, .int .i64 0, .int .i64 0, .int .i64 0, .int .i64 0, .int .i64 0, .int .i64 0] 47))
    have N1 := Lib.hid (show L.length + 1 ≤ maxLen from by unfold maxLen; omega)
    have N2 := Lib.hid (show (L.length + 1) * 96 ≤ 140737488355328 from by omega)
    have N3' := Lib.hid (show K ≤ (w4.alloc (Obj.cells #[.int .i64 2, .int .i64 0, .int .i64 (1 + y), .int .i64 0, .int .i64 0, .int .i64 0, .int .i64 0, .int .i64 0, .int .i64 0, .int .i64 0, .int .i64 0, .int .i64 0] 47)).heap.size from by rw [World.size_alloc]; have := hM4.hK; omega)
    have NV := Lib.hid (show ∀ u ∈ [Value.int .i64 2, .int .i64 0, .int .i64 (1 + y), .int .i64 0, .int .i64 0, .int .i64 0, .int .i64 0, .int .i64 0, .int .i64 0, .int .i64 0, .int .i64 0, .int .i64 0], u.oneCell' = true from ints_one [2, 0, 1 + y, 0, 0, 0, 0, 0, 0, 0, 0, 0])
    clear hM3 hM3a hM4 hb4 ho4
    go_wp2_with (at_builtin; refine wpList_append_any _ rfl (.tmp 177) (.tmp 180) 36 rfl K 47 i0 (Value.agg #[.int .i64 0, .int .i64 0, .int .i64 0, .int .i64 0, .int .i64 0, .int .i64 0, .int .i64 0, .int .i64 0, .int .i64 0, .int .i64 0, .int .i64 0, .int .i64 0]) 12 96 Try.underlying36 HI.out HZ0.out HZ1.out HZ2.out rfl (by decide) _ L.length (lv L) rfl HO1.out _ (some ⟨w4.heap.size, 0, none⟩) 1 1 _ rfl HR.out NV.out N1.out N2.out N3'.out ?_; intro v6 w6 hown6 hgrow6 hblk6; obtain ⟨A6, c6, rfl⟩ := own_shape hown6; have HP := Lib.hid (And.intro hown6 hgrow6); have c17 := ((HM4.out.app_low hgrow6).cell (p := ⟨B, 17, none⟩) HD.out.kB).trans m17; have g17 := ((HM4.out.app_low hgrow6).frozen (p := ⟨B, 17, none⟩) HD.out.kB).trans f17; clear hown6 hgrow6 hblk6)
    refine bodyPost_end (v := .tuple #[]) (by simp [results, Try.results17, go_sem]; try rfl) rfl ?_
    obtain rfl := HNN.out
    obtain rfl := HYY.out
    exact ⟨_, _, rfl, HM4.out.push HD.out HP.out.1 HP.out.2⟩
end Go.Proofs.Ytgakgnofflnjoaa
