/-
  A storm's writer draws: picks.
-/
import Derived.Test.YtgakgnofflnjoaaRows
import Derived.Test.YtgakgnofflnjoaaKit
import Derived.Test.YtgakgnofflnjoaaApp
import Derived.Test.YtgakgnofflnjoaaQuiet
import Derived.Test.YtgakgnofflnjoaaSt
import Derived.Test.YtgakgnofflnjoaaStA
import Derived.Test.YtgakgnofflnjoaaStT
import Derived.Test.YtgakgnofflnjoaaStK
import Derived.Test.YtgakgnofflnjoaaStR
import Derived.Test.YtgakgnofflnjoaaStL
import Derived.Test.YtgakgnofflnjoaaStS
import Derived.Test.YtgakgnofflnjoaaStM
import Derived.Test.YtgakgnofflnjoaaStV
import Derived.Test.YtgakgnofflnjoaaStD
import Derived.Test.YtgakgnofflnjoaaSxP
import Derived.Test.YtgakgnofflnjoaaSxA
import Derived.Test.YtgakgnofflnjoaaSxB
import Derived.Test.YtgakgnofflnjoaaSxT
import Derived.WalkKit
import Derived.ProofKit
import Derived.OpenShut
import Derived.ShutString
import Derived.Below
import Derived.Outline
import Derived.WalkLawsBesides
import Derived.WalkSpells
import Derived.Handy
import Derived.Deep.QuietTactic
import Derived.BigQuiet
import Derived.RegionTactic
import Derived.ChangeAlike
import Derived.Lib.Hide
import Derived.Laws.Rows
import Derived.Laws.Tables
import Derived.Laws.CopyOwn
import Derived.Laws.MakeOwn
import Derived.Laws.Entries
import Derived.Laws.OwnMore
import Derived.Deep.WholeRow
import Derived.Deep.LoopGhost
import Derived.Deep.AppendLies
import Derived.Deep.Draws
import Derived.Maps.AppendAt
import Derived.OwnWalk
import Derived.Deep.RegionHeld3
import Derived.Deep.Cut
import Derived.Deep.CutRange
import Derived.Deep.DeepCutAuto
import Derived.Deep.CutBlock
import Derived.Lib.SliceRun
import Derived.IntWalk
namespace Go.Proofs.Ytgakgnofflnjoaa
open Go.ChangeShapes Go.WideShapes Go.ChangeAt Go.RowKit
def agt (d x y : Int) : Int := if d < 2 then x else y
set_option maxHeartbeats 1000000 in
theorem pick_w (b g : Nat) (N x y : Int) (w : World) (hne : g ≠ b) (c0 : w.cell? ⟨g, 0, none⟩ = some (.int .i64 x)) (c1 : w.cell? ⟨g, 1, none⟩ = some (.int .i64 x)) (c2 : w.cell? ⟨g, 2, none⟩ = some (.int .i64 y)) (hc : w.cell? ⟨b, 0, none⟩ = some (.int .u64 N)) (hf : w.frozen? ⟨b, 0, none⟩ = false) : Calls Try.prog 28 #[.pointer (some ⟨b, 0, none⟩), .slice (some ⟨g, 0, none⟩) 3 3] w fun e w' => e = .returned (.int .i64 (agt (bl (nx N) 3) x y)) ∧ Src w w' b (nx N) := by
  have h0 := bl_lo (nx N) 3
  have h1 := bl_hi (nx N) 3 (by omega)
  have hv : w.cell? ⟨g, 0 + (bl (nx N) ((3 : Nat) : Int)).toNat, none⟩ = some (.int .i64 (agt (bl (nx N) 3) x y)) := by
    unfold agt
    show w.cell? ⟨g, 0 + (bl (nx N) 3).toNat, none⟩ = _
    rw [Nat.zero_add]
    by_cases e0 : bl (nx N) 3 = 0
    · rw [e0]; exact c0
    · by_cases e1 : bl (nx N) 3 = 1
      · rw [e1]; exact c1
      · have e2 : bl (nx N) 3 = 2 := by omega
        rw [e2]; exact c2
  exact (pick42 b N g 0 3 3 _ w (by omega) (by omega) hne hv hc hf).mono fun e w' hD => ⟨hD.1, (Src.refl hc hf).drew1 hD⟩
theorem rep_snoc {α : Type} (x : α) (q : Nat) (L : List α) : L ++ List.replicate q x ++ [x] = L ++ List.replicate (q + 1) x := by
  rw [List.append_assoc, List.replicate_succ']
def tms (N ms most : Int) (l : Nat) : Int := if most - (l : Int) < 1 + bl (nx N) ms then most - (l : Int) else 1 + bl (nx N) ms
set_option maxRecDepth 100000 in
set_option maxHeartbeats 8000000 in
theorem draw4 (w wr : World) (B S I K np : Nat) (p c n b r f g ma mt md ms mp mw : Int) (most N now : Int) (ids : Nat → Nat) (v : Value) (L : List (List Int)) (hd : Far w B S I K) (h : WS w wr B S I K np p c n b r f g ma mt md ms mp mw most N now ids v L) (hp : 1 ≤ p ∧ p ≤ 6) (hc : 1 ≤ c ∧ c ≤ 4) (hn : 1 ≤ n ∧ n ≤ 3) (hb : 1 ≤ b ∧ b ≤ 4) (hm1 : -10000 ≤ ma ∧ ma ≤ 10000) (hm2 : -10000 ≤ mt ∧ mt ≤ 10000) (hm3 : -10000 ≤ md ∧ md ≤ 10000) (hm4 : -10000 ≤ ms ∧ ms ≤ 10000) (hm5 : -10000 ≤ mp ∧ mp ≤ 10000) (hm6 : 0 ≤ mw ∧ mw ≤ 10000) (hL : L.length ≤ 70000) (hlm : (L.length : Int) < most) (hmost : most ≤ 65536)
    (hk : ¬ bl (nx (nx N)) (mx0 ma + mx0 mt + mx0 md + 4) < mx0 ma + mx0 mt + mx0 md) : Calls Try.prog 17 #[.pointer (some ⟨B, 0, none⟩)] wr fun e w' => ∃ q v', e = .returned q ∧ WS w w' B S I K np p c n b r f g ma mt md ms mp mw most (nx (nx (nx (nx (nx N))))) now ids v' (L ++ List.replicate (tms (nx (nx (nx (nx N)))) ms most L.length).toNat [3, (agt (bl (nx (nx (nx (nx N)))) 3) (bl (nx N) p) (bl (nx (nx (nx N))) (p + 2 * (n * b)))), 0, 0, 0, 0, 0, 0, 0, 0, 0, 0]) := by
  have hnb := mul12 hn hb
  have HAG := Lib.hid (fun W => agents_i p c n b r f g W hnb hp)
  have hpc : p + 2 * (n * b) ≤ 9223372036854775807 := by omega
  have hms : ms ≤ 9223372036854775807 := by omega
  have c8 := h.blk.cell 8 _ rfl
  have c9 := h.blk.cell 9 _ rfl
  have c10 := h.blk.cell 10 _ rfl
  have hM := h.below hd (Below.drew (Below.refl _ _))
  have hS := (And.intro (hM.blk.cell 8 _ rfl) (And.intro (hM.blk.cell 9 _ rfl) (hM.blk.cell 10 _ rfl)))
  have HBL := Lib.hid (fun (M k : Int) (W : World) (hk1 : k ≤ 9223372036854775807) (hc : W.cell? ⟨S, 0, none⟩ = some (.int .u64 M)) (hf : W.frozen? ⟨S, 0, none⟩ = false) => below_src S M k W W hk1 (Src.refl hc hf))
  have HD := Lib.hid hd
  have hp9 : p ≤ 9223372036854775807 := by omega
  obtain ⟨m1a, m1b⟩ := mx0_bd ma hm1
  obtain ⟨m2a, m2b⟩ := mx0_bd mt hm2
  obtain ⟨m3a, m3b⟩ := mx0_bd md hm3
  obtain ⟨Av, cv, rfl⟩ := own_shape h.row
  obtain ⟨i0, hi, hz0, hz1, hz2⟩ := info_parts infoE
  have HI := Lib.hid hi
  have HZ0 := Lib.hid hz0
  have HZ1 := Lib.hid hz1
  have HZ2 := Lib.hid hz2
  clear hi hz0 hz1 hz2
  clear h hm1 hm2 hm3
  go_enter Try.func17, Try.ntmps17
  go_wp2_with fail
  go_cut [2, 3, 4] (fun a t d wx => a = .int .i64 (mx0 ma) ∧ t = .int .i64 (mx0 mt) ∧ d = .int .i64 (mx0 md) ∧ wx = wr.drew)
  case first =>
    go_region_held3 (fun w' => w'.cell? ⟨B, 8, none⟩ = some (.int .i64 ma) ∧ w'.cell? ⟨B, 9, none⟩ = some (.int .i64 mt) ∧ w'.cell? ⟨B, 10, none⟩ = some (.int .i64 md)) (first | with_reducible exact hS | fail) (first | fail)
    all_goals ((apply meet_of); (focus (assumption)); (go_meet; exact ⟨rfl, rfl, rfl, rfl⟩))
  case rest =>
    obtain ⟨rfl, rfl, rfl, rfl⟩ := hcut
    clear c8 c9 c10 hS
    have HM1 := Lib.hid (hM.below hd (Below.drew (Below.refl _ _)))
    clear hM
    generalize wr.drew = wr1 at *
    have hM := HM1.out
    clear HM1
    generalize mx0 ma = xa at *
    generalize mx0 mt = xt at *
    generalize mx0 md = xd at *
    have hS := (And.intro (hM.blk.cell 0 _ rfl) (hM.blk.cell 7 _ rfl))
    go_wp2_with fail
    go_region_held3 (fun w' => w'.cell? ⟨B, 0, none⟩ = some (.int .i64 p) ∧ w'.cell? ⟨B, 7, none⟩ = some (.pointer (some ⟨S, 0, none⟩))) (first | with_reducible exact hS | fail) (first | (go_at_call 22; (with_reducible refine (HBL.out N p _ hp9 hM.sc hM.sf).mono ?_); rintro e w1 ⟨rfl, hs⟩; have hM := hM.src hd hs; have hS := (And.intro (hM.blk.cell 0 _ rfl) (hM.blk.cell 7 _ rfl)); clear hs) | fail)
    have m7 := hM.blk.cell 7 _ rfl
    have h9 : xa + xt + xd + 4 ≤ 9223372036854775807 := by omega
    clear hS
    go_wp2_with fail
    refine (HBL.out (nx N) (xa + xt + xd + 4) _ h9 hM.sc hM.sf).mono ?_
    rintro e w2 ⟨rfl, hs2⟩
    have hM := hM.src hd hs2
    clear hs2 m7 h9
    generalize bl (nx (nx N)) (xa + xt + xd + 4) = kk at *
    have d1 : decide (kk < xa) = false := decide_eq_false (by omega)
    have d2 : decide (kk < xa + xt) = false := decide_eq_false (by omega)
    have d3 : decide (kk < xa + xt + xd) = false := decide_eq_false (by omega)
    generalize hww : bl (nx N) p = who at *
    have HWW := Lib.hid hww
    clear hww
    generalize hoo : bl (nx (nx (nx N))) (p + 2 * (n * b)) = oth at *
    have HOO := Lib.hid hoo
    clear hoo
    have hM := hM.below hd (Below.drew (Below.refl _ _))
    have hS := (And.intro (hM.blk.cell 0 _ rfl) (And.intro (hM.blk.cell 1 _ rfl) (And.intro (hM.blk.cell 2 _ rfl) (And.intro (hM.blk.cell 3 _ rfl) (And.intro (hM.blk.cell 4 _ rfl) (And.intro (hM.blk.cell 5 _ rfl) (And.intro (hM.blk.cell 6 _ rfl) (hM.blk.cell 7 _ rfl))))))))
    have HBY := Lib.hid (fun W (hc : W.cell? ⟨S, 0, none⟩ = some (.int .u64 (nx (nx N)))) (hf : W.frozen? ⟨S, 0, none⟩ = false) => show Calls Try.prog 22 #[.pointer (some ⟨S, 0, none⟩), .int .i64 (p + 2 * (n * b))] W (fun e w' => e = .returned (.int .i64 oth) ∧ Src W w' S (nx (nx (nx N)))) from by have h := HBL.out (nx (nx N)) (p + 2 * (n * b)) W hpc hc hf; rw [HOO.out] at h; exact h)
    clear hk
    go_wp2_with fail
    go_region_held3 (fun w' => w'.cell? ⟨B, 0, none⟩ = some (.int .i64 p) ∧ w'.cell? ⟨B, 1, none⟩ = some (.int .i64 c) ∧ w'.cell? ⟨B, 2, none⟩ = some (.int .i64 n) ∧ w'.cell? ⟨B, 3, none⟩ = some (.int .i64 b) ∧ w'.cell? ⟨B, 4, none⟩ = some (.int .i64 r) ∧ w'.cell? ⟨B, 5, none⟩ = some (.int .i64 f) ∧ w'.cell? ⟨B, 6, none⟩ = some (.int .i64 g) ∧ w'.cell? ⟨B, 7, none⟩ = some (.pointer (some ⟨S, 0, none⟩))) (first | with_reducible exact hS | fail) (first | (go_at_call 27; (with_reducible refine (HAG.out _).mono ?_); rintro e w3 ⟨rfl, hb3⟩; have hM := hM.below hd hb3; have hS := (And.intro (hM.blk.cell 0 _ rfl) (And.intro (hM.blk.cell 1 _ rfl) (And.intro (hM.blk.cell 2 _ rfl) (And.intro (hM.blk.cell 3 _ rfl) (And.intro (hM.blk.cell 4 _ rfl) (And.intro (hM.blk.cell 5 _ rfl) (And.intro (hM.blk.cell 6 _ rfl) (hM.blk.cell 7 _ rfl)))))))); clear hb3) | (go_at_call 22; (with_reducible refine (HBY.out _ hM.sc hM.sf).mono ?_); rintro e w4 ⟨rfl, hs⟩; have hM := hM.src hd hs; have hS := (And.intro (hM.blk.cell 0 _ rfl) (And.intro (hM.blk.cell 1 _ rfl) (And.intro (hM.blk.cell 2 _ rfl) (And.intro (hM.blk.cell 3 _ rfl) (And.intro (hM.blk.cell 4 _ rfl) (And.intro (hM.blk.cell 5 _ rfl) (And.intro (hM.blk.cell 6 _ rfl) (hM.blk.cell 7 _ rfl)))))))); clear hs) | fail)
    have m7 := hM.blk.cell 7 _ rfl
    clear hS
    go_wp2_with fail
    have hMa := hM.below hd ((Below.refl _ _).alloc (Nat.le_refl _) (.cells #[.int .i64 who, .int .i64 who, .int .i64 oth] 3))
    refine (pick_w S w4.heap.size (nx (nx (nx N))) who oth _ (by have := hd.kS; have := hM.hK; omega) (by simp [go_sem]) (by simp [go_sem]) (by simp [go_sem]) hMa.sc hMa.sf).mono ?_
    rintro e w5 ⟨rfl, hs5⟩
    have hM5 := hMa.src hd hs5
    clear hM hMa hs5 m7
    generalize hag : agt (bl (nx (nx (nx (nx N)))) 3) who oth = agent at *
    have HAGT := Lib.hid hag
    clear hag
    have hM := hM5.below hd (Below.drew (Below.refl _ _))
    have hS := (And.intro (hM.blk.cell 7 _ rfl) (And.intro (hM.blk.cell 11 _ rfl) (And.intro (hM.blk.cell 16 _ rfl) (hM.blk.cell 17 _ rfl))))
    have z0 := bl_lo (nx (nx (nx (nx (nx N))))) ms
    have z1 : bl (nx (nx (nx (nx (nx N))))) ms ≤ 10000 := by
      by_cases hz : 1 ≤ ms
      · have := bl_hi (nx (nx (nx (nx (nx N))))) ms hz; omega
      · have : bl (nx (nx (nx (nx (nx N))))) ms = 0 := by unfold bl; rw [if_pos (by omega)]
        omega
    have l0 : (0 : Int) ≤ (L.length : Int) := by omega
    go_wp2_with fail
    go_cut [91, 92] (fun T i wx => T = .int .i64 (tms (nx (nx (nx (nx N)))) ms most L.length) ∧ i = .int .i64 0 ∧ Hid (WS w wx B S I K np p c n b r f g ma mt md ms mp mw most (nx (nx (nx (nx (nx N))))) now ids (.slice Av L.length cv) L))
    case first =>
      have W1 : IntKind.i64.wrap (most - (L.length : Int)) = most - (L.length : Int) := IntWalk.i64_in _ (by omega)
      have W2 : IntKind.i64.wrap (1 + bl (nx (nx (nx (nx (nx N))))) ms) = 1 + bl (nx (nx (nx (nx (nx N))))) ms := IntWalk.i64_in _ (by omega)
      go_region_held3 (fun w' => w'.cell? ⟨B, 7, none⟩ = some (.pointer (some ⟨S, 0, none⟩)) ∧ w'.cell? ⟨B, 11, none⟩ = some (.int .i64 ms) ∧ w'.cell? ⟨B, 16, none⟩ = some (.int .i64 most) ∧ w'.cell? ⟨B, 17, none⟩ = some (.slice Av L.length cv)) (first | with_reducible exact hS | fail) (first | (go_at_call 22; (with_reducible refine (HBL.out (nx (nx (nx (nx N)))) ms _ hms hM.sc hM.sf).mono ?_); rintro e w6 ⟨rfl, hs⟩; have hM := hM.src hd hs; have hS := (And.intro (hM.blk.cell 7 _ rfl) (And.intro (hM.blk.cell 11 _ rfl) (And.intro (hM.blk.cell 16 _ rfl) (hM.blk.cell 17 _ rfl)))); clear hs) | fail)
      all_goals ((apply meet_of); (focus (assumption)); (go_meet; exact ⟨rfl, rfl, hM⟩))
    case rest =>
      obtain ⟨rfl, rfl, HM⟩ := hcut
      have ht : 0 ≤ tms (nx (nx (nx (nx N)))) ms most L.length ∧ tms (nx (nx (nx (nx N)))) ms most L.length ≤ 65536 := by unfold tms; split <;> omega
      generalize htt : (tms (nx (nx (nx (nx N)))) ms most L.length) = T at *
      have HTT := Lib.hid htt
      clear htt hM hS z0 z1
      obtain ⟨t0, t1⟩ := ht
      go_wp2_with fail
      go_loopw [92] (fun i wx => ∃ (q : Nat) (v' : Value), (q : Int) ≤ T ∧ i = .int .i64 (q : Int) ∧ Hid (WS w wx B S I K np p c n b r f g ma mt md ms mp mw most (nx (nx (nx (nx (nx N))))) now ids v' (L ++ List.replicate q [3, agent, 0, 0, 0, 0, 0, 0, 0, 0, 0, 0]))) (fun i _ => (T + 1 - intOf i).toNat)
      case atStart => exact ⟨0, _, by omega, rfl, by rw [List.replicate_zero, List.append_nil]; exact HM⟩
      case round =>
        clear HM
        obtain ⟨q, v', hq, rfl, HM⟩ := hrel
        have q0 : (0 : Int) ≤ (q : Int) := by omega
        by_cases hqT : (q : Int) < T
        · obtain ⟨A', c', rfl⟩ := own_shape HM.out.row
          have m17 := HM.out.blk.cell 17 _ rfl
          have f17 := HM.out.blk.frz 17
          have hLq : (L ++ List.replicate q [3, agent, 0, 0, 0, 0, 0, 0, 0, 0, 0, 0]).length ≤ 140000 := by rw [List.length_append, List.length_replicate]; omega
          have HSN := Lib.hid (rep_snoc [3, agent, 0, 0, 0, 0, 0, 0, 0, 0, 0, 0] q L)
          generalize L ++ List.replicate q [3, agent, 0, 0, 0, 0, 0, 0, 0, 0, 0, 0] = LL at *
          have HR := Lib.hid (reads_newN wr 1 12 [.int .i64 3, .int .i64 agent, .int .i64 0, .int .i64 0, .int .i64 0, .int .i64 0, .int .i64 0, .int .i64 0, .int .i64 0, .int .i64 0, .int .i64 0, .int .i64 0] 47 rfl)
          have HO1 := Lib.hid (World.ownsRow.alloc HM.out.row (Obj.cells #[.int .i64 3, .int .i64 agent, .int .i64 0, .int .i64 0, .int .i64 0, .int .i64 0, .int .i64 0, .int .i64 0, .int .i64 0, .int .i64 0, .int .i64 0, .int .i64 0] 47))
          have N1 := Lib.hid (show LL.length + 1 ≤ maxLen from by unfold maxLen; omega)
          have N2 := Lib.hid (show (LL.length + 1) * 96 ≤ 140737488355328 from by omega)
          have N3' := Lib.hid (show K ≤ (wr.alloc (Obj.cells #[.int .i64 3, .int .i64 agent, .int .i64 0, .int .i64 0, .int .i64 0, .int .i64 0, .int .i64 0, .int .i64 0, .int .i64 0, .int .i64 0, .int .i64 0, .int .i64 0] 47)).heap.size from by rw [World.size_alloc]; have := HM.out.hK; omega)
          have NV := Lib.hid (show ∀ u ∈ [Value.int .i64 3, .int .i64 agent, .int .i64 0, .int .i64 0, .int .i64 0, .int .i64 0, .int .i64 0, .int .i64 0, .int .i64 0, .int .i64 0, .int .i64 0, .int .i64 0], u.oneCell' = true from ints_one [3, agent, 0, 0, 0, 0, 0, 0, 0, 0, 0, 0])
          go_wp2_with (at_builtin; refine wpList_append_any _ rfl (.tmp 98) (.tmp 101) 36 rfl K 47 i0 (Value.agg #[.int .i64 0, .int .i64 0, .int .i64 0, .int .i64 0, .int .i64 0, .int .i64 0, .int .i64 0, .int .i64 0, .int .i64 0, .int .i64 0, .int .i64 0, .int .i64 0]) 12 96 Try.underlying36 HI.out HZ0.out HZ1.out HZ2.out rfl (by decide) _ LL.length (lv LL) rfl HO1.out _ (some ⟨wr.heap.size, 0, none⟩) 1 1 _ rfl HR.out NV.out N1.out N2.out N3'.out ?_; intro v6 w6 hown6 hgrow6 hblk6; obtain ⟨A6, c6, rfl⟩ := own_shape hown6; have HP := Lib.hid (And.intro hown6 hgrow6); have c17 := ((HM.out.app_low hgrow6).cell (p := ⟨B, 17, none⟩) HD.out.kB).trans m17; have g17 := ((HM.out.app_low hgrow6).frozen (p := ⟨B, 17, none⟩) HD.out.kB).trans f17; clear hown6 hgrow6 hblk6)
          go_roundw
          case rel => exact ⟨q + 1, _, by omega, by go_num, by rw [← HSN.out]; exact HM.out.push HD.out HP.out.1 HP.out.2⟩
          case measure => simp [intOf]; omega
        · obtain rfl : T = (q : Int) := by omega
          have hdd : decide ((q : Int) < (q : Int)) = false := decide_eq_false (by omega)
          go_wp2_with fail
          refine bodyPost_end (v := .tuple #[]) (by simp [results, Try.results17, go_sem]; try rfl) rfl ?_
          rw [HTT.out]
          obtain rfl := HWW.out
          obtain rfl := HOO.out
          obtain rfl := HAGT.out
          first | exact ⟨_, _, rfl, HM.out⟩ | exact ⟨⟨_, rfl⟩, _, HM.out⟩
end Go.Proofs.Ytgakgnofflnjoaa
