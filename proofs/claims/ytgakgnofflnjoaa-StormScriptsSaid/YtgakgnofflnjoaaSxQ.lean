/-
  A storm's writer draws: what is asked.
-/
import Derived.Test.YtgakgnofflnjoaaRows
import Derived.Test.YtgakgnofflnjoaaKit
import Derived.Test.YtgakgnofflnjoaaApp
import Derived.Test.YtgakgnofflnjoaaQuiet
import Derived.Test.YtgakgnofflnjoaaSt
import Derived.Test.YtgakgnofflnjoaaStA
import Derived.Test.YtgakgnofflnjoaaStT
import Derived.Test.YtgakgnofflnjoaaStK
import Derived.Test.YtgakgnofflnjoaaStR
import Derived.Test.YtgakgnofflnjoaaStL
import Derived.Test.YtgakgnofflnjoaaStS
import Derived.Test.YtgakgnofflnjoaaStM
import Derived.Test.YtgakgnofflnjoaaStV
import Derived.Test.YtgakgnofflnjoaaStD
import Derived.Test.YtgakgnofflnjoaaSxP
import Derived.Test.YtgakgnofflnjoaaSxA
import Derived.Test.YtgakgnofflnjoaaSxB
import Derived.Test.YtgakgnofflnjoaaSxT
import Derived.WalkKit
import Derived.ProofKit
import Derived.OpenShut
import Derived.ShutString
import Derived.Below
import Derived.Outline
import Derived.WalkLawsBesides
import Derived.WalkSpells
import Derived.Handy
import Derived.Deep.QuietTactic
import Derived.BigQuiet
import Derived.RegionTactic
import Derived.ChangeAlike
import Derived.Lib.Hide
import Derived.Laws.Rows
import Derived.Laws.Tables
import Derived.Laws.CopyOwn
import Derived.Laws.MakeOwn
import Derived.Laws.Entries
import Derived.Laws.OwnMore
import Derived.Deep.WholeRow
import Derived.Deep.LoopGhost
import Derived.Deep.AppendLies
import Derived.Deep.Draws
import Derived.Maps.AppendAt
import Derived.OwnWalk
import Derived.Deep.RegionHeld3
import Derived.Deep.Cut
import Derived.Deep.CutRange
import Derived.Deep.DeepCutAuto
import Derived.Deep.CutBlock
import Derived.Lib.SliceRun
import Derived.IntWalk
namespace Go.Proofs.Ytgakgnofflnjoaa
open Go.ChangeShapes Go.WideShapes Go.ChangeAt Go.RowKit
theorem grown_undrew {w w2 : World} {r : Option Nat} (h : w.drew.grownBy w2 r) : w.grownBy w2 r := ⟨h.os, h.tape, h.output, h.size, h.block⟩
theorem WS.own {w wr : World} {B S I K np X j : Nat} {p c n b r f g ma mt md ms mp mw most N now : Int} {ids : Nat → Nat} {v x : Value} {L : List (List Int)} (h : WS w wr B S I K np p c n b r f g ma mt md ms mp mw most N now ids v L) (hd : Far w B S I K) (hX : K ≤ X) (hne : v.ownBlock ≠ some X) : WS w (wr.setCell ⟨X, j, none⟩ x) B S I K np p c n b r f g ma mt md ms mp mw most N now ids v L := by
  have hk : ∀ k, k ≠ X → (wr.setCell ⟨X, j, none⟩ x).heap[k]? = wr.heap[k]? := fun k hk => Below.heap_setCell wr ⟨X, j, none⟩ _ k hk
  have hB := hd.kB
  have hS := hd.kS
  have hI := hd.kI
  have hs : (wr.setCell ⟨X, j, none⟩ x).heap.size = wr.heap.size := by simp
  refine ⟨h.blk.far (p := ⟨X, j, none⟩) (by show X ≠ B; omega) _, (World.cell?_of_block (a := ⟨S, 0, none⟩) (hk S (by omega))).trans h.sc, (World.frozen?_of_block (a := ⟨S, 0, none⟩) (hk S (by omega))).trans h.sf, ?_, ?_, h.bel.setCell (p := ⟨X, j, none⟩) (by have := hd.wB; show _ ≤ X; omega) _, by rw [hs]; exact h.hK⟩
  · obtain ⟨cs, h1, h2, h3⟩ := h.ids
    exact ⟨cs, (hk I (by omega)).trans h1, h2, h3⟩
  · refine ⟨h.row.1, ?_⟩
    rcases h.row.2 with h0 | ⟨g', cap, cur, hv, hg, hgh, hr⟩
    · exact .inl h0
    · exact .inr ⟨g', cap, cur, hv, hg, (hk g' (fun e => hne (by rw [hv, ← e]; rfl))).trans hgh, hr⟩
theorem WS.bump {w wr : World} {B S I K np u x : Nat} {p c n b r f g ma mt md ms mp mw most N now : Int} {ids : Nat → Nat} {v : Value} {L : List (List Int)} (h : WS w wr B S I K np p c n b r f g ma mt md ms mp mw most N now ids v L) (hd : Far w B S I K) (hu : u < np) : WS w (wr.setCell ⟨I, u, none⟩ (.int .i64 (x : Int))) B S I K np p c n b r f g ma mt md ms mp mw most N now (fun i => if i = u then x else ids i) v L := by
  have hk : ∀ k, k ≠ I → (wr.setCell ⟨I, u, none⟩ (.int .i64 (x : Int))).heap[k]? = wr.heap[k]? := fun k hk => Below.heap_setCell wr ⟨I, u, none⟩ _ k hk
  refine ⟨h.blk.far (p := ⟨I, u, none⟩) (fun e => hd.bi e.symm) _, (World.cell?_of_block (a := ⟨S, 0, none⟩) (hk S hd.si)).trans h.sc, (World.frozen?_of_block (a := ⟨S, 0, none⟩) (hk S hd.si)).trans h.sf, h.ids.set u hu x, row_far h.row fun k h1 _ => hk k (by have := hd.kI; omega), h.bel.setCell (p := ⟨I, u, none⟩) hd.wI _, by simpa using h.hK⟩
set_option maxRecDepth 100000 in
set_option maxHeartbeats 16000000 in
theorem draw1 (w wr : World) (B S I K np : Nat) (p c n b r f g ma mt md ms mp mw : Int) (most N now : Int) (ids : Nat → Nat) (v : Value) (L : List (List Int)) (hd : Far w B S I K) (h : WS w wr B S I K np p c n b r f g ma mt md ms mp mw most N now ids v L) (hp : 1 ≤ p ∧ p ≤ 6) (hc : 1 ≤ c ∧ c ≤ 4) (hn : 1 ≤ n ∧ n ≤ 3) (hb : 1 ≤ b ∧ b ≤ 4) (hm1 : -10000 ≤ ma ∧ ma ≤ 10000) (hm2 : -10000 ≤ mt ∧ mt ≤ 10000) (hm3 : -10000 ≤ md ∧ md ≤ 10000) (hm4 : -10000 ≤ ms ∧ ms ≤ 10000) (hm5 : -10000 ≤ mp ∧ mp ≤ 10000) (hm6 : 0 ≤ mw ∧ mw ≤ 10000) (hnow : 0 ≤ now ∧ now ≤ 1000000) (hL : L.length ≤ 70000) (hnp : (np : Int) = p) (hids : ∀ j, j < np → ids j ≤ 70000) (u : Nat) (huw : bl (nx N) p = (u : Int)) (hu1 : u < np)
    (hk : bl (nx (nx N)) (mx0 ma + mx0 mt + mx0 md + 4) < mx0 ma) (k1 k2 k3 k4 k5 k6 k7 k8 k9 NA : Int) (hA : askV c n mp mw ((ids u + 1 : Nat) : Int) now (nx (nx N)) = ((k1, k2, k3, k4, k5, k6, k7, k8, k9), NA)) : Calls Try.prog 17 #[.pointer (some ⟨B, 0, none⟩)] wr fun e w' => ∃ q v', e = .returned q ∧ WS w w' B S I K np p c n b r f g ma mt md ms mp mw most NA now (fun i => if i = u then ids u + 1 else ids i) v' (L ++ [[1, (u : Int), 0, k1, k2, k3, k4, k5, k6, k7, k8, k9]]) := by
  have HASK := Lib.hid (fun W (hc1 : W.cell? ⟨S, 0, none⟩ = some (.int .u64 (nx (nx N)))) (hf : W.frozen? ⟨S, 0, none⟩ = false) => show Calls Try.prog 23 #[.agg #[.int .i64 p, .int .i64 c, .int .i64 n, .int .i64 b, .int .i64 r, .int .i64 f, .int .i64 g], .pointer (some ⟨S, 0, none⟩), .agg #[.int .i64 ma, .int .i64 mt, .int .i64 md, .int .i64 ms, .int .i64 mp, .int .i64 mw], .int .i64 (((ids u + 1 : Nat) : Int)), .int .i64 now] W (fun e w' => e = .returned (.agg #[.int .i64 k1, .int .i64 k2, .int .i64 k3, .int .i64 k4, .int .i64 k5, .int .i64 k6, .int .i64 k7, .int .i64 k8, .int .i64 k9]) ∧ Src W w' S NA) from by
    have h2 := ask_is S (nx (nx N)) p c n b r f g ma mt md ms mp mw ((ids u + 1 : Nat) : Int) now W hc1 hf hc hn hm5 hm6 (by have := hids u hu1; omega) hnow
    rw [hA] at h2
    exact h2)
  have hiu := hids u hu1
  clear hids hA
  have c8 := h.blk.cell 8 _ rfl
  have c9 := h.blk.cell 9 _ rfl
  have c10 := h.blk.cell 10 _ rfl
  have hM := h.below hd (Below.drew (Below.refl _ _))
  have hS := (And.intro (hM.blk.cell 8 _ rfl) (And.intro (hM.blk.cell 9 _ rfl) (hM.blk.cell 10 _ rfl)))
  have HBL := Lib.hid (fun (M k : Int) (W : World) (hk1 : k ≤ 9223372036854775807) (hc : W.cell? ⟨S, 0, none⟩ = some (.int .u64 M)) (hf : W.frozen? ⟨S, 0, none⟩ = false) => below_src S M k W W hk1 (Src.refl hc hf))
  have HD := Lib.hid hd
  have hp9 : p ≤ 9223372036854775807 := by omega
  obtain ⟨m1a, m1b⟩ := mx0_bd ma hm1
  obtain ⟨m2a, m2b⟩ := mx0_bd mt hm2
  obtain ⟨m3a, m3b⟩ := mx0_bd md hm3
  obtain ⟨Av, cv, rfl⟩ := own_shape h.row
  obtain ⟨i0, hi, hz0, hz1, hz2⟩ := info_parts infoE
  have HI := Lib.hid hi
  have HZ0 := Lib.hid hz0
  have HZ1 := Lib.hid hz1
  have HZ2 := Lib.hid hz2
  clear hi hz0 hz1 hz2
  clear h hm1 hm2 hm3
  go_enter Try.func17, Try.ntmps17
  go_wp2_with fail
  go_cut [2, 3, 4] (fun a t d wx => a = .int .i64 (mx0 ma) ∧ t = .int .i64 (mx0 mt) ∧ d = .int .i64 (mx0 md) ∧ wx = wr.drew)
  case first =>
    go_region_held3 (fun w' => w'.cell? ⟨B, 8, none⟩ = some (.int .i64 ma) ∧ w'.cell? ⟨B, 9, none⟩ = some (.int .i64 mt) ∧ w'.cell? ⟨B, 10, none⟩ = some (.int .i64 md)) (first | with_reducible exact hS | fail) (first | fail)
    all_goals ((apply meet_of); (focus (assumption)); (go_meet; exact ⟨rfl, rfl, rfl, rfl⟩))
  case rest =>
    obtain ⟨rfl, rfl, rfl, rfl⟩ := hcut
    clear c8 c9 c10 hS
    have HM1 := Lib.hid (hM.below hd (Below.drew (Below.refl _ _)))
    clear hM
    generalize wr.drew = wr1 at *
    have hM := HM1.out
    clear HM1
    generalize mx0 ma = xa at *
    generalize mx0 mt = xt at *
    generalize mx0 md = xd at *
    have hS := (And.intro (hM.blk.cell 0 _ rfl) (hM.blk.cell 7 _ rfl))
    go_wp2_with fail
    go_region_held3 (fun w' => w'.cell? ⟨B, 0, none⟩ = some (.int .i64 p) ∧ w'.cell? ⟨B, 7, none⟩ = some (.pointer (some ⟨S, 0, none⟩))) (first | with_reducible exact hS | fail) (first | (go_at_call 22; (with_reducible refine (HBL.out N p _ hp9 hM.sc hM.sf).mono ?_); rintro e w1 ⟨rfl, hs⟩; have hM := hM.src hd hs; have hS := (And.intro (hM.blk.cell 0 _ rfl) (hM.blk.cell 7 _ rfl)); clear hs) | fail)
    have m7 := hM.blk.cell 7 _ rfl
    have h9 : xa + xt + xd + 4 ≤ 9223372036854775807 := by omega
    clear hS
    go_wp2_with fail
    refine (HBL.out (nx N) (xa + xt + xd + 4) _ h9 hM.sc hM.sf).mono ?_
    rintro e w2 ⟨rfl, hs2⟩
    have hM := hM.src hd hs2
    clear hs2 m7 h9
    generalize bl (nx (nx N)) (xa + xt + xd + 4) = kk at *
    rw [huw] at *
    have u0 : (0 : Int) ≤ (u : Int) := by omega
    have u1 : (u : Int) < (np : Int) := by omega
    clear hnp
    have m14 := hM.blk.cell 14 _ rfl
    obtain ⟨y0, y1, y2⟩ := hM.ids.cell u hu1
    have hMb := hM.bump (x := ids u + 1) hd hu1
    have eU : ((ids u + 1 : Nat) : Int) = (ids u : Int) + 1 := by omega
    rw [eU] at hMb HASK
    clear hS
    go_wp2_with fail
    have hM0 := hMb
    clear hMb y0 y1 y2
    generalize w2.setCell ⟨I, u, none⟩ (.int .i64 ((ids u : Int) + 1)) = W2 at *
    have hXK := hM0.hK
    have hXv : (Value.slice Av L.length cv).ownBlock ≠ some W2.heap.size := fun e => by have := (hM0.row.lt _ e).2; omega
    have hXS : W2.heap.size ≠ S := by have := hd.kS; omega
    have hM := hM0.below hd (Below.drew (Below.refl _ _))
    have iu : ∀ {W : World} {M : Int} (h : WS w W B S I K np p c n b r f g ma mt md ms mp mw most M now (fun i => if i = u then ids u + 1 else ids i) (.slice Av L.length cv) L), W.cell? ⟨I, u, none⟩ = some (.int .i64 ((ids u : Int) + 1)) := fun h => by
      have h2 := (h.ids.cell u hu1).1
      rw [if_pos rfl, eU] at h2
      exact h2
    have hS := (And.intro (hM.blk.cell 0 _ rfl) (And.intro (hM.blk.cell 1 _ rfl) (And.intro (hM.blk.cell 2 _ rfl) (And.intro (hM.blk.cell 3 _ rfl) (And.intro (hM.blk.cell 4 _ rfl) (And.intro (hM.blk.cell 5 _ rfl) (And.intro (hM.blk.cell 6 _ rfl) (And.intro (hM.blk.cell 7 _ rfl) (And.intro (hM.blk.cell 8 _ rfl) (And.intro (hM.blk.cell 9 _ rfl) (And.intro (hM.blk.cell 10 _ rfl) (And.intro (hM.blk.cell 11 _ rfl) (And.intro (hM.blk.cell 12 _ rfl) (And.intro (hM.blk.cell 13 _ rfl) (And.intro (hM.blk.cell 14 _ rfl) (iu hM))))))))))))))))
    have hMz := (hM0.below hd ((Below.refl _ _).alloc (Nat.le_refl _) (Obj.cells #[.int .i64 0, .int .i64 0, .int .i64 0, .int .i64 0, .int .i64 0, .int .i64 0, .int .i64 0, .int .i64 0, .int .i64 0] 45))).below hd (Below.drew (Below.refl _ _))
    have hSz := (And.intro (hMz.blk.cell 0 _ rfl) (And.intro (hMz.blk.cell 1 _ rfl) (And.intro (hMz.blk.cell 2 _ rfl) (And.intro (hMz.blk.cell 3 _ rfl) (And.intro (hMz.blk.cell 4 _ rfl) (And.intro (hMz.blk.cell 5 _ rfl) (And.intro (hMz.blk.cell 6 _ rfl) (And.intro (hMz.blk.cell 7 _ rfl) (And.intro (hMz.blk.cell 8 _ rfl) (And.intro (hMz.blk.cell 9 _ rfl) (And.intro (hMz.blk.cell 10 _ rfl) (And.intro (hMz.blk.cell 11 _ rfl) (And.intro (hMz.blk.cell 12 _ rfl) (And.intro (hMz.blk.cell 13 _ rfl) (And.intro (hMz.blk.cell 14 _ rfl) (iu hMz))))))))))))))))
    have bXz : Bl W2.heap.size [Value.int .i64 0, Value.int .i64 0, Value.int .i64 0, Value.int .i64 0, Value.int .i64 0, Value.int .i64 0, Value.int .i64 0, Value.int .i64 0, Value.int .i64 0] (W2.alloc (Obj.cells #[.int .i64 0, .int .i64 0, .int .i64 0, .int .i64 0, .int .i64 0, .int .i64 0, .int .i64 0, .int .i64 0, .int .i64 0] 45)).drew := Bl.new W2 [Value.int .i64 0, Value.int .i64 0, Value.int .i64 0, Value.int .i64 0, Value.int .i64 0, Value.int .i64 0, Value.int .i64 0, Value.int .i64 0, Value.int .i64 0] 45
    clear hM0
    go_cut [7] (fun a wx => ∃ X : Nat, a = .pointer (some ⟨X, 0, none⟩) ∧ Hid (WS w wx B S I K np p c n b r f g ma mt md ms mp mw most NA now (fun i => if i = u then ids u + 1 else ids i) (.slice Av L.length cv) L) ∧ Hid (Bl X [Value.int .i64 k1, Value.int .i64 k2, Value.int .i64 k3, Value.int .i64 k4, Value.int .i64 k5, Value.int .i64 k6, Value.int .i64 k7, Value.int .i64 k8, Value.int .i64 k9] wx))
    case first =>
      go_region_held3 (fun w' => w'.cell? ⟨B, 0, none⟩ = some (.int .i64 p) ∧ w'.cell? ⟨B, 1, none⟩ = some (.int .i64 c) ∧ w'.cell? ⟨B, 2, none⟩ = some (.int .i64 n) ∧ w'.cell? ⟨B, 3, none⟩ = some (.int .i64 b) ∧ w'.cell? ⟨B, 4, none⟩ = some (.int .i64 r) ∧ w'.cell? ⟨B, 5, none⟩ = some (.int .i64 f) ∧ w'.cell? ⟨B, 6, none⟩ = some (.int .i64 g) ∧ w'.cell? ⟨B, 7, none⟩ = some (.pointer (some ⟨S, 0, none⟩)) ∧ w'.cell? ⟨B, 8, none⟩ = some (.int .i64 ma) ∧ w'.cell? ⟨B, 9, none⟩ = some (.int .i64 mt) ∧ w'.cell? ⟨B, 10, none⟩ = some (.int .i64 md) ∧ w'.cell? ⟨B, 11, none⟩ = some (.int .i64 ms) ∧ w'.cell? ⟨B, 12, none⟩ = some (.int .i64 mp) ∧ w'.cell? ⟨B, 13, none⟩ = some (.int .i64 mw) ∧ w'.cell? ⟨B, 14, none⟩ = some (.slice (some ⟨I, 0, none⟩) np np) ∧ w'.cell? ⟨I, u, none⟩ = some (.int .i64 ((ids u : Int) + 1))) (first | with_reducible exact hS | with_reducible exact hSz | with_reducible exact hSa | with_reducible exact hSk | with_reducible exact hS4 | with_reducible exact hS5 | fail) (first | (go_at_call 24; (with_reducible refine (now_is B 15 now _ (hM.blk.cell 15 _ rfl)).mono ?_); rintro e w3 ⟨rfl, rfl⟩) | (go_at_call 24; (with_reducible refine (now_is B 15 now _ (hMz.blk.cell 15 _ rfl)).mono ?_); rintro e w3 ⟨rfl, rfl⟩) | (go_at_call 23; (with_reducible refine (HASK.out _ hM.sc hM.sf).mono ?_); rintro e w4 ⟨rfl, hs⟩; have hM := hM.src hd hs; have hS := (And.intro (hM.blk.cell 0 _ rfl) (And.intro (hM.blk.cell 1 _ rfl) (And.intro (hM.blk.cell 2 _ rfl) (And.intro (hM.blk.cell 3 _ rfl) (And.intro (hM.blk.cell 4 _ rfl) (And.intro (hM.blk.cell 5 _ rfl) (And.intro (hM.blk.cell 6 _ rfl) (And.intro (hM.blk.cell 7 _ rfl) (And.intro (hM.blk.cell 8 _ rfl) (And.intro (hM.blk.cell 9 _ rfl) (And.intro (hM.blk.cell 10 _ rfl) (And.intro (hM.blk.cell 11 _ rfl) (And.intro (hM.blk.cell 12 _ rfl) (And.intro (hM.blk.cell 13 _ rfl) (And.intro (hM.blk.cell 14 _ rfl) (iu hM)))))))))))))))); have hMa := hM.below hd ((Below.refl _ _).alloc (Nat.le_refl _) (Obj.cells #[.int .i64 0, .int .i64 0, .int .i64 0, .int .i64 0, .int .i64 0, .int .i64 0, .int .i64 0, .int .i64 0, .int .i64 0] 45)); have hSa := (And.intro (hMa.blk.cell 0 _ rfl) (And.intro (hMa.blk.cell 1 _ rfl) (And.intro (hMa.blk.cell 2 _ rfl) (And.intro (hMa.blk.cell 3 _ rfl) (And.intro (hMa.blk.cell 4 _ rfl) (And.intro (hMa.blk.cell 5 _ rfl) (And.intro (hMa.blk.cell 6 _ rfl) (And.intro (hMa.blk.cell 7 _ rfl) (And.intro (hMa.blk.cell 8 _ rfl) (And.intro (hMa.blk.cell 9 _ rfl) (And.intro (hMa.blk.cell 10 _ rfl) (And.intro (hMa.blk.cell 11 _ rfl) (And.intro (hMa.blk.cell 12 _ rfl) (And.intro (hMa.blk.cell 13 _ rfl) (And.intro (hMa.blk.cell 14 _ rfl) (iu hMa)))))))))))))))); have hMk := hM.below hd ((Below.refl _ _).alloc (Nat.le_refl _) (Obj.cells #[.int .i64 k1, .int .i64 k2, .int .i64 k3, .int .i64 k4, .int .i64 k5, .int .i64 k6, .int .i64 k7, .int .i64 k8, .int .i64 k9] 45)); have hSk := (And.intro (hMk.blk.cell 0 _ rfl) (And.intro (hMk.blk.cell 1 _ rfl) (And.intro (hMk.blk.cell 2 _ rfl) (And.intro (hMk.blk.cell 3 _ rfl) (And.intro (hMk.blk.cell 4 _ rfl) (And.intro (hMk.blk.cell 5 _ rfl) (And.intro (hMk.blk.cell 6 _ rfl) (And.intro (hMk.blk.cell 7 _ rfl) (And.intro (hMk.blk.cell 8 _ rfl) (And.intro (hMk.blk.cell 9 _ rfl) (And.intro (hMk.blk.cell 10 _ rfl) (And.intro (hMk.blk.cell 11 _ rfl) (And.intro (hMk.blk.cell 12 _ rfl) (And.intro (hMk.blk.cell 13 _ rfl) (And.intro (hMk.blk.cell 14 _ rfl) (iu hMk)))))))))))))))); clear hs) | (go_at_call 23; (with_reducible refine (HASK.out _ hMz.sc hMz.sf).mono ?_); rintro e w4 ⟨rfl, hs⟩; have hM4 := hMz.src hd hs; have bX4 := bXz.src hs hXS; have x0 := bX4.cell 0 _ rfl; have xf0 := bX4.frz 0; have x1 := bX4.cell 1 _ rfl; have xf1 := bX4.frz 1; have x2 := bX4.cell 2 _ rfl; have xf2 := bX4.frz 2; have x3 := bX4.cell 3 _ rfl; have xf3 := bX4.frz 3; have x4 := bX4.cell 4 _ rfl; have xf4 := bX4.frz 4; have x5 := bX4.cell 5 _ rfl; have xf5 := bX4.frz 5; have x6 := bX4.cell 6 _ rfl; have xf6 := bX4.frz 6; have x7 := bX4.cell 7 _ rfl; have xf7 := bX4.frz 7; have x8 := bX4.cell 8 _ rfl; have xf8 := bX4.frz 8; have hS4 := (And.intro (hM4.blk.cell 0 _ rfl) (And.intro (hM4.blk.cell 1 _ rfl) (And.intro (hM4.blk.cell 2 _ rfl) (And.intro (hM4.blk.cell 3 _ rfl) (And.intro (hM4.blk.cell 4 _ rfl) (And.intro (hM4.blk.cell 5 _ rfl) (And.intro (hM4.blk.cell 6 _ rfl) (And.intro (hM4.blk.cell 7 _ rfl) (And.intro (hM4.blk.cell 8 _ rfl) (And.intro (hM4.blk.cell 9 _ rfl) (And.intro (hM4.blk.cell 10 _ rfl) (And.intro (hM4.blk.cell 11 _ rfl) (And.intro (hM4.blk.cell 12 _ rfl) (And.intro (hM4.blk.cell 13 _ rfl) (And.intro (hM4.blk.cell 14 _ rfl) (iu hM4)))))))))))))))); have hM5 := (((((((((hM4.own (j := 0) (x := .int .i64 k1) hd hXK hXv).own (j := 1) (x := .int .i64 k2) hd hXK hXv).own (j := 2) (x := .int .i64 k3) hd hXK hXv).own (j := 3) (x := .int .i64 k4) hd hXK hXv).own (j := 4) (x := .int .i64 k5) hd hXK hXv).own (j := 5) (x := .int .i64 k6) hd hXK hXv).own (j := 6) (x := .int .i64 k7) hd hXK hXv).own (j := 7) (x := .int .i64 k8) hd hXK hXv).own (j := 8) (x := .int .i64 k9) hd hXK hXv); have hS5 := (And.intro (hM5.blk.cell 0 _ rfl) (And.intro (hM5.blk.cell 1 _ rfl) (And.intro (hM5.blk.cell 2 _ rfl) (And.intro (hM5.blk.cell 3 _ rfl) (And.intro (hM5.blk.cell 4 _ rfl) (And.intro (hM5.blk.cell 5 _ rfl) (And.intro (hM5.blk.cell 6 _ rfl) (And.intro (hM5.blk.cell 7 _ rfl) (And.intro (hM5.blk.cell 8 _ rfl) (And.intro (hM5.blk.cell 9 _ rfl) (And.intro (hM5.blk.cell 10 _ rfl) (And.intro (hM5.blk.cell 11 _ rfl) (And.intro (hM5.blk.cell 12 _ rfl) (And.intro (hM5.blk.cell 13 _ rfl) (And.intro (hM5.blk.cell 14 _ rfl) (iu hM5)))))))))))))))); have bX5 := (((((((((bX4.set 0 (.int .i64 k1)).set 1 (.int .i64 k2)).set 2 (.int .i64 k3)).set 3 (.int .i64 k4)).set 4 (.int .i64 k5)).set 5 (.int .i64 k6)).set 6 (.int .i64 k7)).set 7 (.int .i64 k8)).set 8 (.int .i64 k9)); clear hs) | fail)
      all_goals ((apply meet_of); (focus (assumption)); (go_meet; first | exact ⟨_, rfl, hMk, Bl.new _ [Value.int .i64 k1, Value.int .i64 k2, Value.int .i64 k3, Value.int .i64 k4, Value.int .i64 k5, Value.int .i64 k6, Value.int .i64 k7, Value.int .i64 k8, Value.int .i64 k9] 45⟩ | exact ⟨_, rfl, hM5, bX5⟩))
    case rest =>
      obtain ⟨X, rfl, HM, HX⟩ := hcut
      clear hM hS hMz hSz bXz hXK hXv hXS iu
      have hM := HM.out
      have hX := HX.out
      have m17 := hM.blk.cell 17 _ rfl
      have f17 := hM.blk.frz 17
      have lB := hM.blk.lt
      have lX := hX.lt
      have x0 := hX.cell 0 _ rfl
      have x1 := hX.cell 1 _ rfl
      have x2 := hX.cell 2 _ rfl
      have x3 := hX.cell 3 _ rfl
      have x4 := hX.cell 4 _ rfl
      have x5 := hX.cell 5 _ rfl
      have x6 := hX.cell 6 _ rfl
      have x7 := hX.cell 7 _ rfl
      have x8 := hX.cell 8 _ rfl
      have HMa := Lib.hid ((hM.below hd ((Below.refl _ _).alloc (Nat.le_refl _) (Obj.cells #[.int .i64 1, .int .i64 (u : Int), .int .i64 0, .int .i64 k1, .int .i64 k2, .int .i64 k3, .int .i64 k4, .int .i64 k5, .int .i64 k6, .int .i64 k7, .int .i64 k8, .int .i64 k9] 47))).below hd (Below.drew (Below.refl _ _)))
      have N1 := Lib.hid (show L.length + 1 ≤ maxLen from by unfold maxLen; omega)
      have N2 := Lib.hid (show (L.length + 1) * 96 ≤ 140737488355328 from by omega)
      have NV := Lib.hid (show ∀ zz ∈ [Value.int .i64 1, .int .i64 (u : Int), .int .i64 0, .int .i64 k1, .int .i64 k2, .int .i64 k3, .int .i64 k4, .int .i64 k5, .int .i64 k6, .int .i64 k7, .int .i64 k8, .int .i64 k9], zz.oneCell' = true from ints_one [1, (u : Int), 0, k1, k2, k3, k4, k5, k6, k7, k8, k9])
      have HR := Lib.hid ((reads_newN wc 1 12 [.int .i64 1, .int .i64 (u : Int), .int .i64 0, .int .i64 k1, .int .i64 k2, .int .i64 k3, .int .i64 k4, .int .i64 k5, .int .i64 k6, .int .i64 k7, .int .i64 k8, .int .i64 k9] 47 rfl).drew)
      clear hM hX
      go_wp2_with fail
      go_region_law (first | (refine step_append_any _ (by rfl) (.tmp 147) (.tmp 151) 36 (by rfl) K 47 i0 (Value.agg #[.int .i64 0, .int .i64 0, .int .i64 0, .int .i64 0, .int .i64 0, .int .i64 0, .int .i64 0, .int .i64 0, .int .i64 0, .int .i64 0, .int .i64 0, .int .i64 0]) 12 96 Try.underlying36 HI.out HZ0.out HZ1.out HZ2.out rfl (by decide) (.slice Av L.length cv) L.length (lv L) (by rfl) HMa.out.row (wc.heap.size + 1) (some ⟨wc.heap.size, 0, none⟩) 1 1 [.int .i64 1, .int .i64 (u : Int), .int .i64 0, .int .i64 k1, .int .i64 k2, .int .i64 k3, .int .i64 k4, .int .i64 k5, .int .i64 k6, .int .i64 k7, .int .i64 k8, .int .i64 k9] (by rfl) HR.out NV.out N1.out N2.out HMa.out.hK ?_; intro v6 w6 hown6 hgrow6 hblk6; obtain ⟨A6, c6, rfl⟩ := own_shape hown6; have hgr := grown_undrew hgrow6; have hb6 := HM.out.app_low hgr; have hP := HM.out.push (x := [1, (u : Int), 0, k1, k2, k3, k4, k5, k6, k7, k8, k9]) hd hown6 hgr; have c17 := (hb6.cell (p := ⟨B, 17, none⟩) hd.kB).trans m17; have g17 := (hb6.frozen (p := ⟨B, 17, none⟩) hd.kB).trans f17) | fail)
      all_goals (go_wp2_with fail; refine bodyPost_end (v := .tuple #[]) (by simp [results, Try.results17, go_sem]; try rfl) rfl ?_; exact ⟨_, _, rfl, hP⟩)
end Go.Proofs.Ytgakgnofflnjoaa
