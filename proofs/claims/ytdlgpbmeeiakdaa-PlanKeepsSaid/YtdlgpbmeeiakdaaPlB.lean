/-
  Rounds, bursts and counts of plans.
-/
import Derived.Test.YtdlgpbmeeiakdaaRows
import Derived.Test.YtdlgpbmeeiakdaaKit
import Derived.Test.YtdlgpbmeeiakdaaApp
import Derived.Test.YtdlgpbmeeiakdaaEv
import Derived.Test.YtdlgpbmeeiakdaaEvP
import Derived.Test.YtdlgpbmeeiakdaaEvQ
import Derived.Test.YtdlgpbmeeiakdaaQuiet
import Derived.Test.YtdlgpbmeeiakdaaPlA
import Derived.WalkKit
import Derived.ProofKit
import Derived.OpenShut
import Derived.ShutString
import Derived.Below
import Derived.Outline
import Derived.WalkLawsBesides
import Derived.WalkSpells
import Derived.Handy
import Derived.Deep.QuietTactic
import Derived.BigQuiet
import Derived.RegionTactic
import Derived.ChangeAlike
import Derived.Lib.Hide
import Derived.Laws.Rows
import Derived.Laws.Tables
import Derived.Laws.CopyOwn
import Derived.Laws.MakeOwn
import Derived.Laws.Entries
import Derived.Laws.OwnMore
import Derived.Deep.WholeRow
import Derived.Deep.LoopGhost
import Derived.Deep.AppendLies
import Derived.Deep.Draws
import Derived.Maps.AppendAt
import Derived.OwnWalk
import Derived.Deep.RegionHeld3
import Derived.Deep.Cut
import Derived.Deep.CutRange
import Derived.Deep.DeepCutAuto
import Derived.Deep.CutBlock
import Derived.Lib.SliceRun
import Derived.IntWalk
namespace Go.Proofs.Ytdlgpbmeeiakdaa
open Go.ChangeShapes Go.WideShapes Go.ChangeAt Go.RowKit
theorem own_shape {w : World} {base : Nat} {e : TypeId} {size : Nat} {v : Value} {n : Nat} {xs : List Value} (h : w.ownsRow base e size v n xs) : ∃ A c, v = .slice A n c := by
  rcases h.2 with ⟨rfl, rfl⟩ | ⟨g, cap, cur, hv, _⟩
  · exact ⟨_, _, rfl⟩
  · exact ⟨_, _, hv⟩
theorem row_kept {w wx : World} {base : Nat} {e : TypeId} {size m : Nat} {v : Value} {xs : List Value} (h : w.ownsRow base e size v m xs) (hb : Below w.heap.size w wx) : wx.ownsRow base e size v m xs := by
  refine ⟨h.1, ?_⟩
  rcases h.2 with h0 | ⟨g, cap, cur, hv, hg, hgh, hr⟩
  · exact .inl h0
  · have hlt : g < w.heap.size := by
      rcases Nat.lt_or_ge g w.heap.size with hlt | hge
      · exact hlt
      · rw [Array.getElem?_eq_none hge] at hgh; cases hgh
    exact .inr ⟨g, cap, cur, hv, hg, (hb.block g hlt).trans hgh, hr⟩

theorem infoE : (Try.prog.info? 67).map (fun i => (i.zero, i.size, i.bytes)) = some (some (.agg #[.int .i64 0, .int .i64 0, .int .i64 0, .int .i64 0, .int .i64 0, .int .i64 0, .int .i64 0, .int .i64 0, .int .i64 0, .int .i64 0, .int .i64 0, .int .i64 0]), 12, 96) := by kernel_rfl
theorem reads_newN (w : World) (n s : Nat) (l : List Value) (t : TypeId) (hl : l.length = n * s) : Reads (w.alloc (.cells l.toArray t)) (w.heap.size + 1) s (some ⟨w.heap.size, 0, none⟩) n l := by
  refine ⟨hl, fun _ => ⟨_, rfl, by show w.heap.size < w.heap.size + 1; omega, fun j u hu => ?_⟩⟩
  have hg := heap_alloc_new w (.cells l.toArray t)
  unfold Addr.add
  by_cases h0 : j = 0
  · subst h0
    simp only [if_true]
    rw [cell_of_row _ _ _ _ _ _ hg]
    simpa using hu
  · simp only [h0, if_false, Nat.zero_add]
    rw [cell_of_row _ _ _ _ _ _ hg]
    simpa using hu
/-- What a call hands back: a row of events of its own. -/
def ERow (B : Nat) (l : List Ev) (w : World) (e : Ending) (w' : World) : Prop := ∃ v, e = .returned v ∧ w'.ownsRow B 67 12 v l.length (evl l) ∧ Below w.heap.size w w'
theorem evc_one (e : Ev) : ∀ u ∈ evc e, u.oneCell' = true := by
  have h := evl_one [e]
  rwa [show evl [e] = evc e from by show evc e ++ [] = _; rw [List.append_nil]] at h
set_option maxRecDepth 100000 in
set_option maxHeartbeats 4000000 in
theorem burst_lt (a n : Int) (N : Nat) (w : World) (hN : (N : Int) = max 0 (n)) (hle : n ≤ 65536) : Calls Try.prog 19 #[.int .i64 a, .int .i64 n] w (ERow w.heap.size (List.replicate N ((3 : Int), a, (0 : Int))) w) := by
  obtain ⟨i0, hi, hz0, hz1, hz2⟩ := info_parts infoE
  have HI := Lib.hid hi
  have HZ0 := Lib.hid hz0
  have HZ1 := Lib.hid hz1
  have HZ2 := Lib.hid hz2
  clear hi hz0 hz1 hz2
  have N0 : N ≤ 65536 := by omega
  have HN := Lib.hid hN
  have HPK := Lib.hid (fun W => pick_is a W)
  clear hN
  go_enter Try.func19, Try.ntmps19
  go_wp2_with fail
  go_loopw [5, 8] (fun v i wr => ∃ k : Nat, k ≤ N ∧ i = .int .i64 (k : Int) ∧ Hid (wr.ownsRow w.heap.size 67 12 v k (evl (List.replicate k ((3 : Int), a, (0 : Int))))) ∧ Below w.heap.size w wr) (fun _ i _ => N + 1 - (intOf i).toNat)
  case atStart => exact ⟨0, Nat.zero_le _, rfl, ⟨rfl, .inl ⟨rfl, rfl⟩⟩, Below.refl _ _⟩
  case round =>
    obtain ⟨k, hk, rfl, HO, hB⟩ := hrel
    have hs := hB.size
    by_cases hlt : k < N
    · have hkM : (k : Int) < n := by have := HN.out; omega
      have HL := Lib.hid (show evl (List.replicate (k + 1) ((3 : Int), a, (0 : Int))) = evl (List.replicate k ((3 : Int), a, (0 : Int))) ++ evc ((3 : Int), a, (0 : Int)) from by rw [List.replicate_succ', evl_snoc])
      go_wp2_with fail
      refine (HPK.out _).mono ?_
      rintro e w2 ⟨rfl, hb2⟩
      have hB2 := Below.step hB hb2
      have hs2 := hB2.size
      have HO2 := Lib.hid (row_kept HO.out hb2)
      clear hb2
      have HR := Lib.hid (reads_newN w2 1 12 (evc ((3 : Int), a, (0 : Int))) 67 rfl)
      have HO1 := Lib.hid (HO2.out.alloc (Obj.cells #[.int .i64 3, .int .i64 a, .int .i64 0, .int .i64 0, .int .i64 0, .int .i64 0, .int .i64 0, .int .i64 0, .int .i64 0, .int .i64 0, .int .i64 0, .int .i64 0] 67))
      have N1 := Lib.hid (show k + 1 ≤ maxLen from by unfold maxLen; omega)
      have N2 := Lib.hid (show (k + 1) * 96 ≤ 140737488355328 from by omega)
      have N3 := Lib.hid (show w.heap.size ≤ (w2.alloc (Obj.cells #[.int .i64 3, .int .i64 a, .int .i64 0, .int .i64 0, .int .i64 0, .int .i64 0, .int .i64 0, .int .i64 0, .int .i64 0, .int .i64 0, .int .i64 0, .int .i64 0] 67)).heap.size from by simp; omega)
      have NV := Lib.hid (evc_one ((3 : Int), a, (0 : Int)))
      have hBA : Below w.heap.size w (w2.alloc (Obj.cells #[.int .i64 3, .int .i64 a, .int .i64 0, .int .i64 0, .int .i64 0, .int .i64 0, .int .i64 0, .int .i64 0, .int .i64 0, .int .i64 0, .int .i64 0, .int .i64 0] 67)) := hB2.alloc hs2 _
      go_wp2_with (at_builtin; refine wpList_append_any _ rfl (.tmp 10) (.tmp 13) 38 rfl w.heap.size 67 i0 (.agg #[.int .i64 0, .int .i64 0, .int .i64 0, .int .i64 0, .int .i64 0, .int .i64 0, .int .i64 0, .int .i64 0, .int .i64 0, .int .i64 0, .int .i64 0, .int .i64 0]) 12 96 Try.underlying38 HI.out HZ0.out HZ1.out HZ2.out rfl (by decide) _ k (evl (List.replicate k ((3 : Int), a, (0 : Int)))) rfl HO1.out _ (some ⟨w2.heap.size, 0, none⟩) 1 1 _ rfl HR.out NV.out N1.out N2.out N3.out ?_; intro v3 w3 hown3 hgrow3 hblk3; have HP := Lib.hid (And.intro hown3 hgrow3); clear hown3 hgrow3 hblk3)
      go_roundw
      case rel => exact ⟨k + 1, by omega, by go_num, by have h := HP.out.1; refine Lib.hid ?_; rw [HL.out]; exact h, Below.grown hBA HP.out.2 (by simp; omega) (fun g e => (HO1.out.lt g e).1)⟩
      case measure => simp [intOf]; omega
    · obtain rfl : k = N := by omega
      have hkM : ¬ (k : Int) < n := by have := HN.out; omega
      have hd : decide ((k : Int) < n) = false := decide_eq_false hkM
      clear hkM
      go_wp2_with fail
      go_ret
      exact ⟨_, rfl, by rw [List.length_replicate]; exact HO.out, hB⟩
set_option maxRecDepth 100000 in
set_option maxHeartbeats 4000000 in
theorem burst_ge (a n : Int) (N : Nat) (w : World) (hN : (N : Int) = max 0 (65536)) (hle : 65536 < n) : Calls Try.prog 19 #[.int .i64 a, .int .i64 n] w (ERow w.heap.size (List.replicate N ((3 : Int), a, (0 : Int))) w) := by
  obtain ⟨i0, hi, hz0, hz1, hz2⟩ := info_parts infoE
  have HI := Lib.hid hi
  have HZ0 := Lib.hid hz0
  have HZ1 := Lib.hid hz1
  have HZ2 := Lib.hid hz2
  clear hi hz0 hz1 hz2
  have N0 : N ≤ 65536 := by omega
  have HN := Lib.hid hN
  have HPK := Lib.hid (fun W => pick_is a W)
  clear hN
  go_enter Try.func19, Try.ntmps19
  go_wp2_with fail
  go_loopw [5, 8] (fun v i wr => ∃ k : Nat, k ≤ N ∧ i = .int .i64 (k : Int) ∧ Hid (wr.ownsRow w.heap.size 67 12 v k (evl (List.replicate k ((3 : Int), a, (0 : Int))))) ∧ Below w.heap.size w wr) (fun _ i _ => N + 1 - (intOf i).toNat)
  case atStart => exact ⟨0, Nat.zero_le _, rfl, ⟨rfl, .inl ⟨rfl, rfl⟩⟩, Below.refl _ _⟩
  case round =>
    obtain ⟨k, hk, rfl, HO, hB⟩ := hrel
    have hs := hB.size
    by_cases hlt : k < N
    · have hkM : (k : Int) < 65536 := by have := HN.out; omega
      have HL := Lib.hid (show evl (List.replicate (k + 1) ((3 : Int), a, (0 : Int))) = evl (List.replicate k ((3 : Int), a, (0 : Int))) ++ evc ((3 : Int), a, (0 : Int)) from by rw [List.replicate_succ', evl_snoc])
      go_wp2_with fail
      refine (HPK.out _).mono ?_
      rintro e w2 ⟨rfl, hb2⟩
      have hB2 := Below.step hB hb2
      have hs2 := hB2.size
      have HO2 := Lib.hid (row_kept HO.out hb2)
      clear hb2
      have HR := Lib.hid (reads_newN w2 1 12 (evc ((3 : Int), a, (0 : Int))) 67 rfl)
      have HO1 := Lib.hid (HO2.out.alloc (Obj.cells #[.int .i64 3, .int .i64 a, .int .i64 0, .int .i64 0, .int .i64 0, .int .i64 0, .int .i64 0, .int .i64 0, .int .i64 0, .int .i64 0, .int .i64 0, .int .i64 0] 67))
      have N1 := Lib.hid (show k + 1 ≤ maxLen from by unfold maxLen; omega)
      have N2 := Lib.hid (show (k + 1) * 96 ≤ 140737488355328 from by omega)
      have N3 := Lib.hid (show w.heap.size ≤ (w2.alloc (Obj.cells #[.int .i64 3, .int .i64 a, .int .i64 0, .int .i64 0, .int .i64 0, .int .i64 0, .int .i64 0, .int .i64 0, .int .i64 0, .int .i64 0, .int .i64 0, .int .i64 0] 67)).heap.size from by simp; omega)
      have NV := Lib.hid (evc_one ((3 : Int), a, (0 : Int)))
      have hBA : Below w.heap.size w (w2.alloc (Obj.cells #[.int .i64 3, .int .i64 a, .int .i64 0, .int .i64 0, .int .i64 0, .int .i64 0, .int .i64 0, .int .i64 0, .int .i64 0, .int .i64 0, .int .i64 0, .int .i64 0] 67)) := hB2.alloc hs2 _
      go_wp2_with (at_builtin; refine wpList_append_any _ rfl (.tmp 10) (.tmp 13) 38 rfl w.heap.size 67 i0 (.agg #[.int .i64 0, .int .i64 0, .int .i64 0, .int .i64 0, .int .i64 0, .int .i64 0, .int .i64 0, .int .i64 0, .int .i64 0, .int .i64 0, .int .i64 0, .int .i64 0]) 12 96 Try.underlying38 HI.out HZ0.out HZ1.out HZ2.out rfl (by decide) _ k (evl (List.replicate k ((3 : Int), a, (0 : Int)))) rfl HO1.out _ (some ⟨w2.heap.size, 0, none⟩) 1 1 _ rfl HR.out NV.out N1.out N2.out N3.out ?_; intro v3 w3 hown3 hgrow3 hblk3; have HP := Lib.hid (And.intro hown3 hgrow3); clear hown3 hgrow3 hblk3)
      go_roundw
      case rel => exact ⟨k + 1, by omega, by go_num, by have h := HP.out.1; refine Lib.hid ?_; rw [HL.out]; exact h, Below.grown hBA HP.out.2 (by simp; omega) (fun g e => (HO1.out.lt g e).1)⟩
      case measure => simp [intOf]; omega
    · obtain rfl : k = N := by omega
      have hkM : ¬ (k : Int) < 65536 := by have := HN.out; omega
      have hd : decide ((k : Int) < 65536) = false := decide_eq_false hkM
      clear hkM
      go_wp2_with fail
      go_ret
      exact ⟨_, rfl, by rw [List.length_replicate]; exact HO.out, hB⟩
theorem burst_is (a n : Int) (N : Nat) (w : World) (hN : (N : Int) = max 0 (min n 65536)) : Calls Try.prog 19 #[.int .i64 a, .int .i64 n] w (ERow w.heap.size (List.replicate N ((3 : Int), a, (0 : Int))) w) := by
  by_cases h : n ≤ 65536
  · exact burst_lt a n N w (by omega) h
  · exact burst_ge a n N w (by omega) (by omega)
set_option maxRecDepth 100000 in
set_option maxHeartbeats 4000000 in
theorem round_is (p c n b r f g : Int) (m k : Nat) (w : World) (hm : (m : Int) = p + 2 * (n * b)) (hnb : 1 ≤ n * b ∧ n * b ≤ 12) (hp : 1 ≤ p ∧ p ≤ 6) (hk64 : k ≤ 64) :
    Calls Try.prog 22 #[.agg #[.int .i64 p, .int .i64 c, .int .i64 n, .int .i64 b, .int .i64 r, .int .i64 f, .int .i64 g], .int .i64 (k : Int)] w (ERow (w.heap.size + 1) (rnd m (k * m)) w) := by
  obtain ⟨i0, hi, hz0, hz1, hz2⟩ := info_parts infoE
  have HI := Lib.hid hi
  have HZ0 := Lib.hid hz0
  have HZ1 := Lib.hid hz1
  have HZ2 := Lib.hid hz2
  clear hi hz0 hz1 hz2
  have HAG := Lib.hid (fun W => show Calls Try.prog 15 #[.agg #[.int .i64 p, .int .i64 c, .int .i64 n, .int .i64 b, .int .i64 r, .int .i64 f, .int .i64 g]] W (fun e w' => e = .returned (.int .i64 (m : Int)) ∧ Below W.heap.size W w') from by rw [hm]; exact agents_i p c n b r f g W hnb hp)
  have HPK := Lib.hid (fun (a : Int) W => pick_is a W)
  have hm1 : 1 ≤ m := by omega
  have hm2 : m ≤ 30 := by omega
  have hmn : min (k : Int) 4096 = (k : Int) := by omega
  have k0 : (0 : Int) ≤ (k : Int) := by omega
  have k1 : (k : Int) ≤ 64 := by omega
  have m0 : (0 : Int) ≤ (m : Int) := by omega
  have m1 : (m : Int) ≤ 30 := by omega
  have bX := Blk7.new w p c n b r f g 25
  have HBX := Lib.hid bX
  clear hm hnb hp bX
  go_enter Try.func22, Try.ntmps22
  go_wp2_with fail
  obtain ⟨W0, hW0⟩ : ∃ W0, W0 = w.alloc (.cells #[.int .i64 p, .int .i64 c, .int .i64 n, .int .i64 b, .int .i64 r, .int .i64 f, .int .i64 g] 25) := ⟨_, rfl⟩
  have hz : W0.heap.size = w.heap.size + 1 := by rw [hW0, World.size_alloc]
  have hBW : Below w.heap.size w W0 := by rw [hW0]; go_grown
  have hBX : Blk7 w.heap.size p c n b r f g W0 := by rw [hW0]; exact HBX.out
  rw [← hW0]
  have HBW := Lib.hid hBW
  have HBX0 := Lib.hid hBX
  have HZW := Lib.hid hz
  clear hW0 hBW hBX hz HBX
  go_loopw [5, 9] (fun v i wr => ∃ q : Nat, q ≤ k ∧ i = .int .i64 (q : Int) ∧ Hid (wr.ownsRow W0.heap.size 67 12 v (q * m) (evl (rnd m (q * m)))) ∧ Below W0.heap.size W0 wr) (fun _ i _ => k + 1 - (intOf i).toNat)
  case atStart => exact ⟨0, Nat.zero_le _, rfl, by rw [Nat.zero_mul]; exact ⟨rfl, .inl ⟨rfl, rfl⟩⟩, Below.refl _ _⟩
  case round =>
    obtain ⟨q, hq, rfl, HO, hB⟩ := hrel
    by_cases hlt : q < k
    · have hBX := (HBX0.out).below hB
      obtain ⟨⟨c0, c1, c2, c3, c4, c5, c6⟩, hlX⟩ := id hBX
      have hqk : (q : Int) < (k : Int) := by omega
      have q0 : (0 : Int) ≤ (q : Int) := by omega
      go_wp2_with fail
      refine (HAG.out _).mono ?_
      rintro e w1 ⟨rfl, hb1⟩
      have hB1 := Below.step hB hb1
      have HO1a := Lib.hid (row_kept HO.out hb1)
      clear hb1 hB HO hBX c0 c1 c2 c3 c4 c5 c6 hlX
      go_wp2_with fail
      go_loopw [5, 13] (fun v i wr => ∃ j : Nat, j ≤ m ∧ i = .int .i64 (j : Int) ∧ Hid (wr.ownsRow W0.heap.size 67 12 v (q * m + j) (evl (rnd m (q * m + j)))) ∧ Below W0.heap.size W0 wr) (fun _ i _ => m + 1 - (intOf i).toNat)
      case atStart => exact ⟨0, Nat.zero_le _, rfl, HO1a, hB1⟩
      case round =>
        clear HO1a hB1
        obtain ⟨j, hj, rfl, HO, hB⟩ := hrel
        by_cases hjm : j < m
        · have hjk : (j : Int) < (m : Int) := by omega
          have j0 : (0 : Int) ≤ (j : Int) := by omega
          have hqm : q * m + j ≤ 2000 := by
            have h2 : q * m ≤ 64 * 30 := Nat.mul_le_mul (by omega) (by omega)
            omega
          have HL := Lib.hid (show evl (rnd m (q * m + (j + 1))) = evl (rnd m (q * m + j)) ++ evc ((3 : Int), (j : Int), (0 : Int)) from by
            show evl (rnd m (q * m + j) ++ [((3 : Int), (((q * m + j) % m : Nat) : Int), (0 : Int))]) = _
            rw [evl_snoc, show (q * m + j) % m = j from by rw [Nat.add_comm (q * m) j, Nat.add_mul_mod_self_right, Nat.mod_eq_of_lt hjm]])
          obtain ⟨T, hT⟩ : ∃ T, T = q * m + j := ⟨_, rfl⟩
          have HT := Lib.hid hT
          rw [← hT] at HO hqm
          rw [← Nat.add_assoc, ← hT] at HL
          clear hT
          go_wp2_with fail
          refine (HPK.out _ _).mono ?_
          rintro e w2 ⟨rfl, hb2⟩
          have hB2 := Below.step hB hb2
          have hs2 := hB2.size
          have HO2 := Lib.hid (row_kept HO.out hb2)
          clear hb2 hB HO
          have HR := Lib.hid (reads_newN w2 1 12 (evc ((3 : Int), (j : Int), (0 : Int))) 67 rfl)
          have HO1 := Lib.hid (HO2.out.alloc (Obj.cells #[.int .i64 3, .int .i64 (j : Int), .int .i64 0, .int .i64 0, .int .i64 0, .int .i64 0, .int .i64 0, .int .i64 0, .int .i64 0, .int .i64 0, .int .i64 0, .int .i64 0] 67))
          have N1 := Lib.hid (show T + 1 ≤ maxLen from by unfold maxLen; omega)
          have N2 := Lib.hid (show (T + 1) * 96 ≤ 140737488355328 from by omega)
          have N3 := Lib.hid (show W0.heap.size ≤ (w2.alloc (Obj.cells #[.int .i64 3, .int .i64 (j : Int), .int .i64 0, .int .i64 0, .int .i64 0, .int .i64 0, .int .i64 0, .int .i64 0, .int .i64 0, .int .i64 0, .int .i64 0, .int .i64 0] 67)).heap.size from by simp; omega)
          have NV := Lib.hid (evc_one ((3 : Int), (j : Int), (0 : Int)))
          have hBA : Below W0.heap.size W0 (w2.alloc (Obj.cells #[.int .i64 3, .int .i64 (j : Int), .int .i64 0, .int .i64 0, .int .i64 0, .int .i64 0, .int .i64 0, .int .i64 0, .int .i64 0, .int .i64 0, .int .i64 0, .int .i64 0] 67)) := hB2.alloc hs2 _
          go_wp2_with (at_builtin; refine wpList_append_any _ rfl (.tmp 16) (.tmp 19) 38 rfl W0.heap.size 67 i0 (.agg #[.int .i64 0, .int .i64 0, .int .i64 0, .int .i64 0, .int .i64 0, .int .i64 0, .int .i64 0, .int .i64 0, .int .i64 0, .int .i64 0, .int .i64 0, .int .i64 0]) 12 96 Try.underlying38 HI.out HZ0.out HZ1.out HZ2.out rfl (by decide) _ T (evl (rnd m T)) rfl HO1.out _ (some ⟨w2.heap.size, 0, none⟩) 1 1 _ rfl HR.out NV.out N1.out N2.out N3.out ?_; intro v3 w3 hown3 hgrow3 hblk3; have HP := Lib.hid (And.intro hown3 hgrow3); clear hown3 hgrow3 hblk3)
          go_roundw
          case rel => exact ⟨j + 1, by omega, by go_num, by have h := HP.out.1; refine Lib.hid ?_; rw [← Nat.add_assoc, ← HT.out, HL.out]; exact h, Below.grown hBA HP.out.2 (by simp; omega) (fun g e => (HO1.out.lt g e).1)⟩
          case measure => simp [intOf]; omega
        · obtain rfl : j = m := by omega
          have hd : decide ((j : Int) < (j : Int)) = false := decide_eq_false (by omega)
          go_wp2_with fail
          go_roundw
          case rel => exact ⟨q + 1, by omega, by go_num, by rw [Nat.add_mul q 1, Nat.one_mul]; exact HO, hB⟩
          case measure => simp [intOf]; omega
    · obtain rfl : q = k := by omega
      have hd : decide ((q : Int) < (q : Int)) = false := decide_eq_false (by omega)
      go_wp2_with fail
      go_ret
      exact ⟨_, rfl, by rw [rnd_len]; have h := HO.out; rw [HZW.out] at h; exact h, HBW.out.trans (hB.mono (by rw [HZW.out]; omega))⟩
end Go.Proofs.Ytdlgpbmeeiakdaa
