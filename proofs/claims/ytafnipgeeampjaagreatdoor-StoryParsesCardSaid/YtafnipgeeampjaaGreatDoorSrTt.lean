/-
  The document's words of a line.
-/
import Derived.Test.YtafnipgeeampjaaGreatDoorRows
import Derived.Test.YtafnipgeeampjaaGreatDoorKit
import Derived.Test.YtafnipgeeampjaaGreatDoorApp
import Derived.Test.YtafnipgeeampjaaGreatDoorQuiet
import Derived.WalkKit
import Derived.ProofKit
import Derived.OpenShut
import Derived.ShutString
import Derived.Below
import Derived.Outline
import Derived.WalkLawsBesides
import Derived.WalkSpells
import Derived.Handy
import Derived.Deep.QuietTactic
import Derived.BigQuiet
import Derived.RegionTactic
import Derived.ChangeAlike
import Derived.Lib.Hide
import Derived.Laws.Rows
import Derived.Laws.Tables
import Derived.Laws.CopyOwn
import Derived.Laws.MakeOwn
import Derived.Laws.Entries
import Derived.Laws.OwnMore
import Derived.Deep.WholeRow
import Derived.Deep.LoopGhost
import Derived.Deep.AppendLies
import Derived.Deep.Draws
import Derived.Maps.AppendAt
import Derived.OwnWalk
import Derived.Deep.RegionHeld3
import Derived.Deep.Cut
import Derived.Deep.CutRange
import Derived.Deep.DeepCutAuto
import Derived.Deep.CutBlock
import Derived.Lib.SliceRun
import Derived.IntWalk
import Derived.Laws.Strings
import Derived.Lib.Bytealg
import Derived.Lib.Strings
import Derived.Laws.Externs
import Derived.Test.YtafnipgeeampjaaGreatDoorSrA
import Derived.Test.YtafnipgeeampjaaGreatDoorSrK
namespace Go.Proofs.YtafnipgeeampjaaGreatDoor
open Go.ChangeShapes Go.WideShapes Go.ChangeAt Go.RowKit
theorem infoW : (Tryz.prog.info? 51).map (fun i => (i.zero, i.size, i.bytes)) = some (some (.agg #[.string ⟨#[]⟩, .int .i64 0]), 2, 24) := by kernel_rfl
def WoIs (w : World) (l : List Wo) (e : Ending) (w' : World) : Prop := ∃ v, e = .returned v ∧ w'.ownsRow w.heap.size 51 2 v l.length (wv l) ∧ Below w.heap.size w w'
theorem sub_Bs (s : ByteArray) (f i : Nat) (hf : f ≤ i) (hi : i ≤ s.size) : s.extract f i = Bs ((s.data.toList.drop f).take (i - f)) := by
  rw [Lib.extract_eq]; rfl
set_option maxRecDepth 100000 in
set_option maxHeartbeats 4000000 in
theorem wsplit_is (s : ByteArray) (hs : s.size ≤ 100000) (w : World) : Calls Tryz.prog 18 #[.string s] w (WoIs w (wl s.data.toList 0)) := by
  obtain ⟨i0, hi, hz⟩ := Option.map_eq_some_iff.1 infoW
  obtain ⟨hz0, hz1, hz2⟩ : i0.zero = some (.agg #[.string ⟨#[]⟩, .int .i64 0]) ∧ i0.size = 2 ∧ i0.bytes = 24 := by simpa using hz
  have HI := Lib.hid hi
  have HZ0 := Lib.hid hz0
  have HZ1 := Lib.hid hz1
  have HZ2 := Lib.hid hz2
  have HS := Lib.hid (size_len s)
  have H1 := Lib.hid hs
  clear hi hz hz0 hz1 hz2
  go_enter Tryz.func18, Tryz.ntmps18
  go_wp2_with fail
  go_loopw [3, 4, 5] (fun v fr j wr => ∃ (k f : Nat) (d : List Wo), k ≤ s.size + 1 ∧ f ≤ k ∧ (k ≤ s.size → f ≤ s.size) ∧ d.length ≤ k ∧ j = .int .i64 (k : Int) ∧ fr = .int .i64 (f : Int) ∧ Hid (wl s.data.toList 0 = d ++ lft s.data.toList f k ∧ nob s.data.toList f k ∧ wr.ownsRow w.heap.size 51 2 v d.length (wv d) ∧ Below w.heap.size w wr)) (fun _ _ j _ => s.size + 2 - (intOf j).toNat)
  case atStart => exact ⟨0, 0, [], Nat.zero_le _, Nat.le_refl _, fun _ => Nat.zero_le _, Nat.zero_le _, rfl, rfl, Lib.hid ⟨by unfold lft; rw [if_pos (Nat.zero_le _), List.drop_zero]; rfl, nob_new _ _, World.ownsRow_nil _ _ _ _, Below.refl _ _⟩⟩
  case round =>
    obtain ⟨k, f, d, hk, hf, hfs, hd, rfl, rfl, HR⟩ := hrel
    obtain ⟨A2, c2, hv⟩ := oshape HR.out.2.2.1
    subst hv
    have k0 : (0 : Int) ≤ (k : Int) := by omega
    have f0 : (0 : Int) ≤ (f : Int) := by omega
    by_cases hle : k ≤ s.size
    · have q1 : (k : Int) ≤ (s.size : Int) := by omega
      have q2 : (s.size : Int) ≤ 100000 := by have := H1.out; omega
      have q3 : (f : Int) ≤ (k : Int) := by omega
      have Hd := Lib.hid (show d.length ≤ 100001 by have := H1.out; omega)
      have HK := Lib.hid (And.intro hle (And.intro hf (hfs hle)))
      have HDK := Lib.hid hd
      have fs := hfs hle
      by_cases hlt : k < s.size
      · obtain ⟨B, hB⟩ : ∃ B, B = s[k]'hlt := ⟨_, rfl⟩
        have hsk : s[k]'hlt = B := hB.symm
        have hgd : s.data.toList.getD k 0 = B := by rw [hB]; exact (get_bt s k hlt).symm
        have q4 : (k : Int) < (s.size : Int) := by omega
        have q5 : ((k : Int) == (s.size : Int)) = false := beq_eq_false_iff_ne.2 (by omega)
        have HLT := Lib.hid hlt
        by_cases hb : B = 32
        · have HH := Lib.hid (lft_hit s.data.toList f k hf (by rw [HS.out]; exact hlt) HR.out.2.1 (by rw [hgd]; exact hb))
          subst hb
          clear hgd hB hk hd hfs
          have hxt := sub_Bs s f k (by omega) (by omega)
          have HXT := Lib.hid hxt
          clear hxt
          generalize hX : s.extract f k = X at HXT
          have HO1 := Lib.hid (World.ownsRow.alloc (w := wr) HR.out.2.2.1 (Obj.cells #[.string X, .int .i64 (f : Int)] 51))
          have HRD := Lib.hid (reads_newN wr 1 2 [.string X, .int .i64 (f : Int)] 51 rfl)
          have N1 := Lib.hid (show d.length + 1 ≤ maxLen from by have := Hd.out; unfold maxLen; omega)
          have N2 := Lib.hid (show (d.length + 1) * 24 ≤ 140737488355328 from by have := Hd.out; omega)
          have N3 := Lib.hid (show w.heap.size ≤ (wr.alloc (Obj.cells #[.string X, .int .i64 (f : Int)] 51)).heap.size from by have := HR.out.2.2.2.size; simp; omega)
          have NV := Lib.hid (show ∀ u ∈ ([.string X, .int .i64 (f : Int)] : List Value), u.oneCell' = true from by intro u hu; simp only [List.mem_cons, List.not_mem_nil, or_false] at hu; rcases hu with rfl | rfl <;> rfl)
          have hB2 := Lib.hid (show Below w.heap.size w (wr.alloc (Obj.cells #[.string X, .int .i64 (f : Int)] 51)) from HR.out.2.2.2.alloc (HR.out.2.2.2.size) _)
          go_wp2_with (at_builtin; refine wpList_append_any _ rfl (.tmp 22) (.tmp 29) 48 rfl w.heap.size 51 i0 (.agg #[.string ⟨#[]⟩, .int .i64 0]) 2 24 Tryz.underlying48 HI.out HZ0.out HZ1.out HZ2.out rfl (by decide) _ d.length (wv d) rfl HO1.out _ (some ⟨wr.heap.size, 0, none⟩) 1 1 [.string X, .int .i64 (f : Int)] rfl HRD.out NV.out N1.out N2.out N3.out ?_; intro v3 w3 hown3 hgrow3 hblk3; have HP := Lib.hid (And.intro hown3 hgrow3); clear hown3 hgrow3 hblk3)
          go_roundw
          case rel =>
            refine ⟨k + 1, k + 1, d ++ [((s.data.toList.drop f).take (k - f), f)], by have := HK.out; omega, Nat.le_refl _, fun h => h, by have := HDK.out; simp; omega, by go_num, by go_num, Lib.hid ⟨by rw [HR.out.1, HH.out]; simp, nob_new _ _, ?_, Below.grown hB2.out HP.out.2 N3.out (fun b e => (HO1.out.lt b e).1)⟩⟩
            have e1 : (d ++ [((s.data.toList.drop f).take (k - f), f)]).length = d.length + 1 := by simp
            have e2 : wv (d ++ [((s.data.toList.drop f).take (k - f), f)]) = wv d ++ [.string X, .int .i64 (f : Int)] := by rw [wv_app, HXT.out]; rfl
            rw [e1, e2]
            exact HP.out.1
          case measure => first | (have := HK.out; simp [intOf]; omega) | simp [intOf]
        · have HON := Lib.hid (lft_on s.data.toList f k (by rw [HS.out]; exact hlt))
          have HNB := Lib.hid (nob_on s.data.toList f k HR.out.2.1 (by rw [hgd]; exact hb))
          have e5 : ((B.toNat : Int) == 32) = false := beq_eq_false_iff_ne.2 (by
            intro h
            exact hb (UInt8.toNat_inj.1 (show B.toNat = (32 : UInt8).toNat from by show B.toNat = 32; omega)))
          clear hgd hB hk hd hfs hb
          go_wp2_with fail
          go_roundw
          case rel => exact ⟨k + 1, f, d, by have := HK.out; omega, by omega, fun _ => HK.out.2.2, by have := HDK.out; omega, by go_num, rfl, Lib.hid ⟨by rw [HR.out.1, HON.out], HNB.out, HR.out.2.2⟩⟩
          case measure => first | (have := HK.out; simp [intOf]; omega) | simp [intOf]
      · obtain rfl : k = s.size := by omega
        have HLE := Lib.hid (show s.data.toList.length = s.size from HS.out)
        have hh := lft_end s.data.toList f (by rw [HS.out]; exact fs) (by rw [HS.out]; exact HR.out.2.1)
        rw [HS.out] at hh
        have HH := Lib.hid hh
        have htk : s.data.toList.drop f = (s.data.toList.drop f).take (s.size - f) := (List.take_of_length_le (by rw [List.length_drop, HS.out]; omega)).symm
        have HTK := Lib.hid htk
        have q5 : ((s.size : Int) == (s.size : Int)) = true := beq_self_eq_true _
        clear hh htk hk hd hfs hlt
        have hxt := sub_Bs s f s.size (by omega) (by omega)
        have HXT := Lib.hid hxt
        clear hxt
        generalize hX : s.extract f s.size = X at HXT
        have HO1 := Lib.hid (World.ownsRow.alloc (w := wr) HR.out.2.2.1 (Obj.cells #[.string X, .int .i64 (f : Int)] 51))
        have HRD := Lib.hid (reads_newN wr 1 2 [.string X, .int .i64 (f : Int)] 51 rfl)
        have N1 := Lib.hid (show d.length + 1 ≤ maxLen from by have := Hd.out; unfold maxLen; omega)
        have N2 := Lib.hid (show (d.length + 1) * 24 ≤ 140737488355328 from by have := Hd.out; omega)
        have N3 := Lib.hid (show w.heap.size ≤ (wr.alloc (Obj.cells #[.string X, .int .i64 (f : Int)] 51)).heap.size from by have := HR.out.2.2.2.size; simp; omega)
        have NV := Lib.hid (show ∀ u ∈ ([.string X, .int .i64 (f : Int)] : List Value), u.oneCell' = true from by intro u hu; simp only [List.mem_cons, List.not_mem_nil, or_false] at hu; rcases hu with rfl | rfl <;> rfl)
        have hB2 := Lib.hid (show Below w.heap.size w (wr.alloc (Obj.cells #[.string X, .int .i64 (f : Int)] 51)) from HR.out.2.2.2.alloc (HR.out.2.2.2.size) _)
        go_wp2_with (at_builtin; refine wpList_append_any _ rfl (.tmp 22) (.tmp 29) 48 rfl w.heap.size 51 i0 (.agg #[.string ⟨#[]⟩, .int .i64 0]) 2 24 Tryz.underlying48 HI.out HZ0.out HZ1.out HZ2.out rfl (by decide) _ d.length (wv d) rfl HO1.out _ (some ⟨wr.heap.size, 0, none⟩) 1 1 [.string X, .int .i64 (f : Int)] rfl HRD.out NV.out N1.out N2.out N3.out ?_; intro v3 w3 hown3 hgrow3 hblk3; have HP := Lib.hid (And.intro hown3 hgrow3); clear hown3 hgrow3 hblk3)
        go_roundw
        case rel =>
          refine ⟨s.size + 1, s.size + 1, d ++ [(s.data.toList.drop f, f)], by have := HK.out; omega, Nat.le_refl _, fun h => h, by have := HDK.out; simp; omega, by go_num, by go_num, Lib.hid ⟨by rw [HR.out.1, HH.out]; simp, nob_new _ _, ?_, Below.grown hB2.out HP.out.2 N3.out (fun b e => (HO1.out.lt b e).1)⟩⟩
          have e1 : (d ++ [(s.data.toList.drop f, f)]).length = d.length + 1 := by simp
          have e2 : wv (d ++ [(s.data.toList.drop f, f)]) = wv d ++ [.string X, .int .i64 (f : Int)] := by rw [wv_app, HXT.out, ← HTK.out]; rfl
          rw [e1, e2]
          exact HP.out.1
        case measure => first | (have := HK.out; simp [intOf]; omega) | simp [intOf]
    · obtain rfl : k = s.size + 1 := by omega
      have hz : lft s.data.toList f (s.size + 1) = [] := by unfold lft; rw [if_neg (by rw [HS.out]; omega)]
      have HE := Lib.hid (show wl s.data.toList 0 = d by rw [HR.out.1, hz, List.append_nil])
      have q1 : decide ((s.size : Int) + 1 ≤ (s.size : Int)) = false := decide_eq_false (by omega)
      have q2 : decide (((s.size + 1 : Nat) : Int) ≤ (s.size : Int)) = false := decide_eq_false (by omega)
      clear hz hk hd hfs hle
      go_wp2_with fail
      go_ret
      exact ⟨_, rfl, by rw [HE.out]; exact HR.out.2.2.1, HR.out.2.2.2⟩

end Go.Proofs.YtafnipgeeampjaaGreatDoor
