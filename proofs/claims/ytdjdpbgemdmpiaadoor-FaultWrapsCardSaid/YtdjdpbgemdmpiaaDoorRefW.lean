/-
  What the document says of wrappings: its Place, its Words; wrapped round nothing.
-/
import Derived.Test.YtdjdpbgemdmpiaaDoorRows
import Derived.Test.YtdjdpbgemdmpiaaDoorKit
import Derived.Test.YtdjdpbgemdmpiaaDoorAsF
import Derived.Test.YtdjdpbgemdmpiaaDoorAsC
import Derived.Test.YtdjdpbgemdmpiaaDoorAsD
import Derived.Test.YtdjdpbgemdmpiaaDoorAsE
import Derived.Test.YtdjdpbgemdmpiaaDoorApp
import Derived.Test.YtdjdpbgemdmpiaaDoorAsG
import Derived.Test.YtdjdpbgemdmpiaaDoorWraps
import Derived.Test.YtdjdpbgemdmpiaaDoorAwake1
import Derived.Test.YtdjdpbgemdmpiaaDoorIsC
import Derived.Deep.Slices
import Derived.Deep.Fields
import Derived.ChangeSame
import Derived.Deep.RegionLaw
import Derived.Deep.AppendLies
import Derived.WalkKit
import Derived.ProofKit
import Derived.OpenShut
import Derived.ShutString
import Derived.Below
import Derived.Outline
import Derived.WalkLawsBesides
import Derived.WalkSpells
import Derived.Handy
import Derived.Deep.QuietTactic
import Derived.BigQuiet
import Derived.RegionTactic
import Derived.ChangeAlike
import Derived.Lib.Hide
import Derived.Deep.LoopGhost
import Derived.Deep.RegionHeld3
import Derived.Deep.Cut
import Derived.Deep.CutRange
import Derived.Deep.DeepCutAuto
import Derived.Deep.CutBlock
import Derived.Deep.RegionLaw
import Derived.LaidEql
import Derived.Stop.Asserts
import Derived.RowKitTokens
import Derived.Defers
import Derived.Recover
namespace Go.Proofs.YtdjdpbgemdmpiaaDoor
open Go.ChangeShapes Go.WideShapes Go.ChangeAt Go.RowKit
theorem wos_append : ∀ a b : List Wr, wos (a ++ b) = wos a ++ wos b
  | [], _ => rfl
  | .pl _ :: a, b => wos_append a b
  | .wo s :: a, b => congrArg (s :: ·) (wos_append a b)
def wrsT (g : Nat → WrV) (k : Nat) : List Wr := (List.range k).map fun i => (g i).wr
theorem wrsT_step (g : Nat → WrV) (k : Nat) : wos (wrsT g (k + 1)) = wos (wrsT g k) ++ (if (g k).p then [] else [(g k).s]) := by
  unfold wrsT
  rw [List.range_succ, List.map_append, wos_append]
  congr 1
  unfold WrV.wr
  show wos [if (g k).p = true then _ else _] = _
  split <;> rfl
theorem wrsF_all (g : Nat → WrV) (len : Nat) : wrsF g len 0 = wrsT g len := by unfold wrsF wrsT; rw [List.drop_zero]
theorem wrsT_len (g : Nat → WrV) (k : Nat) : (wos (wrsT g k)).length ≤ k := by
  have h := wos_len (wrsT g k)
  have h2 : (wrsT g k).length = k := by simp [wrsT]
  omega
set_option maxRecDepth 100000 in
set_option maxHeartbeats 4000000 in
theorem rplace_is (A : Option Addr) (len cap : Nat) (g : Nat → WrV) (w : World) (hA : WrsAt A len g w) (hlen : len ≤ 1000) :
    Calls Tryd.prog 11 #[.slice A len cap] w fun e w' => e = .returned (.tuple #[.int .i64 (plN (wrsF g len 0)), .bool (plB (wrsF g len 0))]) ∧ Below w.heap.size w w' := by
  have HA := Lib.hid hA
  clear hA
  go_enter Tryd.func11, Tryd.ntmps11
  go_wp2_with fail
  go_loopw [4] (fun i wr => ∃ k : Nat, k ≤ len ∧ i = .int .i64 k ∧ Hid (firstPl (wrsF g len 0) = firstPl (wrsF g len k)) ∧ Below w.heap.size w wr) (fun i _ => len + 1 - (intOf i).toNat)
  case atStart => exact ⟨0, Nat.zero_le _, rfl, Lib.hid rfl, Below.refl _ _⟩
  case round =>
    obtain ⟨k, hk, rfl, HF, hB⟩ := hrel
    by_cases hkl : k < len
    · obtain ⟨ad, rfl, hb, hc⟩ := HA.out (by omega)
      obtain ⟨c0, c1, c2⟩ := hc k hkl
      have HST := Lib.hid (wrsF_step g len k hkl)
      clear hc
      have hlt : (ad.add (k * 3)).block < w.heap.size := by rw [block_of_add]; exact hb
      have d0 : wr.cell? (ad.add (k * 3)) = some (.bool (g k).p) := (hB.cell (p := ad.add (k * 3)) hlt).trans c0
      have d1 : wr.cell? ⟨(ad.add (k * 3)).block, (ad.add (k * 3)).off + 1, none⟩ = some (.int .i64 (g k).n) := by
        rw [← add_pos _ 1 (by decide) (World.cell?_spot d0)]
        exact (hB.cell (p := (ad.add (k * 3)).add 1) (by rw [block_of_add]; exact hlt)).trans (by rw [add_of_add]; exact c1)
      have d2 : wr.cell? ⟨(ad.add (k * 3)).block, (ad.add (k * 3)).off + 2, none⟩ = some (.string (g k).s) := by
        rw [← add_pos _ 2 (by decide) (World.cell?_spot d0)]
        exact (hB.cell (p := (ad.add (k * 3)).add 2) (by rw [block_of_add]; exact hlt)).trans (by rw [add_of_add]; exact c2)
      have k0 : (0 : Int) ≤ (k : Int) := by omega
      have k1 : (k : Int) < (len : Int) := by omega
      clear c0 c1 c2
      cases hp : (g k).p with
      | true =>
        rw [hp] at d0
        have HV := Lib.hid (show firstPl (wrsF g len 0) = some (g k).n from by rw [HF.out, HST.out]; unfold WrV.wr; rw [hp]; rfl)
        clear hp
        go_wp2_with fail
        go_ret2
        exact ⟨by unfold plN plB; rw [HV.out]; rfl, hB⟩
      | false =>
        rw [hp] at d0
        have HV := Lib.hid (show firstPl (wrsF g len 0) = firstPl (wrsF g len (k + 1)) from by rw [HF.out, HST.out]; unfold WrV.wr; rw [hp]; rfl)
        clear hp
        go_wp2_with fail
        go_roundw
        case rel => exact ⟨k + 1, by omega, by go_num, HV, hB⟩
        case measure => simp [intOf]; omega
    · obtain rfl : k = len := by omega
      have HV := Lib.hid (show firstPl (wrsF g k 0) = none from by rw [HF.out, wrsF_end]; rfl)
      go_wp2_with fail
      go_ret2
      exact ⟨by unfold plN plB; rw [HV.out]; rfl, hB⟩
set_option maxRecDepth 100000 in
set_option maxHeartbeats 4000000 in
theorem rwords_is (A : Option Addr) (len cap : Nat) (g : Nat → WrV) (w : World) (hA : WrsAt A len g w) (hlen : len ≤ 1000) :
    Calls Tryd.prog 13 #[.slice A len cap] w (WordsIs w (wos (wrsF g len 0))) := by
  obtain ⟨i0, hi, hz0, hz1, hz2⟩ := info_parts infoS
  have HI := Lib.hid hi
  have HZ0 := Lib.hid hz0
  have HZ1 := Lib.hid hz1
  have HZ2 := Lib.hid hz2
  have HA := Lib.hid hA
  clear hA hi hz0 hz1 hz2
  go_enter Tryd.func13, Tryd.ntmps13
  go_wp2_with fail
  go_loopw [3, 4] (fun v i wr => ∃ k : Nat, k ≤ len ∧ i = .int .i64 k ∧ Hid (Strs wr w.heap.size (wos (wrsT g k)) v) ∧ Below w.heap.size w wr) (fun _ i _ => len + 1 - (intOf i).toNat)
  case atStart => exact ⟨0, Nat.zero_le _, rfl, Lib.hid (World.ownsRow_nil _ _ _ _), Below.refl _ _⟩
  case round =>
    obtain ⟨k, hk, rfl, HO, hB⟩ := hrel
    have hs := hB.size
    by_cases hkl : k < len
    · obtain ⟨ad, rfl, hb, hc⟩ := HA.out (by omega)
      obtain ⟨c0, c1, c2⟩ := hc k hkl
      have HST := Lib.hid (wrsT_step g k)
      have HLN := Lib.hid (wrsT_len g k)
      clear hc
      have hlt : (ad.add (k * 3)).block < w.heap.size := by rw [block_of_add]; exact hb
      have d0 : wr.cell? (ad.add (k * 3)) = some (.bool (g k).p) := (hB.cell (p := ad.add (k * 3)) hlt).trans c0
      have d1 : wr.cell? ⟨(ad.add (k * 3)).block, (ad.add (k * 3)).off + 1, none⟩ = some (.int .i64 (g k).n) := by
        rw [← add_pos _ 1 (by decide) (World.cell?_spot d0)]
        exact (hB.cell (p := (ad.add (k * 3)).add 1) (by rw [block_of_add]; exact hlt)).trans (by rw [add_of_add]; exact c1)
      have d2 : wr.cell? ⟨(ad.add (k * 3)).block, (ad.add (k * 3)).off + 2, none⟩ = some (.string (g k).s) := by
        rw [← add_pos _ 2 (by decide) (World.cell?_spot d0)]
        exact (hB.cell (p := (ad.add (k * 3)).add 2) (by rw [block_of_add]; exact hlt)).trans (by rw [add_of_add]; exact c2)
      have k0 : (0 : Int) ≤ (k : Int) := by omega
      have k1 : (k : Int) < (len : Int) := by omega
      clear c0 c1 c2
      cases hp : (g k).p with
      | true =>
        rw [hp] at d0
        have HV := Lib.hid (show wos (wrsT g (k + 1)) = wos (wrsT g k) from by rw [HST.out, hp]; simp)
        clear hp
        go_wp2_with fail
        go_roundw
        case rel => exact ⟨k + 1, by omega, by go_num, by rw [HV.out]; exact HO, hB⟩
        case measure => simp [intOf]; omega
      | false =>
        rw [hp] at d0
        have HV := Lib.hid (show wos (wrsT g (k + 1)) = wos (wrsT g k) ++ [(g k).s] from by rw [HST.out, hp]; simp)
        clear hp
        generalize (g k).s = s at d2 HV
        have HO1 := Lib.hid (World.ownsRow.alloc (w := wr) HO.out (Obj.cells #[.string s] 9))
        have HRD := Lib.hid (reads_str wr s 9)
        have N1 := Lib.hid (show (wos (wrsT g k)).length + 1 ≤ maxLen from by have := HLN.out; unfold maxLen; omega)
        have N2 := Lib.hid (show ((wos (wrsT g k)).length + 1) * 16 ≤ 140737488355328 from by have := HLN.out; omega)
        have N3 := Lib.hid (show w.heap.size ≤ (wr.alloc (Obj.cells #[.string s] 9)).heap.size from by simp; omega)
        have NV := Lib.hid (show ∀ u ∈ ([.string s] : List Value), u.oneCell' = true from by intro u hu; simp only [List.mem_cons, List.not_mem_nil, or_false] at hu; subst hu; rfl)
        have hB2 : Below w.heap.size w (wr.alloc (Obj.cells #[.string s] 9)) := hB.alloc hs _
        go_wp2_with (at_builtin; refine wpList_append_any _ rfl (.tmp 17) (.tmp 23) 31 rfl w.heap.size 9 i0 (.string ⟨#[]⟩) 1 16 Tryd.underlying31 HI.out HZ0.out HZ1.out HZ2.out rfl (by decide) _ (wos (wrsT g k)).length ((wos (wrsT g k)).map Value.string) rfl HO1.out _ (some ⟨wr.heap.size, 0, none⟩) 1 1 [.string s] rfl HRD.out NV.out N1.out N2.out N3.out ?_; intro v3 w3 hown3 hgrow3 hblk3; have HP := Lib.hid (And.intro hown3 hgrow3); clear hown3 hgrow3 hblk3)
        go_roundw
        case rel => exact ⟨k + 1, by omega, by go_num, by rw [HV.out]; refine Lib.hid ?_; unfold Strs; rw [List.length_append, List.map_append]; exact HP.out.1, Below.grown hB2 HP.out.2 (by simp; omega) (fun b e => (HO1.out.lt b e).1)⟩
        case measure => simp [intOf]; omega
    · obtain rfl : k = len := by omega
      have HE := Lib.hid (wrsF_all g k)
      go_wp2_with fail
      go_ret
      refine ⟨_, rfl, ?_, hB⟩
      rw [HE.out]
      exact HO.out
set_option maxRecDepth 100000 in
set_option maxHeartbeats 4000000 in
theorem wrapped_nil (A : Option Addr) (len cap : Nat) (g : Nat → WrV) (w : World) (hA : WrsAt A len g w) (hlen : len ≤ 1000) :
    Calls Tryd.prog 9 #[.slice A len cap, .nilIface] w fun e w' => e = .returned .nilIface ∧ Below w.heap.size w w' := by
  have HA := Lib.hid hA
  clear hA
  go_enter Tryd.func9, Tryd.ntmps9
  go_wp2_with fail
  go_loopg [1, 5] len (fun gk ev i wr => ∃ k : Nat, gk = k ∧ k ≤ len ∧ i = .int .i64 ((k : Int) - 1) ∧ ev = .nilIface ∧ Below w.heap.size w wr)
  case atStart => exact ⟨len, rfl, Nat.le_refl _, rfl, rfl, Below.refl _ _⟩
  case round =>
    obtain ⟨gk, rfl, hk, rfl, rfl, hB⟩ := hrel
    by_cases h0 : gk = 0
    · subst h0
      have hd : ((0 : Nat) : Int) - 1 = -1 := by decide
      rw [hd]
      go_wp2
      go_ret
      exact ⟨rfl, hB⟩
    · obtain ⟨k, rfl⟩ : ∃ k, gk = k + 1 := ⟨gk - 1, by omega⟩
      clear h0
      obtain ⟨ad, rfl, hb, hc⟩ := HA.out (by omega)
      obtain ⟨c0, c1, c2⟩ := hc k (by omega)
      have e1 : ((((k + 1 : Nat) : Int)) - 1) = (k : Int) := by omega
      rw [e1]
      clear hc e1
      have hlt : (ad.add (k * 3)).block < w.heap.size := by rw [block_of_add]; exact hb
      have d0 : wr.cell? (ad.add (k * 3)) = some (.bool (g k).p) := (hB.cell (p := ad.add (k * 3)) hlt).trans c0
      have d1 : wr.cell? ⟨(ad.add (k * 3)).block, (ad.add (k * 3)).off + 1, none⟩ = some (.int .i64 (g k).n) := by
        rw [← add_pos _ 1 (by decide) (World.cell?_spot d0)]
        exact (hB.cell (p := (ad.add (k * 3)).add 1) (by rw [block_of_add]; exact hlt)).trans (by rw [add_of_add]; exact c1)
      have d2 : wr.cell? ⟨(ad.add (k * 3)).block, (ad.add (k * 3)).off + 2, none⟩ = some (.string (g k).s) := by
        rw [← add_pos _ 2 (by decide) (World.cell?_spot d0)]
        exact (hB.cell (p := (ad.add (k * 3)).add 2) (by rw [block_of_add]; exact hlt)).trans (by rw [add_of_add]; exact c2)
      have k0 : (0 : Int) ≤ (k : Int) := by omega
      have k1 : (k : Int) < (len : Int) := by omega
      clear c0 c1 c2
      cases hp : (g k).p with
      | true =>
        rw [hp] at d0
        clear hp
        go_wp2_with fail
        refine (at_nil _ _).mono ?_
        rintro e w2 ⟨rfl, rfl⟩
        go_wp2_with fail
        go_roundg k
        case measure => omega
        case rel => exact ⟨k, rfl, by omega, by go_num, rfl, hB⟩
      | false =>
        rw [hp] at d0
        clear hp
        go_wp2_with fail
        refine (with_nil _ _).mono ?_
        rintro e w2 ⟨rfl, rfl⟩
        go_wp2_with fail
        go_roundg k
        case measure => omega
        case rel => exact ⟨k, rfl, by omega, by go_num, rfl, hB⟩
end Go.Proofs.YtdjdpbgemdmpiaaDoor
