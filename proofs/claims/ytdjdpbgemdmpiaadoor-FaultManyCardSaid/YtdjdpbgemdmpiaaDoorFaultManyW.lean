/-
  FaultMany: the walk.
-/
import Derived.Test.YtdjdpbgemdmpiaaDoorRows
import Derived.Test.YtdjdpbgemdmpiaaDoorKit
import Derived.Test.YtdjdpbgemdmpiaaDoorAsF
import Derived.Test.YtdjdpbgemdmpiaaDoorAsC
import Derived.Test.YtdjdpbgemdmpiaaDoorAsD
import Derived.Test.YtdjdpbgemdmpiaaDoorAsE
import Derived.Test.YtdjdpbgemdmpiaaDoorApp
import Derived.Test.YtdjdpbgemdmpiaaDoorAsG
import Derived.Test.YtdjdpbgemdmpiaaDoorWraps
import Derived.Test.YtdjdpbgemdmpiaaDoorAwake1
import Derived.Test.YtdjdpbgemdmpiaaDoorIsC
import Derived.Lib.SliceRun
import Derived.Test.YtdjdpbgemdmpiaaDoorMany
import Derived.Test.YtdjdpbgemdmpiaaDoorMany2
import Derived.Test.YtdjdpbgemdmpiaaDoorMany3
import Derived.Laws.BitsAllLaws
import Derived.Laws.BitsLemmas
import Derived.IntWalk
import Derived.Deep.Slices
import Derived.Deep.Fields
import Derived.ChangeSame
import Derived.Deep.RegionLaw
import Derived.Deep.AppendLies
import Derived.WalkKit
import Derived.ProofKit
import Derived.OpenShut
import Derived.ShutString
import Derived.Below
import Derived.Outline
import Derived.WalkLawsBesides
import Derived.WalkSpells
import Derived.Handy
import Derived.Deep.QuietTactic
import Derived.BigQuiet
import Derived.RegionTactic
import Derived.ChangeAlike
import Derived.Lib.Hide
import Derived.Deep.LoopGhost
import Derived.Deep.RegionHeld3
import Derived.Deep.Cut
import Derived.Deep.CutRange
import Derived.Deep.DeepCutAuto
import Derived.Deep.CutBlock
import Derived.Deep.RegionLaw
import Derived.LaidEql
import Derived.Stop.Asserts
import Derived.RowKitTokens
import Derived.Defers
import Derived.Recover
namespace Go.Proofs.YtdjdpbgemdmpiaaDoor.faultMany
open Go.ChangeShapes Go.WideShapes Go.ChangeAt Go.RowKit
theorem cell_lt9 {w : World} {a : Addr} {v : Value} (h : w.cell? a = some v) : a.block < w.heap.size := by
  rcases Nat.lt_or_ge a.block w.heap.size with hlt | hge
  · exact hlt
  · have e : w.heap[a.block]? = none := Array.getElem?_eq_none hge
    simp [World.cell?, e] at h
theorem row_of {k : IntKind} {w : World} {a : Option Addr} {len cap : Nat} {zs : List Int} (h : IsRow k w a len cap zs) (t : Nat) (ht : t < len) : ∃ x, a = some x ∧ x.block < w.heap.size ∧ w.cell? (x.add t) = some (.int k (zs.getD t 0)) := by
  rcases h with ⟨_, h0, _⟩ | ⟨x, rfl, hl, hm, hz, hc, hw⟩
  · omega
  · have hcell := hc t (by omega)
    have hlt := cell_lt9 hcell
    rw [block_of_add] at hlt
    exact ⟨x, rfl, hlt, hcell⟩
def Bt (a : Int) (k : Nat) : Int := bits BinOp.and IntKind.u8 (a / 2 ^ (k % 8)) 1
theorem Bt_01 (a : Int) (k : Nat) (h0 : 0 ≤ a) (h1 : a ≤ 255) : Bt a k = 0 ∨ Bt a k = 1 := by
  have hp : (0 : Int) < 2 ^ (k % 8) := Int.pow_pos (by decide)
  have q0 : 0 ≤ a / 2 ^ (k % 8) := Int.ediv_nonneg h0 (Int.le_of_lt hp)
  have q1 : a / 2 ^ (k % 8) ≤ a := Int.ediv_le_self _ h0
  have e : Bt a k = (a / 2 ^ (k % 8)) % 2 := bits_mask .u8 8 (by decide) wraps_u8 1 (by decide) _ q0 (by omega)
  rw [e]
  omega
def E (a : Int) (z : List Int) (k : Nat) : Option Int := if Bt a k = 1 then none else some (z.getD k 0)
def OS (a : Int) (z : List Int) (k : Nat) : List (Option Int) := (List.range k).map (E a z)
def CS (a : Int) (z : List Int) (k : Nat) : List Int := (OS a z k).filterMap id
def F (a : Int) (z : List Int) (k : Nat) : Int := (CS a z k).headD 0
def I (a : Int) (z : List Int) (k : Nat) : Bool := !(CS a z k).isEmpty
def Hs (a : Int) (z : List Int) (d : Int) (k : Nat) : Bool := (CS a z k).any (· == d)
theorem OS_step (a : Int) (z : List Int) (k : Nat) : OS a z (k + 1) = OS a z k ++ [E a z k] := by unfold OS; rw [List.range_succ, List.map_append]; rfl
theorem OS_len (a : Int) (z : List Int) (k : Nat) : (OS a z k).length = k := by simp [OS]
theorem CS_step1 (a : Int) (z : List Int) (k : Nat) (h : Bt a k = 1) : CS a z (k + 1) = CS a z k := by
  unfold CS; rw [OS_step, List.filterMap_append]; unfold E; rw [if_pos h]; simp
theorem CS_step0 (a : Int) (z : List Int) (k : Nat) (h : ¬ Bt a k = 1) : CS a z (k + 1) = CS a z k ++ [z.getD k 0] := by
  unfold CS; rw [OS_step, List.filterMap_append]; unfold E; rw [if_neg h]; simp
theorem CS_mem (a : Int) (z : List Int) (n k : Nat) (hk : k < n) (h : ¬ Bt a k = 1) : z.getD k 0 ∈ CS a z n := by
  unfold CS
  rw [List.mem_filterMap]
  refine ⟨some (z.getD k 0), ?_, rfl⟩
  unfold OS
  rw [List.mem_map]
  exact ⟨k, List.mem_range.2 hk, by unfold E; rw [if_neg h]⟩
theorem CS_len (a : Int) (z : List Int) (k : Nat) : (CS a z k).length ≤ k := by
  have h := List.length_filterMap_le id (OS a z k)
  rw [OS_len] at h
  exact h
theorem FI_new (a : Int) (z : List Int) (k : Nat) (h : ¬ Bt a k = 1) : I a z (k + 1) = true ∧ F a z (k + 1) = if I a z k = true then F a z k else z.getD k 0 := by
  unfold I F
  rw [CS_step0 a z k h]
  cases CS a z k <;> simp
theorem FI_old (a : Int) (z : List Int) (k : Nat) (h : Bt a k = 1) : I a z (k + 1) = I a z k ∧ F a z (k + 1) = F a z k := by
  unfold I F
  rw [CS_step1 a z k h]
  exact ⟨rfl, rfl⟩
theorem H_new (a : Int) (z : List Int) (d : Int) (k : Nat) (h : ¬ Bt a k = 1) : Hs a z d (k + 1) = (Hs a z d k || (z.getD k 0 == d)) := by
  unfold Hs
  rw [CS_step0 a z k h, List.any_append]
  simp
theorem H_old (a : Int) (z : List Int) (d : Int) (k : Nat) (h : Bt a k = 1) : Hs a z d (k + 1) = Hs a z d k := by
  unfold Hs
  rw [CS_step1 a z k h]
theorem EV_grown {wA w3 wz : World} {base k : Nat} {v : Value} {xs : List Value} {os : List (Option Int)} (hr : wA.ownsRow base 25 1 v k xs) (hx : All2 (EV wz) os xs) (h0 : k = 0 → v.ownBlock = none) (hg : wA.grownBy w3 v.ownBlock) {o : Option Int} {y : Value} (h : EV wA o y) : EV w3 o y := by
  rcases h with h | ⟨c, ho, b, v', hy, hb, hc0, hc1, hv'⟩
  · exact .inl h
  · refine .inr ⟨c, ho, ?_⟩
    have hne : some b ≠ v.ownBlock := by
      intro e
      have hk : 0 < k := by
        rcases Nat.eq_zero_or_pos k with hk | hk
        · rw [h0 hk] at e; cases e
        · exact hk
      have hl : xs.length = k := by have := hr.1; omega
      have hx0 : xs[0]? = some (xs[0]'(by omega)) := List.getElem?_eq_getElem (by omega)
      have hcell := World.ownsRow.cells hr (g := b) e.symm 0 _ hx0
      rw [add_zero_of, hc0] at hcell
      obtain ⟨o0, y0, _, h2, h3⟩ := hx.at_ 0 (by rw [hx.1, hl]; exact hk)
      have hyy : y0 = .string ⟨#[119]⟩ := Option.some.inj (h2.symm.trans (hx0.trans hcell.symm))
      rcases h3 with ⟨_, h3⟩ | ⟨c', _, h3⟩
      · rw [hyy] at h3; cases h3
      · obtain ⟨T, x, h4⟩ := h3.iface
        rw [hyy] at h4; cases h4
    have hblk := hg.block b hb hne
    exact ⟨b, v', hy, Nat.lt_of_lt_of_le hb hg.size, (World.cell?_of_block (a := ⟨b, 0, none⟩) hblk).trans hc0, (World.cell?_of_block (a := ⟨b, 1, none⟩) hblk).trans hc1, hv'⟩
set_option maxRecDepth 100000 in
set_option maxHeartbeats 8000000 in
theorem walk (a0 : Option Addr) (len0 cap0 : Nat) (z0 : List Int) (a1 : Int) (a2 : Int) (w : World) (hg : w.cell? ⟨0, 0, none⟩ = some (.iface 127 (.agg #[.pointer (some ⟨1, 25, none⟩)]))) (hgl : 0 < w.heap.size) (w0 : IsRow .i64 w a0 len0 cap0 z0) (w1 : (Lit.int .u8 a1).wf = true) (w2 : (Lit.int .i64 a2).wf = true) :
    Calls Tryd.prog 4 #[.slice a0 len0 cap0, .int .u8 a1, .int .i64 a2] w fun e w' => e = .returned (.bool true) ∧ Below w.heap.size w w' := by
  have HG0 := Lib.hid hg
  have hl0 := hgl
  have HW := Lib.hid w0
  have hwf := w1
  simp [Lit.wf, show IntKind.u8.min = 0 from by decide, show IntKind.u8.max = 255 from by decide] at hwf
  obtain ⟨ha0, ha1⟩ := hwf
  clear hg w0 w1 w2
  by_cases hl : (30 : Int) < (len0 : Int)
  · go_enter Tryd.func4, Tryd.ntmps4
    go_wp2_with fail
    refine (awake01 _ HG0.out hl0).mono ?_
    rintro e w2 ⟨rfl, hb2⟩
    go_wp2
    go_ret
    exact ⟨rfl, hb2⟩
  obtain ⟨i0, hi0, hz0, hz1, hz2⟩ := info_parts infoE
  have HI := Lib.hid hi0
  have HZ0 := Lib.hid hz0
  have HZ1 := Lib.hid hz1
  have HZ2 := Lib.hid hz2
  have HLEN := Lib.hid (show len0 ≤ 30 by omega)
  clear hi0 hz0 hz1 hz2
  go_enter Tryd.func4, Tryd.ntmps4
  go_wp2_with fail
  go_loopg [7, 8, 9, 23] len0 (fun gk v f b i wr => ∃ (k : Nat) (xs : List Value), gk = len0 - k ∧ k ≤ len0 ∧ i = .int .i64 k ∧ f = .int .i64 (F a1 z0 k) ∧ b = .bool (I a1 z0 k) ∧ Hid (wr.ownsRow w.heap.size 25 1 v k xs ∧ All2 (EV wr) (OS a1 z0 k) xs ∧ (k = 0 → v.ownBlock = none)) ∧ Below w.heap.size w wr)
  case atStart => exact ⟨0, [], rfl, Nat.zero_le _, rfl, rfl, rfl, Lib.hid ⟨World.ownsRow_nil _ _ _ _, All2.nil _, fun _ => rfl⟩, Below.refl _ _⟩
  case round =>
    obtain ⟨k, xs, rfl, hk, rfl, rfl, rfl, HO, hB⟩ := hrel
    by_cases hkl : k < len0
    · obtain ⟨x, rfl, hxb, hxc⟩ := row_of HW.out k hkl
      have d0 := (hB.cell (p := x.add k) (by rw [block_of_add]; exact hxb)).trans hxc
      have k0 : (0 : Int) ≤ (k : Int) := by omega
      have k1 : (k : Int) < (len0 : Int) := by omega
      have k2 : (k : Int) ≤ 30 := by omega
      have HM := Lib.hid (show len0 - (k + 1) < len0 - k by omega)
      have HK := Lib.hid hkl
      have N1 := Lib.hid (show k + 1 ≤ maxLen from by unfold maxLen; omega)
      have N2 := Lib.hid (show (k + 1) * 16 ≤ 140737488355328 from by omega)
      have HBT := Lib.hid (Bt_01 a1 k ha0 ha1)
      clear hxc
      by_cases hbt : Bt a1 k = 1
      · have hb1 : (bits BinOp.and IntKind.u8 (a1 / 2 ^ (k % 8)) 1 == 1) = true := by show (Bt a1 k == 1) = true; rw [hbt]; rfl
        have HFI := Lib.hid (FI_old a1 z0 k hbt)
        have HOS := Lib.hid (show OS a1 z0 (k + 1) = OS a1 z0 k ++ [none] from by rw [OS_step]; unfold E; rw [if_pos hbt])
        clear hbt
        have HRW := Lib.hid HO.out.1
        have HBX := Lib.hid hB
        have HO1 := Lib.hid (World.ownsRow.alloc (w := wr) HRW.out (Obj.cells #[.nilIface] 25))
        have HRD := Lib.hid (reads_err wr (.nilIface) 25)
        have N3 := Lib.hid (show w.heap.size ≤ (wr.alloc (Obj.cells #[.nilIface] 25)).heap.size from by have := HBX.out.size; rw [World.size_alloc]; omega)
        have NV := Lib.hid (show ∀ u ∈ ([.nilIface] : List Value), u.oneCell' = true from by intro u hu; simp only [List.mem_cons, List.not_mem_nil, or_false] at hu; subst hu; rfl)
        have HB2 := Lib.hid (show Below w.heap.size w (wr.alloc (Obj.cells #[.nilIface] 25)) from HBX.out.alloc HBX.out.size _)
        go_wp2_with (at_builtin; refine wpList_append_any _ rfl (.tmp 34) (.tmp 35) 39 rfl w.heap.size 25 i0 .nilIface 1 16 Tryd.underlying39 HI.out HZ0.out HZ1.out HZ2.out rfl (by decide) _ k xs rfl HO1.out _ (some ⟨wr.heap.size, 0, none⟩) 1 1 [.nilIface] rfl HRD.out NV.out N1.out N2.out N3.out ?_; intro v3 w3 hown3 hgrow3 hblk3; have HP := Lib.hid (And.intro hown3 hgrow3); clear hown3 hgrow3 hblk3)
        go_roundg (len0 - (k + 1))
        case measure => exact HM.out
        case rel => exact ⟨k + 1, xs ++ [.nilIface], rfl, HK.out, by go_num, by rw [HFI.out.2], by rw [HFI.out.1], by
          have hb4 : Below wr.heap.size wr (wr.alloc (Obj.cells #[.nilIface] 25)) := by go_grown
          refine Lib.hid ⟨HP.out.1, ?_, fun h => by omega⟩
          rw [HOS.out]
          exact (HO.out.2.1.mono fun o y h => EV_grown HO1.out HO.out.2.1 HO.out.2.2 HP.out.2 (h.below hb4)).snoc none .nilIface (.inl ⟨rfl, rfl⟩), Below.grown HB2.out HP.out.2 (by simp; have := HBX.out.size; omega) (fun b e => (HO1.out.lt b e).1)⟩
      · have hb1 : (bits BinOp.and IntKind.u8 (a1 / 2 ^ (k % 8)) 1 == 1) = false := by show (Bt a1 k == 1) = false; rw [beq_eq_false_iff_ne]; exact hbt
        have HFI := Lib.hid (FI_new a1 z0 k hbt)
        have HOS := Lib.hid (show OS a1 z0 (k + 1) = OS a1 z0 k ++ [some (z0.getD k 0)] from by rw [OS_step]; unfold E; rw [if_neg hbt])
        clear hbt
        generalize z0.getD k 0 = z at d0 HFI HOS
        cases hI : I a1 z0 k with
        | true =>
          have HFN := Lib.hid (show F a1 z0 (k + 1) = F a1 z0 k from by rw [HFI.out.2, hI]; rfl)
          clear hI
          go_wp2_with fail
          refine (with_ch ⟨#[119]⟩ [] z _ _ rfl).mono ?_
          rintro e w2 ⟨v2, rfl, hc2, hb2⟩
          obtain ⟨T', x', hx'⟩ := hc2.iface
          subst hx'
          have HC2 := Lib.hid hc2
          have HBW := Lib.hid hb2
          have HBX := Lib.hid (Below.step hB hb2)
          have HRW := Lib.hid (row_kept HO.out.1 hb2)
          clear hc2 hb2
          have HO1 := Lib.hid (World.ownsRow.alloc (w := w2) HRW.out (Obj.cells #[.iface T' x'] 25))
          have HRD := Lib.hid (reads_err w2 (.iface T' x') 25)
          have N3 := Lib.hid (show w.heap.size ≤ (w2.alloc (Obj.cells #[.iface T' x'] 25)).heap.size from by have := HBX.out.size; rw [World.size_alloc]; omega)
          have NV := Lib.hid (show ∀ u ∈ ([.iface T' x'] : List Value), u.oneCell' = true from by intro u hu; simp only [List.mem_cons, List.not_mem_nil, or_false] at hu; subst hu; rfl)
          have HB2 := Lib.hid (show Below w.heap.size w (w2.alloc (Obj.cells #[.iface T' x'] 25)) from HBX.out.alloc HBX.out.size _)
          go_wp2_with (at_builtin; refine wpList_append_any _ rfl (.tmp 40) (.tmp 44) 39 rfl w.heap.size 25 i0 .nilIface 1 16 Tryd.underlying39 HI.out HZ0.out HZ1.out HZ2.out rfl (by decide) _ k xs rfl HO1.out _ (some ⟨w2.heap.size, 0, none⟩) 1 1 [.iface T' x'] rfl HRD.out NV.out N1.out N2.out N3.out ?_; intro v3 w3 hown3 hgrow3 hblk3; have HP := Lib.hid (And.intro hown3 hgrow3); clear hown3 hgrow3 hblk3)
          go_roundg (len0 - (k + 1))
          case measure => exact HM.out
          case rel => exact ⟨k + 1, xs ++ [.iface T' x'], rfl, HK.out, by go_num, by rw [HFN.out], by rw [HFI.out.1], by
            have hb4 : Below w2.heap.size w2 (w2.alloc (Obj.cells #[.iface T' x'] 25)) := by go_grown
            refine Lib.hid ⟨HP.out.1, ?_, fun h => by omega⟩
            rw [HOS.out]
            exact (HO.out.2.1.mono fun o y h => EV_grown HO1.out HO.out.2.1 HO.out.2.2 HP.out.2 (h.below (Below.step HBW.out hb4))).snoc (some z) _ (EV_grown HO1.out HO.out.2.1 HO.out.2.2 HP.out.2 (.inr ⟨z, rfl, HC2.out.below hb4⟩)), Below.grown HB2.out HP.out.2 (by have := HBX.out.size; rw [World.size_alloc]; omega) (fun b e => (HO1.out.lt b e).1)⟩
        | false =>
          have HFN := Lib.hid (show F a1 z0 (k + 1) = z from by rw [HFI.out.2, hI]; rfl)
          clear hI
          go_wp2_with fail
          refine (with_ch ⟨#[119]⟩ [] z _ _ rfl).mono ?_
          rintro e w2 ⟨v2, rfl, hc2, hb2⟩
          obtain ⟨T', x', hx'⟩ := hc2.iface
          subst hx'
          have HC2 := Lib.hid hc2
          have HBW := Lib.hid hb2
          have HBX := Lib.hid (Below.step hB hb2)
          have HRW := Lib.hid (row_kept HO.out.1 hb2)
          clear hc2 hb2
          have HO1 := Lib.hid (World.ownsRow.alloc (w := w2) HRW.out (Obj.cells #[.iface T' x'] 25))
          have HRD := Lib.hid (reads_err w2 (.iface T' x') 25)
          have N3 := Lib.hid (show w.heap.size ≤ (w2.alloc (Obj.cells #[.iface T' x'] 25)).heap.size from by have := HBX.out.size; rw [World.size_alloc]; omega)
          have NV := Lib.hid (show ∀ u ∈ ([.iface T' x'] : List Value), u.oneCell' = true from by intro u hu; simp only [List.mem_cons, List.not_mem_nil, or_false] at hu; subst hu; rfl)
          have HB2 := Lib.hid (show Below w.heap.size w (w2.alloc (Obj.cells #[.iface T' x'] 25)) from HBX.out.alloc HBX.out.size _)
          go_wp2_with (at_builtin; refine wpList_append_any _ rfl (.tmp 40) (.tmp 44) 39 rfl w.heap.size 25 i0 .nilIface 1 16 Tryd.underlying39 HI.out HZ0.out HZ1.out HZ2.out rfl (by decide) _ k xs rfl HO1.out _ (some ⟨w2.heap.size, 0, none⟩) 1 1 [.iface T' x'] rfl HRD.out NV.out N1.out N2.out N3.out ?_; intro v3 w3 hown3 hgrow3 hblk3; have HP := Lib.hid (And.intro hown3 hgrow3); clear hown3 hgrow3 hblk3)
          go_roundg (len0 - (k + 1))
          case measure => exact HM.out
          case rel => exact ⟨k + 1, xs ++ [.iface T' x'], rfl, HK.out, by go_num, by rw [HFN.out], by rw [HFI.out.1], by
            have hb4 : Below w2.heap.size w2 (w2.alloc (Obj.cells #[.iface T' x'] 25)) := by go_grown
            refine Lib.hid ⟨HP.out.1, ?_, fun h => by omega⟩
            rw [HOS.out]
            exact (HO.out.2.1.mono fun o y h => EV_grown HO1.out HO.out.2.1 HO.out.2.2 HP.out.2 (h.below (Below.step HBW.out hb4))).snoc (some z) _ (EV_grown HO1.out HO.out.2.1 HO.out.2.2 HP.out.2 (.inr ⟨z, rfl, HC2.out.below hb4⟩)), Below.grown HB2.out HP.out.2 (by have := HBX.out.size; rw [World.size_alloc]; omega) (fun b e => (HO1.out.lt b e).1)⟩
    · have hkk : k = len0 := by omega
      subst hkk
      have HB0 := Lib.hid hB
      have HG1 := Lib.hid ((hB.cell (p := ⟨0, 0, none⟩) hl0).trans HG0.out)
      have hl1 := Nat.lt_of_lt_of_le hl0 hB.size
      have hxl : xs.length = k := by have := HO.out.1.1; omega
      have ho1 := HO.out.1
      obtain ⟨A1, c1, hv⟩ := own_shape ho1
      subst hv
      have HES := Lib.hid (show ESl wr A1 xs from fun h => by
        obtain ⟨g, hg, hr⟩ := erow_own ho1 (by omega)
        exact ⟨g, hg, hr⟩)
      have HAL := Lib.hid (show Calls Tryd.prog 18 #[.slice A1 k c1] wr (AllIs wr (CS a1 z0 k)) from by have h := all_is (OS a1 z0 k) xs A1 c1 wr HO.out.2.1 HES.out (by omega); rw [hxl] at h; exact h)
      have HOX := HO
      clear ho1
      go_wp2_with fail
      refine HAL.out.mono ?_
      rintro e w1 ⟨ve, rfl, hve, hb1⟩
      have HVE := Lib.hid hve
      have HFI2 := Lib.hid (show Calls Tryd.prog 19 #[.slice A1 k c1] w1 (FirstIs w1 (CS a1 z0 k)) from by
        have h := first_is (OS a1 z0 k) xs A1 c1 w1 (HOX.out.2.1.mono fun o y h => h.below hb1) (fun h0 => by obtain ⟨g, hg, hr⟩ := HES.out h0; exact ⟨g, hg, hr.below hb1⟩) (by omega)
        rw [hxl] at h
        exact h)
      have HB1 := Lib.hid (Below.step HB0.out hb1)
      have HG2 := Lib.hid ((hb1.cell (p := ⟨0, 0, none⟩) hl1).trans HG1.out)
      have hl2 := Nat.lt_of_lt_of_le hl1 hb1.size
      clear hve hb1
      go_wp2_with fail
      refine HFI2.out.mono ?_
      rintro e w2 ⟨vf, rfl, hvf, hb2⟩
      have HVF := Lib.hid (show (CS a1 z0 k = [] ∧ vf = .nilIface) ∨ ∃ c cr, CS a1 z0 k = c :: cr ∧ Ch w2 c [.wo ⟨#[119]⟩] vf from hvf.imp id fun ⟨c, cr, h1, h2⟩ => ⟨c, cr, h1, h2.below hb2⟩)
      have HB2 := Lib.hid (Below.step HB1.out hb2)
      have HG3 := Lib.hid ((hb2.cell (p := ⟨0, 0, none⟩) hl2).trans HG2.out)
      have hl3 := Nat.lt_of_lt_of_le hl2 hb2.size
      have HVE2 := Lib.hid (show (CS a1 z0 k = [] ∧ ve = .nilIface) ∨ Sev w2 (CS a1 z0 k) ve from HVE.out.imp id fun h => h.below hb2)
      clear hvf hb2
      have HSL := Lib.hid (CS_len a1 z0 k)
      have HIF := Lib.hid (show I a1 z0 k = !(CS a1 z0 k).isEmpty ∧ F a1 z0 k = (CS a1 z0 k).headD 0 from ⟨rfl, rfl⟩)
      have HMEM := Lib.hid (fun j (hj : j < k) h => CS_mem a1 z0 k j hj h)
      have HHS := Lib.hid (show Hs a1 z0 a2 k = (CS a1 z0 k).any (· == a2) from rfl)
      clear HAL HFI2 HES HOX HO HVE
      generalize CS a1 z0 k = cs at HVE2 HVF HSL HIF HMEM HHS
      cases cs with
      | nil =>
        obtain rfl : ve = .nilIface := by
          rcases HVE2.out with ⟨_, h⟩ | h
          · exact h
          · obtain ⟨_, _, _, _, _, _, _, _, _, h⟩ := h
            exact absurd rfl h
        obtain rfl : vf = .nilIface := by
          rcases HVF.out with ⟨_, h⟩ | ⟨_, _, h, _⟩
          · exact h
          · cases h
        have hI : I a1 z0 k = false := HIF.out.1
        rw [hI]
        clear hI HVE2 HVF HIF HMEM HHS
        go_wp2_with fail
        refine (awake01 _ HG3.out hl3).mono ?_
        rintro e w5 ⟨rfl, hb5⟩
        have HB5 := Lib.hid (Below.step HB2.out hb5)
        clear hb5
        go_wp2
        go_ret
        exact ⟨rfl, HB5.out⟩
      | cons c0 cr =>
        have hse : Sev w2 (c0 :: cr) ve := by
          rcases HVE2.out with ⟨h, _⟩ | h
          · cases h
          · exact h
        have hfe : Ch w2 c0 [.wo ⟨#[119]⟩] vf := by
          rcases HVF.out with ⟨h, _⟩ | ⟨c', cr', h, h2⟩
          · cases h
          · obtain rfl : c0 = c' := (List.cons.inj h).1
            exact h2
        obtain ⟨xe, hx⟩ := hse.iface
        subst hx
        obtain ⟨Tf, xf, hx⟩ := hfe.iface
        subst hx
        have HSE := Lib.hid hse
        have HFE := Lib.hid hfe
        have hI : I a1 z0 k = true := HIF.out.1
        have hF : F a1 z0 k = c0 := HIF.out.2
        have HN100 := Lib.hid (show (c0 :: cr).length ≤ 100 from by have := HSL.out; have := HLEN.out; omega)
        rw [hI, hF]
        clear hI hF HVE2 HVF HIF hse hfe HSL
        go_wp2_with fail
        go_loopg [14, 64] k (fun gk b i wr => ∃ j : Nat, gk = k - j ∧ j ≤ k ∧ i = .int .i64 j ∧ b = .bool (Hs a1 z0 a2 j) ∧ Below w2.heap.size w2 wr)
        case atStart => exact ⟨0, rfl, Nat.zero_le _, rfl, rfl, Below.refl _ _⟩
        case round =>
          obtain ⟨j, rfl, hj, rfl, rfl, hB3⟩ := hrel
          by_cases hjk : j < k
          · obtain ⟨x, rfl, hxb, hxc⟩ := row_of HW.out j hjk
            have HBX := Lib.hid (Below.step HB2.out hB3)
            have d0 := (HBX.out.cell (p := x.add j) (by rw [block_of_add]; exact hxb)).trans hxc
            have k0 : (0 : Int) ≤ (j : Int) := by omega
            have k1 : (j : Int) < (k : Int) := by omega
            have k2 : (j : Int) ≤ 30 := by have := HLEN.out; omega
            have HM := Lib.hid (show k - (j + 1) < k - j by omega)
            have HK := Lib.hid hjk
            have HBT := Lib.hid (Bt_01 a1 j ha0 ha1)
            clear hxc
            by_cases hbt : Bt a1 j = 1
            · have hb1 : (bits BinOp.and IntKind.u8 (a1 / 2 ^ (j % 8)) 1 == 0) = false := by show (Bt a1 j == 0) = false; rw [hbt]; rfl
              have HH := Lib.hid (H_old a1 z0 a2 j hbt)
              clear hbt
              go_wp2_with fail
              go_roundg (k - (j + 1))
              case measure => exact HM.out
              case rel => exact ⟨j + 1, rfl, HK.out, by go_num, by rw [HH.out], hB3⟩
            · have hb0 : Bt a1 j = 0 := by rcases HBT.out with h | h; exact h; exact absurd h hbt
              have hb1 : (bits BinOp.and IntKind.u8 (a1 / 2 ^ (j % 8)) 1 == 0) = true := by show (Bt a1 j == 0) = true; rw [hb0]; rfl
              have HH := Lib.hid (H_new a1 z0 a2 j hbt)
              have HIN := Lib.hid (HMEM.out j hjk hbt)
              clear hbt hb0
              generalize z0.getD j 0 = z at d0 HH HIN
              have HANY := Lib.hid (show (c0 :: cr).any (· == z) = true from List.any_eq_true.2 ⟨z, HIN.out, by simp⟩)
              have HHS3 := Lib.hid (show Calls Tryd.prog 15 #[.iface 101 xe, .int .i64 z] wr (Hit wr true) from by
                have h := has_sev (c0 :: cr) z _ wr (HSE.out.below hB3) HN100.out
                rw [HANY.out] at h
                exact h)
              cases hh : Hs a1 z0 a2 j with
              | true =>
                have HHN := Lib.hid (show Hs a1 z0 a2 (j + 1) = true from by rw [HH.out, hh]; rfl)
                clear hh
                go_wp2_with fail
                refine HHS3.out.mono ?_
                rintro e w5 ⟨rfl, hb5⟩
                have HB5 := Lib.hid (Below.step hB3 hb5)
                clear hb5
                go_wp2_with fail
                go_roundg (k - (j + 1))
                case measure => exact HM.out
                case rel => exact ⟨j + 1, rfl, HK.out, by go_num, by rw [HHN.out], HB5.out⟩
              | false =>
                have HHN := Lib.hid (show Hs a1 z0 a2 (j + 1) = (z == a2) from by rw [HH.out, hh]; rfl)
                clear hh
                go_wp2_with fail
                refine HHS3.out.mono ?_
                rintro e w5 ⟨rfl, hb5⟩
                have HB5 := Lib.hid (Below.step hB3 hb5)
                clear hb5
                go_wp2_with fail
                go_roundg (k - (j + 1))
                case measure => exact HM.out
                case rel => exact ⟨j + 1, rfl, HK.out, by go_num, by rw [HHN.out], HB5.out⟩
          · obtain rfl : j = k := by omega
            have HB5 := Lib.hid (Below.step HB2.out hB3)
            have HG5 := Lib.hid ((hB3.cell (p := ⟨0, 0, none⟩) hl3).trans HG3.out)
            have hl5 := Nat.lt_of_lt_of_le hl3 hB3.size
            have HSE5 := Lib.hid (HSE.out.below hB3)
            have HFE5 := Lib.hid (HFE.out.below hB3)
            have hHs := HHS.out
            rw [hHs]
            obtain ⟨BB, hBB⟩ : ∃ BB, BB = (c0 :: cr).any (· == a2) := ⟨_, rfl⟩
            rw [← hBB]
            have HBBs := Lib.hid hBB
            clear hB3 hHs hBB
            go_wp2_with fail
            refine (awake01 _ HG5.out hl5).mono ?_
            rintro e w6 ⟨rfl, hb6⟩
            have HB6 := Lib.hid (Below.step HB5.out hb6)
            have HG6 := Lib.hid ((hb6.cell (p := ⟨0, 0, none⟩) hl5).trans HG5.out)
            have hl6 := Nat.lt_of_lt_of_le hl5 hb6.size
            have HSE6 := Lib.hid (HSE5.out.below hb6)
            have HFE6 := Lib.hid (HFE5.out.below hb6)
            clear hb6
            go_wp2_with fail
            refine (show Calls Tryd.prog 15 #[.iface 101 xe, .int .i64 a2] w6 (Hit w6 BB) from by rw [HBBs.out]; exact has_sev (c0 :: cr) a2 _ w6 HSE6.out HN100.out).mono ?_
            rintro e w7 ⟨rfl, hb7⟩
            have HB7 := Lib.hid (Below.step HB6.out hb7)
            have HG7 := Lib.hid ((hb7.cell (p := ⟨0, 0, none⟩) hl6).trans HG6.out)
            have hl7 := Nat.lt_of_lt_of_le hl6 hb7.size
            have HSE7 := Lib.hid (HSE6.out.below hb7)
            have HFE7 := Lib.hid (HFE6.out.below hb7)
            clear hb7
            go_wp2_with fail
            refine (code_sev c0 cr _ _ HSE7.out HN100.out HG7.out hl7).mono ?_
            rintro e w8 ⟨rfl, hb8⟩
            have HB8 := Lib.hid (Below.step HB7.out hb8)
            have HG8 := Lib.hid ((hb8.cell (p := ⟨0, 0, none⟩) hl7).trans HG7.out)
            have hl8 := Nat.lt_of_lt_of_le hl7 hb8.size
            have HFE8 := Lib.hid (HFE7.out.below hb8)
            clear hb8
            go_wp2_with fail
            refine (code_is _ c0 _ _ HFE8.out HG8.out hl8).mono ?_
            rintro e w9 ⟨rfl, hb9⟩
            have HB9 := Lib.hid (Below.step HB8.out hb9)
            clear hb9
            go_wp2_with fail
            go_ret
            exact ⟨rfl, HB9.out⟩
end Go.Proofs.YtdjdpbgemdmpiaaDoor.faultMany
