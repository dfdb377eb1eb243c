/-
  All, First of errors, by contracts.
-/
import Derived.Test.YtdjdpbgemdmpiaaDoorRows
import Derived.Test.YtdjdpbgemdmpiaaDoorKit
import Derived.Test.YtdjdpbgemdmpiaaDoorAsF
import Derived.Test.YtdjdpbgemdmpiaaDoorAsC
import Derived.Test.YtdjdpbgemdmpiaaDoorAsD
import Derived.Test.YtdjdpbgemdmpiaaDoorAsE
import Derived.Test.YtdjdpbgemdmpiaaDoorApp
import Derived.Test.YtdjdpbgemdmpiaaDoorAsG
import Derived.Test.YtdjdpbgemdmpiaaDoorWraps
import Derived.Test.YtdjdpbgemdmpiaaDoorAwake1
import Derived.Test.YtdjdpbgemdmpiaaDoorIsC
import Derived.Lib.SliceRun
import Derived.Test.YtdjdpbgemdmpiaaDoorMany
import Derived.Test.YtdjdpbgemdmpiaaDoorMany2
import Derived.Deep.Slices
import Derived.Deep.Fields
import Derived.ChangeSame
import Derived.Deep.RegionLaw
import Derived.Deep.AppendLies
import Derived.WalkKit
import Derived.ProofKit
import Derived.OpenShut
import Derived.ShutString
import Derived.Below
import Derived.Outline
import Derived.WalkLawsBesides
import Derived.WalkSpells
import Derived.Handy
import Derived.Deep.QuietTactic
import Derived.BigQuiet
import Derived.RegionTactic
import Derived.ChangeAlike
import Derived.Lib.Hide
import Derived.Deep.LoopGhost
import Derived.Deep.RegionHeld3
import Derived.Deep.Cut
import Derived.Deep.CutRange
import Derived.Deep.DeepCutAuto
import Derived.Deep.CutBlock
import Derived.Deep.RegionLaw
import Derived.LaidEql
import Derived.Stop.Asserts
import Derived.RowKitTokens
import Derived.Defers
import Derived.Recover
namespace Go.Proofs.YtdjdpbgemdmpiaaDoor
open Go.ChangeShapes Go.WideShapes Go.ChangeAt Go.RowKit
/-- An error that may be none. -/
def EV (w : World) (o : Option Int) (v : Value) : Prop := (o = none ∧ v = .nilIface) ∨ ∃ c, o = some c ∧ Ch w c [.wo ⟨#[119]⟩] v
theorem EV.below {w w' : World} {o : Option Int} {v : Value} (h : EV w o v) (hb : Below w.heap.size w w') : EV w' o v := by
  rcases h with h | ⟨c, h1, h2⟩
  · exact .inl h
  · exact .inr ⟨c, h1, h2.below hb⟩
theorem take_step {α : Type} (os : List (Option α)) (k : Nat) (o : Option α) (h : os[k]? = some o) : (os.take (k + 1)).filterMap id = (os.take k).filterMap id ++ o.toList := by
  have hk : k < os.length := (List.getElem?_eq_some_iff.1 h).1
  have he : os[k] = o := (List.getElem?_eq_some_iff.1 h).2
  rw [List.take_succ_eq_append_getElem hk, List.filterMap_append, he]
  cases o <;> rfl
theorem take_le {α : Type} (os : List (Option α)) (k : Nat) : ((os.take k).filterMap id).length ≤ k := by
  have h1 := List.length_filterMap_le id (os.take k)
  have h2 := List.length_take_le k os
  omega
theorem reads_err (w : World) (x : Value) (e : TypeId) : Reads (w.alloc (.cells #[x] e)) (w.alloc (.cells #[x] e)).heap.size 1 (some ⟨w.heap.size, 0, none⟩) 1 [x] := by
  refine ⟨rfl, fun _ => ⟨_, rfl, by simp, fun j u hu => ?_⟩⟩
  obtain rfl : j = 0 := by
    rcases j with _ | j
    · rfl
    · simp at hu
  have hu' : x = u := by simpa using hu
  subst hu'
  simp [go_sem]
def ESl (w : World) (A : Option Addr) (xs : List Value) : Prop := 0 < xs.length → ∃ g, A = some ⟨g, 0, none⟩ ∧ ERow w g xs
def AllIs (w : World) (cs : List Int) (e : Ending) (w' : World) : Prop := ∃ v, e = .returned v ∧ ((cs = [] ∧ v = .nilIface) ∨ Sev w' cs v) ∧ Below w.heap.size w w'
set_option maxRecDepth 100000 in
set_option maxHeartbeats 4000000 in
theorem all_is (os : List (Option Int)) (xs : List Value) (A : Option Addr) (cp : Nat) (w : World) (hx : All2 (EV w) os xs) (hA : ESl w A xs) (hn : xs.length ≤ 100) : Calls Tryd.prog 18 #[.slice A xs.length cp] w (AllIs w (os.filterMap id)) := by
  obtain ⟨i0, hi0, hz0, hz1, hz2⟩ := info_parts infoE
  have HI := Lib.hid hi0
  have HZ0 := Lib.hid hz0
  have HZ1 := Lib.hid hz1
  have HZ2 := Lib.hid hz2
  have HX := Lib.hid hx
  have HA := Lib.hid hA
  obtain ⟨n, hlen⟩ : ∃ n, n = xs.length := ⟨_, rfl⟩
  have HLEN := Lib.hid hlen
  rw [← hlen] at hn ⊢
  have HN := Lib.hid hn
  clear hi0 hz0 hz1 hz2 hx hA hlen hn
  go_enter Tryd.func18, Tryd.ntmps18
  go_wp2_with fail
  go_loopg [3, 8] n (fun gk v i wr => ∃ (k : Nat) (ys : List Value), gk = n - k ∧ k ≤ n ∧ i = .int .i64 k ∧ Hid (wr.ownsRow w.heap.size 25 1 v ((os.take k).filterMap id).length ys ∧ All2 (fun c y => Ch w c [.wo ⟨#[119]⟩] y) ((os.take k).filterMap id) ys) ∧ Below w.heap.size w wr)
  case atStart => exact ⟨0, [], rfl, Nat.zero_le _, rfl, Lib.hid ⟨World.ownsRow_nil _ _ _ _, All2.nil _⟩, Below.refl _ _⟩
  case round =>
    obtain ⟨k, ys, rfl, hk, rfl, HO, hB⟩ := hrel
    have hs := hB.size
    by_cases hkl : k < n
    · obtain ⟨ov, x, h1, h2, h3⟩ := HX.out.at_ k (by rw [HX.out.1, ← HLEN.out]; exact hkl)
      obtain ⟨g, rfl, hg1, hg2⟩ := HA.out (by rw [← HLEN.out]; omega)
      have d1 := (hB.cell (p := ⟨g, k, none⟩) hg1).trans (hg2 k x h2)
      have hgl2 := Nat.lt_of_lt_of_le hg1 hs
      have HST := Lib.hid (take_step os k ov h1)
      have HLE := Lib.hid (take_le os k)
      have k0 : (0 : Int) ≤ (k : Int) := by omega
      have k1 : (k : Int) < (n : Int) := by omega
      have k2 : (k : Int) ≤ 100 := by have := HN.out; omega
      have HM := Lib.hid (show n - (k + 1) < n - k by omega)
      have HK := Lib.hid hkl
      clear h1 h2 hg2
      rcases h3 with ⟨ho, hv⟩ | ⟨c, ho, hc⟩
      · subst hv
        have HV := Lib.hid (show (os.take (k + 1)).filterMap id = (os.take k).filterMap id from by rw [HST.out, ho]; simp)
        clear ho
        go_wp2_with fail
        go_roundg (n - (k + 1))
        case measure => exact HM.out
        case rel => exact ⟨k + 1, ys, rfl, HK.out, by go_num, by rw [HV.out]; exact HO, hB⟩
      · have HV := Lib.hid (show (os.take (k + 1)).filterMap id = (os.take k).filterMap id ++ [c] from by rw [HST.out, ho]; simp)
        obtain ⟨T', x', hx'⟩ := hc.iface
        subst hx'
        have HC := Lib.hid hc
        clear ho hc
        have HO1 := Lib.hid (World.ownsRow.alloc (w := wr) HO.out.1 (Obj.cells #[.iface T' x'] 25))
        have HRD := Lib.hid (reads_err wr (.iface T' x') 25)
        have N1 := Lib.hid (show ((os.take k).filterMap id).length + 1 ≤ maxLen from by have := HLE.out; have := HN.out; unfold maxLen; omega)
        have N2 := Lib.hid (show (((os.take k).filterMap id).length + 1) * 16 ≤ 140737488355328 from by have := HLE.out; have := HN.out; omega)
        have N3 := Lib.hid (show w.heap.size ≤ (wr.alloc (Obj.cells #[.iface T' x'] 25)).heap.size from by simp; omega)
        have NV := Lib.hid (show ∀ u ∈ ([.iface T' x'] : List Value), u.oneCell' = true from by intro u hu; simp only [List.mem_cons, List.not_mem_nil, or_false] at hu; subst hu; rfl)
        have hB2 : Below w.heap.size w (wr.alloc (Obj.cells #[.iface T' x'] 25)) := hB.alloc hs _
        have HB2 := Lib.hid hB2
        clear hB2
        go_wp2_with (at_builtin; refine wpList_append_any _ rfl (.tmp 14) (.tmp 16) 39 rfl w.heap.size 25 i0 .nilIface 1 16 Tryd.underlying39 HI.out HZ0.out HZ1.out HZ2.out rfl (by decide) _ ((os.take k).filterMap id).length ys rfl HO1.out _ (some ⟨wr.heap.size, 0, none⟩) 1 1 [.iface T' x'] rfl HRD.out NV.out N1.out N2.out N3.out ?_; intro v3 w3 hown3 hgrow3 hblk3; have HP := Lib.hid (And.intro hown3 hgrow3); clear hown3 hgrow3 hblk3)
        go_roundg (n - (k + 1))
        case measure => exact HM.out
        case rel => exact ⟨k + 1, ys ++ [.iface T' x'], rfl, HK.out, by go_num, by rw [HV.out]; refine Lib.hid ⟨?_, HO.out.2.snoc c _ HC.out⟩; rw [List.length_append]; exact HP.out.1, Below.grown HB2.out HP.out.2 (by simp; omega) (fun b e => (HO1.out.lt b e).1)⟩
    · have hkk : k = n := by omega
      have e1 : (os.take k).filterMap id = os.filterMap id := by rw [hkk, HLEN.out, ← HX.out.1, List.take_length]
      have ho := HO.out
      rw [e1] at ho
      obtain ⟨cs, hcs⟩ : ∃ cs, os.filterMap id = cs := ⟨_, rfl⟩
      rw [hcs] at ho
      have HCS := Lib.hid hcs
      clear hcs
      obtain ⟨ho1, ho2⟩ := ho
      obtain ⟨A3, c3, hv⟩ := own_shape ho1
      subst hv
      have HA2 := Lib.hid ho2
      have k1 : (n : Int) ≤ (k : Int) := by omega
      clear e1 HO
      cases cs with
      | nil =>
        clear ho1 ho2
        go_wp2
        go_ret
        exact ⟨_, rfl, .inl ⟨HCS.out, rfl⟩, hB⟩
      | cons c cr =>
        obtain ⟨g3, hg3, hr3⟩ := erow_own ho1 (Nat.succ_pos _)
        subst hg3
        have HR3 := Lib.hid hr3
        have hlen3 : ((c :: cr).length : Int) = (cr.length : Int) + 1 := by simp
        clear ho1 ho2 hr3
        obtain ⟨m, hm⟩ : ∃ m, m = (c :: cr).length := ⟨_, rfl⟩
        have HM := Lib.hid hm
        rw [← hm]
        have hm0 : (0 : Int) < (m : Int) := by rw [hm]; simp only [List.length_cons]; omega
        have hm1 : ((m : Int) == 0) = false := by rw [beq_eq_false_iff_ne]; omega
        clear hm hlen3
        go_wp2
        go_ret
        have hb5 : Below wr.heap.size wr (wr.alloc (.cells #[.slice (some ⟨g3, 0, none⟩) m c3] 103)) := by go_grown
        refine ⟨_, rfl, .inr ?_, Below.step hB hb5⟩
        rw [HCS.out]
        exact ⟨wr.heap.size, g3, c3, ys, rfl, by simp, by rw [← HM.out]; simp [go_sem], HR3.out.below hb5, HA2.out.mono fun c y h => h.below (Below.step hB hb5), by simp⟩
def FirstIs (w : World) (cs : List Int) (e : Ending) (w' : World) : Prop := ∃ v, e = .returned v ∧ ((cs = [] ∧ v = .nilIface) ∨ ∃ c cr, cs = c :: cr ∧ Ch w c [.wo ⟨#[119]⟩] v) ∧ Below w.heap.size w w'
theorem take_head {os : List (Option Int)} {k : Nat} {c : Int} (h0 : (os.take k).filterMap id = []) (h : os[k]? = some (some c)) : ∃ cr, os.filterMap id = c :: cr := by
  have h1 := take_step os k (some c) h
  rw [h0] at h1
  have h2 : os.filterMap id = (os.take (k + 1)).filterMap id ++ (os.drop (k + 1)).filterMap id := by rw [← List.filterMap_append, List.take_append_drop]
  exact ⟨_, by rw [h2, h1]; rfl⟩
set_option maxRecDepth 100000 in
set_option maxHeartbeats 4000000 in
theorem first_is (os : List (Option Int)) (xs : List Value) (A : Option Addr) (cp : Nat) (w : World) (hx : All2 (EV w) os xs) (hA : ESl w A xs) (hn : xs.length ≤ 100) : Calls Tryd.prog 19 #[.slice A xs.length cp] w (FirstIs w (os.filterMap id)) := by
  have HX := Lib.hid hx
  have HA := Lib.hid hA
  obtain ⟨n, hlen⟩ : ∃ n, n = xs.length := ⟨_, rfl⟩
  have HLEN := Lib.hid hlen
  rw [← hlen] at hn ⊢
  have HN := Lib.hid hn
  clear hx hA hlen hn
  go_enter Tryd.func19, Tryd.ntmps19
  go_wp2_with fail
  go_loopg [7] n (fun gk i wr => ∃ k : Nat, gk = n - k ∧ k ≤ n ∧ i = .int .i64 k ∧ Hid ((os.take k).filterMap id = []) ∧ Below w.heap.size w wr)
  case atStart => exact ⟨0, rfl, Nat.zero_le _, rfl, Lib.hid rfl, Below.refl _ _⟩
  case round =>
    obtain ⟨k, rfl, hk, rfl, HO, hB⟩ := hrel
    have hs := hB.size
    by_cases hkl : k < n
    · obtain ⟨ov, x, h1, h2, h3⟩ := HX.out.at_ k (by rw [HX.out.1, ← HLEN.out]; exact hkl)
      obtain ⟨g, rfl, hg1, hg2⟩ := HA.out (by rw [← HLEN.out]; omega)
      have d1 := (hB.cell (p := ⟨g, k, none⟩) hg1).trans (hg2 k x h2)
      have hgl2 := Nat.lt_of_lt_of_le hg1 hs
      have k0 : (0 : Int) ≤ (k : Int) := by omega
      have k1 : (k : Int) < (n : Int) := by omega
      have k2 : (k : Int) ≤ 100 := by have := HN.out; omega
      have HM := Lib.hid (show n - (k + 1) < n - k by omega)
      have HK := Lib.hid hkl
      have H1 := Lib.hid h1
      clear h2 hg2 h1
      rcases h3 with ⟨ho, hv⟩ | ⟨c, ho, hc⟩
      · subst hv
        have HV := Lib.hid (show (os.take (k + 1)).filterMap id = [] from by rw [take_step os k ov H1.out, HO.out, ho]; rfl)
        clear ho
        go_wp2_with fail
        go_roundg (n - (k + 1))
        case measure => exact HM.out
        case rel => exact ⟨k + 1, rfl, HK.out, by go_num, HV, hB⟩
      · have HV := Lib.hid (take_head (c := c) HO.out (by rw [H1.out, ho]))
        obtain ⟨T', x', hx'⟩ := hc.iface
        subst hx'
        have HC := Lib.hid hc
        clear ho hc
        go_wp2
        go_ret
        obtain ⟨cr, hcr⟩ := HV.out
        exact ⟨_, rfl, .inr ⟨c, cr, hcr, HC.out⟩, hB⟩
    · have hkk : k = n := by omega
      have e1 : os.filterMap id = [] := by rw [← HO.out, hkk, HLEN.out, ← HX.out.1, List.take_length]
      have HE := Lib.hid e1
      have k1 : (n : Int) ≤ (k : Int) := by omega
      clear e1
      go_wp2
      go_ret
      exact ⟨_, rfl, .inl ⟨HE.out, rfl⟩, hB⟩
end Go.Proofs.YtdjdpbgemdmpiaaDoor
