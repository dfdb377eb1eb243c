/-
  The document's runs.
-/
import Derived.Test.YtdlgpbmeeiakdaaRows
import Derived.Test.YtdlgpbmeeiakdaaKit
import Derived.Test.YtdlgpbmeeiakdaaApp
import Derived.Test.YtdlgpbmeeiakdaaEv
import Derived.Test.YtdlgpbmeeiakdaaEvP
import Derived.Test.YtdlgpbmeeiakdaaEvQ
import Derived.Test.YtdlgpbmeeiakdaaEvR
import Derived.Test.YtdlgpbmeeiakdaaQuiet
import Derived.Test.YtdlgpbmeeiakdaaPlA
import Derived.Test.YtdlgpbmeeiakdaaPlB
import Derived.Test.YtdlgpbmeeiakdaaPlC
import Derived.Test.YtdlgpbmeeiakdaaPlD
import Derived.Test.YtdlgpbmeeiakdaaPlE
import Derived.Test.YtdlgpbmeeiakdaaPlF
import Derived.WalkKit
import Derived.ProofKit
import Derived.OpenShut
import Derived.ShutString
import Derived.Below
import Derived.Outline
import Derived.WalkLawsBesides
import Derived.WalkSpells
import Derived.Handy
import Derived.Deep.QuietTactic
import Derived.BigQuiet
import Derived.RegionTactic
import Derived.ChangeAlike
import Derived.Lib.Hide
import Derived.Laws.Rows
import Derived.Laws.Tables
import Derived.Laws.CopyOwn
import Derived.Laws.MakeOwn
import Derived.Laws.Entries
import Derived.Laws.OwnMore
import Derived.Deep.WholeRow
import Derived.Deep.LoopGhost
import Derived.Deep.AppendLies
import Derived.Deep.Draws
import Derived.Maps.AppendAt
import Derived.OwnWalk
import Derived.Deep.RegionHeld3
import Derived.Deep.Cut
import Derived.Deep.CutRange
import Derived.Deep.DeepCutAuto
import Derived.Deep.CutBlock
import Derived.Lib.SliceRun
import Derived.IntWalk
namespace Go.Proofs.Ytdlgpbmeeiakdaa
open Go.ChangeShapes Go.WideShapes Go.ChangeAt Go.RowKit
theorem bump_lenI (l : List Int) : ∀ k, (rsI l k).length ≤ k
  | 0 => Nat.le_refl _
  | k + 1 => by
    have ih := bump_lenI l k
    unfold rsI
    rcases l[k]? with _ | x
    · dsimp only; omega
    · dsimp only
      by_cases hx : x < 0
      · rw [if_pos hx]; omega
      · rw [if_neg hx]
        by_cases hp : k > 0 ∧ l[k - 1]? = some x
        · rw [if_pos hp, bump_len]; omega
        · rw [if_neg hp, List.length_append]; show _ + 1 ≤ _; omega
/-- Where a run begins. -/
def Bd (L : List Int) (i : Nat) : Prop := i = 0 ∨ i = L.length ∨ ∃ u v, L[i - 1]? = some u ∧ L[i]? = some v ∧ u ≠ v
set_option maxRecDepth 100000 in
set_option maxHeartbeats 8000000 in
theorem refruns_is (A : Option Addr) (cap : Nat) (L : List Int) (w : World) (h : IAt w A L) (hl : L.length ≤ 1000) : Calls Try.prog 31 #[.slice A L.length cap] w (RRow w.heap.size (rsI L L.length) w) := by
  have H := Lib.hid h
  obtain ⟨i0, hi, hz0, hz1, hz2⟩ := info_parts infoA
  have HI := Lib.hid hi
  have HZ0 := Lib.hid hz0
  have HZ1 := Lib.hid hz1
  have HZ2 := Lib.hid hz2
  clear hi hz0 hz1 hz2 h
  go_enter Try.func31, Try.ntmps31
  go_wp2_with fail
  go_loopw [3, 4] (fun v i wr => ∃ k : Nat, k ≤ L.length ∧ i = .int .i64 (k : Int) ∧ Hid (Bd L k) ∧ Hid (wr.ownsRow w.heap.size 57 2 v (rsI L k).length (prl (rsI L k))) ∧ Below w.heap.size w wr) (fun _ i _ => L.length + 1 - (intOf i).toNat)
  case atStart => exact ⟨0, Nat.zero_le _, rfl, .inl rfl, ⟨rfl, .inl ⟨rfl, rfl⟩⟩, Below.refl _ _⟩
  case round =>
    obtain ⟨k, hk, rfl, HBK, HO, hB⟩ := hrel
    by_cases hlt : k < L.length
    · obtain ⟨v, hv⟩ : ∃ e, L[k]? = some e := ⟨_, List.getElem?_eq_getElem hlt⟩
      have HV := Lib.hid hv
      have k0 : (0 : Int) ≤ (k : Int) := by omega
      have k1 : (k : Int) < (L.length : Int) := by omega
      have k2 : (L.length : Int) ≤ 1000 := by omega
      have hR1 := bump_lenI L k
      have hB0 : k = 0 ∨ ∃ u, L[k - 1]? = some u ∧ u ≠ v := by
        rcases HBK.out with h | h | ⟨u, v', h1, h2, h3⟩
        · exact .inl h
        · omega
        · rw [hv] at h2; exact .inr ⟨u, h1, by injection h2 with h2; rw [h2]; exact h3⟩
      have HB0 := Lib.hid hB0
      clear hv hB0 HBK
      go_wp2_with fail
      go_loopw [5] (fun j wq => ∃ n : Nat, k + (n + 1) ≤ L.length ∧ Hid (∀ j, j < n + 1 → L[k + j]? = some v) ∧ j = .int .i64 ((n + 1 : Nat) : Int) ∧ Below wr.heap.size wr wq) (fun j _ => L.length + 1 - (intOf j).toNat)
      case atStart => exact ⟨0, by omega, Lib.hid (by intro j hj; rw [show k + j = k from by omega]; exact HV.out), rfl, Below.refl _ _⟩
      case round =>
        obtain ⟨n', hkn, HN, rfl, hBq⟩ := hrel
        obtain ⟨n, hnn⟩ : ∃ n, n = n' + 1 := ⟨_, rfl⟩
        rw [← hnn] at HN hkn ⊢
        have n1 : (1 : Int) ≤ (n : Int) := by omega
        have n9 : (n : Int) ≤ 1000 := by omega
        obtain ⟨T, hT⟩ : ∃ T, T = k + n := ⟨_, rfl⟩
        have hTI : (k : Int) + (n : Int) = (T : Int) := by omega
        have HRUN := Lib.hid (show rsI L T = if v < 0 then rsI L k else rsI L k ++ [(v, (n : Int))] from by
          have h := rsI_run L k v HB0.out n' (fun j hj => HN.out j (by omega))
          rw [← hnn] at h
          rw [hT]; exact h)
        have hTle : T ≤ L.length := by omega
        have HT := Lib.hid hT
        have HNN := Lib.hid hnn
        have T0 : (0 : Int) ≤ (T : Int) := by omega
        have HOq := Lib.hid (row_kept HO.out hBq)
        have HBQ := Lib.hid hBq
        have hBw := Below.step hB hBq
        obtain ⟨ad, hA, hadl0, hck0⟩ := H.out k v HV.out
        have hadl := Nat.lt_of_lt_of_le hadl0 hBw.size
        have hck := (hBw.cell (p := ad.add k) (by rw [block_of_add]; exact hadl0)).trans hck0
        subst hA
        have hprev : ∃ u, L[T - 1]? = some u ∧ u = v := ⟨v, by have h := HN.out n' (by omega); rw [show T - 1 = k + n' from by omega]; exact h, rfl⟩
        have HPV := Lib.hid hprev
        clear HO hB hBq hck0 hT hnn hprev
        have HO := HOq
        have hB := hBw
        clear HOq hBw
        by_cases hTl : T < L.length
        · have T1 : (T : Int) < (L.length : Int) := by omega
          obtain ⟨x, hx⟩ : ∃ e, L[T]? = some e := ⟨_, List.getElem?_eq_getElem hTl⟩
          obtain ⟨ad2, hA, hadl2, hcT0⟩ := H.out T x hx
          have had : ad2 = ad := by simpa using hA.symm
          subst had
          have hcT := (hB.cell (p := ad2.add T) (by rw [block_of_add]; exact hadl2)).trans hcT0
          clear hcT0 hA
          by_cases hxv : x = v
          · have hne : (x == v) = true := by simpa using hxv
            have HX := Lib.hid (show L[T]? = some v from by rw [hx, hxv])
            have HTT := Lib.hid (show k + (n + 1) ≤ L.length from by have := HT.out; omega)
            clear hx hxv
            go_wp2_with fail
            refine region_sc (by kernel_rfl) (by kernel_rfl) ?_
            iterate 12 (first | go_big_quiet_skip | (go_big_quiet_want; go_big_quiet_op; first | go_big_quiet_on | (refine ⟨_, fun _ _ => rfl, ?_⟩; go_big_quiet_on)))
            go_big_quiet_want
            refine ⟨.int .i64 x, fun wq hq => ?_, ?_⟩
            · have q1 := (hq.cell (p := ad2.add T) (by rw [block_of_add]; exact hadl)).trans hcT
              unfold Oper.quietAt
              simp [go_sem, q1, Oper.quietUpon]
            simp only [Act.put, List.setIfInBounds_toArray, List.set_cons_zero, List.set_cons_succ]
            go_big_quiet_on
            iterate 3 (first | go_big_quiet_skip | (go_big_quiet_want; go_big_quiet_op; first | go_big_quiet_on | (refine ⟨_, fun _ _ => rfl, ?_⟩; go_big_quiet_on)))
            go_big_quiet_want
            refine ⟨.int .i64 v, fun wq hq => ?_, ?_⟩
            · have q1 := (hq.cell (p := ad2.add k) (by rw [block_of_add]; exact hadl)).trans hck
              unfold Oper.quietAt
              simp [go_sem, q1, Oper.quietUpon]
            simp only [Act.put, List.setIfInBounds_toArray, List.set_cons_zero, List.set_cons_succ]
            go_big_quiet_on
            iterate 2 (first | go_big_quiet_skip | (go_big_quiet_want; go_big_quiet_op; first | go_big_quiet_on | (refine ⟨_, fun _ _ => rfl, ?_⟩; go_big_quiet_on)))
            refine wpQuiet_nil ?_
            intro w2 hS2
            go_wp2_with fail
            go_roundw
            case rel => exact ⟨n, HTT.out, Lib.hid (by intro j hj; by_cases hjn : j < n; exact HN.out j (by have := HNN.out; omega); rw [show k + j = T from by have := HT.out; omega]; exact HX.out), by go_num, Below.step HBQ.out hS2⟩
            case measure => simp [intOf]; omega
          · have hne : (x == v) = false := by simpa using hxv
            have HBD := Lib.hid (show Bd L T from .inr (.inr ⟨v, x, by obtain ⟨u, h1, h2⟩ := HPV.out; rw [h1, h2], hx, fun e => hxv e.symm⟩))
            clear hx hxv
            go_wp2_with fail
            refine region_sc (by kernel_rfl) (by kernel_rfl) ?_
            iterate 12 (first | go_big_quiet_skip | (go_big_quiet_want; go_big_quiet_op; first | go_big_quiet_on | (refine ⟨_, fun _ _ => rfl, ?_⟩; go_big_quiet_on)))
            go_big_quiet_want
            refine ⟨.int .i64 x, fun wq hq => ?_, ?_⟩
            · have q1 := (hq.cell (p := ad2.add T) (by rw [block_of_add]; exact hadl)).trans hcT
              unfold Oper.quietAt
              simp [go_sem, q1, Oper.quietUpon]
            simp only [Act.put, List.setIfInBounds_toArray, List.set_cons_zero, List.set_cons_succ]
            go_big_quiet_on
            iterate 3 (first | go_big_quiet_skip | (go_big_quiet_want; go_big_quiet_op; first | go_big_quiet_on | (refine ⟨_, fun _ _ => rfl, ?_⟩; go_big_quiet_on)))
            go_big_quiet_want
            refine ⟨.int .i64 v, fun wq hq => ?_, ?_⟩
            · have q1 := (hq.cell (p := ad2.add k) (by rw [block_of_add]; exact hadl)).trans hck
              unfold Oper.quietAt
              simp [go_sem, q1, Oper.quietUpon]
            simp only [Act.put, List.setIfInBounds_toArray, List.set_cons_zero, List.set_cons_succ]
            go_big_quiet_on
            iterate 2 (first | go_big_quiet_skip | (go_big_quiet_want; go_big_quiet_op; first | go_big_quiet_on | (refine ⟨_, fun _ _ => rfl, ?_⟩; go_big_quiet_on)))
            refine wpQuiet_nil ?_
            intro w2 hS2
            have hB2 := Below.step hB hS2
            have hs2 := hB2.size
            have hck2 := (hS2.cell (p := ad2.add k) (by rw [block_of_add]; exact hadl)).trans hck
            have HO2 := Lib.hid (row_kept HO.out hS2)
            have hlen2 := hR1
            clear HO hB hS2 hck
            by_cases hv : v < 0
            · have hvd : decide (0 ≤ v) = false := decide_eq_false (by omega)
              have hRR : rsI L T = rsI L k := by rw [HRUN.out, if_pos hv]
              have HRR := Lib.hid hRR
              clear hRR
              go_wp2_with fail
              go_roundw
              case rel => exact ⟨T, hTle, by go_num, HBD.out, by refine Lib.hid ?_; rw [HRR.out]; exact HO2.out, hB2⟩
              case measure => simp [intOf]; omega
            · have hvd : 0 ≤ v := by omega
              have hRR : rsI L T = rsI L k ++ [(v, (n : Int))] := by rw [HRUN.out, if_neg hv]
              have HRR := Lib.hid hRR
              clear hRR
              generalize rsI L k = R0 at *
              have HR := Lib.hid (reads_newN w2 1 2 (prc (v, (n : Int))) 57 rfl)
              have HO1 := Lib.hid (HO2.out.alloc (Obj.cells #[.int .i64 v, .int .i64 (n : Int)] 57))
              have N1 := Lib.hid (show R0.length + 1 ≤ maxLen from by unfold maxLen; omega)
              have N2 := Lib.hid (show (R0.length + 1) * 16 ≤ 140737488355328 from by omega)
              have N3 := Lib.hid (show w.heap.size ≤ (w2.alloc (Obj.cells #[.int .i64 v, .int .i64 (n : Int)] 57)).heap.size from by simp; omega)
              have NV := Lib.hid (prc_one (v, (n : Int)))
              have hBA : Below w.heap.size w (w2.alloc (Obj.cells #[.int .i64 v, .int .i64 (n : Int)] 57)) := hB2.alloc hs2 _
              go_wp2_with (at_builtin; refine wpList_append_any _ rfl (.tmp 36) (.tmp 43) 54 rfl w.heap.size 57 i0 (.agg #[.int .i64 0, .int .i64 0]) 2 16 Try.underlying54 HI.out HZ0.out HZ1.out HZ2.out rfl (by decide) _ R0.length (prl R0) rfl HO1.out _ (some ⟨w2.heap.size, 0, none⟩) 1 1 _ rfl HR.out NV.out N1.out N2.out N3.out ?_; intro v3 w3 hown3 hgrow3 hblk3; have HP := Lib.hid (And.intro hown3 hgrow3); clear hown3 hgrow3 hblk3)
              go_roundw
              case rel => exact ⟨T, hTle, by go_num, HBD.out, by have h := HP.out.1; refine Lib.hid ?_; rw [HRR.out, List.length_append, prl_snoc]; exact h, Below.grown hBA HP.out.2 (by simp; omega) (fun g e => (HO1.out.lt g e).1)⟩
              case measure => simp [intOf]; omega
        · have hd : decide ((T : Int) < (L.length : Int)) = false := decide_eq_false (by omega)
          have HBD := Lib.hid (show Bd L T from .inr (.inl (by omega)))
          go_wp2_with fail
          refine region_sc (by kernel_rfl) (by kernel_rfl) ?_
          iterate 19 (first | go_big_quiet_skip | (go_big_quiet_want; go_big_quiet_op; first | go_big_quiet_on | (refine ⟨_, fun _ _ => rfl, ?_⟩; go_big_quiet_on)))
          refine wpQuiet_nil ?_
          intro w2 hS2
          have hB2 := Below.step hB hS2
          have hs2 := hB2.size
          have hck2 := (hS2.cell (p := ad.add k) (by rw [block_of_add]; exact hadl)).trans hck
          have HO2 := Lib.hid (row_kept HO.out hS2)
          have hlen2 := hR1
          clear HO hB hS2 hck
          by_cases hv : v < 0
          · have hvd : decide (0 ≤ v) = false := decide_eq_false (by omega)
            have hRR : rsI L T = rsI L k := by rw [HRUN.out, if_pos hv]
            have HRR := Lib.hid hRR
            clear hRR
            go_wp2_with fail
            go_roundw
            case rel => exact ⟨T, hTle, by go_num, HBD.out, by refine Lib.hid ?_; rw [HRR.out]; exact HO2.out, hB2⟩
            case measure => simp [intOf]; omega
          · have hvd : 0 ≤ v := by omega
            have hRR : rsI L T = rsI L k ++ [(v, (n : Int))] := by rw [HRUN.out, if_neg hv]
            have HRR := Lib.hid hRR
            clear hRR
            generalize rsI L k = R0 at *
            have HR := Lib.hid (reads_newN w2 1 2 (prc (v, (n : Int))) 57 rfl)
            have HO1 := Lib.hid (HO2.out.alloc (Obj.cells #[.int .i64 v, .int .i64 (n : Int)] 57))
            have N1 := Lib.hid (show R0.length + 1 ≤ maxLen from by unfold maxLen; omega)
            have N2 := Lib.hid (show (R0.length + 1) * 16 ≤ 140737488355328 from by omega)
            have N3 := Lib.hid (show w.heap.size ≤ (w2.alloc (Obj.cells #[.int .i64 v, .int .i64 (n : Int)] 57)).heap.size from by simp; omega)
            have NV := Lib.hid (prc_one (v, (n : Int)))
            have hBA : Below w.heap.size w (w2.alloc (Obj.cells #[.int .i64 v, .int .i64 (n : Int)] 57)) := hB2.alloc hs2 _
            go_wp2_with (at_builtin; refine wpList_append_any _ rfl (.tmp 36) (.tmp 43) 54 rfl w.heap.size 57 i0 (.agg #[.int .i64 0, .int .i64 0]) 2 16 Try.underlying54 HI.out HZ0.out HZ1.out HZ2.out rfl (by decide) _ R0.length (prl R0) rfl HO1.out _ (some ⟨w2.heap.size, 0, none⟩) 1 1 _ rfl HR.out NV.out N1.out N2.out N3.out ?_; intro v3 w3 hown3 hgrow3 hblk3; have HP := Lib.hid (And.intro hown3 hgrow3); clear hown3 hgrow3 hblk3)
            go_roundw
            case rel => exact ⟨T, hTle, by go_num, HBD.out, by have h := HP.out.1; refine Lib.hid ?_; rw [HRR.out, List.length_append, prl_snoc]; exact h, Below.grown hBA HP.out.2 (by simp; omega) (fun g e => (HO1.out.lt g e).1)⟩
            case measure => simp [intOf]; omega
    · obtain rfl : k = L.length := by omega
      have hd : decide ((L.length : Int) < (L.length : Int)) = false := decide_eq_false (by omega)
      go_wp2_with fail
      go_ret
      exact ⟨_, rfl, HO.out, hB⟩
end Go.Proofs.Ytdlgpbmeeiakdaa
