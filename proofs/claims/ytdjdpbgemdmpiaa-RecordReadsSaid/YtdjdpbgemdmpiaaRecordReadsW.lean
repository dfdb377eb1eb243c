/-
  RecordReads: the law's walk.
-/
import Derived.Test.YtdjdpbgemdmpiaaRows
import Derived.WalkKit
import Derived.ProofKit
import Derived.OpenShut
import Derived.ShutString
import Derived.Below
import Derived.Outline
import Derived.WalkLawsBesides
import Derived.WalkSpells
import Derived.Handy
import Derived.Deep.QuietTactic
import Derived.BigQuiet
import Derived.RegionTactic
import Derived.ChangeAlike
import Derived.Lib.Hide
import Derived.Test.YtdjdpbgemdmpiaaKit
import Derived.Test.YtdjdpbgemdmpiaaApp
import Derived.Test.YtdjdpbgemdmpiaaRowAt
import Derived.Test.YtdjdpbgemdmpiaaRec
import Derived.Test.YtdjdpbgemdmpiaaReadsG
import Derived.Test.YtdjdpbgemdmpiaaReadsC
import Derived.Test.YtdjdpbgemdmpiaaReadsD
import Derived.Deep.LoopGhost
import Derived.Deep.RegionHeld3
import Derived.Deep.Cut
import Derived.Deep.CutRange
import Derived.Deep.DeepCutAuto
import Derived.Deep.CutBlock
import Derived.Deep.RegionLaw
import Derived.Test.YtdjdpbgemdmpiaaQuiet
namespace Go.Proofs.Ytdjdpbgemdmpiaa.recordReads
open Go.ChangeShapes Go.WideShapes Go.ChangeAt Go.RowKit
open Reads8
def fullv (q : Nat → Int) (k j : Nat) : Int := match j with | 0 => 1 | 1 => q k | 2 => 7 + (k : Int) | 3 => k | 4 => 3 | _ => 2
theorem fullv_q {q q' : Nat → Int} (k j : Nat) (h : q k = q' k) : fullv q k j = fullv q' k j := by
  unfold fullv
  split
  all_goals first | rfl | exact h
def endv (n kd : Int) (j : Nat) : Int := match j with | 0 => kd | 1 => 0 | 2 => n | 3 => 9 | _ => 0
theorem cell_lt9 {w : World} {a : Addr} {v : Value} (h : w.cell? a = some v) : a.block < w.heap.size := by
  rcases Nat.lt_or_ge a.block w.heap.size with hlt | hge
  · exact hlt
  · have e : w.heap[a.block]? = none := Array.getElem?_eq_none hge
    simp [World.cell?, e] at h
theorem row_of {k : IntKind} {w : World} {a : Option Addr} {len cap : Nat} {zs : List Int} (h : IsRow k w a len cap zs) (t : Nat) (ht : t < len) : ∃ x, a = some x ∧ x.block < w.heap.size ∧ w.cell? (x.add t) = some (.int k (zs.getD t 0)) ∧ (Lit.int k (zs.getD t 0)).wf = true := by
  rcases h with ⟨_, h0, _⟩ | ⟨x, rfl, hl, hm, hz, hc, hw⟩
  · omega
  · have hcell := hc t (by omega)
    have hlt := cell_lt9 hcell
    rw [block_of_add] at hlt
    have hmem : zs.getD t 0 ∈ zs := by
      rw [List.getD_eq_getElem?_getD, List.getElem?_eq_getElem (by omega)]
      exact List.getElem_mem _
    exact ⟨x, rfl, hlt, hcell, hw _ hmem⟩
theorem reads_new6 (w : World) (cs : List Value) (e : TypeId) (hl : cs.length = 6) : Reads (w.alloc (.cells cs.toArray e)) (w.alloc (.cells cs.toArray e)).heap.size 6 (some ⟨w.heap.size, 0, none⟩) 1 cs := by
  refine ⟨by rw [hl], fun _ => ⟨_, rfl, by simp, fun j u hu => ?_⟩⟩
  have hh := heap_alloc_new w (.cells cs.toArray e)
  have e1 : (⟨w.heap.size, 0, none⟩ : Addr).add j = ⟨w.heap.size, j, none⟩ := by
    unfold Addr.add
    by_cases h : j = 0
    · subst h; rfl
    · simp [h]
  rw [e1, cell_of_row _ _ _ _ _ _ hh]
  simpa using hu
theorem flat_len (gv : Nat → Nat → Int) (m : Nat) : ((List.range m).flatMap (strip gv)).length = m * 6 := by
  induction m with
  | zero => rfl
  | succ m ih =>
    rw [List.range_succ, List.flatMap_append, List.length_append, ih]
    simp [strip]
    omega
theorem flat_get (gv : Nat → Nat → Int) (m k j : Nat) (hk : k < m) (hj : j < 6) : ((List.range m).flatMap (strip gv))[k * 6 + j]? = (strip gv k)[j]? := by
  induction m with
  | zero => omega
  | succ m ih =>
    rw [List.range_succ, List.flatMap_append]
    have hl := flat_len gv m
    by_cases hkm : k < m
    · rw [List.getElem?_append_left (by omega)]
      exact ih hkm
    · obtain rfl : k = m := by omega
      rw [List.getElem?_append_right (by omega), hl]
      simp
theorem told_get (gv : Nat → Nat → Int) (n : Nat) (r : Rd) (hG : r.G = true) (hN : r.N = n) (k j : Nat) (hk : k < n + 1) (hj : j < 6) : (told gv n r)[k * 6 + j]? = (strip gv k)[j]? := by
  have e : told gv n r = (List.range (n + 1)).flatMap (strip gv) := by
    unfold told
    rw [hG, hN, List.range_succ, List.flatMap_append]
    simp
  rw [e]
  exact flat_get gv (n + 1) k j hk hj
set_option maxRecDepth 100000 in
set_option maxHeartbeats 8000000 in
theorem walk (a0 : Option Addr) (len0 cap0 : Nat) (z0 : List Int) (a1 : Option Addr) (len1 cap1 : Nat) (z1 : List Int) (a2 : Int) (w : World) (w0 : IsRow .u16 w a0 len0 cap0 z0) (w1 : IsRow .u8 w a1 len1 cap1 z1) (w2 : (Lit.int .u8 a2).wf = true) :
    Calls Try.prog 7 #[.slice a0 len0 cap0, .slice a1 len1 cap1, .int .u8 a2] w fun e w' => e = .returned (.bool true) ∧ Below w.heap.size w w' := by
  have H0 := Lib.hid w0
  have H1 := Lib.hid w1
  have H2 := Lib.hid w2
  clear w0 w1 w2
  by_cases hl : (4 : Int) < (len0 : Int)
  · go_enter Try.func7, Try.ntmps7
    go_wp2_with fail
    refine (awake08 _).mono ?_
    rintro e w2 ⟨rfl, hb2⟩
    go_wp2
    go_ret
    exact ⟨rfl, hb2⟩
  by_cases hl2 : (60 : Int) < (len1 : Int)
  · go_enter Try.func7, Try.ntmps7
    go_wp2_with fail
    refine (awake08 _).mono ?_
    rintro e w2 ⟨rfl, hb2⟩
    go_wp2
    go_ret
    exact ⟨rfl, hb2⟩
  have hmk : ∀ W, (Instr.makeSlice 75 (.int .i64 ((len0 : Int) + 1)) (.int .i64 ((len0 : Int) + 1))).run Try.prog W = .ok (.slice (some ⟨W.heap.size, 0, none⟩) (len0 + 1) (len0 + 1)) (W.alloc (.cells (madeCells #[Value.int .i64 0, Value.int .i64 0, Value.int .i64 0, Value.int .i64 0, Value.int .i64 0, Value.int .i64 0] ((len0 + 1) * 6)) 78)) := fun W => makeR (len0 + 1) (by omega) W
  have hG1 := (Grid.made w (len0 + 1) 78).below (show Below (w.alloc (.cells (madeCells #[Value.int .i64 0, Value.int .i64 0, Value.int .i64 0, Value.int .i64 0, Value.int .i64 0, Value.int .i64 0] ((len0 + 1) * 6)) 78)).heap.size (w.alloc (.cells (madeCells #[Value.int .i64 0, Value.int .i64 0, Value.int .i64 0, Value.int .i64 0, Value.int .i64 0, Value.int .i64 0] ((len0 + 1) * 6)) 78)) ((w.alloc (.cells (madeCells #[Value.int .i64 0, Value.int .i64 0, Value.int .i64 0, Value.int .i64 0, Value.int .i64 0, Value.int .i64 0] ((len0 + 1) * 6)) 78)).alloc (.cells (madeCells #[Value.int .i64 0, Value.int .i64 0, Value.int .i64 0, Value.int .i64 0, Value.int .i64 0, Value.int .i64 0] ((len0 + 1) * 6)) 78)) from by go_grown)
  have hG2 := Grid.made (w.alloc (.cells (madeCells #[Value.int .i64 0, Value.int .i64 0, Value.int .i64 0, Value.int .i64 0, Value.int .i64 0, Value.int .i64 0] ((len0 + 1) * 6)) 78)) (len0 + 1) 78
  rw [World.size_alloc] at hG2
  have HG1 := Lib.hid hG1
  have HG2 := Lib.hid hG2
  clear hG1 hG2
  go_enter Try.func7, Try.ntmps7
  go_wp2_with fail
  go_loopw [39] (fun i wr => ∃ (t : Nat) (fv : Nat → Nat → Int), t ≤ len0 ∧ i = .int .i64 t ∧ Hid (Grid w.heap.size (len0 + 1) (fun _ _ => 0) wr ∧ Grid (w.heap.size + 1) (len0 + 1) fv wr ∧ (∀ k, k < t → ∀ j, fv k j = fullv (fun k => z0.getD k 0) k j) ∧ Below w.heap.size w wr)) (fun i _ => len0 + 1 - (intOf i).toNat)
  case atStart => exact ⟨0, fun _ _ => 0, Nat.zero_le _, rfl, Lib.hid ⟨HG1.out, HG2.out, fun k hk => absurd hk (Nat.not_lt_zero _), by go_grown⟩⟩
  case round =>
    obtain ⟨t, fv, ht, rfl, HR⟩ := hrel
    by_cases htl : t < len0
    · obtain ⟨x, rfl, hxb, hxc, hwf⟩ := row_of H0.out t htl
      have hq := (HR.out.2.2.2.cell (p := x.add t) (by rw [block_of_add]; exact hxb)).trans hxc
      have hfull := fun j => (rfl : fullv (fun k => z0.getD k 0) t j = fullv (fun k => z0.getD k 0) t j)
      clear hfull hxc
      generalize hz : z0.getD t 0 = q at *
      simp [Lit.wf, show IntKind.u16.min = 0 from by decide, show IntKind.u16.max = 65535 from by decide] at hwf
      obtain ⟨hq0, hq1⟩ := hwf
      have HZ := Lib.hid hz
      clear hz
      have t0 : (0 : Int) ≤ (t : Int) := by omega
      have t1 : (t : Int) < (len0 : Int) := by omega
      have t2 : (t : Int) < (len0 : Int) + 1 := by omega
      have gc0 : wr.cell? ⟨(w.heap.size + 1), t * 6, none⟩ = some (.int .i64 (fv t 0)) := HR.out.2.1.c t 0 (by omega) (by decide)
      have gf0 := HR.out.2.1.f (t * 6) (by omega)
      have gc1 : wr.cell? ⟨(w.heap.size + 1), t * 6 + 1, none⟩ = some (.int .i64 (fv t 1)) := HR.out.2.1.c t 1 (by omega) (by decide)
      have gf1 := HR.out.2.1.f (t * 6 + 1) (by omega)
      have gc2 : wr.cell? ⟨(w.heap.size + 1), t * 6 + 2, none⟩ = some (.int .i64 (fv t 2)) := HR.out.2.1.c t 2 (by omega) (by decide)
      have gf2 := HR.out.2.1.f (t * 6 + 2) (by omega)
      have gc3 : wr.cell? ⟨(w.heap.size + 1), t * 6 + 3, none⟩ = some (.int .i64 (fv t 3)) := HR.out.2.1.c t 3 (by omega) (by decide)
      have gf3 := HR.out.2.1.f (t * 6 + 3) (by omega)
      have gc4 : wr.cell? ⟨(w.heap.size + 1), t * 6 + 4, none⟩ = some (.int .i64 (fv t 4)) := HR.out.2.1.c t 4 (by omega) (by decide)
      have gf4 := HR.out.2.1.f (t * 6 + 4) (by omega)
      have gc5 : wr.cell? ⟨(w.heap.size + 1), t * 6 + 5, none⟩ = some (.int .i64 (fv t 5)) := HR.out.2.1.c t 5 (by omega) (by decide)
      have gf5 := HR.out.2.1.f (t * 6 + 5) (by omega)
      go_wp2_with fail
      go_roundw
      case rel =>
        refine ⟨t + 1, putK fv t (fullv (fun _ => q) t), by omega, by go_num, Lib.hid ⟨HR.out.1.other (B := w.heap.size + 1) (k := t) (u := fullv (fun _ => q) t) (by omega), HR.out.2.1.put (by omega), fun k hk j => ?_, six_below (B := w.heap.size + 1) (k := t) (u := fullv (fun _ => q) t) HR.out.2.2.2 (by omega)⟩⟩
        by_cases hkt : k = t
        · subst hkt
          rw [show putK fv k (fullv (fun _ => q) k) k j = fullv (fun _ => q) k j from if_pos rfl]
          exact fullv_q k j HZ.out.symm
        · rw [show putK fv t (fullv (fun _ => q) t) k j = fv k j from if_neg hkt]
          exact HR.out.2.2.1 k (by omega) j
      case measure => simp [intOf]; omega
    · obtain rfl : t = len0 := by omega
      clear HG1 HG2
      have hwf := H2.out
      simp [Lit.wf, show IntKind.u8.min = 0 from by decide, show IntKind.u8.max = 255 from by decide] at hwf
      obtain ⟨h20, h21⟩ := hwf
      have hk40 : 0 ≤ a2 % 4 ∧ a2 % 4 ≤ 3 := by omega
      obtain ⟨hk4, hk5⟩ := hk40
      have t0 : (0 : Int) ≤ (t : Int) := by omega
      have t2 : (t : Int) < (t : Int) + 1 := by omega
      have gc0 : wr.cell? ⟨(w.heap.size + 1), t * 6, none⟩ = some (.int .i64 (fv t 0)) := HR.out.2.1.c t 0 (by omega) (by decide)
      have gf0 := HR.out.2.1.f (t * 6) (by omega)
      have gc1 : wr.cell? ⟨(w.heap.size + 1), t * 6 + 1, none⟩ = some (.int .i64 (fv t 1)) := HR.out.2.1.c t 1 (by omega) (by decide)
      have gf1 := HR.out.2.1.f (t * 6 + 1) (by omega)
      have gc2 : wr.cell? ⟨(w.heap.size + 1), t * 6 + 2, none⟩ = some (.int .i64 (fv t 2)) := HR.out.2.1.c t 2 (by omega) (by decide)
      have gf2 := HR.out.2.1.f (t * 6 + 2) (by omega)
      have gc3 : wr.cell? ⟨(w.heap.size + 1), t * 6 + 3, none⟩ = some (.int .i64 (fv t 3)) := HR.out.2.1.c t 3 (by omega) (by decide)
      have gf3 := HR.out.2.1.f (t * 6 + 3) (by omega)
      have gc4 : wr.cell? ⟨(w.heap.size + 1), t * 6 + 4, none⟩ = some (.int .i64 (fv t 4)) := HR.out.2.1.c t 4 (by omega) (by decide)
      have gf4 := HR.out.2.1.f (t * 6 + 4) (by omega)
      have gc5 : wr.cell? ⟨(w.heap.size + 1), t * 6 + 5, none⟩ = some (.int .i64 (fv t 5)) := HR.out.2.1.c t 5 (by omega) (by decide)
      have gf5 := HR.out.2.1.f (t * 6 + 5) (by omega)
      go_wp2_with fail
      refine (first_is _).mono ?_
      rintro e w1 ⟨rfl, hb1⟩
      have HS1 := Lib.hid ((HR.out.1.other (B := w.heap.size + 1) (k := t) (u := endv t (2 + a2 % 4)) (by omega)).below hb1)
      have HF1 := Lib.hid ((HR.out.2.1.put (k := t) (u := endv t (2 + a2 % 4)) (by omega)).below hb1)
      have HV1 := Lib.hid (show ∀ k, k < t → ∀ j, putK fv t (endv t (2 + a2 % 4)) k j = fullv (fun k => z0.getD k 0) k j from fun k hk j => by rw [show putK fv t (endv t (2 + a2 % 4)) k j = fv k j from if_neg (by omega)]; exact HR.out.2.2.1 k hk j)
      have HE1 := Lib.hid (show ∀ j, putK fv t (endv t (2 + a2 % 4)) t j = endv t (2 + a2 % 4) j from fun j => if_pos rfl)
      have HB1 := Lib.hid (Below.step (six_below (B := w.heap.size + 1) (k := t) (u := endv t (2 + a2 % 4)) HR.out.2.2.2 (by omega)) hb1)
      generalize putK fv t (endv t (2 + a2 % 4)) = gv at HF1 HV1 HE1
      clear hb1 gc0 gc1 gc2 gc3 gc4 gc5 gf0 gf1 gf2 gf3 gf4 gf5 HR
      obtain ⟨KK, HK1, HK2⟩ : ∃ KK : Nat → Nat, Hid (∀ i, i < len1 → KK i = (z1.getD i 0).toNat % (2 * (t + 1))) ∧ Hid (∀ i, len1 ≤ i → KK i = i % (t + 1)) := ⟨fun i => if i < len1 then (z1.getD i 0).toNat % (2 * (t + 1)) else i % (t + 1), Lib.hid fun i h => if_pos h, Lib.hid fun i h => if_neg (by omega)⟩
      have HRW : Hid (RW w (w1.alloc (.cells #[.int .i64 1, .int .i64 0] 80)) t w1.heap.size gv (rd t KK 0) (.slice none 0 0)) := Lib.hid (by
        have hb : Below w1.heap.size w1 (w1.alloc (.cells #[.int .i64 1, .int .i64 0] 80)) := by go_grown
        have h2 : w.heap.size + 1 < w1.heap.size := HF1.out.l
        exact ⟨HS1.out.below hb, HF1.out.below hb, by simp [go_sem, rd, gen], by simp [go_sem, rd, num], by simp [go_sem], by simp [go_sem], by simp, h2, World.ownsRow_nil _ _ _ _, Below.step HB1.out hb⟩)
      have HGV := Lib.hid (show (∀ k, k < t → gv k 0 = 1) ∧ gv t 0 = 2 + a2 % 4 ∧ gv t 2 = t ∧ gv t 4 = 0 ∧ gv t 5 = 0 from ⟨fun k hk => HV1.out k hk 0, HE1.out 0, HE1.out 2, HE1.out 4, HE1.out 5⟩)
      clear HS1 HF1 HB1
      go_upto_block 2 with fail
      go_cut [12] (fun s12 wx => ∃ r : Rd, Hid (r.G = true ∧ r.N = t ∧ RW w wx t w1.heap.size gv r s12))
      case first =>
        go_wp2_with fail
        go_loopg [12, 72] (len1 + 2 * (t + 1) + 1) (fun gk v i wr => ∃ k : Nat, gk = len1 + 2 * (t + 1) + 1 - k ∧ k ≤ len1 + 2 * (t + 1) ∧ i = .int .i64 k ∧ Hid (RW w wr t w1.heap.size gv (rd t KK k) v))
        case atStart => exact ⟨0, rfl, Nat.zero_le _, rfl, HRW⟩
        case round =>
          obtain ⟨i, rfl, hi, rfl, HR⟩ := hrel
          clear HRW
          by_cases hil : i < len1 + 2 * (t + 1)
          · have i0 : (0 : Int) ≤ (i : Int) := by omega
            have i1 : (i : Int) < (len1 : Int) + 2 * ((t : Int) + 1) := by omega
            go_upto_if 82 with fail
            go_cut [14] (fun s14 wx => ∃ kk : Nat, s14 = .int .i64 kk ∧ Hid (kk = KK i) ∧ wx = wr)
            case first =>
              by_cases hir : i < len1
              · obtain ⟨x, rfl, hxb, hxc, hwf⟩ := row_of H1.out i hir
                have hq := (HR.out.b.cell (p := x.add i) (by rw [block_of_add]; exact hxb)).trans hxc
                clear hxc
                have HKi := Lib.hid (HK1.out i hir)
                generalize hz : z1.getD i 0 = q at *
                simp [Lit.wf, show IntKind.u8.min = 0 from by decide, show IntKind.u8.max = 255 from by decide] at hwf
                obtain ⟨hq0, hq1⟩ := hwf
                clear hz
                have i2 : (i : Int) < (len1 : Int) := by omega
                have hmod : q % (2 * ((t : Int) + 1)) = ((q.toNat % (2 * (t + 1)) : Nat) : Int) := by
                  have hqn : q = ((q.toNat : Nat) : Int) := by omega
                  rw [hqn]; push_cast; simp
                have HMM := Lib.hid hmod
                clear hmod
                go_wp2_with fail
                rw [HMM.out]
                go_meet
                case rel => exact ⟨_, rfl, Lib.hid HKi.out.symm, rfl⟩
              · have i2 : (len1 : Int) ≤ (i : Int) := by omega
                have hmod : (i : Int) % ((t : Int) + 1) = ((i % (t + 1) : Nat) : Int) := by push_cast; rfl
                have HKi := Lib.hid (HK2.out i (by omega))
                go_wp2_with fail
                go_meet
                case rel => exact ⟨i % (t + 1), by rw [← hmod], Lib.hid HKi.out.symm, rfl⟩
            case rest =>
              obtain ⟨kk, rfl, HKK, rfl⟩ := hcut
              have k0 : (0 : Int) ≤ (kk : Int) := by omega
              go_upto_if 95 with fail
              go_cut [14] (fun s14 wx => s14 = .int .i64 kk ∧ Hid (RW w wx t w1.heap.size gv (if kk < t + 1 then (rd t KK i).fill kk else rd t KK i) u12))
              case first =>
                by_cases hkt : kk < t + 1
                · have k1 : (kk : Int) < (t : Int) + 1 := by omega
                  have gc0 : wc.cell? ⟨w.heap.size + 1, kk * 6, none⟩ = some (.int .i64 (gv kk 0)) := HR.out.f.c kk 0 (by omega) (by decide)
                  have gf0 : wc.frozen? ⟨w.heap.size + 1, kk * 6, none⟩ = false := HR.out.f.f (kk * 6) (by omega)
                  have gc1 : wc.cell? ⟨w.heap.size + 1, kk * 6 + 1, none⟩ = some (.int .i64 (gv kk 1)) := HR.out.f.c kk 1 (by omega) (by decide)
                  have gf1 : wc.frozen? ⟨w.heap.size + 1, kk * 6 + 1, none⟩ = false := HR.out.f.f (kk * 6 + 1) (by omega)
                  have gc2 : wc.cell? ⟨w.heap.size + 1, kk * 6 + 2, none⟩ = some (.int .i64 (gv kk 2)) := HR.out.f.c kk 2 (by omega) (by decide)
                  have gf2 : wc.frozen? ⟨w.heap.size + 1, kk * 6 + 2, none⟩ = false := HR.out.f.f (kk * 6 + 2) (by omega)
                  have gc3 : wc.cell? ⟨w.heap.size + 1, kk * 6 + 3, none⟩ = some (.int .i64 (gv kk 3)) := HR.out.f.c kk 3 (by omega) (by decide)
                  have gf3 : wc.frozen? ⟨w.heap.size + 1, kk * 6 + 3, none⟩ = false := HR.out.f.f (kk * 6 + 3) (by omega)
                  have gc4 : wc.cell? ⟨w.heap.size + 1, kk * 6 + 4, none⟩ = some (.int .i64 (gv kk 4)) := HR.out.f.c kk 4 (by omega) (by decide)
                  have gf4 : wc.frozen? ⟨w.heap.size + 1, kk * 6 + 4, none⟩ = false := HR.out.f.f (kk * 6 + 4) (by omega)
                  have gc5 : wc.cell? ⟨w.heap.size + 1, kk * 6 + 5, none⟩ = some (.int .i64 (gv kk 5)) := HR.out.f.c kk 5 (by omega) (by decide)
                  have gf5 : wc.frozen? ⟨w.heap.size + 1, kk * 6 + 5, none⟩ = false := HR.out.f.f (kk * 6 + 5) (by omega)
                  have sc0 : wc.cell? ⟨w.heap.size, kk * 6, none⟩ = some (.int .i64 (if (rd t KK i).S kk then gv kk 0 else 0)) := HR.out.s.c kk 0 (by omega) (by decide)
                  have sf0 : wc.frozen? ⟨w.heap.size, kk * 6, none⟩ = false := HR.out.s.f (kk * 6) (by omega)
                  have sc1 : wc.cell? ⟨w.heap.size, kk * 6 + 1, none⟩ = some (.int .i64 (if (rd t KK i).S kk then gv kk 1 else 0)) := HR.out.s.c kk 1 (by omega) (by decide)
                  have sf1 : wc.frozen? ⟨w.heap.size, kk * 6 + 1, none⟩ = false := HR.out.s.f (kk * 6 + 1) (by omega)
                  have sc2 : wc.cell? ⟨w.heap.size, kk * 6 + 2, none⟩ = some (.int .i64 (if (rd t KK i).S kk then gv kk 2 else 0)) := HR.out.s.c kk 2 (by omega) (by decide)
                  have sf2 : wc.frozen? ⟨w.heap.size, kk * 6 + 2, none⟩ = false := HR.out.s.f (kk * 6 + 2) (by omega)
                  have sc3 : wc.cell? ⟨w.heap.size, kk * 6 + 3, none⟩ = some (.int .i64 (if (rd t KK i).S kk then gv kk 3 else 0)) := HR.out.s.c kk 3 (by omega) (by decide)
                  have sf3 : wc.frozen? ⟨w.heap.size, kk * 6 + 3, none⟩ = false := HR.out.s.f (kk * 6 + 3) (by omega)
                  have sc4 : wc.cell? ⟨w.heap.size, kk * 6 + 4, none⟩ = some (.int .i64 (if (rd t KK i).S kk then gv kk 4 else 0)) := HR.out.s.c kk 4 (by omega) (by decide)
                  have sf4 : wc.frozen? ⟨w.heap.size, kk * 6 + 4, none⟩ = false := HR.out.s.f (kk * 6 + 4) (by omega)
                  have sc5 : wc.cell? ⟨w.heap.size, kk * 6 + 5, none⟩ = some (.int .i64 (if (rd t KK i).S kk then gv kk 5 else 0)) := HR.out.s.c kk 5 (by omega) (by decide)
                  have sf5 : wc.frozen? ⟨w.heap.size, kk * 6 + 5, none⟩ = false := HR.out.s.f (kk * 6 + 5) (by omega)
                  generalize (if (rd t KK i).S kk then gv kk 0 else 0) = sv0 at sc0
                  generalize (if (rd t KK i).S kk then gv kk 1 else 0) = sv1 at sc1
                  generalize (if (rd t KK i).S kk then gv kk 2 else 0) = sv2 at sc2
                  generalize (if (rd t KK i).S kk then gv kk 3 else 0) = sv3 at sc3
                  generalize (if (rd t KK i).S kk then gv kk 4 else 0) = sv4 at sc4
                  generalize (if (rd t KK i).S kk then gv kk 5 else 0) = sv5 at sc5
                  go_wp2_with fail
                  go_meet
                  case rel => exact ⟨rfl, Lib.hid (by rw [if_pos hkt]; exact HR.out.fill hkt)⟩
                · have k1 : (t : Int) + 1 ≤ (kk : Int) := by omega
                  go_wp2_with fail
                  go_meet
                  case rel => exact ⟨rfl, Lib.hid (by rw [if_neg hkt]; exact HR.out)⟩
              case rest =>
                obtain ⟨rfl, HR2⟩ := hcut
                have HT := Lib.hid (show rd t KK (i + 1) = Rd.tell t (if kk < t + 1 then (rd t KK i).fill kk else rd t KK i) from by rw [HKK.out]; rfl)
                have HN := Lib.hid (show (if kk < t + 1 then (rd t KK i).fill kk else rd t KK i).N ≤ t from by split; exact rd_le t KK i; exact rd_le t KK i)
                have HGN := Lib.hid (show (if kk < t + 1 then (rd t KK i).fill kk else rd t KK i).G = true → (if kk < t + 1 then (rd t KK i).fill kk else rd t KK i).N = t from by split; exact rd_G t KK i; exact rd_G t KK i)
                generalize (if kk < t + 1 then (rd t KK i).fill kk else rd t KK i) = r2 at HR2 HT HN HGN
                clear HR
                obtain ⟨q, hq⟩ : ∃ q : Nat, num r2 = (q : Int) := by
                  unfold num
                  split
                  · exact ⟨0, rfl⟩
                  · exact ⟨r2.N, rfl⟩
                obtain ⟨u, HU⟩ : ∃ u : Nat → Int, Hid (∀ j, u j = if q < t then (if r2.S q then gv q j else 0) else 0) := ⟨_, Lib.hid fun j => rfl⟩
                have c0 : wc.cell? ⟨w1.heap.size, 0, none⟩ = some (.int .i64 (gen r2)) := HR2.out.c0
                have c1 : wc.cell? ⟨w1.heap.size, 1, none⟩ = some (.int .i64 q) := by rw [← hq]; exact HR2.out.c1
                have HQ := Lib.hid hq
                clear hq
                have cl := HR2.out.cl
                have sl := HR2.out.s.l
                have fl := HR2.out.f.l
                have q0 : (0 : Int) ≤ (q : Int) := by omega
                go_upto_if 108 with fail
                go_cut [15] (fun s15 wx => s15 = .pointer (some ⟨wc.heap.size, 0, none⟩) ∧ wx = wc.alloc (.cells #[.int .i64 (u 0), .int .i64 (u 1), .int .i64 (u 2), .int .i64 (u 3), .int .i64 (u 4), .int .i64 (u 5)] 78))
                case first =>
                  by_cases hqt : q < t
                  · have q1 : (q : Int) < (t : Int) := by omega
                    have q2 : (q : Int) < (t : Int) + 1 := by omega
                    have s0c : wc.cell? ⟨w.heap.size, q * 6, none⟩ = some (.int .i64 (u 0)) := by rw [HU.out, if_pos hqt]; exact HR2.out.s.c q 0 (by omega) (by decide)
                    have s1c : wc.cell? ⟨w.heap.size, q * 6 + 1, none⟩ = some (.int .i64 (u 1)) := by rw [HU.out, if_pos hqt]; exact HR2.out.s.c q 1 (by omega) (by decide)
                    have s2c : wc.cell? ⟨w.heap.size, q * 6 + 2, none⟩ = some (.int .i64 (u 2)) := by rw [HU.out, if_pos hqt]; exact HR2.out.s.c q 2 (by omega) (by decide)
                    have s3c : wc.cell? ⟨w.heap.size, q * 6 + 3, none⟩ = some (.int .i64 (u 3)) := by rw [HU.out, if_pos hqt]; exact HR2.out.s.c q 3 (by omega) (by decide)
                    have s4c : wc.cell? ⟨w.heap.size, q * 6 + 4, none⟩ = some (.int .i64 (u 4)) := by rw [HU.out, if_pos hqt]; exact HR2.out.s.c q 4 (by omega) (by decide)
                    have s5c : wc.cell? ⟨w.heap.size, q * 6 + 5, none⟩ = some (.int .i64 (u 5)) := by rw [HU.out, if_pos hqt]; exact HR2.out.s.c q 5 (by omega) (by decide)
                    go_wp2_with fail
                    go_meet
                    case rel => exact ⟨rfl, rfl⟩
                  · have q1 : (t : Int) ≤ (q : Int) := by omega
                    have HU0 := Lib.hid (show ∀ j, u j = 0 from fun j => by rw [HU.out, if_neg hqt])
                    go_wp2_with fail
                    go_meet
                    case rel => exact ⟨rfl, by rw [HU0.out 0, HU0.out 1, HU0.out 2, HU0.out 3, HU0.out 4, HU0.out 5]⟩
                case rest =>
                  obtain ⟨rfl, rfl⟩ := hcut
                  by_cases hG : r2.G = true
                  · have hg2 : gen r2 = 2 := by unfold gen; rw [if_pos hG]
                    rw [hg2] at c0
                    clear hg2
                    have HGG := Lib.hid hG
                    clear hG
                    go_wp2_with fail
                    go_meet
                    case rel => exact ⟨r2, Lib.hid ⟨HGG.out, HGN.out HGG.out, RQ.below HR2.out (by go_grown)⟩⟩
                  · have hG0 : r2.G = false := by simpa using hG
                    clear hG
                    have hg2 : gen r2 = 1 := by unfold gen; rw [hG0]; rfl
                    rw [hg2] at c0
                    have hqN : r2.N = q := by
                      have := HQ.out
                      unfold num at this
                      rw [hG0] at this
                      exact Int.ofNat.inj this
                    obtain ⟨e, HE⟩ : ∃ e : Nat → Int, Hid (∀ j, e j = if r2.S t then gv t j else 0) := ⟨_, Lib.hid fun j => rfl⟩
                    obtain ⟨r0, r1, r3, r4, HX, HNX⟩ := next_two gv t r2 (by omega) HN.out hG0 HGV.out.1 (by rw [HGV.out.2.1]; omega) (by rw [HGV.out.2.1]; omega) HGV.out.2.2.1 HGV.out.2.2.2.1 HGV.out.2.2.2.2 u e (by rw [hqN]; exact HU.out) HE.out
                    rw [hqN] at HX
                    have HX' := Lib.hid HX
                    have HNX' := Lib.hid HNX
                    have HG0 := Lib.hid hG0
                    clear HX HNX hqN hg2 hG0
                    have e0c : wc.cell? ⟨w.heap.size, t * 6, none⟩ = some (.int .i64 (e 0)) := by rw [HE.out]; exact HR2.out.s.c t 0 (by omega) (by decide)
                    have e1c : wc.cell? ⟨w.heap.size, t * 6 + 1, none⟩ = some (.int .i64 (e 1)) := by rw [HE.out]; exact HR2.out.s.c t 1 (by omega) (by decide)
                    have e2c : wc.cell? ⟨w.heap.size, t * 6 + 2, none⟩ = some (.int .i64 (e 2)) := by rw [HE.out]; exact HR2.out.s.c t 2 (by omega) (by decide)
                    have e3c : wc.cell? ⟨w.heap.size, t * 6 + 3, none⟩ = some (.int .i64 (e 3)) := by rw [HE.out]; exact HR2.out.s.c t 3 (by omega) (by decide)
                    have e4c : wc.cell? ⟨w.heap.size, t * 6 + 4, none⟩ = some (.int .i64 (e 4)) := by rw [HE.out]; exact HR2.out.s.c t 4 (by omega) (by decide)
                    have e5c : wc.cell? ⟨w.heap.size, t * 6 + 5, none⟩ = some (.int .i64 (e 5)) := by rw [HE.out]; exact HR2.out.s.c t 5 (by omega) (by decide)
                    go_upto_region 26 with fail
                    have cw := HR2.out.cw
                    have HY0 := Lib.hid (show (((wc.alloc (.cells #[.int .i64 (u 0), .int .i64 (u 1), .int .i64 (u 2), .int .i64 (u 3), .int .i64 (u 4), .int .i64 (u 5)] 78)).alloc (.cells #[.int .i64 0, .int .i64 0, .int .i64 0, .int .i64 0, .int .i64 0, .int .i64 0] 78)).drew).cell? ⟨(wc.heap.size + 1), 0, none⟩ = some (.int .i64 0) from by simp [go_sem])
                    have HZ0 := Lib.hid (show (((wc.alloc (.cells #[.int .i64 (u 0), .int .i64 (u 1), .int .i64 (u 2), .int .i64 (u 3), .int .i64 (u 4), .int .i64 (u 5)] 78)).alloc (.cells #[.int .i64 0, .int .i64 0, .int .i64 0, .int .i64 0, .int .i64 0, .int .i64 0] 78)).drew).frozen? ⟨(wc.heap.size + 1), 0, none⟩ = false from by simp [go_sem])
                    have HY1 := Lib.hid (show (((wc.alloc (.cells #[.int .i64 (u 0), .int .i64 (u 1), .int .i64 (u 2), .int .i64 (u 3), .int .i64 (u 4), .int .i64 (u 5)] 78)).alloc (.cells #[.int .i64 0, .int .i64 0, .int .i64 0, .int .i64 0, .int .i64 0, .int .i64 0] 78)).drew).cell? ⟨(wc.heap.size + 1), 1, none⟩ = some (.int .i64 0) from by simp [go_sem])
                    have HZ1 := Lib.hid (show (((wc.alloc (.cells #[.int .i64 (u 0), .int .i64 (u 1), .int .i64 (u 2), .int .i64 (u 3), .int .i64 (u 4), .int .i64 (u 5)] 78)).alloc (.cells #[.int .i64 0, .int .i64 0, .int .i64 0, .int .i64 0, .int .i64 0, .int .i64 0] 78)).drew).frozen? ⟨(wc.heap.size + 1), 1, none⟩ = false from by simp [go_sem])
                    have HY2 := Lib.hid (show (((wc.alloc (.cells #[.int .i64 (u 0), .int .i64 (u 1), .int .i64 (u 2), .int .i64 (u 3), .int .i64 (u 4), .int .i64 (u 5)] 78)).alloc (.cells #[.int .i64 0, .int .i64 0, .int .i64 0, .int .i64 0, .int .i64 0, .int .i64 0] 78)).drew).cell? ⟨(wc.heap.size + 1), 2, none⟩ = some (.int .i64 0) from by simp [go_sem])
                    have HZ2 := Lib.hid (show (((wc.alloc (.cells #[.int .i64 (u 0), .int .i64 (u 1), .int .i64 (u 2), .int .i64 (u 3), .int .i64 (u 4), .int .i64 (u 5)] 78)).alloc (.cells #[.int .i64 0, .int .i64 0, .int .i64 0, .int .i64 0, .int .i64 0, .int .i64 0] 78)).drew).frozen? ⟨(wc.heap.size + 1), 2, none⟩ = false from by simp [go_sem])
                    have HY3 := Lib.hid (show (((wc.alloc (.cells #[.int .i64 (u 0), .int .i64 (u 1), .int .i64 (u 2), .int .i64 (u 3), .int .i64 (u 4), .int .i64 (u 5)] 78)).alloc (.cells #[.int .i64 0, .int .i64 0, .int .i64 0, .int .i64 0, .int .i64 0, .int .i64 0] 78)).drew).cell? ⟨(wc.heap.size + 1), 3, none⟩ = some (.int .i64 0) from by simp [go_sem])
                    have HZ3 := Lib.hid (show (((wc.alloc (.cells #[.int .i64 (u 0), .int .i64 (u 1), .int .i64 (u 2), .int .i64 (u 3), .int .i64 (u 4), .int .i64 (u 5)] 78)).alloc (.cells #[.int .i64 0, .int .i64 0, .int .i64 0, .int .i64 0, .int .i64 0, .int .i64 0] 78)).drew).frozen? ⟨(wc.heap.size + 1), 3, none⟩ = false from by simp [go_sem])
                    have HY4 := Lib.hid (show (((wc.alloc (.cells #[.int .i64 (u 0), .int .i64 (u 1), .int .i64 (u 2), .int .i64 (u 3), .int .i64 (u 4), .int .i64 (u 5)] 78)).alloc (.cells #[.int .i64 0, .int .i64 0, .int .i64 0, .int .i64 0, .int .i64 0, .int .i64 0] 78)).drew).cell? ⟨(wc.heap.size + 1), 4, none⟩ = some (.int .i64 0) from by simp [go_sem])
                    have HZ4 := Lib.hid (show (((wc.alloc (.cells #[.int .i64 (u 0), .int .i64 (u 1), .int .i64 (u 2), .int .i64 (u 3), .int .i64 (u 4), .int .i64 (u 5)] 78)).alloc (.cells #[.int .i64 0, .int .i64 0, .int .i64 0, .int .i64 0, .int .i64 0, .int .i64 0] 78)).drew).frozen? ⟨(wc.heap.size + 1), 4, none⟩ = false from by simp [go_sem])
                    have HY5 := Lib.hid (show (((wc.alloc (.cells #[.int .i64 (u 0), .int .i64 (u 1), .int .i64 (u 2), .int .i64 (u 3), .int .i64 (u 4), .int .i64 (u 5)] 78)).alloc (.cells #[.int .i64 0, .int .i64 0, .int .i64 0, .int .i64 0, .int .i64 0, .int .i64 0] 78)).drew).cell? ⟨(wc.heap.size + 1), 5, none⟩ = some (.int .i64 0) from by simp [go_sem])
                    have HZ5 := Lib.hid (show (((wc.alloc (.cells #[.int .i64 (u 0), .int .i64 (u 1), .int .i64 (u 2), .int .i64 (u 3), .int .i64 (u 4), .int .i64 (u 5)] 78)).alloc (.cells #[.int .i64 0, .int .i64 0, .int .i64 0, .int .i64 0, .int .i64 0, .int .i64 0] 78)).drew).frozen? ⟨(wc.heap.size + 1), 5, none⟩ = false from by simp [go_sem])
                    have HRl := Lib.hid (show (wc.heap.size + 1) < (((wc.alloc (.cells #[.int .i64 (u 0), .int .i64 (u 1), .int .i64 (u 2), .int .i64 (u 3), .int .i64 (u 4), .int .i64 (u 5)] 78)).alloc (.cells #[.int .i64 0, .int .i64 0, .int .i64 0, .int .i64 0, .int .i64 0, .int .i64 0] 78)).drew).heap.size from by simp only [World.size_drew, World.size_alloc]; omega)
                    have HCl := Lib.hid (show w1.heap.size < (((wc.alloc (.cells #[.int .i64 (u 0), .int .i64 (u 1), .int .i64 (u 2), .int .i64 (u 3), .int .i64 (u 4), .int .i64 (u 5)] 78)).alloc (.cells #[.int .i64 0, .int .i64 0, .int .i64 0, .int .i64 0, .int .i64 0, .int .i64 0] 78)).drew).heap.size from by simp only [World.size_drew, World.size_alloc]; omega)
                    have HBA := Lib.hid (show Below wc.heap.size wc (((wc.alloc (.cells #[.int .i64 (u 0), .int .i64 (u 1), .int .i64 (u 2), .int .i64 (u 3), .int .i64 (u 4), .int .i64 (u 5)] 78)).alloc (.cells #[.int .i64 0, .int .i64 0, .int .i64 0, .int .i64 0, .int .i64 0, .int .i64 0] 78)).drew) from by go_grown)
                    have HC0 := Lib.hid ((HBA.out.cell (p := ⟨w1.heap.size, 0, none⟩) cl).trans c0)
                    have HD0 := Lib.hid ((HBA.out.frozen (p := ⟨w1.heap.size, 0, none⟩) cl).trans HR2.out.f0)
                    have HC1 := Lib.hid ((HBA.out.cell (p := ⟨w1.heap.size, 1, none⟩) cl).trans c1)
                    have HD1 := Lib.hid ((HBA.out.frozen (p := ⟨w1.heap.size, 1, none⟩) cl).trans HR2.out.f1)
                    go_cut [16] (fun s16 wx => s16 = .pointer (some ⟨(wc.heap.size + 1), 0, none⟩) ∧ ∃ w2, Hid (Below (((wc.alloc (.cells #[.int .i64 (u 0), .int .i64 (u 1), .int .i64 (u 2), .int .i64 (u 3), .int .i64 (u 4), .int .i64 (u 5)] 78)).alloc (.cells #[.int .i64 0, .int .i64 0, .int .i64 0, .int .i64 0, .int .i64 0, .int .i64 0] 78)).drew).heap.size (((wc.alloc (.cells #[.int .i64 (u 0), .int .i64 (u 1), .int .i64 (u 2), .int .i64 (u 3), .int .i64 (u 4), .int .i64 (u 5)] 78)).alloc (.cells #[.int .i64 0, .int .i64 0, .int .i64 0, .int .i64 0, .int .i64 0, .int .i64 0] 78)).drew) w2) ∧ wx = two (six w2 (wc.heap.size + 1) 0 (fun j => match j with | 0 => r0 | 1 => r1 | 2 => r3 | 3 => r4 | _ => 0)) w1.heap.size (gen (Rd.tell t r2)) (num (Rd.tell t r2)))
                    case first =>
                      clear HNX' HK1 HK2 HKK HGV HV1 HE1 H0 H1 H2 HT HN HGN HU HQ HE HG0 hil hi i0 i1 k0 hmk
                      go_region_with (go_at_call 39; refine (HX'.out _).mono ?_; rintro ex w2 ⟨rfl, hb2⟩; have rc0 := (hb2.cell (p := ⟨(wc.heap.size + 1), 0, none⟩) HRl.out).trans HY0.out; have rf0 := (hb2.frozen (p := ⟨(wc.heap.size + 1), 0, none⟩) HRl.out).trans HZ0.out; have rc1 := (hb2.cell (p := ⟨(wc.heap.size + 1), 1, none⟩) HRl.out).trans HY1.out; have rf1 := (hb2.frozen (p := ⟨(wc.heap.size + 1), 1, none⟩) HRl.out).trans HZ1.out; have rc2 := (hb2.cell (p := ⟨(wc.heap.size + 1), 2, none⟩) HRl.out).trans HY2.out; have rf2 := (hb2.frozen (p := ⟨(wc.heap.size + 1), 2, none⟩) HRl.out).trans HZ2.out; have rc3 := (hb2.cell (p := ⟨(wc.heap.size + 1), 3, none⟩) HRl.out).trans HY3.out; have rf3 := (hb2.frozen (p := ⟨(wc.heap.size + 1), 3, none⟩) HRl.out).trans HZ3.out; have rc4 := (hb2.cell (p := ⟨(wc.heap.size + 1), 4, none⟩) HRl.out).trans HY4.out; have rf4 := (hb2.frozen (p := ⟨(wc.heap.size + 1), 4, none⟩) HRl.out).trans HZ4.out; have rc5 := (hb2.cell (p := ⟨(wc.heap.size + 1), 5, none⟩) HRl.out).trans HY5.out; have rf5 := (hb2.frozen (p := ⟨(wc.heap.size + 1), 5, none⟩) HRl.out).trans HZ5.out; have cc0 := (hb2.cell (p := ⟨w1.heap.size, 0, none⟩) HCl.out).trans HC0.out; have cf0 := (hb2.frozen (p := ⟨w1.heap.size, 0, none⟩) HCl.out).trans HD0.out; have cc1 := (hb2.cell (p := ⟨w1.heap.size, 1, none⟩) HCl.out).trans HC1.out; have cf1 := (hb2.frozen (p := ⟨w1.heap.size, 1, none⟩) HCl.out).trans HD1.out; have HB2 := Lib.hid hb2; clear hb2)
                      all_goals (go_wp2_with fail; go_meet; exact ⟨rfl, w2, HB2, rfl⟩)
                    case rest =>
                     obtain ⟨rfl, w2, HB2, rfl⟩ := hcut
                     have hb2 := HB2.out
                     have rc0 := (hb2.cell (p := ⟨(wc.heap.size + 1), 0, none⟩) HRl.out).trans HY0.out; have rf0 := (hb2.frozen (p := ⟨(wc.heap.size + 1), 0, none⟩) HRl.out).trans HZ0.out; have rc1 := (hb2.cell (p := ⟨(wc.heap.size + 1), 1, none⟩) HRl.out).trans HY1.out; have rf1 := (hb2.frozen (p := ⟨(wc.heap.size + 1), 1, none⟩) HRl.out).trans HZ1.out; have rc2 := (hb2.cell (p := ⟨(wc.heap.size + 1), 2, none⟩) HRl.out).trans HY2.out; have rf2 := (hb2.frozen (p := ⟨(wc.heap.size + 1), 2, none⟩) HRl.out).trans HZ2.out; have rc3 := (hb2.cell (p := ⟨(wc.heap.size + 1), 3, none⟩) HRl.out).trans HY3.out; have rf3 := (hb2.frozen (p := ⟨(wc.heap.size + 1), 3, none⟩) HRl.out).trans HZ3.out; have rc4 := (hb2.cell (p := ⟨(wc.heap.size + 1), 4, none⟩) HRl.out).trans HY4.out; have rf4 := (hb2.frozen (p := ⟨(wc.heap.size + 1), 4, none⟩) HRl.out).trans HZ4.out; have rc5 := (hb2.cell (p := ⟨(wc.heap.size + 1), 5, none⟩) HRl.out).trans HY5.out; have rf5 := (hb2.frozen (p := ⟨(wc.heap.size + 1), 5, none⟩) HRl.out).trans HZ5.out; have cc0 := (hb2.cell (p := ⟨w1.heap.size, 0, none⟩) HCl.out).trans HC0.out; have cf0 := (hb2.frozen (p := ⟨w1.heap.size, 0, none⟩) HCl.out).trans HD0.out; have cc1 := (hb2.cell (p := ⟨w1.heap.size, 1, none⟩) HCl.out).trans HC1.out; have cf1 := (hb2.frozen (p := ⟨w1.heap.size, 1, none⟩) HCl.out).trans HD1.out; clear hb2
                     go_upto_region 27 with fail
                     change Code.wp _ _ _ _ (two (six w2 (wc.heap.size + 1) 0 (fun j => match j with | 0 => r0 | 1 => r1 | 2 => r3 | 3 => r4 | _ => 0)) w1.heap.size (gen (Rd.tell t r2)) (num (Rd.tell t r2)))
                     have hG6 : Grid (wc.heap.size + 1) 1 (fun _ _ => 0) w2 := ⟨fun k j hk hj => by
                       obtain rfl : k = 0 := by omega
                       match j, hj with
                       | 0, _ => exact rc0
                       | 1, _ => exact rc1
                       | 2, _ => exact rc2
                       | 3, _ => exact rc3
                       | 4, _ => exact rc4
                       | 5, _ => exact rc5, fun o ho => by
                       match o, ho with
                       | 0, _ => exact rf0
                       | 1, _ => exact rf1
                       | 2, _ => exact rf2
                       | 3, _ => exact rf3
                       | 4, _ => exact rf4
                       | 5, _ => exact rf5, Nat.lt_of_lt_of_le HRl.out HB2.out.size⟩
                     have hQ5 := (RQ.next (g' := gen (Rd.tell t r2)) (k' := num (Rd.tell t r2)) HR2.out (Below.step HBA.out HB2.out) (show wc.heap.size ≤ wc.heap.size + 1 by omega) (fun j => match j with | 0 => r0 | 1 => r1 | 2 => r3 | 3 => r4 | _ => 0)).1
                     have hG7 := (hG6.put (k := 0) (u := (fun j => match j with | 0 => r0 | 1 => r1 | 2 => r3 | 3 => r4 | _ => 0)) (by omega)).via (wx := two (six w2 (wc.heap.size + 1) 0 (fun j => match j with | 0 => r0 | 1 => r1 | 2 => r3 | 3 => r4 | _ => 0)) w1.heap.size (gen (Rd.tell t r2)) (num (Rd.tell t r2))) (two_heap _ _ _ _ _ (by omega)) (by rw [two_size]; exact Nat.le_refl _)
                     have rr0 : (two (six w2 (wc.heap.size + 1) 0 (fun j => match j with | 0 => r0 | 1 => r1 | 2 => r3 | 3 => r4 | _ => 0)) w1.heap.size (gen (Rd.tell t r2)) (num (Rd.tell t r2))).cell? ⟨wc.heap.size + 1, 0, none⟩ = some (.int .i64 r0) := hG7.c 0 0 (by omega) (by decide)
                     have rr1 : (two (six w2 (wc.heap.size + 1) 0 (fun j => match j with | 0 => r0 | 1 => r1 | 2 => r3 | 3 => r4 | _ => 0)) w1.heap.size (gen (Rd.tell t r2)) (num (Rd.tell t r2))).cell? ⟨wc.heap.size + 1, 1, none⟩ = some (.int .i64 r1) := hG7.c 0 1 (by omega) (by decide)
                     have rr2 : (two (six w2 (wc.heap.size + 1) 0 (fun j => match j with | 0 => r0 | 1 => r1 | 2 => r3 | 3 => r4 | _ => 0)) w1.heap.size (gen (Rd.tell t r2)) (num (Rd.tell t r2))).cell? ⟨wc.heap.size + 1, 2, none⟩ = some (.int .i64 r3) := hG7.c 0 2 (by omega) (by decide)
                     have rr3 : (two (six w2 (wc.heap.size + 1) 0 (fun j => match j with | 0 => r0 | 1 => r1 | 2 => r3 | 3 => r4 | _ => 0)) w1.heap.size (gen (Rd.tell t r2)) (num (Rd.tell t r2))).cell? ⟨wc.heap.size + 1, 3, none⟩ = some (.int .i64 r4) := hG7.c 0 3 (by omega) (by decide)
                     have rr4 : (two (six w2 (wc.heap.size + 1) 0 (fun j => match j with | 0 => r0 | 1 => r1 | 2 => r3 | 3 => r4 | _ => 0)) w1.heap.size (gen (Rd.tell t r2)) (num (Rd.tell t r2))).cell? ⟨wc.heap.size + 1, 4, none⟩ = some (.int .i64 0) := hG7.c 0 4 (by omega) (by decide)
                     have rr5 : (two (six w2 (wc.heap.size + 1) 0 (fun j => match j with | 0 => r0 | 1 => r1 | 2 => r3 | 3 => r4 | _ => 0)) w1.heap.size (gen (Rd.tell t r2)) (num (Rd.tell t r2))).cell? ⟨wc.heap.size + 1, 5, none⟩ = some (.int .i64 0) := hG7.c 0 5 (by omega) (by decide)
                     have hRl5 := hG7.l
                     have HQ5 := Lib.hid hQ5
                     clear hQ5 hG6 hG7 rc0 rc1 rc2 rc3 rc4 rc5 rf0 rf1 rf2 rf3 rf4 rf5 cc0 cc1 cf0 cf1 e0c e1c e2c e3c e4c e5c c0 c1
                     generalize two (six w2 (wc.heap.size + 1) 0 (fun j => match j with | 0 => r0 | 1 => r1 | 2 => r3 | 3 => r4 | _ => 0)) w1.heap.size (gen (Rd.tell t r2)) (num (Rd.tell t r2)) = W5 at *
                     have hsz5 : wc.heap.size + 1 < W5.heap.size := hRl5
                     by_cases h0 : r0 = 0
                     · subst h0
                       have HTE := Lib.hid (show Rd.tell t r2 = r2 from by rcases HNX'.out with ⟨_, h⟩ | ⟨h, _⟩; exact h; exact absurd rfl h)
                       go_wp2_with fail
                       go_roundg (len1 + 2 * (t + 1) + 1 - (i + 1))
                       case measure => omega
                       case rel => exact ⟨i + 1, rfl, by omega, by go_num, Lib.hid (by rw [HT.out]; have h := HQ5.out; rw [HTE.out] at h ⊢; exact h)⟩
                     · have hne : (r0 == 0) = false := by simpa using h0
                       have hne2 : (r0 != 0) = true := by simp [bne, hne]
                       have HTC := Lib.hid (show count (Rd.tell t r2) = count r2 + 1 ∧ told gv t (Rd.tell t r2) = told gv t r2 ++ [.int .i64 r0, .int .i64 r1, .int .i64 r3, .int .i64 r4, .int .i64 0, .int .i64 0] from by rcases HNX'.out with ⟨h, _⟩ | ⟨_, h⟩; exact absurd h h0; exact h)
                       clear h0
                       obtain ⟨i0, hi0, hz0, hz1, hz2⟩ := info_parts infoR
                       have HI := Lib.hid hi0
                       have HZA := Lib.hid hz0
                       have HZB := Lib.hid hz1
                       have HZC := Lib.hid hz2
                       have HCT := Lib.hid (show count r2 ≤ 5 from by have := HN.out; unfold count; split <;> omega)
                       have N1 := Lib.hid (show count r2 + 1 ≤ maxLen from by have := HCT.out; unfold maxLen; omega)
                       have N2 := Lib.hid (show (count r2 + 1) * 48 ≤ 140737488355328 from by have := HCT.out; omega)
                       have HRD := Lib.hid (reads_new6 W5 [.int .i64 r0, .int .i64 r1, .int .i64 r3, .int .i64 r4, .int .i64 0, .int .i64 0] 78 rfl)
                       have HO1 := Lib.hid (HQ5.out.o.alloc (Obj.cells #[.int .i64 r0, .int .i64 r1, .int .i64 r3, .int .i64 r4, .int .i64 0, .int .i64 0] 78))
                       have N3 := Lib.hid (show w1.heap.size + 1 ≤ (W5.alloc (Obj.cells #[.int .i64 r0, .int .i64 r1, .int .i64 r3, .int .i64 r4, .int .i64 0, .int .i64 0] 78)).heap.size from by rw [World.size_alloc]; omega)
                       have NV := Lib.hid (show ∀ u ∈ ([.int .i64 r0, .int .i64 r1, .int .i64 r3, .int .i64 r4, .int .i64 0, .int .i64 0] : List Value), u.oneCell' = true from by intro u hu; simp only [List.mem_cons, List.not_mem_nil, or_false] at hu; rcases hu with h | h | h | h | h | h <;> (subst h; rfl))
                       clear hi0 hz0 hz1 hz2
                       go_wp2_with (at_builtin; refine wpList_append_any _ rfl (.tmp 131) (.tmp 133) 75 rfl (w1.heap.size + 1) 78 i0 (.agg #[.int .i64 0, .int .i64 0, .int .i64 0, .int .i64 0, .int .i64 0, .int .i64 0]) 6 48 Try.underlying75 HI.out HZA.out HZB.out HZC.out rfl (by decide) _ (count r2) (told gv t r2) rfl HO1.out _ (some ⟨W5.heap.size, 0, none⟩) 1 1 [.int .i64 r0, .int .i64 r1, .int .i64 r3, .int .i64 r4, .int .i64 0, .int .i64 0] rfl HRD.out NV.out N1.out N2.out N3.out ?_; intro v6 w6 hown6 hgrow6 hblk6; have HP := Lib.hid (And.intro hown6 hgrow6); clear hown6 hgrow6 hblk6)
                       go_roundg (len1 + 2 * (t + 1) + 1 - (i + 1))
                       case measure => omega
                       case rel => exact ⟨i + 1, rfl, by omega, by go_num, Lib.hid (by rw [HT.out]; have h := RQ.grown (HQ5.out.below (show Below W5.heap.size W5 (W5.alloc (Obj.cells #[.int .i64 r0, .int .i64 r1, .int .i64 r3, .int .i64 r4, .int .i64 0, .int .i64 0] 78)) from by go_grown)) HP.out.2 (fun g e => (HO1.out.lt g e).1) HP.out.1; unfold RW; rw [tell_S, HTC.out.1, HTC.out.2]; exact h)⟩
          · obtain rfl : i = len1 + 2 * (t + 1) := by omega
            have HG := Lib.hid (rd_end t len1 KK HK2.out)
            go_wp2_with fail
            go_meet
            case rel => exact ⟨_, Lib.hid ⟨HG.out, rd_G _ _ _ HG.out, HR.out⟩⟩
      case rest =>
        obtain ⟨r, HR⟩ := hcut
        have c0 : wc.cell? ⟨w1.heap.size, 0, none⟩ = some (.int .i64 2) := by have h := HR.out.2.2.c0; unfold gen at h; rw [if_pos HR.out.1] at h; exact h
        have c1 : wc.cell? ⟨w1.heap.size, 1, none⟩ = some (.int .i64 0) := by have h := HR.out.2.2.c1; unfold num at h; rw [if_pos HR.out.1] at h; exact h
        have hcn : count r = t + 1 := by unfold count; rw [HR.out.1, HR.out.2.1]; rfl
        have ho := HR.out.2.2.o
        rw [hcn] at ho
        obtain ⟨g, cap, hv, hgb, hgl⟩ := ho.form (by omega)
        subst hv
        have HT := Lib.hid (show ∀ k, k < t + 1 → ∀ j u, j < 6 → (strip gv k)[j]? = some u → wc.cell? ⟨g, k * 6 + j, none⟩ = some u from fun k hk j u hj hu => by
          have h := ho.cells (g := g) rfl (k * 6 + j) u (by rw [told_get gv t r HR.out.1 HR.out.2.1 k j hk hj]; exact hu)
          have e1 : (⟨g, 0, none⟩ : Addr).add (k * 6 + j) = ⟨g, k * 6 + j, none⟩ := by
            unfold Addr.add
            by_cases hz : k * 6 + j = 0
            · rw [if_pos hz, hz]
            · simp only [if_neg hz, Nat.zero_add]
          rw [e1] at h
          exact h)
        have HB := Lib.hid HR.out.2.2.b
        have HF := Lib.hid HR.out.2.2.f
        clear ho hcn hgb
        have hgl2 := hgl
        go_wp2_with fail
        go_loopw [148] (fun i wx => ∃ k : Nat, k ≤ t + 1 ∧ i = .int .i64 k ∧ Below wc.heap.size wc wx) (fun i _ => t + 1 + 1 - (intOf i).toNat)
        case atStart => exact ⟨0, Nat.zero_le _, rfl, Below.refl _ _⟩
        case round =>
          obtain ⟨k, hk, rfl, hB⟩ := hrel
          have hs := hB.size
          by_cases hkt : k < t + 1
          · have k0 : (0 : Int) ≤ (k : Int) := by omega
            have k1 : (k : Int) < (t : Int) + 1 := by omega
            have a0 : wr.cell? ⟨g, k * 6, none⟩ = some (.int .i64 (gv k 0)) := (hB.cell (p := ⟨g, k * 6, none⟩) hgl2).trans (HT.out k hkt 0 _ (by decide) rfl)
            have b0 : wr.cell? ⟨w.heap.size + 1, k * 6, none⟩ = some (.int .i64 (gv k 0)) := (hB.cell (p := ⟨w.heap.size + 1, k * 6, none⟩) HF.out.l).trans (HF.out.c k 0 hkt (by decide))
            have a1 : wr.cell? ⟨g, k * 6 + 1, none⟩ = some (.int .i64 (gv k 1)) := (hB.cell (p := ⟨g, k * 6 + 1, none⟩) hgl2).trans (HT.out k hkt 1 _ (by decide) rfl)
            have b1 : wr.cell? ⟨w.heap.size + 1, k * 6 + 1, none⟩ = some (.int .i64 (gv k 1)) := (hB.cell (p := ⟨w.heap.size + 1, k * 6 + 1, none⟩) HF.out.l).trans (HF.out.c k 1 hkt (by decide))
            have a2 : wr.cell? ⟨g, k * 6 + 2, none⟩ = some (.int .i64 (gv k 2)) := (hB.cell (p := ⟨g, k * 6 + 2, none⟩) hgl2).trans (HT.out k hkt 2 _ (by decide) rfl)
            have b2 : wr.cell? ⟨w.heap.size + 1, k * 6 + 2, none⟩ = some (.int .i64 (gv k 2)) := (hB.cell (p := ⟨w.heap.size + 1, k * 6 + 2, none⟩) HF.out.l).trans (HF.out.c k 2 hkt (by decide))
            have a3 : wr.cell? ⟨g, k * 6 + 3, none⟩ = some (.int .i64 (gv k 3)) := (hB.cell (p := ⟨g, k * 6 + 3, none⟩) hgl2).trans (HT.out k hkt 3 _ (by decide) rfl)
            have b3 : wr.cell? ⟨w.heap.size + 1, k * 6 + 3, none⟩ = some (.int .i64 (gv k 3)) := (hB.cell (p := ⟨w.heap.size + 1, k * 6 + 3, none⟩) HF.out.l).trans (HF.out.c k 3 hkt (by decide))
            have a4 : wr.cell? ⟨g, k * 6 + 4, none⟩ = some (.int .i64 0) := (hB.cell (p := ⟨g, k * 6 + 4, none⟩) hgl2).trans (HT.out k hkt 4 _ (by decide) rfl)
            have b4 : wr.cell? ⟨w.heap.size + 1, k * 6 + 4, none⟩ = some (.int .i64 (gv k 4)) := (hB.cell (p := ⟨w.heap.size + 1, k * 6 + 4, none⟩) HF.out.l).trans (HF.out.c k 4 hkt (by decide))
            have a5 : wr.cell? ⟨g, k * 6 + 5, none⟩ = some (.int .i64 0) := (hB.cell (p := ⟨g, k * 6 + 5, none⟩) hgl2).trans (HT.out k hkt 5 _ (by decide) rfl)
            have b5 : wr.cell? ⟨w.heap.size + 1, k * 6 + 5, none⟩ = some (.int .i64 (gv k 5)) := (hB.cell (p := ⟨w.heap.size + 1, k * 6 + 5, none⟩) HF.out.l).trans (HF.out.c k 5 hkt (by decide))
            have hfl := HF.out.l
            have hfl2 : w.heap.size + 1 < wr.heap.size := by omega
            have hgl3 : g < wr.heap.size := by omega
            go_wp2_with fail
            go_roundw
            case rel => exact ⟨k + 1, by omega, by go_num, by go_grown⟩
            case measure => simp [intOf]; omega
          · obtain rfl : k = t + 1 := by omega
            go_wp2_with fail
            refine (awake08 _).mono ?_
            rintro e w2 ⟨rfl, hb2⟩
            have hBB := Below.step (Below.step HB.out hB) hb2
            clear hb2
            go_wp2
            go_ret
            exact ⟨rfl, hBB⟩
end Go.Proofs.Ytdjdpbgemdmpiaa.recordReads
