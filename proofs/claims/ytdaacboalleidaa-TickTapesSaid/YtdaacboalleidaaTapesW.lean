/-
  The walk of TickTapes.
-/
import Derived.Test.YtdaacboalleidaaRows
import Derived.WalkKit
import Derived.ProofKit
import Derived.OpenShut
import Derived.ShutString
import Derived.Below
import Derived.Outline
import Derived.WalkLawsBesides
import Derived.WalkSpells
import Derived.Handy
import Derived.Deep.QuietTactic
import Derived.BigQuiet
import Derived.RegionTactic
import Derived.ChangeAlike
import Derived.Lib.Hide
import Derived.Test.YtdaacboalleidaaKit
import Derived.Test.YtdaacboalleidaaTick
import Derived.Test.YtdaacboalleidaaApp
import Derived.Test.YtdaacboalleidaaTape2
import Derived.Test.YtdaacboalleidaaGoesW
namespace Go.Proofs.Ytdaacboalleidaa.tickTapes
open Go.ChangeShapes Go.WideShapes Go.ChangeAt Go.RowKit

theorem reads_one {g : Nat} (w : World) (x : Int) (h : w.cell? ⟨g, 0, none⟩ = some (.int .i64 x)) (hg : g < w.heap.size) : Reads w w.heap.size 1 (some ⟨g, 0, none⟩) 1 ([x].map (Value.int .i64)) := by
  refine ⟨rfl, fun _ => ⟨_, rfl, hg, fun j u hu => ?_⟩⟩
  match j, hu with
  | 0, hu =>
    simp at hu
    subst hu
    exact h
theorem take_snoc (xs : List Int) (k : Nat) (h : k < xs.length) : xs.take k ++ [xs.getD k 0] = xs.take (k + 1) := by
  rw [List.take_succ_eq_append_getElem h, List.getD_eq_getElem?_getD, List.getElem?_eq_getElem h]; rfl

set_option maxRecDepth 100000 in
set_option maxHeartbeats 4000000 in
theorem main (A : Option Addr) (cap0 : Nat) (zs : List Int) (w : World) (hl : zs.length ≤ 200) (hR : Row w w.heap.size A zs) :
    Calls Try.prog 5 #[.slice A zs.length cap0] w fun e w' => e = .returned (.bool true) ∧ Below w.heap.size w w' := by
  have HR := Lib.hid hR
  clear hR
  go_enter Try.func5, Try.ntmps5
  go_wp2_with fail
  have h0 : Two2 w ((w.alloc (Obj.cells #[.slice none 0 0, .int .i64 0] 35)).alloc (Obj.cells #[.slice none 0 0, .int .i64 0] 35)) (.slice none 0 0) (.slice none 0 0) [] [] :=
    ⟨by simp [go_sem], by simp [go_sem], by simp [go_sem], by simp [go_sem], by simp [go_sem], by simp [go_sem], by simp [go_sem], by simp [go_sem], World.ownsRow_nil _ _ _ _, World.ownsRow_nil _ _ _ _, by intro g h; simp [Value.ownBlock] at h, by go_grown, by simp⟩
  have hB0 : Below w.heap.size w ((w.alloc (Obj.cells #[.slice none 0 0, .int .i64 0] 35)).alloc (Obj.cells #[.slice none 0 0, .int .i64 0] 35)) := h0.bel
  refine (put16 w.heap.size (w.heap.size + 2) 0 zs.length cap0 (.slice none 0 0) A [] zs _ (by omega) h0.lt h0.a0 h0.fa0 h0.oa (tickGoes.row_reads (HR.out.below hB0 (Nat.le_refl _))) (by omega)).mono ?_
  intro e w1 hp
  obtain ⟨rfl, va, hT⟩ := h0.putA hp
  rw [List.nil_append] at hT
  clear hp h0 hB0
  go_wp2_with fail
  go_loopw [21] (fun i wr => ∃ (k : Nat) (va vb : Value), k ≤ zs.length ∧ i = .int .i64 k ∧ Two2 w wr va vb zs (zs.take k)) (fun i _ => zs.length - (intOf i).toNat)
  case atStart => exact ⟨0, va, _, Nat.zero_le _, rfl, hT⟩
  case round =>
    clear hT
    obtain ⟨k, va, vb, hk, rfl, hT⟩ := hrel
    by_cases hlt : k < zs.length
    · obtain ⟨g, off, rfl, hne, hg, hc⟩ := HR.out.1 (by omega)
      have hz : wr.cell? ⟨g, off + k, none⟩ = some (.int .i64 (zs.getD k 0)) := (hT.bel.cell (p := ⟨g, off + k, none⟩) hg).trans (hc k hlt)
      have hsn := take_snoc zs k hlt
      have htl : (zs.take k).length = k := by rw [List.length_take]; omega
      clear hc
      generalize zs.getD k 0 = v at *
      have HS := Lib.hid hsn
      have HL := Lib.hid htl
      clear hsn htl
      have hTa := hT.alloc (Obj.cells #[.int .i64 v] 3)
      go_wp2_with fail
      refine (put16 (w.heap.size + 1) (w.heap.size + 2) (zs.take k).length 1 1 vb (some ⟨wr.heap.size, 0, none⟩) (zs.take k) [v] _ (by omega) hTa.lt hTa.b0 hTa.fb0 hTa.ob (reads_one _ v (by simp [go_sem]) (by simp)) (by rw [HL.out]; omega)).mono ?_
      intro e w2 hp
      obtain ⟨rfl, vb', hT2⟩ := hTa.putB hp
      rw [HS.out] at hT2
      clear hp hTa hT hz
      go_wp2
      go_roundw
      case rel => exact ⟨k + 1, va, vb', by omega, by go_num, hT2⟩
      case measure => simp [intOf]; omega
    · have hx : zs.take k = zs := List.take_of_length_le (by omega)
      rw [hx] at hT
      have hl1 := hT.lt
      have hA : TapeAt wr (w.heap.size + 2) w.heap.size zs 0 := TapeAt.of_own hT.oa hT.a0 hT.a1 hT.fa0 hT.fa1 (by omega)
      have hB : TapeAt wr (w.heap.size + 2) (w.heap.size + 1) zs 0 := TapeAt.of_own hT.ob hT.b0 hT.b1 hT.fb0 hT.fb1 (by omega)
      have hbl := hT.bel
      clear hx hT hl1
      go_wp2_with fail
      go_loopw [31] (fun i wx => ∃ k : Nat, k ≤ zs.length ∧ i = .int .i64 k ∧ TapeAt wx (w.heap.size + 2) w.heap.size zs k ∧ TapeAt wx (w.heap.size + 2) (w.heap.size + 1) zs k ∧ Below w.heap.size w wx) (fun i _ => zs.length - (intOf i).toNat)
      case atStart => first | exact ⟨0, Nat.zero_le _, rfl, hA, hB, hbl⟩ | ((repeat apply Exists.intro); exact ⟨⟨0, Nat.zero_le _, rfl, hA, hB, hbl⟩, rfl⟩)
      case round =>
        clear hA hB hbl
        obtain ⟨m, hm, rfl, hA, hB, hbl⟩ := hrel
        by_cases hlt2 : m < zs.length
        · obtain ⟨v, hv⟩ : ∃ v : Int, zs.getD m 0 = v := ⟨_, rfl⟩
          have hxx : (v != v) = false := by simp
          have HV := Lib.hid hv
          clear hv
          have hT1 := takeT hA hlt2 (by omega) (by omega)
          rw [HV.out] at hT1
          have HT := Lib.hid hT1
          clear hT1
          go_wp2_with fail
          refine HT.out.mono ?_
          rintro e w3 ⟨rfl, hA3, hg3⟩
          have hB3 := hB.other hg3 (by omega) (by omega)
          have hbl3 : Below w.heap.size w w3 := Below.grown hbl hg3 hbl.size (fun k e => by injection e with e; omega)
          clear hA hB
          go_wp2_with fail
          have hT4 := takeT hB3 hlt2 (by omega) (by omega)
          rw [HV.out] at hT4
          refine hT4.mono ?_
          clear hT4
          rintro e w4 ⟨rfl, hB4, hg4⟩
          have hA4 := hA3.other hg4 (by omega) (by omega)
          have hbl4 : Below w.heap.size w w4 := Below.grown hbl3 hg4 hbl3.size (fun k e => by injection e with e; omega)
          clear hA3 hB3 hg3 hg4 HT
          go_wp2
          go_roundw
          case rel => first | exact ⟨m + 1, by omega, by go_num, hA4, hB4, hbl4⟩ | ((repeat apply Exists.intro); exact ⟨⟨m + 1, by omega, by go_num, hA4, hB4, hbl4⟩, rfl⟩)
          case measure => simp [intOf]; omega
        · have e1 : m = zs.length := by omega
          subst e1
          go_wp2_with fail
          refine (takeN hA).mono ?_
          rintro e w3 ⟨rfl, rfl⟩
          go_wp2_with fail
          refine (awake10 _).mono ?_
          rintro e w4 ⟨rfl, hb4⟩
          have hA4 := hA.below hb4
          have hB4 := hB.below hb4
          have hbl4 := Below.step hbl hb4
          clear hA hB
          go_wp2_with fail
          refine (leftT hA4).mono ?_
          rintro e w5 ⟨rfl, rfl⟩
          go_wp2_with fail
          refine (leftT hB4).mono ?_
          rintro e w5 ⟨rfl, rfl⟩
          go_wp2_with fail
          refine (takenT hA4).mono ?_
          rintro e w5 ⟨rfl, rfl⟩
          go_wp2
          go_ret
          exact ⟨rfl, hbl4⟩

set_option maxHeartbeats 1000000 in
theorem long (A : Option Addr) (n cap0 : Nat) (w : World) (hl : 200 < n) (h0 : n ≤ 9223372036854775807) :
    Calls Try.prog 5 #[.slice A n cap0] w fun e w' => e = .returned (.bool true) ∧ Below w.heap.size w w' := by
  go_enter Try.func5, Try.ntmps5
  go_wp2_with fail
  refine (awake10 _).mono ?_
  rintro e w5 ⟨rfl, hb5⟩
  go_wp2
  go_ret
  exact ⟨rfl, hb5⟩

theorem walk (a0 : Option Addr) (len0 cap0 : Nat) (z0 : List Int) (w : World) (w0 : IsRow .i64 w a0 len0 cap0 z0) :
    Calls Try.prog 5 #[.slice a0 len0 cap0] w fun e w' => e = .returned (.bool true) ∧ Below w.heap.size w w' := by
  by_cases hl : len0 ≤ 200
  · obtain ⟨e0, r0⟩ := tickGoes.row_of w0 hl
    have := main a0 cap0 (z0.take len0) w (by omega) r0
    rw [e0] at this
    exact this
  · have := tickGoes.len_le w0
    unfold maxLen at this
    exact long _ _ _ w (by omega) this
end Go.Proofs.Ytdaacboalleidaa.tickTapes
