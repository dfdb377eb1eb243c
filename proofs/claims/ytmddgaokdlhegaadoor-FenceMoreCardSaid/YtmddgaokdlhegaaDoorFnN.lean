/-
  A fence; what is had about with an order more.
-/
import Derived.Test.YtmddgaokdlhegaaDoorRows
import Derived.Test.YtmddgaokdlhegaaDoorKit
import Derived.Test.YtmddgaokdlhegaaDoorApp
import Derived.Test.YtmddgaokdlhegaaDoorQuiet
import Derived.Test.YtmddgaokdlhegaaDoorFnM
import Derived.Test.YtmddgaokdlhegaaDoorFnO
import Derived.Test.YtmddgaokdlhegaaDoorFnB
import Derived.Test.YtmddgaokdlhegaaDoorFnR
import Derived.Test.YtmddgaokdlhegaaDoorFnL
import Derived.WalkKit
import Derived.ProofKit
import Derived.OpenShut
import Derived.ShutString
import Derived.Below
import Derived.Outline
import Derived.WalkLawsBesides
import Derived.WalkSpells
import Derived.Handy
import Derived.Deep.QuietTactic
import Derived.BigQuiet
import Derived.RegionTactic
import Derived.ChangeAlike
import Derived.Lib.Hide
import Derived.Laws.Rows
import Derived.Laws.Tables
import Derived.Laws.CopyOwn
import Derived.Laws.MakeOwn
import Derived.Laws.Entries
import Derived.Laws.OwnMore
import Derived.Deep.WholeRow
import Derived.Deep.LoopGhost
import Derived.Deep.AppendLies
import Derived.Deep.Draws
import Derived.Maps.AppendAt
import Derived.OwnWalk
import Derived.Deep.RegionHeld3
import Derived.Deep.Cut
import Derived.Deep.CutRange
import Derived.Deep.DeepCutAuto
import Derived.Deep.CutBlock
import Derived.Lib.SliceRun
import Derived.IntWalk
namespace Go.Proofs.YtmddgaokdlhegaaDoor
open Go.ChangeShapes Go.WideShapes Go.ChangeAt Go.RowKit
set_option maxRecDepth 100000 in
set_option maxHeartbeats 1000000 in
theorem clone_some (ad : Addr) (cap : Nat) (os : List Lim) (w : World) (hr : Reads w w.heap.size 5 (some ad) os.length (lv os)) (hl : os.length ≤ 1000) : Calls Tryd.prog 18 #[.slice (some ad) os.length cap] w fun e w' => ∃ v, e = .returned v ∧ w'.ownsRow w.heap.size 61 5 v os.length (lv os) ∧ Below w.heap.size w w' := by
  obtain ⟨i0, hi, hz0, hz1, hz2⟩ := info_parts infoL
  have HI := Lib.hid hi
  have HZ0 := Lib.hid hz0
  have HZ1 := Lib.hid hz1
  have HZ2 := Lib.hid hz2
  have HR := Lib.hid (hr.alloc (Nat.le_refl _) (.cells #[] 61))
  have HO := Lib.hid (World.ownsRow_lit (base := w.heap.size) (e := 61) (size := 5) w #[] 0 (Nat.le_refl _) (by unfold maxLen; omega) rfl)
  have NV := Lib.hid (lv_one os)
  have N1 := Lib.hid (show 0 + os.length ≤ maxLen from by unfold maxLen; omega)
  have N2 := Lib.hid (show (0 + os.length) * 40 ≤ 140737488355328 from by omega)
  have N3 := Lib.hid (show w.heap.size ≤ (w.alloc (.cells #[] 61)).heap.size from by simp)
  have hE : ∀ W, (binOp .eql 46 (.slice (some ad) os.length cap) (.slice none 0 0)).run Tryd.prog W = .ok (.bool false) W := fun W => Lib.run_eql_slice_nil W 46 61 (some ad) os.length cap 0 0 Tryd.underlying46
  clear hi hz0 hz1 hz2 hr
  go_enter Tryd.func18, Tryd.ntmps18
  go_wp2_with (at_builtin; refine wpList_append_any _ rfl (.tmp 5) (.tmp 6) 46 rfl w.heap.size 61 i0 (Value.agg #[.int .i64 0, .int .i64 0, .int .i64 0, .int .i64 0, .int .i64 0]) 5 40 Tryd.underlying46 HI.out HZ0.out HZ1.out HZ2.out rfl (by decide) _ 0 _ rfl HO.out _ (some ad) os.length cap _ rfl HR.out NV.out N1.out N2.out N3.out ?_; intro v3 w3 hown3 hgrow3 hblk3; have HP := Lib.hid (And.intro hown3 hgrow3); clear hown3 hgrow3 hblk3)
  go_ret
  exact ⟨_, rfl, by have h := HP.out.1; rw [Nat.zero_add] at h; exact h, Below.grown ((Below.refl _ _).alloc (Nat.le_refl _) _) HP.out.2 (by simp) (fun g e => (HO.out.lt g e).1)⟩
set_option maxRecDepth 100000 in
theorem clone_none (cap : Nat) (w : World) : Calls Tryd.prog 18 #[.slice none 0 cap] w fun e w' => e = .returned (.slice none 0 0) ∧ Below w.heap.size w w' := by
  have hE : ∀ W, (binOp .eql 46 (.slice none 0 cap) (.slice none 0 0)).run Tryd.prog W = .ok (.bool true) W := fun W => Lib.run_eql_slice_nil W 46 61 none 0 cap 0 0 Tryd.underlying46
  go_enter Tryd.func18, Tryd.ntmps18
  go_wp2_with fail
  go_ret
  exact ⟨rfl, by go_grown⟩
theorem clone_is (base cap : Nat) (A : Option Addr) (os : List Lim) (w : World) (h : w.ownsRow base 61 5 (.slice A os.length cap) os.length (lv os)) (hl : os.length ≤ 1000) : Calls Tryd.prog 18 #[.slice A os.length cap] w fun e w' => ∃ v, e = .returned v ∧ w'.ownsRow w.heap.size 61 5 v os.length (lv os) ∧ Below w.heap.size w w' := by
  rcases h.2 with ⟨hv, h0⟩ | ⟨g, cp, cur, hv, _⟩
  · injection hv with e1 e2 e3
    subst e1
    have hn : os = [] := List.eq_nil_of_length_eq_zero h0
    subst hn
    exact (clone_none cap w).mono fun e w' hh => ⟨_, hh.1, ⟨rfl, .inl ⟨rfl, rfl⟩⟩, hh.2⟩
  · injection hv with e1 e2 e3
    subst e1
    exact clone_some ⟨g, 0, none⟩ cap os w (Reads.of_own h) hl
set_option maxRecDepth 100000 in
set_option maxHeartbeats 4000000 in
theorem new_ok (p c n b r f g : Int) (base : Nat) (A : Option Addr) (cp : Nat) (ls : List Lim) (w : World) (h : w.ownsRow base 61 5 (.slice A ls.length cp) ls.length (lv ls)) (hp : (ls.length : Int) = p) (hl : ls.length ≤ 100) (hok : ∀ x ∈ ls, Lok x) : Calls Tryd.prog 8 #[.agg #[.int .i64 p, .int .i64 c, .int .i64 n, .int .i64 b, .int .i64 r, .int .i64 f, .int .i64 g], .slice A ls.length cp] w fun e w' => ∃ F, e = .returned (.tuple #[.pointer (some ⟨F, 0, none⟩), .nilIface]) ∧ FAt w' F w.heap.size ls ∧ Below w.heap.size w w' := by
  obtain ⟨m, hm⟩ : ∃ m, m = ls.length := ⟨_, rfl⟩
  have HH := Lib.hid h
  have HK := Lib.hid hok
  have HM := Lib.hid hm
  have HL := Lib.hid hl
  rw [← hm] at hp ⊢
  have m0 : (0 : Int) ≤ (m : Int) := by omega
  have m1 : (m : Int) ≤ 100 := by omega
  have dp : ((m : Int) != p) = false := by simp [hp]
  clear h hok hm hl hp
  go_enter Tryd.func8, Tryd.ntmps8
  go_wp2_with fail
  go_loopw [6, 7, 17] (fun _ _ i wr => ∃ k : Nat, k ≤ m ∧ i = .int .i64 (k : Int) ∧ Hid (Below w.heap.size w wr)) (fun _ _ i _ => m + 1 - (intOf i).toNat)
  case atStart => exact ⟨0, Nat.zero_le _, rfl, Lib.hid (by go_grown)⟩
  case round =>
    obtain ⟨k, hk, rfl, HB⟩ := hrel
    have k0 : (0 : Int) ≤ (k : Int) := by omega
    by_cases hkn : k < m
    · have k1 : (k : Int) < (m : Int) := by omega
      obtain ⟨x, hx⟩ : ∃ x, ls[k]? = some x := ⟨_, List.getElem?_eq_getElem (by rw [← HM.out]; exact hkn)⟩
      have hkx := HK.out x (List.mem_of_getElem? hx)
      have hrow := rkept HH.out HB.out
      obtain ⟨g3, cp3, hv3, _, _⟩ := World.ownsRow.form hrow (by rw [← HM.out]; omega)
      obtain ⟨rfl, rfl⟩ : A = some ⟨g3, 0, none⟩ ∧ cp3 = cp := by
        injection hv3 with h1 h2 h3
        exact ⟨h1, h3.symm⟩
      have ha : ∀ (j : Nat) (u : Value), j < 5 → (lc x)[j]? = some u → wr.cell? ⟨g3, k * 5 + j, none⟩ = some u := fun j u hj hu => lrow_cell hrow hx rfl hj hu
      have a0 : wr.cell? ⟨g3, k * 5, none⟩ = some (.int .i64 x.o) := ha 0 _ (by omega) rfl
      have a1 : wr.cell? ⟨g3, k * 5 + 1, none⟩ = some (.int .i64 x.q) := ha 1 _ (by omega) rfl
      have a2 : wr.cell? ⟨g3, k * 5 + 2, none⟩ = some (.int .i64 x.w) := ha 2 _ (by omega) rfl
      have a3 : wr.cell? ⟨g3, k * 5 + 3, none⟩ = some (.int .i64 x.n) := ha 3 _ (by omega) rfl
      have a4 : wr.cell? ⟨g3, k * 5 + 4, none⟩ = some (.int .i64 x.p) := ha 4 _ (by omega) rfl
      have HR := Lib.hid (fun W => right_yes x hkx W)
      clear ha hrow hv3 hx hkx
      go_wp2_with fail
      refine (HR.out _).mono ?_
      rintro e1 w1 ⟨rfl, hb1⟩
      have HB1 := Lib.hid (Below.step (HB.out.alloc HB.out.size _) hb1)
      clear hb1
      go_wp2_with fail
      go_roundw
      case rel => exact ⟨k + 1, by omega, by go_num, HB1⟩
      case measure => simp [intOf]; omega
    · obtain rfl : k = m := by omega
      have hd : decide ((k : Int) < (k : Int)) = false := decide_eq_false (by omega)
      have HC := Lib.hid (show Calls Tryd.prog 18 #[.slice A k cp] wr fun e w' => ∃ v, e = .returned v ∧ w'.ownsRow wr.heap.size 61 5 v ls.length (lv ls) ∧ Below wr.heap.size wr w' from by
        rw [HM.out]
        exact clone_is base cp A ls wr (rkept HH.out HB.out) (by have := HL.out; omega))
      go_wp2_with fail
      refine HC.out.mono ?_
      rintro e1 w1 ⟨v, rfl, ho, hb1⟩
      have HO := Lib.hid ho
      have HB1 := Lib.hid (Below.step HB.out hb1)
      have hsz : w.heap.size ≤ wr.heap.size := HB.out.size
      clear ho hb1
      obtain ⟨A2, c2, rfl⟩ := oshape HO.out
      go_wp2_with fail
      refine bodyPost_ret (by simp [results, Tryd.results8, go_sem]; try rfl) rfl ?_
      refine ⟨_, rfl, ⟨_, Bl.new w1 [_] 67, ?_⟩, HB1.out.alloc HB1.out.size _⟩
      refine World.ownsRow.alloc ⟨HO.out.1, ?_⟩ _
      rcases HO.out.2 with h0 | ⟨g, cap, cur, hv, hg, hgh, hr⟩
      · exact .inl h0
      · exact .inr ⟨g, cap, cur, hv, Nat.le_trans hsz hg, hgh, hr⟩
set_option maxRecDepth 100000 in
set_option maxHeartbeats 4000000 in
theorem of_is (F base : Nat) (ls : List Lim) (k : Nat) (x : Lim) (w : World) (h : FAt w F base ls) (hx : ls[k]? = some x) (hl : ls.length ≤ 100) : Calls Tryd.prog 19 #[.pointer (some ⟨F, 0, none⟩), .int .i64 (k : Int)] w fun e w' => e = .returned (.tuple #[.agg #[.int .i64 x.o, .int .i64 x.q, .int .i64 x.w, .int .i64 x.n, .int .i64 x.p], .bool true]) ∧ Below w.heap.size w w' := by
  obtain ⟨v, hF, hr⟩ := h
  have hk := (List.getElem?_eq_some_iff.1 hx).1
  obtain ⟨g3, cp3, rfl, _, hgl⟩ := World.ownsRow.form hr (by omega)
  have hFl := hF.lt
  have f0 : w.cell? ⟨F, 0, none⟩ = some (.slice (some ⟨g3, 0, none⟩) ls.length cp3) := hF.cell 0 _ rfl
  have ha : ∀ (j : Nat) (u : Value), j < 5 → (lc x)[j]? = some u → w.cell? ⟨g3, k * 5 + j, none⟩ = some u := fun j u hj hu => lrow_cell hr hx rfl hj hu
  have a0 : w.cell? ⟨g3, k * 5, none⟩ = some (.int .i64 x.o) := ha 0 _ (by omega) rfl
  have a1 : w.cell? ⟨g3, k * 5 + 1, none⟩ = some (.int .i64 x.q) := ha 1 _ (by omega) rfl
  have a2 : w.cell? ⟨g3, k * 5 + 2, none⟩ = some (.int .i64 x.w) := ha 2 _ (by omega) rfl
  have a3 : w.cell? ⟨g3, k * 5 + 3, none⟩ = some (.int .i64 x.n) := ha 3 _ (by omega) rfl
  have a4 : w.cell? ⟨g3, k * 5 + 4, none⟩ = some (.int .i64 x.p) := ha 4 _ (by omega) rfl
  obtain ⟨m, hm⟩ : ∃ m, m = ls.length := ⟨_, rfl⟩
  rw [← hm] at f0 hk hl
  have k0 : (0 : Int) ≤ (k : Int) := by omega
  have k1 : (k : Int) < (m : Int) := by omega
  have m1 : (m : Int) ≤ 100 := by omega
  have d0 : decide ((k : Int) < 0) = false := decide_eq_false (by omega)
  have d1 : decide ((m : Int) ≤ (k : Int)) = false := decide_eq_false (by omega)
  clear hF hr ha hx hm hk hl
  go_enter Tryd.func19, Tryd.ntmps19
  go_wp2_with fail
  refine bodyPost_ret (by simp [results, Tryd.results19, go_sem]; try rfl) rfl ⟨rfl, ?_⟩
  go_grown
set_option maxRecDepth 100000 in
set_option maxHeartbeats 4000000 in
theorem far_is (u : Us) (h : -4294967296 ≤ u.n + u.b ∧ u.n + u.b ≤ 4294967296) (h2 : -4294967296 ≤ u.s - u.n ∧ u.s - u.n ≤ 4294967296) (w : World) : Calls Tryd.prog 21 #[.agg #[.int .i64 u.o, .int .i64 u.q, .int .i64 u.w, .int .i64 u.n, .int .i64 u.b, .int .i64 u.s]] w fun e w' => e = .returned (.int .i64 (far u)) ∧ Below w.heap.size w w' := by
  have W1 : IntKind.i64.wrap (u.n + u.b) = u.n + u.b := IntWalk.i64_in _ (by omega)
  have W2 : IntKind.i64.wrap (u.s - u.n) = u.s - u.n := IntWalk.i64_in _ (by omega)
  by_cases hh : u.n + u.b < u.s - u.n
  · have hf : far u = u.s - u.n := by unfold far; rw [if_pos hh]
    rw [hf]
    go_enter Tryd.func21, Tryd.ntmps21
    go_wp2_with fail
    go_ret
    exact ⟨by simp [W1, W2]; try omega, by go_grown⟩
  · have hf : far u = u.n + u.b := by unfold far; rw [if_neg hh]
    rw [hf]
    go_enter Tryd.func21, Tryd.ntmps21
    go_wp2_with fail
    go_ret
    exact ⟨by simp [W1, W2]; try omega, by go_grown⟩
set_option maxRecDepth 100000 in
set_option maxHeartbeats 4000000 in
theorem to_is (a : As) (w : World) : Calls Tryd.prog 10 #[.agg #[.int .i64 a.k, .int .i64 a.i, .int .i64 a.c, .int .i64 a.n, .int .i64 a.s, .int .i64 a.p, .int .i64 a.l, .int .i64 a.u, .int .i64 a.q]] w fun e w' => e = .returned (.agg #[.int .i64 a.k, .int .i64 a.i, .int .i64 a.c, .int .i64 a.n, .int .i64 a.s, .int .i64 a.p, .int .i64 a.l, .int .i64 a.u, .int .i64 a.q]) ∧ Below w.heap.size w w' := by
  go_enter Tryd.func10, Tryd.ntmps10
  go_wp2_with fail
  refine bodyPost_ret (by simp [results, Tryd.results10, go_sem]; try rfl) rfl ⟨rfl, ?_⟩
  go_grown
set_option maxRecDepth 100000 in
set_option maxHeartbeats 8000000 in
theorem with_is (u : Us) (a : As) (hu : Usm u) (hq : sm a.q) (hp : sm a.p) (w : World) : Calls Tryd.prog 20 #[.agg #[.int .i64 u.o, .int .i64 u.q, .int .i64 u.w, .int .i64 u.n, .int .i64 u.b, .int .i64 u.s], .agg #[.int .i64 a.k, .int .i64 a.i, .int .i64 a.c, .int .i64 a.n, .int .i64 a.s, .int .i64 a.p, .int .i64 a.l, .int .i64 a.u, .int .i64 a.q]] w fun e w' => e = .returned (.agg #[.int .i64 (usWith u a).o, .int .i64 (usWith u a).q, .int .i64 (usWith u a).w, .int .i64 (usWith u a).n, .int .i64 (usWith u a).b, .int .i64 (usWith u a).s]) ∧ Below w.heap.size w w' := by
  obtain ⟨⟨o0, o1⟩, ⟨q0, q1⟩, ⟨w0, w1⟩, ⟨n0, n1⟩, ⟨b0, b1⟩, ⟨s0, s1⟩⟩ := hu
  obtain ⟨aq0, aq1⟩ := hq
  obtain ⟨ap0, ap1⟩ := hp
  have hm : -1152921504606846976 ≤ a.q * a.p ∧ a.q * a.p ≤ 1152921504606846976 := by
    have h1 : (a.q * a.p).natAbs ≤ 1073741824 * 1073741824 := by
      rw [Int.natAbs_mul]
      exact Nat.mul_le_mul (by omega) (by omega)
    omega
  have W1 : IntKind.i64.wrap (u.o + 1) = u.o + 1 := IntWalk.i64_in _ (by omega)
  have W2 : IntKind.i64.wrap (u.q + a.q) = u.q + a.q := IntWalk.i64_in _ (by omega)
  have W3 : IntKind.i64.wrap (a.q * a.p) = a.q * a.p := IntWalk.i64_in _ (by omega)
  have W4 : IntKind.i64.wrap (u.w + a.q * a.p) = u.w + a.q * a.p := IntWalk.i64_in _ (by omega)
  have W5 : IntKind.i64.wrap (u.b + a.q) = u.b + a.q := IntWalk.i64_in _ (by omega)
  have W6 : IntKind.i64.wrap (u.s + a.q) = u.s + a.q := IntWalk.i64_in _ (by omega)
  obtain ⟨ak, ai, ac, an, as', ap, al, au, aq⟩ := a
  obtain ⟨uo, uq, uw, un, ub, us⟩ := u
  unfold usWith
  dsimp only at *
  clear o0 o1 q0 q1 w0 w1 n0 n1 b0 b1 s0 s1 aq0 aq1 ap0 ap1 hm
  by_cases h0 : as' = 0
  · subst h0
    go_enter Tryd.func20, Tryd.ntmps20
    go_wp2_with fail
    refine bodyPost_ret (by simp [results, Tryd.results20, go_sem]; try rfl) rfl ⟨?_, ?_⟩
    · first | rfl | simp [W1, W2, W3, W4, W5, W6]
    · go_grown
  · by_cases h1 : as' = 1
    · subst h1
      go_enter Tryd.func20, Tryd.ntmps20
      go_wp2_with fail
      refine bodyPost_ret (by simp [results, Tryd.results20, go_sem]; try rfl) rfl ⟨?_, ?_⟩
      · first | rfl | simp [W1, W2, W3, W4, W5, W6]
      · go_grown
    · have d0 : (as' == 0) = false := by simpa using h0
      have d1 : (as' == 1) = false := by simpa using h1
      rw [if_neg h0, if_neg h1]
      clear h0 h1
      go_enter Tryd.func20, Tryd.ntmps20
      go_wp2_with fail
      refine bodyPost_ret (by simp [results, Tryd.results20, go_sem]; try rfl) rfl ⟨?_, ?_⟩
      · first | rfl | simp [W1, W2, W3, W4, W5, W6]
      · go_grown
end Go.Proofs.YtmddgaokdlhegaaDoor
