/-
  MemPlays: the past as a row, what stands last; the state of a round.
-/
import Derived.Test.YtjkojbaphdlhlaaDoorRows
import Derived.Test.YtjkojbaphdlhlaaDoorKit
import Derived.Test.YtjkojbaphdlhlaaDoorAsF
import Derived.Test.YtjkojbaphdlhlaaDoorAsC
import Derived.Test.YtjkojbaphdlhlaaDoorAsD
import Derived.Test.YtjkojbaphdlhlaaDoorAsE
import Derived.Test.YtjkojbaphdlhlaaDoorApp
import Derived.Test.YtjkojbaphdlhlaaDoorAsG
import Derived.Test.YtjkojbaphdlhlaaDoorWraps
import Derived.Test.YtjkojbaphdlhlaaDoorAwake1
import Derived.Test.YtjkojbaphdlhlaaDoorIsC
import Derived.Test.YtjkojbaphdlhlaaDoorMmT
import Derived.Test.YtjkojbaphdlhlaaDoorMmU
import Derived.Test.YtjkojbaphdlhlaaDoorMmO
import Derived.Test.YtjkojbaphdlhlaaDoorQuiet
import Derived.Lib.SliceRun
import Derived.Deep.Slices
import Derived.Deep.Fields
import Derived.ChangeSame
import Derived.Deep.RegionLaw
import Derived.Deep.AppendLies
import Derived.WalkKit
import Derived.ProofKit
import Derived.OpenShut
import Derived.ShutString
import Derived.Below
import Derived.Outline
import Derived.WalkLawsBesides
import Derived.WalkSpells
import Derived.Handy
import Derived.Deep.QuietTactic
import Derived.BigQuiet
import Derived.RegionTactic
import Derived.ChangeAlike
import Derived.Lib.Hide
import Derived.Deep.LoopGhost
import Derived.Deep.RegionHeld3
import Derived.Deep.Cut
import Derived.Deep.CutRange
import Derived.Deep.DeepCutAuto
import Derived.Deep.CutBlock
import Derived.Deep.RegionLaw
import Derived.LaidEql
import Derived.Stop.Asserts
import Derived.RowKitTokens
import Derived.Defers
import Derived.Recover
namespace Go.Proofs.YtjkojbaphdlhlaaDoor.Mm
set_option linter.unusedVariables false
set_option linter.unusedSimpArgs false
open Go.ChangeShapes Go.WideShapes Go.ChangeAt Go.RowKit
def pc (L : List (Int × Int)) : List Value := L.flatMap fun p => [.int .i64 p.1, .int .u64 p.2]
theorem pc_len (L : List (Int × Int)) : (pc L).length = L.length * 2 := by
  induction L with
  | nil => rfl
  | cons p L ih => unfold pc at *; rw [List.flatMap_cons, List.length_append, ih]; simp; omega
theorem pc_snoc (L : List (Int × Int)) (p : Int × Int) : pc (L ++ [p]) = pc L ++ [.int .i64 p.1, .int .u64 p.2] := by unfold pc; rw [List.flatMap_append]; simp
theorem pc_get : ∀ (L : List (Int × Int)) (k : Nat) (p : Int × Int), L[k]? = some p → (pc L)[k * 2]? = some (.int .i64 p.1) ∧ (pc L)[k * 2 + 1]? = some (.int .u64 p.2)
  | [], k, p, h => by simp at h
  | q :: L, 0, p, h => by
    obtain rfl : q = p := by simpa using h
    exact ⟨rfl, rfl⟩
  | q :: L, k + 1, p, h => by
    have ih := pc_get L k p (by simpa using h)
    have e : pc (q :: L) = .int .i64 q.1 :: .int .u64 q.2 :: pc L := rfl
    rw [e, show (k + 1) * 2 = k * 2 + 1 + 1 by omega]
    exact ⟨by simpa using ih.1, by simpa using ih.2⟩
def rAt (L : List (Int × Int)) (a : Int) : Int := match L.reverse.find? (fun p => p.1 == a) with | some p => p.2 | none => 0
theorem rAt_snoc (L : List (Int × Int)) (p : Int × Int) (a : Int) : rAt (L ++ [p]) a = if p.1 = a then p.2 else rAt L a := by
  unfold rAt
  rw [List.reverse_append]
  show (match (p :: L.reverse).find? _ with | some p => p.2 | none => 0) = _
  rw [List.find?_cons]
  by_cases h : p.1 = a
  · have hb : (p.1 == a) = true := by simpa using h
    rw [if_pos h, hb]
  · have hb : (p.1 == a) = false := by simpa using h
    rw [if_neg h, hb]
theorem rAt_take (L : List (Int × Int)) (k : Nat) (p : Int × Int) (h : L[k]? = some p) (a : Int) : rAt (L.take (k + 1)) a = if p.1 = a then p.2 else rAt (L.take k) a := by
  have hk : k < L.length := (List.getElem?_eq_some_iff.1 h).1
  have he : L[k] = p := (List.getElem?_eq_some_iff.1 h).2
  rw [List.take_succ_eq_append_getElem hk, he, rAt_snoc]
theorem add_zero_of (g k : Nat) : (⟨g, 0, none⟩ : Addr).add k = ⟨g, k, none⟩ := by
  unfold Addr.add
  by_cases hz : k = 0
  · rw [if_pos hz, hz]
  · simp only [if_neg hz, Nat.zero_add]
/-- The past's row, as it reads. -/
def PSl (w : World) (A : Option Addr) (L : List (Int × Int)) : Prop := ∀ k p, L[k]? = some p → ∃ g, A = some ⟨g, 0, none⟩ ∧ g < w.heap.size ∧ w.cell? ⟨g, k * 2, none⟩ = some (.int .i64 p.1) ∧ w.cell? ⟨g, k * 2 + 1, none⟩ = some (.int .u64 p.2)
theorem PSl.of {w : World} {base : Nat} {A : Option Addr} {cp : Nat} {L : List (Int × Int)} (h : w.ownsRow base 65 2 (.slice A L.length cp) L.length (pc L)) : PSl w A L := fun k p hk => by
  have hl : k < L.length := (List.getElem?_eq_some_iff.1 hk).1
  obtain ⟨g, cap, hv, hg1, hg2⟩ := World.ownsRow.form h (by omega)
  have hA : A = some ⟨g, 0, none⟩ := by injection hv
  subst hA
  have h0 := World.ownsRow.cells h (g := g) rfl (k * 2) _ (pc_get L k p hk).1
  have h1 := World.ownsRow.cells h (g := g) rfl (k * 2 + 1) _ (pc_get L k p hk).2
  rw [add_zero_of] at h0 h1
  exact ⟨g, rfl, hg2, h0, h1⟩
set_option maxRecDepth 100000 in
set_option maxHeartbeats 4000000 in
theorem rat_is (L : List (Int × Int)) (A : Option Addr) (cp : Nat) (a : Int) (w : World) (h : PSl w A L) (hL : L.length ≤ 1000) : Calls Tryd.prog 22 #[.slice A L.length cp, .int .i64 a] w fun e w' => e = .returned (.int .u64 (rAt L a)) ∧ Below w.heap.size w w' := by
  have HP := Lib.hid h
  obtain ⟨n, hn⟩ : ∃ n, n = L.length := ⟨_, rfl⟩
  have HN := Lib.hid hn
  rw [← hn] at hL ⊢
  clear h hn
  go_enter Tryd.func22, Tryd.ntmps22
  go_wp2_with fail
  go_loopg [5] n (fun gk i wr => ∃ k : Nat, gk = k ∧ k ≤ n ∧ i = .int .i64 ((k : Int) - 1) ∧ Hid (rAt L a = rAt (L.take k) a) ∧ Below w.heap.size w wr)
  case atStart => exact ⟨n, rfl, Nat.le_refl _, rfl, Lib.hid (by rw [HN.out, List.take_length]), Below.refl _ _⟩
  case round =>
    obtain ⟨gk, rfl, hk, rfl, HR, hB⟩ := hrel
    by_cases h0 : gk = 0
    · subst h0
      have hd : ((0 : Nat) : Int) - 1 = -1 := by decide
      rw [hd]
      have HZ := Lib.hid (show rAt L a = 0 from by rw [HR.out]; rfl)
      go_wp2
      go_ret
      exact ⟨by rw [HZ.out]; rfl, hB⟩
    · obtain ⟨k, rfl⟩ : ∃ k, gk = k + 1 := ⟨gk - 1, by omega⟩
      clear h0
      have hkl : k < L.length := by rw [← HN.out]; omega
      obtain ⟨g, rfl, hg, c0, c1⟩ := HP.out k _ (List.getElem?_eq_getElem hkl)
      have HT := Lib.hid (rAt_take L k _ (List.getElem?_eq_getElem hkl) a)
      have d0 := (hB.cell (p := ⟨g, k * 2, none⟩) hg).trans c0
      have d1 := (hB.cell (p := ⟨g, k * 2 + 1, none⟩) hg).trans c1
      generalize L[k] = p at d0 d1 HT
      obtain ⟨pa, px⟩ := p
      have e1 : ((((k + 1 : Nat) : Int)) - 1) = (k : Int) := by omega
      rw [e1]
      have k0 : (0 : Int) ≤ (k : Int) := by omega
      have k1 : (k : Int) < (n : Int) := by omega
      have k2 : (n : Int) ≤ 1000 := by omega
      clear c0 c1 e1 hkl
      have d0' : wr.cell? ⟨g, k * 2, none⟩ = some (.int .i64 pa) := d0
      have d1' : wr.cell? ⟨g, k * 2 + 1, none⟩ = some (.int .u64 px) := d1
      clear d0 d1
      by_cases hpa : pa = a
      · subst hpa
        have HV := Lib.hid (show rAt L pa = px from by rw [HR.out, HT.out, if_pos rfl])
        go_wp2
        go_ret
        exact ⟨by rw [HV.out]; rfl, hB⟩
      · have hb : (pa == a) = false := by simpa using hpa
        have HV := Lib.hid (show rAt L a = rAt (L.take k) a from by rw [HR.out, HT.out, if_neg hpa])
        clear hpa
        go_wp2_with fail
        go_roundg k
        case measure => omega
        case rel => exact ⟨k, rfl, by omega, by go_num, HV, hB⟩
/-- The state of a round. -/
structure Inv (w wr : World) (n M B c : Nat) (s : MS) (L : List (Int × Int)) (A : Option Addr) (cp k : Nat) : Prop where
  m : MAt M B n c s wr
  r : wr.ownsRow w.heap.size 65 2 (.slice A L.length cp) L.length (pc L)
  i : ∀ j : Nat, j < n → rAt L j = s.ws j
  ll : L.length ≤ k
  s0 : 0 ≤ s.st
  s1 : s.st ≤ k
  mm : w.heap.size ≤ M
  bb : w.heap.size ≤ B
  rm : (Value.slice A L.length cp).ownBlock ≠ some M
  rb : (Value.slice A L.length cp).ownBlock ≠ some B
  b : Below w.heap.size w wr
theorem row_via {w wx : World} {base : Nat} {e : TypeId} {size m : Nat} {v : Value} {xs : List Value} (h : w.ownsRow base e size v m xs) (hk : ∀ b, b < w.heap.size → some b = v.ownBlock → wx.heap[b]? = w.heap[b]?) : wx.ownsRow base e size v m xs := by
  refine ⟨h.1, ?_⟩
  rcases h.2 with h0 | ⟨g, cap, cur, hv, hg, hgh, hr⟩
  · exact .inl h0
  · have hlt : g < w.heap.size := by
      rcases Nat.lt_or_ge g w.heap.size with hlt | hge
      · exact hlt
      · rw [Array.getElem?_eq_none hge] at hgh; cases hgh
    exact .inr ⟨g, cap, cur, hv, hg, (hk g hlt (by rw [hv]; rfl)).trans hgh, hr⟩
section
variable {w wr w2 : World} {n M B c : Nat} {s s2 : MS} {L : List (Int × Int)} {A : Option Addr} {cp k : Nat}
theorem Inv.below (h : Inv w wr n M B c s L A cp k) (hb : Below wr.heap.size wr w2) : Inv w w2 n M B c s L A cp k :=
  ⟨h.m.below hb, row_kept h.r hb, h.i, h.ll, h.s0, h.s1, h.mm, h.bb, h.rm, h.rb, Below.step h.b hb⟩
theorem Inv.more (h : Inv w wr n M B c s L A cp k) {k' : Nat} (hk : k ≤ k') : Inv w wr n M B c s L A cp k' :=
  ⟨h.m, h.r, h.i, Nat.le_trans h.ll hk, h.s0, Int.le_trans h.s1 (by omega), h.mm, h.bb, h.rm, h.rb, h.b⟩
/-- The memory went on; the past is still to be told of it. -/
theorem Inv.oth_row (h : Inv w wr n M B c s L A cp k) (ho : Oth M B wr w2) : w2.ownsRow w.heap.size 65 2 (.slice A L.length cp) L.length (pc L) ∧ Below w.heap.size w w2 :=
  ⟨row_via h.r fun b hb e => ho.2.2.2.2 b hb (fun hm => h.rm (by rw [← e, hm])) (fun hm => h.rb (by rw [← e, hm])), ho.below h.mm h.bb h.b.size h.b⟩
theorem Inv.same (h : Inv w wr n M B c s L A cp k) (ho : Oth M B wr w2) (hm : MAt M B n c s2 w2) (hi : ∀ j : Nat, j < n → s2.ws j = s.ws j) (hs : s2.st = s.st + 1) : Inv w w2 n M B c s2 L A cp (k + 1) := by
  have h0 := h.s0
  have h1 := h.s1
  exact ⟨hm, (h.oth_row ho).1, fun j hj => (h.i j hj).trans (hi j hj).symm, Nat.le_succ_of_le h.ll, by omega, by omega, h.mm, h.bb, h.rm, h.rb, (h.oth_row ho).2⟩
/-- The past has been told. -/
theorem Inv.put (h : Inv w wr n M B c s L A cp k) (ho : Oth M B wr w2) (hm : MAt M B n c s2 w2) (a : Nat) (x : Int) (hi : ∀ j : Nat, j < n → s2.ws j = if j = a then x else s.ws j) (hs : s2.st = s.st + 1)
    {wa w3 : World} (hwa : Below w2.heap.size w2 wa) {A' : Option Addr} {cp' : Nat} (hg : wa.grownBy w3 (Value.slice A L.length cp).ownBlock) (hr : w3.ownsRow w.heap.size 65 2 (.slice A' (L.length + 1) cp') (L.length + 1) (pc L ++ [.int .i64 (a : Int), .int .u64 x]))
    (hblk : (Value.slice A' (L.length + 1) cp').ownBlock = (Value.slice A L.length cp).ownBlock ∨ (Value.slice A' (L.length + 1) cp').ownBlock = some wa.heap.size) : Inv w w3 n M B c s2 (L ++ [((a : Int), x)]) A' cp' (k + 1) := by
  have h0 := h.s0
  have h1 := h.s1
  have hma := hm.below hwa
  have hml : M < wa.heap.size := hma.ml
  have hbl : B < wa.heap.size := hma.bl
  have hneM : some M ≠ (Value.slice A L.length cp).ownBlock := fun e => h.rm e.symm
  have hneB : some B ≠ (Value.slice A L.length cp).ownBlock := fun e => h.rb e.symm
  have hm3 : MAt M B n c s2 w3 := by
    have eM := hg.block M hml hneM
    have eB := hg.block B hbl hneB
    have cM : ∀ o, w3.cell? ⟨M, o, none⟩ = wa.cell? ⟨M, o, none⟩ := fun o => World.cell?_of_block (a := ⟨M, o, none⟩) eM
    have cB : ∀ o, w3.cell? ⟨B, o, none⟩ = wa.cell? ⟨B, o, none⟩ := fun o => World.cell?_of_block (a := ⟨B, o, none⟩) eB
    have fM : ∀ o, w3.frozen? ⟨M, o, none⟩ = wa.frozen? ⟨M, o, none⟩ := fun o => World.frozen?_of_block (a := ⟨M, o, none⟩) eM
    have fB : ∀ o, w3.frozen? ⟨B, o, none⟩ = wa.frozen? ⟨B, o, none⟩ := fun o => World.frozen?_of_block (a := ⟨B, o, none⟩) eB
    exact ⟨(cM 0).trans hma.c0, (cM 1).trans hma.c1, (cM 2).trans hma.c2, (cM 3).trans hma.c3, (cM 4).trans hma.c4, (cM 5).trans hma.c5, (cM 6).trans hma.c6, fun o ho => (fM o).trans (hma.fz o ho), Nat.lt_of_lt_of_le hml hg.size, fun i hi => ⟨(hma.wd i hi).1, Nat.lt_of_lt_of_le hbl hg.size, (cB i).trans (hma.wd i hi).2.2.1, (fB i).trans (hma.wd i hi).2.2.2.1, (hma.wd i hi).2.2.2.2⟩, hma.ne, hma.ha, Nat.lt_of_lt_of_le hbl hg.size⟩
  have hbw := Below.step (h.oth_row ho).2 hwa
  refine ⟨hm3, by rw [List.length_append, pc_snoc]; exact hr, fun j hj => ?_, by have := h.ll; simp; omega, by omega, by omega, h.mm, h.bb, ?_, ?_, Below.grown hbw hg hbw.size fun b e => (World.ownsRow.lt (row_kept (h.oth_row ho).1 hwa) b e).1⟩
  · rw [rAt_snoc, hi j hj, h.i j hj]
    by_cases hja : j = a
    · subst hja; rw [if_pos rfl, if_pos rfl]
    · rw [if_neg (show ¬ ((a : Int) = (j : Int)) from fun e => hja (by omega)), if_neg hja]
  · rw [List.length_append]
    rcases hblk with e | e
    · show (Value.slice A' (L.length + 1) cp').ownBlock ≠ some M
      rw [e]; exact h.rm
    · show (Value.slice A' (L.length + 1) cp').ownBlock ≠ some M
      rw [e]; intro e2; have := Option.some.inj e2; omega
  · rw [List.length_append]
    rcases hblk with e | e
    · show (Value.slice A' (L.length + 1) cp').ownBlock ≠ some B
      rw [e]; exact h.rb
    · show (Value.slice A' (L.length + 1) cp').ownBlock ≠ some B
      rw [e]; intro e2; have := Option.some.inj e2; omega
end
end Go.Proofs.YtjkojbaphdlhlaaDoor.Mm
