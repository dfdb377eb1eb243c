/-
  The abstract pool: a fill.
-/
import Derived.Test.YtnhmdaoghcfghaaRows
import Derived.Test.YtnhmdaoghcfghaaKit
import Derived.Test.YtnhmdaoghcfghaaApp
import Derived.Test.YtnhmdaoghcfghaaQuiet
import Derived.Test.YtnhmdaoghcfghaaTrM
import Derived.Test.YtnhmdaoghcfghaaTrS
import Derived.Test.YtnhmdaoghcfghaaTrF
import Derived.Test.YtnhmdaoghcfghaaTrG
import Derived.Test.YtnhmdaoghcfghaaTrH
import Derived.Test.YtnhmdaoghcfghaaTrJ
import Derived.Test.YtnhmdaoghcfghaaMatch
import Derived.WalkKit
import Derived.ProofKit
import Derived.OpenShut
import Derived.ShutString
import Derived.Below
import Derived.Outline
import Derived.WalkLawsBesides
import Derived.WalkSpells
import Derived.Handy
import Derived.Deep.QuietTactic
import Derived.BigQuiet
import Derived.RegionTactic
import Derived.ChangeAlike
import Derived.Lib.Hide
import Derived.Laws.Rows
import Derived.Laws.Tables
import Derived.Laws.CopyOwn
import Derived.Laws.MakeOwn
import Derived.Laws.Entries
import Derived.Laws.OwnMore
import Derived.Deep.WholeRow
import Derived.Deep.LoopGhost
import Derived.Deep.AppendLies
import Derived.Deep.Draws
import Derived.Maps.AppendAt
import Derived.OwnWalk
import Derived.Deep.RegionHeld3
import Derived.Deep.Cut
import Derived.Deep.CutRange
import Derived.Deep.DeepCutAuto
import Derived.Deep.CutBlock
import Derived.Lib.SliceRun
import Derived.IntWalk
namespace Go.Proofs.Ytnhmdaoghcfghaa
open Go.ChangeShapes Go.WideShapes Go.ChangeAt Go.RowKit
theorem meet_of {J K : Act → World → Prop} {Q : Exit → Act → World → Prop} {a : Act} {w : World} (hk : ∀ a w, Met J a w → K a w) (h : Met J a w) : Exit.then K Q .normal a w := hk a w h
/-- Who is live by a key, or why there is none, in every world. -/
theorem live_all (Fx : Nat → Option Obj → Prop) (w wr : World) (B K : Nat) (p c n b r f g now : Int) (v : Value) (os : List Ord) (cl gn : Int) (h : MS Fx w wr B K p c n b r f g v os now) (hl : os.length ≤ 1000) (hI : Inv f os) :
    (∃ k : Int, ∀ W, MS Fx w W B K p c n b r f g v os now → Calls Try.prog 34 #[.pointer (some ⟨B, 0, none⟩), .int .i64 cl, .int .i64 gn] W fun e w' => e = .returned (.tuple #[.pointer none, .iface 57 (.int .i64 k)]) ∧ Below W.heap.size W w') ∨
    (∃ (q : Nat) (o : Ord) (gb cp : Nat), v = .slice (some ⟨gb, 0, none⟩) os.length cp ∧ os[q]? = some o ∧ o.c = cl ∧ o.g = gn ∧ o.en = 0 ∧ ∀ W, MS Fx w W B K p c n b r f g v os now → Calls Try.prog 34 #[.pointer (some ⟨B, 0, none⟩), .int .i64 cl, .int .i64 gn] W fun e w' => e = .returned (.tuple #[.pointer (some ⟨gb, q * 13, none⟩), .nilIface]) ∧ Below W.heap.size W w') := by
  by_cases hx : ∃ (q : Nat) (o : Ord), os[q]? = some o ∧ (o.c == cl && o.g == gn) = true
  · obtain ⟨q, o, hq, hk⟩ := hx
    obtain ⟨h1, h2⟩ := key_of hk
    have hn : ∀ (t : Nat) (o' : Ord), t < q → os[t]? = some o' → (o'.c == cl && o'.g == gn) = false := fun t o' ht ho => by
      rcases hb : (o'.c == cl && o'.g == gn) with _ | _
      · rfl
      · obtain ⟨h3, h4⟩ := key_of hb
        have := hI.key ho hq (h3.trans h1.symm) (h4.trans h2.symm)
        omega
    by_cases hen : o.en = 0
    · obtain ⟨A, cp, rfl⟩ := own_shape h.row
      obtain ⟨gb, rfl, _, _, _⟩ := h.form (Nat.lt_of_le_of_lt (Nat.zero_le _) (List.getElem?_eq_some_iff.1 hq).1)
      exact .inr ⟨q, o, gb, cp, rfl, hq, h1, h2, hen, fun W hW => live_ok Fx w W B K p c n b r f g now gb cp os cl gn hW hl q o hq hk hn hen⟩
    · exact .inl ⟨29, fun W hW => live_gone Fx w W B K p c n b r f g now v os cl gn hW hl q o hq hk hn hen⟩
  · refine .inl ⟨3, fun W hW => live_none Fx w W B K p c n b r f g now v os cl gn hW hl fun t o ho => ?_⟩
    rcases hb : (o.c == cl && o.g == gn) with _ | _
    · rfl
    · exact absurd ⟨t, o, ho, hb⟩ hx
theorem spent0 {F : Int} {o : Ord} (h : spent F o = 0) : o.fl < F := by
  unfold spent at h
  split at h
  · omega
  · split at h <;> omega
theorem MS.far {Fx : Nat → Option Obj → Prop} {w wr : World} {B K : Nat} {p c n b r f g now : Int} {os : List Ord} {gb cp X j m : Nat} (h : MS Fx w wr B K p c n b r f g (.slice (some ⟨gb, 0, none⟩) m cp) os now) (hX : K ≤ X) (hne : X ≠ gb) (hXf : ∀ (k : Nat) (o : Option Obj), Fx k o → k ≠ X) (u : Value) : MS Fx w (wr.setCell ⟨X, j, none⟩ u) B K p c n b r f g (.slice (some ⟨gb, 0, none⟩) m cp) os now := by
  have hk : ∀ k, k ≠ X → (wr.setCell ⟨X, j, none⟩ u).heap[k]? = wr.heap[k]? := fun k hk => Below.heap_setCell wr ⟨X, j, none⟩ _ k hk
  have hkB := h.kB
  refine ⟨h.blk.far (p := ⟨X, j, none⟩) (by show X ≠ B; omega) u, ?_, h.bel.setCell (p := ⟨X, j, none⟩) (by have := h.wB; show _ ≤ X; omega) u, h.wB, h.kB, by simpa using h.hK, fun k o hkk => by
    obtain ⟨a, b', c', d⟩ := h.fx k o hkk
    exact ⟨(hk k (hXf k o hkk)).trans a, b', c', by simpa using d⟩⟩
  refine ⟨h.row.1, ?_⟩
  rcases h.row.2 with ⟨h0, _⟩ | ⟨g', cap, cur, hv, hg, hgh, hr⟩
  · cases h0
  · refine .inr ⟨g', cap, cur, hv, hg, (hk g' (fun e => ?_)).trans hgh, hr⟩
    injection hv with e1 _ _
    injection e1 with e1
    injection e1 with e1
    exact hne (by rw [← e, e1])
theorem MS.setOrd2 {Fx : Nat → Option Obj → Prop} {w wr : World} {B K : Nat} {p c n b r f g now : Int} {os : List Ord} {gb cp i j m : Nat} {o o' : Ord} {x : Value} (h : MS Fx w wr B K p c n b r f g (.slice (some ⟨gb, 0, none⟩) m cp) os now) (hm : m = os.length) (ho : os[i]? = some o) (hj : j < 13) (hc : oc o' = (oc o).set j x) : MS Fx w (wr.setCell ⟨gb, i * 13 + j, none⟩ x) B K p c n b r f g (.slice (some ⟨gb, 0, none⟩) m cp) (os.set i o') now := by
  subst hm
  exact h.setOrd ho hj hc
theorem row_cell2 {wr : World} {base g n c k j : Nat} {os : List Ord} {o : Ord} (h : wr.ownsRow base 44 13 (.slice (some ⟨g, 0, none⟩) n c) os.length (ov os)) (hn : n = os.length) (ho : os[k]? = some o) (hj : j < 13) {u : Value} (hu : (oc o)[j]? = some u) : wr.cell? ⟨g, k * 13 + j, none⟩ = some u := by
  subst hn
  exact row_cell h ho rfl hj hu
theorem row_frz2 {wr : World} {base g n c : Nat} {os : List Ord} (h : wr.ownsRow base 44 13 (.slice (some ⟨g, 0, none⟩) n c) os.length (ov os)) (hn : n = os.length) (j : Nat) : wr.frozen? ⟨g, j, none⟩ = false := by
  subst hn
  exact row_frz h j
def twoS (os : List Ord) (q1 q2 : Nat) (a b : Ord) : Nat → List Ord
  | 0 => os
  | 1 => os.set q1 a
  | _ => (os.set q1 a).set q2 b
theorem eqFill (a b c d : Int) (w : World) : (Op.equalIn 10000 86 (.agg #[.int .i64 a, .int .i64 b]) (.agg #[.int .i64 c, .int .i64 d])).run Try.prog w = .ok (a == c && b == d) w := by
  have u3 := Try.underlying3
  have a3' := Try.isAgg3
  have z3 := Try.sizeOf3
  have hS : Try.prog.underlying 86 = some (.struct (Try.prog.fieldsOf 86)) := by kernel_rfl
  have hp : Try.prog.stoodInHeld 86 = false := by kernel_rfl
  rw [show (10000 : Nat) = 9999 + 1 from rfl, run_equalIn_agg w 9999 86 _ _ hS hp]
  simp only [Program.fieldsOf, Try.underlying86]
  by_cases h1 : a = c
  · subst h1
    by_cases h2 : b = d
    · subst h2
      go_simp
    · have e2 : (b == d) = false := by simpa using h2
      go_simp
      try simp [e2, h2]
  · have e1 : (a == c) = false := by simpa using h1
    go_simp
    try simp [e1, h1]
set_option maxRecDepth 100000 in
set_option maxHeartbeats 40000000 in
theorem fill_is (Fx : Nat → Option Obj → Prop) (w wr : World) (B K : Nat) (p c n b r f g now : Int) (v : Value) (os : List Ord) (e : Evt) (h : MS Fx w wr B K p c n b r f g v os now) (hl : os.length ≤ 1000) (hI : Inv f os) (hp : 1 ≤ p ∧ p ≤ 6) (hc : 1 ≤ c ∧ c ≤ 4) (hf4 : f ≤ 4) (hk : e.k = 2) : EvIs Fx w wr B K p c n b r f g now os e 21 := by
  have hg1 : Below wr.heap.size wr (wr.alloc (.cells #[.int .i64 e.k, .int .i64 e.c, .int .i64 e.g, .int .i64 e.o, .int .i64 e.w, .int .i64 e.n, .int .i64 e.s, .int .i64 e.p, .int .i64 e.l, .int .i64 e.u, .int .i64 e.q, .int .i64 e.pr, .int .i64 e.t, .int .i64 e.en] 41)) := by go_grown
  have hM := h.below hg1
  have HE := Lib.hid (Bl.new wr [.int .i64 e.k, .int .i64 e.c, .int .i64 e.g, .int .i64 e.o, .int .i64 e.w, .int .i64 e.n, .int .i64 e.s, .int .i64 e.p, .int .i64 e.l, .int .i64 e.u, .int .i64 e.q, .int .i64 e.pr, .int .i64 e.t, .int .i64 e.en] 41)
  have HM := Lib.hid hM
  have HKK := Lib.hid hk
  have HGW := Lib.hid (show K ≤ wr.heap.size from h.hK)
  clear hk
  rcases live_all Fx w (wr.alloc (.cells #[.int .i64 e.k, .int .i64 e.c, .int .i64 e.g, .int .i64 e.o, .int .i64 e.w, .int .i64 e.n, .int .i64 e.s, .int .i64 e.p, .int .i64 e.l, .int .i64 e.u, .int .i64 e.q, .int .i64 e.pr, .int .i64 e.t, .int .i64 e.en] 41)) B K p c n b r f g now v os e.c e.g hM hl hI with ⟨k, HL⟩ | ⟨q1, o1, gb, cp, rfl, hq1, hc1, hg1', hen1, HL⟩
  · refine ⟨.iface 57 (.int .i64 k), os, ?_, .inl ⟨k, rfl, rfl⟩⟩
    have HL1 := Lib.hid HL
    clear h hI hM hg1 hl HL hp hc hf4
    go_enter Try.func21, Try.ntmps21
    go_wp2_with fail
    refine (HL1.out _ HM.out).mono ?_
    rintro rr w2 ⟨rfl, hb2⟩
    go_wp2_with fail
    go_ret
    exact ⟨rfl, v, HM.out.below hb2⟩
  · have HL1 := Lib.hid HL
    have HQ1 := Lib.hid hq1
    have HA1 := Lib.hid (And.intro hc1 (And.intro hg1' hen1))
    clear HL hc1 hg1' hen1
    rcases live_all Fx w (wr.alloc (.cells #[.int .i64 e.k, .int .i64 e.c, .int .i64 e.g, .int .i64 e.o, .int .i64 e.w, .int .i64 e.n, .int .i64 e.s, .int .i64 e.p, .int .i64 e.l, .int .i64 e.u, .int .i64 e.q, .int .i64 e.pr, .int .i64 e.t, .int .i64 e.en] 41)) B K p c n b r f g now (.slice (some ⟨gb, 0, none⟩) os.length cp) os e.o e.w hM hl hI with ⟨k, HL⟩ | ⟨q2, o2, gb2, cp2, hv2, hq2, hc2, hg2, hen2, HL⟩
    · refine ⟨.iface 57 (.int .i64 k), os, ?_, .inl ⟨k, rfl, rfl⟩⟩
      have HL2 := Lib.hid HL
      clear h hI hM hg1 hl HL hp hc hf4 hq1
      go_enter Try.func21, Try.ntmps21
      go_wp2_with fail
      refine (HL1.out _ HM.out).mono ?_
      rintro rr w2 ⟨rfl, hb2⟩
      have HM2 := Lib.hid (HM.out.below hb2)
      have HE2 := Lib.hid (HE.out.below hb2)
      have d3 := HE2.out.cell 3 _ rfl
      have d4 := HE2.out.cell 4 _ rfl
      go_wp2_with fail
      refine (HL2.out _ HM2.out).mono ?_
      rintro rr w3 ⟨rfl, hb3⟩
      have HM3 := Lib.hid (HM2.out.below hb3)
      have HE3 := Lib.hid (HE2.out.below hb3)
      clear d3 d4 hb2 hb3
      go_wp2_with fail
      go_ret
      exact ⟨rfl, _, HM3.out⟩
    · obtain ⟨rfl, rfl⟩ : gb = gb2 ∧ cp = cp2 := by
        injection hv2 with e1 e2 e3
        injection e1 with e1
        injection e1 with e1
        exact ⟨e1, e3⟩
      have HL2 := Lib.hid HL
      have HQ2 := Lib.hid hq2
      have HA2 := Lib.hid (And.intro hc2 (And.intro hg2 hen2))
      clear hc2 hg2 hen2
      have ok1 := hI.ok _ _ hq1
      have ok2 := hI.ok _ _ hq2
      have HO1 := Lib.hid (fun W => owner_is p c n b r f g o1.c W hp hc)
      have HO2 := Lib.hid (fun W => owner_is p c n b r f g o2.c W hp hc)
      have HS1 := Lib.hid (fun W (hW : MS Fx w W B K p c n b r f g (.slice (some ⟨gb, 0, none⟩) os.length cp) os now) => spent_is Fx w W B K p c n b r f g now gb cp q1 os o1 hW hq1)
      have HS2 := Lib.hid (fun W (hW : MS Fx w W B K p c n b r f g (.slice (some ⟨gb, 0, none⟩) os.length cp) os now) => spent_is Fx w W B K p c n b r f g now gb cp q2 os o2 hW hq2)
      have HI := Lib.hid hI
      clear h hI hM hg1 hl HL hp hc hv2
      by_cases how : ow p c o1.c = ow p c o2.c
      · have e7 : (ow p c o1.c == ow p c o2.c) = true := by simpa using how
        clear hq1 hq2 how
        refine ⟨.iface 57 (.int .i64 1), os, ?_, .inl ⟨1, rfl, rfl⟩⟩
        go_enter Try.func21, Try.ntmps21
        go_wp2_with fail
        refine (HL1.out _ HM.out).mono ?_
        rintro rr w2 ⟨rfl, hb2⟩
        have HM2 := Lib.hid (HM.out.below hb2)
        have HE2 := Lib.hid (HE.out.below hb2)
        have d3 := HE2.out.cell 3 _ rfl
        have d4 := HE2.out.cell 4 _ rfl
        go_wp2_with fail
        refine (HL2.out _ HM2.out).mono ?_
        rintro rr w3 ⟨rfl, hb3⟩
        have HM3 := Lib.hid (HM2.out.below hb3)
        have HE3 := Lib.hid (HE2.out.below hb3)
        clear d3 d4 hb2 hb3
        go_wp2_with fail
        have HMd := Lib.hid (HM3.out.below (Below.drew (Below.refl _ _)))
        have HEd := Lib.hid (HE3.out.below (Below.drew (Below.refl _ _)))
        have hS : w3.drew.cell? ⟨B, 0, none⟩ = some (.int .i64 p) ∧ w3.drew.cell? ⟨B, 1, none⟩ = some (.int .i64 c) ∧ w3.drew.cell? ⟨B, 2, none⟩ = some (.int .i64 n) ∧ w3.drew.cell? ⟨B, 3, none⟩ = some (.int .i64 b) ∧ w3.drew.cell? ⟨B, 4, none⟩ = some (.int .i64 r) ∧ w3.drew.cell? ⟨B, 5, none⟩ = some (.int .i64 f) ∧ w3.drew.cell? ⟨B, 6, none⟩ = some (.int .i64 g) ∧ w3.drew.cell? ⟨gb, q1 * 13, none⟩ = some (.int .i64 o1.c) ∧ w3.drew.cell? ⟨gb, q2 * 13, none⟩ = some (.int .i64 o2.c) := And.intro (HMd.out.blk.cell 0 _ rfl) (And.intro (HMd.out.blk.cell 1 _ rfl) (And.intro (HMd.out.blk.cell 2 _ rfl) (And.intro (HMd.out.blk.cell 3 _ rfl) (And.intro (HMd.out.blk.cell 4 _ rfl) (And.intro (HMd.out.blk.cell 5 _ rfl) (And.intro (HMd.out.blk.cell 6 _ rfl) (And.intro (row_cell HMd.out.row HQ1.out rfl (j := 0) (by omega) rfl) (row_cell HMd.out.row HQ2.out rfl (j := 0) (by omega) rfl))))))))
        go_cut [53] (fun x wx => x = .bool true ∧ Hid (MS Fx w wx B K p c n b r f g (.slice (some ⟨gb, 0, none⟩) os.length cp) os now) ∧ Hid (Bl wr.heap.size [.int .i64 e.k, .int .i64 e.c, .int .i64 e.g, .int .i64 e.o, .int .i64 e.w, .int .i64 e.n, .int .i64 e.s, .int .i64 e.p, .int .i64 e.l, .int .i64 e.u, .int .i64 e.q, .int .i64 e.pr, .int .i64 e.t, .int .i64 e.en] wx))
        case first =>
          go_region_held3 (fun w' => w'.cell? ⟨B, 0, none⟩ = some (.int .i64 p) ∧ w'.cell? ⟨B, 1, none⟩ = some (.int .i64 c) ∧ w'.cell? ⟨B, 2, none⟩ = some (.int .i64 n) ∧ w'.cell? ⟨B, 3, none⟩ = some (.int .i64 b) ∧ w'.cell? ⟨B, 4, none⟩ = some (.int .i64 r) ∧ w'.cell? ⟨B, 5, none⟩ = some (.int .i64 f) ∧ w'.cell? ⟨B, 6, none⟩ = some (.int .i64 g) ∧ w'.cell? ⟨gb, q1 * 13, none⟩ = some (.int .i64 o1.c) ∧ w'.cell? ⟨gb, q2 * 13, none⟩ = some (.int .i64 o2.c)) (first | with_reducible exact hS | fail) (first | (go_at_call 31; (with_reducible refine (HO1.out _).mono ?_); rintro rr w4 ⟨rfl, hb4⟩; have HMd := Lib.hid (HMd.out.below hb4); have HEd := Lib.hid (HEd.out.below hb4); have hS : w4.cell? ⟨B, 0, none⟩ = some (.int .i64 p) ∧ w4.cell? ⟨B, 1, none⟩ = some (.int .i64 c) ∧ w4.cell? ⟨B, 2, none⟩ = some (.int .i64 n) ∧ w4.cell? ⟨B, 3, none⟩ = some (.int .i64 b) ∧ w4.cell? ⟨B, 4, none⟩ = some (.int .i64 r) ∧ w4.cell? ⟨B, 5, none⟩ = some (.int .i64 f) ∧ w4.cell? ⟨B, 6, none⟩ = some (.int .i64 g) ∧ w4.cell? ⟨gb, q1 * 13, none⟩ = some (.int .i64 o1.c) ∧ w4.cell? ⟨gb, q2 * 13, none⟩ = some (.int .i64 o2.c) := And.intro (HMd.out.blk.cell 0 _ rfl) (And.intro (HMd.out.blk.cell 1 _ rfl) (And.intro (HMd.out.blk.cell 2 _ rfl) (And.intro (HMd.out.blk.cell 3 _ rfl) (And.intro (HMd.out.blk.cell 4 _ rfl) (And.intro (HMd.out.blk.cell 5 _ rfl) (And.intro (HMd.out.blk.cell 6 _ rfl) (And.intro (row_cell HMd.out.row HQ1.out rfl (j := 0) (by omega) rfl) (row_cell HMd.out.row HQ2.out rfl (j := 0) (by omega) rfl)))))))); clear hb4) | (go_at_call 31; (with_reducible refine (HO2.out _).mono ?_); rintro rr w4 ⟨rfl, hb4⟩; have HMd := Lib.hid (HMd.out.below hb4); have HEd := Lib.hid (HEd.out.below hb4); have hS : w4.cell? ⟨B, 0, none⟩ = some (.int .i64 p) ∧ w4.cell? ⟨B, 1, none⟩ = some (.int .i64 c) ∧ w4.cell? ⟨B, 2, none⟩ = some (.int .i64 n) ∧ w4.cell? ⟨B, 3, none⟩ = some (.int .i64 b) ∧ w4.cell? ⟨B, 4, none⟩ = some (.int .i64 r) ∧ w4.cell? ⟨B, 5, none⟩ = some (.int .i64 f) ∧ w4.cell? ⟨B, 6, none⟩ = some (.int .i64 g) ∧ w4.cell? ⟨gb, q1 * 13, none⟩ = some (.int .i64 o1.c) ∧ w4.cell? ⟨gb, q2 * 13, none⟩ = some (.int .i64 o2.c) := And.intro (HMd.out.blk.cell 0 _ rfl) (And.intro (HMd.out.blk.cell 1 _ rfl) (And.intro (HMd.out.blk.cell 2 _ rfl) (And.intro (HMd.out.blk.cell 3 _ rfl) (And.intro (HMd.out.blk.cell 4 _ rfl) (And.intro (HMd.out.blk.cell 5 _ rfl) (And.intro (HMd.out.blk.cell 6 _ rfl) (And.intro (row_cell HMd.out.row HQ1.out rfl (j := 0) (by omega) rfl) (row_cell HMd.out.row HQ2.out rfl (j := 0) (by omega) rfl)))))))); clear hb4) | fail)
          all_goals ((apply meet_of); (focus (assumption)); (go_meet; exact ⟨rfl, HMd, HEd⟩))
        case rest =>
          obtain ⟨rfl, HM4, HE4⟩ := hcut
          clear hS HMd HEd
          go_wp2_with fail
          go_ret
          exact ⟨rfl, _, HM4.out⟩
      · have e7 : (ow p c o1.c == ow p c o2.c) = false := by simpa using how
        have hqq : q1 ≠ q2 := fun he => by
          subst he
          rw [hq1] at hq2
          obtain rfl := Option.some.inj hq2
          exact how rfl
        clear hq1 hq2 how
        by_cases hs1 : spent f o1 = 0
        · have f1 := spent0 hs1
          have hs1' : (spent f o1 != 0) = false := by rw [hs1]; rfl
          rw [hs1] at HS1
          clear hs1
          by_cases hs2 : spent f o2 = 0
          · have f2 := spent0 hs2
            rw [hs2] at HS2
            clear hs2
            by_cases ha : o2.ak = true
            · refine ⟨.iface 57 (.int .i64 29), os, ?_, .inl ⟨29, rfl, rfl⟩⟩
              go_enter Try.func21, Try.ntmps21
              go_wp2_with fail
              refine (HL1.out _ HM.out).mono ?_
              rintro rr w2 ⟨rfl, hb2⟩
              have HM2 := Lib.hid (HM.out.below hb2)
              have HE2 := Lib.hid (HE.out.below hb2)
              have d3 := HE2.out.cell 3 _ rfl
              have d4 := HE2.out.cell 4 _ rfl
              go_wp2_with fail
              refine (HL2.out _ HM2.out).mono ?_
              rintro rr w3 ⟨rfl, hb3⟩
              have HM3 := Lib.hid (HM2.out.below hb3)
              have HE3 := Lib.hid (HE2.out.below hb3)
              clear d3 d4 hb2 hb3
              go_wp2_with fail
              have HMd := Lib.hid (HM3.out.below (Below.drew (Below.refl _ _)))
              have HEd := Lib.hid (HE3.out.below (Below.drew (Below.refl _ _)))
              have hS : w3.drew.cell? ⟨B, 0, none⟩ = some (.int .i64 p) ∧ w3.drew.cell? ⟨B, 1, none⟩ = some (.int .i64 c) ∧ w3.drew.cell? ⟨B, 2, none⟩ = some (.int .i64 n) ∧ w3.drew.cell? ⟨B, 3, none⟩ = some (.int .i64 b) ∧ w3.drew.cell? ⟨B, 4, none⟩ = some (.int .i64 r) ∧ w3.drew.cell? ⟨B, 5, none⟩ = some (.int .i64 f) ∧ w3.drew.cell? ⟨B, 6, none⟩ = some (.int .i64 g) ∧ w3.drew.cell? ⟨gb, q1 * 13, none⟩ = some (.int .i64 o1.c) ∧ w3.drew.cell? ⟨gb, q2 * 13, none⟩ = some (.int .i64 o2.c) := And.intro (HMd.out.blk.cell 0 _ rfl) (And.intro (HMd.out.blk.cell 1 _ rfl) (And.intro (HMd.out.blk.cell 2 _ rfl) (And.intro (HMd.out.blk.cell 3 _ rfl) (And.intro (HMd.out.blk.cell 4 _ rfl) (And.intro (HMd.out.blk.cell 5 _ rfl) (And.intro (HMd.out.blk.cell 6 _ rfl) (And.intro (row_cell HMd.out.row HQ1.out rfl (j := 0) (by omega) rfl) (row_cell HMd.out.row HQ2.out rfl (j := 0) (by omega) rfl))))))))
              go_cut [53] (fun x wx => x = .bool false ∧ Hid (MS Fx w wx B K p c n b r f g (.slice (some ⟨gb, 0, none⟩) os.length cp) os now) ∧ Hid (Bl wr.heap.size [.int .i64 e.k, .int .i64 e.c, .int .i64 e.g, .int .i64 e.o, .int .i64 e.w, .int .i64 e.n, .int .i64 e.s, .int .i64 e.p, .int .i64 e.l, .int .i64 e.u, .int .i64 e.q, .int .i64 e.pr, .int .i64 e.t, .int .i64 e.en] wx))
              case first =>
                go_region_held3 (fun w' => w'.cell? ⟨B, 0, none⟩ = some (.int .i64 p) ∧ w'.cell? ⟨B, 1, none⟩ = some (.int .i64 c) ∧ w'.cell? ⟨B, 2, none⟩ = some (.int .i64 n) ∧ w'.cell? ⟨B, 3, none⟩ = some (.int .i64 b) ∧ w'.cell? ⟨B, 4, none⟩ = some (.int .i64 r) ∧ w'.cell? ⟨B, 5, none⟩ = some (.int .i64 f) ∧ w'.cell? ⟨B, 6, none⟩ = some (.int .i64 g) ∧ w'.cell? ⟨gb, q1 * 13, none⟩ = some (.int .i64 o1.c) ∧ w'.cell? ⟨gb, q2 * 13, none⟩ = some (.int .i64 o2.c)) (first | with_reducible exact hS | fail) (first | (go_at_call 31; (with_reducible refine (HO1.out _).mono ?_); rintro rr w4 ⟨rfl, hb4⟩; have HMd := Lib.hid (HMd.out.below hb4); have HEd := Lib.hid (HEd.out.below hb4); have hS : w4.cell? ⟨B, 0, none⟩ = some (.int .i64 p) ∧ w4.cell? ⟨B, 1, none⟩ = some (.int .i64 c) ∧ w4.cell? ⟨B, 2, none⟩ = some (.int .i64 n) ∧ w4.cell? ⟨B, 3, none⟩ = some (.int .i64 b) ∧ w4.cell? ⟨B, 4, none⟩ = some (.int .i64 r) ∧ w4.cell? ⟨B, 5, none⟩ = some (.int .i64 f) ∧ w4.cell? ⟨B, 6, none⟩ = some (.int .i64 g) ∧ w4.cell? ⟨gb, q1 * 13, none⟩ = some (.int .i64 o1.c) ∧ w4.cell? ⟨gb, q2 * 13, none⟩ = some (.int .i64 o2.c) := And.intro (HMd.out.blk.cell 0 _ rfl) (And.intro (HMd.out.blk.cell 1 _ rfl) (And.intro (HMd.out.blk.cell 2 _ rfl) (And.intro (HMd.out.blk.cell 3 _ rfl) (And.intro (HMd.out.blk.cell 4 _ rfl) (And.intro (HMd.out.blk.cell 5 _ rfl) (And.intro (HMd.out.blk.cell 6 _ rfl) (And.intro (row_cell HMd.out.row HQ1.out rfl (j := 0) (by omega) rfl) (row_cell HMd.out.row HQ2.out rfl (j := 0) (by omega) rfl)))))))); clear hb4) | (go_at_call 31; (with_reducible refine (HO2.out _).mono ?_); rintro rr w4 ⟨rfl, hb4⟩; have HMd := Lib.hid (HMd.out.below hb4); have HEd := Lib.hid (HEd.out.below hb4); have hS : w4.cell? ⟨B, 0, none⟩ = some (.int .i64 p) ∧ w4.cell? ⟨B, 1, none⟩ = some (.int .i64 c) ∧ w4.cell? ⟨B, 2, none⟩ = some (.int .i64 n) ∧ w4.cell? ⟨B, 3, none⟩ = some (.int .i64 b) ∧ w4.cell? ⟨B, 4, none⟩ = some (.int .i64 r) ∧ w4.cell? ⟨B, 5, none⟩ = some (.int .i64 f) ∧ w4.cell? ⟨B, 6, none⟩ = some (.int .i64 g) ∧ w4.cell? ⟨gb, q1 * 13, none⟩ = some (.int .i64 o1.c) ∧ w4.cell? ⟨gb, q2 * 13, none⟩ = some (.int .i64 o2.c) := And.intro (HMd.out.blk.cell 0 _ rfl) (And.intro (HMd.out.blk.cell 1 _ rfl) (And.intro (HMd.out.blk.cell 2 _ rfl) (And.intro (HMd.out.blk.cell 3 _ rfl) (And.intro (HMd.out.blk.cell 4 _ rfl) (And.intro (HMd.out.blk.cell 5 _ rfl) (And.intro (HMd.out.blk.cell 6 _ rfl) (And.intro (row_cell HMd.out.row HQ1.out rfl (j := 0) (by omega) rfl) (row_cell HMd.out.row HQ2.out rfl (j := 0) (by omega) rfl)))))))); clear hb4) | fail)
                all_goals ((apply meet_of); (focus (assumption)); (go_meet; exact ⟨rfl, HMd, HEd⟩))
              case rest =>
                obtain ⟨rfl, HM4, HE4⟩ := hcut
                clear hS HMd HEd
                go_wp2_with fail
                refine (HS1.out _ HM4.out).mono ?_
                rintro rr w5 ⟨rfl, hb5⟩
                have HM5 := Lib.hid (HM4.out.below hb5)
                have HE5 := Lib.hid (HE4.out.below hb5)
                clear hb5
                go_wp2_with fail
                refine (HS2.out _ HM5.out).mono ?_
                rintro rr w6 ⟨rfl, hb5⟩
                have HM6 := Lib.hid (HM5.out.below hb5)
                have HE6 := Lib.hid (HE5.out.below hb5)
                clear hb5
                have c10 := row_cell HM6.out.row HQ2.out rfl (j := 10) (by omega) rfl
                rw [ha] at c10
                clear ha
                go_wp2_with fail
                go_ret
                exact ⟨rfl, _, HM6.out⟩
            · have ha : o2.ak = false := by simpa using ha
              obtain ⟨qy, pr, HMT0, hcase⟩ := match_any o1.n o1.s o1.p o1.l o1.u o2.n o2.s o2.p o2.l o2.u o1.lf o2.lf ⟨ok1.p0, ok1.p1⟩ ⟨ok2.p0, ok2.p1⟩
              have HMT := Lib.hid HMT0
              clear HMT0
              have HK2 := Lib.hid (And.intro ok1 ok2)
              clear ok1 ok2
              rcases hcase with ⟨rfl, rfl⟩ | ⟨t1, t2, t3⟩
              · have hE1 : ∀ W, (Op.equalIn 10000 86 (.agg #[.int .i64 0, .int .i64 0]) (.agg #[.int .i64 0, .int .i64 0])).run Try.prog W = .ok true W := fun W => eqFill 0 0 0 0 W
                refine ⟨.iface 57 (.int .i64 23), os, ?_, .inl ⟨23, rfl, rfl⟩⟩
                go_enter Try.func21, Try.ntmps21
                go_wp2_with fail
                refine (HL1.out _ HM.out).mono ?_
                rintro rr w2 ⟨rfl, hb2⟩
                have HM2 := Lib.hid (HM.out.below hb2)
                have HE2 := Lib.hid (HE.out.below hb2)
                have d3 := HE2.out.cell 3 _ rfl
                have d4 := HE2.out.cell 4 _ rfl
                go_wp2_with fail
                refine (HL2.out _ HM2.out).mono ?_
                rintro rr w3 ⟨rfl, hb3⟩
                have HM3 := Lib.hid (HM2.out.below hb3)
                have HE3 := Lib.hid (HE2.out.below hb3)
                clear d3 d4 hb2 hb3
                go_wp2_with fail
                have HMd := Lib.hid (HM3.out.below (Below.drew (Below.refl _ _)))
                have HEd := Lib.hid (HE3.out.below (Below.drew (Below.refl _ _)))
                have hS : w3.drew.cell? ⟨B, 0, none⟩ = some (.int .i64 p) ∧ w3.drew.cell? ⟨B, 1, none⟩ = some (.int .i64 c) ∧ w3.drew.cell? ⟨B, 2, none⟩ = some (.int .i64 n) ∧ w3.drew.cell? ⟨B, 3, none⟩ = some (.int .i64 b) ∧ w3.drew.cell? ⟨B, 4, none⟩ = some (.int .i64 r) ∧ w3.drew.cell? ⟨B, 5, none⟩ = some (.int .i64 f) ∧ w3.drew.cell? ⟨B, 6, none⟩ = some (.int .i64 g) ∧ w3.drew.cell? ⟨gb, q1 * 13, none⟩ = some (.int .i64 o1.c) ∧ w3.drew.cell? ⟨gb, q2 * 13, none⟩ = some (.int .i64 o2.c) := And.intro (HMd.out.blk.cell 0 _ rfl) (And.intro (HMd.out.blk.cell 1 _ rfl) (And.intro (HMd.out.blk.cell 2 _ rfl) (And.intro (HMd.out.blk.cell 3 _ rfl) (And.intro (HMd.out.blk.cell 4 _ rfl) (And.intro (HMd.out.blk.cell 5 _ rfl) (And.intro (HMd.out.blk.cell 6 _ rfl) (And.intro (row_cell HMd.out.row HQ1.out rfl (j := 0) (by omega) rfl) (row_cell HMd.out.row HQ2.out rfl (j := 0) (by omega) rfl))))))))
                go_cut [53] (fun x wx => x = .bool false ∧ Hid (MS Fx w wx B K p c n b r f g (.slice (some ⟨gb, 0, none⟩) os.length cp) os now) ∧ Hid (Bl wr.heap.size [.int .i64 e.k, .int .i64 e.c, .int .i64 e.g, .int .i64 e.o, .int .i64 e.w, .int .i64 e.n, .int .i64 e.s, .int .i64 e.p, .int .i64 e.l, .int .i64 e.u, .int .i64 e.q, .int .i64 e.pr, .int .i64 e.t, .int .i64 e.en] wx))
                case first =>
                  go_region_held3 (fun w' => w'.cell? ⟨B, 0, none⟩ = some (.int .i64 p) ∧ w'.cell? ⟨B, 1, none⟩ = some (.int .i64 c) ∧ w'.cell? ⟨B, 2, none⟩ = some (.int .i64 n) ∧ w'.cell? ⟨B, 3, none⟩ = some (.int .i64 b) ∧ w'.cell? ⟨B, 4, none⟩ = some (.int .i64 r) ∧ w'.cell? ⟨B, 5, none⟩ = some (.int .i64 f) ∧ w'.cell? ⟨B, 6, none⟩ = some (.int .i64 g) ∧ w'.cell? ⟨gb, q1 * 13, none⟩ = some (.int .i64 o1.c) ∧ w'.cell? ⟨gb, q2 * 13, none⟩ = some (.int .i64 o2.c)) (first | with_reducible exact hS | fail) (first | (go_at_call 31; (with_reducible refine (HO1.out _).mono ?_); rintro rr w4 ⟨rfl, hb4⟩; have HMd := Lib.hid (HMd.out.below hb4); have HEd := Lib.hid (HEd.out.below hb4); have hS : w4.cell? ⟨B, 0, none⟩ = some (.int .i64 p) ∧ w4.cell? ⟨B, 1, none⟩ = some (.int .i64 c) ∧ w4.cell? ⟨B, 2, none⟩ = some (.int .i64 n) ∧ w4.cell? ⟨B, 3, none⟩ = some (.int .i64 b) ∧ w4.cell? ⟨B, 4, none⟩ = some (.int .i64 r) ∧ w4.cell? ⟨B, 5, none⟩ = some (.int .i64 f) ∧ w4.cell? ⟨B, 6, none⟩ = some (.int .i64 g) ∧ w4.cell? ⟨gb, q1 * 13, none⟩ = some (.int .i64 o1.c) ∧ w4.cell? ⟨gb, q2 * 13, none⟩ = some (.int .i64 o2.c) := And.intro (HMd.out.blk.cell 0 _ rfl) (And.intro (HMd.out.blk.cell 1 _ rfl) (And.intro (HMd.out.blk.cell 2 _ rfl) (And.intro (HMd.out.blk.cell 3 _ rfl) (And.intro (HMd.out.blk.cell 4 _ rfl) (And.intro (HMd.out.blk.cell 5 _ rfl) (And.intro (HMd.out.blk.cell 6 _ rfl) (And.intro (row_cell HMd.out.row HQ1.out rfl (j := 0) (by omega) rfl) (row_cell HMd.out.row HQ2.out rfl (j := 0) (by omega) rfl)))))))); clear hb4) | (go_at_call 31; (with_reducible refine (HO2.out _).mono ?_); rintro rr w4 ⟨rfl, hb4⟩; have HMd := Lib.hid (HMd.out.below hb4); have HEd := Lib.hid (HEd.out.below hb4); have hS : w4.cell? ⟨B, 0, none⟩ = some (.int .i64 p) ∧ w4.cell? ⟨B, 1, none⟩ = some (.int .i64 c) ∧ w4.cell? ⟨B, 2, none⟩ = some (.int .i64 n) ∧ w4.cell? ⟨B, 3, none⟩ = some (.int .i64 b) ∧ w4.cell? ⟨B, 4, none⟩ = some (.int .i64 r) ∧ w4.cell? ⟨B, 5, none⟩ = some (.int .i64 f) ∧ w4.cell? ⟨B, 6, none⟩ = some (.int .i64 g) ∧ w4.cell? ⟨gb, q1 * 13, none⟩ = some (.int .i64 o1.c) ∧ w4.cell? ⟨gb, q2 * 13, none⟩ = some (.int .i64 o2.c) := And.intro (HMd.out.blk.cell 0 _ rfl) (And.intro (HMd.out.blk.cell 1 _ rfl) (And.intro (HMd.out.blk.cell 2 _ rfl) (And.intro (HMd.out.blk.cell 3 _ rfl) (And.intro (HMd.out.blk.cell 4 _ rfl) (And.intro (HMd.out.blk.cell 5 _ rfl) (And.intro (HMd.out.blk.cell 6 _ rfl) (And.intro (row_cell HMd.out.row HQ1.out rfl (j := 0) (by omega) rfl) (row_cell HMd.out.row HQ2.out rfl (j := 0) (by omega) rfl)))))))); clear hb4) | fail)
                  all_goals ((apply meet_of); (focus (assumption)); (go_meet; exact ⟨rfl, HMd, HEd⟩))
                case rest =>
                  obtain ⟨rfl, HM4, HE4⟩ := hcut
                  clear hS HMd HEd
                  go_wp2_with fail
                  refine (HS1.out _ HM4.out).mono ?_
                  rintro rr w5 ⟨rfl, hb5⟩
                  have HM5 := Lib.hid (HM4.out.below hb5)
                  have HE5 := Lib.hid (HE4.out.below hb5)
                  clear hb5
                  go_wp2_with fail
                  refine (HS2.out _ HM5.out).mono ?_
                  rintro rr w6 ⟨rfl, hb5⟩
                  have HM6 := Lib.hid (HM5.out.below hb5)
                  have HE6 := Lib.hid (HE5.out.below hb5)
                  clear hb5
                  have c10 := row_cell HM6.out.row HQ2.out rfl (j := 10) (by omega) rfl
                  rw [ha] at c10
                  go_wp2_with fail
                  have HMd := Lib.hid (HM6.out.below (Below.drew (Below.refl _ _)))
                  have HEd := Lib.hid (HE6.out.below (Below.drew (Below.refl _ _)))
                  have hS : w6.drew.cell? ⟨gb, q1 * 13 + 2, none⟩ = some (.int .i64 o1.n) ∧ w6.drew.cell? ⟨gb, q1 * 13 + 3, none⟩ = some (.int .i64 o1.s) ∧ w6.drew.cell? ⟨gb, q1 * 13 + 4, none⟩ = some (.int .i64 o1.p) ∧ w6.drew.cell? ⟨gb, q1 * 13 + 5, none⟩ = some (.int .i64 o1.l) ∧ w6.drew.cell? ⟨gb, q1 * 13 + 6, none⟩ = some (.int .i64 o1.u) ∧ w6.drew.cell? ⟨gb, q2 * 13 + 2, none⟩ = some (.int .i64 o2.n) ∧ w6.drew.cell? ⟨gb, q2 * 13 + 3, none⟩ = some (.int .i64 o2.s) ∧ w6.drew.cell? ⟨gb, q2 * 13 + 4, none⟩ = some (.int .i64 o2.p) ∧ w6.drew.cell? ⟨gb, q2 * 13 + 5, none⟩ = some (.int .i64 o2.l) ∧ w6.drew.cell? ⟨gb, q2 * 13 + 6, none⟩ = some (.int .i64 o2.u) ∧ w6.drew.cell? ⟨gb, q1 * 13 + 8, none⟩ = some (.int .i64 o1.lf) ∧ w6.drew.cell? ⟨gb, q2 * 13 + 8, none⟩ = some (.int .i64 o2.lf) := And.intro (row_cell HMd.out.row HQ1.out rfl (j := 2) (by omega) rfl) (And.intro (row_cell HMd.out.row HQ1.out rfl (j := 3) (by omega) rfl) (And.intro (row_cell HMd.out.row HQ1.out rfl (j := 4) (by omega) rfl) (And.intro (row_cell HMd.out.row HQ1.out rfl (j := 5) (by omega) rfl) (And.intro (row_cell HMd.out.row HQ1.out rfl (j := 6) (by omega) rfl) (And.intro (row_cell HMd.out.row HQ2.out rfl (j := 2) (by omega) rfl) (And.intro (row_cell HMd.out.row HQ2.out rfl (j := 3) (by omega) rfl) (And.intro (row_cell HMd.out.row HQ2.out rfl (j := 4) (by omega) rfl) (And.intro (row_cell HMd.out.row HQ2.out rfl (j := 5) (by omega) rfl) (And.intro (row_cell HMd.out.row HQ2.out rfl (j := 6) (by omega) rfl) (And.intro (row_cell HMd.out.row HQ1.out rfl (j := 8) (by omega) rfl) (row_cell HMd.out.row HQ2.out rfl (j := 8) (by omega) rfl)))))))))))
                  have hba := (Below.refl w6.heap.size w6).alloc (Nat.le_refl _) (Obj.cells #[.int .i64 0, .int .i64 0] 86)
                  have HMz := Lib.hid ((HM6.out.below hba).below (Below.drew (Below.refl _ _)))
                  have HEz := Lib.hid ((HE6.out.below hba).below (Below.drew (Below.refl _ _)))
                  have hSz : (w6.alloc (Obj.cells #[.int .i64 0, .int .i64 0] 86)).drew.cell? ⟨gb, q1 * 13 + 2, none⟩ = some (.int .i64 o1.n) ∧ (w6.alloc (Obj.cells #[.int .i64 0, .int .i64 0] 86)).drew.cell? ⟨gb, q1 * 13 + 3, none⟩ = some (.int .i64 o1.s) ∧ (w6.alloc (Obj.cells #[.int .i64 0, .int .i64 0] 86)).drew.cell? ⟨gb, q1 * 13 + 4, none⟩ = some (.int .i64 o1.p) ∧ (w6.alloc (Obj.cells #[.int .i64 0, .int .i64 0] 86)).drew.cell? ⟨gb, q1 * 13 + 5, none⟩ = some (.int .i64 o1.l) ∧ (w6.alloc (Obj.cells #[.int .i64 0, .int .i64 0] 86)).drew.cell? ⟨gb, q1 * 13 + 6, none⟩ = some (.int .i64 o1.u) ∧ (w6.alloc (Obj.cells #[.int .i64 0, .int .i64 0] 86)).drew.cell? ⟨gb, q2 * 13 + 2, none⟩ = some (.int .i64 o2.n) ∧ (w6.alloc (Obj.cells #[.int .i64 0, .int .i64 0] 86)).drew.cell? ⟨gb, q2 * 13 + 3, none⟩ = some (.int .i64 o2.s) ∧ (w6.alloc (Obj.cells #[.int .i64 0, .int .i64 0] 86)).drew.cell? ⟨gb, q2 * 13 + 4, none⟩ = some (.int .i64 o2.p) ∧ (w6.alloc (Obj.cells #[.int .i64 0, .int .i64 0] 86)).drew.cell? ⟨gb, q2 * 13 + 5, none⟩ = some (.int .i64 o2.l) ∧ (w6.alloc (Obj.cells #[.int .i64 0, .int .i64 0] 86)).drew.cell? ⟨gb, q2 * 13 + 6, none⟩ = some (.int .i64 o2.u) ∧ (w6.alloc (Obj.cells #[.int .i64 0, .int .i64 0] 86)).drew.cell? ⟨gb, q1 * 13 + 8, none⟩ = some (.int .i64 o1.lf) ∧ (w6.alloc (Obj.cells #[.int .i64 0, .int .i64 0] 86)).drew.cell? ⟨gb, q2 * 13 + 8, none⟩ = some (.int .i64 o2.lf) := And.intro (row_cell HMz.out.row HQ1.out rfl (j := 2) (by omega) rfl) (And.intro (row_cell HMz.out.row HQ1.out rfl (j := 3) (by omega) rfl) (And.intro (row_cell HMz.out.row HQ1.out rfl (j := 4) (by omega) rfl) (And.intro (row_cell HMz.out.row HQ1.out rfl (j := 5) (by omega) rfl) (And.intro (row_cell HMz.out.row HQ1.out rfl (j := 6) (by omega) rfl) (And.intro (row_cell HMz.out.row HQ2.out rfl (j := 2) (by omega) rfl) (And.intro (row_cell HMz.out.row HQ2.out rfl (j := 3) (by omega) rfl) (And.intro (row_cell HMz.out.row HQ2.out rfl (j := 4) (by omega) rfl) (And.intro (row_cell HMz.out.row HQ2.out rfl (j := 5) (by omega) rfl) (And.intro (row_cell HMz.out.row HQ2.out rfl (j := 6) (by omega) rfl) (And.intro (row_cell HMz.out.row HQ1.out rfl (j := 8) (by omega) rfl) (row_cell HMz.out.row HQ2.out rfl (j := 8) (by omega) rfl)))))))))))
                  have bFz : Bl w6.heap.size [.int .i64 0, .int .i64 0] (w6.alloc (Obj.cells #[.int .i64 0, .int .i64 0] 86)).drew := (Bl.new w6 [.int .i64 0, .int .i64 0] 86).below (Below.drew (Below.refl _ _))
                  have hltz : gb < w6.heap.size := (HM6.out.row.lt gb rfl).2
                  have hKz : K ≤ w6.heap.size := HM6.out.hK
                  have hlez := HE6.out.lt
                  have hXz : ∀ (k : Nat) (o : Option Obj), Fx k o → k ≠ w6.heap.size := fun k o hk => by have := (HM6.out.fx k o hk).2.2.2; omega
                  clear hba
                  go_cut [8] (fun x wx => ∃ F, x = .pointer (some ⟨F, 0, none⟩) ∧ gb < F ∧ K ≤ F ∧ Hid (MS Fx w wx B K p c n b r f g (.slice (some ⟨gb, 0, none⟩) os.length cp) os now) ∧ Hid (Bl wr.heap.size [.int .i64 e.k, .int .i64 e.c, .int .i64 e.g, .int .i64 e.o, .int .i64 e.w, .int .i64 e.n, .int .i64 e.s, .int .i64 e.p, .int .i64 e.l, .int .i64 e.u, .int .i64 e.q, .int .i64 e.pr, .int .i64 e.t, .int .i64 e.en] wx) ∧ Hid (Bl F [.int .i64 0, .int .i64 0] wx))
                  case first =>
                    go_region_held3 (fun w' => w'.cell? ⟨gb, q1 * 13 + 2, none⟩ = some (.int .i64 o1.n) ∧ w'.cell? ⟨gb, q1 * 13 + 3, none⟩ = some (.int .i64 o1.s) ∧ w'.cell? ⟨gb, q1 * 13 + 4, none⟩ = some (.int .i64 o1.p) ∧ w'.cell? ⟨gb, q1 * 13 + 5, none⟩ = some (.int .i64 o1.l) ∧ w'.cell? ⟨gb, q1 * 13 + 6, none⟩ = some (.int .i64 o1.u) ∧ w'.cell? ⟨gb, q2 * 13 + 2, none⟩ = some (.int .i64 o2.n) ∧ w'.cell? ⟨gb, q2 * 13 + 3, none⟩ = some (.int .i64 o2.s) ∧ w'.cell? ⟨gb, q2 * 13 + 4, none⟩ = some (.int .i64 o2.p) ∧ w'.cell? ⟨gb, q2 * 13 + 5, none⟩ = some (.int .i64 o2.l) ∧ w'.cell? ⟨gb, q2 * 13 + 6, none⟩ = some (.int .i64 o2.u) ∧ w'.cell? ⟨gb, q1 * 13 + 8, none⟩ = some (.int .i64 o1.lf) ∧ w'.cell? ⟨gb, q2 * 13 + 8, none⟩ = some (.int .i64 o2.lf)) (first | with_reducible exact hS | with_reducible exact hSz | with_reducible exact hSa | with_reducible exact hSk | fail) (first | (go_at_call 36; (with_reducible refine (HMT.out _).mono ?_); rintro rr w7 ⟨rfl, hb7⟩; have HM7 := Lib.hid (HMd.out.below hb7); have HE7 := Lib.hid (HEd.out.below hb7); have hS : w7.cell? ⟨gb, q1 * 13 + 2, none⟩ = some (.int .i64 o1.n) ∧ w7.cell? ⟨gb, q1 * 13 + 3, none⟩ = some (.int .i64 o1.s) ∧ w7.cell? ⟨gb, q1 * 13 + 4, none⟩ = some (.int .i64 o1.p) ∧ w7.cell? ⟨gb, q1 * 13 + 5, none⟩ = some (.int .i64 o1.l) ∧ w7.cell? ⟨gb, q1 * 13 + 6, none⟩ = some (.int .i64 o1.u) ∧ w7.cell? ⟨gb, q2 * 13 + 2, none⟩ = some (.int .i64 o2.n) ∧ w7.cell? ⟨gb, q2 * 13 + 3, none⟩ = some (.int .i64 o2.s) ∧ w7.cell? ⟨gb, q2 * 13 + 4, none⟩ = some (.int .i64 o2.p) ∧ w7.cell? ⟨gb, q2 * 13 + 5, none⟩ = some (.int .i64 o2.l) ∧ w7.cell? ⟨gb, q2 * 13 + 6, none⟩ = some (.int .i64 o2.u) ∧ w7.cell? ⟨gb, q1 * 13 + 8, none⟩ = some (.int .i64 o1.lf) ∧ w7.cell? ⟨gb, q2 * 13 + 8, none⟩ = some (.int .i64 o2.lf) := And.intro (row_cell HM7.out.row HQ1.out rfl (j := 2) (by omega) rfl) (And.intro (row_cell HM7.out.row HQ1.out rfl (j := 3) (by omega) rfl) (And.intro (row_cell HM7.out.row HQ1.out rfl (j := 4) (by omega) rfl) (And.intro (row_cell HM7.out.row HQ1.out rfl (j := 5) (by omega) rfl) (And.intro (row_cell HM7.out.row HQ1.out rfl (j := 6) (by omega) rfl) (And.intro (row_cell HM7.out.row HQ2.out rfl (j := 2) (by omega) rfl) (And.intro (row_cell HM7.out.row HQ2.out rfl (j := 3) (by omega) rfl) (And.intro (row_cell HM7.out.row HQ2.out rfl (j := 4) (by omega) rfl) (And.intro (row_cell HM7.out.row HQ2.out rfl (j := 5) (by omega) rfl) (And.intro (row_cell HM7.out.row HQ2.out rfl (j := 6) (by omega) rfl) (And.intro (row_cell HM7.out.row HQ1.out rfl (j := 8) (by omega) rfl) (row_cell HM7.out.row HQ2.out rfl (j := 8) (by omega) rfl))))))))))); have hba := (Below.refl w7.heap.size w7).alloc (Nat.le_refl _) (Obj.cells #[.int .i64 0, .int .i64 0] 86); have HM8 := Lib.hid (HM7.out.below hba); have hSa : (w7.alloc (Obj.cells #[.int .i64 0, .int .i64 0] 86)).cell? ⟨gb, q1 * 13 + 2, none⟩ = some (.int .i64 o1.n) ∧ (w7.alloc (Obj.cells #[.int .i64 0, .int .i64 0] 86)).cell? ⟨gb, q1 * 13 + 3, none⟩ = some (.int .i64 o1.s) ∧ (w7.alloc (Obj.cells #[.int .i64 0, .int .i64 0] 86)).cell? ⟨gb, q1 * 13 + 4, none⟩ = some (.int .i64 o1.p) ∧ (w7.alloc (Obj.cells #[.int .i64 0, .int .i64 0] 86)).cell? ⟨gb, q1 * 13 + 5, none⟩ = some (.int .i64 o1.l) ∧ (w7.alloc (Obj.cells #[.int .i64 0, .int .i64 0] 86)).cell? ⟨gb, q1 * 13 + 6, none⟩ = some (.int .i64 o1.u) ∧ (w7.alloc (Obj.cells #[.int .i64 0, .int .i64 0] 86)).cell? ⟨gb, q2 * 13 + 2, none⟩ = some (.int .i64 o2.n) ∧ (w7.alloc (Obj.cells #[.int .i64 0, .int .i64 0] 86)).cell? ⟨gb, q2 * 13 + 3, none⟩ = some (.int .i64 o2.s) ∧ (w7.alloc (Obj.cells #[.int .i64 0, .int .i64 0] 86)).cell? ⟨gb, q2 * 13 + 4, none⟩ = some (.int .i64 o2.p) ∧ (w7.alloc (Obj.cells #[.int .i64 0, .int .i64 0] 86)).cell? ⟨gb, q2 * 13 + 5, none⟩ = some (.int .i64 o2.l) ∧ (w7.alloc (Obj.cells #[.int .i64 0, .int .i64 0] 86)).cell? ⟨gb, q2 * 13 + 6, none⟩ = some (.int .i64 o2.u) ∧ (w7.alloc (Obj.cells #[.int .i64 0, .int .i64 0] 86)).cell? ⟨gb, q1 * 13 + 8, none⟩ = some (.int .i64 o1.lf) ∧ (w7.alloc (Obj.cells #[.int .i64 0, .int .i64 0] 86)).cell? ⟨gb, q2 * 13 + 8, none⟩ = some (.int .i64 o2.lf) := And.intro (row_cell HM8.out.row HQ1.out rfl (j := 2) (by omega) rfl) (And.intro (row_cell HM8.out.row HQ1.out rfl (j := 3) (by omega) rfl) (And.intro (row_cell HM8.out.row HQ1.out rfl (j := 4) (by omega) rfl) (And.intro (row_cell HM8.out.row HQ1.out rfl (j := 5) (by omega) rfl) (And.intro (row_cell HM8.out.row HQ1.out rfl (j := 6) (by omega) rfl) (And.intro (row_cell HM8.out.row HQ2.out rfl (j := 2) (by omega) rfl) (And.intro (row_cell HM8.out.row HQ2.out rfl (j := 3) (by omega) rfl) (And.intro (row_cell HM8.out.row HQ2.out rfl (j := 4) (by omega) rfl) (And.intro (row_cell HM8.out.row HQ2.out rfl (j := 5) (by omega) rfl) (And.intro (row_cell HM8.out.row HQ2.out rfl (j := 6) (by omega) rfl) (And.intro (row_cell HM8.out.row HQ1.out rfl (j := 8) (by omega) rfl) (row_cell HM8.out.row HQ2.out rfl (j := 8) (by omega) rfl))))))))))); have hbq := (Below.refl w7.heap.size w7).alloc (Nat.le_refl _) (Obj.cells #[.int .i64 0, .int .i64 0] 86); have HM9 := Lib.hid (HM7.out.below hbq); have HE9 := Lib.hid (HE7.out.below hbq); have HF9 := Lib.hid (Bl.new w7 [.int .i64 0, .int .i64 0] 86); have hlt : gb < w7.heap.size := (HM7.out.row.lt gb rfl).2; have hKF : K ≤ w7.heap.size := HM7.out.hK; have hSk : (w7.alloc (Obj.cells #[.int .i64 0, .int .i64 0] 86)).cell? ⟨gb, q1 * 13 + 2, none⟩ = some (.int .i64 o1.n) ∧ (w7.alloc (Obj.cells #[.int .i64 0, .int .i64 0] 86)).cell? ⟨gb, q1 * 13 + 3, none⟩ = some (.int .i64 o1.s) ∧ (w7.alloc (Obj.cells #[.int .i64 0, .int .i64 0] 86)).cell? ⟨gb, q1 * 13 + 4, none⟩ = some (.int .i64 o1.p) ∧ (w7.alloc (Obj.cells #[.int .i64 0, .int .i64 0] 86)).cell? ⟨gb, q1 * 13 + 5, none⟩ = some (.int .i64 o1.l) ∧ (w7.alloc (Obj.cells #[.int .i64 0, .int .i64 0] 86)).cell? ⟨gb, q1 * 13 + 6, none⟩ = some (.int .i64 o1.u) ∧ (w7.alloc (Obj.cells #[.int .i64 0, .int .i64 0] 86)).cell? ⟨gb, q2 * 13 + 2, none⟩ = some (.int .i64 o2.n) ∧ (w7.alloc (Obj.cells #[.int .i64 0, .int .i64 0] 86)).cell? ⟨gb, q2 * 13 + 3, none⟩ = some (.int .i64 o2.s) ∧ (w7.alloc (Obj.cells #[.int .i64 0, .int .i64 0] 86)).cell? ⟨gb, q2 * 13 + 4, none⟩ = some (.int .i64 o2.p) ∧ (w7.alloc (Obj.cells #[.int .i64 0, .int .i64 0] 86)).cell? ⟨gb, q2 * 13 + 5, none⟩ = some (.int .i64 o2.l) ∧ (w7.alloc (Obj.cells #[.int .i64 0, .int .i64 0] 86)).cell? ⟨gb, q2 * 13 + 6, none⟩ = some (.int .i64 o2.u) ∧ (w7.alloc (Obj.cells #[.int .i64 0, .int .i64 0] 86)).cell? ⟨gb, q1 * 13 + 8, none⟩ = some (.int .i64 o1.lf) ∧ (w7.alloc (Obj.cells #[.int .i64 0, .int .i64 0] 86)).cell? ⟨gb, q2 * 13 + 8, none⟩ = some (.int .i64 o2.lf) := And.intro (row_cell HM9.out.row HQ1.out rfl (j := 2) (by omega) rfl) (And.intro (row_cell HM9.out.row HQ1.out rfl (j := 3) (by omega) rfl) (And.intro (row_cell HM9.out.row HQ1.out rfl (j := 4) (by omega) rfl) (And.intro (row_cell HM9.out.row HQ1.out rfl (j := 5) (by omega) rfl) (And.intro (row_cell HM9.out.row HQ1.out rfl (j := 6) (by omega) rfl) (And.intro (row_cell HM9.out.row HQ2.out rfl (j := 2) (by omega) rfl) (And.intro (row_cell HM9.out.row HQ2.out rfl (j := 3) (by omega) rfl) (And.intro (row_cell HM9.out.row HQ2.out rfl (j := 4) (by omega) rfl) (And.intro (row_cell HM9.out.row HQ2.out rfl (j := 5) (by omega) rfl) (And.intro (row_cell HM9.out.row HQ2.out rfl (j := 6) (by omega) rfl) (And.intro (row_cell HM9.out.row HQ1.out rfl (j := 8) (by omega) rfl) (row_cell HM9.out.row HQ2.out rfl (j := 8) (by omega) rfl))))))))))); clear hb7 hba hbq) | (go_at_call 36; (with_reducible refine (HMT.out _).mono ?_); rintro rr w7 ⟨rfl, hb7⟩; have HM7 := Lib.hid (HMz.out.below hb7); have HE7 := Lib.hid (HEz.out.below hb7); have bF := bFz.below hb7; have hS : w7.cell? ⟨gb, q1 * 13 + 2, none⟩ = some (.int .i64 o1.n) ∧ w7.cell? ⟨gb, q1 * 13 + 3, none⟩ = some (.int .i64 o1.s) ∧ w7.cell? ⟨gb, q1 * 13 + 4, none⟩ = some (.int .i64 o1.p) ∧ w7.cell? ⟨gb, q1 * 13 + 5, none⟩ = some (.int .i64 o1.l) ∧ w7.cell? ⟨gb, q1 * 13 + 6, none⟩ = some (.int .i64 o1.u) ∧ w7.cell? ⟨gb, q2 * 13 + 2, none⟩ = some (.int .i64 o2.n) ∧ w7.cell? ⟨gb, q2 * 13 + 3, none⟩ = some (.int .i64 o2.s) ∧ w7.cell? ⟨gb, q2 * 13 + 4, none⟩ = some (.int .i64 o2.p) ∧ w7.cell? ⟨gb, q2 * 13 + 5, none⟩ = some (.int .i64 o2.l) ∧ w7.cell? ⟨gb, q2 * 13 + 6, none⟩ = some (.int .i64 o2.u) ∧ w7.cell? ⟨gb, q1 * 13 + 8, none⟩ = some (.int .i64 o1.lf) ∧ w7.cell? ⟨gb, q2 * 13 + 8, none⟩ = some (.int .i64 o2.lf) := And.intro (row_cell HM7.out.row HQ1.out rfl (j := 2) (by omega) rfl) (And.intro (row_cell HM7.out.row HQ1.out rfl (j := 3) (by omega) rfl) (And.intro (row_cell HM7.out.row HQ1.out rfl (j := 4) (by omega) rfl) (And.intro (row_cell HM7.out.row HQ1.out rfl (j := 5) (by omega) rfl) (And.intro (row_cell HM7.out.row HQ1.out rfl (j := 6) (by omega) rfl) (And.intro (row_cell HM7.out.row HQ2.out rfl (j := 2) (by omega) rfl) (And.intro (row_cell HM7.out.row HQ2.out rfl (j := 3) (by omega) rfl) (And.intro (row_cell HM7.out.row HQ2.out rfl (j := 4) (by omega) rfl) (And.intro (row_cell HM7.out.row HQ2.out rfl (j := 5) (by omega) rfl) (And.intro (row_cell HM7.out.row HQ2.out rfl (j := 6) (by omega) rfl) (And.intro (row_cell HM7.out.row HQ1.out rfl (j := 8) (by omega) rfl) (row_cell HM7.out.row HQ2.out rfl (j := 8) (by omega) rfl))))))))))); have z0 := bF.cell 0 _ rfl; have z1 := bF.cell 1 _ rfl; have y0 := bF.frz 0; have y1 := bF.frz 1; have hlt := hltz; have HM9 := Lib.hid ((HM7.out.far (j := 0) hKz (by omega) hXz (.int .i64 0)).far (j := 1) hKz (by omega) hXz (.int .i64 0)); have HE9 := Lib.hid ((HE7.out.far (p := ⟨w6.heap.size, 0, none⟩) (by show w6.heap.size ≠ _; omega) (.int .i64 0)).far (p := ⟨w6.heap.size, 1, none⟩) (by show w6.heap.size ≠ _; omega) (.int .i64 0)); have HF9 := Lib.hid ((bF.set 0 (.int .i64 0)).set 1 (.int .i64 0)); have hSk : ((w7.setCell ⟨w6.heap.size, 0, none⟩ (.int .i64 0)).setCell ⟨w6.heap.size, 1, none⟩ (.int .i64 0)).cell? ⟨gb, q1 * 13 + 2, none⟩ = some (.int .i64 o1.n) ∧ ((w7.setCell ⟨w6.heap.size, 0, none⟩ (.int .i64 0)).setCell ⟨w6.heap.size, 1, none⟩ (.int .i64 0)).cell? ⟨gb, q1 * 13 + 3, none⟩ = some (.int .i64 o1.s) ∧ ((w7.setCell ⟨w6.heap.size, 0, none⟩ (.int .i64 0)).setCell ⟨w6.heap.size, 1, none⟩ (.int .i64 0)).cell? ⟨gb, q1 * 13 + 4, none⟩ = some (.int .i64 o1.p) ∧ ((w7.setCell ⟨w6.heap.size, 0, none⟩ (.int .i64 0)).setCell ⟨w6.heap.size, 1, none⟩ (.int .i64 0)).cell? ⟨gb, q1 * 13 + 5, none⟩ = some (.int .i64 o1.l) ∧ ((w7.setCell ⟨w6.heap.size, 0, none⟩ (.int .i64 0)).setCell ⟨w6.heap.size, 1, none⟩ (.int .i64 0)).cell? ⟨gb, q1 * 13 + 6, none⟩ = some (.int .i64 o1.u) ∧ ((w7.setCell ⟨w6.heap.size, 0, none⟩ (.int .i64 0)).setCell ⟨w6.heap.size, 1, none⟩ (.int .i64 0)).cell? ⟨gb, q2 * 13 + 2, none⟩ = some (.int .i64 o2.n) ∧ ((w7.setCell ⟨w6.heap.size, 0, none⟩ (.int .i64 0)).setCell ⟨w6.heap.size, 1, none⟩ (.int .i64 0)).cell? ⟨gb, q2 * 13 + 3, none⟩ = some (.int .i64 o2.s) ∧ ((w7.setCell ⟨w6.heap.size, 0, none⟩ (.int .i64 0)).setCell ⟨w6.heap.size, 1, none⟩ (.int .i64 0)).cell? ⟨gb, q2 * 13 + 4, none⟩ = some (.int .i64 o2.p) ∧ ((w7.setCell ⟨w6.heap.size, 0, none⟩ (.int .i64 0)).setCell ⟨w6.heap.size, 1, none⟩ (.int .i64 0)).cell? ⟨gb, q2 * 13 + 5, none⟩ = some (.int .i64 o2.l) ∧ ((w7.setCell ⟨w6.heap.size, 0, none⟩ (.int .i64 0)).setCell ⟨w6.heap.size, 1, none⟩ (.int .i64 0)).cell? ⟨gb, q2 * 13 + 6, none⟩ = some (.int .i64 o2.u) ∧ ((w7.setCell ⟨w6.heap.size, 0, none⟩ (.int .i64 0)).setCell ⟨w6.heap.size, 1, none⟩ (.int .i64 0)).cell? ⟨gb, q1 * 13 + 8, none⟩ = some (.int .i64 o1.lf) ∧ ((w7.setCell ⟨w6.heap.size, 0, none⟩ (.int .i64 0)).setCell ⟨w6.heap.size, 1, none⟩ (.int .i64 0)).cell? ⟨gb, q2 * 13 + 8, none⟩ = some (.int .i64 o2.lf) := And.intro (row_cell HM9.out.row HQ1.out rfl (j := 2) (by omega) rfl) (And.intro (row_cell HM9.out.row HQ1.out rfl (j := 3) (by omega) rfl) (And.intro (row_cell HM9.out.row HQ1.out rfl (j := 4) (by omega) rfl) (And.intro (row_cell HM9.out.row HQ1.out rfl (j := 5) (by omega) rfl) (And.intro (row_cell HM9.out.row HQ1.out rfl (j := 6) (by omega) rfl) (And.intro (row_cell HM9.out.row HQ2.out rfl (j := 2) (by omega) rfl) (And.intro (row_cell HM9.out.row HQ2.out rfl (j := 3) (by omega) rfl) (And.intro (row_cell HM9.out.row HQ2.out rfl (j := 4) (by omega) rfl) (And.intro (row_cell HM9.out.row HQ2.out rfl (j := 5) (by omega) rfl) (And.intro (row_cell HM9.out.row HQ2.out rfl (j := 6) (by omega) rfl) (And.intro (row_cell HM9.out.row HQ1.out rfl (j := 8) (by omega) rfl) (row_cell HM9.out.row HQ2.out rfl (j := 8) (by omega) rfl))))))))))); clear hb7) | fail)
                    all_goals ((apply meet_of); (focus (assumption)); (go_meet; exact ⟨_, rfl, hlt, (by first | exact hKF | exact hKz), HM9, HE9, HF9⟩))
                  case rest =>
                    obtain ⟨F, rfl, hgF, hKF, HM9, HE9, HF9⟩ := hcut
                    clear hS hSz HMz HEz bFz HMd HEd hlez hKz hltz hXz
                    have g0 := HF9.out.cell 0 _ rfl
                    have g1 := HF9.out.cell 1 _ rfl
                    have x10 := HE9.out.cell 10 _ rfl
                    have x11 := HE9.out.cell 11 _ rfl
                    go_wp2_with fail
                    go_ret
                    exact ⟨rfl, _, HM9.out⟩
              · have hE1 : ∀ W, (Op.equalIn 10000 86 (.agg #[.int .i64 qy, .int .i64 pr]) (.agg #[.int .i64 0, .int .i64 0])).run Try.prog W = .ok false W := fun W => by
                  rw [eqFill, show (qy == 0) = false from by simp; omega]
                  rfl
                by_cases hqe : qy = e.q ∧ pr = e.pr
                · obtain ⟨rfl, rfl⟩ := hqe
                  have hE2 : ∀ W, (Op.equalIn 10000 86 (.agg #[.int .i64 e.q, .int .i64 e.pr]) (.agg #[.int .i64 e.q, .int .i64 e.pr])).run Try.prog W = .ok true W := fun W => by rw [eqFill]; simp
                  clear hE1
                  have hE1 : ∀ W, (Op.equalIn 10000 86 (.agg #[.int .i64 e.q, .int .i64 e.pr]) (.agg #[.int .i64 0, .int .i64 0])).run Try.prog W = .ok false W := fun W => by
                    rw [eqFill, show (e.q == 0) = false from by simp; omega]
                    rfl
                  refine ⟨.nilIface, (os.set q1 { o1 with lf := o1.lf - e.q, fl := o1.fl + 1 }).set q2 { o2 with lf := o2.lf - e.q, fl := o2.fl + 1, en := spent f { o2 with lf := o2.lf - e.q, fl := o2.fl + 1 } }, ?_, .inr ⟨rfl, Step.two q1 q2 o1 o2 (spent f { o2 with lf := o2.lf - e.q, fl := o2.fl + 1 }) HKK.out HQ1.out HQ2.out hqq HA1.out.2.2 HA2.out.2.2 HA1.out.1 HA1.out.2.1 HA2.out.1 HA2.out.2.1 t1 t2 t3 f1 f2⟩⟩
                  go_enter Try.func21, Try.ntmps21
                  go_wp2_with fail
                  refine (HL1.out _ HM.out).mono ?_
                  rintro rr w2 ⟨rfl, hb2⟩
                  have HM2 := Lib.hid (HM.out.below hb2)
                  have HE2 := Lib.hid (HE.out.below hb2)
                  have d3 := HE2.out.cell 3 _ rfl
                  have d4 := HE2.out.cell 4 _ rfl
                  go_wp2_with fail
                  refine (HL2.out _ HM2.out).mono ?_
                  rintro rr w3 ⟨rfl, hb3⟩
                  have HM3 := Lib.hid (HM2.out.below hb3)
                  have HE3 := Lib.hid (HE2.out.below hb3)
                  clear d3 d4 hb2 hb3
                  go_wp2_with fail
                  have HMd := Lib.hid (HM3.out.below (Below.drew (Below.refl _ _)))
                  have HEd := Lib.hid (HE3.out.below (Below.drew (Below.refl _ _)))
                  have hS : w3.drew.cell? ⟨B, 0, none⟩ = some (.int .i64 p) ∧ w3.drew.cell? ⟨B, 1, none⟩ = some (.int .i64 c) ∧ w3.drew.cell? ⟨B, 2, none⟩ = some (.int .i64 n) ∧ w3.drew.cell? ⟨B, 3, none⟩ = some (.int .i64 b) ∧ w3.drew.cell? ⟨B, 4, none⟩ = some (.int .i64 r) ∧ w3.drew.cell? ⟨B, 5, none⟩ = some (.int .i64 f) ∧ w3.drew.cell? ⟨B, 6, none⟩ = some (.int .i64 g) ∧ w3.drew.cell? ⟨gb, q1 * 13, none⟩ = some (.int .i64 o1.c) ∧ w3.drew.cell? ⟨gb, q2 * 13, none⟩ = some (.int .i64 o2.c) := And.intro (HMd.out.blk.cell 0 _ rfl) (And.intro (HMd.out.blk.cell 1 _ rfl) (And.intro (HMd.out.blk.cell 2 _ rfl) (And.intro (HMd.out.blk.cell 3 _ rfl) (And.intro (HMd.out.blk.cell 4 _ rfl) (And.intro (HMd.out.blk.cell 5 _ rfl) (And.intro (HMd.out.blk.cell 6 _ rfl) (And.intro (row_cell HMd.out.row HQ1.out rfl (j := 0) (by omega) rfl) (row_cell HMd.out.row HQ2.out rfl (j := 0) (by omega) rfl))))))))
                  go_cut [53] (fun x wx => x = .bool false ∧ Hid (MS Fx w wx B K p c n b r f g (.slice (some ⟨gb, 0, none⟩) os.length cp) os now) ∧ Hid (Bl wr.heap.size [.int .i64 e.k, .int .i64 e.c, .int .i64 e.g, .int .i64 e.o, .int .i64 e.w, .int .i64 e.n, .int .i64 e.s, .int .i64 e.p, .int .i64 e.l, .int .i64 e.u, .int .i64 e.q, .int .i64 e.pr, .int .i64 e.t, .int .i64 e.en] wx))
                  case first =>
                    go_region_held3 (fun w' => w'.cell? ⟨B, 0, none⟩ = some (.int .i64 p) ∧ w'.cell? ⟨B, 1, none⟩ = some (.int .i64 c) ∧ w'.cell? ⟨B, 2, none⟩ = some (.int .i64 n) ∧ w'.cell? ⟨B, 3, none⟩ = some (.int .i64 b) ∧ w'.cell? ⟨B, 4, none⟩ = some (.int .i64 r) ∧ w'.cell? ⟨B, 5, none⟩ = some (.int .i64 f) ∧ w'.cell? ⟨B, 6, none⟩ = some (.int .i64 g) ∧ w'.cell? ⟨gb, q1 * 13, none⟩ = some (.int .i64 o1.c) ∧ w'.cell? ⟨gb, q2 * 13, none⟩ = some (.int .i64 o2.c)) (first | with_reducible exact hS | fail) (first | (go_at_call 31; (with_reducible refine (HO1.out _).mono ?_); rintro rr w4 ⟨rfl, hb4⟩; have HMd := Lib.hid (HMd.out.below hb4); have HEd := Lib.hid (HEd.out.below hb4); have hS : w4.cell? ⟨B, 0, none⟩ = some (.int .i64 p) ∧ w4.cell? ⟨B, 1, none⟩ = some (.int .i64 c) ∧ w4.cell? ⟨B, 2, none⟩ = some (.int .i64 n) ∧ w4.cell? ⟨B, 3, none⟩ = some (.int .i64 b) ∧ w4.cell? ⟨B, 4, none⟩ = some (.int .i64 r) ∧ w4.cell? ⟨B, 5, none⟩ = some (.int .i64 f) ∧ w4.cell? ⟨B, 6, none⟩ = some (.int .i64 g) ∧ w4.cell? ⟨gb, q1 * 13, none⟩ = some (.int .i64 o1.c) ∧ w4.cell? ⟨gb, q2 * 13, none⟩ = some (.int .i64 o2.c) := And.intro (HMd.out.blk.cell 0 _ rfl) (And.intro (HMd.out.blk.cell 1 _ rfl) (And.intro (HMd.out.blk.cell 2 _ rfl) (And.intro (HMd.out.blk.cell 3 _ rfl) (And.intro (HMd.out.blk.cell 4 _ rfl) (And.intro (HMd.out.blk.cell 5 _ rfl) (And.intro (HMd.out.blk.cell 6 _ rfl) (And.intro (row_cell HMd.out.row HQ1.out rfl (j := 0) (by omega) rfl) (row_cell HMd.out.row HQ2.out rfl (j := 0) (by omega) rfl)))))))); clear hb4) | (go_at_call 31; (with_reducible refine (HO2.out _).mono ?_); rintro rr w4 ⟨rfl, hb4⟩; have HMd := Lib.hid (HMd.out.below hb4); have HEd := Lib.hid (HEd.out.below hb4); have hS : w4.cell? ⟨B, 0, none⟩ = some (.int .i64 p) ∧ w4.cell? ⟨B, 1, none⟩ = some (.int .i64 c) ∧ w4.cell? ⟨B, 2, none⟩ = some (.int .i64 n) ∧ w4.cell? ⟨B, 3, none⟩ = some (.int .i64 b) ∧ w4.cell? ⟨B, 4, none⟩ = some (.int .i64 r) ∧ w4.cell? ⟨B, 5, none⟩ = some (.int .i64 f) ∧ w4.cell? ⟨B, 6, none⟩ = some (.int .i64 g) ∧ w4.cell? ⟨gb, q1 * 13, none⟩ = some (.int .i64 o1.c) ∧ w4.cell? ⟨gb, q2 * 13, none⟩ = some (.int .i64 o2.c) := And.intro (HMd.out.blk.cell 0 _ rfl) (And.intro (HMd.out.blk.cell 1 _ rfl) (And.intro (HMd.out.blk.cell 2 _ rfl) (And.intro (HMd.out.blk.cell 3 _ rfl) (And.intro (HMd.out.blk.cell 4 _ rfl) (And.intro (HMd.out.blk.cell 5 _ rfl) (And.intro (HMd.out.blk.cell 6 _ rfl) (And.intro (row_cell HMd.out.row HQ1.out rfl (j := 0) (by omega) rfl) (row_cell HMd.out.row HQ2.out rfl (j := 0) (by omega) rfl)))))))); clear hb4) | fail)
                    all_goals ((apply meet_of); (focus (assumption)); (go_meet; exact ⟨rfl, HMd, HEd⟩))
                  case rest =>
                    obtain ⟨rfl, HM4, HE4⟩ := hcut
                    clear hS HMd HEd
                    go_wp2_with fail
                    refine (HS1.out _ HM4.out).mono ?_
                    rintro rr w5 ⟨rfl, hb5⟩
                    have HM5 := Lib.hid (HM4.out.below hb5)
                    have HE5 := Lib.hid (HE4.out.below hb5)
                    clear hb5
                    go_wp2_with fail
                    refine (HS2.out _ HM5.out).mono ?_
                    rintro rr w6 ⟨rfl, hb5⟩
                    have HM6 := Lib.hid (HM5.out.below hb5)
                    have HE6 := Lib.hid (HE5.out.below hb5)
                    clear hb5
                    have c10 := row_cell HM6.out.row HQ2.out rfl (j := 10) (by omega) rfl
                    rw [ha] at c10
                    go_wp2_with fail
                    have HMd := Lib.hid (HM6.out.below (Below.drew (Below.refl _ _)))
                    have HEd := Lib.hid (HE6.out.below (Below.drew (Below.refl _ _)))
                    have hS : w6.drew.cell? ⟨gb, q1 * 13 + 2, none⟩ = some (.int .i64 o1.n) ∧ w6.drew.cell? ⟨gb, q1 * 13 + 3, none⟩ = some (.int .i64 o1.s) ∧ w6.drew.cell? ⟨gb, q1 * 13 + 4, none⟩ = some (.int .i64 o1.p) ∧ w6.drew.cell? ⟨gb, q1 * 13 + 5, none⟩ = some (.int .i64 o1.l) ∧ w6.drew.cell? ⟨gb, q1 * 13 + 6, none⟩ = some (.int .i64 o1.u) ∧ w6.drew.cell? ⟨gb, q2 * 13 + 2, none⟩ = some (.int .i64 o2.n) ∧ w6.drew.cell? ⟨gb, q2 * 13 + 3, none⟩ = some (.int .i64 o2.s) ∧ w6.drew.cell? ⟨gb, q2 * 13 + 4, none⟩ = some (.int .i64 o2.p) ∧ w6.drew.cell? ⟨gb, q2 * 13 + 5, none⟩ = some (.int .i64 o2.l) ∧ w6.drew.cell? ⟨gb, q2 * 13 + 6, none⟩ = some (.int .i64 o2.u) ∧ w6.drew.cell? ⟨gb, q1 * 13 + 8, none⟩ = some (.int .i64 o1.lf) ∧ w6.drew.cell? ⟨gb, q2 * 13 + 8, none⟩ = some (.int .i64 o2.lf) := And.intro (row_cell HMd.out.row HQ1.out rfl (j := 2) (by omega) rfl) (And.intro (row_cell HMd.out.row HQ1.out rfl (j := 3) (by omega) rfl) (And.intro (row_cell HMd.out.row HQ1.out rfl (j := 4) (by omega) rfl) (And.intro (row_cell HMd.out.row HQ1.out rfl (j := 5) (by omega) rfl) (And.intro (row_cell HMd.out.row HQ1.out rfl (j := 6) (by omega) rfl) (And.intro (row_cell HMd.out.row HQ2.out rfl (j := 2) (by omega) rfl) (And.intro (row_cell HMd.out.row HQ2.out rfl (j := 3) (by omega) rfl) (And.intro (row_cell HMd.out.row HQ2.out rfl (j := 4) (by omega) rfl) (And.intro (row_cell HMd.out.row HQ2.out rfl (j := 5) (by omega) rfl) (And.intro (row_cell HMd.out.row HQ2.out rfl (j := 6) (by omega) rfl) (And.intro (row_cell HMd.out.row HQ1.out rfl (j := 8) (by omega) rfl) (row_cell HMd.out.row HQ2.out rfl (j := 8) (by omega) rfl)))))))))))
                    have hba := (Below.refl w6.heap.size w6).alloc (Nat.le_refl _) (Obj.cells #[.int .i64 0, .int .i64 0] 86)
                    have HMz := Lib.hid ((HM6.out.below hba).below (Below.drew (Below.refl _ _)))
                    have HEz := Lib.hid ((HE6.out.below hba).below (Below.drew (Below.refl _ _)))
                    have hSz : (w6.alloc (Obj.cells #[.int .i64 0, .int .i64 0] 86)).drew.cell? ⟨gb, q1 * 13 + 2, none⟩ = some (.int .i64 o1.n) ∧ (w6.alloc (Obj.cells #[.int .i64 0, .int .i64 0] 86)).drew.cell? ⟨gb, q1 * 13 + 3, none⟩ = some (.int .i64 o1.s) ∧ (w6.alloc (Obj.cells #[.int .i64 0, .int .i64 0] 86)).drew.cell? ⟨gb, q1 * 13 + 4, none⟩ = some (.int .i64 o1.p) ∧ (w6.alloc (Obj.cells #[.int .i64 0, .int .i64 0] 86)).drew.cell? ⟨gb, q1 * 13 + 5, none⟩ = some (.int .i64 o1.l) ∧ (w6.alloc (Obj.cells #[.int .i64 0, .int .i64 0] 86)).drew.cell? ⟨gb, q1 * 13 + 6, none⟩ = some (.int .i64 o1.u) ∧ (w6.alloc (Obj.cells #[.int .i64 0, .int .i64 0] 86)).drew.cell? ⟨gb, q2 * 13 + 2, none⟩ = some (.int .i64 o2.n) ∧ (w6.alloc (Obj.cells #[.int .i64 0, .int .i64 0] 86)).drew.cell? ⟨gb, q2 * 13 + 3, none⟩ = some (.int .i64 o2.s) ∧ (w6.alloc (Obj.cells #[.int .i64 0, .int .i64 0] 86)).drew.cell? ⟨gb, q2 * 13 + 4, none⟩ = some (.int .i64 o2.p) ∧ (w6.alloc (Obj.cells #[.int .i64 0, .int .i64 0] 86)).drew.cell? ⟨gb, q2 * 13 + 5, none⟩ = some (.int .i64 o2.l) ∧ (w6.alloc (Obj.cells #[.int .i64 0, .int .i64 0] 86)).drew.cell? ⟨gb, q2 * 13 + 6, none⟩ = some (.int .i64 o2.u) ∧ (w6.alloc (Obj.cells #[.int .i64 0, .int .i64 0] 86)).drew.cell? ⟨gb, q1 * 13 + 8, none⟩ = some (.int .i64 o1.lf) ∧ (w6.alloc (Obj.cells #[.int .i64 0, .int .i64 0] 86)).drew.cell? ⟨gb, q2 * 13 + 8, none⟩ = some (.int .i64 o2.lf) := And.intro (row_cell HMz.out.row HQ1.out rfl (j := 2) (by omega) rfl) (And.intro (row_cell HMz.out.row HQ1.out rfl (j := 3) (by omega) rfl) (And.intro (row_cell HMz.out.row HQ1.out rfl (j := 4) (by omega) rfl) (And.intro (row_cell HMz.out.row HQ1.out rfl (j := 5) (by omega) rfl) (And.intro (row_cell HMz.out.row HQ1.out rfl (j := 6) (by omega) rfl) (And.intro (row_cell HMz.out.row HQ2.out rfl (j := 2) (by omega) rfl) (And.intro (row_cell HMz.out.row HQ2.out rfl (j := 3) (by omega) rfl) (And.intro (row_cell HMz.out.row HQ2.out rfl (j := 4) (by omega) rfl) (And.intro (row_cell HMz.out.row HQ2.out rfl (j := 5) (by omega) rfl) (And.intro (row_cell HMz.out.row HQ2.out rfl (j := 6) (by omega) rfl) (And.intro (row_cell HMz.out.row HQ1.out rfl (j := 8) (by omega) rfl) (row_cell HMz.out.row HQ2.out rfl (j := 8) (by omega) rfl)))))))))))
                    have bFz : Bl w6.heap.size [.int .i64 0, .int .i64 0] (w6.alloc (Obj.cells #[.int .i64 0, .int .i64 0] 86)).drew := (Bl.new w6 [.int .i64 0, .int .i64 0] 86).below (Below.drew (Below.refl _ _))
                    have hltz : gb < w6.heap.size := (HM6.out.row.lt gb rfl).2
                    have hKz : K ≤ w6.heap.size := HM6.out.hK
                    have hlez := HE6.out.lt
                    have hXz : ∀ (k : Nat) (o : Option Obj), Fx k o → k ≠ w6.heap.size := fun k o hk => by have := (HM6.out.fx k o hk).2.2.2; omega
                    clear hba
                    go_cut [8] (fun x wx => ∃ F, x = .pointer (some ⟨F, 0, none⟩) ∧ gb < F ∧ K ≤ F ∧ Hid (MS Fx w wx B K p c n b r f g (.slice (some ⟨gb, 0, none⟩) os.length cp) os now) ∧ Hid (Bl wr.heap.size [.int .i64 e.k, .int .i64 e.c, .int .i64 e.g, .int .i64 e.o, .int .i64 e.w, .int .i64 e.n, .int .i64 e.s, .int .i64 e.p, .int .i64 e.l, .int .i64 e.u, .int .i64 e.q, .int .i64 e.pr, .int .i64 e.t, .int .i64 e.en] wx) ∧ Hid (Bl F [.int .i64 e.q, .int .i64 e.pr] wx))
                    case first =>
                      go_region_held3 (fun w' => w'.cell? ⟨gb, q1 * 13 + 2, none⟩ = some (.int .i64 o1.n) ∧ w'.cell? ⟨gb, q1 * 13 + 3, none⟩ = some (.int .i64 o1.s) ∧ w'.cell? ⟨gb, q1 * 13 + 4, none⟩ = some (.int .i64 o1.p) ∧ w'.cell? ⟨gb, q1 * 13 + 5, none⟩ = some (.int .i64 o1.l) ∧ w'.cell? ⟨gb, q1 * 13 + 6, none⟩ = some (.int .i64 o1.u) ∧ w'.cell? ⟨gb, q2 * 13 + 2, none⟩ = some (.int .i64 o2.n) ∧ w'.cell? ⟨gb, q2 * 13 + 3, none⟩ = some (.int .i64 o2.s) ∧ w'.cell? ⟨gb, q2 * 13 + 4, none⟩ = some (.int .i64 o2.p) ∧ w'.cell? ⟨gb, q2 * 13 + 5, none⟩ = some (.int .i64 o2.l) ∧ w'.cell? ⟨gb, q2 * 13 + 6, none⟩ = some (.int .i64 o2.u) ∧ w'.cell? ⟨gb, q1 * 13 + 8, none⟩ = some (.int .i64 o1.lf) ∧ w'.cell? ⟨gb, q2 * 13 + 8, none⟩ = some (.int .i64 o2.lf)) (first | with_reducible exact hS | with_reducible exact hSz | with_reducible exact hSa | with_reducible exact hSk | fail) (first | (go_at_call 36; (with_reducible refine (HMT.out _).mono ?_); rintro rr w7 ⟨rfl, hb7⟩; have HM7 := Lib.hid (HMd.out.below hb7); have HE7 := Lib.hid (HEd.out.below hb7); have hS : w7.cell? ⟨gb, q1 * 13 + 2, none⟩ = some (.int .i64 o1.n) ∧ w7.cell? ⟨gb, q1 * 13 + 3, none⟩ = some (.int .i64 o1.s) ∧ w7.cell? ⟨gb, q1 * 13 + 4, none⟩ = some (.int .i64 o1.p) ∧ w7.cell? ⟨gb, q1 * 13 + 5, none⟩ = some (.int .i64 o1.l) ∧ w7.cell? ⟨gb, q1 * 13 + 6, none⟩ = some (.int .i64 o1.u) ∧ w7.cell? ⟨gb, q2 * 13 + 2, none⟩ = some (.int .i64 o2.n) ∧ w7.cell? ⟨gb, q2 * 13 + 3, none⟩ = some (.int .i64 o2.s) ∧ w7.cell? ⟨gb, q2 * 13 + 4, none⟩ = some (.int .i64 o2.p) ∧ w7.cell? ⟨gb, q2 * 13 + 5, none⟩ = some (.int .i64 o2.l) ∧ w7.cell? ⟨gb, q2 * 13 + 6, none⟩ = some (.int .i64 o2.u) ∧ w7.cell? ⟨gb, q1 * 13 + 8, none⟩ = some (.int .i64 o1.lf) ∧ w7.cell? ⟨gb, q2 * 13 + 8, none⟩ = some (.int .i64 o2.lf) := And.intro (row_cell HM7.out.row HQ1.out rfl (j := 2) (by omega) rfl) (And.intro (row_cell HM7.out.row HQ1.out rfl (j := 3) (by omega) rfl) (And.intro (row_cell HM7.out.row HQ1.out rfl (j := 4) (by omega) rfl) (And.intro (row_cell HM7.out.row HQ1.out rfl (j := 5) (by omega) rfl) (And.intro (row_cell HM7.out.row HQ1.out rfl (j := 6) (by omega) rfl) (And.intro (row_cell HM7.out.row HQ2.out rfl (j := 2) (by omega) rfl) (And.intro (row_cell HM7.out.row HQ2.out rfl (j := 3) (by omega) rfl) (And.intro (row_cell HM7.out.row HQ2.out rfl (j := 4) (by omega) rfl) (And.intro (row_cell HM7.out.row HQ2.out rfl (j := 5) (by omega) rfl) (And.intro (row_cell HM7.out.row HQ2.out rfl (j := 6) (by omega) rfl) (And.intro (row_cell HM7.out.row HQ1.out rfl (j := 8) (by omega) rfl) (row_cell HM7.out.row HQ2.out rfl (j := 8) (by omega) rfl))))))))))); have hba := (Below.refl w7.heap.size w7).alloc (Nat.le_refl _) (Obj.cells #[.int .i64 0, .int .i64 0] 86); have HM8 := Lib.hid (HM7.out.below hba); have hSa : (w7.alloc (Obj.cells #[.int .i64 0, .int .i64 0] 86)).cell? ⟨gb, q1 * 13 + 2, none⟩ = some (.int .i64 o1.n) ∧ (w7.alloc (Obj.cells #[.int .i64 0, .int .i64 0] 86)).cell? ⟨gb, q1 * 13 + 3, none⟩ = some (.int .i64 o1.s) ∧ (w7.alloc (Obj.cells #[.int .i64 0, .int .i64 0] 86)).cell? ⟨gb, q1 * 13 + 4, none⟩ = some (.int .i64 o1.p) ∧ (w7.alloc (Obj.cells #[.int .i64 0, .int .i64 0] 86)).cell? ⟨gb, q1 * 13 + 5, none⟩ = some (.int .i64 o1.l) ∧ (w7.alloc (Obj.cells #[.int .i64 0, .int .i64 0] 86)).cell? ⟨gb, q1 * 13 + 6, none⟩ = some (.int .i64 o1.u) ∧ (w7.alloc (Obj.cells #[.int .i64 0, .int .i64 0] 86)).cell? ⟨gb, q2 * 13 + 2, none⟩ = some (.int .i64 o2.n) ∧ (w7.alloc (Obj.cells #[.int .i64 0, .int .i64 0] 86)).cell? ⟨gb, q2 * 13 + 3, none⟩ = some (.int .i64 o2.s) ∧ (w7.alloc (Obj.cells #[.int .i64 0, .int .i64 0] 86)).cell? ⟨gb, q2 * 13 + 4, none⟩ = some (.int .i64 o2.p) ∧ (w7.alloc (Obj.cells #[.int .i64 0, .int .i64 0] 86)).cell? ⟨gb, q2 * 13 + 5, none⟩ = some (.int .i64 o2.l) ∧ (w7.alloc (Obj.cells #[.int .i64 0, .int .i64 0] 86)).cell? ⟨gb, q2 * 13 + 6, none⟩ = some (.int .i64 o2.u) ∧ (w7.alloc (Obj.cells #[.int .i64 0, .int .i64 0] 86)).cell? ⟨gb, q1 * 13 + 8, none⟩ = some (.int .i64 o1.lf) ∧ (w7.alloc (Obj.cells #[.int .i64 0, .int .i64 0] 86)).cell? ⟨gb, q2 * 13 + 8, none⟩ = some (.int .i64 o2.lf) := And.intro (row_cell HM8.out.row HQ1.out rfl (j := 2) (by omega) rfl) (And.intro (row_cell HM8.out.row HQ1.out rfl (j := 3) (by omega) rfl) (And.intro (row_cell HM8.out.row HQ1.out rfl (j := 4) (by omega) rfl) (And.intro (row_cell HM8.out.row HQ1.out rfl (j := 5) (by omega) rfl) (And.intro (row_cell HM8.out.row HQ1.out rfl (j := 6) (by omega) rfl) (And.intro (row_cell HM8.out.row HQ2.out rfl (j := 2) (by omega) rfl) (And.intro (row_cell HM8.out.row HQ2.out rfl (j := 3) (by omega) rfl) (And.intro (row_cell HM8.out.row HQ2.out rfl (j := 4) (by omega) rfl) (And.intro (row_cell HM8.out.row HQ2.out rfl (j := 5) (by omega) rfl) (And.intro (row_cell HM8.out.row HQ2.out rfl (j := 6) (by omega) rfl) (And.intro (row_cell HM8.out.row HQ1.out rfl (j := 8) (by omega) rfl) (row_cell HM8.out.row HQ2.out rfl (j := 8) (by omega) rfl))))))))))); have hbq := (Below.refl w7.heap.size w7).alloc (Nat.le_refl _) (Obj.cells #[.int .i64 e.q, .int .i64 e.pr] 86); have HM9 := Lib.hid (HM7.out.below hbq); have HE9 := Lib.hid (HE7.out.below hbq); have HF9 := Lib.hid (Bl.new w7 [.int .i64 e.q, .int .i64 e.pr] 86); have hlt : gb < w7.heap.size := (HM7.out.row.lt gb rfl).2; have hKF : K ≤ w7.heap.size := HM7.out.hK; have hSk : (w7.alloc (Obj.cells #[.int .i64 e.q, .int .i64 e.pr] 86)).cell? ⟨gb, q1 * 13 + 2, none⟩ = some (.int .i64 o1.n) ∧ (w7.alloc (Obj.cells #[.int .i64 e.q, .int .i64 e.pr] 86)).cell? ⟨gb, q1 * 13 + 3, none⟩ = some (.int .i64 o1.s) ∧ (w7.alloc (Obj.cells #[.int .i64 e.q, .int .i64 e.pr] 86)).cell? ⟨gb, q1 * 13 + 4, none⟩ = some (.int .i64 o1.p) ∧ (w7.alloc (Obj.cells #[.int .i64 e.q, .int .i64 e.pr] 86)).cell? ⟨gb, q1 * 13 + 5, none⟩ = some (.int .i64 o1.l) ∧ (w7.alloc (Obj.cells #[.int .i64 e.q, .int .i64 e.pr] 86)).cell? ⟨gb, q1 * 13 + 6, none⟩ = some (.int .i64 o1.u) ∧ (w7.alloc (Obj.cells #[.int .i64 e.q, .int .i64 e.pr] 86)).cell? ⟨gb, q2 * 13 + 2, none⟩ = some (.int .i64 o2.n) ∧ (w7.alloc (Obj.cells #[.int .i64 e.q, .int .i64 e.pr] 86)).cell? ⟨gb, q2 * 13 + 3, none⟩ = some (.int .i64 o2.s) ∧ (w7.alloc (Obj.cells #[.int .i64 e.q, .int .i64 e.pr] 86)).cell? ⟨gb, q2 * 13 + 4, none⟩ = some (.int .i64 o2.p) ∧ (w7.alloc (Obj.cells #[.int .i64 e.q, .int .i64 e.pr] 86)).cell? ⟨gb, q2 * 13 + 5, none⟩ = some (.int .i64 o2.l) ∧ (w7.alloc (Obj.cells #[.int .i64 e.q, .int .i64 e.pr] 86)).cell? ⟨gb, q2 * 13 + 6, none⟩ = some (.int .i64 o2.u) ∧ (w7.alloc (Obj.cells #[.int .i64 e.q, .int .i64 e.pr] 86)).cell? ⟨gb, q1 * 13 + 8, none⟩ = some (.int .i64 o1.lf) ∧ (w7.alloc (Obj.cells #[.int .i64 e.q, .int .i64 e.pr] 86)).cell? ⟨gb, q2 * 13 + 8, none⟩ = some (.int .i64 o2.lf) := And.intro (row_cell HM9.out.row HQ1.out rfl (j := 2) (by omega) rfl) (And.intro (row_cell HM9.out.row HQ1.out rfl (j := 3) (by omega) rfl) (And.intro (row_cell HM9.out.row HQ1.out rfl (j := 4) (by omega) rfl) (And.intro (row_cell HM9.out.row HQ1.out rfl (j := 5) (by omega) rfl) (And.intro (row_cell HM9.out.row HQ1.out rfl (j := 6) (by omega) rfl) (And.intro (row_cell HM9.out.row HQ2.out rfl (j := 2) (by omega) rfl) (And.intro (row_cell HM9.out.row HQ2.out rfl (j := 3) (by omega) rfl) (And.intro (row_cell HM9.out.row HQ2.out rfl (j := 4) (by omega) rfl) (And.intro (row_cell HM9.out.row HQ2.out rfl (j := 5) (by omega) rfl) (And.intro (row_cell HM9.out.row HQ2.out rfl (j := 6) (by omega) rfl) (And.intro (row_cell HM9.out.row HQ1.out rfl (j := 8) (by omega) rfl) (row_cell HM9.out.row HQ2.out rfl (j := 8) (by omega) rfl))))))))))); clear hb7 hba hbq) | (go_at_call 36; (with_reducible refine (HMT.out _).mono ?_); rintro rr w7 ⟨rfl, hb7⟩; have HM7 := Lib.hid (HMz.out.below hb7); have HE7 := Lib.hid (HEz.out.below hb7); have bF := bFz.below hb7; have hS : w7.cell? ⟨gb, q1 * 13 + 2, none⟩ = some (.int .i64 o1.n) ∧ w7.cell? ⟨gb, q1 * 13 + 3, none⟩ = some (.int .i64 o1.s) ∧ w7.cell? ⟨gb, q1 * 13 + 4, none⟩ = some (.int .i64 o1.p) ∧ w7.cell? ⟨gb, q1 * 13 + 5, none⟩ = some (.int .i64 o1.l) ∧ w7.cell? ⟨gb, q1 * 13 + 6, none⟩ = some (.int .i64 o1.u) ∧ w7.cell? ⟨gb, q2 * 13 + 2, none⟩ = some (.int .i64 o2.n) ∧ w7.cell? ⟨gb, q2 * 13 + 3, none⟩ = some (.int .i64 o2.s) ∧ w7.cell? ⟨gb, q2 * 13 + 4, none⟩ = some (.int .i64 o2.p) ∧ w7.cell? ⟨gb, q2 * 13 + 5, none⟩ = some (.int .i64 o2.l) ∧ w7.cell? ⟨gb, q2 * 13 + 6, none⟩ = some (.int .i64 o2.u) ∧ w7.cell? ⟨gb, q1 * 13 + 8, none⟩ = some (.int .i64 o1.lf) ∧ w7.cell? ⟨gb, q2 * 13 + 8, none⟩ = some (.int .i64 o2.lf) := And.intro (row_cell HM7.out.row HQ1.out rfl (j := 2) (by omega) rfl) (And.intro (row_cell HM7.out.row HQ1.out rfl (j := 3) (by omega) rfl) (And.intro (row_cell HM7.out.row HQ1.out rfl (j := 4) (by omega) rfl) (And.intro (row_cell HM7.out.row HQ1.out rfl (j := 5) (by omega) rfl) (And.intro (row_cell HM7.out.row HQ1.out rfl (j := 6) (by omega) rfl) (And.intro (row_cell HM7.out.row HQ2.out rfl (j := 2) (by omega) rfl) (And.intro (row_cell HM7.out.row HQ2.out rfl (j := 3) (by omega) rfl) (And.intro (row_cell HM7.out.row HQ2.out rfl (j := 4) (by omega) rfl) (And.intro (row_cell HM7.out.row HQ2.out rfl (j := 5) (by omega) rfl) (And.intro (row_cell HM7.out.row HQ2.out rfl (j := 6) (by omega) rfl) (And.intro (row_cell HM7.out.row HQ1.out rfl (j := 8) (by omega) rfl) (row_cell HM7.out.row HQ2.out rfl (j := 8) (by omega) rfl))))))))))); have z0 := bF.cell 0 _ rfl; have z1 := bF.cell 1 _ rfl; have y0 := bF.frz 0; have y1 := bF.frz 1; have hlt := hltz; have HM9 := Lib.hid ((HM7.out.far (j := 0) hKz (by omega) hXz (.int .i64 e.q)).far (j := 1) hKz (by omega) hXz (.int .i64 e.pr)); have HE9 := Lib.hid ((HE7.out.far (p := ⟨w6.heap.size, 0, none⟩) (by show w6.heap.size ≠ _; omega) (.int .i64 e.q)).far (p := ⟨w6.heap.size, 1, none⟩) (by show w6.heap.size ≠ _; omega) (.int .i64 e.pr)); have HF9 := Lib.hid ((bF.set 0 (.int .i64 e.q)).set 1 (.int .i64 e.pr)); have hSk : ((w7.setCell ⟨w6.heap.size, 0, none⟩ (.int .i64 e.q)).setCell ⟨w6.heap.size, 1, none⟩ (.int .i64 e.pr)).cell? ⟨gb, q1 * 13 + 2, none⟩ = some (.int .i64 o1.n) ∧ ((w7.setCell ⟨w6.heap.size, 0, none⟩ (.int .i64 e.q)).setCell ⟨w6.heap.size, 1, none⟩ (.int .i64 e.pr)).cell? ⟨gb, q1 * 13 + 3, none⟩ = some (.int .i64 o1.s) ∧ ((w7.setCell ⟨w6.heap.size, 0, none⟩ (.int .i64 e.q)).setCell ⟨w6.heap.size, 1, none⟩ (.int .i64 e.pr)).cell? ⟨gb, q1 * 13 + 4, none⟩ = some (.int .i64 o1.p) ∧ ((w7.setCell ⟨w6.heap.size, 0, none⟩ (.int .i64 e.q)).setCell ⟨w6.heap.size, 1, none⟩ (.int .i64 e.pr)).cell? ⟨gb, q1 * 13 + 5, none⟩ = some (.int .i64 o1.l) ∧ ((w7.setCell ⟨w6.heap.size, 0, none⟩ (.int .i64 e.q)).setCell ⟨w6.heap.size, 1, none⟩ (.int .i64 e.pr)).cell? ⟨gb, q1 * 13 + 6, none⟩ = some (.int .i64 o1.u) ∧ ((w7.setCell ⟨w6.heap.size, 0, none⟩ (.int .i64 e.q)).setCell ⟨w6.heap.size, 1, none⟩ (.int .i64 e.pr)).cell? ⟨gb, q2 * 13 + 2, none⟩ = some (.int .i64 o2.n) ∧ ((w7.setCell ⟨w6.heap.size, 0, none⟩ (.int .i64 e.q)).setCell ⟨w6.heap.size, 1, none⟩ (.int .i64 e.pr)).cell? ⟨gb, q2 * 13 + 3, none⟩ = some (.int .i64 o2.s) ∧ ((w7.setCell ⟨w6.heap.size, 0, none⟩ (.int .i64 e.q)).setCell ⟨w6.heap.size, 1, none⟩ (.int .i64 e.pr)).cell? ⟨gb, q2 * 13 + 4, none⟩ = some (.int .i64 o2.p) ∧ ((w7.setCell ⟨w6.heap.size, 0, none⟩ (.int .i64 e.q)).setCell ⟨w6.heap.size, 1, none⟩ (.int .i64 e.pr)).cell? ⟨gb, q2 * 13 + 5, none⟩ = some (.int .i64 o2.l) ∧ ((w7.setCell ⟨w6.heap.size, 0, none⟩ (.int .i64 e.q)).setCell ⟨w6.heap.size, 1, none⟩ (.int .i64 e.pr)).cell? ⟨gb, q2 * 13 + 6, none⟩ = some (.int .i64 o2.u) ∧ ((w7.setCell ⟨w6.heap.size, 0, none⟩ (.int .i64 e.q)).setCell ⟨w6.heap.size, 1, none⟩ (.int .i64 e.pr)).cell? ⟨gb, q1 * 13 + 8, none⟩ = some (.int .i64 o1.lf) ∧ ((w7.setCell ⟨w6.heap.size, 0, none⟩ (.int .i64 e.q)).setCell ⟨w6.heap.size, 1, none⟩ (.int .i64 e.pr)).cell? ⟨gb, q2 * 13 + 8, none⟩ = some (.int .i64 o2.lf) := And.intro (row_cell HM9.out.row HQ1.out rfl (j := 2) (by omega) rfl) (And.intro (row_cell HM9.out.row HQ1.out rfl (j := 3) (by omega) rfl) (And.intro (row_cell HM9.out.row HQ1.out rfl (j := 4) (by omega) rfl) (And.intro (row_cell HM9.out.row HQ1.out rfl (j := 5) (by omega) rfl) (And.intro (row_cell HM9.out.row HQ1.out rfl (j := 6) (by omega) rfl) (And.intro (row_cell HM9.out.row HQ2.out rfl (j := 2) (by omega) rfl) (And.intro (row_cell HM9.out.row HQ2.out rfl (j := 3) (by omega) rfl) (And.intro (row_cell HM9.out.row HQ2.out rfl (j := 4) (by omega) rfl) (And.intro (row_cell HM9.out.row HQ2.out rfl (j := 5) (by omega) rfl) (And.intro (row_cell HM9.out.row HQ2.out rfl (j := 6) (by omega) rfl) (And.intro (row_cell HM9.out.row HQ1.out rfl (j := 8) (by omega) rfl) (row_cell HM9.out.row HQ2.out rfl (j := 8) (by omega) rfl))))))))))); clear hb7) | fail)
                      all_goals ((apply meet_of); (focus (assumption)); (go_meet; exact ⟨_, rfl, hlt, (by first | exact hKF | exact hKz), HM9, HE9, HF9⟩))
                    case rest =>
                      obtain ⟨F, rfl, hgF, hKF, HM9, HE9, HF9⟩ := hcut
                      clear hS hSz HMz HEz bFz HMd HEd hlez hKz hltz hXz
                      have g0 := HF9.out.cell 0 _ rfl
                      have g1 := HF9.out.cell 1 _ rfl
                      have x10 := HE9.out.cell 10 _ rfl
                      have x11 := HE9.out.cell 11 _ rfl
                      have hbP := (Below.refl wc.heap.size wc).alloc (Nat.le_refl _) (Obj.cells (List.toArray [.pointer (some ⟨gb, q1 * 13, none⟩), .pointer (some ⟨gb, q2 * 13, none⟩)]) 81)
                      have HMp := Lib.hid (HM9.out.below hbP)
                      have HFp := Lib.hid (HF9.out.below hbP)
                      have HPp := Lib.hid (Bl.new wc [.pointer (some ⟨gb, q1 * 13, none⟩), .pointer (some ⟨gb, q2 * 13, none⟩)] 81)
                      have hgP : gb < wc.heap.size := (HM9.out.row.lt gb rfl).2
                      clear hbP
                      go_wp2_with fail
                      clear g0 g1 x10 x11
                      go_loopw [106] (fun i wy => ∃ k : Nat, k ≤ 2 ∧ i = .int .i64 (k : Int) ∧ Hid (MS Fx w wy B K p c n b r f g (.slice (some ⟨gb, 0, none⟩) os.length cp) (twoS os q1 q2 { o1 with lf := o1.lf - e.q, fl := o1.fl + 1 } { o2 with lf := o2.lf - e.q, fl := o2.fl + 1 } k) now) ∧ Hid (Bl F [.int .i64 e.q, .int .i64 e.pr] wy) ∧ Hid (Bl wc.heap.size [.pointer (some ⟨gb, q1 * 13, none⟩), .pointer (some ⟨gb, q2 * 13, none⟩)] wy)) (fun i _ => 3 - (intOf i).toNat)
                      case atStart => exact ⟨0, by omega, rfl, HMp, HFp, HPp⟩
                      case round =>
                        clear HMp HFp HPp
                        obtain ⟨k, hk2, rfl, HMk, HFk, HPk⟩ := hrel
                        have l1 : o1.lf ≤ 9999 := HK2.out.1.lf1
                        have l2 : o2.lf ≤ 9999 := HK2.out.2.lf1
                        have n1 : 0 ≤ o1.fl := HK2.out.1.fl0
                        have n2 : 0 ≤ o2.fl := HK2.out.2.fl0
                        have W1 : IntKind.i64.wrap (o1.lf - e.q) = o1.lf - e.q := IntWalk.i64_in _ (by omega)
                        have W2 : IntKind.i64.wrap (o2.lf - e.q) = o2.lf - e.q := IntWalk.i64_in _ (by omega)
                        rcases (show k = 0 ∨ k = 1 ∨ k = 2 by omega) with rfl | rfl | rfl
                        · have HMa : Hid (MS Fx w wr B K p c n b r f g (.slice (some ⟨gb, 0, none⟩) os.length cp) (os) now) := HMk
                          have p0 := HPk.out.cell 0 _ rfl
                          have g0 := HFk.out.cell 0 _ rfl
                          have c8 := row_cell2 (o := o1) HMa.out.row rfl HQ1.out (j := 8) (by omega) rfl
                          have c9 := row_cell2 (o := o1) HMa.out.row rfl HQ1.out (j := 9) (by omega) rfl
                          have z8 := row_frz2 HMa.out.row rfl (q1 * 13 + 8)
                          have z9 := row_frz2 HMa.out.row rfl (q1 * 13 + 9)
                          have hgl : gb < wr.heap.size := (HPk.out.lt |> Nat.lt_trans hgP)
                          have hdr := Below.drew (Below.refl wr.heap.size wr)
                          have HN8 : Hid (MS Fx w (wr.drew.setCell ⟨gb, q1 * 13 + 8, none⟩ (.int .i64 (o1.lf - e.q))) B K p c n b r f g (.slice (some ⟨gb, 0, none⟩) os.length cp) ((os).set q1 { o1 with lf := o1.lf - e.q }) now) := (HMa.out.below hdr).setOrd2 (o := o1) (o' := { o1 with lf := o1.lf - e.q }) rfl HQ1.out (j := 8) (by omega) rfl
                          have hq8 : ((os).set q1 { o1 with lf := o1.lf - e.q })[q1]? = some { o1 with lf := o1.lf - e.q } := get_set_eq (b := o1) HQ1.out
                          have HN9 : Hid (MS Fx w ((wr.drew.setCell ⟨gb, q1 * 13 + 8, none⟩ (.int .i64 (o1.lf - e.q))).setCell ⟨gb, q1 * 13 + 9, none⟩ (.int .i64 (o1.fl + 1))) B K p c n b r f g (.slice (some ⟨gb, 0, none⟩) os.length cp) (((os).set q1 { o1 with lf := o1.lf - e.q }).set q1 { o1 with lf := o1.lf - e.q, fl := o1.fl + 1 }) now) := HN8.out.setOrd2 (o' := { o1 with lf := o1.lf - e.q, fl := o1.fl + 1 }) (by simp) hq8 (j := 9) (by omega) rfl
                          have HFn : Hid (Bl F [.int .i64 e.q, .int .i64 e.pr] ((wr.drew.setCell ⟨gb, q1 * 13 + 8, none⟩ (.int .i64 (o1.lf - e.q))).setCell ⟨gb, q1 * 13 + 9, none⟩ (.int .i64 (o1.fl + 1)))) := ((HFk.out.below hdr).far (p := ⟨gb, q1 * 13 + 8, none⟩) (Nat.ne_of_lt hgF) _).far (p := ⟨gb, q1 * 13 + 9, none⟩) (Nat.ne_of_lt hgF) _
                          have HPn : Hid (Bl wc.heap.size [.pointer (some ⟨gb, q1 * 13, none⟩), .pointer (some ⟨gb, q2 * 13, none⟩)] ((wr.drew.setCell ⟨gb, q1 * 13 + 8, none⟩ (.int .i64 (o1.lf - e.q))).setCell ⟨gb, q1 * 13 + 9, none⟩ (.int .i64 (o1.fl + 1)))) := ((HPk.out.below hdr).far (p := ⟨gb, q1 * 13 + 8, none⟩) (Nat.ne_of_lt hgP) _).far (p := ⟨gb, q1 * 13 + 9, none⟩) (Nat.ne_of_lt hgP) _
                          clear hdr hq8
                          go_wp2_with fail
                          go_region
                          all_goals (go_wp2_with fail)
                          all_goals go_roundw
                          all_goals first | (refine ⟨1, by omega, by go_num, ?_, HFn, HPn⟩; (have h9 := HN9; rw [List.set_set] at h9; exact h9)) | (simp [intOf])
                        · have HMa : Hid (MS Fx w wr B K p c n b r f g (.slice (some ⟨gb, 0, none⟩) os.length cp) (os.set q1 { o1 with lf := o1.lf - e.q, fl := o1.fl + 1 }) now) := HMk
                          have p0 := HPk.out.cell 1 _ rfl
                          have g0 := HFk.out.cell 0 _ rfl
                          have c8 := row_cell2 (o := o2) HMa.out.row (by simp) (by rw [get_set_ne hqq]; exact HQ2.out) (j := 8) (by omega) rfl
                          have c9 := row_cell2 (o := o2) HMa.out.row (by simp) (by rw [get_set_ne hqq]; exact HQ2.out) (j := 9) (by omega) rfl
                          have z8 := row_frz2 HMa.out.row (by simp) (q2 * 13 + 8)
                          have z9 := row_frz2 HMa.out.row (by simp) (q2 * 13 + 9)
                          have hgl : gb < wr.heap.size := (HPk.out.lt |> Nat.lt_trans hgP)
                          have hdr := Below.drew (Below.refl wr.heap.size wr)
                          have HN8 : Hid (MS Fx w (wr.drew.setCell ⟨gb, q2 * 13 + 8, none⟩ (.int .i64 (o2.lf - e.q))) B K p c n b r f g (.slice (some ⟨gb, 0, none⟩) os.length cp) ((os.set q1 { o1 with lf := o1.lf - e.q, fl := o1.fl + 1 }).set q2 { o2 with lf := o2.lf - e.q }) now) := (HMa.out.below hdr).setOrd2 (o := o2) (o' := { o2 with lf := o2.lf - e.q }) (by simp) (by rw [get_set_ne hqq]; exact HQ2.out) (j := 8) (by omega) rfl
                          have hq8 : ((os.set q1 { o1 with lf := o1.lf - e.q, fl := o1.fl + 1 }).set q2 { o2 with lf := o2.lf - e.q })[q2]? = some { o2 with lf := o2.lf - e.q } := get_set_eq (b := o2) (by rw [get_set_ne hqq]; exact HQ2.out)
                          have HN9 : Hid (MS Fx w ((wr.drew.setCell ⟨gb, q2 * 13 + 8, none⟩ (.int .i64 (o2.lf - e.q))).setCell ⟨gb, q2 * 13 + 9, none⟩ (.int .i64 (o2.fl + 1))) B K p c n b r f g (.slice (some ⟨gb, 0, none⟩) os.length cp) (((os.set q1 { o1 with lf := o1.lf - e.q, fl := o1.fl + 1 }).set q2 { o2 with lf := o2.lf - e.q }).set q2 { o2 with lf := o2.lf - e.q, fl := o2.fl + 1 }) now) := HN8.out.setOrd2 (o' := { o2 with lf := o2.lf - e.q, fl := o2.fl + 1 }) (by simp) hq8 (j := 9) (by omega) rfl
                          have HFn : Hid (Bl F [.int .i64 e.q, .int .i64 e.pr] ((wr.drew.setCell ⟨gb, q2 * 13 + 8, none⟩ (.int .i64 (o2.lf - e.q))).setCell ⟨gb, q2 * 13 + 9, none⟩ (.int .i64 (o2.fl + 1)))) := ((HFk.out.below hdr).far (p := ⟨gb, q2 * 13 + 8, none⟩) (Nat.ne_of_lt hgF) _).far (p := ⟨gb, q2 * 13 + 9, none⟩) (Nat.ne_of_lt hgF) _
                          have HPn : Hid (Bl wc.heap.size [.pointer (some ⟨gb, q1 * 13, none⟩), .pointer (some ⟨gb, q2 * 13, none⟩)] ((wr.drew.setCell ⟨gb, q2 * 13 + 8, none⟩ (.int .i64 (o2.lf - e.q))).setCell ⟨gb, q2 * 13 + 9, none⟩ (.int .i64 (o2.fl + 1)))) := ((HPk.out.below hdr).far (p := ⟨gb, q2 * 13 + 8, none⟩) (Nat.ne_of_lt hgP) _).far (p := ⟨gb, q2 * 13 + 9, none⟩) (Nat.ne_of_lt hgP) _
                          clear hdr hq8
                          go_wp2_with fail
                          go_region
                          all_goals (go_wp2_with fail)
                          all_goals go_roundw
                          all_goals first | (refine ⟨2, by omega, by go_num, ?_, HFn, HPn⟩; (have h9 := HN9; rw [List.set_set] at h9; exact h9)) | (simp [intOf])
                        · have HMa : Hid (MS Fx w wr B K p c n b r f g (.slice (some ⟨gb, 0, none⟩) os.length cp) ((os.set q1 { o1 with lf := o1.lf - e.q, fl := o1.fl + 1 }).set q2 { o2 with lf := o2.lf - e.q, fl := o2.fl + 1 }) now) := HMk
                          have hq2 : ((os.set q1 { o1 with lf := o1.lf - e.q, fl := o1.fl + 1 }).set q2 { o2 with lf := o2.lf - e.q, fl := o2.fl + 1 })[q2]? = some { o2 with lf := o2.lf - e.q, fl := o2.fl + 1 } := get_set_eq (by rw [get_set_ne hqq]; exact HQ2.out)
                          have hln : ((os.set q1 { o1 with lf := o1.lf - e.q, fl := o1.fl + 1 }).set q2 { o2 with lf := o2.lf - e.q, fl := o2.fl + 1 }).length = os.length := by simp
                          have HS3 := Lib.hid (fun W (hW : MS Fx w W B K p c n b r f g (.slice (some ⟨gb, 0, none⟩) os.length cp) ((os.set q1 { o1 with lf := o1.lf - e.q, fl := o1.fl + 1 }).set q2 { o2 with lf := o2.lf - e.q, fl := o2.fl + 1 }) now) => spent_is Fx w W B K p c n b r f g now gb cp q2 ((os.set q1 { o1 with lf := o1.lf - e.q, fl := o1.fl + 1 }).set q2 { o2 with lf := o2.lf - e.q, fl := o2.fl + 1 }) { o2 with lf := o2.lf - e.q, fl := o2.fl + 1 } (by rw [hln]; exact hW) hq2)
                          have HQ3 := Lib.hid hq2
                          generalize hx : spent f { o2 with lf := o2.lf - e.q, fl := o2.fl + 1 } = x at *
                          have HX := Lib.hid hx
                          clear hq2 hln hx W1 W2
                          go_wp2_with fail
                          refine (HS3.out _ HMa.out).mono ?_
                          rintro rr w11 ⟨rfl, hb11⟩
                          have HMb := Lib.hid (HMa.out.below hb11)
                          have c12 := row_cell2 HMb.out.row (by simp) HQ3.out (j := 12) (by omega) rfl
                          have z12 := row_frz2 HMb.out.row (by simp) (q2 * 13 + 12)
                          have HN : Hid (MS Fx w (w11.setCell ⟨gb, q2 * 13 + 12, none⟩ (.int .i64 x)) B K p c n b r f g (.slice (some ⟨gb, 0, none⟩) os.length cp) (((os.set q1 { o1 with lf := o1.lf - e.q, fl := o1.fl + 1 }).set q2 { o2 with lf := o2.lf - e.q, fl := o2.fl + 1 }).set q2 { o2 with lf := o2.lf - e.q, fl := o2.fl + 1, en := x }) now) := HMb.out.setOrd2 (o' := { o2 with lf := o2.lf - e.q, fl := o2.fl + 1, en := x }) (by simp) HQ3.out (j := 12) (by omega) rfl
                          go_wp2_with fail
                          go_ret
                          obtain rfl := HX.out
                          have h9 := HN.out
                          rw [List.set_set] at h9
                          exact ⟨rfl, _, h9⟩
                · have hE2 : ∀ W, (Op.equalIn 10000 86 (.agg #[.int .i64 qy, .int .i64 pr]) (.agg #[.int .i64 e.q, .int .i64 e.pr])).run Try.prog W = .ok false W := fun W => by
                    rw [eqFill]
                    congr 1
                    simpa using hqe
                  clear hqe
                  refine ⟨.iface 57 (.int .i64 23), os, ?_, .inl ⟨23, rfl, rfl⟩⟩
                  go_enter Try.func21, Try.ntmps21
                  go_wp2_with fail
                  refine (HL1.out _ HM.out).mono ?_
                  rintro rr w2 ⟨rfl, hb2⟩
                  have HM2 := Lib.hid (HM.out.below hb2)
                  have HE2 := Lib.hid (HE.out.below hb2)
                  have d3 := HE2.out.cell 3 _ rfl
                  have d4 := HE2.out.cell 4 _ rfl
                  go_wp2_with fail
                  refine (HL2.out _ HM2.out).mono ?_
                  rintro rr w3 ⟨rfl, hb3⟩
                  have HM3 := Lib.hid (HM2.out.below hb3)
                  have HE3 := Lib.hid (HE2.out.below hb3)
                  clear d3 d4 hb2 hb3
                  go_wp2_with fail
                  have HMd := Lib.hid (HM3.out.below (Below.drew (Below.refl _ _)))
                  have HEd := Lib.hid (HE3.out.below (Below.drew (Below.refl _ _)))
                  have hS : w3.drew.cell? ⟨B, 0, none⟩ = some (.int .i64 p) ∧ w3.drew.cell? ⟨B, 1, none⟩ = some (.int .i64 c) ∧ w3.drew.cell? ⟨B, 2, none⟩ = some (.int .i64 n) ∧ w3.drew.cell? ⟨B, 3, none⟩ = some (.int .i64 b) ∧ w3.drew.cell? ⟨B, 4, none⟩ = some (.int .i64 r) ∧ w3.drew.cell? ⟨B, 5, none⟩ = some (.int .i64 f) ∧ w3.drew.cell? ⟨B, 6, none⟩ = some (.int .i64 g) ∧ w3.drew.cell? ⟨gb, q1 * 13, none⟩ = some (.int .i64 o1.c) ∧ w3.drew.cell? ⟨gb, q2 * 13, none⟩ = some (.int .i64 o2.c) := And.intro (HMd.out.blk.cell 0 _ rfl) (And.intro (HMd.out.blk.cell 1 _ rfl) (And.intro (HMd.out.blk.cell 2 _ rfl) (And.intro (HMd.out.blk.cell 3 _ rfl) (And.intro (HMd.out.blk.cell 4 _ rfl) (And.intro (HMd.out.blk.cell 5 _ rfl) (And.intro (HMd.out.blk.cell 6 _ rfl) (And.intro (row_cell HMd.out.row HQ1.out rfl (j := 0) (by omega) rfl) (row_cell HMd.out.row HQ2.out rfl (j := 0) (by omega) rfl))))))))
                  go_cut [53] (fun x wx => x = .bool false ∧ Hid (MS Fx w wx B K p c n b r f g (.slice (some ⟨gb, 0, none⟩) os.length cp) os now) ∧ Hid (Bl wr.heap.size [.int .i64 e.k, .int .i64 e.c, .int .i64 e.g, .int .i64 e.o, .int .i64 e.w, .int .i64 e.n, .int .i64 e.s, .int .i64 e.p, .int .i64 e.l, .int .i64 e.u, .int .i64 e.q, .int .i64 e.pr, .int .i64 e.t, .int .i64 e.en] wx))
                  case first =>
                    go_region_held3 (fun w' => w'.cell? ⟨B, 0, none⟩ = some (.int .i64 p) ∧ w'.cell? ⟨B, 1, none⟩ = some (.int .i64 c) ∧ w'.cell? ⟨B, 2, none⟩ = some (.int .i64 n) ∧ w'.cell? ⟨B, 3, none⟩ = some (.int .i64 b) ∧ w'.cell? ⟨B, 4, none⟩ = some (.int .i64 r) ∧ w'.cell? ⟨B, 5, none⟩ = some (.int .i64 f) ∧ w'.cell? ⟨B, 6, none⟩ = some (.int .i64 g) ∧ w'.cell? ⟨gb, q1 * 13, none⟩ = some (.int .i64 o1.c) ∧ w'.cell? ⟨gb, q2 * 13, none⟩ = some (.int .i64 o2.c)) (first | with_reducible exact hS | fail) (first | (go_at_call 31; (with_reducible refine (HO1.out _).mono ?_); rintro rr w4 ⟨rfl, hb4⟩; have HMd := Lib.hid (HMd.out.below hb4); have HEd := Lib.hid (HEd.out.below hb4); have hS : w4.cell? ⟨B, 0, none⟩ = some (.int .i64 p) ∧ w4.cell? ⟨B, 1, none⟩ = some (.int .i64 c) ∧ w4.cell? ⟨B, 2, none⟩ = some (.int .i64 n) ∧ w4.cell? ⟨B, 3, none⟩ = some (.int .i64 b) ∧ w4.cell? ⟨B, 4, none⟩ = some (.int .i64 r) ∧ w4.cell? ⟨B, 5, none⟩ = some (.int .i64 f) ∧ w4.cell? ⟨B, 6, none⟩ = some (.int .i64 g) ∧ w4.cell? ⟨gb, q1 * 13, none⟩ = some (.int .i64 o1.c) ∧ w4.cell? ⟨gb, q2 * 13, none⟩ = some (.int .i64 o2.c) := And.intro (HMd.out.blk.cell 0 _ rfl) (And.intro (HMd.out.blk.cell 1 _ rfl) (And.intro (HMd.out.blk.cell 2 _ rfl) (And.intro (HMd.out.blk.cell 3 _ rfl) (And.intro (HMd.out.blk.cell 4 _ rfl) (And.intro (HMd.out.blk.cell 5 _ rfl) (And.intro (HMd.out.blk.cell 6 _ rfl) (And.intro (row_cell HMd.out.row HQ1.out rfl (j := 0) (by omega) rfl) (row_cell HMd.out.row HQ2.out rfl (j := 0) (by omega) rfl)))))))); clear hb4) | (go_at_call 31; (with_reducible refine (HO2.out _).mono ?_); rintro rr w4 ⟨rfl, hb4⟩; have HMd := Lib.hid (HMd.out.below hb4); have HEd := Lib.hid (HEd.out.below hb4); have hS : w4.cell? ⟨B, 0, none⟩ = some (.int .i64 p) ∧ w4.cell? ⟨B, 1, none⟩ = some (.int .i64 c) ∧ w4.cell? ⟨B, 2, none⟩ = some (.int .i64 n) ∧ w4.cell? ⟨B, 3, none⟩ = some (.int .i64 b) ∧ w4.cell? ⟨B, 4, none⟩ = some (.int .i64 r) ∧ w4.cell? ⟨B, 5, none⟩ = some (.int .i64 f) ∧ w4.cell? ⟨B, 6, none⟩ = some (.int .i64 g) ∧ w4.cell? ⟨gb, q1 * 13, none⟩ = some (.int .i64 o1.c) ∧ w4.cell? ⟨gb, q2 * 13, none⟩ = some (.int .i64 o2.c) := And.intro (HMd.out.blk.cell 0 _ rfl) (And.intro (HMd.out.blk.cell 1 _ rfl) (And.intro (HMd.out.blk.cell 2 _ rfl) (And.intro (HMd.out.blk.cell 3 _ rfl) (And.intro (HMd.out.blk.cell 4 _ rfl) (And.intro (HMd.out.blk.cell 5 _ rfl) (And.intro (HMd.out.blk.cell 6 _ rfl) (And.intro (row_cell HMd.out.row HQ1.out rfl (j := 0) (by omega) rfl) (row_cell HMd.out.row HQ2.out rfl (j := 0) (by omega) rfl)))))))); clear hb4) | fail)
                    all_goals ((apply meet_of); (focus (assumption)); (go_meet; exact ⟨rfl, HMd, HEd⟩))
                  case rest =>
                    obtain ⟨rfl, HM4, HE4⟩ := hcut
                    clear hS HMd HEd
                    go_wp2_with fail
                    refine (HS1.out _ HM4.out).mono ?_
                    rintro rr w5 ⟨rfl, hb5⟩
                    have HM5 := Lib.hid (HM4.out.below hb5)
                    have HE5 := Lib.hid (HE4.out.below hb5)
                    clear hb5
                    go_wp2_with fail
                    refine (HS2.out _ HM5.out).mono ?_
                    rintro rr w6 ⟨rfl, hb5⟩
                    have HM6 := Lib.hid (HM5.out.below hb5)
                    have HE6 := Lib.hid (HE5.out.below hb5)
                    clear hb5
                    have c10 := row_cell HM6.out.row HQ2.out rfl (j := 10) (by omega) rfl
                    rw [ha] at c10
                    go_wp2_with fail
                    have HMd := Lib.hid (HM6.out.below (Below.drew (Below.refl _ _)))
                    have HEd := Lib.hid (HE6.out.below (Below.drew (Below.refl _ _)))
                    have hS : w6.drew.cell? ⟨gb, q1 * 13 + 2, none⟩ = some (.int .i64 o1.n) ∧ w6.drew.cell? ⟨gb, q1 * 13 + 3, none⟩ = some (.int .i64 o1.s) ∧ w6.drew.cell? ⟨gb, q1 * 13 + 4, none⟩ = some (.int .i64 o1.p) ∧ w6.drew.cell? ⟨gb, q1 * 13 + 5, none⟩ = some (.int .i64 o1.l) ∧ w6.drew.cell? ⟨gb, q1 * 13 + 6, none⟩ = some (.int .i64 o1.u) ∧ w6.drew.cell? ⟨gb, q2 * 13 + 2, none⟩ = some (.int .i64 o2.n) ∧ w6.drew.cell? ⟨gb, q2 * 13 + 3, none⟩ = some (.int .i64 o2.s) ∧ w6.drew.cell? ⟨gb, q2 * 13 + 4, none⟩ = some (.int .i64 o2.p) ∧ w6.drew.cell? ⟨gb, q2 * 13 + 5, none⟩ = some (.int .i64 o2.l) ∧ w6.drew.cell? ⟨gb, q2 * 13 + 6, none⟩ = some (.int .i64 o2.u) ∧ w6.drew.cell? ⟨gb, q1 * 13 + 8, none⟩ = some (.int .i64 o1.lf) ∧ w6.drew.cell? ⟨gb, q2 * 13 + 8, none⟩ = some (.int .i64 o2.lf) := And.intro (row_cell HMd.out.row HQ1.out rfl (j := 2) (by omega) rfl) (And.intro (row_cell HMd.out.row HQ1.out rfl (j := 3) (by omega) rfl) (And.intro (row_cell HMd.out.row HQ1.out rfl (j := 4) (by omega) rfl) (And.intro (row_cell HMd.out.row HQ1.out rfl (j := 5) (by omega) rfl) (And.intro (row_cell HMd.out.row HQ1.out rfl (j := 6) (by omega) rfl) (And.intro (row_cell HMd.out.row HQ2.out rfl (j := 2) (by omega) rfl) (And.intro (row_cell HMd.out.row HQ2.out rfl (j := 3) (by omega) rfl) (And.intro (row_cell HMd.out.row HQ2.out rfl (j := 4) (by omega) rfl) (And.intro (row_cell HMd.out.row HQ2.out rfl (j := 5) (by omega) rfl) (And.intro (row_cell HMd.out.row HQ2.out rfl (j := 6) (by omega) rfl) (And.intro (row_cell HMd.out.row HQ1.out rfl (j := 8) (by omega) rfl) (row_cell HMd.out.row HQ2.out rfl (j := 8) (by omega) rfl)))))))))))
                    have hba := (Below.refl w6.heap.size w6).alloc (Nat.le_refl _) (Obj.cells #[.int .i64 0, .int .i64 0] 86)
                    have HMz := Lib.hid ((HM6.out.below hba).below (Below.drew (Below.refl _ _)))
                    have HEz := Lib.hid ((HE6.out.below hba).below (Below.drew (Below.refl _ _)))
                    have hSz : (w6.alloc (Obj.cells #[.int .i64 0, .int .i64 0] 86)).drew.cell? ⟨gb, q1 * 13 + 2, none⟩ = some (.int .i64 o1.n) ∧ (w6.alloc (Obj.cells #[.int .i64 0, .int .i64 0] 86)).drew.cell? ⟨gb, q1 * 13 + 3, none⟩ = some (.int .i64 o1.s) ∧ (w6.alloc (Obj.cells #[.int .i64 0, .int .i64 0] 86)).drew.cell? ⟨gb, q1 * 13 + 4, none⟩ = some (.int .i64 o1.p) ∧ (w6.alloc (Obj.cells #[.int .i64 0, .int .i64 0] 86)).drew.cell? ⟨gb, q1 * 13 + 5, none⟩ = some (.int .i64 o1.l) ∧ (w6.alloc (Obj.cells #[.int .i64 0, .int .i64 0] 86)).drew.cell? ⟨gb, q1 * 13 + 6, none⟩ = some (.int .i64 o1.u) ∧ (w6.alloc (Obj.cells #[.int .i64 0, .int .i64 0] 86)).drew.cell? ⟨gb, q2 * 13 + 2, none⟩ = some (.int .i64 o2.n) ∧ (w6.alloc (Obj.cells #[.int .i64 0, .int .i64 0] 86)).drew.cell? ⟨gb, q2 * 13 + 3, none⟩ = some (.int .i64 o2.s) ∧ (w6.alloc (Obj.cells #[.int .i64 0, .int .i64 0] 86)).drew.cell? ⟨gb, q2 * 13 + 4, none⟩ = some (.int .i64 o2.p) ∧ (w6.alloc (Obj.cells #[.int .i64 0, .int .i64 0] 86)).drew.cell? ⟨gb, q2 * 13 + 5, none⟩ = some (.int .i64 o2.l) ∧ (w6.alloc (Obj.cells #[.int .i64 0, .int .i64 0] 86)).drew.cell? ⟨gb, q2 * 13 + 6, none⟩ = some (.int .i64 o2.u) ∧ (w6.alloc (Obj.cells #[.int .i64 0, .int .i64 0] 86)).drew.cell? ⟨gb, q1 * 13 + 8, none⟩ = some (.int .i64 o1.lf) ∧ (w6.alloc (Obj.cells #[.int .i64 0, .int .i64 0] 86)).drew.cell? ⟨gb, q2 * 13 + 8, none⟩ = some (.int .i64 o2.lf) := And.intro (row_cell HMz.out.row HQ1.out rfl (j := 2) (by omega) rfl) (And.intro (row_cell HMz.out.row HQ1.out rfl (j := 3) (by omega) rfl) (And.intro (row_cell HMz.out.row HQ1.out rfl (j := 4) (by omega) rfl) (And.intro (row_cell HMz.out.row HQ1.out rfl (j := 5) (by omega) rfl) (And.intro (row_cell HMz.out.row HQ1.out rfl (j := 6) (by omega) rfl) (And.intro (row_cell HMz.out.row HQ2.out rfl (j := 2) (by omega) rfl) (And.intro (row_cell HMz.out.row HQ2.out rfl (j := 3) (by omega) rfl) (And.intro (row_cell HMz.out.row HQ2.out rfl (j := 4) (by omega) rfl) (And.intro (row_cell HMz.out.row HQ2.out rfl (j := 5) (by omega) rfl) (And.intro (row_cell HMz.out.row HQ2.out rfl (j := 6) (by omega) rfl) (And.intro (row_cell HMz.out.row HQ1.out rfl (j := 8) (by omega) rfl) (row_cell HMz.out.row HQ2.out rfl (j := 8) (by omega) rfl)))))))))))
                    have bFz : Bl w6.heap.size [.int .i64 0, .int .i64 0] (w6.alloc (Obj.cells #[.int .i64 0, .int .i64 0] 86)).drew := (Bl.new w6 [.int .i64 0, .int .i64 0] 86).below (Below.drew (Below.refl _ _))
                    have hltz : gb < w6.heap.size := (HM6.out.row.lt gb rfl).2
                    have hKz : K ≤ w6.heap.size := HM6.out.hK
                    have hlez := HE6.out.lt
                    have hXz : ∀ (k : Nat) (o : Option Obj), Fx k o → k ≠ w6.heap.size := fun k o hk => by have := (HM6.out.fx k o hk).2.2.2; omega
                    clear hba
                    go_cut [8] (fun x wx => ∃ F, x = .pointer (some ⟨F, 0, none⟩) ∧ gb < F ∧ K ≤ F ∧ Hid (MS Fx w wx B K p c n b r f g (.slice (some ⟨gb, 0, none⟩) os.length cp) os now) ∧ Hid (Bl wr.heap.size [.int .i64 e.k, .int .i64 e.c, .int .i64 e.g, .int .i64 e.o, .int .i64 e.w, .int .i64 e.n, .int .i64 e.s, .int .i64 e.p, .int .i64 e.l, .int .i64 e.u, .int .i64 e.q, .int .i64 e.pr, .int .i64 e.t, .int .i64 e.en] wx) ∧ Hid (Bl F [.int .i64 qy, .int .i64 pr] wx))
                    case first =>
                      go_region_held3 (fun w' => w'.cell? ⟨gb, q1 * 13 + 2, none⟩ = some (.int .i64 o1.n) ∧ w'.cell? ⟨gb, q1 * 13 + 3, none⟩ = some (.int .i64 o1.s) ∧ w'.cell? ⟨gb, q1 * 13 + 4, none⟩ = some (.int .i64 o1.p) ∧ w'.cell? ⟨gb, q1 * 13 + 5, none⟩ = some (.int .i64 o1.l) ∧ w'.cell? ⟨gb, q1 * 13 + 6, none⟩ = some (.int .i64 o1.u) ∧ w'.cell? ⟨gb, q2 * 13 + 2, none⟩ = some (.int .i64 o2.n) ∧ w'.cell? ⟨gb, q2 * 13 + 3, none⟩ = some (.int .i64 o2.s) ∧ w'.cell? ⟨gb, q2 * 13 + 4, none⟩ = some (.int .i64 o2.p) ∧ w'.cell? ⟨gb, q2 * 13 + 5, none⟩ = some (.int .i64 o2.l) ∧ w'.cell? ⟨gb, q2 * 13 + 6, none⟩ = some (.int .i64 o2.u) ∧ w'.cell? ⟨gb, q1 * 13 + 8, none⟩ = some (.int .i64 o1.lf) ∧ w'.cell? ⟨gb, q2 * 13 + 8, none⟩ = some (.int .i64 o2.lf)) (first | with_reducible exact hS | with_reducible exact hSz | with_reducible exact hSa | with_reducible exact hSk | fail) (first | (go_at_call 36; (with_reducible refine (HMT.out _).mono ?_); rintro rr w7 ⟨rfl, hb7⟩; have HM7 := Lib.hid (HMd.out.below hb7); have HE7 := Lib.hid (HEd.out.below hb7); have hS : w7.cell? ⟨gb, q1 * 13 + 2, none⟩ = some (.int .i64 o1.n) ∧ w7.cell? ⟨gb, q1 * 13 + 3, none⟩ = some (.int .i64 o1.s) ∧ w7.cell? ⟨gb, q1 * 13 + 4, none⟩ = some (.int .i64 o1.p) ∧ w7.cell? ⟨gb, q1 * 13 + 5, none⟩ = some (.int .i64 o1.l) ∧ w7.cell? ⟨gb, q1 * 13 + 6, none⟩ = some (.int .i64 o1.u) ∧ w7.cell? ⟨gb, q2 * 13 + 2, none⟩ = some (.int .i64 o2.n) ∧ w7.cell? ⟨gb, q2 * 13 + 3, none⟩ = some (.int .i64 o2.s) ∧ w7.cell? ⟨gb, q2 * 13 + 4, none⟩ = some (.int .i64 o2.p) ∧ w7.cell? ⟨gb, q2 * 13 + 5, none⟩ = some (.int .i64 o2.l) ∧ w7.cell? ⟨gb, q2 * 13 + 6, none⟩ = some (.int .i64 o2.u) ∧ w7.cell? ⟨gb, q1 * 13 + 8, none⟩ = some (.int .i64 o1.lf) ∧ w7.cell? ⟨gb, q2 * 13 + 8, none⟩ = some (.int .i64 o2.lf) := And.intro (row_cell HM7.out.row HQ1.out rfl (j := 2) (by omega) rfl) (And.intro (row_cell HM7.out.row HQ1.out rfl (j := 3) (by omega) rfl) (And.intro (row_cell HM7.out.row HQ1.out rfl (j := 4) (by omega) rfl) (And.intro (row_cell HM7.out.row HQ1.out rfl (j := 5) (by omega) rfl) (And.intro (row_cell HM7.out.row HQ1.out rfl (j := 6) (by omega) rfl) (And.intro (row_cell HM7.out.row HQ2.out rfl (j := 2) (by omega) rfl) (And.intro (row_cell HM7.out.row HQ2.out rfl (j := 3) (by omega) rfl) (And.intro (row_cell HM7.out.row HQ2.out rfl (j := 4) (by omega) rfl) (And.intro (row_cell HM7.out.row HQ2.out rfl (j := 5) (by omega) rfl) (And.intro (row_cell HM7.out.row HQ2.out rfl (j := 6) (by omega) rfl) (And.intro (row_cell HM7.out.row HQ1.out rfl (j := 8) (by omega) rfl) (row_cell HM7.out.row HQ2.out rfl (j := 8) (by omega) rfl))))))))))); have hba := (Below.refl w7.heap.size w7).alloc (Nat.le_refl _) (Obj.cells #[.int .i64 0, .int .i64 0] 86); have HM8 := Lib.hid (HM7.out.below hba); have hSa : (w7.alloc (Obj.cells #[.int .i64 0, .int .i64 0] 86)).cell? ⟨gb, q1 * 13 + 2, none⟩ = some (.int .i64 o1.n) ∧ (w7.alloc (Obj.cells #[.int .i64 0, .int .i64 0] 86)).cell? ⟨gb, q1 * 13 + 3, none⟩ = some (.int .i64 o1.s) ∧ (w7.alloc (Obj.cells #[.int .i64 0, .int .i64 0] 86)).cell? ⟨gb, q1 * 13 + 4, none⟩ = some (.int .i64 o1.p) ∧ (w7.alloc (Obj.cells #[.int .i64 0, .int .i64 0] 86)).cell? ⟨gb, q1 * 13 + 5, none⟩ = some (.int .i64 o1.l) ∧ (w7.alloc (Obj.cells #[.int .i64 0, .int .i64 0] 86)).cell? ⟨gb, q1 * 13 + 6, none⟩ = some (.int .i64 o1.u) ∧ (w7.alloc (Obj.cells #[.int .i64 0, .int .i64 0] 86)).cell? ⟨gb, q2 * 13 + 2, none⟩ = some (.int .i64 o2.n) ∧ (w7.alloc (Obj.cells #[.int .i64 0, .int .i64 0] 86)).cell? ⟨gb, q2 * 13 + 3, none⟩ = some (.int .i64 o2.s) ∧ (w7.alloc (Obj.cells #[.int .i64 0, .int .i64 0] 86)).cell? ⟨gb, q2 * 13 + 4, none⟩ = some (.int .i64 o2.p) ∧ (w7.alloc (Obj.cells #[.int .i64 0, .int .i64 0] 86)).cell? ⟨gb, q2 * 13 + 5, none⟩ = some (.int .i64 o2.l) ∧ (w7.alloc (Obj.cells #[.int .i64 0, .int .i64 0] 86)).cell? ⟨gb, q2 * 13 + 6, none⟩ = some (.int .i64 o2.u) ∧ (w7.alloc (Obj.cells #[.int .i64 0, .int .i64 0] 86)).cell? ⟨gb, q1 * 13 + 8, none⟩ = some (.int .i64 o1.lf) ∧ (w7.alloc (Obj.cells #[.int .i64 0, .int .i64 0] 86)).cell? ⟨gb, q2 * 13 + 8, none⟩ = some (.int .i64 o2.lf) := And.intro (row_cell HM8.out.row HQ1.out rfl (j := 2) (by omega) rfl) (And.intro (row_cell HM8.out.row HQ1.out rfl (j := 3) (by omega) rfl) (And.intro (row_cell HM8.out.row HQ1.out rfl (j := 4) (by omega) rfl) (And.intro (row_cell HM8.out.row HQ1.out rfl (j := 5) (by omega) rfl) (And.intro (row_cell HM8.out.row HQ1.out rfl (j := 6) (by omega) rfl) (And.intro (row_cell HM8.out.row HQ2.out rfl (j := 2) (by omega) rfl) (And.intro (row_cell HM8.out.row HQ2.out rfl (j := 3) (by omega) rfl) (And.intro (row_cell HM8.out.row HQ2.out rfl (j := 4) (by omega) rfl) (And.intro (row_cell HM8.out.row HQ2.out rfl (j := 5) (by omega) rfl) (And.intro (row_cell HM8.out.row HQ2.out rfl (j := 6) (by omega) rfl) (And.intro (row_cell HM8.out.row HQ1.out rfl (j := 8) (by omega) rfl) (row_cell HM8.out.row HQ2.out rfl (j := 8) (by omega) rfl))))))))))); have hbq := (Below.refl w7.heap.size w7).alloc (Nat.le_refl _) (Obj.cells #[.int .i64 qy, .int .i64 pr] 86); have HM9 := Lib.hid (HM7.out.below hbq); have HE9 := Lib.hid (HE7.out.below hbq); have HF9 := Lib.hid (Bl.new w7 [.int .i64 qy, .int .i64 pr] 86); have hlt : gb < w7.heap.size := (HM7.out.row.lt gb rfl).2; have hKF : K ≤ w7.heap.size := HM7.out.hK; have hSk : (w7.alloc (Obj.cells #[.int .i64 qy, .int .i64 pr] 86)).cell? ⟨gb, q1 * 13 + 2, none⟩ = some (.int .i64 o1.n) ∧ (w7.alloc (Obj.cells #[.int .i64 qy, .int .i64 pr] 86)).cell? ⟨gb, q1 * 13 + 3, none⟩ = some (.int .i64 o1.s) ∧ (w7.alloc (Obj.cells #[.int .i64 qy, .int .i64 pr] 86)).cell? ⟨gb, q1 * 13 + 4, none⟩ = some (.int .i64 o1.p) ∧ (w7.alloc (Obj.cells #[.int .i64 qy, .int .i64 pr] 86)).cell? ⟨gb, q1 * 13 + 5, none⟩ = some (.int .i64 o1.l) ∧ (w7.alloc (Obj.cells #[.int .i64 qy, .int .i64 pr] 86)).cell? ⟨gb, q1 * 13 + 6, none⟩ = some (.int .i64 o1.u) ∧ (w7.alloc (Obj.cells #[.int .i64 qy, .int .i64 pr] 86)).cell? ⟨gb, q2 * 13 + 2, none⟩ = some (.int .i64 o2.n) ∧ (w7.alloc (Obj.cells #[.int .i64 qy, .int .i64 pr] 86)).cell? ⟨gb, q2 * 13 + 3, none⟩ = some (.int .i64 o2.s) ∧ (w7.alloc (Obj.cells #[.int .i64 qy, .int .i64 pr] 86)).cell? ⟨gb, q2 * 13 + 4, none⟩ = some (.int .i64 o2.p) ∧ (w7.alloc (Obj.cells #[.int .i64 qy, .int .i64 pr] 86)).cell? ⟨gb, q2 * 13 + 5, none⟩ = some (.int .i64 o2.l) ∧ (w7.alloc (Obj.cells #[.int .i64 qy, .int .i64 pr] 86)).cell? ⟨gb, q2 * 13 + 6, none⟩ = some (.int .i64 o2.u) ∧ (w7.alloc (Obj.cells #[.int .i64 qy, .int .i64 pr] 86)).cell? ⟨gb, q1 * 13 + 8, none⟩ = some (.int .i64 o1.lf) ∧ (w7.alloc (Obj.cells #[.int .i64 qy, .int .i64 pr] 86)).cell? ⟨gb, q2 * 13 + 8, none⟩ = some (.int .i64 o2.lf) := And.intro (row_cell HM9.out.row HQ1.out rfl (j := 2) (by omega) rfl) (And.intro (row_cell HM9.out.row HQ1.out rfl (j := 3) (by omega) rfl) (And.intro (row_cell HM9.out.row HQ1.out rfl (j := 4) (by omega) rfl) (And.intro (row_cell HM9.out.row HQ1.out rfl (j := 5) (by omega) rfl) (And.intro (row_cell HM9.out.row HQ1.out rfl (j := 6) (by omega) rfl) (And.intro (row_cell HM9.out.row HQ2.out rfl (j := 2) (by omega) rfl) (And.intro (row_cell HM9.out.row HQ2.out rfl (j := 3) (by omega) rfl) (And.intro (row_cell HM9.out.row HQ2.out rfl (j := 4) (by omega) rfl) (And.intro (row_cell HM9.out.row HQ2.out rfl (j := 5) (by omega) rfl) (And.intro (row_cell HM9.out.row HQ2.out rfl (j := 6) (by omega) rfl) (And.intro (row_cell HM9.out.row HQ1.out rfl (j := 8) (by omega) rfl) (row_cell HM9.out.row HQ2.out rfl (j := 8) (by omega) rfl))))))))))); clear hb7 hba hbq) | (go_at_call 36; (with_reducible refine (HMT.out _).mono ?_); rintro rr w7 ⟨rfl, hb7⟩; have HM7 := Lib.hid (HMz.out.below hb7); have HE7 := Lib.hid (HEz.out.below hb7); have bF := bFz.below hb7; have hS : w7.cell? ⟨gb, q1 * 13 + 2, none⟩ = some (.int .i64 o1.n) ∧ w7.cell? ⟨gb, q1 * 13 + 3, none⟩ = some (.int .i64 o1.s) ∧ w7.cell? ⟨gb, q1 * 13 + 4, none⟩ = some (.int .i64 o1.p) ∧ w7.cell? ⟨gb, q1 * 13 + 5, none⟩ = some (.int .i64 o1.l) ∧ w7.cell? ⟨gb, q1 * 13 + 6, none⟩ = some (.int .i64 o1.u) ∧ w7.cell? ⟨gb, q2 * 13 + 2, none⟩ = some (.int .i64 o2.n) ∧ w7.cell? ⟨gb, q2 * 13 + 3, none⟩ = some (.int .i64 o2.s) ∧ w7.cell? ⟨gb, q2 * 13 + 4, none⟩ = some (.int .i64 o2.p) ∧ w7.cell? ⟨gb, q2 * 13 + 5, none⟩ = some (.int .i64 o2.l) ∧ w7.cell? ⟨gb, q2 * 13 + 6, none⟩ = some (.int .i64 o2.u) ∧ w7.cell? ⟨gb, q1 * 13 + 8, none⟩ = some (.int .i64 o1.lf) ∧ w7.cell? ⟨gb, q2 * 13 + 8, none⟩ = some (.int .i64 o2.lf) := And.intro (row_cell HM7.out.row HQ1.out rfl (j := 2) (by omega) rfl) (And.intro (row_cell HM7.out.row HQ1.out rfl (j := 3) (by omega) rfl) (And.intro (row_cell HM7.out.row HQ1.out rfl (j := 4) (by omega) rfl) (And.intro (row_cell HM7.out.row HQ1.out rfl (j := 5) (by omega) rfl) (And.intro (row_cell HM7.out.row HQ1.out rfl (j := 6) (by omega) rfl) (And.intro (row_cell HM7.out.row HQ2.out rfl (j := 2) (by omega) rfl) (And.intro (row_cell HM7.out.row HQ2.out rfl (j := 3) (by omega) rfl) (And.intro (row_cell HM7.out.row HQ2.out rfl (j := 4) (by omega) rfl) (And.intro (row_cell HM7.out.row HQ2.out rfl (j := 5) (by omega) rfl) (And.intro (row_cell HM7.out.row HQ2.out rfl (j := 6) (by omega) rfl) (And.intro (row_cell HM7.out.row HQ1.out rfl (j := 8) (by omega) rfl) (row_cell HM7.out.row HQ2.out rfl (j := 8) (by omega) rfl))))))))))); have z0 := bF.cell 0 _ rfl; have z1 := bF.cell 1 _ rfl; have y0 := bF.frz 0; have y1 := bF.frz 1; have hlt := hltz; have HM9 := Lib.hid ((HM7.out.far (j := 0) hKz (by omega) hXz (.int .i64 qy)).far (j := 1) hKz (by omega) hXz (.int .i64 pr)); have HE9 := Lib.hid ((HE7.out.far (p := ⟨w6.heap.size, 0, none⟩) (by show w6.heap.size ≠ _; omega) (.int .i64 qy)).far (p := ⟨w6.heap.size, 1, none⟩) (by show w6.heap.size ≠ _; omega) (.int .i64 pr)); have HF9 := Lib.hid ((bF.set 0 (.int .i64 qy)).set 1 (.int .i64 pr)); have hSk : ((w7.setCell ⟨w6.heap.size, 0, none⟩ (.int .i64 qy)).setCell ⟨w6.heap.size, 1, none⟩ (.int .i64 pr)).cell? ⟨gb, q1 * 13 + 2, none⟩ = some (.int .i64 o1.n) ∧ ((w7.setCell ⟨w6.heap.size, 0, none⟩ (.int .i64 qy)).setCell ⟨w6.heap.size, 1, none⟩ (.int .i64 pr)).cell? ⟨gb, q1 * 13 + 3, none⟩ = some (.int .i64 o1.s) ∧ ((w7.setCell ⟨w6.heap.size, 0, none⟩ (.int .i64 qy)).setCell ⟨w6.heap.size, 1, none⟩ (.int .i64 pr)).cell? ⟨gb, q1 * 13 + 4, none⟩ = some (.int .i64 o1.p) ∧ ((w7.setCell ⟨w6.heap.size, 0, none⟩ (.int .i64 qy)).setCell ⟨w6.heap.size, 1, none⟩ (.int .i64 pr)).cell? ⟨gb, q1 * 13 + 5, none⟩ = some (.int .i64 o1.l) ∧ ((w7.setCell ⟨w6.heap.size, 0, none⟩ (.int .i64 qy)).setCell ⟨w6.heap.size, 1, none⟩ (.int .i64 pr)).cell? ⟨gb, q1 * 13 + 6, none⟩ = some (.int .i64 o1.u) ∧ ((w7.setCell ⟨w6.heap.size, 0, none⟩ (.int .i64 qy)).setCell ⟨w6.heap.size, 1, none⟩ (.int .i64 pr)).cell? ⟨gb, q2 * 13 + 2, none⟩ = some (.int .i64 o2.n) ∧ ((w7.setCell ⟨w6.heap.size, 0, none⟩ (.int .i64 qy)).setCell ⟨w6.heap.size, 1, none⟩ (.int .i64 pr)).cell? ⟨gb, q2 * 13 + 3, none⟩ = some (.int .i64 o2.s) ∧ ((w7.setCell ⟨w6.heap.size, 0, none⟩ (.int .i64 qy)).setCell ⟨w6.heap.size, 1, none⟩ (.int .i64 pr)).cell? ⟨gb, q2 * 13 + 4, none⟩ = some (.int .i64 o2.p) ∧ ((w7.setCell ⟨w6.heap.size, 0, none⟩ (.int .i64 qy)).setCell ⟨w6.heap.size, 1, none⟩ (.int .i64 pr)).cell? ⟨gb, q2 * 13 + 5, none⟩ = some (.int .i64 o2.l) ∧ ((w7.setCell ⟨w6.heap.size, 0, none⟩ (.int .i64 qy)).setCell ⟨w6.heap.size, 1, none⟩ (.int .i64 pr)).cell? ⟨gb, q2 * 13 + 6, none⟩ = some (.int .i64 o2.u) ∧ ((w7.setCell ⟨w6.heap.size, 0, none⟩ (.int .i64 qy)).setCell ⟨w6.heap.size, 1, none⟩ (.int .i64 pr)).cell? ⟨gb, q1 * 13 + 8, none⟩ = some (.int .i64 o1.lf) ∧ ((w7.setCell ⟨w6.heap.size, 0, none⟩ (.int .i64 qy)).setCell ⟨w6.heap.size, 1, none⟩ (.int .i64 pr)).cell? ⟨gb, q2 * 13 + 8, none⟩ = some (.int .i64 o2.lf) := And.intro (row_cell HM9.out.row HQ1.out rfl (j := 2) (by omega) rfl) (And.intro (row_cell HM9.out.row HQ1.out rfl (j := 3) (by omega) rfl) (And.intro (row_cell HM9.out.row HQ1.out rfl (j := 4) (by omega) rfl) (And.intro (row_cell HM9.out.row HQ1.out rfl (j := 5) (by omega) rfl) (And.intro (row_cell HM9.out.row HQ1.out rfl (j := 6) (by omega) rfl) (And.intro (row_cell HM9.out.row HQ2.out rfl (j := 2) (by omega) rfl) (And.intro (row_cell HM9.out.row HQ2.out rfl (j := 3) (by omega) rfl) (And.intro (row_cell HM9.out.row HQ2.out rfl (j := 4) (by omega) rfl) (And.intro (row_cell HM9.out.row HQ2.out rfl (j := 5) (by omega) rfl) (And.intro (row_cell HM9.out.row HQ2.out rfl (j := 6) (by omega) rfl) (And.intro (row_cell HM9.out.row HQ1.out rfl (j := 8) (by omega) rfl) (row_cell HM9.out.row HQ2.out rfl (j := 8) (by omega) rfl))))))))))); clear hb7) | fail)
                      all_goals ((apply meet_of); (focus (assumption)); (go_meet; exact ⟨_, rfl, hlt, (by first | exact hKF | exact hKz), HM9, HE9, HF9⟩))
                    case rest =>
                      obtain ⟨F, rfl, hgF, hKF, HM9, HE9, HF9⟩ := hcut
                      clear hS hSz HMz HEz bFz HMd HEd hlez hKz hltz hXz
                      have g0 := HF9.out.cell 0 _ rfl
                      have g1 := HF9.out.cell 1 _ rfl
                      have x10 := HE9.out.cell 10 _ rfl
                      have x11 := HE9.out.cell 11 _ rfl
                      go_wp2_with fail
                      go_ret
                      exact ⟨rfl, _, HM9.out⟩
          · have s2 : (spent f o2 != 0) = true := by simpa using hs2
            generalize spent f o2 = sp2 at *
            clear hs2
            refine ⟨.iface 57 (.int .i64 29), os, ?_, .inl ⟨29, rfl, rfl⟩⟩
            go_enter Try.func21, Try.ntmps21
            go_wp2_with fail
            refine (HL1.out _ HM.out).mono ?_
            rintro rr w2 ⟨rfl, hb2⟩
            have HM2 := Lib.hid (HM.out.below hb2)
            have HE2 := Lib.hid (HE.out.below hb2)
            have d3 := HE2.out.cell 3 _ rfl
            have d4 := HE2.out.cell 4 _ rfl
            go_wp2_with fail
            refine (HL2.out _ HM2.out).mono ?_
            rintro rr w3 ⟨rfl, hb3⟩
            have HM3 := Lib.hid (HM2.out.below hb3)
            have HE3 := Lib.hid (HE2.out.below hb3)
            clear d3 d4 hb2 hb3
            go_wp2_with fail
            have HMd := Lib.hid (HM3.out.below (Below.drew (Below.refl _ _)))
            have HEd := Lib.hid (HE3.out.below (Below.drew (Below.refl _ _)))
            have hS : w3.drew.cell? ⟨B, 0, none⟩ = some (.int .i64 p) ∧ w3.drew.cell? ⟨B, 1, none⟩ = some (.int .i64 c) ∧ w3.drew.cell? ⟨B, 2, none⟩ = some (.int .i64 n) ∧ w3.drew.cell? ⟨B, 3, none⟩ = some (.int .i64 b) ∧ w3.drew.cell? ⟨B, 4, none⟩ = some (.int .i64 r) ∧ w3.drew.cell? ⟨B, 5, none⟩ = some (.int .i64 f) ∧ w3.drew.cell? ⟨B, 6, none⟩ = some (.int .i64 g) ∧ w3.drew.cell? ⟨gb, q1 * 13, none⟩ = some (.int .i64 o1.c) ∧ w3.drew.cell? ⟨gb, q2 * 13, none⟩ = some (.int .i64 o2.c) := And.intro (HMd.out.blk.cell 0 _ rfl) (And.intro (HMd.out.blk.cell 1 _ rfl) (And.intro (HMd.out.blk.cell 2 _ rfl) (And.intro (HMd.out.blk.cell 3 _ rfl) (And.intro (HMd.out.blk.cell 4 _ rfl) (And.intro (HMd.out.blk.cell 5 _ rfl) (And.intro (HMd.out.blk.cell 6 _ rfl) (And.intro (row_cell HMd.out.row HQ1.out rfl (j := 0) (by omega) rfl) (row_cell HMd.out.row HQ2.out rfl (j := 0) (by omega) rfl))))))))
            go_cut [53] (fun x wx => x = .bool false ∧ Hid (MS Fx w wx B K p c n b r f g (.slice (some ⟨gb, 0, none⟩) os.length cp) os now) ∧ Hid (Bl wr.heap.size [.int .i64 e.k, .int .i64 e.c, .int .i64 e.g, .int .i64 e.o, .int .i64 e.w, .int .i64 e.n, .int .i64 e.s, .int .i64 e.p, .int .i64 e.l, .int .i64 e.u, .int .i64 e.q, .int .i64 e.pr, .int .i64 e.t, .int .i64 e.en] wx))
            case first =>
              go_region_held3 (fun w' => w'.cell? ⟨B, 0, none⟩ = some (.int .i64 p) ∧ w'.cell? ⟨B, 1, none⟩ = some (.int .i64 c) ∧ w'.cell? ⟨B, 2, none⟩ = some (.int .i64 n) ∧ w'.cell? ⟨B, 3, none⟩ = some (.int .i64 b) ∧ w'.cell? ⟨B, 4, none⟩ = some (.int .i64 r) ∧ w'.cell? ⟨B, 5, none⟩ = some (.int .i64 f) ∧ w'.cell? ⟨B, 6, none⟩ = some (.int .i64 g) ∧ w'.cell? ⟨gb, q1 * 13, none⟩ = some (.int .i64 o1.c) ∧ w'.cell? ⟨gb, q2 * 13, none⟩ = some (.int .i64 o2.c)) (first | with_reducible exact hS | fail) (first | (go_at_call 31; (with_reducible refine (HO1.out _).mono ?_); rintro rr w4 ⟨rfl, hb4⟩; have HMd := Lib.hid (HMd.out.below hb4); have HEd := Lib.hid (HEd.out.below hb4); have hS : w4.cell? ⟨B, 0, none⟩ = some (.int .i64 p) ∧ w4.cell? ⟨B, 1, none⟩ = some (.int .i64 c) ∧ w4.cell? ⟨B, 2, none⟩ = some (.int .i64 n) ∧ w4.cell? ⟨B, 3, none⟩ = some (.int .i64 b) ∧ w4.cell? ⟨B, 4, none⟩ = some (.int .i64 r) ∧ w4.cell? ⟨B, 5, none⟩ = some (.int .i64 f) ∧ w4.cell? ⟨B, 6, none⟩ = some (.int .i64 g) ∧ w4.cell? ⟨gb, q1 * 13, none⟩ = some (.int .i64 o1.c) ∧ w4.cell? ⟨gb, q2 * 13, none⟩ = some (.int .i64 o2.c) := And.intro (HMd.out.blk.cell 0 _ rfl) (And.intro (HMd.out.blk.cell 1 _ rfl) (And.intro (HMd.out.blk.cell 2 _ rfl) (And.intro (HMd.out.blk.cell 3 _ rfl) (And.intro (HMd.out.blk.cell 4 _ rfl) (And.intro (HMd.out.blk.cell 5 _ rfl) (And.intro (HMd.out.blk.cell 6 _ rfl) (And.intro (row_cell HMd.out.row HQ1.out rfl (j := 0) (by omega) rfl) (row_cell HMd.out.row HQ2.out rfl (j := 0) (by omega) rfl)))))))); clear hb4) | (go_at_call 31; (with_reducible refine (HO2.out _).mono ?_); rintro rr w4 ⟨rfl, hb4⟩; have HMd := Lib.hid (HMd.out.below hb4); have HEd := Lib.hid (HEd.out.below hb4); have hS : w4.cell? ⟨B, 0, none⟩ = some (.int .i64 p) ∧ w4.cell? ⟨B, 1, none⟩ = some (.int .i64 c) ∧ w4.cell? ⟨B, 2, none⟩ = some (.int .i64 n) ∧ w4.cell? ⟨B, 3, none⟩ = some (.int .i64 b) ∧ w4.cell? ⟨B, 4, none⟩ = some (.int .i64 r) ∧ w4.cell? ⟨B, 5, none⟩ = some (.int .i64 f) ∧ w4.cell? ⟨B, 6, none⟩ = some (.int .i64 g) ∧ w4.cell? ⟨gb, q1 * 13, none⟩ = some (.int .i64 o1.c) ∧ w4.cell? ⟨gb, q2 * 13, none⟩ = some (.int .i64 o2.c) := And.intro (HMd.out.blk.cell 0 _ rfl) (And.intro (HMd.out.blk.cell 1 _ rfl) (And.intro (HMd.out.blk.cell 2 _ rfl) (And.intro (HMd.out.blk.cell 3 _ rfl) (And.intro (HMd.out.blk.cell 4 _ rfl) (And.intro (HMd.out.blk.cell 5 _ rfl) (And.intro (HMd.out.blk.cell 6 _ rfl) (And.intro (row_cell HMd.out.row HQ1.out rfl (j := 0) (by omega) rfl) (row_cell HMd.out.row HQ2.out rfl (j := 0) (by omega) rfl)))))))); clear hb4) | fail)
              all_goals ((apply meet_of); (focus (assumption)); (go_meet; exact ⟨rfl, HMd, HEd⟩))
            case rest =>
              obtain ⟨rfl, HM4, HE4⟩ := hcut
              clear hS HMd HEd
              go_wp2_with fail
              refine (HS1.out _ HM4.out).mono ?_
              rintro rr w5 ⟨rfl, hb5⟩
              have HM5 := Lib.hid (HM4.out.below hb5)
              have HE5 := Lib.hid (HE4.out.below hb5)
              clear hb5
              go_wp2_with fail
              refine (HS2.out _ HM5.out).mono ?_
              rintro rr w6 ⟨rfl, hb5⟩
              have HM6 := Lib.hid (HM5.out.below hb5)
              have HE6 := Lib.hid (HE5.out.below hb5)
              clear hb5
              go_wp2_with fail
              go_ret
              exact ⟨rfl, _, HM6.out⟩
        · have s1 : (spent f o1 != 0) = true := by simpa using hs1
          generalize spent f o1 = sp1 at *
          clear hs1
          refine ⟨.iface 57 (.int .i64 29), os, ?_, .inl ⟨29, rfl, rfl⟩⟩
          go_enter Try.func21, Try.ntmps21
          go_wp2_with fail
          refine (HL1.out _ HM.out).mono ?_
          rintro rr w2 ⟨rfl, hb2⟩
          have HM2 := Lib.hid (HM.out.below hb2)
          have HE2 := Lib.hid (HE.out.below hb2)
          have d3 := HE2.out.cell 3 _ rfl
          have d4 := HE2.out.cell 4 _ rfl
          go_wp2_with fail
          refine (HL2.out _ HM2.out).mono ?_
          rintro rr w3 ⟨rfl, hb3⟩
          have HM3 := Lib.hid (HM2.out.below hb3)
          have HE3 := Lib.hid (HE2.out.below hb3)
          clear d3 d4 hb2 hb3
          go_wp2_with fail
          have HMd := Lib.hid (HM3.out.below (Below.drew (Below.refl _ _)))
          have HEd := Lib.hid (HE3.out.below (Below.drew (Below.refl _ _)))
          have hS : w3.drew.cell? ⟨B, 0, none⟩ = some (.int .i64 p) ∧ w3.drew.cell? ⟨B, 1, none⟩ = some (.int .i64 c) ∧ w3.drew.cell? ⟨B, 2, none⟩ = some (.int .i64 n) ∧ w3.drew.cell? ⟨B, 3, none⟩ = some (.int .i64 b) ∧ w3.drew.cell? ⟨B, 4, none⟩ = some (.int .i64 r) ∧ w3.drew.cell? ⟨B, 5, none⟩ = some (.int .i64 f) ∧ w3.drew.cell? ⟨B, 6, none⟩ = some (.int .i64 g) ∧ w3.drew.cell? ⟨gb, q1 * 13, none⟩ = some (.int .i64 o1.c) ∧ w3.drew.cell? ⟨gb, q2 * 13, none⟩ = some (.int .i64 o2.c) := And.intro (HMd.out.blk.cell 0 _ rfl) (And.intro (HMd.out.blk.cell 1 _ rfl) (And.intro (HMd.out.blk.cell 2 _ rfl) (And.intro (HMd.out.blk.cell 3 _ rfl) (And.intro (HMd.out.blk.cell 4 _ rfl) (And.intro (HMd.out.blk.cell 5 _ rfl) (And.intro (HMd.out.blk.cell 6 _ rfl) (And.intro (row_cell HMd.out.row HQ1.out rfl (j := 0) (by omega) rfl) (row_cell HMd.out.row HQ2.out rfl (j := 0) (by omega) rfl))))))))
          go_cut [53] (fun x wx => x = .bool false ∧ Hid (MS Fx w wx B K p c n b r f g (.slice (some ⟨gb, 0, none⟩) os.length cp) os now) ∧ Hid (Bl wr.heap.size [.int .i64 e.k, .int .i64 e.c, .int .i64 e.g, .int .i64 e.o, .int .i64 e.w, .int .i64 e.n, .int .i64 e.s, .int .i64 e.p, .int .i64 e.l, .int .i64 e.u, .int .i64 e.q, .int .i64 e.pr, .int .i64 e.t, .int .i64 e.en] wx))
          case first =>
            go_region_held3 (fun w' => w'.cell? ⟨B, 0, none⟩ = some (.int .i64 p) ∧ w'.cell? ⟨B, 1, none⟩ = some (.int .i64 c) ∧ w'.cell? ⟨B, 2, none⟩ = some (.int .i64 n) ∧ w'.cell? ⟨B, 3, none⟩ = some (.int .i64 b) ∧ w'.cell? ⟨B, 4, none⟩ = some (.int .i64 r) ∧ w'.cell? ⟨B, 5, none⟩ = some (.int .i64 f) ∧ w'.cell? ⟨B, 6, none⟩ = some (.int .i64 g) ∧ w'.cell? ⟨gb, q1 * 13, none⟩ = some (.int .i64 o1.c) ∧ w'.cell? ⟨gb, q2 * 13, none⟩ = some (.int .i64 o2.c)) (first | with_reducible exact hS | fail) (first | (go_at_call 31; (with_reducible refine (HO1.out _).mono ?_); rintro rr w4 ⟨rfl, hb4⟩; have HMd := Lib.hid (HMd.out.below hb4); have HEd := Lib.hid (HEd.out.below hb4); have hS : w4.cell? ⟨B, 0, none⟩ = some (.int .i64 p) ∧ w4.cell? ⟨B, 1, none⟩ = some (.int .i64 c) ∧ w4.cell? ⟨B, 2, none⟩ = some (.int .i64 n) ∧ w4.cell? ⟨B, 3, none⟩ = some (.int .i64 b) ∧ w4.cell? ⟨B, 4, none⟩ = some (.int .i64 r) ∧ w4.cell? ⟨B, 5, none⟩ = some (.int .i64 f) ∧ w4.cell? ⟨B, 6, none⟩ = some (.int .i64 g) ∧ w4.cell? ⟨gb, q1 * 13, none⟩ = some (.int .i64 o1.c) ∧ w4.cell? ⟨gb, q2 * 13, none⟩ = some (.int .i64 o2.c) := And.intro (HMd.out.blk.cell 0 _ rfl) (And.intro (HMd.out.blk.cell 1 _ rfl) (And.intro (HMd.out.blk.cell 2 _ rfl) (And.intro (HMd.out.blk.cell 3 _ rfl) (And.intro (HMd.out.blk.cell 4 _ rfl) (And.intro (HMd.out.blk.cell 5 _ rfl) (And.intro (HMd.out.blk.cell 6 _ rfl) (And.intro (row_cell HMd.out.row HQ1.out rfl (j := 0) (by omega) rfl) (row_cell HMd.out.row HQ2.out rfl (j := 0) (by omega) rfl)))))))); clear hb4) | (go_at_call 31; (with_reducible refine (HO2.out _).mono ?_); rintro rr w4 ⟨rfl, hb4⟩; have HMd := Lib.hid (HMd.out.below hb4); have HEd := Lib.hid (HEd.out.below hb4); have hS : w4.cell? ⟨B, 0, none⟩ = some (.int .i64 p) ∧ w4.cell? ⟨B, 1, none⟩ = some (.int .i64 c) ∧ w4.cell? ⟨B, 2, none⟩ = some (.int .i64 n) ∧ w4.cell? ⟨B, 3, none⟩ = some (.int .i64 b) ∧ w4.cell? ⟨B, 4, none⟩ = some (.int .i64 r) ∧ w4.cell? ⟨B, 5, none⟩ = some (.int .i64 f) ∧ w4.cell? ⟨B, 6, none⟩ = some (.int .i64 g) ∧ w4.cell? ⟨gb, q1 * 13, none⟩ = some (.int .i64 o1.c) ∧ w4.cell? ⟨gb, q2 * 13, none⟩ = some (.int .i64 o2.c) := And.intro (HMd.out.blk.cell 0 _ rfl) (And.intro (HMd.out.blk.cell 1 _ rfl) (And.intro (HMd.out.blk.cell 2 _ rfl) (And.intro (HMd.out.blk.cell 3 _ rfl) (And.intro (HMd.out.blk.cell 4 _ rfl) (And.intro (HMd.out.blk.cell 5 _ rfl) (And.intro (HMd.out.blk.cell 6 _ rfl) (And.intro (row_cell HMd.out.row HQ1.out rfl (j := 0) (by omega) rfl) (row_cell HMd.out.row HQ2.out rfl (j := 0) (by omega) rfl)))))))); clear hb4) | fail)
            all_goals ((apply meet_of); (focus (assumption)); (go_meet; exact ⟨rfl, HMd, HEd⟩))
          case rest =>
            obtain ⟨rfl, HM4, HE4⟩ := hcut
            clear hS HMd HEd
            go_wp2_with fail
            refine (HS1.out _ HM4.out).mono ?_
            rintro rr w5 ⟨rfl, hb5⟩
            have HM5 := Lib.hid (HM4.out.below hb5)
            have HE5 := Lib.hid (HE4.out.below hb5)
            clear hb5
            go_wp2_with fail
            go_ret
            exact ⟨rfl, _, HM5.out⟩
end Go.Proofs.Ytnhmdaoghcfghaa
