/-
  The abstract pool: an order comes.
-/
import Derived.Test.YtnhmdaoghcfghaaRows
import Derived.Test.YtnhmdaoghcfghaaKit
import Derived.Test.YtnhmdaoghcfghaaApp
import Derived.Test.YtnhmdaoghcfghaaQuiet
import Derived.Test.YtnhmdaoghcfghaaTrM
import Derived.Test.YtnhmdaoghcfghaaTrS
import Derived.Test.YtnhmdaoghcfghaaTrF
import Derived.Test.YtnhmdaoghcfghaaTrG
import Derived.Test.YtnhmdaoghcfghaaTrH
import Derived.Test.YtnhmdaoghcfghaaTrJ
import Derived.Test.YtnhmdaoghcfghaaTrL
import Derived.WalkKit
import Derived.ProofKit
import Derived.OpenShut
import Derived.ShutString
import Derived.Below
import Derived.Outline
import Derived.WalkLawsBesides
import Derived.WalkSpells
import Derived.Handy
import Derived.Deep.QuietTactic
import Derived.BigQuiet
import Derived.RegionTactic
import Derived.ChangeAlike
import Derived.Lib.Hide
import Derived.Laws.Rows
import Derived.Laws.Tables
import Derived.Laws.CopyOwn
import Derived.Laws.MakeOwn
import Derived.Laws.Entries
import Derived.Laws.OwnMore
import Derived.Deep.WholeRow
import Derived.Deep.LoopGhost
import Derived.Deep.AppendLies
import Derived.Deep.Draws
import Derived.Maps.AppendAt
import Derived.OwnWalk
import Derived.Deep.RegionHeld3
import Derived.Deep.Cut
import Derived.Deep.CutRange
import Derived.Deep.DeepCutAuto
import Derived.Deep.CutBlock
import Derived.Lib.SliceRun
import Derived.IntWalk
namespace Go.Proofs.Ytnhmdaoghcfghaa
open Go.ChangeShapes Go.WideShapes Go.ChangeAt Go.RowKit
theorem meet_ofS {J K : Act → World → Prop} {Q : Exit → Act → World → Prop} {a : Act} {w : World} (hk : ∀ a w, Met J a w → K a w) (h : Met J a w) : Exit.then K Q .normal a w := hk a w h
theorem last_upto (os : List Ord) (cl : Int) : ∀ m : Nat, m ≤ os.length → (∃ (q : Nat) (o : Ord), q < m ∧ os[q]? = some o ∧ o.c = cl ∧ ∀ (k : Nat) (o' : Ord), q < k → k < m → os[k]? = some o' → o'.c ≠ cl) ∨ (∀ (k : Nat) (o : Ord), k < m → os[k]? = some o → o.c ≠ cl)
  | 0, _ => .inr fun k o hk _ => absurd hk (Nat.not_lt_zero _)
  | m + 1, hm => by
    obtain ⟨o, ho⟩ : ∃ o, os[m]? = some o := ⟨_, List.getElem?_eq_getElem (by omega)⟩
    by_cases hc : o.c = cl
    · exact .inl ⟨m, o, Nat.lt_succ_self _, ho, hc, fun k o' h1 h2 _ => by omega⟩
    · rcases last_upto os cl m (by omega) with ⟨q, x, h1, h2, h3, h4⟩ | h
      · refine .inl ⟨q, x, by omega, h2, h3, fun k o' k1 k2 k3 => ?_⟩
        by_cases hk : k = m
        · subst hk
          rw [ho] at k3
          obtain rfl := Option.some.inj k3
          exact hc
        · exact h4 k o' k1 (by omega) k3
      · refine .inr fun k o' k2 k3 => ?_
        by_cases hk : k = m
        · subst hk
          rw [ho] at k3
          obtain rfl := Option.some.inj k3
          exact hc
        · exact h k o' (by omega) k3
theorem last_ex (os : List Ord) (cl : Int) : ∃ x, LastIs os cl x := by
  rcases last_upto os cl os.length (Nat.le_refl _) with ⟨q, x, h1, h2, h3, h4⟩ | h
  · exact ⟨x, .inl ⟨q, h2, h3, fun k o hk ho => h4 k o hk (List.getElem?_eq_some_iff.1 ho).1 ho⟩⟩
  · exact ⟨_, .inr ⟨fun k o ho => h k o (List.getElem?_eq_some_iff.1 ho).1 ho, rfl⟩⟩
theorem last_uni {os : List Ord} {cl : Int} {x y : Ord} (h : LastIs os cl x) (k : LastIs os cl y) : x = y := by
  rcases h with ⟨q, h1, h2, h3⟩ | ⟨h1, h2⟩
  · rcases k with ⟨r, k1, k2, k3⟩ | ⟨k1, k2⟩
    · rcases Nat.lt_trichotomy q r with hlt | he | hgt
      · exact absurd k2 (h3 r y hlt k1)
      · subst he
        rw [h1] at k1
        exact Option.some.inj k1
      · exact absurd h2 (k3 q x hgt h1)
    · exact absurd h2 (k1 q x h1)
  · rcases k with ⟨r, k1, k2, k3⟩ | ⟨k1, k2⟩
    · exact absurd k2 (h1 r y k1)
    · rw [h2, k2]
theorem last_new {F : Int} {os : List Ord} {cl : Int} {x : Ord} (h : LastIs os cl x) (hI : Inv F os) : (0 ≤ x.g) ∧ ∀ (i : Nat) (a : Ord), os[i]? = some a → a.c = cl → a.g < x.g + 1 := by
  rcases h with ⟨q, h1, h2, h3⟩ | ⟨h1, h2⟩
  · refine ⟨(hI.ok q x h1).g0, fun i a ha hc => ?_⟩
    rcases Nat.lt_trichotomy i q with hlt | he | hgt
    · have := hI.up i q a x ha h1 hlt (hc.trans h2.symm)
      omega
    · subst he
      rw [h1] at ha
      obtain rfl := Option.some.inj ha
      omega
    · exact absurd hc (h3 i a hgt ha)
  · refine ⟨by rw [h2]; exact Int.le_refl _, fun i a ha hc => absurd hc (h1 i a ha)⟩
theorem infoO : (Try.prog.info? 44).map (fun i => (i.zero, i.size, i.bytes)) = some (some (.agg #[.int .i64 0, .int .i64 0, .int .i64 0, .int .i64 0, .int .i64 0, .int .i64 0, .int .i64 0, .int .i64 0, .int .i64 0, .int .i64 0, .bool false, .bool false, .int .i64 0]), 13, 96) := by kernel_rfl
theorem grown_undrewS {w w2 : World} {r : Option Nat} (h : w.drew.grownBy w2 r) : w.grownBy w2 r := ⟨h.os, h.tape, h.output, h.size, h.block⟩
theorem ret_ofS {K : Act → World → Prop} {T : Code} {Q : Exit → Act → World → Prop} {a : Act} {w : World} (hk : ∀ a w, Code.wp Try.prog T Q a w → K a w) (h : Code.wp Try.prog T Q a w) : Exit.then K Q .normal a w := hk a w h
theorem Bl.grown {B : Nat} {l : List Value} {w w' : World} {rw_ : Option Nat} (h : Bl B l w) (hg : w.grownBy w' rw_) (hne : rw_ ≠ some B) : Bl B l w' := by
  obtain ⟨t, ht⟩ := h
  exact ⟨t, (hg.block B (blk_lt ht) (fun e => hne e.symm)).trans ht⟩
set_option maxRecDepth 100000 in
set_option maxHeartbeats 16000000 in
theorem submit_ok (Fx : Nat → Option Obj → Prop) (w wr : World) (B K : Nat) (p c n b r f g now : Int) (v : Value) (os : List Ord) (e : Evt) (x : Ord) (h : MS Fx w wr B K p c n b r f g v os now) (hl : os.length ≤ 900) (hI : Inv f os) (hp : 1 ≤ p ∧ p ≤ 6) (hc : 1 ≤ c ∧ c ≤ 4) (how : ¬ ow p c e.c < 0) (hx : LastIs os e.c x) (hxe : x.en ≠ 0) (hfull : ¬ g ≤ x.g) (hg15 : g ≤ 15) (hid : e.g = x.g + 1) (hck : ∀ W, Calls Try.prog 33 #[.agg #[.int .i64 p, .int .i64 c, .int .i64 n, .int .i64 b, .int .i64 r, .int .i64 f, .int .i64 g], .agg #[.int .i64 e.n, .int .i64 e.s, .int .i64 e.p, .int .i64 e.l, .int .i64 e.u], .int .i64 e.q, .int .i64 0] W fun rr w' => rr = .returned .nilIface ∧ Below W.heap.size W w') : Calls Try.prog 20 #[.pointer (some ⟨B, 0, none⟩), .agg #[.int .i64 e.k, .int .i64 e.c, .int .i64 e.g, .int .i64 e.o, .int .i64 e.w, .int .i64 e.n, .int .i64 e.s, .int .i64 e.p, .int .i64 e.l, .int .i64 e.u, .int .i64 e.q, .int .i64 e.pr, .int .i64 e.t, .int .i64 e.en]] wr fun rr w' => rr = .returned .nilIface ∧ ∃ v', MS Fx w w' B K p c n b r f g v' (os ++ [⟨e.c, e.g, e.n, e.s, e.p, e.l, e.u, e.q, e.q, 0, false, false, 0⟩]) now := by
  have hg1 : Below wr.heap.size wr (wr.alloc (.cells #[.int .i64 e.k, .int .i64 e.c, .int .i64 e.g, .int .i64 e.o, .int .i64 e.w, .int .i64 e.n, .int .i64 e.s, .int .i64 e.p, .int .i64 e.l, .int .i64 e.u, .int .i64 e.q, .int .i64 e.pr, .int .i64 e.t, .int .i64 e.en] 41)) := by go_grown
  have HE := Lib.hid (Bl.new wr [.int .i64 e.k, .int .i64 e.c, .int .i64 e.g, .int .i64 e.o, .int .i64 e.w, .int .i64 e.n, .int .i64 e.s, .int .i64 e.p, .int .i64 e.l, .int .i64 e.u, .int .i64 e.q, .int .i64 e.pr, .int .i64 e.t, .int .i64 e.en] 41)
  have HM := Lib.hid (h.below hg1)
  have HOW := Lib.hid (fun W => owner_is p c n b r f g e.c W hp hc)
  have HLA := Lib.hid (fun W (hW : MS Fx w W B K p c n b r f g v os now) => (last_is Fx w W B K p c n b r f g now v os e.c hW (by omega)).mono (fun rr W' (hh : (∃ y, rr = .returned (.agg #[.int .i64 y.c, .int .i64 y.g, .int .i64 y.n, .int .i64 y.s, .int .i64 y.p, .int .i64 y.l, .int .i64 y.u, .int .i64 y.q, .int .i64 y.lf, .int .i64 y.fl, .bool y.ak, .bool y.rs, .int .i64 y.en]) ∧ LastIs os e.c y) ∧ Below W.heap.size W W') => show rr = .returned (.agg #[.int .i64 x.c, .int .i64 x.g, .int .i64 x.n, .int .i64 x.s, .int .i64 x.p, .int .i64 x.l, .int .i64 x.u, .int .i64 x.q, .int .i64 x.lf, .int .i64 x.fl, .bool x.ak, .bool x.rs, .int .i64 x.en]) ∧ Below W.heap.size W W' from by
    obtain ⟨⟨y, h1, h2⟩, h3⟩ := hh
    rw [last_uni hx h2]
    exact ⟨h1, h3⟩))
  have HL9 := Lib.hid hl
  obtain ⟨g0, hnew⟩ := last_new hx hI
  have gx : x.g < 15 := by omega
  have d0 : decide (ow p c e.c < 0) = false := decide_eq_false how
  generalize ow p c e.c = owv at *
  have e2 : (x.en == 0) = false := by simpa using hxe
  have d6 : decide (g ≤ x.g) = false := decide_eq_false hfull
  have e9 : (e.g != x.g + 1) = false := by rw [hid]; simp
  have HCK := Lib.hid hck
  have HNG : Hid (v.ownBlock ≠ some wr.heap.size) := fun he => by have := (h.row.lt _ he).2; omega
  have HBE : Hid (B ≠ wr.heap.size) := fun he => by have := h.blk.lt; omega
  clear h hg1 hI hx hp hc hl how hxe hfull hid hck hnew
  obtain ⟨Av, cv, rfl⟩ := own_shape HM.out.row
  obtain ⟨i0, hi, hz0, hz1, hz2⟩ := info_parts infoO
  have HI0 := Lib.hid hi
  have HZ0 := Lib.hid hz0
  have HZ1 := Lib.hid hz1
  have HZ2 := Lib.hid hz2
  clear hi hz0 hz1 hz2
  go_enter Try.func20, Try.ntmps20
  go_wp2_with fail
  have HM1 := HM
  have HE1 := HE
  generalize (wr.alloc (.cells #[.int .i64 e.k, .int .i64 e.c, .int .i64 e.g, .int .i64 e.o, .int .i64 e.w, .int .i64 e.n, .int .i64 e.s, .int .i64 e.p, .int .i64 e.l, .int .i64 e.u, .int .i64 e.q, .int .i64 e.pr, .int .i64 e.t, .int .i64 e.en] 41)) = w1 at *
  generalize wr.heap.size = E0 at *
  have HMd := Lib.hid (HM1.out.below (Below.drew (Below.refl _ _)))
  have HEd := Lib.hid (HE1.out.below (Below.drew (Below.refl _ _)))
  have hS : w1.drew.cell? ⟨B, 0, none⟩ = some (.int .i64 p) ∧ w1.drew.cell? ⟨B, 1, none⟩ = some (.int .i64 c) ∧ w1.drew.cell? ⟨B, 2, none⟩ = some (.int .i64 n) ∧ w1.drew.cell? ⟨B, 3, none⟩ = some (.int .i64 b) ∧ w1.drew.cell? ⟨B, 4, none⟩ = some (.int .i64 r) ∧ w1.drew.cell? ⟨B, 5, none⟩ = some (.int .i64 f) ∧ w1.drew.cell? ⟨B, 6, none⟩ = some (.int .i64 g) ∧ w1.drew.cell? ⟨E0, 1, none⟩ = some (.int .i64 e.c) := And.intro (HMd.out.blk.cell 0 _ rfl) (And.intro (HMd.out.blk.cell 1 _ rfl) (And.intro (HMd.out.blk.cell 2 _ rfl) (And.intro (HMd.out.blk.cell 3 _ rfl) (And.intro (HMd.out.blk.cell 4 _ rfl) (And.intro (HMd.out.blk.cell 5 _ rfl) (And.intro (HMd.out.blk.cell 6 _ rfl) (HEd.out.cell 1 _ rfl)))))))
  go_region_held3 (fun w' => w'.cell? ⟨B, 0, none⟩ = some (.int .i64 p) ∧ w'.cell? ⟨B, 1, none⟩ = some (.int .i64 c) ∧ w'.cell? ⟨B, 2, none⟩ = some (.int .i64 n) ∧ w'.cell? ⟨B, 3, none⟩ = some (.int .i64 b) ∧ w'.cell? ⟨B, 4, none⟩ = some (.int .i64 r) ∧ w'.cell? ⟨B, 5, none⟩ = some (.int .i64 f) ∧ w'.cell? ⟨B, 6, none⟩ = some (.int .i64 g) ∧ w'.cell? ⟨E0, 1, none⟩ = some (.int .i64 e.c)) (first | with_reducible exact hS | fail) (first | (go_at_call 31; (with_reducible refine (HOW.out _).mono ?_); rintro rr w2 ⟨rfl, hb2⟩; have HM2 := Lib.hid (HMd.out.below hb2); have HE2 := Lib.hid (HEd.out.below hb2); have hS : w2.cell? ⟨B, 0, none⟩ = some (.int .i64 p) ∧ w2.cell? ⟨B, 1, none⟩ = some (.int .i64 c) ∧ w2.cell? ⟨B, 2, none⟩ = some (.int .i64 n) ∧ w2.cell? ⟨B, 3, none⟩ = some (.int .i64 b) ∧ w2.cell? ⟨B, 4, none⟩ = some (.int .i64 r) ∧ w2.cell? ⟨B, 5, none⟩ = some (.int .i64 f) ∧ w2.cell? ⟨B, 6, none⟩ = some (.int .i64 g) ∧ w2.cell? ⟨E0, 1, none⟩ = some (.int .i64 e.c) := And.intro (HM2.out.blk.cell 0 _ rfl) (And.intro (HM2.out.blk.cell 1 _ rfl) (And.intro (HM2.out.blk.cell 2 _ rfl) (And.intro (HM2.out.blk.cell 3 _ rfl) (And.intro (HM2.out.blk.cell 4 _ rfl) (And.intro (HM2.out.blk.cell 5 _ rfl) (And.intro (HM2.out.blk.cell 6 _ rfl) (HE2.out.cell 1 _ rfl))))))); clear hb2) | fail)
  clear hS HMd HEd
  have x1 := HE2.out.cell 1 _ rfl
  go_wp2_with fail
  refine (HLA.out _ HM2.out).mono ?_
  rintro rr w3 ⟨rfl, hb3⟩
  have hba := (Below.refl w3.heap.size w3).alloc (Nat.le_refl _) (Obj.cells #[.int .i64 x.c, .int .i64 x.g, .int .i64 x.n, .int .i64 x.s, .int .i64 x.p, .int .i64 x.l, .int .i64 x.u, .int .i64 x.q, .int .i64 x.lf, .int .i64 x.fl, .bool x.ak, .bool x.rs, .int .i64 x.en] 44)
  have HM3 := Lib.hid ((HM2.out.below hb3).below hba)
  have HE3 := Lib.hid ((HE2.out.below hb3).below hba)
  have HL3 := Lib.hid (Bl.new w3 [.int .i64 x.c, .int .i64 x.g, .int .i64 x.n, .int .i64 x.s, .int .i64 x.p, .int .i64 x.l, .int .i64 x.u, .int .i64 x.q, .int .i64 x.lf, .int .i64 x.fl, .bool x.ak, .bool x.rs, .int .i64 x.en] 44)
  clear x1 hba hb3
  have l1 := HL3.out.cell 1 _ rfl
  have l12 := HL3.out.cell 12 _ rfl
  have m6 := HM3.out.blk.cell 6 _ rfl
  go_wp2_with fail
  generalize (w3.alloc (Obj.cells #[.int .i64 x.c, .int .i64 x.g, .int .i64 x.n, .int .i64 x.s, .int .i64 x.p, .int .i64 x.l, .int .i64 x.u, .int .i64 x.q, .int .i64 x.lf, .int .i64 x.fl, .bool x.ak, .bool x.rs, .int .i64 x.en] 44)) = w3a at *
  generalize w3.heap.size = L0 at *
  go_quiet (fail)
  have hdn := below_dn (Below.refl w3a.heap.size w3a) nq
  have HMd := Lib.hid (HM3.out.below hdn)
  have HEd := Lib.hid (HE3.out.below hdn)
  have HLd := Lib.hid (HL3.out.below hdn)
  generalize w3a.drewN nq = w4 at *
  clear hdn l1 l12 m6
  have x2 := HEd.out.cell 2 _ rfl
  have l1d := HLd.out.cell 1 _ rfl
  go_wp2_with fail
  have HMf := Lib.hid (HMd.out.below (Below.drew (Below.refl _ _)))
  have HEf := Lib.hid (HEd.out.below (Below.drew (Below.refl _ _)))
  have hS : w4.drew.cell? ⟨B, 0, none⟩ = some (.int .i64 p) ∧ w4.drew.cell? ⟨B, 1, none⟩ = some (.int .i64 c) ∧ w4.drew.cell? ⟨B, 2, none⟩ = some (.int .i64 n) ∧ w4.drew.cell? ⟨B, 3, none⟩ = some (.int .i64 b) ∧ w4.drew.cell? ⟨B, 4, none⟩ = some (.int .i64 r) ∧ w4.drew.cell? ⟨B, 5, none⟩ = some (.int .i64 f) ∧ w4.drew.cell? ⟨B, 6, none⟩ = some (.int .i64 g) ∧ w4.drew.cell? ⟨E0, 5, none⟩ = some (.int .i64 e.n) ∧ w4.drew.cell? ⟨E0, 6, none⟩ = some (.int .i64 e.s) ∧ w4.drew.cell? ⟨E0, 7, none⟩ = some (.int .i64 e.p) ∧ w4.drew.cell? ⟨E0, 8, none⟩ = some (.int .i64 e.l) ∧ w4.drew.cell? ⟨E0, 9, none⟩ = some (.int .i64 e.u) ∧ w4.drew.cell? ⟨E0, 10, none⟩ = some (.int .i64 e.q) := And.intro (HMf.out.blk.cell 0 _ rfl) (And.intro (HMf.out.blk.cell 1 _ rfl) (And.intro (HMf.out.blk.cell 2 _ rfl) (And.intro (HMf.out.blk.cell 3 _ rfl) (And.intro (HMf.out.blk.cell 4 _ rfl) (And.intro (HMf.out.blk.cell 5 _ rfl) (And.intro (HMf.out.blk.cell 6 _ rfl) (And.intro (HEf.out.cell 5 _ rfl) (And.intro (HEf.out.cell 6 _ rfl) (And.intro (HEf.out.cell 7 _ rfl) (And.intro (HEf.out.cell 8 _ rfl) (And.intro (HEf.out.cell 9 _ rfl) (HEf.out.cell 10 _ rfl))))))))))))
  go_region_held3 (fun w' => w'.cell? ⟨B, 0, none⟩ = some (.int .i64 p) ∧ w'.cell? ⟨B, 1, none⟩ = some (.int .i64 c) ∧ w'.cell? ⟨B, 2, none⟩ = some (.int .i64 n) ∧ w'.cell? ⟨B, 3, none⟩ = some (.int .i64 b) ∧ w'.cell? ⟨B, 4, none⟩ = some (.int .i64 r) ∧ w'.cell? ⟨B, 5, none⟩ = some (.int .i64 f) ∧ w'.cell? ⟨B, 6, none⟩ = some (.int .i64 g) ∧ w'.cell? ⟨E0, 5, none⟩ = some (.int .i64 e.n) ∧ w'.cell? ⟨E0, 6, none⟩ = some (.int .i64 e.s) ∧ w'.cell? ⟨E0, 7, none⟩ = some (.int .i64 e.p) ∧ w'.cell? ⟨E0, 8, none⟩ = some (.int .i64 e.l) ∧ w'.cell? ⟨E0, 9, none⟩ = some (.int .i64 e.u) ∧ w'.cell? ⟨E0, 10, none⟩ = some (.int .i64 e.q)) (first | with_reducible exact hS | fail) (first | (go_at_call 33; (with_reducible refine (HCK.out _).mono ?_); rintro rr w5 ⟨rfl, hb5⟩; have HM5 := Lib.hid (HMf.out.below hb5); have HE5 := Lib.hid (HEf.out.below hb5); have hS : w5.cell? ⟨B, 0, none⟩ = some (.int .i64 p) ∧ w5.cell? ⟨B, 1, none⟩ = some (.int .i64 c) ∧ w5.cell? ⟨B, 2, none⟩ = some (.int .i64 n) ∧ w5.cell? ⟨B, 3, none⟩ = some (.int .i64 b) ∧ w5.cell? ⟨B, 4, none⟩ = some (.int .i64 r) ∧ w5.cell? ⟨B, 5, none⟩ = some (.int .i64 f) ∧ w5.cell? ⟨B, 6, none⟩ = some (.int .i64 g) ∧ w5.cell? ⟨E0, 5, none⟩ = some (.int .i64 e.n) ∧ w5.cell? ⟨E0, 6, none⟩ = some (.int .i64 e.s) ∧ w5.cell? ⟨E0, 7, none⟩ = some (.int .i64 e.p) ∧ w5.cell? ⟨E0, 8, none⟩ = some (.int .i64 e.l) ∧ w5.cell? ⟨E0, 9, none⟩ = some (.int .i64 e.u) ∧ w5.cell? ⟨E0, 10, none⟩ = some (.int .i64 e.q) := And.intro (HM5.out.blk.cell 0 _ rfl) (And.intro (HM5.out.blk.cell 1 _ rfl) (And.intro (HM5.out.blk.cell 2 _ rfl) (And.intro (HM5.out.blk.cell 3 _ rfl) (And.intro (HM5.out.blk.cell 4 _ rfl) (And.intro (HM5.out.blk.cell 5 _ rfl) (And.intro (HM5.out.blk.cell 6 _ rfl) (And.intro (HE5.out.cell 5 _ rfl) (And.intro (HE5.out.cell 6 _ rfl) (And.intro (HE5.out.cell 7 _ rfl) (And.intro (HE5.out.cell 8 _ rfl) (And.intro (HE5.out.cell 9 _ rfl) (HE5.out.cell 10 _ rfl)))))))))))); clear hb5) | fail)
  clear hS HMf HEf
  have m7 := HM5.out.blk.cell 7 _ rfl
  have f7 := HM5.out.blk.frz 7
  have lB := HM5.out.blk.lt
  have lE := HE5.out.lt
  have hba := (Below.refl w5.heap.size w5).alloc (Nat.le_refl _) (Obj.cells (List.toArray [.int .i64 e.c, .int .i64 e.g, .int .i64 e.n, .int .i64 e.s, .int .i64 e.p, .int .i64 e.l, .int .i64 e.u, .int .i64 e.q, .int .i64 e.q, .int .i64 0, .bool false, .bool false, .int .i64 0]) 44)
  have HMa := Lib.hid ((HM5.out.below hba).below (Below.drew (Below.refl _ _)))
  have HEa := (HE5.out.below hba).below (Below.drew (Below.refl _ _))
  have hSa := And.intro (HEa.cell 1 _ rfl) (And.intro (HEa.cell 2 _ rfl) (And.intro (HEa.cell 5 _ rfl) (And.intro (HEa.cell 6 _ rfl) (And.intro (HEa.cell 7 _ rfl) (And.intro (HEa.cell 8 _ rfl) (And.intro (HEa.cell 9 _ rfl) (HEa.cell 10 _ rfl)))))))
  have HEd5 := HE5.out.below (Below.drew (Below.refl _ _))
  have hSd := And.intro (HEd5.cell 1 _ rfl) (And.intro (HEd5.cell 2 _ rfl) (And.intro (HEd5.cell 5 _ rfl) (And.intro (HEd5.cell 6 _ rfl) (And.intro (HEd5.cell 7 _ rfl) (And.intro (HEd5.cell 8 _ rfl) (And.intro (HEd5.cell 9 _ rfl) (HEd5.cell 10 _ rfl)))))))
  have N1 := Lib.hid (show os.length + 1 ≤ maxLen from by have := HL9.out; unfold maxLen; omega)
  have N2 := Lib.hid (show (os.length + 1) * 96 ≤ 140737488355328 from by have := HL9.out; omega)
  have NV := Lib.hid (show ∀ zz ∈ ([.int .i64 e.c, .int .i64 e.g, .int .i64 e.n, .int .i64 e.s, .int .i64 e.p, .int .i64 e.l, .int .i64 e.u, .int .i64 e.q, .int .i64 e.q, .int .i64 0, .bool false, .bool false, .int .i64 0] : List Value), zz.oneCell' = true from by
    intro zz hz
    simp only [List.mem_cons, List.not_mem_nil, or_false] at hz
    rcases hz with h | h | h | h | h | h | h | h | h | h | h | h | h <;> (subst h; rfl))
  have HR := Lib.hid ((reads_newN w5 1 13 [.int .i64 e.c, .int .i64 e.g, .int .i64 e.n, .int .i64 e.s, .int .i64 e.p, .int .i64 e.l, .int .i64 e.u, .int .i64 e.q, .int .i64 e.q, .int .i64 0, .bool false, .bool false, .int .i64 0] 44 rfl).drew)
  have cB7 : ∀ wq : World, True := fun _ => trivial
  clear hba HEa HEd5
  go_wp2_with fail
  refine wp_region_held_drew (S := (fun w' => w'.cell? ⟨E0, 1, none⟩ = some (.int .i64 e.c) ∧ w'.cell? ⟨E0, 2, none⟩ = some (.int .i64 e.g) ∧ w'.cell? ⟨E0, 5, none⟩ = some (.int .i64 e.n) ∧ w'.cell? ⟨E0, 6, none⟩ = some (.int .i64 e.s) ∧ w'.cell? ⟨E0, 7, none⟩ = some (.int .i64 e.p) ∧ w'.cell? ⟨E0, 8, none⟩ = some (.int .i64 e.l) ∧ w'.cell? ⟨E0, 9, none⟩ = some (.int .i64 e.u) ∧ w'.cell? ⟨E0, 10, none⟩ = some (.int .i64 e.q))) (by kernel_rfl) hSd (fun hHeld => ?_)
  refine wpAnyH_take (i := 0) (oi := { dst := some 56, op := Op.move (Operand.tmp 0), type := 32, pos := "trace.go:150", after := #[], guard := none }) (v := ?_) rfl (by as_aux_lemma => kernel_rfl) (by as_aux_lemma => kernel_rfl) (by as_aux_lemma => kernel_rfl) (fun _ _ _ h => h) (Or.inl ⟨by rfl, ?_⟩) (by assumption) ?_
  rotate_left
  · intro wq hSw
    go_simp
    try with_reducible rfl
  simp only [Act.put, List.setIfInBounds_toArray, List.set_cons_zero, List.set_cons_succ]
  refine wpAnyH_take (i := 1) (oi := { dst := some 57, op := Op.move (Operand.tmp 0), type := 32, pos := "trace.go:150", after := #[], guard := none }) (v := ?_) rfl (by as_aux_lemma => kernel_rfl) (by as_aux_lemma => kernel_rfl) (by as_aux_lemma => kernel_rfl) (fun _ _ _ h => h) (Or.inl ⟨by rfl, ?_⟩) (by assumption) ?_
  rotate_left
  · intro wq hSw
    go_simp
    try with_reducible rfl
  simp only [Act.put, List.setIfInBounds_toArray, List.set_cons_zero, List.set_cons_succ]
  refine wpAnyH_take (i := 2) (oi := { dst := some 58, op := Op.nilCheck (Operand.tmp 57), type := 0, pos := "trace.go:150", after := #[{ on := 1, ground := Ground.data }], guard := none }) (v := ?_) rfl (by as_aux_lemma => kernel_rfl) (by as_aux_lemma => kernel_rfl) (by as_aux_lemma => kernel_rfl) (fun _ _ _ h => h) (Or.inl ⟨by rfl, ?_⟩) (by assumption) ?_
  rotate_left
  · intro wq hSw
    go_simp
    try with_reducible rfl
  simp only [Act.put, List.setIfInBounds_toArray, List.set_cons_zero, List.set_cons_succ]
  refine wpAnyH_take (i := 3) (oi := { dst := some 59, op := Op.fieldAddr 61 (Operand.tmp 58) 1, type := 0, pos := "trace.go:150", after := #[{ on := 2, ground := Ground.data }], guard := none }) (v := ?_) rfl (by as_aux_lemma => kernel_rfl) (by as_aux_lemma => kernel_rfl) (by as_aux_lemma => kernel_rfl) (fun _ _ _ h => h) (Or.inl ⟨by rfl, ?_⟩) (by assumption) ?_
  rotate_left
  · intro wq hSw
    go_simp
    try with_reducible rfl
  simp only [Act.put, List.setIfInBounds_toArray, List.set_cons_zero, List.set_cons_succ]
  refine wpAnyH_take (i := 5) (oi := { dst := some 61, op := Op.fieldAddr 41 (Operand.tmp 3) 1, type := 0, pos := "trace.go:150", after := #[], guard := none }) (v := ?_) rfl (by as_aux_lemma => kernel_rfl) (by as_aux_lemma => kernel_rfl) (by as_aux_lemma => kernel_rfl) (fun _ _ _ h => h) (Or.inl ⟨by rfl, ?_⟩) (by assumption) ?_
  rotate_left
  · intro wq hSw
    go_simp
    try with_reducible rfl
  simp only [Act.put, List.setIfInBounds_toArray, List.set_cons_zero, List.set_cons_succ]
  refine wpAnyH_take (i := 6) (oi := { dst := some 62, op := Op.load 3 (Operand.tmp 61), type := 3, pos := "trace.go:150", after := #[{ on := 5, ground := Ground.data }], guard := none }) (v := ?_) rfl (by as_aux_lemma => kernel_rfl) (by as_aux_lemma => kernel_rfl) (by as_aux_lemma => kernel_rfl) (fun _ _ _ h => h) (Or.inl ⟨by rfl, ?_⟩) (by assumption) ?_
  rotate_left
  · intro wq hSw
    obtain ⟨h1, h2, h3, h4, h5, h6, h7, h8⟩ := hSw
    go_simp
    try with_reducible rfl
  simp only [Act.put, List.setIfInBounds_toArray, List.set_cons_zero, List.set_cons_succ]
  refine wpAnyH_take (i := 7) (oi := { dst := some 63, op := Op.fieldAddr 41 (Operand.tmp 3) 2, type := 0, pos := "trace.go:150", after := #[], guard := none }) (v := ?_) rfl (by as_aux_lemma => kernel_rfl) (by as_aux_lemma => kernel_rfl) (by as_aux_lemma => kernel_rfl) (fun _ _ _ h => h) (Or.inl ⟨by rfl, ?_⟩) (by assumption) ?_
  rotate_left
  · intro wq hSw
    go_simp
    try with_reducible rfl
  simp only [Act.put, List.setIfInBounds_toArray, List.set_cons_zero, List.set_cons_succ]
  refine wpAnyH_take (i := 8) (oi := { dst := some 64, op := Op.load 3 (Operand.tmp 63), type := 3, pos := "trace.go:150", after := #[{ on := 7, ground := Ground.data }], guard := none }) (v := ?_) rfl (by as_aux_lemma => kernel_rfl) (by as_aux_lemma => kernel_rfl) (by as_aux_lemma => kernel_rfl) (fun _ _ _ h => h) (Or.inl ⟨by rfl, ?_⟩) (by assumption) ?_
  rotate_left
  · intro wq hSw
    obtain ⟨h1, h2, h3, h4, h5, h6, h7, h8⟩ := hSw
    go_simp
    try with_reducible rfl
  simp only [Act.put, List.setIfInBounds_toArray, List.set_cons_zero, List.set_cons_succ]
  refine wpAnyH_take (i := 9) (oi := { dst := some 65, op := Op.fieldAddr 41 (Operand.tmp 3) 5, type := 0, pos := "trace.go:150", after := #[], guard := none }) (v := ?_) rfl (by as_aux_lemma => kernel_rfl) (by as_aux_lemma => kernel_rfl) (by as_aux_lemma => kernel_rfl) (fun _ _ _ h => h) (Or.inl ⟨by rfl, ?_⟩) (by assumption) ?_
  rotate_left
  · intro wq hSw
    go_simp
    try with_reducible rfl
  simp only [Act.put, List.setIfInBounds_toArray, List.set_cons_zero, List.set_cons_succ]
  refine wpAnyH_take (i := 10) (oi := { dst := some 66, op := Op.load 37 (Operand.tmp 65), type := 37, pos := "trace.go:150", after := #[{ on := 9, ground := Ground.data }], guard := none }) (v := ?_) rfl (by as_aux_lemma => kernel_rfl) (by as_aux_lemma => kernel_rfl) (by as_aux_lemma => kernel_rfl) (fun _ _ _ h => h) (Or.inl ⟨by rfl, ?_⟩) (by assumption) ?_
  rotate_left
  · intro wq hSw
    obtain ⟨h1, h2, h3, h4, h5, h6, h7, h8⟩ := hSw
    go_simp
    try with_reducible rfl
  simp only [Act.put, List.setIfInBounds_toArray, List.set_cons_zero, List.set_cons_succ]
  refine wpAnyH_take (i := 11) (oi := { dst := some 67, op := Op.fieldAddr 41 (Operand.tmp 3) 6, type := 0, pos := "trace.go:150", after := #[], guard := none }) (v := ?_) rfl (by as_aux_lemma => kernel_rfl) (by as_aux_lemma => kernel_rfl) (by as_aux_lemma => kernel_rfl) (fun _ _ _ h => h) (Or.inl ⟨by rfl, ?_⟩) (by assumption) ?_
  rotate_left
  · intro wq hSw
    go_simp
    try with_reducible rfl
  simp only [Act.put, List.setIfInBounds_toArray, List.set_cons_zero, List.set_cons_succ]
  refine wpAnyH_take (i := 12) (oi := { dst := some 68, op := Op.load 3 (Operand.tmp 67), type := 3, pos := "trace.go:150", after := #[{ on := 11, ground := Ground.data }], guard := none }) (v := ?_) rfl (by as_aux_lemma => kernel_rfl) (by as_aux_lemma => kernel_rfl) (by as_aux_lemma => kernel_rfl) (fun _ _ _ h => h) (Or.inl ⟨by rfl, ?_⟩) (by assumption) ?_
  rotate_left
  · intro wq hSw
    obtain ⟨h1, h2, h3, h4, h5, h6, h7, h8⟩ := hSw
    go_simp
    try with_reducible rfl
  simp only [Act.put, List.setIfInBounds_toArray, List.set_cons_zero, List.set_cons_succ]
  refine wpAnyH_take (i := 13) (oi := { dst := some 69, op := Op.fieldAddr 41 (Operand.tmp 3) 6, type := 0, pos := "trace.go:150", after := #[], guard := none }) (v := ?_) rfl (by as_aux_lemma => kernel_rfl) (by as_aux_lemma => kernel_rfl) (by as_aux_lemma => kernel_rfl) (fun _ _ _ h => h) (Or.inl ⟨by rfl, ?_⟩) (by assumption) ?_
  rotate_left
  · intro wq hSw
    go_simp
    try with_reducible rfl
  simp only [Act.put, List.setIfInBounds_toArray, List.set_cons_zero, List.set_cons_succ]
  refine wpAnyH_take (i := 14) (oi := { dst := some 70, op := Op.load 3 (Operand.tmp 69), type := 3, pos := "trace.go:150", after := #[{ on := 13, ground := Ground.data }], guard := none }) (v := ?_) rfl (by as_aux_lemma => kernel_rfl) (by as_aux_lemma => kernel_rfl) (by as_aux_lemma => kernel_rfl) (fun _ _ _ h => h) (Or.inl ⟨by rfl, ?_⟩) (by assumption) ?_
  rotate_left
  · intro wq hSw
    obtain ⟨h1, h2, h3, h4, h5, h6, h7, h8⟩ := hSw
    go_simp
    try with_reducible rfl
  simp only [Act.put, List.setIfInBounds_toArray, List.set_cons_zero, List.set_cons_succ]
  refine wpAnyH_take (i := 15) (oi := { dst := some 71, op := Op.build 44 #[(0, Operand.tmp 62), (1, Operand.tmp 64), (2, Operand.tmp 66), (3, Operand.tmp 68), (4, Operand.tmp 70)], type := 44, pos := "trace.go:150", after := #[{ on := 6, ground := Ground.data }, { on := 8, ground := Ground.data }, { on := 10, ground := Ground.data }, { on := 12, ground := Ground.data }, { on := 14, ground := Ground.data }], guard := none }) (v := ?_) rfl (by as_aux_lemma => kernel_rfl) (by as_aux_lemma => kernel_rfl) (by as_aux_lemma => kernel_rfl) (fun _ _ _ h => h) (Or.inl ⟨by rfl, ?_⟩) (by assumption) ?_
  rotate_left
  · intro wq hSw
    go_simp
    try with_reducible rfl
  simp only [Act.put, List.setIfInBounds_toArray, List.set_cons_zero, List.set_cons_succ]
  refine wpAnyH_ready (rs := [4, 16]) (by as_aux_lemma => kernel_rfl) (by simp) ?_
  refine AllReadyH.cons (o := { dst := some 60, op := Op.load 35 (Operand.tmp 59), type := 35, pos := "trace.go:150", after := #[{ on := 3, ground := Ground.data }], guard := none }) rfl (fun KK hKK => ?_) ?_
  · go_simp
    refine hKK.out _ _ (by assumption) (fun hHeld => ?_)
    clear hKK KK
    try simp only [Act.put, List.setIfInBounds_toArray, List.set_cons_zero, List.set_cons_succ]
    refine wpAnyH_ready (rs := [16]) (by as_aux_lemma => kernel_rfl) (by simp) ?_
    refine AllReadyH.cons (o := { dst := some 72, op := Op.buildSlice 35 1 #[(0, Operand.tmp 71)], type := 35, pos := "trace.go:150", after := #[{ on := 15, ground := Ground.data }], guard := none }) rfl (fun KK hKK => ?_) ?_
    · go_simp
      refine hKK.out _ _ (by first | exact hSa | assumption) (fun hHeld => ?_)
      clear hKK KK
      try simp only [Act.put, List.setIfInBounds_toArray, List.set_cons_zero, List.set_cons_succ]
      refine wpAnyH_ready (rs := [17]) (by as_aux_lemma => kernel_rfl) (by simp) ?_
      refine AllReadyH.cons (o := { dst := some 73, op := Op.call { callee := Callee.builtin Builtin.append, args := #[Operand.tmp 60, Operand.tmp 72], argTypes := #[35, 35] }, type := 35, pos := "trace.go:150", after := #[{ on := 4, ground := Ground.data }, { on := 16, ground := Ground.data }], guard := none }) rfl (fun KK hKK => ?_) ?_
      · refine step_append_any _ (by rfl) (.tmp 60) (.tmp 72) 35 (by rfl) K 44 i0 (Value.agg #[.int .i64 0, .int .i64 0, .int .i64 0, .int .i64 0, .int .i64 0, .int .i64 0, .int .i64 0, .int .i64 0, .int .i64 0, .int .i64 0, .bool false, .bool false, .int .i64 0]) 13 96 Try.underlying35 HI0.out HZ0.out HZ1.out HZ2.out rfl (by decide) (.slice Av os.length cv) os.length (ov os) (by rfl) HMa.out.row (w5.heap.size + 1) (some ⟨w5.heap.size, 0, none⟩) 1 1 [.int .i64 e.c, .int .i64 e.g, .int .i64 e.n, .int .i64 e.s, .int .i64 e.p, .int .i64 e.l, .int .i64 e.u, .int .i64 e.q, .int .i64 e.q, .int .i64 0, .bool false, .bool false, .int .i64 0] (by rfl) HR.out NV.out N1.out N2.out HMa.out.hK ?_
        intro v6 w6 hown6 hgrow6 hblk6
        obtain ⟨A6, c6, rfl⟩ := own_shape hown6
        have hgr := grown_undrewS hgrow6
        have hb6 := HM5.out.app_low hgr
        have hP := HM5.out.push (x := ⟨e.c, e.g, e.n, e.s, e.p, e.l, e.u, e.q, e.q, 0, false, false, 0⟩) hown6 hgr (hblk6.imp id (fun e => ⟨_, e, by show w5.heap.size ≤ (w5.alloc _).heap.size; rw [World.size_alloc]; omega⟩))
        have c7 := (hb6.cell (p := ⟨B, 7, none⟩) HM5.out.kB).trans m7
        have g7 := (hb6.frozen (p := ⟨B, 7, none⟩) HM5.out.kB).trans f7
        have hE6 : Bl E0 [.int .i64 e.k, .int .i64 e.c, .int .i64 e.g, .int .i64 e.o, .int .i64 e.w, .int .i64 e.n, .int .i64 e.s, .int .i64 e.p, .int .i64 e.l, .int .i64 e.u, .int .i64 e.q, .int .i64 e.pr, .int .i64 e.t, .int .i64 e.en] w6 := (HE5.out.below ((Below.refl _ _).alloc (Nat.le_refl _) _)).grown hgr HNG.out
        have hS6 := And.intro (hE6.cell 1 _ rfl) (And.intro (hE6.cell 2 _ rfl) (And.intro (hE6.cell 5 _ rfl) (And.intro (hE6.cell 6 _ rfl) (And.intro (hE6.cell 7 _ rfl) (And.intro (hE6.cell 8 _ rfl) (And.intro (hE6.cell 9 _ rfl) (hE6.cell 10 _ rfl)))))))
        have hE7 := hE6.far (p := ⟨B, 7, none⟩) HBE.out (.slice A6 (os.length + 1) c6)
        have hS7 := And.intro (hE7.cell 1 _ rfl) (And.intro (hE7.cell 2 _ rfl) (And.intro (hE7.cell 5 _ rfl) (And.intro (hE7.cell 6 _ rfl) (And.intro (hE7.cell 7 _ rfl) (And.intro (hE7.cell 8 _ rfl) (And.intro (hE7.cell 9 _ rfl) (hE7.cell 10 _ rfl)))))))
        refine hKK.out _ _ (hS6) (fun hHeld => ?_)
        clear hKK KK
        try simp only [Act.put, List.setIfInBounds_toArray, List.set_cons_zero, List.set_cons_succ]
        refine wpAnyH_take (i := 18) (oi := { dst := some 74, op := Op.nilCheck (Operand.tmp 56), type := 0, pos := "trace.go:150", after := #[{ on := 0, ground := Ground.data }, { on := 0, ground := Ground.phase }, { on := 1, ground := Ground.phase }, { on := 2, ground := Ground.phase }, { on := 3, ground := Ground.phase }, { on := 4, ground := Ground.phase }, { on := 5, ground := Ground.phase }, { on := 6, ground := Ground.phase }, { on := 7, ground := Ground.phase }, { on := 8, ground := Ground.phase }, { on := 9, ground := Ground.phase }, { on := 10, ground := Ground.phase }, { on := 11, ground := Ground.phase }, { on := 12, ground := Ground.phase }, { on := 13, ground := Ground.phase }, { on := 14, ground := Ground.phase }, { on := 15, ground := Ground.phase }, { on := 16, ground := Ground.phase }, { on := 17, ground := Ground.phase }], guard := none }) (v := ?_) rfl (by as_aux_lemma => kernel_rfl) (by as_aux_lemma => kernel_rfl) (by as_aux_lemma => kernel_rfl) (fun _ _ _ h => h) (Or.inl ⟨by rfl, ?_⟩) (by assumption) ?_
        rotate_left
        · intro wq hSw
          go_simp
          try with_reducible rfl
        simp only [Act.put, List.setIfInBounds_toArray, List.set_cons_zero, List.set_cons_succ]
        refine wpAnyH_take (i := 19) (oi := { dst := some 75, op := Op.fieldAddr 61 (Operand.tmp 74) 1, type := 0, pos := "trace.go:150", after := #[{ on := 18, ground := Ground.data }, { on := 0, ground := Ground.phase }, { on := 1, ground := Ground.phase }, { on := 2, ground := Ground.phase }, { on := 3, ground := Ground.phase }, { on := 4, ground := Ground.phase }, { on := 5, ground := Ground.phase }, { on := 6, ground := Ground.phase }, { on := 7, ground := Ground.phase }, { on := 8, ground := Ground.phase }, { on := 9, ground := Ground.phase }, { on := 10, ground := Ground.phase }, { on := 11, ground := Ground.phase }, { on := 12, ground := Ground.phase }, { on := 13, ground := Ground.phase }, { on := 14, ground := Ground.phase }, { on := 15, ground := Ground.phase }, { on := 16, ground := Ground.phase }, { on := 17, ground := Ground.phase }], guard := none }) (v := ?_) rfl (by as_aux_lemma => kernel_rfl) (by as_aux_lemma => kernel_rfl) (by as_aux_lemma => kernel_rfl) (fun _ _ _ h => h) (Or.inl ⟨by rfl, ?_⟩) (by assumption) ?_
        rotate_left
        · intro wq hSw
          go_simp
          try with_reducible rfl
        simp only [Act.put, List.setIfInBounds_toArray, List.set_cons_zero, List.set_cons_succ]
        refine wpAnyH_ready (rs := [20]) (by as_aux_lemma => kernel_rfl) (by simp) ?_
        refine AllReadyH.cons (o := { dst := none, op := Op.store 35 (Operand.tmp 75) (Operand.tmp 73), type := 0, pos := "trace.go:150", after := #[{ on := 19, ground := Ground.data }, { on := 17, ground := Ground.data }, { on := 17, ground := Ground.chain }, { on := 0, ground := Ground.phase }, { on := 1, ground := Ground.phase }, { on := 2, ground := Ground.phase }, { on := 3, ground := Ground.phase }, { on := 4, ground := Ground.phase }, { on := 5, ground := Ground.phase }, { on := 6, ground := Ground.phase }, { on := 7, ground := Ground.phase }, { on := 8, ground := Ground.phase }, { on := 9, ground := Ground.phase }, { on := 10, ground := Ground.phase }, { on := 11, ground := Ground.phase }, { on := 12, ground := Ground.phase }, { on := 13, ground := Ground.phase }, { on := 14, ground := Ground.phase }, { on := 15, ground := Ground.phase }, { on := 16, ground := Ground.phase }, { on := 17, ground := Ground.phase }], guard := none }) rfl (fun KK hKK => ?_) ?_
        · go_simp
          refine hKK.out _ _ (hS7) (fun hHeld => ?_)
          clear hKK KK
          try simp only [Act.put, List.setIfInBounds_toArray, List.set_cons_zero, List.set_cons_succ]
          refine wpAnyH_done (by as_aux_lemma => kernel_rfl) ?_ _
          apply ret_ofS
          · assumption
          go_wp2_with fail
          go_ret
          exact ⟨rfl, _, hP⟩
        exact AllReadyH.nil
      exact AllReadyH.nil
    exact AllReadyH.nil
  refine AllReadyH.cons (o := { dst := some 72, op := Op.buildSlice 35 1 #[(0, Operand.tmp 71)], type := 35, pos := "trace.go:150", after := #[{ on := 15, ground := Ground.data }], guard := none }) rfl (fun KK hKK => ?_) ?_
  · go_simp
    refine hKK.out _ _ (by first | exact hSa | assumption) (fun hHeld => ?_)
    clear hKK KK
    try simp only [Act.put, List.setIfInBounds_toArray, List.set_cons_zero, List.set_cons_succ]
    refine wpAnyH_ready (rs := [4]) (by as_aux_lemma => kernel_rfl) (by simp) ?_
    refine AllReadyH.cons (o := { dst := some 60, op := Op.load 35 (Operand.tmp 59), type := 35, pos := "trace.go:150", after := #[{ on := 3, ground := Ground.data }], guard := none }) rfl (fun KK hKK => ?_) ?_
    · go_simp
      refine hKK.out _ _ (by first | exact hSa | assumption) (fun hHeld => ?_)
      clear hKK KK
      try simp only [Act.put, List.setIfInBounds_toArray, List.set_cons_zero, List.set_cons_succ]
      refine wpAnyH_ready (rs := [17]) (by as_aux_lemma => kernel_rfl) (by simp) ?_
      refine AllReadyH.cons (o := { dst := some 73, op := Op.call { callee := Callee.builtin Builtin.append, args := #[Operand.tmp 60, Operand.tmp 72], argTypes := #[35, 35] }, type := 35, pos := "trace.go:150", after := #[{ on := 4, ground := Ground.data }, { on := 16, ground := Ground.data }], guard := none }) rfl (fun KK hKK => ?_) ?_
      · refine step_append_any _ (by rfl) (.tmp 60) (.tmp 72) 35 (by rfl) K 44 i0 (Value.agg #[.int .i64 0, .int .i64 0, .int .i64 0, .int .i64 0, .int .i64 0, .int .i64 0, .int .i64 0, .int .i64 0, .int .i64 0, .int .i64 0, .bool false, .bool false, .int .i64 0]) 13 96 Try.underlying35 HI0.out HZ0.out HZ1.out HZ2.out rfl (by decide) (.slice Av os.length cv) os.length (ov os) (by rfl) HMa.out.row (w5.heap.size + 1) (some ⟨w5.heap.size, 0, none⟩) 1 1 [.int .i64 e.c, .int .i64 e.g, .int .i64 e.n, .int .i64 e.s, .int .i64 e.p, .int .i64 e.l, .int .i64 e.u, .int .i64 e.q, .int .i64 e.q, .int .i64 0, .bool false, .bool false, .int .i64 0] (by rfl) HR.out NV.out N1.out N2.out HMa.out.hK ?_
        intro v6 w6 hown6 hgrow6 hblk6
        obtain ⟨A6, c6, rfl⟩ := own_shape hown6
        have hgr := grown_undrewS hgrow6
        have hb6 := HM5.out.app_low hgr
        have hP := HM5.out.push (x := ⟨e.c, e.g, e.n, e.s, e.p, e.l, e.u, e.q, e.q, 0, false, false, 0⟩) hown6 hgr (hblk6.imp id (fun e => ⟨_, e, by show w5.heap.size ≤ (w5.alloc _).heap.size; rw [World.size_alloc]; omega⟩))
        have c7 := (hb6.cell (p := ⟨B, 7, none⟩) HM5.out.kB).trans m7
        have g7 := (hb6.frozen (p := ⟨B, 7, none⟩) HM5.out.kB).trans f7
        have hE6 : Bl E0 [.int .i64 e.k, .int .i64 e.c, .int .i64 e.g, .int .i64 e.o, .int .i64 e.w, .int .i64 e.n, .int .i64 e.s, .int .i64 e.p, .int .i64 e.l, .int .i64 e.u, .int .i64 e.q, .int .i64 e.pr, .int .i64 e.t, .int .i64 e.en] w6 := (HE5.out.below ((Below.refl _ _).alloc (Nat.le_refl _) _)).grown hgr HNG.out
        have hS6 := And.intro (hE6.cell 1 _ rfl) (And.intro (hE6.cell 2 _ rfl) (And.intro (hE6.cell 5 _ rfl) (And.intro (hE6.cell 6 _ rfl) (And.intro (hE6.cell 7 _ rfl) (And.intro (hE6.cell 8 _ rfl) (And.intro (hE6.cell 9 _ rfl) (hE6.cell 10 _ rfl)))))))
        have hE7 := hE6.far (p := ⟨B, 7, none⟩) HBE.out (.slice A6 (os.length + 1) c6)
        have hS7 := And.intro (hE7.cell 1 _ rfl) (And.intro (hE7.cell 2 _ rfl) (And.intro (hE7.cell 5 _ rfl) (And.intro (hE7.cell 6 _ rfl) (And.intro (hE7.cell 7 _ rfl) (And.intro (hE7.cell 8 _ rfl) (And.intro (hE7.cell 9 _ rfl) (hE7.cell 10 _ rfl)))))))
        refine hKK.out _ _ (hS6) (fun hHeld => ?_)
        clear hKK KK
        try simp only [Act.put, List.setIfInBounds_toArray, List.set_cons_zero, List.set_cons_succ]
        refine wpAnyH_take (i := 18) (oi := { dst := some 74, op := Op.nilCheck (Operand.tmp 56), type := 0, pos := "trace.go:150", after := #[{ on := 0, ground := Ground.data }, { on := 0, ground := Ground.phase }, { on := 1, ground := Ground.phase }, { on := 2, ground := Ground.phase }, { on := 3, ground := Ground.phase }, { on := 4, ground := Ground.phase }, { on := 5, ground := Ground.phase }, { on := 6, ground := Ground.phase }, { on := 7, ground := Ground.phase }, { on := 8, ground := Ground.phase }, { on := 9, ground := Ground.phase }, { on := 10, ground := Ground.phase }, { on := 11, ground := Ground.phase }, { on := 12, ground := Ground.phase }, { on := 13, ground := Ground.phase }, { on := 14, ground := Ground.phase }, { on := 15, ground := Ground.phase }, { on := 16, ground := Ground.phase }, { on := 17, ground := Ground.phase }], guard := none }) (v := ?_) rfl (by as_aux_lemma => kernel_rfl) (by as_aux_lemma => kernel_rfl) (by as_aux_lemma => kernel_rfl) (fun _ _ _ h => h) (Or.inl ⟨by rfl, ?_⟩) (by assumption) ?_
        rotate_left
        · intro wq hSw
          go_simp
          try with_reducible rfl
        simp only [Act.put, List.setIfInBounds_toArray, List.set_cons_zero, List.set_cons_succ]
        refine wpAnyH_take (i := 19) (oi := { dst := some 75, op := Op.fieldAddr 61 (Operand.tmp 74) 1, type := 0, pos := "trace.go:150", after := #[{ on := 18, ground := Ground.data }, { on := 0, ground := Ground.phase }, { on := 1, ground := Ground.phase }, { on := 2, ground := Ground.phase }, { on := 3, ground := Ground.phase }, { on := 4, ground := Ground.phase }, { on := 5, ground := Ground.phase }, { on := 6, ground := Ground.phase }, { on := 7, ground := Ground.phase }, { on := 8, ground := Ground.phase }, { on := 9, ground := Ground.phase }, { on := 10, ground := Ground.phase }, { on := 11, ground := Ground.phase }, { on := 12, ground := Ground.phase }, { on := 13, ground := Ground.phase }, { on := 14, ground := Ground.phase }, { on := 15, ground := Ground.phase }, { on := 16, ground := Ground.phase }, { on := 17, ground := Ground.phase }], guard := none }) (v := ?_) rfl (by as_aux_lemma => kernel_rfl) (by as_aux_lemma => kernel_rfl) (by as_aux_lemma => kernel_rfl) (fun _ _ _ h => h) (Or.inl ⟨by rfl, ?_⟩) (by assumption) ?_
        rotate_left
        · intro wq hSw
          go_simp
          try with_reducible rfl
        simp only [Act.put, List.setIfInBounds_toArray, List.set_cons_zero, List.set_cons_succ]
        refine wpAnyH_ready (rs := [20]) (by as_aux_lemma => kernel_rfl) (by simp) ?_
        refine AllReadyH.cons (o := { dst := none, op := Op.store 35 (Operand.tmp 75) (Operand.tmp 73), type := 0, pos := "trace.go:150", after := #[{ on := 19, ground := Ground.data }, { on := 17, ground := Ground.data }, { on := 17, ground := Ground.chain }, { on := 0, ground := Ground.phase }, { on := 1, ground := Ground.phase }, { on := 2, ground := Ground.phase }, { on := 3, ground := Ground.phase }, { on := 4, ground := Ground.phase }, { on := 5, ground := Ground.phase }, { on := 6, ground := Ground.phase }, { on := 7, ground := Ground.phase }, { on := 8, ground := Ground.phase }, { on := 9, ground := Ground.phase }, { on := 10, ground := Ground.phase }, { on := 11, ground := Ground.phase }, { on := 12, ground := Ground.phase }, { on := 13, ground := Ground.phase }, { on := 14, ground := Ground.phase }, { on := 15, ground := Ground.phase }, { on := 16, ground := Ground.phase }, { on := 17, ground := Ground.phase }], guard := none }) rfl (fun KK hKK => ?_) ?_
        · go_simp
          refine hKK.out _ _ (hS7) (fun hHeld => ?_)
          clear hKK KK
          try simp only [Act.put, List.setIfInBounds_toArray, List.set_cons_zero, List.set_cons_succ]
          refine wpAnyH_done (by as_aux_lemma => kernel_rfl) ?_ _
          apply ret_ofS
          · assumption
          go_wp2_with fail
          go_ret
          exact ⟨rfl, _, hP⟩
        exact AllReadyH.nil
      exact AllReadyH.nil
    exact AllReadyH.nil
  exact AllReadyH.nil
set_option maxRecDepth 100000 in
set_option maxHeartbeats 16000000 in
theorem submit_is (Fx : Nat → Option Obj → Prop) (w wr : World) (B K : Nat) (p c n b r f g now : Int) (v : Value) (os : List Ord) (e : Evt) (h : MS Fx w wr B K p c n b r f g v os now) (hl : os.length ≤ 900) (hI : Inv f os) (hp : 1 ≤ p ∧ p ≤ 6) (hc : 1 ≤ c ∧ c ≤ 4) (hf : 0 ≤ f) (hg15 : g ≤ 15) (hk : e.k = 1) : EvIs Fx w wr B K p c n b r f g now os e 20 := by
  have hg1 : Below wr.heap.size wr (wr.alloc (.cells #[.int .i64 e.k, .int .i64 e.c, .int .i64 e.g, .int .i64 e.o, .int .i64 e.w, .int .i64 e.n, .int .i64 e.s, .int .i64 e.p, .int .i64 e.l, .int .i64 e.u, .int .i64 e.q, .int .i64 e.pr, .int .i64 e.t, .int .i64 e.en] 41)) := by go_grown
  have HE := Lib.hid (Bl.new wr [.int .i64 e.k, .int .i64 e.c, .int .i64 e.g, .int .i64 e.o, .int .i64 e.w, .int .i64 e.n, .int .i64 e.s, .int .i64 e.p, .int .i64 e.l, .int .i64 e.u, .int .i64 e.q, .int .i64 e.pr, .int .i64 e.t, .int .i64 e.en] 41)
  have HM := Lib.hid (h.below hg1)
  have HKK := Lib.hid hk
  have HI := Lib.hid hI
  have HOW := Lib.hid (fun W => owner_is p c n b r f g e.c W hp hc)
  obtain ⟨x, hx⟩ := last_ex os e.c
  have HLX := Lib.hid hx
  have HLA := Lib.hid (fun W (hW : MS Fx w W B K p c n b r f g v os now) => (last_is Fx w W B K p c n b r f g now v os e.c hW (by omega)).mono (fun rr W' (hh : (∃ y, rr = .returned (.agg #[.int .i64 y.c, .int .i64 y.g, .int .i64 y.n, .int .i64 y.s, .int .i64 y.p, .int .i64 y.l, .int .i64 y.u, .int .i64 y.q, .int .i64 y.lf, .int .i64 y.fl, .bool y.ak, .bool y.rs, .int .i64 y.en]) ∧ LastIs os e.c y) ∧ Below W.heap.size W W') => show rr = .returned (.agg #[.int .i64 x.c, .int .i64 x.g, .int .i64 x.n, .int .i64 x.s, .int .i64 x.p, .int .i64 x.l, .int .i64 x.u, .int .i64 x.q, .int .i64 x.lf, .int .i64 x.fl, .bool x.ak, .bool x.rs, .int .i64 x.en]) ∧ Below W.heap.size W W' from by
    obtain ⟨⟨y, h1, h2⟩, h3⟩ := hh
    rw [last_uni hx h2]
    exact ⟨h1, h3⟩))
  have HF := Lib.hid hf
  have HSO := Lib.hid (fun (a1 : ¬ ow p c e.c < 0) (a2 : x.en ≠ 0) (a3 : ¬ g ≤ x.g) (a4 : e.g = x.g + 1) (a5 : ∀ W, Calls Try.prog 33 #[.agg #[.int .i64 p, .int .i64 c, .int .i64 n, .int .i64 b, .int .i64 r, .int .i64 f, .int .i64 g], .agg #[.int .i64 e.n, .int .i64 e.s, .int .i64 e.p, .int .i64 e.l, .int .i64 e.u], .int .i64 e.q, .int .i64 0] W fun rr w' => rr = .returned .nilIface ∧ Below W.heap.size W w') => submit_ok Fx w wr B K p c n b r f g now v os e x h hl hI hp hc a1 hx a2 a3 hg15 a4 a5)
  have HL9 := Lib.hid hl
  clear h hg1 hk hI hx hp hc hf hl
  by_cases how : ow p c e.c < 0
  · have d0 : decide (ow p c e.c < 0) = true := decide_eq_true how
    generalize ow p c e.c = owv at *
    refine ⟨.iface 57 (.int .i64 21), os, ?_, .inl ⟨21, rfl, rfl⟩⟩
    go_enter Try.func20, Try.ntmps20
    go_wp2_with fail
    have HM1 := HM
    have HE1 := HE
    generalize (wr.alloc (.cells #[.int .i64 e.k, .int .i64 e.c, .int .i64 e.g, .int .i64 e.o, .int .i64 e.w, .int .i64 e.n, .int .i64 e.s, .int .i64 e.p, .int .i64 e.l, .int .i64 e.u, .int .i64 e.q, .int .i64 e.pr, .int .i64 e.t, .int .i64 e.en] 41)) = w1 at *
    generalize wr.heap.size = E0 at *
    have HMd := Lib.hid (HM1.out.below (Below.drew (Below.refl _ _)))
    have HEd := Lib.hid (HE1.out.below (Below.drew (Below.refl _ _)))
    have hS : w1.drew.cell? ⟨B, 0, none⟩ = some (.int .i64 p) ∧ w1.drew.cell? ⟨B, 1, none⟩ = some (.int .i64 c) ∧ w1.drew.cell? ⟨B, 2, none⟩ = some (.int .i64 n) ∧ w1.drew.cell? ⟨B, 3, none⟩ = some (.int .i64 b) ∧ w1.drew.cell? ⟨B, 4, none⟩ = some (.int .i64 r) ∧ w1.drew.cell? ⟨B, 5, none⟩ = some (.int .i64 f) ∧ w1.drew.cell? ⟨B, 6, none⟩ = some (.int .i64 g) ∧ w1.drew.cell? ⟨E0, 1, none⟩ = some (.int .i64 e.c) := And.intro (HMd.out.blk.cell 0 _ rfl) (And.intro (HMd.out.blk.cell 1 _ rfl) (And.intro (HMd.out.blk.cell 2 _ rfl) (And.intro (HMd.out.blk.cell 3 _ rfl) (And.intro (HMd.out.blk.cell 4 _ rfl) (And.intro (HMd.out.blk.cell 5 _ rfl) (And.intro (HMd.out.blk.cell 6 _ rfl) (HEd.out.cell 1 _ rfl)))))))
    go_region_held3 (fun w' => w'.cell? ⟨B, 0, none⟩ = some (.int .i64 p) ∧ w'.cell? ⟨B, 1, none⟩ = some (.int .i64 c) ∧ w'.cell? ⟨B, 2, none⟩ = some (.int .i64 n) ∧ w'.cell? ⟨B, 3, none⟩ = some (.int .i64 b) ∧ w'.cell? ⟨B, 4, none⟩ = some (.int .i64 r) ∧ w'.cell? ⟨B, 5, none⟩ = some (.int .i64 f) ∧ w'.cell? ⟨B, 6, none⟩ = some (.int .i64 g) ∧ w'.cell? ⟨E0, 1, none⟩ = some (.int .i64 e.c)) (first | with_reducible exact hS | fail) (first | (go_at_call 31; (with_reducible refine (HOW.out _).mono ?_); rintro rr w2 ⟨rfl, hb2⟩; have HM2 := Lib.hid (HMd.out.below hb2); have HE2 := Lib.hid (HEd.out.below hb2); have hS : w2.cell? ⟨B, 0, none⟩ = some (.int .i64 p) ∧ w2.cell? ⟨B, 1, none⟩ = some (.int .i64 c) ∧ w2.cell? ⟨B, 2, none⟩ = some (.int .i64 n) ∧ w2.cell? ⟨B, 3, none⟩ = some (.int .i64 b) ∧ w2.cell? ⟨B, 4, none⟩ = some (.int .i64 r) ∧ w2.cell? ⟨B, 5, none⟩ = some (.int .i64 f) ∧ w2.cell? ⟨B, 6, none⟩ = some (.int .i64 g) ∧ w2.cell? ⟨E0, 1, none⟩ = some (.int .i64 e.c) := And.intro (HM2.out.blk.cell 0 _ rfl) (And.intro (HM2.out.blk.cell 1 _ rfl) (And.intro (HM2.out.blk.cell 2 _ rfl) (And.intro (HM2.out.blk.cell 3 _ rfl) (And.intro (HM2.out.blk.cell 4 _ rfl) (And.intro (HM2.out.blk.cell 5 _ rfl) (And.intro (HM2.out.blk.cell 6 _ rfl) (HE2.out.cell 1 _ rfl))))))); clear hb2) | fail)
    clear hS HMd HEd
    go_wp2_with fail
    go_ret
    exact ⟨rfl, _, HM2.out⟩
  · have d0 : decide (ow p c e.c < 0) = false := decide_eq_false how
    have HOWN := Lib.hid how
    clear how
    generalize ow p c e.c = owv at *
    by_cases hxe : x.en = 0
    · have e2 : (x.en == 0) = true := by simpa using hxe
      have HXE := Lib.hid hxe
      clear hxe
      refine ⟨.iface 57 (.int .i64 27), os, ?_, .inl ⟨27, rfl, rfl⟩⟩
      go_enter Try.func20, Try.ntmps20
      go_wp2_with fail
      have HM1 := HM
      have HE1 := HE
      generalize (wr.alloc (.cells #[.int .i64 e.k, .int .i64 e.c, .int .i64 e.g, .int .i64 e.o, .int .i64 e.w, .int .i64 e.n, .int .i64 e.s, .int .i64 e.p, .int .i64 e.l, .int .i64 e.u, .int .i64 e.q, .int .i64 e.pr, .int .i64 e.t, .int .i64 e.en] 41)) = w1 at *
      generalize wr.heap.size = E0 at *
      have HMd := Lib.hid (HM1.out.below (Below.drew (Below.refl _ _)))
      have HEd := Lib.hid (HE1.out.below (Below.drew (Below.refl _ _)))
      have hS : w1.drew.cell? ⟨B, 0, none⟩ = some (.int .i64 p) ∧ w1.drew.cell? ⟨B, 1, none⟩ = some (.int .i64 c) ∧ w1.drew.cell? ⟨B, 2, none⟩ = some (.int .i64 n) ∧ w1.drew.cell? ⟨B, 3, none⟩ = some (.int .i64 b) ∧ w1.drew.cell? ⟨B, 4, none⟩ = some (.int .i64 r) ∧ w1.drew.cell? ⟨B, 5, none⟩ = some (.int .i64 f) ∧ w1.drew.cell? ⟨B, 6, none⟩ = some (.int .i64 g) ∧ w1.drew.cell? ⟨E0, 1, none⟩ = some (.int .i64 e.c) := And.intro (HMd.out.blk.cell 0 _ rfl) (And.intro (HMd.out.blk.cell 1 _ rfl) (And.intro (HMd.out.blk.cell 2 _ rfl) (And.intro (HMd.out.blk.cell 3 _ rfl) (And.intro (HMd.out.blk.cell 4 _ rfl) (And.intro (HMd.out.blk.cell 5 _ rfl) (And.intro (HMd.out.blk.cell 6 _ rfl) (HEd.out.cell 1 _ rfl)))))))
      go_region_held3 (fun w' => w'.cell? ⟨B, 0, none⟩ = some (.int .i64 p) ∧ w'.cell? ⟨B, 1, none⟩ = some (.int .i64 c) ∧ w'.cell? ⟨B, 2, none⟩ = some (.int .i64 n) ∧ w'.cell? ⟨B, 3, none⟩ = some (.int .i64 b) ∧ w'.cell? ⟨B, 4, none⟩ = some (.int .i64 r) ∧ w'.cell? ⟨B, 5, none⟩ = some (.int .i64 f) ∧ w'.cell? ⟨B, 6, none⟩ = some (.int .i64 g) ∧ w'.cell? ⟨E0, 1, none⟩ = some (.int .i64 e.c)) (first | with_reducible exact hS | fail) (first | (go_at_call 31; (with_reducible refine (HOW.out _).mono ?_); rintro rr w2 ⟨rfl, hb2⟩; have HM2 := Lib.hid (HMd.out.below hb2); have HE2 := Lib.hid (HEd.out.below hb2); have hS : w2.cell? ⟨B, 0, none⟩ = some (.int .i64 p) ∧ w2.cell? ⟨B, 1, none⟩ = some (.int .i64 c) ∧ w2.cell? ⟨B, 2, none⟩ = some (.int .i64 n) ∧ w2.cell? ⟨B, 3, none⟩ = some (.int .i64 b) ∧ w2.cell? ⟨B, 4, none⟩ = some (.int .i64 r) ∧ w2.cell? ⟨B, 5, none⟩ = some (.int .i64 f) ∧ w2.cell? ⟨B, 6, none⟩ = some (.int .i64 g) ∧ w2.cell? ⟨E0, 1, none⟩ = some (.int .i64 e.c) := And.intro (HM2.out.blk.cell 0 _ rfl) (And.intro (HM2.out.blk.cell 1 _ rfl) (And.intro (HM2.out.blk.cell 2 _ rfl) (And.intro (HM2.out.blk.cell 3 _ rfl) (And.intro (HM2.out.blk.cell 4 _ rfl) (And.intro (HM2.out.blk.cell 5 _ rfl) (And.intro (HM2.out.blk.cell 6 _ rfl) (HE2.out.cell 1 _ rfl))))))); clear hb2) | fail)
      clear hS HMd HEd
      have x1 := HE2.out.cell 1 _ rfl
      go_wp2_with fail
      refine (HLA.out _ HM2.out).mono ?_
      rintro rr w3 ⟨rfl, hb3⟩
      have hba := (Below.refl w3.heap.size w3).alloc (Nat.le_refl _) (Obj.cells #[.int .i64 x.c, .int .i64 x.g, .int .i64 x.n, .int .i64 x.s, .int .i64 x.p, .int .i64 x.l, .int .i64 x.u, .int .i64 x.q, .int .i64 x.lf, .int .i64 x.fl, .bool x.ak, .bool x.rs, .int .i64 x.en] 44)
      have HM3 := Lib.hid ((HM2.out.below hb3).below hba)
      have HE3 := Lib.hid ((HE2.out.below hb3).below hba)
      have HL3 := Lib.hid (Bl.new w3 [.int .i64 x.c, .int .i64 x.g, .int .i64 x.n, .int .i64 x.s, .int .i64 x.p, .int .i64 x.l, .int .i64 x.u, .int .i64 x.q, .int .i64 x.lf, .int .i64 x.fl, .bool x.ak, .bool x.rs, .int .i64 x.en] 44)
      clear x1 hba hb3
      have l12 := HL3.out.cell 12 _ rfl
      go_wp2_with fail
      go_ret
      exact ⟨rfl, _, HM3.out⟩
    · have e2 : (x.en == 0) = false := by simpa using hxe
      have HXN := Lib.hid hxe
      clear hxe
      by_cases hfull : g ≤ x.g
      · refine ⟨.iface 57 (.int .i64 28), os, ?_, .inl ⟨28, rfl, rfl⟩⟩
        go_enter Try.func20, Try.ntmps20
        go_wp2_with fail
        have HM1 := HM
        have HE1 := HE
        generalize (wr.alloc (.cells #[.int .i64 e.k, .int .i64 e.c, .int .i64 e.g, .int .i64 e.o, .int .i64 e.w, .int .i64 e.n, .int .i64 e.s, .int .i64 e.p, .int .i64 e.l, .int .i64 e.u, .int .i64 e.q, .int .i64 e.pr, .int .i64 e.t, .int .i64 e.en] 41)) = w1 at *
        generalize wr.heap.size = E0 at *
        have HMd := Lib.hid (HM1.out.below (Below.drew (Below.refl _ _)))
        have HEd := Lib.hid (HE1.out.below (Below.drew (Below.refl _ _)))
        have hS : w1.drew.cell? ⟨B, 0, none⟩ = some (.int .i64 p) ∧ w1.drew.cell? ⟨B, 1, none⟩ = some (.int .i64 c) ∧ w1.drew.cell? ⟨B, 2, none⟩ = some (.int .i64 n) ∧ w1.drew.cell? ⟨B, 3, none⟩ = some (.int .i64 b) ∧ w1.drew.cell? ⟨B, 4, none⟩ = some (.int .i64 r) ∧ w1.drew.cell? ⟨B, 5, none⟩ = some (.int .i64 f) ∧ w1.drew.cell? ⟨B, 6, none⟩ = some (.int .i64 g) ∧ w1.drew.cell? ⟨E0, 1, none⟩ = some (.int .i64 e.c) := And.intro (HMd.out.blk.cell 0 _ rfl) (And.intro (HMd.out.blk.cell 1 _ rfl) (And.intro (HMd.out.blk.cell 2 _ rfl) (And.intro (HMd.out.blk.cell 3 _ rfl) (And.intro (HMd.out.blk.cell 4 _ rfl) (And.intro (HMd.out.blk.cell 5 _ rfl) (And.intro (HMd.out.blk.cell 6 _ rfl) (HEd.out.cell 1 _ rfl)))))))
        go_region_held3 (fun w' => w'.cell? ⟨B, 0, none⟩ = some (.int .i64 p) ∧ w'.cell? ⟨B, 1, none⟩ = some (.int .i64 c) ∧ w'.cell? ⟨B, 2, none⟩ = some (.int .i64 n) ∧ w'.cell? ⟨B, 3, none⟩ = some (.int .i64 b) ∧ w'.cell? ⟨B, 4, none⟩ = some (.int .i64 r) ∧ w'.cell? ⟨B, 5, none⟩ = some (.int .i64 f) ∧ w'.cell? ⟨B, 6, none⟩ = some (.int .i64 g) ∧ w'.cell? ⟨E0, 1, none⟩ = some (.int .i64 e.c)) (first | with_reducible exact hS | fail) (first | (go_at_call 31; (with_reducible refine (HOW.out _).mono ?_); rintro rr w2 ⟨rfl, hb2⟩; have HM2 := Lib.hid (HMd.out.below hb2); have HE2 := Lib.hid (HEd.out.below hb2); have hS : w2.cell? ⟨B, 0, none⟩ = some (.int .i64 p) ∧ w2.cell? ⟨B, 1, none⟩ = some (.int .i64 c) ∧ w2.cell? ⟨B, 2, none⟩ = some (.int .i64 n) ∧ w2.cell? ⟨B, 3, none⟩ = some (.int .i64 b) ∧ w2.cell? ⟨B, 4, none⟩ = some (.int .i64 r) ∧ w2.cell? ⟨B, 5, none⟩ = some (.int .i64 f) ∧ w2.cell? ⟨B, 6, none⟩ = some (.int .i64 g) ∧ w2.cell? ⟨E0, 1, none⟩ = some (.int .i64 e.c) := And.intro (HM2.out.blk.cell 0 _ rfl) (And.intro (HM2.out.blk.cell 1 _ rfl) (And.intro (HM2.out.blk.cell 2 _ rfl) (And.intro (HM2.out.blk.cell 3 _ rfl) (And.intro (HM2.out.blk.cell 4 _ rfl) (And.intro (HM2.out.blk.cell 5 _ rfl) (And.intro (HM2.out.blk.cell 6 _ rfl) (HE2.out.cell 1 _ rfl))))))); clear hb2) | fail)
        clear hS HMd HEd
        have x1 := HE2.out.cell 1 _ rfl
        go_wp2_with fail
        refine (HLA.out _ HM2.out).mono ?_
        rintro rr w3 ⟨rfl, hb3⟩
        have hba := (Below.refl w3.heap.size w3).alloc (Nat.le_refl _) (Obj.cells #[.int .i64 x.c, .int .i64 x.g, .int .i64 x.n, .int .i64 x.s, .int .i64 x.p, .int .i64 x.l, .int .i64 x.u, .int .i64 x.q, .int .i64 x.lf, .int .i64 x.fl, .bool x.ak, .bool x.rs, .int .i64 x.en] 44)
        have HM3 := Lib.hid ((HM2.out.below hb3).below hba)
        have HE3 := Lib.hid ((HE2.out.below hb3).below hba)
        have HL3 := Lib.hid (Bl.new w3 [.int .i64 x.c, .int .i64 x.g, .int .i64 x.n, .int .i64 x.s, .int .i64 x.p, .int .i64 x.l, .int .i64 x.u, .int .i64 x.q, .int .i64 x.lf, .int .i64 x.fl, .bool x.ak, .bool x.rs, .int .i64 x.en] 44)
        clear x1 hba hb3
        have l1 := HL3.out.cell 1 _ rfl
        have l12 := HL3.out.cell 12 _ rfl
        have m6 := HM3.out.blk.cell 6 _ rfl
        go_wp2_with fail
        generalize (w3.alloc (Obj.cells #[.int .i64 x.c, .int .i64 x.g, .int .i64 x.n, .int .i64 x.s, .int .i64 x.p, .int .i64 x.l, .int .i64 x.u, .int .i64 x.q, .int .i64 x.lf, .int .i64 x.fl, .bool x.ak, .bool x.rs, .int .i64 x.en] 44)) = w3a at *
        generalize w3.heap.size = L0 at *
        go_quiet (fail)
        have hdn := below_dn (Below.refl w3a.heap.size w3a) nq
        have HMd := Lib.hid (HM3.out.below hdn)
        have HEd := Lib.hid (HE3.out.below hdn)
        have HLd := Lib.hid (HL3.out.below hdn)
        generalize w3a.drewN nq = w4 at *
        clear hdn l1 l12 m6
        go_wp2_with fail
        go_ret
        exact ⟨rfl, _, HMd.out⟩
      · have d6 : decide (g ≤ x.g) = false := decide_eq_false hfull
        obtain ⟨g0, hnew⟩ := last_new HLX.out HI.out
        have HNEW := Lib.hid hnew
        have gx : x.g < 15 := by omega
        have HFU := Lib.hid hfull
        clear hfull hnew
        by_cases hid : e.g = x.g + 1
        · obtain ⟨EC, HCK0, hcase⟩ := check_any p c n b r f g e.n e.s e.p e.l e.u e.q
          have HCK := Lib.hid HCK0
          clear HCK0
          have e9 : (e.g != x.g + 1) = false := by rw [hid]; simp
          have HID := Lib.hid hid
          clear hid
          rcases hcase with ⟨k, rfl⟩ | ⟨rfl, t1, t2, t3, t4, t5⟩
          · refine ⟨.iface 57 (.int .i64 k), os, ?_, .inl ⟨k, rfl, rfl⟩⟩
            go_enter Try.func20, Try.ntmps20
            go_wp2_with fail
            have HM1 := HM
            have HE1 := HE
            generalize (wr.alloc (.cells #[.int .i64 e.k, .int .i64 e.c, .int .i64 e.g, .int .i64 e.o, .int .i64 e.w, .int .i64 e.n, .int .i64 e.s, .int .i64 e.p, .int .i64 e.l, .int .i64 e.u, .int .i64 e.q, .int .i64 e.pr, .int .i64 e.t, .int .i64 e.en] 41)) = w1 at *
            generalize wr.heap.size = E0 at *
            have HMd := Lib.hid (HM1.out.below (Below.drew (Below.refl _ _)))
            have HEd := Lib.hid (HE1.out.below (Below.drew (Below.refl _ _)))
            have hS : w1.drew.cell? ⟨B, 0, none⟩ = some (.int .i64 p) ∧ w1.drew.cell? ⟨B, 1, none⟩ = some (.int .i64 c) ∧ w1.drew.cell? ⟨B, 2, none⟩ = some (.int .i64 n) ∧ w1.drew.cell? ⟨B, 3, none⟩ = some (.int .i64 b) ∧ w1.drew.cell? ⟨B, 4, none⟩ = some (.int .i64 r) ∧ w1.drew.cell? ⟨B, 5, none⟩ = some (.int .i64 f) ∧ w1.drew.cell? ⟨B, 6, none⟩ = some (.int .i64 g) ∧ w1.drew.cell? ⟨E0, 1, none⟩ = some (.int .i64 e.c) := And.intro (HMd.out.blk.cell 0 _ rfl) (And.intro (HMd.out.blk.cell 1 _ rfl) (And.intro (HMd.out.blk.cell 2 _ rfl) (And.intro (HMd.out.blk.cell 3 _ rfl) (And.intro (HMd.out.blk.cell 4 _ rfl) (And.intro (HMd.out.blk.cell 5 _ rfl) (And.intro (HMd.out.blk.cell 6 _ rfl) (HEd.out.cell 1 _ rfl)))))))
            go_region_held3 (fun w' => w'.cell? ⟨B, 0, none⟩ = some (.int .i64 p) ∧ w'.cell? ⟨B, 1, none⟩ = some (.int .i64 c) ∧ w'.cell? ⟨B, 2, none⟩ = some (.int .i64 n) ∧ w'.cell? ⟨B, 3, none⟩ = some (.int .i64 b) ∧ w'.cell? ⟨B, 4, none⟩ = some (.int .i64 r) ∧ w'.cell? ⟨B, 5, none⟩ = some (.int .i64 f) ∧ w'.cell? ⟨B, 6, none⟩ = some (.int .i64 g) ∧ w'.cell? ⟨E0, 1, none⟩ = some (.int .i64 e.c)) (first | with_reducible exact hS | fail) (first | (go_at_call 31; (with_reducible refine (HOW.out _).mono ?_); rintro rr w2 ⟨rfl, hb2⟩; have HM2 := Lib.hid (HMd.out.below hb2); have HE2 := Lib.hid (HEd.out.below hb2); have hS : w2.cell? ⟨B, 0, none⟩ = some (.int .i64 p) ∧ w2.cell? ⟨B, 1, none⟩ = some (.int .i64 c) ∧ w2.cell? ⟨B, 2, none⟩ = some (.int .i64 n) ∧ w2.cell? ⟨B, 3, none⟩ = some (.int .i64 b) ∧ w2.cell? ⟨B, 4, none⟩ = some (.int .i64 r) ∧ w2.cell? ⟨B, 5, none⟩ = some (.int .i64 f) ∧ w2.cell? ⟨B, 6, none⟩ = some (.int .i64 g) ∧ w2.cell? ⟨E0, 1, none⟩ = some (.int .i64 e.c) := And.intro (HM2.out.blk.cell 0 _ rfl) (And.intro (HM2.out.blk.cell 1 _ rfl) (And.intro (HM2.out.blk.cell 2 _ rfl) (And.intro (HM2.out.blk.cell 3 _ rfl) (And.intro (HM2.out.blk.cell 4 _ rfl) (And.intro (HM2.out.blk.cell 5 _ rfl) (And.intro (HM2.out.blk.cell 6 _ rfl) (HE2.out.cell 1 _ rfl))))))); clear hb2) | fail)
            clear hS HMd HEd
            have x1 := HE2.out.cell 1 _ rfl
            go_wp2_with fail
            refine (HLA.out _ HM2.out).mono ?_
            rintro rr w3 ⟨rfl, hb3⟩
            have hba := (Below.refl w3.heap.size w3).alloc (Nat.le_refl _) (Obj.cells #[.int .i64 x.c, .int .i64 x.g, .int .i64 x.n, .int .i64 x.s, .int .i64 x.p, .int .i64 x.l, .int .i64 x.u, .int .i64 x.q, .int .i64 x.lf, .int .i64 x.fl, .bool x.ak, .bool x.rs, .int .i64 x.en] 44)
            have HM3 := Lib.hid ((HM2.out.below hb3).below hba)
            have HE3 := Lib.hid ((HE2.out.below hb3).below hba)
            have HL3 := Lib.hid (Bl.new w3 [.int .i64 x.c, .int .i64 x.g, .int .i64 x.n, .int .i64 x.s, .int .i64 x.p, .int .i64 x.l, .int .i64 x.u, .int .i64 x.q, .int .i64 x.lf, .int .i64 x.fl, .bool x.ak, .bool x.rs, .int .i64 x.en] 44)
            clear x1 hba hb3
            have l1 := HL3.out.cell 1 _ rfl
            have l12 := HL3.out.cell 12 _ rfl
            have m6 := HM3.out.blk.cell 6 _ rfl
            go_wp2_with fail
            generalize (w3.alloc (Obj.cells #[.int .i64 x.c, .int .i64 x.g, .int .i64 x.n, .int .i64 x.s, .int .i64 x.p, .int .i64 x.l, .int .i64 x.u, .int .i64 x.q, .int .i64 x.lf, .int .i64 x.fl, .bool x.ak, .bool x.rs, .int .i64 x.en] 44)) = w3a at *
            generalize w3.heap.size = L0 at *
            go_quiet (fail)
            have hdn := below_dn (Below.refl w3a.heap.size w3a) nq
            have HMd := Lib.hid (HM3.out.below hdn)
            have HEd := Lib.hid (HE3.out.below hdn)
            have HLd := Lib.hid (HL3.out.below hdn)
            generalize w3a.drewN nq = w4 at *
            clear hdn l1 l12 m6
            have x2 := HEd.out.cell 2 _ rfl
            have l1d := HLd.out.cell 1 _ rfl
            go_wp2_with fail
            have HMf := Lib.hid (HMd.out.below (Below.drew (Below.refl _ _)))
            have HEf := Lib.hid (HEd.out.below (Below.drew (Below.refl _ _)))
            have hS : w4.drew.cell? ⟨B, 0, none⟩ = some (.int .i64 p) ∧ w4.drew.cell? ⟨B, 1, none⟩ = some (.int .i64 c) ∧ w4.drew.cell? ⟨B, 2, none⟩ = some (.int .i64 n) ∧ w4.drew.cell? ⟨B, 3, none⟩ = some (.int .i64 b) ∧ w4.drew.cell? ⟨B, 4, none⟩ = some (.int .i64 r) ∧ w4.drew.cell? ⟨B, 5, none⟩ = some (.int .i64 f) ∧ w4.drew.cell? ⟨B, 6, none⟩ = some (.int .i64 g) ∧ w4.drew.cell? ⟨E0, 5, none⟩ = some (.int .i64 e.n) ∧ w4.drew.cell? ⟨E0, 6, none⟩ = some (.int .i64 e.s) ∧ w4.drew.cell? ⟨E0, 7, none⟩ = some (.int .i64 e.p) ∧ w4.drew.cell? ⟨E0, 8, none⟩ = some (.int .i64 e.l) ∧ w4.drew.cell? ⟨E0, 9, none⟩ = some (.int .i64 e.u) ∧ w4.drew.cell? ⟨E0, 10, none⟩ = some (.int .i64 e.q) := And.intro (HMf.out.blk.cell 0 _ rfl) (And.intro (HMf.out.blk.cell 1 _ rfl) (And.intro (HMf.out.blk.cell 2 _ rfl) (And.intro (HMf.out.blk.cell 3 _ rfl) (And.intro (HMf.out.blk.cell 4 _ rfl) (And.intro (HMf.out.blk.cell 5 _ rfl) (And.intro (HMf.out.blk.cell 6 _ rfl) (And.intro (HEf.out.cell 5 _ rfl) (And.intro (HEf.out.cell 6 _ rfl) (And.intro (HEf.out.cell 7 _ rfl) (And.intro (HEf.out.cell 8 _ rfl) (And.intro (HEf.out.cell 9 _ rfl) (HEf.out.cell 10 _ rfl))))))))))))
            go_region_held3 (fun w' => w'.cell? ⟨B, 0, none⟩ = some (.int .i64 p) ∧ w'.cell? ⟨B, 1, none⟩ = some (.int .i64 c) ∧ w'.cell? ⟨B, 2, none⟩ = some (.int .i64 n) ∧ w'.cell? ⟨B, 3, none⟩ = some (.int .i64 b) ∧ w'.cell? ⟨B, 4, none⟩ = some (.int .i64 r) ∧ w'.cell? ⟨B, 5, none⟩ = some (.int .i64 f) ∧ w'.cell? ⟨B, 6, none⟩ = some (.int .i64 g) ∧ w'.cell? ⟨E0, 5, none⟩ = some (.int .i64 e.n) ∧ w'.cell? ⟨E0, 6, none⟩ = some (.int .i64 e.s) ∧ w'.cell? ⟨E0, 7, none⟩ = some (.int .i64 e.p) ∧ w'.cell? ⟨E0, 8, none⟩ = some (.int .i64 e.l) ∧ w'.cell? ⟨E0, 9, none⟩ = some (.int .i64 e.u) ∧ w'.cell? ⟨E0, 10, none⟩ = some (.int .i64 e.q)) (first | with_reducible exact hS | fail) (first | (go_at_call 33; (with_reducible refine (HCK.out _).mono ?_); rintro rr w5 ⟨rfl, hb5⟩; have HM5 := Lib.hid (HMf.out.below hb5); have HE5 := Lib.hid (HEf.out.below hb5); have hS : w5.cell? ⟨B, 0, none⟩ = some (.int .i64 p) ∧ w5.cell? ⟨B, 1, none⟩ = some (.int .i64 c) ∧ w5.cell? ⟨B, 2, none⟩ = some (.int .i64 n) ∧ w5.cell? ⟨B, 3, none⟩ = some (.int .i64 b) ∧ w5.cell? ⟨B, 4, none⟩ = some (.int .i64 r) ∧ w5.cell? ⟨B, 5, none⟩ = some (.int .i64 f) ∧ w5.cell? ⟨B, 6, none⟩ = some (.int .i64 g) ∧ w5.cell? ⟨E0, 5, none⟩ = some (.int .i64 e.n) ∧ w5.cell? ⟨E0, 6, none⟩ = some (.int .i64 e.s) ∧ w5.cell? ⟨E0, 7, none⟩ = some (.int .i64 e.p) ∧ w5.cell? ⟨E0, 8, none⟩ = some (.int .i64 e.l) ∧ w5.cell? ⟨E0, 9, none⟩ = some (.int .i64 e.u) ∧ w5.cell? ⟨E0, 10, none⟩ = some (.int .i64 e.q) := And.intro (HM5.out.blk.cell 0 _ rfl) (And.intro (HM5.out.blk.cell 1 _ rfl) (And.intro (HM5.out.blk.cell 2 _ rfl) (And.intro (HM5.out.blk.cell 3 _ rfl) (And.intro (HM5.out.blk.cell 4 _ rfl) (And.intro (HM5.out.blk.cell 5 _ rfl) (And.intro (HM5.out.blk.cell 6 _ rfl) (And.intro (HE5.out.cell 5 _ rfl) (And.intro (HE5.out.cell 6 _ rfl) (And.intro (HE5.out.cell 7 _ rfl) (And.intro (HE5.out.cell 8 _ rfl) (And.intro (HE5.out.cell 9 _ rfl) (HE5.out.cell 10 _ rfl)))))))))))); clear hb5) | fail)
            clear hS HMf HEf
            go_wp2_with fail
            go_ret
            exact ⟨rfl, _, HM5.out⟩
          · exact ⟨.nilIface, os ++ [⟨e.c, e.g, e.n, e.s, e.p, e.l, e.u, e.q, e.q, 0, false, false, 0⟩], HSO.out HOWN.out HXN.out HFU.out HID.out HCK.out, .inr ⟨rfl, Step.push ⟨e.c, e.g, e.n, e.s, e.p, e.l, e.u, e.q, e.q, 0, false, false, 0⟩ HKK.out rfl rfl rfl rfl rfl rfl ⟨(by show 0 ≤ e.q; omega), t2, Int.le_refl _, HF.out, t3, t4, t5, (by show 0 ≤ e.g; rw [HID.out]; omega)⟩ (by rw [HID.out]; exact HNEW.out)⟩⟩
        · have e9 : (e.g != x.g + 1) = true := by simpa using hid
          clear hid
          refine ⟨.iface 57 (.int .i64 20), os, ?_, .inl ⟨20, rfl, rfl⟩⟩
          go_enter Try.func20, Try.ntmps20
          go_wp2_with fail
          have HM1 := HM
          have HE1 := HE
          generalize (wr.alloc (.cells #[.int .i64 e.k, .int .i64 e.c, .int .i64 e.g, .int .i64 e.o, .int .i64 e.w, .int .i64 e.n, .int .i64 e.s, .int .i64 e.p, .int .i64 e.l, .int .i64 e.u, .int .i64 e.q, .int .i64 e.pr, .int .i64 e.t, .int .i64 e.en] 41)) = w1 at *
          generalize wr.heap.size = E0 at *
          have HMd := Lib.hid (HM1.out.below (Below.drew (Below.refl _ _)))
          have HEd := Lib.hid (HE1.out.below (Below.drew (Below.refl _ _)))
          have hS : w1.drew.cell? ⟨B, 0, none⟩ = some (.int .i64 p) ∧ w1.drew.cell? ⟨B, 1, none⟩ = some (.int .i64 c) ∧ w1.drew.cell? ⟨B, 2, none⟩ = some (.int .i64 n) ∧ w1.drew.cell? ⟨B, 3, none⟩ = some (.int .i64 b) ∧ w1.drew.cell? ⟨B, 4, none⟩ = some (.int .i64 r) ∧ w1.drew.cell? ⟨B, 5, none⟩ = some (.int .i64 f) ∧ w1.drew.cell? ⟨B, 6, none⟩ = some (.int .i64 g) ∧ w1.drew.cell? ⟨E0, 1, none⟩ = some (.int .i64 e.c) := And.intro (HMd.out.blk.cell 0 _ rfl) (And.intro (HMd.out.blk.cell 1 _ rfl) (And.intro (HMd.out.blk.cell 2 _ rfl) (And.intro (HMd.out.blk.cell 3 _ rfl) (And.intro (HMd.out.blk.cell 4 _ rfl) (And.intro (HMd.out.blk.cell 5 _ rfl) (And.intro (HMd.out.blk.cell 6 _ rfl) (HEd.out.cell 1 _ rfl)))))))
          go_region_held3 (fun w' => w'.cell? ⟨B, 0, none⟩ = some (.int .i64 p) ∧ w'.cell? ⟨B, 1, none⟩ = some (.int .i64 c) ∧ w'.cell? ⟨B, 2, none⟩ = some (.int .i64 n) ∧ w'.cell? ⟨B, 3, none⟩ = some (.int .i64 b) ∧ w'.cell? ⟨B, 4, none⟩ = some (.int .i64 r) ∧ w'.cell? ⟨B, 5, none⟩ = some (.int .i64 f) ∧ w'.cell? ⟨B, 6, none⟩ = some (.int .i64 g) ∧ w'.cell? ⟨E0, 1, none⟩ = some (.int .i64 e.c)) (first | with_reducible exact hS | fail) (first | (go_at_call 31; (with_reducible refine (HOW.out _).mono ?_); rintro rr w2 ⟨rfl, hb2⟩; have HM2 := Lib.hid (HMd.out.below hb2); have HE2 := Lib.hid (HEd.out.below hb2); have hS : w2.cell? ⟨B, 0, none⟩ = some (.int .i64 p) ∧ w2.cell? ⟨B, 1, none⟩ = some (.int .i64 c) ∧ w2.cell? ⟨B, 2, none⟩ = some (.int .i64 n) ∧ w2.cell? ⟨B, 3, none⟩ = some (.int .i64 b) ∧ w2.cell? ⟨B, 4, none⟩ = some (.int .i64 r) ∧ w2.cell? ⟨B, 5, none⟩ = some (.int .i64 f) ∧ w2.cell? ⟨B, 6, none⟩ = some (.int .i64 g) ∧ w2.cell? ⟨E0, 1, none⟩ = some (.int .i64 e.c) := And.intro (HM2.out.blk.cell 0 _ rfl) (And.intro (HM2.out.blk.cell 1 _ rfl) (And.intro (HM2.out.blk.cell 2 _ rfl) (And.intro (HM2.out.blk.cell 3 _ rfl) (And.intro (HM2.out.blk.cell 4 _ rfl) (And.intro (HM2.out.blk.cell 5 _ rfl) (And.intro (HM2.out.blk.cell 6 _ rfl) (HE2.out.cell 1 _ rfl))))))); clear hb2) | fail)
          clear hS HMd HEd
          have x1 := HE2.out.cell 1 _ rfl
          go_wp2_with fail
          refine (HLA.out _ HM2.out).mono ?_
          rintro rr w3 ⟨rfl, hb3⟩
          have hba := (Below.refl w3.heap.size w3).alloc (Nat.le_refl _) (Obj.cells #[.int .i64 x.c, .int .i64 x.g, .int .i64 x.n, .int .i64 x.s, .int .i64 x.p, .int .i64 x.l, .int .i64 x.u, .int .i64 x.q, .int .i64 x.lf, .int .i64 x.fl, .bool x.ak, .bool x.rs, .int .i64 x.en] 44)
          have HM3 := Lib.hid ((HM2.out.below hb3).below hba)
          have HE3 := Lib.hid ((HE2.out.below hb3).below hba)
          have HL3 := Lib.hid (Bl.new w3 [.int .i64 x.c, .int .i64 x.g, .int .i64 x.n, .int .i64 x.s, .int .i64 x.p, .int .i64 x.l, .int .i64 x.u, .int .i64 x.q, .int .i64 x.lf, .int .i64 x.fl, .bool x.ak, .bool x.rs, .int .i64 x.en] 44)
          clear x1 hba hb3
          have l1 := HL3.out.cell 1 _ rfl
          have l12 := HL3.out.cell 12 _ rfl
          have m6 := HM3.out.blk.cell 6 _ rfl
          go_wp2_with fail
          generalize (w3.alloc (Obj.cells #[.int .i64 x.c, .int .i64 x.g, .int .i64 x.n, .int .i64 x.s, .int .i64 x.p, .int .i64 x.l, .int .i64 x.u, .int .i64 x.q, .int .i64 x.lf, .int .i64 x.fl, .bool x.ak, .bool x.rs, .int .i64 x.en] 44)) = w3a at *
          generalize w3.heap.size = L0 at *
          go_quiet (fail)
          have hdn := below_dn (Below.refl w3a.heap.size w3a) nq
          have HMd := Lib.hid (HM3.out.below hdn)
          have HEd := Lib.hid (HE3.out.below hdn)
          have HLd := Lib.hid (HL3.out.below hdn)
          generalize w3a.drewN nq = w4 at *
          clear hdn l1 l12 m6
          have x2 := HEd.out.cell 2 _ rfl
          have l1d := HLd.out.cell 1 _ rfl
          go_wp2_with fail
          go_ret
          exact ⟨rfl, _, HMd.out⟩
end Go.Proofs.Ytnhmdaoghcfghaa
