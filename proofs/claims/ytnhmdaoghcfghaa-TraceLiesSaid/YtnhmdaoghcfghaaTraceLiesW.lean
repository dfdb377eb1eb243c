/-
  An event that can't happen changes nothing.
-/
import Derived.Test.YtnhmdaoghcfghaaRows
import Derived.Test.YtnhmdaoghcfghaaKit
import Derived.Test.YtnhmdaoghcfghaaApp
import Derived.Test.YtnhmdaoghcfghaaQuiet
import Derived.Test.YtnhmdaoghcfghaaTrM
import Derived.Test.YtnhmdaoghcfghaaTrS
import Derived.Test.YtnhmdaoghcfghaaTrF
import Derived.Test.YtnhmdaoghcfghaaTrG
import Derived.Test.YtnhmdaoghcfghaaTrH
import Derived.Test.YtnhmdaoghcfghaaTrI
import Derived.Test.YtnhmdaoghcfghaaTrJ
import Derived.Test.YtnhmdaoghcfghaaTrK
import Derived.Test.YtnhmdaoghcfghaaTrL
import Derived.Test.YtnhmdaoghcfghaaTrN
import Derived.Test.YtnhmdaoghcfghaaTrO
import Derived.Test.YtnhmdaoghcfghaaRules
import Derived.Test.YtnhmdaoghcfghaaTrP
import Derived.Test.YtnhmdaoghcfghaaTrQ
import Derived.Test.YtnhmdaoghcfghaaTrR
import Derived.Test.YtnhmdaoghcfghaaTrT
import Derived.Test.YtnhmdaoghcfghaaTrU
import Derived.WalkKit
import Derived.ProofKit
import Derived.OpenShut
import Derived.ShutString
import Derived.Below
import Derived.Outline
import Derived.WalkLawsBesides
import Derived.WalkSpells
import Derived.Handy
import Derived.Deep.QuietTactic
import Derived.BigQuiet
import Derived.RegionTactic
import Derived.ChangeAlike
import Derived.Lib.Hide
import Derived.Laws.Rows
import Derived.Laws.Tables
import Derived.Laws.CopyOwn
import Derived.Laws.MakeOwn
import Derived.Laws.Entries
import Derived.Laws.OwnMore
import Derived.Deep.WholeRow
import Derived.Deep.LoopGhost
import Derived.Deep.AppendLies
import Derived.Deep.Draws
import Derived.Maps.AppendAt
import Derived.OwnWalk
import Derived.Deep.RegionHeld3
import Derived.Deep.Cut
import Derived.Deep.CutRange
import Derived.Deep.DeepCutAuto
import Derived.Deep.CutBlock
import Derived.Lib.SliceRun
import Derived.IntWalk
import Derived.OpenShut
import Derived.Deep.Slices
import Derived.Deep.Fields
import Derived.ChangeSame
import Derived.ChangeArms
import Derived.Test.YtnhmdaoghcfghaaTrW
import Derived.Laws.CopyOwn
import Derived.Test.YtnhmdaoghcfghaaTrV
import Derived.Test.YtnhmdaoghcfghaaTrX
namespace Go.Proofs.Ytnhmdaoghcfghaa.traceLies
open Go.ChangeShapes Go.WideShapes Go.ChangeAt Go.RowKit
set_option maxRecDepth 100000 in
set_option maxHeartbeats 8000000 in
theorem bad (p c n b r f g : Int) (A : Option Addr) (ln cp : Nat) (x : Evt) (w : World) (h : ¬ ((1 ≤ p ∧ p ≤ 6) ∧ (1 ≤ c ∧ c ≤ 4) ∧ (1 ≤ n ∧ n ≤ 3) ∧ (1 ≤ b ∧ b ≤ 4) ∧ (0 ≤ r ∧ r ≤ 4) ∧ (1 ≤ f ∧ f ≤ 4) ∧ (1 ≤ g ∧ g ≤ 15))) : Calls Try.prog 5 #[.agg #[.int .i64 p, .int .i64 c, .int .i64 n, .int .i64 b, .int .i64 r, .int .i64 f, .int .i64 g], .slice A ln cp, .agg #[.int .i64 x.k, .int .i64 x.c, .int .i64 x.g, .int .i64 x.o, .int .i64 x.w, .int .i64 x.n, .int .i64 x.s, .int .i64 x.p, .int .i64 x.l, .int .i64 x.u, .int .i64 x.q, .int .i64 x.pr, .int .i64 x.t, .int .i64 x.en]] w fun e w' => e = .returned (.bool true) ∧ Below w.heap.size w w' := by
  have HN := Lib.hid (fun W => rnew_bad p c n b r f g W h)
  clear h
  go_enter Try.func5, Try.ntmps5
  go_wp2_with fail
  obtain ⟨W0, hW0⟩ : ∃ W0, W0 = ((w.alloc (.cells (List.toArray [.int .i64 p, .int .i64 c, .int .i64 n, .int .i64 b, .int .i64 r, .int .i64 f, .int .i64 g]) 23)).alloc (.cells (List.toArray [.int .i64 x.k, .int .i64 x.c, .int .i64 x.g, .int .i64 x.o, .int .i64 x.w, .int .i64 x.n, .int .i64 x.s, .int .i64 x.p, .int .i64 x.l, .int .i64 x.u, .int .i64 x.q, .int .i64 x.pr, .int .i64 x.t, .int .i64 x.en]) 39)) := ⟨_, rfl⟩
  have bX0 : Bl (w.heap.size + 1) [.int .i64 x.k, .int .i64 x.c, .int .i64 x.g, .int .i64 x.o, .int .i64 x.w, .int .i64 x.n, .int .i64 x.s, .int .i64 x.p, .int .i64 x.l, .int .i64 x.u, .int .i64 x.q, .int .i64 x.pr, .int .i64 x.t, .int .i64 x.en] W0 := by
    rw [hW0]
    have h := Bl.new (w.alloc (.cells (List.toArray [.int .i64 p, .int .i64 c, .int .i64 n, .int .i64 b, .int .i64 r, .int .i64 f, .int .i64 g]) 23)) [.int .i64 x.k, .int .i64 x.c, .int .i64 x.g, .int .i64 x.o, .int .i64 x.w, .int .i64 x.n, .int .i64 x.s, .int .i64 x.p, .int .i64 x.l, .int .i64 x.u, .int .i64 x.q, .int .i64 x.pr, .int .i64 x.t, .int .i64 x.en] 39
    rw [World.size_alloc] at h
    exact h
  have hB0 : Below w.heap.size w W0 := by rw [hW0]; go_grown
  rw [← hW0]
  clear hW0
  refine (HN.out _).mono ?_
  rintro e1 w1 ⟨T, v, rfl, hb1⟩
  have hB1 := Below.step hB0 hb1
  have hB1a := hB1.alloc hB1.size (.cells (List.toArray [.int .i64 0, .int .i64 0, .int .i64 0, .int .i64 0, .int .i64 0, .int .i64 0, .int .i64 0]) 26)
  clear hb1 hB1 hB0 bX0
  go_wp2_with fail
  refine (awake_is _).mono ?_
  rintro e9 w9 ⟨rfl, hb9⟩
  go_wp2_with fail
  go_ret
  exact ⟨rfl, Below.step hB1a hb9⟩
set_option maxRecDepth 100000 in
set_option maxHeartbeats 8000000 in
theorem long (p c n b r f g : Int) (A : Option Addr) (ln cp : Nat) (x : Evt) (w : World) (hp : 1 ≤ p ∧ p ≤ 6) (hc : 1 ≤ c ∧ c ≤ 4) (hn : 1 ≤ n ∧ n ≤ 3) (hb : 1 ≤ b ∧ b ≤ 4) (hr : 0 ≤ r ∧ r ≤ 4) (hf : 1 ≤ f ∧ f ≤ 4) (hg : 1 ≤ g ∧ g ≤ 15) (hl : 40 < ln) : Calls Try.prog 5 #[.agg #[.int .i64 p, .int .i64 c, .int .i64 n, .int .i64 b, .int .i64 r, .int .i64 f, .int .i64 g], .slice A ln cp, .agg #[.int .i64 x.k, .int .i64 x.c, .int .i64 x.g, .int .i64 x.o, .int .i64 x.w, .int .i64 x.n, .int .i64 x.s, .int .i64 x.p, .int .i64 x.l, .int .i64 x.u, .int .i64 x.q, .int .i64 x.pr, .int .i64 x.t, .int .i64 x.en]] w fun e w' => e = .returned (.bool true) ∧ Below w.heap.size w w' := by
  have HN := Lib.hid (fun W => rnew_ok p c n b r f g W hp hc hn hb hr hf hg)
  have dl : decide ((40 : Int) < (ln : Int)) = true := decide_eq_true (by omega)
  clear hp hc hn hb hr hf hg hl
  go_enter Try.func5, Try.ntmps5
  go_wp2_with fail
  obtain ⟨W0, hW0⟩ : ∃ W0, W0 = ((w.alloc (.cells (List.toArray [.int .i64 p, .int .i64 c, .int .i64 n, .int .i64 b, .int .i64 r, .int .i64 f, .int .i64 g]) 23)).alloc (.cells (List.toArray [.int .i64 x.k, .int .i64 x.c, .int .i64 x.g, .int .i64 x.o, .int .i64 x.w, .int .i64 x.n, .int .i64 x.s, .int .i64 x.p, .int .i64 x.l, .int .i64 x.u, .int .i64 x.q, .int .i64 x.pr, .int .i64 x.t, .int .i64 x.en]) 39)) := ⟨_, rfl⟩
  have bX0 : Bl (w.heap.size + 1) [.int .i64 x.k, .int .i64 x.c, .int .i64 x.g, .int .i64 x.o, .int .i64 x.w, .int .i64 x.n, .int .i64 x.s, .int .i64 x.p, .int .i64 x.l, .int .i64 x.u, .int .i64 x.q, .int .i64 x.pr, .int .i64 x.t, .int .i64 x.en] W0 := by
    rw [hW0]
    have h := Bl.new (w.alloc (.cells (List.toArray [.int .i64 p, .int .i64 c, .int .i64 n, .int .i64 b, .int .i64 r, .int .i64 f, .int .i64 g]) 23)) [.int .i64 x.k, .int .i64 x.c, .int .i64 x.g, .int .i64 x.o, .int .i64 x.w, .int .i64 x.n, .int .i64 x.s, .int .i64 x.p, .int .i64 x.l, .int .i64 x.u, .int .i64 x.q, .int .i64 x.pr, .int .i64 x.t, .int .i64 x.en] 39
    rw [World.size_alloc] at h
    exact h
  have hB0 : Below w.heap.size w W0 := by rw [hW0]; go_grown
  rw [← hW0]
  clear hW0
  refine (HN.out _).mono ?_
  rintro e1 w1 ⟨rfl, hb1⟩
  have hB1 := Below.step hB0 hb1
  have hB1a := hB1.alloc hB1.size (.cells (List.toArray [.int .i64 p, .int .i64 c, .int .i64 n, .int .i64 b, .int .i64 r, .int .i64 f, .int .i64 g]) 26)
  clear hb1 hB1 hB0 bX0
  go_wp2_with fail
  refine (awake_is _).mono ?_
  rintro e9 w9 ⟨rfl, hb9⟩
  go_wp2_with fail
  go_ret
  exact ⟨rfl, Below.step hB1a hb9⟩
theorem addp (a : Addr) (i : Nat) (hi : i ≠ 0) (h : a.spot = none) : a.add i = ⟨a.block, a.off + i, none⟩ := by
  unfold Addr.add
  rw [if_neg hi]
set_option maxRecDepth 100000 in
set_option maxHeartbeats 16000000 in
theorem main (p c n b r f g : Int) (A : Option Addr) (ln cp : Nat) (gv : Nat → Evt) (x : Evt) (w : World) (hp : 1 ≤ p ∧ p ≤ 6) (hc : 1 ≤ c ∧ c ≤ 4) (hn : 1 ≤ n ∧ n ≤ 3) (hb : 1 ≤ b ∧ b ≤ 4) (hr : 0 ≤ r ∧ r ≤ 4) (hf : 1 ≤ f ∧ f ≤ 4) (hg : 1 ≤ g ∧ g ≤ 15) (hl : ln ≤ 40) (hE : EvsAt A ln gv w) : Calls Try.prog 5 #[.agg #[.int .i64 p, .int .i64 c, .int .i64 n, .int .i64 b, .int .i64 r, .int .i64 f, .int .i64 g], .slice A ln cp, .agg #[.int .i64 x.k, .int .i64 x.c, .int .i64 x.g, .int .i64 x.o, .int .i64 x.w, .int .i64 x.n, .int .i64 x.s, .int .i64 x.p, .int .i64 x.l, .int .i64 x.u, .int .i64 x.q, .int .i64 x.pr, .int .i64 x.t, .int .i64 x.en]] w fun e w' => e = .returned (.bool true) ∧ Below w.heap.size w w' := by
  have HN := Lib.hid (fun W => rnew_ok p c n b r f g W hp hc hn hb hr hf hg)
  have HD := Lib.hid (fun (Fx : Nat → Option Obj → Prop) (W wr : World) (B K : Nat) (now : Int) (v : Value) (os : List Ord) (e : Evt) (h : MS Fx W wr B K p c n b r f g v os now) (h1 : os.length ≤ 900) (h2 : Inv f os) => do_is Fx W wr B K p c n b r f g now v os e h h1 h2 hp hc ⟨by omega, hf.2⟩ hg.2)
  have HE := Lib.hid hE
  have HL := Lib.hid hl
  have dl : decide ((40 : Int) < (ln : Int)) = false := decide_eq_false (by omega)
  have l0 : (0 : Int) ≤ (ln : Int) := by omega
  have l1 : (ln : Int) ≤ 40 := by omega
  clear hp hc hn hb hr hf hg hl hE
  go_enter Try.func5, Try.ntmps5
  go_wp2_with fail
  obtain ⟨W0, hW0⟩ : ∃ W0, W0 = ((w.alloc (.cells (List.toArray [.int .i64 p, .int .i64 c, .int .i64 n, .int .i64 b, .int .i64 r, .int .i64 f, .int .i64 g]) 23)).alloc (.cells (List.toArray [.int .i64 x.k, .int .i64 x.c, .int .i64 x.g, .int .i64 x.o, .int .i64 x.w, .int .i64 x.n, .int .i64 x.s, .int .i64 x.p, .int .i64 x.l, .int .i64 x.u, .int .i64 x.q, .int .i64 x.pr, .int .i64 x.t, .int .i64 x.en]) 39)) := ⟨_, rfl⟩
  have bX0 : Bl (w.heap.size + 1) [.int .i64 x.k, .int .i64 x.c, .int .i64 x.g, .int .i64 x.o, .int .i64 x.w, .int .i64 x.n, .int .i64 x.s, .int .i64 x.p, .int .i64 x.l, .int .i64 x.u, .int .i64 x.q, .int .i64 x.pr, .int .i64 x.t, .int .i64 x.en] W0 := by
    rw [hW0]
    have h := Bl.new (w.alloc (.cells (List.toArray [.int .i64 p, .int .i64 c, .int .i64 n, .int .i64 b, .int .i64 r, .int .i64 f, .int .i64 g]) 23)) [.int .i64 x.k, .int .i64 x.c, .int .i64 x.g, .int .i64 x.o, .int .i64 x.w, .int .i64 x.n, .int .i64 x.s, .int .i64 x.p, .int .i64 x.l, .int .i64 x.u, .int .i64 x.q, .int .i64 x.pr, .int .i64 x.t, .int .i64 x.en] 39
    rw [World.size_alloc] at h
    exact h
  have hB0 : Below w.heap.size w W0 := by rw [hW0]; go_grown
  rw [← hW0]
  clear hW0
  refine (HN.out _).mono ?_
  rintro e1 w1 ⟨rfl, hb1⟩
  have hB1 := Below.step hB0 hb1
  have hD1 : Below w1.heap.size w1 (w1.alloc (.cells (List.toArray [.int .i64 p, .int .i64 c, .int .i64 n, .int .i64 b, .int .i64 r, .int .i64 f, .int .i64 g]) 26)) := by go_grown
  have hB := Below.step hB1 hD1
  have bX := (bX0.below hb1).below hD1
  have bR := Bl.new w1 [.int .i64 p, .int .i64 c, .int .i64 n, .int .i64 b, .int .i64 r, .int .i64 f, .int .i64 g] 26
  obtain ⟨X, hX⟩ : ∃ X, X = w.heap.size + 1 := ⟨_, rfl⟩
  rw [← hX] at bX ⊢
  clear hb1 hB1 hB0 bX0 hX hD1
  obtain ⟨W1, hW1⟩ : ∃ W1, W1 = w1.alloc (.cells (List.toArray [.int .i64 p, .int .i64 c, .int .i64 n, .int .i64 b, .int .i64 r, .int .i64 f, .int .i64 g]) 26) := ⟨_, rfl⟩
  rw [← hW1] at bX bR hB
  have HNew : Hid (Calls Try.prog 8 #[.agg #[.int .i64 p, .int .i64 c, .int .i64 n, .int .i64 b, .int .i64 r, .int .i64 f, .int .i64 g]] W1 fun e w' => ∃ B K, e = .returned (.pointer (some ⟨B, 0, none⟩)) ∧ MS (fun k o => k = X ∧ o = W1.heap[k]?) w w' B K p c n b r f g (.slice none 0 0) [] 0) := Lib.hid ((new_is (fun k o => k = X ∧ o = W1.heap[k]?) p c n b r f g W1 (fun k o hk => ⟨hk.2.symm, by rw [hk.1]; exact bX.lt⟩)).mono fun e w' h => ⟨_, _, h.1, h.2.base hB⟩)
  have HX := Lib.hid bX
  have r0 := bR.cell 0 _ rfl
  have r1 := bR.cell 1 _ rfl
  have r2 := bR.cell 2 _ rfl
  have r3 := bR.cell 3 _ rfl
  have r4 := bR.cell 4 _ rfl
  have r5 := bR.cell 5 _ rfl
  have r6 := bR.cell 6 _ rfl
  clear bX bR hB r0 r1 r2 r3 r4 r5 r6
  go_wp2_with fail
  rw [← hW1]
  refine HNew.out.mono ?_
  rintro e2 w2 ⟨B, K, rfl, hM⟩
  have HM := Lib.hid hM
  clear hM HNew hW1
  go_wp2_with fail
  go_loopw [11, 32] (fun _ i wr => ∃ (q : Nat) (os : List Ord) (now : Int) (v : Value), q ≤ ln ∧ i = .int .i64 (q : Int) ∧ Hid (os.length ≤ q ∧ Inv f os ∧ MS (fun k o => k = X ∧ o = W1.heap[k]?) w wr B K p c n b r f g v os now)) (fun _ i _ => ln + 1 - (intOf i).toNat)
  case atStart => exact ⟨0, [], 0, _, Nat.zero_le _, rfl, Lib.hid ⟨Nat.le_refl _, ⟨fun i a h => (by simp at h), fun i j a b' h => (by simp at h)⟩, HM.out⟩⟩
  case round =>
    clear HM
    obtain ⟨q, os, now, v, hq, rfl, HR⟩ := hrel
    have q0 : (0 : Int) ≤ (q : Int) := by omega
    by_cases hqx : q < ln
    · have q1 : (q : Int) < (ln : Int) := by omega
      have hE2 := HE.out.below HR.out.2.2.bel
      obtain ⟨ad, rfl, hab, hcs⟩ := hE2 (by omega)
      have hcy := hcs q hqx
      clear hE2 hcs hab
      generalize gv q = y at *
      clear HE gv
      have d0 := hcy 0 _ rfl
      have d1 := hcy 1 _ rfl
      have d2 := hcy 2 _ rfl
      have d3 := hcy 3 _ rfl
      have d4 := hcy 4 _ rfl
      have d5 := hcy 5 _ rfl
      have d6 := hcy 6 _ rfl
      have d7 := hcy 7 _ rfl
      have d8 := hcy 8 _ rfl
      have d9 := hcy 9 _ rfl
      have d10 := hcy 10 _ rfl
      have d11 := hcy 11 _ rfl
      have d12 := hcy 12 _ rfl
      have d13 := hcy 13 _ rfl
      clear hcy
      have q0' : wr.cell? (ad.add (q * 14)) = some (.int .i64 y.k) := d0
      have q1' : wr.cell? ⟨(ad.add (q * 14)).block, (ad.add (q * 14)).off + 1, none⟩ = some (.int .i64 y.c) := by rw [← addp _ 1 (by decide) (World.cell?_spot q0'), add_of_add]; exact d1
      have q2' : wr.cell? ⟨(ad.add (q * 14)).block, (ad.add (q * 14)).off + 2, none⟩ = some (.int .i64 y.g) := by rw [← addp _ 2 (by decide) (World.cell?_spot q0'), add_of_add]; exact d2
      have q3' : wr.cell? ⟨(ad.add (q * 14)).block, (ad.add (q * 14)).off + 3, none⟩ = some (.int .i64 y.o) := by rw [← addp _ 3 (by decide) (World.cell?_spot q0'), add_of_add]; exact d3
      have q4' : wr.cell? ⟨(ad.add (q * 14)).block, (ad.add (q * 14)).off + 4, none⟩ = some (.int .i64 y.w) := by rw [← addp _ 4 (by decide) (World.cell?_spot q0'), add_of_add]; exact d4
      have q5' : wr.cell? ⟨(ad.add (q * 14)).block, (ad.add (q * 14)).off + 5, none⟩ = some (.int .i64 y.n) := by rw [← addp _ 5 (by decide) (World.cell?_spot q0'), add_of_add]; exact d5
      have q6' : wr.cell? ⟨(ad.add (q * 14)).block, (ad.add (q * 14)).off + 6, none⟩ = some (.int .i64 y.s) := by rw [← addp _ 6 (by decide) (World.cell?_spot q0'), add_of_add]; exact d6
      have q7' : wr.cell? ⟨(ad.add (q * 14)).block, (ad.add (q * 14)).off + 7, none⟩ = some (.int .i64 y.p) := by rw [← addp _ 7 (by decide) (World.cell?_spot q0'), add_of_add]; exact d7
      have q8' : wr.cell? ⟨(ad.add (q * 14)).block, (ad.add (q * 14)).off + 8, none⟩ = some (.int .i64 y.l) := by rw [← addp _ 8 (by decide) (World.cell?_spot q0'), add_of_add]; exact d8
      have q9' : wr.cell? ⟨(ad.add (q * 14)).block, (ad.add (q * 14)).off + 9, none⟩ = some (.int .i64 y.u) := by rw [← addp _ 9 (by decide) (World.cell?_spot q0'), add_of_add]; exact d9
      have q10' : wr.cell? ⟨(ad.add (q * 14)).block, (ad.add (q * 14)).off + 10, none⟩ = some (.int .i64 y.q) := by rw [← addp _ 10 (by decide) (World.cell?_spot q0'), add_of_add]; exact d10
      have q11' : wr.cell? ⟨(ad.add (q * 14)).block, (ad.add (q * 14)).off + 11, none⟩ = some (.int .i64 y.pr) := by rw [← addp _ 11 (by decide) (World.cell?_spot q0'), add_of_add]; exact d11
      have q12' : wr.cell? ⟨(ad.add (q * 14)).block, (ad.add (q * 14)).off + 12, none⟩ = some (.int .i64 y.t) := by rw [← addp _ 12 (by decide) (World.cell?_spot q0'), add_of_add]; exact d12
      have q13' : wr.cell? ⟨(ad.add (q * 14)).block, (ad.add (q * 14)).off + 13, none⟩ = some (.int .i64 y.en) := by rw [← addp _ 13 (by decide) (World.cell?_spot q0'), add_of_add]; exact d13
      have HA := Lib.hid (show MS (fun k o => k = X ∧ o = W1.heap[k]?) w (wr.alloc (.cells (List.toArray [.int .i64 y.k, .int .i64 y.c, .int .i64 y.g, .int .i64 y.o, .int .i64 y.w, .int .i64 y.n, .int .i64 y.s, .int .i64 y.p, .int .i64 y.l, .int .i64 y.u, .int .i64 y.q, .int .i64 y.pr, .int .i64 y.t, .int .i64 y.en]) 39)) B K p c n b r f g v os now from HR.out.2.2.below (by go_grown))
      have hlo : os.length ≤ q := HR.out.1
      have HI := Lib.hid HR.out.2.1
      clear HR d0 d1 d2 d3 d4 d5 d6 d7 d8 d9 d10 d11 d12 d13
      go_wp2_with fail
      have h := HD.out _ _ _ B K now v os y HA.out (by have := HL.out; omega) HI.out
      unfold DoIs at h
      refine h.mono ?_
      rintro rr w3 ⟨E, os', now', v', rfl, hM3, hcase⟩
      have HR2 := Lib.hid (show os'.length ≤ q + 1 ∧ Inv f os' ∧ MS (fun k o => k = X ∧ o = W1.heap[k]?) w w3 B K p c n b r f g v' os' now' from by
        rcases hcase with ⟨k, _, rfl⟩ | ⟨_, hst⟩
        · exact ⟨by omega, HI.out, hM3⟩
        · exact ⟨by have := hst.len; omega, hst.inv HI.out, hM3⟩)
      clear h hM3 hcase HA HI
      go_wp2_with fail
      go_roundw
      case rel => exact ⟨q + 1, os', now', v', by omega, by go_num, HR2⟩
      case measure => simp [intOf]; omega
    · obtain rfl : q = ln := by omega
      have hd : decide ((q : Int) < (q : Int)) = false := decide_eq_false (by omega)
      have hol : os.length ≤ 40 := by have := HR.out.1; have := HL.out; omega
      have HO := Lib.hid (orders_is _ w wr B K p c n b r f g now v os HR.out.2.2 (by omega))
      go_wp2_with fail
      refine HO.out.mono ?_
      rintro e3 w3 ⟨v3, rfl, hr3, hb3⟩
      obtain ⟨A3, c3, rfl⟩ := own_shape hr3
      have bX2 : Bl X [.int .i64 x.k, .int .i64 x.c, .int .i64 x.g, .int .i64 x.o, .int .i64 x.w, .int .i64 x.n, .int .i64 x.s, .int .i64 x.p, .int .i64 x.l, .int .i64 x.u, .int .i64 x.q, .int .i64 x.pr, .int .i64 x.t, .int .i64 x.en] w3 := by
        obtain ⟨t, ht⟩ := HX.out
        exact (show Bl X [.int .i64 x.k, .int .i64 x.c, .int .i64 x.g, .int .i64 x.o, .int .i64 x.w, .int .i64 x.n, .int .i64 x.s, .int .i64 x.p, .int .i64 x.l, .int .i64 x.u, .int .i64 x.q, .int .i64 x.pr, .int .i64 x.t, .int .i64 x.en] wr from ⟨t, (HR.out.2.2.fx X _ ⟨rfl, rfl⟩).1.trans ht⟩).below hb3
      have HMh := Lib.hid (HR.out.2.2.hold hb3)
      have HI := Lib.hid HR.out.2.1
      have HW := Lib.hid hr3
      have x0 := bX2.cell 0 _ rfl
      have x1 := bX2.cell 1 _ rfl
      have x2 := bX2.cell 2 _ rfl
      have x3 := bX2.cell 3 _ rfl
      have x4 := bX2.cell 4 _ rfl
      have x5 := bX2.cell 5 _ rfl
      have x6 := bX2.cell 6 _ rfl
      have x7 := bX2.cell 7 _ rfl
      have x8 := bX2.cell 8 _ rfl
      have x9 := bX2.cell 9 _ rfl
      have x10 := bX2.cell 10 _ rfl
      have x11 := bX2.cell 11 _ rfl
      have x12 := bX2.cell 12 _ rfl
      have x13 := bX2.cell 13 _ rfl
      clear HO HR hr3 hb3 bX2 HX HN HE
      go_wp2_with fail
      have h := HD.out _ _ _ B K now v os x HMh.out (by omega) HI.out
      unfold DoIs at h
      refine h.mono ?_
      rintro rr w4 ⟨E, os4, now4, v4, rfl, hM4, hcase⟩
      have HW4 := Lib.hid (hM4.was HW.out)
      have HM4 := Lib.hid hM4
      clear h hM4 HW HMh HD x0 x1 x2 x3 x4 x5 x6 x7 x8 x9 x10 x11 x12 x13
      rcases hcase with ⟨k, rfl, rfl⟩ | ⟨rfl, hst⟩
      · have HO := Lib.hid (orders_is _ w w4 B K p c n b r f g now4 v4 os4 HM4.out (by omega))
        go_wp2_with fail
        refine HO.out.mono ?_
        rintro e5 w5 ⟨v5, rfl, hr5, hb5⟩
        obtain ⟨A5, c5, rfl⟩ := own_shape hr5
        have HR1 := Lib.hid (row_kept HW4.out hb5)
        have HR2 := Lib.hid hr5
        have HB := Lib.hid (Below.step HM4.out.bel hb5)
        have HOL := Lib.hid hol
        obtain ⟨m, hm⟩ : ∃ m, m = os4.length := ⟨_, rfl⟩
        have e1 : ((m : Int) != (m : Int)) = false := by simp
        have m0 : (0 : Int) ≤ (m : Int) := by omega
        have m1 : (m : Int) ≤ 40 := by omega
        simp only [← hm] at HR1 HR2 ⊢
        have HMM := Lib.hid hm
        clear HO HW4 HM4 hr5 hb5 hol hm
        go_wp2_with fail
        go_loopw [14, 56] (fun _ i wr => ∃ q : Nat, q ≤ m ∧ i = .int .i64 (q : Int) ∧ Below w5.heap.size w5 wr) (fun _ i _ => m + 1 - (intOf i).toNat)
        case atStart => exact ⟨0, Nat.zero_le _, rfl, Below.refl _ _⟩
        case round =>
          obtain ⟨q, hq, rfl, hBq⟩ := hrel
          have q0 : (0 : Int) ≤ (q : Int) := by omega
          by_cases hqx : q < m
          · have q1 : (q : Int) < (m : Int) := by omega
            obtain ⟨o, ho⟩ : ∃ o, os4[q]? = some o := ⟨_, List.getElem?_eq_getElem (by rw [← HMM.out]; exact hqx)⟩
            obtain ⟨g3, cp3, hv3, _, _⟩ := World.ownsRow.form HR1.out (by omega)
            obtain ⟨g4, cp4, hv4, _, _⟩ := World.ownsRow.form HR2.out (by omega)
            obtain ⟨rfl, rfl⟩ : A3 = some ⟨g3, 0, none⟩ ∧ cp3 = c3 := by
              injection hv3 with h1 h2 h3
              exact ⟨h1, h3.symm⟩
            obtain ⟨rfl, rfl⟩ : A5 = some ⟨g4, 0, none⟩ ∧ cp4 = c5 := by
              injection hv4 with h1 h2 h3
              exact ⟨h1, h3.symm⟩
            have ha : ∀ j u, j < 13 → (oc o)[j]? = some u → wr.drew.cell? ⟨g3, q * 13 + j, none⟩ = some u := fun j u hj hu => row_cell (row_kept HR1.out (Below.drew hBq)) ho HMM.out hj hu
            have hb : ∀ j u, j < 13 → (oc o)[j]? = some u → wr.drew.cell? ⟨g4, q * 13 + j, none⟩ = some u := fun j u hj hu => row_cell (row_kept HR2.out (Below.drew hBq)) ho HMM.out hj hu
            have hS : wr.drew.cell? ⟨g3, q * 13, none⟩ = some (.int .i64 o.c) ∧ wr.drew.cell? ⟨g3, q * 13 + 1, none⟩ = some (.int .i64 o.g) ∧ wr.drew.cell? ⟨g3, q * 13 + 2, none⟩ = some (.int .i64 o.n) ∧ wr.drew.cell? ⟨g3, q * 13 + 3, none⟩ = some (.int .i64 o.s) ∧ wr.drew.cell? ⟨g3, q * 13 + 4, none⟩ = some (.int .i64 o.p) ∧ wr.drew.cell? ⟨g3, q * 13 + 5, none⟩ = some (.int .i64 o.l) ∧ wr.drew.cell? ⟨g3, q * 13 + 6, none⟩ = some (.int .i64 o.u) ∧ wr.drew.cell? ⟨g3, q * 13 + 7, none⟩ = some (.int .i64 o.q) ∧ wr.drew.cell? ⟨g3, q * 13 + 8, none⟩ = some (.int .i64 o.lf) ∧ wr.drew.cell? ⟨g3, q * 13 + 9, none⟩ = some (.int .i64 o.fl) ∧ wr.drew.cell? ⟨g3, q * 13 + 10, none⟩ = some (.bool o.ak) ∧ wr.drew.cell? ⟨g3, q * 13 + 11, none⟩ = some (.bool o.rs) ∧ wr.drew.cell? ⟨g3, q * 13 + 12, none⟩ = some (.int .i64 o.en) ∧ wr.drew.cell? ⟨g4, q * 13, none⟩ = some (.int .i64 o.c) ∧ wr.drew.cell? ⟨g4, q * 13 + 1, none⟩ = some (.int .i64 o.g) ∧ wr.drew.cell? ⟨g4, q * 13 + 2, none⟩ = some (.int .i64 o.n) ∧ wr.drew.cell? ⟨g4, q * 13 + 3, none⟩ = some (.int .i64 o.s) ∧ wr.drew.cell? ⟨g4, q * 13 + 4, none⟩ = some (.int .i64 o.p) ∧ wr.drew.cell? ⟨g4, q * 13 + 5, none⟩ = some (.int .i64 o.l) ∧ wr.drew.cell? ⟨g4, q * 13 + 6, none⟩ = some (.int .i64 o.u) ∧ wr.drew.cell? ⟨g4, q * 13 + 7, none⟩ = some (.int .i64 o.q) ∧ wr.drew.cell? ⟨g4, q * 13 + 8, none⟩ = some (.int .i64 o.lf) ∧ wr.drew.cell? ⟨g4, q * 13 + 9, none⟩ = some (.int .i64 o.fl) ∧ wr.drew.cell? ⟨g4, q * 13 + 10, none⟩ = some (.bool o.ak) ∧ wr.drew.cell? ⟨g4, q * 13 + 11, none⟩ = some (.bool o.rs) ∧ wr.drew.cell? ⟨g4, q * 13 + 12, none⟩ = some (.int .i64 o.en) := (And.intro (ha 0 _ (by omega) rfl) (And.intro (ha 1 _ (by omega) rfl) (And.intro (ha 2 _ (by omega) rfl) (And.intro (ha 3 _ (by omega) rfl) (And.intro (ha 4 _ (by omega) rfl) (And.intro (ha 5 _ (by omega) rfl) (And.intro (ha 6 _ (by omega) rfl) (And.intro (ha 7 _ (by omega) rfl) (And.intro (ha 8 _ (by omega) rfl) (And.intro (ha 9 _ (by omega) rfl) (And.intro (ha 10 _ (by omega) rfl) (And.intro (ha 11 _ (by omega) rfl) (And.intro (ha 12 _ (by omega) rfl) (And.intro (hb 0 _ (by omega) rfl) (And.intro (hb 1 _ (by omega) rfl) (And.intro (hb 2 _ (by omega) rfl) (And.intro (hb 3 _ (by omega) rfl) (And.intro (hb 4 _ (by omega) rfl) (And.intro (hb 5 _ (by omega) rfl) (And.intro (hb 6 _ (by omega) rfl) (And.intro (hb 7 _ (by omega) rfl) (And.intro (hb 8 _ (by omega) rfl) (And.intro (hb 9 _ (by omega) rfl) (And.intro (hb 10 _ (by omega) rfl) (And.intro (hb 11 _ (by omega) rfl) (hb 12 _ (by omega) rfl))))))))))))))))))))))))))
            have heq := eqOrd o
            clear ha hb ho hv3 hv4
            go_wp2_with fail
            go_region_held3 (fun w' => w'.cell? ⟨g3, q * 13, none⟩ = some (.int .i64 o.c) ∧ w'.cell? ⟨g3, q * 13 + 1, none⟩ = some (.int .i64 o.g) ∧ w'.cell? ⟨g3, q * 13 + 2, none⟩ = some (.int .i64 o.n) ∧ w'.cell? ⟨g3, q * 13 + 3, none⟩ = some (.int .i64 o.s) ∧ w'.cell? ⟨g3, q * 13 + 4, none⟩ = some (.int .i64 o.p) ∧ w'.cell? ⟨g3, q * 13 + 5, none⟩ = some (.int .i64 o.l) ∧ w'.cell? ⟨g3, q * 13 + 6, none⟩ = some (.int .i64 o.u) ∧ w'.cell? ⟨g3, q * 13 + 7, none⟩ = some (.int .i64 o.q) ∧ w'.cell? ⟨g3, q * 13 + 8, none⟩ = some (.int .i64 o.lf) ∧ w'.cell? ⟨g3, q * 13 + 9, none⟩ = some (.int .i64 o.fl) ∧ w'.cell? ⟨g3, q * 13 + 10, none⟩ = some (.bool o.ak) ∧ w'.cell? ⟨g3, q * 13 + 11, none⟩ = some (.bool o.rs) ∧ w'.cell? ⟨g3, q * 13 + 12, none⟩ = some (.int .i64 o.en) ∧ w'.cell? ⟨g4, q * 13, none⟩ = some (.int .i64 o.c) ∧ w'.cell? ⟨g4, q * 13 + 1, none⟩ = some (.int .i64 o.g) ∧ w'.cell? ⟨g4, q * 13 + 2, none⟩ = some (.int .i64 o.n) ∧ w'.cell? ⟨g4, q * 13 + 3, none⟩ = some (.int .i64 o.s) ∧ w'.cell? ⟨g4, q * 13 + 4, none⟩ = some (.int .i64 o.p) ∧ w'.cell? ⟨g4, q * 13 + 5, none⟩ = some (.int .i64 o.l) ∧ w'.cell? ⟨g4, q * 13 + 6, none⟩ = some (.int .i64 o.u) ∧ w'.cell? ⟨g4, q * 13 + 7, none⟩ = some (.int .i64 o.q) ∧ w'.cell? ⟨g4, q * 13 + 8, none⟩ = some (.int .i64 o.lf) ∧ w'.cell? ⟨g4, q * 13 + 9, none⟩ = some (.int .i64 o.fl) ∧ w'.cell? ⟨g4, q * 13 + 10, none⟩ = some (.bool o.ak) ∧ w'.cell? ⟨g4, q * 13 + 11, none⟩ = some (.bool o.rs) ∧ w'.cell? ⟨g4, q * 13 + 12, none⟩ = some (.int .i64 o.en)) (first | with_reducible exact hS | fail) (first | fail)
            go_wp2_with fail
            go_roundw
            case rel => exact ⟨q + 1, by omega, by go_num, Below.drew hBq⟩
            case measure => simp [intOf]; omega
          · obtain rfl : q = m := by omega
            have hd : decide ((q : Int) < (q : Int)) = false := decide_eq_false (by omega)
            go_wp2_with fail
            refine (awake_is _).mono ?_
            rintro e9 w9 ⟨rfl, hb9⟩
            go_wp2_with fail
            go_ret
            exact ⟨rfl, Below.step (Below.step HB.out hBq) hb9⟩
      · go_wp2_with fail
        refine (awake_is _).mono ?_
        rintro e9 w9 ⟨rfl, hb9⟩
        go_wp2_with fail
        go_ret
        exact ⟨rfl, Below.step HM4.out.bel hb9⟩
theorem walk (p c n b r f g : Int) (A : Option Addr) (ln cp : Nat) (gv : Nat → Evt) (x : Evt) (w : World) (_ : (Lit.int .i64 p).wf = true) (_ : (Lit.int .i64 c).wf = true) (_ : (Lit.int .i64 n).wf = true) (_ : (Lit.int .i64 b).wf = true) (_ : (Lit.int .i64 r).wf = true) (_ : (Lit.int .i64 f).wf = true) (_ : (Lit.int .i64 g).wf = true) (hE : EvsAt A ln gv w) : Calls Try.prog 5 #[.agg #[.int .i64 p, .int .i64 c, .int .i64 n, .int .i64 b, .int .i64 r, .int .i64 f, .int .i64 g], .slice A ln cp, .agg #[.int .i64 x.k, .int .i64 x.c, .int .i64 x.g, .int .i64 x.o, .int .i64 x.w, .int .i64 x.n, .int .i64 x.s, .int .i64 x.p, .int .i64 x.l, .int .i64 x.u, .int .i64 x.q, .int .i64 x.pr, .int .i64 x.t, .int .i64 x.en]] w fun e w' => e = .returned (.bool true) ∧ Below w.heap.size w w' := by
  by_cases h : (1 ≤ p ∧ p ≤ 6) ∧ (1 ≤ c ∧ c ≤ 4) ∧ (1 ≤ n ∧ n ≤ 3) ∧ (1 ≤ b ∧ b ≤ 4) ∧ (0 ≤ r ∧ r ≤ 4) ∧ (1 ≤ f ∧ f ≤ 4) ∧ (1 ≤ g ∧ g ≤ 15)
  · obtain ⟨hp, hc, hn, hb, hr, hf, hg⟩ := h
    by_cases hl : ln ≤ 40
    · exact main p c n b r f g A ln cp gv x w hp hc hn hb hr hf hg hl hE
    · exact long p c n b r f g A ln cp x w hp hc hn hb hr hf hg (by omega)
  · exact bad p c n b r f g A ln cp x w h
end Go.Proofs.Ytnhmdaoghcfghaa.traceLies
