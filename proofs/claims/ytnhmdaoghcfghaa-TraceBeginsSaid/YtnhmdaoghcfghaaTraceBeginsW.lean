/-
  What happened stays.
-/
import Derived.Test.YtnhmdaoghcfghaaRows
import Derived.Test.YtnhmdaoghcfghaaKit
import Derived.Test.YtnhmdaoghcfghaaApp
import Derived.Test.YtnhmdaoghcfghaaQuiet
import Derived.Test.YtnhmdaoghcfghaaTrM
import Derived.Test.YtnhmdaoghcfghaaTrS
import Derived.Test.YtnhmdaoghcfghaaTrF
import Derived.Test.YtnhmdaoghcfghaaTrG
import Derived.Test.YtnhmdaoghcfghaaTrH
import Derived.Test.YtnhmdaoghcfghaaTrI
import Derived.Test.YtnhmdaoghcfghaaTrJ
import Derived.Test.YtnhmdaoghcfghaaTrK
import Derived.Test.YtnhmdaoghcfghaaTrL
import Derived.Test.YtnhmdaoghcfghaaTrN
import Derived.Test.YtnhmdaoghcfghaaTrO
import Derived.Test.YtnhmdaoghcfghaaRules
import Derived.Test.YtnhmdaoghcfghaaTrP
import Derived.Test.YtnhmdaoghcfghaaTrQ
import Derived.Test.YtnhmdaoghcfghaaTrR
import Derived.Test.YtnhmdaoghcfghaaTrT
import Derived.Test.YtnhmdaoghcfghaaTrU
import Derived.WalkKit
import Derived.ProofKit
import Derived.OpenShut
import Derived.ShutString
import Derived.Below
import Derived.Outline
import Derived.WalkLawsBesides
import Derived.WalkSpells
import Derived.Handy
import Derived.Deep.QuietTactic
import Derived.BigQuiet
import Derived.RegionTactic
import Derived.ChangeAlike
import Derived.Lib.Hide
import Derived.Laws.Rows
import Derived.Laws.Tables
import Derived.Laws.CopyOwn
import Derived.Laws.MakeOwn
import Derived.Laws.Entries
import Derived.Laws.OwnMore
import Derived.Deep.WholeRow
import Derived.Deep.LoopGhost
import Derived.Deep.AppendLies
import Derived.Deep.Draws
import Derived.Maps.AppendAt
import Derived.OwnWalk
import Derived.Deep.RegionHeld3
import Derived.Deep.Cut
import Derived.Deep.CutRange
import Derived.Deep.DeepCutAuto
import Derived.Deep.CutBlock
import Derived.Lib.SliceRun
import Derived.IntWalk
import Derived.OpenShut
import Derived.Deep.Slices
import Derived.Deep.Fields
import Derived.ChangeSame
import Derived.ChangeArms
import Derived.Test.YtnhmdaoghcfghaaTrW
import Derived.Laws.CopyOwn
import Derived.Test.YtnhmdaoghcfghaaTrV
import Derived.Test.YtnhmdaoghcfghaaTrX
namespace Go.Proofs.Ytnhmdaoghcfghaa.traceBegins
open Go.ChangeShapes Go.WideShapes Go.ChangeAt Go.RowKit
set_option maxRecDepth 100000 in
set_option maxHeartbeats 8000000 in
theorem bad (p c n b r f g : Int) (A : Option Addr) (ln cp : Nat) (A2 : Option Addr) (ln2 cp2 : Nat) (w : World) (h : ¬ ((1 ≤ p ∧ p ≤ 6) ∧ (1 ≤ c ∧ c ≤ 4) ∧ (1 ≤ n ∧ n ≤ 3) ∧ (1 ≤ b ∧ b ≤ 4) ∧ (0 ≤ r ∧ r ≤ 4) ∧ (1 ≤ f ∧ f ≤ 4) ∧ (1 ≤ g ∧ g ≤ 15))) : Calls Try.prog 4 #[.agg #[.int .i64 p, .int .i64 c, .int .i64 n, .int .i64 b, .int .i64 r, .int .i64 f, .int .i64 g], .slice A ln cp, .slice A2 ln2 cp2] w fun e w' => e = .returned (.bool true) ∧ Below w.heap.size w w' := by
  have HN := Lib.hid (fun W => rnew_bad p c n b r f g W h)
  clear h
  go_enter Try.func4, Try.ntmps4
  go_wp2_with fail
  obtain ⟨W0, hW0⟩ : ∃ W0, W0 = (w.alloc (.cells (List.toArray [.int .i64 p, .int .i64 c, .int .i64 n, .int .i64 b, .int .i64 r, .int .i64 f, .int .i64 g]) 23)) := ⟨_, rfl⟩
  have hB0 : Below w.heap.size w W0 := by rw [hW0]; go_grown
  rw [← hW0]
  clear hW0
  refine (HN.out _).mono ?_
  rintro e1 w1 ⟨T, v, rfl, hb1⟩
  have hB1 := Below.step hB0 hb1
  have hB1a := hB1.alloc hB1.size (.cells (List.toArray [.int .i64 0, .int .i64 0, .int .i64 0, .int .i64 0, .int .i64 0, .int .i64 0, .int .i64 0]) 26)
  clear hb1 hB1 hB0
  go_wp2_with fail
  refine (awake_is _).mono ?_
  rintro e9 w9 ⟨rfl, hb9⟩
  go_wp2_with fail
  go_ret
  exact ⟨rfl, Below.step hB1a hb9⟩
set_option maxRecDepth 100000 in
set_option maxHeartbeats 8000000 in
theorem long1 (p c n b r f g : Int) (A : Option Addr) (ln cp : Nat) (A2 : Option Addr) (ln2 cp2 : Nat) (w : World) (hp : 1 ≤ p ∧ p ≤ 6) (hc : 1 ≤ c ∧ c ≤ 4) (hn : 1 ≤ n ∧ n ≤ 3) (hb : 1 ≤ b ∧ b ≤ 4) (hr : 0 ≤ r ∧ r ≤ 4) (hf : 1 ≤ f ∧ f ≤ 4) (hg : 1 ≤ g ∧ g ≤ 15) (hl : 40 < ln) : Calls Try.prog 4 #[.agg #[.int .i64 p, .int .i64 c, .int .i64 n, .int .i64 b, .int .i64 r, .int .i64 f, .int .i64 g], .slice A ln cp, .slice A2 ln2 cp2] w fun e w' => e = .returned (.bool true) ∧ Below w.heap.size w w' := by
  have HN := Lib.hid (fun W => rnew_ok p c n b r f g W hp hc hn hb hr hf hg)
  have dl : decide ((40 : Int) < (ln : Int)) = true := decide_eq_true (by omega)
  clear hl
  clear hp hc hn hb hr hf hg
  go_enter Try.func4, Try.ntmps4
  go_wp2_with fail
  obtain ⟨W0, hW0⟩ : ∃ W0, W0 = (w.alloc (.cells (List.toArray [.int .i64 p, .int .i64 c, .int .i64 n, .int .i64 b, .int .i64 r, .int .i64 f, .int .i64 g]) 23)) := ⟨_, rfl⟩
  have hB0 : Below w.heap.size w W0 := by rw [hW0]; go_grown
  rw [← hW0]
  clear hW0
  refine (HN.out _).mono ?_
  rintro e1 w1 ⟨rfl, hb1⟩
  have hB1 := Below.step hB0 hb1
  have hB1a := hB1.alloc hB1.size (.cells (List.toArray [.int .i64 p, .int .i64 c, .int .i64 n, .int .i64 b, .int .i64 r, .int .i64 f, .int .i64 g]) 26)
  clear hb1 hB1 hB0
  go_wp2_with fail
  refine (awake_is _).mono ?_
  rintro e9 w9 ⟨rfl, hb9⟩
  go_wp2_with fail
  go_ret
  exact ⟨rfl, Below.step hB1a hb9⟩
set_option maxRecDepth 100000 in
set_option maxHeartbeats 8000000 in
theorem long2 (p c n b r f g : Int) (A : Option Addr) (ln cp : Nat) (A2 : Option Addr) (ln2 cp2 : Nat) (w : World) (hp : 1 ≤ p ∧ p ≤ 6) (hc : 1 ≤ c ∧ c ≤ 4) (hn : 1 ≤ n ∧ n ≤ 3) (hb : 1 ≤ b ∧ b ≤ 4) (hr : 0 ≤ r ∧ r ≤ 4) (hf : 1 ≤ f ∧ f ≤ 4) (hg : 1 ≤ g ∧ g ≤ 15) (hl : ln ≤ 40) (hl2 : 40 < ln2) : Calls Try.prog 4 #[.agg #[.int .i64 p, .int .i64 c, .int .i64 n, .int .i64 b, .int .i64 r, .int .i64 f, .int .i64 g], .slice A ln cp, .slice A2 ln2 cp2] w fun e w' => e = .returned (.bool true) ∧ Below w.heap.size w w' := by
  have HN := Lib.hid (fun W => rnew_ok p c n b r f g W hp hc hn hb hr hf hg)
  have dl : decide ((40 : Int) < (ln : Int)) = false := decide_eq_false (by omega)
  have dl2 : decide ((40 : Int) < (ln2 : Int)) = true := decide_eq_true (by omega)
  clear hl hl2
  clear hp hc hn hb hr hf hg
  go_enter Try.func4, Try.ntmps4
  go_wp2_with fail
  obtain ⟨W0, hW0⟩ : ∃ W0, W0 = (w.alloc (.cells (List.toArray [.int .i64 p, .int .i64 c, .int .i64 n, .int .i64 b, .int .i64 r, .int .i64 f, .int .i64 g]) 23)) := ⟨_, rfl⟩
  have hB0 : Below w.heap.size w W0 := by rw [hW0]; go_grown
  rw [← hW0]
  clear hW0
  refine (HN.out _).mono ?_
  rintro e1 w1 ⟨rfl, hb1⟩
  have hB1 := Below.step hB0 hb1
  have hB1a := hB1.alloc hB1.size (.cells (List.toArray [.int .i64 p, .int .i64 c, .int .i64 n, .int .i64 b, .int .i64 r, .int .i64 f, .int .i64 g]) 26)
  clear hb1 hB1 hB0
  go_wp2_with fail
  refine (awake_is _).mono ?_
  rintro e9 w9 ⟨rfl, hb9⟩
  go_wp2_with fail
  go_ret
  exact ⟨rfl, Below.step hB1a hb9⟩
theorem addp (a : Addr) (i : Nat) (hi : i ≠ 0) (h : a.spot = none) : a.add i = ⟨a.block, a.off + i, none⟩ := by
  unfold Addr.add
  rw [if_neg hi]
structure LS (Fx : Nat → Option Obj → Prop) (w wr : World) (B K : Nat) (p c n b r f g : Int) (v : Value) (os : List Ord) (now : Int) (was : List Ord) (m : Nat) : Prop where
  len : os.length ≤ m
  inv : Inv f os
  ext : Ext was os
  ms : MS Fx w wr B K p c n b r f g v os now
set_option maxRecDepth 100000 in
set_option maxHeartbeats 16000000 in
theorem main (p c n b r f g : Int) (A : Option Addr) (ln cp : Nat) (A2 : Option Addr) (ln2 cp2 : Nat) (gv gv2 : Nat → Evt) (w : World) (hp : 1 ≤ p ∧ p ≤ 6) (hc : 1 ≤ c ∧ c ≤ 4) (hn : 1 ≤ n ∧ n ≤ 3) (hb : 1 ≤ b ∧ b ≤ 4) (hr : 0 ≤ r ∧ r ≤ 4) (hf : 1 ≤ f ∧ f ≤ 4) (hg : 1 ≤ g ∧ g ≤ 15) (hl : ln ≤ 40) (hl2 : ln2 ≤ 40) (hE : EvsAt A ln gv w) (hE2 : EvsAt A2 ln2 gv2 w) : Calls Try.prog 4 #[.agg #[.int .i64 p, .int .i64 c, .int .i64 n, .int .i64 b, .int .i64 r, .int .i64 f, .int .i64 g], .slice A ln cp, .slice A2 ln2 cp2] w fun e w' => e = .returned (.bool true) ∧ Below w.heap.size w w' := by
  have HN := Lib.hid (fun W => rnew_ok p c n b r f g W hp hc hn hb hr hf hg)
  have HD := Lib.hid (fun (Fx : Nat → Option Obj → Prop) (W wr : World) (B K : Nat) (now : Int) (v : Value) (os : List Ord) (e : Evt) (h : MS Fx W wr B K p c n b r f g v os now) (h1 : os.length ≤ 900) (h2 : Inv f os) => do_is Fx W wr B K p c n b r f g now v os e h h1 h2 hp hc ⟨by omega, hf.2⟩ hg.2)
  have HE := Lib.hid hE
  have HF := Lib.hid hE2
  have dl : decide ((40 : Int) < (ln : Int)) = false := decide_eq_false (by omega)
  have dl2 : decide ((40 : Int) < (ln2 : Int)) = false := decide_eq_false (by omega)
  have l0 : (0 : Int) ≤ (ln : Int) := by omega
  have l1 : (ln : Int) ≤ 40 := by omega
  have l2 : (0 : Int) ≤ (ln2 : Int) := by omega
  have l3 : (ln2 : Int) ≤ 40 := by omega
  clear hp hc hn hb hr hf hg hl hl2 hE hE2
  go_enter Try.func4, Try.ntmps4
  go_wp2_with fail
  obtain ⟨W0, hW0⟩ : ∃ W0, W0 = (w.alloc (.cells (List.toArray [.int .i64 p, .int .i64 c, .int .i64 n, .int .i64 b, .int .i64 r, .int .i64 f, .int .i64 g]) 23)) := ⟨_, rfl⟩
  have hB0 : Below w.heap.size w W0 := by rw [hW0]; go_grown
  rw [← hW0]
  clear hW0
  refine (HN.out _).mono ?_
  rintro e1 w1 ⟨rfl, hb1⟩
  have hB1 := Below.step hB0 hb1
  have hD1 : Below w1.heap.size w1 (w1.alloc (.cells (List.toArray [.int .i64 p, .int .i64 c, .int .i64 n, .int .i64 b, .int .i64 r, .int .i64 f, .int .i64 g]) 26)) := by go_grown
  have hB := Below.step hB1 hD1
  clear hb1 hB1 hB0 hD1
  obtain ⟨W1, hW1⟩ : ∃ W1, W1 = w1.alloc (.cells (List.toArray [.int .i64 p, .int .i64 c, .int .i64 n, .int .i64 b, .int .i64 r, .int .i64 f, .int .i64 g]) 26) := ⟨_, rfl⟩
  rw [← hW1] at hB
  have HNew : Hid (Calls Try.prog 8 #[.agg #[.int .i64 p, .int .i64 c, .int .i64 n, .int .i64 b, .int .i64 r, .int .i64 f, .int .i64 g]] W1 fun e w' => ∃ B K, e = .returned (.pointer (some ⟨B, 0, none⟩)) ∧ MS (fun _ _ => False) w w' B K p c n b r f g (.slice none 0 0) [] 0) := Lib.hid ((new_is (fun _ _ => False) p c n b r f g W1 (fun k o hk => hk.elim)).mono fun e w' h => ⟨_, _, h.1, h.2.base hB⟩)
  clear hB
  go_wp2_with fail
  rw [← hW1]
  refine HNew.out.mono ?_
  rintro e2 w2 ⟨B, K, rfl, hM⟩
  have HM := Lib.hid hM
  clear hM HNew hW1
  go_wp2_with fail
  go_loopw [11, 41] (fun _ i wr => ∃ (q : Nat) (os : List Ord) (now : Int) (v : Value), q ≤ ln ∧ i = .int .i64 (q : Int) ∧ Hid (LS (fun _ _ => False) w wr B K p c n b r f g v os now [] q)) (fun _ i _ => ln + 1 - (intOf i).toNat)
  case atStart => exact ⟨0, [], 0, _, Nat.zero_le _, rfl, Lib.hid ⟨Nat.le_refl _, ⟨fun i a h => (by simp at h), fun i j a b' h => (by simp at h)⟩, Ext.refl _, HM.out⟩⟩
  case round =>
    clear HM
    obtain ⟨q, os, now, v, hq, rfl, HR⟩ := hrel
    have q0 : (0 : Int) ≤ (q : Int) := by omega
    by_cases hqx : q < ln
    · clear HF
      have q1 : (q : Int) < (ln : Int) := by omega
      have hE2 := HE.out.below HR.out.ms.bel
      obtain ⟨ad, rfl, hab, hcs⟩ := hE2 (by omega)
      have hcy := hcs q hqx
      clear hE2 hcs hab
      generalize gv q = y at *
      clear HE gv
      have d0 := hcy 0 _ rfl
      have d1 := hcy 1 _ rfl
      have d2 := hcy 2 _ rfl
      have d3 := hcy 3 _ rfl
      have d4 := hcy 4 _ rfl
      have d5 := hcy 5 _ rfl
      have d6 := hcy 6 _ rfl
      have d7 := hcy 7 _ rfl
      have d8 := hcy 8 _ rfl
      have d9 := hcy 9 _ rfl
      have d10 := hcy 10 _ rfl
      have d11 := hcy 11 _ rfl
      have d12 := hcy 12 _ rfl
      have d13 := hcy 13 _ rfl
      clear hcy
      have q0' : wr.cell? (ad.add (q * 14)) = some (.int .i64 y.k) := d0
      have q1' : wr.cell? ⟨(ad.add (q * 14)).block, (ad.add (q * 14)).off + 1, none⟩ = some (.int .i64 y.c) := by rw [← addp _ 1 (by decide) (World.cell?_spot q0'), add_of_add]; exact d1
      have q2' : wr.cell? ⟨(ad.add (q * 14)).block, (ad.add (q * 14)).off + 2, none⟩ = some (.int .i64 y.g) := by rw [← addp _ 2 (by decide) (World.cell?_spot q0'), add_of_add]; exact d2
      have q3' : wr.cell? ⟨(ad.add (q * 14)).block, (ad.add (q * 14)).off + 3, none⟩ = some (.int .i64 y.o) := by rw [← addp _ 3 (by decide) (World.cell?_spot q0'), add_of_add]; exact d3
      have q4' : wr.cell? ⟨(ad.add (q * 14)).block, (ad.add (q * 14)).off + 4, none⟩ = some (.int .i64 y.w) := by rw [← addp _ 4 (by decide) (World.cell?_spot q0'), add_of_add]; exact d4
      have q5' : wr.cell? ⟨(ad.add (q * 14)).block, (ad.add (q * 14)).off + 5, none⟩ = some (.int .i64 y.n) := by rw [← addp _ 5 (by decide) (World.cell?_spot q0'), add_of_add]; exact d5
      have q6' : wr.cell? ⟨(ad.add (q * 14)).block, (ad.add (q * 14)).off + 6, none⟩ = some (.int .i64 y.s) := by rw [← addp _ 6 (by decide) (World.cell?_spot q0'), add_of_add]; exact d6
      have q7' : wr.cell? ⟨(ad.add (q * 14)).block, (ad.add (q * 14)).off + 7, none⟩ = some (.int .i64 y.p) := by rw [← addp _ 7 (by decide) (World.cell?_spot q0'), add_of_add]; exact d7
      have q8' : wr.cell? ⟨(ad.add (q * 14)).block, (ad.add (q * 14)).off + 8, none⟩ = some (.int .i64 y.l) := by rw [← addp _ 8 (by decide) (World.cell?_spot q0'), add_of_add]; exact d8
      have q9' : wr.cell? ⟨(ad.add (q * 14)).block, (ad.add (q * 14)).off + 9, none⟩ = some (.int .i64 y.u) := by rw [← addp _ 9 (by decide) (World.cell?_spot q0'), add_of_add]; exact d9
      have q10' : wr.cell? ⟨(ad.add (q * 14)).block, (ad.add (q * 14)).off + 10, none⟩ = some (.int .i64 y.q) := by rw [← addp _ 10 (by decide) (World.cell?_spot q0'), add_of_add]; exact d10
      have q11' : wr.cell? ⟨(ad.add (q * 14)).block, (ad.add (q * 14)).off + 11, none⟩ = some (.int .i64 y.pr) := by rw [← addp _ 11 (by decide) (World.cell?_spot q0'), add_of_add]; exact d11
      have q12' : wr.cell? ⟨(ad.add (q * 14)).block, (ad.add (q * 14)).off + 12, none⟩ = some (.int .i64 y.t) := by rw [← addp _ 12 (by decide) (World.cell?_spot q0'), add_of_add]; exact d12
      have q13' : wr.cell? ⟨(ad.add (q * 14)).block, (ad.add (q * 14)).off + 13, none⟩ = some (.int .i64 y.en) := by rw [← addp _ 13 (by decide) (World.cell?_spot q0'), add_of_add]; exact d13
      have HA := Lib.hid (show MS (fun _ _ => False) w (wr.alloc (.cells (List.toArray [.int .i64 y.k, .int .i64 y.c, .int .i64 y.g, .int .i64 y.o, .int .i64 y.w, .int .i64 y.n, .int .i64 y.s, .int .i64 y.p, .int .i64 y.l, .int .i64 y.u, .int .i64 y.q, .int .i64 y.pr, .int .i64 y.t, .int .i64 y.en]) 39)) B K p c n b r f g v os now from HR.out.ms.below (by go_grown))
      have HI := Lib.hid HR.out
      clear HR d0 d1 d2 d3 d4 d5 d6 d7 d8 d9 d10 d11 d12 d13
      go_wp2_with fail
      have h := HD.out _ _ _ B K now v os y HA.out (by have := HI.out.len; omega) HI.out.inv
      unfold DoIs at h
      refine h.mono ?_
      rintro rr w3 ⟨E, os', now', v', rfl, hM3, hcase⟩
      have HR2 := Lib.hid (show LS (fun _ _ => False) w w3 B K p c n b r f g v' os' now' [] (q + 1) from by
        rcases hcase with ⟨k, _, rfl⟩ | ⟨_, hst⟩
        · exact ⟨by have := HI.out.len; omega, HI.out.inv, HI.out.ext, hM3⟩
        · exact ⟨by have := hst.len; have := HI.out.len; omega, hst.inv HI.out.inv, HI.out.ext.trans hst.ext, hM3⟩)
      clear h hM3 hcase HA HI
      go_wp2_with fail
      go_roundw
      case rel => exact ⟨q + 1, os', now', v', by omega, by go_num, HR2⟩
      case measure => simp [intOf]; omega
    · obtain rfl : q = ln := by omega
      have hd : decide ((q : Int) < (q : Int)) = false := decide_eq_false (by omega)
      have hol : os.length ≤ 40 := by have := HR.out.len; omega
      have HO := Lib.hid (orders_is _ w wr B K p c n b r f g now v os HR.out.ms (by omega))
      clear HE
      go_wp2_with fail
      refine HO.out.mono ?_
      rintro e3 wm ⟨v3, rfl, hr3, hb3⟩
      obtain ⟨A3, c3, rfl⟩ := own_shape hr3
      have hMh := HR.out.ms.hold hb3
      obtain ⟨S, hS⟩ : ∃ S, S = wr.heap.size := ⟨_, rfl⟩
      rw [← hS] at hMh hr3
      have HS0 := Lib.hid (show LS (fun k o => S ≤ k ∧ k < wm.heap.size ∧ o = wm.heap[k]?) w wm B K p c n b r f g v os now os (0 + os.length) from ⟨by omega, HR.out.inv, Ext.refl _, hMh⟩)
      have HW := Lib.hid hr3
      obtain ⟨m, hm⟩ : ∃ m, m = os.length := ⟨_, rfl⟩
      have m0 : (0 : Int) ≤ (m : Int) := by omega
      have m1 : (m : Int) ≤ 40 := by omega
      simp only [← hm] at HS0 HW ⊢
      generalize hos : os = os1 at *
      have HMM := Lib.hid hm
      clear HO HR hr3 hb3 hMh hS HN hol hm hd hos q0 hqx dl
      go_wp2_with fail
      go_loopw [14, 53] (fun _ i wr => ∃ (q : Nat) (os : List Ord) (now : Int) (v : Value), q ≤ ln2 ∧ i = .int .i64 (q : Int) ∧ Hid (LS (fun k o => S ≤ k ∧ k < wm.heap.size ∧ o = wm.heap[k]?) w wr B K p c n b r f g v os now os1 (q + m))) (fun _ i _ => ln2 + 1 - (intOf i).toNat)
      case atStart => exact ⟨0, os1, _, _, Nat.zero_le _, rfl, HS0⟩
      case round =>
        clear HS0
        obtain ⟨q, os, now, v, hq, rfl, HR⟩ := hrel
        have q0 : (0 : Int) ≤ (q : Int) := by omega
        by_cases hqx : q < ln2
        · clear HW HMM
          have q1 : (q : Int) < (ln2 : Int) := by omega
          have hE2 := HF.out.below HR.out.ms.bel
          obtain ⟨ad, rfl, hab, hcs⟩ := hE2 (by omega)
          have hcy := hcs q hqx
          clear hE2 hcs hab
          generalize gv2 q = y at *
          clear HF gv2
          have d0 := hcy 0 _ rfl
          have d1 := hcy 1 _ rfl
          have d2 := hcy 2 _ rfl
          have d3 := hcy 3 _ rfl
          have d4 := hcy 4 _ rfl
          have d5 := hcy 5 _ rfl
          have d6 := hcy 6 _ rfl
          have d7 := hcy 7 _ rfl
          have d8 := hcy 8 _ rfl
          have d9 := hcy 9 _ rfl
          have d10 := hcy 10 _ rfl
          have d11 := hcy 11 _ rfl
          have d12 := hcy 12 _ rfl
          have d13 := hcy 13 _ rfl
          clear hcy
          have q0' : wr.cell? (ad.add (q * 14)) = some (.int .i64 y.k) := d0
          have q1' : wr.cell? ⟨(ad.add (q * 14)).block, (ad.add (q * 14)).off + 1, none⟩ = some (.int .i64 y.c) := by rw [← addp _ 1 (by decide) (World.cell?_spot q0'), add_of_add]; exact d1
          have q2' : wr.cell? ⟨(ad.add (q * 14)).block, (ad.add (q * 14)).off + 2, none⟩ = some (.int .i64 y.g) := by rw [← addp _ 2 (by decide) (World.cell?_spot q0'), add_of_add]; exact d2
          have q3' : wr.cell? ⟨(ad.add (q * 14)).block, (ad.add (q * 14)).off + 3, none⟩ = some (.int .i64 y.o) := by rw [← addp _ 3 (by decide) (World.cell?_spot q0'), add_of_add]; exact d3
          have q4' : wr.cell? ⟨(ad.add (q * 14)).block, (ad.add (q * 14)).off + 4, none⟩ = some (.int .i64 y.w) := by rw [← addp _ 4 (by decide) (World.cell?_spot q0'), add_of_add]; exact d4
          have q5' : wr.cell? ⟨(ad.add (q * 14)).block, (ad.add (q * 14)).off + 5, none⟩ = some (.int .i64 y.n) := by rw [← addp _ 5 (by decide) (World.cell?_spot q0'), add_of_add]; exact d5
          have q6' : wr.cell? ⟨(ad.add (q * 14)).block, (ad.add (q * 14)).off + 6, none⟩ = some (.int .i64 y.s) := by rw [← addp _ 6 (by decide) (World.cell?_spot q0'), add_of_add]; exact d6
          have q7' : wr.cell? ⟨(ad.add (q * 14)).block, (ad.add (q * 14)).off + 7, none⟩ = some (.int .i64 y.p) := by rw [← addp _ 7 (by decide) (World.cell?_spot q0'), add_of_add]; exact d7
          have q8' : wr.cell? ⟨(ad.add (q * 14)).block, (ad.add (q * 14)).off + 8, none⟩ = some (.int .i64 y.l) := by rw [← addp _ 8 (by decide) (World.cell?_spot q0'), add_of_add]; exact d8
          have q9' : wr.cell? ⟨(ad.add (q * 14)).block, (ad.add (q * 14)).off + 9, none⟩ = some (.int .i64 y.u) := by rw [← addp _ 9 (by decide) (World.cell?_spot q0'), add_of_add]; exact d9
          have q10' : wr.cell? ⟨(ad.add (q * 14)).block, (ad.add (q * 14)).off + 10, none⟩ = some (.int .i64 y.q) := by rw [← addp _ 10 (by decide) (World.cell?_spot q0'), add_of_add]; exact d10
          have q11' : wr.cell? ⟨(ad.add (q * 14)).block, (ad.add (q * 14)).off + 11, none⟩ = some (.int .i64 y.pr) := by rw [← addp _ 11 (by decide) (World.cell?_spot q0'), add_of_add]; exact d11
          have q12' : wr.cell? ⟨(ad.add (q * 14)).block, (ad.add (q * 14)).off + 12, none⟩ = some (.int .i64 y.t) := by rw [← addp _ 12 (by decide) (World.cell?_spot q0'), add_of_add]; exact d12
          have q13' : wr.cell? ⟨(ad.add (q * 14)).block, (ad.add (q * 14)).off + 13, none⟩ = some (.int .i64 y.en) := by rw [← addp _ 13 (by decide) (World.cell?_spot q0'), add_of_add]; exact d13
          have HA := Lib.hid (show MS (fun k o => S ≤ k ∧ k < wm.heap.size ∧ o = wm.heap[k]?) w (wr.alloc (.cells (List.toArray [.int .i64 y.k, .int .i64 y.c, .int .i64 y.g, .int .i64 y.o, .int .i64 y.w, .int .i64 y.n, .int .i64 y.s, .int .i64 y.p, .int .i64 y.l, .int .i64 y.u, .int .i64 y.q, .int .i64 y.pr, .int .i64 y.t, .int .i64 y.en]) 39)) B K p c n b r f g v os now from HR.out.ms.below (by go_grown))
          have HI := Lib.hid HR.out
          clear HR d0 d1 d2 d3 d4 d5 d6 d7 d8 d9 d10 d11 d12 d13
          go_wp2_with fail
          have h := HD.out _ _ _ B K now v os y HA.out (by have := HI.out.len; omega) HI.out.inv
          unfold DoIs at h
          refine h.mono ?_
          rintro rr w3 ⟨E, os', now', v', rfl, hM3, hcase⟩
          have HR2 := Lib.hid (show LS (fun k o => S ≤ k ∧ k < wm.heap.size ∧ o = wm.heap[k]?) w w3 B K p c n b r f g v' os' now' os1 (q + 1 + m) from by
            rcases hcase with ⟨k, _, rfl⟩ | ⟨_, hst⟩
            · exact ⟨by have := HI.out.len; omega, HI.out.inv, HI.out.ext, hM3⟩
            · exact ⟨by have := hst.len; have := HI.out.len; omega, hst.inv HI.out.inv, HI.out.ext.trans hst.ext, hM3⟩)
          clear h hM3 hcase HA HI
          go_wp2_with fail
          go_roundw
          case rel => exact ⟨q + 1, os', now', v', by omega, by go_num, HR2⟩
          case measure => simp [intOf]; omega
        · obtain rfl : q = ln2 := by omega
          have hd : decide ((q : Int) < (q : Int)) = false := decide_eq_false (by omega)
          have hol : os.length ≤ 80 := by have := HR.out.len; omega
          have HO := Lib.hid (orders_is _ w wr B K p c n b r f g now v os HR.out.ms (by omega))
          clear HF HD
          go_wp2_with fail
          refine HO.out.mono ?_
          rintro e5 w5 ⟨v5, rfl, hr5, hb5⟩
          obtain ⟨A5, c5, rfl⟩ := own_shape hr5
          have HR1 := Lib.hid (row_kept (HR.out.ms.was HW.out) hb5)
          have HR2 := Lib.hid hr5
          have HB := Lib.hid (Below.step HR.out.ms.bel hb5)
          have HX := Lib.hid HR.out.ext
          obtain ⟨k, hk⟩ : ∃ k, k = os.length := ⟨_, rfl⟩
          have hmk : (m : Int) ≤ (k : Int) := by have h1 := HX.out.len; have h2 := HMM.out; omega
          have dk : decide ((k : Int) < (m : Int)) = false := decide_eq_false (by omega)
          have k0 : (0 : Int) ≤ (k : Int) := by omega
          have k1 : (k : Int) ≤ 80 := by omega
          simp only [← hk] at HR2 ⊢
          have HKK := Lib.hid hk
          clear HO HR hr5 hb5 hol HW hk hd q0 hqx
          go_wp2_with fail
          clear dk
          go_loopw [16, 17, 18, 70] (fun _ _ _ i wr => ∃ q : Nat, q ≤ m ∧ i = .int .i64 (q : Int) ∧ Below w5.heap.size w5 wr) (fun _ _ _ i _ => m + 1 - (intOf i).toNat)
          case atStart => exact ⟨0, Nat.zero_le _, rfl, Below.refl _ _⟩
          case round =>
            obtain ⟨q, hq, rfl, hBq⟩ := hrel
            have q0 : (0 : Int) ≤ (q : Int) := by omega
            by_cases hqx : q < m
            · have q1 : (q : Int) < (m : Int) := by omega
              have q2 : (q : Int) < (k : Int) := by omega
              obtain ⟨o, ho⟩ : ∃ o, os1[q]? = some o := ⟨_, List.getElem?_eq_getElem (by rw [← HMM.out]; exact hqx)⟩
              obtain ⟨o', ho', hkp⟩ := HX.out q o ho
              obtain ⟨g3, cp3, hv3, _, _⟩ := World.ownsRow.form HR1.out (by omega)
              obtain ⟨g4, cp4, hv4, _, _⟩ := World.ownsRow.form HR2.out (by omega)
              obtain ⟨rfl, rfl⟩ : A3 = some ⟨g3, 0, none⟩ ∧ cp3 = c3 := by
                injection hv3 with h1 h2 h3
                exact ⟨h1, h3.symm⟩
              obtain ⟨rfl, rfl⟩ : A5 = some ⟨g4, 0, none⟩ ∧ cp4 = c5 := by
                injection hv4 with h1 h2 h3
                exact ⟨h1, h3.symm⟩
              have hq1 := row_kept HR1.out hBq
              have hq2 := row_kept HR2.out hBq
              have hl3 := (hq1.lt g3 rfl).2
              have hl4 := (hq2.lt g4 rfl).2
              have ha : ∀ j u, j < 13 → (oc o)[j]? = some u → wr.cell? ⟨g3, q * 13 + j, none⟩ = some u := fun j u hj hu => row_cell hq1 ho HMM.out hj hu
              have hb : ∀ j u, j < 13 → (oc o')[j]? = some u → wr.cell? ⟨g4, q * 13 + j, none⟩ = some u := fun j u hj hu => row_cell hq2 ho' HKK.out hj hu
              have n3 : g3 ≠ wr.heap.size := by omega
              have n4 : g4 ≠ wr.heap.size := by omega
              clear hq1 hq2 ho ho' hv3 hv4 HX
              by_cases hen : o.en = 0
              · obtain ⟨u0, u1, u2, u3, u4, u5, u6, u7, u8, u9, u10, u11, u12⟩ := o
                obtain ⟨v0, v1, v2, v3, v4, v5, v6, v7, v8, v9, v10, v11, v12⟩ := o'
                obtain ⟨k0', k1', k2', k3', k4', k5', k6', k7', k8', k9', k10', k11'⟩ := hkp
                simp only at k0' k1' k2' k3' k4' k5' k6' k7' k8' k9' k11' hen
                clear k10'
                subst k0' k1' k2' k3' k4' k5' k6' k7' hen
                have a0 : wr.cell? ⟨g3, q * 13, none⟩ = some (.int .i64 v0) := ha 0 _ (by omega) rfl
                have a1 : wr.cell? ⟨g3, q * 13 + 1, none⟩ = some (.int .i64 v1) := ha 1 _ (by omega) rfl
                have a2 : wr.cell? ⟨g3, q * 13 + 2, none⟩ = some (.int .i64 v2) := ha 2 _ (by omega) rfl
                have a3 : wr.cell? ⟨g3, q * 13 + 3, none⟩ = some (.int .i64 v3) := ha 3 _ (by omega) rfl
                have a4 : wr.cell? ⟨g3, q * 13 + 4, none⟩ = some (.int .i64 v4) := ha 4 _ (by omega) rfl
                have a5 : wr.cell? ⟨g3, q * 13 + 5, none⟩ = some (.int .i64 v5) := ha 5 _ (by omega) rfl
                have a6 : wr.cell? ⟨g3, q * 13 + 6, none⟩ = some (.int .i64 v6) := ha 6 _ (by omega) rfl
                have a7 : wr.cell? ⟨g3, q * 13 + 7, none⟩ = some (.int .i64 v7) := ha 7 _ (by omega) rfl
                have a8 : wr.cell? ⟨g3, q * 13 + 8, none⟩ = some (.int .i64 u8) := ha 8 _ (by omega) rfl
                have a9 : wr.cell? ⟨g3, q * 13 + 9, none⟩ = some (.int .i64 u9) := ha 9 _ (by omega) rfl
                have a10 : wr.cell? ⟨g3, q * 13 + 10, none⟩ = some (.bool u10) := ha 10 _ (by omega) rfl
                have a11 : wr.cell? ⟨g3, q * 13 + 11, none⟩ = some (.bool u11) := ha 11 _ (by omega) rfl
                have a12 : wr.cell? ⟨g3, q * 13 + 12, none⟩ = some (.int .i64 0) := ha 12 _ (by omega) rfl
                have b0 : wr.cell? ⟨g4, q * 13, none⟩ = some (.int .i64 v0) := hb 0 _ (by omega) rfl
                have b1 : wr.cell? ⟨g4, q * 13 + 1, none⟩ = some (.int .i64 v1) := hb 1 _ (by omega) rfl
                have b2 : wr.cell? ⟨g4, q * 13 + 2, none⟩ = some (.int .i64 v2) := hb 2 _ (by omega) rfl
                have b3 : wr.cell? ⟨g4, q * 13 + 3, none⟩ = some (.int .i64 v3) := hb 3 _ (by omega) rfl
                have b4 : wr.cell? ⟨g4, q * 13 + 4, none⟩ = some (.int .i64 v4) := hb 4 _ (by omega) rfl
                have b5 : wr.cell? ⟨g4, q * 13 + 5, none⟩ = some (.int .i64 v5) := hb 5 _ (by omega) rfl
                have b6 : wr.cell? ⟨g4, q * 13 + 6, none⟩ = some (.int .i64 v6) := hb 6 _ (by omega) rfl
                have b7 : wr.cell? ⟨g4, q * 13 + 7, none⟩ = some (.int .i64 v7) := hb 7 _ (by omega) rfl
                have b8 : wr.cell? ⟨g4, q * 13 + 8, none⟩ = some (.int .i64 v8) := hb 8 _ (by omega) rfl
                have b9 : wr.cell? ⟨g4, q * 13 + 9, none⟩ = some (.int .i64 v9) := hb 9 _ (by omega) rfl
                have b10 : wr.cell? ⟨g4, q * 13 + 10, none⟩ = some (.bool v10) := hb 10 _ (by omega) rfl
                have b11 : wr.cell? ⟨g4, q * 13 + 11, none⟩ = some (.bool v11) := hb 11 _ (by omega) rfl
                have b12 : wr.cell? ⟨g4, q * 13 + 12, none⟩ = some (.int .i64 v12) := hb 12 _ (by omega) rfl
                have heqT := eqTerms v2 v3 v4 v5 v6 9998
                have d8 : decide (u8 < v8) = false := decide_eq_false (by omega)
                have d9 : decide (v9 < u9) = false := decide_eq_false (by omega)
                clear ha hb k8' k9'
                cases u10
                · clear k11'
                  go_wp2_with fail
                  go_roundw
                  case rel => exact ⟨q + 1, by omega, by go_num, Below.step hBq (by go_grown)⟩
                  case measure => simp [intOf]; omega
                · obtain rfl : v10 = true := k11' rfl
                  clear k11'
                  go_wp2_with fail
                  go_roundw
                  case rel => exact ⟨q + 1, by omega, by go_num, Below.step hBq (by go_grown)⟩
                  case measure => simp [intOf]; omega
              · obtain rfl := hkp.over hen
                obtain ⟨u0, u1, u2, u3, u4, u5, u6, u7, u8, u9, u10, u11, u12⟩ := o'
                simp only at hen
                have heqO := eqOrd ⟨u0, u1, u2, u3, u4, u5, u6, u7, u8, u9, u10, u11, u12⟩
                have heqT := eqTerms u2 u3 u4 u5 u6 9998
                have d8 : decide (u8 < u8) = false := decide_eq_false (by omega)
                have d9 : decide (u9 < u9) = false := decide_eq_false (by omega)
                have d12 : (u12 != 0) = true := by simpa using hen
                have a0 : wr.cell? ⟨g3, q * 13, none⟩ = some (.int .i64 u0) := ha 0 _ (by omega) rfl
                have a1 : wr.cell? ⟨g3, q * 13 + 1, none⟩ = some (.int .i64 u1) := ha 1 _ (by omega) rfl
                have a2 : wr.cell? ⟨g3, q * 13 + 2, none⟩ = some (.int .i64 u2) := ha 2 _ (by omega) rfl
                have a3 : wr.cell? ⟨g3, q * 13 + 3, none⟩ = some (.int .i64 u3) := ha 3 _ (by omega) rfl
                have a4 : wr.cell? ⟨g3, q * 13 + 4, none⟩ = some (.int .i64 u4) := ha 4 _ (by omega) rfl
                have a5 : wr.cell? ⟨g3, q * 13 + 5, none⟩ = some (.int .i64 u5) := ha 5 _ (by omega) rfl
                have a6 : wr.cell? ⟨g3, q * 13 + 6, none⟩ = some (.int .i64 u6) := ha 6 _ (by omega) rfl
                have a7 : wr.cell? ⟨g3, q * 13 + 7, none⟩ = some (.int .i64 u7) := ha 7 _ (by omega) rfl
                have a8 : wr.cell? ⟨g3, q * 13 + 8, none⟩ = some (.int .i64 u8) := ha 8 _ (by omega) rfl
                have a9 : wr.cell? ⟨g3, q * 13 + 9, none⟩ = some (.int .i64 u9) := ha 9 _ (by omega) rfl
                have a10 : wr.cell? ⟨g3, q * 13 + 10, none⟩ = some (.bool u10) := ha 10 _ (by omega) rfl
                have a11 : wr.cell? ⟨g3, q * 13 + 11, none⟩ = some (.bool u11) := ha 11 _ (by omega) rfl
                have a12 : wr.cell? ⟨g3, q * 13 + 12, none⟩ = some (.int .i64 u12) := ha 12 _ (by omega) rfl
                have b0 : wr.cell? ⟨g4, q * 13, none⟩ = some (.int .i64 u0) := hb 0 _ (by omega) rfl
                have b1 : wr.cell? ⟨g4, q * 13 + 1, none⟩ = some (.int .i64 u1) := hb 1 _ (by omega) rfl
                have b2 : wr.cell? ⟨g4, q * 13 + 2, none⟩ = some (.int .i64 u2) := hb 2 _ (by omega) rfl
                have b3 : wr.cell? ⟨g4, q * 13 + 3, none⟩ = some (.int .i64 u3) := hb 3 _ (by omega) rfl
                have b4 : wr.cell? ⟨g4, q * 13 + 4, none⟩ = some (.int .i64 u4) := hb 4 _ (by omega) rfl
                have b5 : wr.cell? ⟨g4, q * 13 + 5, none⟩ = some (.int .i64 u5) := hb 5 _ (by omega) rfl
                have b6 : wr.cell? ⟨g4, q * 13 + 6, none⟩ = some (.int .i64 u6) := hb 6 _ (by omega) rfl
                have b7 : wr.cell? ⟨g4, q * 13 + 7, none⟩ = some (.int .i64 u7) := hb 7 _ (by omega) rfl
                have b8 : wr.cell? ⟨g4, q * 13 + 8, none⟩ = some (.int .i64 u8) := hb 8 _ (by omega) rfl
                have b9 : wr.cell? ⟨g4, q * 13 + 9, none⟩ = some (.int .i64 u9) := hb 9 _ (by omega) rfl
                have b10 : wr.cell? ⟨g4, q * 13 + 10, none⟩ = some (.bool u10) := hb 10 _ (by omega) rfl
                have b11 : wr.cell? ⟨g4, q * 13 + 11, none⟩ = some (.bool u11) := hb 11 _ (by omega) rfl
                have b12 : wr.cell? ⟨g4, q * 13 + 12, none⟩ = some (.int .i64 u12) := hb 12 _ (by omega) rfl
                clear ha hb hkp
                cases u10
                · 
                  go_wp2_with fail
                  go_roundw
                  case rel => exact ⟨q + 1, by omega, by go_num, Below.step hBq (by go_grown)⟩
                  case measure => simp [intOf]; omega
                · 
                  go_wp2_with fail
                  go_roundw
                  case rel => exact ⟨q + 1, by omega, by go_num, Below.step hBq (by go_grown)⟩
                  case measure => simp [intOf]; omega
            · obtain rfl : q = m := by omega
              have hd : decide ((q : Int) < (q : Int)) = false := decide_eq_false (by omega)
              go_wp2_with fail
              refine (awake_is _).mono ?_
              rintro e9 w9 ⟨rfl, hb9⟩
              go_wp2_with fail
              go_ret
              exact ⟨rfl, Below.step (Below.step HB.out hBq) hb9⟩
theorem walk (p c n b r f g : Int) (A : Option Addr) (ln cp : Nat) (gv : Nat → Evt) (A2 : Option Addr) (ln2 cp2 : Nat) (gv2 : Nat → Evt) (w : World) (_ : (Lit.int .i64 p).wf = true) (_ : (Lit.int .i64 c).wf = true) (_ : (Lit.int .i64 n).wf = true) (_ : (Lit.int .i64 b).wf = true) (_ : (Lit.int .i64 r).wf = true) (_ : (Lit.int .i64 f).wf = true) (_ : (Lit.int .i64 g).wf = true) (hE : EvsAt A ln gv w) (hE2 : EvsAt A2 ln2 gv2 w) : Calls Try.prog 4 #[.agg #[.int .i64 p, .int .i64 c, .int .i64 n, .int .i64 b, .int .i64 r, .int .i64 f, .int .i64 g], .slice A ln cp, .slice A2 ln2 cp2] w fun e w' => e = .returned (.bool true) ∧ Below w.heap.size w w' := by
  by_cases h : (1 ≤ p ∧ p ≤ 6) ∧ (1 ≤ c ∧ c ≤ 4) ∧ (1 ≤ n ∧ n ≤ 3) ∧ (1 ≤ b ∧ b ≤ 4) ∧ (0 ≤ r ∧ r ≤ 4) ∧ (1 ≤ f ∧ f ≤ 4) ∧ (1 ≤ g ∧ g ≤ 15)
  · obtain ⟨hp, hc, hn, hb, hr, hf, hg⟩ := h
    by_cases hl : ln ≤ 40
    · by_cases hl2 : ln2 ≤ 40
      · exact main p c n b r f g A ln cp A2 ln2 cp2 gv gv2 w hp hc hn hb hr hf hg hl hl2 hE hE2
      · exact long2 p c n b r f g A ln cp A2 ln2 cp2 w hp hc hn hb hr hf hg hl (by omega)
    · exact long1 p c n b r f g A ln cp A2 ln2 cp2 w hp hc hn hb hr hf hg (by omega)
  · exact bad p c n b r f g A ln cp A2 ln2 cp2 w h
end Go.Proofs.Ytnhmdaoghcfghaa.traceBegins
