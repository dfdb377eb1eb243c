/-
  What is left and what was filled come to what it was.
-/
import Derived.Test.YtnhmdaoghcfghaaRows
import Derived.Test.YtnhmdaoghcfghaaKit
import Derived.Test.YtnhmdaoghcfghaaApp
import Derived.Test.YtnhmdaoghcfghaaQuiet
import Derived.Test.YtnhmdaoghcfghaaTrM
import Derived.Test.YtnhmdaoghcfghaaTrS
import Derived.Test.YtnhmdaoghcfghaaTrF
import Derived.Test.YtnhmdaoghcfghaaTrG
import Derived.Test.YtnhmdaoghcfghaaTrH
import Derived.Test.YtnhmdaoghcfghaaTrI
import Derived.Test.YtnhmdaoghcfghaaTrJ
import Derived.Test.YtnhmdaoghcfghaaTrK
import Derived.Test.YtnhmdaoghcfghaaTrL
import Derived.Test.YtnhmdaoghcfghaaTrN
import Derived.Test.YtnhmdaoghcfghaaTrO
import Derived.Test.YtnhmdaoghcfghaaRules
import Derived.Test.YtnhmdaoghcfghaaTrP
import Derived.Test.YtnhmdaoghcfghaaTrQ
import Derived.Test.YtnhmdaoghcfghaaTrR
import Derived.Test.YtnhmdaoghcfghaaTrT
import Derived.Test.YtnhmdaoghcfghaaTrU
import Derived.WalkKit
import Derived.ProofKit
import Derived.OpenShut
import Derived.ShutString
import Derived.Below
import Derived.Outline
import Derived.WalkLawsBesides
import Derived.WalkSpells
import Derived.Handy
import Derived.Deep.QuietTactic
import Derived.BigQuiet
import Derived.RegionTactic
import Derived.ChangeAlike
import Derived.Lib.Hide
import Derived.Laws.Rows
import Derived.Laws.Tables
import Derived.Laws.CopyOwn
import Derived.Laws.MakeOwn
import Derived.Laws.Entries
import Derived.Laws.OwnMore
import Derived.Deep.WholeRow
import Derived.Deep.LoopGhost
import Derived.Deep.AppendLies
import Derived.Deep.Draws
import Derived.Maps.AppendAt
import Derived.OwnWalk
import Derived.Deep.RegionHeld3
import Derived.Deep.Cut
import Derived.Deep.CutRange
import Derived.Deep.DeepCutAuto
import Derived.Deep.CutBlock
import Derived.Lib.SliceRun
import Derived.IntWalk
import Derived.OpenShut
import Derived.Deep.Slices
import Derived.Deep.Fields
import Derived.ChangeSame
import Derived.ChangeArms
import Derived.Test.YtnhmdaoghcfghaaTrW
import Derived.Laws.CopyOwn
import Derived.Test.YtnhmdaoghcfghaaTrX
import Derived.Test.YtnhmdaoghcfghaaTrY
import Derived.Test.YtnhmdaoghcfghaaTrZ
import Derived.Test.YtnhmdaoghcfghaaTrWf
import Derived.Test.YtnhmdaoghcfghaaSumsA
import Derived.Test.YtnhmdaoghcfghaaTrV
import Derived.Test.YtnhmdaoghcfghaaSumsB
import Derived.Test.YtnhmdaoghcfghaaIs
namespace Go.Proofs.Ytnhmdaoghcfghaa.traceSums
open Go.ChangeShapes Go.WideShapes Go.ChangeAt Go.RowKit
set_option maxRecDepth 100000 in
set_option maxHeartbeats 8000000 in
theorem bad (p c n b r f g : Int) (A : Option Addr) (ln cp : Nat) (w : World) (h : ¬ ((1 ≤ p ∧ p ≤ 6) ∧ (1 ≤ c ∧ c ≤ 4) ∧ (1 ≤ n ∧ n ≤ 3) ∧ (1 ≤ b ∧ b ≤ 4) ∧ (0 ≤ r ∧ r ≤ 4) ∧ (1 ≤ f ∧ f ≤ 4) ∧ (1 ≤ g ∧ g ≤ 15))) : Calls Try.prog 3 #[.agg #[.int .i64 p, .int .i64 c, .int .i64 n, .int .i64 b, .int .i64 r, .int .i64 f, .int .i64 g], .slice A ln cp] w fun e w' => e = .returned (.bool true) ∧ Below w.heap.size w w' := by
  have HN := Lib.hid (fun W => rnew_bad p c n b r f g W h)
  clear h
  go_enter Try.func3, Try.ntmps3
  go_wp2_with fail
  obtain ⟨W0, hW0⟩ : ∃ W0, W0 = (w.alloc (.cells (List.toArray [.int .i64 p, .int .i64 c, .int .i64 n, .int .i64 b, .int .i64 r, .int .i64 f, .int .i64 g]) 23)) := ⟨_, rfl⟩
  have hB0 : Below w.heap.size w W0 := by rw [hW0]; go_grown
  rw [← hW0]
  clear hW0
  refine (HN.out _).mono ?_
  rintro e1 w1 ⟨T, v, rfl, hb1⟩
  have hB1 := Below.step hB0 hb1
  have hB1a := hB1.alloc hB1.size (.cells (List.toArray [.int .i64 0, .int .i64 0, .int .i64 0, .int .i64 0, .int .i64 0, .int .i64 0, .int .i64 0]) 26)
  clear hb1 hB1 hB0
  go_wp2_with fail
  refine (awake_is _).mono ?_
  rintro e9 w9 ⟨rfl, hb9⟩
  go_wp2_with fail
  go_ret
  exact ⟨rfl, Below.step hB1a hb9⟩
theorem addp (a : Addr) (i : Nat) (hi : i ≠ 0) (h : a.spot = none) : a.add i = ⟨a.block, a.off + i, none⟩ := by
  unfold Addr.add
  rw [if_neg hi]
set_option maxRecDepth 100000 in
set_option maxHeartbeats 16000000 in
theorem main (p c n b r f g : Int) (A : Option Addr) (ln cp : Nat) (gv : Nat → Evt) (w : World) (hp : 1 ≤ p ∧ p ≤ 6) (hc : 1 ≤ c ∧ c ≤ 4) (hn : 1 ≤ n ∧ n ≤ 3) (hb : 1 ≤ b ∧ b ≤ 4) (hr : 0 ≤ r ∧ r ≤ 4) (hf : 1 ≤ f ∧ f ≤ 4) (hg : 1 ≤ g ∧ g ≤ 15) (hE : EvsAt A ln gv w) (hV : ∀ i, i < ln → EvW (gv i)) : Calls Try.prog 3 #[.agg #[.int .i64 p, .int .i64 c, .int .i64 n, .int .i64 b, .int .i64 r, .int .i64 f, .int .i64 g], .slice A ln cp] w fun e w' => e = .returned (.bool true) ∧ Below w.heap.size w w' := by
  have HN := Lib.hid (fun W => rnew_ok p c n b r f g W hp hc hn hb hr hf hg)
  have HD := Lib.hid (fun (Fx : Nat → Option Obj → Prop) (W wr : World) (B K : Nat) (now : Int) (v : Value) (os : List Ord) (e : Evt) (h : MS Fx W wr B K p c n b r f g v os now) (h1 : os.length ≤ 900) (h2 : Inv f os) => do_is Fx W wr B K p c n b r f g now v os e h h1 h2 hp hc ⟨by omega, hf.2⟩ hg.2)
  have HE := Lib.hid hE
  have HV := Lib.hid hV
  have l0 : (0 : Int) ≤ (ln : Int) := by omega
  have hmm := @run_makeMap Try.prog
  obtain ⟨i0, hi0, hz0, hz1, hz2⟩ := info_parts infoO1
  have HI0 := Lib.hid hi0
  have HZ0 := Lib.hid hz0
  have HZ1 := Lib.hid hz1
  have HZ2 := Lib.hid hz2
  clear hi0 hz0 hz1 hz2
  clear hp hc hn hb hr hf hg hE hV
  go_enter Try.func3, Try.ntmps3
  go_wp2_with fail
  obtain ⟨W0, hW0⟩ : ∃ W0, W0 = (w.alloc (.cells (List.toArray [.int .i64 p, .int .i64 c, .int .i64 n, .int .i64 b, .int .i64 r, .int .i64 f, .int .i64 g]) 23)) := ⟨_, rfl⟩
  have hB0 : Below w.heap.size w W0 := by rw [hW0]; go_grown
  have bC0 : Bl w.heap.size [.int .i64 p, .int .i64 c, .int .i64 n, .int .i64 b, .int .i64 r, .int .i64 f, .int .i64 g] W0 := by rw [hW0]; exact Bl.new w [.int .i64 p, .int .i64 c, .int .i64 n, .int .i64 b, .int .i64 r, .int .i64 f, .int .i64 g] 23
  rw [← hW0]
  clear hW0
  refine (HN.out _).mono ?_
  rintro e1 w1 ⟨rfl, hb1⟩
  have hB1 := Below.step hB0 hb1
  have hD1 : Below w1.heap.size w1 (w1.alloc (.cells (List.toArray [.int .i64 p, .int .i64 c, .int .i64 n, .int .i64 b, .int .i64 r, .int .i64 f, .int .i64 g]) 26)) := by go_grown
  have hB := Below.step hB1 hD1
  have bC1 := (bC0.below hb1).below hD1
  clear hb1 hB1 hB0 hD1 bC0
  obtain ⟨W1, hW1⟩ : ∃ W1, W1 = w1.alloc (.cells (List.toArray [.int .i64 p, .int .i64 c, .int .i64 n, .int .i64 b, .int .i64 r, .int .i64 f, .int .i64 g]) 26) := ⟨_, rfl⟩
  rw [← hW1] at hB bC1
  obtain ⟨CB, hCB⟩ : ∃ CB, CB = w.heap.size := ⟨_, rfl⟩
  rw [← hCB] at bC1
  have HNew : Hid (Calls Try.prog 8 #[.agg #[.int .i64 p, .int .i64 c, .int .i64 n, .int .i64 b, .int .i64 r, .int .i64 f, .int .i64 g]] W1 fun e w' => ∃ B K, e = .returned (.pointer (some ⟨B, 0, none⟩)) ∧ MS (Kq (fun k => k = CB) W1) w w' B K p c n b r f g (.slice none 0 0) [] 0) := Lib.hid ((new_is (Kq (fun k => k = CB) W1) p c n b r f g W1 (fun k o hk => ⟨hk.2.symm, by rw [hk.1]; exact bC1.lt⟩)).mono fun e w' h => ⟨_, _, h.1, h.2.base hB⟩)
  have HC1 := Lib.hid bC1
  have HCB := Lib.hid hCB
  clear hB bC1 hCB
  go_wp2_with fail
  rw [← hW1]
  refine HNew.out.mono ?_
  rintro e2 w2 ⟨B, K, rfl, hM⟩
  have hb2 : Below w2.heap.size w2 (w2.alloc (.map #[] 0)) := by go_grown
  have HS0 := Lib.hid (show SS w (w2.alloc (.map #[] 0)) B K CB w2.heap.size 0 p c n b r f g (.slice none 0 0) (.slice none 0 0) [] [] 0 (fun _ _ => 0) 0 from
    ⟨Nat.le_refl _, Inv.nil f, Sums.nil, (fun i a h => by simp at h), MapD.made w2, World.ownsRow_nil _ _ _ _, OverIn.nil _, Nat.le_refl _,
      hM.kq_same.kq_row hb2 (fun k hk => by
        rcases hk with h1 | h1 | h1
        · exact .inl h1
        · exact .inr ⟨Nat.le_of_eq h1.symm, by rw [h1, World.size_alloc]; omega⟩
        · cases h1), hM.bel.size, (HC1.out.at (hM.kq_eq rfl)).below hb2, Nat.ne_of_lt (hM.kq_lt rfl), fun k hk => (by cases hk)⟩)
  have HF : Hid (w2.heap.size < (w2.alloc (.map #[] 0)).heap.size) := Lib.hid (by rw [World.size_alloc]; omega)
  clear hM HNew hW1 hb2 HC1
  go_wp2_with fail
  generalize w2.heap.size = DB at *
  go_loopw [9, 10, 11, 13, 14, 15, 17, 32] (fun s9 _ _ _ _ _ _ i wr => ∃ (q : Nat) (os es : List Ord) (now : Int) (v : Value) (A9 : Option Addr) (c9 : Nat) (d : Int → Int → Int) (EB : Nat), q ≤ ln ∧ q ≤ 60 ∧ i = .int .i64 (q : Int) ∧ s9 = (.slice A9 es.length c9) ∧ Hid (SS w wr B K CB DB EB p c n b r f g v (.slice A9 es.length c9) os es now d q)) (fun _ _ _ _ _ _ _ i _ => ln + 1 - (intOf i).toNat)
  case atStart => exact ⟨0, [], [], 0, _, none, 0, _, _, Nat.zero_le _, Nat.zero_le _, rfl, rfl, HS0⟩
  case round =>
    clear HS0
    obtain ⟨q, os, es, now, v, A9, c9, d, EB, hq, hq6, rfl, rfl, HR⟩ := hrel
    have q0 : (0 : Int) ≤ (q : Int) := by omega
    by_cases hqx : q < ln
    · have q1 : (q : Int) < (ln : Int) := by omega
      have hE2 := HE.out.below HR.out.ms.bel
      obtain ⟨ad, rfl, hab, hcs⟩ := hE2 (by omega)
      have hcy := hcs q hqx
      have HWF := Lib.hid (HV.out q hqx)
      clear hE2 hcs hab
      generalize gv q = y at *
      clear HE HV gv
      have d0 := hcy 0 _ rfl
      have d1 := hcy 1 _ rfl
      have d2 := hcy 2 _ rfl
      have d3 := hcy 3 _ rfl
      have d4 := hcy 4 _ rfl
      have d5 := hcy 5 _ rfl
      have d6 := hcy 6 _ rfl
      have d7 := hcy 7 _ rfl
      have d8 := hcy 8 _ rfl
      have d9 := hcy 9 _ rfl
      have d10 := hcy 10 _ rfl
      have d11 := hcy 11 _ rfl
      have d12 := hcy 12 _ rfl
      have d13 := hcy 13 _ rfl
      clear hcy
      have q0' : wr.cell? (ad.add (q * 14)) = some (.int .i64 y.k) := d0
      have q1' : wr.cell? ⟨(ad.add (q * 14)).block, (ad.add (q * 14)).off + 1, none⟩ = some (.int .i64 y.c) := by rw [← addp _ 1 (by decide) (World.cell?_spot q0'), add_of_add]; exact d1
      have q2' : wr.cell? ⟨(ad.add (q * 14)).block, (ad.add (q * 14)).off + 2, none⟩ = some (.int .i64 y.g) := by rw [← addp _ 2 (by decide) (World.cell?_spot q0'), add_of_add]; exact d2
      have q3' : wr.cell? ⟨(ad.add (q * 14)).block, (ad.add (q * 14)).off + 3, none⟩ = some (.int .i64 y.o) := by rw [← addp _ 3 (by decide) (World.cell?_spot q0'), add_of_add]; exact d3
      have q4' : wr.cell? ⟨(ad.add (q * 14)).block, (ad.add (q * 14)).off + 4, none⟩ = some (.int .i64 y.w) := by rw [← addp _ 4 (by decide) (World.cell?_spot q0'), add_of_add]; exact d4
      have q5' : wr.cell? ⟨(ad.add (q * 14)).block, (ad.add (q * 14)).off + 5, none⟩ = some (.int .i64 y.n) := by rw [← addp _ 5 (by decide) (World.cell?_spot q0'), add_of_add]; exact d5
      have q6' : wr.cell? ⟨(ad.add (q * 14)).block, (ad.add (q * 14)).off + 6, none⟩ = some (.int .i64 y.s) := by rw [← addp _ 6 (by decide) (World.cell?_spot q0'), add_of_add]; exact d6
      have q7' : wr.cell? ⟨(ad.add (q * 14)).block, (ad.add (q * 14)).off + 7, none⟩ = some (.int .i64 y.p) := by rw [← addp _ 7 (by decide) (World.cell?_spot q0'), add_of_add]; exact d7
      have q8' : wr.cell? ⟨(ad.add (q * 14)).block, (ad.add (q * 14)).off + 8, none⟩ = some (.int .i64 y.l) := by rw [← addp _ 8 (by decide) (World.cell?_spot q0'), add_of_add]; exact d8
      have q9' : wr.cell? ⟨(ad.add (q * 14)).block, (ad.add (q * 14)).off + 9, none⟩ = some (.int .i64 y.u) := by rw [← addp _ 9 (by decide) (World.cell?_spot q0'), add_of_add]; exact d9
      have q10' : wr.cell? ⟨(ad.add (q * 14)).block, (ad.add (q * 14)).off + 10, none⟩ = some (.int .i64 y.q) := by rw [← addp _ 10 (by decide) (World.cell?_spot q0'), add_of_add]; exact d10
      have q11' : wr.cell? ⟨(ad.add (q * 14)).block, (ad.add (q * 14)).off + 11, none⟩ = some (.int .i64 y.pr) := by rw [← addp _ 11 (by decide) (World.cell?_spot q0'), add_of_add]; exact d11
      have q12' : wr.cell? ⟨(ad.add (q * 14)).block, (ad.add (q * 14)).off + 12, none⟩ = some (.int .i64 y.t) := by rw [← addp _ 12 (by decide) (World.cell?_spot q0'), add_of_add]; exact d12
      have q13' : wr.cell? ⟨(ad.add (q * 14)).block, (ad.add (q * 14)).off + 13, none⟩ = some (.int .i64 y.en) := by rw [← addp _ 13 (by decide) (World.cell?_spot q0'), add_of_add]; exact d13
      have HB1 := Lib.hid (show Below wr.heap.size wr (wr.alloc (.cells (List.toArray [.int .i64 y.k, .int .i64 y.c, .int .i64 y.g, .int .i64 y.o, .int .i64 y.w, .int .i64 y.n, .int .i64 y.s, .int .i64 y.p, .int .i64 y.l, .int .i64 y.u, .int .i64 y.q, .int .i64 y.pr, .int .i64 y.t, .int .i64 y.en]) 39)) from by go_grown)
      clear d0 d1 d2 d3 d4 d5 d6 d7 d8 d9 d10 d11 d12 d13
      by_cases hq60 : q < 60
      · have q6 : decide ((60 : Int) ≤ (q : Int)) = false := decide_eq_false (by omega)
        have HA := Lib.hid (show MS (Kq (fun k => KS CB DB (.slice A9 es.length c9) k ∨ k = wr.heap.size) (wr.alloc (.cells (List.toArray [.int .i64 y.k, .int .i64 y.c, .int .i64 y.g, .int .i64 y.o, .int .i64 y.w, .int .i64 y.n, .int .i64 y.s, .int .i64 y.p, .int .i64 y.l, .int .i64 y.u, .int .i64 y.q, .int .i64 y.pr, .int .i64 y.t, .int .i64 y.en]) 39))) w (wr.alloc (.cells (List.toArray [.int .i64 y.k, .int .i64 y.c, .int .i64 y.g, .int .i64 y.o, .int .i64 y.w, .int .i64 y.n, .int .i64 y.s, .int .i64 y.p, .int .i64 y.l, .int .i64 y.u, .int .i64 y.q, .int .i64 y.pr, .int .i64 y.t, .int .i64 y.en]) 39)) B K p c n b r f g v os now from HR.out.ms.kq_row (by go_grown) (fun k hk => hk.elim .inl (fun h => .inr ⟨Nat.le_of_eq h.symm, by rw [h, World.size_alloc]; omega⟩)))
        have HX := Lib.hid (show Bl wr.heap.size (ec y) (wr.alloc (.cells (List.toArray [.int .i64 y.k, .int .i64 y.c, .int .i64 y.g, .int .i64 y.o, .int .i64 y.w, .int .i64 y.n, .int .i64 y.s, .int .i64 y.p, .int .i64 y.l, .int .i64 y.u, .int .i64 y.q, .int .i64 y.pr, .int .i64 y.t, .int .i64 y.en]) 39)) from Bl.new wr (ec y) 39)
        have hqn : q < 60 := hq60
        have HQ := Lib.hid hqn
        clear hq60 hqn
        go_wp2_with fail
        have h := HD.out _ _ _ B K now v os y HA.out (by have := HR.out.len; have := HQ.out; omega) HR.out.inv
        unfold DoIs at h
        refine h.mono ?_
        rintro rr w3 ⟨E, os', now', v', rfl, hM3, hcase⟩
        have HSM := Lib.hid (HR.out.kept HB1.out hM3)
        have hX3 := HX.out.at (hM3.kq_eq (.inr rfl))
        have HX3 := Lib.hid hX3
        have hXD : wr.heap.size ≠ DB := by have := HR.out.map.lt; omega
        have HXD := Lib.hid hXD
        clear h hM3 HA HX HB1 hXD hX3
        generalize wr.heap.size = X at *
        rcases hcase with ⟨k, rfl, rfl⟩ | ⟨rfl, hst⟩
        · have HR2 := Lib.hid (show SS w w3 B K CB DB EB p c n b r f g v' (.slice A9 es.length c9) os' es now' d (q + 1) from ⟨by have := HR.out.len; omega, HR.out.inv, HR.out.sums, HR.out.wf, HSM.out.map.mono (by omega), HSM.out.row, HR.out.over, by have := HR.out.el; omega, HSM.out.ms, HR.out.lo, HSM.out.cb, HR.out.ne, HR.out.far⟩)
          clear HR HSM HX3 HXD
          go_wp2_with fail
          go_roundw
          case rel => exact ⟨q + 1, os', es, now', v', A9, c9, d, EB, by omega, by have := HQ.out; omega, by go_num, rfl, HR2⟩
          case measure => simp [intOf]; omega
        · have x0 : w3.cell? ⟨X, 0, none⟩ = some (.int .i64 y.k) := HX3.out.cell 0 _ rfl
          have HEO := Lib.hid (show ∀ k, ((.slice A9 es.length c9) : Value).ownBlock = some k → k ≠ DB from fun k hk => (HR.out.far k hk))
          have HCD := Lib.hid HR.out.ne
          have HLO := Lib.hid HR.out.lo
          have HST := Lib.hid hst
          clear hst
          go_upto_if 45 with fail
          go_cut [] (fun wx => Hid (SM w wx B K CB DB EB p c n b r f g v' (.slice A9 es.length c9) os' es now' (after y d) (2 * (q + 1))))
          case first =>
            by_cases hk : y.k = 2
            · have hfl := HST.out.fill hk HR.out.inv HR.out.sums
              obtain ⟨hf1, hf2, hf3, hf4⟩ := hfl
              have W1 : IntKind.i64.wrap (d y.c y.g + y.q) = d y.c y.g + y.q := IntWalk.i64_in _ (by omega)
              have hb2 : bump d y.c y.g y.q y.o y.w = d y.o y.w := by unfold bump; rw [if_neg hf4]
              have W2 : IntKind.i64.wrap (bump d y.c y.g y.q y.o y.w + y.q) = bump d y.c y.g y.q y.o y.w + y.q := by rw [hb2]; exact IntWalk.i64_in _ (by omega)
              have HS1 := Lib.hid (show wfi (d y.c y.g + y.q) from WalkArith.wf_i64 (by omega))
              have HS2 := Lib.hid (show wfi (bump d y.c y.g y.q y.o y.w + y.q) from by rw [hb2]; exact WalkArith.wf_i64 (by omega))
              have HN1 := Lib.hid (show 2 * q < maxLen from by have := HQ.out; unfold maxLen; omega)
              have HN2 := Lib.hid (show 2 * q + 1 < maxLen from by have := HQ.out; unfold maxLen; omega)
              have HMA := Lib.hid HSM.out.map
              have HK2 := Lib.hid hk
              have hkd : (y.k == 2) = true := by simp [hk]
              clear hf1 hf2 hf3 hf4 hb2 hk
              rw [hkd]
              clear hkd x0
              go_wp2_with fail
              refine wp_region_held_drew (S := fun w' => Bl X (ec y) w') (by kernel_rfl) (show Bl X (ec y) w3.drew from HX3.out) (fun hHeld => ?_)
              refine wpAnyH_take (i := 0) (oi := { dst := some 46, op := Op.move (Operand.tmp 8), type := 34, pos := "law.go:112", after := #[], guard := none }) (v := ?_) rfl (by as_aux_lemma => kernel_rfl) (by as_aux_lemma => kernel_rfl) (by as_aux_lemma => kernel_rfl) (fun _ _ _ h => h) (Or.inl ⟨by rfl, ?_⟩) (by assumption) ?_
              rotate_left
              · intro wq hSw
                go_simp
                try with_reducible rfl
              simp only [Act.put, List.setIfInBounds_toArray, List.set_cons_zero, List.set_cons_succ]
              refine wpAnyH_take (i := 1) (oi := { dst := some 47, op := Op.fieldAddr 39 (Operand.tmp 11) 1, type := 0, pos := "law.go:112", after := #[], guard := none }) (v := ?_) rfl (by as_aux_lemma => kernel_rfl) (by as_aux_lemma => kernel_rfl) (by as_aux_lemma => kernel_rfl) (fun _ _ _ h => h) (Or.inl ⟨by rfl, ?_⟩) (by assumption) ?_
              rotate_left
              · intro wq hSw
                go_simp
                try with_reducible rfl
              simp only [Act.put, List.setIfInBounds_toArray, List.set_cons_zero, List.set_cons_succ]
              refine wpAnyH_take (i := 3) (oi := { dst := some 49, op := Op.fieldAddr 39 (Operand.tmp 11) 2, type := 0, pos := "law.go:112", after := #[], guard := none }) (v := ?_) rfl (by as_aux_lemma => kernel_rfl) (by as_aux_lemma => kernel_rfl) (by as_aux_lemma => kernel_rfl) (fun _ _ _ h => h) (Or.inl ⟨by rfl, ?_⟩) (by assumption) ?_
              rotate_left
              · intro wq hSw
                go_simp
                try with_reducible rfl
              simp only [Act.put, List.setIfInBounds_toArray, List.set_cons_zero, List.set_cons_succ]
              refine wpAnyH_take (i := 7) (oi := { dst := some 53, op := Op.fieldAddr 39 (Operand.tmp 11) 6, type := 0, pos := "law.go:112", after := #[], guard := none }) (v := ?_) rfl (by as_aux_lemma => kernel_rfl) (by as_aux_lemma => kernel_rfl) (by as_aux_lemma => kernel_rfl) (fun _ _ _ h => h) (Or.inl ⟨by rfl, ?_⟩) (by assumption) ?_
              rotate_left
              · intro wq hSw
                go_simp
                try with_reducible rfl
              simp only [Act.put, List.setIfInBounds_toArray, List.set_cons_zero, List.set_cons_succ]
              refine wpAnyH_take (i := 2) (oi := { dst := some 48, op := Op.load 3 (Operand.tmp 47), type := 3, pos := "law.go:112", after := #[{ on := 1, ground := Ground.data }], guard := none }) (v := ?_) rfl (by as_aux_lemma => kernel_rfl) (by as_aux_lemma => kernel_rfl) (by as_aux_lemma => kernel_rfl) (fun _ _ _ h => h) (Or.inl ⟨by rfl, ?_⟩) (by assumption) ?_
              rotate_left
              · intro wq hSw
                have h1 : wq.cell? ⟨X, 1, none⟩ = some (.int .i64 y.c) := hSw.cell 1 _ rfl
                go_simp
                try with_reducible rfl
              simp only [Act.put, List.setIfInBounds_toArray, List.set_cons_zero, List.set_cons_succ]
              refine wpAnyH_take (i := 4) (oi := { dst := some 50, op := Op.load 3 (Operand.tmp 49), type := 3, pos := "law.go:112", after := #[{ on := 3, ground := Ground.data }], guard := none }) (v := ?_) rfl (by as_aux_lemma => kernel_rfl) (by as_aux_lemma => kernel_rfl) (by as_aux_lemma => kernel_rfl) (fun _ _ _ h => h) (Or.inl ⟨by rfl, ?_⟩) (by assumption) ?_
              rotate_left
              · intro wq hSw
                have h1 : wq.cell? ⟨X, 2, none⟩ = some (.int .i64 y.g) := hSw.cell 2 _ rfl
                go_simp
                try with_reducible rfl
              simp only [Act.put, List.setIfInBounds_toArray, List.set_cons_zero, List.set_cons_succ]
              refine wpAnyH_take (i := 8) (oi := { dst := some 54, op := Op.load 3 (Operand.tmp 53), type := 3, pos := "law.go:112", after := #[{ on := 7, ground := Ground.data }], guard := none }) (v := ?_) rfl (by as_aux_lemma => kernel_rfl) (by as_aux_lemma => kernel_rfl) (by as_aux_lemma => kernel_rfl) (fun _ _ _ h => h) (Or.inl ⟨by rfl, ?_⟩) (by assumption) ?_
              rotate_left
              · intro wq hSw
                have h1 : wq.cell? ⟨X, 10, none⟩ = some (.int .i64 y.q) := hSw.cell 10 _ rfl
                go_simp
                try with_reducible rfl
              simp only [Act.put, List.setIfInBounds_toArray, List.set_cons_zero, List.set_cons_succ]
              refine wpAnyH_take (i := 5) (oi := { dst := some 51, op := Op.build 42 #[(0, Operand.tmp 48), (1, Operand.tmp 50)], type := 42, pos := "law.go:112", after := #[{ on := 2, ground := Ground.data }, { on := 4, ground := Ground.data }], guard := none }) (v := ?_) rfl (by as_aux_lemma => kernel_rfl) (by as_aux_lemma => kernel_rfl) (by as_aux_lemma => kernel_rfl) (fun _ _ _ h => h) (Or.inl ⟨by rfl, ?_⟩) (by assumption) ?_
              rotate_left
              · intro wq hSw
                go_simp
                try with_reducible rfl
              simp only [Act.put, List.setIfInBounds_toArray, List.set_cons_zero, List.set_cons_succ]
              refine wpAnyH_ready (rs := [6, 10]) (by as_aux_lemma => kernel_rfl) (by simp) ?_
              refine AllReadyH.cons (o := { dst := some 52, op := Op.lookup 34 (Operand.tmp 46) (Operand.tmp 51) false, type := 3, pos := "law.go:112", after := #[{ on := 0, ground := Ground.data }, { on := 5, ground := Ground.data }], guard := none }) rfl (fun K hK => ?_) ?_
              · rw [if_pos (by rfl)]
                refine wp_look (show MapD w3.drew DB _ d from HMA.out) HWF.out.1 HWF.out.2.1 (.tmp 46) (.tmp 51) rfl (by rfl) (by rfl) ?_
                refine hK.out _ _ hHeld (fun hHeld => ?_)
                clear hK K
                simp only [Act.put, List.setIfInBounds_toArray, List.set_cons_zero, List.set_cons_succ]
                refine wpAnyH_take (i := 9) (oi := { dst := some 55, op := Op.binOp BinOp.add 3 (Operand.tmp 52) (Operand.tmp 54) 3, type := 3, pos := "law.go:112", after := #[{ on := 6, ground := Ground.data }, { on := 8, ground := Ground.data }], guard := none }) (v := ?_) rfl (by as_aux_lemma => kernel_rfl) (by as_aux_lemma => kernel_rfl) (by as_aux_lemma => kernel_rfl) (fun _ _ _ h => h) (Or.inl ⟨by rfl, ?_⟩) (by assumption) ?_
                rotate_left
                · intro wq hSw
                  go_simp
                  try with_reducible rfl
                simp only [Act.put, List.setIfInBounds_toArray, List.set_cons_zero, List.set_cons_succ]
                refine wpAnyH_ready (rs := [10]) (by as_aux_lemma => kernel_rfl) (by simp) ?_
                refine AllReadyH.cons (o := { dst := some 56, op := Op.mapEntry 34 (Operand.tmp 46) (Operand.tmp 51), type := 0, pos := "law.go:112", after := #[{ on := 0, ground := Ground.data }, { on := 5, ground := Ground.data }, { on := 0, ground := Ground.phase }, { on := 1, ground := Ground.phase }, { on := 2, ground := Ground.phase }, { on := 3, ground := Ground.phase }, { on := 4, ground := Ground.phase }, { on := 5, ground := Ground.phase }, { on := 6, ground := Ground.textOnly Departure.mapOpAssignEntry }, { on := 7, ground := Ground.phase }, { on := 8, ground := Ground.phase }, { on := 9, ground := Ground.textOnly Departure.mapOpAssignEntry }], guard := none }) rfl (fun K hK => ?_) ?_
                · rw [if_pos (by rfl)]
                  refine wp_entry (show MapD w3.drew DB (2 * q) d from HMA.out) HN1.out HWF.out.1 HWF.out.2.1 (.tmp 46) (.tmp 51) rfl (by rfl) (by rfl) ?_
                  intro v0 st wy hMy hGy hSt
                  have HMy := Lib.hid hMy
                  have HGy := Lib.hid hGy
                  have HSt := Lib.hid hSt
                  clear hMy hGy hSt
                  refine hK.out _ _ (hHeld.off HXD.out HGy.out) (fun hHeld => ?_)
                  clear hK K
                  simp only [Act.put, List.setIfInBounds_toArray, List.set_cons_zero, List.set_cons_succ]
                  refine wpAnyH_take (i := 11) (oi := { dst := some 57, op := Op.extract (Operand.tmp 56) 1, type := 3, pos := "law.go:112", after := #[{ on := 10, ground := Ground.data }], guard := none }) (v := ?_) rfl (by as_aux_lemma => kernel_rfl) (by as_aux_lemma => kernel_rfl) (by as_aux_lemma => kernel_rfl) (fun _ _ _ h => h) (Or.inl ⟨by rfl, ?_⟩) (by assumption) ?_
                  rotate_left
                  · intro wq hSw
                    go_simp
                    try with_reducible rfl
                  simp only [Act.put, List.setIfInBounds_toArray, List.set_cons_zero, List.set_cons_succ]
                  refine wpAnyH_ready (rs := [12]) (by as_aux_lemma => kernel_rfl) (by simp) ?_
                  refine AllReadyH.cons (o := { dst := none, op := Op.entryStore 34 (Operand.tmp 46) (Operand.tmp 57) (Operand.tmp 55), type := 0, pos := "law.go:112", after := #[{ on := 0, ground := Ground.data }, { on := 11, ground := Ground.data }, { on := 9, ground := Ground.data }, { on := 10, ground := Ground.chain }, { on := 0, ground := Ground.phase }, { on := 1, ground := Ground.phase }, { on := 2, ground := Ground.phase }, { on := 3, ground := Ground.phase }, { on := 4, ground := Ground.phase }, { on := 5, ground := Ground.phase }, { on := 6, ground := Ground.phase }, { on := 7, ground := Ground.phase }, { on := 8, ground := Ground.phase }, { on := 9, ground := Ground.phase }, { on := 10, ground := Ground.phase }, { on := 11, ground := Ground.phase }], guard := none }) rfl (fun K hK => ?_) ?_
                  · rw [if_pos (by rfl)]
                    obtain ⟨wz, hrun, hMz, hGz⟩ := HSt.out wy (d y.c y.g + y.q) HS1.out rfl
                    have HMz := Lib.hid hMz
                    have HGz := Lib.hid hGz
                    clear hMz hGz
                    refine wp_estore (.tmp 46) (.tmp 57) (.tmp 55) rfl (by rfl) (by rfl) (by rfl) hrun ?_
                    refine hK.out _ _ (hHeld.off HXD.out HGz.out) (fun hHeld => ?_)
                    clear hK K hrun
                    try simp only [Act.put, List.setIfInBounds_toArray, List.set_cons_zero, List.set_cons_succ]
                    refine wpAnyH_done (by as_aux_lemma => kernel_rfl) ?_ _
                    have HM4 := Lib.hid (show MapD wz DB (2 * q + 1) (bump d y.c y.g y.q) from HMz.out.mono (by omega))
                    have HSM4 := Lib.hid (HSM.out.put HEO.out HCD.out HLO.out (gthen (undrew HGy.out) HGz.out) HM4.out)
                    have HX4 := Lib.hid hHeld
                    clear hHeld HMy HGy HSt HMz HGz
                    go_wp2_with fail
                    refine wp_region_held_drew (S := fun w' => Bl X (ec y) w') (by kernel_rfl) (show Bl X (ec y) wz.drew from HX4.out) (fun hHeld => ?_)
                    refine wpAnyH_take (i := 0) (oi := { dst := some 58, op := Op.move (Operand.tmp 8), type := 34, pos := "law.go:113", after := #[], guard := none }) (v := ?_) rfl (by as_aux_lemma => kernel_rfl) (by as_aux_lemma => kernel_rfl) (by as_aux_lemma => kernel_rfl) (fun _ _ _ h => h) (Or.inl ⟨by rfl, ?_⟩) (by assumption) ?_
                    rotate_left
                    · intro wq hSw
                      go_simp
                      try with_reducible rfl
                    simp only [Act.put, List.setIfInBounds_toArray, List.set_cons_zero, List.set_cons_succ]
                    refine wpAnyH_take (i := 1) (oi := { dst := some 59, op := Op.fieldAddr 39 (Operand.tmp 11) 3, type := 0, pos := "law.go:113", after := #[], guard := none }) (v := ?_) rfl (by as_aux_lemma => kernel_rfl) (by as_aux_lemma => kernel_rfl) (by as_aux_lemma => kernel_rfl) (fun _ _ _ h => h) (Or.inl ⟨by rfl, ?_⟩) (by assumption) ?_
                    rotate_left
                    · intro wq hSw
                      go_simp
                      try with_reducible rfl
                    simp only [Act.put, List.setIfInBounds_toArray, List.set_cons_zero, List.set_cons_succ]
                    refine wpAnyH_take (i := 3) (oi := { dst := some 61, op := Op.fieldAddr 39 (Operand.tmp 11) 4, type := 0, pos := "law.go:113", after := #[], guard := none }) (v := ?_) rfl (by as_aux_lemma => kernel_rfl) (by as_aux_lemma => kernel_rfl) (by as_aux_lemma => kernel_rfl) (fun _ _ _ h => h) (Or.inl ⟨by rfl, ?_⟩) (by assumption) ?_
                    rotate_left
                    · intro wq hSw
                      go_simp
                      try with_reducible rfl
                    simp only [Act.put, List.setIfInBounds_toArray, List.set_cons_zero, List.set_cons_succ]
                    refine wpAnyH_take (i := 7) (oi := { dst := some 65, op := Op.fieldAddr 39 (Operand.tmp 11) 6, type := 0, pos := "law.go:113", after := #[], guard := none }) (v := ?_) rfl (by as_aux_lemma => kernel_rfl) (by as_aux_lemma => kernel_rfl) (by as_aux_lemma => kernel_rfl) (fun _ _ _ h => h) (Or.inl ⟨by rfl, ?_⟩) (by assumption) ?_
                    rotate_left
                    · intro wq hSw
                      go_simp
                      try with_reducible rfl
                    simp only [Act.put, List.setIfInBounds_toArray, List.set_cons_zero, List.set_cons_succ]
                    refine wpAnyH_take (i := 2) (oi := { dst := some 60, op := Op.load 3 (Operand.tmp 59), type := 3, pos := "law.go:113", after := #[{ on := 1, ground := Ground.data }], guard := none }) (v := ?_) rfl (by as_aux_lemma => kernel_rfl) (by as_aux_lemma => kernel_rfl) (by as_aux_lemma => kernel_rfl) (fun _ _ _ h => h) (Or.inl ⟨by rfl, ?_⟩) (by assumption) ?_
                    rotate_left
                    · intro wq hSw
                      have h1 : wq.cell? ⟨X, 3, none⟩ = some (.int .i64 y.o) := hSw.cell 3 _ rfl
                      go_simp
                      try with_reducible rfl
                    simp only [Act.put, List.setIfInBounds_toArray, List.set_cons_zero, List.set_cons_succ]
                    refine wpAnyH_take (i := 4) (oi := { dst := some 62, op := Op.load 3 (Operand.tmp 61), type := 3, pos := "law.go:113", after := #[{ on := 3, ground := Ground.data }], guard := none }) (v := ?_) rfl (by as_aux_lemma => kernel_rfl) (by as_aux_lemma => kernel_rfl) (by as_aux_lemma => kernel_rfl) (fun _ _ _ h => h) (Or.inl ⟨by rfl, ?_⟩) (by assumption) ?_
                    rotate_left
                    · intro wq hSw
                      have h1 : wq.cell? ⟨X, 4, none⟩ = some (.int .i64 y.w) := hSw.cell 4 _ rfl
                      go_simp
                      try with_reducible rfl
                    simp only [Act.put, List.setIfInBounds_toArray, List.set_cons_zero, List.set_cons_succ]
                    refine wpAnyH_take (i := 8) (oi := { dst := some 66, op := Op.load 3 (Operand.tmp 65), type := 3, pos := "law.go:113", after := #[{ on := 7, ground := Ground.data }], guard := none }) (v := ?_) rfl (by as_aux_lemma => kernel_rfl) (by as_aux_lemma => kernel_rfl) (by as_aux_lemma => kernel_rfl) (fun _ _ _ h => h) (Or.inl ⟨by rfl, ?_⟩) (by assumption) ?_
                    rotate_left
                    · intro wq hSw
                      have h1 : wq.cell? ⟨X, 10, none⟩ = some (.int .i64 y.q) := hSw.cell 10 _ rfl
                      go_simp
                      try with_reducible rfl
                    simp only [Act.put, List.setIfInBounds_toArray, List.set_cons_zero, List.set_cons_succ]
                    refine wpAnyH_take (i := 5) (oi := { dst := some 63, op := Op.build 42 #[(0, Operand.tmp 60), (1, Operand.tmp 62)], type := 42, pos := "law.go:113", after := #[{ on := 2, ground := Ground.data }, { on := 4, ground := Ground.data }], guard := none }) (v := ?_) rfl (by as_aux_lemma => kernel_rfl) (by as_aux_lemma => kernel_rfl) (by as_aux_lemma => kernel_rfl) (fun _ _ _ h => h) (Or.inl ⟨by rfl, ?_⟩) (by assumption) ?_
                    rotate_left
                    · intro wq hSw
                      go_simp
                      try with_reducible rfl
                    simp only [Act.put, List.setIfInBounds_toArray, List.set_cons_zero, List.set_cons_succ]
                    refine wpAnyH_ready (rs := [6, 10]) (by as_aux_lemma => kernel_rfl) (by simp) ?_
                    refine AllReadyH.cons (o := { dst := some 64, op := Op.lookup 34 (Operand.tmp 58) (Operand.tmp 63) false, type := 3, pos := "law.go:113", after := #[{ on := 0, ground := Ground.data }, { on := 5, ground := Ground.data }], guard := none }) rfl (fun K hK => ?_) ?_
                    · rw [if_pos (by rfl)]
                      refine wp_look (show MapD wz.drew DB _ (bump d y.c y.g y.q) from HM4.out) HWF.out.2.2.1 HWF.out.2.2.2.1 (.tmp 58) (.tmp 63) rfl (by rfl) (by rfl) ?_
                      refine hK.out _ _ hHeld (fun hHeld => ?_)
                      clear hK K
                      simp only [Act.put, List.setIfInBounds_toArray, List.set_cons_zero, List.set_cons_succ]
                      refine wpAnyH_take (i := 9) (oi := { dst := some 67, op := Op.binOp BinOp.add 3 (Operand.tmp 64) (Operand.tmp 66) 3, type := 3, pos := "law.go:113", after := #[{ on := 6, ground := Ground.data }, { on := 8, ground := Ground.data }], guard := none }) (v := ?_) rfl (by as_aux_lemma => kernel_rfl) (by as_aux_lemma => kernel_rfl) (by as_aux_lemma => kernel_rfl) (fun _ _ _ h => h) (Or.inl ⟨by rfl, ?_⟩) (by assumption) ?_
                      rotate_left
                      · intro wq hSw
                        go_simp
                        try with_reducible rfl
                      simp only [Act.put, List.setIfInBounds_toArray, List.set_cons_zero, List.set_cons_succ]
                      refine wpAnyH_ready (rs := [10]) (by as_aux_lemma => kernel_rfl) (by simp) ?_
                      refine AllReadyH.cons (o := { dst := some 68, op := Op.mapEntry 34 (Operand.tmp 58) (Operand.tmp 63), type := 0, pos := "law.go:113", after := #[{ on := 0, ground := Ground.data }, { on := 5, ground := Ground.data }, { on := 0, ground := Ground.phase }, { on := 1, ground := Ground.phase }, { on := 2, ground := Ground.phase }, { on := 3, ground := Ground.phase }, { on := 4, ground := Ground.phase }, { on := 5, ground := Ground.phase }, { on := 6, ground := Ground.textOnly Departure.mapOpAssignEntry }, { on := 7, ground := Ground.phase }, { on := 8, ground := Ground.phase }, { on := 9, ground := Ground.textOnly Departure.mapOpAssignEntry }], guard := none }) rfl (fun K hK => ?_) ?_
                      · rw [if_pos (by rfl)]
                        refine wp_entry (show MapD wz.drew DB (2 * q + 1) (bump d y.c y.g y.q) from HM4.out) HN2.out HWF.out.2.2.1 HWF.out.2.2.2.1 (.tmp 58) (.tmp 63) rfl (by rfl) (by rfl) ?_
                        intro v0 st wy hMy hGy hSt
                        have HMy := Lib.hid hMy
                        have HGy := Lib.hid hGy
                        have HSt := Lib.hid hSt
                        clear hMy hGy hSt
                        refine hK.out _ _ (hHeld.off HXD.out HGy.out) (fun hHeld => ?_)
                        clear hK K
                        simp only [Act.put, List.setIfInBounds_toArray, List.set_cons_zero, List.set_cons_succ]
                        refine wpAnyH_take (i := 11) (oi := { dst := some 69, op := Op.extract (Operand.tmp 68) 1, type := 3, pos := "law.go:113", after := #[{ on := 10, ground := Ground.data }], guard := none }) (v := ?_) rfl (by as_aux_lemma => kernel_rfl) (by as_aux_lemma => kernel_rfl) (by as_aux_lemma => kernel_rfl) (fun _ _ _ h => h) (Or.inl ⟨by rfl, ?_⟩) (by assumption) ?_
                        rotate_left
                        · intro wq hSw
                          go_simp
                          try with_reducible rfl
                        simp only [Act.put, List.setIfInBounds_toArray, List.set_cons_zero, List.set_cons_succ]
                        refine wpAnyH_ready (rs := [12]) (by as_aux_lemma => kernel_rfl) (by simp) ?_
                        refine AllReadyH.cons (o := { dst := none, op := Op.entryStore 34 (Operand.tmp 58) (Operand.tmp 69) (Operand.tmp 67), type := 0, pos := "law.go:113", after := #[{ on := 0, ground := Ground.data }, { on := 11, ground := Ground.data }, { on := 9, ground := Ground.data }, { on := 10, ground := Ground.chain }, { on := 0, ground := Ground.phase }, { on := 1, ground := Ground.phase }, { on := 2, ground := Ground.phase }, { on := 3, ground := Ground.phase }, { on := 4, ground := Ground.phase }, { on := 5, ground := Ground.phase }, { on := 6, ground := Ground.phase }, { on := 7, ground := Ground.phase }, { on := 8, ground := Ground.phase }, { on := 9, ground := Ground.phase }, { on := 10, ground := Ground.phase }, { on := 11, ground := Ground.phase }], guard := none }) rfl (fun K hK => ?_) ?_
                        · rw [if_pos (by rfl)]
                          obtain ⟨wz, hrun, hMz, hGz⟩ := HSt.out wy ((bump d y.c y.g y.q) y.o y.w + y.q) HS2.out rfl
                          have HMz := Lib.hid hMz
                          have HGz := Lib.hid hGz
                          clear hMz hGz
                          refine wp_estore (.tmp 58) (.tmp 69) (.tmp 67) rfl (by rfl) (by rfl) (by rfl) hrun ?_
                          refine hK.out _ _ (hHeld.off HXD.out HGz.out) (fun hHeld => ?_)
                          clear hK K hrun
                          try simp only [Act.put, List.setIfInBounds_toArray, List.set_cons_zero, List.set_cons_succ]
                          refine wpAnyH_done (by as_aux_lemma => kernel_rfl) ?_ _
                          have HM5 := Lib.hid (show MapD wz DB (2 * (q + 1)) (bump (bump d y.c y.g y.q) y.o y.w y.q) from HMz.out.mono (by omega))
                          have HSM5 := Lib.hid (HSM4.out.put HEO.out HCD.out HLO.out (gthen (undrew HGy.out) HGz.out) HM5.out)
                          clear hHeld HMy HGy HSt HMz HGz
                          go_wp2_with fail
                          go_meet
                          case rel => exact Lib.hid (by rw [show after y d = bump (bump d y.c y.g y.q) y.o y.w y.q from if_pos HK2.out]; exact HSM5.out)
                        exact AllReadyH.nil
                      exact AllReadyH.nil
                    refine AllReadyH.cons (o := { dst := some 68, op := Op.mapEntry 34 (Operand.tmp 58) (Operand.tmp 63), type := 0, pos := "law.go:113", after := #[{ on := 0, ground := Ground.data }, { on := 5, ground := Ground.data }, { on := 0, ground := Ground.phase }, { on := 1, ground := Ground.phase }, { on := 2, ground := Ground.phase }, { on := 3, ground := Ground.phase }, { on := 4, ground := Ground.phase }, { on := 5, ground := Ground.phase }, { on := 6, ground := Ground.textOnly Departure.mapOpAssignEntry }, { on := 7, ground := Ground.phase }, { on := 8, ground := Ground.phase }, { on := 9, ground := Ground.textOnly Departure.mapOpAssignEntry }], guard := none }) rfl (fun K hK => ?_) ?_
                    · rw [if_pos (by rfl)]
                      refine wp_entry (show MapD wz.drew DB (2 * q + 1) (bump d y.c y.g y.q) from HM4.out) HN2.out HWF.out.2.2.1 HWF.out.2.2.2.1 (.tmp 58) (.tmp 63) rfl (by rfl) (by rfl) ?_
                      intro v0 st wy hMy hGy hSt
                      have HMy := Lib.hid hMy
                      have HGy := Lib.hid hGy
                      have HSt := Lib.hid hSt
                      clear hMy hGy hSt
                      refine hK.out _ _ (hHeld.off HXD.out HGy.out) (fun hHeld => ?_)
                      clear hK K
                      simp only [Act.put, List.setIfInBounds_toArray, List.set_cons_zero, List.set_cons_succ]
                      refine wpAnyH_take (i := 11) (oi := { dst := some 69, op := Op.extract (Operand.tmp 68) 1, type := 3, pos := "law.go:113", after := #[{ on := 10, ground := Ground.data }], guard := none }) (v := ?_) rfl (by as_aux_lemma => kernel_rfl) (by as_aux_lemma => kernel_rfl) (by as_aux_lemma => kernel_rfl) (fun _ _ _ h => h) (Or.inl ⟨by rfl, ?_⟩) (by assumption) ?_
                      rotate_left
                      · intro wq hSw
                        go_simp
                        try with_reducible rfl
                      simp only [Act.put, List.setIfInBounds_toArray, List.set_cons_zero, List.set_cons_succ]
                      refine wpAnyH_ready (rs := [6]) (by as_aux_lemma => kernel_rfl) (by simp) ?_
                      refine AllReadyH.cons (o := { dst := some 64, op := Op.lookup 34 (Operand.tmp 58) (Operand.tmp 63) false, type := 3, pos := "law.go:113", after := #[{ on := 0, ground := Ground.data }, { on := 5, ground := Ground.data }], guard := none }) rfl (fun K hK => ?_) ?_
                      · rw [if_pos (by rfl)]
                        refine wp_look (show MapD wy DB _ (bump d y.c y.g y.q) from HMy.out) HWF.out.2.2.1 HWF.out.2.2.2.1 (.tmp 58) (.tmp 63) rfl (by rfl) (by rfl) ?_
                        refine hK.out _ _ hHeld (fun hHeld => ?_)
                        clear hK K
                        simp only [Act.put, List.setIfInBounds_toArray, List.set_cons_zero, List.set_cons_succ]
                        refine wpAnyH_take (i := 9) (oi := { dst := some 67, op := Op.binOp BinOp.add 3 (Operand.tmp 64) (Operand.tmp 66) 3, type := 3, pos := "law.go:113", after := #[{ on := 6, ground := Ground.data }, { on := 8, ground := Ground.data }], guard := none }) (v := ?_) rfl (by as_aux_lemma => kernel_rfl) (by as_aux_lemma => kernel_rfl) (by as_aux_lemma => kernel_rfl) (fun _ _ _ h => h) (Or.inl ⟨by rfl, ?_⟩) (by assumption) ?_
                        rotate_left
                        · intro wq hSw
                          go_simp
                          try with_reducible rfl
                        simp only [Act.put, List.setIfInBounds_toArray, List.set_cons_zero, List.set_cons_succ]
                        refine wpAnyH_ready (rs := [12]) (by as_aux_lemma => kernel_rfl) (by simp) ?_
                        refine AllReadyH.cons (o := { dst := none, op := Op.entryStore 34 (Operand.tmp 58) (Operand.tmp 69) (Operand.tmp 67), type := 0, pos := "law.go:113", after := #[{ on := 0, ground := Ground.data }, { on := 11, ground := Ground.data }, { on := 9, ground := Ground.data }, { on := 10, ground := Ground.chain }, { on := 0, ground := Ground.phase }, { on := 1, ground := Ground.phase }, { on := 2, ground := Ground.phase }, { on := 3, ground := Ground.phase }, { on := 4, ground := Ground.phase }, { on := 5, ground := Ground.phase }, { on := 6, ground := Ground.phase }, { on := 7, ground := Ground.phase }, { on := 8, ground := Ground.phase }, { on := 9, ground := Ground.phase }, { on := 10, ground := Ground.phase }, { on := 11, ground := Ground.phase }], guard := none }) rfl (fun K hK => ?_) ?_
                        · rw [if_pos (by rfl)]
                          obtain ⟨wz, hrun, hMz, hGz⟩ := HSt.out wy ((bump d y.c y.g y.q) y.o y.w + y.q) HS2.out rfl
                          have HMz := Lib.hid hMz
                          have HGz := Lib.hid hGz
                          clear hMz hGz
                          refine wp_estore (.tmp 58) (.tmp 69) (.tmp 67) rfl (by rfl) (by rfl) (by rfl) hrun ?_
                          refine hK.out _ _ (hHeld.off HXD.out HGz.out) (fun hHeld => ?_)
                          clear hK K hrun
                          try simp only [Act.put, List.setIfInBounds_toArray, List.set_cons_zero, List.set_cons_succ]
                          refine wpAnyH_done (by as_aux_lemma => kernel_rfl) ?_ _
                          have HM5 := Lib.hid (show MapD wz DB (2 * (q + 1)) (bump (bump d y.c y.g y.q) y.o y.w y.q) from HMz.out.mono (by omega))
                          have HSM5 := Lib.hid (HSM4.out.put HEO.out HCD.out HLO.out (gthen (undrew HGy.out) HGz.out) HM5.out)
                          clear hHeld HMy HGy HSt HMz HGz
                          go_wp2_with fail
                          go_meet
                          case rel => exact Lib.hid (by rw [show after y d = bump (bump d y.c y.g y.q) y.o y.w y.q from if_pos HK2.out]; exact HSM5.out)
                        exact AllReadyH.nil
                      exact AllReadyH.nil
                    exact AllReadyH.nil
                  exact AllReadyH.nil
                exact AllReadyH.nil
              refine AllReadyH.cons (o := { dst := some 56, op := Op.mapEntry 34 (Operand.tmp 46) (Operand.tmp 51), type := 0, pos := "law.go:112", after := #[{ on := 0, ground := Ground.data }, { on := 5, ground := Ground.data }, { on := 0, ground := Ground.phase }, { on := 1, ground := Ground.phase }, { on := 2, ground := Ground.phase }, { on := 3, ground := Ground.phase }, { on := 4, ground := Ground.phase }, { on := 5, ground := Ground.phase }, { on := 6, ground := Ground.textOnly Departure.mapOpAssignEntry }, { on := 7, ground := Ground.phase }, { on := 8, ground := Ground.phase }, { on := 9, ground := Ground.textOnly Departure.mapOpAssignEntry }], guard := none }) rfl (fun K hK => ?_) ?_
              · rw [if_pos (by rfl)]
                refine wp_entry (show MapD w3.drew DB (2 * q) d from HMA.out) HN1.out HWF.out.1 HWF.out.2.1 (.tmp 46) (.tmp 51) rfl (by rfl) (by rfl) ?_
                intro v0 st wy hMy hGy hSt
                have HMy := Lib.hid hMy
                have HGy := Lib.hid hGy
                have HSt := Lib.hid hSt
                clear hMy hGy hSt
                refine hK.out _ _ (hHeld.off HXD.out HGy.out) (fun hHeld => ?_)
                clear hK K
                simp only [Act.put, List.setIfInBounds_toArray, List.set_cons_zero, List.set_cons_succ]
                refine wpAnyH_take (i := 11) (oi := { dst := some 57, op := Op.extract (Operand.tmp 56) 1, type := 3, pos := "law.go:112", after := #[{ on := 10, ground := Ground.data }], guard := none }) (v := ?_) rfl (by as_aux_lemma => kernel_rfl) (by as_aux_lemma => kernel_rfl) (by as_aux_lemma => kernel_rfl) (fun _ _ _ h => h) (Or.inl ⟨by rfl, ?_⟩) (by assumption) ?_
                rotate_left
                · intro wq hSw
                  go_simp
                  try with_reducible rfl
                simp only [Act.put, List.setIfInBounds_toArray, List.set_cons_zero, List.set_cons_succ]
                refine wpAnyH_ready (rs := [6]) (by as_aux_lemma => kernel_rfl) (by simp) ?_
                refine AllReadyH.cons (o := { dst := some 52, op := Op.lookup 34 (Operand.tmp 46) (Operand.tmp 51) false, type := 3, pos := "law.go:112", after := #[{ on := 0, ground := Ground.data }, { on := 5, ground := Ground.data }], guard := none }) rfl (fun K hK => ?_) ?_
                · rw [if_pos (by rfl)]
                  refine wp_look (show MapD wy DB _ d from HMy.out) HWF.out.1 HWF.out.2.1 (.tmp 46) (.tmp 51) rfl (by rfl) (by rfl) ?_
                  refine hK.out _ _ hHeld (fun hHeld => ?_)
                  clear hK K
                  simp only [Act.put, List.setIfInBounds_toArray, List.set_cons_zero, List.set_cons_succ]
                  refine wpAnyH_take (i := 9) (oi := { dst := some 55, op := Op.binOp BinOp.add 3 (Operand.tmp 52) (Operand.tmp 54) 3, type := 3, pos := "law.go:112", after := #[{ on := 6, ground := Ground.data }, { on := 8, ground := Ground.data }], guard := none }) (v := ?_) rfl (by as_aux_lemma => kernel_rfl) (by as_aux_lemma => kernel_rfl) (by as_aux_lemma => kernel_rfl) (fun _ _ _ h => h) (Or.inl ⟨by rfl, ?_⟩) (by assumption) ?_
                  rotate_left
                  · intro wq hSw
                    go_simp
                    try with_reducible rfl
                  simp only [Act.put, List.setIfInBounds_toArray, List.set_cons_zero, List.set_cons_succ]
                  refine wpAnyH_ready (rs := [12]) (by as_aux_lemma => kernel_rfl) (by simp) ?_
                  refine AllReadyH.cons (o := { dst := none, op := Op.entryStore 34 (Operand.tmp 46) (Operand.tmp 57) (Operand.tmp 55), type := 0, pos := "law.go:112", after := #[{ on := 0, ground := Ground.data }, { on := 11, ground := Ground.data }, { on := 9, ground := Ground.data }, { on := 10, ground := Ground.chain }, { on := 0, ground := Ground.phase }, { on := 1, ground := Ground.phase }, { on := 2, ground := Ground.phase }, { on := 3, ground := Ground.phase }, { on := 4, ground := Ground.phase }, { on := 5, ground := Ground.phase }, { on := 6, ground := Ground.phase }, { on := 7, ground := Ground.phase }, { on := 8, ground := Ground.phase }, { on := 9, ground := Ground.phase }, { on := 10, ground := Ground.phase }, { on := 11, ground := Ground.phase }], guard := none }) rfl (fun K hK => ?_) ?_
                  · rw [if_pos (by rfl)]
                    obtain ⟨wz, hrun, hMz, hGz⟩ := HSt.out wy (d y.c y.g + y.q) HS1.out rfl
                    have HMz := Lib.hid hMz
                    have HGz := Lib.hid hGz
                    clear hMz hGz
                    refine wp_estore (.tmp 46) (.tmp 57) (.tmp 55) rfl (by rfl) (by rfl) (by rfl) hrun ?_
                    refine hK.out _ _ (hHeld.off HXD.out HGz.out) (fun hHeld => ?_)
                    clear hK K hrun
                    try simp only [Act.put, List.setIfInBounds_toArray, List.set_cons_zero, List.set_cons_succ]
                    refine wpAnyH_done (by as_aux_lemma => kernel_rfl) ?_ _
                    have HM4 := Lib.hid (show MapD wz DB (2 * q + 1) (bump d y.c y.g y.q) from HMz.out.mono (by omega))
                    have HSM4 := Lib.hid (HSM.out.put HEO.out HCD.out HLO.out (gthen (undrew HGy.out) HGz.out) HM4.out)
                    have HX4 := Lib.hid hHeld
                    clear hHeld HMy HGy HSt HMz HGz
                    go_wp2_with fail
                    refine wp_region_held_drew (S := fun w' => Bl X (ec y) w') (by kernel_rfl) (show Bl X (ec y) wz.drew from HX4.out) (fun hHeld => ?_)
                    refine wpAnyH_take (i := 0) (oi := { dst := some 58, op := Op.move (Operand.tmp 8), type := 34, pos := "law.go:113", after := #[], guard := none }) (v := ?_) rfl (by as_aux_lemma => kernel_rfl) (by as_aux_lemma => kernel_rfl) (by as_aux_lemma => kernel_rfl) (fun _ _ _ h => h) (Or.inl ⟨by rfl, ?_⟩) (by assumption) ?_
                    rotate_left
                    · intro wq hSw
                      go_simp
                      try with_reducible rfl
                    simp only [Act.put, List.setIfInBounds_toArray, List.set_cons_zero, List.set_cons_succ]
                    refine wpAnyH_take (i := 1) (oi := { dst := some 59, op := Op.fieldAddr 39 (Operand.tmp 11) 3, type := 0, pos := "law.go:113", after := #[], guard := none }) (v := ?_) rfl (by as_aux_lemma => kernel_rfl) (by as_aux_lemma => kernel_rfl) (by as_aux_lemma => kernel_rfl) (fun _ _ _ h => h) (Or.inl ⟨by rfl, ?_⟩) (by assumption) ?_
                    rotate_left
                    · intro wq hSw
                      go_simp
                      try with_reducible rfl
                    simp only [Act.put, List.setIfInBounds_toArray, List.set_cons_zero, List.set_cons_succ]
                    refine wpAnyH_take (i := 3) (oi := { dst := some 61, op := Op.fieldAddr 39 (Operand.tmp 11) 4, type := 0, pos := "law.go:113", after := #[], guard := none }) (v := ?_) rfl (by as_aux_lemma => kernel_rfl) (by as_aux_lemma => kernel_rfl) (by as_aux_lemma => kernel_rfl) (fun _ _ _ h => h) (Or.inl ⟨by rfl, ?_⟩) (by assumption) ?_
                    rotate_left
                    · intro wq hSw
                      go_simp
                      try with_reducible rfl
                    simp only [Act.put, List.setIfInBounds_toArray, List.set_cons_zero, List.set_cons_succ]
                    refine wpAnyH_take (i := 7) (oi := { dst := some 65, op := Op.fieldAddr 39 (Operand.tmp 11) 6, type := 0, pos := "law.go:113", after := #[], guard := none }) (v := ?_) rfl (by as_aux_lemma => kernel_rfl) (by as_aux_lemma => kernel_rfl) (by as_aux_lemma => kernel_rfl) (fun _ _ _ h => h) (Or.inl ⟨by rfl, ?_⟩) (by assumption) ?_
                    rotate_left
                    · intro wq hSw
                      go_simp
                      try with_reducible rfl
                    simp only [Act.put, List.setIfInBounds_toArray, List.set_cons_zero, List.set_cons_succ]
                    refine wpAnyH_take (i := 2) (oi := { dst := some 60, op := Op.load 3 (Operand.tmp 59), type := 3, pos := "law.go:113", after := #[{ on := 1, ground := Ground.data }], guard := none }) (v := ?_) rfl (by as_aux_lemma => kernel_rfl) (by as_aux_lemma => kernel_rfl) (by as_aux_lemma => kernel_rfl) (fun _ _ _ h => h) (Or.inl ⟨by rfl, ?_⟩) (by assumption) ?_
                    rotate_left
                    · intro wq hSw
                      have h1 : wq.cell? ⟨X, 3, none⟩ = some (.int .i64 y.o) := hSw.cell 3 _ rfl
                      go_simp
                      try with_reducible rfl
                    simp only [Act.put, List.setIfInBounds_toArray, List.set_cons_zero, List.set_cons_succ]
                    refine wpAnyH_take (i := 4) (oi := { dst := some 62, op := Op.load 3 (Operand.tmp 61), type := 3, pos := "law.go:113", after := #[{ on := 3, ground := Ground.data }], guard := none }) (v := ?_) rfl (by as_aux_lemma => kernel_rfl) (by as_aux_lemma => kernel_rfl) (by as_aux_lemma => kernel_rfl) (fun _ _ _ h => h) (Or.inl ⟨by rfl, ?_⟩) (by assumption) ?_
                    rotate_left
                    · intro wq hSw
                      have h1 : wq.cell? ⟨X, 4, none⟩ = some (.int .i64 y.w) := hSw.cell 4 _ rfl
                      go_simp
                      try with_reducible rfl
                    simp only [Act.put, List.setIfInBounds_toArray, List.set_cons_zero, List.set_cons_succ]
                    refine wpAnyH_take (i := 8) (oi := { dst := some 66, op := Op.load 3 (Operand.tmp 65), type := 3, pos := "law.go:113", after := #[{ on := 7, ground := Ground.data }], guard := none }) (v := ?_) rfl (by as_aux_lemma => kernel_rfl) (by as_aux_lemma => kernel_rfl) (by as_aux_lemma => kernel_rfl) (fun _ _ _ h => h) (Or.inl ⟨by rfl, ?_⟩) (by assumption) ?_
                    rotate_left
                    · intro wq hSw
                      have h1 : wq.cell? ⟨X, 10, none⟩ = some (.int .i64 y.q) := hSw.cell 10 _ rfl
                      go_simp
                      try with_reducible rfl
                    simp only [Act.put, List.setIfInBounds_toArray, List.set_cons_zero, List.set_cons_succ]
                    refine wpAnyH_take (i := 5) (oi := { dst := some 63, op := Op.build 42 #[(0, Operand.tmp 60), (1, Operand.tmp 62)], type := 42, pos := "law.go:113", after := #[{ on := 2, ground := Ground.data }, { on := 4, ground := Ground.data }], guard := none }) (v := ?_) rfl (by as_aux_lemma => kernel_rfl) (by as_aux_lemma => kernel_rfl) (by as_aux_lemma => kernel_rfl) (fun _ _ _ h => h) (Or.inl ⟨by rfl, ?_⟩) (by assumption) ?_
                    rotate_left
                    · intro wq hSw
                      go_simp
                      try with_reducible rfl
                    simp only [Act.put, List.setIfInBounds_toArray, List.set_cons_zero, List.set_cons_succ]
                    refine wpAnyH_ready (rs := [6, 10]) (by as_aux_lemma => kernel_rfl) (by simp) ?_
                    refine AllReadyH.cons (o := { dst := some 64, op := Op.lookup 34 (Operand.tmp 58) (Operand.tmp 63) false, type := 3, pos := "law.go:113", after := #[{ on := 0, ground := Ground.data }, { on := 5, ground := Ground.data }], guard := none }) rfl (fun K hK => ?_) ?_
                    · rw [if_pos (by rfl)]
                      refine wp_look (show MapD wz.drew DB _ (bump d y.c y.g y.q) from HM4.out) HWF.out.2.2.1 HWF.out.2.2.2.1 (.tmp 58) (.tmp 63) rfl (by rfl) (by rfl) ?_
                      refine hK.out _ _ hHeld (fun hHeld => ?_)
                      clear hK K
                      simp only [Act.put, List.setIfInBounds_toArray, List.set_cons_zero, List.set_cons_succ]
                      refine wpAnyH_take (i := 9) (oi := { dst := some 67, op := Op.binOp BinOp.add 3 (Operand.tmp 64) (Operand.tmp 66) 3, type := 3, pos := "law.go:113", after := #[{ on := 6, ground := Ground.data }, { on := 8, ground := Ground.data }], guard := none }) (v := ?_) rfl (by as_aux_lemma => kernel_rfl) (by as_aux_lemma => kernel_rfl) (by as_aux_lemma => kernel_rfl) (fun _ _ _ h => h) (Or.inl ⟨by rfl, ?_⟩) (by assumption) ?_
                      rotate_left
                      · intro wq hSw
                        go_simp
                        try with_reducible rfl
                      simp only [Act.put, List.setIfInBounds_toArray, List.set_cons_zero, List.set_cons_succ]
                      refine wpAnyH_ready (rs := [10]) (by as_aux_lemma => kernel_rfl) (by simp) ?_
                      refine AllReadyH.cons (o := { dst := some 68, op := Op.mapEntry 34 (Operand.tmp 58) (Operand.tmp 63), type := 0, pos := "law.go:113", after := #[{ on := 0, ground := Ground.data }, { on := 5, ground := Ground.data }, { on := 0, ground := Ground.phase }, { on := 1, ground := Ground.phase }, { on := 2, ground := Ground.phase }, { on := 3, ground := Ground.phase }, { on := 4, ground := Ground.phase }, { on := 5, ground := Ground.phase }, { on := 6, ground := Ground.textOnly Departure.mapOpAssignEntry }, { on := 7, ground := Ground.phase }, { on := 8, ground := Ground.phase }, { on := 9, ground := Ground.textOnly Departure.mapOpAssignEntry }], guard := none }) rfl (fun K hK => ?_) ?_
                      · rw [if_pos (by rfl)]
                        refine wp_entry (show MapD wz.drew DB (2 * q + 1) (bump d y.c y.g y.q) from HM4.out) HN2.out HWF.out.2.2.1 HWF.out.2.2.2.1 (.tmp 58) (.tmp 63) rfl (by rfl) (by rfl) ?_
                        intro v0 st wy hMy hGy hSt
                        have HMy := Lib.hid hMy
                        have HGy := Lib.hid hGy
                        have HSt := Lib.hid hSt
                        clear hMy hGy hSt
                        refine hK.out _ _ (hHeld.off HXD.out HGy.out) (fun hHeld => ?_)
                        clear hK K
                        simp only [Act.put, List.setIfInBounds_toArray, List.set_cons_zero, List.set_cons_succ]
                        refine wpAnyH_take (i := 11) (oi := { dst := some 69, op := Op.extract (Operand.tmp 68) 1, type := 3, pos := "law.go:113", after := #[{ on := 10, ground := Ground.data }], guard := none }) (v := ?_) rfl (by as_aux_lemma => kernel_rfl) (by as_aux_lemma => kernel_rfl) (by as_aux_lemma => kernel_rfl) (fun _ _ _ h => h) (Or.inl ⟨by rfl, ?_⟩) (by assumption) ?_
                        rotate_left
                        · intro wq hSw
                          go_simp
                          try with_reducible rfl
                        simp only [Act.put, List.setIfInBounds_toArray, List.set_cons_zero, List.set_cons_succ]
                        refine wpAnyH_ready (rs := [12]) (by as_aux_lemma => kernel_rfl) (by simp) ?_
                        refine AllReadyH.cons (o := { dst := none, op := Op.entryStore 34 (Operand.tmp 58) (Operand.tmp 69) (Operand.tmp 67), type := 0, pos := "law.go:113", after := #[{ on := 0, ground := Ground.data }, { on := 11, ground := Ground.data }, { on := 9, ground := Ground.data }, { on := 10, ground := Ground.chain }, { on := 0, ground := Ground.phase }, { on := 1, ground := Ground.phase }, { on := 2, ground := Ground.phase }, { on := 3, ground := Ground.phase }, { on := 4, ground := Ground.phase }, { on := 5, ground := Ground.phase }, { on := 6, ground := Ground.phase }, { on := 7, ground := Ground.phase }, { on := 8, ground := Ground.phase }, { on := 9, ground := Ground.phase }, { on := 10, ground := Ground.phase }, { on := 11, ground := Ground.phase }], guard := none }) rfl (fun K hK => ?_) ?_
                        · rw [if_pos (by rfl)]
                          obtain ⟨wz, hrun, hMz, hGz⟩ := HSt.out wy ((bump d y.c y.g y.q) y.o y.w + y.q) HS2.out rfl
                          have HMz := Lib.hid hMz
                          have HGz := Lib.hid hGz
                          clear hMz hGz
                          refine wp_estore (.tmp 58) (.tmp 69) (.tmp 67) rfl (by rfl) (by rfl) (by rfl) hrun ?_
                          refine hK.out _ _ (hHeld.off HXD.out HGz.out) (fun hHeld => ?_)
                          clear hK K hrun
                          try simp only [Act.put, List.setIfInBounds_toArray, List.set_cons_zero, List.set_cons_succ]
                          refine wpAnyH_done (by as_aux_lemma => kernel_rfl) ?_ _
                          have HM5 := Lib.hid (show MapD wz DB (2 * (q + 1)) (bump (bump d y.c y.g y.q) y.o y.w y.q) from HMz.out.mono (by omega))
                          have HSM5 := Lib.hid (HSM4.out.put HEO.out HCD.out HLO.out (gthen (undrew HGy.out) HGz.out) HM5.out)
                          clear hHeld HMy HGy HSt HMz HGz
                          go_wp2_with fail
                          go_meet
                          case rel => exact Lib.hid (by rw [show after y d = bump (bump d y.c y.g y.q) y.o y.w y.q from if_pos HK2.out]; exact HSM5.out)
                        exact AllReadyH.nil
                      exact AllReadyH.nil
                    refine AllReadyH.cons (o := { dst := some 68, op := Op.mapEntry 34 (Operand.tmp 58) (Operand.tmp 63), type := 0, pos := "law.go:113", after := #[{ on := 0, ground := Ground.data }, { on := 5, ground := Ground.data }, { on := 0, ground := Ground.phase }, { on := 1, ground := Ground.phase }, { on := 2, ground := Ground.phase }, { on := 3, ground := Ground.phase }, { on := 4, ground := Ground.phase }, { on := 5, ground := Ground.phase }, { on := 6, ground := Ground.textOnly Departure.mapOpAssignEntry }, { on := 7, ground := Ground.phase }, { on := 8, ground := Ground.phase }, { on := 9, ground := Ground.textOnly Departure.mapOpAssignEntry }], guard := none }) rfl (fun K hK => ?_) ?_
                    · rw [if_pos (by rfl)]
                      refine wp_entry (show MapD wz.drew DB (2 * q + 1) (bump d y.c y.g y.q) from HM4.out) HN2.out HWF.out.2.2.1 HWF.out.2.2.2.1 (.tmp 58) (.tmp 63) rfl (by rfl) (by rfl) ?_
                      intro v0 st wy hMy hGy hSt
                      have HMy := Lib.hid hMy
                      have HGy := Lib.hid hGy
                      have HSt := Lib.hid hSt
                      clear hMy hGy hSt
                      refine hK.out _ _ (hHeld.off HXD.out HGy.out) (fun hHeld => ?_)
                      clear hK K
                      simp only [Act.put, List.setIfInBounds_toArray, List.set_cons_zero, List.set_cons_succ]
                      refine wpAnyH_take (i := 11) (oi := { dst := some 69, op := Op.extract (Operand.tmp 68) 1, type := 3, pos := "law.go:113", after := #[{ on := 10, ground := Ground.data }], guard := none }) (v := ?_) rfl (by as_aux_lemma => kernel_rfl) (by as_aux_lemma => kernel_rfl) (by as_aux_lemma => kernel_rfl) (fun _ _ _ h => h) (Or.inl ⟨by rfl, ?_⟩) (by assumption) ?_
                      rotate_left
                      · intro wq hSw
                        go_simp
                        try with_reducible rfl
                      simp only [Act.put, List.setIfInBounds_toArray, List.set_cons_zero, List.set_cons_succ]
                      refine wpAnyH_ready (rs := [6]) (by as_aux_lemma => kernel_rfl) (by simp) ?_
                      refine AllReadyH.cons (o := { dst := some 64, op := Op.lookup 34 (Operand.tmp 58) (Operand.tmp 63) false, type := 3, pos := "law.go:113", after := #[{ on := 0, ground := Ground.data }, { on := 5, ground := Ground.data }], guard := none }) rfl (fun K hK => ?_) ?_
                      · rw [if_pos (by rfl)]
                        refine wp_look (show MapD wy DB _ (bump d y.c y.g y.q) from HMy.out) HWF.out.2.2.1 HWF.out.2.2.2.1 (.tmp 58) (.tmp 63) rfl (by rfl) (by rfl) ?_
                        refine hK.out _ _ hHeld (fun hHeld => ?_)
                        clear hK K
                        simp only [Act.put, List.setIfInBounds_toArray, List.set_cons_zero, List.set_cons_succ]
                        refine wpAnyH_take (i := 9) (oi := { dst := some 67, op := Op.binOp BinOp.add 3 (Operand.tmp 64) (Operand.tmp 66) 3, type := 3, pos := "law.go:113", after := #[{ on := 6, ground := Ground.data }, { on := 8, ground := Ground.data }], guard := none }) (v := ?_) rfl (by as_aux_lemma => kernel_rfl) (by as_aux_lemma => kernel_rfl) (by as_aux_lemma => kernel_rfl) (fun _ _ _ h => h) (Or.inl ⟨by rfl, ?_⟩) (by assumption) ?_
                        rotate_left
                        · intro wq hSw
                          go_simp
                          try with_reducible rfl
                        simp only [Act.put, List.setIfInBounds_toArray, List.set_cons_zero, List.set_cons_succ]
                        refine wpAnyH_ready (rs := [12]) (by as_aux_lemma => kernel_rfl) (by simp) ?_
                        refine AllReadyH.cons (o := { dst := none, op := Op.entryStore 34 (Operand.tmp 58) (Operand.tmp 69) (Operand.tmp 67), type := 0, pos := "law.go:113", after := #[{ on := 0, ground := Ground.data }, { on := 11, ground := Ground.data }, { on := 9, ground := Ground.data }, { on := 10, ground := Ground.chain }, { on := 0, ground := Ground.phase }, { on := 1, ground := Ground.phase }, { on := 2, ground := Ground.phase }, { on := 3, ground := Ground.phase }, { on := 4, ground := Ground.phase }, { on := 5, ground := Ground.phase }, { on := 6, ground := Ground.phase }, { on := 7, ground := Ground.phase }, { on := 8, ground := Ground.phase }, { on := 9, ground := Ground.phase }, { on := 10, ground := Ground.phase }, { on := 11, ground := Ground.phase }], guard := none }) rfl (fun K hK => ?_) ?_
                        · rw [if_pos (by rfl)]
                          obtain ⟨wz, hrun, hMz, hGz⟩ := HSt.out wy ((bump d y.c y.g y.q) y.o y.w + y.q) HS2.out rfl
                          have HMz := Lib.hid hMz
                          have HGz := Lib.hid hGz
                          clear hMz hGz
                          refine wp_estore (.tmp 58) (.tmp 69) (.tmp 67) rfl (by rfl) (by rfl) (by rfl) hrun ?_
                          refine hK.out _ _ (hHeld.off HXD.out HGz.out) (fun hHeld => ?_)
                          clear hK K hrun
                          try simp only [Act.put, List.setIfInBounds_toArray, List.set_cons_zero, List.set_cons_succ]
                          refine wpAnyH_done (by as_aux_lemma => kernel_rfl) ?_ _
                          have HM5 := Lib.hid (show MapD wz DB (2 * (q + 1)) (bump (bump d y.c y.g y.q) y.o y.w y.q) from HMz.out.mono (by omega))
                          have HSM5 := Lib.hid (HSM4.out.put HEO.out HCD.out HLO.out (gthen (undrew HGy.out) HGz.out) HM5.out)
                          clear hHeld HMy HGy HSt HMz HGz
                          go_wp2_with fail
                          go_meet
                          case rel => exact Lib.hid (by rw [show after y d = bump (bump d y.c y.g y.q) y.o y.w y.q from if_pos HK2.out]; exact HSM5.out)
                        exact AllReadyH.nil
                      exact AllReadyH.nil
                    exact AllReadyH.nil
                  exact AllReadyH.nil
                exact AllReadyH.nil
              exact AllReadyH.nil
            · have hkd : (y.k == 2) = false := by simpa using hk
              have HK2 := Lib.hid hk
              rw [hkd]
              clear hk hkd
              go_wp2_with fail
              go_meet
              case rel => exact Lib.hid (by rw [show after y d = d from if_neg HK2.out]; exact ⟨HSM.out.map.mono (by omega), HSM.out.row, HSM.out.ms, HSM.out.cb⟩)
          case rest =>
            have HIN := Lib.hid (HST.out.inv HR.out.inv)
            have HSU := Lib.hid (Sums.step HST.out HR.out.inv HR.out.sums)
            have HWO := Lib.hid (WfO.step HST.out HWF.out HR.out.wf)
            have HOV := Lib.hid (HR.out.over.ext HST.out.ext)
            have HLN := Lib.hid (show os'.length ≤ q + 1 from by have := HST.out.len; have := HR.out.len; omega)
            have HEL := Lib.hid (show es.length ≤ 60 from by have := HR.out.el; have := HQ.out; omega)
            have HSC := hcut
            clear hcut HSM HX3 x0 HST HR HEO HWF HXD q0' q1' q2' q3' q4' q5' q6' q7' q8' q9' q10' q11' q12' q13'
            generalize after y d = d2 at *
            clear d
            have e0 : (0 : Int) ≤ (es.length : Int) := by omega
            have e1 : (es.length : Int) ≤ 60 := by have := HEL.out; omega
            go_wp2_with fail
            go_loopw [13, 14, 15, 72] (fun _ _ _ i wr => ∃ t : Nat, t ≤ es.length ∧ i = .int .i64 (t : Int) ∧ Hid (Below wc.heap.size wc wr)) (fun _ _ _ i _ => es.length + 1 - (intOf i).toNat)
            case atStart => exact ⟨0, Nat.zero_le _, rfl, Lib.hid (Below.refl _ _)⟩
            case round =>
              obtain ⟨t, ht, rfl, HBT⟩ := hrel
              have t0 : (0 : Int) ≤ (t : Int) := by omega
              by_cases htx : t < es.length
              · have t1 : (t : Int) < (es.length : Int) := by omega
                obtain ⟨o, ho⟩ : ∃ o, es[t]? = some o := ⟨_, List.getElem?_eq_getElem htx⟩
                obtain ⟨hen, j, hj⟩ := HOV.out t o ho
                obtain ⟨g3, cp3, hv3, _, _⟩ := World.ownsRow.form HSC.out.row (by omega)
                obtain ⟨rfl, rfl⟩ : A9 = some ⟨g3, 0, none⟩ ∧ cp3 = c9 := by
                  injection hv3 with h1 h2 h3
                  exact ⟨h1, h3.symm⟩
                have ha : ∀ j u, j < 13 → (oc o)[j]? = some u → wr.cell? ⟨g3, t * 13 + j, none⟩ = some u := fun j u hj hu => row_cell (row_kept HSC.out.row HBT.out) ho rfl hj hu
                have a0 : wr.cell? ⟨g3, t * 13, none⟩ = some (.int .i64 o.c) := ha 0 _ (by omega) rfl
                have a1 : wr.cell? ⟨g3, t * 13 + 1, none⟩ = some (.int .i64 o.g) := ha 1 _ (by omega) rfl
                have a2 : wr.cell? ⟨g3, t * 13 + 2, none⟩ = some (.int .i64 o.n) := ha 2 _ (by omega) rfl
                have a3 : wr.cell? ⟨g3, t * 13 + 3, none⟩ = some (.int .i64 o.s) := ha 3 _ (by omega) rfl
                have a4 : wr.cell? ⟨g3, t * 13 + 4, none⟩ = some (.int .i64 o.p) := ha 4 _ (by omega) rfl
                have a5 : wr.cell? ⟨g3, t * 13 + 5, none⟩ = some (.int .i64 o.l) := ha 5 _ (by omega) rfl
                have a6 : wr.cell? ⟨g3, t * 13 + 6, none⟩ = some (.int .i64 o.u) := ha 6 _ (by omega) rfl
                have a7 : wr.cell? ⟨g3, t * 13 + 7, none⟩ = some (.int .i64 o.q) := ha 7 _ (by omega) rfl
                have a8 : wr.cell? ⟨g3, t * 13 + 8, none⟩ = some (.int .i64 o.lf) := ha 8 _ (by omega) rfl
                have a9 : wr.cell? ⟨g3, t * 13 + 9, none⟩ = some (.int .i64 o.fl) := ha 9 _ (by omega) rfl
                have a10 : wr.cell? ⟨g3, t * 13 + 10, none⟩ = some (.bool o.ak) := ha 10 _ (by omega) rfl
                have a11 : wr.cell? ⟨g3, t * 13 + 11, none⟩ = some (.bool o.rs) := ha 11 _ (by omega) rfl
                have a12 : wr.cell? ⟨g3, t * 13 + 12, none⟩ = some (.int .i64 o.en) := ha 12 _ (by omega) rfl
                have HO := Lib.hid (order_is _ w (wr.alloc (.cells (List.toArray [.int .i64 o.c, .int .i64 o.g, .int .i64 o.n, .int .i64 o.s, .int .i64 o.p, .int .i64 o.l, .int .i64 o.u, .int .i64 o.q, .int .i64 o.lf, .int .i64 o.fl, .bool o.ak, .bool o.rs, .int .i64 o.en]) 44)) B K p c n b r f g now' v' os' o.c o.g ((HSC.out.below HBT.out).ms.below (by go_grown)) (by have := HLN.out; have := HQ.out; omega) j o hj (HIN.out.first hj).1 (HIN.out.first hj).2)
                have HBO := Lib.hid (show Bl wr.heap.size (oc o) (wr.alloc (.cells (List.toArray [.int .i64 o.c, .int .i64 o.g, .int .i64 o.n, .int .i64 o.s, .int .i64 o.p, .int .i64 o.l, .int .i64 o.u, .int .i64 o.q, .int .i64 o.lf, .int .i64 o.fl, .bool o.ak, .bool o.rs, .int .i64 o.en]) 44)) from Bl.new wr (oc o) 44)
                have HB1 := Lib.hid (show Below wr.heap.size wr (wr.alloc (.cells (List.toArray [.int .i64 o.c, .int .i64 o.g, .int .i64 o.n, .int .i64 o.s, .int .i64 o.p, .int .i64 o.l, .int .i64 o.u, .int .i64 o.q, .int .i64 o.lf, .int .i64 o.fl, .bool o.ak, .bool o.rs, .int .i64 o.en]) 44)) from by go_grown)
                clear ha hv3 hen hj ho
                go_wp2_with fail
                refine HO.out.mono ?_
                rintro e6 w6 ⟨rfl, hb6⟩
                have bO := HBO.out.below hb6
                have HB6 := Lib.hid (Below.step HBT.out (Below.step HB1.out hb6))
                have hx6 : wr.heap.size < w6.heap.size := bO.lt
                have b0 : w6.cell? ⟨wr.heap.size, 0, none⟩ = some (.int .i64 o.c) := bO.cell 0 _ rfl
                have b1 : w6.cell? ⟨wr.heap.size, 1, none⟩ = some (.int .i64 o.g) := bO.cell 1 _ rfl
                have b2 : w6.cell? ⟨wr.heap.size, 2, none⟩ = some (.int .i64 o.n) := bO.cell 2 _ rfl
                have b3 : w6.cell? ⟨wr.heap.size, 3, none⟩ = some (.int .i64 o.s) := bO.cell 3 _ rfl
                have b4 : w6.cell? ⟨wr.heap.size, 4, none⟩ = some (.int .i64 o.p) := bO.cell 4 _ rfl
                have b5 : w6.cell? ⟨wr.heap.size, 5, none⟩ = some (.int .i64 o.l) := bO.cell 5 _ rfl
                have b6 : w6.cell? ⟨wr.heap.size, 6, none⟩ = some (.int .i64 o.u) := bO.cell 6 _ rfl
                have b7 : w6.cell? ⟨wr.heap.size, 7, none⟩ = some (.int .i64 o.q) := bO.cell 7 _ rfl
                have b8 : w6.cell? ⟨wr.heap.size, 8, none⟩ = some (.int .i64 o.lf) := bO.cell 8 _ rfl
                have b9 : w6.cell? ⟨wr.heap.size, 9, none⟩ = some (.int .i64 o.fl) := bO.cell 9 _ rfl
                have b10 : w6.cell? ⟨wr.heap.size, 10, none⟩ = some (.bool o.ak) := bO.cell 10 _ rfl
                have b11 : w6.cell? ⟨wr.heap.size, 11, none⟩ = some (.bool o.rs) := bO.cell 11 _ rfl
                have b12 : w6.cell? ⟨wr.heap.size, 12, none⟩ = some (.int .i64 o.en) := bO.cell 12 _ rfl
                have heq := eqOrd o
                clear HO HBO HB1 hb6 bO a0 a1 a2 a3 a4 a5 a6 a7 a8 a9 a10 a11 a12
                generalize wr.heap.size = OB at *
                go_wp2_with fail
                go_roundw
                case rel => exact ⟨t + 1, by omega, by go_num, Lib.hid (HB6.out.alloc HB6.out.size _)⟩
                case measure => simp [intOf]; omega
              · obtain rfl : t = es.length := by omega
                have hd : decide ((es.length : Int) < (es.length : Int)) = false := decide_eq_false (by omega)
                have HSD := Lib.hid (HSC.out.below HBT.out)
                have HO := Lib.hid (orders_is _ w wr B K p c n b r f g now' v' os' HSD.out.ms (by have := HLN.out; have := HQ.out; omega))
                clear HSC HBT HOV
                go_wp2_with fail
                refine HO.out.mono ?_
                rintro e5 w5 ⟨v5, rfl, hr5, hb5⟩
                obtain ⟨A5, c5, rfl⟩ := own_shape hr5
                have HR5 := Lib.hid hr5
                have HSE := Lib.hid (HSD.out.below hb5)
                clear HO HSD hr5 hb5 hd
                obtain ⟨m, hm⟩ : ∃ m, m = os'.length := ⟨_, rfl⟩
                simp only [← hm] at HR5 ⊢
                have HMM := Lib.hid hm
                have m0 : (0 : Int) ≤ (m : Int) := by omega
                have m1 : (m : Int) ≤ 61 := by have := HLN.out; have := HQ.out; omega
                clear hm
                go_wp2_with fail
                go_loopw [9, 17, 96] (fun s9 _ i wr => ∃ (t : Nat) (ez : List Ord) (Az : Option Addr) (cz : Nat), t ≤ m ∧ i = .int .i64 (t : Int) ∧ s9 = .slice Az ez.length cz ∧ Hid (L3 w5 wr os' ez (.slice Az ez.length cz) t)) (fun _ _ i _ => m + 1 - (intOf i).toNat)
                case atStart => exact ⟨0, [], none, 0, Nat.zero_le _, rfl, rfl, Lib.hid ⟨Below.refl _ _, World.ownsRow_nil _ _ _ _, OverIn.nil _, Nat.le_refl _⟩⟩
                case round =>
                  obtain ⟨t, ez, Az, cz, ht, rfl, rfl, HL⟩ := hrel
                  have t0 : (0 : Int) ≤ (t : Int) := by omega
                  by_cases htx : t < m
                  · have t1 : (t : Int) < (m : Int) := by omega
                    obtain ⟨o, ho⟩ : ∃ o, os'[t]? = some o := ⟨_, List.getElem?_eq_getElem (by rw [← HMM.out]; exact htx)⟩
                    obtain ⟨g5, cp5, hv5, _, _⟩ := World.ownsRow.form HR5.out (by omega)
                    obtain ⟨rfl, rfl⟩ : A5 = some ⟨g5, 0, none⟩ ∧ cp5 = c5 := by
                      injection hv5 with h1 h2 h3
                      exact ⟨h1, h3.symm⟩
                    have ha : ∀ j u, j < 13 → (oc o)[j]? = some u → wr.cell? ⟨g5, t * 13 + j, none⟩ = some u := fun j u hj hu => row_cell (row_kept HR5.out HL.out.bel) ho HMM.out hj hu
                    have a0 : wr.cell? ⟨g5, t * 13, none⟩ = some (.int .i64 o.c) := ha 0 _ (by omega) rfl
                    have a1 : wr.cell? ⟨g5, t * 13 + 1, none⟩ = some (.int .i64 o.g) := ha 1 _ (by omega) rfl
                    have a2 : wr.cell? ⟨g5, t * 13 + 2, none⟩ = some (.int .i64 o.n) := ha 2 _ (by omega) rfl
                    have a3 : wr.cell? ⟨g5, t * 13 + 3, none⟩ = some (.int .i64 o.s) := ha 3 _ (by omega) rfl
                    have a4 : wr.cell? ⟨g5, t * 13 + 4, none⟩ = some (.int .i64 o.p) := ha 4 _ (by omega) rfl
                    have a5 : wr.cell? ⟨g5, t * 13 + 5, none⟩ = some (.int .i64 o.l) := ha 5 _ (by omega) rfl
                    have a6 : wr.cell? ⟨g5, t * 13 + 6, none⟩ = some (.int .i64 o.u) := ha 6 _ (by omega) rfl
                    have a7 : wr.cell? ⟨g5, t * 13 + 7, none⟩ = some (.int .i64 o.q) := ha 7 _ (by omega) rfl
                    have a8 : wr.cell? ⟨g5, t * 13 + 8, none⟩ = some (.int .i64 o.lf) := ha 8 _ (by omega) rfl
                    have a9 : wr.cell? ⟨g5, t * 13 + 9, none⟩ = some (.int .i64 o.fl) := ha 9 _ (by omega) rfl
                    have a10 : wr.cell? ⟨g5, t * 13 + 10, none⟩ = some (.bool o.ak) := ha 10 _ (by omega) rfl
                    have a11 : wr.cell? ⟨g5, t * 13 + 11, none⟩ = some (.bool o.rs) := ha 11 _ (by omega) rfl
                    have a12 : wr.cell? ⟨g5, t * 13 + 12, none⟩ = some (.int .i64 o.en) := ha 12 _ (by omega) rfl
                    clear ha hv5
                    have he : o.lf + d2 o.c o.g = o.q := HSU.out.eq t o ho
                    have hq9 := HSU.out.q t o ho
                    have hlf : 0 ≤ o.lf := (HIN.out.ok t o ho).lf0
                    have hfl : o.fl ≤ f := (HIN.out.ok t o ho).fl1
                    have HWF := Lib.hid (HWO.out t o ho)
                    have W1 : IntKind.i64.wrap (o.lf + d2 o.c o.g) = o.q := by rw [he]; exact IntWalk.i64_in _ (by omega)
                    have D1 : (o.q != o.q) = false := by simp
                    have D2 : decide (o.lf < 0) = false := decide_eq_false (by omega)
                    have D3 : decide (f < o.fl) = false := decide_eq_false (by omega)
                    have HO := Lib.hid ho
                    have HB1 := Lib.hid (show Below wr.heap.size wr (wr.alloc (.cells (List.toArray [.int .i64 o.c, .int .i64 o.g, .int .i64 o.n, .int .i64 o.s, .int .i64 o.p, .int .i64 o.l, .int .i64 o.u, .int .i64 o.q, .int .i64 o.lf, .int .i64 o.fl, .bool o.ak, .bool o.rs, .int .i64 o.en]) 44)) from by go_grown)
                    have HSF := Lib.hid ((HSE.out.below HL.out.bel).below HB1.out)
                    have HBO := Lib.hid (show Bl wr.heap.size (oc o) (wr.alloc (.cells (List.toArray [.int .i64 o.c, .int .i64 o.g, .int .i64 o.n, .int .i64 o.s, .int .i64 o.p, .int .i64 o.l, .int .i64 o.u, .int .i64 o.q, .int .i64 o.lf, .int .i64 o.fl, .bool o.ak, .bool o.rs, .int .i64 o.en]) 44)) from Bl.new wr (oc o) 44)
                    have HL7 := Lib.hid (show L3 w5 (wr.alloc (.cells (List.toArray [.int .i64 o.c, .int .i64 o.g, .int .i64 o.n, .int .i64 o.s, .int .i64 o.p, .int .i64 o.l, .int .i64 o.u, .int .i64 o.q, .int .i64 o.lf, .int .i64 o.fl, .bool o.ak, .bool o.rs, .int .i64 o.en]) 44)).drew os' ez (.slice Az ez.length cz) t from HL.out.move (Below.drew HB1.out))
                    have HLK := Lib.hid (fun (W : World) (hW : MapD W DB (2 * (q + 1)) d2) => hW.look HWF.out.1 HWF.out.2)
                    clear he hq9 hlf hfl ho
                    go_wp2_with fail
                    generalize (wr.alloc (.cells (List.toArray [.int .i64 o.c, .int .i64 o.g, .int .i64 o.n, .int .i64 o.s, .int .i64 o.p, .int .i64 o.l, .int .i64 o.u, .int .i64 o.q, .int .i64 o.lf, .int .i64 o.fl, .bool o.ak, .bool o.rs, .int .i64 o.en]) 44)) = W6 at *
                    generalize wr.heap.size = OB at *
                    clear a0 a1 a2 a3 a4 a5 a6 a7 a8 a9 a10 a11 a12
                    by_cases hen : o.en = 0
                    · have D12 : (o.en != 0) = false := by simp [hen]
                      clear hen
                      refine wp_region_held_drew (S := fun w' => Bl OB (oc o) w' ∧ Bl w.heap.size [.int .i64 p, .int .i64 c, .int .i64 n, .int .i64 b, .int .i64 r, .int .i64 f, .int .i64 g] w' ∧ MapD w' DB (2 * (q + 1)) d2) (by kernel_rfl) (show Bl OB (oc o) W6.drew ∧ Bl w.heap.size [.int .i64 p, .int .i64 c, .int .i64 n, .int .i64 b, .int .i64 r, .int .i64 f, .int .i64 g] W6.drew ∧ MapD W6.drew DB (2 * (q + 1)) d2 from ⟨HBO.out, by rw [← HCB.out]; exact HSF.out.cb, HSF.out.map⟩) (fun hHeld => ?_)
                      refine wpAnyH_take (i := 0) (oi := { dst := some 100, op := Op.fieldAddr 44 (Operand.tmp 17) 4, type := 0, pos := "law.go:122", after := #[], guard := none }) (v := ?_) rfl (by as_aux_lemma => kernel_rfl) (by as_aux_lemma => kernel_rfl) (by as_aux_lemma => kernel_rfl) (fun _ _ _ h => h) (Or.inl ⟨by rfl, ?_⟩) (by assumption) ?_
                      rotate_left
                      · intro wq hSw
                        go_simp
                        try with_reducible rfl
                      simp only [Act.put, List.setIfInBounds_toArray, List.set_cons_zero, List.set_cons_succ]
                      refine wpAnyH_take (i := 1) (oi := { dst := some 101, op := Op.load 3 (Operand.tmp 100), type := 3, pos := "law.go:122", after := #[{ on := 0, ground := Ground.data }], guard := none }) (v := ?_) rfl (by as_aux_lemma => kernel_rfl) (by as_aux_lemma => kernel_rfl) (by as_aux_lemma => kernel_rfl) (fun _ _ _ h => h) (Or.inl ⟨by rfl, ?_⟩) (by assumption) ?_
                      rotate_left
                      · intro wq hSw
                        have h1 : wq.cell? ⟨OB, 8, none⟩ = some (.int .i64 o.lf) := hSw.1.cell 8 _ rfl
                        go_simp
                        try with_reducible rfl
                      simp only [Act.put, List.setIfInBounds_toArray, List.set_cons_zero, List.set_cons_succ]
                      refine wpAnyH_take (i := 2) (oi := { dst := some 102, op := Op.move (Operand.tmp 8), type := 34, pos := "law.go:122", after := #[], guard := none }) (v := ?_) rfl (by as_aux_lemma => kernel_rfl) (by as_aux_lemma => kernel_rfl) (by as_aux_lemma => kernel_rfl) (fun _ _ _ h => h) (Or.inl ⟨by rfl, ?_⟩) (by assumption) ?_
                      rotate_left
                      · intro wq hSw
                        go_simp
                        try with_reducible rfl
                      simp only [Act.put, List.setIfInBounds_toArray, List.set_cons_zero, List.set_cons_succ]
                      refine wpAnyH_take (i := 3) (oi := { dst := some 103, op := Op.fieldAddr 44 (Operand.tmp 17) 0, type := 0, pos := "law.go:122", after := #[], guard := none }) (v := ?_) rfl (by as_aux_lemma => kernel_rfl) (by as_aux_lemma => kernel_rfl) (by as_aux_lemma => kernel_rfl) (fun _ _ _ h => h) (Or.inl ⟨by rfl, ?_⟩) (by assumption) ?_
                      rotate_left
                      · intro wq hSw
                        go_simp
                        try with_reducible rfl
                      simp only [Act.put, List.setIfInBounds_toArray, List.set_cons_zero, List.set_cons_succ]
                      refine wpAnyH_take (i := 4) (oi := { dst := some 104, op := Op.load 3 (Operand.tmp 103), type := 3, pos := "law.go:122", after := #[{ on := 3, ground := Ground.data }], guard := none }) (v := ?_) rfl (by as_aux_lemma => kernel_rfl) (by as_aux_lemma => kernel_rfl) (by as_aux_lemma => kernel_rfl) (fun _ _ _ h => h) (Or.inl ⟨by rfl, ?_⟩) (by assumption) ?_
                      rotate_left
                      · intro wq hSw
                        have h1 : wq.cell? ⟨OB, 0, none⟩ = some (.int .i64 o.c) := hSw.1.cell 0 _ rfl
                        go_simp
                        try with_reducible rfl
                      simp only [Act.put, List.setIfInBounds_toArray, List.set_cons_zero, List.set_cons_succ]
                      refine wpAnyH_take (i := 5) (oi := { dst := some 105, op := Op.fieldAddr 44 (Operand.tmp 17) 1, type := 0, pos := "law.go:122", after := #[], guard := none }) (v := ?_) rfl (by as_aux_lemma => kernel_rfl) (by as_aux_lemma => kernel_rfl) (by as_aux_lemma => kernel_rfl) (fun _ _ _ h => h) (Or.inl ⟨by rfl, ?_⟩) (by assumption) ?_
                      rotate_left
                      · intro wq hSw
                        go_simp
                        try with_reducible rfl
                      simp only [Act.put, List.setIfInBounds_toArray, List.set_cons_zero, List.set_cons_succ]
                      refine wpAnyH_take (i := 6) (oi := { dst := some 106, op := Op.load 3 (Operand.tmp 105), type := 3, pos := "law.go:122", after := #[{ on := 5, ground := Ground.data }], guard := none }) (v := ?_) rfl (by as_aux_lemma => kernel_rfl) (by as_aux_lemma => kernel_rfl) (by as_aux_lemma => kernel_rfl) (fun _ _ _ h => h) (Or.inl ⟨by rfl, ?_⟩) (by assumption) ?_
                      rotate_left
                      · intro wq hSw
                        have h1 : wq.cell? ⟨OB, 1, none⟩ = some (.int .i64 o.g) := hSw.1.cell 1 _ rfl
                        go_simp
                        try with_reducible rfl
                      simp only [Act.put, List.setIfInBounds_toArray, List.set_cons_zero, List.set_cons_succ]
                      refine wpAnyH_take (i := 7) (oi := { dst := some 107, op := Op.build 42 #[(0, Operand.tmp 104), (1, Operand.tmp 106)], type := 42, pos := "law.go:122", after := #[{ on := 4, ground := Ground.data }, { on := 6, ground := Ground.data }], guard := none }) (v := ?_) rfl (by as_aux_lemma => kernel_rfl) (by as_aux_lemma => kernel_rfl) (by as_aux_lemma => kernel_rfl) (fun _ _ _ h => h) (Or.inl ⟨by rfl, ?_⟩) (by assumption) ?_
                      rotate_left
                      · intro wq hSw
                        go_simp
                        try with_reducible rfl
                      simp only [Act.put, List.setIfInBounds_toArray, List.set_cons_zero, List.set_cons_succ]
                      refine wpAnyH_take (i := 8) (oi := { dst := some 108, op := Op.lookup 34 (Operand.tmp 102) (Operand.tmp 107) false, type := 3, pos := "law.go:122", after := #[{ on := 2, ground := Ground.data }, { on := 7, ground := Ground.data }], guard := none }) (v := ?_) rfl (by as_aux_lemma => kernel_rfl) (by as_aux_lemma => kernel_rfl) (by as_aux_lemma => kernel_rfl) (fun _ _ _ h => h) (Or.inl ⟨by rfl, ?_⟩) (by assumption) ?_
                      rotate_left
                      · intro wq hSw
                        have h1 : (Instr.lookup 34 (.map (some DB)) (.agg #[.int .i64 o.c, .int .i64 o.g]) false).run Try.prog wq = .ok (.int .i64 (d2 o.c o.g)) wq := HLK.out wq hSw.2.2
                        go_simp
                        try with_reducible rfl
                      simp only [Act.put, List.setIfInBounds_toArray, List.set_cons_zero, List.set_cons_succ]
                      refine wpAnyH_take (i := 9) (oi := { dst := some 109, op := Op.binOp BinOp.add 3 (Operand.tmp 101) (Operand.tmp 108) 3, type := 3, pos := "law.go:122", after := #[{ on := 1, ground := Ground.data }, { on := 8, ground := Ground.data }], guard := none }) (v := .int .i64 o.q) rfl (by as_aux_lemma => kernel_rfl) (by as_aux_lemma => kernel_rfl) (by as_aux_lemma => kernel_rfl) (fun _ _ _ h => h) (Or.inl ⟨by rfl, ?_⟩) (by assumption) ?_
                      · intro wq hSw
                        go_simp
                        try with_reducible rfl
                      simp only [Act.put, List.setIfInBounds_toArray, List.set_cons_zero, List.set_cons_succ]
                      refine wpAnyH_take (i := 10) (oi := { dst := some 110, op := Op.fieldAddr 44 (Operand.tmp 17) 3, type := 0, pos := "law.go:122", after := #[], guard := none }) (v := ?_) rfl (by as_aux_lemma => kernel_rfl) (by as_aux_lemma => kernel_rfl) (by as_aux_lemma => kernel_rfl) (fun _ _ _ h => h) (Or.inl ⟨by rfl, ?_⟩) (by assumption) ?_
                      rotate_left
                      · intro wq hSw
                        go_simp
                        try with_reducible rfl
                      simp only [Act.put, List.setIfInBounds_toArray, List.set_cons_zero, List.set_cons_succ]
                      refine wpAnyH_take (i := 11) (oi := { dst := some 111, op := Op.load 3 (Operand.tmp 110), type := 3, pos := "law.go:122", after := #[{ on := 10, ground := Ground.data }], guard := none }) (v := ?_) rfl (by as_aux_lemma => kernel_rfl) (by as_aux_lemma => kernel_rfl) (by as_aux_lemma => kernel_rfl) (fun _ _ _ h => h) (Or.inl ⟨by rfl, ?_⟩) (by assumption) ?_
                      rotate_left
                      · intro wq hSw
                        have h1 : wq.cell? ⟨OB, 7, none⟩ = some (.int .i64 o.q) := hSw.1.cell 7 _ rfl
                        go_simp
                        try with_reducible rfl
                      simp only [Act.put, List.setIfInBounds_toArray, List.set_cons_zero, List.set_cons_succ]
                      refine wpAnyH_take (i := 12) (oi := { dst := some 112, op := Op.binOp BinOp.neq 3 (Operand.tmp 109) (Operand.tmp 111) 3, type := 4, pos := "law.go:122", after := #[{ on := 9, ground := Ground.data }, { on := 11, ground := Ground.data }], guard := none }) (v := .bool false) rfl (by as_aux_lemma => kernel_rfl) (by as_aux_lemma => kernel_rfl) (by as_aux_lemma => kernel_rfl) (fun _ _ _ h => h) (Or.inl ⟨by rfl, ?_⟩) (by assumption) ?_
                      · intro wq hSw
                        go_simp
                        try with_reducible rfl
                      simp only [Act.put, List.setIfInBounds_toArray, List.set_cons_zero, List.set_cons_succ]
                      refine wpAnyH_take (i := 13) (oi := { dst := some 113, op := Op.move (Operand.tmp 112), type := 4, pos := "law.go:122", after := #[{ on := 12, ground := Ground.data }], guard := none }) (v := .bool false) rfl (by as_aux_lemma => kernel_rfl) (by as_aux_lemma => kernel_rfl) (by as_aux_lemma => kernel_rfl) (fun _ _ _ h => h) (Or.inl ⟨by rfl, ?_⟩) (by assumption) ?_
                      · intro wq hSw
                        go_simp
                        try with_reducible rfl
                      simp only [Act.put, List.setIfInBounds_toArray, List.set_cons_zero, List.set_cons_succ]
                      refine wpAnyH_take (i := 14) (oi := { dst := some 114, op := Op.fieldAddr 44 (Operand.tmp 17) 4, type := 0, pos := "law.go:122", after := #[{ on := 13, ground := Ground.guard }], guard := some (13, false) }) (v := ?_) rfl (by as_aux_lemma => kernel_rfl) (by as_aux_lemma => kernel_rfl) (by as_aux_lemma => kernel_rfl) (fun _ _ _ h => h) (Or.inl ⟨by rfl, ?_⟩) (by assumption) ?_
                      rotate_left
                      · intro wq hSw
                        go_simp
                        try with_reducible rfl
                      simp only [Act.put, List.setIfInBounds_toArray, List.set_cons_zero, List.set_cons_succ]
                      refine wpAnyH_take (i := 15) (oi := { dst := some 115, op := Op.load 3 (Operand.tmp 114), type := 3, pos := "law.go:122", after := #[{ on := 14, ground := Ground.data }, { on := 13, ground := Ground.guard }], guard := some (13, false) }) (v := ?_) rfl (by as_aux_lemma => kernel_rfl) (by as_aux_lemma => kernel_rfl) (by as_aux_lemma => kernel_rfl) (fun _ _ _ h => h) (Or.inl ⟨by rfl, ?_⟩) (by assumption) ?_
                      rotate_left
                      · intro wq hSw
                        have h1 : wq.cell? ⟨OB, 8, none⟩ = some (.int .i64 o.lf) := hSw.1.cell 8 _ rfl
                        go_simp
                        try with_reducible rfl
                      simp only [Act.put, List.setIfInBounds_toArray, List.set_cons_zero, List.set_cons_succ]
                      refine wpAnyH_take (i := 16) (oi := { dst := some 116, op := Op.binOp BinOp.lss 3 (Operand.tmp 115) (Operand.const (Value.int IntKind.i64 0)) 3, type := 4, pos := "law.go:122", after := #[{ on := 15, ground := Ground.data }, { on := 13, ground := Ground.guard }], guard := some (13, false) }) (v := .bool false) rfl (by as_aux_lemma => kernel_rfl) (by as_aux_lemma => kernel_rfl) (by as_aux_lemma => kernel_rfl) (fun _ _ _ h => h) (Or.inl ⟨by rfl, ?_⟩) (by assumption) ?_
                      · intro wq hSw
                        go_simp
                        try with_reducible rfl
                      simp only [Act.put, List.setIfInBounds_toArray, List.set_cons_zero, List.set_cons_succ]
                      refine wpAnyH_take (i := 17) (oi := { dst := some 117, op := Op.pick (Operand.tmp 113) (Operand.const (Value.bool true)) (Operand.tmp 116), type := 4, pos := "law.go:122", after := #[{ on := 13, ground := Ground.data }, { on := 16, ground := Ground.data }], guard := none }) (v := .bool false) rfl (by as_aux_lemma => kernel_rfl) (by as_aux_lemma => kernel_rfl) (by as_aux_lemma => kernel_rfl) (fun _ _ _ h => h) (Or.inl ⟨by rfl, ?_⟩) (by assumption) ?_
                      · intro wq hSw
                        go_simp
                        try with_reducible rfl
                      simp only [Act.put, List.setIfInBounds_toArray, List.set_cons_zero, List.set_cons_succ]
                      refine wpAnyH_take (i := 18) (oi := { dst := some 118, op := Op.move (Operand.tmp 117), type := 4, pos := "law.go:122", after := #[{ on := 17, ground := Ground.data }, { on := 13, ground := Ground.chain }], guard := none }) (v := .bool false) rfl (by as_aux_lemma => kernel_rfl) (by as_aux_lemma => kernel_rfl) (by as_aux_lemma => kernel_rfl) (fun _ _ _ h => h) (Or.inl ⟨by rfl, ?_⟩) (by assumption) ?_
                      · intro wq hSw
                        go_simp
                        try with_reducible rfl
                      simp only [Act.put, List.setIfInBounds_toArray, List.set_cons_zero, List.set_cons_succ]
                      refine wpAnyH_take (i := 19) (oi := { dst := some 119, op := Op.fieldAddr 44 (Operand.tmp 17) 5, type := 0, pos := "law.go:122", after := #[{ on := 18, ground := Ground.guard }], guard := some (18, false) }) (v := ?_) rfl (by as_aux_lemma => kernel_rfl) (by as_aux_lemma => kernel_rfl) (by as_aux_lemma => kernel_rfl) (fun _ _ _ h => h) (Or.inl ⟨by rfl, ?_⟩) (by assumption) ?_
                      rotate_left
                      · intro wq hSw
                        go_simp
                        try with_reducible rfl
                      simp only [Act.put, List.setIfInBounds_toArray, List.set_cons_zero, List.set_cons_succ]
                      refine wpAnyH_take (i := 20) (oi := { dst := some 120, op := Op.load 3 (Operand.tmp 119), type := 3, pos := "law.go:122", after := #[{ on := 19, ground := Ground.data }, { on := 18, ground := Ground.guard }], guard := some (18, false) }) (v := ?_) rfl (by as_aux_lemma => kernel_rfl) (by as_aux_lemma => kernel_rfl) (by as_aux_lemma => kernel_rfl) (fun _ _ _ h => h) (Or.inl ⟨by rfl, ?_⟩) (by assumption) ?_
                      rotate_left
                      · intro wq hSw
                        have h1 : wq.cell? ⟨OB, 9, none⟩ = some (.int .i64 o.fl) := hSw.1.cell 9 _ rfl
                        go_simp
                        try with_reducible rfl
                      simp only [Act.put, List.setIfInBounds_toArray, List.set_cons_zero, List.set_cons_succ]
                      refine wpAnyH_take (i := 21) (oi := { dst := some 121, op := Op.fieldAddr 23 (Operand.tmp 2) 5, type := 0, pos := "law.go:122", after := #[{ on := 18, ground := Ground.guard }], guard := some (18, false) }) (v := ?_) rfl (by as_aux_lemma => kernel_rfl) (by as_aux_lemma => kernel_rfl) (by as_aux_lemma => kernel_rfl) (fun _ _ _ h => h) (Or.inl ⟨by rfl, ?_⟩) (by assumption) ?_
                      rotate_left
                      · intro wq hSw
                        go_simp
                        try with_reducible rfl
                      simp only [Act.put, List.setIfInBounds_toArray, List.set_cons_zero, List.set_cons_succ]
                      refine wpAnyH_take (i := 22) (oi := { dst := some 122, op := Op.load 3 (Operand.tmp 121), type := 3, pos := "law.go:122", after := #[{ on := 21, ground := Ground.data }, { on := 18, ground := Ground.guard }], guard := some (18, false) }) (v := ?_) rfl (by as_aux_lemma => kernel_rfl) (by as_aux_lemma => kernel_rfl) (by as_aux_lemma => kernel_rfl) (fun _ _ _ h => h) (Or.inl ⟨by rfl, ?_⟩) (by assumption) ?_
                      rotate_left
                      · intro wq hSw
                        have h1 : wq.cell? ⟨w.heap.size, 5, none⟩ = some (.int .i64 f) := hSw.2.1.cell 5 _ rfl
                        go_simp
                        try with_reducible rfl
                      simp only [Act.put, List.setIfInBounds_toArray, List.set_cons_zero, List.set_cons_succ]
                      refine wpAnyH_take (i := 23) (oi := { dst := some 123, op := Op.binOp BinOp.gtr 3 (Operand.tmp 120) (Operand.tmp 122) 3, type := 4, pos := "law.go:122", after := #[{ on := 20, ground := Ground.data }, { on := 22, ground := Ground.data }, { on := 18, ground := Ground.guard }], guard := some (18, false) }) (v := .bool false) rfl (by as_aux_lemma => kernel_rfl) (by as_aux_lemma => kernel_rfl) (by as_aux_lemma => kernel_rfl) (fun _ _ _ h => h) (Or.inl ⟨by rfl, ?_⟩) (by assumption) ?_
                      · intro wq hSw
                        go_simp
                        try with_reducible rfl
                      simp only [Act.put, List.setIfInBounds_toArray, List.set_cons_zero, List.set_cons_succ]
                      refine wpAnyH_take (i := 24) (oi := { dst := some 124, op := Op.pick (Operand.tmp 118) (Operand.const (Value.bool true)) (Operand.tmp 123), type := 4, pos := "law.go:122", after := #[{ on := 18, ground := Ground.data }, { on := 23, ground := Ground.data }], guard := none }) (v := .bool false) rfl (by as_aux_lemma => kernel_rfl) (by as_aux_lemma => kernel_rfl) (by as_aux_lemma => kernel_rfl) (fun _ _ _ h => h) (Or.inl ⟨by rfl, ?_⟩) (by assumption) ?_
                      · intro wq hSw
                        go_simp
                        try with_reducible rfl
                      simp only [Act.put, List.setIfInBounds_toArray, List.set_cons_zero, List.set_cons_succ]
                      refine wpAnyH_done (by as_aux_lemma => kernel_rfl) ?_ _
                      have bO := show Bl OB (oc o) W6.drew from HBO.out
                      have f12 : W6.drew.cell? ⟨OB, 12, none⟩ = some (.int .i64 o.en) := bO.cell 12 _ rfl
                      clear bO HBO HSF HB1 HLK
                      generalize W6.drew = W7 at *
                      go_wp2_with fail
                      go_roundw
                      case rel => exact ⟨t + 1, ez, Az, cz, by omega, by go_num, rfl, Lib.hid HL7.out.up⟩
                      case measure => simp [intOf]; omega
                    · have D12 : (o.en != 0) = true := by simpa using hen
                      have HEN := Lib.hid hen
                      clear hen
                      refine wp_region_held_drew (S := fun w' => Bl OB (oc o) w' ∧ Bl w.heap.size [.int .i64 p, .int .i64 c, .int .i64 n, .int .i64 b, .int .i64 r, .int .i64 f, .int .i64 g] w' ∧ MapD w' DB (2 * (q + 1)) d2) (by kernel_rfl) (show Bl OB (oc o) W6.drew ∧ Bl w.heap.size [.int .i64 p, .int .i64 c, .int .i64 n, .int .i64 b, .int .i64 r, .int .i64 f, .int .i64 g] W6.drew ∧ MapD W6.drew DB (2 * (q + 1)) d2 from ⟨HBO.out, by rw [← HCB.out]; exact HSF.out.cb, HSF.out.map⟩) (fun hHeld => ?_)
                      refine wpAnyH_take (i := 0) (oi := { dst := some 100, op := Op.fieldAddr 44 (Operand.tmp 17) 4, type := 0, pos := "law.go:122", after := #[], guard := none }) (v := ?_) rfl (by as_aux_lemma => kernel_rfl) (by as_aux_lemma => kernel_rfl) (by as_aux_lemma => kernel_rfl) (fun _ _ _ h => h) (Or.inl ⟨by rfl, ?_⟩) (by assumption) ?_
                      rotate_left
                      · intro wq hSw
                        go_simp
                        try with_reducible rfl
                      simp only [Act.put, List.setIfInBounds_toArray, List.set_cons_zero, List.set_cons_succ]
                      refine wpAnyH_take (i := 1) (oi := { dst := some 101, op := Op.load 3 (Operand.tmp 100), type := 3, pos := "law.go:122", after := #[{ on := 0, ground := Ground.data }], guard := none }) (v := ?_) rfl (by as_aux_lemma => kernel_rfl) (by as_aux_lemma => kernel_rfl) (by as_aux_lemma => kernel_rfl) (fun _ _ _ h => h) (Or.inl ⟨by rfl, ?_⟩) (by assumption) ?_
                      rotate_left
                      · intro wq hSw
                        have h1 : wq.cell? ⟨OB, 8, none⟩ = some (.int .i64 o.lf) := hSw.1.cell 8 _ rfl
                        go_simp
                        try with_reducible rfl
                      simp only [Act.put, List.setIfInBounds_toArray, List.set_cons_zero, List.set_cons_succ]
                      refine wpAnyH_take (i := 2) (oi := { dst := some 102, op := Op.move (Operand.tmp 8), type := 34, pos := "law.go:122", after := #[], guard := none }) (v := ?_) rfl (by as_aux_lemma => kernel_rfl) (by as_aux_lemma => kernel_rfl) (by as_aux_lemma => kernel_rfl) (fun _ _ _ h => h) (Or.inl ⟨by rfl, ?_⟩) (by assumption) ?_
                      rotate_left
                      · intro wq hSw
                        go_simp
                        try with_reducible rfl
                      simp only [Act.put, List.setIfInBounds_toArray, List.set_cons_zero, List.set_cons_succ]
                      refine wpAnyH_take (i := 3) (oi := { dst := some 103, op := Op.fieldAddr 44 (Operand.tmp 17) 0, type := 0, pos := "law.go:122", after := #[], guard := none }) (v := ?_) rfl (by as_aux_lemma => kernel_rfl) (by as_aux_lemma => kernel_rfl) (by as_aux_lemma => kernel_rfl) (fun _ _ _ h => h) (Or.inl ⟨by rfl, ?_⟩) (by assumption) ?_
                      rotate_left
                      · intro wq hSw
                        go_simp
                        try with_reducible rfl
                      simp only [Act.put, List.setIfInBounds_toArray, List.set_cons_zero, List.set_cons_succ]
                      refine wpAnyH_take (i := 4) (oi := { dst := some 104, op := Op.load 3 (Operand.tmp 103), type := 3, pos := "law.go:122", after := #[{ on := 3, ground := Ground.data }], guard := none }) (v := ?_) rfl (by as_aux_lemma => kernel_rfl) (by as_aux_lemma => kernel_rfl) (by as_aux_lemma => kernel_rfl) (fun _ _ _ h => h) (Or.inl ⟨by rfl, ?_⟩) (by assumption) ?_
                      rotate_left
                      · intro wq hSw
                        have h1 : wq.cell? ⟨OB, 0, none⟩ = some (.int .i64 o.c) := hSw.1.cell 0 _ rfl
                        go_simp
                        try with_reducible rfl
                      simp only [Act.put, List.setIfInBounds_toArray, List.set_cons_zero, List.set_cons_succ]
                      refine wpAnyH_take (i := 5) (oi := { dst := some 105, op := Op.fieldAddr 44 (Operand.tmp 17) 1, type := 0, pos := "law.go:122", after := #[], guard := none }) (v := ?_) rfl (by as_aux_lemma => kernel_rfl) (by as_aux_lemma => kernel_rfl) (by as_aux_lemma => kernel_rfl) (fun _ _ _ h => h) (Or.inl ⟨by rfl, ?_⟩) (by assumption) ?_
                      rotate_left
                      · intro wq hSw
                        go_simp
                        try with_reducible rfl
                      simp only [Act.put, List.setIfInBounds_toArray, List.set_cons_zero, List.set_cons_succ]
                      refine wpAnyH_take (i := 6) (oi := { dst := some 106, op := Op.load 3 (Operand.tmp 105), type := 3, pos := "law.go:122", after := #[{ on := 5, ground := Ground.data }], guard := none }) (v := ?_) rfl (by as_aux_lemma => kernel_rfl) (by as_aux_lemma => kernel_rfl) (by as_aux_lemma => kernel_rfl) (fun _ _ _ h => h) (Or.inl ⟨by rfl, ?_⟩) (by assumption) ?_
                      rotate_left
                      · intro wq hSw
                        have h1 : wq.cell? ⟨OB, 1, none⟩ = some (.int .i64 o.g) := hSw.1.cell 1 _ rfl
                        go_simp
                        try with_reducible rfl
                      simp only [Act.put, List.setIfInBounds_toArray, List.set_cons_zero, List.set_cons_succ]
                      refine wpAnyH_take (i := 7) (oi := { dst := some 107, op := Op.build 42 #[(0, Operand.tmp 104), (1, Operand.tmp 106)], type := 42, pos := "law.go:122", after := #[{ on := 4, ground := Ground.data }, { on := 6, ground := Ground.data }], guard := none }) (v := ?_) rfl (by as_aux_lemma => kernel_rfl) (by as_aux_lemma => kernel_rfl) (by as_aux_lemma => kernel_rfl) (fun _ _ _ h => h) (Or.inl ⟨by rfl, ?_⟩) (by assumption) ?_
                      rotate_left
                      · intro wq hSw
                        go_simp
                        try with_reducible rfl
                      simp only [Act.put, List.setIfInBounds_toArray, List.set_cons_zero, List.set_cons_succ]
                      refine wpAnyH_take (i := 8) (oi := { dst := some 108, op := Op.lookup 34 (Operand.tmp 102) (Operand.tmp 107) false, type := 3, pos := "law.go:122", after := #[{ on := 2, ground := Ground.data }, { on := 7, ground := Ground.data }], guard := none }) (v := ?_) rfl (by as_aux_lemma => kernel_rfl) (by as_aux_lemma => kernel_rfl) (by as_aux_lemma => kernel_rfl) (fun _ _ _ h => h) (Or.inl ⟨by rfl, ?_⟩) (by assumption) ?_
                      rotate_left
                      · intro wq hSw
                        have h1 : (Instr.lookup 34 (.map (some DB)) (.agg #[.int .i64 o.c, .int .i64 o.g]) false).run Try.prog wq = .ok (.int .i64 (d2 o.c o.g)) wq := HLK.out wq hSw.2.2
                        go_simp
                        try with_reducible rfl
                      simp only [Act.put, List.setIfInBounds_toArray, List.set_cons_zero, List.set_cons_succ]
                      refine wpAnyH_take (i := 9) (oi := { dst := some 109, op := Op.binOp BinOp.add 3 (Operand.tmp 101) (Operand.tmp 108) 3, type := 3, pos := "law.go:122", after := #[{ on := 1, ground := Ground.data }, { on := 8, ground := Ground.data }], guard := none }) (v := .int .i64 o.q) rfl (by as_aux_lemma => kernel_rfl) (by as_aux_lemma => kernel_rfl) (by as_aux_lemma => kernel_rfl) (fun _ _ _ h => h) (Or.inl ⟨by rfl, ?_⟩) (by assumption) ?_
                      · intro wq hSw
                        go_simp
                        try with_reducible rfl
                      simp only [Act.put, List.setIfInBounds_toArray, List.set_cons_zero, List.set_cons_succ]
                      refine wpAnyH_take (i := 10) (oi := { dst := some 110, op := Op.fieldAddr 44 (Operand.tmp 17) 3, type := 0, pos := "law.go:122", after := #[], guard := none }) (v := ?_) rfl (by as_aux_lemma => kernel_rfl) (by as_aux_lemma => kernel_rfl) (by as_aux_lemma => kernel_rfl) (fun _ _ _ h => h) (Or.inl ⟨by rfl, ?_⟩) (by assumption) ?_
                      rotate_left
                      · intro wq hSw
                        go_simp
                        try with_reducible rfl
                      simp only [Act.put, List.setIfInBounds_toArray, List.set_cons_zero, List.set_cons_succ]
                      refine wpAnyH_take (i := 11) (oi := { dst := some 111, op := Op.load 3 (Operand.tmp 110), type := 3, pos := "law.go:122", after := #[{ on := 10, ground := Ground.data }], guard := none }) (v := ?_) rfl (by as_aux_lemma => kernel_rfl) (by as_aux_lemma => kernel_rfl) (by as_aux_lemma => kernel_rfl) (fun _ _ _ h => h) (Or.inl ⟨by rfl, ?_⟩) (by assumption) ?_
                      rotate_left
                      · intro wq hSw
                        have h1 : wq.cell? ⟨OB, 7, none⟩ = some (.int .i64 o.q) := hSw.1.cell 7 _ rfl
                        go_simp
                        try with_reducible rfl
                      simp only [Act.put, List.setIfInBounds_toArray, List.set_cons_zero, List.set_cons_succ]
                      refine wpAnyH_take (i := 12) (oi := { dst := some 112, op := Op.binOp BinOp.neq 3 (Operand.tmp 109) (Operand.tmp 111) 3, type := 4, pos := "law.go:122", after := #[{ on := 9, ground := Ground.data }, { on := 11, ground := Ground.data }], guard := none }) (v := .bool false) rfl (by as_aux_lemma => kernel_rfl) (by as_aux_lemma => kernel_rfl) (by as_aux_lemma => kernel_rfl) (fun _ _ _ h => h) (Or.inl ⟨by rfl, ?_⟩) (by assumption) ?_
                      · intro wq hSw
                        go_simp
                        try with_reducible rfl
                      simp only [Act.put, List.setIfInBounds_toArray, List.set_cons_zero, List.set_cons_succ]
                      refine wpAnyH_take (i := 13) (oi := { dst := some 113, op := Op.move (Operand.tmp 112), type := 4, pos := "law.go:122", after := #[{ on := 12, ground := Ground.data }], guard := none }) (v := .bool false) rfl (by as_aux_lemma => kernel_rfl) (by as_aux_lemma => kernel_rfl) (by as_aux_lemma => kernel_rfl) (fun _ _ _ h => h) (Or.inl ⟨by rfl, ?_⟩) (by assumption) ?_
                      · intro wq hSw
                        go_simp
                        try with_reducible rfl
                      simp only [Act.put, List.setIfInBounds_toArray, List.set_cons_zero, List.set_cons_succ]
                      refine wpAnyH_take (i := 14) (oi := { dst := some 114, op := Op.fieldAddr 44 (Operand.tmp 17) 4, type := 0, pos := "law.go:122", after := #[{ on := 13, ground := Ground.guard }], guard := some (13, false) }) (v := ?_) rfl (by as_aux_lemma => kernel_rfl) (by as_aux_lemma => kernel_rfl) (by as_aux_lemma => kernel_rfl) (fun _ _ _ h => h) (Or.inl ⟨by rfl, ?_⟩) (by assumption) ?_
                      rotate_left
                      · intro wq hSw
                        go_simp
                        try with_reducible rfl
                      simp only [Act.put, List.setIfInBounds_toArray, List.set_cons_zero, List.set_cons_succ]
                      refine wpAnyH_take (i := 15) (oi := { dst := some 115, op := Op.load 3 (Operand.tmp 114), type := 3, pos := "law.go:122", after := #[{ on := 14, ground := Ground.data }, { on := 13, ground := Ground.guard }], guard := some (13, false) }) (v := ?_) rfl (by as_aux_lemma => kernel_rfl) (by as_aux_lemma => kernel_rfl) (by as_aux_lemma => kernel_rfl) (fun _ _ _ h => h) (Or.inl ⟨by rfl, ?_⟩) (by assumption) ?_
                      rotate_left
                      · intro wq hSw
                        have h1 : wq.cell? ⟨OB, 8, none⟩ = some (.int .i64 o.lf) := hSw.1.cell 8 _ rfl
                        go_simp
                        try with_reducible rfl
                      simp only [Act.put, List.setIfInBounds_toArray, List.set_cons_zero, List.set_cons_succ]
                      refine wpAnyH_take (i := 16) (oi := { dst := some 116, op := Op.binOp BinOp.lss 3 (Operand.tmp 115) (Operand.const (Value.int IntKind.i64 0)) 3, type := 4, pos := "law.go:122", after := #[{ on := 15, ground := Ground.data }, { on := 13, ground := Ground.guard }], guard := some (13, false) }) (v := .bool false) rfl (by as_aux_lemma => kernel_rfl) (by as_aux_lemma => kernel_rfl) (by as_aux_lemma => kernel_rfl) (fun _ _ _ h => h) (Or.inl ⟨by rfl, ?_⟩) (by assumption) ?_
                      · intro wq hSw
                        go_simp
                        try with_reducible rfl
                      simp only [Act.put, List.setIfInBounds_toArray, List.set_cons_zero, List.set_cons_succ]
                      refine wpAnyH_take (i := 17) (oi := { dst := some 117, op := Op.pick (Operand.tmp 113) (Operand.const (Value.bool true)) (Operand.tmp 116), type := 4, pos := "law.go:122", after := #[{ on := 13, ground := Ground.data }, { on := 16, ground := Ground.data }], guard := none }) (v := .bool false) rfl (by as_aux_lemma => kernel_rfl) (by as_aux_lemma => kernel_rfl) (by as_aux_lemma => kernel_rfl) (fun _ _ _ h => h) (Or.inl ⟨by rfl, ?_⟩) (by assumption) ?_
                      · intro wq hSw
                        go_simp
                        try with_reducible rfl
                      simp only [Act.put, List.setIfInBounds_toArray, List.set_cons_zero, List.set_cons_succ]
                      refine wpAnyH_take (i := 18) (oi := { dst := some 118, op := Op.move (Operand.tmp 117), type := 4, pos := "law.go:122", after := #[{ on := 17, ground := Ground.data }, { on := 13, ground := Ground.chain }], guard := none }) (v := .bool false) rfl (by as_aux_lemma => kernel_rfl) (by as_aux_lemma => kernel_rfl) (by as_aux_lemma => kernel_rfl) (fun _ _ _ h => h) (Or.inl ⟨by rfl, ?_⟩) (by assumption) ?_
                      · intro wq hSw
                        go_simp
                        try with_reducible rfl
                      simp only [Act.put, List.setIfInBounds_toArray, List.set_cons_zero, List.set_cons_succ]
                      refine wpAnyH_take (i := 19) (oi := { dst := some 119, op := Op.fieldAddr 44 (Operand.tmp 17) 5, type := 0, pos := "law.go:122", after := #[{ on := 18, ground := Ground.guard }], guard := some (18, false) }) (v := ?_) rfl (by as_aux_lemma => kernel_rfl) (by as_aux_lemma => kernel_rfl) (by as_aux_lemma => kernel_rfl) (fun _ _ _ h => h) (Or.inl ⟨by rfl, ?_⟩) (by assumption) ?_
                      rotate_left
                      · intro wq hSw
                        go_simp
                        try with_reducible rfl
                      simp only [Act.put, List.setIfInBounds_toArray, List.set_cons_zero, List.set_cons_succ]
                      refine wpAnyH_take (i := 20) (oi := { dst := some 120, op := Op.load 3 (Operand.tmp 119), type := 3, pos := "law.go:122", after := #[{ on := 19, ground := Ground.data }, { on := 18, ground := Ground.guard }], guard := some (18, false) }) (v := ?_) rfl (by as_aux_lemma => kernel_rfl) (by as_aux_lemma => kernel_rfl) (by as_aux_lemma => kernel_rfl) (fun _ _ _ h => h) (Or.inl ⟨by rfl, ?_⟩) (by assumption) ?_
                      rotate_left
                      · intro wq hSw
                        have h1 : wq.cell? ⟨OB, 9, none⟩ = some (.int .i64 o.fl) := hSw.1.cell 9 _ rfl
                        go_simp
                        try with_reducible rfl
                      simp only [Act.put, List.setIfInBounds_toArray, List.set_cons_zero, List.set_cons_succ]
                      refine wpAnyH_take (i := 21) (oi := { dst := some 121, op := Op.fieldAddr 23 (Operand.tmp 2) 5, type := 0, pos := "law.go:122", after := #[{ on := 18, ground := Ground.guard }], guard := some (18, false) }) (v := ?_) rfl (by as_aux_lemma => kernel_rfl) (by as_aux_lemma => kernel_rfl) (by as_aux_lemma => kernel_rfl) (fun _ _ _ h => h) (Or.inl ⟨by rfl, ?_⟩) (by assumption) ?_
                      rotate_left
                      · intro wq hSw
                        go_simp
                        try with_reducible rfl
                      simp only [Act.put, List.setIfInBounds_toArray, List.set_cons_zero, List.set_cons_succ]
                      refine wpAnyH_take (i := 22) (oi := { dst := some 122, op := Op.load 3 (Operand.tmp 121), type := 3, pos := "law.go:122", after := #[{ on := 21, ground := Ground.data }, { on := 18, ground := Ground.guard }], guard := some (18, false) }) (v := ?_) rfl (by as_aux_lemma => kernel_rfl) (by as_aux_lemma => kernel_rfl) (by as_aux_lemma => kernel_rfl) (fun _ _ _ h => h) (Or.inl ⟨by rfl, ?_⟩) (by assumption) ?_
                      rotate_left
                      · intro wq hSw
                        have h1 : wq.cell? ⟨w.heap.size, 5, none⟩ = some (.int .i64 f) := hSw.2.1.cell 5 _ rfl
                        go_simp
                        try with_reducible rfl
                      simp only [Act.put, List.setIfInBounds_toArray, List.set_cons_zero, List.set_cons_succ]
                      refine wpAnyH_take (i := 23) (oi := { dst := some 123, op := Op.binOp BinOp.gtr 3 (Operand.tmp 120) (Operand.tmp 122) 3, type := 4, pos := "law.go:122", after := #[{ on := 20, ground := Ground.data }, { on := 22, ground := Ground.data }, { on := 18, ground := Ground.guard }], guard := some (18, false) }) (v := .bool false) rfl (by as_aux_lemma => kernel_rfl) (by as_aux_lemma => kernel_rfl) (by as_aux_lemma => kernel_rfl) (fun _ _ _ h => h) (Or.inl ⟨by rfl, ?_⟩) (by assumption) ?_
                      · intro wq hSw
                        go_simp
                        try with_reducible rfl
                      simp only [Act.put, List.setIfInBounds_toArray, List.set_cons_zero, List.set_cons_succ]
                      refine wpAnyH_take (i := 24) (oi := { dst := some 124, op := Op.pick (Operand.tmp 118) (Operand.const (Value.bool true)) (Operand.tmp 123), type := 4, pos := "law.go:122", after := #[{ on := 18, ground := Ground.data }, { on := 23, ground := Ground.data }], guard := none }) (v := .bool false) rfl (by as_aux_lemma => kernel_rfl) (by as_aux_lemma => kernel_rfl) (by as_aux_lemma => kernel_rfl) (fun _ _ _ h => h) (Or.inl ⟨by rfl, ?_⟩) (by assumption) ?_
                      · intro wq hSw
                        go_simp
                        try with_reducible rfl
                      simp only [Act.put, List.setIfInBounds_toArray, List.set_cons_zero, List.set_cons_succ]
                      refine wpAnyH_done (by as_aux_lemma => kernel_rfl) ?_ _
                      have bO := show Bl OB (oc o) W6.drew from HBO.out
                      have f0 : W6.drew.cell? ⟨OB, 0, none⟩ = some (.int .i64 o.c) := bO.cell 0 _ rfl
                      have f1 : W6.drew.cell? ⟨OB, 1, none⟩ = some (.int .i64 o.g) := bO.cell 1 _ rfl
                      have f2 : W6.drew.cell? ⟨OB, 2, none⟩ = some (.int .i64 o.n) := bO.cell 2 _ rfl
                      have f3 : W6.drew.cell? ⟨OB, 3, none⟩ = some (.int .i64 o.s) := bO.cell 3 _ rfl
                      have f4 : W6.drew.cell? ⟨OB, 4, none⟩ = some (.int .i64 o.p) := bO.cell 4 _ rfl
                      have f5 : W6.drew.cell? ⟨OB, 5, none⟩ = some (.int .i64 o.l) := bO.cell 5 _ rfl
                      have f6 : W6.drew.cell? ⟨OB, 6, none⟩ = some (.int .i64 o.u) := bO.cell 6 _ rfl
                      have f7 : W6.drew.cell? ⟨OB, 7, none⟩ = some (.int .i64 o.q) := bO.cell 7 _ rfl
                      have f8 : W6.drew.cell? ⟨OB, 8, none⟩ = some (.int .i64 o.lf) := bO.cell 8 _ rfl
                      have f9 : W6.drew.cell? ⟨OB, 9, none⟩ = some (.int .i64 o.fl) := bO.cell 9 _ rfl
                      have f10 : W6.drew.cell? ⟨OB, 10, none⟩ = some (.bool o.ak) := bO.cell 10 _ rfl
                      have f11 : W6.drew.cell? ⟨OB, 11, none⟩ = some (.bool o.rs) := bO.cell 11 _ rfl
                      have f12 : W6.drew.cell? ⟨OB, 12, none⟩ = some (.int .i64 o.en) := bO.cell 12 _ rfl
                      clear bO HBO HSF HB1 HLK
                      generalize W6.drew = W7 at *
                      have HO1 := Lib.hid (World.ownsRow.alloc HL7.out.row (Obj.cells (List.toArray [.int .i64 o.c, .int .i64 o.g, .int .i64 o.n, .int .i64 o.s, .int .i64 o.p, .int .i64 o.l, .int .i64 o.u, .int .i64 o.q, .int .i64 o.lf, .int .i64 o.fl, .bool o.ak, .bool o.rs, .int .i64 o.en]) 44))
                      have HRD := Lib.hid (reads_newN W7 1 13 (oc o) 44 rfl)
                      have NV := Lib.hid (oc_one o)
                      have HEZ := HL7.out.el
                      have N1 := Lib.hid (show ez.length + 1 ≤ maxLen from by unfold maxLen; omega)
                      have N2 := Lib.hid (show (ez.length + 1) * 96 ≤ 140737488355328 from by omega)
                      have N3 := Lib.hid (show w5.heap.size ≤ (W7.alloc (Obj.cells (List.toArray [.int .i64 o.c, .int .i64 o.g, .int .i64 o.n, .int .i64 o.s, .int .i64 o.p, .int .i64 o.l, .int .i64 o.u, .int .i64 o.q, .int .i64 o.lf, .int .i64 o.fl, .bool o.ak, .bool o.rs, .int .i64 o.en]) 44)).heap.size from by have := HL7.out.bel.size; rw [World.size_alloc]; omega)
                      clear HEZ
                      go_wp2_with (at_builtin; refine wpList_append_any _ rfl (.tmp 128) (.tmp 130) 35 rfl w5.heap.size 44 i0 (Value.agg #[.int .i64 0, .int .i64 0, .int .i64 0, .int .i64 0, .int .i64 0, .int .i64 0, .int .i64 0, .int .i64 0, .int .i64 0, .int .i64 0, .bool false, .bool false, .int .i64 0]) 13 96 Try.underlying35 HI0.out HZ0.out HZ1.out HZ2.out rfl (by decide) _ ez.length (ov ez) rfl HO1.out _ (some ⟨W7.heap.size, 0, none⟩) 1 1 _ rfl HRD.out NV.out N1.out N2.out N3.out ?_; intro v3 w8 hown8 hgrow8 hblk8; have HP := Lib.hid (And.intro hown8 hgrow8); clear hown8 hgrow8 hblk8)
                      go_roundw
                      case rel =>
                        obtain ⟨A3, c3, hv⟩ := own_shape HP.out.1
                        have hln : (ez ++ [o]).length = ez.length + 1 := by simp
                        refine ⟨t + 1, ez ++ [o], A3, c3, by omega, by go_num, by rw [hln, hv], ?_⟩
                        rw [hln, ← hv]
                        exact Lib.hid (L3.snoc HL7.out (Below.refl _ _) HP.out.1 HP.out.2 HEN.out HO.out)
                      case measure => simp [intOf]; omega
                  · obtain rfl : t = m := by omega
                    have hd : decide ((t : Int) < (t : Int)) = false := decide_eq_false (by omega)
                    have HSS := Lib.hid (SM.next HSE.out HL.out (by rw [← HMM.out]; exact Nat.le_refl _) HLN.out HIN.out HSU.out HWO.out HLO.out HCD.out)
                    clear HSE HL HR5
                    go_wp2_with fail
                    go_roundw
                    case rel => exact ⟨q + 1, os', ez, now', v', Az, cz, d2, _, by omega, by have := HQ.out; omega, by go_num, rfl, HSS⟩
                    case measure => simp [intOf]; omega
      · have q6 : decide ((60 : Int) ≤ (q : Int)) = true := decide_eq_true (by omega)
        have HBZ := Lib.hid (Below.step HR.out.ms.bel HB1.out)
        clear HR HWF
        go_wp2_with fail
        refine (awake_is _).mono ?_
        rintro e9 w9 ⟨rfl, hb9⟩
        go_wp2_with fail
        refine (do_nil _).mono ?_
        rintro e10 w10 ⟨rfl, hb10⟩
        go_wp2_with fail
        refine (num_code 2 (by omega) (by omega) _).mono ?_
        rintro e11 w11 ⟨rfl, hb11⟩
        go_wp2_with fail
        refine (orders_nil _).mono ?_
        rintro e12 w12 ⟨rfl, hb12⟩
        go_wp2_with fail
        go_ret
        exact ⟨rfl, Below.step (Below.step (Below.step (Below.step HBZ.out hb9) hb10) hb11) hb12⟩
    · obtain rfl : q = ln := by omega
      have hd : decide ((q : Int) < (q : Int)) = false := decide_eq_false (by omega)
      have HBZ := Lib.hid HR.out.ms.bel
      clear HR HE HV
      go_wp2_with fail
      refine (awake_is _).mono ?_
      rintro e9 w9 ⟨rfl, hb9⟩
      go_wp2_with fail
      refine (do_nil _).mono ?_
      rintro e10 w10 ⟨rfl, hb10⟩
      go_wp2_with fail
      refine (num_code 2 (by omega) (by omega) _).mono ?_
      rintro e11 w11 ⟨rfl, hb11⟩
      go_wp2_with fail
      refine (orders_nil _).mono ?_
      rintro e12 w12 ⟨rfl, hb12⟩
      go_wp2_with fail
      go_ret
      exact ⟨rfl, Below.step (Below.step (Below.step (Below.step HBZ.out hb9) hb10) hb11) hb12⟩
theorem walk (p c n b r f g : Int) (A : Option Addr) (ln cp : Nat) (gv : Nat → Evt) (w : World) (_ : (Lit.int .i64 p).wf = true) (_ : (Lit.int .i64 c).wf = true) (_ : (Lit.int .i64 n).wf = true) (_ : (Lit.int .i64 b).wf = true) (_ : (Lit.int .i64 r).wf = true) (_ : (Lit.int .i64 f).wf = true) (_ : (Lit.int .i64 g).wf = true) (hE : EvsAt A ln gv w ∧ ∀ i, i < ln → EvW (gv i)) : Calls Try.prog 3 #[.agg #[.int .i64 p, .int .i64 c, .int .i64 n, .int .i64 b, .int .i64 r, .int .i64 f, .int .i64 g], .slice A ln cp] w fun e w' => e = .returned (.bool true) ∧ Below w.heap.size w w' := by
  by_cases h : (1 ≤ p ∧ p ≤ 6) ∧ (1 ≤ c ∧ c ≤ 4) ∧ (1 ≤ n ∧ n ≤ 3) ∧ (1 ≤ b ∧ b ≤ 4) ∧ (0 ≤ r ∧ r ≤ 4) ∧ (1 ≤ f ∧ f ≤ 4) ∧ (1 ≤ g ∧ g ≤ 15)
  · obtain ⟨hp, hc, hn, hb, hr, hf, hg⟩ := h
    exact main p c n b r f g A ln cp gv w hp hc hn hb hr hf hg hE.1 hE.2
  · exact bad p c n b r f g A ln cp w h
end Go.Proofs.Ytnhmdaoghcfghaa.traceSums
