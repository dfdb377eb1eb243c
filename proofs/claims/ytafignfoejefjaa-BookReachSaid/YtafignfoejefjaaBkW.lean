/-
  A book as a law makes it (made).
-/
import Derived.Test.YtafignfoejefjaaRows
import Derived.Test.YtafignfoejefjaaKit
import Derived.Test.YtafignfoejefjaaApp
import Derived.Test.YtafignfoejefjaaQuiet
import Derived.WalkKit
import Derived.ProofKit
import Derived.OpenShut
import Derived.ShutString
import Derived.Below
import Derived.Outline
import Derived.WalkLawsBesides
import Derived.WalkSpells
import Derived.Handy
import Derived.Deep.QuietTactic
import Derived.BigQuiet
import Derived.RegionTactic
import Derived.ChangeAlike
import Derived.Lib.Hide
import Derived.Laws.Rows
import Derived.Laws.Tables
import Derived.Laws.CopyOwn
import Derived.Laws.MakeOwn
import Derived.Laws.Entries
import Derived.Laws.OwnMore
import Derived.Deep.WholeRow
import Derived.Deep.LoopGhost
import Derived.Deep.AppendLies
import Derived.Deep.Draws
import Derived.Maps.AppendAt
import Derived.OwnWalk
import Derived.Deep.RegionHeld3
import Derived.Deep.Cut
import Derived.Deep.CutRange
import Derived.Deep.DeepCutAuto
import Derived.Deep.CutBlock
import Derived.Lib.SliceRun
import Derived.IntWalk
import Derived.Test.YtafignfoejefjaaBkM
import Derived.Test.YtafignfoejefjaaBkO
import Derived.Test.YtafignfoejefjaaBkP
import Derived.Test.YtafignfoejefjaaBkQ
import Derived.Test.YtafignfoejefjaaBkL
import Derived.Test.YtafignfoejefjaaBkC
import Derived.Test.YtafignfoejefjaaBkR
import Derived.Test.YtafignfoejefjaaRules
import Derived.Test.YtafignfoejefjaaCheck
namespace Go.Proofs.Ytafignfoejefjaa
open Go.ChangeShapes Go.WideShapes Go.ChangeAt Go.RowKit
def fine1 (o : Ord) : Prop := 1 ≤ o.p ∧ o.p ≤ 9999 ∧ 0 ≤ o.q ∧ o.q ≤ 9999
theorem fine_snoc {os : List Ord} {o : Ord} (h : Fine os) (ho : fine1 o) : Fine (os ++ [o]) := by
  intro x hx
  rcases List.mem_append.1 hx with h1 | h1
  · exact h x h1
  · simp at h1; subst h1; exact ho
theorem results_two {P : Program} {fn : Func} {p q : Tmp} {ty : TypeId} (h : fn.results = #[.cell p ty, .tmp q]) (tmps : Array Value) (w : World) (g : Nat) (l : List Value) (d : TypeDesc) (v : Value)
    (hp : tmps.getD p undef = .pointer (some ⟨g, 0, none⟩)) (hq : tmps.getD q undef = v) (hg : Bl g l w)
    (hu : P.underlying ty = some d) (hd : (match d with | .struct _ | .array _ _ => true | _ => false) = true) (hi : (P.info? ty).map (·.size) = some l.length) :
    (results fn tmps).run P w = .ok (.tuple #[.agg l.toArray, v]) w := by
  obtain ⟨t, hh⟩ := hg
  have hp' : tmps[p]?.getD undef = .pointer (some ⟨g, 0, none⟩) := by simpa using hp
  have hq' : tmps[q]?.getD undef = v := by simpa using hq
  have hrun := run_loadVar_row w g t ty l.toArray (0, 0) d hh hu hd (by simpa using hi)
  simp [results, h, hp', hq', asAddr, hrun, Result.andThen]
/-- What made hands back: a book, or none. -/
def MadeP (p c n b r f g : Int) (os : List Ord) (w : World) (e : Ending) (w' : World) : Prop :=
  (Fine os ∧ ∃ v, e = .returned (.tuple #[.agg #[.int .i64 p, .int .i64 c, .int .i64 n, .int .i64 b, .int .i64 r, .int .i64 f, .int .i64 g, v], .bool true]) ∧ w'.ownsRow w.heap.size 55 7 v os.length (ov os) ∧ Below w.heap.size w w') ∨
  (¬ Fine os ∧ e = .returned (.tuple #[.agg #[.int .i64 0, .int .i64 0, .int .i64 0, .int .i64 0, .int .i64 0, .int .i64 0, .int .i64 0, .slice none 0 0], .bool false]) ∧ Below w.heap.size w w')
set_option maxRecDepth 100000 in
set_option maxHeartbeats 8000000 in
theorem made_any (p c n b r f g : Int) (A : Option Addr) (ln cp : Nat) (gv : Nat → Ord) (w : World) (hp : 1 ≤ p ∧ p ≤ 6) (hc : 1 ≤ c ∧ c ≤ 4) (hn : 1 ≤ n ∧ n ≤ 3) (hb : 1 ≤ b ∧ b ≤ 4) (hr : 0 ≤ r ∧ r ≤ 4) (hf : 1 ≤ f ∧ f ≤ 4) (hg : 1 ≤ g ∧ g ≤ 15) (hl : ln ≤ 40) (hE : OrdsAt A ln gv w) : Calls Try.prog 6 #[.agg #[.int .i64 p, .int .i64 c, .int .i64 n, .int .i64 b, .int .i64 r, .int .i64 f, .int .i64 g], .slice A ln cp] w (MadeP p c n b r f g (lst ln gv) w) := by
  have HN := Lib.hid (fun W => rnew_ok p c n b r f g W hp hc hn hb hr hf hg)
  have HK := Lib.hid (fun W => check_ok p c n b r f g W hp hc hn hb hr hf hg)
  have HE := Lib.hid hE
  have HL := Lib.hid hl
  have dl : decide ((40 : Int) < (ln : Int)) = false := decide_eq_false (by omega)
  have l0 : (0 : Int) ≤ (ln : Int) := by omega
  have l1 : (ln : Int) ≤ 40 := by omega
  clear hp hc hn hb hr hf hg hl hE
  go_enter Try.func6, Try.ntmps6
  go_wp2_with fail
  have b0 := (Bl.new w [.int .i64 p, .int .i64 c, .int .i64 n, .int .i64 b, .int .i64 r, .int .i64 f, .int .i64 g] 23).below (w' := (w.alloc (.cells (List.toArray [.int .i64 p, .int .i64 c, .int .i64 n, .int .i64 b, .int .i64 r, .int .i64 f, .int .i64 g]) 23)).alloc (.cells (List.toArray [.int .i64 0, .int .i64 0, .int .i64 0, .int .i64 0, .int .i64 0, .int .i64 0, .int .i64 0, .slice none 0 0]) 29)) (by go_grown)
  have b1 := Bl.new (w.alloc (.cells (List.toArray [.int .i64 p, .int .i64 c, .int .i64 n, .int .i64 b, .int .i64 r, .int .i64 f, .int .i64 g]) 23)) [.int .i64 0, .int .i64 0, .int .i64 0, .int .i64 0, .int .i64 0, .int .i64 0, .int .i64 0, .slice none 0 0] 29
  have g0 : Below w.heap.size w ((w.alloc (.cells (List.toArray [.int .i64 p, .int .i64 c, .int .i64 n, .int .i64 b, .int .i64 r, .int .i64 f, .int .i64 g]) 23)).alloc (.cells (List.toArray [.int .i64 0, .int .i64 0, .int .i64 0, .int .i64 0, .int .i64 0, .int .i64 0, .int .i64 0, .slice none 0 0]) 29)) := by go_grown
  rw [World.size_alloc] at b1
  obtain ⟨W, hW⟩ : ∃ W, W = (w.alloc (.cells (List.toArray [.int .i64 p, .int .i64 c, .int .i64 n, .int .i64 b, .int .i64 r, .int .i64 f, .int .i64 g]) 23)).alloc (.cells (List.toArray [.int .i64 0, .int .i64 0, .int .i64 0, .int .i64 0, .int .i64 0, .int .i64 0, .int .i64 0, .slice none 0 0]) 29) := ⟨_, rfl⟩
  rw [← hW] at b0 b1 g0 ⊢
  clear hW
  refine (HN.out _).mono ?_
  rintro e1 w1 ⟨rfl, hb1⟩
  have b2 := Bl.new w1 [.int .i64 p, .int .i64 c, .int .i64 n, .int .i64 b, .int .i64 r, .int .i64 f, .int .i64 g] 26
  have g1 : Below w1.heap.size w1 (w1.alloc (.cells (List.toArray [.int .i64 p, .int .i64 c, .int .i64 n, .int .i64 b, .int .i64 r, .int .i64 f, .int .i64 g]) 26)) := by go_grown
  have b0' := (b0.below hb1).below g1
  have b1' := (b1.below hb1).below g1
  have g2 := Below.step (Below.step g0 hb1) g1
  have lt1 := b1.lt
  have lt2 := (b1.below hb1).lt
  obtain ⟨RX, hRX⟩ : ∃ RX, RX = w1.heap.size := ⟨_, rfl⟩
  obtain ⟨W1, hW1⟩ : ∃ W1, W1 = w1.alloc (.cells (List.toArray [.int .i64 p, .int .i64 c, .int .i64 n, .int .i64 b, .int .i64 r, .int .i64 f, .int .i64 g]) 26) := ⟨_, rfl⟩
  have z1 : RX < W1.heap.size := by rw [hRX, hW1, World.size_alloc]; omega
  have z2 : w.heap.size + 1 < RX := by omega
  rw [← hW1] at b0' b1' b2 g2
  rw [← hRX] at b2
  have HZ := Lib.hid z2
  have HM0 : Hid (Bl w.heap.size [.int .i64 p, .int .i64 c, .int .i64 n, .int .i64 b, .int .i64 r, .int .i64 f, .int .i64 g] W1 ∧ Bl (w.heap.size + 1) [.int .i64 0, .int .i64 0, .int .i64 0, .int .i64 0, .int .i64 0, .int .i64 0, .int .i64 0, .slice none 0 0] W1 ∧ Bl RX [.int .i64 p, .int .i64 c, .int .i64 n, .int .i64 b, .int .i64 r, .int .i64 f, .int .i64 g] W1 ∧ Below w.heap.size w W1 ∧ RX < W1.heap.size) := Lib.hid ⟨b0', b1', b2, g2, z1⟩
  have HW1 := Lib.hid hW1
  have HRX := Lib.hid hRX
  clear b0 b1 b2 b0' b1' g0 g1 g2 hb1 lt1 lt2 hRX hW1 z1 z2
  have r0 := HM0.out.1.cell 0 _ rfl
  have r1 := HM0.out.1.cell 1 _ rfl
  have r2 := HM0.out.1.cell 2 _ rfl
  have r3 := HM0.out.1.cell 3 _ rfl
  have r4 := HM0.out.1.cell 4 _ rfl
  have r5 := HM0.out.1.cell 5 _ rfl
  have r6 := HM0.out.1.cell 6 _ rfl
  rw [HW1.out] at r0 r1 r2 r3 r4 r5 r6
  go_wp2_with fail
  rw [← HW1.out]
  refine (HK.out _).mono ?_
  rintro e2 w2 ⟨rfl, hb2⟩
  have HM1 : Hid (Bl w.heap.size [.int .i64 p, .int .i64 c, .int .i64 n, .int .i64 b, .int .i64 r, .int .i64 f, .int .i64 g] w2 ∧ Bl (w.heap.size + 1) [.int .i64 0, .int .i64 0, .int .i64 0, .int .i64 0, .int .i64 0, .int .i64 0, .int .i64 0, .slice none 0 0] w2 ∧ Bl RX [.int .i64 p, .int .i64 c, .int .i64 n, .int .i64 b, .int .i64 r, .int .i64 f, .int .i64 g] w2 ∧ Below w.heap.size w w2 ∧ RX < w2.heap.size) := Lib.hid ⟨HM0.out.1.below hb2, HM0.out.2.1.below hb2, HM0.out.2.2.1.below hb2, Below.step HM0.out.2.2.2.1 hb2, by have := hb2.size; have := HM0.out.2.2.2.2; omega⟩
  clear hb2 r0 r1 r2 r3 r4 r5 r6 HM0 HN HK
  go_wp2_with fail
  go_loopw [8, 31] (fun v j wr => ∃ k : Nat, k ≤ ln ∧ j = .int .i64 (k : Int) ∧ Hid (wr.ownsRow (RX + 1) 55 7 v k (ov (lst k gv)) ∧ Fine (lst k gv) ∧ Bl w.heap.size [.int .i64 p, .int .i64 c, .int .i64 n, .int .i64 b, .int .i64 r, .int .i64 f, .int .i64 g] wr ∧ Bl (w.heap.size + 1) [.int .i64 0, .int .i64 0, .int .i64 0, .int .i64 0, .int .i64 0, .int .i64 0, .int .i64 0, .slice none 0 0] wr ∧ Bl RX [.int .i64 p, .int .i64 c, .int .i64 n, .int .i64 b, .int .i64 r, .int .i64 f, .int .i64 g] wr ∧ Below w.heap.size w wr ∧ RX < wr.heap.size)) (fun _ j _ => ln + 1 - (intOf j).toNat)
  case atStart => exact ⟨0, Nat.zero_le _, rfl, Lib.hid ⟨⟨rfl, .inl ⟨rfl, rfl⟩⟩, (fun o ho => by simp [lst] at ho), HM1.out⟩⟩
  case round =>
    clear HM1
    obtain ⟨k, hk, rfl, HR⟩ := hrel
    have k0 : (0 : Int) ≤ (k : Int) := by omega
    obtain ⟨A8, c8, hv8⟩ := oshape HR.out.1
    subst hv8
    by_cases hlt : k < ln
    · obtain ⟨ad, rfl, hab, hcs⟩ := (HE.out.below HR.out.2.2.2.2.2.1) (by omega)
      have hcy := hcs k hlt
      clear hcs hab
      have q1 : (k : Int) < (ln : Int) := by omega
      obtain ⟨o, ho⟩ : ∃ o, o = gv k := ⟨_, rfl⟩
      rw [← ho] at hcy
      have d0 : wr.cell? (ad.add (k * 7)) = some (.int .i64 o.c) := hcy 0 _ rfl
      have d1 : wr.cell? ⟨(ad.add (k * 7)).block, (ad.add (k * 7)).off + 1, none⟩ = some (.int .i64 o.n) := by rw [← addp _ 1 (by decide) (World.cell?_spot d0), add_of_add]; exact hcy 1 _ rfl
      have d2 : wr.cell? ⟨(ad.add (k * 7)).block, (ad.add (k * 7)).off + 2, none⟩ = some (.int .i64 o.s) := by rw [← addp _ 2 (by decide) (World.cell?_spot d0), add_of_add]; exact hcy 2 _ rfl
      have d3 : wr.cell? ⟨(ad.add (k * 7)).block, (ad.add (k * 7)).off + 3, none⟩ = some (.int .i64 o.p) := by rw [← addp _ 3 (by decide) (World.cell?_spot d0), add_of_add]; exact hcy 3 _ rfl
      have d4 : wr.cell? ⟨(ad.add (k * 7)).block, (ad.add (k * 7)).off + 4, none⟩ = some (.int .i64 o.l) := by rw [← addp _ 4 (by decide) (World.cell?_spot d0), add_of_add]; exact hcy 4 _ rfl
      have d5 : wr.cell? ⟨(ad.add (k * 7)).block, (ad.add (k * 7)).off + 5, none⟩ = some (.int .i64 o.u) := by rw [← addp _ 5 (by decide) (World.cell?_spot d0), add_of_add]; exact hcy 5 _ rfl
      have d6 : wr.cell? ⟨(ad.add (k * 7)).block, (ad.add (k * 7)).off + 6, none⟩ = some (.int .i64 o.q) := by rw [← addp _ 6 (by decide) (World.cell?_spot d0), add_of_add]; exact hcy 6 _ rfl
      have HO := Lib.hid ho
      have Hk := Lib.hid hlt
      clear hcy ho hlt hk
      have gO : Below wr.heap.size wr (wr.alloc (.cells (List.toArray [.int .i64 o.c, .int .i64 o.n, .int .i64 o.s, .int .i64 o.p, .int .i64 o.l, .int .i64 o.u, .int .i64 o.q]) 50)) := by go_grown
      have bO := Bl.new wr [.int .i64 o.c, .int .i64 o.n, .int .i64 o.s, .int .i64 o.p, .int .i64 o.l, .int .i64 o.u, .int .i64 o.q] 50
      have gO2 : Below wr.heap.size wr ((wr.alloc (.cells (List.toArray [.int .i64 o.c, .int .i64 o.n, .int .i64 o.s, .int .i64 o.p, .int .i64 o.l, .int .i64 o.u, .int .i64 o.q]) 50)).alloc (.cells (List.toArray [.int .i64 o.c, .int .i64 o.n, .int .i64 o.s, .int .i64 o.p, .int .i64 o.l, .int .i64 o.u, .int .i64 o.q]) 55)) := by go_grown
      have zb := HR.out.2.2.2.1.below gO
      have z0 := zb.cell 0 _ rfl
      have z1 := zb.cell 1 _ rfl
      have z2 := zb.cell 2 _ rfl
      have z3 := zb.cell 3 _ rfl
      have z4 := zb.cell 4 _ rfl
      have z5 := zb.cell 5 _ rfl
      have z6 := zb.cell 6 _ rfl
      have z7 := zb.cell 7 _ rfl
      have zf0 := zb.frz 0
      have zf1 := zb.frz 1
      have zf2 := zb.frz 2
      have zf3 := zb.frz 3
      have zf4 := zb.frz 4
      have zf5 := zb.frz 5
      have zf6 := zb.frz 6
      have zf7 := zb.frz 7
      have HG := Lib.hid (And.intro gO (And.intro bO (And.intro gO2 zb)))
      clear gO bO gO2 zb
      by_cases hfin : fine1 o
      · obtain ⟨p1, p2, p3, p4⟩ := hfin
        have t1 : decide (o.p < 1) = false := decide_eq_false (by omega)
        have t2 : decide (9999 < o.p) = false := decide_eq_false (by omega)
        have t3 : decide (o.q < 0) = false := decide_eq_false (by omega)
        have t4 : decide (9999 < o.q) = false := decide_eq_false (by omega)
        have HFI : Hid (fine1 o) := Lib.hid ⟨p1, p2, p3, p4⟩
        obtain ⟨i0, hi, hz0, hz1, hz2⟩ := info_parts infoO1
        have HI := Lib.hid hi
        have HZ0 := Lib.hid hz0
        have HZ1 := Lib.hid hz1
        have HZ2 := Lib.hid hz2
        have hrd := reads_newN (wr.alloc (.cells (List.toArray [.int .i64 o.c, .int .i64 o.n, .int .i64 o.s, .int .i64 o.p, .int .i64 o.l, .int .i64 o.u, .int .i64 o.q]) 50)) 1 7 [.int .i64 o.c, .int .i64 o.n, .int .i64 o.s, .int .i64 o.p, .int .i64 o.l, .int .i64 o.u, .int .i64 o.q] 55 rfl
        rw [World.size_alloc] at hrd
        have HRd := Lib.hid hrd
        have HOW := Lib.hid (rkept HR.out.1 HG.out.2.2.1)
        have NV := Lib.hid (oc_one o)
        have N1 := Lib.hid (show k + 1 ≤ maxLen from by have := HL.out; have := Hk.out; unfold maxLen; omega)
        have N2 := Lib.hid (show (k + 1) * 56 ≤ 140737488355328 from by have := HL.out; have := Hk.out; omega)
        have N3 := Lib.hid (show RX + 1 ≤ ((wr.alloc (.cells (List.toArray [.int .i64 o.c, .int .i64 o.n, .int .i64 o.s, .int .i64 o.p, .int .i64 o.l, .int .i64 o.u, .int .i64 o.q]) 50)).alloc (.cells (List.toArray [.int .i64 o.c, .int .i64 o.n, .int .i64 o.s, .int .i64 o.p, .int .i64 o.l, .int .i64 o.u, .int .i64 o.q]) 55)).heap.size from by have := HG.out.2.2.1.size; have := HR.out.2.2.2.2.2.2; omega)
        clear hi hz0 hz1 hz2 hrd p1 p2 p3 p4
        go_wp2_with (at_builtin; refine wpList_append_any _ rfl (.tmp 56) (.tmp 58) 27 rfl (RX + 1) 55 i0 (Value.agg #[.int .i64 0, .int .i64 0, .int .i64 0, .int .i64 0, .int .i64 0, .int .i64 0, .int .i64 0]) 7 56 Try.underlying27 HI.out HZ0.out HZ1.out HZ2.out rfl (by decide) _ k _ rfl HOW.out _ (some ⟨wr.heap.size + 1, 0, none⟩) 1 1 (oc o) rfl HRd.out NV.out N1.out N2.out N3.out ?_; intro v8 w8 hown8 hgrow8 hblk8; have HP := Lib.hid (And.intro hown8 hgrow8); clear hown8 hgrow8 hblk8)
        go_roundw
        case rel =>
          have hlt9 : ∀ g, (Value.slice A8 k c8).ownBlock = some g → RX + 1 ≤ g := fun g e => (HOW.out.lt g e).1
          have keep : ∀ B l, Bl B l wr → B ≤ RX → Bl B l w8 := fun B l hB hle => by
            have h1 := hB.below HG.out.2.2.1
            have h2 := h1.lt
            obtain ⟨t, ht⟩ := h1
            exact ⟨t, (HP.out.2.block B h2 (by intro e; have := hlt9 _ e.symm; omega)).trans ht⟩
          refine ⟨k + 1, Hk.out, by go_num, Lib.hid ⟨?_, ?_, keep _ _ HR.out.2.2.1 (by have := HZ.out; omega), keep _ _ HR.out.2.2.2.1 (by have := HZ.out; omega), keep _ _ HR.out.2.2.2.2.1 (Nat.le_refl _), ?_, ?_⟩⟩
          · rw [lst_succ, ov_snoc, ← HO.out]
            exact HP.out.1
          · rw [lst_succ, ← HO.out]; exact fine_snoc HR.out.2.1 HFI.out
          · have h1 := Below.step HR.out.2.2.2.2.2.1 HG.out.2.2.1
            exact Below.grown h1 HP.out.2 h1.size (fun g e => by have := hlt9 g e; have := HZ.out; omega)
          · have := HP.out.2.size; have := N3.out; omega
        case measure => have := Hk.out; simp [intOf]; omega
      · have hmem : (lst ln gv)[k]? = some o := by rw [HO.out]; exact lst_get ln gv k Hk.out
        have hnf : ¬ Fine (lst ln gv) := fun h => hfin (h o (List.mem_of_getElem? hmem))
        clear z0 z1 z2 z3 z4 z5 z6 z7 zf0 zf1 zf2 zf3 zf4 zf5 zf6 zf7 hmem
        have HNF := Lib.hid hnf
        clear hnf
        unfold fine1 at hfin
        by_cases c1 : o.p < 1
        · clear hfin
          go_wp2_with (refine wpList_store_bl rfl 29 (.tmp 4) (.tmp 55) rfl (w.heap.size + 1) [.int .i64 0, .int .i64 0, .int .i64 0, .int .i64 0, .int .i64 0, .int .i64 0, .int .i64 0, .slice none 0 0] [.int .i64 0, .int .i64 0, .int .i64 0, .int .i64 0, .int .i64 0, .int .i64 0, .int .i64 0, .slice none 0 0] rfl rfl HG.out.2.2.2 rfl (by kernel_rfl) rfl ?_; intro w8 hb8 hk8 hs8 hbel8; have HF8 := Lib.hid (And.intro hb8 hbel8); clear hb8 hk8 hs8 hbel8)
          refine bodyPost_ret (results_two (ty := 29) rfl _ _ (w.heap.size + 1) [.int .i64 0, .int .i64 0, .int .i64 0, .int .i64 0, .int .i64 0, .int .i64 0, .int .i64 0, .slice none 0 0] _ _ rfl rfl HF8.out.1 Try.underlying29 rfl (by kernel_rfl)) rfl (Or.inr ⟨HNF.out, rfl, HF8.out.2 _ _ (by omega) (Below.step HR.out.2.2.2.2.2.1 HG.out.1)⟩)
        by_cases c2 : 9999 < o.p
        · have t1 : decide (o.p < 1) = false := decide_eq_false c1
          clear hfin c1
          go_wp2_with (refine wpList_store_bl rfl 29 (.tmp 4) (.tmp 55) rfl (w.heap.size + 1) [.int .i64 0, .int .i64 0, .int .i64 0, .int .i64 0, .int .i64 0, .int .i64 0, .int .i64 0, .slice none 0 0] [.int .i64 0, .int .i64 0, .int .i64 0, .int .i64 0, .int .i64 0, .int .i64 0, .int .i64 0, .slice none 0 0] rfl rfl HG.out.2.2.2 rfl (by kernel_rfl) rfl ?_; intro w8 hb8 hk8 hs8 hbel8; have HF8 := Lib.hid (And.intro hb8 hbel8); clear hb8 hk8 hs8 hbel8)
          refine bodyPost_ret (results_two (ty := 29) rfl _ _ (w.heap.size + 1) [.int .i64 0, .int .i64 0, .int .i64 0, .int .i64 0, .int .i64 0, .int .i64 0, .int .i64 0, .slice none 0 0] _ _ rfl rfl HF8.out.1 Try.underlying29 rfl (by kernel_rfl)) rfl (Or.inr ⟨HNF.out, rfl, HF8.out.2 _ _ (by omega) (Below.step HR.out.2.2.2.2.2.1 HG.out.1)⟩)
        by_cases c3 : o.q < 0
        · have t1 : decide (o.p < 1) = false := decide_eq_false c1
          have t2 : decide (9999 < o.p) = false := decide_eq_false c2
          clear hfin c1 c2
          go_wp2_with (refine wpList_store_bl rfl 29 (.tmp 4) (.tmp 55) rfl (w.heap.size + 1) [.int .i64 0, .int .i64 0, .int .i64 0, .int .i64 0, .int .i64 0, .int .i64 0, .int .i64 0, .slice none 0 0] [.int .i64 0, .int .i64 0, .int .i64 0, .int .i64 0, .int .i64 0, .int .i64 0, .int .i64 0, .slice none 0 0] rfl rfl HG.out.2.2.2 rfl (by kernel_rfl) rfl ?_; intro w8 hb8 hk8 hs8 hbel8; have HF8 := Lib.hid (And.intro hb8 hbel8); clear hb8 hk8 hs8 hbel8)
          refine bodyPost_ret (results_two (ty := 29) rfl _ _ (w.heap.size + 1) [.int .i64 0, .int .i64 0, .int .i64 0, .int .i64 0, .int .i64 0, .int .i64 0, .int .i64 0, .slice none 0 0] _ _ rfl rfl HF8.out.1 Try.underlying29 rfl (by kernel_rfl)) rfl (Or.inr ⟨HNF.out, rfl, HF8.out.2 _ _ (by omega) (Below.step HR.out.2.2.2.2.2.1 HG.out.1)⟩)
        · have t1 : decide (o.p < 1) = false := decide_eq_false c1
          have t2 : decide (9999 < o.p) = false := decide_eq_false c2
          have t3 : decide (o.q < 0) = false := decide_eq_false c3
          have c4 : 9999 < o.q := by omega
          clear hfin c1 c2 c3
          go_wp2_with (refine wpList_store_bl rfl 29 (.tmp 4) (.tmp 55) rfl (w.heap.size + 1) [.int .i64 0, .int .i64 0, .int .i64 0, .int .i64 0, .int .i64 0, .int .i64 0, .int .i64 0, .slice none 0 0] [.int .i64 0, .int .i64 0, .int .i64 0, .int .i64 0, .int .i64 0, .int .i64 0, .int .i64 0, .slice none 0 0] rfl rfl HG.out.2.2.2 rfl (by kernel_rfl) rfl ?_; intro w8 hb8 hk8 hs8 hbel8; have HF8 := Lib.hid (And.intro hb8 hbel8); clear hb8 hk8 hs8 hbel8)
          refine bodyPost_ret (results_two (ty := 29) rfl _ _ (w.heap.size + 1) [.int .i64 0, .int .i64 0, .int .i64 0, .int .i64 0, .int .i64 0, .int .i64 0, .int .i64 0, .slice none 0 0] _ _ rfl rfl HF8.out.1 Try.underlying29 rfl (by kernel_rfl)) rfl (Or.inr ⟨HNF.out, rfl, HF8.out.2 _ _ (by omega) (Below.step HR.out.2.2.2.2.2.1 HG.out.1)⟩)
    · have hke : k = ln := by omega
      subst hke
      clear hlt hk
      have r0 := HR.out.2.2.2.2.1.cell 0 _ rfl
      have r1 := HR.out.2.2.2.2.1.cell 1 _ rfl
      have r2 := HR.out.2.2.2.2.1.cell 2 _ rfl
      have r3 := HR.out.2.2.2.2.1.cell 3 _ rfl
      have r4 := HR.out.2.2.2.2.1.cell 4 _ rfl
      have r5 := HR.out.2.2.2.2.1.cell 5 _ rfl
      have r6 := HR.out.2.2.2.2.1.cell 6 _ rfl
      rw [HRX.out] at r0 r1 r2 r3 r4 r5 r6
      have HC := Lib.hid (new_is p c n b r f g (RX + 1) c8 A8 k (lst k gv) wr (lst_len k gv).symm HR.out.1 (by rw [lst_len]; have := HL.out; omega))
      go_wp2_with fail
      refine HC.out.mono ?_
      rintro e9 w9 ⟨v9, rfl, ho9, hb9⟩
      obtain ⟨A9, c9, rfl⟩ := oshape ho9
      have H9 := Lib.hid (And.intro ho9 hb9)
      clear ho9 hb9 r0 r1 r2 r3 r4 r5 r6
      go_wp2_with (refine wpList_store_bl rfl 29 (.tmp 4) (.tmp 63) rfl (w.heap.size + 1) [.int .i64 0, .int .i64 0, .int .i64 0, .int .i64 0, .int .i64 0, .int .i64 0, .int .i64 0, .slice none 0 0] [.int .i64 p, .int .i64 c, .int .i64 n, .int .i64 b, .int .i64 r, .int .i64 f, .int .i64 g, .slice A9 (lst k gv).length c9] rfl rfl (HR.out.2.2.2.1.below H9.out.2) rfl (by kernel_rfl) rfl ?_; intro w8 hb8 hk8 hs8 hbel8; have HF8 := Lib.hid (And.intro hb8 (And.intro hk8 hbel8)); clear hb8 hk8 hs8 hbel8)
      have hlt := HR.out.2.2.2.1.lt
      have hbb := HR.out.2.2.2.2.2.1
      refine bodyPost_ret (results_two (ty := 29) rfl _ _ (w.heap.size + 1) _ _ _ rfl rfl HF8.out.1 Try.underlying29 rfl (by kernel_rfl)) rfl (Or.inl ⟨HR.out.2.1, _, rfl, ?_, ?_⟩)
      · exact own_base (rfar H9.out.1 (fun k hk hk2 => HF8.out.2.1 k (by omega) hk2)) hbb.size
      · exact HF8.out.2.2 _ _ (by omega) (Below.step hbb H9.out.2)
theorem made_ok (p c n b r f g : Int) (A : Option Addr) (ln cp : Nat) (gv : Nat → Ord) (w : World) (hp : 1 ≤ p ∧ p ≤ 6) (hc : 1 ≤ c ∧ c ≤ 4) (hn : 1 ≤ n ∧ n ≤ 3) (hb : 1 ≤ b ∧ b ≤ 4) (hr : 0 ≤ r ∧ r ≤ 4) (hf : 1 ≤ f ∧ f ≤ 4) (hg : 1 ≤ g ∧ g ≤ 15) (hl : ln ≤ 40) (hE : OrdsAt A ln gv w) (hF : Fine (lst ln gv)) : Calls Try.prog 6 #[.agg #[.int .i64 p, .int .i64 c, .int .i64 n, .int .i64 b, .int .i64 r, .int .i64 f, .int .i64 g], .slice A ln cp] w fun e w' => ∃ v, e = .returned (.tuple #[.agg #[.int .i64 p, .int .i64 c, .int .i64 n, .int .i64 b, .int .i64 r, .int .i64 f, .int .i64 g, v], .bool true]) ∧ w'.ownsRow w.heap.size 55 7 v (lst ln gv).length (ov (lst ln gv)) ∧ Below w.heap.size w w' :=
  (made_any p c n b r f g A ln cp gv w hp hc hn hb hr hf hg hl hE).mono fun e w' h => by
    rcases h with h | h
    · exact h.2
    · exact absurd hF h.1
/-- There is no such book. -/
def MadeNo (w : World) (e : Ending) (w' : World) : Prop := ∃ B : Array Value, e = .returned (.tuple #[.agg B, .bool false]) ∧ B = (List.toArray [.int .i64 0, .int .i64 0, .int .i64 0, .int .i64 0, .int .i64 0, .int .i64 0, .int .i64 0, .slice none 0 0]) ∧ Below w.heap.size w w'
theorem made_no (p c n b r f g : Int) (A : Option Addr) (ln cp : Nat) (gv : Nat → Ord) (w : World) (hp : 1 ≤ p ∧ p ≤ 6) (hc : 1 ≤ c ∧ c ≤ 4) (hn : 1 ≤ n ∧ n ≤ 3) (hb : 1 ≤ b ∧ b ≤ 4) (hr : 0 ≤ r ∧ r ≤ 4) (hf : 1 ≤ f ∧ f ≤ 4) (hg : 1 ≤ g ∧ g ≤ 15) (hl : ln ≤ 40) (hE : OrdsAt A ln gv w) (hF : ¬ Fine (lst ln gv)) : Calls Try.prog 6 #[.agg #[.int .i64 p, .int .i64 c, .int .i64 n, .int .i64 b, .int .i64 r, .int .i64 f, .int .i64 g], .slice A ln cp] w fun e w' => e = .returned (.tuple #[.agg (List.toArray [.int .i64 0, .int .i64 0, .int .i64 0, .int .i64 0, .int .i64 0, .int .i64 0, .int .i64 0, .slice none 0 0]), .bool false]) ∧ Below w.heap.size w w' :=
  (made_any p c n b r f g A ln cp gv w hp hc hn hb hr hf hg hl hE).mono fun e w' h => by
    rcases h with h | h
    · exact absurd h.1 hF
    · exact h.2
set_option maxRecDepth 100000 in
set_option maxHeartbeats 8000000 in
theorem made_bad (p c n b r f g : Int) (A : Option Addr) (ln cp : Nat) (w : World) (h : ¬ ((1 ≤ p ∧ p ≤ 6) ∧ (1 ≤ c ∧ c ≤ 4) ∧ (1 ≤ n ∧ n ≤ 3) ∧ (1 ≤ b ∧ b ≤ 4) ∧ (0 ≤ r ∧ r ≤ 4) ∧ (1 ≤ f ∧ f ≤ 4) ∧ (1 ≤ g ∧ g ≤ 15))) : Calls Try.prog 6 #[.agg #[.int .i64 p, .int .i64 c, .int .i64 n, .int .i64 b, .int .i64 r, .int .i64 f, .int .i64 g], .slice A ln cp] w fun e w' => e = .returned (.tuple #[.agg (List.toArray [.int .i64 0, .int .i64 0, .int .i64 0, .int .i64 0, .int .i64 0, .int .i64 0, .int .i64 0, .slice none 0 0]), .bool false]) ∧ Below w.heap.size w w' := by
  have HN := Lib.hid (fun W => rnew_bad p c n b r f g W h)
  clear h
  go_enter Try.func6, Try.ntmps6
  go_wp2_with fail
  have b1 := Bl.new (w.alloc (.cells (List.toArray [.int .i64 p, .int .i64 c, .int .i64 n, .int .i64 b, .int .i64 r, .int .i64 f, .int .i64 g]) 23)) [.int .i64 0, .int .i64 0, .int .i64 0, .int .i64 0, .int .i64 0, .int .i64 0, .int .i64 0, .slice none 0 0] 29
  have g0 : Below w.heap.size w ((w.alloc (.cells (List.toArray [.int .i64 p, .int .i64 c, .int .i64 n, .int .i64 b, .int .i64 r, .int .i64 f, .int .i64 g]) 23)).alloc (.cells (List.toArray [.int .i64 0, .int .i64 0, .int .i64 0, .int .i64 0, .int .i64 0, .int .i64 0, .int .i64 0, .slice none 0 0]) 29)) := by go_grown
  rw [World.size_alloc] at b1
  obtain ⟨W, hW⟩ : ∃ W, W = (w.alloc (.cells (List.toArray [.int .i64 p, .int .i64 c, .int .i64 n, .int .i64 b, .int .i64 r, .int .i64 f, .int .i64 g]) 23)).alloc (.cells (List.toArray [.int .i64 0, .int .i64 0, .int .i64 0, .int .i64 0, .int .i64 0, .int .i64 0, .int .i64 0, .slice none 0 0]) 29) := ⟨_, rfl⟩
  rw [← hW] at b1 g0 ⊢
  clear hW
  refine (HN.out _).mono ?_
  rintro e1 w1 ⟨T, v, rfl, hb1⟩
  have g1 : Below w1.heap.size w1 (w1.alloc (.cells (List.toArray [.int .i64 0, .int .i64 0, .int .i64 0, .int .i64 0, .int .i64 0, .int .i64 0, .int .i64 0]) 26)) := by go_grown
  have zb := (b1.below hb1).below g1
  have HZ := Lib.hid (And.intro zb (Below.step (Below.step g0 hb1) g1))
  clear zb g1 b1 g0 hb1
  go_wp2_with (refine wpList_store_bl rfl 29 (.tmp 4) (.tmp 28) rfl (w.heap.size + 1) [.int .i64 0, .int .i64 0, .int .i64 0, .int .i64 0, .int .i64 0, .int .i64 0, .int .i64 0, .slice none 0 0] [.int .i64 0, .int .i64 0, .int .i64 0, .int .i64 0, .int .i64 0, .int .i64 0, .int .i64 0, .slice none 0 0] rfl rfl HZ.out.1 rfl (by kernel_rfl) rfl ?_; intro w8 hb8 hk8 hs8 hbel8; have HF8 := Lib.hid (And.intro hb8 hbel8); clear hb8 hk8 hs8 hbel8)
  refine bodyPost_ret (results_two (ty := 29) rfl _ _ (w.heap.size + 1) [.int .i64 0, .int .i64 0, .int .i64 0, .int .i64 0, .int .i64 0, .int .i64 0, .int .i64 0, .slice none 0 0] _ _ rfl rfl HF8.out.1 Try.underlying29 rfl (by kernel_rfl)) rfl ⟨rfl, HF8.out.2 _ _ (by omega) HZ.out.2⟩
set_option maxRecDepth 100000 in
set_option maxHeartbeats 8000000 in
theorem made_long (p c n b r f g : Int) (A : Option Addr) (ln cp : Nat) (w : World) (hp : 1 ≤ p ∧ p ≤ 6) (hc : 1 ≤ c ∧ c ≤ 4) (hn : 1 ≤ n ∧ n ≤ 3) (hb : 1 ≤ b ∧ b ≤ 4) (hr : 0 ≤ r ∧ r ≤ 4) (hf : 1 ≤ f ∧ f ≤ 4) (hg : 1 ≤ g ∧ g ≤ 15) (hl : 40 < ln) : Calls Try.prog 6 #[.agg #[.int .i64 p, .int .i64 c, .int .i64 n, .int .i64 b, .int .i64 r, .int .i64 f, .int .i64 g], .slice A ln cp] w fun e w' => e = .returned (.tuple #[.agg (List.toArray [.int .i64 0, .int .i64 0, .int .i64 0, .int .i64 0, .int .i64 0, .int .i64 0, .int .i64 0, .slice none 0 0]), .bool false]) ∧ Below w.heap.size w w' := by
  have HN := Lib.hid (fun W => rnew_ok p c n b r f g W hp hc hn hb hr hf hg)
  have HK := Lib.hid (fun W => check_ok p c n b r f g W hp hc hn hb hr hf hg)
  have dl : decide ((40 : Int) < (ln : Int)) = true := decide_eq_true (by omega)
  clear hp hc hn hb hr hf hg hl
  go_enter Try.func6, Try.ntmps6
  go_wp2_with fail
  have b0 := (Bl.new w [.int .i64 p, .int .i64 c, .int .i64 n, .int .i64 b, .int .i64 r, .int .i64 f, .int .i64 g] 23).below (w' := (w.alloc (.cells (List.toArray [.int .i64 p, .int .i64 c, .int .i64 n, .int .i64 b, .int .i64 r, .int .i64 f, .int .i64 g]) 23)).alloc (.cells (List.toArray [.int .i64 0, .int .i64 0, .int .i64 0, .int .i64 0, .int .i64 0, .int .i64 0, .int .i64 0, .slice none 0 0]) 29)) (by go_grown)
  have b1 := Bl.new (w.alloc (.cells (List.toArray [.int .i64 p, .int .i64 c, .int .i64 n, .int .i64 b, .int .i64 r, .int .i64 f, .int .i64 g]) 23)) [.int .i64 0, .int .i64 0, .int .i64 0, .int .i64 0, .int .i64 0, .int .i64 0, .int .i64 0, .slice none 0 0] 29
  have g0 : Below w.heap.size w ((w.alloc (.cells (List.toArray [.int .i64 p, .int .i64 c, .int .i64 n, .int .i64 b, .int .i64 r, .int .i64 f, .int .i64 g]) 23)).alloc (.cells (List.toArray [.int .i64 0, .int .i64 0, .int .i64 0, .int .i64 0, .int .i64 0, .int .i64 0, .int .i64 0, .slice none 0 0]) 29)) := by go_grown
  rw [World.size_alloc] at b1
  obtain ⟨W, hW⟩ : ∃ W, W = (w.alloc (.cells (List.toArray [.int .i64 p, .int .i64 c, .int .i64 n, .int .i64 b, .int .i64 r, .int .i64 f, .int .i64 g]) 23)).alloc (.cells (List.toArray [.int .i64 0, .int .i64 0, .int .i64 0, .int .i64 0, .int .i64 0, .int .i64 0, .int .i64 0, .slice none 0 0]) 29) := ⟨_, rfl⟩
  rw [← hW] at b0 b1 g0 ⊢
  clear hW
  refine (HN.out _).mono ?_
  rintro e1 w1 ⟨rfl, hb1⟩
  have g1 : Below w1.heap.size w1 (w1.alloc (.cells (List.toArray [.int .i64 p, .int .i64 c, .int .i64 n, .int .i64 b, .int .i64 r, .int .i64 f, .int .i64 g]) 26)) := by go_grown
  have b0' := (b0.below hb1).below g1
  have b1' := (b1.below hb1).below g1
  have g2 := Below.step (Below.step g0 hb1) g1
  obtain ⟨W1, hW1⟩ : ∃ W1, W1 = w1.alloc (.cells (List.toArray [.int .i64 p, .int .i64 c, .int .i64 n, .int .i64 b, .int .i64 r, .int .i64 f, .int .i64 g]) 26) := ⟨_, rfl⟩
  rw [← hW1] at b0' b1' g2
  have HW1 := Lib.hid hW1
  have HB1 := Lib.hid (And.intro b1' g2)
  have r0 := b0'.cell 0 _ rfl
  have r1 := b0'.cell 1 _ rfl
  have r2 := b0'.cell 2 _ rfl
  have r3 := b0'.cell 3 _ rfl
  have r4 := b0'.cell 4 _ rfl
  have r5 := b0'.cell 5 _ rfl
  have r6 := b0'.cell 6 _ rfl
  clear b0 b1 b0' b1' g0 g1 g2 hb1 hW1
  rw [HW1.out] at r0 r1 r2 r3 r4 r5 r6
  go_wp2_with fail
  rw [← HW1.out]
  refine (HK.out _).mono ?_
  rintro e2 w2 ⟨rfl, hb2⟩
  have zb := HB1.out.1.below hb2
  have HZ := Lib.hid (And.intro zb (Below.step HB1.out.2 hb2))
  clear zb hb2 r0 r1 r2 r3 r4 r5 r6
  go_wp2_with (refine wpList_store_bl rfl 29 (.tmp 4) (.tmp 28) rfl (w.heap.size + 1) [.int .i64 0, .int .i64 0, .int .i64 0, .int .i64 0, .int .i64 0, .int .i64 0, .int .i64 0, .slice none 0 0] [.int .i64 0, .int .i64 0, .int .i64 0, .int .i64 0, .int .i64 0, .int .i64 0, .int .i64 0, .slice none 0 0] rfl rfl HZ.out.1 rfl (by kernel_rfl) rfl ?_; intro w8 hb8 hk8 hs8 hbel8; have HF8 := Lib.hid (And.intro hb8 hbel8); clear hb8 hk8 hs8 hbel8)
  refine bodyPost_ret (results_two (ty := 29) rfl _ _ (w.heap.size + 1) [.int .i64 0, .int .i64 0, .int .i64 0, .int .i64 0, .int .i64 0, .int .i64 0, .int .i64 0, .slice none 0 0] _ _ rfl rfl HF8.out.1 Try.underlying29 rfl (by kernel_rfl)) rfl ⟨rfl, HF8.out.2 _ _ (by omega) HZ.out.2⟩
end Go.Proofs.Ytafignfoejefjaa
