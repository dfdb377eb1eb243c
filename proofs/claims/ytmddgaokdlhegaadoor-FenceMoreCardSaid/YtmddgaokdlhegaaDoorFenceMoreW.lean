/-
  With greater limits nothing is refused that was not ahead.
-/
import Derived.Test.YtmddgaokdlhegaaDoorRows
import Derived.Test.YtmddgaokdlhegaaDoorKit
import Derived.Test.YtmddgaokdlhegaaDoorApp
import Derived.Test.YtmddgaokdlhegaaDoorQuiet
import Derived.Test.YtmddgaokdlhegaaDoorFnM
import Derived.Test.YtmddgaokdlhegaaDoorFnO
import Derived.Test.YtmddgaokdlhegaaDoorFnB
import Derived.Test.YtmddgaokdlhegaaDoorAsF
import Derived.Test.YtmddgaokdlhegaaDoorAsC
import Derived.Test.YtmddgaokdlhegaaDoorAsD
import Derived.Test.YtmddgaokdlhegaaDoorAsE
import Derived.Test.YtmddgaokdlhegaaDoorFnR
import Derived.Test.YtmddgaokdlhegaaDoorFnL
import Derived.Test.YtmddgaokdlhegaaDoorFnN
import Derived.Test.YtmddgaokdlhegaaDoorFnKa
import Derived.Test.YtmddgaokdlhegaaDoorFnW
import Derived.Test.YtmddgaokdlhegaaDoorFnV
import Derived.Test.YtmddgaokdlhegaaDoorFnA
import Derived.Test.YtmddgaokdlhegaaDoorFnRules
import Derived.Test.YtmddgaokdlhegaaDoorFmB
import Derived.WalkKit
import Derived.ProofKit
import Derived.OpenShut
import Derived.ShutString
import Derived.Below
import Derived.Outline
import Derived.WalkLawsBesides
import Derived.WalkSpells
import Derived.Handy
import Derived.Deep.QuietTactic
import Derived.BigQuiet
import Derived.RegionTactic
import Derived.ChangeAlike
import Derived.Lib.Hide
import Derived.Laws.Rows
import Derived.Laws.Tables
import Derived.Laws.CopyOwn
import Derived.Laws.MakeOwn
import Derived.Laws.Entries
import Derived.Laws.OwnMore
import Derived.Deep.WholeRow
import Derived.Deep.LoopGhost
import Derived.Deep.AppendLies
import Derived.Deep.Draws
import Derived.Maps.AppendAt
import Derived.OwnWalk
import Derived.Deep.RegionHeld3
import Derived.Deep.Cut
import Derived.Deep.CutRange
import Derived.Deep.DeepCutAuto
import Derived.Deep.CutBlock
import Derived.Lib.SliceRun
import Derived.IntWalk
namespace Go.Proofs.YtmddgaokdlhegaaDoor.fenceMore
open Go.ChangeShapes Go.WideShapes Go.ChangeAt Go.RowKit
theorem new_len (p c n b r f g : Int) (base : Nat) (A : Option Addr) (cp len : Nat) (ls : List Lim) (w : World) (hn : ls.length = len) (h : w.ownsRow base 61 5 (.slice A len cp) len (lv ls)) (hp : (len : Int) = p) (hl : len ≤ 100) (hok : ∀ x ∈ ls, Lok x) : Calls Tryd.prog 8 #[.agg #[.int .i64 p, .int .i64 c, .int .i64 n, .int .i64 b, .int .i64 r, .int .i64 f, .int .i64 g], .slice A len cp] w fun e w' => ∃ F, e = .returned (.tuple #[.pointer (some ⟨F, 0, none⟩), .nilIface]) ∧ FAt w' F w.heap.size ls ∧ Below w.heap.size w w' := by
  subst hn
  exact new_ok p c n b r f g base A cp ls w h hp hl hok
set_option maxRecDepth 100000 in
set_option maxHeartbeats 32000000 in
theorem main (p c n b r f g : Int) (A : Option Addr) (ln cp : Nat) (gv : Nat → Lim) (mo : Int) (kp : Nat) (a : As) (u : Us) (last : Int) (w : World) (hg : w.cell? ⟨0, 0, none⟩ = some (.iface 95 (.agg #[.pointer (some ⟨1, 35, none⟩)]))) (hgl : 0 < w.heap.size) (hp : 1 ≤ p ∧ p ≤ 6) (hc : 1 ≤ c ∧ c ≤ 4) (hn : 1 ≤ n ∧ n ≤ 3) (hb : 1 ≤ b ∧ b ≤ 4) (hr : 0 ≤ r ∧ r ≤ 4) (hf : 1 ≤ f ∧ f ≤ 4) (hg7 : 1 ≤ g ∧ g ≤ 15) (hl : (ln : Int) = p) (hE : LimsAt A ln gv w) (h : ∀ i, i < ln → Lok (gv i)) (hkp : kp < ln) (hmo : 0 ≤ mo ∧ mo ≤ 65535) (hs : ([a.q, a.p, u.o, u.q, u.w, u.n, u.b, u.s, last] : List Int).all smb = true) : Calls Tryd.prog 3 #[.agg #[.int .i64 p, .int .i64 c, .int .i64 n, .int .i64 b, .int .i64 r, .int .i64 f, .int .i64 g], .slice A ln cp, .int .u16 mo, .int .i64 (kp : Int), .agg #[.int .i64 a.k, .int .i64 a.i, .int .i64 a.c, .int .i64 a.n, .int .i64 a.s, .int .i64 a.p, .int .i64 a.l, .int .i64 a.u, .int .i64 a.q], .agg #[.int .i64 u.o, .int .i64 u.q, .int .i64 u.w, .int .i64 u.n, .int .i64 u.b, .int .i64 u.s], .int .i64 last] w fun e w' => e = .returned (.bool true) ∧ Below w.heap.size w w' := by
  obtain ⟨i0, hi0, hz0, hz1, hz2⟩ := info_parts infoR
  have HI0 := Lib.hid hi0
  have HZ0 := Lib.hid hz0
  have HZ1 := Lib.hid hz1
  have HZ2 := Lib.hid hz2
  have HH := Lib.hid h
  have HS := Lib.hid hs
  have hsm : ∀ x ∈ ([a.q, a.p, u.o, u.q, u.w, u.n, u.b, u.s, last] : List Int), sm x := fun x hx => of_decide_eq_true (List.all_eq_true.1 hs x hx)
  have HUS := Lib.hid (show Usm u from ⟨hsm _ (by simp), hsm _ (by simp), hsm _ (by simp), hsm _ (by simp), hsm _ (by simp), hsm _ (by simp)⟩)
  have HSQ := Lib.hid (hsm a.q (by simp))
  have HSP := Lib.hid (hsm a.p (by simp))
  have HSL := Lib.hid (hsm last (by simp))
  have HLN := Lib.hid (show ln ≤ 100 from by omega)
  have HK1 := Lib.hid (show ∀ x ∈ lsn gv ln, Lok x from fun x hx => by
    obtain ⟨i, hi⟩ := List.getElem?_of_mem hx
    have hil : i < ln := by have := (List.getElem?_eq_some_iff.1 hi).1; rw [lsn_len] at this; exact this
    rw [lsn_get gv hil] at hi
    obtain rfl := Option.some.inj hi
    exact h i hil)
  have HG1 := Lib.hid (lsn_get gv hkp)
  have HG2 := Lib.hid (lsn_get (fun i => more (gv i) mo) hkp)
  have HLS1 := Lib.hid (show (lsn gv ln).length ≤ 100 from by rw [lsn_len]; omega)
  have HLS2 := Lib.hid (show (lsn (fun i => more (gv i) mo) ln).length ≤ 100 from by rw [lsn_len]; omega)
  have wmo : IntKind.i64.wrap mo = mo := IntWalk.i64_in _ (by omega)
  have dp : decide ((kp : Int) < 0) = false := decide_eq_false (by omega)
  have dq : decide (p ≤ (kp : Int)) = false := decide_eq_false (by omega)
  clear hs hi0 hz0 hz1 hz2 hsm hkp
  have HN := Lib.hid (fun W => rnew_ok p c n b r f g W hp hc hn hb hr hf hg7)
  have HE := Lib.hid hE
  have dl : ((ln : Int) != p) = false := by simp [hl]
  have l0 : (0 : Int) ≤ (ln : Int) := by omega
  have l1 : (ln : Int) ≤ 6 := by omega
  have HL := Lib.hid hl
  clear hE hl
  clear h
  clear hp hc hn hb hr hf hg7
  have HGG := Lib.hid hg
  clear hg
  go_enter Tryd.func3, Tryd.ntmps3
  go_wp2_with fail
  obtain ⟨W0, hW0⟩ : ∃ W0, W0 = (((w.alloc (.cells (List.toArray [.int .i64 p, .int .i64 c, .int .i64 n, .int .i64 b, .int .i64 r, .int .i64 f, .int .i64 g]) 23)).alloc (.cells (List.toArray [.int .i64 a.k, .int .i64 a.i, .int .i64 a.c, .int .i64 a.n, .int .i64 a.s, .int .i64 a.p, .int .i64 a.l, .int .i64 a.u, .int .i64 a.q]) 29)).alloc (.cells (List.toArray [.int .i64 u.o, .int .i64 u.q, .int .i64 u.w, .int .i64 u.n, .int .i64 u.b, .int .i64 u.s]) 31)) := ⟨_, rfl⟩
  have bC : Bl w.heap.size [.int .i64 p, .int .i64 c, .int .i64 n, .int .i64 b, .int .i64 r, .int .i64 f, .int .i64 g] W0 := by
    rw [hW0]
    have h := ((Bl.new w [.int .i64 p, .int .i64 c, .int .i64 n, .int .i64 b, .int .i64 r, .int .i64 f, .int .i64 g] 23).below (w' := ((w.alloc (.cells (List.toArray [.int .i64 p, .int .i64 c, .int .i64 n, .int .i64 b, .int .i64 r, .int .i64 f, .int .i64 g]) 23)).alloc (.cells (List.toArray [.int .i64 a.k, .int .i64 a.i, .int .i64 a.c, .int .i64 a.n, .int .i64 a.s, .int .i64 a.p, .int .i64 a.l, .int .i64 a.u, .int .i64 a.q]) 29))) (by rw [World.size_alloc]; go_grown)).below (w' := (((w.alloc (.cells (List.toArray [.int .i64 p, .int .i64 c, .int .i64 n, .int .i64 b, .int .i64 r, .int .i64 f, .int .i64 g]) 23)).alloc (.cells (List.toArray [.int .i64 a.k, .int .i64 a.i, .int .i64 a.c, .int .i64 a.n, .int .i64 a.s, .int .i64 a.p, .int .i64 a.l, .int .i64 a.u, .int .i64 a.q]) 29)).alloc (.cells (List.toArray [.int .i64 u.o, .int .i64 u.q, .int .i64 u.w, .int .i64 u.n, .int .i64 u.b, .int .i64 u.s]) 31))) (by go_grown)
    exact h
  have bA : Bl (w.heap.size + 1) [.int .i64 a.k, .int .i64 a.i, .int .i64 a.c, .int .i64 a.n, .int .i64 a.s, .int .i64 a.p, .int .i64 a.l, .int .i64 a.u, .int .i64 a.q] W0 := by
    rw [hW0]
    have h := (Bl.new (w.alloc (.cells (List.toArray [.int .i64 p, .int .i64 c, .int .i64 n, .int .i64 b, .int .i64 r, .int .i64 f, .int .i64 g]) 23)) [.int .i64 a.k, .int .i64 a.i, .int .i64 a.c, .int .i64 a.n, .int .i64 a.s, .int .i64 a.p, .int .i64 a.l, .int .i64 a.u, .int .i64 a.q] 29).below (w' := (((w.alloc (.cells (List.toArray [.int .i64 p, .int .i64 c, .int .i64 n, .int .i64 b, .int .i64 r, .int .i64 f, .int .i64 g]) 23)).alloc (.cells (List.toArray [.int .i64 a.k, .int .i64 a.i, .int .i64 a.c, .int .i64 a.n, .int .i64 a.s, .int .i64 a.p, .int .i64 a.l, .int .i64 a.u, .int .i64 a.q]) 29)).alloc (.cells (List.toArray [.int .i64 u.o, .int .i64 u.q, .int .i64 u.w, .int .i64 u.n, .int .i64 u.b, .int .i64 u.s]) 31))) (by go_grown)
    rw [World.size_alloc] at h
    exact h
  have bU : Bl (w.heap.size + 2) [.int .i64 u.o, .int .i64 u.q, .int .i64 u.w, .int .i64 u.n, .int .i64 u.b, .int .i64 u.s] W0 := by
    rw [hW0]
    have h := Bl.new ((w.alloc (.cells (List.toArray [.int .i64 p, .int .i64 c, .int .i64 n, .int .i64 b, .int .i64 r, .int .i64 f, .int .i64 g]) 23)).alloc (.cells (List.toArray [.int .i64 a.k, .int .i64 a.i, .int .i64 a.c, .int .i64 a.n, .int .i64 a.s, .int .i64 a.p, .int .i64 a.l, .int .i64 a.u, .int .i64 a.q]) 29)) [.int .i64 u.o, .int .i64 u.q, .int .i64 u.w, .int .i64 u.n, .int .i64 u.b, .int .i64 u.s] 31
    rw [World.size_alloc, World.size_alloc] at h
    exact h
  have hB0 : Below w.heap.size w W0 := by rw [hW0]; go_grown
  rw [← hW0]
  clear hW0
  refine (HN.out _).mono ?_
  rintro e1 w1 ⟨rfl, hb1⟩
  have hD1 : Below w1.heap.size w1 (w1.alloc (.cells (List.toArray [.int .i64 p, .int .i64 c, .int .i64 n, .int .i64 b, .int .i64 r, .int .i64 f, .int .i64 g]) 33)) := by go_grown
  have hB1a := Below.step (Below.step hB0 hb1) hD1
  have bC1 := (bC.below hb1).below hD1
  have bA1 := (bA.below hb1).below hD1
  have bU1 := (bU.below hb1).below hD1
  have bR1 := Bl.new w1 [.int .i64 p, .int .i64 c, .int .i64 n, .int .i64 b, .int .i64 r, .int .i64 f, .int .i64 g] 33
  have HB := Lib.hid hB1a
  have c0 : (w1.alloc (.cells (List.toArray [.int .i64 p, .int .i64 c, .int .i64 n, .int .i64 b, .int .i64 r, .int .i64 f, .int .i64 g]) 33)).cell? ⟨w.heap.size, 0, none⟩ = some (.int .i64 p) := bC1.cell 0 _ rfl
  have HC1 := Lib.hid bC1
  have HA1 := Lib.hid bA1
  have HU1 := Lib.hid bU1
  have HR1 := Lib.hid bR1
  clear hb1 hB0 bC bA bU hB1a hD1 bC1 bA1 bU1 bR1
  have hcl := HC1.out.lt
  have HWR := Lib.hid (wrong_is A ln cp gv (by omega) (w1.alloc (.cells (List.toArray [.int .i64 p, .int .i64 c, .int .i64 n, .int .i64 b, .int .i64 r, .int .i64 f, .int .i64 g]) 33)) (HE.out.below HB.out))
  go_wp2_with fail
  refine HWR.out.mono ?_
  rintro e2 w2 ⟨k, rfl, hb2, hk1, hk2⟩
  obtain rfl := hk1 HH.out
  have HB2 := Lib.hid (Below.step HB.out hb2)
  have bC2 := HC1.out.below hb2
  have hcl2 := bC2.lt
  have c0 : w2.cell? ⟨w.heap.size, 0, none⟩ = some (.int .i64 p) := bC2.cell 0 _ rfl
  have HC2 := Lib.hid bC2
  have HA2 := Lib.hid (HA1.out.below hb2)
  have HU2 := Lib.hid (HU1.out.below hb2)
  have HR2 := Lib.hid (HR1.out.below hb2)
  clear hk1 hk2 hb2 bC2 HC1 HA1 HU1 HR1 HWR
  have HSM := Lib.hid (small_is w2.heap.size 9 9 [a.q, a.p, u.o, u.q, u.w, u.n, u.b, u.s, last] rfl (by omega) (w2.alloc (.cells (List.toArray [.int .i64 a.q, .int .i64 a.p, .int .i64 u.o, .int .i64 u.q, .int .i64 u.w, .int .i64 u.n, .int .i64 u.b, .int .i64 u.s, .int .i64 last]) 3)) (fun k x hx => by
    have h := Bl.new w2 [.int .i64 a.q, .int .i64 a.p, .int .i64 u.o, .int .i64 u.q, .int .i64 u.w, .int .i64 u.n, .int .i64 u.b, .int .i64 u.s, .int .i64 last] 3
    refine h.cell k _ ?_
    have h2 : [.int .i64 a.q, .int .i64 a.p, .int .i64 u.o, .int .i64 u.q, .int .i64 u.w, .int .i64 u.n, .int .i64 u.b, .int .i64 u.s, .int .i64 last] = ([a.q, a.p, u.o, u.q, u.w, u.n, u.b, u.s, last] : List Int).map (Value.int .i64) := rfl
    rw [h2, List.getElem?_map, hx]
    rfl))
  have bA2 := HA2.out
  have bU2 := HU2.out
  have hal2 := bA2.lt
  have hul2 := bU2.lt
  have a5 : w2.cell? ⟨w.heap.size + 1, 5, none⟩ = some (.int .i64 a.p) := bA2.cell 5 _ rfl
  have a8 : w2.cell? ⟨w.heap.size + 1, 8, none⟩ = some (.int .i64 a.q) := bA2.cell 8 _ rfl
  have u0' : w2.cell? ⟨w.heap.size + 2, 0, none⟩ = some (.int .i64 u.o) := bU2.cell 0 _ rfl
  have u1' : w2.cell? ⟨w.heap.size + 2, 1, none⟩ = some (.int .i64 u.q) := bU2.cell 1 _ rfl
  have u2' : w2.cell? ⟨w.heap.size + 2, 2, none⟩ = some (.int .i64 u.w) := bU2.cell 2 _ rfl
  have u3' : w2.cell? ⟨w.heap.size + 2, 3, none⟩ = some (.int .i64 u.n) := bU2.cell 3 _ rfl
  have u4' : w2.cell? ⟨w.heap.size + 2, 4, none⟩ = some (.int .i64 u.b) := bU2.cell 4 _ rfl
  have u5' : w2.cell? ⟨w.heap.size + 2, 5, none⟩ = some (.int .i64 u.s) := bU2.cell 5 _ rfl
  clear bA2 bU2
  go_wp2_with fail
  refine HSM.out.mono ?_
  rintro e3 w3 ⟨rfl, rfl⟩
  rw [HS.out]
  have hb3 : Below w2.heap.size w2 (w2.alloc (.cells (List.toArray [.int .i64 a.q, .int .i64 a.p, .int .i64 u.o, .int .i64 u.q, .int .i64 u.w, .int .i64 u.n, .int .i64 u.b, .int .i64 u.s, .int .i64 last]) 3)) := by go_grown
  have HB3 := Lib.hid (Below.step HB2.out hb3)
  have HR3 := Lib.hid (HR2.out.below hb3)
  have HA3 := Lib.hid (HA2.out.below hb3)
  have HU3 := Lib.hid (HU2.out.below hb3)
  have HE3 := Lib.hid ((HE.out.below (Below.step HB2.out hb3)))
  clear a5 a8 u0' u1' u2' u3' u4' u5' HSM hb3 hal2 hul2 hcl hcl2 c0 dp dq dl HR2 HA2 HU2 HC2 HB2 HB HE HS HN
  generalize w2.alloc (.cells (List.toArray [.int .i64 a.q, .int .i64 a.p, .int .i64 u.o, .int .i64 u.q, .int .i64 u.w, .int .i64 u.n, .int .i64 u.b, .int .i64 u.s, .int .i64 last]) 3) = W3 at *
  go_wp2_with fail
  go_loopw [17, 19, 20, 81] (fun s _ _ i wr => ∃ (k : Nat) (Az : Option Addr) (cz : Nat), k ≤ ln ∧ i = .int .i64 (k : Int) ∧ s = .slice Az k cz ∧ Hid (wr.ownsRow W3.heap.size 42 5 (.slice Az k cz) k (lv (lsn (fun i => more (gv i) mo) k)) ∧ Below W3.heap.size W3 wr ∧ ∀ j, j < k → Lok (more (gv j) mo))) (fun _ _ _ i _ => ln + 1 - (intOf i).toNat)
  case atStart => exact ⟨0, none, 0, Nat.zero_le _, rfl, rfl, Lib.hid ⟨World.ownsRow_nil _ _ _ _, Below.refl _ _, fun j h => absurd h (Nat.not_lt_zero _)⟩⟩
  case round =>
    obtain ⟨k, Az, cz, hk, rfl, rfl, HS⟩ := hrel
    have k0 : (0 : Int) ≤ (k : Int) := by omega
    by_cases hkn : k < ln
    · have k1 : (k : Int) < (ln : Int) := by omega
      obtain ⟨ad, rfl, hab, hcs⟩ := (HE3.out.below HS.out.2.1) (by omega)
      have hc := hcs k hkn
      have HOKX := Lib.hid (HH.out k hkn)
      have HSN := Lib.hid (show lsn (fun i => more (gv i) mo) (k + 1) = lsn (fun i => more (gv i) mo) k ++ [more (gv k) mo] from lsn_succ _ k)
      obtain ⟨x, hx⟩ : ∃ x, x = gv k := ⟨_, rfl⟩
      rw [← hx] at hc HOKX HSN
      have HX := Lib.hid hx
      clear hcs hab hx
      have q0' : wr.cell? (ad.add (k * 5)) = some (.int .i64 x.o) := hc 0 _ rfl
      have q1' : wr.cell? ⟨(ad.add (k * 5)).block, (ad.add (k * 5)).off + 1, none⟩ = some (.int .i64 x.q) := by rw [← addp _ 1 (by decide) (World.cell?_spot q0'), add_of_add]; exact hc 1 _ rfl
      have q2' : wr.cell? ⟨(ad.add (k * 5)).block, (ad.add (k * 5)).off + 2, none⟩ = some (.int .i64 x.w) := by rw [← addp _ 2 (by decide) (World.cell?_spot q0'), add_of_add]; exact hc 2 _ rfl
      have q3' : wr.cell? ⟨(ad.add (k * 5)).block, (ad.add (k * 5)).off + 3, none⟩ = some (.int .i64 x.n) := by rw [← addp _ 3 (by decide) (World.cell?_spot q0'), add_of_add]; exact hc 3 _ rfl
      have q4' : wr.cell? ⟨(ad.add (k * 5)).block, (ad.add (k * 5)).off + 4, none⟩ = some (.int .i64 x.p) := by rw [← addp _ 4 (by decide) (World.cell?_spot q0'), add_of_add]; exact hc 4 _ rfl
      clear hc
      have HBX := Lib.hid ((Below.step HB3.out HS.out.2.1).alloc (Below.step HB3.out HS.out.2.1).size (.cells (List.toArray [.int .i64 x.o, .int .i64 x.q, .int .i64 x.w, .int .i64 x.n, .int .i64 x.p]) 42))
      have HM := Lib.hid hmo
      by_cases h0 : 1073741824 < x.o
      · have d0 : decide (1073741824 < x.o) = true := decide_eq_true (by omega)
        clear HM HOKX
        clear h0
        go_wp2_with fail
        refine (awake_is _ (((HBX.out).cell (p := ⟨0, 0, none⟩) hgl).trans HGG.out) (Nat.lt_of_lt_of_le hgl (HBX.out).size)).mono ?_
        rintro e9 w9 ⟨rfl, hb9⟩
        go_wp2_with fail
        go_ret
        exact ⟨rfl, Below.step (HBX.out) hb9⟩

      · by_cases h1 : 1073741824 < x.q
        · have d0 : decide (1073741824 < x.o) = false := decide_eq_false (by omega)
          have d1 : decide (1073741824 < x.q) = true := decide_eq_true (by omega)
          clear HM HOKX
          clear h0 h1
          go_wp2_with fail
          refine (awake_is _ (((HBX.out).cell (p := ⟨0, 0, none⟩) hgl).trans HGG.out) (Nat.lt_of_lt_of_le hgl (HBX.out).size)).mono ?_
          rintro e9 w9 ⟨rfl, hb9⟩
          go_wp2_with fail
          go_ret
          exact ⟨rfl, Below.step (HBX.out) hb9⟩

        · by_cases h2 : 1073741824 < x.w
          · have d0 : decide (1073741824 < x.o) = false := decide_eq_false (by omega)
            have d1 : decide (1073741824 < x.q) = false := decide_eq_false (by omega)
            have d2 : decide (1073741824 < x.w) = true := decide_eq_true (by omega)
            clear HM HOKX
            clear h0 h1 h2
            go_wp2_with fail
            refine (awake_is _ (((HBX.out).cell (p := ⟨0, 0, none⟩) hgl).trans HGG.out) (Nat.lt_of_lt_of_le hgl (HBX.out).size)).mono ?_
            rintro e9 w9 ⟨rfl, hb9⟩
            go_wp2_with fail
            go_ret
            exact ⟨rfl, Below.step (HBX.out) hb9⟩

          · by_cases h3 : 1073741824 < x.n
            · have d0 : decide (1073741824 < x.o) = false := decide_eq_false (by omega)
              have d1 : decide (1073741824 < x.q) = false := decide_eq_false (by omega)
              have d2 : decide (1073741824 < x.w) = false := decide_eq_false (by omega)
              have d3 : decide (1073741824 < x.n) = true := decide_eq_true (by omega)
              clear HM HOKX
              clear h0 h1 h2 h3
              go_wp2_with fail
              refine (awake_is _ (((HBX.out).cell (p := ⟨0, 0, none⟩) hgl).trans HGG.out) (Nat.lt_of_lt_of_le hgl (HBX.out).size)).mono ?_
              rintro e9 w9 ⟨rfl, hb9⟩
              go_wp2_with fail
              go_ret
              exact ⟨rfl, Below.step (HBX.out) hb9⟩

            · by_cases h4 : 1073741824 < x.p
              · have d0 : decide (1073741824 < x.o) = false := decide_eq_false (by omega)
                have d1 : decide (1073741824 < x.q) = false := decide_eq_false (by omega)
                have d2 : decide (1073741824 < x.w) = false := decide_eq_false (by omega)
                have d3 : decide (1073741824 < x.n) = false := decide_eq_false (by omega)
                have d4 : decide (1073741824 < x.p) = true := decide_eq_true (by omega)
                clear HM HOKX
                clear h0 h1 h2 h3 h4
                go_wp2_with fail
                refine (awake_is _ (((HBX.out).cell (p := ⟨0, 0, none⟩) hgl).trans HGG.out) (Nat.lt_of_lt_of_le hgl (HBX.out).size)).mono ?_
                rintro e9 w9 ⟨rfl, hb9⟩
                go_wp2_with fail
                go_ret
                exact ⟨rfl, Below.step (HBX.out) hb9⟩

              · have d0 : decide (1073741824 < x.o) = false := decide_eq_false (by omega)
                have d1 : decide (1073741824 < x.q) = false := decide_eq_false (by omega)
                have d2 : decide (1073741824 < x.w) = false := decide_eq_false (by omega)
                have d3 : decide (1073741824 < x.n) = false := decide_eq_false (by omega)
                have d4 : decide (1073741824 < x.p) = false := decide_eq_false (by omega)
                have wf0 : IntKind.i64.wrap (x.o + mo) = x.o + mo := IntWalk.i64_in _ (by have := HOKX.out.o.1; omega)
                have wf1 : IntKind.i64.wrap (x.q + mo) = x.q + mo := IntWalk.i64_in _ (by have := HOKX.out.q.1; omega)
                have wf2 : IntKind.i64.wrap (x.w + mo) = x.w + mo := IntWalk.i64_in _ (by have := HOKX.out.w.1; omega)
                have wf3 : IntKind.i64.wrap (x.n + mo) = x.n + mo := IntWalk.i64_in _ (by have := HOKX.out.n.1; omega)
                have wf4 : IntKind.i64.wrap (x.p + mo) = x.p + mo := IntWalk.i64_in _ (by have := HOKX.out.p.1; omega)
                have HMK := Lib.hid (show Lok (more x mo) from ⟨⟨by have := HOKX.out.o.1; show 0 ≤ x.o + mo; omega, by show x.o + mo ≤ 1099511627776; omega⟩, ⟨by have := HOKX.out.q.1; show 0 ≤ x.q + mo; omega, by show x.q + mo ≤ 1099511627776; omega⟩, ⟨by have := HOKX.out.w.1; show 0 ≤ x.w + mo; omega, by show x.w + mo ≤ 1099511627776; omega⟩, ⟨by have := HOKX.out.n.1; show 0 ≤ x.n + mo; omega, by show x.n + mo ≤ 1099511627776; omega⟩, ⟨by have := HOKX.out.p.1; show 0 ≤ x.p + mo; omega, by show x.p + mo ≤ 1099511627776; omega⟩⟩)
                clear h0 h1 h2 h3 h4
                have HO1 := Lib.hid (World.ownsRow.alloc (World.ownsRow.alloc HS.out.1 (.cells (List.toArray [.int .i64 x.o, .int .i64 x.q, .int .i64 x.w, .int .i64 x.n, .int .i64 x.p]) 42)) (Obj.cells (List.toArray [.int .i64 (x.o + mo), .int .i64 (x.q + mo), .int .i64 (x.w + mo), .int .i64 (x.n + mo), .int .i64 (x.p + mo)]) 42))
                have HRD := Lib.hid (reads_newN (wr.alloc (.cells (List.toArray [.int .i64 x.o, .int .i64 x.q, .int .i64 x.w, .int .i64 x.n, .int .i64 x.p]) 42)) 1 5 (lc (more x mo)) 42 rfl)
                have NV := Lib.hid (lc_one (more x mo))
                have N1 := Lib.hid (show k + 1 ≤ maxLen from by unfold maxLen; omega)
                have N2 := Lib.hid (show (k + 1) * 40 ≤ 140737488355328 from by omega)
                have N3 := Lib.hid (show W3.heap.size ≤ ((wr.alloc (.cells (List.toArray [.int .i64 x.o, .int .i64 x.q, .int .i64 x.w, .int .i64 x.n, .int .i64 x.p]) 42)).alloc (Obj.cells (List.toArray [.int .i64 (x.o + mo), .int .i64 (x.q + mo), .int .i64 (x.w + mo), .int .i64 (x.n + mo), .int .i64 (x.p + mo)]) 42)).heap.size from by have := HS.out.2.1.size; rw [World.size_alloc, World.size_alloc]; omega)
                go_wp2_with (at_builtin; refine wpList_append_any _ rfl (.tmp 111) (.tmp 133) 24 rfl W3.heap.size 42 i0 (Value.agg #[.int .i64 0, .int .i64 0, .int .i64 0, .int .i64 0, .int .i64 0]) 5 40 Tryd.underlying24 HI0.out HZ0.out HZ1.out HZ2.out rfl (by decide) _ k (lv (lsn (fun i => more (gv i) mo) k)) rfl HO1.out _ (some ⟨wr.heap.size + 1, 0, none⟩) 1 1 _ rfl (by rw [← World.size_alloc wr (.cells (List.toArray [.int .i64 x.o, .int .i64 x.q, .int .i64 x.w, .int .i64 x.n, .int .i64 x.p]) 42)]; exact HRD.out) NV.out N1.out N2.out N3.out ?_; intro v3 w8 hown8 hgrow8 hblk8; have HP := Lib.hid (And.intro hown8 hgrow8); clear hown8 hgrow8 hblk8)
                go_roundw
                case rel =>
                  obtain ⟨A3, c3, hv⟩ := oshape HP.out.1
                  refine ⟨k + 1, A3, c3, by omega, by go_num, hv, Lib.hid ⟨?_, ?_, ?_⟩⟩
                  · rw [HSN.out, lv_snoc, ← hv]
                    exact HP.out.1
                  · exact Below.grown ((HS.out.2.1.alloc HS.out.2.1.size (.cells (List.toArray [.int .i64 x.o, .int .i64 x.q, .int .i64 x.w, .int .i64 x.n, .int .i64 x.p]) 42)).alloc (HS.out.2.1.alloc HS.out.2.1.size (.cells (List.toArray [.int .i64 x.o, .int .i64 x.q, .int .i64 x.w, .int .i64 x.n, .int .i64 x.p]) 42)).size (Obj.cells (List.toArray [.int .i64 (x.o + mo), .int .i64 (x.q + mo), .int .i64 (x.w + mo), .int .i64 (x.n + mo), .int .i64 (x.p + mo)]) 42)) HP.out.2 N3.out (fun j e => (HS.out.1.lt j e).1)
                  · intro j hj
                    rcases Nat.lt_or_ge j k with h3 | h3
                    · exact HS.out.2.2 j h3
                    · obtain rfl : j = k := by omega
                      rw [← HX.out]
                      exact HMK.out
                case measure => simp [intOf]; omega

    · obtain rfl : k = ln := by omega
      have hd : decide ((k : Int) < (k : Int)) = false := decide_eq_false (by omega)
      have HGR := Lib.hid HS.out.1
      have HBR := Lib.hid HS.out.2.1
      have HMO := Lib.hid HS.out.2.2
      have HRR := Lib.hid (HR3.out.below HBR.out)
      have HAR := Lib.hid (HA3.out.below HBR.out)
      have HUR := Lib.hid (HU3.out.below HBR.out)
      have HER := Lib.hid (HE3.out.below HBR.out)
      have HWR3 := Lib.hid (Below.step HB3.out HBR.out)
      clear HS HR3 HA3 HU3 HE3 HBR HB3
      go_wp2_with fail
      have HK2 := Lib.hid (show ∀ x ∈ lsn (fun i => more (gv i) mo) k, Lok x from fun x hx => by
        obtain ⟨i, hi⟩ := List.getElem?_of_mem hx
        have hil : i < k := by have := (List.getElem?_eq_some_iff.1 hi).1; rw [lsn_len] at this; exact this
        rw [lsn_get (fun i => more (gv i) mo) hil] at hi
        obtain rfl := Option.some.inj hi
        exact HMO.out i hil)
      have hHeld : Bl w1.heap.size [.int .i64 p, .int .i64 c, .int .i64 n, .int .i64 b, .int .i64 r, .int .i64 f, .int .i64 g] wr.drew := HRR.out
      refine wp_region_held_drew (S := fun w' => Bl w1.heap.size [.int .i64 p, .int .i64 c, .int .i64 n, .int .i64 b, .int .i64 r, .int .i64 f, .int .i64 g] w') (by kernel_rfl) hHeld (fun hHeld => ?_)
      refine wpAnyH_take (i := 0) (oi := { dst := some 137, op := Op.load 33 (Operand.tmp 15), type := 33, pos := "law.go:168", after := #[], guard := none }) (v := ?_) rfl (by as_aux_lemma => kernel_rfl) (by as_aux_lemma => kernel_rfl) (by as_aux_lemma => kernel_rfl) (fun _ _ _ h => h) (Or.inl ⟨by rfl, ?_⟩) (by assumption) ?_
      rotate_left
      · intro wq hSw
        have h0 : wq.cell? ⟨w1.heap.size, 0, none⟩ = some (.int .i64 p) := hSw.cell 0 _ rfl
        have h1 : wq.cell? ⟨w1.heap.size, 1, none⟩ = some (.int .i64 c) := hSw.cell 1 _ rfl
        have h2 : wq.cell? ⟨w1.heap.size, 2, none⟩ = some (.int .i64 n) := hSw.cell 2 _ rfl
        have h3 : wq.cell? ⟨w1.heap.size, 3, none⟩ = some (.int .i64 b) := hSw.cell 3 _ rfl
        have h4 : wq.cell? ⟨w1.heap.size, 4, none⟩ = some (.int .i64 r) := hSw.cell 4 _ rfl
        have h5 : wq.cell? ⟨w1.heap.size, 5, none⟩ = some (.int .i64 f) := hSw.cell 5 _ rfl
        have h6 : wq.cell? ⟨w1.heap.size, 6, none⟩ = some (.int .i64 g) := hSw.cell 6 _ rfl
        go_simp
        try with_reducible rfl
      simp only [Act.put, List.setIfInBounds_toArray, List.set_cons_zero, List.set_cons_succ]
      refine wpAnyH_take (i := 1) (oi := { dst := some 138, op := Op.move (Operand.tmp 1), type := 24, pos := "law.go:168", after := #[], guard := none }) (v := ?_) rfl (by as_aux_lemma => kernel_rfl) (by as_aux_lemma => kernel_rfl) (by as_aux_lemma => kernel_rfl) (fun _ _ _ h => h) (Or.inl ⟨by rfl, ?_⟩) (by assumption) ?_
      rotate_left
      · intro wq hSw
        go_simp
        try with_reducible rfl
      simp only [Act.put, List.setIfInBounds_toArray, List.set_cons_zero, List.set_cons_succ]
      refine wpAnyH_ready (rs := [2]) (by as_aux_lemma => kernel_rfl) (by simp) ?_
      refine AllReadyH.cons (o := { dst := some 139, op := Op.call { callee := Callee.value (Operand.func 9), args := #[Operand.tmp 138], argTypes := #[24] }, type := 46, pos := "law.go:168", after := #[{ on := 1, ground := Ground.data }], guard := none }) rfl (fun K hK => ?_) AllReadyH.nil
      go_simp
      go_at_call 9
      refine (limits_is A k cp gv HLN.out _ (show LimsAt A k gv wr.drew from HER.out)).mono ?_
      rintro ey wy1 ⟨A1, c1, rfl, ho1, hby1⟩
      have HO1 := Lib.hid ho1
      have HYY1 := Lib.hid (show Below wr.heap.size wr wy1 from Below.step (Below.drew (Below.refl _ _)) hby1)
      have HY1 := Lib.hid (show Below w.heap.size w wy1 from Below.step (Below.drew HWR3.out) hby1)
      refine hK.out _ _ (hHeld.below hby1) (fun hHeld => ?_)
      clear hK K ho1 hby1
      try simp only [Act.put, List.setIfInBounds_toArray, List.set_cons_zero, List.set_cons_succ]
      refine wpAnyH_ready (rs := [3]) (by as_aux_lemma => kernel_rfl) (by simp) ?_
      refine AllReadyH.cons (o := { dst := some 140, op := Op.call { callee := Callee.value (Operand.func 8), args := #[Operand.tmp 137, Operand.tmp 139], argTypes := #[33, 46] }, type := 44, pos := "law.go:168", after := #[{ on := 0, ground := Ground.data }, { on := 2, ground := Ground.data }, { on := 2, ground := Ground.chain }], guard := none }) rfl (fun K hK => ?_) AllReadyH.nil
      go_simp
      go_at_call 8
      refine (new_len p c n b r f g _ A1 c1 k (lsn gv k) wy1 (lsn_len _ _) HO1.out HL.out HLN.out HK1.out).mono ?_
      rintro ez wz1 ⟨F1, rfl, hF1, hbz1⟩
      have HF1 := Lib.hid hF1
      have HZ1 := Lib.hid (Below.step HY1.out hbz1)
      have BTOT1 := Lib.hid (show Below wr.heap.size wr wz1 from Below.step HYY1.out hbz1)
      refine hK.out _ _ (hHeld.below hbz1) (fun hHeld => ?_)
      clear hK K hF1 hbz1
      try simp only [Act.put, List.setIfInBounds_toArray, List.set_cons_zero, List.set_cons_succ]
      refine wpAnyH_take (i := 4) (oi := { dst := some 136, op := Op.move (Operand.tmp 140), type := 44, pos := "law.go:168", after := #[{ on := 3, ground := Ground.data }], guard := none }) (v := ?_) rfl (by as_aux_lemma => kernel_rfl) (by as_aux_lemma => kernel_rfl) (by as_aux_lemma => kernel_rfl) (fun _ _ _ h => h) (Or.inl ⟨by rfl, ?_⟩) (by assumption) ?_
      rotate_left
      · intro wq hSw
        go_simp
        try with_reducible rfl
      simp only [Act.put, List.setIfInBounds_toArray, List.set_cons_zero, List.set_cons_succ]
      refine wpAnyH_take (i := 5) (oi := { dst := some 141, op := Op.extract (Operand.tmp 136) 0, type := 43, pos := "law.go:168", after := #[{ on := 4, ground := Ground.data }], guard := none }) (v := ?_) rfl (by as_aux_lemma => kernel_rfl) (by as_aux_lemma => kernel_rfl) (by as_aux_lemma => kernel_rfl) (fun _ _ _ h => h) (Or.inl ⟨by rfl, ?_⟩) (by assumption) ?_
      rotate_left
      · intro wq hSw
        go_simp
        try with_reducible rfl
      simp only [Act.put, List.setIfInBounds_toArray, List.set_cons_zero, List.set_cons_succ]
      refine wpAnyH_take (i := 6) (oi := { dst := some 142, op := Op.extract (Operand.tmp 136) 1, type := 35, pos := "law.go:168", after := #[{ on := 4, ground := Ground.data }, { on := 7, ground := Ground.gcOnly Departure.lateStores }], guard := none }) (v := ?_) rfl (by as_aux_lemma => kernel_rfl) (by as_aux_lemma => kernel_rfl) (by as_aux_lemma => kernel_rfl) (fun _ _ _ h => h) (Or.inl ⟨by rfl, ?_⟩) (by assumption) ?_
      rotate_left
      · intro wq hSw
        go_simp
        try with_reducible rfl
      simp only [Act.put, List.setIfInBounds_toArray, List.set_cons_zero, List.set_cons_succ]
      refine wpAnyH_take (i := 7) (oi := { dst := some 21, op := Op.assign (Operand.tmp 141), type := 43, pos := "law.go:168", after := #[{ on := 5, ground := Ground.data }, { on := 3, ground := Ground.chain }, { on := 0, ground := Ground.phase }, { on := 1, ground := Ground.phase }, { on := 2, ground := Ground.phase }, { on := 3, ground := Ground.phase }, { on := 4, ground := Ground.phase }, { on := 5, ground := Ground.phase }, { on := 6, ground := Ground.textOnly Departure.lateStores }], guard := none }) (v := ?_) rfl (by as_aux_lemma => kernel_rfl) (by as_aux_lemma => kernel_rfl) (by as_aux_lemma => kernel_rfl) (fun _ _ _ h => h) (Or.inl ⟨by rfl, ?_⟩) (by assumption) ?_
      rotate_left
      · intro wq hSw
        go_simp
        try with_reducible rfl
      simp only [Act.put, List.setIfInBounds_toArray, List.set_cons_zero, List.set_cons_succ]
      refine wpAnyH_take (i := 8) (oi := { dst := some 22, op := Op.assign (Operand.tmp 142), type := 35, pos := "law.go:168", after := #[{ on := 6, ground := Ground.data }, { on := 7, ground := Ground.chain }, { on := 0, ground := Ground.phase }, { on := 1, ground := Ground.phase }, { on := 2, ground := Ground.phase }, { on := 3, ground := Ground.phase }, { on := 4, ground := Ground.phase }, { on := 5, ground := Ground.phase }, { on := 6, ground := Ground.phase }, { on := 7, ground := Ground.phase }], guard := none }) (v := ?_) rfl (by as_aux_lemma => kernel_rfl) (by as_aux_lemma => kernel_rfl) (by as_aux_lemma => kernel_rfl) (fun _ _ _ h => h) (Or.inl ⟨by rfl, ?_⟩) (by assumption) ?_
      rotate_left
      · intro wq hSw
        go_simp
        try with_reducible rfl
      simp only [Act.put, List.setIfInBounds_toArray, List.set_cons_zero, List.set_cons_succ]
      refine wpAnyH_done (by as_aux_lemma => kernel_rfl) ?_ _
      go_wp2_with fail
      have HR2' := Lib.hid hHeld
      have HE2' := Lib.hid (show LimsAt Az k (fun i => more (gv i) mo) wz1 from LimsAt.row (rkept HGR.out BTOT1.out))
      clear hHeld
      have hHeld : Bl w1.heap.size [.int .i64 p, .int .i64 c, .int .i64 n, .int .i64 b, .int .i64 r, .int .i64 f, .int .i64 g] wz1.drew := HR2'.out
      refine wp_region_held_drew (S := fun w' => Bl w1.heap.size [.int .i64 p, .int .i64 c, .int .i64 n, .int .i64 b, .int .i64 r, .int .i64 f, .int .i64 g] w') (by kernel_rfl) hHeld (fun hHeld => ?_)
      refine wpAnyH_take (i := 0) (oi := { dst := some 144, op := Op.load 33 (Operand.tmp 15), type := 33, pos := "law.go:169", after := #[], guard := none }) (v := ?_) rfl (by as_aux_lemma => kernel_rfl) (by as_aux_lemma => kernel_rfl) (by as_aux_lemma => kernel_rfl) (fun _ _ _ h => h) (Or.inl ⟨by rfl, ?_⟩) (by assumption) ?_
      rotate_left
      · intro wq hSw
        have h0 : wq.cell? ⟨w1.heap.size, 0, none⟩ = some (.int .i64 p) := hSw.cell 0 _ rfl
        have h1 : wq.cell? ⟨w1.heap.size, 1, none⟩ = some (.int .i64 c) := hSw.cell 1 _ rfl
        have h2 : wq.cell? ⟨w1.heap.size, 2, none⟩ = some (.int .i64 n) := hSw.cell 2 _ rfl
        have h3 : wq.cell? ⟨w1.heap.size, 3, none⟩ = some (.int .i64 b) := hSw.cell 3 _ rfl
        have h4 : wq.cell? ⟨w1.heap.size, 4, none⟩ = some (.int .i64 r) := hSw.cell 4 _ rfl
        have h5 : wq.cell? ⟨w1.heap.size, 5, none⟩ = some (.int .i64 f) := hSw.cell 5 _ rfl
        have h6 : wq.cell? ⟨w1.heap.size, 6, none⟩ = some (.int .i64 g) := hSw.cell 6 _ rfl
        go_simp
        try with_reducible rfl
      simp only [Act.put, List.setIfInBounds_toArray, List.set_cons_zero, List.set_cons_succ]
      refine wpAnyH_take (i := 1) (oi := { dst := some 145, op := Op.move (Operand.tmp 17), type := 24, pos := "law.go:169", after := #[], guard := none }) (v := ?_) rfl (by as_aux_lemma => kernel_rfl) (by as_aux_lemma => kernel_rfl) (by as_aux_lemma => kernel_rfl) (fun _ _ _ h => h) (Or.inl ⟨by rfl, ?_⟩) (by assumption) ?_
      rotate_left
      · intro wq hSw
        go_simp
        try with_reducible rfl
      simp only [Act.put, List.setIfInBounds_toArray, List.set_cons_zero, List.set_cons_succ]
      refine wpAnyH_ready (rs := [2]) (by as_aux_lemma => kernel_rfl) (by simp) ?_
      refine AllReadyH.cons (o := { dst := some 146, op := Op.call { callee := Callee.value (Operand.func 9), args := #[Operand.tmp 145], argTypes := #[24] }, type := 46, pos := "law.go:169", after := #[{ on := 1, ground := Ground.data }], guard := none }) rfl (fun K hK => ?_) AllReadyH.nil
      go_simp
      go_at_call 9
      refine (limits_is Az k cz (fun i => more (gv i) mo) HLN.out _ (show LimsAt Az k (fun i => more (gv i) mo) wz1.drew from HE2'.out)).mono ?_
      rintro ey wy2 ⟨A2, c2, rfl, ho2, hby2⟩
      have HO2 := Lib.hid ho2
      have HYY2 := Lib.hid (show Below wz1.heap.size wz1 wy2 from Below.step (Below.drew (Below.refl _ _)) hby2)
      have HY2 := Lib.hid (show Below w.heap.size w wy2 from Below.step (Below.drew HZ1.out) hby2)
      refine hK.out _ _ (hHeld.below hby2) (fun hHeld => ?_)
      clear hK K ho2 hby2
      try simp only [Act.put, List.setIfInBounds_toArray, List.set_cons_zero, List.set_cons_succ]
      refine wpAnyH_ready (rs := [3]) (by as_aux_lemma => kernel_rfl) (by simp) ?_
      refine AllReadyH.cons (o := { dst := some 147, op := Op.call { callee := Callee.value (Operand.func 8), args := #[Operand.tmp 144, Operand.tmp 146], argTypes := #[33, 46] }, type := 44, pos := "law.go:169", after := #[{ on := 0, ground := Ground.data }, { on := 2, ground := Ground.data }, { on := 2, ground := Ground.chain }], guard := none }) rfl (fun K hK => ?_) AllReadyH.nil
      go_simp
      go_at_call 8
      refine (new_len p c n b r f g _ A2 c2 k (lsn (fun i => more (gv i) mo) k) wy2 (lsn_len _ _) HO2.out HL.out HLN.out HK2.out).mono ?_
      rintro ez wz2 ⟨F2, rfl, hF2, hbz2⟩
      have HF2 := Lib.hid hF2
      have HZ2 := Lib.hid (Below.step HY2.out hbz2)
      have BTOT2 := Lib.hid (show Below wz1.heap.size wz1 wz2 from Below.step HYY2.out hbz2)
      refine hK.out _ _ (hHeld.below hbz2) (fun hHeld => ?_)
      clear hK K hF2 hbz2
      try simp only [Act.put, List.setIfInBounds_toArray, List.set_cons_zero, List.set_cons_succ]
      refine wpAnyH_take (i := 4) (oi := { dst := some 143, op := Op.move (Operand.tmp 147), type := 44, pos := "law.go:169", after := #[{ on := 3, ground := Ground.data }], guard := none }) (v := ?_) rfl (by as_aux_lemma => kernel_rfl) (by as_aux_lemma => kernel_rfl) (by as_aux_lemma => kernel_rfl) (fun _ _ _ h => h) (Or.inl ⟨by rfl, ?_⟩) (by assumption) ?_
      rotate_left
      · intro wq hSw
        go_simp
        try with_reducible rfl
      simp only [Act.put, List.setIfInBounds_toArray, List.set_cons_zero, List.set_cons_succ]
      refine wpAnyH_take (i := 5) (oi := { dst := some 148, op := Op.extract (Operand.tmp 143) 0, type := 43, pos := "law.go:169", after := #[{ on := 4, ground := Ground.data }], guard := none }) (v := ?_) rfl (by as_aux_lemma => kernel_rfl) (by as_aux_lemma => kernel_rfl) (by as_aux_lemma => kernel_rfl) (fun _ _ _ h => h) (Or.inl ⟨by rfl, ?_⟩) (by assumption) ?_
      rotate_left
      · intro wq hSw
        go_simp
        try with_reducible rfl
      simp only [Act.put, List.setIfInBounds_toArray, List.set_cons_zero, List.set_cons_succ]
      refine wpAnyH_take (i := 6) (oi := { dst := some 149, op := Op.extract (Operand.tmp 143) 1, type := 35, pos := "law.go:169", after := #[{ on := 4, ground := Ground.data }, { on := 7, ground := Ground.gcOnly Departure.lateStores }], guard := none }) (v := ?_) rfl (by as_aux_lemma => kernel_rfl) (by as_aux_lemma => kernel_rfl) (by as_aux_lemma => kernel_rfl) (fun _ _ _ h => h) (Or.inl ⟨by rfl, ?_⟩) (by assumption) ?_
      rotate_left
      · intro wq hSw
        go_simp
        try with_reducible rfl
      simp only [Act.put, List.setIfInBounds_toArray, List.set_cons_zero, List.set_cons_succ]
      refine wpAnyH_take (i := 7) (oi := { dst := some 23, op := Op.assign (Operand.tmp 148), type := 43, pos := "law.go:169", after := #[{ on := 5, ground := Ground.data }, { on := 3, ground := Ground.chain }, { on := 0, ground := Ground.phase }, { on := 1, ground := Ground.phase }, { on := 2, ground := Ground.phase }, { on := 3, ground := Ground.phase }, { on := 4, ground := Ground.phase }, { on := 5, ground := Ground.phase }, { on := 6, ground := Ground.textOnly Departure.lateStores }], guard := none }) (v := ?_) rfl (by as_aux_lemma => kernel_rfl) (by as_aux_lemma => kernel_rfl) (by as_aux_lemma => kernel_rfl) (fun _ _ _ h => h) (Or.inl ⟨by rfl, ?_⟩) (by assumption) ?_
      rotate_left
      · intro wq hSw
        go_simp
        try with_reducible rfl
      simp only [Act.put, List.setIfInBounds_toArray, List.set_cons_zero, List.set_cons_succ]
      refine wpAnyH_take (i := 8) (oi := { dst := some 24, op := Op.assign (Operand.tmp 149), type := 35, pos := "law.go:169", after := #[{ on := 6, ground := Ground.data }, { on := 7, ground := Ground.chain }, { on := 0, ground := Ground.phase }, { on := 1, ground := Ground.phase }, { on := 2, ground := Ground.phase }, { on := 3, ground := Ground.phase }, { on := 4, ground := Ground.phase }, { on := 5, ground := Ground.phase }, { on := 6, ground := Ground.phase }, { on := 7, ground := Ground.phase }], guard := none }) (v := ?_) rfl (by as_aux_lemma => kernel_rfl) (by as_aux_lemma => kernel_rfl) (by as_aux_lemma => kernel_rfl) (fun _ _ _ h => h) (Or.inl ⟨by rfl, ?_⟩) (by assumption) ?_
      rotate_left
      · intro wq hSw
        go_simp
        try with_reducible rfl
      simp only [Act.put, List.setIfInBounds_toArray, List.set_cons_zero, List.set_cons_succ]
      refine wpAnyH_done (by as_aux_lemma => kernel_rfl) ?_ _
      have bA2 := (HAR.out.below BTOT1.out).below BTOT2.out
      have hal := bA2.lt
      have qa0 : wz2.cell? ⟨w.heap.size + 1, 0, none⟩ = some (.int .i64 a.k) := bA2.cell 0 _ rfl
      have qa1 : wz2.cell? ⟨w.heap.size + 1, 1, none⟩ = some (.int .i64 a.i) := bA2.cell 1 _ rfl
      have qa2 : wz2.cell? ⟨w.heap.size + 1, 2, none⟩ = some (.int .i64 a.c) := bA2.cell 2 _ rfl
      have qa3 : wz2.cell? ⟨w.heap.size + 1, 3, none⟩ = some (.int .i64 a.n) := bA2.cell 3 _ rfl
      have qa4 : wz2.cell? ⟨w.heap.size + 1, 4, none⟩ = some (.int .i64 a.s) := bA2.cell 4 _ rfl
      have qa5 : wz2.cell? ⟨w.heap.size + 1, 5, none⟩ = some (.int .i64 a.p) := bA2.cell 5 _ rfl
      have qa6 : wz2.cell? ⟨w.heap.size + 1, 6, none⟩ = some (.int .i64 a.l) := bA2.cell 6 _ rfl
      have qa7 : wz2.cell? ⟨w.heap.size + 1, 7, none⟩ = some (.int .i64 a.u) := bA2.cell 7 _ rfl
      have qa8 : wz2.cell? ⟨w.heap.size + 1, 8, none⟩ = some (.int .i64 a.q) := bA2.cell 8 _ rfl
      clear bA2
      go_wp2_with fail
      refine (to_is a _).mono ?_
      rintro et wt ⟨rfl, hbt⟩
      have hbq : Below wt.heap.size wt (wt.alloc (.cells (List.toArray [.int .i64 a.k, .int .i64 a.i, .int .i64 a.c, .int .i64 a.n, .int .i64 a.s, .int .i64 a.p, .int .i64 a.l, .int .i64 a.u, .int .i64 a.q]) 48)) := by go_grown
      have HQ4 := Lib.hid (Bl.new wt [.int .i64 a.k, .int .i64 a.i, .int .i64 a.c, .int .i64 a.n, .int .i64 a.s, .int .i64 a.p, .int .i64 a.l, .int .i64 a.u, .int .i64 a.q] 48)
      have HU4 := Lib.hid (show Bl (w.heap.size + 1 + 1) [.int .i64 u.o, .int .i64 u.q, .int .i64 u.w, .int .i64 u.n, .int .i64 u.b, .int .i64 u.s] (wt.alloc (.cells (List.toArray [.int .i64 a.k, .int .i64 a.i, .int .i64 a.c, .int .i64 a.n, .int .i64 a.s, .int .i64 a.p, .int .i64 a.l, .int .i64 a.u, .int .i64 a.q]) 48)) from (((HUR.out.below BTOT1.out).below BTOT2.out).below hbt).below hbq)
      have HF14 := Lib.hid (((HF1.out.below BTOT2.out).below hbt).below hbq)
      have HF24 := Lib.hid ((HF2.out.below hbt).below hbq)
      have HB4 := Lib.hid (Below.step (Below.step HZ2.out hbt) hbq)
      have HNE := Lib.hid (show w.heap.size + 1 + 1 < wt.heap.size ∧ w.heap.size ≤ wt.heap.size from ⟨(((HUR.out.below BTOT1.out).below BTOT2.out).below hbt).lt, by have := (((HUR.out.below BTOT1.out).below BTOT2.out).below hbt).lt; omega⟩)
      have HUT := Lib.hid (show Bl (w.heap.size + 1 + 1) [.int .i64 u.o, .int .i64 u.q, .int .i64 u.w, .int .i64 u.n, .int .i64 u.b, .int .i64 u.s] wt from ((HUR.out.below BTOT1.out).below BTOT2.out).below hbt)
      have HF1T := Lib.hid ((HF1.out.below BTOT2.out).below hbt)
      have HT4 := Lib.hid hbq
      clear hbt hbq qa0 qa1 qa2 qa3 qa4 qa5 qa6 qa7 qa8 hal HUR
      generalize w.heap.size + 1 + 1 = UB at *
      have bUt := HUT.out
      have hUlt := bUt.lt
      have qt0 : wt.cell? ⟨UB, 0, none⟩ = some (.int .i64 u.o) := bUt.cell 0 _ rfl
      have qt1 : wt.cell? ⟨UB, 1, none⟩ = some (.int .i64 u.q) := bUt.cell 1 _ rfl
      have qt2 : wt.cell? ⟨UB, 2, none⟩ = some (.int .i64 u.w) := bUt.cell 2 _ rfl
      have qt3 : wt.cell? ⟨UB, 3, none⟩ = some (.int .i64 u.n) := bUt.cell 3 _ rfl
      have qt4 : wt.cell? ⟨UB, 4, none⟩ = some (.int .i64 u.b) := bUt.cell 4 _ rfl
      have qt5 : wt.cell? ⟨UB, 5, none⟩ = some (.int .i64 u.s) := bUt.cell 5 _ rfl
      clear bUt
      go_wp2_with fail
      generalize wt.alloc (.cells (List.toArray [.int .i64 a.k, .int .i64 a.i, .int .i64 a.c, .int .i64 a.n, .int .i64 a.s, .int .i64 a.p, .int .i64 a.l, .int .i64 a.u, .int .i64 a.q]) 48) = w4 at *
      clear qt0 qt1 qt2 qt3 qt4 qt5
      have bQ4 := HQ4.out
      have bU4 := HU4.out
      have hQl4 := bQ4.lt
      have hUl4 := bU4.lt
      have qa0 : w4.cell? ⟨wt.heap.size, 0, none⟩ = some (.int .i64 a.k) := bQ4.cell 0 _ rfl
      have qa1 : w4.cell? ⟨wt.heap.size, 1, none⟩ = some (.int .i64 a.i) := bQ4.cell 1 _ rfl
      have qa2 : w4.cell? ⟨wt.heap.size, 2, none⟩ = some (.int .i64 a.c) := bQ4.cell 2 _ rfl
      have qa3 : w4.cell? ⟨wt.heap.size, 3, none⟩ = some (.int .i64 a.n) := bQ4.cell 3 _ rfl
      have qa4 : w4.cell? ⟨wt.heap.size, 4, none⟩ = some (.int .i64 a.s) := bQ4.cell 4 _ rfl
      have qa5 : w4.cell? ⟨wt.heap.size, 5, none⟩ = some (.int .i64 a.p) := bQ4.cell 5 _ rfl
      have qa6 : w4.cell? ⟨wt.heap.size, 6, none⟩ = some (.int .i64 a.l) := bQ4.cell 6 _ rfl
      have qa7 : w4.cell? ⟨wt.heap.size, 7, none⟩ = some (.int .i64 a.u) := bQ4.cell 7 _ rfl
      have qa8 : w4.cell? ⟨wt.heap.size, 8, none⟩ = some (.int .i64 a.q) := bQ4.cell 8 _ rfl
      have qu0 : w4.cell? ⟨UB, 0, none⟩ = some (.int .i64 u.o) := bU4.cell 0 _ rfl
      have qu1 : w4.cell? ⟨UB, 1, none⟩ = some (.int .i64 u.q) := bU4.cell 1 _ rfl
      have qu2 : w4.cell? ⟨UB, 2, none⟩ = some (.int .i64 u.w) := bU4.cell 2 _ rfl
      have qu3 : w4.cell? ⟨UB, 3, none⟩ = some (.int .i64 u.n) := bU4.cell 3 _ rfl
      have qu4 : w4.cell? ⟨UB, 4, none⟩ = some (.int .i64 u.b) := bU4.cell 4 _ rfl
      have qu5 : w4.cell? ⟨UB, 5, none⟩ = some (.int .i64 u.s) := bU4.cell 5 _ rfl
      clear bQ4 bU4
      by_cases okF : mayOk (gv kp) a u last
      · have HK2 := Lib.hid (okF.more hmo.1)
        have HKF := Lib.hid okF
        clear okF
        refine (may_ok F1 _ (lsn gv k) kp (gv kp) a u last _ HF14.out HG1.out HLS1.out HUS.out HSQ.out HSP.out HSL.out HKF.out).mono ?_
        rintro e5 w5 ⟨rfl, hb5⟩
        have HT5 := Lib.hid (Below.step HT4.out hb5)
        have HQ5 := Lib.hid (HQ4.out.below hb5)
        have HU5 := Lib.hid (HU4.out.below hb5)
        have HF15 := Lib.hid (HF14.out.below hb5)
        have HF25 := Lib.hid (HF24.out.below hb5)
        have HB5 := Lib.hid (Below.step HB4.out hb5)
        clear HQ4 HU4 HF14 HF24 HB4 hb5 hQl4 hUl4
        clear qa0 qa1 qa2 qa3 qa4 qa5 qa6 qa7 qa8 qu0 qu1 qu2 qu3 qu4 qu5
        have bQ5 := HQ5.out
        have bU5 := HU5.out
        have hQl5 := bQ5.lt
        have hUl5 := bU5.lt
        have qa0 : w5.cell? ⟨wt.heap.size, 0, none⟩ = some (.int .i64 a.k) := bQ5.cell 0 _ rfl
        have qa1 : w5.cell? ⟨wt.heap.size, 1, none⟩ = some (.int .i64 a.i) := bQ5.cell 1 _ rfl
        have qa2 : w5.cell? ⟨wt.heap.size, 2, none⟩ = some (.int .i64 a.c) := bQ5.cell 2 _ rfl
        have qa3 : w5.cell? ⟨wt.heap.size, 3, none⟩ = some (.int .i64 a.n) := bQ5.cell 3 _ rfl
        have qa4 : w5.cell? ⟨wt.heap.size, 4, none⟩ = some (.int .i64 a.s) := bQ5.cell 4 _ rfl
        have qa5 : w5.cell? ⟨wt.heap.size, 5, none⟩ = some (.int .i64 a.p) := bQ5.cell 5 _ rfl
        have qa6 : w5.cell? ⟨wt.heap.size, 6, none⟩ = some (.int .i64 a.l) := bQ5.cell 6 _ rfl
        have qa7 : w5.cell? ⟨wt.heap.size, 7, none⟩ = some (.int .i64 a.u) := bQ5.cell 7 _ rfl
        have qa8 : w5.cell? ⟨wt.heap.size, 8, none⟩ = some (.int .i64 a.q) := bQ5.cell 8 _ rfl
        have qu0 : w5.cell? ⟨UB, 0, none⟩ = some (.int .i64 u.o) := bU5.cell 0 _ rfl
        have qu1 : w5.cell? ⟨UB, 1, none⟩ = some (.int .i64 u.q) := bU5.cell 1 _ rfl
        have qu2 : w5.cell? ⟨UB, 2, none⟩ = some (.int .i64 u.w) := bU5.cell 2 _ rfl
        have qu3 : w5.cell? ⟨UB, 3, none⟩ = some (.int .i64 u.n) := bU5.cell 3 _ rfl
        have qu4 : w5.cell? ⟨UB, 4, none⟩ = some (.int .i64 u.b) := bU5.cell 4 _ rfl
        have qu5 : w5.cell? ⟨UB, 5, none⟩ = some (.int .i64 u.s) := bU5.cell 5 _ rfl
        clear bQ5 bU5
        go_wp2_with fail
        refine (may_ok F2 _ (lsn (fun i => more (gv i) mo) k) kp (more (gv kp) mo) a u last _ HF25.out HG2.out HLS2.out HUS.out HSQ.out HSP.out HSL.out HK2.out).mono ?_
        rintro e6 w6 ⟨rfl, hb6⟩
        have HT6 := Lib.hid (Below.step HT5.out hb6)
        have HQ6 := Lib.hid (HQ5.out.below hb6)
        have HU6 := Lib.hid (HU5.out.below hb6)
        have HF16 := Lib.hid (HF15.out.below hb6)
        have HF26 := Lib.hid (HF25.out.below hb6)
        have HB6 := Lib.hid (Below.step HB5.out hb6)
        clear HQ5 HU5 HF15 HF25 HB5 hb6 hQl5 hUl5
        clear qa0 qa1 qa2 qa3 qa4 qa5 qa6 qa7 qa8 qu0 qu1 qu2 qu3 qu4 qu5
        have bQ6 := HQ6.out
        have bU6 := HU6.out
        have hQl6 := bQ6.lt
        have hUl6 := bU6.lt
        have qa0 : w6.cell? ⟨wt.heap.size, 0, none⟩ = some (.int .i64 a.k) := bQ6.cell 0 _ rfl
        have qa1 : w6.cell? ⟨wt.heap.size, 1, none⟩ = some (.int .i64 a.i) := bQ6.cell 1 _ rfl
        have qa2 : w6.cell? ⟨wt.heap.size, 2, none⟩ = some (.int .i64 a.c) := bQ6.cell 2 _ rfl
        have qa3 : w6.cell? ⟨wt.heap.size, 3, none⟩ = some (.int .i64 a.n) := bQ6.cell 3 _ rfl
        have qa4 : w6.cell? ⟨wt.heap.size, 4, none⟩ = some (.int .i64 a.s) := bQ6.cell 4 _ rfl
        have qa5 : w6.cell? ⟨wt.heap.size, 5, none⟩ = some (.int .i64 a.p) := bQ6.cell 5 _ rfl
        have qa6 : w6.cell? ⟨wt.heap.size, 6, none⟩ = some (.int .i64 a.l) := bQ6.cell 6 _ rfl
        have qa7 : w6.cell? ⟨wt.heap.size, 7, none⟩ = some (.int .i64 a.u) := bQ6.cell 7 _ rfl
        have qa8 : w6.cell? ⟨wt.heap.size, 8, none⟩ = some (.int .i64 a.q) := bQ6.cell 8 _ rfl
        have qu0 : w6.cell? ⟨UB, 0, none⟩ = some (.int .i64 u.o) := bU6.cell 0 _ rfl
        have qu1 : w6.cell? ⟨UB, 1, none⟩ = some (.int .i64 u.q) := bU6.cell 1 _ rfl
        have qu2 : w6.cell? ⟨UB, 2, none⟩ = some (.int .i64 u.w) := bU6.cell 2 _ rfl
        have qu3 : w6.cell? ⟨UB, 3, none⟩ = some (.int .i64 u.n) := bU6.cell 3 _ rfl
        have qu4 : w6.cell? ⟨UB, 4, none⟩ = some (.int .i64 u.b) := bU6.cell 4 _ rfl
        have qu5 : w6.cell? ⟨UB, 5, none⟩ = some (.int .i64 u.s) := bU6.cell 5 _ rfl
        clear bQ6 bU6
        go_wp2_with fail
        by_cases okI : inside (gv kp) u
        · have di : decide (inside (gv kp) u) = true := decide_eq_true okI
          have dj : decide (inside (more (gv kp) mo) u) = true := decide_eq_true (okI.more hmo.1)
          have DI := Lib.hid di
          have DJ := Lib.hid dj
          clear okI di dj
          refine (within_is F1 _ (lsn gv k) kp (gv kp) u _ HF16.out HG1.out HLS1.out HUS.out).mono ?_
          rw [DI.out]
          rintro e7 w7 ⟨rfl, hb7⟩
          have HT7 := Lib.hid (Below.step HT6.out hb7)
          have HQ7 := Lib.hid (HQ6.out.below hb7)
          have HU7 := Lib.hid (HU6.out.below hb7)
          have HF17 := Lib.hid (HF16.out.below hb7)
          have HF27 := Lib.hid (HF26.out.below hb7)
          have HB7 := Lib.hid (Below.step HB6.out hb7)
          clear HQ6 HU6 HF16 HF26 HB6 hb7 hQl6 hUl6
          clear qa0 qa1 qa2 qa3 qa4 qa5 qa6 qa7 qa8 qu0 qu1 qu2 qu3 qu4 qu5
          have bQ7 := HQ7.out
          have bU7 := HU7.out
          have hQl7 := bQ7.lt
          have hUl7 := bU7.lt
          have qa0 : w7.cell? ⟨wt.heap.size, 0, none⟩ = some (.int .i64 a.k) := bQ7.cell 0 _ rfl
          have qa1 : w7.cell? ⟨wt.heap.size, 1, none⟩ = some (.int .i64 a.i) := bQ7.cell 1 _ rfl
          have qa2 : w7.cell? ⟨wt.heap.size, 2, none⟩ = some (.int .i64 a.c) := bQ7.cell 2 _ rfl
          have qa3 : w7.cell? ⟨wt.heap.size, 3, none⟩ = some (.int .i64 a.n) := bQ7.cell 3 _ rfl
          have qa4 : w7.cell? ⟨wt.heap.size, 4, none⟩ = some (.int .i64 a.s) := bQ7.cell 4 _ rfl
          have qa5 : w7.cell? ⟨wt.heap.size, 5, none⟩ = some (.int .i64 a.p) := bQ7.cell 5 _ rfl
          have qa6 : w7.cell? ⟨wt.heap.size, 6, none⟩ = some (.int .i64 a.l) := bQ7.cell 6 _ rfl
          have qa7 : w7.cell? ⟨wt.heap.size, 7, none⟩ = some (.int .i64 a.u) := bQ7.cell 7 _ rfl
          have qa8 : w7.cell? ⟨wt.heap.size, 8, none⟩ = some (.int .i64 a.q) := bQ7.cell 8 _ rfl
          have qu0 : w7.cell? ⟨UB, 0, none⟩ = some (.int .i64 u.o) := bU7.cell 0 _ rfl
          have qu1 : w7.cell? ⟨UB, 1, none⟩ = some (.int .i64 u.q) := bU7.cell 1 _ rfl
          have qu2 : w7.cell? ⟨UB, 2, none⟩ = some (.int .i64 u.w) := bU7.cell 2 _ rfl
          have qu3 : w7.cell? ⟨UB, 3, none⟩ = some (.int .i64 u.n) := bU7.cell 3 _ rfl
          have qu4 : w7.cell? ⟨UB, 4, none⟩ = some (.int .i64 u.b) := bU7.cell 4 _ rfl
          have qu5 : w7.cell? ⟨UB, 5, none⟩ = some (.int .i64 u.s) := bU7.cell 5 _ rfl
          clear bQ7 bU7
          go_wp2_with fail
          refine (within_is F2 _ (lsn (fun i => more (gv i) mo) k) kp (more (gv kp) mo) u _ HF27.out HG2.out HLS2.out HUS.out).mono ?_
          rw [DJ.out]
          rintro e8 w8 ⟨rfl, hb8⟩
          have HT8 := Lib.hid (Below.step HT7.out hb8)
          have HQ8 := Lib.hid (HQ7.out.below hb8)
          have HU8 := Lib.hid (HU7.out.below hb8)
          have HF18 := Lib.hid (HF17.out.below hb8)
          have HF28 := Lib.hid (HF27.out.below hb8)
          have HB8 := Lib.hid (Below.step HB7.out hb8)
          clear HQ7 HU7 HF17 HF27 HB7 hb8 hQl7 hUl7
          clear qa0 qa1 qa2 qa3 qa4 qa5 qa6 qa7 qa8 qu0 qu1 qu2 qu3 qu4 qu5
          have bQ8 := HQ8.out
          have bU8 := HU8.out
          have hQl8 := bQ8.lt
          have hUl8 := bU8.lt
          have qa0 : w8.cell? ⟨wt.heap.size, 0, none⟩ = some (.int .i64 a.k) := bQ8.cell 0 _ rfl
          have qa1 : w8.cell? ⟨wt.heap.size, 1, none⟩ = some (.int .i64 a.i) := bQ8.cell 1 _ rfl
          have qa2 : w8.cell? ⟨wt.heap.size, 2, none⟩ = some (.int .i64 a.c) := bQ8.cell 2 _ rfl
          have qa3 : w8.cell? ⟨wt.heap.size, 3, none⟩ = some (.int .i64 a.n) := bQ8.cell 3 _ rfl
          have qa4 : w8.cell? ⟨wt.heap.size, 4, none⟩ = some (.int .i64 a.s) := bQ8.cell 4 _ rfl
          have qa5 : w8.cell? ⟨wt.heap.size, 5, none⟩ = some (.int .i64 a.p) := bQ8.cell 5 _ rfl
          have qa6 : w8.cell? ⟨wt.heap.size, 6, none⟩ = some (.int .i64 a.l) := bQ8.cell 6 _ rfl
          have qa7 : w8.cell? ⟨wt.heap.size, 7, none⟩ = some (.int .i64 a.u) := bQ8.cell 7 _ rfl
          have qa8 : w8.cell? ⟨wt.heap.size, 8, none⟩ = some (.int .i64 a.q) := bQ8.cell 8 _ rfl
          have qu0 : w8.cell? ⟨UB, 0, none⟩ = some (.int .i64 u.o) := bU8.cell 0 _ rfl
          have qu1 : w8.cell? ⟨UB, 1, none⟩ = some (.int .i64 u.q) := bU8.cell 1 _ rfl
          have qu2 : w8.cell? ⟨UB, 2, none⟩ = some (.int .i64 u.w) := bU8.cell 2 _ rfl
          have qu3 : w8.cell? ⟨UB, 3, none⟩ = some (.int .i64 u.n) := bU8.cell 3 _ rfl
          have qu4 : w8.cell? ⟨UB, 4, none⟩ = some (.int .i64 u.b) := bU8.cell 4 _ rfl
          have qu5 : w8.cell? ⟨UB, 5, none⟩ = some (.int .i64 u.s) := bU8.cell 5 _ rfl
          clear bQ8 bU8
          have frz := HQ8.out.frz 0
          go_wp2_with fail
          have HQ20 := Lib.hid (show Bl wt.heap.size [.int .i64 4, .int .i64 a.i, .int .i64 a.c, .int .i64 a.n, .int .i64 a.s, .int .i64 a.p, .int .i64 a.l, .int .i64 a.u, .int .i64 a.q] (w8.setCell ⟨wt.heap.size, 0, none⟩ (.int .i64 4)) from HQ8.out.set 0 (.int .i64 4))
          have HU20 := Lib.hid (show Bl UB [.int .i64 u.o, .int .i64 u.q, .int .i64 u.w, .int .i64 u.n, .int .i64 u.b, .int .i64 u.s] (w8.setCell ⟨wt.heap.size, 0, none⟩ (.int .i64 4)) from HU8.out.far (p := ⟨wt.heap.size, 0, none⟩) (by have := HNE.out.1; show wt.heap.size ≠ UB; omega) _)
          have HF120 := Lib.hid (show FAt (w8.setCell ⟨wt.heap.size, 0, none⟩ (.int .i64 4)) F1 _ (lsn gv k) from HF1T.out.below (HT8.out.setCell (p := ⟨wt.heap.size, 0, none⟩) (Nat.le_refl _) _))
          have HB20 := Lib.hid (show Below w.heap.size w (w8.setCell ⟨wt.heap.size, 0, none⟩ (.int .i64 4)) from HB8.out.setCell (p := ⟨wt.heap.size, 0, none⟩) HNE.out.2 _)
          generalize w8.setCell ⟨wt.heap.size, 0, none⟩ (.int .i64 4) = w20 at *
          clear qa0 qa1 qa2 qa3 qa4 qa5 qa6 qa7 qa8 qu0 qu1 qu2 qu3 qu4 qu5
          clear frz HQ8 HU8 HF18 HF28 HB8
          refine (awake_is _ ((HB20.out.cell (p := ⟨0, 0, none⟩) hgl).trans HGG.out) (Nat.lt_of_lt_of_le hgl HB20.out.size)).mono ?_
          rintro e21 w21 ⟨rfl, hb21⟩
          have bQ21 := HQ20.out.below hb21
          have bU21 := HU20.out.below hb21
          have HF121 := Lib.hid (HF120.out.below hb21)
          have HB21 := Lib.hid (Below.step HB20.out hb21)
          have qa0 : w21.cell? ⟨wt.heap.size, 0, none⟩ = some (.int .i64 4) := bQ21.cell 0 _ rfl
          have qa1 : w21.cell? ⟨wt.heap.size, 1, none⟩ = some (.int .i64 a.i) := bQ21.cell 1 _ rfl
          have qa2 : w21.cell? ⟨wt.heap.size, 2, none⟩ = some (.int .i64 a.c) := bQ21.cell 2 _ rfl
          have qa3 : w21.cell? ⟨wt.heap.size, 3, none⟩ = some (.int .i64 a.n) := bQ21.cell 3 _ rfl
          have qa4 : w21.cell? ⟨wt.heap.size, 4, none⟩ = some (.int .i64 a.s) := bQ21.cell 4 _ rfl
          have qa5 : w21.cell? ⟨wt.heap.size, 5, none⟩ = some (.int .i64 a.p) := bQ21.cell 5 _ rfl
          have qa6 : w21.cell? ⟨wt.heap.size, 6, none⟩ = some (.int .i64 a.l) := bQ21.cell 6 _ rfl
          have qa7 : w21.cell? ⟨wt.heap.size, 7, none⟩ = some (.int .i64 a.u) := bQ21.cell 7 _ rfl
          have qa8 : w21.cell? ⟨wt.heap.size, 8, none⟩ = some (.int .i64 a.q) := bQ21.cell 8 _ rfl
          have qu0 : w21.cell? ⟨UB, 0, none⟩ = some (.int .i64 u.o) := bU21.cell 0 _ rfl
          have qu1 : w21.cell? ⟨UB, 1, none⟩ = some (.int .i64 u.q) := bU21.cell 1 _ rfl
          have qu2 : w21.cell? ⟨UB, 2, none⟩ = some (.int .i64 u.w) := bU21.cell 2 _ rfl
          have qu3 : w21.cell? ⟨UB, 3, none⟩ = some (.int .i64 u.n) := bU21.cell 3 _ rfl
          have qu4 : w21.cell? ⟨UB, 4, none⟩ = some (.int .i64 u.b) := bU21.cell 4 _ rfl
          have qu5 : w21.cell? ⟨UB, 5, none⟩ = some (.int .i64 u.s) := bU21.cell 5 _ rfl
          clear bQ21 bU21 hb21 HF120 HQ20 HU20
          go_wp2_with fail
          refine (may_kind F1 _ (lsn gv k) kp (gv kp) ⟨4, a.i, a.c, a.n, a.s, a.p, a.l, a.u, a.q⟩ u last _ HF121.out HG1.out HLS1.out (show (4 : Int) ≠ 1 by decide)).mono ?_
          rintro e22 w22 ⟨rfl, hb22⟩
          go_wp2_with fail
          go_ret
          exact ⟨rfl, Below.step HB21.out hb22⟩

        · have di : decide (inside (gv kp) u) = false := decide_eq_false okI
          have DI := Lib.hid di
          clear okI di
          refine (within_is F1 _ (lsn gv k) kp (gv kp) u _ HF16.out HG1.out HLS1.out HUS.out).mono ?_
          rw [DI.out]
          rintro e7 w7 ⟨rfl, hb7⟩
          have HT7 := Lib.hid (Below.step HT6.out hb7)
          have HQ7 := Lib.hid (HQ6.out.below hb7)
          have HU7 := Lib.hid (HU6.out.below hb7)
          have HF17 := Lib.hid (HF16.out.below hb7)
          have HF27 := Lib.hid (HF26.out.below hb7)
          have HB7 := Lib.hid (Below.step HB6.out hb7)
          clear HQ6 HU6 HF16 HF26 HB6 hb7 hQl6 hUl6
          clear qa0 qa1 qa2 qa3 qa4 qa5 qa6 qa7 qa8 qu0 qu1 qu2 qu3 qu4 qu5
          have bQ7 := HQ7.out
          have bU7 := HU7.out
          have hQl7 := bQ7.lt
          have hUl7 := bU7.lt
          have qa0 : w7.cell? ⟨wt.heap.size, 0, none⟩ = some (.int .i64 a.k) := bQ7.cell 0 _ rfl
          have qa1 : w7.cell? ⟨wt.heap.size, 1, none⟩ = some (.int .i64 a.i) := bQ7.cell 1 _ rfl
          have qa2 : w7.cell? ⟨wt.heap.size, 2, none⟩ = some (.int .i64 a.c) := bQ7.cell 2 _ rfl
          have qa3 : w7.cell? ⟨wt.heap.size, 3, none⟩ = some (.int .i64 a.n) := bQ7.cell 3 _ rfl
          have qa4 : w7.cell? ⟨wt.heap.size, 4, none⟩ = some (.int .i64 a.s) := bQ7.cell 4 _ rfl
          have qa5 : w7.cell? ⟨wt.heap.size, 5, none⟩ = some (.int .i64 a.p) := bQ7.cell 5 _ rfl
          have qa6 : w7.cell? ⟨wt.heap.size, 6, none⟩ = some (.int .i64 a.l) := bQ7.cell 6 _ rfl
          have qa7 : w7.cell? ⟨wt.heap.size, 7, none⟩ = some (.int .i64 a.u) := bQ7.cell 7 _ rfl
          have qa8 : w7.cell? ⟨wt.heap.size, 8, none⟩ = some (.int .i64 a.q) := bQ7.cell 8 _ rfl
          have qu0 : w7.cell? ⟨UB, 0, none⟩ = some (.int .i64 u.o) := bU7.cell 0 _ rfl
          have qu1 : w7.cell? ⟨UB, 1, none⟩ = some (.int .i64 u.q) := bU7.cell 1 _ rfl
          have qu2 : w7.cell? ⟨UB, 2, none⟩ = some (.int .i64 u.w) := bU7.cell 2 _ rfl
          have qu3 : w7.cell? ⟨UB, 3, none⟩ = some (.int .i64 u.n) := bU7.cell 3 _ rfl
          have qu4 : w7.cell? ⟨UB, 4, none⟩ = some (.int .i64 u.b) := bU7.cell 4 _ rfl
          have qu5 : w7.cell? ⟨UB, 5, none⟩ = some (.int .i64 u.s) := bU7.cell 5 _ rfl
          clear bQ7 bU7
          have frz := HQ7.out.frz 0
          go_wp2_with fail
          have HQ20 := Lib.hid (show Bl wt.heap.size [.int .i64 4, .int .i64 a.i, .int .i64 a.c, .int .i64 a.n, .int .i64 a.s, .int .i64 a.p, .int .i64 a.l, .int .i64 a.u, .int .i64 a.q] (w7.setCell ⟨wt.heap.size, 0, none⟩ (.int .i64 4)) from HQ7.out.set 0 (.int .i64 4))
          have HU20 := Lib.hid (show Bl UB [.int .i64 u.o, .int .i64 u.q, .int .i64 u.w, .int .i64 u.n, .int .i64 u.b, .int .i64 u.s] (w7.setCell ⟨wt.heap.size, 0, none⟩ (.int .i64 4)) from HU7.out.far (p := ⟨wt.heap.size, 0, none⟩) (by have := HNE.out.1; show wt.heap.size ≠ UB; omega) _)
          have HF120 := Lib.hid (show FAt (w7.setCell ⟨wt.heap.size, 0, none⟩ (.int .i64 4)) F1 _ (lsn gv k) from HF1T.out.below (HT7.out.setCell (p := ⟨wt.heap.size, 0, none⟩) (Nat.le_refl _) _))
          have HB20 := Lib.hid (show Below w.heap.size w (w7.setCell ⟨wt.heap.size, 0, none⟩ (.int .i64 4)) from HB7.out.setCell (p := ⟨wt.heap.size, 0, none⟩) HNE.out.2 _)
          generalize w7.setCell ⟨wt.heap.size, 0, none⟩ (.int .i64 4) = w20 at *
          clear qa0 qa1 qa2 qa3 qa4 qa5 qa6 qa7 qa8 qu0 qu1 qu2 qu3 qu4 qu5
          clear frz HQ7 HU7 HF17 HF27 HB7
          refine (awake_is _ ((HB20.out.cell (p := ⟨0, 0, none⟩) hgl).trans HGG.out) (Nat.lt_of_lt_of_le hgl HB20.out.size)).mono ?_
          rintro e21 w21 ⟨rfl, hb21⟩
          have bQ21 := HQ20.out.below hb21
          have bU21 := HU20.out.below hb21
          have HF121 := Lib.hid (HF120.out.below hb21)
          have HB21 := Lib.hid (Below.step HB20.out hb21)
          have qa0 : w21.cell? ⟨wt.heap.size, 0, none⟩ = some (.int .i64 4) := bQ21.cell 0 _ rfl
          have qa1 : w21.cell? ⟨wt.heap.size, 1, none⟩ = some (.int .i64 a.i) := bQ21.cell 1 _ rfl
          have qa2 : w21.cell? ⟨wt.heap.size, 2, none⟩ = some (.int .i64 a.c) := bQ21.cell 2 _ rfl
          have qa3 : w21.cell? ⟨wt.heap.size, 3, none⟩ = some (.int .i64 a.n) := bQ21.cell 3 _ rfl
          have qa4 : w21.cell? ⟨wt.heap.size, 4, none⟩ = some (.int .i64 a.s) := bQ21.cell 4 _ rfl
          have qa5 : w21.cell? ⟨wt.heap.size, 5, none⟩ = some (.int .i64 a.p) := bQ21.cell 5 _ rfl
          have qa6 : w21.cell? ⟨wt.heap.size, 6, none⟩ = some (.int .i64 a.l) := bQ21.cell 6 _ rfl
          have qa7 : w21.cell? ⟨wt.heap.size, 7, none⟩ = some (.int .i64 a.u) := bQ21.cell 7 _ rfl
          have qa8 : w21.cell? ⟨wt.heap.size, 8, none⟩ = some (.int .i64 a.q) := bQ21.cell 8 _ rfl
          have qu0 : w21.cell? ⟨UB, 0, none⟩ = some (.int .i64 u.o) := bU21.cell 0 _ rfl
          have qu1 : w21.cell? ⟨UB, 1, none⟩ = some (.int .i64 u.q) := bU21.cell 1 _ rfl
          have qu2 : w21.cell? ⟨UB, 2, none⟩ = some (.int .i64 u.w) := bU21.cell 2 _ rfl
          have qu3 : w21.cell? ⟨UB, 3, none⟩ = some (.int .i64 u.n) := bU21.cell 3 _ rfl
          have qu4 : w21.cell? ⟨UB, 4, none⟩ = some (.int .i64 u.b) := bU21.cell 4 _ rfl
          have qu5 : w21.cell? ⟨UB, 5, none⟩ = some (.int .i64 u.s) := bU21.cell 5 _ rfl
          clear bQ21 bU21 hb21 HF120 HQ20 HU20
          go_wp2_with fail
          refine (may_kind F1 _ (lsn gv k) kp (gv kp) ⟨4, a.i, a.c, a.n, a.s, a.p, a.l, a.u, a.q⟩ u last _ HF121.out HG1.out HLS1.out (show (4 : Int) ≠ 1 by decide)).mono ?_
          rintro e22 w22 ⟨rfl, hb22⟩
          go_wp2_with fail
          go_ret
          exact ⟨rfl, Below.step HB21.out hb22⟩


      · have HKF := Lib.hid okF
        clear okF
        refine (may_bad F1 _ (lsn gv k) kp (gv kp) a u last _ HF14.out HG1.out HLS1.out HUS.out HSQ.out HSP.out HSL.out HKF.out).mono ?_
        rintro e5 w5 ⟨T5, r5, rfl, hb5⟩
        have HT5 := Lib.hid (Below.step HT4.out hb5)
        have HQ5 := Lib.hid (HQ4.out.below hb5)
        have HU5 := Lib.hid (HU4.out.below hb5)
        have HF15 := Lib.hid (HF14.out.below hb5)
        have HF25 := Lib.hid (HF24.out.below hb5)
        have HB5 := Lib.hid (Below.step HB4.out hb5)
        clear HQ4 HU4 HF14 HF24 HB4 hb5 hQl4 hUl4
        clear qa0 qa1 qa2 qa3 qa4 qa5 qa6 qa7 qa8 qu0 qu1 qu2 qu3 qu4 qu5
        have bQ5 := HQ5.out
        have bU5 := HU5.out
        have hQl5 := bQ5.lt
        have hUl5 := bU5.lt
        have qa0 : w5.cell? ⟨wt.heap.size, 0, none⟩ = some (.int .i64 a.k) := bQ5.cell 0 _ rfl
        have qa1 : w5.cell? ⟨wt.heap.size, 1, none⟩ = some (.int .i64 a.i) := bQ5.cell 1 _ rfl
        have qa2 : w5.cell? ⟨wt.heap.size, 2, none⟩ = some (.int .i64 a.c) := bQ5.cell 2 _ rfl
        have qa3 : w5.cell? ⟨wt.heap.size, 3, none⟩ = some (.int .i64 a.n) := bQ5.cell 3 _ rfl
        have qa4 : w5.cell? ⟨wt.heap.size, 4, none⟩ = some (.int .i64 a.s) := bQ5.cell 4 _ rfl
        have qa5 : w5.cell? ⟨wt.heap.size, 5, none⟩ = some (.int .i64 a.p) := bQ5.cell 5 _ rfl
        have qa6 : w5.cell? ⟨wt.heap.size, 6, none⟩ = some (.int .i64 a.l) := bQ5.cell 6 _ rfl
        have qa7 : w5.cell? ⟨wt.heap.size, 7, none⟩ = some (.int .i64 a.u) := bQ5.cell 7 _ rfl
        have qa8 : w5.cell? ⟨wt.heap.size, 8, none⟩ = some (.int .i64 a.q) := bQ5.cell 8 _ rfl
        have qu0 : w5.cell? ⟨UB, 0, none⟩ = some (.int .i64 u.o) := bU5.cell 0 _ rfl
        have qu1 : w5.cell? ⟨UB, 1, none⟩ = some (.int .i64 u.q) := bU5.cell 1 _ rfl
        have qu2 : w5.cell? ⟨UB, 2, none⟩ = some (.int .i64 u.w) := bU5.cell 2 _ rfl
        have qu3 : w5.cell? ⟨UB, 3, none⟩ = some (.int .i64 u.n) := bU5.cell 3 _ rfl
        have qu4 : w5.cell? ⟨UB, 4, none⟩ = some (.int .i64 u.b) := bU5.cell 4 _ rfl
        have qu5 : w5.cell? ⟨UB, 5, none⟩ = some (.int .i64 u.s) := bU5.cell 5 _ rfl
        clear bQ5 bU5
        go_wp2_with fail
        by_cases okI : inside (gv kp) u
        · have di : decide (inside (gv kp) u) = true := decide_eq_true okI
          have dj : decide (inside (more (gv kp) mo) u) = true := decide_eq_true (okI.more hmo.1)
          have DI := Lib.hid di
          have DJ := Lib.hid dj
          clear okI di dj
          refine (within_is F1 _ (lsn gv k) kp (gv kp) u _ HF15.out HG1.out HLS1.out HUS.out).mono ?_
          rw [DI.out]
          rintro e6 w6 ⟨rfl, hb6⟩
          have HT6 := Lib.hid (Below.step HT5.out hb6)
          have HQ6 := Lib.hid (HQ5.out.below hb6)
          have HU6 := Lib.hid (HU5.out.below hb6)
          have HF16 := Lib.hid (HF15.out.below hb6)
          have HF26 := Lib.hid (HF25.out.below hb6)
          have HB6 := Lib.hid (Below.step HB5.out hb6)
          clear HQ5 HU5 HF15 HF25 HB5 hb6 hQl5 hUl5
          clear qa0 qa1 qa2 qa3 qa4 qa5 qa6 qa7 qa8 qu0 qu1 qu2 qu3 qu4 qu5
          have bQ6 := HQ6.out
          have bU6 := HU6.out
          have hQl6 := bQ6.lt
          have hUl6 := bU6.lt
          have qa0 : w6.cell? ⟨wt.heap.size, 0, none⟩ = some (.int .i64 a.k) := bQ6.cell 0 _ rfl
          have qa1 : w6.cell? ⟨wt.heap.size, 1, none⟩ = some (.int .i64 a.i) := bQ6.cell 1 _ rfl
          have qa2 : w6.cell? ⟨wt.heap.size, 2, none⟩ = some (.int .i64 a.c) := bQ6.cell 2 _ rfl
          have qa3 : w6.cell? ⟨wt.heap.size, 3, none⟩ = some (.int .i64 a.n) := bQ6.cell 3 _ rfl
          have qa4 : w6.cell? ⟨wt.heap.size, 4, none⟩ = some (.int .i64 a.s) := bQ6.cell 4 _ rfl
          have qa5 : w6.cell? ⟨wt.heap.size, 5, none⟩ = some (.int .i64 a.p) := bQ6.cell 5 _ rfl
          have qa6 : w6.cell? ⟨wt.heap.size, 6, none⟩ = some (.int .i64 a.l) := bQ6.cell 6 _ rfl
          have qa7 : w6.cell? ⟨wt.heap.size, 7, none⟩ = some (.int .i64 a.u) := bQ6.cell 7 _ rfl
          have qa8 : w6.cell? ⟨wt.heap.size, 8, none⟩ = some (.int .i64 a.q) := bQ6.cell 8 _ rfl
          have qu0 : w6.cell? ⟨UB, 0, none⟩ = some (.int .i64 u.o) := bU6.cell 0 _ rfl
          have qu1 : w6.cell? ⟨UB, 1, none⟩ = some (.int .i64 u.q) := bU6.cell 1 _ rfl
          have qu2 : w6.cell? ⟨UB, 2, none⟩ = some (.int .i64 u.w) := bU6.cell 2 _ rfl
          have qu3 : w6.cell? ⟨UB, 3, none⟩ = some (.int .i64 u.n) := bU6.cell 3 _ rfl
          have qu4 : w6.cell? ⟨UB, 4, none⟩ = some (.int .i64 u.b) := bU6.cell 4 _ rfl
          have qu5 : w6.cell? ⟨UB, 5, none⟩ = some (.int .i64 u.s) := bU6.cell 5 _ rfl
          clear bQ6 bU6
          go_wp2_with fail
          refine (within_is F2 _ (lsn (fun i => more (gv i) mo) k) kp (more (gv kp) mo) u _ HF26.out HG2.out HLS2.out HUS.out).mono ?_
          rw [DJ.out]
          rintro e7 w7 ⟨rfl, hb7⟩
          have HT7 := Lib.hid (Below.step HT6.out hb7)
          have HQ7 := Lib.hid (HQ6.out.below hb7)
          have HU7 := Lib.hid (HU6.out.below hb7)
          have HF17 := Lib.hid (HF16.out.below hb7)
          have HF27 := Lib.hid (HF26.out.below hb7)
          have HB7 := Lib.hid (Below.step HB6.out hb7)
          clear HQ6 HU6 HF16 HF26 HB6 hb7 hQl6 hUl6
          clear qa0 qa1 qa2 qa3 qa4 qa5 qa6 qa7 qa8 qu0 qu1 qu2 qu3 qu4 qu5
          have bQ7 := HQ7.out
          have bU7 := HU7.out
          have hQl7 := bQ7.lt
          have hUl7 := bU7.lt
          have qa0 : w7.cell? ⟨wt.heap.size, 0, none⟩ = some (.int .i64 a.k) := bQ7.cell 0 _ rfl
          have qa1 : w7.cell? ⟨wt.heap.size, 1, none⟩ = some (.int .i64 a.i) := bQ7.cell 1 _ rfl
          have qa2 : w7.cell? ⟨wt.heap.size, 2, none⟩ = some (.int .i64 a.c) := bQ7.cell 2 _ rfl
          have qa3 : w7.cell? ⟨wt.heap.size, 3, none⟩ = some (.int .i64 a.n) := bQ7.cell 3 _ rfl
          have qa4 : w7.cell? ⟨wt.heap.size, 4, none⟩ = some (.int .i64 a.s) := bQ7.cell 4 _ rfl
          have qa5 : w7.cell? ⟨wt.heap.size, 5, none⟩ = some (.int .i64 a.p) := bQ7.cell 5 _ rfl
          have qa6 : w7.cell? ⟨wt.heap.size, 6, none⟩ = some (.int .i64 a.l) := bQ7.cell 6 _ rfl
          have qa7 : w7.cell? ⟨wt.heap.size, 7, none⟩ = some (.int .i64 a.u) := bQ7.cell 7 _ rfl
          have qa8 : w7.cell? ⟨wt.heap.size, 8, none⟩ = some (.int .i64 a.q) := bQ7.cell 8 _ rfl
          have qu0 : w7.cell? ⟨UB, 0, none⟩ = some (.int .i64 u.o) := bU7.cell 0 _ rfl
          have qu1 : w7.cell? ⟨UB, 1, none⟩ = some (.int .i64 u.q) := bU7.cell 1 _ rfl
          have qu2 : w7.cell? ⟨UB, 2, none⟩ = some (.int .i64 u.w) := bU7.cell 2 _ rfl
          have qu3 : w7.cell? ⟨UB, 3, none⟩ = some (.int .i64 u.n) := bU7.cell 3 _ rfl
          have qu4 : w7.cell? ⟨UB, 4, none⟩ = some (.int .i64 u.b) := bU7.cell 4 _ rfl
          have qu5 : w7.cell? ⟨UB, 5, none⟩ = some (.int .i64 u.s) := bU7.cell 5 _ rfl
          clear bQ7 bU7
          have frz := HQ7.out.frz 0
          go_wp2_with fail
          have HQ20 := Lib.hid (show Bl wt.heap.size [.int .i64 4, .int .i64 a.i, .int .i64 a.c, .int .i64 a.n, .int .i64 a.s, .int .i64 a.p, .int .i64 a.l, .int .i64 a.u, .int .i64 a.q] (w7.setCell ⟨wt.heap.size, 0, none⟩ (.int .i64 4)) from HQ7.out.set 0 (.int .i64 4))
          have HU20 := Lib.hid (show Bl UB [.int .i64 u.o, .int .i64 u.q, .int .i64 u.w, .int .i64 u.n, .int .i64 u.b, .int .i64 u.s] (w7.setCell ⟨wt.heap.size, 0, none⟩ (.int .i64 4)) from HU7.out.far (p := ⟨wt.heap.size, 0, none⟩) (by have := HNE.out.1; show wt.heap.size ≠ UB; omega) _)
          have HF120 := Lib.hid (show FAt (w7.setCell ⟨wt.heap.size, 0, none⟩ (.int .i64 4)) F1 _ (lsn gv k) from HF1T.out.below (HT7.out.setCell (p := ⟨wt.heap.size, 0, none⟩) (Nat.le_refl _) _))
          have HB20 := Lib.hid (show Below w.heap.size w (w7.setCell ⟨wt.heap.size, 0, none⟩ (.int .i64 4)) from HB7.out.setCell (p := ⟨wt.heap.size, 0, none⟩) HNE.out.2 _)
          generalize w7.setCell ⟨wt.heap.size, 0, none⟩ (.int .i64 4) = w20 at *
          clear qa0 qa1 qa2 qa3 qa4 qa5 qa6 qa7 qa8 qu0 qu1 qu2 qu3 qu4 qu5
          clear frz HQ7 HU7 HF17 HF27 HB7
          refine (awake_is _ ((HB20.out.cell (p := ⟨0, 0, none⟩) hgl).trans HGG.out) (Nat.lt_of_lt_of_le hgl HB20.out.size)).mono ?_
          rintro e21 w21 ⟨rfl, hb21⟩
          have bQ21 := HQ20.out.below hb21
          have bU21 := HU20.out.below hb21
          have HF121 := Lib.hid (HF120.out.below hb21)
          have HB21 := Lib.hid (Below.step HB20.out hb21)
          have qa0 : w21.cell? ⟨wt.heap.size, 0, none⟩ = some (.int .i64 4) := bQ21.cell 0 _ rfl
          have qa1 : w21.cell? ⟨wt.heap.size, 1, none⟩ = some (.int .i64 a.i) := bQ21.cell 1 _ rfl
          have qa2 : w21.cell? ⟨wt.heap.size, 2, none⟩ = some (.int .i64 a.c) := bQ21.cell 2 _ rfl
          have qa3 : w21.cell? ⟨wt.heap.size, 3, none⟩ = some (.int .i64 a.n) := bQ21.cell 3 _ rfl
          have qa4 : w21.cell? ⟨wt.heap.size, 4, none⟩ = some (.int .i64 a.s) := bQ21.cell 4 _ rfl
          have qa5 : w21.cell? ⟨wt.heap.size, 5, none⟩ = some (.int .i64 a.p) := bQ21.cell 5 _ rfl
          have qa6 : w21.cell? ⟨wt.heap.size, 6, none⟩ = some (.int .i64 a.l) := bQ21.cell 6 _ rfl
          have qa7 : w21.cell? ⟨wt.heap.size, 7, none⟩ = some (.int .i64 a.u) := bQ21.cell 7 _ rfl
          have qa8 : w21.cell? ⟨wt.heap.size, 8, none⟩ = some (.int .i64 a.q) := bQ21.cell 8 _ rfl
          have qu0 : w21.cell? ⟨UB, 0, none⟩ = some (.int .i64 u.o) := bU21.cell 0 _ rfl
          have qu1 : w21.cell? ⟨UB, 1, none⟩ = some (.int .i64 u.q) := bU21.cell 1 _ rfl
          have qu2 : w21.cell? ⟨UB, 2, none⟩ = some (.int .i64 u.w) := bU21.cell 2 _ rfl
          have qu3 : w21.cell? ⟨UB, 3, none⟩ = some (.int .i64 u.n) := bU21.cell 3 _ rfl
          have qu4 : w21.cell? ⟨UB, 4, none⟩ = some (.int .i64 u.b) := bU21.cell 4 _ rfl
          have qu5 : w21.cell? ⟨UB, 5, none⟩ = some (.int .i64 u.s) := bU21.cell 5 _ rfl
          clear bQ21 bU21 hb21 HF120 HQ20 HU20
          go_wp2_with fail
          refine (may_kind F1 _ (lsn gv k) kp (gv kp) ⟨4, a.i, a.c, a.n, a.s, a.p, a.l, a.u, a.q⟩ u last _ HF121.out HG1.out HLS1.out (show (4 : Int) ≠ 1 by decide)).mono ?_
          rintro e22 w22 ⟨rfl, hb22⟩
          go_wp2_with fail
          go_ret
          exact ⟨rfl, Below.step HB21.out hb22⟩

        · have di : decide (inside (gv kp) u) = false := decide_eq_false okI
          have DI := Lib.hid di
          clear okI di
          refine (within_is F1 _ (lsn gv k) kp (gv kp) u _ HF15.out HG1.out HLS1.out HUS.out).mono ?_
          rw [DI.out]
          rintro e6 w6 ⟨rfl, hb6⟩
          have HT6 := Lib.hid (Below.step HT5.out hb6)
          have HQ6 := Lib.hid (HQ5.out.below hb6)
          have HU6 := Lib.hid (HU5.out.below hb6)
          have HF16 := Lib.hid (HF15.out.below hb6)
          have HF26 := Lib.hid (HF25.out.below hb6)
          have HB6 := Lib.hid (Below.step HB5.out hb6)
          clear HQ5 HU5 HF15 HF25 HB5 hb6 hQl5 hUl5
          clear qa0 qa1 qa2 qa3 qa4 qa5 qa6 qa7 qa8 qu0 qu1 qu2 qu3 qu4 qu5
          have bQ6 := HQ6.out
          have bU6 := HU6.out
          have hQl6 := bQ6.lt
          have hUl6 := bU6.lt
          have qa0 : w6.cell? ⟨wt.heap.size, 0, none⟩ = some (.int .i64 a.k) := bQ6.cell 0 _ rfl
          have qa1 : w6.cell? ⟨wt.heap.size, 1, none⟩ = some (.int .i64 a.i) := bQ6.cell 1 _ rfl
          have qa2 : w6.cell? ⟨wt.heap.size, 2, none⟩ = some (.int .i64 a.c) := bQ6.cell 2 _ rfl
          have qa3 : w6.cell? ⟨wt.heap.size, 3, none⟩ = some (.int .i64 a.n) := bQ6.cell 3 _ rfl
          have qa4 : w6.cell? ⟨wt.heap.size, 4, none⟩ = some (.int .i64 a.s) := bQ6.cell 4 _ rfl
          have qa5 : w6.cell? ⟨wt.heap.size, 5, none⟩ = some (.int .i64 a.p) := bQ6.cell 5 _ rfl
          have qa6 : w6.cell? ⟨wt.heap.size, 6, none⟩ = some (.int .i64 a.l) := bQ6.cell 6 _ rfl
          have qa7 : w6.cell? ⟨wt.heap.size, 7, none⟩ = some (.int .i64 a.u) := bQ6.cell 7 _ rfl
          have qa8 : w6.cell? ⟨wt.heap.size, 8, none⟩ = some (.int .i64 a.q) := bQ6.cell 8 _ rfl
          have qu0 : w6.cell? ⟨UB, 0, none⟩ = some (.int .i64 u.o) := bU6.cell 0 _ rfl
          have qu1 : w6.cell? ⟨UB, 1, none⟩ = some (.int .i64 u.q) := bU6.cell 1 _ rfl
          have qu2 : w6.cell? ⟨UB, 2, none⟩ = some (.int .i64 u.w) := bU6.cell 2 _ rfl
          have qu3 : w6.cell? ⟨UB, 3, none⟩ = some (.int .i64 u.n) := bU6.cell 3 _ rfl
          have qu4 : w6.cell? ⟨UB, 4, none⟩ = some (.int .i64 u.b) := bU6.cell 4 _ rfl
          have qu5 : w6.cell? ⟨UB, 5, none⟩ = some (.int .i64 u.s) := bU6.cell 5 _ rfl
          clear bQ6 bU6
          have frz := HQ6.out.frz 0
          go_wp2_with fail
          have HQ20 := Lib.hid (show Bl wt.heap.size [.int .i64 4, .int .i64 a.i, .int .i64 a.c, .int .i64 a.n, .int .i64 a.s, .int .i64 a.p, .int .i64 a.l, .int .i64 a.u, .int .i64 a.q] (w6.setCell ⟨wt.heap.size, 0, none⟩ (.int .i64 4)) from HQ6.out.set 0 (.int .i64 4))
          have HU20 := Lib.hid (show Bl UB [.int .i64 u.o, .int .i64 u.q, .int .i64 u.w, .int .i64 u.n, .int .i64 u.b, .int .i64 u.s] (w6.setCell ⟨wt.heap.size, 0, none⟩ (.int .i64 4)) from HU6.out.far (p := ⟨wt.heap.size, 0, none⟩) (by have := HNE.out.1; show wt.heap.size ≠ UB; omega) _)
          have HF120 := Lib.hid (show FAt (w6.setCell ⟨wt.heap.size, 0, none⟩ (.int .i64 4)) F1 _ (lsn gv k) from HF1T.out.below (HT6.out.setCell (p := ⟨wt.heap.size, 0, none⟩) (Nat.le_refl _) _))
          have HB20 := Lib.hid (show Below w.heap.size w (w6.setCell ⟨wt.heap.size, 0, none⟩ (.int .i64 4)) from HB6.out.setCell (p := ⟨wt.heap.size, 0, none⟩) HNE.out.2 _)
          generalize w6.setCell ⟨wt.heap.size, 0, none⟩ (.int .i64 4) = w20 at *
          clear qa0 qa1 qa2 qa3 qa4 qa5 qa6 qa7 qa8 qu0 qu1 qu2 qu3 qu4 qu5
          clear frz HQ6 HU6 HF16 HF26 HB6
          refine (awake_is _ ((HB20.out.cell (p := ⟨0, 0, none⟩) hgl).trans HGG.out) (Nat.lt_of_lt_of_le hgl HB20.out.size)).mono ?_
          rintro e21 w21 ⟨rfl, hb21⟩
          have bQ21 := HQ20.out.below hb21
          have bU21 := HU20.out.below hb21
          have HF121 := Lib.hid (HF120.out.below hb21)
          have HB21 := Lib.hid (Below.step HB20.out hb21)
          have qa0 : w21.cell? ⟨wt.heap.size, 0, none⟩ = some (.int .i64 4) := bQ21.cell 0 _ rfl
          have qa1 : w21.cell? ⟨wt.heap.size, 1, none⟩ = some (.int .i64 a.i) := bQ21.cell 1 _ rfl
          have qa2 : w21.cell? ⟨wt.heap.size, 2, none⟩ = some (.int .i64 a.c) := bQ21.cell 2 _ rfl
          have qa3 : w21.cell? ⟨wt.heap.size, 3, none⟩ = some (.int .i64 a.n) := bQ21.cell 3 _ rfl
          have qa4 : w21.cell? ⟨wt.heap.size, 4, none⟩ = some (.int .i64 a.s) := bQ21.cell 4 _ rfl
          have qa5 : w21.cell? ⟨wt.heap.size, 5, none⟩ = some (.int .i64 a.p) := bQ21.cell 5 _ rfl
          have qa6 : w21.cell? ⟨wt.heap.size, 6, none⟩ = some (.int .i64 a.l) := bQ21.cell 6 _ rfl
          have qa7 : w21.cell? ⟨wt.heap.size, 7, none⟩ = some (.int .i64 a.u) := bQ21.cell 7 _ rfl
          have qa8 : w21.cell? ⟨wt.heap.size, 8, none⟩ = some (.int .i64 a.q) := bQ21.cell 8 _ rfl
          have qu0 : w21.cell? ⟨UB, 0, none⟩ = some (.int .i64 u.o) := bU21.cell 0 _ rfl
          have qu1 : w21.cell? ⟨UB, 1, none⟩ = some (.int .i64 u.q) := bU21.cell 1 _ rfl
          have qu2 : w21.cell? ⟨UB, 2, none⟩ = some (.int .i64 u.w) := bU21.cell 2 _ rfl
          have qu3 : w21.cell? ⟨UB, 3, none⟩ = some (.int .i64 u.n) := bU21.cell 3 _ rfl
          have qu4 : w21.cell? ⟨UB, 4, none⟩ = some (.int .i64 u.b) := bU21.cell 4 _ rfl
          have qu5 : w21.cell? ⟨UB, 5, none⟩ = some (.int .i64 u.s) := bU21.cell 5 _ rfl
          clear bQ21 bU21 hb21 HF120 HQ20 HU20
          go_wp2_with fail
          refine (may_kind F1 _ (lsn gv k) kp (gv kp) ⟨4, a.i, a.c, a.n, a.s, a.p, a.l, a.u, a.q⟩ u last _ HF121.out HG1.out HLS1.out (show (4 : Int) ≠ 1 by decide)).mono ?_
          rintro e22 w22 ⟨rfl, hb22⟩
          go_wp2_with fail
          go_ret
          exact ⟨rfl, Below.step HB21.out hb22⟩


theorem walk (p c n b r f g : Int) (A : Option Addr) (ln cp : Nat) (gv : Nat → Lim) (mo pt : Int) (a : As) (u0 u1 u2 u3 u4 u5 last : Int) (w : World) (hg : w.cell? ⟨0, 0, none⟩ = some (.iface 95 (.agg #[.pointer (some ⟨1, 35, none⟩)]))) (hgl : 0 < w.heap.size) (_ : (Lit.int .i64 p).wf = true) (_ : (Lit.int .i64 c).wf = true) (_ : (Lit.int .i64 n).wf = true) (_ : (Lit.int .i64 b).wf = true) (_ : (Lit.int .i64 r).wf = true) (_ : (Lit.int .i64 f).wf = true) (_ : (Lit.int .i64 g).wf = true) (hE : LimsAt A ln gv w) (hmo : (Lit.int .u16 mo).wf = true) (_ : (Lit.int .i64 pt).wf = true) (_ : (Lit.int .i64 u0).wf = true) (_ : (Lit.int .i64 u1).wf = true) (_ : (Lit.int .i64 u2).wf = true) (_ : (Lit.int .i64 u3).wf = true) (_ : (Lit.int .i64 u4).wf = true) (_ : (Lit.int .i64 u5).wf = true) (_ : (Lit.int .i64 last).wf = true) : Calls Tryd.prog 3 #[.agg #[.int .i64 p, .int .i64 c, .int .i64 n, .int .i64 b, .int .i64 r, .int .i64 f, .int .i64 g], .slice A ln cp, .int .u16 mo, .int .i64 pt, .agg #[.int .i64 a.k, .int .i64 a.i, .int .i64 a.c, .int .i64 a.n, .int .i64 a.s, .int .i64 a.p, .int .i64 a.l, .int .i64 a.u, .int .i64 a.q], .agg #[.int .i64 u0, .int .i64 u1, .int .i64 u2, .int .i64 u3, .int .i64 u4, .int .i64 u5], .int .i64 last] w fun e w' => e = .returned (.bool true) ∧ Below w.heap.size w w' := by
  have hm : 0 ≤ mo ∧ mo ≤ 65535 := by
    simp [Lit.wf, show IntKind.u16.min = 0 from by decide, show IntKind.u16.max = 65535 from by decide] at hmo
    exact hmo
  by_cases h : (1 ≤ p ∧ p ≤ 6) ∧ (1 ≤ c ∧ c ≤ 4) ∧ (1 ≤ n ∧ n ≤ 3) ∧ (1 ≤ b ∧ b ≤ 4) ∧ (0 ≤ r ∧ r ≤ 4) ∧ (1 ≤ f ∧ f ≤ 4) ∧ (1 ≤ g ∧ g ≤ 15)
  · obtain ⟨hp, hc, hn, hb, hr, hf, hg7⟩ := h
    by_cases hl : (ln : Int) = p
    · by_cases hok : ∀ i, i < ln → Lok (gv i)
      · by_cases h1 : pt < 0
        · exact ptNeg p c n b r f g A ln cp gv mo pt a ⟨u0, u1, u2, u3, u4, u5⟩ last w hg hgl hp hc hn hb hr hf hg7 hl hE hok h1
        · by_cases h2 : p ≤ pt
          · exact ptBig p c n b r f g A ln cp gv mo pt a ⟨u0, u1, u2, u3, u4, u5⟩ last w hg hgl hp hc hn hb hr hf hg7 hl hE hok h2
          · obtain ⟨kp, rfl⟩ := Int.eq_ofNat_of_zero_le (show 0 ≤ pt by omega)
            cases hs : ([a.q, a.p, u0, u1, u2, u3, u4, u5, last] : List Int).all smb with
            | true => exact main p c n b r f g A ln cp gv mo kp a ⟨u0, u1, u2, u3, u4, u5⟩ last w hg hgl hp hc hn hb hr hf hg7 hl hE hok (by omega) hm hs
            | false => exact notSmall p c n b r f g A ln cp gv mo (kp : Int) a ⟨u0, u1, u2, u3, u4, u5⟩ last w hg hgl hp hc hn hb hr hf hg7 hl hE hok ⟨by omega, by omega⟩ hs
      · exact wrongBad p c n b r f g A ln cp gv mo pt a ⟨u0, u1, u2, u3, u4, u5⟩ last w hg hgl hp hc hn hb hr hf hg7 hl hE hok
    · exact lenBad p c n b r f g A ln cp gv mo pt a ⟨u0, u1, u2, u3, u4, u5⟩ last w hg hgl hp hc hn hb hr hf hg7 hl
  · exact bad p c n b r f g A ln cp gv mo pt a ⟨u0, u1, u2, u3, u4, u5⟩ last w hg hgl h
end Go.Proofs.YtmddgaokdlhegaaDoor.fenceMore
