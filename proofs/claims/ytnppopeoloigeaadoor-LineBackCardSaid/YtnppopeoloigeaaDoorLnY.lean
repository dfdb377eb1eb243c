/-
  What is asked as a line.
-/
import Derived.Test.YtnppopeoloigeaaDoorRows
import Derived.Test.YtnppopeoloigeaaDoorKit
import Derived.Test.YtnppopeoloigeaaDoorApp
import Derived.Test.YtnppopeoloigeaaDoorQuiet
import Derived.WalkKit
import Derived.ProofKit
import Derived.OpenShut
import Derived.ShutString
import Derived.Below
import Derived.Outline
import Derived.WalkLawsBesides
import Derived.WalkSpells
import Derived.Handy
import Derived.Deep.QuietTactic
import Derived.BigQuiet
import Derived.RegionTactic
import Derived.ChangeAlike
import Derived.Lib.Hide
import Derived.Laws.Rows
import Derived.Laws.Tables
import Derived.Laws.CopyOwn
import Derived.Laws.MakeOwn
import Derived.Laws.Entries
import Derived.Laws.OwnMore
import Derived.Deep.WholeRow
import Derived.Deep.LoopGhost
import Derived.Deep.AppendLies
import Derived.Deep.Draws
import Derived.Maps.AppendAt
import Derived.OwnWalk
import Derived.Deep.RegionHeld3
import Derived.Deep.Cut
import Derived.Deep.CutRange
import Derived.Deep.DeepCutAuto
import Derived.Deep.CutBlock
import Derived.Lib.SliceRun
import Derived.IntWalk
import Derived.Laws.Strings
import Derived.Lib.Bytealg
import Derived.Lib.Strings
import Derived.Laws.Externs
import Derived.Test.YtnppopeoloigeaaDoorLnO
import Derived.Test.YtnppopeoloigeaaDoorNsE
import Derived.Deep.Slices
import Derived.Deep.Fields
import Derived.ChangeSame
import Derived.ChangeArms
import Derived.Deep.MidRow
import Derived.Deep.Upon
namespace Go.Proofs.YtnppopeoloigeaaDoor
open Go.ChangeShapes Go.WideShapes Go.ChangeAt Go.RowKit
theorem verb_is (k : Int) (hk : 1 ≤ k ∧ k ≤ 4) (w : World) (hv : Vb w) : Calls Tryd.prog 18 #[.int .i64 k] w fun e w' => e = .returned (.string (vb k.toNat)) ∧ w = w' := by
  obtain ⟨n, rfl⟩ : ∃ n : Nat, k = (n : Int) := ⟨k.toNat, by omega⟩
  have hc := hv.cell n (by omega)
  have h1 : (1 : Int) ≤ (n : Int) := hk.1
  have h2 : (n : Int) ≤ 4 := hk.2
  rw [Int.toNat_natCast]
  generalize vb n = V at hc ⊢
  clear hk hv
  go_enter Tryd.func18, Tryd.ntmps18
  go_wp2_with fail
  go_ret
  exact ⟨rfl, rfl⟩
theorem verb_no (k : Int) (hk : k < 1 ∨ 4 < k) (w : World) : Calls Tryd.prog 18 #[.int .i64 k] w fun e w' => e = .returned (.string ⟨#[63]⟩) ∧ w = w' := by
  rcases hk with hk | hk
  · go_enter Tryd.func18, Tryd.ntmps18
    go_wp2_with fail
    go_ret
    exact ⟨rfl, rfl⟩
  · have h1 : decide (k < 1) = false := decide_eq_false (by omega)
    go_enter Tryd.func18, Tryd.ntmps18
    go_wp2_with fail
    go_ret
    exact ⟨rfl, rfl⟩
/-- What Print hands back. -/
def PtIs (r : PR) (w : World) (e : Ending) (w' : World) : Prop := match r with
  | .er x p => ∃ v ll, e = .returned (.tuple #[.string ⟨#[]⟩, v]) ∧ Ch w' x ll v ∧ (x ≠ 6 → ll = [.pl p]) ∧ Below w.heap.size w w'
  | .ok l => e = .returned (.tuple #[.string (Bs l), .nilIface]) ∧ Below w.heap.size w w'
def WS (V : List UInt8) (c : List Int) (L : List (Nat × Bool)) (i : Nat) : List (List UInt8) := V :: (L.take i).map fun x => wd x.2 (c.getD x.1 0)
theorem WS_step (V : List UInt8) (c : List Int) (L : List (Nat × Bool)) (i j : Nat) (b : Bool) (h : L[i]? = some (j, b)) : WS V c L (i + 1) = WS V c L i ++ [wd b (c.getD j 0)] := by
  unfold WS
  rw [List.take_add_one, h]
  simp
theorem WS_len (V : List UInt8) (c : List Int) (L : List (Nat × Bool)) (i : Nat) : (WS V c L i).length ≤ L.length + 1 := by
  unfold WS
  simp; omega
theorem un_none : ∀ (c : List Int) (L : List (Nat × Bool)) (a : Nat), un c L a = none → ∀ j, (j, false) ∈ L → 0 ≤ c.getD j 0 ∧ c.getD j 0 ≤ 9999999
  | c, [], a, h, j, hj => by cases hj
  | c, (i, b) :: t, a, h, j, hj => by
    cases b with
    | true =>
      rw [un_skip] at h
      rcases List.mem_cons.1 hj with e | hj
      · cases e
      · exact un_none c t a h j hj
    | false =>
      rw [un_num] at h
      split at h
      · cases h
      · rename_i h1
        split at h
        · cases h
        · rcases List.mem_cons.1 hj with e | hj
          · injection e with e1 e2
            subst e1
            omega
          · exact un_none c t _ h j hj
theorem wd_len (b : Bool) (x : Int) (h : b = false → x ≤ 9999999) : (wd b x).length ≤ 8 := by
  unfold wd
  cases b with
  | true =>
    simp only [if_true]
    unfold sd
    split
    · decide
    · split <;> decide
  | false =>
    have := h rfl
    exact dcl_len 7 _ (by omega)
theorem own_new (w : World) (base : Nat) (s : ByteArray) (hb : base ≤ w.heap.size) : (w.alloc (.cells #[.string s] 9)).ownsRow base 9 1 (.slice (some ⟨w.heap.size, 0, none⟩) 1 1) 1 [.string s] :=
  ⟨rfl, .inr ⟨w.heap.size, 1, #[.string s], rfl, hb, heap_alloc_new w _, Nat.le_refl _, by unfold maxLen; omega, rfl, rfl⟩⟩
theorem Bl.same' {B : Nat} {l : List Value} {w w' : World} (h : Bl B l w) (hh : w'.heap[B]? = w.heap[B]?) : Bl B l w' := by
  obtain ⟨t, e⟩ := h
  exact ⟨t, hh.trans e⟩
theorem Er.chain' {w : World} {c p : Int} {v : Value} (h : Er w c p v) : Ch w c [.pl p] v := by
  obtain ⟨b, e, hl, h1, h2⟩ := h
  exact ⟨b, _, e, hl, h1, h2, rfl⟩
theorem bl_grown {B : Nat} {l : List Value} {w w' : World} {row : Option Nat} (h : Bl B l w) (hg : w.grownBy w' row) (hr : ∀ b, row = some b → B < b) : Bl B l w' := by
  have hl := h.lt
  exact Bl.same' h (hg.block B hl (fun e => by have := hr B e.symm; omega))
theorem sl_grown {w w' : World} {B g : Nat} {l : List (Nat × Bool)} {row : Option Nat} (h : SlAt w B (some ⟨g, 0, none⟩) l) (hg : w.grownBy w' row) (hr : ∀ b, row = some b → b ≠ g) : SlAt w' B (some ⟨g, 0, none⟩) l := fun h0 => by
  obtain ⟨g2, e, hl, hc⟩ := h h0
  injection e with e
  injection e with e
  subst e
  have hk := hg.block g hl (fun e2 => hr g e2.symm rfl)
  refine ⟨g, rfl, Nat.lt_of_lt_of_le hl hg.size, fun i j b hj => ⟨?_, ?_⟩⟩
  · rw [← (hc i j b hj).1]; exact World.cell?_of_block (w := w) hk
  · rw [← (hc i j b hj).2]; exact World.cell?_of_block (w := w) hk
theorem infoS' : (Tryd.prog.info? 9).map (fun i => (i.zero, i.size, i.bytes)) = some (some (.string ⟨#[]⟩), 1, 16) := by kernel_rfl
set_option maxRecDepth 100000 in
set_option maxHeartbeats 8000000 in
theorem print_is (c0 c1 c2 c3 c4 c5 c6 c7 c8 : Int) (w : World) (hv : Vb w) (ht : Tb w) : Calls Tryd.prog 15 #[.agg (List.toArray [.int .i64 c0, .int .i64 c1, .int .i64 c2, .int .i64 c3, .int .i64 c4, .int .i64 c5, .int .i64 c6, .int .i64 c7, .int .i64 c8])] w (PtIs (pt [c0, c1, c2, c3, c4, c5, c6, c7, c8]) w) := by
  by_cases hk : c0 < 1 ∨ 4 < c0
  · have HR := Lib.hid (show pt [c0, c1, c2, c3, c4, c5, c6, c7, c8] = .er 6 (-1) from by unfold pt; exact if_pos hk)
    have g0 : Below w.heap.size w (w.alloc (.cells (List.toArray [.int .i64 c0, .int .i64 c1, .int .i64 c2, .int .i64 c3, .int .i64 c4, .int .i64 c5, .int .i64 c6, .int .i64 c7, .int .i64 c8]) 26)) := by go_grown
    have HG := Lib.hid g0
    rcases hk with hk | hk
    · clear g0 hv ht
      go_enter Tryd.func15, Tryd.ntmps15
      go_wp2_with fail
      go_ret2
      show PtIs _ _ _ _
      rw [HR.out]
      exact ⟨_, [], rfl, rfl, fun h => absurd rfl h, HG.out⟩
    · have h1 : decide (c0 < 1) = false := decide_eq_false (by omega)
      clear g0 hv ht
      go_enter Tryd.func15, Tryd.ntmps15
      go_wp2_with fail
      go_ret2
      show PtIs _ _ _ _
      rw [HR.out]
      exact ⟨_, [], rfl, rfl, fun h => absurd rfl h, HG.out⟩
  have hk4 : c0 = 1 ∨ c0 = 2 ∨ c0 = 3 ∨ c0 = 4 := by omega
  have h1 : decide (c0 < 1) = false := decide_eq_false (by omega)
  have h4 : decide (4 < c0) = false := decide_eq_false (by omega)
  have hpt : pt [c0, c1, c2, c3, c4, c5, c6, c7, c8] = match un [c0, c1, c2, c3, c4, c5, c6, c7, c8] (tg c0) 0 with
      | some (e, p) => PR.er e p
      | none => .ok ((vb c0.toNat).data.toList ++ ws [c0, c1, c2, c3, c4, c5, c6, c7, c8] (tg c0)) := by unfold pt; exact if_neg hk
  have gA : Below w.heap.size w (w.alloc (.cells (List.toArray [.int .i64 c0, .int .i64 c1, .int .i64 c2, .int .i64 c3, .int .i64 c4, .int .i64 c5, .int .i64 c6, .int .i64 c7, .int .i64 c8]) 26)) := by go_grown
  have bA := Bl.new w [.int .i64 c0, .int .i64 c1, .int .i64 c2, .int .i64 c3, .int .i64 c4, .int .i64 c5, .int .i64 c6, .int .i64 c7, .int .i64 c8] 26
  have zA : (w.alloc (.cells (List.toArray [.int .i64 c0, .int .i64 c1, .int .i64 c2, .int .i64 c3, .int .i64 c4, .int .i64 c5, .int .i64 c6, .int .i64 c7, .int .i64 c8]) 26)).heap.size = w.heap.size + 1 := World.size_alloc ..
  have HU := Lib.hid (untold_is c0 c1 c2 c3 c4 c5 c6 c7 c8 hk4 (w.alloc (.cells (List.toArray [.int .i64 c0, .int .i64 c1, .int .i64 c2, .int .i64 c3, .int .i64 c4, .int .i64 c5, .int .i64 c6, .int .i64 c7, .int .i64 c8]) 26)))
  have HA := Lib.hid (And.intro bA gA)
  have HP := Lib.hid hpt
  have HZA := Lib.hid zA
  have HV := Lib.hid (hv.below gA)
  have HT0 := Lib.hid ht
  have HT := Lib.hid (ht.below gA)
  have HK4 := Lib.hid hk4
  clear hpt gA bA zA hv ht hk hk4
  rcases hun : un [c0, c1, c2, c3, c4, c5, c6, c7, c8] (tg c0) 0 with _ | ⟨x, p⟩
  rotate_left
  · have HR := Lib.hid (HP.out.trans (by rw [hun]))
    rw [hun] at HU
    clear hun HP
    go_enter Tryd.func15, Tryd.ntmps15
    go_wp2_with fail
    refine HU.out.mono ?_
    rintro e3 w3 ⟨v3, rfl, hE, hb⟩
    have hch := hE.chain'
    obtain ⟨b9, rfl, _⟩ := hE
    have HE := Lib.hid (And.intro hch (Below.step HA.out.2 hb))
    clear hch hb
    go_wp2_with fail
    go_ret2
    show PtIs _ _ _ _
    rw [HR.out]
    exact ⟨_, _, rfl, HE.out.1, fun _ => rfl, HE.out.2⟩
  · have HR := Lib.hid (HP.out.trans (by rw [hun]))
    have HUN := Lib.hid (un_none _ _ _ hun)
    rw [hun] at HU
    clear hun HP
    go_enter Tryd.func15, Tryd.ntmps15
    go_wp2_with fail
    refine HU.out.mono ?_
    rintro e3 w3 ⟨rfl, hb3⟩
    have HB3 := Lib.hid (And.intro (HA.out.1.below hb3) (And.intro (Below.step HA.out.2 hb3) (And.intro (HV.out.below hb3) (HT.out.below hb3))))
    have x0 := HB3.out.1.cell 0 _ rfl
    clear hb3
    go_wp2_with fail
    refine (verb_is c0 (by have := HK4.out; omega) w3 HB3.out.2.2.1).mono ?_
    rintro e4 w3' ⟨rfl, hw3⟩
    subst hw3
    obtain ⟨VV, hVV⟩ : ∃ VV, VV = (vb c0.toNat).data.toList := ⟨_, rfl⟩
    have hvb : vb c0.toNat = Bs VV := by rw [hVV, Bs_of]
    have HVL : Hid (VV.length ≤ 6) := Lib.hid (by rw [hVV]; rcases HK4.out with h | h | h | h <;> subst h <;> decide)
    rw [hvb]
    obtain ⟨CL, hCL⟩ : ∃ CL, CL = ([c0, c1, c2, c3, c4, c5, c6, c7, c8] : List Int) := ⟨_, rfl⟩
    obtain ⟨LL, hLL⟩ : ∃ LL, LL = tg c0 := ⟨_, rfl⟩
    obtain ⟨w4, hw4⟩ : ∃ w4, w4 = w3.alloc (.cells #[.string (Bs VV)] 9) := ⟨_, rfl⟩
    have g4 : Below w3.heap.size w3 (w3.alloc (.cells #[.string (Bs VV)] 9)) := by go_grown
    have o4 := own_new w3 w3.heap.size (Bs VV) (Nat.le_refl _)
    have hgd : ∀ j, j < 9 → (CL.map (Value.int .i64))[j]? = some (.int .i64 (CL.getD j 0)) := fun j hj => by
      have hl : j < CL.length := by rw [hCL]; exact hj
      rw [List.getElem?_map, List.getElem?_eq_getElem hl]; simp [List.getD, hl]
    have hb4 : Bl w.heap.size (CL.map (Value.int .i64)) (w3.alloc (.cells #[.string (Bs VV)] 9)) := by rw [hCL]; exact HB3.out.1.below g4
    rw [← hw4] at g4 o4 hb4
    rw [← hCL, ← hLL] at HUN
    rw [← hVV, ← hCL, ← hLL] at HR
    obtain ⟨AB, hAB⟩ : ∃ AB, AB = w.heap.size := ⟨_, rfl⟩
    rw [← hAB] at hb4
    have hx0 : w4.cell? ⟨AB, 0, none⟩ = some (.int .i64 c0) := by
      have := hb4.cell 0 _ (hgd 0 (by omega))
      rw [hCL] at this
      exact this
    have hsl := slots_is AB c0 w4 HK4.out hx0
    have hl8 := tg_len c0
    have htg := fun i j b => tg_lt c0 i j b
    rw [← hLL] at hl8 htg hsl
    have HSL := Lib.hid hsl
    have HL8 := Lib.hid hl8
    have HTG := Lib.hid htg
    have HGD := Lib.hid hgd
    have HO4 := Lib.hid o4
    have HB4 := Lib.hid (And.intro hb4 (And.intro (Below.step HB3.out.2.1 g4) (HB3.out.2.2.2.below g4)))
    have HW4 := Lib.hid hw4
    have HAB := Lib.hid hAB
    have HAB4 := Lib.hid (show AB < w3.heap.size by rw [hAB]; exact HB3.out.1.lt)
    have HCL := Lib.hid hCL
    clear hsl hl8 htg hgd o4 hb4 hw4 hAB hLL hCL hVV hvb g4 hx0 x0 HU HA HZA HV HT HK4 h1 h4
    go_wp2_with fail
    rw [← HW4.out, ← HAB.out]
    refine HSL.out.mono ?_
    rintro e5 w5 ⟨A5, cp5, rfl, hsl, hb5⟩
    obtain ⟨i0s, hii, hiz⟩ := Option.map_eq_some_iff.1 infoS'
    obtain ⟨hz0, hz1, hz2⟩ : i0s.zero = some (.string ⟨#[]⟩) ∧ i0s.size = 1 ∧ i0s.bytes = 16 := by simpa using hiz
    have HII := Lib.hid hii
    have HZ0 := Lib.hid hz0
    have HZ1 := Lib.hid hz1
    have HZ2 := Lib.hid hz2
    have hoff : 0 < LL.length → ∀ b a, (Value.slice (some ⟨w3.heap.size, 0, none⟩) 1 1).ownBlock = some b → A5 = some a → b ≠ a.block := by
      intro h0 b a h1 h2 h3
      obtain ⟨g, e, hl, hc⟩ := hsl h0
      obtain ⟨⟨j0, b0⟩, h00⟩ : ∃ x, LL[0]? = some x := ⟨LL[0]'h0, List.getElem?_eq_getElem h0⟩
      have p0 := (hc 0 j0 b0 h00).1
      rw [e] at h2
      injection h2 with h2
      subst h2
      have hbb : b = w3.heap.size := by injection h1 with h1; exact h1.symm
      have hgg : g = w3.heap.size := by rw [← hbb]; exact h3.symm
      subst hgg
      have hrow := (rkept HO4.out hb5).cells (g := w3.heap.size) rfl 0 _ rfl
      rw [Nat.zero_mul] at p0
      have : (⟨w3.heap.size, 0, none⟩ : Addr).add 0 = ⟨w3.heap.size, 0, none⟩ := rfl
      rw [this] at hrow
      rw [hrow] at p0
      cases p0
    have HST : Hid (Bl AB (CL.map (Value.int .i64)) w5 ∧ SlAt w5 AB A5 LL ∧ w5.ownsRow w3.heap.size 9 1 (.slice (some ⟨w3.heap.size, 0, none⟩) 1 1) 1 [.string (Bs VV)] ∧ Below w.heap.size w w5 ∧ (0 < LL.length → ∀ b a, (Value.slice (some ⟨w3.heap.size, 0, none⟩) 1 1).ownBlock = some b → A5 = some a → b ≠ a.block)) := Lib.hid ⟨HB4.out.1.below hb5, hsl, rkept HO4.out hb5, Below.step HB4.out.2.1 hb5, hoff⟩
    have l8 : (LL.length : Int) ≤ 8 := by have := HL8.out; omega
    clear hsl hb5 HSL hii hiz hz0 hz1 hz2 hoff
    go_wp2_with fail
    go_loopw [5, 28] (fun v j wr => ∃ i : Nat, i ≤ LL.length ∧ j = .int .i64 (i : Int) ∧ Hid (Bl AB (CL.map (Value.int .i64)) wr ∧ SlAt wr AB A5 LL ∧ wr.ownsRow w3.heap.size 9 1 v (WS VV CL LL i).length ((WS VV CL LL i).map fun l => .string (Bs l)) ∧ Below w.heap.size w wr ∧ (0 < LL.length → ∀ b a, v.ownBlock = some b → A5 = some a → b ≠ a.block))) (fun _ j _ => LL.length + 1 - (intOf j).toNat)
    case atStart => exact ⟨0, Nat.zero_le _, rfl, HST⟩
    case round =>
      clear HST
      obtain ⟨i, hi, rfl, HM⟩ := hrel
      obtain ⟨A6, c6', hv6⟩ := oshape HM.out.2.2.1
      subst hv6
      have i0 : (0 : Int) ≤ (i : Int) := by omega
      have HN := Lib.hid (show (WS VV CL LL i).length ≤ 9 by have := WS_len VV CL LL i; have := HL8.out; omega)
      have HOB : Hid (∃ b, (Value.slice A6 (WS VV CL LL i).length c6').ownBlock = some b) := Lib.hid (by
        obtain ⟨g6, cap6, hv7, _, _⟩ := HM.out.2.2.1.form (by unfold WS; simp)
        rw [hv7]; exact ⟨_, rfl⟩)
      by_cases hlt : i < LL.length
      · obtain ⟨⟨j, b⟩, hjb⟩ : ∃ x, LL[i]? = some x := ⟨LL[i], List.getElem?_eq_getElem hlt⟩
        obtain ⟨g, rfl, hgl, hcc⟩ := HM.out.2.1 (by omega)
        obtain ⟨p0, p1⟩ := hcc i j b hjb
        have hj9 := HTG.out i j b hjb
        have xj := HM.out.1.cell j _ (HGD.out j hj9)
        have q1 : (i : Int) < (LL.length : Int) := by omega
        have HWS := Lib.hid (WS_step VV CL LL i j b hjb)
        have gS : Below wr.heap.size wr (wr.alloc (.cells (List.toArray [.pointer (some ⟨AB, j, none⟩), .bool b]) 62)) := by go_grown
        have Hi := Lib.hid hlt
        have HMEM := Lib.hid (List.mem_of_getElem? hjb)
        have HOW := Lib.hid (HM.out.2.2.2.2 (by omega))
        obtain ⟨X, hX⟩ : ∃ X, X = CL.getD j 0 := ⟨_, rfl⟩
        rw [← hX] at xj
        have HX := Lib.hid hX
        have lj := HM.out.1.lt
        obtain ⟨WZ, hWZ⟩ : ∃ WZ, WZ = wr.alloc (.cells (List.toArray [.pointer (some ⟨AB, j, none⟩), .bool b]) 62) := ⟨_, rfl⟩
        have hbs := Bl.new wr [.pointer (some ⟨AB, j, none⟩), .bool b] 62
        have hzz : WZ.heap.size = wr.heap.size + 1 := by rw [hWZ]; exact World.size_alloc ..
        rw [← hWZ] at gS hbs
        have HMZ := Lib.hid (And.intro (HM.out.1.below gS) (And.intro (HM.out.2.1.below gS) (And.intro (rkept HM.out.2.2.1 gS) (Below.step HM.out.2.2.2.1 gS))))
        have HWZ := Lib.hid (And.intro hWZ (And.intro hbs hzz))
        have HGL0 := Lib.hid hgl
        clear hjb hcc hj9 hi hlt gS hX hgl hWZ hbs hzz
        rcases b with _ | _
        · have hun := HUN.out j HMEM.out
          rw [← HX.out] at hun
          obtain ⟨NX, hNX⟩ : ∃ NX : Nat, X = (NX : Int) := ⟨X.toNat, by omega⟩
          subst hNX
          have HIT := Lib.hid (itoa_is NX (by omega) WZ (HT0.out.below HMZ.out.2.2.2))
          have HSTR : Hid (Bs (wd false (CL.getD j 0)) = Bs (dcl NX)) := Lib.hid (by rw [← HX.out]; unfold wd; simp)
          clear hun HM
          go_wp2_with fail
          rw [← HWZ.out.1]
          refine HIT.out.mono ?_
          rintro e7 w7 ⟨rfl, hb7⟩
          have HM3 := Lib.hid (And.intro (HMZ.out.1.below hb7) (And.intro (HMZ.out.2.1.below hb7) (And.intro (rkept HMZ.out.2.2.1 hb7) (Below.step HMZ.out.2.2.2 hb7))))
          have HGL := Lib.hid (show g < w7.heap.size by have := hb7.size; have := HWZ.out.2.2; have := HGL0.out; omega)
          clear hb7 p0 p1 xj HIT
          have HO1 := Lib.hid (World.ownsRow.alloc (w := w7) HM3.out.2.2.1 (Obj.cells #[.string (Bs (dcl NX))] 9))
          have HRD := Lib.hid (reads_newN w7 1 1 [.string (Bs (dcl NX))] 9 rfl)
          have N1 := Lib.hid (show (WS VV CL LL i).length + 1 ≤ maxLen from by have := HN.out; unfold maxLen; omega)
          have N2 := Lib.hid (show ((WS VV CL LL i).length + 1) * 16 ≤ 140737488355328 from by have := HN.out; omega)
          have N3 := Lib.hid (show w3.heap.size ≤ (w7.alloc (Obj.cells #[.string (Bs (dcl NX))] 9)).heap.size from by have h1 := HM3.out.1.lt; have h2 := (HM3.out.2.2.1.lt _ HOB.out.choose_spec).2; have h3 := (HM3.out.2.2.1.lt _ HOB.out.choose_spec).1; rw [World.size_alloc]; omega)
          have NV := Lib.hid (show ∀ u ∈ ([.string (Bs (dcl NX))] : List Value), u.oneCell' = true from by intro u hu; simp only [List.mem_cons, List.not_mem_nil, or_false] at hu; subst hu; rfl)
          have gZ : Below w7.heap.size w7 (w7.alloc (Obj.cells #[.string (Bs (dcl NX))] 9)) := by go_grown
          have hB2 := Lib.hid (And.intro (Below.step HM3.out.2.2.2 gZ) (And.intro (HM3.out.1.below gZ) (HM3.out.2.1.below gZ)))
          have HZS := Lib.hid (And.intro HM3.out.2.1 (World.size_alloc w7 (Obj.cells #[.string (Bs (dcl NX))] 9)))
          clear gZ
          go_wp2_with (at_builtin; refine wpList_append_any _ rfl (.tmp 42) (.tmp 48) 46 rfl w3.heap.size 9 i0s (.string ⟨#[]⟩) 1 16 Tryd.underlying46 HII.out HZ0.out HZ1.out HZ2.out rfl (by decide) _ (WS VV CL LL i).length ((WS VV CL LL i).map fun l => .string (Bs l)) rfl HO1.out _ (some ⟨w7.heap.size, 0, none⟩) 1 1 [.string (Bs (dcl NX))] rfl HRD.out NV.out N1.out N2.out N3.out ?_; intro v3 w8 hown3 hgrow3 hblk3; have HPP := Lib.hid (And.intro hown3 (And.intro hgrow3 hblk3)); clear hown3 hgrow3 hblk3)
          go_roundw
          case rel =>
            have hvb : ∀ b a, v3.ownBlock = some b → some (⟨g, 0, none⟩ : Addr) = some a → b ≠ a.block := by
              intro b a h1 h2
              injection h2 with h2
              subst h2
              rcases HPP.out.2.2 with h3 | h3
              · rw [h3] at h1
                exact HOW.out b _ h1 rfl
              · rw [h3] at h1
                injection h1 with h1
                have hg := HGL.out
                have hz := HZS.out.2
                have : g < b := by rw [← h1, hz]; omega
                show b ≠ g
                omega
            refine ⟨i + 1, Hi.out, by go_num, Lib.hid ⟨?_, ?_, ?_, ?_, fun _ => hvb⟩⟩
            · exact bl_grown hB2.out.2.1 HPP.out.2.1 (fun b e => by have h1 := (HO1.out.lt b e).1; have h2 := HAB4.out; omega)
            · exact sl_grown hB2.out.2.2 HPP.out.2.1 (fun b e => HOW.out b _ e rfl)
            · rw [HWS.out, List.length_append, List.map_append]
              have hst : ([wd false (CL.getD j 0)] : List (List UInt8)).map (fun l => Value.string (Bs l)) = [.string (Bs (dcl NX))] := by rw [List.map_singleton, HSTR.out]
              rw [hst]
              exact HPP.out.1
            · exact Below.grown hB2.out.1 HPP.out.2.1 (by have h1 := hB2.out.1.size; omega) (fun b e => by have h1 := (HO1.out.lt b e).1; have h2 := HAB4.out; have h3 := HAB.out; omega)
          case measure => have := Hi.out; simp [intOf]; omega
        · have HSTR : Hid (Bs (wd true (CL.getD j 0)) = sd X) := Lib.hid (by rw [← HX.out]; unfold wd; simp only [if_true]; exact Bs_of _)
          have HNM := Lib.hid (name_is X WZ)
          have HM3 := HMZ
          have HGL := Lib.hid (show g < WZ.heap.size by have := HWZ.out.2.2; have := HGL0.out; omega)
          clear HM
          go_wp2_with fail
          rw [← HWZ.out.1]
          refine HNM.out.mono ?_
          rintro e7 w7 ⟨rfl, hw7⟩
          subst hw7
          clear p0 p1 xj HNM
          have HO1 := Lib.hid (World.ownsRow.alloc (w := WZ) HM3.out.2.2.1 (Obj.cells #[.string (sd X)] 9))
          have HRD := Lib.hid (reads_newN WZ 1 1 [.string (sd X)] 9 rfl)
          have N1 := Lib.hid (show (WS VV CL LL i).length + 1 ≤ maxLen from by have := HN.out; unfold maxLen; omega)
          have N2 := Lib.hid (show ((WS VV CL LL i).length + 1) * 16 ≤ 140737488355328 from by have := HN.out; omega)
          have N3 := Lib.hid (show w3.heap.size ≤ (WZ.alloc (Obj.cells #[.string (sd X)] 9)).heap.size from by have h1 := HM3.out.1.lt; have h2 := (HM3.out.2.2.1.lt _ HOB.out.choose_spec).2; have h3 := (HM3.out.2.2.1.lt _ HOB.out.choose_spec).1; rw [World.size_alloc]; omega)
          have NV := Lib.hid (show ∀ u ∈ ([.string (sd X)] : List Value), u.oneCell' = true from by intro u hu; simp only [List.mem_cons, List.not_mem_nil, or_false] at hu; subst hu; rfl)
          have gZ : Below WZ.heap.size WZ (WZ.alloc (Obj.cells #[.string (sd X)] 9)) := by go_grown
          have hB2 := Lib.hid (And.intro (Below.step HM3.out.2.2.2 gZ) (And.intro (HM3.out.1.below gZ) (HM3.out.2.1.below gZ)))
          have HZS := Lib.hid (And.intro HM3.out.2.1 (World.size_alloc WZ (Obj.cells #[.string (sd X)] 9)))
          clear gZ
          go_wp2_with (at_builtin; refine wpList_append_any _ rfl (.tmp 34) (.tmp 40) 46 rfl w3.heap.size 9 i0s (.string ⟨#[]⟩) 1 16 Tryd.underlying46 HII.out HZ0.out HZ1.out HZ2.out rfl (by decide) _ (WS VV CL LL i).length ((WS VV CL LL i).map fun l => .string (Bs l)) rfl HO1.out _ (some ⟨WZ.heap.size, 0, none⟩) 1 1 [.string (sd X)] rfl HRD.out NV.out N1.out N2.out N3.out ?_; intro v3 w8 hown3 hgrow3 hblk3; have HPP := Lib.hid (And.intro hown3 (And.intro hgrow3 hblk3)); clear hown3 hgrow3 hblk3)
          go_roundw
          case rel =>
            have hvb : ∀ b a, v3.ownBlock = some b → some (⟨g, 0, none⟩ : Addr) = some a → b ≠ a.block := by
              intro b a h1 h2
              injection h2 with h2
              subst h2
              rcases HPP.out.2.2 with h3 | h3
              · rw [h3] at h1
                exact HOW.out b _ h1 rfl
              · rw [h3] at h1
                injection h1 with h1
                have hg := HGL.out
                have hz := HZS.out.2
                have : g < b := by rw [← h1, hz]; omega
                show b ≠ g
                omega
            refine ⟨i + 1, Hi.out, by go_num, Lib.hid ⟨?_, ?_, ?_, ?_, fun _ => hvb⟩⟩
            · exact bl_grown hB2.out.2.1 HPP.out.2.1 (fun b e => by have h1 := (HO1.out.lt b e).1; have h2 := HAB4.out; omega)
            · exact sl_grown hB2.out.2.2 HPP.out.2.1 (fun b e => HOW.out b _ e rfl)
            · rw [HWS.out, List.length_append, List.map_append]
              have hst : ([wd true (CL.getD j 0)] : List (List UInt8)).map (fun l => Value.string (Bs l)) = [.string (sd X)] := by rw [List.map_singleton, HSTR.out]
              rw [hst]
              exact HPP.out.1
            · exact Below.grown hB2.out.1 HPP.out.2.1 (by have h1 := hB2.out.1.size; omega) (fun b e => by have h1 := (HO1.out.lt b e).1; have h2 := HAB4.out; have h3 := HAB.out; omega)
          case measure => have := Hi.out; simp [intOf]; omega
      · obtain rfl : i = LL.length := by omega
        have q5 : decide ((LL.length : Int) < (LL.length : Int)) = false := decide_eq_false (by omega)
        have hown := HM.out.2.2.1
        obtain ⟨g6, cap6, hv6, hb6, hlt6⟩ := hown.form (by unfold WS; simp)
        have hcap : (WS VV CL LL LL.length).length ≤ cap6 := by
          rcases hown.2 with ⟨_, h0⟩ | ⟨g7, cap7, cur7, hv7, _, _, hc7, _⟩
          · unfold WS at h0; simp at h0
          · rw [hv6] at hv7
            injection hv7 with _ _ h9
            rw [h9]; exact hc7
        injection hv6 with hv7 _ hv8
        subst hv7
        subst hv8
        have hcl := hown.cells (g := g6) rfl
        have hL : (WS VV CL LL LL.length).length = ((WS VV CL LL LL.length).map Bs).length := by rw [List.length_map]
        have hxs : (((WS VV CL LL LL.length).map Bs).map (fun s => s.data.toList)) = WS VV CL LL LL.length := by
          rw [List.map_map]
          have : ((fun s : ByteArray => s.data.toList) ∘ Bs) = id := by funext x; exact Bs_list x
          rw [this, List.map_id]
        have hjn : Lib.join (WS VV CL LL LL.length) [32] = VV ++ ws CL LL := by
          unfold WS
          rw [List.take_length]
          exact join_ws _ _ _
        have hlen : (VV ++ ws CL LL).length ≤ 140737488355328 := by
          have h1 := ws_len CL (fun j _ => Or.inr trivial) LL (fun x hx => wd_len x.2 _ (fun hb => (HUN.out x.1 (by rw [← hb]; exact hx)).2))
          have h2 := HVL.out
          have h3 := HL8.out
          rw [List.length_append]; omega
        have hj := (Any.strings_Join lays156 builderExtra g6 0 c6' ((WS VV CL LL LL.length).map Bs) ⟨#[32]⟩ wr (fun j x hx => by
          rw [List.getElem?_map] at hx
          obtain ⟨l, hl, rfl⟩ := Option.map_eq_some_iff.1 hx
          have := hcl j (.string (Bs l)) (by rw [List.getElem?_map, hl]; rfl)
          rw [← this]
          by_cases hj : j = 0
          · subst hj; rfl
          · rw [addp _ j hj rfl]) hlt6 (by rw [List.length_map]; have := HN.out; omega) (by rw [List.length_map]; exact hcap) (by rw [hxs]; show (Lib.join (WS VV CL LL LL.length) [32]).length ≤ _; rw [hjn]; exact hlen))
        rw [List.length_map, hxs, show (⟨#[32]⟩ : ByteArray).data.toList = [32] from rfl, hjn, show (ByteArray.mk (VV ++ ws CL LL).toArray) = Bs (VV ++ ws CL LL) from rfl] at hj
        have HJ := Lib.hid hj
        have HBW := Lib.hid HM.out.2.2.2.1
        clear hown hcl hxs hjn hlen hcap hb6 hlt6 hL hi hlt HM hj
        go_wp2_with fail
        refine HJ.out.mono ?_
        rintro e8 w8 ⟨rfl, hb8⟩
        have HB8 := Lib.hid (Below.step HBW.out hb8)
        clear hb8
        go_wp2_with fail
        go_ret2
        show PtIs _ _ _ _
        rw [← HCL.out, HR.out]
        exact ⟨rfl, HB8.out⟩

end Go.Proofs.YtnppopeoloigeaaDoor
