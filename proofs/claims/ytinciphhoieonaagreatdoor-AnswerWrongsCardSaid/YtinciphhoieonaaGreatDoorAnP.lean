/-
  The words told so far; numbers told.
-/
import Derived.Test.YtinciphhoieonaaGreatDoorRows
import Derived.Test.YtinciphhoieonaaGreatDoorKit
import Derived.Test.YtinciphhoieonaaGreatDoorApp
import Derived.Test.YtinciphhoieonaaGreatDoorQuiet
import Derived.WalkKit
import Derived.ProofKit
import Derived.OpenShut
import Derived.ShutString
import Derived.Below
import Derived.Outline
import Derived.WalkLawsBesides
import Derived.WalkSpells
import Derived.Handy
import Derived.Deep.QuietTactic
import Derived.BigQuiet
import Derived.RegionTactic
import Derived.ChangeAlike
import Derived.Lib.Hide
import Derived.Laws.Rows
import Derived.Laws.Tables
import Derived.Laws.CopyOwn
import Derived.Laws.MakeOwn
import Derived.Laws.Entries
import Derived.Laws.OwnMore
import Derived.Deep.WholeRow
import Derived.Deep.LoopGhost
import Derived.Deep.AppendLies
import Derived.Deep.Draws
import Derived.Maps.AppendAt
import Derived.OwnWalk
import Derived.Deep.RegionHeld3
import Derived.Deep.Cut
import Derived.Deep.CutRange
import Derived.Deep.DeepCutAuto
import Derived.Deep.CutBlock
import Derived.Lib.SliceRun
import Derived.IntWalk
import Derived.Laws.Strings
import Derived.Lib.Bytealg
import Derived.Lib.Strings
import Derived.Laws.Externs
import Derived.Test.YtinciphhoieonaaGreatDoorAnB
namespace Go.Proofs.YtinciphhoieonaaGreatDoor
open Go.ChangeShapes Go.WideShapes Go.ChangeAt Go.RowKit
theorem itoa_any (n : Nat) (hn : n ≤ 9223372036854775807) (w : World) (ht : Tb w) : Calls Tryz.prog 21 #[.int .i64 (n : Int)] w fun e w' => e = .returned (.string (Bs (dcl n))) ∧ Below w.heap.size w w' :=
  (Any.strconv_Itoa laysM171 (n : Int) (by omega) (by omega) w ht.tab).mono fun e w' ⟨h1, k, os, h2⟩ => by
    refine ⟨?_, by rw [h2]; exact grow_bel _ _ _⟩
    rw [h1, dcl_dec]
    have : Lib.itoa (n : Int) = Lib.decDigits n := by
      unfold Lib.itoa
      rw [if_neg (by omega), Int.toNat_natCast]
    rw [this]; rfl
theorem itoa_nn (x : Int) (h0 : 0 ≤ x) (hn : x ≤ 9223372036854775807) (w : World) (ht : Tb w) : Calls Tryz.prog 21 #[.int .i64 x] w fun e w' => e = .returned (.string (Bs (dcl x.toNat))) ∧ Below w.heap.size w w' := by
  have := itoa_any x.toNat (by omega) w ht
  rwa [show ((x.toNat : Nat) : Int) = x by omega] at this
theorem infoS' : (Tryz.prog.info? 9).map (fun i => (i.zero, i.size, i.bytes)) = some (some (.string ⟨#[]⟩), 1, 16) := by kernel_rfl
theorem bl_grown {B : Nat} {l : List Value} {w w' : World} {row : Option Nat} (h : Bl B l w) (hg : w.grownBy w' row) (hr : ∀ b, row = some b → b ≠ B) : Bl B l w' := by
  have hl := h.lt
  obtain ⟨t, ht⟩ := h
  exact ⟨t, (hg.block B hl (fun e => hr B e.symm rfl)).trans ht⟩
/-- The words told so far: a cell holds a slice that owns them. -/
def Wv (WB : Nat) (v : Value) (xs : List (List UInt8)) (w : World) : Prop := Bl WB [v] w ∧ w.ownsRow (WB + 1) 9 1 v (xs).length ((xs).map fun l => .string (Bs l))
theorem Wv.below {WB : Nat} {v : Value} {xs : List (List UInt8)} {w w' : World} (h : Wv WB v xs w) (hb : Below w.heap.size w w') : Wv WB v xs w' := ⟨h.1.below hb, rkept h.2 hb⟩
theorem Wv.own_ne {WB : Nat} {v : Value} {xs : List (List UInt8)} {w : World} (h : Wv WB v xs w) : ∀ b, v.ownBlock = some b → WB < b ∧ b < w.heap.size := fun b e => by
  have := h.2.lt b e
  omega
/-- A word more: behind the append and the store. -/
theorem told {WB LB : Nat} {v u : Value} {xs : List (List UInt8)} {x : List UInt8} {cs : List Value} {w0 w w' : World} (hW : Wv WB v xs w) (ho : w'.ownsRow (WB + 1) 9 1 u (xs ++ [x]).length ((xs ++ [x]).map fun l => .string (Bs l))) (hg : w.grownBy w' v.ownBlock) (hb : v.ownBlock = u.ownBlock ∨ u.ownBlock = some w.heap.size) (hL : Bl LB cs w) (hne : LB ≠ WB) (hv : ∀ b, v.ownBlock = some b → b ≠ LB) (hB : Below WB w0 w) : Wv WB u (xs ++ [x]) (w'.setCell ⟨WB, 0, none⟩ u) ∧ Bl LB cs (w'.setCell ⟨WB, 0, none⟩ u) ∧ (∀ b, u.ownBlock = some b → b ≠ LB) ∧ Below WB w0 (w'.setCell ⟨WB, 0, none⟩ u) := by
  have hlt := hW.1.lt
  have b1 : Bl WB [v] w' := bl_grown hW.1 hg (fun b e => by have := (hW.own_ne b e).1; omega)
  refine ⟨⟨Bl.set b1 0 u, ?_⟩, Bl.far (bl_grown hL hg hv) (p := ⟨WB, 0, none⟩) (fun e => hne e.symm) u, fun b e => ?_, ?_⟩
  · exact rfar ho (fun k h1 h2 => Below.heap_setCell w' ⟨WB, 0, none⟩ u k (by show k ≠ WB; omega))
  · rcases hb with h | h
    · exact hv b (h.trans e)
    · rw [h] at e
      injection e with e
      have := hL.lt
      omega
  · have hq : Below WB w0 w' := Below.grown hB hg (Nat.le_of_lt hlt) (fun b e => Nat.le_of_lt (hW.own_ne b e).1)
    exact Below.setCell (p := ⟨WB, 0, none⟩) hq (Nat.le_refl _) u
theorem stepB {B : Nat} {w0 w w' : World} (h : Below B w0 w) (hb : Below w.heap.size w w') (hB : B ≤ w.heap.size) : Below B w0 w' := h.trans (hb.mono hB)
theorem Tb.keep {B : Nat} {w w' : World} (h : Tb w) (hb : Below B w w') (h1 : 2 < B) : Tb w' := by
  have hgn : Tryz.prog.globalNamed "internal/strconv.uint64pow10" = some 2 := by kernel_rfl
  refine ⟨?_, by have := hb.size; have := h.lt; omega⟩
  have ht := h.tab
  unfold Lib.TabIs World.var? at ht ⊢
  rw [hgn] at ht ⊢
  simp only [Option.bind_some] at ht ⊢
  rw [hb.block 2 h1]
  exact ht
set_option maxRecDepth 100000 in
set_option maxHeartbeats 8000000 in
theorem put_is (WB LB n cp : Nat) (v : Value) (xs : List (List UInt8)) (ns : List Int) (hn : ns.length = n) (hn2 : n ≤ 3) (hx : xs.length ≤ 5000) (hall : ∀ x ∈ ns, 0 ≤ x ∧ x ≤ 9223372036854775807) (w : World) (hW : Wv WB v xs w) (hL : Bl LB (ns.map (Value.int .i64)) w) (hne : LB ≠ WB) (hv : ∀ b, v.ownBlock = some b → b ≠ LB) (h1 : 2 < WB) (ht : Tb w) : Calls Tryz.prog 20 #[.slice (some ⟨LB, 0, none⟩) n cp, .pointer (some ⟨WB, 0, none⟩)] w fun e w' => e = .returned (.tuple #[]) ∧ (∃ v', Wv WB v' (xs ++ ns.map fun n => dcl n.toNat) w') ∧ Below WB w w' := by
  have HST : Hid (∃ u, Wv WB u (xs ++ (ns.take 0).map fun n => dcl n.toNat) w ∧ Bl LB (ns.map (Value.int .i64)) w ∧ (∀ b, u.ownBlock = some b → b ≠ LB) ∧ Below WB w w) := Lib.hid ⟨v, by simpa using hW, hL, hv, Below.refl WB w⟩
  have HN := Lib.hid hn
  have HN2 := Lib.hid hn2
  have HXL := Lib.hid hx
  have HALL := Lib.hid hall
  have HNE := Lib.hid hne
  have H1 := Lib.hid h1
  have HT := Lib.hid ht
  have n1 : (n : Int) ≤ 3 := by omega
  obtain ⟨i0s, hii, hiz⟩ := Option.map_eq_some_iff.1 infoS'
  obtain ⟨hz0, hz1, hz2⟩ : i0s.zero = some (.string ⟨#[]⟩) ∧ i0s.size = 1 ∧ i0s.bytes = 16 := by simpa using hiz
  have HII := Lib.hid hii
  have HZ0 := Lib.hid hz0
  have HZ1 := Lib.hid hz1
  have HZ2 := Lib.hid hz2
  clear hii hiz hz0 hz1 hz2 hn hn2 hx hall hne h1 ht hW hL hv
  go_enter Tryz.func20, Tryz.ntmps20
  go_wp2_with fail
  go_loopw [7] (fun j wr => ∃ i : Nat, i ≤ n ∧ j = .int .i64 (i : Int) ∧ Hid (∃ u, Wv WB u (xs ++ (ns.take i).map fun n => dcl n.toNat) wr ∧ Bl LB (ns.map (Value.int .i64)) wr ∧ (∀ b, u.ownBlock = some b → b ≠ LB) ∧ Below WB w wr)) (fun j _ => n + 1 - (intOf j).toNat)
  case atStart => exact ⟨0, Nat.zero_le _, rfl, HST⟩
  case round =>
    clear HST
    obtain ⟨i, hi, rfl, HM⟩ := hrel
    have i0 : (0 : Int) ≤ (i : Int) := by omega
    obtain ⟨u, hu1, hu2, hu3, hu4⟩ := HM.out
    by_cases hlt : i < n
    · have hl : i < ns.length := by rw [HN.out]; exact hlt
      obtain ⟨X, hX⟩ : ∃ X, X = ns[i] := ⟨_, rfl⟩
      have hc := hu2.cell i (.int .i64 X) (by rw [List.getElem?_map, List.getElem?_eq_getElem hl, hX]; rfl)
      have HX0 := Lib.hid (HALL.out X (by rw [hX]; exact List.getElem_mem hl))
      have HXS : Hid ((ns.take (i + 1)).map (fun n => dcl n.toNat) = (ns.take i).map (fun n => dcl n.toNat) ++ [dcl X.toNat]) := Lib.hid (by rw [List.take_add_one, List.getElem?_eq_getElem hl, hX, List.map_append]; rfl)
      have q1 : (i : Int) < (n : Int) := by omega
      have Hi := Lib.hid hlt
      obtain ⟨XS, hXS⟩ : ∃ XS, XS = (xs ++ (ns.take i).map fun n => dcl n.toNat) := ⟨_, rfl⟩
      rw [← hXS] at hu1
      obtain ⟨A6, c6, hv6⟩ := oshape hu1.2
      subst hv6
      have gd : Below wr.heap.size wr wr.drew := (Below.refl _ _).drew
      have HW0 := Lib.hid (And.intro (hu1.below gd) (And.intro (hu2.below gd) (And.intro hu3 (Below.drew hu4))))
      have HTB0 := Lib.hid (Tb.keep HT.out HW0.out.2.2.2 H1.out)
      have hsz : XS.length ≤ 5003 := by rw [hXS, List.length_append, List.length_map, List.length_take]; have := HXL.out; have := HN2.out; omega
      have HXE := Lib.hid hXS
      have N1 := Lib.hid (show XS.length + 1 ≤ maxLen from by unfold maxLen; omega)
      have N2 := Lib.hid (show (XS.length + 1) * 16 ≤ 140737488355328 from by omega)
      clear hu1 hu2 hu3 hu4 HM hX hl gd hsz hi hlt hXS
      go_wp2_with fail
      refine wp_region_held_drew (S := fun _ => True) (by kernel_rfl) trivial (fun _ => ?_)
      refine wpAnyH_take (i := 1) (oi := { dst := some 12, op := Op.move (Operand.tmp 4), type := 3, pos := "answer.go:65", after := #[], guard := none }) (v := ?_) rfl (by as_aux_lemma => kernel_rfl) (by as_aux_lemma => kernel_rfl) (by as_aux_lemma => kernel_rfl) (fun _ _ _ h => h) (Or.inl ⟨by rfl, ?_⟩) (by assumption) ?_
      rotate_left
      · intro wq hSw
        go_simp
        try with_reducible rfl
      simp only [Act.put, List.setIfInBounds_toArray, List.set_cons_zero, List.set_cons_succ]
      refine wpAnyH_ready (rs := [0, 2]) (by as_aux_lemma => kernel_rfl) (by simp) ?_
      refine AllReadyH.cons (o := { dst := some 11, op := Op.load 55 (Operand.tmp 1), type := 55, pos := "answer.go:65", after := #[], guard := none }) rfl (fun K2 hK => ?_) (AllReadyH.cons (o := { dst := some 13, op := Op.call { callee := Callee.value (Operand.func 21), args := #[Operand.tmp 12], argTypes := #[3] }, type := 9, pos := "answer.go:65", after := #[{ on := 1, ground := Ground.data }], guard := none }) rfl (fun K2 hK => ?_) AllReadyH.nil)
      · have xl := HW0.out.1.1.cell 0 _ rfl
        go_simp
        clear xl
        refine hK.out _ _ trivial (fun _ => ?_)
        clear hK K2
        try simp only [Act.put, List.setIfInBounds_toArray, List.set_cons_zero, List.set_cons_succ]
        refine wpAnyH_ready (rs := [2]) (by as_aux_lemma => kernel_rfl) (by simp) ?_
        refine AllReadyH.cons (o := { dst := some 13, op := Op.call { callee := Callee.value (Operand.func 21), args := #[Operand.tmp 12], argTypes := #[3] }, type := 9, pos := "answer.go:65", after := #[{ on := 1, ground := Ground.data }], guard := none }) rfl (fun K2 hK => ?_) AllReadyH.nil
        go_simp
        go_at_call 21
        refine (itoa_nn X HX0.out.1 HX0.out.2 _ HTB0.out).mono ?_
        rintro e7 w7 ⟨rfl, hb7⟩
        have HW7 := Lib.hid (And.intro (HW0.out.1.below hb7) (And.intro (HW0.out.2.1.below hb7) (And.intro HW0.out.2.2.1 (stepB HW0.out.2.2.2 hb7 (Nat.le_of_lt HW0.out.1.1.lt)))))
        have g9 : Below w7.heap.size w7 (w7.alloc (Obj.cells #[.string (Bs (dcl X.toNat))] 9)) := by go_grown
        have HW9 := Lib.hid (And.intro (HW7.out.1.below g9) (And.intro (HW7.out.2.1.below g9) (And.intro HW7.out.2.2.1 (stepB HW7.out.2.2.2 g9 (Nat.le_of_lt HW7.out.1.1.lt)))))
        have HRD := Lib.hid (reads_newN w7 1 1 [.string (Bs (dcl X.toNat))] 9 rfl)
        have N3 := Lib.hid (show WB + 1 ≤ (w7.alloc (Obj.cells #[.string (Bs (dcl X.toNat))] 9)).heap.size from by have := HW9.out.1.1.lt; omega)
        clear g9 hb7
        refine hK.out _ _ trivial (fun _ => ?_)
        clear hK K2
        try simp only [Act.put, List.setIfInBounds_toArray, List.set_cons_zero, List.set_cons_succ]
        refine wpAnyH_ready (rs := [3]) (by as_aux_lemma => kernel_rfl) (by simp) ?_
        refine AllReadyH.cons (o := { dst := some 14, op := Op.buildSlice 55 1 #[(0, Operand.tmp 13)], type := 55, pos := "answer.go:65", after := #[{ on := 2, ground := Ground.data }], guard := none }) rfl (fun K2 hK => ?_) AllReadyH.nil
        go_simp
        refine hK.out _ _ trivial (fun _ => ?_)
        clear hK K2
        try simp only [Act.put, List.setIfInBounds_toArray, List.set_cons_zero, List.set_cons_succ]
        refine wpAnyH_ready (rs := [4]) (by as_aux_lemma => kernel_rfl) (by simp) ?_
        refine AllReadyH.cons (o := { dst := some 15, op := Op.call { callee := Callee.builtin Builtin.append, args := #[Operand.tmp 11, Operand.tmp 14], argTypes := #[55, 55] }, type := 55, pos := "answer.go:65", after := #[{ on := 0, ground := Ground.data }, { on := 3, ground := Ground.data }, { on := 2, ground := Ground.chain }], guard := none }) rfl (fun K2 hK => ?_) AllReadyH.nil
        refine wp_append_any _ (.tmp 11) (.tmp 14) 55 rfl (WB + 1) 9 i0s (.string ⟨#[]⟩) 1 16 Tryz.underlying55 HII.out HZ0.out HZ1.out HZ2.out rfl (by decide) _ _ _ rfl HW9.out.1.2 _ _ 1 1 [.string (Bs (dcl X.toNat))] rfl HRD.out (by intro u hu; simp only [List.mem_cons, List.not_mem_nil, or_false] at hu; subst hu; rfl) N1.out N2.out N3.out (fun v3 w8 hown3 hgrow3 hblk3 => ?_)
        obtain ⟨A8, c8, hv8⟩ := oshape hown3
        subst hv8
        have HPP := Lib.hid (And.intro hown3 (And.intro hgrow3 hblk3))
        have HB8 := Lib.hid (bl_grown HW9.out.1.1 hgrow3 (fun b e => by have := (HW9.out.1.own_ne b e).1; omega))
        clear hown3 hgrow3 hblk3
        refine hK.out _ _ trivial (fun _ => ?_)
        clear hK K2
        try simp only [Act.put, List.setIfInBounds_toArray, List.set_cons_zero, List.set_cons_succ]
        refine wpAnyH_ready (rs := [5]) (by as_aux_lemma => kernel_rfl) (by simp) ?_
        refine AllReadyH.cons (o := { dst := none, op := Op.store 55 (Operand.tmp 1) (Operand.tmp 15), type := 0, pos := "answer.go:65", after := #[{ on := 4, ground := Ground.data }, { on := 4, ground := Ground.chain }, { on := 0, ground := Ground.phase }, { on := 1, ground := Ground.phase }, { on := 2, ground := Ground.phase }, { on := 3, ground := Ground.phase }, { on := 4, ground := Ground.phase }], guard := none }) rfl (fun K2 hK => ?_) AllReadyH.nil
        have xb := HB8.out.cell 0 _ rfl
        have xf := HB8.out.frz 0
        go_simp
        clear xb xf
        refine hK.out _ _ trivial (fun _ => ?_)
        clear hK K2
        try simp only [Act.put, List.setIfInBounds_toArray, List.set_cons_zero, List.set_cons_succ]
        refine wpAnyH_done (by as_aux_lemma => kernel_rfl) ?_ _
        go_wp2_with fail
        go_roundw
        case measure => have := Hi.out; simp [intOf]; omega
        case rel =>
          have ht := told HW9.out.1 (x := dcl X.toNat) (by simpa using HPP.out.1) HPP.out.2.1 (HPP.out.2.2.elim (fun h => Or.inl h.symm) Or.inr) HW9.out.2.1 HNE.out HW9.out.2.2.1 HW9.out.2.2.2
          have e1 : xs ++ (ns.take (i + 1)).map (fun n => dcl n.toNat) = XS ++ [dcl X.toNat] := by
            rw [HXS.out, HXE.out, List.append_assoc]
          refine ⟨i + 1, Hi.out, by go_num, Lib.hid ⟨_, ?_, ht.2.1, ht.2.2.1, ht.2.2.2⟩⟩
          rw [e1]; exact ht.1
      · go_simp
        go_at_call 21
        refine (itoa_nn X HX0.out.1 HX0.out.2 _ HTB0.out).mono ?_
        rintro e7 w7 ⟨rfl, hb7⟩
        have HW7 := Lib.hid (And.intro (HW0.out.1.below hb7) (And.intro (HW0.out.2.1.below hb7) (And.intro HW0.out.2.2.1 (stepB HW0.out.2.2.2 hb7 (Nat.le_of_lt HW0.out.1.1.lt)))))
        have g9 : Below w7.heap.size w7 (w7.alloc (Obj.cells #[.string (Bs (dcl X.toNat))] 9)) := by go_grown
        have HW9 := Lib.hid (And.intro (HW7.out.1.below g9) (And.intro (HW7.out.2.1.below g9) (And.intro HW7.out.2.2.1 (stepB HW7.out.2.2.2 g9 (Nat.le_of_lt HW7.out.1.1.lt)))))
        have HRD := Lib.hid (reads_newN w7 1 1 [.string (Bs (dcl X.toNat))] 9 rfl)
        have N3 := Lib.hid (show WB + 1 ≤ (w7.alloc (Obj.cells #[.string (Bs (dcl X.toNat))] 9)).heap.size from by have := HW9.out.1.1.lt; omega)
        clear g9 hb7
        refine hK.out _ _ trivial (fun _ => ?_)
        clear hK K2
        try simp only [Act.put, List.setIfInBounds_toArray, List.set_cons_zero, List.set_cons_succ]
        refine wpAnyH_ready (rs := [0, 3]) (by as_aux_lemma => kernel_rfl) (by simp) ?_
        refine AllReadyH.cons (o := { dst := some 11, op := Op.load 55 (Operand.tmp 1), type := 55, pos := "answer.go:65", after := #[], guard := none }) rfl (fun K2 hK => ?_) (AllReadyH.cons (o := { dst := some 14, op := Op.buildSlice 55 1 #[(0, Operand.tmp 13)], type := 55, pos := "answer.go:65", after := #[{ on := 2, ground := Ground.data }], guard := none }) rfl (fun K2 hK => ?_) AllReadyH.nil)
        · have xl := HW7.out.1.1.cell 0 _ rfl
          go_simp
          clear xl
          refine hK.out _ _ trivial (fun _ => ?_)
          clear hK K2
          try simp only [Act.put, List.setIfInBounds_toArray, List.set_cons_zero, List.set_cons_succ]
          refine wpAnyH_ready (rs := [3]) (by as_aux_lemma => kernel_rfl) (by simp) ?_
          refine AllReadyH.cons (o := { dst := some 14, op := Op.buildSlice 55 1 #[(0, Operand.tmp 13)], type := 55, pos := "answer.go:65", after := #[{ on := 2, ground := Ground.data }], guard := none }) rfl (fun K2 hK => ?_) AllReadyH.nil
          go_simp
          refine hK.out _ _ trivial (fun _ => ?_)
          clear hK K2
          try simp only [Act.put, List.setIfInBounds_toArray, List.set_cons_zero, List.set_cons_succ]
          refine wpAnyH_ready (rs := [4]) (by as_aux_lemma => kernel_rfl) (by simp) ?_
          refine AllReadyH.cons (o := { dst := some 15, op := Op.call { callee := Callee.builtin Builtin.append, args := #[Operand.tmp 11, Operand.tmp 14], argTypes := #[55, 55] }, type := 55, pos := "answer.go:65", after := #[{ on := 0, ground := Ground.data }, { on := 3, ground := Ground.data }, { on := 2, ground := Ground.chain }], guard := none }) rfl (fun K2 hK => ?_) AllReadyH.nil
          refine wp_append_any _ (.tmp 11) (.tmp 14) 55 rfl (WB + 1) 9 i0s (.string ⟨#[]⟩) 1 16 Tryz.underlying55 HII.out HZ0.out HZ1.out HZ2.out rfl (by decide) _ _ _ rfl HW9.out.1.2 _ _ 1 1 [.string (Bs (dcl X.toNat))] rfl HRD.out (by intro u hu; simp only [List.mem_cons, List.not_mem_nil, or_false] at hu; subst hu; rfl) N1.out N2.out N3.out (fun v3 w8 hown3 hgrow3 hblk3 => ?_)
          obtain ⟨A8, c8, hv8⟩ := oshape hown3
          subst hv8
          have HPP := Lib.hid (And.intro hown3 (And.intro hgrow3 hblk3))
          have HB8 := Lib.hid (bl_grown HW9.out.1.1 hgrow3 (fun b e => by have := (HW9.out.1.own_ne b e).1; omega))
          clear hown3 hgrow3 hblk3
          refine hK.out _ _ trivial (fun _ => ?_)
          clear hK K2
          try simp only [Act.put, List.setIfInBounds_toArray, List.set_cons_zero, List.set_cons_succ]
          refine wpAnyH_ready (rs := [5]) (by as_aux_lemma => kernel_rfl) (by simp) ?_
          refine AllReadyH.cons (o := { dst := none, op := Op.store 55 (Operand.tmp 1) (Operand.tmp 15), type := 0, pos := "answer.go:65", after := #[{ on := 4, ground := Ground.data }, { on := 4, ground := Ground.chain }, { on := 0, ground := Ground.phase }, { on := 1, ground := Ground.phase }, { on := 2, ground := Ground.phase }, { on := 3, ground := Ground.phase }, { on := 4, ground := Ground.phase }], guard := none }) rfl (fun K2 hK => ?_) AllReadyH.nil
          have xb := HB8.out.cell 0 _ rfl
          have xf := HB8.out.frz 0
          go_simp
          clear xb xf
          refine hK.out _ _ trivial (fun _ => ?_)
          clear hK K2
          try simp only [Act.put, List.setIfInBounds_toArray, List.set_cons_zero, List.set_cons_succ]
          refine wpAnyH_done (by as_aux_lemma => kernel_rfl) ?_ _
          go_wp2_with fail
          go_roundw
          case measure => have := Hi.out; simp [intOf]; omega
          case rel =>
            have ht := told HW9.out.1 (x := dcl X.toNat) (by simpa using HPP.out.1) HPP.out.2.1 (HPP.out.2.2.elim (fun h => Or.inl h.symm) Or.inr) HW9.out.2.1 HNE.out HW9.out.2.2.1 HW9.out.2.2.2
            have e1 : xs ++ (ns.take (i + 1)).map (fun n => dcl n.toNat) = XS ++ [dcl X.toNat] := by
              rw [HXS.out, HXE.out, List.append_assoc]
            refine ⟨i + 1, Hi.out, by go_num, Lib.hid ⟨_, ?_, ht.2.1, ht.2.2.1, ht.2.2.2⟩⟩
            rw [e1]; exact ht.1
        · go_simp
          refine hK.out _ _ trivial (fun _ => ?_)
          clear hK K2
          try simp only [Act.put, List.setIfInBounds_toArray, List.set_cons_zero, List.set_cons_succ]
          refine wpAnyH_ready (rs := [0]) (by as_aux_lemma => kernel_rfl) (by simp) ?_
          refine AllReadyH.cons (o := { dst := some 11, op := Op.load 55 (Operand.tmp 1), type := 55, pos := "answer.go:65", after := #[], guard := none }) rfl (fun K2 hK => ?_) AllReadyH.nil
          have xl := HW9.out.1.1.cell 0 _ rfl
          go_simp
          clear xl
          refine hK.out _ _ trivial (fun _ => ?_)
          clear hK K2
          try simp only [Act.put, List.setIfInBounds_toArray, List.set_cons_zero, List.set_cons_succ]
          refine wpAnyH_ready (rs := [4]) (by as_aux_lemma => kernel_rfl) (by simp) ?_
          refine AllReadyH.cons (o := { dst := some 15, op := Op.call { callee := Callee.builtin Builtin.append, args := #[Operand.tmp 11, Operand.tmp 14], argTypes := #[55, 55] }, type := 55, pos := "answer.go:65", after := #[{ on := 0, ground := Ground.data }, { on := 3, ground := Ground.data }, { on := 2, ground := Ground.chain }], guard := none }) rfl (fun K2 hK => ?_) AllReadyH.nil
          refine wp_append_any _ (.tmp 11) (.tmp 14) 55 rfl (WB + 1) 9 i0s (.string ⟨#[]⟩) 1 16 Tryz.underlying55 HII.out HZ0.out HZ1.out HZ2.out rfl (by decide) _ _ _ rfl HW9.out.1.2 _ _ 1 1 [.string (Bs (dcl X.toNat))] rfl HRD.out (by intro u hu; simp only [List.mem_cons, List.not_mem_nil, or_false] at hu; subst hu; rfl) N1.out N2.out N3.out (fun v3 w8 hown3 hgrow3 hblk3 => ?_)
          obtain ⟨A8, c8, hv8⟩ := oshape hown3
          subst hv8
          have HPP := Lib.hid (And.intro hown3 (And.intro hgrow3 hblk3))
          have HB8 := Lib.hid (bl_grown HW9.out.1.1 hgrow3 (fun b e => by have := (HW9.out.1.own_ne b e).1; omega))
          clear hown3 hgrow3 hblk3
          refine hK.out _ _ trivial (fun _ => ?_)
          clear hK K2
          try simp only [Act.put, List.setIfInBounds_toArray, List.set_cons_zero, List.set_cons_succ]
          refine wpAnyH_ready (rs := [5]) (by as_aux_lemma => kernel_rfl) (by simp) ?_
          refine AllReadyH.cons (o := { dst := none, op := Op.store 55 (Operand.tmp 1) (Operand.tmp 15), type := 0, pos := "answer.go:65", after := #[{ on := 4, ground := Ground.data }, { on := 4, ground := Ground.chain }, { on := 0, ground := Ground.phase }, { on := 1, ground := Ground.phase }, { on := 2, ground := Ground.phase }, { on := 3, ground := Ground.phase }, { on := 4, ground := Ground.phase }], guard := none }) rfl (fun K2 hK => ?_) AllReadyH.nil
          have xb := HB8.out.cell 0 _ rfl
          have xf := HB8.out.frz 0
          go_simp
          clear xb xf
          refine hK.out _ _ trivial (fun _ => ?_)
          clear hK K2
          try simp only [Act.put, List.setIfInBounds_toArray, List.set_cons_zero, List.set_cons_succ]
          refine wpAnyH_done (by as_aux_lemma => kernel_rfl) ?_ _
          go_wp2_with fail
          go_roundw
          case measure => have := Hi.out; simp [intOf]; omega
          case rel =>
            have ht := told HW9.out.1 (x := dcl X.toNat) (by simpa using HPP.out.1) HPP.out.2.1 (HPP.out.2.2.elim (fun h => Or.inl h.symm) Or.inr) HW9.out.2.1 HNE.out HW9.out.2.2.1 HW9.out.2.2.2
            have e1 : xs ++ (ns.take (i + 1)).map (fun n => dcl n.toNat) = XS ++ [dcl X.toNat] := by
              rw [HXS.out, HXE.out, List.append_assoc]
            refine ⟨i + 1, Hi.out, by go_num, Lib.hid ⟨_, ?_, ht.2.1, ht.2.2.1, ht.2.2.2⟩⟩
            rw [e1]; exact ht.1
    · obtain rfl : i = n := by omega
      have q5 : decide ((i : Int) < (i : Int)) = false := decide_eq_false (by omega)
      have HF : Hid ((∃ v', Wv WB v' (xs ++ ns.map fun n => dcl n.toNat) wr) ∧ Below WB w wr) := Lib.hid ⟨⟨u, by rwa [← HN.out, List.take_length] at hu1⟩, hu4⟩
      clear hi hlt hu1 hu2 hu3 hu4 HM
      go_wp2_with fail
      go_end0
      exact ⟨rfl, HF.out⟩

end Go.Proofs.YtinciphhoieonaaGreatDoor
