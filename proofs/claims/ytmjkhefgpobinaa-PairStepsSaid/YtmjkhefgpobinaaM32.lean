/-
  Texts of the machine of pairs, part 32.
-/
import Derived.Test.YtmjkhefgpobinaaM1
import Derived.Test.YtmjkhefgpobinaaM2
import Derived.Test.YtmjkhefgpobinaaM27
import Derived.Test.YtmjkhefgpobinaaM31
namespace Go.Proofs.Ytmjkhefgpobinaa
open Go.ChangeShapes Go.WideShapes Go.ChangeAt Go.RowKit
set_option maxRecDepth 100000 in
set_option maxHeartbeats 16000000 in
theorem both_bad (p c n b r f g : Int) (A : Option Addr) (len cap : Nat) (w : World) (h : ¬ ((1 ≤ p ∧ p ≤ 6) ∧ (1 ≤ c ∧ c ≤ 4) ∧ (1 ≤ n ∧ n ≤ 3) ∧ (1 ≤ b ∧ b ≤ 4) ∧ (0 ≤ r ∧ r ≤ 4) ∧ (1 ≤ f ∧ f ≤ 4) ∧ (1 ≤ g ∧ g ≤ 15))) : Calls Try.prog 7 #[.agg #[.int .i64 p, .int .i64 c, .int .i64 n, .int .i64 b, .int .i64 r, .int .i64 f, .int .i64 g], .slice A len cap] w (BothNo w) := by
  have HNE := Lib.hid (fun W' => rnew_bad p c n b r f g W' h)
  have HMY := Lib.hid (fun W' => may_bad p c n b r f g W' h)
  clear h
  go_enter Try.func7, Try.ntmps7
  go_wp2_with fail
  have HCB0 := Lib.hid (BT.new w [.int .i64 p, .int .i64 c, .int .i64 n, .int .i64 b, .int .i64 r, .int .i64 f, .int .i64 g] 23)
  have HB0 := Lib.hid (show Below w.heap.size w (w.alloc (Obj.cells #[.int .i64 p, .int .i64 c, .int .i64 n, .int .i64 b, .int .i64 r, .int .i64 f, .int .i64 g] 23)) from by go_grown)
  refine (HNE.out _).mono ?_
  rintro e w1 ⟨T, v, rfl, hb1⟩
  have HCB1 := Lib.hid (HCB0.out.below hb1)
  have HB1 := Lib.hid (Below.step HB0.out hb1)
  have hc1 := HCB1.out.bl
  have l1 := hc1.lt
  have c0 := hc1.cell 0 _ rfl
  have c1 := hc1.cell 1 _ rfl
  have c2 := hc1.cell 2 _ rfl
  have c3 := hc1.cell 3 _ rfl
  have c4 := hc1.cell 4 _ rfl
  have c5 := hc1.cell 5 _ rfl
  have c6 := hc1.cell 6 _ rfl
  clear hb1 HCB0 HB0 hc1
  go_wp2_with fail
  have HB2 := Lib.hid (HB1.out.alloc HB1.out.size (Obj.cells #[.int .i64 0, .int .i64 0, .int .i64 0, .int .i64 0, .int .i64 0, .int .i64 0, .int .i64 0] 52))
  refine (HMY.out _).mono ?_
  rintro e w3 ⟨rfl, hb3⟩
  have HB3 := Lib.hid (Below.step HB2.out hb3)
  clear hb3
  go_wp2_with fail
  go_ret3
  exact ⟨rfl, HB3.out⟩
theorem cfg_of {p c n b r f g : Int} (h : (1 ≤ p ∧ p ≤ 6) ∧ (1 ≤ c ∧ c ≤ 4) ∧ (1 ≤ n ∧ n ≤ 3) ∧ (1 ≤ b ∧ b ≤ 4) ∧ (0 ≤ r ∧ r ≤ 4) ∧ (1 ≤ f ∧ f ≤ 4) ∧ (1 ≤ g ∧ g ≤ 15)) : ∃ C : Cfg, C.Ok ∧ p = (C.p : Int) ∧ c = (C.c : Int) ∧ n = C.n ∧ b = C.b ∧ r = C.r ∧ f = (C.f : Int) ∧ g = (C.g : Int) := by
  obtain ⟨⟨p0, p1⟩, ⟨c0, c1⟩, hn, hb, hr, ⟨f0, f1⟩, ⟨g0, g1⟩⟩ := h
  exact ⟨⟨p.toNat, c.toNat, f.toNat, g.toNat, n, b, r⟩, ⟨by simp only; omega, by simp only; omega, by simp only; omega, by simp only; omega, hn, hb, hr⟩, by simp only; omega, by simp only; omega, rfl, rfl, rfl, by simp only; omega, by simp only; omega⟩
def cx : Cfg := ⟨2, 1, 2, 1, 1, 1, 0⟩
theorem cx_ok : cx.Ok := ⟨by decide, by decide, by decide, by decide, by decide, by decide, by decide⟩
def ox : Nat → Odr := fun i => if i = 0 then ⟨⟨2, false, 1, 5, 0⟩, ⟨0, 0, 10, 1, 9⟩⟩ else ⟨⟨2, false, 1, 3, 0⟩, ⟨0, 1, 8, 1, 9⟩⟩
theorem ox_wf (i : Nat) : WfS (ox i).s ∧ WfT (ox i).t := by
  unfold ox; split <;> exact ⟨⟨by decide, by decide, by decide, by decide⟩, ⟨by decide, by decide, by decide, by decide, by decide⟩⟩
theorem ox_ok (i : Nat) (hi : i < 2) : OrdOk cx i (ox i) := by
  match i, hi with
  | 0, _ => exact ⟨by decide, fit_of (by decide) (by decide) (by decide) (by decide), fitT_of (by decide) (by decide) (by decide) (by decide) (by decide), by decide, by decide, by decide, by decide, rfl, ⟨by decide, by decide, by decide, by decide, by decide, by decide⟩⟩
  | 1, _ => exact ⟨by decide, fit_of (by decide) (by decide) (by decide) (by decide), fitT_of (by decide) (by decide) (by decide) (by decide) (by decide), by decide, by decide, by decide, by decide, rfl, ⟨by decide, by decide, by decide, by decide, by decide, by decide⟩⟩
theorem results_tc0 {P : Program} {fn : Func} {p q : Tmp} {ty : TypeId} (h : fn.results = #[.cell p ty, .tmp q]) (tmps : Array Value) (w : World) (g : Nat) (l : List Value) (d : TypeDesc) (v : Value)
    (hp : tmps.getD p undef = .pointer (some ⟨g, 0, none⟩)) (hq : tmps.getD q undef = v) (hg : Bl g l w)
    (hu : P.underlying ty = some d) (hd : (match d with | .struct _ | .array _ _ => true | _ => false) = true) (hi : (P.info? ty).map (·.size) = some l.length) :
    (results fn tmps).run P w = .ok (.tuple #[.agg l.toArray, v]) w := results_two h tmps w g l d v hp hq hg hu hd hi
set_option maxRecDepth 100000 in
set_option maxHeartbeats 16000000 in
theorem orders_is (w : World) : Calls Try.prog 36 #[] w fun e w' => ∃ A len cap, e = .returned (.tuple #[RC cx, .slice A len cap]) ∧ len = 2 ∧ OdsAt A len ox w' ∧ Below w.heap.size w w' := by
  go_enter Try.func36, Try.ntmps36
  go_wp2_with fail
  go_region
  go_wp2
  have hbl : Bl w.heap.size [.int .i64 2, .int .i64 1, .int .i64 1, .int .i64 1, .int .i64 0, .int .i64 2, .int .i64 1] (((((w.alloc (Obj.cells #[.int .i64 2, .int .i64 1, .int .i64 1, .int .i64 1, .int .i64 0, .int .i64 2, .int .i64 1] 23)).alloc (Obj.cells #[.int .i64 2, .int .i64 1, .int .i64 1, .int .i64 1, .int .i64 0, .int .i64 2, .int .i64 1] 23)).alloc (Obj.cells #[.int .i64 2, .bool false, .int .i64 1, .int .i64 5, .int .i64 0, .int .i64 0, .int .i64 0, .int .i64 10, .int .i64 1, .int .i64 9] 87)).alloc (Obj.cells #[.int .i64 2, .bool false, .int .i64 1, .int .i64 3, .int .i64 0, .int .i64 0, .int .i64 1, .int .i64 8, .int .i64 1, .int .i64 9] 87)).alloc (Obj.cells #[.int .i64 2, .bool false, .int .i64 1, .int .i64 5, .int .i64 0, .int .i64 0, .int .i64 0, .int .i64 10, .int .i64 1, .int .i64 9, .int .i64 2, .bool false, .int .i64 1, .int .i64 3, .int .i64 0, .int .i64 0, .int .i64 1, .int .i64 8, .int .i64 1, .int .i64 9] 87)) := (Bl.new w [.int .i64 2, .int .i64 1, .int .i64 1, .int .i64 1, .int .i64 0, .int .i64 2, .int .i64 1] 23).below (show Below (w.alloc (Obj.cells #[.int .i64 2, .int .i64 1, .int .i64 1, .int .i64 1, .int .i64 0, .int .i64 2, .int .i64 1] 23)).heap.size (w.alloc (Obj.cells #[.int .i64 2, .int .i64 1, .int .i64 1, .int .i64 1, .int .i64 0, .int .i64 2, .int .i64 1] 23)) (((((w.alloc (Obj.cells #[.int .i64 2, .int .i64 1, .int .i64 1, .int .i64 1, .int .i64 0, .int .i64 2, .int .i64 1] 23)).alloc (Obj.cells #[.int .i64 2, .int .i64 1, .int .i64 1, .int .i64 1, .int .i64 0, .int .i64 2, .int .i64 1] 23)).alloc (Obj.cells #[.int .i64 2, .bool false, .int .i64 1, .int .i64 5, .int .i64 0, .int .i64 0, .int .i64 0, .int .i64 10, .int .i64 1, .int .i64 9] 87)).alloc (Obj.cells #[.int .i64 2, .bool false, .int .i64 1, .int .i64 3, .int .i64 0, .int .i64 0, .int .i64 1, .int .i64 8, .int .i64 1, .int .i64 9] 87)).alloc (Obj.cells #[.int .i64 2, .bool false, .int .i64 1, .int .i64 5, .int .i64 0, .int .i64 0, .int .i64 0, .int .i64 10, .int .i64 1, .int .i64 9, .int .i64 2, .bool false, .int .i64 1, .int .i64 3, .int .i64 0, .int .i64 0, .int .i64 1, .int .i64 8, .int .i64 1, .int .i64 9] 87)) from by go_grown)
  have e4 : ((((w.alloc (Obj.cells #[.int .i64 2, .int .i64 1, .int .i64 1, .int .i64 1, .int .i64 0, .int .i64 2, .int .i64 1] 23)).alloc (Obj.cells #[.int .i64 2, .int .i64 1, .int .i64 1, .int .i64 1, .int .i64 0, .int .i64 2, .int .i64 1] 23)).alloc (Obj.cells #[.int .i64 2, .bool false, .int .i64 1, .int .i64 5, .int .i64 0, .int .i64 0, .int .i64 0, .int .i64 10, .int .i64 1, .int .i64 9] 87)).alloc (Obj.cells #[.int .i64 2, .bool false, .int .i64 1, .int .i64 3, .int .i64 0, .int .i64 0, .int .i64 1, .int .i64 8, .int .i64 1, .int .i64 9] 87)).heap.size = w.heap.size + 1 + 1 + 1 + 1 := by simp only [World.size_alloc]
  have hrw : Bl (w.heap.size + 1 + 1 + 1 + 1) (od (ox 0) ++ od (ox 1)) (((((w.alloc (Obj.cells #[.int .i64 2, .int .i64 1, .int .i64 1, .int .i64 1, .int .i64 0, .int .i64 2, .int .i64 1] 23)).alloc (Obj.cells #[.int .i64 2, .int .i64 1, .int .i64 1, .int .i64 1, .int .i64 0, .int .i64 2, .int .i64 1] 23)).alloc (Obj.cells #[.int .i64 2, .bool false, .int .i64 1, .int .i64 5, .int .i64 0, .int .i64 0, .int .i64 0, .int .i64 10, .int .i64 1, .int .i64 9] 87)).alloc (Obj.cells #[.int .i64 2, .bool false, .int .i64 1, .int .i64 3, .int .i64 0, .int .i64 0, .int .i64 1, .int .i64 8, .int .i64 1, .int .i64 9] 87)).alloc (Obj.cells #[.int .i64 2, .bool false, .int .i64 1, .int .i64 5, .int .i64 0, .int .i64 0, .int .i64 0, .int .i64 10, .int .i64 1, .int .i64 9, .int .i64 2, .bool false, .int .i64 1, .int .i64 3, .int .i64 0, .int .i64 0, .int .i64 1, .int .i64 8, .int .i64 1, .int .i64 9] 87)) := by
    have := Bl.new ((((w.alloc (Obj.cells #[.int .i64 2, .int .i64 1, .int .i64 1, .int .i64 1, .int .i64 0, .int .i64 2, .int .i64 1] 23)).alloc (Obj.cells #[.int .i64 2, .int .i64 1, .int .i64 1, .int .i64 1, .int .i64 0, .int .i64 2, .int .i64 1] 23)).alloc (Obj.cells #[.int .i64 2, .bool false, .int .i64 1, .int .i64 5, .int .i64 0, .int .i64 0, .int .i64 0, .int .i64 10, .int .i64 1, .int .i64 9] 87)).alloc (Obj.cells #[.int .i64 2, .bool false, .int .i64 1, .int .i64 3, .int .i64 0, .int .i64 0, .int .i64 1, .int .i64 8, .int .i64 1, .int .i64 9] 87)) (od (ox 0) ++ od (ox 1)) 87
    rw [e4] at this
    exact this
  refine bodyPost_ret (results_tc0 rfl _ _ w.heap.size [.int .i64 2, .int .i64 1, .int .i64 1, .int .i64 1, .int .i64 0, .int .i64 2, .int .i64 1] _ _ rfl rfl hbl Try.underlying23 rfl (by kernel_rfl)) rfl ?_
  refine ⟨some ⟨w.heap.size + 1 + 1 + 1 + 1, 0, none⟩, 2, 2, rfl, rfl, fun _ => ⟨_, rfl, hrw.lt, fun i hi => ⟨fun j u hu => ?_, ox_wf i⟩⟩, by go_grown⟩
  rw [Addr.add_mid]
  have hj : j < 10 := (List.getElem?_eq_some_iff.1 hu).1
  match i, hi with
  | 0, _ =>
    refine hrw.cell _ u ?_
    rw [show 0 + (0 * 10 + j) = j from by omega, List.getElem?_append_left hj]
    exact hu
  | 1, _ =>
    refine hrw.cell _ u ?_
    rw [show 0 + (1 * 10 + j) = 10 + j from by omega, List.getElem?_append_right (by show 10 ≤ 10 + j; omega)]
    rw [show 10 + j - (od (ox 0)).length = j from by show 10 + j - 10 = j; omega]
    exact hu
end Go.Proofs.Ytmjkhefgpobinaa
namespace Go.Proofs.Ytmjkhefgpobinaa
open Go.ChangeShapes Go.WideShapes Go.ChangeAt Go.RowKit
/-- Tries in a world: all of it in memory. -/
structure MM (K : Nat) (C : Cfg) (W M B Ck n : Nat) (ps : Nat → Nat) (aX aY : Nat → Int) (st : Int) (ts : Nat → Tr Tm5) (mw : Mw Tm5) (J : Nat → Rc) (ws : Nat → Int) (lv : Value) (w0 w : World) : Prop where
  p : PW K C W M B Ck ws st mw.now lv mw.log w
  r : Rel C ws mw.S mw.Tm J
  t : ∀ i, i < n → Bl (ps i) (prc (aX i) (aY i) (ts i)) w ∧ Gd (ts i) ∧ Own C (aX i) (aY i) (ts i)
  b : Below w0.heap.size w0 w
/-- What stays of it. -/
structure MF (K : Nat) (W M B Ck n : Nat) (ps : Nat → Nat) (w0 : World) : Prop where
  a : ∀ i, i < n → Ap K W M B Ck (ps i)
  i : ∀ i j, i < n → j < n → i ≠ j → ps i ≠ ps j
  lo : w0.heap.size ≤ W ∧ w0.heap.size ≤ M ∧ w0.heap.size ≤ B ∧ w0.heap.size ≤ Ck
  lp : ∀ i, i < n → w0.heap.size ≤ ps i
  k : w0.heap.size ≤ K
theorem MM.below {K : Nat} {C : Cfg} {W M B Ck n : Nat} {ps : Nat → Nat} {aX aY : Nat → Int} {st : Int} {ts : Nat → Tr Tm5} {mw : Mw Tm5} {J : Nat → Rc} {ws : Nat → Int} {lv : Value} {w0 w w' : World} (h : MM K C W M B Ck n ps aX aY st ts mw J ws lv w0 w) (hb : Below w.heap.size w w') : MM K C W M B Ck n ps aX aY st ts mw J ws lv w0 w' :=
  ⟨h.p.below hb, h.r, fun i hi => ⟨(h.t i hi).1.below hb, (h.t i hi).2⟩, Below.step h.b hb⟩
theorem stT_x (P : Pm Tm5) (t : Tr Tm5) (mw : Mw Tm5) : (stepT P t mw).1.x = t.x ∧ (stepT P t mw).1.y = t.y ∧ (stepT P t mw).1.ok = t.ok := by
  unfold stepT
  split
  · exact ⟨rfl, rfl, rfl⟩
  · split
    · exact ⟨rfl, rfl, rfl⟩
    · split
      · exact ⟨rfl, rfl, rfl⟩
      · exact ⟨rfl, rfl, rfl⟩
      · unfold stHold; split
        · split <;> exact ⟨rfl, rfl, rfl⟩
        · exact ⟨rfl, rfl, rfl⟩
      · exact ⟨rfl, rfl, rfl⟩
      · exact ⟨rfl, rfl, rfl⟩
      · unfold stTake; split
        · split
          · exact ⟨rfl, rfl, rfl⟩
          · split
            · exact ⟨rfl, rfl, rfl⟩
            · split <;> exact ⟨rfl, rfl, rfl⟩
        · exact ⟨rfl, rfl, rfl⟩
      · unfold stLook; split <;> exact ⟨rfl, rfl, rfl⟩
      · unfold stLet; split
        · split
          · exact ⟨rfl, rfl, rfl⟩
          · split <;> exact ⟨rfl, rfl, rfl⟩
        · exact ⟨rfl, rfl, rfl⟩
      · unfold stLook; split <;> exact ⟨rfl, rfl, rfl⟩
      · unfold stLet; split
        · split
          · exact ⟨rfl, rfl, rfl⟩
          · split <;> exact ⟨rfl, rfl, rfl⟩
        · exact ⟨rfl, rfl, rfl⟩
      · exact ⟨rfl, rfl, rfl⟩
theorem stT_w (P : Pm Tm5) (t : Tr Tm5) (mw : Mw Tm5) : (stepT P t mw).2.now = mw.now ∧ (stepT P t mw).2.Tm = mw.Tm ∧ (stepT P t mw).2.log.length ≤ mw.log.length + 1 := by
  have e0 : mw.log.length ≤ mw.log.length + 1 := Nat.le_succ _
  have e1 : ∀ x : Lg, (mw.log ++ [x]).length ≤ mw.log.length + 1 := fun x => by rw [List.length_append]; exact Nat.le_refl _
  unfold stepT
  split
  · exact ⟨rfl, rfl, e0⟩
  · split
    · exact ⟨rfl, rfl, e0⟩
    · split
      · exact ⟨rfl, rfl, e0⟩
      · exact ⟨rfl, rfl, e0⟩
      · unfold stHold; split
        · split <;> exact ⟨rfl, rfl, e0⟩
        · exact ⟨rfl, rfl, e0⟩
      · exact ⟨rfl, rfl, e0⟩
      · exact ⟨rfl, rfl, e0⟩
      · unfold stTake; split
        · split
          · exact ⟨rfl, rfl, e0⟩
          · split
            · exact ⟨rfl, rfl, e0⟩
            · split
              · exact ⟨rfl, rfl, e1 _⟩
              · exact ⟨rfl, rfl, e0⟩
        · exact ⟨rfl, rfl, e0⟩
      · unfold stLook; split <;> exact ⟨rfl, rfl, e0⟩
      · unfold stLet; split
        · split
          · exact ⟨rfl, rfl, e0⟩
          · split
            · refine ⟨rfl, rfl, ?_⟩
              show (if _ then _ else _ : List Lg).length ≤ _
              split
              · exact e1 _
              · exact e0
            · exact ⟨rfl, rfl, e0⟩
        · exact ⟨rfl, rfl, e0⟩
      · unfold stLook; split <;> exact ⟨rfl, rfl, e0⟩
      · unfold stLet; split
        · split
          · exact ⟨rfl, rfl, e0⟩
          · split
            · refine ⟨rfl, rfl, ?_⟩
              show (if _ then _ else _ : List Lg).length ≤ _
              split
              · exact e1 _
              · exact e0
            · exact ⟨rfl, rfl, e0⟩
        · exact ⟨rfl, rfl, e0⟩
      · exact ⟨rfl, rfl, e0⟩
theorem Own.step {C : Cfg} {aX aY : Int} {t : Tr Tm5} (h : Own C aX aY t) (P : Pm Tm5) (mw : Mw Tm5) : Own C aX aY (stepT P t mw).1 := by
  obtain ⟨h1, h2, h3⟩ := stT_x P t mw
  exact ⟨by rw [h1, h2, h3]; exact h.ok, by rw [h3]; exact h.no⟩
section
variable {K : Nat} {C : Cfg} {W M B Ck n : Nat} {ps : Nat → Nat} {aX aY : Nat → Int} {st : Int} {ts : Nat → Tr Tm5} {mw : Mw Tm5} {J : Nat → Rc} {ws : Nat → Int} {lv : Value} {w0 w : World}
/-- A step of one of them. -/
theorem MM.step (h : MM K C W M B Ck n ps aX aY st ts mw J ws lv w0 w) (hf : MF K W M B Ck n ps w0) (hC : C.Ok) (k : Nat) (hk : k < n) (hst : 0 ≤ st ∧ st ≤ 1000000) (hnow : 0 ≤ mw.now ∧ mw.now ≤ 1000000) (hl : mw.log.length ≤ 100000) :
    Calls Try.prog 10 #[.pointer (some ⟨ps k, 0, none⟩), .pointer (some ⟨W, 0, none⟩)] w fun e w' => e = .returned (.tuple #[]) ∧ ∃ ws' lv', MM K C W M B Ck n ps aX aY (st + stN C (ts k)) (upd ts k (stepT (PmC C) (ts k) mw).1) (stepT (PmC C) (ts k) mw).2 (stJ C (ts k) J) ws' lv' w0 w' := by
  refine (step_is h.p h.r (h.t k hk).2.1 hC (hf.a k hk) (h.t k hk).1 (h.t k hk).2.2 hst hnow hl).mono ?_
  rintro e w' ⟨h1, ws', lv', h2, h3, h4, h5, h6⟩
  have hks := h.p.hK
  have keep : ∀ x, x < K → x ≠ W → x ≠ M → x ≠ B → x ≠ ps k → w'.heap[x]? = w.heap[x]? := fun x hx a b c d => h6.block x (by omega) a b c d (fun e => by have := (h.p.row.lt x e).1; omega)
  refine ⟨h1, ws', lv', h2, h3, fun i hi => ?_, ?_⟩
  · by_cases e : i = k
    · subst e; rw [upd_at]; exact ⟨h4, h5, (h.t i hi).2.2.step _ _⟩
    · rw [upd_ne ts _ e]
      have ha := hf.a i hi
      obtain ⟨tt, htt⟩ := (h.t i hi).1
      exact ⟨⟨tt, (keep (ps i) ha.lo ha.nW ha.nM ha.nB (hf.i i k hi hk e)).trans htt⟩, (h.t i hi).2⟩
  · refine ⟨h6.os.trans h.b.os, h6.tape.trans h.b.tape, h6.output.trans h.b.output, Nat.le_trans h.b.size h6.size, fun x hx => ?_⟩
    have l1 := hf.lo
    have l2 := hf.lp k hk
    have l3 := hf.k
    exact (keep x (by omega) (by omega) (by omega) (by omega) (by omega)).trans (h.b.block x hx)
/-- What stays but M, B. -/
theorem MM.fm {st' : Int} {w' : World} (h : MM K C W M B Ck n ps aX aY st ts mw J ws lv w0 w) (hf : MF K W M B Ck n ps w0) (hp : PW K C W M B Ck ws st' mw.now lv mw.log w') (hm : Fm M B w w') : MM K C W M B Ck n ps aX aY st' ts mw J ws lv w0 w' :=
  ⟨hp, h.r, fun i hi => ⟨hm.bl (h.t i hi).1 (hf.a i hi).nM (hf.a i hi).nB, (h.t i hi).2⟩, ⟨hm.os.trans h.b.os, hm.tape.trans h.b.tape, hm.output.trans h.b.output, Nat.le_trans h.b.size hm.size, fun x hx => (hm.block x (by have := h.b.size; omega) (by have := hf.lo; omega) (by have := hf.lo; omega)).trans (h.b.block x hx)⟩⟩
theorem MM.state (h : MM K C W M B Ck n ps aX aY st ts mw J ws lv w0 w) (hf : MF K W M B Ck n ps w0) (hC : C.Ok) (i : Nat) (hi : i < C.A) (hst : 0 ≤ st ∧ st ≤ 1000000) :
    Calls Try.prog 13 #[.pointer (some ⟨W, 0, none⟩), .int .i64 (i : Int)] w fun e w' => e = .returned (.tuple #[.int .u64 (cw (mw.S i) : Int), sc (mw.S i)]) ∧ MM K C W M B Ck n ps aX aY (st + 1) ts mw J ws lv w0 w' := by
  obtain ⟨h1, h2, _⟩ := h.r.s i hi
  have hc := state_w h.p hC i hi (cw (mw.S i)) h1 hst
  rw [sv_cw _ h2] at hc
  refine hc.mono ?_
  rintro e w' ⟨h3, h4, h5⟩
  exact ⟨h3, h.fm hf h4 h5⟩
theorem row_cells {e : TypeId} {s : Nat} {A : Option Addr} {m c : Nat} {xs : List Value} (h : w.ownsRow K e s (.slice A m c) m xs) (h0 : 0 < m) : ∃ g, A = some ⟨g, 0, none⟩ ∧ g < w.heap.size ∧ ∀ j, j < m * s → w.cell? ⟨g, j, none⟩ = xs[j]? := by
  rcases h.2 with ⟨h1, rfl⟩ | ⟨g, cap, cur, h1, _, h2, h3, h4, h5, h6⟩
  · exact absurd h0 (by omega)
  · injection h1 with h1 h7 h8
    refine ⟨g, h1, blk_lt h2, fun j hj => ?_⟩
    rw [cell_of_row _ _ _ _ _ _ h2, ← h6, List.getElem?_take_of_lt hj, Array.getElem?_toList]
end
end Go.Proofs.Ytmjkhefgpobinaa
namespace Go.Proofs.Ytmjkhefgpobinaa
open Go.ChangeShapes Go.WideShapes Go.ChangeAt Go.RowKit
/-- So many steps, the next one behind. -/
noncomputable def itn (P : Pm Tm5) (t : Tr Tm5) (w : Mw Tm5) : Nat → Tr Tm5 × Mw Tm5
  | 0 => (t, w)
  | n + 1 => stepT P (itn P t w n).1 (itn P t w n).2
theorem itn_iter (P : Pm Tm5) : ∀ (n : Nat) (t : Tr Tm5) (w : Mw Tm5), itn P t w n = iter P n t w
  | 0, _, _ => rfl
  | n + 1, t, w => by
    have h : ∀ m, itn P t w (m + 1) = itn P (stepT P t w).1 (stepT P t w).2 m := fun m => by
      induction m with
      | zero => rfl
      | succ m ih => show stepT P (itn P t w (m + 1)).1 (itn P t w (m + 1)).2 = _; rw [ih]; rfl
    rw [h n, itn_iter P n]; rfl
theorem match_ex (S : Nat → Cs) (Tm : Nat → Tm5) (h0 : Tm 0 = ⟨0, 0, 10, 1, 9⟩) (h1 : Tm 1 = ⟨0, 1, 8, 1, 9⟩) : mtS (Tm 0) (Tm 1) 5 3 = some (3, 9) := by
  rw [h0, h1]
  unfold mtS
  rw [if_neg (by unfold No; decide)]
  rfl
def ZS0 : Cs := ⟨0, false, 0, 0, 0⟩
def sA : Cs := ⟨2, false, 1, 5, 0⟩
def sB : Cs := ⟨2, false, 1, 3, 0⟩
def tA : Tm5 := ⟨0, 0, 10, 1, 9⟩
def tB : Tm5 := ⟨0, 1, 8, 1, 9⟩
def sB2 : Cs := ⟨5, false, 1, 0, 1⟩
def t5x : Tr Tm5 := ⟨3, 0, 0, 1, 0, true, 5, sA, sB, tA, tB, true, false, false, 0, 0, 0, ZS0, ZS0, ZS0, 0⟩
def w5x : Mw Tm5 := ⟨upd (Sg ox 2) 0 (holdS sA), Tg ox 2, 0, []⟩
def t6x : Tr Tm5 := ⟨3, 0, 0, 1, 0, true, 6, sA, sB, tA, tB, true, true, false, 3, 9, 0, sB2, ZS0, ZS0, 0⟩
def w6x : Mw Tm5 := ⟨upd (upd (Sg ox 2) 0 (holdS sA)) 1 sB2, Tg ox 2, 0, [.fill 0 1 1 1 3 9 0]⟩
def t14x : Tr Tm5 := ⟨3, 0, 0, 1, 0, true, 14, sA, sB, tA, tB, true, true, true, 3, 9, 0, sB2, holdS sA, ⟨2, false, 1, 2, 1⟩, 0⟩
def w14x : Mw Tm5 := ⟨upd (upd (upd (Sg ox 2) 0 (holdS sA)) 1 sB2) 0 ⟨2, false, 1, 2, 1⟩, Tg ox 2, 0, [.fill 0 1 1 1 3 9 0]⟩
theorem ex5 : iter (PmC cx) 5 (tr0 3 0 0 1 0 true) ⟨Sg ox 2, Tg ox 2, 0, []⟩ = (t5x, w5x) := by kernel_rfl
theorem ex6 : stepT (PmC cx) t5x w5x = (t6x, w6x) := by
  have hm := match_ex (fun i => if i = 0 then sA else sB) (fun i => if i = 0 then tA else tB) rfl rfl
  have hm2 : (PmC cx).mt tA tB 5 3 = some (3, 9) := hm
  have e : stepT (PmC cx) t5x w5x = stTake (PmC cx) { t5x with pc := 6 } w5x := by kernel_rfl
  rw [e]
  unfold stTake
  rw [if_pos (by constructor <;> kernel_rfl)]
  have e2 : (PmC cx).mt ({ t5x with pc := 6 } : Tr Tm5).tx ({ t5x with pc := 6 } : Tr Tm5).ty ({ t5x with pc := 6 } : Tr Tm5).sx.left ({ t5x with pc := 6 } : Tr Tm5).sy.left = some (3, 9) := hm2
  rw [e2]
  have e3 : takeS ({ t5x with pc := 6 } : Tr Tm5).sy 3 (PmC cx).F = some sB2 := by kernel_rfl
  simp only [e3]
  rw [if_pos (by kernel_rfl)]
  rfl
theorem ex14 : iter (PmC cx) 8 t6x w6x = (t14x, w14x) := by kernel_rfl
theorem iter_add (P : Pm Tm5) : ∀ (a b : Nat) (t : Tr Tm5) (w : Mw Tm5), iter P (a + b) t w = iter P b (iter P a t w).1 (iter P a t w).2
  | 0, b, t, w => by rw [Nat.zero_add]; rfl
  | a + 1, b, t, w => by rw [show a + 1 + b = (a + b) + 1 from by omega]; exact iter_add P a b _ _
theorem run_ex : iter (PmC cx) 14 (tr0 3 0 0 1 0 true) ⟨Sg ox 2, Tg ox 2, 0, []⟩ = (t14x, w14x) := by
  rw [show (14 : Nat) = 5 + (1 + 8) from rfl, iter_add, ex5, iter_add]
  show iter (PmC cx) 8 (stepT (PmC cx) t5x w5x).1 (stepT (PmC cx) t5x w5x).2 = _
  rw [ex6]
  exact ex14
end Go.Proofs.Ytmjkhefgpobinaa
namespace Go.Proofs.Ytmjkhefgpobinaa
open Go.ChangeShapes Go.WideShapes Go.ChangeAt Go.RowKit
theorem gd_tr0 (way : Int) (x : Nat) (gen : Int) (y : Nat) (sh : Int) (ok : Bool) : Gd (tr0 way x gen y sh ok) :=
  ⟨⟨fit_zero, by show (0 : Int) ≤ 15; omega⟩, ⟨fit_zero, by show (0 : Int) ≤ 15; omega⟩, Or.inr rfl, Or.inr rfl, by show (0 : Int) ≤ 0 ∧ (0 : Int) < 65536; omega, by show (0 : Int) ≤ 0 ∧ (0 : Int) < 65536; omega, by show (0 : Int) ≤ 0 ∧ (0 : Int) < 1048576; omega, ⟨fit_zero, by show (0 : Int) ≤ 15; omega⟩, ⟨fit_zero, by show (0 : Int) ≤ 15; omega⟩, ⟨fit_zero, by show (0 : Int) ≤ 15; omega⟩, by show (0 : Int) ≤ 0 ∧ (0 : Int) < 1048576; omega⟩
theorem itn_w (P : Pm Tm5) (t : Tr Tm5) (w : Mw Tm5) : ∀ n, (itn P t w n).2.now = w.now ∧ (itn P t w n).2.log.length ≤ w.log.length + n
  | 0 => ⟨rfl, Nat.le_refl _⟩
  | n + 1 => by
    obtain ⟨h1, h2⟩ := itn_w P t w n
    obtain ⟨g1, _, g3⟩ := stT_w P (itn P t w n).1 (itn P t w n).2
    exact ⟨g1.trans h1, by show (stepT P (itn P t w n).1 (itn P t w n).2).2.log.length ≤ _; omega⟩
/-- A world of both, with tries begun. -/
theorem ap_of {K' : Nat} {C : Cfg} {K W M B Ck p : Nat} {ws : Nat → Int} {st now : Int} {lv : Value} {L : List Lg} {w : World} (h : PW K C W M B Ck ws st now lv L w) (hp : w.heap.size ≤ p) (hk : p < K') : Ap K' W M B Ck p := by
  obtain ⟨l1, l2, l3, l4⟩ := h.lo
  have := h.hK
  exact ⟨hk, by omega, by omega, by omega, by omega⟩
set_option maxRecDepth 100000 in
set_option maxHeartbeats 16000000 in
theorem awake_is (w : World) : Calls Try.prog 8 #[] w fun e w' => e = .returned (.bool true) ∧ Below w.heap.size w w' := by
  have HOR := Lib.hid (fun W' => orders_is W')
  unfold RC at HOR
  go_enter Try.func8, Try.ntmps8
  go_wp2_with fail
  refine (HOR.out _).mono ?_
  rintro e w1 ⟨A, len, cap, rfl, rfl, hod, hb1⟩
  have HOD := Lib.hid hod
  have HB1 := Lib.hid hb1
  clear hod hb1
  go_wp2_with fail
  have HOD2 := Lib.hid (HOD.out.below (w' := w1.alloc (Obj.cells #[.int .i64 (cx.p : Int), .int .i64 (cx.c : Int), .int .i64 cx.n, .int .i64 cx.b, .int .i64 cx.r, .int .i64 (cx.f : Int), .int .i64 (cx.g : Int)] 23)) (by go_grown))
  have HB2 := Lib.hid (HB1.out.alloc HB1.out.size (Obj.cells #[.int .i64 (cx.p : Int), .int .i64 (cx.c : Int), .int .i64 cx.n, .int .i64 cx.b, .int .i64 cx.r, .int .i64 (cx.f : Int), .int .i64 (cx.g : Int)] 23))
  have HBO := Lib.hid (fun (W' : World) (h' : OdsAt A 2 ox W') => both_is cx_ok A 2 cap ox W' h')
  unfold RC at HBO
  clear HOD HB1
  generalize w1.alloc (Obj.cells #[.int .i64 (cx.p : Int), .int .i64 (cx.c : Int), .int .i64 cx.n, .int .i64 cx.b, .int .i64 cx.r, .int .i64 (cx.f : Int), .int .i64 (cx.g : Int)] 23) = w2 at HOD2 HB2 ⊢
  refine (HBO.out _ HOD2.out).mono ?_
  rintro e w3 (⟨hall, K, W, M, B, Ck, Q, SB, TB, ws, jv, Jb, KJ, rfl, hBA, hlo, hb3⟩ | ⟨hno, _⟩)
  rotate_left
  · exact absurd ox_ok hno
  have HBA := Lib.hid hBA.p
  have HRL := Lib.hid hBA.r
  have HLO := Lib.hid (show w.heap.size ≤ W ∧ w.heap.size ≤ M ∧ w.heap.size ≤ B ∧ w.heap.size ≤ Ck from by have := HB2.out.size; omega)
  have HB3 := Lib.hid (Below.step HB2.out hb3)
  clear hall hBA hlo hb3 HOD2 HB2 HBO
  go_wp2_with fail
  refine (begin_is 3 0 0 1 0 0 1 true _).mono ?_
  rintro e w4 ⟨p, rfl, hlp, hbp, hb4⟩
  have HB4 := Lib.hid (Below.step HB3.out hb4)
  have HAP := Lib.hid (ap_of (K' := w4.heap.size) HBA.out hlp hbp.lt)
  have HMF := Lib.hid (show MF w4.heap.size W M B Ck 1 (fun _ => p) w from ⟨fun _ _ => HAP.out, fun i j hi hj hn => absurd (show i = j by omega) hn, HLO.out, fun _ _ => by have := HB3.out.size; show w.heap.size ≤ p; omega, HB4.out.size⟩)
  have HMM := Lib.hid (show MM w4.heap.size cx W M B Ck 1 (fun _ => p) (fun _ => 0) (fun _ => 1) 4 (fun _ => tr0 3 0 0 1 0 true) ⟨Sg ox 2, Tg ox 2, 0, []⟩ (fun _ => Rc0) ws (.slice none 0 0) w w4 from
    ⟨(HBA.out.below hb4).raise (Nat.le_trans HBA.out.hK hb4.size) (Nat.le_refl _), HRL.out, fun i hi => ⟨hbp, gd_tr0 _ _ _ _ _ _, ⟨fun _ => ⟨rfl, rfl, by decide, by decide, by decide, by decide, by decide⟩, fun h => by cases h⟩⟩, HB4.out⟩)
  clear hlp hbp hb4 HBA HRL HLO HB3 HB4 HAP
  generalize w4.heap.size = K4 at HMM HMF
  go_wp2_with fail
  go_loopw [24] (fun i wr => ∃ (k : Nat) (ts : Nat → Tr Tm5) (st : Int) (J : Nat → Rc) (ws : Nat → Int) (lv : Value), k ≤ 14 ∧ i = .int .i64 (k : Int) ∧ Hid (4 ≤ st ∧ st ≤ 4 + (k : Int)) ∧ Hid (ts 0 = (itn (PmC cx) (tr0 3 0 0 1 0 true) ⟨Sg ox 2, Tg ox 2, 0, []⟩ k).1) ∧ Hid (MM K4 cx W M B Ck 1 (fun _ => p) (fun _ => 0) (fun _ => 1) st ts (itn (PmC cx) (tr0 3 0 0 1 0 true) ⟨Sg ox 2, Tg ox 2, 0, []⟩ k).2 J ws lv w wr)) (fun i _ => 15 - (intOf i).toNat)
  case atStart => exact ⟨0, _, 4, _, ws, _, by omega, rfl, Lib.hid ⟨by omega, by omega⟩, Lib.hid rfl, HMM⟩
  case round =>
    clear HMM
    obtain ⟨k, ts, st, J, ws, lv, hk, rfl, HST, HTS, HMM⟩ := hrel
    by_cases hlt : k < 14
    · have k0 : (0 : Int) ≤ (k : Int) := by omega
      have k1 : (k : Int) < 14 := by omega
      have HW := Lib.hid (itn_w (PmC cx) (tr0 3 0 0 1 0 true) ⟨Sg ox 2, Tg ox 2, 0, []⟩ k)
      have hs := HMM.out.step HMF.out cx_ok 0 (by omega) (by have := HST.out; omega) (by have h9 : _ = (0 : Int) := HW.out.1; rw [h9]; omega) (by have h9 : _ ≤ 0 + k := HW.out.2; omega)
      have HS := Lib.hid hs
      clear hs
      go_wp2_with fail
      refine HS.out.mono ?_
      rintro e w5 ⟨rfl, ws', lv', hm⟩
      have HM5 := Lib.hid hm
      have hN := stN_01 cx (ts 0)
      have HST2 := Lib.hid (show 4 ≤ st + stN cx (ts 0) ∧ st + stN cx (ts 0) ≤ 4 + ((k + 1 : Nat) : Int) from by have := HST.out; omega)
      have HE := Lib.hid (show stepT (PmC cx) (ts 0) (itn (PmC cx) (tr0 3 0 0 1 0 true) ⟨Sg ox 2, Tg ox 2, 0, []⟩ k).2 = itn (PmC cx) (tr0 3 0 0 1 0 true) ⟨Sg ox 2, Tg ox 2, 0, []⟩ (k + 1) from by rw [HTS.out]; rfl)
      clear hm hN HS
      go_wp2_with fail
      go_roundw
      case rel => exact ⟨k + 1, upd ts 0 (stepT (PmC cx) (ts 0) (itn (PmC cx) (tr0 3 0 0 1 0 true) ⟨Sg ox 2, Tg ox 2, 0, []⟩ k).2).1, _, _, ws', lv', by omega, by go_num, HST2, Lib.hid (by rw [upd_at, HE.out]), Lib.hid (by rw [← HE.out]; exact HM5.out)⟩
      case measure => simp [intOf]; omega
    · obtain rfl : k = 14 := by omega
      have hd : decide (((14 : Nat) : Int) < 14) = false := decide_eq_false (by omega)
      have hrun := itn_iter (PmC cx) 14 (tr0 3 0 0 1 0 true) ⟨Sg ox 2, Tg ox 2, 0, []⟩
      rw [run_ex] at hrun
      have hmm := HMM.out
      have hts := HTS.out
      rw [hrun] at hmm hts
      have HMM2 := Lib.hid hmm
      have HTS2 := Lib.hid hts
      have hst := HMM2.out.state HMF.out cx_ok 1 (by decide) (by have := HST.out; omega)
      have HSS := Lib.hid (show Calls Try.prog 13 #[.pointer (some ⟨W, 0, none⟩), .int .i64 1] wr fun e w' => e = .returned (.tuple #[.int .u64 (cw (w14x.S 1) : Int), .agg #[.int .i64 5, .bool false, .int .i64 1, .int .i64 0, .int .i64 1]]) ∧ MM K4 cx W M B Ck 1 (fun _ => p) (fun _ => 0) (fun _ => 1) (st + 1) ts w14x J ws lv w w' from hst)
      clear hmm hts hst hrun HMM HTS
      go_wp2_with fail
      refine HSS.out.mono ?_
      rintro e w6 ⟨rfl, hm6⟩
      have HM6 := Lib.hid hm6
      clear hm6 HSS HMM2
      go_wp2_with fail
      have HSB := Lib.hid (Bl.new w6 [.int .i64 5, .bool false, .int .i64 1, .int .i64 0, .int .i64 1] 42)
      have HM7 := Lib.hid (HM6.out.below (w' := w6.alloc (Obj.cells #[.int .i64 5, .bool false, .int .i64 1, .int .i64 0, .int .i64 1] 42)) (by go_grown))
      generalize w6.alloc (Obj.cells #[.int .i64 5, .bool false, .int .i64 1, .int .i64 0, .int .i64 1] 42) = w7 at HSB HM7 ⊢
      generalize w6.heap.size = sb at HSB ⊢
      refine (made_is (HM7.out.t 0 (by omega)).1).mono ?_
      rintro e w8 ⟨rfl, hb8⟩
      rw [show (ts 0).made = true from by rw [HTS2.out]; rfl]
      have HM8 := Lib.hid (HM7.out.below hb8)
      have HSB8 := Lib.hid (HSB.out.below hb8)
      clear hb8
      go_wp2_with fail
      refine (done_yes (HM8.out.t 0 (by omega)).1 (by rw [HTS2.out]; decide)).mono ?_
      rintro e w9 ⟨rfl, hb9⟩
      have HM9 := Lib.hid (HM8.out.below hb9)
      have HSB9 := Lib.hid (HSB8.out.below hb9)
      have s0 := HSB9.out.cell 0 _ rfl
      have ls := HSB9.out.lt
      have l9 := HM9.out.p.blk.cell 9 _ rfl
      have lW := HM9.out.p.blk.lt
      have hrow : w9.ownsRow K4 68 14 lv 1 (lgs [.fill 0 1 1 1 3 9 0]) := HM9.out.p.row
      obtain ⟨A9, c9, rfl⟩ := oshape hrow
      obtain ⟨g9, rfl, hg9, hcc⟩ := row_cells hrow (by omega)
      have q10 : w9.cell? ⟨g9, 6, none⟩ = some (.int .i64 0) := hcc 6 (by omega)
      have q11 : w9.cell? ⟨g9, 10, none⟩ = some (.int .i64 3) := hcc 10 (by omega)
      have q12 : w9.cell? ⟨g9, 11, none⟩ = some (.int .i64 9) := hcc 11 (by omega)
      have HB9 := Lib.hid HM9.out.b
      clear hb9 hrow hcc HM9 HSB9 HM8 HSB8 HM7 HSB HM6 HTS2
      go_wp2
      go_ret
      exact ⟨rfl, HB9.out⟩
end Go.Proofs.Ytmjkhefgpobinaa
namespace Go.Proofs.Ytmjkhefgpobinaa
open Go.ChangeShapes Go.WideShapes Go.ChangeAt Go.RowKit
theorem stT_pc (P : Pm Tm5) (t : Tr Tm5) (mw : Mw Tm5) (h : t.pc < 14) : (stepT P t mw).1.pc = t.pc + 1 := by
  cases hok : t.ok with
  | false => unfold stepT; rw [if_neg (by omega), if_pos hok]
  | true =>
    rw [stepT_is P t mw h hok]
    unfold tryS
    split
    · rfl
    · rfl
    · unfold stHold; split
      · split <;> rfl
      · rfl
    · rfl
    · rfl
    · unfold stTake; split
      · split
        · rfl
        · split
          · rfl
          · split <;> rfl
      · rfl
    · unfold stLook; split <;> rfl
    · unfold stLet; split
      · split
        · rfl
        · split <;> rfl
      · rfl
    · unfold stLook; split <;> rfl
    · unfold stLet; split
      · split
        · rfl
        · split <;> rfl
      · rfl
    · rfl
theorem itn_pc (P : Pm Tm5) (t : Tr Tm5) (w : Mw Tm5) (h : t.pc = 0) : ∀ n, n ≤ 14 → (itn P t w n).1.pc = n
  | 0, _ => h
  | n + 1, hn => by
    have := itn_pc P t w h n (by omega)
    show (stepT P (itn P t w n).1 (itn P t w n).2).1.pc = n + 1
    rw [stT_pc P _ _ (by omega), this]
theorem own_of {C : Cfg} (hC : C.Ok) (aX aY : Int) : ∃ (x y : Nat) (ok : Bool), ∀ way gen sh, Own C aX aY (tr0 way x gen y sh ok) := by
  have hA : (C.A : Int) = (C.p : Int) * (C.c : Int) := by unfold Cfg.A; exact_mod_cast rfl
  by_cases h : 0 ≤ ow C.p C.c aX ∧ 0 ≤ ow C.p C.c aY ∧ ow C.p C.c aX ≠ ow C.p C.c aY
  · obtain ⟨h1, h2, h3⟩ := h
    have key : ∀ a, 0 ≤ ow C.p C.c a → 0 ≤ a ∧ a < (C.A : Int) := fun a ha => by
      unfold ow at ha
      split at ha
      · rename_i hh; rw [hA]; exact hh
      · exact absurd ha (by omega)
    obtain ⟨x0, x1⟩ := key aX h1
    obtain ⟨y0, y1⟩ := key aY h2
    exact ⟨aX.toNat, aY.toNat, true, fun _ _ _ => ⟨fun _ => ⟨by show aX = (aX.toNat : Int); omega, by show aY = (aY.toNat : Int); omega, by show aX.toNat < C.A; omega, by show aY.toNat < C.A; omega, h1, h2, h3⟩, (fun hh => by cases hh)⟩⟩
  · refine ⟨0, 0, false, fun _ _ _ => ⟨(fun hh => by cases hh), fun _ => ?_⟩⟩
    by_cases h1 : ow C.p C.c aX < 0
    · exact Or.inl h1
    · by_cases h2 : ow C.p C.c aY < 0
      · exact Or.inr (Or.inl h2)
      · refine Or.inr (Or.inr ?_)
        by_cases h3 : ow C.p C.c aX = ow C.p C.c aY
        · exact h3
        · exact absurd ⟨by omega, by omega, h3⟩ h
theorem msteps {M B n : Nat} {ws : Nat → Int} {st : Int} {w : World} (h : Mx M B n ws st w) : Calls Try.prog 22 #[.pointer (some ⟨M, 0, none⟩)] w fun e w' => e = .returned (.int .i64 st) ∧ w = w' := by
  obtain ⟨k, a, p, q, d, hm⟩ := h
  exact Mm.steps_is hm
theorem done_nil (w : World) : Calls Try.prog 21 #[.pointer none] w fun e w' => e = .returned (.bool true) ∧ Below w.heap.size w w' := by
  go_enter Try.func21, Try.ntmps21
  go_wp2
  go_ret
  exact ⟨rfl, by go_grown⟩
theorem made_nil (w : World) : Calls Try.prog 14 #[.pointer none] w fun e w' => e = .returned (.bool false) ∧ Below w.heap.size w w' := by
  go_enter Try.func14, Try.ntmps14
  go_wp2
  go_ret
  exact ⟨rfl, by go_grown⟩
set_option maxRecDepth 100000 in
theorem step_nil (v : Value) (w : World) : Calls Try.prog 10 #[.pointer none, v] w fun e w' => e = .returned (.tuple #[]) ∧ Below w.heap.size w w' := by
  have HD := Lib.hid (fun W' => done_nil W')
  go_enter Try.func10, Try.ntmps10
  go_wp2_with fail
  refine (HD.out _).mono ?_
  rintro e w1 ⟨rfl, hb1⟩
  have HB1 := Lib.hid hb1
  clear hb1
  go_wp2
  refine bodyPost_ret (results_none rfl _ _ _) rfl ?_
  exact ⟨rfl, HB1.out⟩
section
variable {p : Nat} {w : World} {aX aY : Int} {t : Tr Tm5}
set_option maxRecDepth 100000 in
theorem step_now (hp : Bl p (prc aX aY t) w) (hpc : t.pc < 14) : Calls Try.prog 10 #[.pointer (some ⟨p, 0, none⟩), .pointer none] w fun e w' => e = .returned (.tuple #[]) ∧ Below w.heap.size w w' := by
  have HD := Lib.hid (fun (W' : World) (hb : Bl p (prc aX aY t) W') => done_no hb hpc)
  have HP := Lib.hid hp
  clear hp
  go_enter Try.func10, Try.ntmps10
  go_wp2_with fail
  refine (HD.out _ HP.out).mono ?_
  rintro e w1 ⟨rfl, hb1⟩
  have HB1 := Lib.hid hb1
  clear hb1
  go_wp2
  refine bodyPost_ret (results_none rfl _ _ _) rfl ?_
  exact ⟨rfl, HB1.out⟩
end
end Go.Proofs.Ytmjkhefgpobinaa
