/-
  The abstract pool: what may happen, without a program.
-/
import Derived.Test.YtnhmdaoghcfghaaRows
import Derived.Test.YtnhmdaoghcfghaaKit
import Derived.Test.YtnhmdaoghcfghaaApp
import Derived.WalkKit
import Derived.ProofKit
import Derived.OpenShut
import Derived.ShutString
import Derived.Below
import Derived.Outline
import Derived.WalkLawsBesides
import Derived.WalkSpells
import Derived.Handy
import Derived.Deep.QuietTactic
import Derived.BigQuiet
import Derived.RegionTactic
import Derived.ChangeAlike
import Derived.Lib.Hide
import Derived.Laws.Rows
import Derived.Laws.Tables
import Derived.Laws.CopyOwn
import Derived.Laws.MakeOwn
import Derived.Laws.Entries
import Derived.Laws.OwnMore
import Derived.Deep.WholeRow
import Derived.Deep.LoopGhost
import Derived.Deep.AppendLies
import Derived.Deep.Draws
import Derived.Maps.AppendAt
import Derived.OwnWalk
import Derived.Deep.RegionHeld3
import Derived.Deep.Cut
import Derived.Deep.CutRange
import Derived.Deep.DeepCutAuto
import Derived.Deep.CutBlock
import Derived.Lib.SliceRun
import Derived.IntWalk
namespace Go.Proofs.Ytnhmdaoghcfghaa
open Go.ChangeShapes Go.WideShapes Go.ChangeAt Go.RowKit
structure Ord where
  c : Int
  g : Int
  n : Int
  s : Int
  p : Int
  l : Int
  u : Int
  q : Int
  lf : Int
  fl : Int
  ak : Bool
  rs : Bool
  en : Int
structure Evt where
  k : Int
  c : Int
  g : Int
  o : Int
  w : Int
  n : Int
  s : Int
  p : Int
  l : Int
  u : Int
  q : Int
  pr : Int
  t : Int
  en : Int
def oc (o : Ord) : List Value := [.int .i64 o.c, .int .i64 o.g, .int .i64 o.n, .int .i64 o.s, .int .i64 o.p, .int .i64 o.l, .int .i64 o.u, .int .i64 o.q, .int .i64 o.lf, .int .i64 o.fl, .bool o.ak, .bool o.rs, .int .i64 o.en]
def ov (os : List Ord) : List Value := (os.map oc).flatten
theorem oc_len (o : Ord) : (oc o).length = 13 := rfl
theorem ov_len : ∀ os : List Ord, (ov os).length = os.length * 13
  | [] => rfl
  | o :: r => by
    have h := ov_len r
    unfold ov at h ⊢
    rw [List.map_cons, List.flatten_cons, List.length_append, h, oc_len, List.length_cons]
    omega
theorem ov_snoc (os : List Ord) (o : Ord) : ov (os ++ [o]) = ov os ++ oc o := by
  unfold ov
  rw [List.map_append, List.flatten_append]
  simp
theorem ov_get : ∀ (os : List Ord) (k j : Nat) (o : Ord), os[k]? = some o → j < 13 → (ov os)[k * 13 + j]? = (oc o)[j]?
  | [], k, j, o, h, _ => by cases h
  | y :: r, 0, j, o, h, hj => by
    obtain rfl : y = o := by simpa using h
    show (oc y ++ ov r)[0 * 13 + j]? = _
    rw [Nat.zero_mul, Nat.zero_add, List.getElem?_append_left (by rw [oc_len]; exact hj)]
  | y :: r, k + 1, j, o, h, hj => by
    show (oc y ++ ov r)[(k + 1) * 13 + j]? = _
    rw [List.getElem?_append_right (by rw [oc_len]; omega), oc_len, show (k + 1) * 13 + j - 13 = k * 13 + j from by omega]
    exact ov_get r k j o (by simpa using h) hj
theorem ov_set : ∀ (os : List Ord) (k j : Nat) (o o' : Ord) (x : Value), os[k]? = some o → j < 13 → oc o' = (oc o).set j x → (ov os).set (k * 13 + j) x = ov (os.set k o')
  | [], k, j, o, _, _, h, _, _ => by cases h
  | y :: r, 0, j, o, o', x, h, hj, he => by
    obtain rfl : y = o := by simpa using h
    show (oc y ++ ov r).set (0 * 13 + j) x = oc o' ++ ov r
    rw [Nat.zero_mul, Nat.zero_add, List.set_append_left _ _ (by rw [oc_len]; exact hj), he]
  | y :: r, k + 1, j, o, o', x, h, hj, he => by
    show (oc y ++ ov r).set ((k + 1) * 13 + j) x = oc y ++ ov (r.set k o')
    rw [List.set_append_right _ _ (by rw [oc_len]; omega), oc_len, show (k + 1) * 13 + j - 13 = k * 13 + j from by omega, ov_set r k j o o' x (by simpa using h) hj he]
/-- By which state an order is over by what it had; 0: it isn't. -/
def spent (F : Int) (o : Ord) : Int := if o.lf = 0 then 5 else if F ≤ o.fl then 8 else 0
/-- What holds of each order. -/
structure Okay (F : Int) (o : Ord) : Prop where
  lf0 : 0 ≤ o.lf
  lf1 : o.lf ≤ 9999
  fl0 : 0 ≤ o.fl
  fl1 : o.fl ≤ F
  p0 : 1 ≤ o.p
  p1 : o.p ≤ 9999
  l0 : 1 ≤ o.l
  g0 : 0 ≤ o.g
/-- The orders, as they came: no gen comes twice. -/
structure Inv (F : Int) (os : List Ord) : Prop where
  ok : ∀ (i : Nat) (o : Ord), os[i]? = some o → Okay F o
  up : ∀ (i j : Nat) (a b : Ord), os[i]? = some a → os[j]? = some b → i < j → a.c = b.c → a.g < b.g
/-- What an event that happens makes of the orders. -/
inductive Step (F : Int) (os : List Ord) (e : Evt) : List Ord → Prop where
  | push (o : Ord) (hk : e.k = 1) (hc : o.c = e.c) (hg : o.g = e.g) (hq : o.q = e.q) (hl : o.lf = e.q) (hf : o.fl = 0) (hen : o.en = 0) (hok : Okay F o) (hnew : ∀ (i : Nat) (a : Ord), os[i]? = some a → a.c = e.c → a.g < e.g) : Step F os e (os ++ [o])
  | one (i : Nat) (a a' : Ord) (hk : e.k ≠ 1 ∧ e.k ≠ 2) (ha : os[i]? = some a) (hen : a.en = 0) (h1 : a'.c = a.c) (h2 : a'.g = a.g) (h3 : a'.n = a.n) (h4 : a'.s = a.s) (h5 : a'.p = a.p) (h6 : a'.l = a.l) (h7 : a'.u = a.u) (h8 : a'.q = a.q) (h9 : a'.lf = a.lf) (h10 : a'.fl = a.fl) (h11 : a.ak = true → a'.ak = true) : Step F os e (os.set i a')
  | two (i j : Nat) (a b : Ord) (x : Int) (hk : e.k = 2) (ha : os[i]? = some a) (hb : os[j]? = some b) (hij : i ≠ j) (hea : a.en = 0) (heb : b.en = 0) (hac : a.c = e.c) (hag : a.g = e.g) (hbc : b.c = e.o) (hbg : b.g = e.w) (hq0 : 1 ≤ e.q) (hqa : e.q ≤ a.lf) (hqb : e.q ≤ b.lf) (hfa : a.fl < F) (hfb : b.fl < F) : Step F os e ((os.set i { a with lf := a.lf - e.q, fl := a.fl + 1 }).set j { b with lf := b.lf - e.q, fl := b.fl + 1, en := x })
/-- What stays of an order. -/
structure Keeps (a a' : Ord) : Prop where
  c : a'.c = a.c
  g : a'.g = a.g
  n : a'.n = a.n
  s : a'.s = a.s
  p : a'.p = a.p
  l : a'.l = a.l
  u : a'.u = a.u
  q : a'.q = a.q
  lf : a'.lf ≤ a.lf
  fl : a.fl ≤ a'.fl
  over : a.en ≠ 0 → a' = a
  ak : a.ak = true → a'.ak = true
theorem Keeps.refl (a : Ord) : Keeps a a := ⟨rfl, rfl, rfl, rfl, rfl, rfl, rfl, rfl, Int.le_refl _, Int.le_refl _, fun _ => rfl, fun h => h⟩
theorem Keeps.trans {a b d : Ord} (h : Keeps a b) (k : Keeps b d) : Keeps a d :=
  ⟨k.c.trans h.c, k.g.trans h.g, k.n.trans h.n, k.s.trans h.s, k.p.trans h.p, k.l.trans h.l, k.u.trans h.u, k.q.trans h.q, Int.le_trans k.lf h.lf, Int.le_trans h.fl k.fl, fun he => by
    have h1 := h.over he
    subst h1
    exact k.over he, fun hh => k.ak (h.ak hh)⟩
/-- All orders stay, others may come. -/
def Ext (os os' : List Ord) : Prop := ∀ (i : Nat) (a : Ord), os[i]? = some a → ∃ a' : Ord, os'[i]? = some a' ∧ Keeps a a'
theorem Ext.refl (os : List Ord) : Ext os os := fun _ a h => ⟨a, h, Keeps.refl a⟩
theorem Ext.trans {x y z : List Ord} (h : Ext x y) (k : Ext y z) : Ext x z := fun i a ha => by
  obtain ⟨b, hb, h1⟩ := h i a ha
  obtain ⟨d, hd, h2⟩ := k i b hb
  exact ⟨d, hd, h1.trans h2⟩
theorem Ext.len {x y : List Ord} (h : Ext x y) : x.length ≤ y.length := by
  rcases Nat.lt_or_ge y.length x.length with hlt | hge
  · obtain ⟨a, ha⟩ : ∃ a, x[y.length]? = some a := ⟨_, List.getElem?_eq_getElem hlt⟩
    obtain ⟨b, hb, _⟩ := h _ _ ha
    rw [List.getElem?_eq_none (Nat.le_refl _)] at hb
    cases hb
  · exact hge
theorem get_set_ne {os : List Ord} {i j : Nat} {a : Ord} (h : i ≠ j) : (os.set i a)[j]? = os[j]? := List.getElem?_set_ne h
theorem get_set_eq {os : List Ord} {i : Nat} {a b : Ord} (h : os[i]? = some b) : (os.set i a)[i]? = some a := by
  rw [List.getElem?_set_self (List.getElem?_eq_some_iff.1 h).1]
theorem Step.ext {F : Int} {os os' : List Ord} {e : Evt} (h : Step F os e os') : Ext os os' := by
  intro i a ha
  cases h with
  | push o hk hc hg hq hl hf hen hok hnew =>
    exact ⟨a, by rw [List.getElem?_append_left (List.getElem?_eq_some_iff.1 ha).1]; exact ha, Keeps.refl a⟩
  | one i2 b b' hk hb hen h1 h2 h3 h4 h5 h6 h7 h8 h9 h10 h11 =>
    by_cases hi : i2 = i
    · subst hi
      obtain rfl : b = a := by rw [hb] at ha; exact Option.some.inj ha
      exact ⟨b', get_set_eq ha, ⟨h1, h2, h3, h4, h5, h6, h7, h8, Int.le_of_eq h9, Int.le_of_eq h10.symm, fun h => absurd hen h, h11⟩⟩
    · exact ⟨a, by rw [get_set_ne hi]; exact ha, Keeps.refl a⟩
  | two i2 j b d x hk hb hd hij hea heb hac hag hbc hbg hq0 hqa hqb hfa hfb =>
    by_cases hj : j = i
    · subst hj
      obtain rfl : d = a := by rw [hd] at ha; exact Option.some.inj ha
      exact ⟨_, get_set_eq (by rw [get_set_ne hij]; exact ha), ⟨rfl, rfl, rfl, rfl, rfl, rfl, rfl, rfl, by show d.lf - e.q ≤ d.lf; omega, by show d.fl ≤ d.fl + 1; omega, fun h => absurd heb h, fun h => h⟩⟩
    · by_cases hi : i2 = i
      · subst hi
        obtain rfl : b = a := by rw [hb] at ha; exact Option.some.inj ha
        exact ⟨{ b with lf := b.lf - e.q, fl := b.fl + 1 }, by rw [get_set_ne hj]; exact get_set_eq ha, ⟨rfl, rfl, rfl, rfl, rfl, rfl, rfl, rfl, by show b.lf - e.q ≤ b.lf; omega, by show b.fl ≤ b.fl + 1; omega, fun h => absurd hea h, fun h => h⟩⟩
      · exact ⟨a, by rw [get_set_ne hj, get_set_ne hi]; exact ha, Keeps.refl a⟩
theorem Inv.nil (F : Int) : Inv F [] := ⟨(fun _ _ h => by cases h), (fun _ _ _ _ h => by cases h)⟩
/-- One order of a kind stands in another's place. -/
theorem Inv.set {F : Int} {os : List Ord} {i : Nat} {a a' : Ord} (h : Inv F os) (ha : os[i]? = some a) (hc : a'.c = a.c) (hg : a'.g = a.g) (hok : Okay F a') : Inv F (os.set i a') := by
  have key : ∀ (j : Nat) (b : Ord), (os.set i a')[j]? = some b → ∃ b0 : Ord, os[j]? = some b0 ∧ b.c = b0.c ∧ b.g = b0.g := fun j b hb => by
    by_cases hij : i = j
    · subst hij
      rw [get_set_eq ha] at hb
      obtain rfl := Option.some.inj hb
      exact ⟨a, ha, hc, hg⟩
    · rw [get_set_ne hij] at hb
      exact ⟨b, hb, rfl, rfl⟩
  refine ⟨fun j b hb => ?_, fun j k b d hb hd hjk he => ?_⟩
  · by_cases hij : i = j
    · subst hij
      rw [get_set_eq ha] at hb
      obtain rfl := Option.some.inj hb
      exact hok
    · rw [get_set_ne hij] at hb
      exact h.ok j b hb
  · obtain ⟨b0, hb0, e1, e2⟩ := key j b hb
    obtain ⟨d0, hd0, e3, e4⟩ := key k d hd
    rw [e2, e4]
    exact h.up j k b0 d0 hb0 hd0 hjk (by rw [← e1, ← e3]; exact he)
theorem Step.inv {F : Int} {os os' : List Ord} {e : Evt} (h : Step F os e os') (hI : Inv F os) : Inv F os' := by
  cases h with
  | push o hk hc hg hq hl hf hen hok hnew =>
    refine ⟨fun i a ha => ?_, fun i j a b ha hb hij he => ?_⟩
    · rcases Nat.lt_or_ge i os.length with hlt | hge
      · rw [List.getElem?_append_left hlt] at ha
        exact hI.ok i a ha
      · rw [List.getElem?_append_right hge] at ha
        have : i - os.length = 0 := by
          rcases Nat.eq_zero_or_pos (i - os.length) with h0 | h0
          · exact h0
          · rw [List.getElem?_eq_none (by simp only [List.length_singleton]; omega)] at ha; cases ha
        rw [this] at ha
        obtain rfl : o = a := by simpa using ha
        exact hok
    · rcases Nat.lt_or_ge j os.length with hlt | hge
      · rw [List.getElem?_append_left hlt] at hb
        rw [List.getElem?_append_left (by omega)] at ha
        exact hI.up i j a b ha hb hij he
      · have hj := (List.getElem?_eq_some_iff.1 hb).1
        rw [List.length_append] at hj
        have hj1 : j = os.length := by simp at hj; omega
        rw [List.getElem?_append_right hge, hj1, Nat.sub_self] at hb
        obtain rfl : o = b := by simpa using hb
        rw [List.getElem?_append_left (by omega)] at ha
        rw [hg]
        exact hnew i a ha (by rw [he, hc])
  | one i2 b b' hk hb hen h1 h2 h3 h4 h5 h6 h7 h8 h9 h10 h11 =>
    have o := hI.ok i2 b hb
    exact hI.set hb h1 h2 ⟨by rw [h9]; exact o.lf0, by rw [h9]; exact o.lf1, by rw [h10]; exact o.fl0, by rw [h10]; exact o.fl1, by rw [h5]; exact o.p0, by rw [h5]; exact o.p1, by rw [h6]; exact o.l0, by rw [h2]; exact o.g0⟩
  | two i2 j b d x hk hb hd hij hea heb hac hag hbc hbg hq0 hqa hqb hfa hfb =>
    have o1 := hI.ok i2 b hb
    have o2 := hI.ok j d hd
    have s1 := hI.set (a' := { b with lf := b.lf - e.q, fl := b.fl + 1 }) hb rfl rfl ⟨by show 0 ≤ b.lf - e.q; omega, by show b.lf - e.q ≤ 9999; have := o1.lf1; omega, by show 0 ≤ b.fl + 1; have := o1.fl0; omega, by show b.fl + 1 ≤ F; omega, o1.p0, o1.p1, o1.l0, o1.g0⟩
    exact s1.set (a := d) (by rw [get_set_ne hij]; exact hd) rfl rfl ⟨by show 0 ≤ d.lf - e.q; omega, by show d.lf - e.q ≤ 9999; have := o2.lf1; omega, by show 0 ≤ d.fl + 1; have := o2.fl0; omega, by show d.fl + 1 ≤ F; omega, o2.p0, o2.p1, o2.l0, o2.g0⟩
/-- One of a key alone. -/
theorem Inv.key {F : Int} {os : List Ord} (h : Inv F os) {i j : Nat} {a b : Ord} (ha : os[i]? = some a) (hb : os[j]? = some b) (hc : a.c = b.c) (hg : a.g = b.g) : i = j := by
  rcases Nat.lt_trichotomy i j with hlt | he | hgt
  · have := h.up i j a b ha hb hlt hc; omega
  · exact he
  · have := h.up j i b a hb ha hgt hc.symm; omega
end Go.Proofs.Ytnhmdaoghcfghaa
