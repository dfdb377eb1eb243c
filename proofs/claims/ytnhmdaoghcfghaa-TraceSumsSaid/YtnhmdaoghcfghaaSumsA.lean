/-
  The state of a round of TraceSums: the model, what was filled, the orders that are over.
-/
import Derived.Test.YtnhmdaoghcfghaaRows
import Derived.Test.YtnhmdaoghcfghaaKit
import Derived.Test.YtnhmdaoghcfghaaApp
import Derived.Test.YtnhmdaoghcfghaaQuiet
import Derived.Test.YtnhmdaoghcfghaaTrM
import Derived.Test.YtnhmdaoghcfghaaTrS
import Derived.Test.YtnhmdaoghcfghaaTrF
import Derived.Test.YtnhmdaoghcfghaaTrG
import Derived.Test.YtnhmdaoghcfghaaTrH
import Derived.Test.YtnhmdaoghcfghaaTrI
import Derived.Test.YtnhmdaoghcfghaaTrJ
import Derived.Test.YtnhmdaoghcfghaaTrK
import Derived.Test.YtnhmdaoghcfghaaTrL
import Derived.Test.YtnhmdaoghcfghaaTrN
import Derived.Test.YtnhmdaoghcfghaaTrO
import Derived.Test.YtnhmdaoghcfghaaRules
import Derived.Test.YtnhmdaoghcfghaaTrP
import Derived.Test.YtnhmdaoghcfghaaTrQ
import Derived.Test.YtnhmdaoghcfghaaTrR
import Derived.Test.YtnhmdaoghcfghaaTrT
import Derived.Test.YtnhmdaoghcfghaaTrU
import Derived.WalkKit
import Derived.ProofKit
import Derived.OpenShut
import Derived.ShutString
import Derived.Below
import Derived.Outline
import Derived.WalkLawsBesides
import Derived.WalkSpells
import Derived.Handy
import Derived.Deep.QuietTactic
import Derived.BigQuiet
import Derived.RegionTactic
import Derived.ChangeAlike
import Derived.Lib.Hide
import Derived.Laws.Rows
import Derived.Laws.Tables
import Derived.Laws.CopyOwn
import Derived.Laws.MakeOwn
import Derived.Laws.Entries
import Derived.Laws.OwnMore
import Derived.Deep.WholeRow
import Derived.Deep.LoopGhost
import Derived.Deep.AppendLies
import Derived.Deep.Draws
import Derived.Maps.AppendAt
import Derived.OwnWalk
import Derived.Deep.RegionHeld3
import Derived.Deep.Cut
import Derived.Deep.CutRange
import Derived.Deep.DeepCutAuto
import Derived.Deep.CutBlock
import Derived.Lib.SliceRun
import Derived.IntWalk
import Derived.OpenShut
import Derived.Deep.Slices
import Derived.Deep.Fields
import Derived.ChangeSame
import Derived.ChangeArms
import Derived.Test.YtnhmdaoghcfghaaTrW
import Derived.Laws.CopyOwn
import Derived.Test.YtnhmdaoghcfghaaTrX
import Derived.Test.YtnhmdaoghcfghaaTrY
import Derived.Test.YtnhmdaoghcfghaaTrZ
import Derived.Test.YtnhmdaoghcfghaaTrWf
namespace Go.Proofs.Ytnhmdaoghcfghaa
open Go.ChangeShapes Go.WideShapes Go.ChangeAt Go.RowKit
/-- Blocks to be kept, as they stand in a world. -/
def Kq (KP : Nat → Prop) (wx : World) : Nat → Option Obj → Prop := fun k o => KP k ∧ o = wx.heap[k]?
theorem row_own {w w' : World} {base : Nat} {e : TypeId} {size m : Nat} {u : Value} {xs : List Value} (h : w.ownsRow base e size u m xs) (hk : ∀ k, u.ownBlock = some k → w'.heap[k]? = w.heap[k]?) : w'.ownsRow base e size u m xs := by
  refine ⟨h.1, ?_⟩
  rcases h.2 with h0 | ⟨g, cap, cur, hv, hg, hgh, hr⟩
  · exact .inl h0
  · exact .inr ⟨g, cap, cur, hv, hg, (hk g (by rw [hv]; rfl)).trans hgh, hr⟩
section
variable {KP KP' : Nat → Prop} {w w0 w4 wr w' : World} {B K : Nat} {p c n b r f g now : Int} {v : Value} {os : List Ord}
theorem MS.kq_same (h : MS (Kq KP w0) w wr B K p c n b r f g v os now) : MS (Kq KP wr) w wr B K p c n b r f g v os now :=
  ⟨h.blk, h.row, h.bel, h.wB, h.kB, h.hK, fun k o hk => by
    obtain ⟨a, b', c', d⟩ := h.fx k _ ⟨hk.1, rfl⟩
    exact ⟨hk.2.symm, b', c', d⟩⟩
theorem MS.kq_eq (h : MS (Kq KP w0) w wr B K p c n b r f g v os now) {k : Nat} (hk : KP k) : wr.heap[k]? = w0.heap[k]? := (h.fx k _ ⟨hk, rfl⟩).1
theorem MS.kq_lt (h : MS (Kq KP w0) w wr B K p c n b r f g v os now) {k : Nat} (hk : KP k) : k < wr.heap.size := (h.fx k _ ⟨hk, rfl⟩).2.2.2
theorem MS.kq_row (h : MS (Kq KP w4) w w4 B K p c n b r f g v os now) (hb : Below w4.heap.size w4 wr) (hs : ∀ k, KP' k → KP k ∨ (w4.heap.size ≤ k ∧ k < wr.heap.size)) : MS (Kq KP' wr) w wr B K p c n b r f g v os now :=
  have h2 := h.below hb
  ⟨h2.blk, h2.row, h2.bel, h2.wB, h2.kB, h2.hK, fun k o hk => by
    refine ⟨hk.2.symm, ?_⟩
    rcases hs k hk.1 with h3 | ⟨h3, h4⟩
    · obtain ⟨_, b', c', d⟩ := h.fx k _ ⟨h3, rfl⟩
      exact ⟨b', c', Nat.lt_of_lt_of_le d hb.size⟩
    · refine ⟨?_, fun he => ?_, h4⟩
      · have := h.kB; have := h.hK; omega
      · have := (h.row.lt _ he).2; omega⟩
/-- One kept block alone is turned. -/
theorem MS.kq_off (h : MS (Kq KP wr) w wr B K p c n b r f g v os now) {D : Nat} (hD : KP D) (hw : w.heap.size ≤ D) (hg : wr.grownBy w' (some D)) : MS (Kq KP w') w w' B K p c n b r f g v os now := by
  obtain ⟨_, dB, dv, dl⟩ := h.fx D _ ⟨hD, rfl⟩
  refine ⟨?_, row_own h.row fun k hk => ?_, Below.grown h.bel hg h.bel.size (fun k e => by cases e; exact hw), h.wB, h.kB, Nat.le_trans h.hK hg.size, fun k o hk => ?_⟩
  · obtain ⟨t, ht⟩ := h.blk
    exact ⟨t, (hg.block B h.blk.lt (fun e => dB (by injection e with e; exact e.symm))).trans ht⟩
  · exact hg.block k (h.row.lt k hk).2 (fun e => dv (by rw [hk, e]))
  · obtain ⟨_, b', c', d⟩ := h.fx k _ ⟨hk.1, rfl⟩
    exact ⟨hk.2.symm, b', c', Nat.lt_of_lt_of_le d hg.size⟩
end
theorem Bl.off {X D : Nat} {l : List Value} {w w' : World} (h : Bl X l w) (hne : X ≠ D) (hg : w.grownBy w' (some D)) : Bl X l w' := by
  obtain ⟨t, ht⟩ := h
  exact ⟨t, (hg.block X (blk_lt ht) (fun e => hne (by injection e))).trans ht⟩
theorem Bl.at {X : Nat} {l : List Value} {w w' : World} (h : Bl X l w) (he : w'.heap[X]? = w.heap[X]?) : Bl X l w' := by
  obtain ⟨t, ht⟩ := h
  exact ⟨t, he.trans ht⟩
theorem gthen {w w1 w2 : World} {D : Nat} (h1 : w.grownBy w1 (some D)) (h2 : w1.grownBy w2 (some D)) : w.grownBy w2 (some D) :=
  ⟨h2.os.trans h1.os, h2.tape.trans h1.tape, h2.output.trans h1.output, Nat.le_trans h1.size h2.size, fun k hk hn => (h2.block k (Nat.lt_of_lt_of_le hk h1.size) hn).trans (h1.block k hk hn)⟩
theorem undrew {w w1 : World} {r : Option Nat} (h : w.drew.grownBy w1 r) : w.grownBy w1 r := ⟨h.os, h.tape, h.output, h.size, h.block⟩
def WfO (os : List Ord) : Prop := ∀ (i : Nat) (a : Ord), os[i]? = some a → wfi a.c ∧ wfi a.g
theorem WfO.step {F : Int} {os os' : List Ord} {e : Evt} (h : Step F os e os') (he : EvW e) (hW : WfO os) : WfO os' := by
  intro i x hx
  cases h with
  | push o hk hc hg hq hl hf hen hok hnew =>
    rcases Nat.lt_or_ge i os.length with hlt | hge
    · rw [List.getElem?_append_left hlt] at hx
      exact hW i x hx
    · rw [List.getElem?_append_right hge] at hx
      obtain rfl : x = o := by simpa using List.mem_of_getElem? hx
      rw [hc, hg]
      exact ⟨he.1, he.2.1⟩
  | one j a a' hk ha hen h1 h2 h3 h4 h5 h6 h7 h8 h9 h10 h11 =>
    by_cases hi : j = i
    · subst hi
      rw [get_set_eq ha] at hx
      obtain rfl := Option.some.inj hx
      rw [h1, h2]
      exact hW j a ha
    · rw [get_set_ne hi] at hx
      exact hW i x hx
  | two i2 j a b' x0 hk ha hb hij hea heb hac hag hbc hbg hq0 hqa hqb hfa hfb =>
    by_cases hi : j = i
    · subst hi
      rw [get_set_eq (by rw [get_set_ne hij]; exact hb)] at hx
      obtain rfl := Option.some.inj hx
      exact hW j b' hb
    · rw [get_set_ne hi] at hx
      by_cases h2 : i2 = i
      · subst h2
        rw [get_set_eq ha] at hx
        obtain rfl := Option.some.inj hx
        exact hW i2 a ha
      · rw [get_set_ne h2] at hx
        exact hW i x hx
def OverIn (es os : List Ord) : Prop := ∀ (i : Nat) (a : Ord), es[i]? = some a → a.en ≠ 0 ∧ ∃ j : Nat, os[j]? = some a
theorem OverIn.ext {es os os' : List Ord} (h : OverIn es os) (hE : Ext os os') : OverIn es os' := fun i a ha => by
  obtain ⟨h1, j, hj⟩ := h i a ha
  obtain ⟨a', ha', hk⟩ := hE j a hj
  obtain rfl := hk.over h1
  exact ⟨h1, j, ha'⟩
theorem OverIn.nil (os : List Ord) : OverIn [] os := fun i a h => by simp at h
theorem OverIn.snoc {es os : List Ord} {o : Ord} (h : OverIn es os) (h1 : o.en ≠ 0) {j : Nat} (hj : os[j]? = some o) : OverIn (es ++ [o]) os := fun i a ha => by
  rcases Nat.lt_or_ge i es.length with hlt | hge
  · rw [List.getElem?_append_left hlt] at ha
    exact h i a ha
  · rw [List.getElem?_append_right hge] at ha
    obtain rfl : a = o := by simpa using List.mem_of_getElem? ha
    exact ⟨h1, j, hj⟩
theorem Step.fill {F : Int} {os os' : List Ord} {e : Evt} {d : Int → Int → Int} (h : Step F os e os') (hk : e.k = 2) (hI : Inv F os) (hS : Sums os d) :
    (1 ≤ e.q ∧ e.q ≤ 9999) ∧ (-9999 ≤ d e.c e.g ∧ d e.c e.g ≤ 9999) ∧ (-9999 ≤ d e.o e.w ∧ d e.o e.w ≤ 9999) ∧ ¬ (e.o = e.c ∧ e.w = e.g) := by
  cases h with
  | push o hk' => omega
  | one j a a' hk' => omega
  | two i2 j a b' x0 hk' ha hb hij hea heb hac hag hbc hbg hq0 hqa hqb hfa hfb =>
    have a1 := hS.eq i2 a ha
    have a2 := hS.q i2 a ha
    have a3 := (hI.ok i2 a ha).lf0
    have a4 := (hI.ok i2 a ha).lf1
    have b1 := hS.eq j b' hb
    have b2 := hS.q j b' hb
    have b3 := (hI.ok j b' hb).lf0
    have b4 := (hI.ok j b' hb).lf1
    rw [hac, hag] at a1
    rw [hbc, hbg] at b1
    refine ⟨⟨by omega, by omega⟩, ⟨by omega, by omega⟩, ⟨by omega, by omega⟩, fun he => hij (hI.key ha hb (by rw [hac, hbc, he.1]) (by rw [hag, hbg, he.2]))⟩
theorem Inv.first {F : Int} {os : List Ord} (h : Inv F os) {j : Nat} {o : Ord} (hj : os[j]? = some o) : (o.c == o.c && o.g == o.g) = true ∧ ∀ (t : Nat) (x : Ord), t < j → os[t]? = some x → (x.c == o.c && x.g == o.g) = false := by
  refine ⟨by simp, fun t x ht hx => ?_⟩
  rw [Bool.and_eq_false_iff]
  by_cases h1 : x.c = o.c
  · by_cases h2 : x.g = o.g
    · have := h.key hx hj h1 h2
      omega
    · exact .inr (by simpa using h2)
  · exact .inl (by simpa using h1)
def KS (CB DB : Nat) (vE : Value) (k : Nat) : Prop := k = CB ∨ k = DB ∨ vE.ownBlock = some k
/-- Behind some events. -/
structure SS (w wr : World) (B K CB DB EB : Nat) (p c n b r f g : Int) (v vE : Value) (os es : List Ord) (now : Int) (d : Int → Int → Int) (m : Nat) : Prop where
  len : os.length ≤ m
  inv : Inv f os
  sums : Sums os d
  wf : WfO os
  map : MapD wr DB (2 * m) d
  row : wr.ownsRow EB 44 13 vE es.length (ov es)
  over : OverIn es os
  el : es.length ≤ m
  ms : MS (Kq (KS CB DB vE) wr) w wr B K p c n b r f g v os now
  lo : w.heap.size ≤ DB
  cb : Bl CB [.int .i64 p, .int .i64 c, .int .i64 n, .int .i64 b, .int .i64 r, .int .i64 f, .int .i64 g] wr
  ne : CB ≠ DB
  far : ∀ k, vE.ownBlock = some k → k ≠ DB
/-- Behind an event that happened, and its sums. -/
structure SM (w wr : World) (B K CB DB EB : Nat) (p c n b r f g : Int) (v vE : Value) (os es : List Ord) (now : Int) (d : Int → Int → Int) (m : Nat) : Prop where
  map : MapD wr DB m d
  row : wr.ownsRow EB 44 13 vE es.length (ov es)
  ms : MS (Kq (KS CB DB vE) wr) w wr B K p c n b r f g v os now
  cb : Bl CB [.int .i64 p, .int .i64 c, .int .i64 n, .int .i64 b, .int .i64 r, .int .i64 f, .int .i64 g] wr
section
variable {w w0 w1 w3 w4 wr w' : World} {B K CB DB EB X : Nat} {p c n b r f g now now' : Int} {v v' vE : Value} {os os' es : List Ord} {d : Int → Int → Int} {m : Nat}
/-- A call has left behind what was to be kept. -/
theorem SS.kept (h : SS w wr B K CB DB EB p c n b r f g v vE os es now d m) (hb : Below wr.heap.size wr w1) (hms : MS (Kq (fun k => KS CB DB vE k ∨ k = wr.heap.size) w1) w w3 B K p c n b r f g v' os' now') : SM w w3 B K CB DB EB p c n b r f g v' vE os' es now' d (2 * m) := by
  have key : ∀ k, KS CB DB vE k → w3.heap[k]? = wr.heap[k]? := fun k hk => (hms.kq_eq (.inl hk)).trans (hb.block k (h.ms.kq_lt hk))
  exact ⟨h.map.at (key _ (.inr (.inl rfl))), row_own h.row fun k hk => key k (.inr (.inr hk)), hms.kq_same.kq_row (Below.refl _ _) fun k hk => .inl (.inl hk), h.cb.at (key _ (.inl rfl))⟩
theorem SM.put (h : SM w wr B K CB DB EB p c n b r f g v vE os es now d m) (hE : ∀ k, vE.ownBlock = some k → k ≠ DB) (hne : CB ≠ DB) (lo : w.heap.size ≤ DB) (hg : wr.grownBy w' (some DB)) {d' : Int → Int → Int} {m' : Nat} (hm : MapD w' DB m' d') : SM w w' B K CB DB EB p c n b r f g v vE os es now d' m' := by
  refine ⟨hm, row_own h.row fun k hk => hg.block k (h.row.lt k hk).2 (fun e => hE k hk (by injection e)), h.ms.kq_off (.inr (.inl rfl)) lo hg, h.cb.off hne hg⟩
theorem SM.below (h : SM w wr B K CB DB EB p c n b r f g v vE os es now d m) (hb : Below wr.heap.size wr w') : SM w w' B K CB DB EB p c n b r f g v vE os es now d m :=
  ⟨h.map.below hb, row_kept h.row hb, h.ms.kq_row hb fun k hk => .inl hk, h.cb.below hb⟩
end
/-- The orders that are over, as they are collected. -/
structure L3 (w5 wr : World) (os ez : List Ord) (vz : Value) (t : Nat) : Prop where
  bel : Below w5.heap.size w5 wr
  row : wr.ownsRow w5.heap.size 44 13 vz ez.length (ov ez)
  over : OverIn ez os
  el : ez.length ≤ t
theorem SM.next {w w5 wr : World} {B K CB DB EB : Nat} {p c n b r f g now : Int} {v vE vz : Value} {os es ez : List Ord} {d : Int → Int → Int} {t q : Nat} (h : SM w w5 B K CB DB EB p c n b r f g v vE os es now d (2 * (q + 1))) (hL : L3 w5 wr os ez vz t) (ht : t ≤ os.length) (hl : os.length ≤ q + 1) (hI : Inv f os) (hS : Sums os d) (hW : WfO os) (lo : w.heap.size ≤ DB) (ne : CB ≠ DB) : SS w wr B K CB DB w5.heap.size p c n b r f g v vz os ez now d (q + 1) := by
  have h2 := h.below hL.bel
  have hE := hL.el
  have hD := h.map.lt
  exact ⟨hl, hI, hS, hW, h2.map, hL.row, hL.over, by omega, h.ms.kq_row hL.bel (fun k hk => by
    rcases hk with h3 | h3 | h3
    · exact .inl (.inl h3)
    · exact .inl (.inr (.inl h3))
    · exact .inr (hL.row.lt k h3)), lo, h2.cb, ne, fun k hk => by have := (hL.row.lt k hk).1; omega⟩
theorem L3.snoc {w5 wr w2 w3 : World} {os ez : List Ord} {vz v2 : Value} {t : Nat} {o : Ord} {ob : Obj} (h : L3 w5 wr os ez vz t) (hb : Below wr.heap.size wr w2) (hr : w3.ownsRow w5.heap.size 44 13 v2 (ez.length + 1) (ov ez ++ oc o)) (hg : (w2.alloc ob).grownBy w3 vz.ownBlock) (h1 : o.en ≠ 0) (ho : os[t]? = some o) : L3 w5 w3 os (ez ++ [o]) v2 (t + 1) := by
  have hw := h.bel.size
  have hb2 := Below.step h.bel hb
  refine ⟨Below.grown (hb2.alloc hb2.size ob) hg (by rw [World.size_alloc]; have := hb2.size; omega) (fun k e => (h.row.lt k e).1), ?_, h.over.snoc h1 ho, by rw [List.length_append]; have := h.el; simp; omega⟩
  rw [ov_snoc, List.length_append]
  exact hr
theorem L3.move {w5 wr w2 : World} {os ez : List Ord} {vz : Value} {t : Nat} (h : L3 w5 wr os ez vz t) (hb : Below wr.heap.size wr w2) : L3 w5 w2 os ez vz t := ⟨Below.step h.bel hb, row_kept h.row hb, h.over, h.el⟩
theorem L3.up {w5 wr : World} {os ez : List Ord} {vz : Value} {t : Nat} (h : L3 w5 wr os ez vz t) : L3 w5 wr os ez vz (t + 1) := ⟨h.bel, h.row, h.over, Nat.le_succ_of_le h.el⟩
end Go.Proofs.Ytnhmdaoghcfghaa
