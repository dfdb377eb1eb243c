/-
  Two tapes side by side: what they hold as numbers are put, and as they are taken.
-/
import Derived.Test.YtdaacboalleidaaRows
import Derived.WalkKit
import Derived.ProofKit
import Derived.OpenShut
import Derived.ShutString
import Derived.Below
import Derived.Outline
import Derived.WalkLawsBesides
import Derived.WalkSpells
import Derived.Handy
import Derived.Deep.QuietTactic
import Derived.BigQuiet
import Derived.RegionTactic
import Derived.ChangeAlike
import Derived.Lib.Hide
import Derived.Test.YtdaacboalleidaaKit
import Derived.Test.YtdaacboalleidaaTick
import Derived.Test.YtdaacboalleidaaApp
import Derived.Test.YtdaacboalleidaaTape
namespace Go.Proofs.Ytdaacboalleidaa
open Go.ChangeShapes Go.WideShapes Go.ChangeAt Go.RowKit

/-- Two tapes in the blocks behind all that was there; each holds a row of its own. -/
structure Two2 (w wr : World) (va vb : Value) (xs ys : List Int) : Prop where
  a0 : wr.cell? ⟨w.heap.size, 0, none⟩ = some va
  a1 : wr.cell? ⟨w.heap.size, 1, none⟩ = some (.int .i64 0)
  b0 : wr.cell? ⟨w.heap.size + 1, 0, none⟩ = some vb
  b1 : wr.cell? ⟨w.heap.size + 1, 1, none⟩ = some (.int .i64 0)
  fa0 : wr.frozen? ⟨w.heap.size, 0, none⟩ = false
  fa1 : wr.frozen? ⟨w.heap.size, 1, none⟩ = false
  fb0 : wr.frozen? ⟨w.heap.size + 1, 0, none⟩ = false
  fb1 : wr.frozen? ⟨w.heap.size + 1, 1, none⟩ = false
  oa : wr.ownsRow (w.heap.size + 2) 3 1 va xs.length (xs.map (Value.int .i64))
  ob : wr.ownsRow (w.heap.size + 2) 3 1 vb ys.length (ys.map (Value.int .i64))
  ne : ∀ g, va.ownBlock = some g → vb.ownBlock ≠ some g
  bel : Below w.heap.size w wr
  lt : w.heap.size + 2 ≤ wr.heap.size

theorem addr_ne {a b i j : Nat} (h : a ≠ b ∨ i ≠ j) : (⟨a, i, none⟩ : Addr) ≠ ⟨b, j, none⟩ := by
  intro e; injection e with e1 e2; rcases h with h | h
  · exact h e1
  · exact h e2
theorem frozen_setCell (w : World) (a b : Addr) (v : Value) : (w.setCell a v).frozen? b = w.frozen? b := by simp [go_sem]

section
variable {w wr : World} {va vb : Value} {xs ys : List Int}
theorem Two2.alloc (h : Two2 w wr va vb xs ys) (o : Obj) : Two2 w (wr.alloc o) va vb xs ys := by
  have hl := h.lt
  have hc : ∀ i j, i < wr.heap.size → (wr.alloc o).cell? ⟨i, j, none⟩ = wr.cell? ⟨i, j, none⟩ := fun i j hi => World.cell?_alloc_lt wr o ⟨i, j, none⟩ hi
  have hb : Below wr.heap.size wr (wr.alloc o) := by go_grown
  have hf : ∀ i j, i < wr.heap.size → (wr.alloc o).frozen? ⟨i, j, none⟩ = wr.frozen? ⟨i, j, none⟩ := fun i j hi => hb.frozen (p := ⟨i, j, none⟩) hi
  exact ⟨(hc _ _ (by omega)).trans h.a0, (hc _ _ (by omega)).trans h.a1, (hc _ _ (by omega)).trans h.b0, (hc _ _ (by omega)).trans h.b1,
    (hf _ _ (by omega)).trans h.fa0, (hf _ _ (by omega)).trans h.fa1, (hf _ _ (by omega)).trans h.fb0, (hf _ _ (by omega)).trans h.fb1,
    h.oa.alloc _, h.ob.alloc _, h.ne, Below.step h.bel hb, by rw [World.size_alloc]; omega⟩

theorem Two2.putA (h : Two2 w wr va vb xs ys) {zs : List Int} {e : Ending} {w' : World} (hp : Put wr w.heap.size (w.heap.size + 2) xs.length zs.length va xs zs e w') :
    e = .returned (.tuple #[]) ∧ ∃ v', Two2 w w' v' vb (xs ++ zs) ys := by
  obtain ⟨v', w1, he, rfl, hown, hgrow, hblk⟩ := hp
  refine ⟨he, v', ?_⟩
  have hl := h.lt
  have hz := hgrow.size
  have hk : ∀ i, i < w.heap.size + 2 → w1.heap[i]? = wr.heap[i]? := fun i hi => hgrow.block i (by omega) (fun e => by have := (h.oa.lt i e.symm).1; omega)
  have hc : ∀ i j, i < w.heap.size + 2 → w1.cell? ⟨i, j, none⟩ = wr.cell? ⟨i, j, none⟩ := fun i j hi => World.cell?_of_block (w := wr) (a := ⟨i, j, none⟩) (hk i hi)
  have hf : ∀ i j, i < w.heap.size + 2 → w1.frozen? ⟨i, j, none⟩ = wr.frozen? ⟨i, j, none⟩ := fun i j hi => World.frozen?_of_block (w := wr) (a := ⟨i, j, none⟩) (hk i hi)
  have hob : vb.ownBlock = none ∨ vb.ownBlock ≠ va.ownBlock := by
    rcases hv : va.ownBlock with _ | g
    · rcases hb : vb.ownBlock with _ | g'
      · exact .inl rfl
      · exact .inr (by simp)
    · exact .inr (h.ne g hv)
  refine ⟨World.cell?_setCell_same _ _ _ ((hc _ _ (by omega)).trans h.a0), ?_, ?_, ?_, ?_, ?_, ?_, ?_, ?_, ?_, ?_, ?_, ?_⟩
  · exact (World.cell?_setCell_other _ _ _ _ (addr_ne (.inr (by decide)))).trans ((hc _ _ (by omega)).trans h.a1)
  · exact (World.cell?_setCell_other _ _ _ _ (addr_ne (.inl (by omega)))).trans ((hc _ _ (by omega)).trans h.b0)
  · exact (World.cell?_setCell_other _ _ _ _ (addr_ne (.inl (by omega)))).trans ((hc _ _ (by omega)).trans h.b1)
  · exact (frozen_setCell _ _ _ _).trans ((hf _ _ (by omega)).trans h.fa0)
  · exact (frozen_setCell _ _ _ _).trans ((hf _ _ (by omega)).trans h.fa1)
  · exact (frozen_setCell _ _ _ _).trans ((hf _ _ (by omega)).trans h.fb0)
  · exact (frozen_setCell _ _ _ _).trans ((hf _ _ (by omega)).trans h.fb1)
  · rw [List.length_append, List.map_append]
    exact ownsRow_setCell_below hown (by show w.heap.size < _; omega) _
  · exact ownsRow_setCell_below (h.ob.kept hgrow hob) (by show w.heap.size < _; omega) _
  · intro g hg hb
    rcases hblk with hq | hq
    · exact h.ne g (hq ▸ hg) hb
    · have h1 := (h.ob.lt g hb).2
      rw [hq] at hg
      injection hg with hg
      omega
  · exact (Below.grown h.bel hgrow (by omega) (fun k e => by have := (h.oa.lt k e).1; omega)).setCell (Nat.le_refl _) _
  · rw [World.size_setCell]; omega

theorem Two2.putB (h : Two2 w wr va vb xs ys) {zs : List Int} {e : Ending} {w' : World} (hp : Put wr (w.heap.size + 1) (w.heap.size + 2) ys.length zs.length vb ys zs e w') :
    e = .returned (.tuple #[]) ∧ ∃ v', Two2 w w' va v' xs (ys ++ zs) := by
  obtain ⟨v', w1, he, rfl, hown, hgrow, hblk⟩ := hp
  refine ⟨he, v', ?_⟩
  have hl := h.lt
  have hz := hgrow.size
  have hk : ∀ i, i < w.heap.size + 2 → w1.heap[i]? = wr.heap[i]? := fun i hi => hgrow.block i (by omega) (fun e => by have := (h.ob.lt i e.symm).1; omega)
  have hc : ∀ i j, i < w.heap.size + 2 → w1.cell? ⟨i, j, none⟩ = wr.cell? ⟨i, j, none⟩ := fun i j hi => World.cell?_of_block (w := wr) (a := ⟨i, j, none⟩) (hk i hi)
  have hf : ∀ i j, i < w.heap.size + 2 → w1.frozen? ⟨i, j, none⟩ = wr.frozen? ⟨i, j, none⟩ := fun i j hi => World.frozen?_of_block (w := wr) (a := ⟨i, j, none⟩) (hk i hi)
  have hoa : va.ownBlock = none ∨ va.ownBlock ≠ vb.ownBlock := by
    rcases hv : va.ownBlock with _ | g
    · exact .inl rfl
    · exact .inr (fun e => h.ne g hv e.symm)
  refine ⟨?_, ?_, World.cell?_setCell_same _ _ _ ((hc _ _ (by omega)).trans h.b0), ?_, ?_, ?_, ?_, ?_, ?_, ?_, ?_, ?_, ?_⟩
  · exact (World.cell?_setCell_other _ _ _ _ (addr_ne (.inl (by omega)))).trans ((hc _ _ (by omega)).trans h.a0)
  · exact (World.cell?_setCell_other _ _ _ _ (addr_ne (.inl (by omega)))).trans ((hc _ _ (by omega)).trans h.a1)
  · exact (World.cell?_setCell_other _ _ _ _ (addr_ne (.inr (by decide)))).trans ((hc _ _ (by omega)).trans h.b1)
  · exact (frozen_setCell _ _ _ _).trans ((hf _ _ (by omega)).trans h.fa0)
  · exact (frozen_setCell _ _ _ _).trans ((hf _ _ (by omega)).trans h.fa1)
  · exact (frozen_setCell _ _ _ _).trans ((hf _ _ (by omega)).trans h.fb0)
  · exact (frozen_setCell _ _ _ _).trans ((hf _ _ (by omega)).trans h.fb1)
  · exact ownsRow_setCell_below (h.oa.kept hgrow hoa) (by show w.heap.size + 1 < _; omega) _
  · rw [List.length_append, List.map_append]
    exact ownsRow_setCell_below hown (by show w.heap.size + 1 < _; omega) _
  · intro g hg hb
    rcases hblk with hq | hq
    · exact h.ne g hg (hq ▸ hb)
    · have h1 := (h.oa.lt g hg).2
      rw [hq] at hb
      injection hb with hb
      omega
  · exact (Below.grown h.bel hgrow (by omega) (fun k e => by have := (h.ob.lt k e).1; omega)).setCell (by show w.heap.size ≤ w.heap.size + 1; omega) _
  · rw [World.size_setCell]; omega
end

/-- A tape of which k numbers were taken. -/
def TapeAt (wr : World) (base c : Nat) (zs : List Int) (k : Nat) : Prop :=
  ∃ A cap, wr.cell? ⟨c, 0, none⟩ = some (.slice A (zs.length - k) cap) ∧ zs.length - k ≤ cap ∧ cap ≤ maxLen ∧
    (k < zs.length → ∃ g off, A = some ⟨g, off, none⟩ ∧ base ≤ g ∧ g < wr.heap.size ∧ ∀ j, k + j < zs.length → wr.cell? ⟨g, off + j, none⟩ = some (.int .i64 (zs.getD (k + j) 0))) ∧
    wr.cell? ⟨c, 1, none⟩ = some (.int .i64 k) ∧ wr.frozen? ⟨c, 0, none⟩ = false ∧ wr.frozen? ⟨c, 1, none⟩ = false ∧ c < wr.heap.size

theorem TapeAt.of_own {wr : World} {base c : Nat} {v : Value} {zs : List Int} (ho : wr.ownsRow base 3 1 v zs.length (zs.map (Value.int .i64))) (h0 : wr.cell? ⟨c, 0, none⟩ = some v) (h1 : wr.cell? ⟨c, 1, none⟩ = some (.int .i64 0))
    (f0 : wr.frozen? ⟨c, 0, none⟩ = false) (f1 : wr.frozen? ⟨c, 1, none⟩ = false) (hc : c < wr.heap.size) : TapeAt wr base c zs 0 := by
  have ho' := ho
  rcases ho.2 with ⟨rfl, hn⟩ | ⟨g, cap, cur, rfl, hg, hh, hnc, hcm, _⟩
  · exact ⟨none, 0, by rw [h0, hn], by omega, Nat.zero_le _, fun h => absurd h (by omega), h1, f0, f1, hc⟩
  · refine ⟨_, cap, h0, by omega, hcm, fun _ => ⟨g, 0, rfl, hg, ?_, fun j hj => ?_⟩, h1, f0, f1, hc⟩
    · rcases Nat.lt_or_ge g wr.heap.size with hlt | hge
      · exact hlt
      · rw [Array.getElem?_eq_none hge] at hh; cases hh
    · have := ho'.cellAt j (by omega)
      rw [Nat.zero_add] at hj ⊢
      rw [this, List.getElem?_map, List.getElem?_eq_getElem hj, List.getD_eq_getElem?_getD, List.getElem?_eq_getElem hj]
      rfl
theorem TapeAt.other {wr w' : World} {base c d : Nat} {zs : List Int} {k : Nat} (h : TapeAt wr base c zs k) (hg : wr.grownBy w' (some d)) (hcd : c ≠ d) (hd : d < base) : TapeAt w' base c zs k := by
  obtain ⟨A, cap, h0, hn, hm, hr, h1, f0, f1, hc⟩ := h
  have hz := hg.size
  have hk : ∀ i, i < wr.heap.size → i ≠ d → w'.heap[i]? = wr.heap[i]? := fun i hi hne => hg.block i hi (fun e => hne (by injection e))
  refine ⟨A, cap, (World.cell?_of_block (w := wr) (a := ⟨c, 0, none⟩) (hk c hc hcd)).trans h0, hn, hm, fun hlt => ?_, (World.cell?_of_block (w := wr) (a := ⟨c, 1, none⟩) (hk c hc hcd)).trans h1,
    (World.frozen?_of_block (w := wr) (a := ⟨c, 0, none⟩) (hk c hc hcd)).trans f0, (World.frozen?_of_block (w := wr) (a := ⟨c, 1, none⟩) (hk c hc hcd)).trans f1, by omega⟩
  obtain ⟨g, off, rfl, hb, hgl, hcell⟩ := hr hlt
  exact ⟨g, off, rfl, hb, by omega, fun j hj => (World.cell?_of_block (w := wr) (a := ⟨g, off + j, none⟩) (hk g hgl (by omega))).trans (hcell j hj)⟩
theorem TapeAt.below {wr w' : World} {base c : Nat} {zs : List Int} {k : Nat} (h : TapeAt wr base c zs k) (hg : Below wr.heap.size wr w') : TapeAt w' base c zs k := by
  obtain ⟨A, cap, h0, hn, hm, hr, h1, f0, f1, hc⟩ := h
  have hz := hg.size
  refine ⟨A, cap, (hg.cell (p := ⟨c, 0, none⟩) hc).trans h0, hn, hm, fun hlt => ?_, (hg.cell (p := ⟨c, 1, none⟩) hc).trans h1, (hg.frozen (p := ⟨c, 0, none⟩) hc).trans f0, (hg.frozen (p := ⟨c, 1, none⟩) hc).trans f1, by omega⟩
  obtain ⟨g, off, rfl, hb, hgl, hcell⟩ := hr hlt
  exact ⟨g, off, rfl, hb, by omega, fun j hj => (hg.cell (p := ⟨g, off + j, none⟩) hgl).trans (hcell j hj)⟩

theorem only_two (w : World) (c : Nat) (u v : Value) : w.grownBy ((w.setCell ⟨c, 0, none⟩ u).setCell ⟨c, 1, none⟩ v) (some c) :=
  only_setCell (p := ⟨c, 1, none⟩) (only_setCell (p := ⟨c, 0, none⟩) (World.grownBy.refl w (some c)) (.inl rfl) u) (.inl rfl) v
theorem set_two (w : World) (c : Nat) (u v u0 v0 : Value) (h0 : w.cell? ⟨c, 0, none⟩ = some u0) (h1 : w.cell? ⟨c, 1, none⟩ = some v0) :
    ((w.setCell ⟨c, 0, none⟩ u).setCell ⟨c, 1, none⟩ v).cell? ⟨c, 0, none⟩ = some u ∧ ((w.setCell ⟨c, 0, none⟩ u).setCell ⟨c, 1, none⟩ v).cell? ⟨c, 1, none⟩ = some v := by
  have e1 : (w.setCell ⟨c, 0, none⟩ u).cell? ⟨c, 1, none⟩ = some v0 := (World.cell?_setCell_other _ _ _ _ (addr_ne (.inr (by decide)))).trans h1
  exact ⟨(World.cell?_setCell_other _ _ _ _ (addr_ne (.inr (by decide)))).trans (World.cell?_setCell_same _ _ _ h0), World.cell?_setCell_same _ _ _ e1⟩

theorem nums1 (n k cap : Nat) (hk : k < n) (hn : n - k ≤ cap) (hm : cap ≤ 9223372036854775807) : n - (k + 1) = n - k - 1 ∧ n - (k + 1) ≤ cap - 1 ∧ cap - 1 ≤ 9223372036854775807 ∧ ∀ j, k + 1 + j < n → k + (j + 1) < n :=
  ⟨by omega, by omega, by omega, fun j hj => by omega⟩
theorem nums3 (n k cap : Nat) (hk : k < n) (hn : n - k ≤ cap) (hc : ¬ cap = 1) (hl : n ≤ 1000000) : 0 < n - k ∧ 1 < cap ∧ (0 : Int) ≤ (k : Int) ∧ (k : Int) ≤ 1000000 := ⟨by omega, by omega, by omega, by omega⟩
theorem nums2 (n k : Nat) (hk : k < n) (hn : n - k ≤ 1) : n - k = 1 ∧ n - (k + 1) = 0 ∧ ¬ k + 1 < n := ⟨by omega, by omega, by omega⟩

/-- One number is taken. -/
theorem takeT {wr : World} {base c : Nat} {zs : List Int} {k : Nat} (h : TapeAt wr base c zs k) (hk : k < zs.length) (hk1 : zs.length ≤ 1000000) (hcb : c < base) :
    Calls Try.prog 17 #[.pointer (some ⟨c, 0, none⟩)] wr fun e w' => e = .returned (.tuple #[.int .i64 (zs.getD k 0), .bool true]) ∧ TapeAt w' base c zs (k + 1) ∧ wr.grownBy w' (some c) := by
  obtain ⟨A, cap, h0, hn, hm, hr, h1, f0, f1, hc⟩ := h
  obtain ⟨g, off, rfl, hb, hgl, hcell⟩ := hr hk
  have hx := hcell 0 (by omega)
  simp only [Nat.add_zero] at hx
  unfold maxLen at hm
  have hg2 : ∀ u v : Value, ∀ i j, i ≠ c → ((wr.setCell ⟨c, 0, none⟩ u).setCell ⟨c, 1, none⟩ v).cell? ⟨i, j, none⟩ = wr.cell? ⟨i, j, none⟩ := fun u v i j hi =>
    (World.cell?_setCell_other _ _ _ _ (addr_ne (.inl (by omega)))).trans (World.cell?_setCell_other _ _ _ _ (addr_ne (.inl (by omega))))
  by_cases hcap : cap = 1
  · subst hcap
    obtain ⟨e1, z1, z2⟩ := nums2 _ _ hk hn
    rw [e1] at h0
    have z5 : g ≠ c := by omega
    have p3 : (0 : Int) ≤ (k : Int) := Int.natCast_nonneg k
    have p4 : (k : Int) ≤ 1000000 := by omega
    refine (take_last c g off _ k wr p3 p4 z5 h0 f0 h1 f1 hx).mono ?_
    rintro e w' ⟨rfl, rfl⟩
    have hs := set_two wr c (.slice (some ⟨g, off, none⟩) 0 0) (.int .i64 ((k : Int) + 1)) _ _ h0 h1
    refine ⟨rfl, ⟨some ⟨g, off, none⟩, 0, by rw [hs.1, z1], Nat.le_of_eq z1, Nat.zero_le _, fun hlt => absurd hlt z2, by rw [hs.2]; simp, ?_, ?_, ?_⟩, only_two _ _ _ _⟩
    · rw [frozen_setCell, frozen_setCell]; exact f0
    · rw [frozen_setCell, frozen_setCell]; exact f1
    · rw [World.size_setCell, World.size_setCell]; exact hc
  · obtain ⟨z1, z2, z3, z4⟩ := nums1 _ _ _ hk hn hm
    have z5 : g ≠ c := by omega
    obtain ⟨p1, p2, p3, p4⟩ := nums3 _ _ _ hk hn hcap hk1
    refine (take_some c g off (zs.length - k) cap _ k wr p1 p2 hn hm p3 p4 z5 h0 f0 h1 f1 hx).mono ?_
    rintro e w' ⟨rfl, rfl⟩
    have hs := set_two wr c (.slice (some ⟨g, off + 1, none⟩) (zs.length - k - 1) (cap - 1)) (.int .i64 ((k : Int) + 1)) _ _ h0 h1
    refine ⟨rfl, ⟨some ⟨g, off + 1, none⟩, cap - 1, by rw [hs.1, z1], z2, z3, fun hlt => ⟨g, off + 1, rfl, hb, ?_, fun j hj => ?_⟩, by rw [hs.2]; simp, ?_, ?_, ?_⟩, only_two _ _ _ _⟩
    · rw [World.size_setCell, World.size_setCell]; exact hgl
    · rw [hg2 _ _ g _ z5, Nat.add_assoc off 1 j, Nat.add_comm 1 j, hcell (j + 1) (z4 j hj), show k + (j + 1) = k + 1 + j from by rw [Nat.add_assoc, Nat.add_comm 1 j]]
    · rw [frozen_setCell, frozen_setCell]; exact f0
    · rw [frozen_setCell, frozen_setCell]; exact f1
    · rw [World.size_setCell, World.size_setCell]; exact hc
theorem takeN {wr : World} {base c : Nat} {zs : List Int} (h : TapeAt wr base c zs zs.length) :
    Calls Try.prog 17 #[.pointer (some ⟨c, 0, none⟩)] wr fun e w' => e = .returned (.tuple #[.int .i64 0, .bool false]) ∧ wr = w' := by
  obtain ⟨A, cap, h0, _⟩ := h
  rw [Nat.sub_self] at h0
  exact take_none c A cap wr h0
theorem leftT {wr : World} {base c : Nat} {zs : List Int} (h : TapeAt wr base c zs zs.length) :
    Calls Try.prog 18 #[.pointer (some ⟨c, 0, none⟩)] wr fun e w' => e = .returned (.int .i64 0) ∧ wr = w' := by
  obtain ⟨A, cap, h0, _⟩ := h
  rw [Nat.sub_self] at h0
  exact left18 c 0 cap A wr h0
theorem takenT {wr : World} {base c : Nat} {zs : List Int} {k : Nat} (h : TapeAt wr base c zs k) :
    Calls Try.prog 19 #[.pointer (some ⟨c, 0, none⟩)] wr fun e w' => e = .returned (.int .i64 k) ∧ wr = w' := by
  obtain ⟨A, cap, h0, _, _, _, h1, _⟩ := h
  exact taken19 c k wr h1
end Go.Proofs.Ytdaacboalleidaa
