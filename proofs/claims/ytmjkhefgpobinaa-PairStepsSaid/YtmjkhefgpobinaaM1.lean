/-
  Texts of the machine of pairs, part 1.
-/
import Derived.Below
import Derived.Laws.OwnMore
import Derived.Deep.AppendLies
import Derived.Deep.Draws
import Derived.Maps.AppendAt
import Derived.RegionTactic
import Derived.OwnWalk
import Derived.Test.YtmjkhefgpobinaaRows
import Derived.WalkKit
import Derived.ProofKit
import Derived.OpenShut
import Derived.Handy
import Derived.Deep.QuietTactic
import Derived.BigQuiet
import Derived.Lib.Hide
import Derived.Test.YtmjkhefgpobinaaKit
import Derived.ShutString
import Derived.Outline
import Derived.WalkLawsBesides
import Derived.WalkSpells
import Derived.ChangeAlike
import Derived.Laws.Rows
import Derived.Laws.Tables
import Derived.Laws.CopyOwn
import Derived.Laws.MakeOwn
import Derived.Laws.Entries
import Derived.Deep.WholeRow
import Derived.Deep.LoopGhost
import Derived.Deep.RegionHeld3
import Derived.Deep.Cut
import Derived.Deep.CutRange
import Derived.Deep.DeepCutAuto
import Derived.Deep.CutBlock
import Derived.Lib.SliceRun
import Derived.IntWalk
import Derived.Laws.Strings
import Derived.Deep.Slices
import Derived.Deep.Fields
import Derived.ChangeSame
import Derived.ChangeArms
import Derived.Deep.MidRow
import Derived.Deep.Upon
namespace Go.Proofs.Ytmjkhefgpobinaa
theorem tk {P : Program} {ops : Array Oper} {Q : Exit → Act → World → Prop} {md : Region.Mode} {S : World → Prop} {i : Nat} {oi : Oper} {v : Value} {fuel : Nat} {listed : Array Bool} {a : Act} {w : World} {d : Option Nat} (hi : ops[i]? = some oi := by rfl) (hd : oi.dst = d := by rfl)
    (hs : Region.noSelect ops = true := by as_aux_lemma => kernel_rfl) (hf : Region.free md ops listed i = true := by as_aux_lemma => kernel_rfl) (hr : (Region.ready md ops listed).contains i = true := by as_aux_lemma => kernel_rfl)
    (hQ : ∀ c a w, Q (.panic c) (a.put oi.dst v) w → Q (.panic c) a w := by exact fun _ _ _ h => h) (hy : YieldsIf P ops S oi v a) (hS : S w := by assumption)
    (h : wpAnyH P md ops Q S fuel (listed.setIfInBounds i true) (a.put d v) w) : wpAnyH P md ops Q S (fuel + 1) listed a w := wpAnyH_take hi hs hf hr hQ hy hS (hd ▸ h)
theorem tkA {α : Type} (l : List α) (i : Nat) (a : α) : l.toArray.setIfInBounds i a = (l.set i a).toArray := by simp only [List.setIfInBounds_toArray]
theorem tkB {α : Type} (x : α) (l : List α) (a : α) : (x :: l).set 0 a = a :: l := rfl
theorem tkC {α : Type} (x : α) (l : List α) (n : Nat) (a : α) : (x :: l).set (n + 1) a = x :: l.set n a := rfl
end Go.Proofs.Ytmjkhefgpobinaa
namespace Go.Proofs.Ytmjkhefgpobinaa
open Go.RowKit
theorem block_of_add (a : Addr) (n : Nat) : (a.add n).block = a.block := by unfold Addr.add; split <;> rfl
theorem add_of_add (a : Addr) (i j : Nat) : (a.add i).add j = a.add (i + j) := by
  unfold Addr.add
  by_cases hi : i = 0 <;> by_cases hj : j = 0 <;> simp [hi, hj, Nat.add_assoc]

def Reads (w : World) (B size : Nat) (A : Option Addr) (n : Nat) (xs : List Value) : Prop :=
  xs.length = n * size ∧ (0 < n → ∃ ad, A = some ad ∧ ad.block < B ∧ ∀ j u, xs[j]? = some u → w.cell? (ad.add j) = some u)

section
variable {w w' : World} {B B' size n : Nat} {A : Option Addr} {xs : List Value}
theorem Reads.none_ : Reads w B size A 0 [] := ⟨by simp, fun h => absurd h (by omega)⟩
theorem Reads.at_ {k : Nat} (h : Reads w B 1 A n xs) (hk : k < n) : ∃ ad u, A = some ad ∧ ad.block < B ∧ xs[k]? = some u ∧ w.cell? (ad.add k) = some u := by
  obtain ⟨ad, e, hb, hc⟩ := h.2 (by omega)
  have hl : k < xs.length := by have := h.1; omega
  exact ⟨ad, xs[k], e, hb, List.getElem?_eq_getElem hl, hc k _ (List.getElem?_eq_getElem hl)⟩
theorem Reads.keep (h : Reads w B size A n xs) (hk : ∀ p : Addr, p.block < B → w'.cell? p = w.cell? p) : Reads w' B size A n xs :=
  ⟨h.1, fun hn => by
    obtain ⟨ad, e, hb, hc⟩ := h.2 hn
    exact ⟨ad, e, hb, fun j u hu => (hk _ (by rw [block_of_add]; exact hb)).trans (hc j u hu)⟩⟩
theorem Reads.more (h : Reads w B size A n xs) (hB : B ≤ B') : Reads w B' size A n xs :=
  ⟨h.1, fun hn => by
    obtain ⟨ad, e, hb, hc⟩ := h.2 hn
    exact ⟨ad, e, by omega, hc⟩⟩
theorem Reads.below (h : Reads w B size A n xs) (hb : Below B w w') : Reads w' B size A n xs := h.keep fun _ hp => hb.cell hp
theorem Reads.drew (h : Reads w B size A n xs) : Reads w.drew B size A n xs := h
theorem Reads.drewN (h : Reads w B size A n xs) (k : Nat) : Reads (w.drewN k) B size A n xs := h
theorem Reads.alloc (h : Reads w B size A n xs) (hB : B ≤ w.heap.size) (o : Obj) : Reads (w.alloc o) B size A n xs := h.keep fun p hp => World.cell?_alloc_lt w o p (by omega)
theorem Reads.setCell (h : Reads w B size A n xs) {p : Addr} (hB : B ≤ p.block) (u : Value) : Reads (w.setCell p u) B size A n xs :=
  h.keep fun q hq => World.cell?_setCell_other w p q u (fun e => by subst e; omega)
theorem Reads.grown (h : Reads w B size A n xs) {row : Option Nat} (hg : w.grownBy w' row) (hB : B ≤ w.heap.size) (hr : ∀ g, row = some g → B ≤ g) : Reads w' B size A n xs :=
  h.keep fun p hp => World.cell?_of_block (hg.block p.block (by omega) (fun e => by have := hr _ e.symm; omega))
theorem Reads.cut (h : Reads w B size A n xs) {k cap : Nat} (hk : k ≤ n) (hc : n ≤ cap) :
    Reads w B size (if cap = k then A else A.map (·.add (k * size))) (n - k) (xs.drop (k * size)) := by
  refine ⟨by rw [List.length_drop, h.1, Nat.sub_mul], fun hn => ?_⟩
  obtain ⟨ad, rfl, hb, hcell⟩ := h.2 (by omega)
  rw [if_neg (by omega)]
  refine ⟨ad.add (k * size), rfl, by rw [block_of_add]; exact hb, fun j u hu => ?_⟩
  rw [add_of_add]
  exact hcell _ u (by rw [← hu, List.getElem?_drop])
theorem Reads.of_own {base : Nat} {e : TypeId} {c : Nat} (h : w.ownsRow base e size (.slice A n c) n xs) : Reads w w.heap.size size A n xs := by
  refine ⟨h.1, fun hn => ?_⟩
  obtain ⟨g, cap, hv, _, hlt⟩ := h.form hn
  have hA : A = some ⟨g, 0, none⟩ := by injection hv
  subst hA
  exact ⟨_, rfl, hlt, h.cells (g := g) rfl⟩
end

section
variable {P : Program} (w : World)

theorem run_append_of_nil (base : Nat) (t ty e : TypeId) (i : TypeInfo) (size : Nat) (ht : P.underlying t = some (.slice e)) (hi : P.info? e = some i)
    (v : Value) (n : Nat) (xs : List Value) (hown : w.ownsRow base e size v n xs) (c : Nat) : (Builtin.append_ #[t, t] ty #[v, .slice none 0 c]).run P w = .ok v w := by
  rcases hown.2 with ⟨rfl, rfl⟩ | ⟨g, cap, cur, rfl, _, _, hnc, _⟩
  · simp [Builtin.append_, run_underlying ht, sizeOf, typeInfo, hi, Builtin.lenOf, Builtin.firstCells]
  · simp [Builtin.append_, run_underlying ht, sizeOf, typeInfo, hi, Builtin.lenOf, Builtin.firstCells, hnc, storeCells]

theorem run_append_any (base : Nat) (t ty e : TypeId) (i : TypeInfo) (z : Value) (size bytes : Nat) (ht : P.underlying t = some (.slice e)) (hi : P.info? e = some i) (hz : i.zero = some z)
    (hsize : i.size = size) (hby : i.bytes = bytes) (hzs : z.cells.size = size) (hsz : 0 < size)
    (v : Value) (n : Nat) (xs : List Value) (hown : w.ownsRow base e size v n xs)
    (B : Nat) (A : Option Addr) (m c : Nat) (news : List Value) (hr : Reads w B size A m news) (h1 : ∀ u ∈ news, u.oneCell' = true)
    (h63 : n + m ≤ maxLen) (hbytes : (n + m) * bytes ≤ 140737488355328) (hbase : base ≤ w.heap.size) :
    ∃ v' w', (Builtin.append_ #[t, t] ty #[v, .slice A m c]).run P w = .ok v' w' ∧ w'.ownsRow base e size v' (n + m) (xs ++ news) ∧ w.grownBy w' v.ownBlock ∧
      (v'.ownBlock = v.ownBlock ∨ v'.ownBlock = some w.heap.size) := by
  rcases A with _ | ad
  · have hm : m = 0 := by
      rcases Nat.eq_zero_or_pos m with h0 | h0
      · exact h0
      · obtain ⟨ad, h, _⟩ := hr.2 h0
        cases h
    subst hm
    have hn : news = [] := List.eq_nil_of_length_eq_zero (by simpa using hr.1)
    subst hn
    exact ⟨v, w, run_append_of_nil w base t ty e i size ht hi v n xs hown c, by simpa using hown, World.grownBy.refl w _, .inl rfl⟩
  · have hcells : ∀ j u, news[j]? = some u → w.cell? (ad.add j) = some u := by
      intro j u hu
      rcases Nat.eq_zero_or_pos m with h0 | h0
      · subst h0
        have hn : news = [] := List.eq_nil_of_length_eq_zero (by simpa using hr.1)
        subst hn
        simp at hu
      · obtain ⟨ad', h, _, hc⟩ := hr.2 h0
        injection h with h
        subst h
        exact hc j u hu
    obtain ⟨v', w', hrun, h2, h3, _, h5⟩ := run_append_own_at (P := P) w base t ty e i z size bytes ht hi hz hsize hby hzs hsz v n xs hown ad m c news hr.1 hcells h1 h63 hbytes hbase
    exact ⟨v', w', hrun, h2, h3, h5⟩

theorem wp_append_any {o : Oper} {a : Act} {K : Act → World → Prop} {Q : Exit → Act → World → Prop} (s x : Operand) (t : TypeId)
    (ho : o.op = .call { callee := .builtin .append, args := #[s, x], argTypes := #[t, t] })
    (base : Nat) (e : TypeId) (i : TypeInfo) (z : Value) (size bytes : Nat) (ht : P.underlying t = some (.slice e)) (hi : P.info? e = some i) (hz : i.zero = some z)
    (hsize : i.size = size) (hby : i.bytes = bytes) (hzs : z.cells.size = size) (hsz : 0 < size)
    (v : Value) (n : Nat) (xs : List Value) (hs : a.eval s = v) (hown : w.ownsRow base e size v n xs)
    (B : Nat) (A : Option Addr) (m c : Nat) (news : List Value) (hx : a.eval x = .slice A m c) (hr : Reads w B size A m news) (h1 : ∀ u ∈ news, u.oneCell' = true)
    (h63 : n + m ≤ maxLen) (hbytes : (n + m) * bytes ≤ 140737488355328) (hbase : base ≤ w.heap.size)
    (h : ∀ v' w', w'.ownsRow base e size v' (n + m) (xs ++ news) → w.grownBy w' v.ownBlock → (v'.ownBlock = v.ownBlock ∨ v'.ownBlock = some w.heap.size) → K (a.put o.dst v') w') : o.wp P a w K Q := by
  obtain ⟨v', w', hrun, h2, h3, h4⟩ := run_append_any (P := P) w base t o.type e i z size bytes ht hi hz hsize hby hzs hsz v n xs hown B A m c news hr h1 h63 hbytes hbase
  unfold Oper.wp execOp
  simp only [ho, resolve, invoke, builtin, Sem.run_bind, Sem.run_pure, Result.andThen_ok, List.map_toArray, List.map_cons, List.map_nil, hs, hx, hrun]
  exact h v' w' h2 h3 h4

theorem wpList_append_any {ops : Array Oper} {rest : List Oper} {o : Oper} {a : Act} {Q : Exit → Act → World → Prop} (hgd : o.guard = none) (s x : Operand) (t : TypeId)
    (ho : o.op = .call { callee := .builtin .append, args := #[s, x], argTypes := #[t, t] })
    (base : Nat) (e : TypeId) (i : TypeInfo) (z : Value) (size bytes : Nat) (ht : P.underlying t = some (.slice e)) (hi : P.info? e = some i) (hz : i.zero = some z)
    (hsize : i.size = size) (hby : i.bytes = bytes) (hzs : z.cells.size = size) (hsz : 0 < size)
    (v : Value) (n : Nat) (xs : List Value) (hs : a.eval s = v) (hown : w.ownsRow base e size v n xs)
    (B : Nat) (A : Option Addr) (m c : Nat) (news : List Value) (hx : a.eval x = .slice A m c) (hr : Reads w B size A m news) (h1 : ∀ u ∈ news, u.oneCell' = true)
    (h63 : n + m ≤ maxLen) (hbytes : (n + m) * bytes ≤ 140737488355328) (hbase : base ≤ w.heap.size)
    (h : ∀ v' w', w'.ownsRow base e size v' (n + m) (xs ++ news) → w.grownBy w' v.ownBlock → (v'.ownBlock = v.ownBlock ∨ v'.ownBlock = some w.heap.size) → wpList P ops Q rest (a.put o.dst v') w') : wpList P ops Q (o :: rest) a w :=
  wpList_plain hgd fun _ hK => wp_append_any w s x t ho base e i z size bytes ht hi hz hsize hby hzs hsz v n xs hs hown B A m c news hx hr h1 h63 hbytes hbase fun v' w' h2 h3 h4 => hK _ _ (h v' w' h2 h3 h4)

theorem step_append_any {ops : Array Oper} {o : Oper} {a : Act} {K : Act → World → Prop} {Q : Exit → Act → World → Prop} {E : Prop} (hgd : o.guard = none) (s x : Operand) (t : TypeId)
    (ho : o.op = .call { callee := .builtin .append, args := #[s, x], argTypes := #[t, t] })
    (base : Nat) (e : TypeId) (i : TypeInfo) (z : Value) (size bytes : Nat) (ht : P.underlying t = some (.slice e)) (hi : P.info? e = some i) (hz : i.zero = some z)
    (hsize : i.size = size) (hby : i.bytes = bytes) (hzs : z.cells.size = size) (hsz : 0 < size)
    (v : Value) (n : Nat) (xs : List Value) (hs : a.eval s = v) (hown : w.ownsRow base e size v n xs)
    (B : Nat) (A : Option Addr) (m c : Nat) (news : List Value) (hx : a.eval x = .slice A m c) (hr : Reads w B size A m news) (h1 : ∀ u ∈ news, u.oneCell' = true)
    (h63 : n + m ≤ maxLen) (hbytes : (n + m) * bytes ≤ 140737488355328) (hbase : base ≤ w.heap.size)
    (h : ∀ v' w', w'.ownsRow base e size v' (n + m) (xs ++ news) → w.grownBy w' v.ownBlock → (v'.ownBlock = v.ownBlock ∨ v'.ownBlock = some w.heap.size) → K (a.put o.dst v') w') :
    if Region.wanted o (yielded ops a.tmps) = true then Oper.wp P o a w K Q else E := by
  have hw : Region.wanted o (yielded ops a.tmps) = true := by simp [Region.wanted, hgd]
  rw [if_pos hw]
  exact wp_append_any w s x t ho base e i z size bytes ht hi hz hsize hby hzs hsz v n xs hs hown B A m c news hx hr h1 h63 hbytes hbase h
end
end Go.Proofs.Ytmjkhefgpobinaa
namespace Go.Proofs.Ytmjkhefgpobinaa
open Go.ChangeShapes Go.WideShapes Go.ChangeAt Go.RowKit
/-- What was there stays. -/
def Sc (W wx : World) : Prop := Below W.heap.size W wx
theorem region_sc {P : Program} {id : Nat} {Q : Exit → Act → World → Prop} {a : Act} {W : World} {l' : List Oper} (hm : P.follows .mixedOrders = true) (hB : Region.lexB .any l'.toArray = true)
    (h : wpQuiet P l'.toArray (Sc W) (fun a' => ∀ w', Sc W w' → Q .normal a' w') l' a) : (Code.region id l'.toArray true).wp P Q a W := wp_region_quiet (C := Sc W) hm hB (Below.drew (Below.refl _ _)) (by simpa using h)
theorem Sc.call {P : Program} {f : Nat} {args : Array Value} {v : Value} {W wq : World} (hc : ∀ w, Calls P f args w fun e w' => e = .returned v ∧ Below w.heap.size w w') (hq : Sc W wq) :
    Calls P f args wq fun e w' => e = .returned v ∧ Sc W w' := (hc wq).mono fun _ _ ⟨he, hb⟩ => ⟨he, Below.step hq hb⟩
end Go.Proofs.Ytmjkhefgpobinaa
namespace Go.Proofs.Ytmjkhefgpobinaa
open Go.ChangeShapes Go.WideShapes Go.ChangeAt Go.RowKit
def Bl (B : Nat) (l : List Value) (w : World) : Prop := ∃ t, w.heap[B]? = some (.cells l.toArray t (0, 0))
theorem Bl.lt {B : Nat} {l : List Value} {w : World} (h : Bl B l w) : B < w.heap.size := by
  obtain ⟨t, hh⟩ := h
  exact (Array.getElem?_eq_some_iff.1 hh).1
theorem Bl.cell {B : Nat} {l : List Value} {w : World} (h : Bl B l w) (j : Nat) (u : Value) (hu : l[j]? = some u) : w.cell? ⟨B, j, none⟩ = some u := by
  obtain ⟨t, hh⟩ := h
  rw [cell_of_row _ _ _ _ _ _ hh]; simpa using hu
theorem Bl.frz {B : Nat} {l : List Value} {w : World} (h : Bl B l w) (j : Nat) : w.frozen? ⟨B, j, none⟩ = false := by
  obtain ⟨t, hh⟩ := h
  simp [World.frozen?, hh]
theorem Bl.new (w : World) (cs : List Value) (t : TypeId) : Bl w.heap.size cs (w.alloc (.cells cs.toArray t)) := ⟨t, heap_alloc_new w (.cells cs.toArray t)⟩
theorem Bl.below {B : Nat} {l : List Value} {w w' : World} (h : Bl B l w) (hb : Below w.heap.size w w') : Bl B l w' := by
  have hl := h.lt
  obtain ⟨t, hh⟩ := h
  exact ⟨t, (hb.block B hl).trans hh⟩
theorem Bl.far {B : Nat} {l : List Value} {w : World} (h : Bl B l w) {p : Addr} (hne : p.block ≠ B) (u : Value) : Bl B l (w.setCell p u) := by
  obtain ⟨t, hh⟩ := h
  exact ⟨t, (Below.heap_setCell w p u B (fun e => hne e.symm)).trans hh⟩
theorem Bl.set {B : Nat} {l : List Value} {w : World} (h : Bl B l w) (j : Nat) (u : Value) : Bl B (l.set j u) (w.setCell ⟨B, j, none⟩ u) := by
  obtain ⟨t, hh⟩ := h
  refine ⟨t, ?_⟩
  simp [World.setCell, Array.getElem?_modify, hh]
theorem blk_set {w : World} {g : Nat} {t : TypeId} {cs : Array Value} (h : w.heap[g]? = some (.cells cs t (0, 0))) (i : Nat) (u : Value) : (w.setCell ⟨g, i, none⟩ u).heap[g]? = some (.cells (cs.setIfInBounds i u) t (0, 0)) := by
  simp [World.setCell, Array.getElem?_modify, h]
theorem blk_far {w : World} {g : Nat} {o : Obj} (h : w.heap[g]? = some o) {p : Addr} (hp : g ≠ p.block) (u : Value) : (w.setCell p u).heap[g]? = some o := (Below.heap_setCell w p u g hp).trans h
theorem blk_frozen {w : World} {g : Nat} {t : TypeId} {cs : Array Value} (h : w.heap[g]? = some (.cells cs t (0, 0))) (i : Nat) : w.frozen? ⟨g, i, none⟩ = false := by
  simp [World.frozen?, h]
theorem blk_lt {w : World} {g : Nat} {o : Obj} (h : w.heap[g]? = some o) : g < w.heap.size := by
  rcases Nat.lt_or_ge g w.heap.size with hlt | hge
  · exact hlt
  · rw [Array.getElem?_eq_none hge] at h; cases h

theorem oshape {w : World} {base : Nat} {e : TypeId} {size : Nat} {v : Value} {n : Nat} {xs : List Value} (h : w.ownsRow base e size v n xs) : ∃ A c, v = .slice A n c := by
  rcases h.2 with ⟨rfl, rfl⟩ | ⟨g, cap, cur, hv, _⟩
  · exact ⟨_, _, rfl⟩
  · exact ⟨_, _, hv⟩
theorem rkept {w wx : World} {base : Nat} {e : TypeId} {size m : Nat} {v : Value} {xs : List Value} (h : w.ownsRow base e size v m xs) (hb : Below w.heap.size w wx) : wx.ownsRow base e size v m xs := by
  refine ⟨h.1, ?_⟩
  rcases h.2 with h0 | ⟨g, cap, cur, hv, hg, hgh, hr⟩
  · exact .inl h0
  · have hlt : g < w.heap.size := by
      rcases Nat.lt_or_ge g w.heap.size with hlt | hge
      · exact hlt
      · rw [Array.getElem?_eq_none hge] at hgh; cases hgh
    exact .inr ⟨g, cap, cur, hv, hg, (hb.block g hlt).trans hgh, hr⟩

theorem rfar {wr w' : World} {base : Nat} {e : TypeId} {size m : Nat} {u : Value} {xs : List Value} (h : wr.ownsRow base e size u m xs) (hk : ∀ k, base ≤ k → k < wr.heap.size → w'.heap[k]? = wr.heap[k]?) : w'.ownsRow base e size u m xs := by
  refine ⟨h.1, ?_⟩
  rcases h.2 with h0 | ⟨g, cap, cur, hv, hg, hgh, hr⟩
  · exact .inl h0
  · have hlt : g < wr.heap.size := by
      rcases Nat.lt_or_ge g wr.heap.size with hlt | hge
      · exact hlt
      · rw [Array.getElem?_eq_none hge] at hgh; cases hgh
    exact .inr ⟨g, cap, cur, hv, hg, (hk g hg hlt).trans hgh, hr⟩
theorem reads_newN (w : World) (n s : Nat) (l : List Value) (t : TypeId) (hl : l.length = n * s) : Reads (w.alloc (.cells l.toArray t)) (w.heap.size + 1) s (some ⟨w.heap.size, 0, none⟩) n l := by
  refine ⟨hl, fun _ => ⟨_, rfl, by show w.heap.size < w.heap.size + 1; omega, fun j u hu => ?_⟩⟩
  have hg := heap_alloc_new w (.cells l.toArray t)
  unfold Addr.add
  by_cases h0 : j = 0
  · subst h0
    simp only [if_true]
    rw [cell_of_row _ _ _ _ _ _ hg]
    simpa using hu
  · simp only [h0, if_false, Nat.zero_add]
    rw [cell_of_row _ _ _ _ _ _ hg]
    simpa using hu
theorem addp (a : Addr) (i : Nat) (hi : i ≠ 0) (h : a.spot = none) : a.add i = ⟨a.block, a.off + i, none⟩ := by
  unfold Addr.add
  rw [if_neg hi]
theorem setCells_row (t : TypeId) (B : Nat) : ∀ (vs pre cs0 : List Value) (w : World), w.heap[B]? = some (.cells (pre ++ cs0).toArray t (0, 0)) → vs.length = cs0.length → (w.setCells B pre.length vs).heap[B]? = some (.cells (pre ++ vs).toArray t (0, 0))
  | [], pre, cs0, w, h, hl => by
    have : cs0 = [] := List.length_eq_zero_iff.1 hl.symm
    subst this
    exact h
  | v :: r, pre, cs0, w, h, hl => by
    obtain ⟨c, cs', rfl⟩ : ∃ c cs', cs0 = c :: cs' := List.exists_cons_of_ne_nil (by intro e; rw [e] at hl; cases hl)
    have h1 := blk_set h pre.length v
    have h2 : (pre ++ c :: cs').toArray.setIfInBounds pre.length v = ((pre ++ [v]) ++ cs').toArray := by
      rw [List.setIfInBounds_toArray, List.set_append_right _ _ (Nat.le_refl _), Nat.sub_self, List.set_cons_zero, List.append_assoc]
      rfl
    rw [h2] at h1
    have h3 := setCells_row t B r (pre ++ [v]) cs' _ h1 (by simpa using hl)
    rw [List.length_append] at h3
    rw [show pre ++ v :: r = pre ++ [v] ++ r from by rw [List.append_assoc]; rfl]
    exact h3
theorem there_row {B : Nat} {cs : Array Value} {t : TypeId} {w : World} (h : w.heap[B]? = some (.cells cs t (0, 0))) : w.there B 0 cs.size := fun j hj => by
  rw [Nat.zero_add]
  refine ⟨?_, blk_frozen h j⟩
  rw [cell_of_row _ _ _ _ _ _ h, Array.getElem?_eq_getElem hj]
  rfl
theorem setCells_below {b B : Nat} {a w : World} (h : Below b a w) (hB : b ≤ B) : ∀ (vs : List Value) (o : Nat), Below b a (w.setCells B o vs)
  | [], _ => h
  | v :: r, o => setCells_below (h.setCell (p := ⟨B, o, none⟩) hB v) hB r (o + 1)
theorem setCells_size (B : Nat) : ∀ (vs : List Value) (o : Nat) (w : World), (w.setCells B o vs).heap.size = w.heap.size
  | [], _, _ => rfl
  | v :: r, o, w => by rw [World.setCells, setCells_size B r (o + 1)]; simp
/-- A whole struct stored over a block that is known whole. -/
theorem wp_store_bl {P : Program} {op : Oper} {a : Act} {w : World} {K : Act → World → Prop} {Q : Exit → Act → World → Prop} (ty : TypeId) (x y : Operand) (ho : op.op = .store ty x y)
    (b : Nat) (l cells : List Value) (hx : a.eval x = .pointer (some ⟨b, 0, none⟩)) (hy : a.eval y = .agg cells.toArray) (hb : Bl b l w) (hn : cells.length = l.length)
    (hi : (P.info? ty).map (·.size) = some cells.length) (h1 : cells.all (·.oneCell') = true)
    (h : ∀ w1, Bl b cells w1 → (∀ k, k ≠ b → k < w.heap.size → w1.heap[k]? = w.heap[k]?) → w1.heap.size = w.heap.size → (∀ (base : Nat) (w0 : World), base ≤ b → Below base w0 w → Below base w0 w1) → K (a.put op.dst undef) w1) : op.wp P a w K Q := by
  have hl := hb.lt
  obtain ⟨t, hh⟩ := hb
  have ht : w.there b 0 cells.toArray.size := by
    have := there_row hh
    simpa [hn] using this
  refine wp_store_mid ty x y ho b 0 cells.toArray hx hy ht (by simpa using hi) (by simpa using h1) (h _ ⟨t, ?_⟩ (fun k hk hlt => ?_) (setCells_size _ _ _ _) (fun base w0 hb hw => setCells_below hw hb _ _))
  · have := setCells_row t b cells [] l w (by simpa using hh) hn
    simpa using this
  · exact World.heap_setCells_other w b 0 _ hlt hk
theorem wpList_store_bl {P : Program} {ops : Array Oper} {rest : List Oper} {op : Oper} {a : Act} {w : World} {Q : Exit → Act → World → Prop} (hgd : op.guard = none) (ty : TypeId) (x y : Operand) (ho : op.op = .store ty x y)
    (b : Nat) (l cells : List Value) (hx : a.eval x = .pointer (some ⟨b, 0, none⟩)) (hy : a.eval y = .agg cells.toArray) (hb : Bl b l w) (hn : cells.length = l.length)
    (hi : (P.info? ty).map (·.size) = some cells.length) (h1 : cells.all (·.oneCell') = true)
    (h : ∀ w1, Bl b cells w1 → (∀ k, k ≠ b → k < w.heap.size → w1.heap[k]? = w.heap[k]?) → w1.heap.size = w.heap.size → (∀ (base : Nat) (w0 : World), base ≤ b → Below base w0 w → Below base w0 w1) → wpList P ops Q rest (a.put op.dst undef) w1) : wpList P ops Q (op :: rest) a w :=
  wpList_plain hgd fun _ hK => wp_store_bl ty x y ho b l cells hx hy hb hn hi h1 fun w1 a1 a2 a3 a4 => hK _ _ (h w1 a1 a2 a3 a4)
theorem results_bl {P : Program} {fn : Func} {p : Tmp} {ty : TypeId} (h : fn.results = #[.cell p ty]) (tmps : Array Value) (w : World) (g : Nat) (l : List Value) (d : TypeDesc)
    (hp : tmps.getD p undef = .pointer (some ⟨g, 0, none⟩)) (hg : Bl g l w)
    (hu : P.underlying ty = some d) (hd : (match d with | .struct _ | .array _ _ => true | _ => false) = true) (hi : (P.info? ty).map (·.size) = some l.length) :
    (results fn tmps).run P w = .ok (.agg l.toArray) w := by
  obtain ⟨t, hh⟩ := hg
  exact results_cell_row h tmps w g t l.toArray (0, 0) d hp hh hu hd (by simpa using hi)
theorem results_two {P : Program} {fn : Func} {p q : Tmp} {ty : TypeId} (h : fn.results = #[.cell p ty, .tmp q]) (tmps : Array Value) (w : World) (g : Nat) (l : List Value) (d : TypeDesc) (v : Value)
    (hp : tmps.getD p undef = .pointer (some ⟨g, 0, none⟩)) (hq : tmps.getD q undef = v) (hg : Bl g l w)
    (hu : P.underlying ty = some d) (hd : (match d with | .struct _ | .array _ _ => true | _ => false) = true) (hi : (P.info? ty).map (·.size) = some l.length) :
    (results fn tmps).run P w = .ok (.tuple #[.agg l.toArray, v]) w := by
  obtain ⟨t, hh⟩ := hg
  have hp' : tmps[p]?.getD undef = .pointer (some ⟨g, 0, none⟩) := by simpa using hp
  have hq' : tmps[q]?.getD undef = v := by simpa using hq
  have hrun := run_loadVar_row w g t ty l.toArray (0, 0) d hh hu hd (by simpa using hi)
  simp [results, h, hp', hq', asAddr, hrun, Result.andThen]
end Go.Proofs.Ytmjkhefgpobinaa
namespace Go.Proofs.Ytmjkhefgpobinaa
open Go.ChangeShapes Go.WideShapes Go.ChangeAt Go.RowKit
/-- A state, and what goes with it; what was there stays. -/
def Gives (w : World) (k g l f : Int) (b : Bool) (x : Value) (e : Ending) (w' : World) : Prop :=
  e = .returned (.tuple #[.agg #[.int .i64 k, .bool b, .int .i64 g, .int .i64 l, .int .i64 f], x]) ∧ Below w.heap.size w w'
end Go.Proofs.Ytmjkhefgpobinaa
namespace Go.Proofs.Ytmjkhefgpobinaa
open Go.ChangeShapes Go.WideShapes Go.ChangeAt Go.RowKit
set_option maxHeartbeats 1000000 in
theorem c_take_busy (k g l f q m : Int) (b : Bool) (w : World) (n1 : k ≠ 1) (n2 : k ≠ 2) : Calls Try.prog 75 #[.agg #[.int .i64 k, .bool b, .int .i64 g, .int .i64 l, .int .i64 f], .int .i64 q, .int .i64 m] w (Gives w 0 0 0 0 false (.iface 126 (.int .i64 27))) := by
  have e1 : (k == 1) = false := by rw [beq_eq_false_iff_ne]; exact n1
  have e2 : (k == 2) = false := by rw [beq_eq_false_iff_ne]; exact n2
  go_enter Try.func75, Try.ntmps75
  go_wp2
  refine bodyPost_ret (by simp [results, Try.results75, go_sem]; try rfl) rfl ⟨rfl, ?_⟩
  go_grown
set_option maxHeartbeats 1000000 in
theorem c_take_low_1 (g l f q m : Int) (b : Bool) (w : World) (h : q < 1) : Calls Try.prog 75 #[.agg #[.int .i64 1, .bool b, .int .i64 g, .int .i64 l, .int .i64 f], .int .i64 q, .int .i64 m] w (Gives w 0 0 0 0 false (.iface 126 (.int .i64 23))) := by
  go_enter Try.func75, Try.ntmps75
  go_wp2
  refine bodyPost_ret (by simp [results, Try.results75, go_sem]; try rfl) rfl ⟨rfl, ?_⟩
  go_grown
set_option maxHeartbeats 1000000 in
theorem c_take_high_1 (g l f q m : Int) (b : Bool) (w : World) (h : 1 ≤ q) (h1 : l < q) : Calls Try.prog 75 #[.agg #[.int .i64 1, .bool b, .int .i64 g, .int .i64 l, .int .i64 f], .int .i64 q, .int .i64 m] w (Gives w 0 0 0 0 false (.iface 126 (.int .i64 23))) := by
  go_enter Try.func75, Try.ntmps75
  go_wp2
  refine bodyPost_ret (by simp [results, Try.results75, go_sem]; try rfl) rfl ⟨rfl, ?_⟩
  go_grown
set_option maxHeartbeats 1000000 in
theorem c_take_limit_1 (g l f q m : Int) (b : Bool) (w : World) (h : 1 ≤ q) (h1 : q ≤ l) (h2 : m ≤ f) : Calls Try.prog 75 #[.agg #[.int .i64 1, .bool b, .int .i64 g, .int .i64 l, .int .i64 f], .int .i64 q, .int .i64 m] w (Gives w 0 0 0 0 false (.iface 126 (.int .i64 4))) := by
  go_enter Try.func75, Try.ntmps75
  go_wp2
  refine bodyPost_ret (by simp [results, Try.results75, go_sem]; try rfl) rfl ⟨rfl, ?_⟩
  go_grown
set_option maxHeartbeats 1000000 in
theorem c_take_full_1 (g l f q m : Int) (b : Bool) (w : World) (h : 1 ≤ q) (h1 : q ≤ l) (h2 : f < m) (h5 : l ≤ 9223372036854775807) (h6 : m ≤ 9223372036854775807) (h7 : -9223372036854775808 ≤ f) (h3 : l - q = 0) : Calls Try.prog 75 #[.agg #[.int .i64 1, .bool b, .int .i64 g, .int .i64 l, .int .i64 f], .int .i64 q, .int .i64 m] w (Gives w 5 g (l - q) (f + 1) false (.nilIface)) := by
  have e0 : (l - q == 0) = true := by rw [beq_iff_eq]; exact h3
  have H3 := Lib.hid h3
  clear h3
  go_enter Try.func75, Try.ntmps75
  go_wp2
  refine bodyPost_ret (by simp [results, Try.results75, go_sem]; try rfl) rfl ⟨rfl, ?_⟩
  go_grown
set_option maxHeartbeats 1000000 in
theorem c_take_retire_1 (g l f q m : Int) (b : Bool) (w : World) (h : 1 ≤ q) (h1 : q ≤ l) (h2 : f < m) (h5 : l ≤ 9223372036854775807) (h6 : m ≤ 9223372036854775807) (h7 : -9223372036854775808 ≤ f) (h3 : l - q ≠ 0) (h4 : m ≤ f + 1) : Calls Try.prog 75 #[.agg #[.int .i64 1, .bool b, .int .i64 g, .int .i64 l, .int .i64 f], .int .i64 q, .int .i64 m] w (Gives w 8 g (l - q) (f + 1) false (.nilIface)) := by
  have e0 : (l - q == 0) = false := by rw [beq_eq_false_iff_ne]; exact h3
  go_enter Try.func75, Try.ntmps75
  go_wp2
  refine bodyPost_ret (by simp [results, Try.results75, go_sem]; try rfl) rfl ⟨rfl, ?_⟩
  go_grown
set_option maxHeartbeats 1000000 in
theorem c_take_on_1 (g l f q m : Int) (b : Bool) (w : World) (h : 1 ≤ q) (h1 : q ≤ l) (h2 : f < m) (h5 : l ≤ 9223372036854775807) (h6 : m ≤ 9223372036854775807) (h7 : -9223372036854775808 ≤ f) (h3 : l - q ≠ 0) (h4 : f + 1 < m) : Calls Try.prog 75 #[.agg #[.int .i64 1, .bool b, .int .i64 g, .int .i64 l, .int .i64 f], .int .i64 q, .int .i64 m] w (Gives w 1 g (l - q) (f + 1) b (.nilIface)) := by
  have e0 : (l - q == 0) = false := by rw [beq_eq_false_iff_ne]; exact h3
  go_enter Try.func75, Try.ntmps75
  go_wp2
  refine bodyPost_ret (by simp [results, Try.results75, go_sem]; try rfl) rfl ⟨rfl, ?_⟩
  go_grown
set_option maxHeartbeats 1000000 in
theorem c_take_low_2 (g l f q m : Int) (b : Bool) (w : World) (h : q < 1) : Calls Try.prog 75 #[.agg #[.int .i64 2, .bool b, .int .i64 g, .int .i64 l, .int .i64 f], .int .i64 q, .int .i64 m] w (Gives w 0 0 0 0 false (.iface 126 (.int .i64 23))) := by
  go_enter Try.func75, Try.ntmps75
  go_wp2
  refine bodyPost_ret (by simp [results, Try.results75, go_sem]; try rfl) rfl ⟨rfl, ?_⟩
  go_grown
set_option maxHeartbeats 1000000 in
theorem c_take_high_2 (g l f q m : Int) (b : Bool) (w : World) (h : 1 ≤ q) (h1 : l < q) : Calls Try.prog 75 #[.agg #[.int .i64 2, .bool b, .int .i64 g, .int .i64 l, .int .i64 f], .int .i64 q, .int .i64 m] w (Gives w 0 0 0 0 false (.iface 126 (.int .i64 23))) := by
  go_enter Try.func75, Try.ntmps75
  go_wp2
  refine bodyPost_ret (by simp [results, Try.results75, go_sem]; try rfl) rfl ⟨rfl, ?_⟩
  go_grown
set_option maxHeartbeats 1000000 in
theorem c_take_limit_2 (g l f q m : Int) (b : Bool) (w : World) (h : 1 ≤ q) (h1 : q ≤ l) (h2 : m ≤ f) : Calls Try.prog 75 #[.agg #[.int .i64 2, .bool b, .int .i64 g, .int .i64 l, .int .i64 f], .int .i64 q, .int .i64 m] w (Gives w 0 0 0 0 false (.iface 126 (.int .i64 4))) := by
  go_enter Try.func75, Try.ntmps75
  go_wp2
  refine bodyPost_ret (by simp [results, Try.results75, go_sem]; try rfl) rfl ⟨rfl, ?_⟩
  go_grown
set_option maxHeartbeats 1000000 in
theorem c_take_full_2 (g l f q m : Int) (b : Bool) (w : World) (h : 1 ≤ q) (h1 : q ≤ l) (h2 : f < m) (h5 : l ≤ 9223372036854775807) (h6 : m ≤ 9223372036854775807) (h7 : -9223372036854775808 ≤ f) (h3 : l - q = 0) : Calls Try.prog 75 #[.agg #[.int .i64 2, .bool b, .int .i64 g, .int .i64 l, .int .i64 f], .int .i64 q, .int .i64 m] w (Gives w 5 g (l - q) (f + 1) false (.nilIface)) := by
  have e0 : (l - q == 0) = true := by rw [beq_iff_eq]; exact h3
  have H3 := Lib.hid h3
  clear h3
  go_enter Try.func75, Try.ntmps75
  go_wp2
  refine bodyPost_ret (by simp [results, Try.results75, go_sem]; try rfl) rfl ⟨rfl, ?_⟩
  go_grown
set_option maxHeartbeats 1000000 in
theorem c_take_retire_2 (g l f q m : Int) (b : Bool) (w : World) (h : 1 ≤ q) (h1 : q ≤ l) (h2 : f < m) (h5 : l ≤ 9223372036854775807) (h6 : m ≤ 9223372036854775807) (h7 : -9223372036854775808 ≤ f) (h3 : l - q ≠ 0) (h4 : m ≤ f + 1) : Calls Try.prog 75 #[.agg #[.int .i64 2, .bool b, .int .i64 g, .int .i64 l, .int .i64 f], .int .i64 q, .int .i64 m] w (Gives w 8 g (l - q) (f + 1) false (.nilIface)) := by
  have e0 : (l - q == 0) = false := by rw [beq_eq_false_iff_ne]; exact h3
  go_enter Try.func75, Try.ntmps75
  go_wp2
  refine bodyPost_ret (by simp [results, Try.results75, go_sem]; try rfl) rfl ⟨rfl, ?_⟩
  go_grown
set_option maxHeartbeats 1000000 in
theorem c_take_on_2 (g l f q m : Int) (b : Bool) (w : World) (h : 1 ≤ q) (h1 : q ≤ l) (h2 : f < m) (h5 : l ≤ 9223372036854775807) (h6 : m ≤ 9223372036854775807) (h7 : -9223372036854775808 ≤ f) (h3 : l - q ≠ 0) (h4 : f + 1 < m) : Calls Try.prog 75 #[.agg #[.int .i64 2, .bool b, .int .i64 g, .int .i64 l, .int .i64 f], .int .i64 q, .int .i64 m] w (Gives w 2 g (l - q) (f + 1) b (.nilIface)) := by
  have e0 : (l - q == 0) = false := by rw [beq_eq_false_iff_ne]; exact h3
  go_enter Try.func75, Try.ntmps75
  go_wp2
  refine bodyPost_ret (by simp [results, Try.results75, go_sem]; try rfl) rfl ⟨rfl, ?_⟩
  go_grown
set_option maxHeartbeats 1000000 in
theorem c_rel_arg (k g l f q m : Int) (b : Bool) (w : World) (n3 : k ≠ 3) (n4 : k ≠ 4) : Calls Try.prog 63 #[.agg #[.int .i64 k, .bool b, .int .i64 g, .int .i64 l, .int .i64 f], .int .i64 q, .int .i64 m] w (Gives w 0 0 0 0 false (.iface 126 (.int .i64 1))) := by
  have e3 : (k == 3) = false := by rw [beq_eq_false_iff_ne]; exact n3
  have e4 : (k == 4) = false := by rw [beq_eq_false_iff_ne]; exact n4
  go_enter Try.func63, Try.ntmps63
  go_wp2
  refine bodyPost_ret (by simp [results, Try.results63, go_sem]; try rfl) rfl ⟨rfl, ?_⟩
  go_grown
set_option maxHeartbeats 1000000 in
theorem c_rel_low_3 (g l f q m : Int) (b : Bool) (w : World) (h : q < 0) : Calls Try.prog 63 #[.agg #[.int .i64 3, .bool b, .int .i64 g, .int .i64 l, .int .i64 f], .int .i64 q, .int .i64 m] w (Gives w 0 0 0 0 false (.iface 126 (.int .i64 23))) := by
  go_enter Try.func63, Try.ntmps63
  go_wp2
  refine bodyPost_ret (by simp [results, Try.results63, go_sem]; try rfl) rfl ⟨rfl, ?_⟩
  go_grown
set_option maxHeartbeats 1000000 in
theorem c_rel_high_3 (g l f q m : Int) (b : Bool) (w : World) (h : 0 ≤ q) (h1 : l < q) : Calls Try.prog 63 #[.agg #[.int .i64 3, .bool b, .int .i64 g, .int .i64 l, .int .i64 f], .int .i64 q, .int .i64 m] w (Gives w 0 0 0 0 false (.iface 126 (.int .i64 23))) := by
  go_enter Try.func63, Try.ntmps63
  go_wp2
  refine bodyPost_ret (by simp [results, Try.results63, go_sem]; try rfl) rfl ⟨rfl, ?_⟩
  go_grown
set_option maxHeartbeats 1000000 in
theorem c_rel_limit_3 (g l f q m : Int) (b : Bool) (w : World) (h : 1 ≤ q) (h1 : q ≤ l) (h2 : m ≤ f) : Calls Try.prog 63 #[.agg #[.int .i64 3, .bool b, .int .i64 g, .int .i64 l, .int .i64 f], .int .i64 q, .int .i64 m] w (Gives w 0 0 0 0 false (.iface 126 (.int .i64 4))) := by
  have eq0 : (q != 0) = true := by rw [bne_iff_ne]; omega
  have eq1 : 0 < q := by omega
  go_enter Try.func63, Try.ntmps63
  go_wp2
  refine bodyPost_ret (by simp [results, Try.results63, go_sem]; try rfl) rfl ⟨rfl, ?_⟩
  go_grown
set_option maxHeartbeats 1000000 in
theorem c_rel_full_3 (g l f q m : Int) (b : Bool) (w : World) (h : 1 ≤ q) (h1 : q ≤ l) (h2 : f < m) (h5 : l ≤ 9223372036854775807) (h6 : m ≤ 9223372036854775807) (h7 : -9223372036854775808 ≤ f) (h3 : l - q = 0) : Calls Try.prog 63 #[.agg #[.int .i64 3, .bool b, .int .i64 g, .int .i64 l, .int .i64 f], .int .i64 q, .int .i64 m] w (Gives w 5 g (l - q) (f + 1) false (.nilIface)) := by
  have eq0 : (q != 0) = true := by rw [bne_iff_ne]; omega
  have eq1 : 0 < q := by omega
  have e0 : (l - q == 0) = true := by rw [beq_iff_eq]; exact h3
  have H3 := Lib.hid h3
  clear h3
  go_enter Try.func63, Try.ntmps63
  go_wp2
  refine bodyPost_ret (by simp [results, Try.results63, go_sem]; try rfl) rfl ⟨rfl, ?_⟩
  go_grown
set_option maxHeartbeats 1000000 in
theorem c_rel_retire_3 (g l f q m : Int) (b : Bool) (w : World) (h : 1 ≤ q) (h1 : q ≤ l) (h2 : f < m) (h5 : l ≤ 9223372036854775807) (h6 : m ≤ 9223372036854775807) (h7 : -9223372036854775808 ≤ f) (h3 : l - q ≠ 0) (h4 : m ≤ f + 1) : Calls Try.prog 63 #[.agg #[.int .i64 3, .bool b, .int .i64 g, .int .i64 l, .int .i64 f], .int .i64 q, .int .i64 m] w (Gives w 8 g (l - q) (f + 1) false (.nilIface)) := by
  have eq0 : (q != 0) = true := by rw [bne_iff_ne]; omega
  have eq1 : 0 < q := by omega
  have e0 : (l - q == 0) = false := by rw [beq_eq_false_iff_ne]; exact h3
  go_enter Try.func63, Try.ntmps63
  go_wp2
  refine bodyPost_ret (by simp [results, Try.results63, go_sem]; try rfl) rfl ⟨rfl, ?_⟩
  go_grown
set_option maxHeartbeats 1000000 in
theorem c_rel_on_true_3 (g l f q m : Int) (w : World) (h : 1 ≤ q) (h1 : q ≤ l) (h2 : f < m) (h5 : l ≤ 9223372036854775807) (h6 : m ≤ 9223372036854775807) (h7 : -9223372036854775808 ≤ f) (h3 : l - q ≠ 0) (h4 : f + 1 < m) : Calls Try.prog 63 #[.agg #[.int .i64 3, .bool true, .int .i64 g, .int .i64 l, .int .i64 f], .int .i64 q, .int .i64 m] w (Gives w 6 g (l - q) (f + 1) false (.nilIface)) := by
  have eq0 : (q != 0) = true := by rw [bne_iff_ne]; omega
  have eq1 : 0 < q := by omega
  have e0 : (l - q == 0) = false := by rw [beq_eq_false_iff_ne]; exact h3
  go_enter Try.func63, Try.ntmps63
  go_wp2
  refine bodyPost_ret (by simp [results, Try.results63, go_sem]; try rfl) rfl ⟨rfl, ?_⟩
  go_grown
set_option maxHeartbeats 1000000 in
theorem c_rel_on_false_3 (g l f q m : Int) (w : World) (h : 1 ≤ q) (h1 : q ≤ l) (h2 : f < m) (h5 : l ≤ 9223372036854775807) (h6 : m ≤ 9223372036854775807) (h7 : -9223372036854775808 ≤ f) (h3 : l - q ≠ 0) (h4 : f + 1 < m) : Calls Try.prog 63 #[.agg #[.int .i64 3, .bool false, .int .i64 g, .int .i64 l, .int .i64 f], .int .i64 q, .int .i64 m] w (Gives w 1 g (l - q) (f + 1) false (.nilIface)) := by
  have eq0 : (q != 0) = true := by rw [bne_iff_ne]; omega
  have eq1 : 0 < q := by omega
  have e0 : (l - q == 0) = false := by rw [beq_eq_false_iff_ne]; exact h3
  go_enter Try.func63, Try.ntmps63
  go_wp2
  refine bodyPost_ret (by simp [results, Try.results63, go_sem]; try rfl) rfl ⟨rfl, ?_⟩
  go_grown
set_option maxHeartbeats 1000000 in
theorem c_relz_full_3 (g f m : Int) (b : Bool) (w : World)  : Calls Try.prog 63 #[.agg #[.int .i64 3, .bool b, .int .i64 g, .int .i64 0, .int .i64 f], .int .i64 0, .int .i64 m] w (Gives w 5 g 0 f false (.nilIface)) := by
  go_enter Try.func63, Try.ntmps63
  go_wp2
  refine bodyPost_ret (by simp [results, Try.results63, go_sem]; try rfl) rfl ⟨rfl, ?_⟩
  go_grown
set_option maxHeartbeats 1000000 in
theorem c_relz_retire_3 (g l f m : Int) (b : Bool) (w : World) (h : 0 < l) (h4 : m ≤ f) : Calls Try.prog 63 #[.agg #[.int .i64 3, .bool b, .int .i64 g, .int .i64 l, .int .i64 f], .int .i64 0, .int .i64 m] w (Gives w 8 g l f false (.nilIface)) := by
  have e0 : (l == 0) = false := by rw [beq_eq_false_iff_ne]; omega
  go_enter Try.func63, Try.ntmps63
  go_wp2
  refine bodyPost_ret (by simp [results, Try.results63, go_sem]; try rfl) rfl ⟨rfl, ?_⟩
  go_grown
set_option maxHeartbeats 1000000 in
theorem c_relz_on_true_3 (g l f m : Int) (w : World) (h : 0 < l) (h4 : f < m) : Calls Try.prog 63 #[.agg #[.int .i64 3, .bool true, .int .i64 g, .int .i64 l, .int .i64 f], .int .i64 0, .int .i64 m] w (Gives w 6 g l f false (.nilIface)) := by
  have e0 : (l == 0) = false := by rw [beq_eq_false_iff_ne]; omega
  go_enter Try.func63, Try.ntmps63
  go_wp2
  refine bodyPost_ret (by simp [results, Try.results63, go_sem]; try rfl) rfl ⟨rfl, ?_⟩
  go_grown
set_option maxHeartbeats 1000000 in
theorem c_relz_on_false_3 (g l f m : Int) (w : World) (h : 0 < l) (h4 : f < m) : Calls Try.prog 63 #[.agg #[.int .i64 3, .bool false, .int .i64 g, .int .i64 l, .int .i64 f], .int .i64 0, .int .i64 m] w (Gives w 1 g l f false (.nilIface)) := by
  have e0 : (l == 0) = false := by rw [beq_eq_false_iff_ne]; omega
  go_enter Try.func63, Try.ntmps63
  go_wp2
  refine bodyPost_ret (by simp [results, Try.results63, go_sem]; try rfl) rfl ⟨rfl, ?_⟩
  go_grown
set_option maxHeartbeats 1000000 in
theorem c_rel_low_4 (g l f q m : Int) (b : Bool) (w : World) (h : q < 0) : Calls Try.prog 63 #[.agg #[.int .i64 4, .bool b, .int .i64 g, .int .i64 l, .int .i64 f], .int .i64 q, .int .i64 m] w (Gives w 0 0 0 0 false (.iface 126 (.int .i64 23))) := by
  go_enter Try.func63, Try.ntmps63
  go_wp2
  refine bodyPost_ret (by simp [results, Try.results63, go_sem]; try rfl) rfl ⟨rfl, ?_⟩
  go_grown
set_option maxHeartbeats 1000000 in
theorem c_rel_high_4 (g l f q m : Int) (b : Bool) (w : World) (h : 0 ≤ q) (h1 : l < q) : Calls Try.prog 63 #[.agg #[.int .i64 4, .bool b, .int .i64 g, .int .i64 l, .int .i64 f], .int .i64 q, .int .i64 m] w (Gives w 0 0 0 0 false (.iface 126 (.int .i64 23))) := by
  go_enter Try.func63, Try.ntmps63
  go_wp2
  refine bodyPost_ret (by simp [results, Try.results63, go_sem]; try rfl) rfl ⟨rfl, ?_⟩
  go_grown
set_option maxHeartbeats 1000000 in
theorem c_rel_limit_4 (g l f q m : Int) (b : Bool) (w : World) (h : 1 ≤ q) (h1 : q ≤ l) (h2 : m ≤ f) : Calls Try.prog 63 #[.agg #[.int .i64 4, .bool b, .int .i64 g, .int .i64 l, .int .i64 f], .int .i64 q, .int .i64 m] w (Gives w 0 0 0 0 false (.iface 126 (.int .i64 4))) := by
  have eq0 : (q != 0) = true := by rw [bne_iff_ne]; omega
  have eq1 : 0 < q := by omega
  go_enter Try.func63, Try.ntmps63
  go_wp2
  refine bodyPost_ret (by simp [results, Try.results63, go_sem]; try rfl) rfl ⟨rfl, ?_⟩
  go_grown
set_option maxHeartbeats 1000000 in
theorem c_rel_full_4 (g l f q m : Int) (b : Bool) (w : World) (h : 1 ≤ q) (h1 : q ≤ l) (h2 : f < m) (h5 : l ≤ 9223372036854775807) (h6 : m ≤ 9223372036854775807) (h7 : -9223372036854775808 ≤ f) (h3 : l - q = 0) : Calls Try.prog 63 #[.agg #[.int .i64 4, .bool b, .int .i64 g, .int .i64 l, .int .i64 f], .int .i64 q, .int .i64 m] w (Gives w 5 g (l - q) (f + 1) false (.nilIface)) := by
  have eq0 : (q != 0) = true := by rw [bne_iff_ne]; omega
  have eq1 : 0 < q := by omega
  have e0 : (l - q == 0) = true := by rw [beq_iff_eq]; exact h3
  have H3 := Lib.hid h3
  clear h3
  go_enter Try.func63, Try.ntmps63
  go_wp2
  refine bodyPost_ret (by simp [results, Try.results63, go_sem]; try rfl) rfl ⟨rfl, ?_⟩
  go_grown
set_option maxHeartbeats 1000000 in
theorem c_rel_retire_4 (g l f q m : Int) (b : Bool) (w : World) (h : 1 ≤ q) (h1 : q ≤ l) (h2 : f < m) (h5 : l ≤ 9223372036854775807) (h6 : m ≤ 9223372036854775807) (h7 : -9223372036854775808 ≤ f) (h3 : l - q ≠ 0) (h4 : m ≤ f + 1) : Calls Try.prog 63 #[.agg #[.int .i64 4, .bool b, .int .i64 g, .int .i64 l, .int .i64 f], .int .i64 q, .int .i64 m] w (Gives w 8 g (l - q) (f + 1) false (.nilIface)) := by
  have eq0 : (q != 0) = true := by rw [bne_iff_ne]; omega
  have eq1 : 0 < q := by omega
  have e0 : (l - q == 0) = false := by rw [beq_eq_false_iff_ne]; exact h3
  go_enter Try.func63, Try.ntmps63
  go_wp2
  refine bodyPost_ret (by simp [results, Try.results63, go_sem]; try rfl) rfl ⟨rfl, ?_⟩
  go_grown
set_option maxHeartbeats 1000000 in
theorem c_rel_on_true_4 (g l f q m : Int) (w : World) (h : 1 ≤ q) (h1 : q ≤ l) (h2 : f < m) (h5 : l ≤ 9223372036854775807) (h6 : m ≤ 9223372036854775807) (h7 : -9223372036854775808 ≤ f) (h3 : l - q ≠ 0) (h4 : f + 1 < m) : Calls Try.prog 63 #[.agg #[.int .i64 4, .bool true, .int .i64 g, .int .i64 l, .int .i64 f], .int .i64 q, .int .i64 m] w (Gives w 6 g (l - q) (f + 1) false (.nilIface)) := by
  have eq0 : (q != 0) = true := by rw [bne_iff_ne]; omega
  have eq1 : 0 < q := by omega
  have e0 : (l - q == 0) = false := by rw [beq_eq_false_iff_ne]; exact h3
  go_enter Try.func63, Try.ntmps63
  go_wp2
  refine bodyPost_ret (by simp [results, Try.results63, go_sem]; try rfl) rfl ⟨rfl, ?_⟩
  go_grown
set_option maxHeartbeats 1000000 in
theorem c_rel_on_false_4 (g l f q m : Int) (w : World) (h : 1 ≤ q) (h1 : q ≤ l) (h2 : f < m) (h5 : l ≤ 9223372036854775807) (h6 : m ≤ 9223372036854775807) (h7 : -9223372036854775808 ≤ f) (h3 : l - q ≠ 0) (h4 : f + 1 < m) : Calls Try.prog 63 #[.agg #[.int .i64 4, .bool false, .int .i64 g, .int .i64 l, .int .i64 f], .int .i64 q, .int .i64 m] w (Gives w 2 g (l - q) (f + 1) false (.nilIface)) := by
  have eq0 : (q != 0) = true := by rw [bne_iff_ne]; omega
  have eq1 : 0 < q := by omega
  have e0 : (l - q == 0) = false := by rw [beq_eq_false_iff_ne]; exact h3
  go_enter Try.func63, Try.ntmps63
  go_wp2
  refine bodyPost_ret (by simp [results, Try.results63, go_sem]; try rfl) rfl ⟨rfl, ?_⟩
  go_grown
set_option maxHeartbeats 1000000 in
theorem c_relz_full_4 (g f m : Int) (b : Bool) (w : World)  : Calls Try.prog 63 #[.agg #[.int .i64 4, .bool b, .int .i64 g, .int .i64 0, .int .i64 f], .int .i64 0, .int .i64 m] w (Gives w 5 g 0 f false (.nilIface)) := by
  go_enter Try.func63, Try.ntmps63
  go_wp2
  refine bodyPost_ret (by simp [results, Try.results63, go_sem]; try rfl) rfl ⟨rfl, ?_⟩
  go_grown
set_option maxHeartbeats 1000000 in
theorem c_relz_retire_4 (g l f m : Int) (b : Bool) (w : World) (h : 0 < l) (h4 : m ≤ f) : Calls Try.prog 63 #[.agg #[.int .i64 4, .bool b, .int .i64 g, .int .i64 l, .int .i64 f], .int .i64 0, .int .i64 m] w (Gives w 8 g l f false (.nilIface)) := by
  have e0 : (l == 0) = false := by rw [beq_eq_false_iff_ne]; omega
  go_enter Try.func63, Try.ntmps63
  go_wp2
  refine bodyPost_ret (by simp [results, Try.results63, go_sem]; try rfl) rfl ⟨rfl, ?_⟩
  go_grown
set_option maxHeartbeats 1000000 in
theorem c_relz_on_true_4 (g l f m : Int) (w : World) (h : 0 < l) (h4 : f < m) : Calls Try.prog 63 #[.agg #[.int .i64 4, .bool true, .int .i64 g, .int .i64 l, .int .i64 f], .int .i64 0, .int .i64 m] w (Gives w 6 g l f false (.nilIface)) := by
  have e0 : (l == 0) = false := by rw [beq_eq_false_iff_ne]; omega
  go_enter Try.func63, Try.ntmps63
  go_wp2
  refine bodyPost_ret (by simp [results, Try.results63, go_sem]; try rfl) rfl ⟨rfl, ?_⟩
  go_grown
set_option maxHeartbeats 1000000 in
theorem c_relz_on_false_4 (g l f m : Int) (w : World) (h : 0 < l) (h4 : f < m) : Calls Try.prog 63 #[.agg #[.int .i64 4, .bool false, .int .i64 g, .int .i64 l, .int .i64 f], .int .i64 0, .int .i64 m] w (Gives w 2 g l f false (.nilIface)) := by
  have e0 : (l == 0) = false := by rw [beq_eq_false_iff_ne]; omega
  go_enter Try.func63, Try.ntmps63
  go_wp2
  refine bodyPost_ret (by simp [results, Try.results63, go_sem]; try rfl) rfl ⟨rfl, ?_⟩
  go_grown
set_option maxHeartbeats 1000000 in
theorem c_can_gone (k g l f : Int) (b : Bool) (w : World) (n1 : k ≠ 1) (n2 : k ≠ 2) (n3 : k ≠ 3) (n4 : k ≠ 4) : Calls Try.prog 19 #[.agg #[.int .i64 k, .bool b, .int .i64 g, .int .i64 l, .int .i64 f]] w (Gives w 0 0 0 0 false (.iface 126 (.int .i64 29))) := by
  have e1 : (k == 1) = false := by rw [beq_eq_false_iff_ne]; exact n1
  have e2 : (k == 2) = false := by rw [beq_eq_false_iff_ne]; exact n2
  have e3 : (k == 3) = false := by rw [beq_eq_false_iff_ne]; exact n3
  have e4 : (k == 4) = false := by rw [beq_eq_false_iff_ne]; exact n4
  go_enter Try.func19, Try.ntmps19
  go_wp2
  refine bodyPost_ret (by simp [results, Try.results19, go_sem]; try rfl) rfl ⟨rfl, ?_⟩
  go_grown
set_option maxHeartbeats 1000000 in
theorem c_can_1 (g l f : Int) (b : Bool) (w : World)  : Calls Try.prog 19 #[.agg #[.int .i64 1, .bool b, .int .i64 g, .int .i64 l, .int .i64 f]] w (Gives w 6 g l f b (.nilIface)) := by
  go_enter Try.func19, Try.ntmps19
  go_wp2
  refine bodyPost_ret (by simp [results, Try.results19, go_sem]; try rfl) rfl ⟨rfl, ?_⟩
  go_grown
set_option maxHeartbeats 1000000 in
theorem c_can_2 (g l f : Int) (b : Bool) (w : World)  : Calls Try.prog 19 #[.agg #[.int .i64 2, .bool b, .int .i64 g, .int .i64 l, .int .i64 f]] w (Gives w 6 g l f b (.nilIface)) := by
  go_enter Try.func19, Try.ntmps19
  go_wp2
  refine bodyPost_ret (by simp [results, Try.results19, go_sem]; try rfl) rfl ⟨rfl, ?_⟩
  go_grown
set_option maxHeartbeats 1000000 in
theorem c_can_3 (g l f : Int) (b : Bool) (w : World)  : Calls Try.prog 19 #[.agg #[.int .i64 3, .bool b, .int .i64 g, .int .i64 l, .int .i64 f]] w (Gives w 3 g l f true (.nilIface)) := by
  go_enter Try.func19, Try.ntmps19
  go_wp2
  refine bodyPost_ret (by simp [results, Try.results19, go_sem]; try rfl) rfl ⟨rfl, ?_⟩
  go_grown
set_option maxHeartbeats 1000000 in
theorem c_can_4 (g l f : Int) (b : Bool) (w : World)  : Calls Try.prog 19 #[.agg #[.int .i64 4, .bool b, .int .i64 g, .int .i64 l, .int .i64 f]] w (Gives w 4 g l f true (.nilIface)) := by
  go_enter Try.func19, Try.ntmps19
  go_wp2
  refine bodyPost_ret (by simp [results, Try.results19, go_sem]; try rfl) rfl ⟨rfl, ?_⟩
  go_grown
end Go.Proofs.Ytmjkhefgpobinaa
