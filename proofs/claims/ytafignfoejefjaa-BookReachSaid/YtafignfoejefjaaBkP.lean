/-
  A map of levels by price, that the call made: what it has at each price.
-/
import Derived.Test.YtafignfoejefjaaRows
import Derived.Test.YtafignfoejefjaaKit
import Derived.Test.YtafignfoejefjaaApp
import Derived.Test.YtafignfoejefjaaQuiet
import Derived.WalkKit
import Derived.ProofKit
import Derived.OpenShut
import Derived.ShutString
import Derived.Below
import Derived.Outline
import Derived.WalkLawsBesides
import Derived.WalkSpells
import Derived.Handy
import Derived.Deep.QuietTactic
import Derived.BigQuiet
import Derived.RegionTactic
import Derived.ChangeAlike
import Derived.Lib.Hide
import Derived.Laws.Rows
import Derived.Laws.Tables
import Derived.Laws.CopyOwn
import Derived.Laws.MakeOwn
import Derived.Laws.Entries
import Derived.Laws.OwnMore
import Derived.Deep.WholeRow
import Derived.Deep.LoopGhost
import Derived.Deep.AppendLies
import Derived.Deep.Draws
import Derived.Maps.AppendAt
import Derived.OwnWalk
import Derived.Deep.RegionHeld3
import Derived.Deep.Cut
import Derived.Deep.CutRange
import Derived.Deep.DeepCutAuto
import Derived.Deep.CutBlock
import Derived.Lib.SliceRun
import Derived.IntWalk
import Derived.Maps.Own
import Derived.Maps.OwnOps
import Derived.Maps.OwnSet
import Derived.Maps.Views
import Derived.Maps.RangeWalk
import Derived.Test.YtafignfoejefjaaBkM
import Derived.Test.YtafignfoejefjaaBkO
namespace Go.Proofs.Ytafignfoejefjaa
open Go.ChangeShapes Go.WideShapes Go.ChangeAt Go.RowKit
open Go.Maps
abbrev wfi (x : Int) : Prop := (Lit.int .i64 x).wf = true
theorem wfi_of {x : Int} (h : -100000 ≤ x) (h2 : x ≤ 100000) : wfi x := by
  have e1 : IntKind.i64.min = -9223372036854775808 := by decide
  have e2 : IntKind.i64.max = 9223372036854775807 := by decide
  unfold wfi; simp [Lit.wf, e1, e2]; omega
def lvV (x : Lvl) : Value := .agg #[.int .i64 x.p, .int .i64 x.q, .int .i64 x.k]
def lvD (x : Lvl) : DataW Unit := .agg [.lit (.int .i64 x.p), .lit (.int .i64 x.q), .lit (.int .i64 x.k)]
theorem lvV_inj {x y : Lvl} (h : lvV x = lvV y) : x = y := by
  unfold lvV at h
  injection h with h
  have h4 := congrArg Array.toList h
  simp at h4
  exact Lvl.ext h4.1 h4.2.1 h4.2.2
theorem lvD_inj {x y : Lvl} (h : lvD x = lvD y) : x = y := by
  unfold lvD at h
  injection h with h
  simp at h
  exact Lvl.ext h.1 h.2.1 h.2.2
open Classical in
noncomputable def lvR (v : Value) : Option (DataW Unit × List MemPlace) := if h : ∃ x : Lvl, v = lvV x then some (lvD (Classical.choose h), []) else none
theorem lvR_mk (x : Lvl) : lvR (lvV x) = some (lvD x, []) := by
  unfold lvR
  have h : ∃ y : Lvl, lvV x = lvV y := ⟨x, rfl⟩
  rw [dif_pos h, ← lvV_inj (Classical.choose_spec h)]
theorem lvR_inv {v : Value} {y : DataW Unit × List MemPlace} (h : lvR v = some y) : ∃ x : Lvl, v = lvV x ∧ y = (lvD x, []) := by
  by_cases hx : ∃ x : Lvl, v = lvV x
  · obtain ⟨x, rfl⟩ := hx
    rw [lvR_mk] at h
    injection h with h
    exact ⟨x, rfl, h.symm⟩
  · unfold lvR at h; rw [dif_neg hx] at h; cases h
theorem mkey : Keyed Try.prog 3 := int_keyed Try.underlying3
theorem mzero (w : World) : (zeroValue 39).run Try.prog w = .ok (lvV default) w := by kernel_rfl
theorem ikey {x : Int} (h : wfi x) : keyOf Try.prog 3 (.int .i64 x) = some (.int .i64 x) := keyOf_int_mk Try.underlying3 h
theorem ikl {x : Int} (h : wfi x) : WideAt.IsKeyLit (.int .i64 x) := mkey.key (ikey h)
def put1 (d : Int → Lvl) (p : Int) (y : Lvl) : Int → Lvl := fun x => if x = p then y else d x
/-- Block b is a map of at most n entries: d x stands at each x; zeros where none does. -/
def MapDD (D : DataW Unit) (d : Int → Lvl) : Prop := Tidy D ∧ (∀ x, wfi x → D.atKey (.int .i64 x) (lvD default) = lvD (d x)) ∧ ∀ x, wfi x → has D (.int .i64 x) = decide (0 < (d x).k)
def MapL (w : World) (b n : Nat) (d : Int → Lvl) : Prop := ∃ D : DataW Unit, w.ownsMap Try.prog 3 lvR b n D ∧ MapDD D d
theorem MapL.lt {w : World} {b n : Nat} {d : Int → Lvl} (h : MapL w b n d) : b < w.heap.size := by
  obtain ⟨D, ho, _⟩ := h
  exact ho.lt
theorem MapL.at {w w' : World} {b n : Nat} {d : Int → Lvl} (h : MapL w b n d) (hb : w'.heap[b]? = w.heap[b]?) : MapL w' b n d := by
  obtain ⟨D, ho, hr⟩ := h
  obtain ⟨es, clock, hbk, hF⟩ := ho
  exact ⟨D, ⟨es, clock, hb.trans hbk, hF⟩, hr⟩
theorem MapL.below {w w' : World} {b n : Nat} {d : Int → Lvl} (h : MapL w b n d) (hb : Below w.heap.size w w') : MapL w' b n d := h.at (hb.block b h.lt)
theorem MapL.mono {w : World} {b n m : Nat} {d : Int → Lvl} (h : MapL w b n d) (hm : n ≤ m) : MapL w b m d := by
  obtain ⟨D, ho, hr⟩ := h
  exact ⟨D, ho.mono hm, hr⟩
theorem own_size {w : World} {b n : Nat} {D : DataW Unit} (h : w.ownsMap Try.prog 3 lvR b n D) : size D ≤ n := by
  obtain ⟨es, clock, hb, F, hs, rfl⟩ := h
  simpa [Maps.size, length_sorted] using hs
theorem ikinv (key : Value) (kl : Lit) (h : keyOf Try.prog 3 key = some kl) : ∃ x, key = .int .i64 x := by
  obtain ⟨x, e, _⟩ := Maps.keyOf_int_inv Try.underlying3 h
  exact ⟨x, e⟩
theorem lvinv (v : Value) (y : DataW Unit × List MemPlace) (h : lvR v = some y) : ∃ x, v = lvV x := by
  obtain ⟨x, e, _⟩ := lvR_inv h
  exact ⟨x, e⟩
theorem MapL.made (w : World) : MapL (w.alloc (.map #[] 0)) w.heap.size 0 (fun _ => default) :=
  ⟨.map [], World.ownsMap_made w _ _ _, tidy_empty, fun c _ => rfl, fun x _ => rfl⟩
set_option maxRecDepth 100000 in
theorem MapL.look {w : World} {b n : Nat} {d : Int → Lvl} (h : MapL w b n d) {x : Int} (hx : wfi x) : (Instr.lookup 68 (.map (some b)) (.int .i64 x) false).run Try.prog w = .ok (lvV (d x)) w := by
  obtain ⟨D, ho, _, hr, _⟩ := h
  obtain ⟨v, ps, hrun, hv⟩ := ho.lookup mkey Try.underlying68 (mzero w) (lvR_mk default) (ikey hx)
  rw [hr x hx] at hv
  obtain ⟨y, rfl, hy⟩ := lvR_inv hv
  have := congrArg Prod.fst hy
  rw [hrun, ← lvD_inj this]
theorem MapL.upd {w : World} {b n : Nat} {d : Int → Lvl} (h : MapL w b n d) (hn : n < maxLen) {x : Int} (hx : wfi x) {y : Lvl} (hy : 0 < y.k) :
    ∃ w', (Instr.mapUpdate 68 (.map (some b)) (.int .i64 x) (lvV y)).run Try.prog w = .ok () w' ∧ MapL w' b (n + 1) (put1 d x y) ∧ w.grownBy w' (some b) := by
  obtain ⟨D, ho, ht, hr, hh⟩ := h
  obtain ⟨w', h1, h2, h3⟩ := ho.update mkey Try.underlying68 hn (ikey hx) (lvR_mk y)
  refine ⟨w', h1, ⟨_, h2, ht.put (ikl hx) _, fun z hz => ?_, fun z hz => ?_⟩, h3⟩
  · unfold put1
    by_cases e : z = x
    · rw [if_pos e, e, atKey_put_same ht.isMap (ikl hx)]
    · rw [if_neg e, atKey_put_other (fun e' => e (by injection e'))]
      exact hr z hz
  · unfold put1
    by_cases e : z = x
    · rw [if_pos e, e, has_put_same ht.isMap (ikl hx)]; simp [hy]
    · rw [if_neg e, has_put_other (fun e' => e (by injection e'))]
      exact hh z hz
theorem wpList_mapL {w : World} {b n : Nat} {d : Int → Lvl} {ops : Array Oper} {rest : List Oper} {o : Oper} {a : Act} {Q : Exit → Act → World → Prop} {x : Int} {y : Lvl} (hg : o.guard = none) (m k v : Operand) (hop : o.op = Op.mapUpdate 68 m k v) (hm : a.eval m = .map (some b)) (hk : a.eval k = .int .i64 x) (hv : a.eval v = lvV y) (h : MapL w b n d) (hn : n < maxLen) (hx : wfi x) (hy : 0 < y.k)
    (hK : ∀ w', MapL w' b (n + 1) (put1 d x y) → w.grownBy w' (some b) → wpList Try.prog ops Q rest (a.put o.dst undef) w') : wpList Try.prog ops Q (o :: rest) a w := by
  refine wpList_plain hg fun K' hK' => ?_
  obtain ⟨w', hrun, r1, r2⟩ := h.upd hn hx hy
  unfold Oper.wp
  simp [execOp, hop, hm, hk, hv, hrun, Result.andThen]
  exact hK' _ _ (hK w' r1 r2)
/-- The levels so far. -/
def lvl (os : List Ord) (n s : Int) : Int → Lvl := fun p => if 0 < cnt (hitp n s p) os then ⟨p, sumq (hitp n s p) os, cnt (hitp n s p) os⟩ else default
theorem lvl_q (os : List Ord) (n s p : Int) : (lvl os n s p).q = sumq (hitp n s p) os := by
  unfold lvl
  split
  · rfl
  · rename_i h
    rw [sumq_zero _ os (fun o ho => by
      rcases hb : hitp n s p o
      · rfl
      · exact absurd ((cnt_pos _ os).2 ⟨o, ho, hb⟩) h)]
    rfl
theorem lvl_k (os : List Ord) (n s p : Int) : (lvl os n s p).k = cnt (hitp n s p) os := by
  unfold lvl
  have := cnt_bd (hitp n s p) os
  split
  · rfl
  · show (0 : Int) = _; omega
theorem lvl_nil (n s : Int) : lvl [] n s = fun _ => default := by
  funext p; simp [lvl, cnt]
theorem lvl_miss (os : List Ord) (n s : Int) (o : Ord) (h : hit n s o = false) : lvl (os ++ [o]) n s = lvl os n s := by
  funext p
  have hh : hitp n s p o = false := by unfold hit at h; unfold hitp; rw [h]; rfl
  unfold lvl
  rw [cnt_app, sumq_app]
  simp [cnt, sumq, hh]
theorem lvl_hit (os : List Ord) (n s : Int) (o : Ord) (h : hit n s o = true) : lvl (os ++ [o]) n s = put1 (lvl os n s) o.p ⟨o.p, (lvl os n s o.p).q + o.q, (lvl os n s o.p).k + 1⟩ := by
  funext p
  unfold put1
  have hb := cnt_bd (hitp n s p) os
  by_cases e : p = o.p
  · subst e
    have hh : hitp n s o.p o = true := by unfold hit at h; unfold hitp; rw [h]; simp
    rw [if_pos rfl, lvl_q, lvl_k]
    unfold lvl
    rw [cnt_app, sumq_app]
    simp only [cnt, sumq, hh, if_true]
    rw [if_pos (by omega)]
    simp
  · have hh : hitp n s p o = false := by unfold hitp; rw [beq_eq_false_iff_ne.2 (fun e' => e e'.symm)]; simp
    rw [if_neg e]
    unfold lvl
    rw [cnt_app, sumq_app]
    simp [cnt, sumq, hh]
/-- What was collected of a map's entries, and what is left. -/
structure Col (os : List Ord) (n s : Int) (D : DataW Unit) (ls : List Lvl) (left : Lit → Bool) (cnt : Nat) : Prop where
  nd : (ls.map (·.p)).Nodup
  val : ∀ x ∈ ls, x = lvl os n s x.p ∧ 0 < x.k ∧ wfi x.p ∧ left (.int .i64 x.p) = false
  all : ∀ p, wfi p → has D (.int .i64 p) = true → left (.int .i64 p) = true ∨ p ∈ ls.map (·.p)
  sub : ∀ kl, left kl = true → has D kl = true
  len : ls.length + cnt ≤ os.length
theorem Col.start (os : List Ord) (n s : Int) (D : DataW Unit) (h : size D ≤ os.length) : Col os n s D [] (has D) (size D) :=
  ⟨List.nodup_nil, fun x hx => absurd hx (by simp), fun p _ h => .inl h, fun _ h => h, by simpa using h⟩
theorem Col.next {os : List Ord} {n s : Int} {D : DataW Unit} {ls : List Lvl} {left : Lit → Bool} {cnt cnt' : Nat} (h : Col os n s D ls left cnt) (hD : MapDD D (lvl os n s)) {x : Int} (hx : wfi x) {y : Lvl} (hl : left (.int .i64 x) = true) (hat : ∀ zd, D.atKey (.int .i64 x) zd = lvD y) (hc : cnt' < cnt) : Col os n s D (ls ++ [y]) (fun z => left z && !z.sameKey (.int .i64 x)) cnt' := by
  have e1 := hD.2.1 x hx
  rw [hat] at e1
  have ey := lvD_inj e1
  have hh := hD.2.2 x hx
  rw [h.sub _ hl] at hh
  have hk : 0 < (lvl os n s x).k := by simpa using hh.symm
  have hp : y.p = x := by
    rw [ey]; rw [lvl_k] at hk; unfold lvl; rw [if_pos hk]
  refine ⟨?_, fun z hz => ?_, fun p hp' hh' => ?_, fun kl hkl => ?_, by have := h.len; simp; omega⟩
  · rw [List.map_append, List.nodup_append]
    refine ⟨h.nd, by simp, fun a ha b hb => ?_⟩
    simp at hb
    subst hb
    obtain ⟨z, hz, rfl⟩ := List.mem_map.1 ha
    have := (h.val z hz).2.2.2
    intro e
    rw [e, hp, hl] at this
    cases this
  · rcases List.mem_append.1 hz with hz | hz
    · obtain ⟨a1, a2, a3, a4⟩ := h.val z hz
      exact ⟨a1, a2, a3, by rw [a4]; rfl⟩
    · simp at hz
      subst hz
      refine ⟨by rw [hp]; exact ey, by rw [ey]; exact hk, by rw [hp]; exact hx, ?_⟩
      rw [hp, WideAt.sameKey_self (ikl hx)]
      simp
  · rcases h.all p hp' hh' with a | a
    · by_cases e : p = x
      · right; simp [e, hp]
      · left
        show (left _ && !_) = true
        rw [a, sameKey_ne (fun e' => e (by injection e'))]; rfl
    · right; rw [List.map_append]; exact List.mem_append_left _ a
  · have : left kl = true := by
      rcases hq : left kl
      · simp [hq] at hkl
      · rfl
    exact h.sub kl this
theorem Col.done {os : List Ord} {n s : Int} {D : DataW Unit} {ls ls' : List Lvl} {left : Lit → Bool} {cnt : Nat} (h : Col os n s D ls left cnt) (hD : MapDD D (lvl os n s)) (hl : ∀ kl, left kl = false) (hF : Fine os) (hp : ls'.Perm ls) (hs : ls'.Pairwise (fun x y => bet s y.p x.p = false)) : LvIs os n s ls' := by
  have hnd : (ls'.map (·.p)).Nodup := (hp.map _).nodup_iff.2 h.nd
  refine ⟨?_, fun x hx => ?_, fun p hpos => ?_⟩
  · rw [List.Nodup, List.pairwise_map] at hnd
    refine (hs.and hnd).imp fun {x y} ⟨a, b⟩ => ?_
    rcases e : bet s x.p y.p
    · exact absurd (bet_eq e a) b
    · rfl
  · obtain ⟨a1, a2, _⟩ := h.val x (hp.mem_iff.1 hx)
    refine ⟨?_, a2⟩
    have hk : 0 < Go.Proofs.Ytafignfoejefjaa.cnt (hitp n s x.p) os := by
      have : 0 < (lvl os n s x.p).k := by rw [← a1]; exact a2
      rwa [lvl_k] at this
    have e : lvl os n s x.p = ⟨x.p, sumq (hitp n s x.p) os, Go.Proofs.Ytafignfoejefjaa.cnt (hitp n s x.p) os⟩ := by unfold lvl; rw [if_pos hk]
    rw [← e]; exact a1
  · obtain ⟨o, ho, hh⟩ := (cnt_pos _ os).1 hpos
    have ep : o.p = p := by unfold hitp at hh; simp at hh; exact hh.2
    have hf := hF o ho
    have hw : wfi p := wfi_of (by omega) (by omega)
    have hhas : has D (.int .i64 p) = true := by rw [hD.2.2 p hw, lvl_k]; simpa using hpos
    rcases h.all p hw hhas with a | a
    · rw [hl] at a; cases a
    · obtain ⟨x, hx, e⟩ := List.mem_map.1 a
      exact ⟨x, hp.mem_iff.2 hx, e⟩
end Go.Proofs.Ytafignfoejefjaa
