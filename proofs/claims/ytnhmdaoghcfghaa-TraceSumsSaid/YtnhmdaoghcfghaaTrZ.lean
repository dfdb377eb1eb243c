/-
  A map whose keys are two numbers, that the call made: what it has at each key; its one entry turned.
-/
import Derived.Test.YtnhmdaoghcfghaaRows
import Derived.Test.YtnhmdaoghcfghaaKit
import Derived.Test.YtnhmdaoghcfghaaApp
import Derived.Test.YtnhmdaoghcfghaaQuiet
import Derived.Test.YtnhmdaoghcfghaaTrY
import Derived.WalkKit
import Derived.ProofKit
import Derived.OpenShut
import Derived.ShutString
import Derived.Below
import Derived.Lib.Hide
import Derived.Maps.Own
import Derived.Maps.OwnOps
import Derived.Maps.OwnSet
import Derived.WideKeyEntry
import Derived.WideKeyPair
import Derived.DeepKeys4
import Derived.IntWalk
namespace Go.Proofs.Ytnhmdaoghcfghaa
open Go.ChangeShapes Go.WideShapes Go.ChangeAt Go.RowKit
open Go.Maps
open Go.ChangeMaps (setBlock heap_setBlock_same heap_setBlock_other)
open Go.WideElems (Fit findIdx_born findIdx_arr modify_last set_self)
abbrev wfi (x : Int) : Prop := (Lit.int .i64 x).wf = true
def kp (c g : Int) : Value := .agg #[.int .i64 c, .int .i64 g]
def kl (c g : Int) : Lit := .string (keyBytes [.int .i64 c, .int .i64 g])
theorem mArr : Go.WideMaps.ArrKey Try.prog 42 3 2 := ⟨Try.underlying42, by kernel_rfl, by kernel_rfl, by kernel_rfl⟩
theorem mLaid : laidOutB Try.prog = true := by kernel_rfl
theorem mlaw : Go.WideMaps.KeyLaw Try.prog 42 := deep_law_laid mLaid (m := 2) (by omega) (of_decide_eq_true (by kernel_rfl)) (by kernel_rfl) (by rw [Try.underlying42])
theorem mkey : Keyed Try.prog 42 := Keyed.of_law mlaw
theorem mzero (w : World) : (zeroValue 3).run Try.prog w = .ok (.int .i64 0) w := by kernel_rfl
theorem keyOf_kp {c g : Int} (hc : wfi c) (hg : wfi g) : keyOf Try.prog 42 (kp c g) = some (kl c g) :=
  Go.WideMaps.keyOf_pair mArr Try.underlying3 ⟨Try.prog.types.size - 1, by have h : 0 < Try.prog.types.size := of_decide_eq_true (by kernel_rfl); omega⟩ hc hg
theorem kl_inj {c g c' g' : Int} (hc : wfi c) (hg : wfi g) (hc' : wfi c') (hg' : wfi g') (h : kl c g = kl c' g') : c = c' ∧ g = g' := by
  have h1 := keyOf_kp hc hg
  have h2 := keyOf_kp hc' hg'
  rw [h] at h1
  have h3 := mkey.inj h1 h2
  unfold kp at h3
  injection h3 with h3
  have h4 := congrArg Array.toList h3
  simp at h4
  exact h4
theorem isKeyKl {c g : Int} (hc : wfi c) (hg : wfi g) : WideAt.IsKeyLit (kl c g) := mkey.key (keyOf_kp hc hg)
noncomputable abbrev mR : Value → Option (DataW Unit × List MemPlace) := plainElem Try.prog 3
/-- Block b is a map of at most n entries: d c g stands at each two numbers, 0 where none does. -/
def MapD (w : World) (b n : Nat) (d : Int → Int → Int) : Prop :=
  ∃ D : DataW Unit, w.ownsMap Try.prog 42 mR b n D ∧ Tidy D ∧ ∀ c g : Int, wfi c → wfi g → D.atKey (kl c g) (.lit (.int .i64 0)) = .lit (.int .i64 (d c g))
theorem MapD.lt {w : World} {b n : Nat} {d : Int → Int → Int} (h : MapD w b n d) : b < w.heap.size := by
  obtain ⟨D, ho, _⟩ := h
  exact ho.lt
theorem MapD.at {w w' : World} {b n : Nat} {d : Int → Int → Int} (h : MapD w b n d) (hb : w'.heap[b]? = w.heap[b]?) : MapD w' b n d := by
  obtain ⟨D, ho, hr⟩ := h
  obtain ⟨es, clock, hbk, hF⟩ := ho
  exact ⟨D, ⟨es, clock, hb.trans hbk, hF⟩, hr⟩
theorem MapD.below {w w' : World} {b n : Nat} {d : Int → Int → Int} (h : MapD w b n d) (hb : Below w.heap.size w w') : MapD w' b n d := h.at (hb.block b h.lt)
theorem MapD.mono {w : World} {b n m : Nat} {d : Int → Int → Int} (h : MapD w b n d) (hm : n ≤ m) : MapD w b m d := by
  obtain ⟨D, ho, hr⟩ := h
  exact ⟨D, ho.mono hm, hr⟩
theorem MapD.made (w : World) : MapD (w.alloc (.map #[] 0)) w.heap.size 0 (fun _ _ => 0) :=
  ⟨.map [], World.ownsMap_made w _ _ _, tidy_empty, fun c g _ _ => rfl⟩
set_option maxRecDepth 100000 in
theorem MapD.look {w : World} {b n : Nat} {d : Int → Int → Int} (h : MapD w b n d) {c g : Int} (hc : wfi c) (hg : wfi g) : (Instr.lookup 34 (.map (some b)) (kp c g) false).run Try.prog w = .ok (.int .i64 (d c g)) w := by
  obtain ⟨D, ho, _, hr⟩ := h
  obtain ⟨x, hrun, hat, _⟩ := ho.lookup_int mkey Try.underlying34 Try.underlying3 (mzero w) (keyOf_kp hc hg)
  rw [hr c g hc hg] at hat
  injection hat with hat
  injection hat with _ hat
  rw [hrun, hat]
theorem setBlock_grown {w : World} {b : Nat} {o : Obj} {es : Array MapEntry} {clock : Nat} (hb : w.heap[b]? = some (.map es clock)) : w.grownBy (setBlock w b o) (some b) :=
  ⟨rfl, rfl, rfl, by simp [setBlock], fun i _ hi => heap_setBlock_other hb _ (fun e => hi (by rw [e]))⟩
/-- d, but x at (c, g). -/
def put2 (d : Int → Int → Int) (c g x : Int) : Int → Int → Int := fun c' g' => if c' = c ∧ g' = g then x else d c' g'
theorem put2_self (d : Int → Int → Int) (c g : Int) : put2 d c g (d c g) = d := by
  funext c' g'
  unfold put2
  split
  · rename_i h; rw [h.1, h.2]
  · rfl
theorem bump_put2 (d : Int → Int → Int) (c g x : Int) : put2 d c g (d c g + x) = bump d c g x := rfl
set_option maxRecDepth 100000 in
/-- An entry is asked for, and turned later: whatever stands beside. -/
theorem MapD.entry {w : World} {b n : Nat} {d : Int → Int → Int} (h : MapD w b n d) (hn : n < maxLen) {c g : Int} (hc : wfi c) (hg : wfi g) :
    ∃ (v0 : Value) (st : Nat) (w1 : World), (Instr.mapEntry 34 (.map (some b)) (kp c g)).run Try.prog w = .ok (.tuple #[v0, goInt st]) w1 ∧ MapD w1 b (n + 1) d ∧ w.grownBy w1 (some b) ∧
      ∀ (w2 : World) (x : Int), wfi x → w2.heap[b]? = w1.heap[b]? → ∃ w3, (Instr.entryStore 34 (.map (some b)) (goInt st) (.int .i64 x)).run Try.prog w2 = .ok () w3 ∧ MapD w3 b (n + 1) (put2 d c g x) ∧ w2.grownBy w3 (some b) := by
  have hlook := h.look hc hg
  obtain ⟨D, ho, ht, hr⟩ := h
  have hkey := keyOf_kp hc hg
  have hput : ∀ x : Int, wfi x → ∃ w', (Instr.mapUpdate 34 (.map (some b)) (kp c g) (.int .i64 x)).run Try.prog w = .ok () w' ∧ MapD w' b (n + 1) (put2 d c g x) := fun x hx => by
    obtain ⟨w', h1, h2, h3⟩ := ho.update mkey Try.underlying34 hn hkey (plainElem_int Try.underlying3 hx)
    refine ⟨w', h1, _, h2, ht.put (isKeyKl hc hg) _, fun c' g' hc' hg' => ?_⟩
    unfold put2
    split
    · rename_i he
      rw [he.1, he.2, atKey_put_same ht.isMap (isKeyKl hc hg)]
    · rename_i he
      rw [atKey_put_other (fun e => he (kl_inj hc' hg' hc hg e))]
      exact hr c' g' hc' hg'
  have hw0 : wfi 0 := by decide
  have hl := ho.lt
  obtain ⟨es, clock, hb, F, hs, hD⟩ := ho
  obtain ⟨s1, s2, _⟩ := F.stamped
  have ht2 := Try.underlying34
  rcases mkey.find w hkey es.toList F.keys with ⟨h1, h2⟩ | ⟨j, e0, h1, h2, h3⟩
  · have hz : d c g = 0 := by
      rcases Maps.fit_look false mkey ht2 (mzero w) hb F hkey with ⟨hrun, _, _⟩ | ⟨e0, y, hm, hk, _⟩
      · rw [hlook] at hrun
        injection hrun with hrun
        injection hrun with _ hrun
      · exact absurd hk (h2 e0 hm)
    obtain ⟨w0, hr0, hM0⟩ := hput 0 hw0
    have hc0 : w0 = setBlock w b (.map (es.push ⟨kp c g, .int .i64 0, clock⟩) (clock + 1)) := by
      simp [Instr.mapUpdate, run_underlying ht2, MapKept.run_getObj_map hb, mkey.check w false hkey, h1, MapKept.run_setObj_map _ hb, Result.andThen] at hr0
      exact hr0.symm
    refine ⟨.int .i64 0, clock, w0, ?_, ?_, ?_, fun w2 x hx hw2 => ?_⟩
    · rw [hc0]
      simp [Instr.mapEntry, run_underlying ht2, MapKept.run_getObj_map hb, mkey.check w false hkey, h1, mzero, MapKept.run_setObj_map _ hb, Result.andThen, setBlock]
    · rw [← put2_self d c g, hz]; exact hM0
    · rw [hc0]; exact setBlock_grown hb
    · obtain ⟨w', hr1, hM1⟩ := hput x hx
      have hc1 : w' = setBlock w b (.map (es.push ⟨kp c g, .int .i64 x, clock⟩) (clock + 1)) := by
        simp [Instr.mapUpdate, run_underlying ht2, MapKept.run_getObj_map hb, mkey.check w false hkey, h1, MapKept.run_setObj_map _ hb, Result.andThen] at hr1
        exact hr1.symm
      rw [hc0, heap_setBlock_same hb] at hw2
      have hidx : (es.push ⟨kp c g, .int .i64 0, clock⟩).findIdx? (fun e => ((e.born : Nat) : Int) == ((clock : Nat) : Int)) = some es.size := by
        rw [findIdx_arr]
        exact findIdx_born (l := (es.push ⟨kp c g, .int .i64 0, clock⟩).toList) (j := es.size) (e0 := ⟨kp c g, .int .i64 0, clock⟩) (by
          simp only [Array.toList_push, List.map_append, List.map_cons, List.map_nil]
          refine List.nodup_append.2 ⟨s2, by simp, fun a ha c hc e1 => ?_⟩
          simp only [List.mem_singleton] at hc
          obtain ⟨x, hx, rfl⟩ := List.mem_map.1 ha
          have := s1 x hx
          omega) (by simp)
      have hmod : (es.push ⟨kp c g, .int .i64 0, clock⟩).modify es.size (fun e => { e with val := .int .i64 x }) = es.push ⟨kp c g, .int .i64 x, clock⟩ := by
        apply Array.ext'
        rw [Array.toList_modify, Array.toList_push, Array.toList_push, ← Array.length_toList, modify_last]
      refine ⟨setBlock w2 b (.map (es.push ⟨kp c g, .int .i64 x, clock⟩) (clock + 1)), ?_, ?_, ?_⟩
      · simp [Instr.entryStore, MapKept.run_getObj_map hw2, asInt, asIntOf, goInt, hidx, hmod, MapKept.run_setObj_map _ hw2, Result.andThen, setBlock]
      · exact hM1.at (by rw [heap_setBlock_same hw2, hc1, heap_setBlock_same hb])
      · exact setBlock_grown hw2
  · have hj : es[j]? = some e0 := by simpa using h2
    have hsame : es.modify j (fun e => { e with key := kp c g }) = es := by
      apply Array.ext'
      rw [Array.toList_modify, Go.ChangeMaps.modify_eq_set _ _ _ _ h2]
      have : ({ e0 with key := kp c g } : MapEntry) = e0 := by rw [← h3]
      rw [this]
      exact set_self _ _ _ h2
    refine ⟨e0.val, e0.born, setBlock w b (.map es clock), ?_, ?_, ?_, fun w2 x hx hw2 => ?_⟩
    · simp [Instr.mapEntry, run_underlying ht2, MapKept.run_getObj_map hb, mkey.check w false hkey, h1, hj, h3, mkey.stays w hkey, hsame, MapKept.run_setObj_map _ hb, Result.andThen, setBlock]
    · exact ⟨D, ⟨es, clock, heap_setBlock_same hb _, F, Nat.le_succ_of_le hs, hD⟩, ht, hr⟩
    · exact setBlock_grown hb
    · obtain ⟨w', hr1, hM1⟩ := hput x hx
      have hc1 : w' = setBlock w b (.map (es.modify j (fun e' => { e' with key := kp c g, val := .int .i64 x })) clock) := by
        simp [Instr.mapUpdate, run_underlying ht2, MapKept.run_getObj_map hb, mkey.check w false hkey, h1, hj, h3, mkey.stays w hkey, MapKept.run_setObj_map _ hb, Result.andThen] at hr1
        exact hr1.symm
      rw [heap_setBlock_same hb] at hw2
      have hidx : es.findIdx? (fun e => ((e.born : Nat) : Int) == ((e0.born : Nat) : Int)) = some j := by
        rw [findIdx_arr]
        exact findIdx_born s2 h2
      have hmod : es.modify j (fun e => { e with val := .int .i64 x }) = es.modify j (fun e' => { e' with key := kp c g, val := .int .i64 x }) := by
        apply Array.ext'
        rw [Array.toList_modify, Array.toList_modify, Go.ChangeMaps.modify_eq_set _ _ _ _ h2, Go.ChangeMaps.modify_eq_set _ _ _ _ h2, ← h3]
      refine ⟨setBlock w2 b (.map (es.modify j (fun e' => { e' with key := kp c g, val := .int .i64 x })) clock), ?_, ?_, ?_⟩
      · simp [Instr.entryStore, MapKept.run_getObj_map hw2, asInt, asIntOf, goInt, hidx, hmod, MapKept.run_setObj_map _ hw2, Result.andThen, setBlock]
      · exact hM1.at (by rw [heap_setBlock_same hw2, hc1, heap_setBlock_same hb])
      · exact setBlock_grown hw2
section
variable {o : Oper} {a : Act} {w : World} {K : Act → World → Prop} {Q : Exit → Act → World → Prop} {b n : Nat} {d : Int → Int → Int} {c g : Int}
theorem wp_look (h : MapD w b n d) (hc : wfi c) (hg : wfi g) (m x : Operand) (hop : o.op = Op.lookup 34 m x false) (hm : a.eval m = .map (some b)) (hx : a.eval x = kp c g)
    (hK : K (a.put o.dst (.int .i64 (d c g))) w) : Oper.wp Try.prog o a w K Q := by
  have hrun := h.look hc hg
  unfold Oper.wp
  simp [execOp, hop, hm, hx, hrun, Result.andThen]
  exact hK
theorem wp_entry (h : MapD w b n d) (hn : n < maxLen) (hc : wfi c) (hg : wfi g) (m x : Operand) (hop : o.op = Op.mapEntry 34 m x) (hm : a.eval m = .map (some b)) (hx : a.eval x = kp c g)
    (hK : ∀ (v0 : Value) (st : Nat) (w1 : World), MapD w1 b (n + 1) d → w.grownBy w1 (some b) → (∀ (w2 : World) (x : Int), wfi x → w2.heap[b]? = w1.heap[b]? → ∃ w3, (Instr.entryStore 34 (.map (some b)) (goInt st) (.int .i64 x)).run Try.prog w2 = .ok () w3 ∧ MapD w3 b (n + 1) (put2 d c g x) ∧ w2.grownBy w3 (some b)) → K (a.put o.dst (.tuple #[v0, goInt st])) w1) : Oper.wp Try.prog o a w K Q := by
  obtain ⟨v0, st, w1, hrun, h1, h2, h3⟩ := h.entry hn hc hg
  unfold Oper.wp
  simp [execOp, hop, hm, hx, hrun, Result.andThen]
  exact hK v0 st w1 h1 h2 h3
theorem wp_estore {st : Nat} {w3 : World} {x : Int} (m s y : Operand) (hop : o.op = Op.entryStore 34 m s y) (hm : a.eval m = .map (some b)) (hs : a.eval s = goInt st) (hy : a.eval y = .int .i64 x)
    (hrun : (Instr.entryStore 34 (.map (some b)) (goInt st) (.int .i64 x)).run Try.prog w = .ok () w3) (hK : K (a.put o.dst undef) w3) : Oper.wp Try.prog o a w K Q := by
  unfold Oper.wp
  simp [execOp, hop, hm, hs, hy, hrun, Result.andThen]
  exact hK
end
end Go.Proofs.Ytnhmdaoghcfghaa
