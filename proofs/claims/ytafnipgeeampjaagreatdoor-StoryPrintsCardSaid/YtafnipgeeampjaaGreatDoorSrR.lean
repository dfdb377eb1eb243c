/-
  slices.Repeat at an event.
-/
import Derived.Test.YtafnipgeeampjaaGreatDoorRows
import Derived.Test.YtafnipgeeampjaaGreatDoorKit
import Derived.Test.YtafnipgeeampjaaGreatDoorApp
import Derived.Test.YtafnipgeeampjaaGreatDoorQuiet
import Derived.WalkKit
import Derived.ProofKit
import Derived.OpenShut
import Derived.ShutString
import Derived.Below
import Derived.Outline
import Derived.WalkLawsBesides
import Derived.WalkSpells
import Derived.Handy
import Derived.Deep.QuietTactic
import Derived.BigQuiet
import Derived.RegionTactic
import Derived.ChangeAlike
import Derived.Lib.Hide
import Derived.Laws.Rows
import Derived.Laws.Tables
import Derived.Laws.CopyOwn
import Derived.Laws.MakeOwn
import Derived.Laws.Entries
import Derived.Laws.OwnMore
import Derived.Deep.WholeRow
import Derived.Deep.LoopGhost
import Derived.Deep.AppendLies
import Derived.Deep.Draws
import Derived.Maps.AppendAt
import Derived.OwnWalk
import Derived.Deep.RegionHeld3
import Derived.Deep.Cut
import Derived.Deep.CutRange
import Derived.Deep.DeepCutAuto
import Derived.Deep.CutBlock
import Derived.Lib.SliceRun
import Derived.IntWalk
import Derived.Laws.Strings
import Derived.Lib.Bytealg
import Derived.Lib.Strings
import Derived.Laws.Externs
import Derived.Test.YtafnipgeeampjaaGreatDoorSrD
import Derived.Test.YtafnipgeeampjaaGreatDoorSrK
namespace Go.Proofs.YtafnipgeeampjaaGreatDoor
open Go.ChangeShapes Go.WideShapes Go.ChangeAt Go.RowKit
/-- A copy of elements of s cells each into a block that is known whole. -/
theorem run_copy_rowN {P : Program} (w : World) (dT sT ty elem : TypeId) (g o dLen dCap : Nat) (a : Addr) (sLen sCap : Nat) (cur : List Value) (t : TypeId) (cs : List Value) (s m : Nat)
    (hu : P.underlying dT = some (.slice elem)) (hs : (P.info? elem).map (·.size) = some s)
    (hg : w.heap[g]? = some (.cells cur.toArray t (0, 0))) (hm : Nat.min sLen dLen = m) (hn : cs.length = m * s)
    (hsrc : ∀ j v, cs[j]? = some v → w.cell? (a.add j) = some v) (hfit : o + cs.length ≤ cur.length) (h1 : ∀ v ∈ cs, v.oneCell' = true) :
    (Builtin.copy_ #[dT, sT] ty #[.slice (some ⟨g, o, none⟩) dLen dCap, .slice (some a) sLen sCap]).run P w =
      .ok (goInt m) (w.setRow g (cur.take o ++ cs ++ cur.drop (o + cs.length)).toArray) := by
  have hl := run_loadCells_list (P := P) w a cs hsrc
  have hst := run_storeCells_at P g o t cs 0 cur.toArray w hg (by simpa using hfit) h1
  subst hm
  cases hq : P.info? elem with
  | none => simp [hq] at hs
  | some i =>
    have hi : i.size = s := by simpa [hq] using hs
    rw [hn] at hl
    simp [Builtin.copy_, run_underlying hu, Builtin.lenOf, Builtin.firstCells, sizeOf, typeInfo, hq, hi, hl, hst]
/-- What a copy leaves: the block, and all others. -/
theorem setRow_bl {w : World} {g : Nat} {cur cs : List Value} (hg : Bl g cur w) : Bl g cs (w.setRow g cs.toArray) ∧ (w.setRow g cs.toArray).heap.size = w.heap.size ∧ ∀ (B : Nat) (w0 : World), Below B w0 w → B ≤ g → Below B w0 (w.setRow g cs.toArray) := by
  obtain ⟨t, hh⟩ := hg
  exact ⟨⟨t, setRow_heap w g _ _ t _ hh⟩, by simp [World.setRow], fun B w0 hb h => below_setRow hb h _⟩
theorem wpList_copy_bl {P : Program} {w : World} {ops : Array Oper} {rest : List Oper} {o : Oper} {a : Act} {Q : Exit → Act → World → Prop} (hgd : o.guard = none) (d s : Operand) (dT sT : TypeId)
    (ho : o.op = .call { callee := .builtin .copy, args := #[d, s], argTypes := #[dT, sT] }) (elem : TypeId) (hu : P.underlying dT = some (.slice elem)) (sz : Nat) (hsz : (P.info? elem).map (·.size) = some sz)
    (g off dLen dCap : Nat) (ad : Addr) (sLen sCap : Nat) (hd : a.eval d = .slice (some ⟨g, off, none⟩) dLen dCap) (hs : a.eval s = .slice (some ad) sLen sCap)
    (cur : List Value) (hg : Bl g cur w) (m : Nat) (hm : Nat.min sLen dLen = m) (cs : List Value) (hn : cs.length = m * sz)
    (hsrc : ∀ j v, cs[j]? = some v → w.cell? (ad.add j) = some v) (hfit : off + cs.length ≤ cur.length) (h1 : ∀ v ∈ cs, v.oneCell' = true)
    (new : List Value) (hnew : cur.take off ++ cs ++ cur.drop (off + cs.length) = new) (B : Nat) (w0 : World) (hb : Below B w0 w) (hBg : B ≤ g)
    (h : ∀ w', Hid (Bl g new w') → Hid (Below B w0 w') → wpList P ops Q rest (a.put o.dst (goInt m)) w') : wpList P ops Q (o :: rest) a w := by
  subst hnew
  have hk := setRow_bl (cs := cur.take off ++ cs ++ cur.drop (off + cs.length)) hg
  obtain ⟨t, hh⟩ := hg
  refine wpList_plain hgd fun K hK => ?_
  have hrun := run_copy_rowN (P := P) w dT sT o.type elem g off dLen dCap ad sLen sCap cur t cs sz m hu hsz hh hm hn hsrc hfit h1
  unfold Oper.wp
  simp only [execOp, ho, resolve, invoke, builtin, Sem.run_bind, Sem.run_pure, Result.andThen_ok, List.map_toArray, List.map_cons, List.map_nil, hd, hs, hrun]
  exact hK _ _ (h _ (Lib.hid hk.1) (Lib.hid (hk.2.2 B w0 hb hBg)))
theorem step_copy_bl {P : Program} {ops : Array Oper} {o : Oper} {a : Act} {w : World} {K : Act → World → Prop} {Q : Exit → Act → World → Prop} {E : Prop} (hgd : o.guard = none) (d s : Operand) (dT sT : TypeId)
    (ho : o.op = .call { callee := .builtin .copy, args := #[d, s], argTypes := #[dT, sT] }) (elem : TypeId) (hu : P.underlying dT = some (.slice elem)) (sz : Nat) (hsz : (P.info? elem).map (·.size) = some sz)
    (g off dLen dCap : Nat) (ad : Addr) (sLen sCap : Nat) (hd : a.eval d = .slice (some ⟨g, off, none⟩) dLen dCap) (hs : a.eval s = .slice (some ad) sLen sCap)
    (cur : List Value) (hg : Bl g cur w) (m : Nat) (hm : Nat.min sLen dLen = m) (cs : List Value) (hn : cs.length = m * sz)
    (hsrc : ∀ j v, cs[j]? = some v → w.cell? (ad.add j) = some v) (hfit : off + cs.length ≤ cur.length) (h1 : ∀ v ∈ cs, v.oneCell' = true)
    (new : List Value) (hnew : cur.take off ++ cs ++ cur.drop (off + cs.length) = new) (B : Nat) (w0 : World) (hb : Below B w0 w) (hBg : B ≤ g)
    (h : ∀ w', Hid (Bl g new w') → Hid (Below B w0 w') → K (a.put o.dst (goInt m)) w') :
    if Region.wanted o (yielded ops a.tmps) = true then Oper.wp P o a w K Q else E := by
  have hw : Region.wanted o (yielded ops a.tmps) = true := by simp [Region.wanted, hgd]
  rw [if_pos hw]
  subst hnew
  have hk := setRow_bl (cs := cur.take off ++ cs ++ cur.drop (off + cs.length)) hg
  obtain ⟨t, hh⟩ := hg
  have hrun := run_copy_rowN (P := P) w dT sT o.type elem g off dLen dCap ad sLen sCap cur t cs sz m hu hsz hh hm hn hsrc hfit h1
  unfold Oper.wp
  simp only [execOp, ho, resolve, invoke, builtin, Sem.run_bind, Sem.run_pure, Result.andThen_ok, List.map_toArray, List.map_cons, List.map_nil, hd, hs, hrun]
  exact h _ (Lib.hid hk.1) (Lib.hid (hk.2.2 B w0 hb hBg))
/-- No event. -/
def zev : Sev := ⟨0, 0, 0, []⟩
/-- So many events, the others none. -/
def rp (e : Sev) (m n : Nat) : List Value := evs (List.replicate m e) ++ evs (List.replicate n zev)
theorem rp_len (e : Sev) (m n : Nat) : (rp e m n).length = (m + n) * 4 := by
  unfold rp
  rw [List.length_append, evs_len, evs_len, List.length_replicate, List.length_replicate]
  omega
theorem evs_one (l : List Sev) : ∀ v ∈ evs l, v.oneCell' = true := by
  induction l with
  | nil => intro v h; cases h
  | cons e t ih =>
    intro v h
    rw [evs_cons] at h
    rcases List.mem_append.1 h with h | h
    · unfold evc at h
      simp only [List.mem_cons, List.not_mem_nil, or_false] at h
      rcases h with rfl | rfl | rfl | rfl <;> rfl
    · exact ih v h
theorem rp_step (e : Sev) (m n k : Nat) (hk : k ≤ n) : (rp e m n).take (m * 4) ++ evs (List.replicate k e) ++ (rp e m n).drop (m * 4 + (evs (List.replicate k e)).length) = rp e (m + k) (n - k) := by
  unfold rp
  have hl : (evs (List.replicate m e)).length = m * 4 := by rw [evs_len, List.length_replicate]
  have hk' : (evs (List.replicate k e)).length = k * 4 := by rw [evs_len, List.length_replicate]
  rw [List.take_append_of_le_length (by omega), List.take_of_length_le (by omega), List.drop_append, List.drop_eq_nil_of_le (by omega), List.nil_append, hl, hk', show m * 4 + k * 4 - m * 4 = k * 4 by omega]
  have e1 : List.replicate n zev = List.replicate k zev ++ List.replicate (n - k) zev := by rw [List.replicate_append_replicate]; congr 1; omega
  have e2 : (evs (List.replicate n zev)).drop (k * 4) = evs (List.replicate (n - k) zev) := by
    rw [e1, evs_app, List.drop_append_of_le_length (by rw [evs_len, List.length_replicate]; omega), List.drop_of_length_le (by rw [evs_len, List.length_replicate]; omega), List.nil_append]
  rw [e2, ← List.replicate_append_replicate, evs_app]
theorem made_rp (e : Sev) (n : Nat) : (madeCells #[Value.int .i64 0, Value.int .i64 0, Value.int .i64 0, Value.string ⟨#[]⟩] (n * 4)) = (rp e 0 n).toArray := by
  have hr : rp e 0 n = evs (List.replicate n zev) := by unfold rp; rfl
  rw [hr]
  apply Array.ext'
  apply List.ext_getElem?
  intro j
  unfold madeCells
  rcases Nat.lt_or_ge j (n * 4) with hj | hj
  · have hz : (List.replicate n zev)[j / 4]? = some zev := by rw [List.getElem?_replicate, if_pos (by omega)]
    obtain ⟨g0, g1, g2, g3⟩ := evs_get _ _ _ hz
    have h4 : j % 4 < 4 := Nat.mod_lt _ (by decide)
    have hjj : j = j / 4 * 4 + j % 4 := by omega
    have hc : j % 4 = 0 ∨ j % 4 = 1 ∨ j % 4 = 2 ∨ j % 4 = 3 := by omega
    simp only [Array.toList_map, Array.toList_range, List.getElem?_map, List.getElem?_range hj, Option.map_some]
    rcases hc with h | h | h | h
    · rw [h] at hjj
      rw [show ((evs (List.replicate n zev)).toArray.toList)[j]? = (evs (List.replicate n zev))[j / 4 * 4]? by rw [List.toList_toArray]; congr 1, g0]
      show some (#[Value.int .i64 0, Value.int .i64 0, Value.int .i64 0, Value.string ⟨#[]⟩][j % 4]!) = _
      rw [h]; rfl
    · rw [h] at hjj
      rw [show ((evs (List.replicate n zev)).toArray.toList)[j]? = (evs (List.replicate n zev))[j / 4 * 4 + 1]? by rw [List.toList_toArray]; congr 1, g1]
      show some (#[Value.int .i64 0, Value.int .i64 0, Value.int .i64 0, Value.string ⟨#[]⟩][j % 4]!) = _
      rw [h]; rfl
    · rw [h] at hjj
      rw [show ((evs (List.replicate n zev)).toArray.toList)[j]? = (evs (List.replicate n zev))[j / 4 * 4 + 2]? by rw [List.toList_toArray]; congr 1, g2]
      show some (#[Value.int .i64 0, Value.int .i64 0, Value.int .i64 0, Value.string ⟨#[]⟩][j % 4]!) = _
      rw [h]; rfl
    · rw [h] at hjj
      rw [show ((evs (List.replicate n zev)).toArray.toList)[j]? = (evs (List.replicate n zev))[j / 4 * 4 + 3]? by rw [List.toList_toArray]; congr 1, g3]
      show some (#[Value.int .i64 0, Value.int .i64 0, Value.int .i64 0, Value.string ⟨#[]⟩][j % 4]!) = _
      rw [h]; rfl
  · rw [List.getElem?_eq_none (by simpa using hj), List.getElem?_eq_none (by rw [List.toList_toArray, evs_len, List.length_replicate]; exact hj)]
theorem run_make_rowN {P : Program} (t e : TypeId) (i : TypeInfo) (z : Value) (ht : P.underlying t = some (.slice e)) (hi : P.info? e = some i) (hz : i.zero = some z)
    (kl kc : IntKind) (n c : Nat) (hnc : n ≤ c) (hbytes : i.bytes * c ≤ 281474976710656) (h63 : c ≤ 9223372036854775807) (w : World) :
    (Instr.makeSlice t (.int kl (n : Int)) (.int kc (c : Int))).run P w = .ok (.slice (some ⟨w.heap.size, 0, none⟩) n c) (w.alloc (.cells (madeCells z.cells (c * i.size)) e)) := by
  have hb : (i.bytes : Int) * (c : Int) ≤ 281474976710656 := by
    have h : ((i.bytes * c : Nat) : Int) ≤ 281474976710656 := by omega
    rwa [Int.natCast_mul] at h
  have hr := run_make (P := P) w t e i z ht hi hz kl kc n c (by omega) (by omega) hb (by omega)
  simp only [Int.toNat_natCast] at hr
  exact hr
theorem infoE : (Tryz.prog.info? 40).map (fun i => (i.zero, i.size, i.bytes)) = some (some (.agg #[.int .i64 0, .int .i64 0, .int .i64 0, .string ⟨#[]⟩]), 4, 40) := by kernel_rfl
theorem makeE (e : Sev) (n : Nat) (hn : n ≤ 10000) (W : World) : (Instr.makeSlice 25 (.int .i64 (n : Int)) (.int .i64 (n : Int))).run Tryz.prog W = .ok (.slice (some ⟨W.heap.size, 0, none⟩) n n) (W.alloc (.cells (rp e 0 n).toArray 40)) := by
  obtain ⟨i0, hi, hz0, hz1, hz2⟩ := info_parts infoE
  have h := run_make_rowN (P := Tryz.prog) 25 40 i0 (.agg #[.int .i64 0, .int .i64 0, .int .i64 0, .string ⟨#[]⟩]) Tryz.underlying25 hi hz0 .i64 .i64 n n (Nat.le_refl _) (by rw [hz2]; omega) (by omega) W
  rw [hz1] at h
  rw [h, ← made_rp e n]
  rfl
theorem mul_is (N : Nat) (hN : N ≤ 10000) (w : World) : Calls Tryz.prog 57 #[.int .u64 1, .int .u64 (N : Int)] w fun e w' => e = .returned (.tuple #[.int .u64 0, .int .u64 (N : Int)]) ∧ w = w' := by
  have c := Any.bits_Mul lays212 1 N (by omega) (by omega) w
  rw [Nat.one_mul, Nat.div_eq_of_lt (by omega : N < 18446744073709551616), Nat.mod_eq_of_lt (by omega : N < 18446744073709551616)] at c
  exact c.mono fun e w' h => ⟨h.1, h.2.symm⟩
theorem Bl.src {B : Nat} {l : List Value} {w : World} (h : Bl B l w) (o : Nat) (j : Nat) (v : Value) (hj : l[o + j]? = some v) : w.cell? ((⟨B, o, none⟩ : Addr).add j) = some v := by
  have := h.cell (o + j) v hj
  unfold Addr.add
  split
  · rename_i h0
    rw [h0] at this
    exact this
  · exact this
theorem rp_first (e : Sev) (N : Nat) (h : 1 ≤ N) : (rp e 0 N).take 0 ++ evc e ++ (rp e 0 N).drop (0 + (evc e).length) = rp e 1 (N - 1) := rp_step e 0 N 1 h
theorem rp_next (e : Sev) (m n k : Nat) (hk : k ≤ n) : (rp e m n).take (m * 4) ++ evs (List.replicate k e) ++ (rp e m n).drop (m * 4 + (evs (List.replicate k e)).length) = rp e (m + k) (n - k) := rp_step e m n k hk
theorem rp_src (e : Sev) (m n k : Nat) (hk : k ≤ m) (j : Nat) (v : Value) (hj : (evs (List.replicate k e))[j]? = some v) : (rp e m n)[0 + j]? = some v := by
  have hl : j < k * 4 := by
    have := (List.getElem?_eq_some_iff.1 hj).1
    rwa [evs_len, List.length_replicate] at this
  unfold rp
  rw [Nat.zero_add, show m = k + (m - k) by omega, ← List.replicate_append_replicate, evs_app, List.append_assoc, List.getElem?_append_left (by rw [evs_len, List.length_replicate]; exact hl)]
  exact hj
theorem infoE4 : (Tryz.prog.info? 40).map (·.size) = some 4 := by kernel_rfl
set_option maxRecDepth 100000 in
set_option maxHeartbeats 4000000 in
theorem repeat_is (X : Nat) (e : Sev) (N : Nat) (h1 : 1 ≤ N) (h2 : N ≤ 10000) (w : World) (hx : Bl X (evc e) w) : Calls Tryz.prog 47 #[.slice (some ⟨X, 0, none⟩) 1 1, .int .i64 (N : Int)] w fun e' w' => ∃ B, e' = .returned (.slice (some ⟨B, 0, none⟩) N N) ∧ Bl B (evs (List.replicate N e)) w' ∧ w.heap.size ≤ B ∧ Below w.heap.size w w' := by
  have HM := Lib.hid (fun w => mul_is N h2 w)
  have hmk := makeE e N h2
  have n0 : (0 : Int) ≤ (N : Int) := by omega
  have n1 : (1 : Int) ≤ (N : Int) := by omega
  have n2 : (N : Int) ≤ 10000 := by omega
  have hg0 : Below w.heap.size w (w.alloc (.cells (rp e 0 N).toArray 40)) := by go_grown
  have HX := Lib.hid (hx.below hg0)
  have HG := Lib.hid hg0
  have H12 := Lib.hid (And.intro h1 h2)
  have HB : Hid (∃ B, B = w.heap.size) := Lib.hid ⟨_, rfl⟩
  clear hx h1 h2 hg0
  go_enter Tryz.func47, Tryz.ntmps47
  go_wp2_with fail
  refine (HM.out _).mono ?_
  rintro e1 w1 ⟨rfl, rfl⟩
  go_wp2_with (refine wpList_copy_bl rfl (.tmp 31) (.tmp 32) 25 25 rfl 40 Tryz.underlying25 4 infoE4 w.heap.size 0 N N ⟨X, 0, none⟩ 1 1 rfl rfl (rp e 0 N) (Bl.new w _ _) 1 (Nat.min_eq_left H12.out.1) (evc e) rfl (fun j v hj => HX.out.src 0 j v (by rwa [Nat.zero_add])) (by rw [rp_len]; show 0 + 4 ≤ _; have := H12.out.1; omega) (fun v hv => evs_one [e] v (by simpa [evs] using hv)) _ (rp_first e N H12.out.1) w.heap.size w HG.out (Nat.le_refl _) ?_; intro w2 HL HB2)
  go_loopw [8] (fun v wr => ∃ m : Nat, v = .int .i64 (m : Int) ∧ 1 ≤ m ∧ m ≤ N ∧ Hid (Bl w.heap.size (rp e m (N - m)) wr) ∧ Hid (Below w.heap.size w wr)) (fun v _ => N + 1 - (intOf v).toNat)
  case atStart => exact ⟨1, rfl, Nat.le_refl _, H12.out.1, HL, HB2⟩
  case round =>
    obtain ⟨m, rfl, hm1, hm2, hL, hW⟩ := hrel
    by_cases hmN : m < N
    · have q1 : (m : Int) < (N : Int) := by omega
      have q0 : (0 : Int) ≤ (m : Int) := by omega
      have HMM := Lib.hid (And.intro hm1 (And.intro hm2 hmN))
      clear hm1 hm2 hmN
      obtain ⟨k, hk⟩ : ∃ k, k = Nat.min m (N - m) := ⟨_, rfl⟩
      have hk1 : k ≤ m := by rw [hk]; exact Nat.min_le_left _ _
      have hk2 : k ≤ N - m := by rw [hk]; exact Nat.min_le_right _ _
      have hk3 : 1 ≤ k := by
        have := HMM.out
        rw [hk]
        exact Nat.le_min.2 ⟨this.1, by omega⟩
      have HK := Lib.hid (And.intro hk (And.intro hk1 (And.intro hk2 hk3)))
      have q3 : (m : Int) + (k : Int) ≤ 10000 := by have := HMM.out; omega
      have q4 : (0 : Int) ≤ (k : Int) := by omega
      have q5 : m ≤ N := HMM.out.2.1
      have q6 : ¬ N = m := by have := HMM.out; omega
      clear hk hk1 hk2 hk3
      have hrun : ∃ W4, (Builtin.copy_ #[25, 25] 3 #[.slice (some ⟨w.heap.size, m * 4, none⟩) (N - m) (N - m), .slice (some ⟨w.heap.size, 0, none⟩) m N]).run Tryz.prog wr.drew = .ok (.int .i64 (k : Int)) W4 ∧ Hid (Bl w.heap.size (rp e (m + k) (N - m - k)) W4) ∧ Hid (Below w.heap.size w W4) := by
        obtain ⟨t, hh⟩ := hL.out
        have h4 := setRow_bl (w := wr.drew) (cs := rp e (m + k) (N - m - k)) (⟨t, hh⟩ : Bl w.heap.size (rp e m (N - m)) wr.drew)
        refine ⟨_, (run_copy_rowN (P := Tryz.prog) wr.drew 25 25 3 40 w.heap.size (m * 4) (N - m) (N - m) ⟨w.heap.size, 0, none⟩ m N (rp e m (N - m)) t (evs (List.replicate k e)) 4 k Tryz.underlying25 infoE4 hh HK.out.1.symm (by rw [evs_len, List.length_replicate]) (fun j v hj => Bl.src hL.out 0 j v (rp_src e m (N - m) k HK.out.2.1 j v hj)) (by rw [rp_len, evs_len, List.length_replicate]; have := HK.out.2.2.1; omega) (evs_one _)).trans (by rw [rp_next e m (N - m) k HK.out.2.2.1]; rfl), Lib.hid h4.1, Lib.hid (h4.2.2 _ w hW.out.drew (Nat.le_refl _))⟩
      obtain ⟨W4, hrun, HL4, HB4⟩ := hrun
      go_wp2_with fail
      go_region
      go_wp2_with fail
      go_roundw
      case rel => exact ⟨m + k, by go_num, by have := HMM.out; omega, by have := HMM.out; have := HK.out.2.2.1; omega, by rw [show N - (m + k) = N - m - k by omega]; exact HL4, HB4⟩
      case measure => have := HMM.out; have := HK.out.2.2; simp [intOf]; omega
    · have hme : m = N := by omega
      subst hme
      clear hm1 hm2 hmN
      go_wp2_with fail
      go_ret
      refine ⟨w.heap.size, rfl, ?_, Nat.le_refl _, hW.out⟩
      have := hL.out
      rw [Nat.sub_self] at this
      have e2 : rp e m 0 = evs (List.replicate m e) := by unfold rp; rw [show evs (List.replicate 0 zev) = [] from rfl, List.append_nil]
      rwa [e2] at this

end Go.Proofs.YtafnipgeeampjaaGreatDoor
