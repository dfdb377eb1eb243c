/-
  The law AnswerWrongs.
-/
import Derived.Test.YtinciphhoieonaaGreatDoorRows
import Derived.Test.YtinciphhoieonaaGreatDoorCards
import Derived.Test.YtinciphhoieonaaGreatDoorTie
import Derived.Test.YtinciphhoieonaaGreatDoorKit
import Derived.ChangeSame
import Derived.ChangeVars
import Derived.JoinedOf
import Derived.RowKit
import Derived.RowKitTokens
import Derived.LaidLaws
import Derived.LaidHandle
import Derived.Stop.Joined
import Derived.SevenTiedAt
import Derived.LaidSub
import Derived.LaidMore
import Derived.Deep.DeepLaidRun
import Derived.Deep.DeepHandedRow
import Derived.Shelf.Vars
import Derived.Lay
import Derived.Test.YtinciphhoieonaaGreatDoorAnswerWrongsW
namespace Go.Proofs.YtinciphhoieonaaGreatDoor.answerWrongs
open Go.ChangeShapes Go.WideShapes Go.ChangeAt Go.RowKit

theorem own : ownKnob Tryz.prog.godebug = none := by kernel_rfl
theorem laidOut : laidOutB Tryz.prog = true := by kernel_rfl
theorem et : Tryz.prog.globalNamed "errors.errorType" = some 1 := by kernel_rfl
theorem gv : Tryz.prog.globalNamed "gloaming/line.verbs" = some 0 := by kernel_rfl
theorem tv : (Tryz.prog.globals[0]?).map (·.type) = some 72 := by kernel_rfl
theorem rt : (Tryz.prog.cutTypes.find? (·.1 == "internal/reflectlite.rtype")).map (·.2) = some 100 := by kernel_rfl
theorem oneRow : ((List.range 201).filter fun t => Tryz.prog.rowNamed t [101, 114, 114, 111, 114]) = [35] := by kernel_rfl
theorem size : Tryz.prog.types.size = 201 := by kernel_rfl
def laid : List (String × DataW Unit) := [("math/bits.deBruijn32tab", Rows.laid_math_bits_deBruijn32tab), ("math/bits.deBruijn64tab", Rows.laid_math_bits_deBruijn64tab), ("internal/strconv.uint64pow10", Rows.laid_internal_strconv_uint64pow10), ("unicode/utf8.acceptRanges", Rows.laid_unicode_utf8_acceptRanges), ("errors.errorType", Rows.laid_errors_errorType), ("strconv.ErrRange", Rows.laid_strconv_ErrRange), ("strconv.ErrSyntax", Rows.laid_strconv_ErrSyntax), ("gloaming/line.verbs", Rows.laid_gloaming_line_verbs), ("unicode/utf8.first", Rows.laid_unicode_utf8_first)]
/-- What the condition gives a walk: the cell of errors.errorType. -/
theorem handle_of_laid {W : World} (h : laidMetH Tryz.prog laid W) : W.cell? ⟨1, 0, none⟩ = some (.iface 100 (.agg #[.pointer (some ⟨10, 35, none⟩)])) := by
  have h' := (laidMetH_iff.1 h).2
  obtain ⟨name, u, ty, e1, e2, e3, e4, e5⟩ := h' ("errors.errorType", Rows.laid_errors_errorType) (List.mem_filter.2 ⟨by simp [laid], by kernel_rfl⟩)
  have en : name = [101, 114, 114, 111, 114] := (Option.some.inj e1).symm
  subst en
  obtain rfl := Option.some.inj (rt.symm.trans e2)
  have hm : ty ∈ (List.range 201).filter fun t => Tryz.prog.rowNamed t [101, 114, 114, 111, 114] := List.mem_filter.2 ⟨List.mem_range.2 (by rw [← size]; exact e3), e4⟩
  rw [oneRow] at hm
  obtain rfl := List.mem_singleton.1 hm
  have hh : typeHandle Tryz.prog 35 = .pointer (some ⟨10, 35, none⟩) := by kernel_rfl
  rw [hh] at e5
  simpa using World.var?_cell et e5 0
/-- .. and the table of verbs. -/
theorem verbs_of_laid {W : World} (h : laidMetH Tryz.prog laid W) : ∀ k : Nat, k ≤ 4 → W.cell? ⟨0, k, none⟩ = some (.string (vb k)) := by
  have h1 := ((laidMetH_iff.1 h).1).filter (fun x => x.1 == "gloaming/line.verbs")
  have hl : ((laid.filter fun x => x.2.handleName?.isNone).filter fun x => x.1 == "gloaming/line.verbs") = [("gloaming/line.verbs", Rows.laid_gloaming_line_verbs)] := by kernel_rfl
  rw [hl] at h1
  obtain ⟨ps, ⟨g0, t0, cs0, f0, p0, q0, hg0, ht0, hv0, hd0, _, _⟩, _, _⟩ := h1
  obtain rfl := Option.some.inj (gv.symm.trans hg0)
  obtain rfl := Option.some.inj (tv.symm.trans ht0)
  obtain ⟨xs, m1, rfl, hx1, hlen, hn5, hel⟩ := DataW.trod_array Tryz.underlying72 hd0
  have c9 : Tryz.prog.cellsOf 9 = 1 := by kernel_rfl
  simp only [Rows.laid_gloaming_line_verbs, Prod.mk.injEq, DataW.agg.injEq] at hx1
  intro k hk
  have hk5 : k < 5 := by omega
  have he := hel k hk5
  have hxk : (xs.map (·.1))[k]? = some (DataW.lit (.string (vb k).data.toList)) := by
    rw [← hx1.1]
    rcases (show k = 0 ∨ k = 1 ∨ k = 2 ∨ k = 3 ∨ k = 4 by omega) with rfl | rfl | rfl | rfl | rfl <;> rfl
  have hkx : k < xs.length := by rw [hn5]; exact hk5
  rw [List.getElem?_eq_getElem hkx, c9] at he
  rw [List.getElem?_map, List.getElem?_eq_getElem hkx, Option.map_some] at hxk
  obtain ⟨s, e1, e2, _⟩ := DataW.trod_string Tryz.underlying9 he
  rw [e2] at hxk
  have hs : s.data.toList = (vb k).data.toList := by simpa using hxk
  have hsv : s = vb k := by rw [← Bs_of s, ← Bs_of (vb k), hs]
  have hc := World.var?_cell gv hv0 k
  rw [hc, ← hsv]
  have h2 : (cs0.toList.drop (k * 1))[0]? = some (.string s) := by
    have h3 := congrArg (fun l => l[0]?) e1
    simpa using h3
  rw [Nat.mul_one, List.getElem?_drop, Nat.add_zero] at h2
  simpa using h2
theorem gp : Tryz.prog.globalNamed "internal/strconv.uint64pow10" = some 2 := by kernel_rfl
/-- .. and the table of powers of ten. -/
theorem tab_of_laid {W : World} (h : laidMetH Tryz.prog laid W) : Lib.TabIs Tryz.prog W "internal/strconv.uint64pow10" .u64 Lib.pow10Tab := by
  have h1 := ((laidMetH_iff.1 h).1).filter (fun x => x.1 == "internal/strconv.uint64pow10")
  have hl : ((laid.filter fun x => x.2.handleName?.isNone).filter fun x => x.1 == "internal/strconv.uint64pow10") = [("internal/strconv.uint64pow10", Lib.tabData .u64 Lib.pow10Tab)] := by kernel_rfl
  rw [hl] at h1
  exact Lib.tabIs_of_head gp (t := 141) (e := 124) (n := 20) (by kernel_rfl) Tryz.underlying141 Tryz.underlying124 (by kernel_rfl) (by kernel_rfl) h1
/-- What is laid as data. -/
def plain : List (String × DataW Unit) := laid.filter fun x => x.2.handleName?.isNone
noncomputable def startW (os : Os) : World := ((World.holding Tryz.prog os ⟨#[], #[], []⟩).setCell ⟨1, 0, none⟩ (.iface 100 (.agg #[.pointer (some ⟨10, 35, none⟩)]))).layVars Tryz.prog plain
theorem startW_os (os : Os) : (startW os).os = os := World.layVars_os _ _ _
theorem start_met (os : Os) (args : Array Value) : laidMetH Tryz.prog laid ((startW os).forCall (fun _ _ => 0) ⟨#[], args, []⟩).memory := by
  have e1 : (plain.filter fun x => (plain.map (·.1)).contains x.1) = plain := List.filter_eq_self.2 fun x hx => List.contains_iff_mem.2 (List.mem_map.2 ⟨x, hx, rfl⟩)
  have e2 : (plain.filter fun x => !(plain.map (·.1)).contains x.1) = [] := List.filter_eq_nil_iff.2 fun x hx => by rw [List.contains_iff_mem.2 (List.mem_map.2 ⟨x, hx, rfl⟩)]; simp
  have h : laidMet Tryz.prog plain (startW os) := laidMet_layVars (w0 := (World.holding Tryz.prog os ⟨#[], #[], []⟩).setCell ⟨1, 0, none⟩ (.iface 100 (.agg #[.pointer (some ⟨10, 35, none⟩)]))) (plain.map (·.1)) [] (by rw [e1]; rfl) (by rw [e1]; kernel_rfl) (by rw [e1]; kernel_rfl) (by rw [e2]; exact LaidIn.none)
  exact laidMetH_of_parts3 (fuel := 8) (h.of_heap (by simp [World.memory, World.forCall, Input.heap])) (by kernel_rfl) (by kernel_rfl)

set_option maxHeartbeats 1000000 in
set_option maxRecDepth 100000 in
theorem lifted (os : Os) (started : os.Started) (H : Type) (enc : TypeId × Value → H) :
    ReturnsInHanded {} Tryz.checked os 4 .any (fun w args => (Rows.answerWrongsSpec.pre enc Tryz.prog Tryz.f4 [] false w args ∧ laidMetH Tryz.prog laid w) ∧ sizedMet enc Tryz.prog Tryz.f4 (OpenSpec.ofChange Rows.answerWrongsSpec) false w args)
      (Rows.answerWrongsSpec.post enc Tryz.prog Tryz.f4 false true false false) := by
  refine returnsInHanded_of_row (C := Tryz.checked) (s := OpenSpec.ofChange Rows.answerWrongsSpec) (F := fun _ _ _ => 0) (laid := laid) (conds := []) (apart := false) own started (by kernel_rfl) Tryz.func4
    (ChangeSpec.witness_shaped (enc := enc) (C := Tryz.checked) (os := os) (X := fun w _ => laidMetH Tryz.prog laid w) false (startW os) #[.int .i64 0, .int .i64 0, .int .i64 0, .bool false] 8 (startW_os os) (World.shaped_of_RefB (by kernel_rfl) (by kernel_rfl)) (by kernel_rfl) (by kernel_rfl) (by kernel_rfl) (start_met os _)) ?_
  intro W base args ds gs before hval0 hW _ _ _ hL hsh _
  have hval : ∀ (j : Nat) t v, Tryz.f4.params[j]? = some t → args[j]? = some v → Value.okWide Tryz.prog W .any base t v := hval0
  have hW' := hW
  obtain ⟨p, q, hA0, hV, rfl, hfz, hnd⟩ := hW
  have hA : DataW.TrodAll enc Tryz.prog W 0 (fun _ => true) true Tryz.f4.params.toList args.toList ds p := hA0
  rw [Tryz.params4] at hA hval
  obtain ⟨v0, vs0, d0, ds0, p0, q0, hargs, rfl, rfl, h0, r0⟩ := trodAll_cons hA
  obtain ⟨v1, vs1, d1, ds1, p1, q1, rfl, rfl, rfl, h1, r1⟩ := trodAll_cons r0
  obtain ⟨v2, vs2, d2, ds2, p2, q2, rfl, rfl, rfl, h2, r2⟩ := trodAll_cons r1
  obtain ⟨v3, vs3, d3, ds3, p3, q3, rfl, rfl, rfl, h3, r3⟩ := trodAll_cons r2
  obtain ⟨rfl, rfl, rfl⟩ := trodAll_nil r3
  obtain rfl : args = #[v0, v1, v2, v3] := by cases args; simp_all
  obtain ⟨rfl, rfl⟩ := trodVars_none hV
  have k0 := h0
  have lt0 := trod_lt_of h0
  have k1 := h1
  have lt1 := trod_lt_of h1
  have k2 := h2
  have lt2 := trod_lt_of h2
  have k3 := h3
  have lt3 := trod_lt_of h3
  obtain ⟨a0, rfl, rfl, rfl, w0⟩ := open_int Tryz.underlying3 (hval 0 3 v0 rfl rfl) h0
  obtain ⟨a1, rfl, rfl, rfl, w1⟩ := open_int Tryz.underlying3 (hval 1 3 v1 rfl rfl) h1
  obtain ⟨a2, rfl, rfl, rfl, w2⟩ := open_int Tryz.underlying3 (hval 2 3 v2 rfl rfl) h2
  obtain ⟨a3, rfl, rfl, rfl⟩ := open_bool Tryz.underlying4 (hval 3 4 v3 rfl rfl) h3
  have x0 : -9223372036854775808 ≤ a0 ∧ a0 ≤ 9223372036854775807 := by
    simp [Lit.wf, show IntKind.i64.min = -9223372036854775808 from by decide, show IntKind.i64.max = 9223372036854775807 from by decide] at w0
    omega
  have x1 : -9223372036854775808 ≤ a1 ∧ a1 ≤ 9223372036854775807 := by
    simp [Lit.wf, show IntKind.i64.min = -9223372036854775808 from by decide, show IntKind.i64.max = 9223372036854775807 from by decide] at w1
    omega
  have x2 : -9223372036854775808 ≤ a2 ∧ a2 ≤ 9223372036854775807 := by
    simp [Lit.wf, show IntKind.i64.min = -9223372036854775808 from by decide, show IntKind.i64.max = 9223372036854775807 from by decide] at w2
    omega
  have hg := handle_of_laid hL
  obtain ⟨m0, hm0⟩ := cell_of_shapedOpen_int (P := Tryz.prog) (g := 3) (t := 3) (zero := #[.int .i64 0]) hsh (of_decide_eq_true (by kernel_rfl)) (by kernel_rfl) rfl (by kernel_rfl) (by kernel_rfl) Tryz.underlying3
  have clt : ∀ (a : Addr) (v : Value), W.cell? a = some v → a.block < W.heap.size := fun a v h => by
    rcases Nat.lt_or_ge a.block W.heap.size with hlt | hge
    · exact hlt
    · have e : W.heap[a.block]? = none := Array.getElem?_eq_none hge
      simp [World.cell?, e] at h
  have hml : Ml W := ⟨clt _ _ hm0, m0, hm0⟩
  have hvb : Vb W := ⟨clt _ _ (verbs_of_laid hL 0 (by decide)), verbs_of_laid hL⟩
  have hgl : 1 < W.heap.size := clt _ _ hg
  have htb : Tb W := ⟨tab_of_laid hL, by rcases Nat.lt_or_ge 2 W.heap.size with h | h; exact h; exact absurd (tab_of_laid hL) (by unfold Lib.TabIs World.var?; rw [gp]; simp only [Option.bind_some]; rw [Array.getElem?_eq_none h]; intro e; cases e)⟩
  clear hA0 hval0
  refine (walk a0 a1 a2 a3 x0 x1 x2 W hg hgl hvb htb hml).mono fun e W' ⟨he, bel⟩ => ?_
  subst he
  exact ⟨_, rfl, _, _, _, [], _, [], hW', trodAll_mk1 (shut_bool Tryz.underlying4 _), (trodAll_cons_mk (Below.trod laidOut (by kernel_rfl) (of_decide_eq_true (by kernel_rfl)) k0 bel lt0) (trodAll_cons_mk (Below.trod laidOut (by kernel_rfl) (of_decide_eq_true (by kernel_rfl)) k1 bel lt1) (trodAll_cons_mk (Below.trod laidOut (by kernel_rfl) (of_decide_eq_true (by kernel_rfl)) k2 bel lt2) (trodAll_cons_mk (Below.trod laidOut (by kernel_rfl) (of_decide_eq_true (by kernel_rfl)) k3 bel lt3) trodAll_mk0)))), rfl, bel.frame _, fun h => by cases h⟩

theorem over : Rows.AnswerWrongsSaid :=
  OpenClaim.holds_of_wide 4 Tryz.f4 rfl rfl rfl rfl rfl rfl rfl ⟨rfl, rfl, rfl, rfl, rfl⟩ rfl rfl rfl rfl rfl (by kernel_rfl) Tryz.func4 (by kernel_rfl)
    (of_decide_eq_true (by kernel_rfl)) (by unfold Func.isWrapper; first | (rw [if_pos (by decide +kernel)]; kernel_rfl) | (rw [if_neg (by decide +kernel)]; exact ⟨rfl, rfl⟩))
    (fun os started H enc _ => lifted os started H enc)
theorem noStandIn : ∀ t ∈ ([3, 3, 3, 4] : List TypeId), Tryz.prog.wantsStandIn t = false := by
  intro t h
  simp only [List.mem_cons, List.not_mem_nil, or_false] at h
  rcases h with rfl | rfl | rfl | rfl
  all_goals kernel_rfl
theorem proved : Rows.AnswerWrongsCardSaid :=
  Claim7.holds_tied_plain_at .later [] [.data, .data, .data, .data, .handle, .sentinel, .sentinel, .data, .pinned] true (true, "fbdaf1cf7a37bc7b980f62f19615e2c4dbcad518276fa5db8ef898d5f4e55115") true
    over (fun _ h => by cases h) (by kernel_rfl) (fun _ h => by cases h) answerWrongs_row_tie rfl ⟨rfl, rfl⟩ (by kernel_rfl) rfl
    (fun f fn hf hfn => by
      obtain rfl : f = 4 := Option.some.inj ((show Tryz.prog.funcNamed "gloaming/gloaminglaw16.AnswerWrongs" = some 4 by kernel_rfl).symm.trans hf) |>.symm
      obtain rfl : fn = Tryz.f4 := (Option.some.inj (Tryz.func4.symm.trans hfn)).symm
      exact ⟨by kernel_rfl, fun j t ht => noStandIn t (by
        rw [Tryz.params4] at ht
        have hm := List.mem_of_getElem? (l := [3, 3, 3, 4]) (i := j) (a := t) (by simpa using ht)
        exact hm)⟩)
    (by kernel_rfl)
#print axioms proved
end Go.Proofs.YtinciphhoieonaaGreatDoor.answerWrongs
