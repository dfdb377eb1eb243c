/-
  The law LineBack.
-/
import Derived.Test.YtnppopeoloigeaaDoorRows
import Derived.Test.YtnppopeoloigeaaDoorCards
import Derived.Test.YtnppopeoloigeaaDoorTie
import Derived.Test.YtnppopeoloigeaaDoorKit
import Derived.ChangeSame
import Derived.ChangeVars
import Derived.JoinedOf
import Derived.RowKit
import Derived.RowKitTokens
import Derived.LaidLaws
import Derived.LaidHandle
import Derived.Stop.Joined
import Derived.SevenTiedAt
import Derived.LaidSub
import Derived.LaidMore
import Derived.Deep.DeepLaidRun
import Derived.Test.YtnppopeoloigeaaDoorLineBackW
import Derived.Test.YtnppopeoloigeaaDoorLnAk
namespace Go.Proofs.YtnppopeoloigeaaDoor.lineBack
open Go.ChangeShapes Go.WideShapes Go.ChangeAt Go.RowKit
open Go.ChangeMaps (open_string shut_string)

theorem own : ownKnob Tryd.prog.godebug = none := by kernel_rfl
theorem laidOut : laidOutB Tryd.prog = true := by kernel_rfl
theorem et : Tryd.prog.globalNamed "errors.errorType" = some 1 := by kernel_rfl
theorem gv : Tryd.prog.globalNamed "gloaming/line.verbs" = some 0 := by kernel_rfl
theorem tv : (Tryd.prog.globals[0]?).map (·.type) = some 80 := by kernel_rfl
theorem rt : (Tryd.prog.cutTypes.find? (·.1 == "internal/reflectlite.rtype")).map (·.2) = some 106 := by kernel_rfl
theorem oneRow : ((List.range 188).filter fun t => Tryd.prog.rowNamed t [101, 114, 114, 111, 114]) = [28] := by kernel_rfl
theorem size : Tryd.prog.types.size = 188 := by kernel_rfl
def laid : List (String × DataW Unit) := [("math/bits.deBruijn32tab", Rows.laid_math_bits_deBruijn32tab), ("math/bits.deBruijn64tab", Rows.laid_math_bits_deBruijn64tab), ("internal/strconv.uint64pow10", Rows.laid_internal_strconv_uint64pow10), ("errors.errorType", Rows.laid_errors_errorType), ("strconv.ErrRange", Rows.laid_strconv_ErrRange), ("strconv.ErrSyntax", Rows.laid_strconv_ErrSyntax), ("gloaming/line.verbs", Rows.laid_gloaming_line_verbs)]
/-- What the condition gives a walk: the cell of errors.errorType. -/
theorem handle_of_laid {W : World} (h : laidMetH Tryd.prog laid W) : W.cell? ⟨1, 0, none⟩ = some (.iface 106 (.agg #[.pointer (some ⟨8, 28, none⟩)])) := by
  have h' := (laidMetH_iff.1 h).2
  obtain ⟨name, u, ty, e1, e2, e3, e4, e5⟩ := h' ("errors.errorType", Rows.laid_errors_errorType) (List.mem_filter.2 ⟨by simp [laid], by kernel_rfl⟩)
  have en : name = [101, 114, 114, 111, 114] := (Option.some.inj e1).symm
  subst en
  obtain rfl := Option.some.inj (rt.symm.trans e2)
  have hm : ty ∈ (List.range 188).filter fun t => Tryd.prog.rowNamed t [101, 114, 114, 111, 114] := List.mem_filter.2 ⟨List.mem_range.2 (by rw [← size]; exact e3), e4⟩
  rw [oneRow] at hm
  obtain rfl := List.mem_singleton.1 hm
  have hh : typeHandle Tryd.prog 28 = .pointer (some ⟨8, 28, none⟩) := by kernel_rfl
  rw [hh] at e5
  simpa using World.var?_cell et e5 0
/-- .. and the table of verbs. -/
theorem verbs_of_laid {W : World} (h : laidMetH Tryd.prog laid W) : ∀ k : Nat, k ≤ 4 → W.cell? ⟨0, k, none⟩ = some (.string (vb k)) := by
  have h1 := ((laidMetH_iff.1 h).1).filter (fun x => x.1 == "gloaming/line.verbs")
  have hl : ((laid.filter fun x => x.2.handleName?.isNone).filter fun x => x.1 == "gloaming/line.verbs") = [("gloaming/line.verbs", Rows.laid_gloaming_line_verbs)] := by kernel_rfl
  rw [hl] at h1
  obtain ⟨ps, ⟨g0, t0, cs0, f0, p0, q0, hg0, ht0, hv0, hd0, _, _⟩, _, _⟩ := h1
  obtain rfl := Option.some.inj (gv.symm.trans hg0)
  obtain rfl := Option.some.inj (tv.symm.trans ht0)
  obtain ⟨xs, m1, rfl, hx1, hlen, hn5, hel⟩ := DataW.trod_array Tryd.underlying80 hd0
  have c9 : Tryd.prog.cellsOf 9 = 1 := by kernel_rfl
  simp only [Rows.laid_gloaming_line_verbs, Prod.mk.injEq, DataW.agg.injEq] at hx1
  intro k hk
  have hk5 : k < 5 := by omega
  have he := hel k hk5
  have hxk : (xs.map (·.1))[k]? = some (DataW.lit (.string (vb k).data.toList)) := by
    rw [← hx1.1]
    rcases (show k = 0 ∨ k = 1 ∨ k = 2 ∨ k = 3 ∨ k = 4 by omega) with rfl | rfl | rfl | rfl | rfl <;> rfl
  have hkx : k < xs.length := by rw [hn5]; exact hk5
  rw [List.getElem?_eq_getElem hkx, c9] at he
  rw [List.getElem?_map, List.getElem?_eq_getElem hkx, Option.map_some] at hxk
  obtain ⟨s, e1, e2, _⟩ := DataW.trod_string Tryd.underlying9 he
  rw [e2] at hxk
  have hs : s.data.toList = (vb k).data.toList := by simpa using hxk
  have hsv : s = vb k := by rw [← Bs_of s, ← Bs_of (vb k), hs]
  have hc := World.var?_cell gv hv0 k
  rw [hc, ← hsv]
  have h2 : (cs0.toList.drop (k * 1))[0]? = some (.string s) := by
    have h3 := congrArg (fun l => l[0]?) e1
    simpa using h3
  rw [Nat.mul_one, List.getElem?_drop, Nat.add_zero] at h2
  simpa using h2
theorem gp : Tryd.prog.globalNamed "internal/strconv.uint64pow10" = some 5 := by kernel_rfl
/-- .. and the table of powers of ten. -/
theorem tab_of_laid {W : World} (h : laidMetH Tryd.prog laid W) : Lib.TabIs Tryd.prog W "internal/strconv.uint64pow10" .u64 Lib.pow10Tab := by
  have h1 := ((laidMetH_iff.1 h).1).filter (fun x => x.1 == "internal/strconv.uint64pow10")
  have hl : ((laid.filter fun x => x.2.handleName?.isNone).filter fun x => x.1 == "internal/strconv.uint64pow10") = [("internal/strconv.uint64pow10", Lib.tabData .u64 Lib.pow10Tab)] := by kernel_rfl
  rw [hl] at h1
  exact Lib.tabIs_of_head gp (t := 150) (e := 133) (n := 20) (by kernel_rfl) Tryd.underlying150 Tryd.underlying133 (by kernel_rfl) (by kernel_rfl) h1
theorem door_met (os : Os) (args : Array Value) : laidMetH Tryd.prog laid ((World.doorLaid Tryd.prog 600 os).forCall (fun _ _ => 0) ⟨#[], args, []⟩).memory :=
  laidMetH_of_parts3 (fuel := 8) (laidMet_of_run' 8 (by kernel_rfl) (by kernel_rfl)) (by kernel_rfl) (by kernel_rfl)

set_option maxHeartbeats 1000000 in
set_option maxRecDepth 100000 in
theorem lifted (os : Os) (started : os.Started) (H : Type) (enc : TypeId × Value → H) :
    ReturnsInHanded {} Tryd.checked os 5 .any (fun w args => (Rows.lineBackSpec.pre enc Tryd.prog Tryd.f5 [] false w args ∧ laidMetH Tryd.prog laid w) ∧ sizedMet enc Tryd.prog Tryd.f5 (OpenSpec.ofChange Rows.lineBackSpec) false w args)
      (Rows.lineBackSpec.post enc Tryd.prog Tryd.f5 false true false false) := by
  refine returnsInHanded_of_change_and (C := Tryd.checked) (X := fun w _ => laidMetH Tryd.prog laid w) (fun _ _ _ hh h => h.of_heap hh) own started (by kernel_rfl) Tryd.func5
    (ChangeSpec.witness_shaped (enc := enc) (C := Tryd.checked) (os := os) (X := fun w _ => laidMetH Tryd.prog laid w) false (World.doorLaid Tryd.prog 600 os) #[.string ByteArray.empty, .agg (List.toArray [.int .i64 0, .int .i64 0, .int .i64 0, .int .i64 0, .int .i64 0, .int .i64 0, .int .i64 0, .int .i64 0, .int .i64 0])] 8 rfl (World.shaped_of_RefB (by kernel_rfl) (by kernel_rfl)) (by kernel_rfl) (by kernel_rfl) (by kernel_rfl) (door_met os _)) ?_
  intro W base args ds gs before hval0 hW _ _ hL _
  have hval : ∀ (j : Nat) t v, Tryd.f5.params[j]? = some t → args[j]? = some v → Value.okWide Tryd.prog W .any base t v := hval0
  have hW' := hW
  obtain ⟨p, q, hA0, hV, rfl, hfz, hnd⟩ := hW
  have hA : DataW.TrodAll enc Tryd.prog W 0 (fun _ => true) true Tryd.f5.params.toList args.toList ds p := hA0
  rw [Tryd.params5] at hA hval
  obtain ⟨v0, vs0, d0, ds0, p0, q0, hargs, rfl, rfl, h0, r0⟩ := trodAll_cons hA
  obtain ⟨v1, vs1, d1, ds1, p1, q1, rfl, rfl, rfl, h1, r1⟩ := trodAll_cons r0
  obtain ⟨rfl, rfl, rfl⟩ := trodAll_nil r1
  obtain rfl : args = #[v0, v1] := by cases args; simp_all
  obtain ⟨rfl, rfl⟩ := trodVars_none hV
  have k0 := h0
  have lt0 := trod_lt_of h0
  have k1 := h1
  have lt1 := trod_lt_of h1
  obtain ⟨a0, rfl, rfl, rfl, w0⟩ := open_string Tryd.underlying9 (hval 0 9 v0 rfl rfl) h0
  obtain ⟨z10, z11, z12, z13, z14, z15, z16, z17, z18, rfl⟩ := open_ask (hval 1 31 v1 rfl rfl) h1
  have hg := handle_of_laid hL
  have hgl : 1 < W.heap.size := by
    rcases Nat.lt_or_ge 1 W.heap.size with h | h
    · exact h
    · have e : W.heap[1]? = none := Array.getElem?_eq_none h
      simp [World.cell?, e] at hg
  have hwd : Wd W := ⟨⟨by omega, verbs_of_laid hL⟩, hg, hgl⟩
  have htb : Tb W := ⟨tab_of_laid hL, by have := hgl; rcases Nat.lt_or_ge 5 W.heap.size with h | h; exact h; exact absurd (tab_of_laid hL) (by unfold Lib.TabIs World.var?; rw [gp]; simp only [Option.bind_some]; rw [Array.getElem?_eq_none h]; intro e; cases e)⟩
  clear hA0 hval0
  refine (walk a0 z10 z11 z12 z13 z14 z15 z16 z17 z18 W hwd htb).mono fun e W' ⟨he, bel⟩ => ?_
  subst he
  exact ⟨_, rfl, _, _, _, [], _, [], hW', trodAll_mk1 (shut_bool Tryd.underlying4 _), (trodAll_cons_mk (Below.trod laidOut (by kernel_rfl) (of_decide_eq_true (by kernel_rfl)) k0 bel lt0) (trodAll_cons_mk (Below.trod laidOut (by kernel_rfl) (of_decide_eq_true (by kernel_rfl)) k1 bel lt1) trodAll_mk0)), rfl, bel.frame _, fun h => by cases h⟩

theorem over : Rows.LineBackSaid :=
  OpenClaim.holds_of_wide 5 Tryd.f5 rfl rfl rfl rfl rfl rfl rfl ⟨rfl, rfl, rfl, rfl, rfl⟩ rfl rfl rfl rfl rfl (by kernel_rfl) Tryd.func5 (by kernel_rfl)
    (of_decide_eq_true (by kernel_rfl)) (by unfold Func.isWrapper; first | (rw [if_pos (by decide +kernel)]; kernel_rfl) | (rw [if_neg (by decide +kernel)]; exact ⟨rfl, rfl⟩))
    (fun os started H enc _ => lifted os started H enc)
theorem noStandIn : ∀ t ∈ ([9, 31] : List TypeId), Tryd.prog.wantsStandIn t = false := by
  intro t h
  simp only [List.mem_cons, List.not_mem_nil, or_false] at h
  rcases h with rfl | rfl
  all_goals kernel_rfl
theorem proved : Rows.LineBackCardSaid :=
  Claim7.holds_tied_plain_at .later [] [.data, .data, .data, .handle, .sentinel, .sentinel, .data] true (true, "ea3fcf657f421b221f5378311b6520291698bbd3a72ba8341b06e00be5c53268") true
    over (fun _ h => by cases h) (by kernel_rfl) (fun _ h => by cases h) lineBack_row_tie rfl ⟨rfl, rfl⟩ (by kernel_rfl) rfl
    (fun f fn hf hfn => by
      obtain rfl : f = 5 := Option.some.inj ((show Tryd.prog.funcNamed "gloaming/gloaminglaw15.LineBack" = some 5 by kernel_rfl).symm.trans hf) |>.symm
      obtain rfl : fn = Tryd.f5 := (Option.some.inj (Tryd.func5.symm.trans hfn)).symm
      exact ⟨by kernel_rfl, fun j t ht => noStandIn t (by
        rw [Tryd.params5] at ht
        have hm := List.mem_of_getElem? (l := [9, 31]) (i := j) (a := t) (by simpa using ht)
        exact hm)⟩)
    (by kernel_rfl)
#print axioms proved
end Go.Proofs.YtnppopeoloigeaaDoor.lineBack
