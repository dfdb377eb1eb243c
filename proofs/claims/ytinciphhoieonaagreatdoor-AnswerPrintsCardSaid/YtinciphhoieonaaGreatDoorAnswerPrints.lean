/-
  The law AnswerPrints.
-/
import Derived.Test.YtinciphhoieonaaGreatDoorRows
import Derived.Test.YtinciphhoieonaaGreatDoorCards
import Derived.Test.YtinciphhoieonaaGreatDoorTie
import Derived.Test.YtinciphhoieonaaGreatDoorKit
import Derived.ChangeSame
import Derived.ChangeVars
import Derived.JoinedOf
import Derived.RowKit
import Derived.RowKitTokens
import Derived.LaidLaws
import Derived.LaidHandle
import Derived.Stop.Joined
import Derived.SevenTiedAt
import Derived.LaidSub
import Derived.LaidMore
import Derived.Deep.DeepLaidRun
import Derived.Deep.DeepHandedRow
import Derived.Shelf.Vars
import Derived.Lay
import Derived.Test.YtinciphhoieonaaGreatDoorAnZs
import Derived.Test.YtinciphhoieonaaGreatDoorAnswerPrintsW
namespace Go.Proofs.YtinciphhoieonaaGreatDoor.answerPrints
open Go.ChangeShapes Go.WideShapes Go.ChangeAt Go.RowKit

theorem own : ownKnob Tryz.prog.godebug = none := by kernel_rfl
theorem laidOut : laidOutB Tryz.prog = true := by kernel_rfl
theorem gv : Tryz.prog.globalNamed "gloaming/line.verbs" = some 0 := by kernel_rfl
theorem tv : (Tryz.prog.globals[0]?).map (·.type) = some 72 := by kernel_rfl
def laid : List (String × DataW Unit) := [("math/bits.deBruijn32tab", Rows.laid_math_bits_deBruijn32tab), ("math/bits.deBruijn64tab", Rows.laid_math_bits_deBruijn64tab), ("internal/strconv.uint64pow10", Rows.laid_internal_strconv_uint64pow10), ("unicode/utf8.acceptRanges", Rows.laid_unicode_utf8_acceptRanges), ("strconv.ErrRange", Rows.laid_strconv_ErrRange), ("strconv.ErrSyntax", Rows.laid_strconv_ErrSyntax), ("gloaming/line.verbs", Rows.laid_gloaming_line_verbs), ("unicode/utf8.first", Rows.laid_unicode_utf8_first)]
/-- .. and the table of verbs. -/
theorem verbs_of_laid {W : World} (h : laidMetH Tryz.prog laid W) : ∀ k : Nat, k ≤ 4 → W.cell? ⟨0, k, none⟩ = some (.string (vb k)) := by
  have h1 := ((laidMetH_iff.1 h).1).filter (fun x => x.1 == "gloaming/line.verbs")
  have hl : ((laid.filter fun x => x.2.handleName?.isNone).filter fun x => x.1 == "gloaming/line.verbs") = [("gloaming/line.verbs", Rows.laid_gloaming_line_verbs)] := by kernel_rfl
  rw [hl] at h1
  obtain ⟨ps, ⟨g0, t0, cs0, f0, p0, q0, hg0, ht0, hv0, hd0, _, _⟩, _, _⟩ := h1
  obtain rfl := Option.some.inj (gv.symm.trans hg0)
  obtain rfl := Option.some.inj (tv.symm.trans ht0)
  obtain ⟨xs, m1, rfl, hx1, hlen, hn5, hel⟩ := DataW.trod_array Tryz.underlying72 hd0
  have c9 : Tryz.prog.cellsOf 9 = 1 := by kernel_rfl
  simp only [Rows.laid_gloaming_line_verbs, Prod.mk.injEq, DataW.agg.injEq] at hx1
  intro k hk
  have hk5 : k < 5 := by omega
  have he := hel k hk5
  have hxk : (xs.map (·.1))[k]? = some (DataW.lit (.string (vb k).data.toList)) := by
    rw [← hx1.1]
    rcases (show k = 0 ∨ k = 1 ∨ k = 2 ∨ k = 3 ∨ k = 4 by omega) with rfl | rfl | rfl | rfl | rfl <;> rfl
  have hkx : k < xs.length := by rw [hn5]; exact hk5
  rw [List.getElem?_eq_getElem hkx, c9] at he
  rw [List.getElem?_map, List.getElem?_eq_getElem hkx, Option.map_some] at hxk
  obtain ⟨s, e1, e2, _⟩ := DataW.trod_string Tryz.underlying9 he
  rw [e2] at hxk
  have hs : s.data.toList = (vb k).data.toList := by simpa using hxk
  have hsv : s = vb k := by rw [← Bs_of s, ← Bs_of (vb k), hs]
  have hc := World.var?_cell gv hv0 k
  rw [hc, ← hsv]
  have h2 : (cs0.toList.drop (k * 1))[0]? = some (.string s) := by
    have h3 := congrArg (fun l => l[0]?) e1
    simpa using h3
  rw [Nat.mul_one, List.getElem?_drop, Nat.add_zero] at h2
  simpa using h2
theorem gp : Tryz.prog.globalNamed "internal/strconv.uint64pow10" = some 2 := by kernel_rfl
/-- .. and the table of powers of ten. -/
theorem tab_of_laid {W : World} (h : laidMetH Tryz.prog laid W) : Lib.TabIs Tryz.prog W "internal/strconv.uint64pow10" .u64 Lib.pow10Tab := by
  have h1 := ((laidMetH_iff.1 h).1).filter (fun x => x.1 == "internal/strconv.uint64pow10")
  have hl : ((laid.filter fun x => x.2.handleName?.isNone).filter fun x => x.1 == "internal/strconv.uint64pow10") = [("internal/strconv.uint64pow10", Lib.tabData .u64 Lib.pow10Tab)] := by kernel_rfl
  rw [hl] at h1
  exact Lib.tabIs_of_head gp (t := 141) (e := 124) (n := 20) (by kernel_rfl) Tryz.underlying141 Tryz.underlying124 (by kernel_rfl) (by kernel_rfl) h1
theorem noHandle (w : World) (h : laidMet Tryz.prog laid w) : laidMetH Tryz.prog laid w := by
  have e : (laid.filter fun x => x.2.handleName?.isSome) = [] := by kernel_rfl
  unfold laidMetH
  rw [e]
  exact h
theorem start_met (os : Os) (args : Array Value) : laidMetH Tryz.prog laid ((World.laidAll Tryz.prog os laid).forCall (fun _ _ => 0) ⟨#[], args, []⟩).memory :=
  noHandle _ (laidMet_laidAll args (by kernel_rfl) (by kernel_rfl))

set_option maxHeartbeats 1000000 in
set_option maxRecDepth 100000 in
theorem lifted (os : Os) (started : os.Started) (H : Type) (enc : TypeId × Value → H) :
    ReturnsInHanded {} Tryz.checked os 3 .any (fun w args => (Rows.answerPrintsSpec.pre enc Tryz.prog Tryz.f3 [] false w args ∧ laidMetH Tryz.prog laid w) ∧ sizedMet enc Tryz.prog Tryz.f3 (OpenSpec.ofChange Rows.answerPrintsSpec) false w args)
      (Rows.answerPrintsSpec.post enc Tryz.prog Tryz.f3 false true false false) := by
  refine returnsInHanded_of_row (C := Tryz.checked) (s := OpenSpec.ofChange Rows.answerPrintsSpec) (F := fun _ _ _ => 0) (laid := laid) (conds := []) (apart := false) own started (by kernel_rfl) Tryz.func3
    (ChangeSpec.witness_shaped (enc := enc) (C := Tryz.checked) (os := os) (X := fun w _ => laidMetH Tryz.prog laid w) false (World.laidAll Tryz.prog os laid) #[.agg (List.toArray [.int .i64 0, .int .i64 0, .int .i64 0, .int .i64 0, .int .i64 0, .bool false, .int .i64 0, .int .i64 0, .int .i64 0, .int .i64 0, .int .i64 0, .int .i64 0, .slice none 0 0])] 8 (World.laidAll_os _ _ _) (World.shaped_of_RefB (by kernel_rfl) (by kernel_rfl)) (by kernel_rfl) (by kernel_rfl) (by kernel_rfl) (start_met os _)) ?_
  intro W base args ds gs before hval0 hW _ _ hsz hL hsh _
  have hval : ∀ (j : Nat) t v, Tryz.f3.params[j]? = some t → args[j]? = some v → Value.okWide Tryz.prog W .any base t v := hval0
  have hW' := hW
  obtain ⟨p, q, hA0, hV, rfl, hfz, hnd⟩ := hW
  have hA : DataW.TrodAll enc Tryz.prog W 0 (fun _ => true) true Tryz.f3.params.toList args.toList ds p := hA0
  rw [Tryz.params3] at hA hval
  obtain ⟨v0, vs0, d0, ds0, p0, q0, hargs, rfl, rfl, h0, r0⟩ := trodAll_cons hA
  obtain ⟨rfl, rfl, rfl⟩ := trodAll_nil r0
  obtain rfl : args = #[v0] := by cases args; simp_all
  obtain ⟨rfl, rfl⟩ := trodVars_none hV
  have k0 := h0
  have lt0 := trod_lt_of h0
  have z0 : ∀ n ∈ DataW.weights Tryz.prog 27 d0, n ≤ reachBytes := fun n hn => by
    have h9 := List.all_eq_true.1 hsz n (DataW.weights_mem_each (j := 0) (t := 27) (d := d0) rfl rfl n hn)
    simpa using h9
  obtain ⟨ka, cda, ta, ia, ca, aska, r0_a, r1_a, r2_a, r3_a, r4_a, r5_a, La, Aa, capa, rfl, ha1, ha2, ha3⟩ := open_reply (hval 0 27 v0 rfl rfl) h0 z0
  obtain ⟨m0, hm0⟩ := cell_of_shapedOpen_int (P := Tryz.prog) (g := 3) (t := 3) (zero := #[.int .i64 0]) hsh (of_decide_eq_true (by kernel_rfl)) (by kernel_rfl) rfl (by kernel_rfl) (by kernel_rfl) Tryz.underlying3
  have hml : Ml W := ⟨cell_lt hm0, m0, hm0⟩
  have hvb : Vb W := ⟨cell_lt (verbs_of_laid hL 0 (by decide)), verbs_of_laid hL⟩
  have htb : Tb W := ⟨tab_of_laid hL, by rcases Nat.lt_or_ge 2 W.heap.size with h | h; exact h; exact absurd (tab_of_laid hL) (by unfold Lib.TabIs World.var?; rw [gp]; simp only [Option.bind_some]; rw [Array.getElem?_eq_none h]; intro e; cases e)⟩
  clear hA0 hval0
  refine (walk ka cda ta ia ca aska r0_a r1_a r2_a r3_a r4_a r5_a La Aa capa ha1 ha2 W ha3 hvb htb hml).mono fun e W' ⟨he, bel⟩ => ?_
  subst he
  exact ⟨_, rfl, _, _, _, [], _, [], hW', trodAll_mk1 (shut_bool Tryz.underlying4 _), (trodAll_cons_mk (Below.trod laidOut (by kernel_rfl) (of_decide_eq_true (by kernel_rfl)) k0 bel lt0) trodAll_mk0), rfl, bel.frame _, fun h => by cases h⟩

theorem over : Rows.AnswerPrintsSaid :=
  OpenClaim.holds_of_wide 3 Tryz.f3 rfl rfl rfl rfl rfl rfl rfl ⟨rfl, rfl, rfl, rfl, rfl⟩ rfl rfl rfl rfl rfl (by kernel_rfl) Tryz.func3 (by kernel_rfl)
    (of_decide_eq_true (by kernel_rfl)) (by unfold Func.isWrapper; first | (rw [if_pos (by decide +kernel)]; kernel_rfl) | (rw [if_neg (by decide +kernel)]; exact ⟨rfl, rfl⟩))
    (fun os started H enc _ => lifted os started H enc)
theorem noStandIn : ∀ t ∈ ([27] : List TypeId), Tryz.prog.wantsStandIn t = false := by
  intro t h
  simp only [List.mem_cons, List.not_mem_nil, or_false] at h
  rcases h with rfl
  all_goals kernel_rfl
theorem proved : Rows.AnswerPrintsCardSaid :=
  Claim7.holds_tied_plain_at .later [] [.data, .data, .data, .data, .sentinel, .sentinel, .data, .pinned] true (true, "fbdaf1cf7a37bc7b980f62f19615e2c4dbcad518276fa5db8ef898d5f4e55115") true
    over (fun _ h => by cases h) (by kernel_rfl) (fun _ h => by cases h) answerPrints_row_tie rfl ⟨rfl, rfl⟩ (by kernel_rfl) rfl
    (fun f fn hf hfn => by
      obtain rfl : f = 3 := Option.some.inj ((show Tryz.prog.funcNamed "gloaming/gloaminglaw16.AnswerPrints" = some 3 by kernel_rfl).symm.trans hf) |>.symm
      obtain rfl : fn = Tryz.f3 := (Option.some.inj (Tryz.func3.symm.trans hfn)).symm
      exact ⟨by kernel_rfl, fun j t ht => noStandIn t (by
        rw [Tryz.params3] at ht
        have hm := List.mem_of_getElem? (l := [27]) (i := j) (a := t) (by simpa using ht)
        exact hm)⟩)
    (by kernel_rfl)
#print axioms proved
end Go.Proofs.YtinciphhoieonaaGreatDoor.answerPrints
