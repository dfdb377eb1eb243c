/-
  Texts of the machine of pairs, part 10.
-/
import Derived.Test.YtmjkhefgpobinaaM1
import Derived.Test.YtmjkhefgpobinaaM5
import Derived.Test.YtmjkhefgpobinaaM6
import Derived.Test.YtmjkhefgpobinaaM9
namespace Go.Proofs.Ytmjkhefgpobinaa
open Go.ChangeShapes Go.WideShapes Go.ChangeAt Go.RowKit
/-- All stays but what the memory's blocks say. -/
structure Fm (M B : Nat) (w w' : World) : Prop where
  os : w'.os = w.os
  tape : w'.tape = w.tape
  output : w'.output = w.output
  size : w.heap.size ≤ w'.heap.size
  block : ∀ g, g < w.heap.size → g ≠ M → g ≠ B → w'.heap[g]? = w.heap[g]?
theorem Fm.of {M B : Nat} {w w' : World} (h : Below w.heap.size w w') : Fm M B w w' := ⟨h.os, h.tape, h.output, h.size, fun g hg _ _ => h.block g hg⟩
theorem Fm.oth {M B : Nat} {w w' : World} (h : Mm.Oth M B w w') : Fm M B w w' := ⟨h.1, h.2.1, h.2.2.1, h.2.2.2.1, h.2.2.2.2⟩
theorem Fm.to {M B : Nat} {w w' : World} (h : Fm M B w w') : Mm.Oth M B w w' := ⟨h.os, h.tape, h.output, h.size, h.block⟩
theorem Fm.trans {M B : Nat} {w w1 w2 : World} (h : Fm M B w w1) (g : Fm M B w1 w2) : Fm M B w w2 :=
  ⟨g.os.trans h.os, g.tape.trans h.tape, g.output.trans h.output, Nat.le_trans h.size g.size, fun x hx h1 h2 => (g.block x (Nat.lt_of_lt_of_le hx h.size) h1 h2).trans (h.block x hx h1 h2)⟩
theorem Fm.bl {M B X : Nat} {l : List Value} {w w' : World} (h : Fm M B w w') (hb : Bl X l w) (h1 : X ≠ M) (h2 : X ≠ B) : Bl X l w' := by
  have hl := hb.lt
  obtain ⟨t, hh⟩ := hb
  exact ⟨t, (h.block X hl h1 h2).trans hh⟩
theorem row_loc {w w' : World} {base : Nat} {e : TypeId} {size m : Nat} {u : Value} {xs : List Value} (h : w.ownsRow base e size u m xs) (hk : ∀ k, u.ownBlock = some k → k < w.heap.size → w'.heap[k]? = w.heap[k]?) : w'.ownsRow base e size u m xs := by
  refine ⟨h.1, ?_⟩
  rcases h.2 with h0 | ⟨g, cap, cur, hv, hg, hgh, hr⟩
  · exact .inl h0
  · have hlt : g < w.heap.size := by
      rcases Nat.lt_or_ge g w.heap.size with hlt | hge
      · exact hlt
      · rw [Array.getElem?_eq_none hge] at hgh; cases hgh
    exact .inr ⟨g, cap, cur, hv, hg, (hk g (by rw [hv]; rfl) hlt).trans hgh, hr⟩
/-- A block of a call's own changes. -/
theorem PW.loc {K : Nat} {C : Cfg} {W M B Ck : Nat} {ws : Nat → Int} {st now : Int} {lv : Value} {L : List Lg} {w w' : World} (h : PW K C W M B Ck ws st now lv L w) (X : Nat) (hX : K ≤ X) (hl : ∀ k, lv.ownBlock = some k → k ≠ X) (hs : w.heap.size ≤ w'.heap.size) (hk : ∀ k, k ≠ X → k < w.heap.size → w'.heap[k]? = w.heap[k]?) : PW K C W M B Ck ws st now lv L w' := by
  obtain ⟨l1, l2, l3, l4⟩ := h.lo
  have hK := h.hK
  refine ⟨?_, h.mem.far (hk M (by omega) (by omega)) (hk B (by omega) (by omega)) hs, ?_, row_loc h.row fun k e hlt => hk k (hl k e) hlt, h.lo, Nat.le_trans hK hs, h.ne⟩
  · obtain ⟨t, hh⟩ := h.blk
    exact ⟨t, (hk W (by omega) (by omega)).trans hh⟩
  · obtain ⟨t, hh⟩ := h.clk
    exact ⟨t, (hk Ck (by omega) (by omega)).trans hh⟩
theorem results_tc {P : Program} {fn : Func} {p q : Tmp} {ty : TypeId} (h : fn.results = #[.tmp q, .cell p ty]) (tmps : Array Value) (w : World) (g : Nat) (l : List Value) (d : TypeDesc) (v : Value)
    (hp : tmps.getD p undef = .pointer (some ⟨g, 0, none⟩)) (hq : tmps.getD q undef = v) (hg : Bl g l w)
    (hu : P.underlying ty = some d) (hd : (match d with | .struct _ | .array _ _ => true | _ => false) = true) (hi : (P.info? ty).map (·.size) = some l.length) :
    (results fn tmps).run P w = .ok (.tuple #[v, .agg l.toArray]) w := by
  obtain ⟨t, hh⟩ := hg
  have hp' : tmps[p]?.getD undef = .pointer (some ⟨g, 0, none⟩) := by simpa using hp
  have hq' : tmps[q]?.getD undef = v := by simpa using hq
  have hrun := run_loadVar_row w g t ty l.toArray (0, 0) d hh hu hd (by simpa using hi)
  simp [results, h, hp', hq', asAddr, hrun, Result.andThen]
theorem w8_fm {K : Nat} {C : Cfg} {W M B Ck : Nat} {ws : Nat → Int} {st now : Int} {lv : Value} {L : List Lg} {w : World} (h : PW K C W M B Ck ws st now lv L w) : w.cell? ⟨W, 0, none⟩ = some (.int .i64 (C.p : Int)) ∧ w.cell? ⟨W, 1, none⟩ = some (.int .i64 (C.c : Int)) ∧ w.cell? ⟨W, 2, none⟩ = some (.int .i64 C.n) ∧ w.cell? ⟨W, 3, none⟩ = some (.int .i64 C.b) ∧ w.cell? ⟨W, 4, none⟩ = some (.int .i64 C.r) ∧ w.cell? ⟨W, 5, none⟩ = some (.int .i64 (C.f : Int)) ∧ w.cell? ⟨W, 6, none⟩ = some (.int .i64 (C.g : Int)) ∧ w.cell? ⟨W, 7, none⟩ = some (.pointer (some ⟨M, 0, none⟩)) :=
  ⟨h.blk.cell 0 _ rfl, h.blk.cell 1 _ rfl, h.blk.cell 2 _ rfl, h.blk.cell 3 _ rfl, h.blk.cell 4 _ rfl, h.blk.cell 5 _ rfl, h.blk.cell 6 _ rfl, h.blk.cell 7 _ rfl⟩
section
variable {K : Nat} {C : Cfg} {W M B Ck : Nat} {ws ws' : Nat → Int} {st st' now : Int} {lv : Value} {L : List Lg} {w w' : World}
/-- A state's cells, of a word. -/
def sv (x : Nat) : Value := .agg #[.int .i64 (fld shc x 0), .bool (fld shc x 1 == 1), .int .i64 (fld shc x 2), .int .i64 (fld shc x 3), .int .i64 (fld shc x 4)]
set_option maxRecDepth 100000 in
set_option maxHeartbeats 4000000 in
theorem state_w (h : PW K C W M B Ck ws st now lv L w) (hC : C.Ok) (i : Nat) (hi : i < C.A) (x : Nat) (hx : ws (2 * i) = (x : Int)) (hs : 0 ≤ st ∧ st ≤ 1000000) :
    Calls Try.prog 13 #[.pointer (some ⟨W, 0, none⟩), .int .i64 (i : Int)] w fun e w' => e = .returned (.tuple #[.int .u64 (x : Int), sv x]) ∧ PW K C W M B Ck ws (st + 1) now lv L w' ∧ Fm M B w w' := by
  have hxb : x < 18446744073709551616 := by
    have := h.mem.bd (2 * i) (Cfg.st_lt hi).1
    rw [hx] at this
    omega
  have c0 := h.blk.cell 0 _ rfl
  have c1 := h.blk.cell 1 _ rfl
  have c2 := h.blk.cell 2 _ rfl
  have c3 := h.blk.cell 3 _ rfl
  have c4 := h.blk.cell 4 _ rfl
  have c5 := h.blk.cell 5 _ rfl
  have c6 := h.blk.cell 6 _ rfl
  have c7 := h.blk.cell 7 _ rfl
  have hW := h.blk.lt
  have H := Lib.hid h
  have HX := Lib.hid hx
  have HI := Lib.hid (show 2 * i < C.N from (Cfg.st_lt hi).1)
  have HST := Lib.hid (fun W' => state_at C.p C.c C.A i C.n C.b C.r C.f C.g W' rfl hC.a24.2 hi)
  have HS := Lib.hid hs
  clear h hx hs hC
  go_enter Try.func13, Try.ntmps13
  have hP0 : PW K C W M B Ck ws st now lv L (w.alloc (Obj.cells #[.int .i64 0, .bool false, .int .i64 0, .int .i64 0, .int .i64 0] 42)).drew := H.out.below (by go_grown)
  have HP0 := Lib.hid hP0
  have hS0 := w8_fm hP0
  have HL0 := Lib.hid (fun (W' : World) (hW' : PW K C W M B Ck ws st now lv L W') => show Calls Try.prog 16 #[.pointer (some ⟨M, 0, none⟩), .int .i64 (2 * (i : Int))] W' (MOp M B C.N ws (st + 1) (.tuple #[.int .u64 (x : Int), .nilIface]) W') from by
    have hm := mload hW'.mem (2 * i) HI.out HS.out
    rw [HX.out, show (((2 * i : Nat) : Int)) = 2 * (i : Int) from by omega] at hm
    exact hm)
  clear hP0
  go_wp2_with fail
  go_region_held3 (fun w' => w'.cell? ⟨W, 0, none⟩ = some (.int .i64 (C.p : Int)) ∧ w'.cell? ⟨W, 1, none⟩ = some (.int .i64 (C.c : Int)) ∧ w'.cell? ⟨W, 2, none⟩ = some (.int .i64 C.n) ∧ w'.cell? ⟨W, 3, none⟩ = some (.int .i64 C.b) ∧ w'.cell? ⟨W, 4, none⟩ = some (.int .i64 C.r) ∧ w'.cell? ⟨W, 5, none⟩ = some (.int .i64 (C.f : Int)) ∧ w'.cell? ⟨W, 6, none⟩ = some (.int .i64 (C.g : Int)) ∧ w'.cell? ⟨W, 7, none⟩ = some (.pointer (some ⟨M, 0, none⟩))) (first | with_reducible exact hS0 | with_reducible exact hS1 | with_reducible exact hS2 | fail)
    (first
      | ((with_reducible refine (HST.out _).mono ?_); rintro e wy1 ⟨rfl, hby1⟩; have HP1 := Lib.hid (HP0.out.below hby1); have HB1 := Lib.hid hby1; have hS1 := w8_fm HP1.out; clear hby1)
      | ((with_reducible refine (HL0.out _ HP1.out).mono ?_); rintro e wy2 ⟨rfl, hm2, hz2, ho2⟩; have HP2 := Lib.hid (HP1.out.op ho2 hm2); have hS2 := w8_fm HP2.out; have HO2 := Lib.hid ho2; clear ho2 hm2)
      | fail)
  have X0 : Bl w.heap.size [.int .i64 0, .bool false, .int .i64 0, .int .i64 0, .int .i64 0] wy2 := by
    have h0 : Bl w.heap.size [.int .i64 0, .bool false, .int .i64 0, .int .i64 0, .int .i64 0] (w.alloc (Obj.cells #[.int .i64 0, .bool false, .int .i64 0, .int .i64 0, .int .i64 0] 42)).drew := Bl.new w _ _
    have hk := H.out.hK
    have hlo := H.out.lo
    exact (Fm.oth HO2.out).bl (h0.below (w' := wy1) HB1.out) (by omega) (by omega)
  have X2 := Lib.hid X0
  have F2 := Lib.hid (show Fm M B w wy2 from (Fm.of (Below.step (by go_grown) HB1.out)).trans (Fm.oth HO2.out))
  clear X0
  go_wp2_with fail
  refine (ofC_is x hxb _).mono ?_
  rintro e w3 ⟨rfl, hb3⟩
  have X3 := Lib.hid (X2.out.below hb3)
  have HP3 := Lib.hid (HP2.out.below hb3)
  have F3 := Lib.hid (F2.out.trans (Fm.of hb3))
  clear hb3
  go_wp2_with (refine wpList_store_bl rfl 42 _ _ rfl w.heap.size _ [_, _, _, _, _] rfl rfl X3.out rfl rfl rfl ?_; intro w4 X4 hF4 hz4 hb4)
  have HX4 := Lib.hid X4
  refine bodyPost_ret (results_tc rfl _ _ w.heap.size _ _ _ rfl rfl HX4.out Try.underlying42 rfl rfl) rfl ?_
  have hk := H.out.hK
  have hlo := H.out.lo
  have hz3 := F3.out.size
  have g3 := hb4 0 w3 (Nat.zero_le _) (Below.refl _ _)
  have g4 : Fm M B w w4 := ⟨g3.os.trans F3.out.os, g3.tape.trans F3.out.tape, g3.output.trans F3.out.output, by omega, fun g hg h1 h2 => (hF4 g (by omega) (by omega)).trans (F3.out.block g hg h1 h2)⟩
  exact ⟨rfl, HP3.out.loc w.heap.size hk (fun k e => by have := (H.out.row.lt k e).2; omega) (by omega) hF4, g4⟩
/-- Terms' cells, of a word. -/
def tv (x : Nat) : Value := .agg #[.int .i64 (fld sht x 0), .int .i64 (fld sht x 1), .int .i64 (fld sht x 2), .int .i64 (fld sht x 3), .int .i64 (fld sht x 4)]
set_option maxRecDepth 100000 in
set_option maxHeartbeats 4000000 in
theorem terms_w (h : PW K C W M B Ck ws st now lv L w) (hC : C.Ok) (i : Nat) (hi : i < C.A) (x : Nat) (hx : ws (2 * i + 1) = (x : Int)) (hs : 0 ≤ st ∧ st ≤ 1000000) :
    Calls Try.prog 58 #[.pointer (some ⟨W, 0, none⟩), .int .i64 (i : Int)] w fun e w' => e = .returned (tv x) ∧ PW K C W M B Ck ws (st + 1) now lv L w' ∧ Fm M B w w' := by
  have hxb : x < 18446744073709551616 := by
    have := h.mem.bd (2 * i + 1) (Cfg.st_lt hi).2
    rw [hx] at this
    omega
  have c0 := h.blk.cell 0 _ rfl
  have c1 := h.blk.cell 1 _ rfl
  have c2 := h.blk.cell 2 _ rfl
  have c3 := h.blk.cell 3 _ rfl
  have c4 := h.blk.cell 4 _ rfl
  have c5 := h.blk.cell 5 _ rfl
  have c6 := h.blk.cell 6 _ rfl
  have c7 := h.blk.cell 7 _ rfl
  have hW := h.blk.lt
  have H := Lib.hid h
  have HX := Lib.hid hx
  have HI := Lib.hid (show 2 * i + 1 < C.N from (Cfg.st_lt hi).2)
  have HST := Lib.hid (fun W' => terms_at C.p C.c C.A i C.n C.b C.r C.f C.g W' rfl hC.a24.2 hi)
  have HS := Lib.hid hs
  clear h hx hs hC
  go_enter Try.func58, Try.ntmps58
  have hP0 : PW K C W M B Ck ws st now lv L (w.alloc (Obj.cells #[.int .i64 0, .int .i64 0, .int .i64 0, .int .i64 0, .int .i64 0] 44)).drew := H.out.below (by go_grown)
  have HP0 := Lib.hid hP0
  have hS0 := w8_fm hP0
  have HL0 := Lib.hid (fun (W' : World) (hW' : PW K C W M B Ck ws st now lv L W') => show Calls Try.prog 16 #[.pointer (some ⟨M, 0, none⟩), .int .i64 (2 * (i : Int) + 1)] W' (MOp M B C.N ws (st + 1) (.tuple #[.int .u64 (x : Int), .nilIface]) W') from by
    have hm := mload hW'.mem (2 * i + 1) HI.out HS.out
    rw [HX.out, show (((2 * i + 1 : Nat) : Int)) = 2 * (i : Int) + 1 from by omega] at hm
    exact hm)
  clear hP0
  go_wp2_with fail
  go_region_held3 (fun w' => w'.cell? ⟨W, 0, none⟩ = some (.int .i64 (C.p : Int)) ∧ w'.cell? ⟨W, 1, none⟩ = some (.int .i64 (C.c : Int)) ∧ w'.cell? ⟨W, 2, none⟩ = some (.int .i64 C.n) ∧ w'.cell? ⟨W, 3, none⟩ = some (.int .i64 C.b) ∧ w'.cell? ⟨W, 4, none⟩ = some (.int .i64 C.r) ∧ w'.cell? ⟨W, 5, none⟩ = some (.int .i64 (C.f : Int)) ∧ w'.cell? ⟨W, 6, none⟩ = some (.int .i64 (C.g : Int)) ∧ w'.cell? ⟨W, 7, none⟩ = some (.pointer (some ⟨M, 0, none⟩))) (first | with_reducible exact hS0 | with_reducible exact hS1 | with_reducible exact hS2 | fail)
    (first
      | ((with_reducible refine (HST.out _).mono ?_); rintro e wy1 ⟨rfl, hby1⟩; have HP1 := Lib.hid (HP0.out.below hby1); have HB1 := Lib.hid hby1; have hS1 := w8_fm HP1.out; clear hby1)
      | ((with_reducible refine (HL0.out _ HP1.out).mono ?_); rintro e wy2 ⟨rfl, hm2, hz2, ho2⟩; have HP2 := Lib.hid (HP1.out.op ho2 hm2); have hS2 := w8_fm HP2.out; have HO2 := Lib.hid ho2; clear ho2 hm2)
      | fail)
  have X0 : Bl w.heap.size [.int .i64 0, .int .i64 0, .int .i64 0, .int .i64 0, .int .i64 0] wy2 := by
    have h0 : Bl w.heap.size [.int .i64 0, .int .i64 0, .int .i64 0, .int .i64 0, .int .i64 0] (w.alloc (Obj.cells #[.int .i64 0, .int .i64 0, .int .i64 0, .int .i64 0, .int .i64 0] 44)).drew := Bl.new w _ _
    have hk := H.out.hK
    have hlo := H.out.lo
    exact (Fm.oth HO2.out).bl (h0.below (w' := wy1) HB1.out) (by omega) (by omega)
  have X2 := Lib.hid X0
  have F2 := Lib.hid (show Fm M B w wy2 from (Fm.of (Below.step (by go_grown) HB1.out)).trans (Fm.oth HO2.out))
  clear X0
  go_wp2_with fail
  refine (ofT_is x hxb _).mono ?_
  rintro e w3 ⟨rfl, hb3⟩
  have X3 := Lib.hid (X2.out.below hb3)
  have HP3 := Lib.hid (HP2.out.below hb3)
  have F3 := Lib.hid (F2.out.trans (Fm.of hb3))
  clear hb3
  go_wp2_with (refine wpList_store_bl rfl 44 _ _ rfl w.heap.size _ [_, _, _, _, _] rfl rfl X3.out rfl rfl rfl ?_; intro w4 X4 hF4 hz4 hb4)
  have HX4 := Lib.hid X4
  refine bodyPost_ret (results_bl rfl _ _ w.heap.size _ _ rfl HX4.out Try.underlying44 rfl rfl) rfl ?_
  have hk := H.out.hK
  have hlo := H.out.lo
  have hz3 := F3.out.size
  have g3 := hb4 0 w3 (Nat.zero_le _) (Below.refl _ _)
  have g4 : Fm M B w w4 := ⟨g3.os.trans F3.out.os, g3.tape.trans F3.out.tape, g3.output.trans F3.out.output, by omega, fun g hg h1 h2 => (hF4 g (by omega) (by omega)).trans (F3.out.block g hg h1 h2)⟩
  exact ⟨rfl, HP3.out.loc w.heap.size hk (fun k e => by have := (H.out.row.lt k e).2; omega) (by omega) hF4, g4⟩
/-- A state's cells. -/
def sc (s : Cs) : Value := .agg #[.int .i64 s.kind, .bool s.flag, .int .i64 s.gen, .int .i64 s.left, .int .i64 s.fills]
def zc (s : Cs) : Nat → Int := cz s.kind (if s.flag = true then 1 else 0) s.gen s.left s.fills
def FitS (s : Cs) : Prop := s.kind ≤ 8 ∧ FitsC (zc s)
/-- A state's word. -/
def cw (s : Cs) : Nat := word shc (zc s) 5
theorem bd_of {n : Nat} {s z : Nat → Int} (hS : Steps n s) (hz : ∀ k, k < n → 0 ≤ z k ∧ z k < 2 ^ (s (k + 1) - s k).toNat) : ∀ j, j < n → -9223372036854775808 ≤ z j ∧ z j ≤ 9223372036854775807 := fun j hj => by
  obtain ⟨h1, h2⟩ := hz j hj
  have h3 : (s (j + 1) - s j).toNat ≤ 32 := by have := hS.2.2 j hj; omega
  have h4 : (2 : Int) ^ (s (j + 1) - s j).toNat ≤ 2 ^ 32 := by exact_mod_cast Nat.pow_le_pow_right (by decide : 0 < 2) h3
  omega
theorem cw_lt (s : Cs) (h : FitS s) : cw s < 18446744073709551616 := by
  have h1 := word_lt shc_steps h.2 5 (Nat.le_refl _)
  have h2 : (2 : Nat) ^ (shc 5).toNat ≤ 18446744073709551616 := by decide
  exact Nat.lt_of_lt_of_le h1 h2
theorem cword_is (s : Cs) (h : FitS s) (w : World) : Calls Try.prog 50 #[sc s] w (fun e w' => e = .returned (.tuple #[.int .u64 (cw s : Int), .nilIface]) ∧ Below w.heap.size w w') := by
  obtain ⟨k, fl, g, l, f⟩ := s
  cases fl
  · exact wordC_ok_false k g l f w h.1 (bd_of shc_steps h.2) h.2
  · exact wordC_ok_true k g l f w h.1 (bd_of shc_steps h.2) h.2
theorem sv_cw (s : Cs) (h : FitS s) : sv (cw s) = sc s := by
  have h1 := fld_word shc_steps h.2
  have e0 : fld shc (cw s) 0 = s.kind := h1 0 (by decide)
  have e1 : fld shc (cw s) 1 = (if s.flag = true then 1 else 0) := h1 1 (by decide)
  have e2 : fld shc (cw s) 2 = s.gen := h1 2 (by decide)
  have e3 : fld shc (cw s) 3 = s.left := h1 3 (by decide)
  have e4 : fld shc (cw s) 4 = s.fills := h1 4 (by decide)
  have e5 : (fld shc (cw s) 1 == 1) = s.flag := by rw [e1]; cases s.flag <;> rfl
  unfold sv sc
  rw [e0, e5, e2, e3, e4]
theorem cw_inj {s s' : Cs} (h : FitS s) (h' : FitS s') (e : cw s = cw s') : s = s' := by
  have h1 := sv_cw s h
  rw [e, sv_cw s' h'] at h1
  obtain ⟨k, fl, g, l, f⟩ := s
  obtain ⟨k', fl', g', l', f'⟩ := s'
  unfold sc at h1
  simp only [Value.agg.injEq, Array.mk.injEq, List.cons.injEq, Value.int.injEq, Value.bool.injEq, true_and, and_true] at h1
  obtain ⟨rfl, rfl, rfl, rfl, rfl⟩ := h1
  rfl
set_option maxRecDepth 100000 in
set_option maxHeartbeats 4000000 in
theorem turn_yes (h : PW K C W M B Ck ws st now lv L w) (hC : C.Ok) (i : Nat) (hi : i < C.A) (x : Nat) (s : Cs) (hf : FitS s) (ho : ws (2 * i) = (x : Int)) (hs : 0 ≤ st ∧ st ≤ 1000000) :
    Calls Try.prog 20 #[.pointer (some ⟨W, 0, none⟩), .int .i64 (i : Int), .int .u64 (x : Int), sc s] w fun e w' => e = .returned (.bool true) ∧ PW K C W M B Ck (Mm.upd ws (2 * i) (cw s : Int)) (st + 1) now lv L w' ∧ Fm M B w w' := by
  have HF := Lib.hid (fun W' => cword_is s hf W')
  have H := Lib.hid h
  have HO := Lib.hid ho
  have HX := Lib.hid (show 0 ≤ (cw s : Int) ∧ (cw s : Int) ≤ 18446744073709551615 from by have := cw_lt s hf; omega)
  have HI := Lib.hid (show 2 * i < C.N from (Cfg.st_lt hi).1)
  have HST := Lib.hid (fun W' => state_at C.p C.c C.A i C.n C.b C.r C.f C.g W' rfl hC.a24.2 hi)
  have HS := Lib.hid hs
  have HP0 := Lib.hid (h.below (w' := w.alloc (.cells #[.int .i64 s.kind, .bool s.flag, .int .i64 s.gen, .int .i64 s.left, .int .i64 s.fills] 42)) (by go_grown))
  have HM := Lib.hid (fun (W' : World) (hW' : PW K C W M B Ck ws st now lv L W') => show Calls Try.prog 51 #[.pointer (some ⟨M, 0, none⟩), .int .i64 (2 * (i : Int)), .int .u64 (x : Int), .int .u64 (cw s : Int)] W' (MOp M B C.N (Mm.upd ws (2 * i) (cw s : Int)) (st + 1) (.tuple #[.bool true, .nilIface]) W') from by
    have hm := mswap_yes hW'.mem (2 * i) HI.out (x : Int) (cw s : Int) HX.out HS.out HO.out
    rw [show (((2 * i : Nat) : Int)) = 2 * (i : Int) from by omega] at hm
    exact hm)
  have hw := h.blk.lt
  clear h ho hf hs hC
  unfold sc
  unfold sc at HF
  go_enter Try.func20, Try.ntmps20
  go_wp2_with fail
  refine (HF.out _).mono ?_
  rintro e w1 ⟨rfl, hb1⟩
  have HB1 := Lib.hid (show Below w.heap.size w w1 from Below.step (by go_grown) hb1)
  have HP1 := Lib.hid (H.out.below HB1.out)
  have hP2 : PW K C W M B Ck ws st now lv L w1.drew := HP1.out.below (by go_grown)
  have HP2 := Lib.hid hP2
  have hS0 := w8_fm hP2
  clear hb1 hP2
  go_wp2_with fail
  go_region_held3 (fun w' => w'.cell? ⟨W, 0, none⟩ = some (.int .i64 (C.p : Int)) ∧ w'.cell? ⟨W, 1, none⟩ = some (.int .i64 (C.c : Int)) ∧ w'.cell? ⟨W, 2, none⟩ = some (.int .i64 C.n) ∧ w'.cell? ⟨W, 3, none⟩ = some (.int .i64 C.b) ∧ w'.cell? ⟨W, 4, none⟩ = some (.int .i64 C.r) ∧ w'.cell? ⟨W, 5, none⟩ = some (.int .i64 (C.f : Int)) ∧ w'.cell? ⟨W, 6, none⟩ = some (.int .i64 (C.g : Int)) ∧ w'.cell? ⟨W, 7, none⟩ = some (.pointer (some ⟨M, 0, none⟩))) (first | with_reducible exact hS0 | with_reducible exact hS1 | with_reducible exact hS2 | fail)
    (first
      | ((with_reducible refine (HST.out _).mono ?_); rintro e wy1 ⟨rfl, hby1⟩; have HP3 := Lib.hid (HP2.out.below hby1); have HB3 := Lib.hid hby1; have hS1 := w8_fm HP3.out; clear hby1)
      | ((with_reducible refine (HM.out _ HP3.out).mono ?_); rintro e wy2 ⟨rfl, hm2, hz2, ho2⟩; have HP4 := Lib.hid (HP3.out.op ho2 hm2); have hS2 := w8_fm HP4.out; have HO2 := Lib.hid ho2; clear ho2 hm2)
      | fail)
  go_wp2
  go_ret
  exact ⟨rfl, HP4.out, (Fm.of HB1.out).trans ((Fm.of (Below.step (by go_grown) HB3.out)).trans (Fm.oth HO2.out))⟩
set_option maxRecDepth 100000 in
set_option maxHeartbeats 4000000 in
theorem turn_no (h : PW K C W M B Ck ws st now lv L w) (hC : C.Ok) (i : Nat) (hi : i < C.A) (x : Nat) (s : Cs) (hf : FitS s) (ho : ws (2 * i) ≠ (x : Int)) (hs : 0 ≤ st ∧ st ≤ 1000000) :
    Calls Try.prog 20 #[.pointer (some ⟨W, 0, none⟩), .int .i64 (i : Int), .int .u64 (x : Int), sc s] w fun e w' => e = .returned (.bool false) ∧ PW K C W M B Ck ws (st + 1) now lv L w' ∧ Fm M B w w' := by
  have HF := Lib.hid (fun W' => cword_is s hf W')
  have H := Lib.hid h
  have HO := Lib.hid ho
  have HX := Lib.hid (show 0 ≤ (cw s : Int) ∧ (cw s : Int) ≤ 18446744073709551615 from by have := cw_lt s hf; omega)
  have HI := Lib.hid (show 2 * i < C.N from (Cfg.st_lt hi).1)
  have HST := Lib.hid (fun W' => state_at C.p C.c C.A i C.n C.b C.r C.f C.g W' rfl hC.a24.2 hi)
  have HS := Lib.hid hs
  have HP0 := Lib.hid (h.below (w' := w.alloc (.cells #[.int .i64 s.kind, .bool s.flag, .int .i64 s.gen, .int .i64 s.left, .int .i64 s.fills] 42)) (by go_grown))
  have HM := Lib.hid (fun (W' : World) (hW' : PW K C W M B Ck ws st now lv L W') => show Calls Try.prog 51 #[.pointer (some ⟨M, 0, none⟩), .int .i64 (2 * (i : Int)), .int .u64 (x : Int), .int .u64 (cw s : Int)] W' (MOp M B C.N ws (st + 1) (.tuple #[.bool false, .nilIface]) W') from by
    have hm := mswap_no hW'.mem (2 * i) HI.out (x : Int) (cw s : Int) HS.out HO.out
    rw [show (((2 * i : Nat) : Int)) = 2 * (i : Int) from by omega] at hm
    exact hm)
  have hw := h.blk.lt
  clear h ho hf hs hC
  unfold sc
  unfold sc at HF
  go_enter Try.func20, Try.ntmps20
  go_wp2_with fail
  refine (HF.out _).mono ?_
  rintro e w1 ⟨rfl, hb1⟩
  have HB1 := Lib.hid (show Below w.heap.size w w1 from Below.step (by go_grown) hb1)
  have HP1 := Lib.hid (H.out.below HB1.out)
  have hP2 : PW K C W M B Ck ws st now lv L w1.drew := HP1.out.below (by go_grown)
  have HP2 := Lib.hid hP2
  have hS0 := w8_fm hP2
  clear hb1 hP2
  go_wp2_with fail
  go_region_held3 (fun w' => w'.cell? ⟨W, 0, none⟩ = some (.int .i64 (C.p : Int)) ∧ w'.cell? ⟨W, 1, none⟩ = some (.int .i64 (C.c : Int)) ∧ w'.cell? ⟨W, 2, none⟩ = some (.int .i64 C.n) ∧ w'.cell? ⟨W, 3, none⟩ = some (.int .i64 C.b) ∧ w'.cell? ⟨W, 4, none⟩ = some (.int .i64 C.r) ∧ w'.cell? ⟨W, 5, none⟩ = some (.int .i64 (C.f : Int)) ∧ w'.cell? ⟨W, 6, none⟩ = some (.int .i64 (C.g : Int)) ∧ w'.cell? ⟨W, 7, none⟩ = some (.pointer (some ⟨M, 0, none⟩))) (first | with_reducible exact hS0 | with_reducible exact hS1 | with_reducible exact hS2 | fail)
    (first
      | ((with_reducible refine (HST.out _).mono ?_); rintro e wy1 ⟨rfl, hby1⟩; have HP3 := Lib.hid (HP2.out.below hby1); have HB3 := Lib.hid hby1; have hS1 := w8_fm HP3.out; clear hby1)
      | ((with_reducible refine (HM.out _ HP3.out).mono ?_); rintro e wy2 ⟨rfl, hm2, hz2, ho2⟩; have HP4 := Lib.hid (HP3.out.op ho2 hm2); have hS2 := w8_fm HP4.out; have HO2 := Lib.hid ho2; clear ho2 hm2)
      | fail)
  go_wp2
  go_ret
  exact ⟨rfl, HP4.out, (Fm.of HB1.out).trans ((Fm.of (Below.step (by go_grown) HB3.out)).trans (Fm.oth HO2.out))⟩
end
end Go.Proofs.Ytmjkhefgpobinaa
namespace Go.Proofs.Ytmjkhefgpobinaa
open Go.ChangeShapes Go.WideShapes Go.ChangeAt Go.RowKit
section
variable {K : Nat} {C : Cfg} {W M B Ck : Nat} {ws ws' : Nat → Int} {st st' now : Int} {lv : Value} {L : List Lg} {w w' : World}
/-- A record. -/
structure Rc where
  k : Int
  q : Int
  p : Int
  t : Int
  c : Int
  g : Int
def rcv (r : Rc) : Value := .agg #[.int .i64 r.k, .int .i64 r.q, .int .i64 r.p, .int .i64 r.t, .int .i64 r.c, .int .i64 r.g]
def zr (r : Rc) : Nat → Int := rz r.k r.q r.p r.t r.c r.g
def FitRc (r : Rc) : Prop := r.k ≤ 5 ∧ FitsR (zr r)
def rw_ (r : Rc) : Nat := word shr (zr r) 6
theorem rw_lt (r : Rc) (h : FitRc r) : rw_ r < 18446744073709551616 := by
  have h1 := word_lt shr_steps h.2 6 (Nat.le_refl _)
  have h2 : (2 : Nat) ^ (shr 6).toNat ≤ 18446744073709551616 := by decide
  exact Nat.lt_of_lt_of_le h1 h2
theorem rword_is (r : Rc) (h : FitRc r) (w : World) : Calls Try.prog 78 #[rcv r] w (fun e w' => e = .returned (.tuple #[.int .u64 (rw_ r : Int), .nilIface]) ∧ Below w.heap.size w w') :=
  wordR_ok _ _ _ _ _ _ w h.1 (bd_of shr_steps h.2) h.2
/-- Where a note of a cell goes. -/
def slotS (C : Cfg) (i : Nat) (y z : Int) : Option Nat := if (1 ≤ y ∧ y ≤ (C.g : Int)) ∧ (0 ≤ z ∧ z < (C.f : Int) + 1) then some (ix C.A C.g (C.f + 1) i (y - 1).toNat z.toNat) else none
theorem slotS_lt {C : Cfg} {i : Nat} {y z : Int} {a : Nat} (hi : i < C.A) (h : slotS C i y z = some a) : 2 * C.A ≤ a ∧ a < C.N := by
  unfold slotS at h
  split at h
  · rename_i hc
    injection h with h
    subst h
    refine ⟨by unfold ix; omega, ?_⟩
    exact ix_lt C.A C.g (C.f + 1) i _ _ hi (by omega) (by omega)
  · cases h
set_option maxRecDepth 100000 in
set_option maxHeartbeats 4000000 in
theorem note_in (h : PW K C W M B Ck ws st now lv L w) (hC : C.Ok) (i : Nat) (hi : i < C.A) (y z : Int) (r : Rc) (hf : FitRc r) (a : Nat) (hsl : slotS C i y z = some a) (hs : 0 ≤ st ∧ st ≤ 1000000) :
    Calls Try.prog 65 #[.pointer (some ⟨W, 0, none⟩), .int .i64 (i : Int), .int .i64 y, .int .i64 z, rcv r] w fun e w' => e = .returned (.tuple #[]) ∧ PW K C W M B Ck (Mm.upd ws a (rw_ r : Int)) (st + 1) now lv L w' ∧ Fm M B w w' := by
  have HF := Lib.hid (fun W' => rword_is r hf W')
  have H := Lib.hid h
  have HX := Lib.hid (show 0 ≤ (rw_ r : Int) ∧ (rw_ r : Int) ≤ 18446744073709551615 from by have := rw_lt r hf; omega)
  have HI := Lib.hid (slotS_lt hi hsl).2
  have HST := Lib.hid (fun W' => show Calls Try.prog 17 #[.agg #[.int .i64 (C.p : Int), .int .i64 (C.c : Int), .int .i64 C.n, .int .i64 C.b, .int .i64 C.r, .int .i64 (C.f : Int), .int .i64 (C.g : Int)], .int .i64 (i : Int), .int .i64 y, .int .i64 z] W' fun e w' => e = .returned (.int .i64 (a : Int)) ∧ Below W'.heap.size W' w' from by
    have h1 := hsl
    unfold slotS at h1
    split at h1
    · rename_i hc
      injection h1 with h1
      have h2 := slot_in C.p C.c C.A i (y - 1).toNat z.toNat C.f C.g C.n C.b C.r W' rfl hC.a24.2 hC.hf.2 hC.hg.2 hi (by omega) (by omega)
      rw [h1, show (((y - 1).toNat : Nat) : Int) + 1 = y from by omega, show ((z.toNat : Nat) : Int) = z from by omega] at h2
      exact h2
    · cases h1)
  have HS := Lib.hid hs
  have HP0 := Lib.hid (h.below (w' := w.alloc (.cells #[.int .i64 r.k, .int .i64 r.q, .int .i64 r.p, .int .i64 r.t, .int .i64 r.c, .int .i64 r.g] 65)) (by go_grown))
  have HM := Lib.hid (fun (W' : World) (hW' : PW K C W M B Ck ws st now lv L W') => mstore hW'.mem a HI.out (rw_ r : Int) HX.out HS.out)
  have hw := h.blk.lt
  clear h hf hs hC hsl
  unfold rcv
  unfold rcv at HF
  go_enter Try.func65, Try.ntmps65
  go_wp2_with fail
  refine (HF.out _).mono ?_
  rintro e w1 ⟨rfl, hb1⟩
  have HB1 := Lib.hid (show Below w.heap.size w w1 from Below.step (by go_grown) hb1)
  have HP1 := Lib.hid (H.out.below HB1.out)
  have hP2 : PW K C W M B Ck ws st now lv L w1.drew := HP1.out.below (by go_grown)
  have HP2 := Lib.hid hP2
  have hS0 := w8_fm hP2
  clear hb1 hP2
  go_wp2_with fail
  go_region_held3 (fun w' => w'.cell? ⟨W, 0, none⟩ = some (.int .i64 (C.p : Int)) ∧ w'.cell? ⟨W, 1, none⟩ = some (.int .i64 (C.c : Int)) ∧ w'.cell? ⟨W, 2, none⟩ = some (.int .i64 C.n) ∧ w'.cell? ⟨W, 3, none⟩ = some (.int .i64 C.b) ∧ w'.cell? ⟨W, 4, none⟩ = some (.int .i64 C.r) ∧ w'.cell? ⟨W, 5, none⟩ = some (.int .i64 (C.f : Int)) ∧ w'.cell? ⟨W, 6, none⟩ = some (.int .i64 (C.g : Int)) ∧ w'.cell? ⟨W, 7, none⟩ = some (.pointer (some ⟨M, 0, none⟩))) (first | with_reducible exact hS0 | with_reducible exact hS1 | with_reducible exact hS2 | fail)
    (first
      | ((with_reducible refine (HST.out _).mono ?_); rintro e wy1 ⟨rfl, hby1⟩; have HP3 := Lib.hid (HP2.out.below hby1); have HB3 := Lib.hid hby1; have hS1 := w8_fm HP3.out; clear hby1)
      | ((with_reducible refine (HM.out _ HP3.out).mono ?_); rintro e wy2 ⟨rfl, hm2, hz2, ho2⟩; have HP4 := Lib.hid (HP3.out.op ho2 hm2); have hS2 := w8_fm HP4.out; have HO2 := Lib.hid ho2; clear ho2 hm2)
      | fail)
  go_wp2
  go_end0
  exact ⟨rfl, HP4.out, (Fm.of HB1.out).trans ((Fm.of (Below.step (by go_grown) HB3.out)).trans (Fm.oth HO2.out))⟩
set_option maxRecDepth 100000 in
set_option maxHeartbeats 4000000 in
theorem note_out (h : PW K C W M B Ck ws st now lv L w) (hC : C.Ok) (i : Nat) (hi : i < C.A) (y z : Int) (r : Rc) (hf : FitRc r) (hsl : slotS C i y z = none) (hs : 0 ≤ st ∧ st ≤ 1000000) :
    Calls Try.prog 65 #[.pointer (some ⟨W, 0, none⟩), .int .i64 (i : Int), .int .i64 y, .int .i64 z, rcv r] w fun e w' => e = .returned (.tuple #[]) ∧ PW K C W M B Ck ws st now lv L w' ∧ Fm M B w w' := by
  have HF := Lib.hid (fun W' => rword_is r hf W')
  have H := Lib.hid h
  have HX := Lib.hid (show 0 ≤ (rw_ r : Int) ∧ (rw_ r : Int) ≤ 18446744073709551615 from by have := rw_lt r hf; omega)
  have HST := Lib.hid (fun W' => slot_out C.p C.c C.A C.f C.g C.n C.b C.r (i : Int) y z W' rfl hC.a24.2 hC.hf.2 (by
    intro hc
    unfold slotS at hsl
    rw [if_pos hc.2] at hsl
    cases hsl))
  have HS := Lib.hid hs
  have HP0 := Lib.hid (h.below (w' := w.alloc (.cells #[.int .i64 r.k, .int .i64 r.q, .int .i64 r.p, .int .i64 r.t, .int .i64 r.c, .int .i64 r.g] 65)) (by go_grown))
  have HM := Lib.hid (fun (W' : World) (hW' : PW K C W M B Ck ws st now lv L W') => mstore_out hW'.mem (-1) (by omega) (rw_ r : Int))
  have hw := h.blk.lt
  clear h hf hs hC hsl
  unfold rcv
  unfold rcv at HF
  go_enter Try.func65, Try.ntmps65
  go_wp2_with fail
  refine (HF.out _).mono ?_
  rintro e w1 ⟨rfl, hb1⟩
  have HB1 := Lib.hid (show Below w.heap.size w w1 from Below.step (by go_grown) hb1)
  have HP1 := Lib.hid (H.out.below HB1.out)
  have hP2 : PW K C W M B Ck ws st now lv L w1.drew := HP1.out.below (by go_grown)
  have HP2 := Lib.hid hP2
  have hS0 := w8_fm hP2
  clear hb1 hP2
  go_wp2_with fail
  go_region_held3 (fun w' => w'.cell? ⟨W, 0, none⟩ = some (.int .i64 (C.p : Int)) ∧ w'.cell? ⟨W, 1, none⟩ = some (.int .i64 (C.c : Int)) ∧ w'.cell? ⟨W, 2, none⟩ = some (.int .i64 C.n) ∧ w'.cell? ⟨W, 3, none⟩ = some (.int .i64 C.b) ∧ w'.cell? ⟨W, 4, none⟩ = some (.int .i64 C.r) ∧ w'.cell? ⟨W, 5, none⟩ = some (.int .i64 (C.f : Int)) ∧ w'.cell? ⟨W, 6, none⟩ = some (.int .i64 (C.g : Int)) ∧ w'.cell? ⟨W, 7, none⟩ = some (.pointer (some ⟨M, 0, none⟩))) (first | with_reducible exact hS0 | with_reducible exact hS1 | with_reducible exact hS2 | fail)
    (first
      | ((with_reducible refine (HST.out _).mono ?_); rintro e wy1 ⟨rfl, hby1⟩; have HP3 := Lib.hid (HP2.out.below hby1); have HB3 := Lib.hid hby1; have hS1 := w8_fm HP3.out; clear hby1)
      | ((with_reducible refine (HM.out _ HP3.out).mono ?_); rintro e wy2 ⟨T, v, rfl, hby2⟩; have HP4 := Lib.hid (HP3.out.below hby2); have hS2 := w8_fm HP4.out; have HO2 := Lib.hid hby2; clear hby2)
      | fail)
  go_wp2
  go_end0
  exact ⟨rfl, HP4.out, (Fm.of HB1.out).trans ((Fm.of (Below.step (by go_grown) HB3.out)).trans (Fm.of HO2.out))⟩
end
end Go.Proofs.Ytmjkhefgpobinaa
namespace Go.Proofs.Ytmjkhefgpobinaa
open Go.ChangeShapes Go.WideShapes Go.ChangeAt Go.RowKit
theorem infoE : (Try.prog.info? 68).map (fun i => (i.zero, i.size, i.bytes)) = some (some (.agg #[.int .i64 0, .int .i64 0, .int .i64 0, .int .i64 0, .int .i64 0, .int .i64 0, .int .i64 0, .int .i64 0, .int .i64 0, .int .i64 0, .int .i64 0, .int .i64 0, .int .i64 0, .int .i64 0]), 14, 112) := by kernel_rfl
theorem grown_undrewS {w w2 : World} {r : Option Nat} (h : w.drew.grownBy w2 r) : w.grownBy w2 r := ⟨h.os, h.tape, h.output, h.size, h.block⟩
theorem ret_ofS {K : Act → World → Prop} {T : Code} {Q : Exit → Act → World → Prop} {a : Act} {w : World} (hk : ∀ a w, Code.wp Try.prog T Q a w → K a w) (h : Code.wp Try.prog T Q a w) : Exit.then K Q .normal a w := hk a w h
theorem Bl.grown {B : Nat} {l : List Value} {w w' : World} {rw_ : Option Nat} (h : Bl B l w) (hg : w.grownBy w' rw_) (hne : rw_ ≠ some B) : Bl B l w' := by
  have hl := h.lt
  obtain ⟨t, hh⟩ := h
  exact ⟨t, (hg.block B hl (fun e => hne e.symm)).trans hh⟩
set_option maxHeartbeats 1000000 in
theorem now_is (B k : Nat) (v : Int) (w : World) (h : w.cell? ⟨B, k, none⟩ = some (.int .i64 v)) : Calls Try.prog 24 #[.pointer (some ⟨B, k, none⟩)] w fun e w' => e = .returned (.int .i64 v) ∧ w = w' := by
  go_enter Try.func24, Try.ntmps24
  go_wp2
  go_ret
  exact ⟨rfl, rfl⟩
/-- All stays but a world's block and its log's. -/
structure Fl (W : Nat) (lv : Value) (w w' : World) : Prop where
  os : w'.os = w.os
  tape : w'.tape = w.tape
  output : w'.output = w.output
  size : w.heap.size ≤ w'.heap.size
  block : ∀ g, g < w.heap.size → g ≠ W → lv.ownBlock ≠ some g → w'.heap[g]? = w.heap[g]?
section
variable {K : Nat} {C : Cfg} {W M B Ck : Nat} {ws ws' : Nat → Int} {st st' now : Int} {lv : Value} {L : List Lg} {w w' : World}
theorem PW.app_low {w2 : World} {o : Obj} (h : PW K C W M B Ck ws st now lv L w) (hg : (w.alloc o).grownBy w2 lv.ownBlock) : Below K w w2 :=
  Below.grown ((Below.refl _ _).alloc h.hK o) hg (by rw [World.size_alloc]; have := h.hK; omega) fun k e => (h.row.lt k e).1
theorem PW.push {w2 : World} {o : Obj} {u : Value} {x : Lg} (h : PW K C W M B Ck ws st now lv L w) (ho : w2.ownsRow K 68 14 u (L.length + 1) (lgs L ++ lgc x)) (hg : (w.alloc o).grownBy w2 lv.ownBlock) : PW K C W M B Ck ws st now u (L ++ [x]) (w2.setCell ⟨W, 9, none⟩ u) := by
  have hb := h.app_low hg
  obtain ⟨l1, l2, l3, l4⟩ := h.lo
  obtain ⟨n1, n2, n3, n4, n5⟩ := h.ne
  have hk := h.hK
  have hs := hb.size
  have e1 : ∀ k, k < K → k ≠ W → (w2.setCell ⟨W, 9, none⟩ u).heap[k]? = w.heap[k]? := fun k h1 h2 => (Below.heap_setCell w2 ⟨W, 9, none⟩ u k h2).trans (hb.block k h1)
  have hz : (w2.setCell ⟨W, 9, none⟩ u).heap.size = w2.heap.size := by simp
  refine ⟨?_, h.mem.far (e1 M l2 (Ne.symm n1)) (e1 B l3 (Ne.symm n2)) (by rw [hz]; omega), ?_, ?_, h.lo, by rw [hz]; omega, h.ne⟩
  · have hbl : Bl W [.int .i64 (C.p : Int), .int .i64 (C.c : Int), .int .i64 C.n, .int .i64 C.b, .int .i64 C.r, .int .i64 (C.f : Int), .int .i64 (C.g : Int), .pointer (some ⟨M, 0, none⟩), .pointer (some ⟨Ck, 0, none⟩), lv] w2 := by
      obtain ⟨t, ht⟩ := h.blk
      exact ⟨t, (hb.block W l1).trans ht⟩
    exact hbl.set 9 u
  · obtain ⟨t, ht⟩ := h.clk
    exact ⟨t, (e1 Ck l4 (Ne.symm n3)).trans ht⟩
  · rw [List.length_append, lgs_snoc]
    exact rfar ho fun k h1 _ => Below.heap_setCell w2 ⟨W, 9, none⟩ u k (by show k ≠ W; omega)
set_option maxRecDepth 100000 in
set_option maxHeartbeats 8000000 in
theorem tell_is (h : PW K C W M B Ck ws st now lv L w) (a0 a1 a2 a3 a4 a5 a6 a7 a8 a9 a10 a11 a12 a13 : Int) (x : Lg) (hx : lgc x = [.int .i64 a0, .int .i64 a1, .int .i64 a2, .int .i64 a3, .int .i64 a4, .int .i64 a5, .int .i64 a6, .int .i64 a7, .int .i64 a8, .int .i64 a9, .int .i64 a10, .int .i64 a11, .int .i64 now, .int .i64 a13]) (hl : L.length ≤ 100000) :
    Calls Try.prog 23 #[.pointer (some ⟨W, 0, none⟩), .agg #[.int .i64 a0, .int .i64 a1, .int .i64 a2, .int .i64 a3, .int .i64 a4, .int .i64 a5, .int .i64 a6, .int .i64 a7, .int .i64 a8, .int .i64 a9, .int .i64 a10, .int .i64 a11, .int .i64 a12, .int .i64 a13]] w fun e w' => e = .returned (.tuple #[]) ∧ ∃ lv', PW K C W M B Ck ws st now lv' (L ++ [x]) w' ∧ Fl W lv w w' := by
  have c8 := h.blk.cell 8 _ rfl
  have k0 := h.clk.cell 0 _ rfl
  have H := Lib.hid h
  have HX := Lib.hid hx
  have hW := h.blk.lt
  have hCk := h.clk.lt
  have HNG : Hid (lv.ownBlock ≠ some w.heap.size) := fun he => by have := (h.row.lt _ he).2; omega
  have HBE : Hid (W ≠ w.heap.size) := fun he => by omega
  have HL9 := Lib.hid hl
  have hba0 := (Below.refl w.heap.size w).alloc (Nat.le_refl _) (Obj.cells #[.int .i64 a0, .int .i64 a1, .int .i64 a2, .int .i64 a3, .int .i64 a4, .int .i64 a5, .int .i64 a6, .int .i64 a7, .int .i64 a8, .int .i64 a9, .int .i64 a10, .int .i64 a11, .int .i64 a12, .int .i64 a13] 68)
  have HE0 := Lib.hid (Bl.new w [.int .i64 a0, .int .i64 a1, .int .i64 a2, .int .i64 a3, .int .i64 a4, .int .i64 a5, .int .i64 a6, .int .i64 a7, .int .i64 a8, .int .i64 a9, .int .i64 a10, .int .i64 a11, .int .i64 a12, .int .i64 a13] 68)
  have HP0 := Lib.hid (h.below hba0)
  clear h hx hl hba0
  obtain ⟨Av, cv, rfl⟩ := oshape H.out.row
  obtain ⟨i0, hi, hz0, hz1, hz2⟩ := info_parts infoE
  have HI0 := Lib.hid hi
  have HZ0 := Lib.hid hz0
  have HZ1 := Lib.hid hz1
  have HZ2 := Lib.hid hz2
  clear hi hz0 hz1 hz2
  go_enter Try.func23, Try.ntmps23
  have kk := HP0.out.clk.cell 0 _ rfl
  go_wp2_with fail
  refine (now_is Ck 0 now _ kk).mono ?_
  rintro e w' ⟨rfl, rfl⟩
  go_wp2_with fail
  have HE5 := Lib.hid (show Bl w.heap.size [.int .i64 a0, .int .i64 a1, .int .i64 a2, .int .i64 a3, .int .i64 a4, .int .i64 a5, .int .i64 a6, .int .i64 a7, .int .i64 a8, .int .i64 a9, .int .i64 a10, .int .i64 a11, .int .i64 now, .int .i64 a13] (w.alloc (Obj.cells #[.int .i64 a0, .int .i64 a1, .int .i64 a2, .int .i64 a3, .int .i64 a4, .int .i64 a5, .int .i64 a6, .int .i64 a7, .int .i64 a8, .int .i64 a9, .int .i64 a10, .int .i64 a11, .int .i64 now, .int .i64 a13] 68)) from Bl.new w [.int .i64 a0, .int .i64 a1, .int .i64 a2, .int .i64 a3, .int .i64 a4, .int .i64 a5, .int .i64 a6, .int .i64 a7, .int .i64 a8, .int .i64 a9, .int .i64 a10, .int .i64 a11, .int .i64 now, .int .i64 a13] 68)
  have hB5 : Below w.heap.size w (w.alloc (Obj.cells #[.int .i64 a0, .int .i64 a1, .int .i64 a2, .int .i64 a3, .int .i64 a4, .int .i64 a5, .int .i64 a6, .int .i64 a7, .int .i64 a8, .int .i64 a9, .int .i64 a10, .int .i64 a11, .int .i64 now, .int .i64 a13] 68)) := by go_grown
  have HP5 := Lib.hid (H.out.below hB5)
  have HB5 := Lib.hid hB5
  have HZ5 := Lib.hid (show (w.alloc (Obj.cells #[.int .i64 a0, .int .i64 a1, .int .i64 a2, .int .i64 a3, .int .i64 a4, .int .i64 a5, .int .i64 a6, .int .i64 a7, .int .i64 a8, .int .i64 a9, .int .i64 a10, .int .i64 a11, .int .i64 now, .int .i64 a13] 68)).heap.size = w.heap.size + 1 from by simp)
  clear hB5
  generalize hw5 : w.alloc (Obj.cells #[.int .i64 a0, .int .i64 a1, .int .i64 a2, .int .i64 a3, .int .i64 a4, .int .i64 a5, .int .i64 a6, .int .i64 a7, .int .i64 a8, .int .i64 a9, .int .i64 a10, .int .i64 a11, .int .i64 now, .int .i64 a13] 68) = w5 at HE5 HP5 HB5 HZ5 ⊢
  clear hw5 HE0 HP0
  have m9 := HP5.out.blk.cell 9 _ rfl
  have f9 := HP5.out.blk.frz 9
  have lB := HP5.out.blk.lt
  have hba := (Below.refl w5.heap.size w5).alloc (Nat.le_refl _) (Obj.cells (List.toArray [.int .i64 a0, .int .i64 a1, .int .i64 a2, .int .i64 a3, .int .i64 a4, .int .i64 a5, .int .i64 a6, .int .i64 a7, .int .i64 a8, .int .i64 a9, .int .i64 a10, .int .i64 a11, .int .i64 now, .int .i64 a13]) 68)
  have HPa := Lib.hid ((HP5.out.below hba).below (Below.drew (Below.refl _ _)))
  have HEa := (HE5.out.below hba).below (Below.drew (Below.refl _ _))
  have hSa := And.intro (HEa.cell 0 _ rfl) (And.intro (HEa.cell 1 _ rfl) (And.intro (HEa.cell 2 _ rfl) (And.intro (HEa.cell 3 _ rfl) (And.intro (HEa.cell 4 _ rfl) (And.intro (HEa.cell 5 _ rfl) (And.intro (HEa.cell 6 _ rfl) (And.intro (HEa.cell 7 _ rfl) (And.intro (HEa.cell 8 _ rfl) (And.intro (HEa.cell 9 _ rfl) (And.intro (HEa.cell 10 _ rfl) (And.intro (HEa.cell 11 _ rfl) (And.intro (HEa.cell 12 _ rfl) (HEa.cell 13 _ rfl)))))))))))))
  have HEd5 := HE5.out.below (Below.drew (Below.refl _ _))
  have hSd := And.intro (HEd5.cell 0 _ rfl) (And.intro (HEd5.cell 1 _ rfl) (And.intro (HEd5.cell 2 _ rfl) (And.intro (HEd5.cell 3 _ rfl) (And.intro (HEd5.cell 4 _ rfl) (And.intro (HEd5.cell 5 _ rfl) (And.intro (HEd5.cell 6 _ rfl) (And.intro (HEd5.cell 7 _ rfl) (And.intro (HEd5.cell 8 _ rfl) (And.intro (HEd5.cell 9 _ rfl) (And.intro (HEd5.cell 10 _ rfl) (And.intro (HEd5.cell 11 _ rfl) (And.intro (HEd5.cell 12 _ rfl) (HEd5.cell 13 _ rfl)))))))))))))
  have N1 := Lib.hid (show L.length + 1 ≤ maxLen from by have := HL9.out; unfold maxLen; omega)
  have N2 := Lib.hid (show (L.length + 1) * 112 ≤ 140737488355328 from by have := HL9.out; omega)
  have NV := Lib.hid (show ∀ zz ∈ ([.int .i64 a0, .int .i64 a1, .int .i64 a2, .int .i64 a3, .int .i64 a4, .int .i64 a5, .int .i64 a6, .int .i64 a7, .int .i64 a8, .int .i64 a9, .int .i64 a10, .int .i64 a11, .int .i64 now, .int .i64 a13] : List Value), zz.oneCell' = true from by
    intro zz hz
    simp only [List.mem_cons, List.not_mem_nil, or_false] at hz
    rcases hz with h | h | h | h | h | h | h | h | h | h | h | h | h | h <;> (subst h; rfl))
  have HR := Lib.hid ((reads_newN w5 1 14 [.int .i64 a0, .int .i64 a1, .int .i64 a2, .int .i64 a3, .int .i64 a4, .int .i64 a5, .int .i64 a6, .int .i64 a7, .int .i64 a8, .int .i64 a9, .int .i64 a10, .int .i64 a11, .int .i64 now, .int .i64 a13] 68 rfl).drew)
  clear hba HEa HEd5
  go_wp2_with fail
  refine wp_region_held_drew (S := (fun w' => w'.cell? ⟨w.heap.size, 0, none⟩ = some (.int .i64 a0) ∧ w'.cell? ⟨w.heap.size, 1, none⟩ = some (.int .i64 a1) ∧ w'.cell? ⟨w.heap.size, 2, none⟩ = some (.int .i64 a2) ∧ w'.cell? ⟨w.heap.size, 3, none⟩ = some (.int .i64 a3) ∧ w'.cell? ⟨w.heap.size, 4, none⟩ = some (.int .i64 a4) ∧ w'.cell? ⟨w.heap.size, 5, none⟩ = some (.int .i64 a5) ∧ w'.cell? ⟨w.heap.size, 6, none⟩ = some (.int .i64 a6) ∧ w'.cell? ⟨w.heap.size, 7, none⟩ = some (.int .i64 a7) ∧ w'.cell? ⟨w.heap.size, 8, none⟩ = some (.int .i64 a8) ∧ w'.cell? ⟨w.heap.size, 9, none⟩ = some (.int .i64 a9) ∧ w'.cell? ⟨w.heap.size, 10, none⟩ = some (.int .i64 a10) ∧ w'.cell? ⟨w.heap.size, 11, none⟩ = some (.int .i64 a11) ∧ w'.cell? ⟨w.heap.size, 12, none⟩ = some (.int .i64 now) ∧ w'.cell? ⟨w.heap.size, 13, none⟩ = some (.int .i64 a13))) (by kernel_rfl) hSd (fun hHeld => ?_)
  refine tk (i := 0) (d := some 10) (v := ?_) (hy := Or.inl ⟨by rfl, ?_⟩) (h := ?_)
  rotate_left
  · intro wq hSw
    go_simp
    try with_reducible rfl
  simp only [Act.put, tkA, tkB, tkC]
  refine tk (i := 1) (d := some 11) (v := ?_) (hy := Or.inl ⟨by rfl, ?_⟩) (h := ?_)
  rotate_left
  · intro wq hSw
    go_simp
    try with_reducible rfl
  simp only [Act.put, tkA, tkB, tkC]
  refine tk (i := 2) (d := some 12) (v := ?_) (hy := Or.inl ⟨by rfl, ?_⟩) (h := ?_)
  rotate_left
  · intro wq hSw
    go_simp
    try with_reducible rfl
  simp only [Act.put, tkA, tkB, tkC]
  refine tk (i := 3) (d := some 13) (v := ?_) (hy := Or.inl ⟨by rfl, ?_⟩) (h := ?_)
  rotate_left
  · intro wq hSw
    go_simp
    try with_reducible rfl
  simp only [Act.put, tkA, tkB, tkC]
  refine tk (i := 5) (d := some 15) (v := ?_) (hy := Or.inl ⟨by rfl, ?_⟩) (h := ?_)
  rotate_left
  · intro wq hSw
    go_simp
    try with_reducible rfl
  simp only [Act.put, tkA, tkB, tkC]
  refine wpAnyH_ready (rs := [4, 6]) (by as_aux_lemma => kernel_rfl) (by simp) ?_
  refine AllReadyH.cons rfl (fun KK hKK => ?_) ?_
  · go_simp
    refine hKK.out _ _ (by first | exact hSa | assumption) (fun hHeld => ?_)
    clear hKK KK
    try simp only [Act.put, tkA, tkB, tkC]
    refine wpAnyH_ready (rs := [6]) (by as_aux_lemma => kernel_rfl) (by simp) ?_
    refine AllReadyH.cons rfl (fun KK hKK => ?_) ?_
    · go_simp
      refine hKK.out _ _ (by first | exact hSa | assumption) (fun hHeld => ?_)
      clear hKK KK
      try simp only [Act.put, tkA, tkB, tkC]
      refine wpAnyH_ready (rs := [7]) (by as_aux_lemma => kernel_rfl) (by simp) ?_
      refine AllReadyH.cons rfl (fun KK hKK => ?_) ?_
      · refine step_append_any _ (by rfl) (.tmp 14) (.tmp 16) 55 (by rfl) K 68 i0 (Value.agg #[.int .i64 0, .int .i64 0, .int .i64 0, .int .i64 0, .int .i64 0, .int .i64 0, .int .i64 0, .int .i64 0, .int .i64 0, .int .i64 0, .int .i64 0, .int .i64 0, .int .i64 0, .int .i64 0]) 14 112 Try.underlying55 HI0.out HZ0.out HZ1.out HZ2.out rfl (by decide) (.slice Av L.length cv) L.length (lgs L) (by rfl) HPa.out.row (w5.heap.size + 1) (some ⟨w5.heap.size, 0, none⟩) 1 1 [.int .i64 a0, .int .i64 a1, .int .i64 a2, .int .i64 a3, .int .i64 a4, .int .i64 a5, .int .i64 a6, .int .i64 a7, .int .i64 a8, .int .i64 a9, .int .i64 a10, .int .i64 a11, .int .i64 now, .int .i64 a13] (by rfl) HR.out NV.out N1.out N2.out HPa.out.hK ?_
        intro v6 w6 hown6 hgrow6 hblk6
        obtain ⟨A6, c6, rfl⟩ := oshape hown6
        have hgr := grown_undrewS hgrow6
        have hb6 := HP5.out.app_low hgr
        have hP := HP5.out.push (x := x) (by rw [HX.out]; exact hown6) hgr
        have c9 := (hb6.cell (p := ⟨W, 9, none⟩) HP5.out.lo.1).trans m9
        have g9 := (hb6.frozen (p := ⟨W, 9, none⟩) HP5.out.lo.1).trans f9
        have hE6 : Bl w.heap.size [.int .i64 a0, .int .i64 a1, .int .i64 a2, .int .i64 a3, .int .i64 a4, .int .i64 a5, .int .i64 a6, .int .i64 a7, .int .i64 a8, .int .i64 a9, .int .i64 a10, .int .i64 a11, .int .i64 now, .int .i64 a13] w6 := (HE5.out.below ((Below.refl _ _).alloc (Nat.le_refl _) _)).grown hgr HNG.out
        have hS6 := And.intro (hE6.cell 0 _ rfl) (And.intro (hE6.cell 1 _ rfl) (And.intro (hE6.cell 2 _ rfl) (And.intro (hE6.cell 3 _ rfl) (And.intro (hE6.cell 4 _ rfl) (And.intro (hE6.cell 5 _ rfl) (And.intro (hE6.cell 6 _ rfl) (And.intro (hE6.cell 7 _ rfl) (And.intro (hE6.cell 8 _ rfl) (And.intro (hE6.cell 9 _ rfl) (And.intro (hE6.cell 10 _ rfl) (And.intro (hE6.cell 11 _ rfl) (And.intro (hE6.cell 12 _ rfl) (hE6.cell 13 _ rfl)))))))))))))
        have hE7 := hE6.far (p := ⟨W, 9, none⟩) HBE.out (.slice A6 (L.length + 1) c6)
        have hS7 := And.intro (hE7.cell 0 _ rfl) (And.intro (hE7.cell 1 _ rfl) (And.intro (hE7.cell 2 _ rfl) (And.intro (hE7.cell 3 _ rfl) (And.intro (hE7.cell 4 _ rfl) (And.intro (hE7.cell 5 _ rfl) (And.intro (hE7.cell 6 _ rfl) (And.intro (hE7.cell 7 _ rfl) (And.intro (hE7.cell 8 _ rfl) (And.intro (hE7.cell 9 _ rfl) (And.intro (hE7.cell 10 _ rfl) (And.intro (hE7.cell 11 _ rfl) (And.intro (hE7.cell 12 _ rfl) (hE7.cell 13 _ rfl)))))))))))))
        refine hKK.out _ _ (hS6) (fun hHeld => ?_)
        clear hKK KK
        try simp only [Act.put, tkA, tkB, tkC]
        refine tk (i := 8) (d := some 18) (v := ?_) (hy := Or.inl ⟨by rfl, ?_⟩) (h := ?_)
        rotate_left
        · intro wq hSw
          go_simp
          try with_reducible rfl
        simp only [Act.put, tkA, tkB, tkC]
        refine tk (i := 9) (d := some 19) (v := ?_) (hy := Or.inl ⟨by rfl, ?_⟩) (h := ?_)
        rotate_left
        · intro wq hSw
          go_simp
          try with_reducible rfl
        simp only [Act.put, tkA, tkB, tkC]
        refine wpAnyH_ready (rs := [10]) (by as_aux_lemma => kernel_rfl) (by simp) ?_
        refine AllReadyH.cons rfl (fun KK hKK => ?_) ?_
        · go_simp
          refine hKK.out _ _ (hS7) (fun hHeld => ?_)
          clear hKK KK
          try simp only [Act.put, tkA, tkB, tkC]
          refine wpAnyH_done (by as_aux_lemma => kernel_rfl) ?_ _
          go_end0
          have q1 := hgr.size
          rw [World.size_alloc] at q1
          have q2 := HZ5.out
          refine ⟨rfl, _, hP, ⟨hgr.os.trans HB5.out.os, hgr.tape.trans HB5.out.tape, hgr.output.trans HB5.out.output, by rw [World.size_setCell]; omega, fun g hg h1 h2 => ?_⟩⟩
          exact (Below.heap_setCell w6 ⟨W, 9, none⟩ _ g h1).trans ((hgr.block g (by rw [World.size_alloc]; omega) (fun e => h2 e.symm)).trans ((Below.heap_alloc w5 _ g (by omega)).trans (HB5.out.block g hg)))
        exact AllReadyH.nil
      exact AllReadyH.nil
    exact AllReadyH.nil
  refine AllReadyH.cons rfl (fun KK hKK => ?_) ?_
  · go_simp
    refine hKK.out _ _ (by first | exact hSa | assumption) (fun hHeld => ?_)
    clear hKK KK
    try simp only [Act.put, tkA, tkB, tkC]
    refine wpAnyH_ready (rs := [4]) (by as_aux_lemma => kernel_rfl) (by simp) ?_
    refine AllReadyH.cons rfl (fun KK hKK => ?_) ?_
    · go_simp
      refine hKK.out _ _ (by first | exact hSa | assumption) (fun hHeld => ?_)
      clear hKK KK
      try simp only [Act.put, tkA, tkB, tkC]
      refine wpAnyH_ready (rs := [7]) (by as_aux_lemma => kernel_rfl) (by simp) ?_
      refine AllReadyH.cons rfl (fun KK hKK => ?_) ?_
      · refine step_append_any _ (by rfl) (.tmp 14) (.tmp 16) 55 (by rfl) K 68 i0 (Value.agg #[.int .i64 0, .int .i64 0, .int .i64 0, .int .i64 0, .int .i64 0, .int .i64 0, .int .i64 0, .int .i64 0, .int .i64 0, .int .i64 0, .int .i64 0, .int .i64 0, .int .i64 0, .int .i64 0]) 14 112 Try.underlying55 HI0.out HZ0.out HZ1.out HZ2.out rfl (by decide) (.slice Av L.length cv) L.length (lgs L) (by rfl) HPa.out.row (w5.heap.size + 1) (some ⟨w5.heap.size, 0, none⟩) 1 1 [.int .i64 a0, .int .i64 a1, .int .i64 a2, .int .i64 a3, .int .i64 a4, .int .i64 a5, .int .i64 a6, .int .i64 a7, .int .i64 a8, .int .i64 a9, .int .i64 a10, .int .i64 a11, .int .i64 now, .int .i64 a13] (by rfl) HR.out NV.out N1.out N2.out HPa.out.hK ?_
        intro v6 w6 hown6 hgrow6 hblk6
        obtain ⟨A6, c6, rfl⟩ := oshape hown6
        have hgr := grown_undrewS hgrow6
        have hb6 := HP5.out.app_low hgr
        have hP := HP5.out.push (x := x) (by rw [HX.out]; exact hown6) hgr
        have c9 := (hb6.cell (p := ⟨W, 9, none⟩) HP5.out.lo.1).trans m9
        have g9 := (hb6.frozen (p := ⟨W, 9, none⟩) HP5.out.lo.1).trans f9
        have hE6 : Bl w.heap.size [.int .i64 a0, .int .i64 a1, .int .i64 a2, .int .i64 a3, .int .i64 a4, .int .i64 a5, .int .i64 a6, .int .i64 a7, .int .i64 a8, .int .i64 a9, .int .i64 a10, .int .i64 a11, .int .i64 now, .int .i64 a13] w6 := (HE5.out.below ((Below.refl _ _).alloc (Nat.le_refl _) _)).grown hgr HNG.out
        have hS6 := And.intro (hE6.cell 0 _ rfl) (And.intro (hE6.cell 1 _ rfl) (And.intro (hE6.cell 2 _ rfl) (And.intro (hE6.cell 3 _ rfl) (And.intro (hE6.cell 4 _ rfl) (And.intro (hE6.cell 5 _ rfl) (And.intro (hE6.cell 6 _ rfl) (And.intro (hE6.cell 7 _ rfl) (And.intro (hE6.cell 8 _ rfl) (And.intro (hE6.cell 9 _ rfl) (And.intro (hE6.cell 10 _ rfl) (And.intro (hE6.cell 11 _ rfl) (And.intro (hE6.cell 12 _ rfl) (hE6.cell 13 _ rfl)))))))))))))
        have hE7 := hE6.far (p := ⟨W, 9, none⟩) HBE.out (.slice A6 (L.length + 1) c6)
        have hS7 := And.intro (hE7.cell 0 _ rfl) (And.intro (hE7.cell 1 _ rfl) (And.intro (hE7.cell 2 _ rfl) (And.intro (hE7.cell 3 _ rfl) (And.intro (hE7.cell 4 _ rfl) (And.intro (hE7.cell 5 _ rfl) (And.intro (hE7.cell 6 _ rfl) (And.intro (hE7.cell 7 _ rfl) (And.intro (hE7.cell 8 _ rfl) (And.intro (hE7.cell 9 _ rfl) (And.intro (hE7.cell 10 _ rfl) (And.intro (hE7.cell 11 _ rfl) (And.intro (hE7.cell 12 _ rfl) (hE7.cell 13 _ rfl)))))))))))))
        refine hKK.out _ _ (hS6) (fun hHeld => ?_)
        clear hKK KK
        try simp only [Act.put, tkA, tkB, tkC]
        refine tk (i := 8) (d := some 18) (v := ?_) (hy := Or.inl ⟨by rfl, ?_⟩) (h := ?_)
        rotate_left
        · intro wq hSw
          go_simp
          try with_reducible rfl
        simp only [Act.put, tkA, tkB, tkC]
        refine tk (i := 9) (d := some 19) (v := ?_) (hy := Or.inl ⟨by rfl, ?_⟩) (h := ?_)
        rotate_left
        · intro wq hSw
          go_simp
          try with_reducible rfl
        simp only [Act.put, tkA, tkB, tkC]
        refine wpAnyH_ready (rs := [10]) (by as_aux_lemma => kernel_rfl) (by simp) ?_
        refine AllReadyH.cons rfl (fun KK hKK => ?_) ?_
        · go_simp
          refine hKK.out _ _ (hS7) (fun hHeld => ?_)
          clear hKK KK
          try simp only [Act.put, tkA, tkB, tkC]
          refine wpAnyH_done (by as_aux_lemma => kernel_rfl) ?_ _
          go_end0
          have q1 := hgr.size
          rw [World.size_alloc] at q1
          have q2 := HZ5.out
          refine ⟨rfl, _, hP, ⟨hgr.os.trans HB5.out.os, hgr.tape.trans HB5.out.tape, hgr.output.trans HB5.out.output, by rw [World.size_setCell]; omega, fun g hg h1 h2 => ?_⟩⟩
          exact (Below.heap_setCell w6 ⟨W, 9, none⟩ _ g h1).trans ((hgr.block g (by rw [World.size_alloc]; omega) (fun e => h2 e.symm)).trans ((Below.heap_alloc w5 _ g (by omega)).trans (HB5.out.block g hg)))
        exact AllReadyH.nil
      exact AllReadyH.nil
    exact AllReadyH.nil
  exact AllReadyH.nil
end
end Go.Proofs.Ytmjkhefgpobinaa
