/-
  PairSteps: the walk.
-/
import Derived.Test.YtmjkhefgpobinaaM1
import Derived.Test.YtmjkhefgpobinaaM2
import Derived.Test.YtmjkhefgpobinaaM27
import Derived.Test.YtmjkhefgpobinaaM32
namespace Go.Proofs.Ytmjkhefgpobinaa
open Go.ChangeShapes Go.WideShapes Go.ChangeAt Go.RowKit
section
variable {C : Cfg}
set_option maxRecDepth 100000 in
set_option maxHeartbeats 16000000 in
theorem steps_main (hC : C.Ok) (A : Option Addr) (len cap : Nat) (g : Nat → Odr) (way aX gen aY sh more : Int) (hmore : 0 ≤ more ∧ more ≤ 255) (w : World) (hod : OdsAt A len g w) : Calls Try.prog 5 #[RC C, .slice A len cap, .agg #[.int .i64 way, .int .i64 aX, .int .i64 gen, .int .i64 aY, .int .i64 sh], .int .u8 more] w fun e w' => e = .returned (.bool true) ∧ Below w.heap.size w w' := by
  have HBO := Lib.hid (fun (W' : World) (h' : OdsAt A len g W') => both_is hC A len cap g W' h')
  have HAW := Lib.hid (fun W' => awake_is W')
  have HC := Lib.hid hC
  have HOD := Lib.hid hod
  have HMORE := Lib.hid hmore
  unfold RC at HBO ⊢
  clear hC hod hmore
  go_enter Try.func5, Try.ntmps5
  go_wp2_with fail
  have HAM := Lib.hid (show Bl (w.heap.size + 1) [.int .i64 way, .int .i64 aX, .int .i64 gen, .int .i64 aY, .int .i64 sh] ((w.alloc (Obj.cells #[.int .i64 (C.p : Int), .int .i64 (C.c : Int), .int .i64 C.n, .int .i64 C.b, .int .i64 C.r, .int .i64 (C.f : Int), .int .i64 (C.g : Int)] 23)).alloc (Obj.cells #[.int .i64 way, .int .i64 aX, .int .i64 gen, .int .i64 aY, .int .i64 sh] 73)) from by
    have := Bl.new (w.alloc (Obj.cells #[.int .i64 (C.p : Int), .int .i64 (C.c : Int), .int .i64 C.n, .int .i64 C.b, .int .i64 C.r, .int .i64 (C.f : Int), .int .i64 (C.g : Int)] 23)) [.int .i64 way, .int .i64 aX, .int .i64 gen, .int .i64 aY, .int .i64 sh] 73
    rw [World.size_alloc] at this
    exact this)
  have HB2 := Lib.hid (show Below w.heap.size w ((w.alloc (Obj.cells #[.int .i64 (C.p : Int), .int .i64 (C.c : Int), .int .i64 C.n, .int .i64 C.b, .int .i64 C.r, .int .i64 (C.f : Int), .int .i64 (C.g : Int)] 23)).alloc (Obj.cells #[.int .i64 way, .int .i64 aX, .int .i64 gen, .int .i64 aY, .int .i64 sh] 73)) from by go_grown)
  generalize (w.alloc (Obj.cells #[.int .i64 (C.p : Int), .int .i64 (C.c : Int), .int .i64 C.n, .int .i64 C.b, .int .i64 C.r, .int .i64 (C.f : Int), .int .i64 (C.g : Int)] 23)).alloc (Obj.cells #[.int .i64 way, .int .i64 aX, .int .i64 gen, .int .i64 aY, .int .i64 sh] 73) = w2 at HAM HB2 ⊢
  generalize w.heap.size + 1 = ab at HAM ⊢
  refine (HBO.out _ (HOD.out.below HB2.out)).mono ?_
  rintro e w3 (⟨hall, K, W, M, B, Ck, Q, SB, TB, ws, jv, Jb, KJ, rfl, hBA, hlo, hb3⟩ | ⟨hno, rfl, hb3⟩)
  rotate_left
  · have HB3 := Lib.hid (Below.step HB2.out hb3)
    clear hno hb3
    go_wp2_with fail
    refine (HAW.out _).mono ?_
    rintro e w4 ⟨rfl, hb4⟩
    have HB4 := Lib.hid (Below.step HB3.out hb4)
    clear hb4
    go_wp2
    go_ret
    exact ⟨rfl, HB4.out⟩
  have HBA := Lib.hid hBA.p
  have HRL := Lib.hid hBA.r
  have HLO := Lib.hid hlo
  have HB3 := Lib.hid hb3
  have HL48 := Lib.hid (show (len : Int) ≤ 24 from by
    have h24 := HC.out.a24
    rcases Nat.eq_zero_or_pos len with h | h
    · omega
    · have := (hall (len - 1) (by omega)).i
      omega)
  obtain ⟨x, y, ok, hown⟩ := own_of HC.out aX aY
  have HOWN := Lib.hid hown
  have ham3 := HAM.out.below HB3.out
  have lam := ham3.lt
  have m0 := ham3.cell 0 _ rfl
  have m1 := ham3.cell 1 _ rfl
  have m2 := ham3.cell 2 _ rfl
  have m3 := ham3.cell 3 _ rfl
  have m4 := ham3.cell 4 _ rfl
  clear hall hBA hlo hb3 HBO hown ham3
  go_wp2_with fail
  refine (begin_is way aX gen aY sh x y ok _).mono ?_
  rintro e w4 ⟨p, rfl, hlp, hbp, hb4⟩
  have HB4 := Lib.hid (Below.step HB3.out hb4)
  have HAP := Lib.hid (ap_of (K' := w4.heap.size) HBA.out hlp hbp.lt)
  have HMF := Lib.hid (show MF w4.heap.size W M B Ck 1 (fun _ => p) w2 from ⟨fun _ _ => HAP.out, fun i j hi hj hn => absurd (show i = j by omega) hn, HLO.out, fun _ _ => by have := HB3.out.size; show w2.heap.size ≤ p; omega, HB4.out.size⟩)
  have HMM := Lib.hid (show MM w4.heap.size C W M B Ck 1 (fun _ => p) (fun _ => aX) (fun _ => aY) (2 * (len : Int)) (fun _ => (tr0 way x gen y sh ok)) ⟨Sg g len, Tg g len, 0, []⟩ (fun _ => Rc0) ws (.slice none 0 0) w2 w4 from
    ⟨(HBA.out.below hb4).raise (Nat.le_trans HBA.out.hK hb4.size) (Nat.le_refl _), HRL.out, fun i hi => ⟨hbp, gd_tr0 _ _ _ _ _ _, HOWN.out way gen sh⟩, HB4.out⟩)
  clear hlp hbp hb4 HBA HRL HLO HB3 HB4 HAP m0 m1 m2 m3 m4 lam HOWN
  generalize w4.heap.size = K4 at HMM HMF
  go_wp2_with fail
  go_loopw [31] (fun i wr => ∃ (k : Nat) (ts : Nat → Tr Tm5) (st : Int) (J : Nat → Rc) (ws : Nat → Int) (lv : Value), k ≤ 14 ∧ i = .int .i64 (k : Int) ∧ Hid (0 ≤ st ∧ st ≤ 48 + (k : Int)) ∧ Hid (ts 0 = (itn (PmC C) (tr0 way x gen y sh ok) ⟨Sg g len, Tg g len, 0, []⟩ k).1) ∧ Hid (MM K4 C W M B Ck 1 (fun _ => p) (fun _ => aX) (fun _ => aY) st ts (itn (PmC C) (tr0 way x gen y sh ok) ⟨Sg g len, Tg g len, 0, []⟩ k).2 J ws lv w2 wr)) (fun i _ => 15 - (intOf i).toNat)
  case atStart => exact ⟨0, _, _, _, ws, _, by omega, rfl, Lib.hid ⟨by have := HL48.out; omega, by have := HL48.out; omega⟩, Lib.hid rfl, HMM⟩
  case round =>
    clear HMM
    obtain ⟨k, ts, st, J, ws, lv, hk, rfl, HST, HTS, HMM⟩ := hrel
    have HW := Lib.hid (itn_w (PmC C) (tr0 way x gen y sh ok) ⟨Sg g len, Tg g len, 0, []⟩ k)
    have HPC := Lib.hid (show (ts 0).pc = k from by rw [HTS.out]; exact itn_pc _ _ _ rfl k hk)
    by_cases hlt : k < 14
    · have k0 : (0 : Int) ≤ (k : Int) := by omega
      have k1 : (k : Int) < 14 := by omega
      have HLT := Lib.hid hlt
      have HNOW := Lib.hid (show (itn (PmC C) (tr0 way x gen y sh ok) ⟨Sg g len, Tg g len, 0, []⟩ k).2.now = 0 from HW.out.1)
      have HLL := Lib.hid (show (itn (PmC C) (tr0 way x gen y sh ok) ⟨Sg g len, Tg g len, 0, []⟩ k).2.log.length ≤ k from by have h9 : _ ≤ 0 + k := HW.out.2; omega)
      clear HW hlt hk
      go_wp2_with fail
      refine (done_no (HMM.out.t 0 (by omega)).1 (by rw [HPC.out]; exact HLT.out)).mono ?_
      rintro e w5 ⟨rfl, hb5⟩
      have HM5 := Lib.hid (HMM.out.below hb5)
      have lW := HM5.out.p.blk.lt
      have c7 := HM5.out.p.blk.cell 7 _ rfl
      clear hb5 HMM
      go_wp2_with fail
      refine (msteps HM5.out.p.mem).mono ?_
      rintro e w6 ⟨rfl, rfl⟩
      clear lW c7
      go_wp2_with fail
      refine (HM5.out.step HMF.out HC.out 0 (by omega) (by have := HST.out; omega) (by rw [HNOW.out]; omega) (by have := HLL.out; have := HLT.out; omega)).mono ?_
      rintro e w7 ⟨rfl, ws', lv', hm⟩
      have HM7 := Lib.hid hm
      have HN := Lib.hid (stN_01 C (ts 0))
      have HE := Lib.hid (show stepT (PmC C) (ts 0) (itn (PmC C) (tr0 way x gen y sh ok) ⟨Sg g len, Tg g len, 0, []⟩ k).2 = (itn (PmC C) (tr0 way x gen y sh ok) ⟨Sg g len, Tg g len, 0, []⟩ (k + 1)) from by rw [HTS.out]; rfl)
      obtain ⟨s2, hs2⟩ : ∃ s2, s2 = st + stN C (ts 0) := ⟨_, rfl⟩
      rw [← hs2] at hm
      have HM7 := Lib.hid hm
      have HS2 := Lib.hid hs2
      obtain ⟨d, hd⟩ : ∃ d : Int, d = s2 - st := ⟨_, rfl⟩
      have HD := Lib.hid (show 0 ≤ d ∧ d ≤ 1 from by have := HN.out; omega)
      have hw9 : IntKind.i64.wrap (s2 - st) = d := by rw [← hd]; exact IntWalk.i64_in _ (by have := HD.out; omega)
      have d0 : decide (d < 0) = false := decide_eq_false (by have := HD.out; omega)
      have d1 : decide (1 < d) = false := decide_eq_false (by have := HD.out; omega)
      have HST2 := Lib.hid (show 0 ≤ s2 ∧ s2 ≤ 48 + ((k + 1 : Nat) : Int) from by have := HST.out; have := HN.out; omega)
      have lW := hm.p.blk.lt
      have c7 := hm.p.blk.cell 7 _ rfl
      clear hm hs2 hd
      go_wp2_with fail
      refine (msteps HM7.out.p.mem).mono ?_
      rintro e w8 ⟨rfl, rfl⟩
      have HPC7 := Lib.hid (show (upd ts 0 (stepT (PmC C) (ts 0) (itn (PmC C) (tr0 way x gen y sh ok) ⟨Sg g len, Tg g len, 0, []⟩ k).2).1 0).pc = k + 1 from by rw [upd_at, HE.out]; exact itn_pc _ _ _ rfl (k + 1) HLT.out)
      clear lW c7
      by_cases h13 : k = 13
      · subst h13
        go_wp2_with fail
        refine (done_yes (HM7.out.t 0 (by omega)).1 (by rw [HPC7.out]; omega)).mono ?_
        rintro e w9 ⟨rfl, hb9⟩
        have HM9 := Lib.hid (HM7.out.below hb9)
        clear hb9
        go_wp2_with fail
        go_roundw
        case rel => exact ⟨14, _, s2, _, ws', lv', by omega, rfl, HST2, Lib.hid (show upd ts 0 (stepT (PmC C) (ts 0) (itn (PmC C) (tr0 way x gen y sh ok) ⟨Sg g len, Tg g len, 0, []⟩ 13).2).1 0 = _ from by rw [upd_at, HE.out]), Lib.hid (by rw [← HE.out]; exact HM9.out)⟩
        case measure => simp [intOf]
      · have e13 : ((k : Int) == 13) = false := by simp; omega
        have H13 := Lib.hid h13
        clear h13
        go_wp2_with fail
        refine (done_no (HM7.out.t 0 (by omega)).1 (by rw [HPC7.out]; have := HLT.out; have := H13.out; omega)).mono ?_
        rintro e w9 ⟨rfl, hb9⟩
        have HM9 := Lib.hid (HM7.out.below hb9)
        clear hb9
        go_wp2_with fail
        go_roundw
        case rel => exact ⟨k + 1, _, s2, _, ws', lv', by have := HLT.out; omega, by go_num, HST2, Lib.hid (show upd ts 0 (stepT (PmC C) (ts 0) (itn (PmC C) (tr0 way x gen y sh ok) ⟨Sg g len, Tg g len, 0, []⟩ k).2).1 0 = _ from by rw [upd_at, HE.out]), Lib.hid (by rw [← HE.out]; exact HM9.out)⟩
        case measure => have := HLT.out; simp [intOf]; omega
    · obtain rfl : k = 14 := by omega
      have hd : decide (((14 : Nat) : Int) < 14) = false := decide_eq_false (by omega)
      have HNOW := Lib.hid (show (itn (PmC C) (tr0 way x gen y sh ok) ⟨Sg g len, Tg g len, 0, []⟩ 14).2.now = 0 from HW.out.1)
      have HLL := Lib.hid (show (itn (PmC C) (tr0 way x gen y sh ok) ⟨Sg g len, Tg g len, 0, []⟩ 14).2.log.length ≤ 14 from by have h9 : _ ≤ 0 + 14 := HW.out.2; omega)
      have HBP := Lib.hid (HMM.out.t 0 (by omega)).1
      have HPW := Lib.hid (show PW K4 C W M B Ck ws st 0 lv (itn (PmC C) (tr0 way x gen y sh ok) ⟨Sg g len, Tg g len, 0, []⟩ 14).2.log wr from by have := HMM.out.p; rw [HNOW.out] at this; exact this)
      have HBW := Lib.hid HMM.out.b
      generalize (itn (PmC C) (tr0 way x gen y sh ok) ⟨Sg g len, Tg g len, 0, []⟩ 14).2.log = L at HPW HLL
      clear HMM HTS HW HNOW
      obtain ⟨A9, c9, rfl⟩ := oshape HPW.out.row
      have lW := HPW.out.blk.lt
      have q9 := HPW.out.blk.cell 9 _ rfl
      obtain ⟨m, hm⟩ : ∃ m, L.length = m := ⟨_, rfl⟩
      have HLM := Lib.hid hm
      rw [hm] at q9
      have HL14 := Lib.hid (show m ≤ 14 from by have := HLL.out; omega)
      have mm : m ≤ 14 := HL14.out
      clear hm
      go_wp2_with fail
      refine (tell_is HPW.out 4 7 0 0 0 0 0 0 0 0 0 0 99 0 (.raw 4 7 0) rfl (by have := HLL.out; omega)).mono ?_
      rintro e w5 ⟨rfl, lv5, hp5, hf5⟩
      have hown5 : (Value.slice A9 L.length c9).ownBlock ≠ some p := fun e9 => by have := (HPW.out.row.lt p e9).1; have := (HMF.out.a 0 (by omega)).lo; omega
      have HBP5 := Lib.hid (show Bl p (prc aX aY (ts 0)) w5 from by
        obtain ⟨tt, htt⟩ := HBP.out
        exact ⟨tt, (hf5.block p HBP.out.lt (HMF.out.a 0 (by omega)).nW hown5).trans htt⟩)
      have HBW5 := Lib.hid (show Below w2.heap.size w2 w5 from ⟨hf5.os.trans HBW.out.os, hf5.tape.trans HBW.out.tape, hf5.output.trans HBW.out.output, Nat.le_trans HBW.out.size hf5.size, fun z hz => (hf5.block z (by have := HBW.out.size; omega) (by have := HMF.out.lo; omega) (fun e9 => by have := (HPW.out.row.lt z e9).1; have := HMF.out.k; omega)).trans (HBW.out.block z hz)⟩)
      have HPW5 := Lib.hid hp5
      have hrow : w5.ownsRow K4 68 14 lv5 (m + 1) (lgs L ++ [.int .i64 4, .int .i64 7, .int .i64 0, .int .i64 0, .int .i64 0, .int .i64 0, .int .i64 0, .int .i64 0, .int .i64 0, .int .i64 0, .int .i64 0, .int .i64 0, .int .i64 0, .int .i64 0]) := by
        have := hp5.row
        rw [lgs_snoc, List.length_append, HLM.out] at this
        exact this
      obtain ⟨A5, c5, rfl⟩ := oshape hrow
      obtain ⟨g5, rfl, hg5, hcc⟩ := row_cells hrow (by omega)
      have hll : (lgs L).length = m * 14 := by rw [lgs_len, HLM.out]
      have e0 : w5.cell? ⟨g5, m * 14, none⟩ = some (.int .i64 4) := by rw [hcc (m * 14) (by omega), List.getElem?_append_right (by omega), hll, show m * 14 - m * 14 = 0 from by omega]; rfl
      have e1 : w5.cell? ⟨g5, m * 14 + 1, none⟩ = some (.int .i64 7) := by rw [hcc (m * 14 + 1) (by omega), List.getElem?_append_right (by omega), hll, show m * 14 + 1 - m * 14 = 1 from by omega]; rfl
      have e2 : w5.cell? ⟨g5, m * 14 + 2, none⟩ = some (.int .i64 0) := by rw [hcc (m * 14 + 2) (by omega), List.getElem?_append_right (by omega), hll, show m * 14 + 2 - m * 14 = 2 from by omega]; rfl
      have e3 : w5.cell? ⟨g5, m * 14 + 3, none⟩ = some (.int .i64 0) := by rw [hcc (m * 14 + 3) (by omega), List.getElem?_append_right (by omega), hll, show m * 14 + 3 - m * 14 = 3 from by omega]; rfl
      have e4 : w5.cell? ⟨g5, m * 14 + 4, none⟩ = some (.int .i64 0) := by rw [hcc (m * 14 + 4) (by omega), List.getElem?_append_right (by omega), hll, show m * 14 + 4 - m * 14 = 4 from by omega]; rfl
      have e5 : w5.cell? ⟨g5, m * 14 + 5, none⟩ = some (.int .i64 0) := by rw [hcc (m * 14 + 5) (by omega), List.getElem?_append_right (by omega), hll, show m * 14 + 5 - m * 14 = 5 from by omega]; rfl
      have e6 : w5.cell? ⟨g5, m * 14 + 6, none⟩ = some (.int .i64 0) := by rw [hcc (m * 14 + 6) (by omega), List.getElem?_append_right (by omega), hll, show m * 14 + 6 - m * 14 = 6 from by omega]; rfl
      have e7 : w5.cell? ⟨g5, m * 14 + 7, none⟩ = some (.int .i64 0) := by rw [hcc (m * 14 + 7) (by omega), List.getElem?_append_right (by omega), hll, show m * 14 + 7 - m * 14 = 7 from by omega]; rfl
      have e8 : w5.cell? ⟨g5, m * 14 + 8, none⟩ = some (.int .i64 0) := by rw [hcc (m * 14 + 8) (by omega), List.getElem?_append_right (by omega), hll, show m * 14 + 8 - m * 14 = 8 from by omega]; rfl
      have e9 : w5.cell? ⟨g5, m * 14 + 9, none⟩ = some (.int .i64 0) := by rw [hcc (m * 14 + 9) (by omega), List.getElem?_append_right (by omega), hll, show m * 14 + 9 - m * 14 = 9 from by omega]; rfl
      have e10 : w5.cell? ⟨g5, m * 14 + 10, none⟩ = some (.int .i64 0) := by rw [hcc (m * 14 + 10) (by omega), List.getElem?_append_right (by omega), hll, show m * 14 + 10 - m * 14 = 10 from by omega]; rfl
      have e11 : w5.cell? ⟨g5, m * 14 + 11, none⟩ = some (.int .i64 0) := by rw [hcc (m * 14 + 11) (by omega), List.getElem?_append_right (by omega), hll, show m * 14 + 11 - m * 14 = 11 from by omega]; rfl
      have e12 : w5.cell? ⟨g5, m * 14 + 12, none⟩ = some (.int .i64 0) := by rw [hcc (m * 14 + 12) (by omega), List.getElem?_append_right (by omega), hll, show m * 14 + 12 - m * 14 = 12 from by omega]; rfl
      have e13 : w5.cell? ⟨g5, m * 14 + 13, none⟩ = some (.int .i64 0) := by rw [hcc (m * 14 + 13) (by omega), List.getElem?_append_right (by omega), hll, show m * 14 + 13 - m * 14 = 13 from by omega]; rfl
      have lW5 := hp5.blk.lt
      have r9 := hp5.blk.cell 9 _ rfl
      have r8 := hp5.blk.cell 8 _ rfl
      have rk := hp5.clk.cell 0 _ rfl
      have m0 : (0 : Int) ≤ (m : Int) := by omega
      have m14 : (m : Int) ≤ 14 := by omega
      clear hown5 hp5 hf5 hrow hcc hll q9 lW HBP HBW HPW HLL HLM mm
      go_wp2_with fail
      have h18 : Bl W [.int .i64 (C.p : Int), .int .i64 (C.c : Int), .int .i64 C.n, .int .i64 C.b, .int .i64 C.r, .int .i64 (C.f : Int), .int .i64 (C.g : Int), .pointer (some ⟨M, 0, none⟩), .pointer (some ⟨Ck, 0, none⟩), .slice (some ⟨g5, 0, none⟩) (m + 1) c5] w5.drew ∧ w5.drew.cell? ⟨g5, m * 14, none⟩ = some (.int .i64 4) ∧ w5.drew.cell? ⟨g5, m * 14 + 1, none⟩ = some (.int .i64 7) ∧ w5.drew.cell? ⟨g5, m * 14 + 2, none⟩ = some (.int .i64 0) ∧ w5.drew.cell? ⟨g5, m * 14 + 3, none⟩ = some (.int .i64 0) ∧ w5.drew.cell? ⟨g5, m * 14 + 4, none⟩ = some (.int .i64 0) ∧ w5.drew.cell? ⟨g5, m * 14 + 5, none⟩ = some (.int .i64 0) ∧ w5.drew.cell? ⟨g5, m * 14 + 6, none⟩ = some (.int .i64 0) ∧ w5.drew.cell? ⟨g5, m * 14 + 7, none⟩ = some (.int .i64 0) ∧ w5.drew.cell? ⟨g5, m * 14 + 8, none⟩ = some (.int .i64 0) ∧ w5.drew.cell? ⟨g5, m * 14 + 9, none⟩ = some (.int .i64 0) ∧ w5.drew.cell? ⟨g5, m * 14 + 10, none⟩ = some (.int .i64 0) ∧ w5.drew.cell? ⟨g5, m * 14 + 11, none⟩ = some (.int .i64 0) ∧ w5.drew.cell? ⟨g5, m * 14 + 12, none⟩ = some (.int .i64 0) ∧ w5.drew.cell? ⟨g5, m * 14 + 13, none⟩ = some (.int .i64 0) := ⟨HPW5.out.blk, e0, e1, e2, e3, e4, e5, e6, e7, e8, e9, e10, e11, e12, e13⟩
      have hck5 : w5.drew.cell? ⟨Ck, 0, none⟩ = some (.int .i64 0) := HPW5.out.clk.cell 0 _ rfl
      have HPWd := Lib.hid (show PW K4 C W M B Ck ws st 0 (.slice (some ⟨g5, 0, none⟩) (m + 1) c5) (L ++ [.raw 4 7 0]) w5.drew from HPW5.out.below (Below.drew (Below.refl _ _)))
      have HBPd := Lib.hid (show Bl p (prc aX aY (ts 0)) w5.drew from HBP5.out)
      have HBWd := Lib.hid (show Below w2.heap.size w2 w5.drew from HBW5.out.drew)
      have hne : (((m + 1 : Nat) : Int) != (m : Int) + 1) = false := by simp
      have heq : (((m + 1 : Nat) : Int) == (m : Int) + 1) = true := by simp
      have hwp : IntKind.i64.wrap ((m : Int) + 1) = (m : Int) + 1 := IntWalk.i64_in _ (by omega)
      refine wp_region_held_drew (S := fun w' => Bl W [.int .i64 (C.p : Int), .int .i64 (C.c : Int), .int .i64 C.n, .int .i64 C.b, .int .i64 C.r, .int .i64 (C.f : Int), .int .i64 (C.g : Int), .pointer (some ⟨M, 0, none⟩), .pointer (some ⟨Ck, 0, none⟩), .slice (some ⟨g5, 0, none⟩) (m + 1) c5] w' ∧ w'.cell? ⟨g5, m * 14, none⟩ = some (.int .i64 4) ∧ w'.cell? ⟨g5, m * 14 + 1, none⟩ = some (.int .i64 7) ∧ w'.cell? ⟨g5, m * 14 + 2, none⟩ = some (.int .i64 0) ∧ w'.cell? ⟨g5, m * 14 + 3, none⟩ = some (.int .i64 0) ∧ w'.cell? ⟨g5, m * 14 + 4, none⟩ = some (.int .i64 0) ∧ w'.cell? ⟨g5, m * 14 + 5, none⟩ = some (.int .i64 0) ∧ w'.cell? ⟨g5, m * 14 + 6, none⟩ = some (.int .i64 0) ∧ w'.cell? ⟨g5, m * 14 + 7, none⟩ = some (.int .i64 0) ∧ w'.cell? ⟨g5, m * 14 + 8, none⟩ = some (.int .i64 0) ∧ w'.cell? ⟨g5, m * 14 + 9, none⟩ = some (.int .i64 0) ∧ w'.cell? ⟨g5, m * 14 + 10, none⟩ = some (.int .i64 0) ∧ w'.cell? ⟨g5, m * 14 + 11, none⟩ = some (.int .i64 0) ∧ w'.cell? ⟨g5, m * 14 + 12, none⟩ = some (.int .i64 0) ∧ w'.cell? ⟨g5, m * 14 + 13, none⟩ = some (.int .i64 0)) (by kernel_rfl) h18 (fun hHeld => ?_)
      clear h18 e0 e1 e2 e3 e4 e5 e6 e7 e8 e9 e10 e11 e12 e13 HPW5 HBP5 HBW5 r9 r8 rk lW5
      generalize w5.drew = WD at hHeld hck5 HPWd HBPd HBWd ⊢
      refine tk (i := 0) (d := some 73) (v := ?_) (hy := Or.inl ⟨by rfl, ?_⟩) (h := ?_)
      rotate_left
      · intro wq hSw
        go_simp
        try with_reducible rfl
      simp only [Act.put, tkA, tkB, tkC]
      refine tk (i := 1) (d := some 74) (v := ?_) (hy := Or.inl ⟨by rfl, ?_⟩) (h := ?_)
      rotate_left
      · intro wq hSw
        go_simp
        try with_reducible rfl
      simp only [Act.put, tkA, tkB, tkC]
      refine tk (i := 2) (d := some 75) (v := ?_) (hy := Or.inl ⟨by rfl, ?_⟩) (h := ?_)
      rotate_left
      · intro wq hSw
        go_simp
        try with_reducible rfl
      simp only [Act.put, tkA, tkB, tkC]
      refine tk (i := 3) (d := some 76) (v := ?_) (hy := Or.inl ⟨by rfl, ?_⟩) (h := ?_)
      rotate_left
      · intro wq hSw
        have hb9 := hSw.1
        have l7 := hb9.lt
        have z9 := hb9.cell 9 _ rfl
        go_simp
        try with_reducible rfl
      simp only [Act.put, tkA, tkB, tkC]
      refine tk (i := 4) (d := some 77) (v := ?_) (hy := Or.inl ⟨by rfl, ?_⟩) (h := ?_)
      rotate_left
      · intro wq hSw
        go_simp
        try with_reducible rfl
      simp only [Act.put, tkA, tkB, tkC]
      refine tk (i := 5) (d := some 78) (v := ?_) (hy := Or.inl ⟨by rfl, ?_⟩) (h := ?_)
      rotate_left
      · intro wq hSw
        go_simp
        try with_reducible rfl
      simp only [Act.put, tkA, tkB, tkC]
      refine tk (i := 6) (d := some 79) (v := ?_) (hy := Or.inl ⟨by rfl, ?_⟩) (h := ?_)
      rotate_left
      · intro wq hSw
        go_simp
        try with_reducible rfl
      simp only [Act.put, tkA, tkB, tkC]
      refine tk (i := 7) (d := some 80) (v := .bool false) (hy := Or.inl ⟨by rfl, ?_⟩) (h := ?_)
      · intro wq hSw
        go_simp
        try with_reducible rfl
      simp only [Act.put, tkA, tkB, tkC]
      refine tk (i := 8) (d := some 81) (v := .bool false) (hy := Or.inl ⟨by rfl, ?_⟩) (h := ?_)
      · intro wq hSw
        go_simp
        try with_reducible rfl
      simp only [Act.put, tkA, tkB, tkC]
      refine tk (i := 9) (d := some 82) (v := ?_) (hy := Or.inl ⟨by rfl, ?_⟩) (h := ?_)
      rotate_left
      · intro wq hSw
        go_simp
        try with_reducible rfl
      simp only [Act.put, tkA, tkB, tkC]
      refine tk (i := 10) (d := some 83) (v := ?_) (hy := Or.inl ⟨by rfl, ?_⟩) (h := ?_)
      rotate_left
      · intro wq hSw
        go_simp
        try with_reducible rfl
      simp only [Act.put, tkA, tkB, tkC]
      refine tk (i := 11) (d := some 84) (v := ?_) (hy := Or.inl ⟨by rfl, ?_⟩) (h := ?_)
      rotate_left
      · intro wq hSw
        go_simp
        try with_reducible rfl
      simp only [Act.put, tkA, tkB, tkC]
      refine tk (i := 12) (d := some 85) (v := ?_) (hy := Or.inl ⟨by rfl, ?_⟩) (h := ?_)
      rotate_left
      · intro wq hSw
        have hb9 := hSw.1
        have l7 := hb9.lt
        have z9 := hb9.cell 9 _ rfl
        go_simp
        try with_reducible rfl
      simp only [Act.put, tkA, tkB, tkC]
      refine tk (i := 13) (d := some 86) (v := ?_) (hy := Or.inl ⟨by rfl, ?_⟩) (h := ?_)
      rotate_left
      · intro wq hSw
        go_simp
        try with_reducible rfl
      simp only [Act.put, tkA, tkB, tkC]
      refine tk (i := 14) (d := some 87) (v := .pointer (some ⟨g5, m * 14, none⟩)) (hy := Or.inl ⟨by rfl, ?_⟩) (h := ?_)
      · intro wq hSw
        have hmm : (m : Int) < (m : Int) + 1 := by omega
        go_simp
        try with_reducible rfl
      simp only [Act.put, tkA, tkB, tkC]
      refine tk (i := 15) (d := some 88) (v := .agg #[.int .i64 4, .int .i64 7, .int .i64 0, .int .i64 0, .int .i64 0, .int .i64 0, .int .i64 0, .int .i64 0, .int .i64 0, .int .i64 0, .int .i64 0, .int .i64 0, .int .i64 0, .int .i64 0]) (hy := Or.inl ⟨by rfl, ?_⟩) (h := ?_)
      · intro wq hSw
        have z0 := hSw.2.1
        have z1 := hSw.2.2.1
        have z2 := hSw.2.2.2.1
        have z3 := hSw.2.2.2.2.1
        have z4 := hSw.2.2.2.2.2.1
        have z5 := hSw.2.2.2.2.2.2.1
        have z6 := hSw.2.2.2.2.2.2.2.1
        have z7 := hSw.2.2.2.2.2.2.2.2.1
        have z8 := hSw.2.2.2.2.2.2.2.2.2.1
        have z9 := hSw.2.2.2.2.2.2.2.2.2.2.1
        have z10 := hSw.2.2.2.2.2.2.2.2.2.2.2.1
        have z11 := hSw.2.2.2.2.2.2.2.2.2.2.2.2.1
        have z12 := hSw.2.2.2.2.2.2.2.2.2.2.2.2.2.1
        have z13 := hSw.2.2.2.2.2.2.2.2.2.2.2.2.2.2
        go_simp
        try with_reducible rfl
      simp only [Act.put, tkA, tkB, tkC]
      refine tk (i := 16) (d := some 89) (v := ?_) (hy := Or.inl ⟨by rfl, ?_⟩) (h := ?_)
      rotate_left
      · intro wq hSw
        go_simp
        try with_reducible rfl
      simp only [Act.put, tkA, tkB, tkC]
      refine tk (i := 17) (d := some 90) (v := ?_) (hy := Or.inl ⟨by rfl, ?_⟩) (h := ?_)
      rotate_left
      · intro wq hSw
        go_simp
        try with_reducible rfl
      simp only [Act.put, tkA, tkB, tkC]
      refine tk (i := 18) (d := some 91) (v := ?_) (hy := Or.inl ⟨by rfl, ?_⟩) (h := ?_)
      rotate_left
      · intro wq hSw
        go_simp
        try with_reducible rfl
      simp only [Act.put, tkA, tkB, tkC]
      refine tk (i := 19) (d := some 92) (v := ?_) (hy := Or.inl ⟨by rfl, ?_⟩) (h := ?_)
      rotate_left
      · intro wq hSw
        have hb9 := hSw.1
        have l7 := hb9.lt
        have z8 := hb9.cell 8 _ rfl
        go_simp
        try with_reducible rfl
      simp only [Act.put, tkA, tkB, tkC]
      refine wpAnyH_ready (rs := [20]) (by as_aux_lemma => kernel_rfl) (by simp) ?_
      refine AllReadyH.cons rfl (fun K hK => ?_) AllReadyH.nil
      go_simp
      refine (now_is Ck 0 0 WD hck5).mono ?_
      rintro e w6 ⟨rfl, rfl⟩
      refine hK.out _ _ hHeld (fun hHeld => ?_)
      clear hK K
      try simp only [Act.put, tkA, tkB, tkC]
      refine tk (i := 21) (d := some 94) (v := .agg #[.int .i64 4, .int .i64 7, .int .i64 0, .int .i64 0, .int .i64 0, .int .i64 0, .int .i64 0, .int .i64 0, .int .i64 0, .int .i64 0, .int .i64 0, .int .i64 0, .int .i64 0, .int .i64 0]) (hy := Or.inl ⟨by rfl, ?_⟩) (h := ?_)
      · intro wq hSw
        go_simp
        try with_reducible rfl
      simp only [Act.put, tkA, tkB, tkC]
      refine tk (i := 22) (d := some 95) (v := .bool false) (hy := Or.inl ⟨by rfl, ?_⟩) (h := ?_)
      · intro wq hSw
        go_simp
        try with_reducible rfl
      simp only [Act.put, tkA, tkB, tkC]
      refine tk (i := 23) (d := some 96) (v := .bool false) (hy := Or.inl ⟨by rfl, ?_⟩) (h := ?_)
      · intro wq hSw
        go_simp
        try with_reducible rfl
      simp only [Act.put, tkA, tkB, tkC]
      refine wpAnyH_done (by as_aux_lemma => kernel_rfl) ?_ _
      clear hHeld hne heq hwp hck5
      have lW6 := HPWd.out.blk.lt
      have q7 := HPWd.out.blk.cell 7 _ rfl
      go_wp2_with fail
      refine (msteps HPWd.out.mem).mono ?_
      rintro e w7 ⟨rfl, rfl⟩
      clear lW6 q7
      go_wp2_with fail
      obtain ⟨r, hr, hr0, hr4⟩ : ∃ r : Int, wrap64 (more.tmod 5) = r ∧ 0 ≤ r ∧ r ≤ 4 := by
        have hm := HMORE.out
        have e9 : more.tmod 5 = more % 5 := Int.tmod_eq_emod_of_nonneg hm.1
        exact ⟨more.tmod 5, IntWalk.wrap64_in _ (by rw [e9]; omega), by rw [e9]; omega, by rw [e9]; omega⟩
      rw [hr]
      clear hr
      go_loopw [105] (fun i wr => ∃ k : Int, 0 ≤ k ∧ k ≤ r ∧ i = .int .i64 k ∧ Hid (PW K4 C W M B Ck ws st 0 (.slice (some ⟨g5, 0, none⟩) (m + 1) c5) (L ++ [.raw 4 7 0]) wr) ∧ Hid (Bl p (prc aX aY (ts 0)) wr) ∧ Hid (Below w2.heap.size w2 wr)) (fun i _ => (5 - intOf i).toNat)
      case atStart => exact ⟨0, by omega, hr0, rfl, HPWd, HBPd, HBWd⟩
      case round =>
        clear HPWd HBPd HBWd
        obtain ⟨k, hk0, hk1, rfl, HPWd, HBPd, HBWd⟩ := hrel
        by_cases hlt : k < r
        · have hd1 : decide (k < r) = true := decide_eq_true hlt
          go_wp2_with fail
          refine (step_done HBPd.out (by rw [HPC.out]; omega) _).mono ?_
          rintro e w8 ⟨rfl, hb8⟩
          have HP8 := Lib.hid (HPWd.out.below hb8)
          have HB8 := Lib.hid (HBPd.out.below hb8)
          have HW8 := Lib.hid (Below.step HBWd.out hb8)
          clear hb8
          go_wp2_with fail
          go_roundw
          case rel => exact ⟨k + 1, by omega, by omega, by go_num, HP8, HB8, HW8⟩
          case measure => simp [intOf]; omega
        · have hd1 : decide (k < r) = false := decide_eq_false hlt
          clear hlt
          go_wp2_with fail
          refine (step_nil _ _).mono ?_
          rintro e w8 ⟨rfl, hb8⟩
          have HP8 := Lib.hid (HPWd.out.below hb8)
          have HW8 := Lib.hid (Below.step HBWd.out hb8)
          have ham8 := HAM.out.below HW8.out
          have lam := ham8.lt
          have m0' := ham8.cell 0 _ rfl
          have m1' := ham8.cell 1 _ rfl
          have m2' := ham8.cell 2 _ rfl
          have m3' := ham8.cell 3 _ rfl
          have m4' := ham8.cell 4 _ rfl
          clear hb8 ham8
          go_wp2_with fail
          refine (begin_is way aX gen aY sh x y ok _).mono ?_
          rintro e w9 ⟨p9, rfl, hlp9, hbp9, hb9⟩
          have HP9 := Lib.hid (HP8.out.below hb9)
          have HW9 := Lib.hid (Below.step HW8.out hb9)
          have HBP9 := Lib.hid hbp9
          clear hlp9 hbp9 hb9 m0' m1' m2' m3' m4' lam
          go_wp2_with fail
          refine (step_now HBP9.out (show (0 : Nat) < 14 by omega)).mono ?_
          rintro e wa ⟨rfl, hba⟩
          have HPa := Lib.hid (HP9.out.below hba)
          have HWa := Lib.hid (Below.step HW9.out hba)
          clear hba
          go_wp2_with fail
          refine (HAW.out _).mono ?_
          rintro e wb ⟨rfl, hbb⟩
          have HPb := Lib.hid (HPa.out.below hbb)
          have HWb := Lib.hid (Below.step HWa.out hbb)
          have lWb := HPb.out.blk.lt
          have q7b := HPb.out.blk.cell 7 _ rfl
          clear hbb
          go_wp2_with fail
          refine (msteps HPb.out.mem).mono ?_
          rintro e wc ⟨rfl, rfl⟩
          clear lWb q7b
          go_wp2_with fail
          refine (done_nil _).mono ?_
          rintro e wd ⟨rfl, hbd⟩
          have HWd2 := Lib.hid (Below.step HWb.out hbd)
          clear hbd
          go_wp2_with fail
          refine (made_nil _).mono ?_
          rintro e we ⟨rfl, hbe⟩
          have HWe := Lib.hid (Below.step HWd2.out hbe)
          clear hbe
          go_wp2
          go_ret
          exact ⟨rfl, Below.step HB2.out HWe.out⟩
end
set_option maxRecDepth 100000 in
set_option maxHeartbeats 16000000 in
theorem steps_bad (p c n b r f g : Int) (A : Option Addr) (len cap : Nat) (way aX gen aY sh more : Int) (w : World) (h : ¬ ((1 ≤ p ∧ p ≤ 6) ∧ (1 ≤ c ∧ c ≤ 4) ∧ (1 ≤ n ∧ n ≤ 3) ∧ (1 ≤ b ∧ b ≤ 4) ∧ (0 ≤ r ∧ r ≤ 4) ∧ (1 ≤ f ∧ f ≤ 4) ∧ (1 ≤ g ∧ g ≤ 15))) : Calls Try.prog 5 #[.agg #[.int .i64 p, .int .i64 c, .int .i64 n, .int .i64 b, .int .i64 r, .int .i64 f, .int .i64 g], .slice A len cap, .agg #[.int .i64 way, .int .i64 aX, .int .i64 gen, .int .i64 aY, .int .i64 sh], .int .u8 more] w fun e w' => e = .returned (.bool true) ∧ Below w.heap.size w w' := by
  have HBO := Lib.hid (fun W' => both_bad p c n b r f g A len cap W' h)
  have HAW := Lib.hid (fun W' => awake_is W')
  clear h
  go_enter Try.func5, Try.ntmps5
  go_wp2_with fail
  have HB2 := Lib.hid (show Below w.heap.size w ((w.alloc (Obj.cells #[.int .i64 p, .int .i64 c, .int .i64 n, .int .i64 b, .int .i64 r, .int .i64 f, .int .i64 g] 23)).alloc (Obj.cells #[.int .i64 way, .int .i64 aX, .int .i64 gen, .int .i64 aY, .int .i64 sh] 73)) from by go_grown)
  refine (HBO.out _).mono ?_
  rintro e w3 ⟨rfl, hb3⟩
  have HB3 := Lib.hid (Below.step HB2.out hb3)
  clear hb3
  go_wp2_with fail
  refine (HAW.out _).mono ?_
  rintro e w4 ⟨rfl, hb4⟩
  have HB4 := Lib.hid (Below.step HB3.out hb4)
  clear hb4
  go_wp2
  go_ret
  exact ⟨rfl, HB4.out⟩
namespace pairSteps
theorem walk (a0_0 : Int) (a0_1 : Int) (a0_2 : Int) (a0_3 : Int) (a0_4 : Int) (a0_5 : Int) (a0_6 : Int) (a1 : Option Addr) (len1 cap1 : Nat) (g1 : Nat → Odr) (a2_0 : Int) (a2_1 : Int) (a2_2 : Int) (a2_3 : Int) (a2_4 : Int) (a3 : Int) (w : World) (w0_0 : (Lit.int .i64 a0_0).wf = true) (w0_1 : (Lit.int .i64 a0_1).wf = true) (w0_2 : (Lit.int .i64 a0_2).wf = true) (w0_3 : (Lit.int .i64 a0_3).wf = true) (w0_4 : (Lit.int .i64 a0_4).wf = true) (w0_5 : (Lit.int .i64 a0_5).wf = true) (w0_6 : (Lit.int .i64 a0_6).wf = true) (w1 : OdsAt a1 len1 g1 w) (w2_0 : (Lit.int .i64 a2_0).wf = true) (w2_1 : (Lit.int .i64 a2_1).wf = true) (w2_2 : (Lit.int .i64 a2_2).wf = true) (w2_3 : (Lit.int .i64 a2_3).wf = true) (w2_4 : (Lit.int .i64 a2_4).wf = true) (w3 : (Lit.int .u8 a3).wf = true) :
    Calls Try.prog 5 #[.agg #[.int .i64 a0_0, .int .i64 a0_1, .int .i64 a0_2, .int .i64 a0_3, .int .i64 a0_4, .int .i64 a0_5, .int .i64 a0_6], .slice a1 len1 cap1, .agg #[.int .i64 a2_0, .int .i64 a2_1, .int .i64 a2_2, .int .i64 a2_3, .int .i64 a2_4], .int .u8 a3] w fun e w' => e = .returned (.bool true) ∧ Below w.heap.size w w' := by
  by_cases h : (1 ≤ a0_0 ∧ a0_0 ≤ 6) ∧ (1 ≤ a0_1 ∧ a0_1 ≤ 4) ∧ (1 ≤ a0_2 ∧ a0_2 ≤ 3) ∧ (1 ≤ a0_3 ∧ a0_3 ≤ 4) ∧ (0 ≤ a0_4 ∧ a0_4 ≤ 4) ∧ (1 ≤ a0_5 ∧ a0_5 ≤ 4) ∧ (1 ≤ a0_6 ∧ a0_6 ≤ 15)
  · obtain ⟨C, hC, rfl, rfl, rfl, rfl, rfl, rfl, rfl⟩ := cfg_of h
    refine steps_main hC a1 len1 cap1 g1 a2_0 a2_1 a2_2 a2_3 a2_4 a3 ?_ w w1
    unfold Lit.wf at w3
    rw [Bool.and_eq_true, decide_eq_true_eq, decide_eq_true_eq] at w3
    exact w3
  · exact steps_bad _ _ _ _ _ _ _ a1 len1 cap1 a2_0 a2_1 a2_2 a2_3 a2_4 a3 w h
end pairSteps
end Go.Proofs.Ytmjkhefgpobinaa
