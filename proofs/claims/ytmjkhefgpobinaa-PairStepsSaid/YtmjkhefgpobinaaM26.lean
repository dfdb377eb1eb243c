/-
  Texts of the machine of pairs, part 26.
-/
import Derived.Test.YtmjkhefgpobinaaM1
import Derived.Test.YtmjkhefgpobinaaM15
import Derived.Test.YtmjkhefgpobinaaM16
import Derived.Test.YtmjkhefgpobinaaM17
import Derived.Test.YtmjkhefgpobinaaM18
import Derived.Test.YtmjkhefgpobinaaM19
import Derived.Test.YtmjkhefgpobinaaM21
import Derived.Test.YtmjkhefgpobinaaM22
import Derived.Test.YtmjkhefgpobinaaM23
import Derived.Test.YtmjkhefgpobinaaM24
import Derived.Test.YtmjkhefgpobinaaM25
namespace Go.Proofs.Ytmjkhefgpobinaa
open Go.ChangeShapes Go.WideShapes Go.ChangeAt Go.RowKit
/-- Words beside states, terms and journals. -/
structure Rel (C : Cfg) (ws : Nat → Int) (S : Nat → Cs) (Tm : Nat → Tm5) (J : Nat → Rc) : Prop where
  s : ∀ i, i < C.A → ws (2 * i) = (cw (S i) : Int) ∧ FitS (S i) ∧ (S i).gen ≤ 15
  t : ∀ i, i < C.A → ws (2 * i + 1) = (tw (Tm i) : Int) ∧ FitT5 (Tm i) ∧ VT (Tm i)
  j : ∀ a, 2 * C.A ≤ a → a < C.N → ws a = (rw_ (J a) : Int) ∧ FitRc (J a)
theorem mupd_at (ws : Nat → Int) (a : Nat) (v : Int) : Mm.upd ws a v a = v := by unfold Mm.upd; rw [if_pos rfl]
theorem mupd_ne (ws : Nat → Int) {a b : Nat} (v : Int) (h : b ≠ a) : Mm.upd ws a v b = ws b := by unfold Mm.upd; rw [if_neg h]
theorem Rel.state {C : Cfg} {ws : Nat → Int} {S : Nat → Cs} {Tm : Nat → Tm5} {J : Nat → Rc} (h : Rel C ws S Tm J) (i : Nat) (hi : i < C.A) (s : Cs) (hs : FitS s) (hg : s.gen ≤ 15) : Rel C (Mm.upd ws (2 * i) (cw s : Int)) (upd S i s) Tm J := by
  refine ⟨fun k hk => ?_, fun k hk => ?_, fun a h1 h2 => ?_⟩
  · by_cases e : k = i
    · subst e; rw [mupd_at, upd_at]; exact ⟨rfl, hs, hg⟩
    · rw [mupd_ne _ _ (by omega), upd_ne S s e]; exact h.s k hk
  · rw [mupd_ne _ _ (by omega)]; exact h.t k hk
  · rw [mupd_ne _ _ (by omega)]; exact h.j a h1 h2
theorem Rel.word {C : Cfg} {ws : Nat → Int} {S : Nat → Cs} {Tm : Nat → Tm5} {J : Nat → Rc} (h : Rel C ws S Tm J) (i : Nat) (hi : i < C.A) (t : Tm5) (hs : FitT5 t) (hg : VT t) : Rel C (Mm.upd ws (2 * i + 1) (tw t : Int)) S (upd Tm i t) J := by
  refine ⟨fun k hk => ?_, fun k hk => ?_, fun a h1 h2 => ?_⟩
  · rw [mupd_ne _ _ (by omega)]; exact h.s k hk
  · by_cases e : k = i
    · subst e; rw [mupd_at, upd_at]; exact ⟨rfl, hs, hg⟩
    · rw [mupd_ne _ _ (by omega), upd_ne Tm t e]; exact h.t k hk
  · rw [mupd_ne _ _ (by omega)]; exact h.j a h1 h2
def noteJ (C : Cfg) (J : Nat → Rc) (i : Nat) (y z : Int) (r : Rc) : Nat → Rc := match slotS C i y z with | some a => upd J a r | none => J
theorem Rel.note {C : Cfg} {ws : Nat → Int} {S : Nat → Cs} {Tm : Nat → Tm5} {J : Nat → Rc} (h : Rel C ws S Tm J) (i : Nat) (hi : i < C.A) (y z : Int) (r : Rc) (hr : FitRc r) : Rel C (nws C ws i y z r) S Tm (noteJ C J i y z r) := by
  unfold nws noteJ
  cases hsl : slotS C i y z with
  | none => exact h
  | some a =>
    obtain ⟨l1, l2⟩ := slotS_lt hi hsl
    refine ⟨fun k hk => ?_, fun k hk => ?_, fun b h1 h2 => ?_⟩
    · show Mm.upd ws a (rw_ r : Int) (2 * k) = _ ∧ _; rw [mupd_ne _ _ (by omega)]; exact h.s k hk
    · show Mm.upd ws a (rw_ r : Int) (2 * k + 1) = _ ∧ _; rw [mupd_ne _ _ (by omega)]; exact h.t k hk
    · show Mm.upd ws a (rw_ r : Int) b = (rw_ (upd J a r b) : Int) ∧ FitRc (upd J a r b)
      by_cases e : b = a
      · subst e; rw [mupd_at, upd_at]; exact ⟨rfl, hr⟩
      · rw [mupd_ne _ _ e, upd_ne J r e]; exact h.j b h1 h2
/-- What a try holds is within its bounds. -/
structure Gd (t : Tr Tm5) : Prop where
  sx : FitS t.sx ∧ t.sx.gen ≤ 15
  sy : FitS t.sy ∧ t.sy.gen ≤ 15
  tx : VT t.tx
  ty : VT t.ty
  q : 0 ≤ t.q ∧ t.q < 65536
  p : 0 ≤ t.p ∧ t.p < 65536
  tk : 0 ≤ t.tk ∧ t.tk < 1048576
  tn : FitS t.taken ∧ t.taken.gen ≤ 15
  nw : FitS t.nw ∧ t.nw.gen ≤ 15
  lt : FitS t.lt ∧ t.lt.gen ≤ 15
  ltk : 0 ≤ t.ltk ∧ t.ltk < 1048576
theorem Fs.trans {W M B p : Nat} {lv : Value} {w w1 w2 : World} (h : Fs W M B p lv w w1) (g : Fs W M B p lv w1 w2) : Fs W M B p lv w w2 :=
  ⟨g.os.trans h.os, g.tape.trans h.tape, g.output.trans h.output, Nat.le_trans h.size g.size, fun x hx h1 h2 h3 h4 h5 => (g.block x (Nat.lt_of_lt_of_le hx h.size) h1 h2 h3 h4 h5).trans (h.block x hx h1 h2 h3 h4 h5)⟩
theorem take_gen {s s' : Cs} {q F : Int} (h : takeS s q F = some s') : s'.gen = s.gen := by
  unfold takeS at h
  split at h
  · exact absurd h (by simp)
  · split at h
    · exact absurd h (by simp)
    · split at h
      · exact absurd h (by simp)
      · rename_i h1 h2 h3
        injection h with h
        subst h
        show (endS (paidS s q) F).gen = s.gen
        rw [(endS_is (paidS s q) F).2.2.1, (paidS_is s q (by omega)).2.2.2]
theorem wish_gen (s : Cs) : (wishS s).gen = s.gen := by
  unfold wishS; split <;> rfl
theorem loosen_gen (s : Cs) : (loosenS s).gen = s.gen := by
  unfold loosenS; split
  · rfl
  · split <;> rfl
theorem release_gen {s s' : Cs} {q F : Int} (h : releaseS s q F = some s') : s'.gen = s.gen := by
  unfold releaseS at h
  split at h
  · exact absurd h (by simp)
  · split at h
    · exact absurd h (by simp)
    · split at h
      · exact absurd h (by simp)
      · rename_i h1 h2 h3
        injection h with h
        subst h
        rw [wish_gen]
        show (endS (paidS (loosenS s) q) F).gen = s.gen
        rw [(endS_is (paidS (loosenS s) q) F).2.2.1, (paidS_is (loosenS s) q (by omega)).2.2.2, loosen_gen]
theorem hold_gen (s : Cs) : (holdS s).gen = s.gen := by
  unfold holdS; split
  · rfl
  · split <;> rfl
theorem end_fit {s : Cs} {t : Int} (hs : FitS s) (ht : 0 ≤ t ∧ t < 1048576) : FitRc (endR s t) := by
  obtain ⟨a, b, c, d⟩ := fit_bd hs
  unfold endR
  split
  · rename_i h
    have h := (over_iff s).1 h
    exact fitR_of (by show 0 ≤ s.kind - 3 ∧ s.kind - 3 ≤ 5; omega) (by show 0 ≤ s.left ∧ s.left < 65536; omega) (by show 0 ≤ s.fills ∧ s.fills < 65536; omega) ht (by show (0:Int) ≤ 0 ∧ (0:Int) < 32; omega) (by show (0:Int) ≤ 0 ∧ (0:Int) < 16; omega)
  · exact fitR_of (by decide) (by decide) (by decide) (by decide) (by decide) (by decide)
/-- A try's first six steps, its next four. -/
noncomputable def tryS (P : Pm Tm5) (k : Nat) (t : Tr Tm5) (mw : Mw Tm5) : Tr Tm5 × Mw Tm5 :=
  match k with
  | 0 => ({ t with sx := mw.S t.x }, mw)
  | 1 => ({ t with tx := mw.Tm t.x }, mw)
  | 2 => stHold P t mw
  | 3 => ({ t with sy := mw.S t.y }, mw)
  | 4 => ({ t with ty := mw.Tm t.y }, mw)
  | 5 => stTake P t mw
  | 6 => stLook t mw
  | 7 => stLet P t mw
  | 8 => stLook t mw
  | 9 => stLet P t mw
  | _ => (t, mw)
theorem stepT_is (P : Pm Tm5) (t : Tr Tm5) (mw : Mw Tm5) (hpc : t.pc < 14) (hok : t.ok = true) : stepT P t mw = tryS P t.pc { t with pc := t.pc + 1 } mw := by
  unfold stepT
  rw [if_neg (by omega), if_neg (by simp [hok])]
  obtain ⟨way, x, gen, y, shard, ok, pc, sx, sy, tx, ty, held, made, freed, q, p, tk, taken, nw, lt, ltk⟩ := t
  match pc, hpc with
  | 0, _ | 1, _ | 2, _ | 3, _ | 4, _ | 5, _ | 6, _ | 7, _ | 8, _ | 9, _ => rfl
  | 10, _ | 11, _ | 12, _ | 13, _ => rfl
/-- What its steps note, in the journals. -/
def stepJ (C : Cfg) (k : Nat) (t : Tr Tm5) (J : Nat → Rc) : Nat → Rc :=
  match k with
  | 10 => if t.made = true then noteJ C J t.x t.sx.gen t.sx.fills ⟨1, t.q, t.p, t.tk, (t.y : Int), t.sy.gen⟩ else J
  | 11 => if t.made = true then noteJ C J t.y t.sy.gen t.sy.fills ⟨1, t.q, t.p, t.tk, (t.x : Int), t.sx.gen⟩ else J
  | 12 => if t.made = true ∧ overS t.taken = true then noteJ C J t.y t.sy.gen (C.f : Int) (endR t.taken t.tk) else J
  | 13 => if t.freed = true ∧ overS t.lt = true then noteJ C J t.x t.sx.gen (C.f : Int) (endR t.lt t.ltk) else J
  | _ => J
/-- How many words it touches. -/
noncomputable def stepN (C : Cfg) (k : Nat) (t : Tr Tm5) : Int :=
  match k with
  | 0 => 1
  | 1 => 1
  | 2 => if mayHold (PmC C) t = true then 1 else 0
  | 3 => 1
  | 4 => 1
  | 5 => if t.held = true ∧ mayTake (PmC C) t = true then (match (PmC C).mt t.tx t.ty t.sx.left t.sy.left with | none => 0 | some (q, _) => match takeS t.sy q (PmC C).F with | none => 0 | some _ => 1) else 0
  | 6 => if t.held = true ∧ t.freed = false then 1 else 0
  | 7 => if t.held = true ∧ t.freed = false then (match releaseS t.nw t.q (PmC C).F with | none => 0 | some _ => 1) else 0
  | 8 => if t.held = true ∧ t.freed = false then 1 else 0
  | 9 => if t.held = true ∧ t.freed = false then (match releaseS t.nw t.q (PmC C).F with | none => 0 | some _ => 1) else 0
  | 10 => if t.made = true then nst C t.x t.sx.gen t.sx.fills else 0
  | 11 => if t.made = true then nst C t.y t.sy.gen t.sy.fills else 0
  | 12 => if t.made = true ∧ overS t.taken = true then nst C t.y t.sy.gen (C.f : Int) else 0
  | 13 => if t.freed = true ∧ overS t.lt = true then nst C t.x t.sx.gen (C.f : Int) else 0
  | _ => 0
theorem stepN_5 (C : Cfg) (t : Tr Tm5) : stepN C 5 t = if t.held = true ∧ mayTake (PmC C) t = true then (match (PmC C).mt t.tx t.ty t.sx.left t.sy.left with | none => 0 | some (q, _) => match takeS t.sy q (PmC C).F with | none => 0 | some _ => 1) else 0 := rfl
theorem stepN_7 (C : Cfg) (t : Tr Tm5) : stepN C 7 t = if t.held = true ∧ t.freed = false then (match releaseS t.nw t.q (PmC C).F with | none => 0 | some _ => 1) else 0 := rfl
theorem stepN_9 (C : Cfg) (t : Tr Tm5) : stepN C 9 t = if t.held = true ∧ t.freed = false then (match releaseS t.nw t.q (PmC C).F with | none => 0 | some _ => 1) else 0 := rfl
/-- What a step leaves. -/
def Pst (K : Nat) (C : Cfg) (W M B Ck p : Nat) (aX aY : Int) (st : Int) (lv : Value) (t2 : Tr Tm5) (mw2 : Mw Tm5) (J2 : Nat → Rc) (n : Int) (w w' : World) : Prop :=
  ∃ ws' lv', PW K C W M B Ck ws' (st + n) mw2.now lv' mw2.log w' ∧ Rel C ws' mw2.S mw2.Tm J2 ∧ Bl p (prc aX aY t2) w' ∧ Gd t2 ∧ Fs W M B p lv w w'
section
variable {K : Nat} {C : Cfg} {W M B Ck p : Nat} {ws ws' : Nat → Int} {st : Int} {lv : Value} {w w' : World} {aX aY : Int} {t : Tr Tm5} {mw : Mw Tm5} {J : Nat → Rc}
theorem st_0 (h : PW K C W M B Ck ws st mw.now lv mw.log w) (hr : Rel C ws mw.S mw.Tm J) (hg : Gd t) (hC : C.Ok) (ha : Ap K W M B Ck p) (hp : Bl p (prc aX aY t) w) (hX : t.x < C.A) (hY : t.y < C.A) (hax : aX = (t.x : Int)) (hay : aY = (t.y : Int)) (hst : 0 ≤ st ∧ st ≤ 1000000) (hnow : 0 ≤ mw.now ∧ mw.now ≤ 1000000) (hl : mw.log.length ≤ 100000) :
    Calls Try.prog 38 #[.pointer (some ⟨p, 0, none⟩), .pointer (some ⟨W, 0, none⟩), .int .i64 0] w fun e w' => e = .returned (.tuple #[]) ∧ Pst K C W M B Ck p aX aY st lv (tryS (PmC C) 0 t mw).1 (tryS (PmC C) 0 t mw).2 (stepJ C 0 t J) (stepN C 0 t) w w' := by
  obtain ⟨h1, h2, h3⟩ := hr.s t.x hX
  refine (try_0 h hC ha hp (mw.S t.x) h2 t.x hX h1 hax hst).mono ?_
  rintro e w' ⟨h4, h5, h6, h7⟩
  exact ⟨h4, ws, lv, h5, hr, h6, ⟨⟨h2, h3⟩, hg.sy, hg.tx, hg.ty, hg.q, hg.p, hg.tk, hg.tn, hg.nw, hg.lt, hg.ltk⟩, Fs.of h7⟩
theorem st_1 (h : PW K C W M B Ck ws st mw.now lv mw.log w) (hr : Rel C ws mw.S mw.Tm J) (hg : Gd t) (hC : C.Ok) (ha : Ap K W M B Ck p) (hp : Bl p (prc aX aY t) w) (hX : t.x < C.A) (hY : t.y < C.A) (hax : aX = (t.x : Int)) (hay : aY = (t.y : Int)) (hst : 0 ≤ st ∧ st ≤ 1000000) (hnow : 0 ≤ mw.now ∧ mw.now ≤ 1000000) (hl : mw.log.length ≤ 100000) :
    Calls Try.prog 38 #[.pointer (some ⟨p, 0, none⟩), .pointer (some ⟨W, 0, none⟩), .int .i64 1] w fun e w' => e = .returned (.tuple #[]) ∧ Pst K C W M B Ck p aX aY st lv (tryS (PmC C) 1 t mw).1 (tryS (PmC C) 1 t mw).2 (stepJ C 1 t J) (stepN C 1 t) w w' := by
  obtain ⟨h1, h2, h3⟩ := hr.t t.x hX
  refine (try_1 h hC ha hp (mw.Tm t.x) h2 t.x hX h1 hax hst).mono ?_
  rintro e w' ⟨h4, h5, h6, h7⟩
  exact ⟨h4, ws, lv, h5, hr, h6, ⟨hg.sx, hg.sy, h3, hg.ty, hg.q, hg.p, hg.tk, hg.tn, hg.nw, hg.lt, hg.ltk⟩, Fs.of h7⟩
theorem st_2 (h : PW K C W M B Ck ws st mw.now lv mw.log w) (hr : Rel C ws mw.S mw.Tm J) (hg : Gd t) (hC : C.Ok) (ha : Ap K W M B Ck p) (hp : Bl p (prc aX aY t) w) (hX : t.x < C.A) (hY : t.y < C.A) (hax : aX = (t.x : Int)) (hay : aY = (t.y : Int)) (hst : 0 ≤ st ∧ st ≤ 1000000) (hnow : 0 ≤ mw.now ∧ mw.now ≤ 1000000) (hl : mw.log.length ≤ 100000) :
    Calls Try.prog 38 #[.pointer (some ⟨p, 0, none⟩), .pointer (some ⟨W, 0, none⟩), .int .i64 2] w fun e w' => e = .returned (.tuple #[]) ∧ Pst K C W M B Ck p aX aY st lv (tryS (PmC C) 2 t mw).1 (tryS (PmC C) 2 t mw).2 (stepJ C 2 t J) (stepN C 2 t) w w' := by
  obtain ⟨h1, h2, h3⟩ := hr.s t.x hX
  show Calls _ _ _ _ fun e w' => _ ∧ Pst K C W M B Ck p aX aY st lv (stHold (PmC C) t mw).1 (stHold (PmC C) t mw).2 J (if mayHold (PmC C) t = true then 1 else 0) w w'
  unfold stHold
  by_cases hm : mayHold (PmC C) t = true
  · rw [if_pos hm, if_pos hm]
    by_cases he : mw.S t.x = t.sx
    · rw [if_pos he]
      refine (try_2y h hC ha hp hm t.x hX hax hg.sx.1 (by rw [h1, he]) hst).mono ?_
      rintro e w' ⟨h4, h5, h6, h7⟩
      exact ⟨h4, _, lv, h5, hr.state t.x hX (holdS t.sx) (fit_hold hg.sx.1) (by rw [hold_gen]; exact hg.sx.2), h6, ⟨hg.sx, hg.sy, hg.tx, hg.ty, hg.q, hg.p, hg.tk, hg.tn, hg.nw, hg.lt, hg.ltk⟩, Fs.of h7⟩
    · rw [if_neg he]
      refine (try_2x h hC ha hp hm t.x hX hax hg.sx.1 (fun e => he (cw_inj h2 hg.sx.1 (by rw [h1] at e; exact_mod_cast e))) hst).mono ?_
      rintro e w' ⟨h4, h5, h6, h7⟩
      exact ⟨h4, _, lv, h5, hr, h6, ⟨hg.sx, hg.sy, hg.tx, hg.ty, hg.q, hg.p, hg.tk, hg.tn, hg.nw, hg.lt, hg.ltk⟩, Fs.of h7⟩
  · rw [if_neg hm, if_neg hm]
    refine (try_2n h hC ha hp (not_true hm)).mono ?_
    rintro e w' ⟨h4, h5, h6, h7⟩
    exact ⟨h4, _, lv, by rw [Int.add_zero]; exact h5, hr, h6, hg, Fs.of h7⟩
theorem st_3 (h : PW K C W M B Ck ws st mw.now lv mw.log w) (hr : Rel C ws mw.S mw.Tm J) (hg : Gd t) (hC : C.Ok) (ha : Ap K W M B Ck p) (hp : Bl p (prc aX aY t) w) (hX : t.x < C.A) (hY : t.y < C.A) (hax : aX = (t.x : Int)) (hay : aY = (t.y : Int)) (hst : 0 ≤ st ∧ st ≤ 1000000) (hnow : 0 ≤ mw.now ∧ mw.now ≤ 1000000) (hl : mw.log.length ≤ 100000) :
    Calls Try.prog 38 #[.pointer (some ⟨p, 0, none⟩), .pointer (some ⟨W, 0, none⟩), .int .i64 3] w fun e w' => e = .returned (.tuple #[]) ∧ Pst K C W M B Ck p aX aY st lv (tryS (PmC C) 3 t mw).1 (tryS (PmC C) 3 t mw).2 (stepJ C 3 t J) (stepN C 3 t) w w' := by
  obtain ⟨h1, h2, h3⟩ := hr.s t.y hY
  refine (try_3 h hC ha hp (mw.S t.y) h2 t.y hY h1 hay hst).mono ?_
  rintro e w' ⟨h4, h5, h6, h7⟩
  exact ⟨h4, ws, lv, h5, hr, h6, ⟨hg.sx, ⟨h2, h3⟩, hg.tx, hg.ty, hg.q, hg.p, hg.tk, hg.tn, hg.nw, hg.lt, hg.ltk⟩, Fs.of h7⟩
theorem st_4 (h : PW K C W M B Ck ws st mw.now lv mw.log w) (hr : Rel C ws mw.S mw.Tm J) (hg : Gd t) (hC : C.Ok) (ha : Ap K W M B Ck p) (hp : Bl p (prc aX aY t) w) (hX : t.x < C.A) (hY : t.y < C.A) (hax : aX = (t.x : Int)) (hay : aY = (t.y : Int)) (hst : 0 ≤ st ∧ st ≤ 1000000) (hnow : 0 ≤ mw.now ∧ mw.now ≤ 1000000) (hl : mw.log.length ≤ 100000) :
    Calls Try.prog 38 #[.pointer (some ⟨p, 0, none⟩), .pointer (some ⟨W, 0, none⟩), .int .i64 4] w fun e w' => e = .returned (.tuple #[]) ∧ Pst K C W M B Ck p aX aY st lv (tryS (PmC C) 4 t mw).1 (tryS (PmC C) 4 t mw).2 (stepJ C 4 t J) (stepN C 4 t) w w' := by
  obtain ⟨h1, h2, h3⟩ := hr.t t.y hY
  refine (try_4 h hC ha hp (mw.Tm t.y) h2 t.y hY h1 hay hst).mono ?_
  rintro e w' ⟨h4, h5, h6, h7⟩
  exact ⟨h4, ws, lv, h5, hr, h6, ⟨hg.sx, hg.sy, hg.tx, h3, hg.q, hg.p, hg.tk, hg.tn, hg.nw, hg.lt, hg.ltk⟩, Fs.of h7⟩
theorem st_5 (h : PW K C W M B Ck ws st mw.now lv mw.log w) (hr : Rel C ws mw.S mw.Tm J) (hg : Gd t) (hC : C.Ok) (ha : Ap K W M B Ck p) (hp : Bl p (prc aX aY t) w) (hX : t.x < C.A) (hY : t.y < C.A) (hax : aX = (t.x : Int)) (hay : aY = (t.y : Int)) (hst : 0 ≤ st ∧ st ≤ 1000000) (hnow : 0 ≤ mw.now ∧ mw.now ≤ 1000000) (hl : mw.log.length ≤ 100000) :
    Calls Try.prog 38 #[.pointer (some ⟨p, 0, none⟩), .pointer (some ⟨W, 0, none⟩), .int .i64 5] w fun e w' => e = .returned (.tuple #[]) ∧ Pst K C W M B Ck p aX aY st lv (tryS (PmC C) 5 t mw).1 (tryS (PmC C) 5 t mw).2 (stepJ C 5 t J) (stepN C 5 t) w w' := by
  obtain ⟨h1, h2, h3⟩ := hr.s t.y hY
  show Calls _ _ _ _ fun e w' => _ ∧ Pst K C W M B Ck p aX aY st lv (stTake (PmC C) t mw).1 (stTake (PmC C) t mw).2 J (stepN C 5 t) w w'
  unfold stTake
  rw [stepN_5]
  have hF : 0 ≤ (C.f : Int) ∧ (C.f : Int) ≤ 4 := by have := hC.hf; omega
  by_cases hm : t.held = true ∧ mayTake (PmC C) t = true
  · rw [if_pos hm]
    rw [if_pos hm]
    obtain ⟨a0, a1, a2, a3⟩ := fit_bd hg.sx.1
    rcases match_of t.tx t.ty t.sx.left t.sy.left hg.tx hg.ty with ⟨hn, hc⟩ | ⟨q, pr, hq, q1, q2, q3, p1, p2, hc⟩
    · have hn' : (PmC C).mt t.tx t.ty t.sx.left t.sy.left = none := hn
      rw [hn']
      refine (try_5y h hC hp hm.1 hm.2 (fun W' w' => PW K C W M B Ck ws st mw.now lv mw.log w' ∧ Bl p (prc aX aY t) w' ∧ Below W'.heap.size W' w') (fun W' hW hB => (take_n hW ha hB hc).mono fun e w' hh => ⟨hh.1, hW.below hh.2, hB.below hh.2, hh.2⟩)).mono ?_
      rintro e w' ⟨h4, w1, hb, h5, h6, h7⟩
      exact ⟨h4, _, lv, by show PW _ _ _ _ _ _ _ (st + 0) _ _ _ _; rw [Int.add_zero]; exact h5, hr, h6, hg, Fs.below (Below.step hb h7)⟩
    · have hq' : (PmC C).mt t.tx t.ty t.sx.left t.sy.left = some (q, pr) := hq
      rw [hq']
      rcases take_any t.sy q (C.f : Int) hg.sy.1 hF with ⟨hk, hv⟩ | ⟨s5, hk, hv⟩
      · have hk' : takeS t.sy q (PmC C).F = none := hk
        simp only [hk']
        refine (try_5y h hC hp hm.1 hm.2 (fun W' w' => PW K C W M B Ck ws st mw.now lv mw.log w' ∧ Bl p (prc aX aY t) w' ∧ Fs W M B p lv W' w') (fun W' hW hB => (take_b hW hC ha hB q pr q1 hc hv).mono fun e w' hh => hh)).mono ?_
        rintro e w' ⟨h4, w1, hb, h5, h6, h7⟩
        exact ⟨h4, _, lv, by show PW _ _ _ _ _ _ _ (st + 0) _ _ _ _; rw [Int.add_zero]; exact h5, hr, h6, hg, (Fs.below hb).trans h7⟩
      · have hk' : takeS t.sy q (PmC C).F = some s5 := hk
        have fs := fit_take hg.sy.1 hF hk
        have fg : s5.gen ≤ 15 := by rw [take_gen hk]; exact hg.sy.2
        simp only [hk']
        by_cases he : mw.S t.y = t.sy
        · rw [if_pos he]
          refine (try_5y h hC hp hm.1 hm.2 (fun W' w' => ∃ lv', PW K C W M B Ck (Mm.upd ws (2 * t.y) (cw s5 : Int)) (st + 1) mw.now lv' (mw.log ++ [.fill t.x t.sx.gen t.y t.sy.gen q pr mw.now]) w' ∧ Bl p (prc (t.x : Int) (t.y : Int) { t with made := true, q := q, p := pr, tk := mw.now, taken := s5 }) w' ∧ Fs W M B p lv W' w') (fun W' hW hB => (take_d hW hC ha hB q pr q1 hc s5 fs hv t.y hY hay t.x hax hl (by rw [h1, he]) hst).mono fun e w' hh => hh)).mono ?_
          rintro e w' ⟨h4, w1, hb, lv', h5, h6, h7⟩
          exact ⟨h4, _, lv', h5, hr.state t.y hY s5 fs fg, by rw [hax, hay]; exact h6, ⟨hg.sx, hg.sy, hg.tx, hg.ty, ⟨by show 0 ≤ q; omega, by show q < 65536; omega⟩, ⟨by show 0 ≤ pr; omega, by show pr < 65536; omega⟩, ⟨by show 0 ≤ mw.now; omega, by show mw.now < 1048576; omega⟩, ⟨fs, fg⟩, hg.nw, hg.lt, hg.ltk⟩, (Fs.below hb).trans h7⟩
        · rw [if_neg he]
          refine (try_5y h hC hp hm.1 hm.2 (fun W' w' => PW K C W M B Ck ws (st + 1) mw.now lv mw.log w' ∧ Bl p (prc aX aY t) w' ∧ Fs W M B p lv W' w') (fun W' hW hB => (take_c hW hC ha hB q pr q1 hc s5 fs hv t.y hY hay (fun e => he (cw_inj h2 hg.sy.1 (by rw [h1] at e; exact_mod_cast e))) hst).mono fun e w' hh => hh)).mono ?_
          rintro e w' ⟨h4, w1, hb, h5, h6, h7⟩
          exact ⟨h4, _, lv, h5, hr, h6, hg, (Fs.below hb).trans h7⟩
  · rw [if_neg hm]
    rw [if_neg hm]
    refine (try_5n h hC hp hm).mono ?_
    rintro e w' ⟨h4, h5⟩
    exact ⟨h4, _, lv, by rw [Int.add_zero]; exact h.below h5, hr, hp.below h5, hg, Fs.below h5⟩
theorem st_6 (h : PW K C W M B Ck ws st mw.now lv mw.log w) (hr : Rel C ws mw.S mw.Tm J) (hg : Gd t) (hC : C.Ok) (ha : Ap K W M B Ck p) (hp : Bl p (prc aX aY t) w) (hX : t.x < C.A) (hY : t.y < C.A) (hax : aX = (t.x : Int)) (hay : aY = (t.y : Int)) (hst : 0 ≤ st ∧ st ≤ 1000000) (hnow : 0 ≤ mw.now ∧ mw.now ≤ 1000000) (hl : mw.log.length ≤ 100000) :
    Calls Try.prog 39 #[.pointer (some ⟨p, 0, none⟩), .pointer (some ⟨W, 0, none⟩), .int .i64 6] w fun e w' => e = .returned (.tuple #[]) ∧ Pst K C W M B Ck p aX aY st lv (tryS (PmC C) 6 t mw).1 (tryS (PmC C) 6 t mw).2 (stepJ C 6 t J) (stepN C 6 t) w w' := by
  obtain ⟨h1, h2, h3⟩ := hr.s t.x hX
  show Calls _ _ _ _ fun e w' => _ ∧ Pst K C W M B Ck p aX aY st lv (stLook t mw).1 (stLook t mw).2 J (if t.held = true ∧ t.freed = false then 1 else 0) w w'
  unfold stLook
  by_cases hm : t.held = true ∧ t.freed = false
  · rw [if_pos hm, if_pos hm]
    refine (free_6 h hC ha hp hm.1 hm.2 (mw.S t.x) h2 t.x hX h1 hax hst).mono ?_
    rintro e w' ⟨h4, h5, h6, h7⟩
    exact ⟨h4, ws, lv, h5, hr, h6, ⟨hg.sx, hg.sy, hg.tx, hg.ty, hg.q, hg.p, hg.tk, hg.tn, ⟨h2, h3⟩, hg.lt, hg.ltk⟩, Fs.of h7⟩
  · rw [if_neg hm, if_neg hm]
    refine (free_n 6 hp hm).mono ?_
    rintro e w' ⟨h4, h5⟩
    exact ⟨h4, _, lv, by rw [Int.add_zero]; exact h.below h5, hr, hp.below h5, hg, Fs.below h5⟩
theorem st_7 (h : PW K C W M B Ck ws st mw.now lv mw.log w) (hr : Rel C ws mw.S mw.Tm J) (hg : Gd t) (hC : C.Ok) (ha : Ap K W M B Ck p) (hp : Bl p (prc aX aY t) w) (hX : t.x < C.A) (hY : t.y < C.A) (hax : aX = (t.x : Int)) (hay : aY = (t.y : Int)) (hst : 0 ≤ st ∧ st ≤ 1000000) (hnow : 0 ≤ mw.now ∧ mw.now ≤ 1000000) (hl : mw.log.length ≤ 100000) :
    Calls Try.prog 39 #[.pointer (some ⟨p, 0, none⟩), .pointer (some ⟨W, 0, none⟩), .int .i64 7] w fun e w' => e = .returned (.tuple #[]) ∧ Pst K C W M B Ck p aX aY st lv (tryS (PmC C) 7 t mw).1 (tryS (PmC C) 7 t mw).2 (stepJ C 7 t J) (stepN C 7 t) w w' := by
  obtain ⟨h1, h2, h3⟩ := hr.s t.x hX
  show Calls _ _ _ _ fun e w' => _ ∧ Pst K C W M B Ck p aX aY st lv (stLet (PmC C) t mw).1 (stLet (PmC C) t mw).2 J (stepN C 7 t) w w'
  unfold stLet
  rw [stepN_7]
  have hF : 0 ≤ (C.f : Int) ∧ (C.f : Int) ≤ 4 := by have := hC.hf; omega
  by_cases hm : t.held = true ∧ t.freed = false
  · rw [if_pos hm]
    rw [if_pos hm]
    rw [hax] at hp ⊢
    rcases release_any t.nw t.q (C.f : Int) hg.nw.1 hF with ⟨hk, hv⟩ | ⟨s5, hk, hv⟩
    · have hk' : releaseS t.nw t.q (PmC C).F = none := hk
      simp only [hk']
      refine (free_ob 7 (by omega) h hC ha t.x hX hp hm.1 hm.2 hv hst).mono ?_
      rintro e w' ⟨h4, h5, h6, h7⟩
      exact ⟨h4, _, lv, by show PW _ _ _ _ _ _ _ (st + 0) _ _ _ _; rw [Int.add_zero]; exact h5, hr, h6, hg, h7⟩
    · have hk' : releaseS t.nw t.q (PmC C).F = some s5 := hk
      have fs := fit_release hg.nw.1 hF hk
      have fg : s5.gen ≤ 15 := by rw [release_gen hk]; exact hg.nw.2
      simp only [hk']
      by_cases he : mw.S t.x = t.nw
      · rw [if_pos he]
        cases hov : overS s5 with
        | false =>
          rw [if_neg (by simp)]
          refine (free_od 7 (by omega) h hC ha t.x hX hp hm.1 hm.2 s5 fs hv (by rw [h1, he]) hst hov).mono ?_
          rintro e w' ⟨h4, h5, h6, h7⟩
          exact ⟨h4, _, lv, h5, hr.state t.x hX s5 fs fg, h6, ⟨hg.sx, hg.sy, hg.tx, hg.ty, hg.q, hg.p, hg.tk, hg.tn, hg.nw, ⟨fs, fg⟩, ⟨by show 0 ≤ mw.now; omega, by show mw.now < 1048576; omega⟩⟩, h7⟩
        | true =>
          rw [if_pos rfl]
          refine (free_oe 7 (by omega) h hC ha t.x hX hp hm.1 hm.2 s5 fs hv (by rw [h1, he]) hst hov hl).mono ?_
          rintro e w' ⟨h4, lv', h5, h6, h7⟩
          exact ⟨h4, _, lv', h5, hr.state t.x hX s5 fs fg, h6, ⟨hg.sx, hg.sy, hg.tx, hg.ty, hg.q, hg.p, hg.tk, hg.tn, hg.nw, ⟨fs, fg⟩, ⟨by show 0 ≤ mw.now; omega, by show mw.now < 1048576; omega⟩⟩, h7⟩
      · rw [if_neg he]
        refine (free_oc 7 (by omega) h hC ha t.x hX hp hm.1 hm.2 s5 fs hv (fun e => he (cw_inj h2 hg.nw.1 (by rw [h1] at e; exact_mod_cast e))) hst).mono ?_
        rintro e w' ⟨h4, h5, h6, h7⟩
        exact ⟨h4, _, lv, h5, hr, h6, hg, h7⟩
  · rw [if_neg hm]
    rw [if_neg hm]
    refine (free_n 7 hp hm).mono ?_
    rintro e w' ⟨h4, h5⟩
    exact ⟨h4, _, lv, by rw [Int.add_zero]; exact h.below h5, hr, hp.below h5, hg, Fs.below h5⟩
theorem st_8 (h : PW K C W M B Ck ws st mw.now lv mw.log w) (hr : Rel C ws mw.S mw.Tm J) (hg : Gd t) (hC : C.Ok) (ha : Ap K W M B Ck p) (hp : Bl p (prc aX aY t) w) (hX : t.x < C.A) (hY : t.y < C.A) (hax : aX = (t.x : Int)) (hay : aY = (t.y : Int)) (hst : 0 ≤ st ∧ st ≤ 1000000) (hnow : 0 ≤ mw.now ∧ mw.now ≤ 1000000) (hl : mw.log.length ≤ 100000) :
    Calls Try.prog 39 #[.pointer (some ⟨p, 0, none⟩), .pointer (some ⟨W, 0, none⟩), .int .i64 8] w fun e w' => e = .returned (.tuple #[]) ∧ Pst K C W M B Ck p aX aY st lv (tryS (PmC C) 8 t mw).1 (tryS (PmC C) 8 t mw).2 (stepJ C 8 t J) (stepN C 8 t) w w' := by
  obtain ⟨h1, h2, h3⟩ := hr.s t.x hX
  show Calls _ _ _ _ fun e w' => _ ∧ Pst K C W M B Ck p aX aY st lv (stLook t mw).1 (stLook t mw).2 J (if t.held = true ∧ t.freed = false then 1 else 0) w w'
  unfold stLook
  by_cases hm : t.held = true ∧ t.freed = false
  · rw [if_pos hm, if_pos hm]
    refine (free_8 h hC ha hp hm.1 hm.2 (mw.S t.x) h2 t.x hX h1 hax hst).mono ?_
    rintro e w' ⟨h4, h5, h6, h7⟩
    exact ⟨h4, ws, lv, h5, hr, h6, ⟨hg.sx, hg.sy, hg.tx, hg.ty, hg.q, hg.p, hg.tk, hg.tn, ⟨h2, h3⟩, hg.lt, hg.ltk⟩, Fs.of h7⟩
  · rw [if_neg hm, if_neg hm]
    refine (free_n 8 hp hm).mono ?_
    rintro e w' ⟨h4, h5⟩
    exact ⟨h4, _, lv, by rw [Int.add_zero]; exact h.below h5, hr, hp.below h5, hg, Fs.below h5⟩
theorem st_9 (h : PW K C W M B Ck ws st mw.now lv mw.log w) (hr : Rel C ws mw.S mw.Tm J) (hg : Gd t) (hC : C.Ok) (ha : Ap K W M B Ck p) (hp : Bl p (prc aX aY t) w) (hX : t.x < C.A) (hY : t.y < C.A) (hax : aX = (t.x : Int)) (hay : aY = (t.y : Int)) (hst : 0 ≤ st ∧ st ≤ 1000000) (hnow : 0 ≤ mw.now ∧ mw.now ≤ 1000000) (hl : mw.log.length ≤ 100000) :
    Calls Try.prog 39 #[.pointer (some ⟨p, 0, none⟩), .pointer (some ⟨W, 0, none⟩), .int .i64 9] w fun e w' => e = .returned (.tuple #[]) ∧ Pst K C W M B Ck p aX aY st lv (tryS (PmC C) 9 t mw).1 (tryS (PmC C) 9 t mw).2 (stepJ C 9 t J) (stepN C 9 t) w w' := by
  obtain ⟨h1, h2, h3⟩ := hr.s t.x hX
  show Calls _ _ _ _ fun e w' => _ ∧ Pst K C W M B Ck p aX aY st lv (stLet (PmC C) t mw).1 (stLet (PmC C) t mw).2 J (stepN C 9 t) w w'
  unfold stLet
  rw [stepN_9]
  have hF : 0 ≤ (C.f : Int) ∧ (C.f : Int) ≤ 4 := by have := hC.hf; omega
  by_cases hm : t.held = true ∧ t.freed = false
  · rw [if_pos hm]
    rw [if_pos hm]
    rw [hax] at hp ⊢
    rcases release_any t.nw t.q (C.f : Int) hg.nw.1 hF with ⟨hk, hv⟩ | ⟨s5, hk, hv⟩
    · have hk' : releaseS t.nw t.q (PmC C).F = none := hk
      simp only [hk']
      refine (free_ob 9 (by omega) h hC ha t.x hX hp hm.1 hm.2 hv hst).mono ?_
      rintro e w' ⟨h4, h5, h6, h7⟩
      exact ⟨h4, _, lv, by show PW _ _ _ _ _ _ _ (st + 0) _ _ _ _; rw [Int.add_zero]; exact h5, hr, h6, hg, h7⟩
    · have hk' : releaseS t.nw t.q (PmC C).F = some s5 := hk
      have fs := fit_release hg.nw.1 hF hk
      have fg : s5.gen ≤ 15 := by rw [release_gen hk]; exact hg.nw.2
      simp only [hk']
      by_cases he : mw.S t.x = t.nw
      · rw [if_pos he]
        cases hov : overS s5 with
        | false =>
          rw [if_neg (by simp)]
          refine (free_od 9 (by omega) h hC ha t.x hX hp hm.1 hm.2 s5 fs hv (by rw [h1, he]) hst hov).mono ?_
          rintro e w' ⟨h4, h5, h6, h7⟩
          exact ⟨h4, _, lv, h5, hr.state t.x hX s5 fs fg, h6, ⟨hg.sx, hg.sy, hg.tx, hg.ty, hg.q, hg.p, hg.tk, hg.tn, hg.nw, ⟨fs, fg⟩, ⟨by show 0 ≤ mw.now; omega, by show mw.now < 1048576; omega⟩⟩, h7⟩
        | true =>
          rw [if_pos rfl]
          refine (free_oe 9 (by omega) h hC ha t.x hX hp hm.1 hm.2 s5 fs hv (by rw [h1, he]) hst hov hl).mono ?_
          rintro e w' ⟨h4, lv', h5, h6, h7⟩
          exact ⟨h4, _, lv', h5, hr.state t.x hX s5 fs fg, h6, ⟨hg.sx, hg.sy, hg.tx, hg.ty, hg.q, hg.p, hg.tk, hg.tn, hg.nw, ⟨fs, fg⟩, ⟨by show 0 ≤ mw.now; omega, by show mw.now < 1048576; omega⟩⟩, h7⟩
      · rw [if_neg he]
        refine (free_oc 9 (by omega) h hC ha t.x hX hp hm.1 hm.2 s5 fs hv (fun e => he (cw_inj h2 hg.nw.1 (by rw [h1] at e; exact_mod_cast e))) hst).mono ?_
        rintro e w' ⟨h4, h5, h6, h7⟩
        exact ⟨h4, _, lv, h5, hr, h6, hg, h7⟩
  · rw [if_neg hm]
    rw [if_neg hm]
    refine (free_n 9 hp hm).mono ?_
    rintro e w' ⟨h4, h5⟩
    exact ⟨h4, _, lv, by rw [Int.add_zero]; exact h.below h5, hr, hp.below h5, hg, Fs.below h5⟩
theorem st_10 (h : PW K C W M B Ck ws st mw.now lv mw.log w) (hr : Rel C ws mw.S mw.Tm J) (hg : Gd t) (hC : C.Ok) (ha : Ap K W M B Ck p) (hp : Bl p (prc aX aY t) w) (hX : t.x < C.A) (hY : t.y < C.A) (hax : aX = (t.x : Int)) (hay : aY = (t.y : Int)) (hst : 0 ≤ st ∧ st ≤ 1000000) (hnow : 0 ≤ mw.now ∧ mw.now ≤ 1000000) (hl : mw.log.length ≤ 100000) :
    Calls Try.prog 40 #[.pointer (some ⟨p, 0, none⟩), .pointer (some ⟨W, 0, none⟩), .int .i64 10] w fun e w' => e = .returned (.tuple #[]) ∧ Pst K C W M B Ck p aX aY st lv (tryS (PmC C) 10 t mw).1 (tryS (PmC C) 10 t mw).2 (stepJ C 10 t J) (stepN C 10 t) w w' := by
  have h24 := hC.a24
  obtain ⟨a0, a1, a2, a3⟩ := fit_bd hg.sx.1
  obtain ⟨b0, b1, b2, b3⟩ := fit_bd hg.sy.1
  have hf : FitRc ⟨1, t.q, t.p, t.tk, (t.y : Int), t.sy.gen⟩ := fitR_of (by show (0:Int) ≤ 1 ∧ (1:Int) ≤ 5; omega) hg.q hg.p hg.tk (by show 0 ≤ (t.y : Int) ∧ (t.y : Int) < 32; omega) (by have := hg.sy.2; show 0 ≤ t.sy.gen ∧ t.sy.gen < 16; omega)
  show Calls _ _ _ _ fun e w' => _ ∧ Pst K C W M B Ck p aX aY st lv t mw (if t.made = true then _ else J) (if t.made = true then _ else 0) w w'
  by_cases hm : t.made = true
  · rw [if_pos hm, if_pos hm]
    rw [hax, hay] at hp ⊢
    refine (tell_10y h hC ha t.x hX hp hm hf hst).mono ?_
    rintro e w' ⟨h4, h5, h6, h7⟩
    exact ⟨h4, _, lv, h5, hr.note t.x hX _ _ _ hf, h6, hg, Fs.of (Fq.of h7)⟩
  · rw [if_neg hm, if_neg hm]
    refine (tell_10n h ha hp (not_true hm)).mono ?_
    rintro e w' ⟨h4, h5⟩
    exact ⟨h4, _, lv, by rw [Int.add_zero]; exact h.below h5, hr, hp.below h5, hg, Fs.below h5⟩
theorem st_11 (h : PW K C W M B Ck ws st mw.now lv mw.log w) (hr : Rel C ws mw.S mw.Tm J) (hg : Gd t) (hC : C.Ok) (ha : Ap K W M B Ck p) (hp : Bl p (prc aX aY t) w) (hX : t.x < C.A) (hY : t.y < C.A) (hax : aX = (t.x : Int)) (hay : aY = (t.y : Int)) (hst : 0 ≤ st ∧ st ≤ 1000000) (hnow : 0 ≤ mw.now ∧ mw.now ≤ 1000000) (hl : mw.log.length ≤ 100000) :
    Calls Try.prog 40 #[.pointer (some ⟨p, 0, none⟩), .pointer (some ⟨W, 0, none⟩), .int .i64 11] w fun e w' => e = .returned (.tuple #[]) ∧ Pst K C W M B Ck p aX aY st lv (tryS (PmC C) 11 t mw).1 (tryS (PmC C) 11 t mw).2 (stepJ C 11 t J) (stepN C 11 t) w w' := by
  have h24 := hC.a24
  obtain ⟨a0, a1, a2, a3⟩ := fit_bd hg.sx.1
  obtain ⟨b0, b1, b2, b3⟩ := fit_bd hg.sy.1
  have hf : FitRc ⟨1, t.q, t.p, t.tk, (t.x : Int), t.sx.gen⟩ := fitR_of (by show (0:Int) ≤ 1 ∧ (1:Int) ≤ 5; omega) hg.q hg.p hg.tk (by show 0 ≤ (t.x : Int) ∧ (t.x : Int) < 32; omega) (by have := hg.sx.2; show 0 ≤ t.sx.gen ∧ t.sx.gen < 16; omega)
  show Calls _ _ _ _ fun e w' => _ ∧ Pst K C W M B Ck p aX aY st lv t mw (if t.made = true then _ else J) (if t.made = true then _ else 0) w w'
  by_cases hm : t.made = true
  · rw [if_pos hm, if_pos hm]
    rw [hax, hay] at hp ⊢
    refine (tell_11y h hC ha t.y hY hp hm hf hst).mono ?_
    rintro e w' ⟨h4, h5, h6, h7⟩
    exact ⟨h4, _, lv, h5, hr.note t.y hY _ _ _ hf, h6, hg, Fs.of (Fq.of h7)⟩
  · rw [if_neg hm, if_neg hm]
    refine (tell_11n h ha hp (not_true hm)).mono ?_
    rintro e w' ⟨h4, h5⟩
    exact ⟨h4, _, lv, by rw [Int.add_zero]; exact h.below h5, hr, hp.below h5, hg, Fs.below h5⟩
theorem st_12 (h : PW K C W M B Ck ws st mw.now lv mw.log w) (hr : Rel C ws mw.S mw.Tm J) (hg : Gd t) (hC : C.Ok) (ha : Ap K W M B Ck p) (hp : Bl p (prc aX aY t) w) (hX : t.x < C.A) (hY : t.y < C.A) (hax : aX = (t.x : Int)) (hay : aY = (t.y : Int)) (hst : 0 ≤ st ∧ st ≤ 1000000) (hnow : 0 ≤ mw.now ∧ mw.now ≤ 1000000) (hl : mw.log.length ≤ 100000) :
    Calls Try.prog 40 #[.pointer (some ⟨p, 0, none⟩), .pointer (some ⟨W, 0, none⟩), .int .i64 12] w fun e w' => e = .returned (.tuple #[]) ∧ Pst K C W M B Ck p aX aY st lv (tryS (PmC C) 12 t mw).1 (tryS (PmC C) 12 t mw).2 (stepJ C 12 t J) (stepN C 12 t) w w' := by
  have hf : FitRc (endR t.taken t.tk) := end_fit hg.tn.1 hg.tk
  show Calls _ _ _ _ fun e w' => _ ∧ Pst K C W M B Ck p aX aY st lv t mw (if t.made = true ∧ overS t.taken = true then _ else J) (if t.made = true ∧ overS t.taken = true then _ else 0) w w'
  by_cases hm : t.made = true ∧ overS t.taken = true
  · rw [if_pos hm, if_pos hm]
    rw [hay] at hp ⊢
    refine (tell_12y h hC ha t.y hY hp hm.1 hm.2 hf hst).mono ?_
    rintro e w' ⟨h4, h5, h6, h7⟩
    exact ⟨h4, _, lv, h5, hr.note t.y hY _ _ _ hf, h6, hg, Fs.of (Fq.of h7)⟩
  · rw [if_neg hm, if_neg hm]
    refine (tell_12n h ha hp hm).mono ?_
    rintro e w' ⟨h4, h5⟩
    exact ⟨h4, _, lv, by rw [Int.add_zero]; exact h.below h5, hr, hp.below h5, hg, Fs.below h5⟩
theorem st_13 (h : PW K C W M B Ck ws st mw.now lv mw.log w) (hr : Rel C ws mw.S mw.Tm J) (hg : Gd t) (hC : C.Ok) (ha : Ap K W M B Ck p) (hp : Bl p (prc aX aY t) w) (hX : t.x < C.A) (hY : t.y < C.A) (hax : aX = (t.x : Int)) (hay : aY = (t.y : Int)) (hst : 0 ≤ st ∧ st ≤ 1000000) (hnow : 0 ≤ mw.now ∧ mw.now ≤ 1000000) (hl : mw.log.length ≤ 100000) :
    Calls Try.prog 40 #[.pointer (some ⟨p, 0, none⟩), .pointer (some ⟨W, 0, none⟩), .int .i64 13] w fun e w' => e = .returned (.tuple #[]) ∧ Pst K C W M B Ck p aX aY st lv (tryS (PmC C) 13 t mw).1 (tryS (PmC C) 13 t mw).2 (stepJ C 13 t J) (stepN C 13 t) w w' := by
  have hf : FitRc (endR t.lt t.ltk) := end_fit hg.lt.1 hg.ltk
  show Calls _ _ _ _ fun e w' => _ ∧ Pst K C W M B Ck p aX aY st lv t mw (if t.freed = true ∧ overS t.lt = true then _ else J) (if t.freed = true ∧ overS t.lt = true then _ else 0) w w'
  by_cases hm : t.freed = true ∧ overS t.lt = true
  · rw [if_pos hm, if_pos hm]
    rw [hax] at hp ⊢
    refine (tell_13y h hC ha t.x hX hp hm.1 hm.2 hf hst).mono ?_
    rintro e w' ⟨h4, h5, h6, h7⟩
    exact ⟨h4, _, lv, h5, hr.note t.x hX _ _ _ hf, h6, hg, Fs.of (Fq.of h7)⟩
  · rw [if_neg hm, if_neg hm]
    refine (tell_13n h ha hp hm).mono ?_
    rintro e w' ⟨h4, h5⟩
    exact ⟨h4, _, lv, by rw [Int.add_zero]; exact h.below h5, hr, hp.below h5, hg, Fs.below h5⟩
end
end Go.Proofs.Ytmjkhefgpobinaa
namespace Go.Proofs.Ytmjkhefgpobinaa
open Go.ChangeShapes Go.WideShapes Go.ChangeAt Go.RowKit
section
variable {K : Nat} {C : Cfg} {W M B Ck p : Nat} {ws ws' : Nat → Int} {st : Int} {lv : Value} {w w' : World} {aX aY : Int} {t : Tr Tm5} {mw : Mw Tm5} {J : Nat → Rc}
/-- The owners of a try's cells, and whether it is one. -/
structure Own (C : Cfg) (aX aY : Int) (t : Tr Tm5) : Prop where
  ok : t.ok = true → aX = (t.x : Int) ∧ aY = (t.y : Int) ∧ t.x < C.A ∧ t.y < C.A ∧ 0 ≤ ow C.p C.c aX ∧ 0 ≤ ow C.p C.c aY ∧ ow C.p C.c aX ≠ ow C.p C.c aY
  no : t.ok = false → ow C.p C.c aX < 0 ∨ ow C.p C.c aY < 0 ∨ ow C.p C.c aX = ow C.p C.c aY
theorem gd_pc {t : Tr Tm5} (h : Gd t) (n : Nat) : Gd { t with pc := n } := ⟨h.sx, h.sy, h.tx, h.ty, h.q, h.p, h.tk, h.tn, h.nw, h.lt, h.ltk⟩
theorem stepN_pc (C : Cfg) (k n : Nat) (t : Tr Tm5) : stepN C k { t with pc := n } = stepN C k t := by
  unfold stepN; split <;> rfl
theorem stepJ_pc (C : Cfg) (k n : Nat) (t : Tr Tm5) (J : Nat → Rc) : stepJ C k { t with pc := n } J = stepJ C k t J := by
  unfold stepJ; split <;> rfl
/-- What Step notes, and how many words it touches. -/
def stJ (C : Cfg) (t : Tr Tm5) (J : Nat → Rc) : Nat → Rc := if t.ok = true then stepJ C t.pc t J else J
noncomputable def stN (C : Cfg) (t : Tr Tm5) : Int := if t.ok = true then stepN C t.pc t else 0
theorem stJ_late (C : Cfg) (t : Tr Tm5) (J : Nat → Rc) (h : 14 ≤ t.pc) : stJ C t J = J := by
  unfold stJ; split
  · obtain ⟨way, x, gen, y, shard, ok, pc, sx, sy, tx, ty, held, made, freed, q, p, tk, taken, nw, lt, ltk⟩ := t
    obtain ⟨n, rfl⟩ : ∃ n, pc = n + 14 := ⟨pc - 14, by have : 14 ≤ pc := h; omega⟩
    rfl
  · rfl
theorem stN_late (C : Cfg) (t : Tr Tm5) (h : 14 ≤ t.pc) : stN C t = 0 := by
  unfold stN; split
  · obtain ⟨way, x, gen, y, shard, ok, pc, sx, sy, tx, ty, held, made, freed, q, p, tk, taken, nw, lt, ltk⟩ := t
    obtain ⟨n, rfl⟩ : ∃ n, pc = n + 14 := ⟨pc - 14, by have : 14 ≤ pc := h; omega⟩
    rfl
  · rfl
theorem slot01 (C : Cfg) (i : Nat) (y z : Int) : 0 ≤ nst C i y z ∧ nst C i y z ≤ 1 := by
  unfold nst; split <;> omega
theorem stepN_01 (C : Cfg) (k : Nat) (t : Tr Tm5) : 0 ≤ stepN C k t ∧ stepN C k t ≤ 1 := by
  unfold stepN
  split
  all_goals try (split <;> first | omega | exact slot01 _ _ _ _)
  all_goals try omega
  all_goals (split <;> try split) <;> first | omega | (split <;> omega)
theorem stN_01 (C : Cfg) (t : Tr Tm5) : 0 ≤ stN C t ∧ stN C t ≤ 1 := by
  unfold stN; split
  · exact stepN_01 C _ t
  · omega
set_option maxHeartbeats 4000000 in
theorem step_is (h : PW K C W M B Ck ws st mw.now lv mw.log w) (hr : Rel C ws mw.S mw.Tm J) (hg : Gd t) (hC : C.Ok) (ha : Ap K W M B Ck p) (hp : Bl p (prc aX aY t) w) (ho : Own C aX aY t) (hst : 0 ≤ st ∧ st ≤ 1000000) (hnow : 0 ≤ mw.now ∧ mw.now ≤ 1000000) (hl : mw.log.length ≤ 100000) :
    Calls Try.prog 10 #[.pointer (some ⟨p, 0, none⟩), .pointer (some ⟨W, 0, none⟩)] w fun e w' => e = .returned (.tuple #[]) ∧ Pst K C W M B Ck p aX aY st lv (stepT (PmC C) t mw).1 (stepT (PmC C) t mw).2 (stJ C t J) (stN C t) w w' := by
  by_cases hpc : 14 ≤ t.pc
  · have e1 : stepT (PmC C) t mw = (t, mw) := by unfold stepT; rw [if_pos hpc]
    rw [e1, stJ_late C t J hpc, stN_late C t hpc]
    refine (step_done hp hpc _).mono ?_
    rintro e w' ⟨h4, h5⟩
    exact ⟨h4, _, lv, by rw [Int.add_zero]; exact h.below h5, hr, hp.below h5, hg, Fs.below h5⟩
  · have hpc : t.pc < 14 := by omega
    cases hok : t.ok with
    | false =>
      have e1 : stepT (PmC C) t mw = ({ t with pc := t.pc + 1 }, mw) := by unfold stepT; rw [if_neg (by omega), if_pos hok]
      have e2 : stJ C t J = J := by unfold stJ; rw [hok]; rfl
      have e3 : stN C t = 0 := by unfold stN; rw [hok]; rfl
      rw [e1, e2, e3]
      refine (step_off h hC ha hp hpc (ho.no hok)).mono ?_
      rintro e w' ⟨h4, h5, h6, h7⟩
      exact ⟨h4, _, lv, by rw [Int.add_zero]; exact h5, hr, h6, gd_pc hg _, Fs.of h7⟩
    | true =>
      obtain ⟨o1, o2, o3, o4, o5, o6, o7⟩ := ho.ok hok
      have e1 := stepT_is (PmC C) t mw hpc hok
      have e2 : stJ C t J = stepJ C t.pc { t with pc := t.pc + 1 } J := by unfold stJ; rw [hok, stepJ_pc]; rfl
      have e3 : stN C t = stepN C t.pc { t with pc := t.pc + 1 } := by unfold stN; rw [hok, stepN_pc]; rfl
      rw [e1, e2, e3]
      have key : Calls Try.prog 10 #[.pointer (some ⟨p, 0, none⟩), .pointer (some ⟨W, 0, none⟩)] w fun e w' => e = .returned (.tuple #[]) ∧ ∃ w1, Fq M B p w w1 ∧ Pst K C W M B Ck p aX aY st lv (tryS (PmC C) t.pc { t with pc := t.pc + 1 } mw).1 (tryS (PmC C) t.pc { t with pc := t.pc + 1 } mw).2 (stepJ C t.pc { t with pc := t.pc + 1 } J) (stepN C t.pc { t with pc := t.pc + 1 }) w1 w' := by
        have h14 : t.pc = 0 ∨ t.pc = 1 ∨ t.pc = 2 ∨ t.pc = 3 ∨ t.pc = 4 ∨ t.pc = 5 ∨ t.pc = 6 ∨ t.pc = 7 ∨ t.pc = 8 ∨ t.pc = 9 ∨ t.pc = 10 ∨ t.pc = 11 ∨ t.pc = 12 ∨ t.pc = 13 := by omega
        rcases h14 with hk0 | hk0 | hk0 | hk0 | hk0 | hk0 | hk0 | hk0 | hk0 | hk0 | hk0 | hk0 | hk0 | hk0
        · refine step_try h hC ha hp hpc (by omega) o5 o6 o7 _ fun W' hW hB => ?_
          rw [hk0] at hB ⊢
          exact st_0 hW hr (gd_pc hg _) hC ha hB o3 o4 o1 o2 hst hnow hl
        · refine step_try h hC ha hp hpc (by omega) o5 o6 o7 _ fun W' hW hB => ?_
          rw [hk0] at hB ⊢
          exact st_1 hW hr (gd_pc hg _) hC ha hB o3 o4 o1 o2 hst hnow hl
        · refine step_try h hC ha hp hpc (by omega) o5 o6 o7 _ fun W' hW hB => ?_
          rw [hk0] at hB ⊢
          exact st_2 hW hr (gd_pc hg _) hC ha hB o3 o4 o1 o2 hst hnow hl
        · refine step_try h hC ha hp hpc (by omega) o5 o6 o7 _ fun W' hW hB => ?_
          rw [hk0] at hB ⊢
          exact st_3 hW hr (gd_pc hg _) hC ha hB o3 o4 o1 o2 hst hnow hl
        · refine step_try h hC ha hp hpc (by omega) o5 o6 o7 _ fun W' hW hB => ?_
          rw [hk0] at hB ⊢
          exact st_4 hW hr (gd_pc hg _) hC ha hB o3 o4 o1 o2 hst hnow hl
        · refine step_try h hC ha hp hpc (by omega) o5 o6 o7 _ fun W' hW hB => ?_
          rw [hk0] at hB ⊢
          exact st_5 hW hr (gd_pc hg _) hC ha hB o3 o4 o1 o2 hst hnow hl
        · refine step_free h hC ha hp hpc (by omega) o5 o6 o7 _ fun W' hW hB => ?_
          rw [hk0] at hB ⊢
          exact st_6 hW hr (gd_pc hg _) hC ha hB o3 o4 o1 o2 hst hnow hl
        · refine step_free h hC ha hp hpc (by omega) o5 o6 o7 _ fun W' hW hB => ?_
          rw [hk0] at hB ⊢
          exact st_7 hW hr (gd_pc hg _) hC ha hB o3 o4 o1 o2 hst hnow hl
        · refine step_free h hC ha hp hpc (by omega) o5 o6 o7 _ fun W' hW hB => ?_
          rw [hk0] at hB ⊢
          exact st_8 hW hr (gd_pc hg _) hC ha hB o3 o4 o1 o2 hst hnow hl
        · refine step_free h hC ha hp hpc (by omega) o5 o6 o7 _ fun W' hW hB => ?_
          rw [hk0] at hB ⊢
          exact st_9 hW hr (gd_pc hg _) hC ha hB o3 o4 o1 o2 hst hnow hl
        · refine step_tell h hC ha hp hpc (by omega) o5 o6 o7 _ fun W' hW hB => ?_
          rw [hk0] at hB ⊢
          exact st_10 hW hr (gd_pc hg _) hC ha hB o3 o4 o1 o2 hst hnow hl
        · refine step_tell h hC ha hp hpc (by omega) o5 o6 o7 _ fun W' hW hB => ?_
          rw [hk0] at hB ⊢
          exact st_11 hW hr (gd_pc hg _) hC ha hB o3 o4 o1 o2 hst hnow hl
        · refine step_tell h hC ha hp hpc (by omega) o5 o6 o7 _ fun W' hW hB => ?_
          rw [hk0] at hB ⊢
          exact st_12 hW hr (gd_pc hg _) hC ha hB o3 o4 o1 o2 hst hnow hl
        · refine step_tell h hC ha hp hpc (by omega) o5 o6 o7 _ fun W' hW hB => ?_
          rw [hk0] at hB ⊢
          exact st_13 hW hr (gd_pc hg _) hC ha hB o3 o4 o1 o2 hst hnow hl
      refine key.mono ?_
      rintro e w' ⟨h4, w1, hq, ws2, lv2, h5, h6, h7, h8, h9⟩
      exact ⟨h4, ws2, lv2, h5, h6, h7, h8, (Fs.of hq).trans h9⟩
end
end Go.Proofs.Ytmjkhefgpobinaa
