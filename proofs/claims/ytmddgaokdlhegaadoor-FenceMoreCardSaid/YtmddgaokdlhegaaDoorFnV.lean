/-
  May an order be asked.
-/
import Derived.Test.YtmddgaokdlhegaaDoorRows
import Derived.Test.YtmddgaokdlhegaaDoorKit
import Derived.Test.YtmddgaokdlhegaaDoorApp
import Derived.Test.YtmddgaokdlhegaaDoorQuiet
import Derived.Test.YtmddgaokdlhegaaDoorFnM
import Derived.Test.YtmddgaokdlhegaaDoorFnO
import Derived.Test.YtmddgaokdlhegaaDoorFnB
import Derived.Test.YtmddgaokdlhegaaDoorFnR
import Derived.Test.YtmddgaokdlhegaaDoorFnL
import Derived.Test.YtmddgaokdlhegaaDoorFnN
import Derived.Test.YtmddgaokdlhegaaDoorAsF
import Derived.Test.YtmddgaokdlhegaaDoorAsC
import Derived.Test.YtmddgaokdlhegaaDoorAsD
import Derived.Test.YtmddgaokdlhegaaDoorAsE
import Derived.Test.YtmddgaokdlhegaaDoorFnKa
import Derived.Test.YtmddgaokdlhegaaDoorFnKb
import Derived.Test.YtmddgaokdlhegaaDoorFnKc
import Derived.Test.YtmddgaokdlhegaaDoorFnKd
import Derived.WalkKit
import Derived.ProofKit
import Derived.OpenShut
import Derived.ShutString
import Derived.Below
import Derived.Outline
import Derived.WalkLawsBesides
import Derived.WalkSpells
import Derived.Handy
import Derived.Deep.QuietTactic
import Derived.BigQuiet
import Derived.RegionTactic
import Derived.ChangeAlike
import Derived.Lib.Hide
import Derived.Laws.Rows
import Derived.Laws.Tables
import Derived.Laws.CopyOwn
import Derived.Laws.MakeOwn
import Derived.Laws.Entries
import Derived.Laws.OwnMore
import Derived.Deep.WholeRow
import Derived.Deep.LoopGhost
import Derived.Deep.AppendLies
import Derived.Deep.Draws
import Derived.Maps.AppendAt
import Derived.OwnWalk
import Derived.Deep.RegionHeld3
import Derived.Deep.Cut
import Derived.Deep.CutRange
import Derived.Deep.DeepCutAuto
import Derived.Deep.CutBlock
import Derived.Lib.SliceRun
import Derived.IntWalk
namespace Go.Proofs.YtmddgaokdlhegaaDoor
open Go.ChangeShapes Go.WideShapes Go.ChangeAt Go.RowKit
theorem bad_of {w : World} {C : (Ending → World → Prop) → Prop} (hm : ∀ {P Q : Ending → World → Prop}, C P → (∀ e w', P e w' → Q e w') → C Q) {s : ByteArray} (h : C fun e w' => ∃ r, e = .returned r ∧ Ch w' 4 [.wo s] r ∧ Below w.heap.size w w') : C (fun e w' => ∃ T r, e = .returned (.iface T r) ∧ Below w.heap.size w w') :=
  hm h fun e w' ⟨r, he, hc, hb⟩ => by
    obtain ⟨T, y, rfl⟩ := hc.iface
    exact ⟨T, y, he, hb⟩
theorem may_ok (F base : Nat) (ls : List Lim) (k : Nat) (x : Lim) (a : As) (u : Us) (last : Int) (w : World) (h : FAt w F base ls) (hx : ls[k]? = some x) (hl : ls.length ≤ 100) (hu : Usm u) (hq : sm a.q) (hp : sm a.p) (hlast : sm last) (hm : mayOk x a u last) : Calls Tryd.prog 11 #[.pointer (some ⟨F, 0, none⟩), .int .i64 (k : Int), .agg #[.int .i64 a.k, .int .i64 a.i, .int .i64 a.c, .int .i64 a.n, .int .i64 a.s, .int .i64 a.p, .int .i64 a.l, .int .i64 a.u, .int .i64 a.q], .agg #[.int .i64 u.o, .int .i64 u.q, .int .i64 u.w, .int .i64 u.n, .int .i64 u.b, .int .i64 u.s], .int .i64 last] w fun e w' => e = .returned .nilIface ∧ Below w.heap.size w w' := by
  by_cases hk : a.k = 1
  · obtain ⟨k0, k1, k2, k3, k4⟩ := hm hk
    by_cases hl0 : 0 < last
    · by_cases hh : a.p - last < last - a.p
      · exact may_gap1 F base ls k x a u last w h hx hl hk hu hq hp k0 k1 k2 k3 hl0 hlast.2 hh (k4 hl0)
      · exact may_gap2 F base ls k x a u last w h hx hl hk hu hq hp k0 k1 k2 k3 hl0 hlast.2 hh (k4 hl0)
    · exact may_late F base ls k x a u last w h hx hl hk hu hq hp k0 k1 k2 k3 (by omega)
  · exact may_kind F base ls k x a u last w h hx hl hk
theorem may_bad (F base : Nat) (ls : List Lim) (k : Nat) (x : Lim) (a : As) (u : Us) (last : Int) (w : World) (h : FAt w F base ls) (hx : ls[k]? = some x) (hl : ls.length ≤ 100) (hu : Usm u) (hq : sm a.q) (hp : sm a.p) (hlast : sm last) (hm : ¬ mayOk x a u last) : Calls Tryd.prog 11 #[.pointer (some ⟨F, 0, none⟩), .int .i64 (k : Int), .agg #[.int .i64 a.k, .int .i64 a.i, .int .i64 a.c, .int .i64 a.n, .int .i64 a.s, .int .i64 a.p, .int .i64 a.l, .int .i64 a.u, .int .i64 a.q], .agg #[.int .i64 u.o, .int .i64 u.q, .int .i64 u.w, .int .i64 u.n, .int .i64 u.b, .int .i64 u.s], .int .i64 last] w fun e w' => ∃ T r, e = .returned (.iface T r) ∧ Below w.heap.size w w' := by
  have hk : a.k = 1 := Classical.byContradiction fun h => hm (fun h2 => absurd h2 h)
  have mono : ∀ {P Q : Ending → World → Prop}, Calls Tryd.prog 11 #[.pointer (some ⟨F, 0, none⟩), .int .i64 (k : Int), .agg #[.int .i64 a.k, .int .i64 a.i, .int .i64 a.c, .int .i64 a.n, .int .i64 a.s, .int .i64 a.p, .int .i64 a.l, .int .i64 a.u, .int .i64 a.q], .agg #[.int .i64 u.o, .int .i64 u.q, .int .i64 u.w, .int .i64 u.n, .int .i64 u.b, .int .i64 u.s], .int .i64 last] w P → (∀ e w', P e w' → Q e w') → Calls Tryd.prog 11 #[.pointer (some ⟨F, 0, none⟩), .int .i64 (k : Int), .agg #[.int .i64 a.k, .int .i64 a.i, .int .i64 a.c, .int .i64 a.n, .int .i64 a.s, .int .i64 a.p, .int .i64 a.l, .int .i64 a.u, .int .i64 a.q], .agg #[.int .i64 u.o, .int .i64 u.q, .int .i64 u.w, .int .i64 u.n, .int .i64 u.b, .int .i64 u.s], .int .i64 last] w Q := fun hP hPQ => hP.mono hPQ
  by_cases k0 : (usWith u a).o ≤ x.o
  · by_cases k1 : (usWith u a).q ≤ x.q
    · by_cases k2 : (usWith u a).w ≤ x.w
      · by_cases k3 : far (usWith u a) ≤ x.n
        · have hl0 : 0 < last := Classical.byContradiction fun h => hm (fun _ => ⟨k0, k1, k2, k3, fun h2 => absurd h2 h⟩)
          have hg : x.p < gap a.p last := Classical.byContradiction fun h => hm (fun _ => ⟨k0, k1, k2, k3, fun _ => by omega⟩)
          by_cases hh : a.p - last < last - a.p
          · exact bad_of (C := Calls Tryd.prog 11 #[.pointer (some ⟨F, 0, none⟩), .int .i64 (k : Int), .agg #[.int .i64 a.k, .int .i64 a.i, .int .i64 a.c, .int .i64 a.n, .int .i64 a.s, .int .i64 a.p, .int .i64 a.l, .int .i64 a.u, .int .i64 a.q], .agg #[.int .i64 u.o, .int .i64 u.q, .int .i64 u.w, .int .i64 u.n, .int .i64 u.b, .int .i64 u.s], .int .i64 last] w) mono (may_price1 F base ls k x a u last w h hx hl hk hu hq hp k0 k1 k2 k3 hl0 hlast.2 hh hg)
          · exact bad_of (C := Calls Tryd.prog 11 #[.pointer (some ⟨F, 0, none⟩), .int .i64 (k : Int), .agg #[.int .i64 a.k, .int .i64 a.i, .int .i64 a.c, .int .i64 a.n, .int .i64 a.s, .int .i64 a.p, .int .i64 a.l, .int .i64 a.u, .int .i64 a.q], .agg #[.int .i64 u.o, .int .i64 u.q, .int .i64 u.w, .int .i64 u.n, .int .i64 u.b, .int .i64 u.s], .int .i64 last] w) mono (may_price2 F base ls k x a u last w h hx hl hk hu hq hp k0 k1 k2 k3 hl0 hlast.2 hh hg)
        · exact bad_of (C := Calls Tryd.prog 11 #[.pointer (some ⟨F, 0, none⟩), .int .i64 (k : Int), .agg #[.int .i64 a.k, .int .i64 a.i, .int .i64 a.c, .int .i64 a.n, .int .i64 a.s, .int .i64 a.p, .int .i64 a.l, .int .i64 a.u, .int .i64 a.q], .agg #[.int .i64 u.o, .int .i64 u.q, .int .i64 u.w, .int .i64 u.n, .int .i64 u.b, .int .i64 u.s], .int .i64 last] w) mono (may_net F base ls k x a u last w h hx hl hk hu hq hp k0 k1 k2 (by omega))
      · exact bad_of (C := Calls Tryd.prog 11 #[.pointer (some ⟨F, 0, none⟩), .int .i64 (k : Int), .agg #[.int .i64 a.k, .int .i64 a.i, .int .i64 a.c, .int .i64 a.n, .int .i64 a.s, .int .i64 a.p, .int .i64 a.l, .int .i64 a.u, .int .i64 a.q], .agg #[.int .i64 u.o, .int .i64 u.q, .int .i64 u.w, .int .i64 u.n, .int .i64 u.b, .int .i64 u.s], .int .i64 last] w) mono (may_worth F base ls k x a u last w h hx hl hk hu hq hp k0 k1 (by omega))
    · exact bad_of (C := Calls Tryd.prog 11 #[.pointer (some ⟨F, 0, none⟩), .int .i64 (k : Int), .agg #[.int .i64 a.k, .int .i64 a.i, .int .i64 a.c, .int .i64 a.n, .int .i64 a.s, .int .i64 a.p, .int .i64 a.l, .int .i64 a.u, .int .i64 a.q], .agg #[.int .i64 u.o, .int .i64 u.q, .int .i64 u.w, .int .i64 u.n, .int .i64 u.b, .int .i64 u.s], .int .i64 last] w) mono (may_qty F base ls k x a u last w h hx hl hk hu hq hp k0 (by omega))
  · exact bad_of (C := Calls Tryd.prog 11 #[.pointer (some ⟨F, 0, none⟩), .int .i64 (k : Int), .agg #[.int .i64 a.k, .int .i64 a.i, .int .i64 a.c, .int .i64 a.n, .int .i64 a.s, .int .i64 a.p, .int .i64 a.l, .int .i64 a.u, .int .i64 a.q], .agg #[.int .i64 u.o, .int .i64 u.q, .int .i64 u.w, .int .i64 u.n, .int .i64 u.b, .int .i64 u.s], .int .i64 last] w) mono (may_open F base ls k x a u last w h hx hl hk hu hq hp (by omega))
end Go.Proofs.YtmddgaokdlhegaaDoor
