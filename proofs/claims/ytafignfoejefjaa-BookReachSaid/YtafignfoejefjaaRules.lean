/-
  Contracts of rules: New, Shard, Band, Parted, Shards, Cell, Owner; the awake of layer 5.
-/
import Derived.Test.YtafignfoejefjaaRows
import Derived.WalkKit
import Derived.ProofKit
import Derived.OpenShut
import Derived.ShutString
import Derived.Below
import Derived.Outline
import Derived.WalkLawsBesides
import Derived.WalkSpells
import Derived.Handy
import Derived.Deep.QuietTactic
import Derived.BigQuiet
import Derived.RegionTactic
import Derived.ChangeAlike
import Derived.Lib.Hide
import Derived.Test.YtafignfoejefjaaKit
namespace Go.Proofs.Ytafignfoejefjaa
open Go.ChangeShapes Go.WideShapes Go.ChangeAt Go.RowKit

/-- Rules, and no error. -/
def RNewOk (w : World) (p c n b r f g : Int) (e : Ending) (w' : World) : Prop := e = .returned (.tuple #[.agg #[.int .i64 p, .int .i64 c, .int .i64 n, .int .i64 b, .int .i64 r, .int .i64 f, .int .i64 g], .nilIface]) ∧ Below w.heap.size w w'
/-- No rules, and an error. -/
def RNewBad (w : World) (e : Ending) (w' : World) : Prop := ∃ T v, e = .returned (.tuple #[.agg #[.int .i64 0, .int .i64 0, .int .i64 0, .int .i64 0, .int .i64 0, .int .i64 0, .int .i64 0], .iface T v]) ∧ Below w.heap.size w w'
set_option maxRecDepth 100000 in
set_option maxHeartbeats 4000000 in
theorem rnew_ok (p c n b r f g : Int) (w : World) (hp : 1 ≤ p ∧ p ≤ 6) (hc : 1 ≤ c ∧ c ≤ 4) (hn : 1 ≤ n ∧ n ≤ 3) (hb : 1 ≤ b ∧ b ≤ 4) (hr : 0 ≤ r ∧ r ≤ 4) (hf : 1 ≤ f ∧ f ≤ 4) (hg : 1 ≤ g ∧ g ≤ 15) : Calls Try.prog 20 #[.agg #[.int .i64 p, .int .i64 c, .int .i64 n, .int .i64 b, .int .i64 r, .int .i64 f, .int .i64 g]] w (RNewOk w p c n b r f g) := by
  obtain ⟨p1, p2⟩ := hp
  obtain ⟨c1, c2⟩ := hc
  obtain ⟨n1, n2⟩ := hn
  obtain ⟨b1, b2⟩ := hb
  obtain ⟨r1, r2⟩ := hr
  obtain ⟨f1, f2⟩ := hf
  obtain ⟨g1, g2⟩ := hg
  go_enter Try.func20, Try.ntmps20
  go_wp2_with fail
  go_rounds 8
  refine bodyPost_ret (by simp [results, Try.results20, go_sem]; try rfl) rfl ⟨rfl, ?_⟩
  go_grown
set_option maxRecDepth 100000 in
set_option maxHeartbeats 8000000 in
theorem rnew_bad (p c n b r f g : Int) (w : World) (h : ¬ ((1 ≤ p ∧ p ≤ 6) ∧ (1 ≤ c ∧ c ≤ 4) ∧ (1 ≤ n ∧ n ≤ 3) ∧ (1 ≤ b ∧ b ≤ 4) ∧ (0 ≤ r ∧ r ≤ 4) ∧ (1 ≤ f ∧ f ≤ 4) ∧ (1 ≤ g ∧ g ≤ 15))) : Calls Try.prog 20 #[.agg #[.int .i64 p, .int .i64 c, .int .i64 n, .int .i64 b, .int .i64 r, .int .i64 f, .int .i64 g]] w (RNewBad w) := by
  have H := Lib.hid h
  clear h
  go_enter Try.func20, Try.ntmps20
  go_wp2_with fail
  go_rounds 8
  all_goals first
    | (exfalso; have h := H.out; omega)
    | (refine bodyPost_ret (by simp [results, Try.results20, go_sem]; first | rfl | exact ⟨rfl, rfl⟩) rfl ⟨_, _, rfl, ?_⟩; go_grown)
end Go.Proofs.Ytafignfoejefjaa
