/-
  terms.Match, way by way: what two orders come to.
-/
import Derived.Test.YtafignfoejefjaaRows
import Derived.WalkKit
import Derived.ProofKit
import Derived.OpenShut
import Derived.ShutString
import Derived.Below
import Derived.Outline
import Derived.WalkLawsBesides
import Derived.WalkSpells
import Derived.Handy
import Derived.Deep.QuietTactic
import Derived.BigQuiet
import Derived.RegionTactic
import Derived.ChangeAlike
import Derived.Lib.Hide
import Derived.BigRegion
import Derived.Test.YtafignfoejefjaaKit
import Derived.Test.YtafignfoejefjaaMid
namespace Go.Proofs.Ytafignfoejefjaa
open Go.ChangeShapes Go.WideShapes Go.ChangeAt Go.RowKit
def MatchPost (w : World) (q p : Int) (e : Ending) (w' : World) : Prop := e = .returned (.agg #[.int .i64 q, .int .i64 p]) ∧ Below w.heap.size w w'
set_option maxHeartbeats 400000 in
theorem match_A1 (an ap al au bn bs bp bl bu left other : Int) (w : World) (h : bs ≠ 0) :
    Calls Try.prog 32 #[.agg #[.int .i64 an, .int .i64 1, .int .i64 ap, .int .i64 al, .int .i64 au], .agg #[.int .i64 bn, .int .i64 bs, .int .i64 bp, .int .i64 bl, .int .i64 bu], .int .i64 left, .int .i64 other] w (MatchPost w 0 0) := by
  have f0 : (bs != 0) = true := by simpa using h
  go_enter Try.func32, Try.ntmps32
  go_wp2_with fail
  go_region
  all_goals (go_wp2_with fail; go_region)
  all_goals go_wp2
  all_goals refine bodyPost_ret (by simp [results, Try.results32, go_sem]; try rfl) rfl ⟨rfl, ?_⟩
  all_goals go_grown
set_option maxHeartbeats 400000 in
theorem match_A2 (an ap al au bn bp bl bu left other : Int) (w : World) (h : bn ≠ an) :
    Calls Try.prog 32 #[.agg #[.int .i64 an, .int .i64 1, .int .i64 ap, .int .i64 al, .int .i64 au], .agg #[.int .i64 bn, .int .i64 0, .int .i64 bp, .int .i64 bl, .int .i64 bu], .int .i64 left, .int .i64 other] w (MatchPost w 0 0) := by
  have f0 : (bn != an) = true := by simpa using h
  go_enter Try.func32, Try.ntmps32
  go_wp2_with fail
  go_region
  all_goals (go_wp2_with fail; go_region)
  all_goals go_wp2
  all_goals refine bodyPost_ret (by simp [results, Try.results32, go_sem]; try rfl) rfl ⟨rfl, ?_⟩
  all_goals go_grown
set_option maxHeartbeats 400000 in
theorem match_A3 (n ap al au bp bl bu left other : Int) (w : World) (h : bp < ap) :
    Calls Try.prog 32 #[.agg #[.int .i64 n, .int .i64 1, .int .i64 ap, .int .i64 al, .int .i64 au], .agg #[.int .i64 n, .int .i64 0, .int .i64 bp, .int .i64 bl, .int .i64 bu], .int .i64 left, .int .i64 other] w (MatchPost w 0 0) := by
  have f0 : (n != n) = false := by simp
  go_enter Try.func32, Try.ntmps32
  go_wp2_with fail
  go_region
  all_goals (go_wp2_with fail; go_region)
  all_goals go_wp2
  all_goals refine bodyPost_ret (by simp [results, Try.results32, go_sem]; try rfl) rfl ⟨rfl, ?_⟩
  all_goals go_grown
set_option maxHeartbeats 400000 in
theorem match_B1 (an as_ ap al au bn bs bp bl bu left other : Int) (w : World) (h : as_ ≠ 0) (h1 : as_ ≠ 1) :
    Calls Try.prog 32 #[.agg #[.int .i64 an, .int .i64 as_, .int .i64 ap, .int .i64 al, .int .i64 au], .agg #[.int .i64 bn, .int .i64 bs, .int .i64 bp, .int .i64 bl, .int .i64 bu], .int .i64 left, .int .i64 other] w (MatchPost w 0 0) := by
  have f0 : (as_ != 0) = true := by simpa using h
  have f1 : (as_ == 1) = false := by simpa using h1
  go_enter Try.func32, Try.ntmps32
  go_wp2_with fail
  go_region
  all_goals go_wp2
  all_goals refine bodyPost_ret (by simp [results, Try.results32, go_sem]; try rfl) rfl ⟨rfl, ?_⟩
  all_goals go_grown
set_option maxHeartbeats 400000 in
theorem match_B2 (an ap al au bn bs bp bl bu left other : Int) (w : World) (h : bs ≠ 1) :
    Calls Try.prog 32 #[.agg #[.int .i64 an, .int .i64 0, .int .i64 ap, .int .i64 al, .int .i64 au], .agg #[.int .i64 bn, .int .i64 bs, .int .i64 bp, .int .i64 bl, .int .i64 bu], .int .i64 left, .int .i64 other] w (MatchPost w 0 0) := by
  have f0 : (bs != 1) = true := by simpa using h
  go_enter Try.func32, Try.ntmps32
  go_wp2_with fail
  go_region
  all_goals go_wp2
  all_goals refine bodyPost_ret (by simp [results, Try.results32, go_sem]; try rfl) rfl ⟨rfl, ?_⟩
  all_goals go_grown
set_option maxHeartbeats 400000 in
theorem match_B3 (an ap al au bn bp bl bu left other : Int) (w : World) (h : an ≠ bn) :
    Calls Try.prog 32 #[.agg #[.int .i64 an, .int .i64 0, .int .i64 ap, .int .i64 al, .int .i64 au], .agg #[.int .i64 bn, .int .i64 1, .int .i64 bp, .int .i64 bl, .int .i64 bu], .int .i64 left, .int .i64 other] w (MatchPost w 0 0) := by
  have f0 : (an != bn) = true := by simpa using h
  go_enter Try.func32, Try.ntmps32
  go_wp2_with fail
  go_region
  all_goals go_wp2
  all_goals refine bodyPost_ret (by simp [results, Try.results32, go_sem]; try rfl) rfl ⟨rfl, ?_⟩
  all_goals go_grown
set_option maxHeartbeats 400000 in
theorem match_B4 (n ap al au bp bl bu left other : Int) (w : World) (h : ap < bp) :
    Calls Try.prog 32 #[.agg #[.int .i64 n, .int .i64 0, .int .i64 ap, .int .i64 al, .int .i64 au], .agg #[.int .i64 n, .int .i64 1, .int .i64 bp, .int .i64 bl, .int .i64 bu], .int .i64 left, .int .i64 other] w (MatchPost w 0 0) := by
  have f0 : (n != n) = false := by simp
  go_enter Try.func32, Try.ntmps32
  go_wp2_with fail
  go_region
  all_goals go_wp2
  all_goals refine bodyPost_ret (by simp [results, Try.results32, go_sem]; try rfl) rfl ⟨rfl, ?_⟩
  all_goals go_grown
set_option maxHeartbeats 400000 in
theorem match_Al0 (n ap al au bp bl bu left other : Int) (w : World) (h : ap ≤ bp) (hm : left ≤ other) (h3 : left < 1) :
    Calls Try.prog 32 #[.agg #[.int .i64 n, .int .i64 1, .int .i64 ap, .int .i64 al, .int .i64 au], .agg #[.int .i64 n, .int .i64 0, .int .i64 bp, .int .i64 bl, .int .i64 bu], .int .i64 left, .int .i64 other] w (MatchPost w 0 0) := by
  have f0 : (n != n) = false := by simp
  go_enter Try.func32, Try.ntmps32
  go_wp2_with fail
  go_region
  all_goals (go_wp2_with fail; go_region)
  all_goals go_wp2
  all_goals refine bodyPost_ret (by simp [results, Try.results32, go_sem]; try rfl) rfl ⟨rfl, ?_⟩
  all_goals go_grown
set_option maxHeartbeats 400000 in
theorem match_Al1 (n ap al au bp bl bu left other : Int) (w : World) (h : ap ≤ bp) (hm : left ≤ other) (h3 : 1 ≤ left) (h4 : left < al) :
    Calls Try.prog 32 #[.agg #[.int .i64 n, .int .i64 1, .int .i64 ap, .int .i64 al, .int .i64 au], .agg #[.int .i64 n, .int .i64 0, .int .i64 bp, .int .i64 bl, .int .i64 bu], .int .i64 left, .int .i64 other] w (MatchPost w 0 0) := by
  have f0 : (n != n) = false := by simp
  go_enter Try.func32, Try.ntmps32
  go_wp2_with fail
  go_region
  all_goals (go_wp2_with fail; go_region)
  all_goals go_wp2
  all_goals refine bodyPost_ret (by simp [results, Try.results32, go_sem]; try rfl) rfl ⟨rfl, ?_⟩
  all_goals go_grown
set_option maxHeartbeats 400000 in
theorem match_Al2 (n ap al au bp bl bu left other : Int) (w : World) (h : ap ≤ bp) (hm : left ≤ other) (h3 : 1 ≤ left) (h4 : al ≤ left) (h5 : left < bl) :
    Calls Try.prog 32 #[.agg #[.int .i64 n, .int .i64 1, .int .i64 ap, .int .i64 al, .int .i64 au], .agg #[.int .i64 n, .int .i64 0, .int .i64 bp, .int .i64 bl, .int .i64 bu], .int .i64 left, .int .i64 other] w (MatchPost w 0 0) := by
  have f0 : (n != n) = false := by simp
  go_enter Try.func32, Try.ntmps32
  go_wp2_with fail
  go_region
  all_goals (go_wp2_with fail; go_region)
  all_goals go_wp2
  all_goals refine bodyPost_ret (by simp [results, Try.results32, go_sem]; try rfl) rfl ⟨rfl, ?_⟩
  all_goals go_grown
set_option maxHeartbeats 400000 in
theorem match_Al3 (n ap al au bp bl bu left other : Int) (w : World) (h : ap ≤ bp) (hm : left ≤ other) (h3 : 1 ≤ left) (h4 : al ≤ left) (h5 : bl ≤ left) (g1 : 1 ≤ ap) (g2 : ap ≤ 9999) (g3 : 1 ≤ bp) (g4 : bp ≤ 9999) :
    Calls Try.prog 32 #[.agg #[.int .i64 n, .int .i64 1, .int .i64 ap, .int .i64 al, .int .i64 au], .agg #[.int .i64 n, .int .i64 0, .int .i64 bp, .int .i64 bl, .int .i64 bu], .int .i64 left, .int .i64 other] w (MatchPost w left ((bp + ap) / 2)) := by
  have f0 : (n != n) = false := by simp
  go_enter Try.func32, Try.ntmps32
  go_wp2_with fail
  go_region
  all_goals (go_wp2_with fail; go_region)
  all_goals (go_wp2_with (go_at_call 47; refine (mid23 _ _ _ (by omega) (by omega) (by omega) (by omega)).mono ?_; rintro e w' ⟨rfl, rfl⟩))
  all_goals refine bodyPost_ret (by simp [results, Try.results32, go_sem]; try rfl) rfl ⟨rfl, ?_⟩
  all_goals go_grown
set_option maxHeartbeats 400000 in
theorem match_Ao0 (n ap al au bp bl bu left other : Int) (w : World) (h : ap ≤ bp) (hm : other < left) (h3 : other < 1) :
    Calls Try.prog 32 #[.agg #[.int .i64 n, .int .i64 1, .int .i64 ap, .int .i64 al, .int .i64 au], .agg #[.int .i64 n, .int .i64 0, .int .i64 bp, .int .i64 bl, .int .i64 bu], .int .i64 left, .int .i64 other] w (MatchPost w 0 0) := by
  have f0 : (n != n) = false := by simp
  go_enter Try.func32, Try.ntmps32
  go_wp2_with fail
  go_region
  all_goals (go_wp2_with fail; go_region)
  all_goals go_wp2
  all_goals refine bodyPost_ret (by simp [results, Try.results32, go_sem]; try rfl) rfl ⟨rfl, ?_⟩
  all_goals go_grown
set_option maxHeartbeats 400000 in
theorem match_Ao1 (n ap al au bp bl bu left other : Int) (w : World) (h : ap ≤ bp) (hm : other < left) (h3 : 1 ≤ other) (h4 : other < al) :
    Calls Try.prog 32 #[.agg #[.int .i64 n, .int .i64 1, .int .i64 ap, .int .i64 al, .int .i64 au], .agg #[.int .i64 n, .int .i64 0, .int .i64 bp, .int .i64 bl, .int .i64 bu], .int .i64 left, .int .i64 other] w (MatchPost w 0 0) := by
  have f0 : (n != n) = false := by simp
  go_enter Try.func32, Try.ntmps32
  go_wp2_with fail
  go_region
  all_goals (go_wp2_with fail; go_region)
  all_goals go_wp2
  all_goals refine bodyPost_ret (by simp [results, Try.results32, go_sem]; try rfl) rfl ⟨rfl, ?_⟩
  all_goals go_grown
set_option maxHeartbeats 400000 in
theorem match_Ao2 (n ap al au bp bl bu left other : Int) (w : World) (h : ap ≤ bp) (hm : other < left) (h3 : 1 ≤ other) (h4 : al ≤ other) (h5 : other < bl) :
    Calls Try.prog 32 #[.agg #[.int .i64 n, .int .i64 1, .int .i64 ap, .int .i64 al, .int .i64 au], .agg #[.int .i64 n, .int .i64 0, .int .i64 bp, .int .i64 bl, .int .i64 bu], .int .i64 left, .int .i64 other] w (MatchPost w 0 0) := by
  have f0 : (n != n) = false := by simp
  go_enter Try.func32, Try.ntmps32
  go_wp2_with fail
  go_region
  all_goals (go_wp2_with fail; go_region)
  all_goals go_wp2
  all_goals refine bodyPost_ret (by simp [results, Try.results32, go_sem]; try rfl) rfl ⟨rfl, ?_⟩
  all_goals go_grown
set_option maxHeartbeats 400000 in
theorem match_Ao3 (n ap al au bp bl bu left other : Int) (w : World) (h : ap ≤ bp) (hm : other < left) (h3 : 1 ≤ other) (h4 : al ≤ other) (h5 : bl ≤ other) (g1 : 1 ≤ ap) (g2 : ap ≤ 9999) (g3 : 1 ≤ bp) (g4 : bp ≤ 9999) :
    Calls Try.prog 32 #[.agg #[.int .i64 n, .int .i64 1, .int .i64 ap, .int .i64 al, .int .i64 au], .agg #[.int .i64 n, .int .i64 0, .int .i64 bp, .int .i64 bl, .int .i64 bu], .int .i64 left, .int .i64 other] w (MatchPost w other ((bp + ap) / 2)) := by
  have f0 : (n != n) = false := by simp
  go_enter Try.func32, Try.ntmps32
  go_wp2_with fail
  go_region
  all_goals (go_wp2_with fail; go_region)
  all_goals (go_wp2_with (go_at_call 47; refine (mid23 _ _ _ (by omega) (by omega) (by omega) (by omega)).mono ?_; rintro e w' ⟨rfl, rfl⟩))
  all_goals refine bodyPost_ret (by simp [results, Try.results32, go_sem]; try rfl) rfl ⟨rfl, ?_⟩
  all_goals go_grown
set_option maxHeartbeats 400000 in
theorem match_Bl0 (n ap al au bp bl bu left other : Int) (w : World) (h : bp ≤ ap) (hm : left ≤ other) (h3 : left < 1) :
    Calls Try.prog 32 #[.agg #[.int .i64 n, .int .i64 0, .int .i64 ap, .int .i64 al, .int .i64 au], .agg #[.int .i64 n, .int .i64 1, .int .i64 bp, .int .i64 bl, .int .i64 bu], .int .i64 left, .int .i64 other] w (MatchPost w 0 0) := by
  have f0 : (n != n) = false := by simp
  go_enter Try.func32, Try.ntmps32
  go_wp2_with fail
  go_region
  all_goals go_wp2
  all_goals refine bodyPost_ret (by simp [results, Try.results32, go_sem]; try rfl) rfl ⟨rfl, ?_⟩
  all_goals go_grown
set_option maxHeartbeats 400000 in
theorem match_Bl1 (n ap al au bp bl bu left other : Int) (w : World) (h : bp ≤ ap) (hm : left ≤ other) (h3 : 1 ≤ left) (h4 : left < al) :
    Calls Try.prog 32 #[.agg #[.int .i64 n, .int .i64 0, .int .i64 ap, .int .i64 al, .int .i64 au], .agg #[.int .i64 n, .int .i64 1, .int .i64 bp, .int .i64 bl, .int .i64 bu], .int .i64 left, .int .i64 other] w (MatchPost w 0 0) := by
  have f0 : (n != n) = false := by simp
  go_enter Try.func32, Try.ntmps32
  go_wp2_with fail
  go_region
  all_goals go_wp2
  all_goals refine bodyPost_ret (by simp [results, Try.results32, go_sem]; try rfl) rfl ⟨rfl, ?_⟩
  all_goals go_grown
set_option maxHeartbeats 400000 in
theorem match_Bl2 (n ap al au bp bl bu left other : Int) (w : World) (h : bp ≤ ap) (hm : left ≤ other) (h3 : 1 ≤ left) (h4 : al ≤ left) (h5 : left < bl) :
    Calls Try.prog 32 #[.agg #[.int .i64 n, .int .i64 0, .int .i64 ap, .int .i64 al, .int .i64 au], .agg #[.int .i64 n, .int .i64 1, .int .i64 bp, .int .i64 bl, .int .i64 bu], .int .i64 left, .int .i64 other] w (MatchPost w 0 0) := by
  have f0 : (n != n) = false := by simp
  go_enter Try.func32, Try.ntmps32
  go_wp2_with fail
  go_region
  all_goals go_wp2
  all_goals refine bodyPost_ret (by simp [results, Try.results32, go_sem]; try rfl) rfl ⟨rfl, ?_⟩
  all_goals go_grown
set_option maxHeartbeats 400000 in
theorem match_Bl3 (n ap al au bp bl bu left other : Int) (w : World) (h : bp ≤ ap) (hm : left ≤ other) (h3 : 1 ≤ left) (h4 : al ≤ left) (h5 : bl ≤ left) (g1 : 1 ≤ ap) (g2 : ap ≤ 9999) (g3 : 1 ≤ bp) (g4 : bp ≤ 9999) :
    Calls Try.prog 32 #[.agg #[.int .i64 n, .int .i64 0, .int .i64 ap, .int .i64 al, .int .i64 au], .agg #[.int .i64 n, .int .i64 1, .int .i64 bp, .int .i64 bl, .int .i64 bu], .int .i64 left, .int .i64 other] w (MatchPost w left ((ap + bp) / 2)) := by
  have f0 : (n != n) = false := by simp
  go_enter Try.func32, Try.ntmps32
  go_wp2_with fail
  go_region
  all_goals (go_wp2_with (go_at_call 47; refine (mid23 _ _ _ (by omega) (by omega) (by omega) (by omega)).mono ?_; rintro e w' ⟨rfl, rfl⟩))
  all_goals refine bodyPost_ret (by simp [results, Try.results32, go_sem]; try rfl) rfl ⟨rfl, ?_⟩
  all_goals go_grown
set_option maxHeartbeats 400000 in
theorem match_Bo0 (n ap al au bp bl bu left other : Int) (w : World) (h : bp ≤ ap) (hm : other < left) (h3 : other < 1) :
    Calls Try.prog 32 #[.agg #[.int .i64 n, .int .i64 0, .int .i64 ap, .int .i64 al, .int .i64 au], .agg #[.int .i64 n, .int .i64 1, .int .i64 bp, .int .i64 bl, .int .i64 bu], .int .i64 left, .int .i64 other] w (MatchPost w 0 0) := by
  have f0 : (n != n) = false := by simp
  go_enter Try.func32, Try.ntmps32
  go_wp2_with fail
  go_region
  all_goals go_wp2
  all_goals refine bodyPost_ret (by simp [results, Try.results32, go_sem]; try rfl) rfl ⟨rfl, ?_⟩
  all_goals go_grown
set_option maxHeartbeats 400000 in
theorem match_Bo1 (n ap al au bp bl bu left other : Int) (w : World) (h : bp ≤ ap) (hm : other < left) (h3 : 1 ≤ other) (h4 : other < al) :
    Calls Try.prog 32 #[.agg #[.int .i64 n, .int .i64 0, .int .i64 ap, .int .i64 al, .int .i64 au], .agg #[.int .i64 n, .int .i64 1, .int .i64 bp, .int .i64 bl, .int .i64 bu], .int .i64 left, .int .i64 other] w (MatchPost w 0 0) := by
  have f0 : (n != n) = false := by simp
  go_enter Try.func32, Try.ntmps32
  go_wp2_with fail
  go_region
  all_goals go_wp2
  all_goals refine bodyPost_ret (by simp [results, Try.results32, go_sem]; try rfl) rfl ⟨rfl, ?_⟩
  all_goals go_grown
set_option maxHeartbeats 400000 in
theorem match_Bo2 (n ap al au bp bl bu left other : Int) (w : World) (h : bp ≤ ap) (hm : other < left) (h3 : 1 ≤ other) (h4 : al ≤ other) (h5 : other < bl) :
    Calls Try.prog 32 #[.agg #[.int .i64 n, .int .i64 0, .int .i64 ap, .int .i64 al, .int .i64 au], .agg #[.int .i64 n, .int .i64 1, .int .i64 bp, .int .i64 bl, .int .i64 bu], .int .i64 left, .int .i64 other] w (MatchPost w 0 0) := by
  have f0 : (n != n) = false := by simp
  go_enter Try.func32, Try.ntmps32
  go_wp2_with fail
  go_region
  all_goals go_wp2
  all_goals refine bodyPost_ret (by simp [results, Try.results32, go_sem]; try rfl) rfl ⟨rfl, ?_⟩
  all_goals go_grown
set_option maxHeartbeats 400000 in
theorem match_Bo3 (n ap al au bp bl bu left other : Int) (w : World) (h : bp ≤ ap) (hm : other < left) (h3 : 1 ≤ other) (h4 : al ≤ other) (h5 : bl ≤ other) (g1 : 1 ≤ ap) (g2 : ap ≤ 9999) (g3 : 1 ≤ bp) (g4 : bp ≤ 9999) :
    Calls Try.prog 32 #[.agg #[.int .i64 n, .int .i64 0, .int .i64 ap, .int .i64 al, .int .i64 au], .agg #[.int .i64 n, .int .i64 1, .int .i64 bp, .int .i64 bl, .int .i64 bu], .int .i64 left, .int .i64 other] w (MatchPost w other ((ap + bp) / 2)) := by
  have f0 : (n != n) = false := by simp
  go_enter Try.func32, Try.ntmps32
  go_wp2_with fail
  go_region
  all_goals (go_wp2_with (go_at_call 47; refine (mid23 _ _ _ (by omega) (by omega) (by omega) (by omega)).mono ?_; rintro e w' ⟨rfl, rfl⟩))
  all_goals refine bodyPost_ret (by simp [results, Try.results32, go_sem]; try rfl) rfl ⟨rfl, ?_⟩
  all_goals go_grown
theorem match_any (an as_ ap al au bn bs bp bl bu left other : Int) (h1 : 1 ≤ ap ∧ ap ≤ 9999) (h2 : 1 ≤ bp ∧ bp ≤ 9999) : ∃ q p : Int, (∀ w, Calls Try.prog 32 #[.agg #[.int .i64 an, .int .i64 as_, .int .i64 ap, .int .i64 al, .int .i64 au], .agg #[.int .i64 bn, .int .i64 bs, .int .i64 bp, .int .i64 bl, .int .i64 bu], .int .i64 left, .int .i64 other] w (MatchPost w q p)) ∧ ((q = 0 ∧ p = 0) ∨ (1 ≤ q ∧ q ≤ left ∧ q ≤ other)) := by
  by_cases ha : as_ = 1
  · subst ha
    by_cases hb : bs = 0
    · subst hb
      by_cases hn : bn = an
      · subst hn
        by_cases hp : bp < ap
        · exact ⟨0, 0, fun w => match_A3 bn ap al au bp bl bu left other w hp, .inl ⟨rfl, rfl⟩⟩
        · have hp : ap ≤ bp := by omega
          by_cases hm : left ≤ other
          · by_cases h3 : left < 1
            · exact ⟨0, 0, fun w => match_Al0 bn ap al au bp bl bu left other w hp hm h3, .inl ⟨rfl, rfl⟩⟩
            · by_cases h4 : left < al
              · exact ⟨0, 0, fun w => match_Al1 bn ap al au bp bl bu left other w hp hm (by omega) h4, .inl ⟨rfl, rfl⟩⟩
              · by_cases h5 : left < bl
                · exact ⟨0, 0, fun w => match_Al2 bn ap al au bp bl bu left other w hp hm (by omega) (by omega) h5, .inl ⟨rfl, rfl⟩⟩
                · exact ⟨_, _, fun w => match_Al3 bn ap al au bp bl bu left other w hp hm (by omega) (by omega) (by omega) h1.1 h1.2 h2.1 h2.2, .inr ⟨by omega, by omega, by omega⟩⟩
          · by_cases h3 : other < 1
            · exact ⟨0, 0, fun w => match_Ao0 bn ap al au bp bl bu left other w hp (by omega) h3, .inl ⟨rfl, rfl⟩⟩
            · by_cases h4 : other < al
              · exact ⟨0, 0, fun w => match_Ao1 bn ap al au bp bl bu left other w hp (by omega) (by omega) h4, .inl ⟨rfl, rfl⟩⟩
              · by_cases h5 : other < bl
                · exact ⟨0, 0, fun w => match_Ao2 bn ap al au bp bl bu left other w hp (by omega) (by omega) (by omega) h5, .inl ⟨rfl, rfl⟩⟩
                · exact ⟨_, _, fun w => match_Ao3 bn ap al au bp bl bu left other w hp (by omega) (by omega) (by omega) (by omega) h1.1 h1.2 h2.1 h2.2, .inr ⟨by omega, by omega, by omega⟩⟩
      · exact ⟨0, 0, fun w => match_A2 an ap al au bn bp bl bu left other w hn, .inl ⟨rfl, rfl⟩⟩
    · exact ⟨0, 0, fun w => match_A1 an ap al au bn bs bp bl bu left other w hb, .inl ⟨rfl, rfl⟩⟩
  · by_cases h0 : as_ = 0
    · subst h0
      by_cases hb : bs = 1
      · subst hb
        by_cases hn : an = bn
        · subst hn
          by_cases hp : ap < bp
          · exact ⟨0, 0, fun w => match_B4 an ap al au bp bl bu left other w hp, .inl ⟨rfl, rfl⟩⟩
          · have hp : bp ≤ ap := by omega
            by_cases hm : left ≤ other
            · by_cases h3 : left < 1
              · exact ⟨0, 0, fun w => match_Bl0 an ap al au bp bl bu left other w hp hm h3, .inl ⟨rfl, rfl⟩⟩
              · by_cases h4 : left < al
                · exact ⟨0, 0, fun w => match_Bl1 an ap al au bp bl bu left other w hp hm (by omega) h4, .inl ⟨rfl, rfl⟩⟩
                · by_cases h5 : left < bl
                  · exact ⟨0, 0, fun w => match_Bl2 an ap al au bp bl bu left other w hp hm (by omega) (by omega) h5, .inl ⟨rfl, rfl⟩⟩
                  · exact ⟨_, _, fun w => match_Bl3 an ap al au bp bl bu left other w hp hm (by omega) (by omega) (by omega) h1.1 h1.2 h2.1 h2.2, .inr ⟨by omega, by omega, by omega⟩⟩
            · by_cases h3 : other < 1
              · exact ⟨0, 0, fun w => match_Bo0 an ap al au bp bl bu left other w hp (by omega) h3, .inl ⟨rfl, rfl⟩⟩
              · by_cases h4 : other < al
                · exact ⟨0, 0, fun w => match_Bo1 an ap al au bp bl bu left other w hp (by omega) (by omega) h4, .inl ⟨rfl, rfl⟩⟩
                · by_cases h5 : other < bl
                  · exact ⟨0, 0, fun w => match_Bo2 an ap al au bp bl bu left other w hp (by omega) (by omega) (by omega) h5, .inl ⟨rfl, rfl⟩⟩
                  · exact ⟨_, _, fun w => match_Bo3 an ap al au bp bl bu left other w hp (by omega) (by omega) (by omega) (by omega) h1.1 h1.2 h2.1 h2.2, .inr ⟨by omega, by omega, by omega⟩⟩
        · exact ⟨0, 0, fun w => match_B3 an ap al au bn bp bl bu left other w hn, .inl ⟨rfl, rfl⟩⟩
      · exact ⟨0, 0, fun w => match_B2 an ap al au bn bs bp bl bu left other w hb, .inl ⟨rfl, rfl⟩⟩
    · exact ⟨0, 0, fun w => match_B1 an as_ ap al au bn bs bp bl bu left other w h0 ha, .inl ⟨rfl, rfl⟩⟩
end Go.Proofs.Ytafignfoejefjaa
