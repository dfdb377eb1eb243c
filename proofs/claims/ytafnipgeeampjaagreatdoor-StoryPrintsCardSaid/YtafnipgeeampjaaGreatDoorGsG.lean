/-
  Words of a chain of faults and notes round a code, by its contract.
-/
import Derived.Test.YtafnipgeeampjaaGreatDoorRows
import Derived.Test.YtafnipgeeampjaaGreatDoorKit
import Derived.Test.YtafnipgeeampjaaGreatDoorGsF
import Derived.Test.YtafnipgeeampjaaGreatDoorGsC
import Derived.Test.YtafnipgeeampjaaGreatDoorGsD
import Derived.Test.YtafnipgeeampjaaGreatDoorGsE
import Derived.Test.YtafnipgeeampjaaGreatDoorApp
import Derived.Deep.RegionLaw
import Derived.Deep.AppendLies
import Derived.WalkKit
import Derived.ProofKit
import Derived.OpenShut
import Derived.ShutString
import Derived.Below
import Derived.Outline
import Derived.WalkLawsBesides
import Derived.WalkSpells
import Derived.Handy
import Derived.Deep.QuietTactic
import Derived.BigQuiet
import Derived.RegionTactic
import Derived.ChangeAlike
import Derived.Lib.Hide
import Derived.Deep.LoopGhost
import Derived.Deep.RegionHeld3
import Derived.Deep.Cut
import Derived.Deep.CutRange
import Derived.Deep.DeepCutAuto
import Derived.Deep.CutBlock
import Derived.Deep.RegionLaw
import Derived.LaidEql
import Derived.Stop.Asserts
import Derived.RowKitTokens
import Derived.Defers
import Derived.Recover
namespace Go.Proofs.YtafnipgeeampjaaGreatDoor
open Go.RowKit Go.Extern.Stop Go.Stop Go.Extern Go.ChangeShapes Go.WideShapes Go.ChangeAt
def wos : List Wr → List ByteArray
  | [] => []
  | .pl _ :: l => wos l
  | .wo s :: l => s :: wos l
theorem wos_none : ∀ {l : List Wr}, firstWo l = none → wos l = []
  | [], _ => rfl
  | .pl _ :: l, h => wos_none (l := l) h
  | .wo _ :: _, h => by cases h
theorem wos_some : ∀ {l l' : List Wr} {s : ByteArray}, firstWo l = some (s, l') → wos l = s :: wos l'
  | [], _, _, h => by cases h
  | .pl _ :: l, _, _, h => wos_some (l := l) h
  | .wo _ :: _, _, _, h => by
    have hi := Prod.mk.inj (Option.some.inj h)
    obtain ⟨rfl, rfl⟩ := hi
    rfl
theorem infoS : (Tryz.prog.info? 9).map (fun i => (i.zero, i.size, i.bytes)) = some (some (.string ⟨#[]⟩), 1, 16) := by kernel_rfl
theorem reads_str (w : World) (s : ByteArray) (e : TypeId) : Reads (w.alloc (.cells #[.string s] e)) (w.alloc (.cells #[.string s] e)).heap.size 1 (some ⟨w.heap.size, 0, none⟩) 1 [.string s] := by
  refine ⟨rfl, fun _ => ⟨_, rfl, by simp, fun j u hu => ?_⟩⟩
  obtain rfl : j = 0 := by
    rcases j with _ | j
    · rfl
    · simp at hu
  have hu' : Value.string s = u := by simpa using hu
  subst hu'
  simp [go_sem]
/-- What Words has at the head of a round: so many words are told, the next one is known. -/
def NextWord (w : World) (c : Int) (W : List ByteArray) (k : Nat) (nv : Value) : Prop :=
  (nv = .pointer none ∧ k = W.length) ∨ ∃ b s l' v', nv = .pointer (some ⟨b, 0, none⟩) ∧ b < w.heap.size ∧ w.cell? ⟨b, 0, none⟩ = some (.string s) ∧ w.cell? ⟨b, 1, none⟩ = some v' ∧ Ch w c l' v' ∧ W.drop k = s :: wos l'
def Strs (w : World) (base : Nat) (L : List ByteArray) (r : Value) : Prop := w.ownsRow base 9 1 r L.length (L.map Value.string)
def WordsIs (w : World) (L : List ByteArray) (e : Ending) (w' : World) : Prop := ∃ r, e = .returned r ∧ Strs w' w.heap.size L r ∧ Below w.heap.size w w'
theorem row_set {w : World} {b : Nat} {e : TypeId} {v : Value} {n : Nat} {xs : List Value} (h : w.ownsRow (b + 1) e 1 v n xs) {a : Addr} (ha : a.block < b + 1) (u : Value) : (w.setCell a u).ownsRow b e 1 v n xs := by
  have h2 := ownsRow_setCell_below h ha u
  refine ⟨h2.1, ?_⟩
  rcases h2.2 with h0 | ⟨g, cap, cur, hv, hg, hr⟩
  · exact .inl h0
  · exact .inr ⟨g, cap, cur, hv, by omega, hr⟩
theorem own_shape {w : World} {base : Nat} {e : TypeId} {size : Nat} {v : Value} {n : Nat} {xs : List Value} (h : w.ownsRow base e size v n xs) : ∃ A c, v = .slice A n c := by
  rcases h.2 with ⟨rfl, rfl⟩ | ⟨g, cap, cur, hv, _⟩
  · exact ⟨_, _, rfl⟩
  · exact ⟨_, _, hv⟩
theorem row_kept {w wx : World} {base : Nat} {e : TypeId} {size m : Nat} {v : Value} {xs : List Value} (h : w.ownsRow base e size v m xs) (hb : Below w.heap.size w wx) : wx.ownsRow base e size v m xs := by
  refine ⟨h.1, ?_⟩
  rcases h.2 with h0 | ⟨g, cap, cur, hv, hg, hgh, hr⟩
  · exact .inl h0
  · have hlt : g < w.heap.size := by
      rcases Nat.lt_or_ge g w.heap.size with hlt | hge
      · exact hlt
      · rw [Array.getElem?_eq_none hge] at hgh; cases hgh
    exact .inr ⟨g, cap, cur, hv, hg, (hb.block g hlt).trans hgh, hr⟩
theorem drop_cons {W : List ByteArray} {k : Nat} {s : ByteArray} {r : List ByteArray} (h : W.drop k = s :: r) : k < W.length ∧ W.take (k + 1) = W.take k ++ [s] ∧ W.drop (k + 1) = r := by
  have hl : k < W.length := by
    rcases Nat.lt_or_ge k W.length with h1 | h1
    · exact h1
    · rw [List.drop_eq_nil_of_le h1] at h; cases h
  have h2 := List.drop_eq_getElem_cons hl
  rw [h] at h2
  have h3 := List.cons.inj h2
  refine ⟨hl, ?_, h3.2.symm⟩
  rw [List.take_succ_eq_append_getElem hl, ← h3.1]
def Note2 (w0 w : World) (c : Int) (s : ByteArray) (l' : List Wr) (e : Ending) (w' : World) : Prop := ∃ b v', e = .returned (.pointer (some ⟨b, 0, none⟩)) ∧ b < w0.heap.size ∧ w0.cell? ⟨b, 0, none⟩ = some (.string s) ∧ w0.cell? ⟨b, 1, none⟩ = some v' ∧ Ch w0 c l' v' ∧ Below w.heap.size w w'
set_option maxHeartbeats 2000000 in
theorem note_two (s : ByteArray) (l' l : List Wr) (c : Int) (v : Value) (w0 w : World) (hw0 : Below w0.heap.size w0 w) (h : Ch w0 c l v) (hg : w.cell? ⟨0, 0, none⟩ = some (.iface 97 (.agg #[.pointer (some ⟨9, 27, none⟩)]))) (hgl : 0 < w.heap.size) (hn : firstWo l = some (s, l')) :
    Calls Tryz.prog 23 #[v] w (Note2 w0 w c s l') := by
  have hB3 : Below w.heap.size w (w.alloc (.cells #[.pointer none] 59)) := by go_grown
  have hg3 : (w.alloc (.cells #[.pointer none] 59)).cell? ⟨0, 0, none⟩ = some (.iface 97 (.agg #[.pointer (some ⟨9, 27, none⟩)])) := (hB3.cell (p := ⟨0, 0, none⟩) hgl).trans hg
  have HS := Lib.hid (As_note_some l c v w.heap.size (.pointer none) w0 (w.alloc (.cells #[.pointer none] 59)) (Below.step hw0 hB3) h hg3 (Nat.lt_of_lt_of_le hgl hB3.size) (show (w.alloc (.cells #[.pointer none] 59)).cell? ⟨w.heap.size, 0, none⟩ = some (.pointer none) by simp [go_sem]) (show w.heap.size < (w.alloc (.cells #[.pointer none] 59)).heap.size by simp only [World.size_alloc]; omega) (show (w.alloc (.cells #[.pointer none] 59)).frozen? ⟨w.heap.size, 0, none⟩ = false by simp [go_sem]) s l' hn)
  have HB3 := Lib.hid hB3
  clear hB3 hg3 hn h hg
  go_enter Tryz.func23, Tryz.ntmps23
  go_wp2_with (go_at_call 21; (with_reducible refine HS.out.mono ?_); rintro ex w' ⟨rfl, hp⟩; obtain ⟨b, v', hbl, h0, h1, h2, hp1⟩ := hp; have ct := hp1.c; have HP := Lib.hid hp1; have H0 := Lib.hid h0; have H1 := Lib.hid h1; have H2 := Lib.hid h2; clear hp1 h0 h1 h2)
  go_ret
  exact ⟨b, v', rfl, hbl, H0.out, H1.out, H2.out, HB3.out.trans HP.out.b⟩
set_option maxRecDepth 100000 in
set_option maxHeartbeats 4000000 in
theorem words_is (l : List Wr) (c : Int) (v : Value) (w : World) (h : Ch w c l v) (hg : w.cell? ⟨0, 0, none⟩ = some (.iface 97 (.agg #[.pointer (some ⟨9, 27, none⟩)]))) (hgl : 0 < w.heap.size) (hl : (wos l).length ≤ 1000) :
    Calls Tryz.prog 10 #[v] w (WordsIs w (wos l)) := by
  have hmf : ∀ (fn : Fn) (first cap : Array Value) (w : World), (Instr.makeFunc fn first cap).run Tryz.prog w = .ok (.func fn first cap) w := fun _ _ _ _ => rfl
  obtain ⟨i0, hi, hz0, hz1, hz2⟩ := info_parts infoS
  have HI := Lib.hid hi
  have HZ0 := Lib.hid hz0
  have HZ1 := Lib.hid hz1
  have HZ2 := Lib.hid hz2
  have HGG := Lib.hid hg
  have HCH := Lib.hid h
  have hB3 : Below w.heap.size w (w.alloc (.cells #[.slice none 0 0] 22)) := by go_grown
  have HB3 := Lib.hid hB3
  have HC3 := Lib.hid (h.below hB3)
  have HG3 := Lib.hid ((hB3.cell (p := ⟨0, 0, none⟩) hgl).trans hg)
  obtain ⟨W, hW⟩ : ∃ W, W = wos l := ⟨_, rfl⟩
  have HW := Lib.hid hW
  have HL := Lib.hid (show W.length ≤ 1000 by rw [hW]; exact hl)
  clear hi hz0 hz1 hz2 hg h hB3 hl
  rw [← hW]
  clear hW
  have HN : ∀ (l2 : List Wr) (v2 : Value) (wr : World), Ch w c l2 v2 → Below w.heap.size w wr → ∀ k, W.drop k = wos l2 → k ≤ W.length → Calls Tryz.prog 23 #[v2] wr fun e w' => ∃ nv, e = .returned nv ∧ NextWord w c W k nv ∧ Below wr.heap.size wr w' := by
    intro l2 v2 wr h2 hb k hk hkl
    have hc2 := h2.below hb
    have hg2 := (hb.cell (p := ⟨0, 0, none⟩) hgl).trans HGG.out
    have hl2 := Nat.lt_of_lt_of_le hgl hb.size
    cases hf : firstWo l2 with
    | none =>
      refine (note_none l2 c v2 wr hc2 hg2 hl2 hf).mono fun e w' ⟨he, hb'⟩ => ⟨_, he, .inl ⟨rfl, ?_⟩, hb'⟩
      rw [wos_none hf] at hk
      have := List.drop_eq_nil_iff.1 hk
      omega
    | some x =>
      obtain ⟨s, l3⟩ := x
      refine (note_two s l3 l2 c v2 w wr hb h2 hg2 hl2 hf).mono fun e w' ⟨b, v', he, hbl, h0, h1, h3, hb'⟩ => ⟨_, he, .inr ⟨b, s, l3, v', rfl, hbl, h0, h1, h3, ?_⟩, hb'⟩
      rw [hk]
      exact wos_some hf
  have HNN := Lib.hid HN
  clear HN
  go_enter_defers Tryz.func10, Tryz.ntmps10
  go_wp2_with fail
  refine (HNN.out l v _ HCH.out HB3.out 0 (by rw [List.drop_zero]; exact HW.out) (Nat.zero_le _)).mono ?_
  rintro e w1 ⟨nv, rfl, hnv, hb1⟩
  have HNV := Lib.hid hnv
  have r0 := (hb1.cell (p := ⟨w.heap.size, 0, none⟩) (by simp)).trans (show (w.alloc (.cells #[.slice none 0 0] 22)).cell? ⟨w.heap.size, 0, none⟩ = some (.slice none 0 0) by simp [go_sem])
  have f0 := (hb1.frozen (p := ⟨w.heap.size, 0, none⟩) (by simp)).trans (show (w.alloc (.cells #[.slice none 0 0] 22)).frozen? ⟨w.heap.size, 0, none⟩ = false by simp [go_sem])
  have HR0 := Lib.hid r0
  have HF0 := Lib.hid f0
  have hb := Below.step HB3.out hb1
  have HB := Lib.hid hb
  have hz1 : w.heap.size < w1.heap.size := Nat.lt_of_lt_of_le (by simp) hb1.size
  have HZL := Lib.hid hz1
  clear hnv hb1 hb r0 f0 hz1
  go_wp2_with fail
  go_loopg [3] W.length (fun gk nv wr => ∃ (k : Nat) (A : Option Addr) (cp : Nat), gk = W.length - k ∧ k ≤ W.length ∧ Hid (NextWord w c W k nv) ∧ Hid (wr.cell? ⟨w.heap.size, 0, none⟩ = some (.slice A k cp) ∧ wr.frozen? ⟨w.heap.size, 0, none⟩ = false ∧ wr.ownsRow (w.heap.size + 1) 9 1 (.slice A k cp) k ((W.take k).map Value.string) ∧ Below w.heap.size w wr ∧ w.heap.size < wr.heap.size))
  case atStart => exact ⟨0, none, 0, rfl, Nat.zero_le _, HNV, Lib.hid ⟨HR0.out, HF0.out, World.ownsRow_nil _ _ _ _, HB.out, HZL.out⟩⟩
  case round =>
    obtain ⟨k, A, cp, rfl, hk, HNK, HS⟩ := hrel
    clear HNV HR0 HF0 HB HZL
    rcases HNK.out with ⟨hn, hkl⟩ | ⟨b, s, l', v', hn, hbl, h0, h1, h2, hd⟩
    · subst hn
      have HKL := Lib.hid hkl
      clear hkl
      have d0 := HS.out.1
      have f0 := HS.out.2.1
      go_wp2_with fail
      refine leaves_cons (f := 22) (args := #[.pointer (some ⟨w.heap.size, 0, none⟩)]) (by simp) (by simp [go_sem]) ?_
      refine (words_idle _ _).mono ?_
      rintro ex u' w'' ⟨rfl, rfl, rfl⟩
      simp [Leaves, settle, results, Tryz.results10, go_sem, d0, f0]
      have hS := HS.out.2.2.1
      have e1 : (W.take k).map Value.string = W.map Value.string := by rw [HKL.out, List.take_length]
      rw [e1] at hS
      rw [HKL.out] at hS ⊢
      exact ⟨_, rfl, row_set hS (by show w.heap.size < w.heap.size + 1; omega) _, HS.out.2.2.2.1.setCell (Nat.le_refl _) _⟩
    · subst hn
      obtain ⟨hkl, ht, hd2⟩ := drop_cons hd
      have d0 := HS.out.1
      have f0 := HS.out.2.1
      have c0 := (HS.out.2.2.2.1.cell (p := ⟨b, 0, none⟩) hbl).trans h0
      have H1 := Lib.hid h1
      have hzl := HS.out.2.2.2.2
      have hbl2 : b < wr.heap.size := by omega
      have HT := Lib.hid ht
      have HD := Lib.hid hd2
      have H2 := Lib.hid h2
      clear ht hd hd2 h0 h1 h2 HNK
      have hB9 := HS.out.2.2.2.1
      obtain ⟨WA, hWA⟩ : ∃ WA, WA = (wr.alloc (.cells #[.string s] 9)).drew := ⟨_, rfl⟩
      have HO1 := Lib.hid (show WA.ownsRow (w.heap.size + 1) 9 1 (.slice A k cp) k ((W.take k).map Value.string) from by rw [hWA]; exact World.ownsRow.alloc (w := wr) HS.out.2.2.1 _)
      have HRD := Lib.hid (show Reads WA WA.heap.size 1 (some ⟨wr.heap.size, 0, none⟩) 1 [.string s] from by rw [hWA]; exact (reads_str wr s 9).drew)
      have N1 := Lib.hid (show k + 1 ≤ maxLen from by have := HL.out; unfold maxLen; omega)
      have N2 := Lib.hid (show (k + 1) * 16 ≤ 140737488355328 from by have := HL.out; omega)
      have N3 := Lib.hid (show w.heap.size + 1 ≤ WA.heap.size from by rw [hWA]; simp; omega)
      have NV := Lib.hid (show ∀ u ∈ ([.string s] : List Value), u.oneCell' = true from by intro u hu; simp only [List.mem_cons, List.not_mem_nil, or_false] at hu; subst hu; rfl)
      have HDA := Lib.hid (show WA.cell? ⟨w.heap.size, 0, none⟩ = some (.slice A k cp) from by rw [hWA]; show (wr.alloc _).cell? _ = _; rw [World.cell?_alloc_lt _ _ ⟨w.heap.size, 0, none⟩ hzl]; exact d0)
      have HFA := Lib.hid (show WA.frozen? ⟨w.heap.size, 0, none⟩ = false from by rw [hWA]; show (wr.alloc _).frozen? _ = _; rw [World.frozen?_alloc_old _ _ ⟨w.heap.size, 0, none⟩ (Nat.ne_of_lt hzl)]; exact f0)
      have HLA := Lib.hid (show w.heap.size < WA.heap.size from by rw [hWA]; simp; omega)
      have HBA := Lib.hid (show Below w.heap.size w WA from by rw [hWA]; exact Below.drew (hB9.alloc (by omega) _))
      have HNB := Lib.hid (show some w.heap.size ≠ (Value.slice A k cp).ownBlock from fun e => by have := (HO1.out.lt _ e.symm).1; omega)
      have HWA := Lib.hid hWA
      clear hWA hB9
      go_upto_region 5 with fail
      refine wp_region_noPanic ?_
      go_region_law (first
        | (rw [← HWA.out]; refine step_append_any _ rfl (.tmp 14) (.tmp 19) 22 rfl (w.heap.size + 1) 9 i0 (.string ⟨#[]⟩) 1 16 Tryz.underlying22 HI.out HZ0.out HZ1.out HZ2.out rfl (by decide) (.slice A k cp) k ((W.take k).map Value.string) (by simp [Act.eval, Act.put]) HO1.out _ (some ⟨wr.heap.size, 0, none⟩) 1 1 [.string s] (by simp [Act.eval, Act.put]) HRD.out NV.out N1.out N2.out N3.out ?_; intro v6 w6 hown6 hgrow6 hblk6; obtain ⟨A6, c6, hv6⟩ := own_shape hown6; subst hv6; have hbb := hgrow6.block w.heap.size HLA.out HNB.out; have d6 := (World.cell?_of_block (a := ⟨w.heap.size, 0, none⟩) hbb).trans HDA.out; have f6 := (World.frozen?_of_block (a := ⟨w.heap.size, 0, none⟩) hbb).trans HFA.out; have HP := Lib.hid (And.intro hown6 hgrow6); clear hown6 hgrow6 hblk6 hbb))
      all_goals
        refine NoPanic.normal ?_
        have hr7 : (w6.setCell ⟨w.heap.size, 0, none⟩ (.slice A6 (k + 1) c6)).ownsRow (w.heap.size + 1) 9 1 (.slice A6 (k + 1) c6) (k + 1) ((W.take (k + 1)).map Value.string) := by
          have h6 := HP.out.1
          rw [HT.out, List.map_append]
          exact ownsRow_setCell_below h6 (by show w.heap.size < w.heap.size + 1; omega) _
        have hb6 : Below w.heap.size w w6 := Below.grown HBA.out HP.out.2 (Nat.le_of_lt HLA.out) fun g e => Nat.le_of_lt (HO1.out.lt g e).1
        have hb7 : Below w.heap.size w (w6.setCell ⟨w.heap.size, 0, none⟩ (.slice A6 (k + 1) c6)) := hb6.setCell (Nat.le_refl _) _
        have hs7 : w.heap.size < (w6.setCell ⟨w.heap.size, 0, none⟩ (.slice A6 (k + 1) c6)).heap.size := by
          have h1 := HP.out.2.size
          have h2 := HLA.out
          simp only [World.size_setCell]
          omega
        have hc7 : (w6.setCell ⟨w.heap.size, 0, none⟩ (.slice A6 (k + 1) c6)).cell? ⟨w.heap.size, 0, none⟩ = some (.slice A6 (k + 1) c6) := World.cell?_setCell_same _ _ _ d6
        have hf7 : (w6.setCell ⟨w.heap.size, 0, none⟩ (.slice A6 (k + 1) c6)).frozen? ⟨w.heap.size, 0, none⟩ = false := by
          simp only [World.frozen?_setCell]
          exact f6
        have HS7 := Lib.hid (And.intro hc7 (And.intro hf7 (And.intro hr7 (And.intro hb7 hs7))))
        obtain ⟨T', x', hv'⟩ := H2.out.iface
        have c1 := (hb7.cell (p := ⟨b, 1, none⟩) hbl).trans H1.out
        clear hr7 hb6 hb7 hs7 hc7 hf7 d6 f6 d0 f0 c0 HP
        generalize w6.setCell ⟨w.heap.size, 0, none⟩ (.slice A6 (k + 1) c6) = W7 at HS7 c1 ⊢
        subst hv'
        go_wp2_with fail
        refine (HNN.out l' _ W7 H2.out HS7.out.2.2.2.1 (k + 1) HD.out (by omega)).mono ?_
        rintro e w8 ⟨nv', rfl, hnv, hb8⟩
        have HN8 := Lib.hid hnv
        have HB8 := Lib.hid hb8
        clear hnv hb8
        go_wp2_with fail
        go_roundg (W.length - (k + 1))
        case measure => omega
        case rel =>
          obtain ⟨g1, g2, g3, g4, g5⟩ := HS7.out
          exact ⟨k + 1, A6, c6, rfl, by omega, HN8, Lib.hid ⟨(HB8.out.cell (p := ⟨w.heap.size, 0, none⟩) g5).trans g1, (HB8.out.frozen (p := ⟨w.heap.size, 0, none⟩) g5).trans g2, row_kept g3 HB8.out, Below.step g4 HB8.out, Nat.lt_of_lt_of_le g5 HB8.out.size⟩⟩
end Go.Proofs.YtafnipgeeampjaaGreatDoor
