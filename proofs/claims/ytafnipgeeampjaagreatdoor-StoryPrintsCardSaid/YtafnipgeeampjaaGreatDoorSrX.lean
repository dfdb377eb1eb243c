/-
  The events of lines.
-/
import Derived.Test.YtafnipgeeampjaaGreatDoorRows
import Derived.Test.YtafnipgeeampjaaGreatDoorKit
import Derived.Test.YtafnipgeeampjaaGreatDoorApp
import Derived.Test.YtafnipgeeampjaaGreatDoorQuiet
import Derived.WalkKit
import Derived.ProofKit
import Derived.OpenShut
import Derived.ShutString
import Derived.Below
import Derived.Outline
import Derived.WalkLawsBesides
import Derived.WalkSpells
import Derived.Handy
import Derived.Deep.QuietTactic
import Derived.BigQuiet
import Derived.RegionTactic
import Derived.ChangeAlike
import Derived.Lib.Hide
import Derived.Laws.Rows
import Derived.Laws.Tables
import Derived.Laws.CopyOwn
import Derived.Laws.MakeOwn
import Derived.Laws.Entries
import Derived.Laws.OwnMore
import Derived.Deep.WholeRow
import Derived.Deep.LoopGhost
import Derived.Deep.AppendLies
import Derived.Deep.Draws
import Derived.Maps.AppendAt
import Derived.OwnWalk
import Derived.Deep.RegionHeld3
import Derived.Deep.Cut
import Derived.Deep.CutRange
import Derived.Deep.DeepCutAuto
import Derived.Deep.CutBlock
import Derived.Lib.SliceRun
import Derived.IntWalk
import Derived.Laws.Strings
import Derived.Lib.Bytealg
import Derived.Lib.Strings
import Derived.Laws.Externs
import Derived.Test.YtafnipgeeampjaaGreatDoorSrW
import Derived.Test.YtafnipgeeampjaaGreatDoorSrJ
import Derived.Test.YtafnipgeeampjaaGreatDoorSrWd
namespace Go.Proofs.YtafnipgeeampjaaGreatDoor
open Go.ChangeShapes Go.WideShapes Go.ChangeAt Go.RowKit
/-- What 'Parse' gives. -/
def PaP (m : Pr) (w : World) (e : Ending) (w' : World) : Prop :=
  (match m with
   | .ok X => ∃ v, e = .returned (.tuple #[v, .nilIface]) ∧ w'.ownsRow w.heap.size 40 4 v X.length (evs X)
   | .er i c p => ∃ u, e = .returned (.tuple #[.slice none 0 0, u]) ∧ PErr i c p u w') ∧ Below w.heap.size w w'
theorem PaP.ok {X : List Sev} {m : Pr} {w w' : World} {e : Ending} (h : PaP m w e w') (hm : m = .ok X) : ∃ v, e = .returned (.tuple #[v, .nilIface]) ∧ w'.ownsRow w.heap.size 40 4 v X.length (evs X) ∧ Below w.heap.size w w' := by
  subst hm
  obtain ⟨⟨v, h1, h2⟩, h3⟩ := h
  exact ⟨v, h1, h2, h3⟩
theorem PaP.er {i c p : Nat} {m : Pr} {w w' : World} {e : Ending} (h : PaP m w e w') (hm : m = .er i c p) : ∃ u, e = .returned (.tuple #[.slice none 0 0, u]) ∧ PErr i c p u w' ∧ Below w.heap.size w w' := by
  subst hm
  obtain ⟨⟨v, h1, h2⟩, h3⟩ := h
  exact ⟨v, h1, h2, h3⟩
theorem PaP.mk_ok {X : List Sev} {m : Pr} {w w' : World} {v : Value} (hm : m = .ok X) (h : w'.ownsRow w.heap.size 40 4 v X.length (evs X)) (hb : Below w.heap.size w w') : PaP m w (.returned (.tuple #[v, .nilIface])) w' := by
  subst hm
  exact ⟨⟨v, rfl, h⟩, hb⟩
theorem PaP.mk_er {i c p : Nat} {m : Pr} {w w' : World} {u : Value} (hm : m = .er i c p) (h : PErr i c p u w') (hb : Below w.heap.size w w') : PaP m w (.returned (.tuple #[.slice none 0 0, u])) w' := by
  subst hm
  exact ⟨⟨u, rfl, h⟩, hb⟩
theorem parM_ok (k : Nat) (s : List UInt8) (t : List (List UInt8)) (X l : List Sev) (h : lineM s = .ok l) : parM k (s :: t) X = parM (k + 1) t (X ++ l) := by
  simp only [parM, h]
theorem parM_er (k : Nat) (s : List UInt8) (t : List (List UInt8)) (X : List Sev) (c p : Nat) (h : lineM s = .er c p) : parM k (s :: t) X = .er (k + 1) c p := by
  simp only [parM, h]
set_option maxRecDepth 100000 in
set_option maxHeartbeats 4000000 in
theorem parse_big (L : List (List UInt8)) (hL : L.length ≤ 6000) (hs : ∀ s ∈ L, s.length ≤ 6000) (B : Nat) (A : Option Addr) (cap : Nat) (w : World) (hB : B ≤ w.heap.size) (hr : Reads w B 1 A L.length (stc L)) (hml : Ml w) (htb : Tb w) : Calls Tryz.prog 7 #[.slice A L.length cap] w (PaP (parM 0 L []) w) := by
  obtain ⟨i0, hi, hz0, hz1, hz2⟩ := info_parts infoE
  have HII := Lib.hid hi
  have HZ0 := Lib.hid hz0
  have HZ1 := Lib.hid hz1
  have HZ2 := Lib.hid hz2
  have HL := Lib.hid hL
  have HS := Lib.hid hs
  have HR := Lib.hid (hr.more hB)
  have HML := Lib.hid hml
  have HTB := Lib.hid htb
  clear hi hz0 hz1 hz2 hL hs hr hml htb hB
  go_enter Tryz.func7, Tryz.ntmps7
  go_wp2_with fail
  go_loopw [11, 4] (fun vk va wr => ∃ (k : Nat) (X : List Sev), k ≤ L.length ∧ vk = .int .i64 (k : Int) ∧ Hid (parM 0 L [] = parM k (L.drop k) X ∧ X.length ≤ k * 10000) ∧ Hid (wr.ownsRow w.heap.size 40 4 va X.length (evs X)) ∧ Hid (Below w.heap.size w wr)) (fun vk _ _ => L.length + 1 - (intOf vk).toNat)
  case atStart => exact ⟨0, [], Nat.zero_le _, rfl, Lib.hid ⟨rfl, Nat.zero_le _⟩, Lib.hid ⟨rfl, .inl ⟨rfl, rfl⟩⟩, Lib.hid (Below.refl _ _)⟩
  case round =>
    obtain ⟨k, X, hk, rfl, hpm, hown, hB⟩ := hrel
    have k0 : (0 : Int) ≤ (k : Int) := by omega
    by_cases hkn : k < L.length
    · obtain ⟨x, hx⟩ : ∃ x, x = L[k] := ⟨_, rfl⟩
      have hxk : L[k]? = some x := by rw [List.getElem?_eq_getElem hkn, hx]
      have hd : L.drop k = x :: L.drop (k + 1) := by rw [List.drop_eq_getElem_cons hkn, hx]
      obtain ⟨ad, u, hA, hadl, hu, hcu⟩ := HR.out.at_ hkn
      obtain rfl : u = .string (Bs x) := by
        unfold stc at hu
        rw [List.getElem?_map, hxk] at hu
        exact (Option.some.inj hu).symm
      subst hA
      have hc1 : wr.cell? (ad.add k) = some (.string (Bs x)) := (hB.out.cell (by rw [block_of_add]; exact hadl)).trans hcu
      have q1 : (k : Int) < (L.length : Int) := by omega
      have q2 : (k : Int) ≤ 6000 := by have := HL.out; omega
      have HX : Hid (x.length ≤ 6000) := Lib.hid (HS.out x (List.mem_of_getElem? hxk))
      have HD := Lib.hid hd
      have HK := Lib.hid hkn
      clear hx hxk hkn hk hd hu hcu hadl
      rcases hlm : lineM x with l | ⟨c, p⟩
      · have HLM := Lib.hid hlm
        clear hlm
        go_wp2_with fail
        refine (events_is x HX.out _ (HML.out.below hB.out)).mono ?_
        rintro e2 w2 hp
        obtain ⟨A2, c2, rfl, hr2, hb2⟩ := hp.ok HLM.out
        have HB2 := Lib.hid (And.intro hr2 hb2)
        clear hp hr2 hb2
        have N1 : Hid (X.length + l.length ≤ maxLen) := Lib.hid (by have h1 := hpm.out.2; have h2 := lineM_len HLM.out; have h3 := HL.out; have h4 := HK.out; unfold maxLen; omega)
        have N2 : Hid ((X.length + l.length) * 40 ≤ 140737488355328) := Lib.hid (by have h1 := hpm.out.2; have h2 := lineM_len HLM.out; have h3 := HL.out; have h4 := HK.out; omega)
        have HO := Lib.hid (rkept hown.out HB2.out.2)
        go_wp2_with (at_builtin; refine wpList_append_any _ rfl (.tmp 28) (.tmp 29) 25 rfl w.heap.size 40 i0 (.agg #[.int .i64 0, .int .i64 0, .int .i64 0, .string ⟨#[]⟩]) 4 40 Tryz.underlying25 HII.out HZ0.out HZ1.out HZ2.out rfl (by decide) _ X.length (evs X) rfl HO.out _ A2 l.length c2 (evs l) rfl HB2.out.1 (evs_one l) N1.out N2.out (by have h1 := hB.out.size; have h2 := HB2.out.2.size; omega) ?_; intro v3 w3 hown3 hgrow3 hb3; have HP := Lib.hid (And.intro hown3 hgrow3); clear hown3 hgrow3 hb3)
        go_roundw
        case rel =>
          refine ⟨k + 1, X ++ l, HK.out, by go_num, Lib.hid ⟨?_, ?_⟩, Lib.hid ?_, Lib.hid ?_⟩
          · rw [hpm.out.1, HD.out, parM_ok _ _ _ _ _ HLM.out]
          · rw [List.length_append]
            have h1 := hpm.out.2
            have h2 := lineM_len HLM.out
            omega
          · rw [List.length_append, evs_app]
            exact HP.out.1
          · exact Below.grown (hB.out.trans (HB2.out.2.mono hB.out.size)) HP.out.2 (by have h1 := hB.out.size; have h2 := HB2.out.2.size; omega) (fun b e => (HO.out.lt b e).1)
        case measure => have := HK.out; simp [intOf]; omega
      · have HLM := Lib.hid hlm
        have HI : Hid (∀ w, Tb w → Calls Tryz.prog 17 #[.int .i64 ((k : Int) + 1)] w fun e w' => e = .returned (.string (Bs (dcl (k + 1)))) ∧ Below w.heap.size w w') := Lib.hid (fun w ht => by
          have := itoa_is (k + 1) (by omega) w ht
          rwa [show (((k + 1 : Nat)) : Int) = (k : Int) + 1 by omega] at this)
        clear hlm
        go_wp2_with fail
        refine (events_is x HX.out _ (HML.out.below hB.out)).mono ?_
        rintro e2 w2 hp
        obtain ⟨v2, rfl, he2, hb2⟩ := hp.er HLM.out
        obtain ⟨eb, hev⟩ := er_ne he2
        subst hev
        have HB2 := Lib.hid (And.intro he2 (hB.out.trans (hb2.mono hB.out.size)))
        clear hp he2 hb2
        go_wp2_with fail
        refine (HI.out _ (HTB.out.below HB2.out.2)).mono ?_
        rintro e3 w3 ⟨rfl, hb3⟩
        have HB3 := Lib.hid (And.intro (HB2.out.1.below hb3) (HB2.out.2.trans (hb3.mono HB2.out.2.size)))
        clear hb3
        go_wp2_with fail
        refine (with_is (k + 1) c p _ _ HB3.out.1).mono ?_
        rintro e4 w4 ⟨u, rfl, hu4, hb4⟩
        have HB4 := Lib.hid (And.intro hu4 (HB3.out.2.trans (hb4.mono HB3.out.2.size)))
        clear hu4 hb4
        go_wp2_with fail
        go_ret2
        refine PaP.mk_er ?_ HB4.out.1 HB4.out.2
        rw [hpm.out.1, HD.out, parM_er _ _ _ _ _ _ HLM.out]
    · have hke : k = L.length := by omega
      subst hke
      have hfin := hpm.out.1
      rw [List.drop_length] at hfin
      have HF := Lib.hid hfin
      clear hfin hk hkn
      go_wp2_with fail
      go_ret2
      exact PaP.mk_ok HF.out hown.out hB.out
theorem parse_is (L : List (List UInt8)) (hL : L.length ≤ 300) (hs : ∀ s ∈ L, s.length ≤ 5000) (B : Nat) (A : Option Addr) (cap : Nat) (w : World) (hB : B ≤ w.heap.size) (hr : Reads w B 1 A L.length (stc L)) (hml : Ml w) (htb : Tb w) : Calls Tryz.prog 7 #[.slice A L.length cap] w (PaP (parM 0 L []) w) :=
  parse_big L (by omega) (fun s h => Nat.le_trans (hs s h) (by decide)) B A cap w hB hr hml htb

end Go.Proofs.YtafnipgeeampjaaGreatDoor
