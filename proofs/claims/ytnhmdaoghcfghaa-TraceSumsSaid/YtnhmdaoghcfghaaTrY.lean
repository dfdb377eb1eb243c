/-
  What was filled, summed by order: numbers alone.
-/
import Derived.Test.YtnhmdaoghcfghaaTrM
namespace Go.Proofs.Ytnhmdaoghcfghaa
def bump (d : Int → Int → Int) (c g x : Int) : Int → Int → Int := fun c' g' => if c' = c ∧ g' = g then d c g + x else d c' g'
def after (e : Evt) (d : Int → Int → Int) : Int → Int → Int := if e.k = 2 then bump (bump d e.c e.g e.q) e.o e.w e.q else d
/-- What is left and what was filled come to what it was; nothing was filled of what is not there. -/
structure Sums (os : List Ord) (d : Int → Int → Int) : Prop where
  eq : ∀ (i : Nat) (a : Ord), os[i]? = some a → a.lf + d a.c a.g = a.q
  q : ∀ (i : Nat) (a : Ord), os[i]? = some a → 0 ≤ a.q ∧ a.q ≤ 9999
  no : ∀ c g : Int, (∀ (i : Nat) (a : Ord), os[i]? = some a → ¬ (a.c = c ∧ a.g = g)) → d c g = 0
theorem Sums.nil : Sums [] (fun _ _ => 0) := ⟨fun i a h => by simp at h, fun i a h => by simp at h, fun _ _ _ => rfl⟩
theorem Sums.step {F : Int} {os os' : List Ord} {e : Evt} {d : Int → Int → Int} (h : Step F os e os') (hI : Inv F os) (hS : Sums os d) : Sums os' (after e d) := by
  cases h with
  | push o hk hc hg hq hl hf hen hok hnew =>
    have hd : after e d = d := by unfold after; rw [if_neg (by omega)]
    rw [hd]
    have hz : d o.c o.g = 0 := hS.no _ _ fun i a ha h => by
      have := hnew i a ha (by rw [h.1, hc])
      have := h.2
      omega
    have key : ∀ (i : Nat) (a : Ord), (os ++ [o])[i]? = some a → os[i]? = some a ∨ a = o := fun i a ha => by
      rcases Nat.lt_or_ge i os.length with hlt | hge
      · rw [List.getElem?_append_left hlt] at ha
        exact .inl ha
      · rw [List.getElem?_append_right hge] at ha
        exact .inr (by simpa using List.mem_of_getElem? ha)
    refine ⟨fun i a ha => ?_, fun i a ha => ?_, fun c g hn => ?_⟩
    · rcases key i a ha with h1 | rfl
      · exact hS.eq i a h1
      · omega
    · rcases key i a ha with h1 | rfl
      · exact hS.q i a h1
      · have := hok.lf0; have := hok.lf1; omega
    · exact hS.no c g fun i a ha => hn i a (by rw [List.getElem?_append_left (List.getElem?_eq_some_iff.1 ha).1]; exact ha)
  | one i2 b b' hk hb hen h1 h2 h3 h4 h5 h6 h7 h8 h9 h10 h11 =>
    have hd : after e d = d := by unfold after; rw [if_neg (by omega)]
    rw [hd]
    refine ⟨fun i a ha => ?_, fun i a ha => ?_, fun c g hn => ?_⟩
    · by_cases hi : i2 = i
      · subst hi
        rw [get_set_eq hb] at ha
        obtain rfl := Option.some.inj ha
        rw [h1, h2, h8, h9]
        exact hS.eq _ _ hb
      · rw [get_set_ne hi] at ha
        exact hS.eq i a ha
    · by_cases hi : i2 = i
      · subst hi
        rw [get_set_eq hb] at ha
        obtain rfl := Option.some.inj ha
        rw [h8]
        exact hS.q _ _ hb
      · rw [get_set_ne hi] at ha
        exact hS.q i a ha
    · refine hS.no c g fun i a ha => ?_
      by_cases hi : i2 = i
      · subst hi
        rw [hb] at ha
        obtain rfl := Option.some.inj ha
        have := hn i2 b' (get_set_eq hb)
        rw [h1, h2] at this
        exact this
      · exact hn i a (by rw [get_set_ne hi]; exact ha)
  | two i2 j b x0 x hk hb hx hij hea heb hac hag hbc hbg hq0 hqa hqb hfa hfb =>
    have hd : after e d = bump (bump d e.c e.g e.q) e.o e.w e.q := by unfold after; rw [if_pos hk]
    rw [hd]
    have hne : ¬ (e.o = e.c ∧ e.w = e.g) := fun h => hij (hI.key hb hx (by rw [hac, hbc, h.1]) (by rw [hag, hbg, h.2]))
    have hx' : (os.set i2 { b with lf := b.lf - e.q, fl := b.fl + 1 })[j]? = some x0 := by rw [get_set_ne hij]; exact hx
    have key : ∀ (i : Nat) (a : Ord), ((os.set i2 { b with lf := b.lf - e.q, fl := b.fl + 1 }).set j { x0 with lf := x0.lf - e.q, fl := x0.fl + 1, en := x })[i]? = some a →
        (i = j ∧ a = { x0 with lf := x0.lf - e.q, fl := x0.fl + 1, en := x }) ∨ (i = i2 ∧ a = { b with lf := b.lf - e.q, fl := b.fl + 1 }) ∨ (i ≠ j ∧ i ≠ i2 ∧ os[i]? = some a) := fun i a ha => by
      by_cases hi : j = i
      · subst hi
        rw [get_set_eq hx'] at ha
        exact .inl ⟨rfl, (Option.some.inj ha).symm⟩
      · rw [get_set_ne hi] at ha
        by_cases h2 : i2 = i
        · subst h2
          rw [get_set_eq hb] at ha
          exact .inr (.inl ⟨rfl, (Option.some.inj ha).symm⟩)
        · rw [get_set_ne h2] at ha
          exact .inr (.inr ⟨fun h => hi h.symm, fun h => h2 h.symm, ha⟩)
    refine ⟨fun i a ha => ?_, fun i a ha => ?_, fun c g hn => ?_⟩
    · rcases key i a ha with ⟨_, rfl⟩ | ⟨_, rfl⟩ | ⟨hj, hi, h1⟩
      · have := hS.eq j x0 hx
        show x0.lf - e.q + bump (bump d e.c e.g e.q) e.o e.w e.q x0.c x0.g = x0.q
        unfold bump
        rw [if_pos ⟨hbc, hbg⟩, if_neg hne, ← hbc, ← hbg]
        omega
      · have := hS.eq i2 b hb
        show b.lf - e.q + bump (bump d e.c e.g e.q) e.o e.w e.q b.c b.g = b.q
        unfold bump
        rw [if_neg (fun h => hne ⟨by rw [← h.1, hac], by rw [← h.2, hag]⟩), if_pos ⟨hac, hag⟩, ← hac, ← hag]
        omega
      · have := hS.eq i a h1
        unfold bump
        rw [if_neg (fun h => hj (hI.key h1 hx (by rw [h.1, hbc]) (by rw [h.2, hbg]))), if_neg (fun h => hi (hI.key h1 hb (by rw [h.1, hac]) (by rw [h.2, hag])))]
        exact this
    · rcases key i a ha with ⟨_, rfl⟩ | ⟨_, rfl⟩ | ⟨_, _, h1⟩
      · exact hS.q j x0 hx
      · exact hS.q i2 b hb
      · exact hS.q i a h1
    · have k1 := hn j _ (get_set_eq hx')
      have k2 := hn i2 { b with lf := b.lf - e.q, fl := b.fl + 1 } (by rw [get_set_ne (fun h => hij h.symm)]; exact get_set_eq hb)
      unfold bump
      rw [if_neg (fun h => k1 ⟨by show x0.c = c; rw [hbc, h.1], by show x0.g = g; rw [hbg, h.2]⟩), if_neg (fun h => k2 ⟨by show b.c = c; rw [hac, h.1], by show b.g = g; rw [hag, h.2]⟩)]
      refine hS.no c g fun i a ha => ?_
      by_cases hi : i = j
      · subst hi
        rw [hx] at ha
        obtain rfl := Option.some.inj ha
        exact k1
      · by_cases h2 : i = i2
        · subst h2
          rw [hb] at ha
          obtain rfl := Option.some.inj ha
          exact k2
        · exact hn i a (by rw [get_set_ne (fun h => hi h.symm), get_set_ne (fun h => h2 h.symm)]; exact ha)
end Go.Proofs.Ytnhmdaoghcfghaa
