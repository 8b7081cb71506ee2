/- The walks of what is cleaned (by the document; twice), for every text. -/
import Derived.Test.YteoeppmigngkeaaDoorWalkO
namespace Go.Proofs.YteoeppmigngkeaaDoor
open Go.RowKit

set_option maxRecDepth 100000 in
set_option maxHeartbeats 1000000 in
theorem cleans_law (s t : ByteArray) (w : World) (hm : MaxIn w) (ht : TabIn w) : Calls Tryd.prog 3 #[.string s, .string t] w fun e w' => e = .returned (.bool true) ∧ Below w.heap.size w w' := by
  by_cases hs : (3000 : Int) < (s.size : Int)
  · clear hm ht
    go_enter Tryd.func3, Tryd.ntmps3
    go_wp2
    go_ret
    exact ⟨rfl, Below.refl _ _⟩
  by_cases hs2 : (3000 : Int) < (t.size : Int)
  · clear hm ht
    go_enter Tryd.func3, Tryd.ntmps3
    go_wp2
    go_ret
    exact ⟨rfl, Below.refl _ _⟩
  obtain ⟨T, hT⟩ := text_of (cleanP s.data.toList)
  have C1 := clean_hid s (by omega) T hT
  have C2 := refClean_hid s (by omega) T hT
  have C3 := default_hid t _ rfl
  have C4 := refDefault_hid t _ rfl
  have hTT : (T.toList == T.toList) = true := by rw [beq_iff_eq]
  clear hT
  generalize dfl t.data.toList = d at *
  go_enter Tryd.func3, Tryd.ntmps3
  go_wp2_with fail
  refine (parses_any _ hm ht).mono ?_
  rintro e w1 ⟨rfl, B1⟩
  have m1 := hm.below B1
  go_wp2_with fail
  refine (C1.out _ m1).mono ?_
  rintro e w2 ⟨rfl, b2⟩
  have B2 := B1.trans (b2.mono B1.size)
  clear b2 B1
  go_wp2_with fail
  refine (C2.out _).mono ?_
  rintro e w3 ⟨rfl, b3⟩
  have B3 := B2.trans (b3.mono B2.size)
  clear b3 B2
  go_wp2_with fail
  refine (C3.out _).mono ?_
  rintro e w3 ⟨rfl, rfl⟩
  go_wp2_with fail
  refine (C4.out _).mono ?_
  rintro e w3 ⟨rfl, rfl⟩
  go_wp2
  go_ret
  exact ⟨rfl, B3⟩

set_option maxRecDepth 100000 in
set_option maxHeartbeats 1000000 in
theorem twice_law (s : ByteArray) (w : World) (hm : MaxIn w) (ht : TabIn w) : Calls Tryd.prog 5 #[.string s] w fun e w' => e = .returned (.bool true) ∧ Below w.heap.size w w' := by
  by_cases hs : (3000 : Int) < (s.size : Int)
  · clear hm ht
    go_enter Tryd.func5, Tryd.ntmps5
    go_wp2
    go_ret
    exact ⟨rfl, Below.refl _ _⟩
  obtain ⟨T, hT⟩ := text_of (cleanP s.data.toList)
  have hTs : T.size ≤ s.size := by rw [← lsize T, ← lsize s, hT]; exact cleanP_length _
  have C1 := clean_hid s (by omega) T hT
  have C2 := clean_hid T (by omega) T (by rw [hT, cleanP_twice])
  have hTT : (T.toList == T.toList) = true := by rw [beq_iff_eq]
  have hh := cleanP_head s.data.toList
  rw [← hT] at hh
  have h3 : (s.toList.isEmpty = true ∧ T.toList.isEmpty = true) ∨ (s.toList.isEmpty = false ∧ ∃ h : 0 < s.size, ((s[0].toNat : Int) != 47) = true ∧ T.toList.isEmpty = true) ∨ (s.toList.isEmpty = false ∧ ∃ h : 0 < s.size, ((s[0].toNat : Int) != 47) = false ∧ T.toList.isEmpty = false ∧ ∃ h2 : 0 < T.size, ((T[0].toNat : Int) == 47) = true) := by
    have hd0 : ∀ (x : ByteArray) (h : 0 < x.size), x.data.toList.head? = some x[0] := fun x h => by
      obtain ⟨b, h1, _, h4⟩ := at_b h
      rw [h4, ← h1, List.head?_eq_getElem?]
    by_cases h0 : s.size = 0
    · have hl : s.data.toList = [] := List.length_eq_zero_iff.1 (by rw [lsize]; exact h0)
      have hl2 : T.data.toList = [] := List.length_eq_zero_iff.1 (by rw [lsize]; omega)
      exact .inl ⟨by rw [text_empty, hl]; rfl, by rw [text_empty, hl2]; rfl⟩
    · have hp : 0 < s.size := by omega
      have he : s.toList.isEmpty = false := by
        rw [text_empty]
        cases h : s.data.toList with
        | nil => rw [← lsize, h] at h0; exact absurd rfl h0
        | cons => rfl
      rw [hd0 s hp] at hh
      rcases hh with ⟨a1, a2⟩ | ⟨a1, a2⟩
      · have hne : T.data.toList ≠ [] := by intro h; rw [h] at a2; cases a2
        have hp2 : 0 < T.size := by rw [← lsize]; exact List.length_pos_iff.2 hne
        rw [hd0 T hp2] at a2
        refine .inr (.inr ⟨he, hp, ?_, ?_, hp2, ?_⟩)
        · have := Option.some.inj a1
          rw [this]; rfl
        · rw [text_empty]
          cases h : T.data.toList with
          | nil => exact absurd h hne
          | cons => rfl
        · have := Option.some.inj a2
          rw [this]; rfl
      · refine .inr (.inl ⟨he, hp, ?_, ?_⟩)
        · rw [bne_iff_ne]
          intro h
          apply a1
          have : s[0] = 47 := byte_is (d := 47) h
          rw [this]
        · rw [text_empty, a2]; rfl
  clear hT hh
  rcases h3 with ⟨g1, g2⟩ | ⟨g1, hp, g3, g2⟩ | ⟨g1, hp, g3, g2, hp2, g4⟩
  all_goals
    go_enter Tryd.func5, Tryd.ntmps5
    go_wp2_with fail
    refine (C1.out _ hm).mono ?_
    rintro e w1 ⟨rfl, B1⟩
    have m1 := hm.below B1
    have t1 := ht.below B1
    go_wp2_with fail
    refine (parses_any _ m1 t1).mono ?_
    rintro e w2 ⟨rfl, b2⟩
    have m2 := m1.below b2
    have B2 := B1.trans (b2.mono B1.size)
    clear b2 B1
    go_wp2_with fail
    refine (C2.out _ m2).mono ?_
    rintro e w3 ⟨rfl, b3⟩
    have B3 := B2.trans (b3.mono B2.size)
    clear b3 B2
    go_wp2
    go_ret
    exact ⟨rfl, B3⟩

end Go.Proofs.YteoeppmigngkeaaDoor
