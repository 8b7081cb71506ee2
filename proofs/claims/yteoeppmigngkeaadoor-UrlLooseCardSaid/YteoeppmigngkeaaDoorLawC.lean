/- What plays no part: every two texts. -/
import Derived.Test.YteoeppmigngkeaaDoorLawC1
import Derived.Test.YteoeppmigngkeaaDoorLawC2
import Derived.Test.YteoeppmigngkeaaDoorLawC3
namespace Go.Proofs.YteoeppmigngkeaaDoor
open Go.RowKit

set_option maxRecDepth 100000 in
set_option maxHeartbeats 1000000 in
theorem loose_long (s m : ByteArray) (w : World) (hs : (3000 : Int) < (s.size : Int)) : Calls Tryd.prog 4 #[.string s, .string m] w fun e w' => e = .returned (.bool true) ∧ Below w.heap.size w w' := by
  go_enter Tryd.func4, Tryd.ntmps4
  go_wp2
  go_ret
  exact ⟨rfl, Below.refl _ _⟩

set_option maxRecDepth 100000 in
set_option maxHeartbeats 1000000 in
theorem loose_more (s m : ByteArray) (w : World) (hs : ¬ (3000 : Int) < (s.size : Int)) (hs2 : (200 : Int) < (m.size : Int)) : Calls Tryd.prog 4 #[.string s, .string m] w fun e w' => e = .returned (.bool true) ∧ Below w.heap.size w w' := by
  go_enter Tryd.func4, Tryd.ntmps4
  go_wp2
  go_ret
  exact ⟨rfl, Below.refl _ _⟩

theorem loose_law (s m : ByteArray) (w : World) (hm : MaxIn w) (ht : TabIn w) : Calls Tryd.prog 4 #[.string s, .string m] w fun e w' => e = .returned (.bool true) ∧ Below w.heap.size w w' := by
  by_cases hs : (3000 : Int) < (s.size : Int)
  · exact loose_long s m w hs
  by_cases hs2 : (200 : Int) < (m.size : Int)
  · exact loose_more s m w hs hs2
  obtain ⟨Y1, hY1⟩ := text_of ([32, 9] ++ s.data.toList)
  have z1 : Y1.size = s.size + 2 := by rw [← lsize, hY1, List.length_append, lsize]; simp; omega
  obtain ⟨Y2, hY2⟩ := text_of (Y1.data.toList ++ [10])
  have z2 : Y2.size = Y1.size + 1 := by rw [← lsize, hY2, List.length_append, lsize]; rfl
  obtain ⟨Y3, hY3⟩ := text_of (s.data.toList ++ [35])
  have z3 : Y3.size = s.size + 1 := by rw [← lsize, hY3, List.length_append, lsize]; rfl
  obtain ⟨Y4, hY4⟩ := text_of (Y3.data.toList ++ m.data.toList)
  have z4 : Y4.size = Y3.size + m.size := by rw [← lsize, hY4, List.length_append, lsize, lsize]
  have a1 := add_to ⟨#[32, 9]⟩ s Y1 hY1 (by show 2 + s.size ≤ _; omega)
  have a2 := add_to Y1 ⟨#[10]⟩ Y2 hY2 (by show Y1.size + 1 ≤ _; omega)
  have a3 := add_to s ⟨#[35]⟩ Y3 hY3 (by show s.size + 1 ≤ _; omega)
  have a4 := add_to Y3 m Y4 hY4 (by omega)
  have hp2 : parseM Y2.data.toList = parseM s.data.toList := by rw [hY2, hY1]; exact parse_around _
  have hp4 : trim s.data.toList = s.data.toList → parseM Y4.data.toList = parseM s.data.toList := fun h => by
    rw [hY4, hY3, ← parse_hash s.data.toList m.data.toList h]; simp
  obtain ⟨o, sc, h, p, pa, q, n, hA, P1⟩ := parse_to s (by omega)
  obtain ⟨o2, sc2, h2, p2, pa2, q2, n2, hC, P3⟩ := parse_to Y4 (by omega)
  rcases hA with ⟨hA, rfl, hr⟩ | ⟨hA, rfl, rfl, rfl, rfl, rfl, rfl, rfl⟩
  case inr => exact loose_wrong s m w hm ht hs hs2 Y1 Y2 Y3 Y4 a1 a2 a3 a4 P1 (parse_not Y2 (by omega) (by rw [hp2, hA])) o2 sc2 h2 p2 pa2 q2 n2 P3
  case inl =>
    have P2 := parse_is Y2 (by omega) o sc h p pa q (by rw [hp2, hA])
    obtain ⟨_, hl1, hl2⟩ := parse_some hA
    have zs := right_lens hr
    have zs1 : sc.size ≤ 500 := by have := zs.1; rw [← lsize]; exact this
    have zs2 : h.size ≤ 500 := by have := zs.2.1; rw [← lsize]; exact this
    have CL1 := lower_hid sc sc hl1.symm (by omega)
    have CL2 := lower_hid h h hl2.symm (by omega)
    obtain ⟨T, hT⟩ := text_of (trim s.data.toList)
    have CT := trim_hid s T hT (by omega)
    have hq := text_eq T s
    by_cases ht9 : trim s.data.toList = s.data.toList
    · rw [hT, decide_eq_true ht9] at hq
      have hm4 := hp4 ht9
      rcases hC with ⟨hC, rfl, _⟩ | ⟨hC, _⟩
      case inr => rw [hm4, hA] at hC; cases hC
      rw [hm4, hA] at hC
      obtain ⟨rfl, rfl, rfl, rfl, rfl, rfl⟩ := uM_inj (Option.some.inj hC)
      exact loose_same s m w hm ht hs hs2 Y1 Y2 Y3 Y4 a1 a2 a3 a4 o sc h p pa q P1 P2 CL1 CL2 T CT hq P3
    · rw [hT, decide_eq_false ht9] at hq
      exact loose_other s m w hm ht hs hs2 Y1 Y2 Y3 Y4 a1 a2 a3 a4 o sc h p pa q P1 P2 CL1 CL2 T CT hq o2 sc2 h2 p2 pa2 q2 n2 P3

end Go.Proofs.YteoeppmigngkeaaDoor
