/- What the row's list gives: the two tables of unicode/utf8; and a world that bears them. -/
import Derived.Test.YtnchaidmbdalbaaDoorRows
import Derived.Lib.LaidU8
namespace Go.Proofs.YtnchaidmbdalbaaDoor
open Go.Lib

theorem gFirst : Tryd.prog.globalNamed "unicode/utf8.first" = some 0 := by kernel_rfl
theorem gAcc : Tryd.prog.globalNamed "unicode/utf8.acceptRanges" = some 1 := by kernel_rfl
theorem gFirstType : (Tryd.prog.globals[0]?).map (·.type) = some 71 := by kernel_rfl
theorem gAccType : (Tryd.prog.globals[1]?).map (·.type) = some 74 := by kernel_rfl
theorem cells5 : Tryd.prog.cellsOf 5 = 1 := by kernel_rfl
theorem cells71 : Tryd.prog.cellsOf 71 = 256 := by kernel_rfl
theorem cells73 : Tryd.prog.cellsOf 73 = 2 := by kernel_rfl
theorem firstZ_eq : Go.Pinned.utf8FirstZ = (List.range 256).map firstT := by decide +kernel
theorem first_eq : Rows.laid_unicode_utf8_first = tabData .u8 firstTab := by
  unfold Rows.laid_unicode_utf8_first Go.Pinned.utf8First Go.Pinned.numbers tabData firstTab
  rw [firstZ_eq]
  simp only [List.map_map]
  rfl
theorem acc_eq : (Rows.laid_unicode_utf8_acceptRanges : DataW Unit) = acceptData := by kernel_rfl

theorem tabs_of_laid {W : World} (h : laidMet Tryd.prog [("unicode/utf8.acceptRanges", Rows.laid_unicode_utf8_acceptRanges), ("unicode/utf8.first", Rows.laid_unicode_utf8_first)] W) : Lib.Utf8Tabs 0 1 W := by
  have h3 : VarReads Tryd.prog W "unicode/utf8.first" (tabData .u8 firstTab) := first_eq ▸ laidMet.reads h (by simp)
  have h4 : VarReads Tryd.prog W "unicode/utf8.acceptRanges" acceptData := acc_eq ▸ laidMet.reads h (by simp)
  refine ⟨fun c hc => ?_, fun i hi => ?_⟩
  · obtain ⟨g, t, cs, fuel, p, hg, hty, hvar, hd⟩ := h3
    obtain rfl := Option.some.inj (gFirst.symm.trans hg)
    obtain rfl := Option.some.inj (gFirstType.symm.trans hty)
    have hcs := cells_of_tab Tryd.underlying71 Tryd.underlying5 cells5 cells71 hd
    have := World.var?_cell hg hvar c
    rw [this, ← Array.getElem?_toList, hcs]
    simp [firstTab, hc]
  · obtain ⟨g, t, cs, fuel, p, hg, hty, hvar, hd⟩ := h4
    obtain rfl := Option.some.inj (gAcc.symm.trans hg)
    obtain rfl := Option.some.inj (gAccType.symm.trans hty)
    obtain ⟨fuel', d, q, hdi, he⟩ := array_elem Tryd.underlying74 hd i hi
    simp only [List.getElem?_map, List.getElem?_range hi, Option.map_some, Option.some.injEq] at hdi
    subst hdi
    rw [cells73] at he
    have hcs := ints_of_struct Tryd.underlying73 (fun j f hj => by
      match j, hj with
      | 0, hj => simp at hj; subst hj; exact ⟨Tryd.underlying5, rfl, cells5⟩
      | 1, hj => simp at hj; subst hj; exact ⟨Tryd.underlying5, rfl, cells5⟩
      | j + 2, hj => simp at hj) (by rw [cells73]; rfl) he
    have e0 := congrArg (·[0]?) hcs
    have e1 := congrArg (·[1]?) hcs
    simp only [List.getElem?_take, List.getElem?_drop] at e0 e1
    constructor
    · rw [World.var?_cell hg hvar (2 * i), ← Array.getElem?_toList]
      simpa [Nat.mul_comm] using e0
    · rw [World.var?_cell hg hvar (2 * i + 1), ← Array.getElem?_toList]
      simpa [Nat.mul_comm] using e1

end Go.Proofs.YtnchaidmbdalbaaDoor
