/- The table of kept words, in memory; a kept kind's word: the program's keptText. -/
import Derived.Test.YtaldjkbnngeahaaGreatDoorSrcA
namespace Go.Proofs.YtaldjkbnngeahaaGreatDoor
open Go.RowKit

/-- The project's own table: each kept word and its kind, one behind the other. -/
def KA : Array Value := #[.string ⟨#[39, 110, 111, 110, 101, 39]⟩, .int .i64 1, .string ⟨#[39, 115, 101, 108, 102, 39]⟩, .int .i64 2, .string ⟨#[39, 117, 110, 115, 97, 102, 101, 45, 105, 110, 108, 105, 110, 101, 39]⟩, .int .i64 3, .string ⟨#[39, 117, 110, 115, 97, 102, 101, 45, 101, 118, 97, 108, 39]⟩, .int .i64 4, .string ⟨#[39, 119, 97, 115, 109, 45, 117, 110, 115, 97, 102, 101, 45, 101, 118, 97, 108, 39]⟩, .int .i64 5, .string ⟨#[39, 115, 116, 114, 105, 99, 116, 45, 100, 121, 110, 97, 109, 105, 99, 39]⟩, .int .i64 6, .string ⟨#[39, 117, 110, 115, 97, 102, 101, 45, 104, 97, 115, 104, 101, 115, 39]⟩, .int .i64 7, .string ⟨#[39, 114, 101, 112, 111, 114, 116, 45, 115, 97, 109, 112, 108, 101, 39]⟩, .int .i64 8]
def KeptIn (w : World) : Prop := ∀ j, j < 16 → w.cell? ⟨0, j, none⟩ = KA[j]?
theorem KeptIn.below {w w' : World} (h : KeptIn w) (hb : Below w.heap.size w w') : KeptIn w' := fun j hj => by
  have e := h j hj
  have : ∃ v, KA[j]? = some v := ⟨_, Array.getElem?_eq_getElem (show j < KA.size from hj)⟩
  obtain ⟨v, hv⟩ := this
  rw [hv] at e ⊢
  rw [hb.cell (lt_of_cell e)]; exact e
theorem KeptIn.made {w : World} (h : KeptIn w) (x : Obj) : KeptIn (w.alloc x) := h.below ((Below.refl _ _).alloc (Nat.le_refl _) _)

theorem kidx0 (w : World) : (Instr.index 112 (.agg #[.string ⟨#[39, 110, 111, 110, 101, 39]⟩, .int .i64 1, .string ⟨#[39, 115, 101, 108, 102, 39]⟩, .int .i64 2, .string ⟨#[39, 117, 110, 115, 97, 102, 101, 45, 105, 110, 108, 105, 110, 101, 39]⟩, .int .i64 3, .string ⟨#[39, 117, 110, 115, 97, 102, 101, 45, 101, 118, 97, 108, 39]⟩, .int .i64 4, .string ⟨#[39, 119, 97, 115, 109, 45, 117, 110, 115, 97, 102, 101, 45, 101, 118, 97, 108, 39]⟩, .int .i64 5, .string ⟨#[39, 115, 116, 114, 105, 99, 116, 45, 100, 121, 110, 97, 109, 105, 99, 39]⟩, .int .i64 6, .string ⟨#[39, 117, 110, 115, 97, 102, 101, 45, 104, 97, 115, 104, 101, 115, 39]⟩, .int .i64 7, .string ⟨#[39, 114, 101, 112, 111, 114, 116, 45, 115, 97, 109, 112, 108, 101, 39]⟩, .int .i64 8]) (.int .i64 0)).run Tryz.prog w = .ok (.agg #[.string ⟨#[39, 110, 111, 110, 101, 39]⟩, .int .i64 1]) w := by kernel_rfl
theorem kidx1 (w : World) : (Instr.index 112 (.agg #[.string ⟨#[39, 110, 111, 110, 101, 39]⟩, .int .i64 1, .string ⟨#[39, 115, 101, 108, 102, 39]⟩, .int .i64 2, .string ⟨#[39, 117, 110, 115, 97, 102, 101, 45, 105, 110, 108, 105, 110, 101, 39]⟩, .int .i64 3, .string ⟨#[39, 117, 110, 115, 97, 102, 101, 45, 101, 118, 97, 108, 39]⟩, .int .i64 4, .string ⟨#[39, 119, 97, 115, 109, 45, 117, 110, 115, 97, 102, 101, 45, 101, 118, 97, 108, 39]⟩, .int .i64 5, .string ⟨#[39, 115, 116, 114, 105, 99, 116, 45, 100, 121, 110, 97, 109, 105, 99, 39]⟩, .int .i64 6, .string ⟨#[39, 117, 110, 115, 97, 102, 101, 45, 104, 97, 115, 104, 101, 115, 39]⟩, .int .i64 7, .string ⟨#[39, 114, 101, 112, 111, 114, 116, 45, 115, 97, 109, 112, 108, 101, 39]⟩, .int .i64 8]) (.int .i64 1)).run Tryz.prog w = .ok (.agg #[.string ⟨#[39, 115, 101, 108, 102, 39]⟩, .int .i64 2]) w := by kernel_rfl
theorem kidx2 (w : World) : (Instr.index 112 (.agg #[.string ⟨#[39, 110, 111, 110, 101, 39]⟩, .int .i64 1, .string ⟨#[39, 115, 101, 108, 102, 39]⟩, .int .i64 2, .string ⟨#[39, 117, 110, 115, 97, 102, 101, 45, 105, 110, 108, 105, 110, 101, 39]⟩, .int .i64 3, .string ⟨#[39, 117, 110, 115, 97, 102, 101, 45, 101, 118, 97, 108, 39]⟩, .int .i64 4, .string ⟨#[39, 119, 97, 115, 109, 45, 117, 110, 115, 97, 102, 101, 45, 101, 118, 97, 108, 39]⟩, .int .i64 5, .string ⟨#[39, 115, 116, 114, 105, 99, 116, 45, 100, 121, 110, 97, 109, 105, 99, 39]⟩, .int .i64 6, .string ⟨#[39, 117, 110, 115, 97, 102, 101, 45, 104, 97, 115, 104, 101, 115, 39]⟩, .int .i64 7, .string ⟨#[39, 114, 101, 112, 111, 114, 116, 45, 115, 97, 109, 112, 108, 101, 39]⟩, .int .i64 8]) (.int .i64 2)).run Tryz.prog w = .ok (.agg #[.string ⟨#[39, 117, 110, 115, 97, 102, 101, 45, 105, 110, 108, 105, 110, 101, 39]⟩, .int .i64 3]) w := by kernel_rfl
theorem kidx3 (w : World) : (Instr.index 112 (.agg #[.string ⟨#[39, 110, 111, 110, 101, 39]⟩, .int .i64 1, .string ⟨#[39, 115, 101, 108, 102, 39]⟩, .int .i64 2, .string ⟨#[39, 117, 110, 115, 97, 102, 101, 45, 105, 110, 108, 105, 110, 101, 39]⟩, .int .i64 3, .string ⟨#[39, 117, 110, 115, 97, 102, 101, 45, 101, 118, 97, 108, 39]⟩, .int .i64 4, .string ⟨#[39, 119, 97, 115, 109, 45, 117, 110, 115, 97, 102, 101, 45, 101, 118, 97, 108, 39]⟩, .int .i64 5, .string ⟨#[39, 115, 116, 114, 105, 99, 116, 45, 100, 121, 110, 97, 109, 105, 99, 39]⟩, .int .i64 6, .string ⟨#[39, 117, 110, 115, 97, 102, 101, 45, 104, 97, 115, 104, 101, 115, 39]⟩, .int .i64 7, .string ⟨#[39, 114, 101, 112, 111, 114, 116, 45, 115, 97, 109, 112, 108, 101, 39]⟩, .int .i64 8]) (.int .i64 3)).run Tryz.prog w = .ok (.agg #[.string ⟨#[39, 117, 110, 115, 97, 102, 101, 45, 101, 118, 97, 108, 39]⟩, .int .i64 4]) w := by kernel_rfl
theorem kidx4 (w : World) : (Instr.index 112 (.agg #[.string ⟨#[39, 110, 111, 110, 101, 39]⟩, .int .i64 1, .string ⟨#[39, 115, 101, 108, 102, 39]⟩, .int .i64 2, .string ⟨#[39, 117, 110, 115, 97, 102, 101, 45, 105, 110, 108, 105, 110, 101, 39]⟩, .int .i64 3, .string ⟨#[39, 117, 110, 115, 97, 102, 101, 45, 101, 118, 97, 108, 39]⟩, .int .i64 4, .string ⟨#[39, 119, 97, 115, 109, 45, 117, 110, 115, 97, 102, 101, 45, 101, 118, 97, 108, 39]⟩, .int .i64 5, .string ⟨#[39, 115, 116, 114, 105, 99, 116, 45, 100, 121, 110, 97, 109, 105, 99, 39]⟩, .int .i64 6, .string ⟨#[39, 117, 110, 115, 97, 102, 101, 45, 104, 97, 115, 104, 101, 115, 39]⟩, .int .i64 7, .string ⟨#[39, 114, 101, 112, 111, 114, 116, 45, 115, 97, 109, 112, 108, 101, 39]⟩, .int .i64 8]) (.int .i64 4)).run Tryz.prog w = .ok (.agg #[.string ⟨#[39, 119, 97, 115, 109, 45, 117, 110, 115, 97, 102, 101, 45, 101, 118, 97, 108, 39]⟩, .int .i64 5]) w := by kernel_rfl
theorem kidx5 (w : World) : (Instr.index 112 (.agg #[.string ⟨#[39, 110, 111, 110, 101, 39]⟩, .int .i64 1, .string ⟨#[39, 115, 101, 108, 102, 39]⟩, .int .i64 2, .string ⟨#[39, 117, 110, 115, 97, 102, 101, 45, 105, 110, 108, 105, 110, 101, 39]⟩, .int .i64 3, .string ⟨#[39, 117, 110, 115, 97, 102, 101, 45, 101, 118, 97, 108, 39]⟩, .int .i64 4, .string ⟨#[39, 119, 97, 115, 109, 45, 117, 110, 115, 97, 102, 101, 45, 101, 118, 97, 108, 39]⟩, .int .i64 5, .string ⟨#[39, 115, 116, 114, 105, 99, 116, 45, 100, 121, 110, 97, 109, 105, 99, 39]⟩, .int .i64 6, .string ⟨#[39, 117, 110, 115, 97, 102, 101, 45, 104, 97, 115, 104, 101, 115, 39]⟩, .int .i64 7, .string ⟨#[39, 114, 101, 112, 111, 114, 116, 45, 115, 97, 109, 112, 108, 101, 39]⟩, .int .i64 8]) (.int .i64 5)).run Tryz.prog w = .ok (.agg #[.string ⟨#[39, 115, 116, 114, 105, 99, 116, 45, 100, 121, 110, 97, 109, 105, 99, 39]⟩, .int .i64 6]) w := by kernel_rfl
theorem kidx6 (w : World) : (Instr.index 112 (.agg #[.string ⟨#[39, 110, 111, 110, 101, 39]⟩, .int .i64 1, .string ⟨#[39, 115, 101, 108, 102, 39]⟩, .int .i64 2, .string ⟨#[39, 117, 110, 115, 97, 102, 101, 45, 105, 110, 108, 105, 110, 101, 39]⟩, .int .i64 3, .string ⟨#[39, 117, 110, 115, 97, 102, 101, 45, 101, 118, 97, 108, 39]⟩, .int .i64 4, .string ⟨#[39, 119, 97, 115, 109, 45, 117, 110, 115, 97, 102, 101, 45, 101, 118, 97, 108, 39]⟩, .int .i64 5, .string ⟨#[39, 115, 116, 114, 105, 99, 116, 45, 100, 121, 110, 97, 109, 105, 99, 39]⟩, .int .i64 6, .string ⟨#[39, 117, 110, 115, 97, 102, 101, 45, 104, 97, 115, 104, 101, 115, 39]⟩, .int .i64 7, .string ⟨#[39, 114, 101, 112, 111, 114, 116, 45, 115, 97, 109, 112, 108, 101, 39]⟩, .int .i64 8]) (.int .i64 6)).run Tryz.prog w = .ok (.agg #[.string ⟨#[39, 117, 110, 115, 97, 102, 101, 45, 104, 97, 115, 104, 101, 115, 39]⟩, .int .i64 7]) w := by kernel_rfl
theorem kidx7 (w : World) : (Instr.index 112 (.agg #[.string ⟨#[39, 110, 111, 110, 101, 39]⟩, .int .i64 1, .string ⟨#[39, 115, 101, 108, 102, 39]⟩, .int .i64 2, .string ⟨#[39, 117, 110, 115, 97, 102, 101, 45, 105, 110, 108, 105, 110, 101, 39]⟩, .int .i64 3, .string ⟨#[39, 117, 110, 115, 97, 102, 101, 45, 101, 118, 97, 108, 39]⟩, .int .i64 4, .string ⟨#[39, 119, 97, 115, 109, 45, 117, 110, 115, 97, 102, 101, 45, 101, 118, 97, 108, 39]⟩, .int .i64 5, .string ⟨#[39, 115, 116, 114, 105, 99, 116, 45, 100, 121, 110, 97, 109, 105, 99, 39]⟩, .int .i64 6, .string ⟨#[39, 117, 110, 115, 97, 102, 101, 45, 104, 97, 115, 104, 101, 115, 39]⟩, .int .i64 7, .string ⟨#[39, 114, 101, 112, 111, 114, 116, 45, 115, 97, 109, 112, 108, 101, 39]⟩, .int .i64 8]) (.int .i64 7)).run Tryz.prog w = .ok (.agg #[.string ⟨#[39, 114, 101, 112, 111, 114, 116, 45, 115, 97, 109, 112, 108, 101, 39]⟩, .int .i64 8]) w := by kernel_rfl

theorem kept_out {k : Int} (h : k ≠ 1 ∧ k ≠ 2 ∧ k ≠ 3 ∧ k ≠ 4 ∧ k ≠ 5 ∧ k ≠ 6 ∧ k ≠ 7 ∧ k ≠ 8) : keptM k = [] := by
  unfold keptM
  rw [if_neg (by omega)]

set_option maxRecDepth 100000 in
set_option maxHeartbeats 4000000 in
theorem keptT_any (k : Int) (T : ByteArray) (hT : T.data.toList = keptM k) (w : World) (hk : KeptIn w) : Calls Tryz.prog 123 #[.int .i64 k] w fun e w' => e = .returned (.string T) ∧ Below w.heap.size w w' := by
  have c0 : w.cell? ⟨0, 0, none⟩ = some (.string ⟨#[39, 110, 111, 110, 101, 39]⟩) := hk 0 (by decide)
  have c1 : w.cell? ⟨0, 1, none⟩ = some (.int .i64 1) := hk 1 (by decide)
  have c2 : w.cell? ⟨0, 2, none⟩ = some (.string ⟨#[39, 115, 101, 108, 102, 39]⟩) := hk 2 (by decide)
  have c3 : w.cell? ⟨0, 3, none⟩ = some (.int .i64 2) := hk 3 (by decide)
  have c4 : w.cell? ⟨0, 4, none⟩ = some (.string ⟨#[39, 117, 110, 115, 97, 102, 101, 45, 105, 110, 108, 105, 110, 101, 39]⟩) := hk 4 (by decide)
  have c5 : w.cell? ⟨0, 5, none⟩ = some (.int .i64 3) := hk 5 (by decide)
  have c6 : w.cell? ⟨0, 6, none⟩ = some (.string ⟨#[39, 117, 110, 115, 97, 102, 101, 45, 101, 118, 97, 108, 39]⟩) := hk 6 (by decide)
  have c7 : w.cell? ⟨0, 7, none⟩ = some (.int .i64 4) := hk 7 (by decide)
  have c8 : w.cell? ⟨0, 8, none⟩ = some (.string ⟨#[39, 119, 97, 115, 109, 45, 117, 110, 115, 97, 102, 101, 45, 101, 118, 97, 108, 39]⟩) := hk 8 (by decide)
  have c9 : w.cell? ⟨0, 9, none⟩ = some (.int .i64 5) := hk 9 (by decide)
  have c10 : w.cell? ⟨0, 10, none⟩ = some (.string ⟨#[39, 115, 116, 114, 105, 99, 116, 45, 100, 121, 110, 97, 109, 105, 99, 39]⟩) := hk 10 (by decide)
  have c11 : w.cell? ⟨0, 11, none⟩ = some (.int .i64 6) := hk 11 (by decide)
  have c12 : w.cell? ⟨0, 12, none⟩ = some (.string ⟨#[39, 117, 110, 115, 97, 102, 101, 45, 104, 97, 115, 104, 101, 115, 39]⟩) := hk 12 (by decide)
  have c13 : w.cell? ⟨0, 13, none⟩ = some (.int .i64 7) := hk 13 (by decide)
  have c14 : w.cell? ⟨0, 14, none⟩ = some (.string ⟨#[39, 114, 101, 112, 111, 114, 116, 45, 115, 97, 109, 112, 108, 101, 39]⟩) := hk 14 (by decide)
  have c15 : w.cell? ⟨0, 15, none⟩ = some (.int .i64 8) := hk 15 (by decide)
  clear hk
  have HT := Lib.hid hT
  clear hT
  go_enter Tryz.func123, Tryz.ntmps123
  go_wp2
  clear c0 c1 c2 c3 c4 c5 c6 c7 c8 c9 c10 c11 c12 c13 c14 c15
  go_loopw [6] (fun i wr => ∃ j : Nat, j ≤ 8 ∧ i = .int .i64 j ∧ Hid (∀ z : Int, 1 ≤ z → z ≤ (j : Int) → k ≠ z) ∧ Below w.heap.size w wr) (fun i _ => 8 - (intOf i).toNat)
  case atStart => exact ⟨0, by decide, rfl, Lib.hid (by intro z h1 h2; omega), Below.refl _ _⟩
  case round =>
    obtain ⟨j, hj, rfl, HN, hb⟩ := hrel
    obtain rfl | rfl | rfl | rfl | rfl | rfl | rfl | rfl | rfl : j = 0 ∨ j = 1 ∨ j = 2 ∨ j = 3 ∨ j = 4 ∨ j = 5 ∨ j = 6 ∨ j = 7 ∨ j = 8 := by omega
    · have ix := kidx0
      by_cases h : k = 1
      · have g : ((1 : Int) == k) = true := by rw [beq_iff_eq]; exact h.symm
        have HR : Hid ((⟨#[39, 110, 111, 110, 101, 39]⟩ : ByteArray) = T) := Lib.hid (by rw [text_is HT.out, h]; rfl)
        clear h HN
        go_wp2
        go_ret
        exact ⟨congrArg (fun x => Ending.returned (Value.string x)) HR.out, hb.alloc hb.size _⟩
      · have g : ((1 : Int) == k) = false := by rw [beq_eq_false_iff_ne]; exact fun e => h e.symm
        have HN2 : Hid (∀ z : Int, 1 ≤ z → z ≤ (1 : Nat) → k ≠ z) := Lib.hid (by
          intro z h1 h2 e
          by_cases h3 : z ≤ 0
          · exact HN.out z h1 (by simpa using h3) e
          · have : z = 1 := by omega
            exact h (e.trans this))
        clear h HN
        go_wp2
        go_roundw
        case rel => exact ⟨1, by decide, rfl, HN2, hb.alloc hb.size _⟩
        case measure => decide
    · have ix := kidx1
      by_cases h : k = 2
      · have g : ((2 : Int) == k) = true := by rw [beq_iff_eq]; exact h.symm
        have HR : Hid ((⟨#[39, 115, 101, 108, 102, 39]⟩ : ByteArray) = T) := Lib.hid (by rw [text_is HT.out, h]; rfl)
        clear h HN
        go_wp2
        go_ret
        exact ⟨congrArg (fun x => Ending.returned (Value.string x)) HR.out, hb.alloc hb.size _⟩
      · have g : ((2 : Int) == k) = false := by rw [beq_eq_false_iff_ne]; exact fun e => h e.symm
        have HN2 : Hid (∀ z : Int, 1 ≤ z → z ≤ (2 : Nat) → k ≠ z) := Lib.hid (by
          intro z h1 h2 e
          by_cases h3 : z ≤ 1
          · exact HN.out z h1 (by simpa using h3) e
          · have : z = 2 := by omega
            exact h (e.trans this))
        clear h HN
        go_wp2
        go_roundw
        case rel => exact ⟨2, by decide, rfl, HN2, hb.alloc hb.size _⟩
        case measure => decide
    · have ix := kidx2
      by_cases h : k = 3
      · have g : ((3 : Int) == k) = true := by rw [beq_iff_eq]; exact h.symm
        have HR : Hid ((⟨#[39, 117, 110, 115, 97, 102, 101, 45, 105, 110, 108, 105, 110, 101, 39]⟩ : ByteArray) = T) := Lib.hid (by rw [text_is HT.out, h]; rfl)
        clear h HN
        go_wp2
        go_ret
        exact ⟨congrArg (fun x => Ending.returned (Value.string x)) HR.out, hb.alloc hb.size _⟩
      · have g : ((3 : Int) == k) = false := by rw [beq_eq_false_iff_ne]; exact fun e => h e.symm
        have HN2 : Hid (∀ z : Int, 1 ≤ z → z ≤ (3 : Nat) → k ≠ z) := Lib.hid (by
          intro z h1 h2 e
          by_cases h3 : z ≤ 2
          · exact HN.out z h1 (by simpa using h3) e
          · have : z = 3 := by omega
            exact h (e.trans this))
        clear h HN
        go_wp2
        go_roundw
        case rel => exact ⟨3, by decide, rfl, HN2, hb.alloc hb.size _⟩
        case measure => decide
    · have ix := kidx3
      by_cases h : k = 4
      · have g : ((4 : Int) == k) = true := by rw [beq_iff_eq]; exact h.symm
        have HR : Hid ((⟨#[39, 117, 110, 115, 97, 102, 101, 45, 101, 118, 97, 108, 39]⟩ : ByteArray) = T) := Lib.hid (by rw [text_is HT.out, h]; rfl)
        clear h HN
        go_wp2
        go_ret
        exact ⟨congrArg (fun x => Ending.returned (Value.string x)) HR.out, hb.alloc hb.size _⟩
      · have g : ((4 : Int) == k) = false := by rw [beq_eq_false_iff_ne]; exact fun e => h e.symm
        have HN2 : Hid (∀ z : Int, 1 ≤ z → z ≤ (4 : Nat) → k ≠ z) := Lib.hid (by
          intro z h1 h2 e
          by_cases h3 : z ≤ 3
          · exact HN.out z h1 (by simpa using h3) e
          · have : z = 4 := by omega
            exact h (e.trans this))
        clear h HN
        go_wp2
        go_roundw
        case rel => exact ⟨4, by decide, rfl, HN2, hb.alloc hb.size _⟩
        case measure => decide
    · have ix := kidx4
      by_cases h : k = 5
      · have g : ((5 : Int) == k) = true := by rw [beq_iff_eq]; exact h.symm
        have HR : Hid ((⟨#[39, 119, 97, 115, 109, 45, 117, 110, 115, 97, 102, 101, 45, 101, 118, 97, 108, 39]⟩ : ByteArray) = T) := Lib.hid (by rw [text_is HT.out, h]; rfl)
        clear h HN
        go_wp2
        go_ret
        exact ⟨congrArg (fun x => Ending.returned (Value.string x)) HR.out, hb.alloc hb.size _⟩
      · have g : ((5 : Int) == k) = false := by rw [beq_eq_false_iff_ne]; exact fun e => h e.symm
        have HN2 : Hid (∀ z : Int, 1 ≤ z → z ≤ (5 : Nat) → k ≠ z) := Lib.hid (by
          intro z h1 h2 e
          by_cases h3 : z ≤ 4
          · exact HN.out z h1 (by simpa using h3) e
          · have : z = 5 := by omega
            exact h (e.trans this))
        clear h HN
        go_wp2
        go_roundw
        case rel => exact ⟨5, by decide, rfl, HN2, hb.alloc hb.size _⟩
        case measure => decide
    · have ix := kidx5
      by_cases h : k = 6
      · have g : ((6 : Int) == k) = true := by rw [beq_iff_eq]; exact h.symm
        have HR : Hid ((⟨#[39, 115, 116, 114, 105, 99, 116, 45, 100, 121, 110, 97, 109, 105, 99, 39]⟩ : ByteArray) = T) := Lib.hid (by rw [text_is HT.out, h]; rfl)
        clear h HN
        go_wp2
        go_ret
        exact ⟨congrArg (fun x => Ending.returned (Value.string x)) HR.out, hb.alloc hb.size _⟩
      · have g : ((6 : Int) == k) = false := by rw [beq_eq_false_iff_ne]; exact fun e => h e.symm
        have HN2 : Hid (∀ z : Int, 1 ≤ z → z ≤ (6 : Nat) → k ≠ z) := Lib.hid (by
          intro z h1 h2 e
          by_cases h3 : z ≤ 5
          · exact HN.out z h1 (by simpa using h3) e
          · have : z = 6 := by omega
            exact h (e.trans this))
        clear h HN
        go_wp2
        go_roundw
        case rel => exact ⟨6, by decide, rfl, HN2, hb.alloc hb.size _⟩
        case measure => decide
    · have ix := kidx6
      by_cases h : k = 7
      · have g : ((7 : Int) == k) = true := by rw [beq_iff_eq]; exact h.symm
        have HR : Hid ((⟨#[39, 117, 110, 115, 97, 102, 101, 45, 104, 97, 115, 104, 101, 115, 39]⟩ : ByteArray) = T) := Lib.hid (by rw [text_is HT.out, h]; rfl)
        clear h HN
        go_wp2
        go_ret
        exact ⟨congrArg (fun x => Ending.returned (Value.string x)) HR.out, hb.alloc hb.size _⟩
      · have g : ((7 : Int) == k) = false := by rw [beq_eq_false_iff_ne]; exact fun e => h e.symm
        have HN2 : Hid (∀ z : Int, 1 ≤ z → z ≤ (7 : Nat) → k ≠ z) := Lib.hid (by
          intro z h1 h2 e
          by_cases h3 : z ≤ 6
          · exact HN.out z h1 (by simpa using h3) e
          · have : z = 7 := by omega
            exact h (e.trans this))
        clear h HN
        go_wp2
        go_roundw
        case rel => exact ⟨7, by decide, rfl, HN2, hb.alloc hb.size _⟩
        case measure => decide
    · have ix := kidx7
      by_cases h : k = 8
      · have g : ((8 : Int) == k) = true := by rw [beq_iff_eq]; exact h.symm
        have HR : Hid ((⟨#[39, 114, 101, 112, 111, 114, 116, 45, 115, 97, 109, 112, 108, 101, 39]⟩ : ByteArray) = T) := Lib.hid (by rw [text_is HT.out, h]; rfl)
        clear h HN
        go_wp2
        go_ret
        exact ⟨congrArg (fun x => Ending.returned (Value.string x)) HR.out, hb.alloc hb.size _⟩
      · have g : ((8 : Int) == k) = false := by rw [beq_eq_false_iff_ne]; exact fun e => h e.symm
        have HN2 : Hid (∀ z : Int, 1 ≤ z → z ≤ (8 : Nat) → k ≠ z) := Lib.hid (by
          intro z h1 h2 e
          by_cases h3 : z ≤ 7
          · exact HN.out z h1 (by simpa using h3) e
          · have : z = 8 := by omega
            exact h (e.trans this))
        clear h HN
        go_wp2
        go_roundw
        case rel => exact ⟨8, by decide, rfl, HN2, hb.alloc hb.size _⟩
        case measure => decide
    · have HR : Hid ((⟨#[]⟩ : ByteArray) = T) := Lib.hid (by
        have e : keptM k = [] := kept_out ⟨HN.out 1 (by decide) (by decide), HN.out 2 (by decide) (by decide), HN.out 3 (by decide) (by decide), HN.out 4 (by decide) (by decide), HN.out 5 (by decide) (by decide), HN.out 6 (by decide) (by decide), HN.out 7 (by decide) (by decide), HN.out 8 (by decide) (by decide)⟩
        rw [text_is HT.out, e])
      clear HN
      go_wp2
      go_ret
      exact ⟨congrArg (fun x => Ending.returned (Value.string x)) HR.out, hb⟩
theorem keptT_hid (k : Int) (T : ByteArray) (hT : T.data.toList = keptM k) : Hid (∀ W, KeptIn W → Calls Tryz.prog 123 #[.int .i64 k] W fun e w' => e = .returned (.string T) ∧ Below W.heap.size W w') := Lib.hid fun W hk => keptT_any k T hT W hk

end Go.Proofs.YtaldjkbnngeahaaGreatDoor
