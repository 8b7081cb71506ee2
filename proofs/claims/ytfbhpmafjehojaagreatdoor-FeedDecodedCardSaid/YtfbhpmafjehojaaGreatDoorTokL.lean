/- Why the program does not take an attribute: its name is there already, or there are thirty. -/
import Derived.Test.YtfbhpmafjehojaaGreatDoorToH
namespace Go.Proofs.YtfbhpmafjehojaaGreatDoor
open Go.RowKit

theorem atC_at : ∀ (A : List (List UInt8 × List UInt8)) (i : Nat) (h : i < A.length), (atC A)[i * 2]? = some (strV A[i].1) ∧ (atC A)[i * 2 + 1]? = some (strV A[i].2)
  | y :: r, 0, _ => ⟨rfl, rfl⟩
  | y :: r, i + 1, h => by
    have := atC_at r i (by simpa using h)
    rw [show atC (y :: r) = [strV y.1, strV y.2] ++ atC r from rfl]
    rw [List.getElem?_append_right (by simp; omega), List.getElem?_append_right (by simp; omega)]
    simp only [List.length_cons, List.length_nil, List.getElem_cons_succ]
    rw [show (i + 1) * 2 - (0 + 1 + 1) = i * 2 by omega, show (i + 1) * 2 + 1 - (0 + 1 + 1) = i * 2 + 1 by omega]
    exact this
theorem AttrsBy.at {w : World} {B m : Nat} {a : Option Addr} {c : Nat} {A : List (List UInt8 × List UInt8)} (h : AttrsBy w B m (.slice a A.length c) A) {k : Nat} (hk : k < A.length) : ∃ g, a = some ⟨g, 0, none⟩ ∧ w.cell? ⟨g, k * 2, none⟩ = some (strV A[k].1) ∧ w.cell? ⟨g, k * 2 + 1, none⟩ = some (strV A[k].2) := by
  obtain ⟨g, rfl⟩ : ∃ g, a = some ⟨g, 0, none⟩ := by
    rcases rowForms h.1 with ⟨e1, e2⟩ | ⟨g, cc, e1⟩
    · omega
    · injection e1 with e1 _ _
      exact ⟨g, e1⟩
  obtain ⟨e1, e2⟩ := atC_at A k hk
  exact ⟨g, rfl, by rw [h.1.cellAt (k * 2) (by omega)]; exact e1, by rw [h.1.cellAt (k * 2 + 1) (by omega)]; exact e2⟩
theorem AttrsBy.below {w w' : World} {B m : Nat} {av : Value} {A : List (List UInt8 × List UInt8)} (h : AttrsBy w B m av A) (b : Below w.heap.size w w') : AttrsBy w' B m av A := h.kp (Kp.of_below b (P := fun _ _ => False)) fun _ _ _ e => e
def capV (Nb : Nat) : Value := .func (.func 114) #[] #[.pointer (some ⟨Nb, 0, none⟩)]
def textAt (w : World) (Nb : Nat) (X : ByteArray) : Prop := w.cell? ⟨Nb, 0, none⟩ = some (.string X)
theorem textAt.below {w w' : World} {Nb : Nat} {X : ByteArray} (h : textAt w Nb X) (b : Below w.heap.size w w') : textAt w' Nb X := by
  unfold textAt at *
  rw [b.cell (lt_of_cell h)]; exact h

theorem same_name (NM VL X : ByteArray) (Nb : Nat) (b : Bool) (h : decide (NM.data.toList = X.data.toList) = b) : Hid (∀ W, textAt W Nb X → Calls Tryz.prog 114 #[.agg #[.string NM, .string VL], .pointer (some ⟨Nb, 0, none⟩)] W fun e w' => e = .returned (.bool b) ∧ Below W.heap.size W w') := Lib.hid fun w hx => by
  have al := (Below.refl w.heap.size w).alloc (Nat.le_refl _) (.cells #[.string NM, .string VL] 105)
  have x1 : (w.alloc (.cells #[.string NM, .string VL] 105)).cell? ⟨Nb, 0, none⟩ = some (.string X) := hx.below al
  have g : (NM.toList == X.toList) = b := by rw [text_eq]; exact h
  have HAL := Lib.hid al
  clear h hx al
  go_enter Tryz.func114, Tryz.ntmps114
  go_wp2
  go_ret
  exact ⟨rfl, HAL.out⟩
def FoundP (A : List (List UInt8 × List UInt8)) (X : List UInt8) (r : Int) : Prop := (A.any (fun y => y.1 == X) = true ∧ 0 ≤ r) ∨ (A.any (fun y => y.1 == X) = false ∧ r = -1)

set_option maxRecDepth 100000 in
set_option maxHeartbeats 4000000 in
theorem indexFunc_hid (A : List (List UInt8 × List UInt8)) (X : ByteArray) (Nb B m : Nat) (a : Option Addr) (c : Nat) (hl : A.length ≤ 1000000) : Hid (∀ W, AttrsBy W B m (.slice a A.length c) A → textAt W Nb X → Calls Tryz.prog 133 #[.slice a A.length c, capV Nb] W fun e w' => (∃ r, e = .returned (.int .i64 r) ∧ FoundP A X.data.toList r) ∧ Below W.heap.size W w') := Lib.hid fun w ha hx => by
  have HA := Lib.hid ha
  have HX := Lib.hid hx
  clear ha hx
  unfold capV
  go_enter Tryz.func133, Tryz.ntmps133
  go_wp2
  go_loopw [5, 8] (fun _ j wr => ∃ k : Nat, j = .int .i64 k ∧ k ≤ A.length ∧ Below w.heap.size w wr ∧ Hid (∀ i, (h : i < A.length) → i < k → A[i].1 ≠ X.data.toList)) (fun _ j _ => A.length - (intOf j).toNat)
  case atStart => exact ⟨0, rfl, Nat.zero_le _, Below.refl _ _, Lib.hid fun i _ h => by omega⟩
  case round =>
    obtain ⟨k, rfl, hk, hb, HN⟩ := hrel
    by_cases hlt : k < A.length
    · have har := HA.out.below hb
      obtain ⟨g, rfl, c0, c1⟩ := har.at hlt
      obtain ⟨NM, hNM⟩ := text_of A[k].1
      obtain ⟨VL, hVL⟩ := text_of A[k].2
      rw [strV_of hNM] at c0
      rw [strV_of hVL] at c1
      have hxr := HX.out.below hb
      obtain ⟨b, hbb⟩ : ∃ b, decide (NM.data.toList = X.data.toList) = b := ⟨_, rfl⟩
      have CC := same_name NM VL X Nb b hbb
      have HB : Hid (b = decide (A[k].1 = X.data.toList)) := Lib.hid (by rw [← hbb, hNM])
      have hsz := hb.size
      clear hbb hVL hNM har
      cases b with
      | false =>
        have HN2 : Hid (∀ i, (h : i < A.length) → i < k + 1 → A[i].1 ≠ X.data.toList) := Lib.hid fun i hi h2 => by
          by_cases e : i = k
          · subst e
            exact of_decide_eq_false HB.out.symm
          · exact HN.out i hi (by omega)
        clear HN HB
        go_wp2_with fail
        (refine (CC.out _ hxr).mono ?_)
        rintro e w1 ⟨rfl, b1⟩
        have hb1 := hb.trans (b1.mono hsz)
        clear hb b1 hxr c0 c1
        go_wp2
        go_roundw
        case rel => exact ⟨k + 1, by go_num, by omega, hb1, HN2⟩
        case measure => simp [intOf]; omega
      | true =>
        have HF : Hid (FoundP A X.data.toList (k : Int)) := Lib.hid (.inl ⟨by
          rw [List.any_eq_true]
          exact ⟨A[k], List.getElem_mem hlt, by rw [beq_iff_eq]; exact of_decide_eq_true HB.out.symm⟩, by omega⟩)
        clear HN HB
        go_wp2_with fail
        (refine (CC.out _ hxr).mono ?_)
        rintro e w1 ⟨rfl, b1⟩
        have hb1 := hb.trans (b1.mono hsz)
        clear hb b1 hxr c0 c1
        go_wp2
        go_ret
        exact ⟨⟨_, rfl, HF.out⟩, hb1⟩
    · obtain rfl : k = A.length := by omega
      have HF : Hid (FoundP A X.data.toList (-1)) := Lib.hid (.inr ⟨by
        rw [List.any_eq_false]
        intro y hy
        obtain ⟨i, hi, rfl⟩ := List.getElem_of_mem hy
        rw [beq_iff_eq]
        exact HN.out i hi hi, rfl⟩)
      clear HN
      go_wp2
      go_ret
      exact ⟨⟨_, rfl, HF.out⟩, hb⟩
theorem contains_hid (A : List (List UInt8 × List UInt8)) (X : ByteArray) (Nb B m : Nat) (a : Option Addr) (c : Nat) (hl : A.length ≤ 1000000) : Hid (∀ W, AttrsBy W B m (.slice a A.length c) A → textAt W Nb X → Calls Tryz.prog 113 #[.slice a A.length c, capV Nb] W fun e w' => e = .returned (.bool (A.any (fun y => y.1 == X.data.toList))) ∧ Below W.heap.size W w') := Lib.hid fun w ha hx => by
  have C := Lib.hid ((indexFunc_hid A X Nb B m a c hl).out w ha hx)
  clear ha hx
  generalize hcap : capV Nb = fvv at C ⊢
  clear hcap
  go_enter Tryz.func113, Tryz.ntmps113
  go_wp2_with fail
  refine C.out.mono ?_
  rintro e w1 ⟨⟨r, rfl, hf⟩, b1⟩
  rcases hf with ⟨h1, h2⟩ | ⟨h1, rfl⟩
  · have H1 := Lib.hid h1
    clear C h1
    go_wp2
    go_ret
    exact ⟨ret_bool H1.out.symm, b1⟩
  · have H1 := Lib.hid h1
    clear C h1
    go_wp2
    go_ret
    exact ⟨ret_bool H1.out.symm, b1⟩
/-- The Fail for which an attribute is not taken; 0: none. -/
def refM (A : List (List UInt8 × List UInt8)) (X : List UInt8) : Int := if A.any (fun y => y.1 == X) = true then 142 else if A.length = 30 then 2 else 0

set_option maxRecDepth 100000 in
set_option maxHeartbeats 4000000 in
theorem refusal_hid (A : List (List UInt8 × List UInt8)) (X : ByteArray) (r : Int) (h : refM A X.data.toList = r) (B m : Nat) (a : Option Addr) (c : Nat) (hl : A.length ≤ 1000000) : Hid (∀ W, AttrsBy W B m (.slice a A.length c) A → Calls Tryz.prog 93 #[.slice a A.length c, .string X] W fun e w' => e = .returned (.int .i64 r) ∧ Below W.heap.size W w') := Lib.hid fun w ha => by
  have al := (Below.refl w.heap.size w).alloc (Nat.le_refl _) (.cells #[.string X] 9)
  have hx : textAt (w.alloc (.cells #[.string X] 9)) w.heap.size X := by
    unfold textAt
    rw [cell_of (new_block w _)]
    rfl
  have C := Lib.hid ((contains_hid A X w.heap.size B m a c hl).out _ (ha.below al) hx)
  unfold capV at C
  have HAL := Lib.hid al
  obtain ⟨d, hd⟩ : ∃ d, A.any (fun y => y.1 == X.data.toList) = d := ⟨_, rfl⟩
  rw [hd] at C
  obtain ⟨f, hf⟩ : ∃ f, ((A.length : Int) == 30) = f := ⟨_, rfl⟩
  have HV : Hid (r = if d = true then 142 else if f = true then 2 else 0) := Lib.hid (by
    rw [← h]
    unfold refM
    rw [hd, ← hf]
    simp only [beq_iff_eq]
    congr 1
    by_cases e : A.length = 30
    · rw [if_pos e, if_pos (by omega)]
    · rw [if_neg e, if_neg (by omega)])
  clear ha h hd al hx
  cases d <;> cases f
  all_goals
    go_enter Tryz.func93, Tryz.ntmps93
    go_wp2_with fail
    refine C.out.mono ?_
    rintro e w1 ⟨rfl, b1⟩
    have b2 := HAL.out.trans (b1.mono HAL.out.size)
    clear b1
    go_wp2
    go_ret
    exact ⟨by rw [HV.out]; rfl, b2⟩

end Go.Proofs.YtfbhpmafjehojaaGreatDoor
