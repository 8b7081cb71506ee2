/- The table of signs, in memory; what a name stands for: the program's Name and the document's. -/
import Derived.Test.YtccmmeehiafbiaaDoorEntA
import Derived.Deep.MidRow
namespace Go.Proofs.YtccmmeehiafbiaaDoor
open Go.RowKit

/-- The project's own table: each name, what it stands for, whether it is written, one behind the other. -/
def SL : List Value := [.string ⟨#[97, 109, 112]⟩, .string ⟨#[38]⟩, .bool true, .string ⟨#[108, 116]⟩, .string ⟨#[60]⟩, .bool true, .string ⟨#[103, 116]⟩, .string ⟨#[62]⟩, .bool true, .string ⟨#[113, 117, 111, 116]⟩, .string ⟨#[34]⟩, .bool true, .string ⟨#[97, 112, 111, 115]⟩, .string ⟨#[39]⟩, .bool true, .string ⟨#[110, 98, 115, 112]⟩, .string ⟨#[194, 160]⟩, .bool false, .string ⟨#[99, 111, 108, 111, 110]⟩, .string ⟨#[58]⟩, .bool false, .string ⟨#[108, 112, 97, 114]⟩, .string ⟨#[40]⟩, .bool false, .string ⟨#[114, 112, 97, 114]⟩, .string ⟨#[41]⟩, .bool false, .string ⟨#[116, 97, 98]⟩, .string ⟨#[9]⟩, .bool false]
def SignsIn (w : World) : Prop := ∀ j, j < 30 → w.cell? ⟨0, j, none⟩ = SL[j]?
theorem SignsIn.below {w w' : World} (h : SignsIn w) (hb : Below w.heap.size w w') : SignsIn w' := fun j hj => by
  have e := h j hj
  have : ∃ v, SL[j]? = some v := ⟨_, List.getElem?_eq_getElem (show j < SL.length from hj)⟩
  obtain ⟨v, hv⟩ := this
  rw [hv] at e ⊢
  rw [hb.cell (lt_of_cell e)]; exact e
theorem SignsIn.range {w : World} (h : SignsIn w) : w.rangeAt 0 0 SL := fun j v hv => by
  obtain ⟨hj, _⟩ := List.getElem?_eq_some_iff.1 hv
  rw [Nat.zero_add, h j hj, hv]
theorem SignsIn.made {w : World} (h : SignsIn w) (x : Obj) : SignsIn (w.alloc x) := h.below ((Below.refl _ _).alloc (Nat.le_refl _) _)

theorem sidx0 {TA : Value} (h : TA = .agg SL.toArray) : ∀ w, (Instr.index 43 TA (.int .i64 0)).run Tryd.prog w = .ok (.agg #[.string ⟨#[97, 109, 112]⟩, .string ⟨#[38]⟩, .bool true]) w := by subst h; intro w; kernel_rfl
theorem sidx1 {TA : Value} (h : TA = .agg SL.toArray) : ∀ w, (Instr.index 43 TA (.int .i64 1)).run Tryd.prog w = .ok (.agg #[.string ⟨#[108, 116]⟩, .string ⟨#[60]⟩, .bool true]) w := by subst h; intro w; kernel_rfl
theorem sidx2 {TA : Value} (h : TA = .agg SL.toArray) : ∀ w, (Instr.index 43 TA (.int .i64 2)).run Tryd.prog w = .ok (.agg #[.string ⟨#[103, 116]⟩, .string ⟨#[62]⟩, .bool true]) w := by subst h; intro w; kernel_rfl
theorem sidx3 {TA : Value} (h : TA = .agg SL.toArray) : ∀ w, (Instr.index 43 TA (.int .i64 3)).run Tryd.prog w = .ok (.agg #[.string ⟨#[113, 117, 111, 116]⟩, .string ⟨#[34]⟩, .bool true]) w := by subst h; intro w; kernel_rfl
theorem sidx4 {TA : Value} (h : TA = .agg SL.toArray) : ∀ w, (Instr.index 43 TA (.int .i64 4)).run Tryd.prog w = .ok (.agg #[.string ⟨#[97, 112, 111, 115]⟩, .string ⟨#[39]⟩, .bool true]) w := by subst h; intro w; kernel_rfl
theorem sidx5 {TA : Value} (h : TA = .agg SL.toArray) : ∀ w, (Instr.index 43 TA (.int .i64 5)).run Tryd.prog w = .ok (.agg #[.string ⟨#[110, 98, 115, 112]⟩, .string ⟨#[194, 160]⟩, .bool false]) w := by subst h; intro w; kernel_rfl
theorem sidx6 {TA : Value} (h : TA = .agg SL.toArray) : ∀ w, (Instr.index 43 TA (.int .i64 6)).run Tryd.prog w = .ok (.agg #[.string ⟨#[99, 111, 108, 111, 110]⟩, .string ⟨#[58]⟩, .bool false]) w := by subst h; intro w; kernel_rfl
theorem sidx7 {TA : Value} (h : TA = .agg SL.toArray) : ∀ w, (Instr.index 43 TA (.int .i64 7)).run Tryd.prog w = .ok (.agg #[.string ⟨#[108, 112, 97, 114]⟩, .string ⟨#[40]⟩, .bool false]) w := by subst h; intro w; kernel_rfl
theorem sidx8 {TA : Value} (h : TA = .agg SL.toArray) : ∀ w, (Instr.index 43 TA (.int .i64 8)).run Tryd.prog w = .ok (.agg #[.string ⟨#[114, 112, 97, 114]⟩, .string ⟨#[41]⟩, .bool false]) w := by subst h; intro w; kernel_rfl
theorem sidx9 {TA : Value} (h : TA = .agg SL.toArray) : ∀ w, (Instr.index 43 TA (.int .i64 9)).run Tryd.prog w = .ok (.agg #[.string ⟨#[116, 97, 98]⟩, .string ⟨#[9]⟩, .bool false]) w := by subst h; intro w; kernel_rfl
theorem lit_text (s : ByteArray) (l : List UInt8) : (l == s.toList) = decide (s.data.toList = l) := by
  rw [← text_lit, Bool.eq_iff_iff]
  simp only [beq_iff_eq]
  exact ⟨fun h => h.symm, fun h => h.symm⟩
theorem ret_tb {S T : ByteArray} {a b : Bool} (h : S = T) (h2 : a = b) : Ending.returned (.tuple #[.string S, .bool a]) = .returned (.tuple #[.string T, .bool b]) := by rw [h, h2]

set_option maxRecDepth 100000 in
set_option maxHeartbeats 4000000 in
theorem nameP_any (s T : ByteArray) (hT : T.data.toList = nameM s.data.toList) (r : Bool) (hr : decide (nameM s.data.toList ≠ []) = r) (w : World) (hk : SignsIn w) :
    Calls Tryd.prog 11 #[.string s] w fun e w' => e = .returned (.tuple #[.string T, .bool r]) ∧ Below w.heap.size w w' := by
  have HG := Lib.hid hk.range
  clear hk
  have HT := Lib.hid hT
  have HR := Lib.hid hr
  clear hT hr
  go_enter Tryd.func11, Tryd.ntmps11
  go_wp2_with (refine wpList_load_mid (by rfl) 43 _ (by rfl) 0 0 (by rfl) SL _ HG.out Tryd.underlying43 (by rfl) (by kernel_rfl) ?_)
  generalize hTA : Value.agg SL.toArray = TA
  have HIX : Hid (TA = .agg SL.toArray) := Lib.hid hTA.symm
  clear hTA
  go_loopw [7] (fun i wr => ∃ j : Nat, j ≤ 10 ∧ i = .int .i64 j ∧ Hid (nameM s.data.toList = lookM (tabM.drop j) s.data.toList) ∧ Below w.heap.size w wr) (fun i _ => 10 - (intOf i).toNat)
  case atStart => exact ⟨0, by decide, rfl, Lib.hid rfl, Below.refl _ _⟩
  case round =>
    obtain ⟨j, hj, rfl, HN, hb⟩ := hrel
    obtain rfl | rfl | rfl | rfl | rfl | rfl | rfl | rfl | rfl | rfl | rfl : j = 0 ∨ j = 1 ∨ j = 2 ∨ j = 3 ∨ j = 4 ∨ j = 5 ∨ j = 6 ∨ j = 7 ∨ j = 8 ∨ j = 9 ∨ j = 10 := by omega
    · have ix := sidx0 HIX.out
      have g := lit_text s [97, 109, 112]
      have g2 := text_lit s [97, 109, 112]
      by_cases h : s.data.toList = [97, 109, 112]
      · rw [decide_eq_true h] at g g2
        have HV : Hid (nameM s.data.toList = [38]) := Lib.hid (by rw [HN.out, h]; rfl)
        have HS : Hid ((⟨#[38]⟩ : ByteArray) = T) := Lib.hid (by rw [text_is HT.out, HV.out])
        have HB : Hid (true = r) := Lib.hid (by rw [← HR.out, HV.out]; rfl)
        clear h HN
        go_wp2
        go_ret2
        exact ⟨ret_tb HS.out HB.out, hb.alloc hb.size _⟩
      · rw [decide_eq_false h] at g g2
        have HN2 : Hid (nameM s.data.toList = lookM (tabM.drop 1) s.data.toList) := Lib.hid (by
          rw [HN.out]
          exact if_neg (fun e => h e.symm))
        clear h HN
        go_wp2
        go_roundw
        case rel => exact ⟨1, by decide, rfl, HN2, hb.alloc hb.size _⟩
        case measure => decide
    · have ix := sidx1 HIX.out
      have g := lit_text s [108, 116]
      have g2 := text_lit s [108, 116]
      by_cases h : s.data.toList = [108, 116]
      · rw [decide_eq_true h] at g g2
        have HV : Hid (nameM s.data.toList = [60]) := Lib.hid (by rw [HN.out, h]; rfl)
        have HS : Hid ((⟨#[60]⟩ : ByteArray) = T) := Lib.hid (by rw [text_is HT.out, HV.out])
        have HB : Hid (true = r) := Lib.hid (by rw [← HR.out, HV.out]; rfl)
        clear h HN
        go_wp2
        go_ret2
        exact ⟨ret_tb HS.out HB.out, hb.alloc hb.size _⟩
      · rw [decide_eq_false h] at g g2
        have HN2 : Hid (nameM s.data.toList = lookM (tabM.drop 2) s.data.toList) := Lib.hid (by
          rw [HN.out]
          exact if_neg (fun e => h e.symm))
        clear h HN
        go_wp2
        go_roundw
        case rel => exact ⟨2, by decide, rfl, HN2, hb.alloc hb.size _⟩
        case measure => decide
    · have ix := sidx2 HIX.out
      have g := lit_text s [103, 116]
      have g2 := text_lit s [103, 116]
      by_cases h : s.data.toList = [103, 116]
      · rw [decide_eq_true h] at g g2
        have HV : Hid (nameM s.data.toList = [62]) := Lib.hid (by rw [HN.out, h]; rfl)
        have HS : Hid ((⟨#[62]⟩ : ByteArray) = T) := Lib.hid (by rw [text_is HT.out, HV.out])
        have HB : Hid (true = r) := Lib.hid (by rw [← HR.out, HV.out]; rfl)
        clear h HN
        go_wp2
        go_ret2
        exact ⟨ret_tb HS.out HB.out, hb.alloc hb.size _⟩
      · rw [decide_eq_false h] at g g2
        have HN2 : Hid (nameM s.data.toList = lookM (tabM.drop 3) s.data.toList) := Lib.hid (by
          rw [HN.out]
          exact if_neg (fun e => h e.symm))
        clear h HN
        go_wp2
        go_roundw
        case rel => exact ⟨3, by decide, rfl, HN2, hb.alloc hb.size _⟩
        case measure => decide
    · have ix := sidx3 HIX.out
      have g := lit_text s [113, 117, 111, 116]
      have g2 := text_lit s [113, 117, 111, 116]
      by_cases h : s.data.toList = [113, 117, 111, 116]
      · rw [decide_eq_true h] at g g2
        have HV : Hid (nameM s.data.toList = [34]) := Lib.hid (by rw [HN.out, h]; rfl)
        have HS : Hid ((⟨#[34]⟩ : ByteArray) = T) := Lib.hid (by rw [text_is HT.out, HV.out])
        have HB : Hid (true = r) := Lib.hid (by rw [← HR.out, HV.out]; rfl)
        clear h HN
        go_wp2
        go_ret2
        exact ⟨ret_tb HS.out HB.out, hb.alloc hb.size _⟩
      · rw [decide_eq_false h] at g g2
        have HN2 : Hid (nameM s.data.toList = lookM (tabM.drop 4) s.data.toList) := Lib.hid (by
          rw [HN.out]
          exact if_neg (fun e => h e.symm))
        clear h HN
        go_wp2
        go_roundw
        case rel => exact ⟨4, by decide, rfl, HN2, hb.alloc hb.size _⟩
        case measure => decide
    · have ix := sidx4 HIX.out
      have g := lit_text s [97, 112, 111, 115]
      have g2 := text_lit s [97, 112, 111, 115]
      by_cases h : s.data.toList = [97, 112, 111, 115]
      · rw [decide_eq_true h] at g g2
        have HV : Hid (nameM s.data.toList = [39]) := Lib.hid (by rw [HN.out, h]; rfl)
        have HS : Hid ((⟨#[39]⟩ : ByteArray) = T) := Lib.hid (by rw [text_is HT.out, HV.out])
        have HB : Hid (true = r) := Lib.hid (by rw [← HR.out, HV.out]; rfl)
        clear h HN
        go_wp2
        go_ret2
        exact ⟨ret_tb HS.out HB.out, hb.alloc hb.size _⟩
      · rw [decide_eq_false h] at g g2
        have HN2 : Hid (nameM s.data.toList = lookM (tabM.drop 5) s.data.toList) := Lib.hid (by
          rw [HN.out]
          exact if_neg (fun e => h e.symm))
        clear h HN
        go_wp2
        go_roundw
        case rel => exact ⟨5, by decide, rfl, HN2, hb.alloc hb.size _⟩
        case measure => decide
    · have ix := sidx5 HIX.out
      have g := lit_text s [110, 98, 115, 112]
      have g2 := text_lit s [110, 98, 115, 112]
      by_cases h : s.data.toList = [110, 98, 115, 112]
      · rw [decide_eq_true h] at g g2
        have HV : Hid (nameM s.data.toList = [194, 160]) := Lib.hid (by rw [HN.out, h]; rfl)
        have HS : Hid ((⟨#[194, 160]⟩ : ByteArray) = T) := Lib.hid (by rw [text_is HT.out, HV.out])
        have HB : Hid (true = r) := Lib.hid (by rw [← HR.out, HV.out]; rfl)
        clear h HN
        go_wp2
        go_ret2
        exact ⟨ret_tb HS.out HB.out, hb.alloc hb.size _⟩
      · rw [decide_eq_false h] at g g2
        have HN2 : Hid (nameM s.data.toList = lookM (tabM.drop 6) s.data.toList) := Lib.hid (by
          rw [HN.out]
          exact if_neg (fun e => h e.symm))
        clear h HN
        go_wp2
        go_roundw
        case rel => exact ⟨6, by decide, rfl, HN2, hb.alloc hb.size _⟩
        case measure => decide
    · have ix := sidx6 HIX.out
      have g := lit_text s [99, 111, 108, 111, 110]
      have g2 := text_lit s [99, 111, 108, 111, 110]
      by_cases h : s.data.toList = [99, 111, 108, 111, 110]
      · rw [decide_eq_true h] at g g2
        have HV : Hid (nameM s.data.toList = [58]) := Lib.hid (by rw [HN.out, h]; rfl)
        have HS : Hid ((⟨#[58]⟩ : ByteArray) = T) := Lib.hid (by rw [text_is HT.out, HV.out])
        have HB : Hid (true = r) := Lib.hid (by rw [← HR.out, HV.out]; rfl)
        clear h HN
        go_wp2
        go_ret2
        exact ⟨ret_tb HS.out HB.out, hb.alloc hb.size _⟩
      · rw [decide_eq_false h] at g g2
        have HN2 : Hid (nameM s.data.toList = lookM (tabM.drop 7) s.data.toList) := Lib.hid (by
          rw [HN.out]
          exact if_neg (fun e => h e.symm))
        clear h HN
        go_wp2
        go_roundw
        case rel => exact ⟨7, by decide, rfl, HN2, hb.alloc hb.size _⟩
        case measure => decide
    · have ix := sidx7 HIX.out
      have g := lit_text s [108, 112, 97, 114]
      have g2 := text_lit s [108, 112, 97, 114]
      by_cases h : s.data.toList = [108, 112, 97, 114]
      · rw [decide_eq_true h] at g g2
        have HV : Hid (nameM s.data.toList = [40]) := Lib.hid (by rw [HN.out, h]; rfl)
        have HS : Hid ((⟨#[40]⟩ : ByteArray) = T) := Lib.hid (by rw [text_is HT.out, HV.out])
        have HB : Hid (true = r) := Lib.hid (by rw [← HR.out, HV.out]; rfl)
        clear h HN
        go_wp2
        go_ret2
        exact ⟨ret_tb HS.out HB.out, hb.alloc hb.size _⟩
      · rw [decide_eq_false h] at g g2
        have HN2 : Hid (nameM s.data.toList = lookM (tabM.drop 8) s.data.toList) := Lib.hid (by
          rw [HN.out]
          exact if_neg (fun e => h e.symm))
        clear h HN
        go_wp2
        go_roundw
        case rel => exact ⟨8, by decide, rfl, HN2, hb.alloc hb.size _⟩
        case measure => decide
    · have ix := sidx8 HIX.out
      have g := lit_text s [114, 112, 97, 114]
      have g2 := text_lit s [114, 112, 97, 114]
      by_cases h : s.data.toList = [114, 112, 97, 114]
      · rw [decide_eq_true h] at g g2
        have HV : Hid (nameM s.data.toList = [41]) := Lib.hid (by rw [HN.out, h]; rfl)
        have HS : Hid ((⟨#[41]⟩ : ByteArray) = T) := Lib.hid (by rw [text_is HT.out, HV.out])
        have HB : Hid (true = r) := Lib.hid (by rw [← HR.out, HV.out]; rfl)
        clear h HN
        go_wp2
        go_ret2
        exact ⟨ret_tb HS.out HB.out, hb.alloc hb.size _⟩
      · rw [decide_eq_false h] at g g2
        have HN2 : Hid (nameM s.data.toList = lookM (tabM.drop 9) s.data.toList) := Lib.hid (by
          rw [HN.out]
          exact if_neg (fun e => h e.symm))
        clear h HN
        go_wp2
        go_roundw
        case rel => exact ⟨9, by decide, rfl, HN2, hb.alloc hb.size _⟩
        case measure => decide
    · have ix := sidx9 HIX.out
      have g := lit_text s [116, 97, 98]
      have g2 := text_lit s [116, 97, 98]
      by_cases h : s.data.toList = [116, 97, 98]
      · rw [decide_eq_true h] at g g2
        have HV : Hid (nameM s.data.toList = [9]) := Lib.hid (by rw [HN.out, h]; rfl)
        have HS : Hid ((⟨#[9]⟩ : ByteArray) = T) := Lib.hid (by rw [text_is HT.out, HV.out])
        have HB : Hid (true = r) := Lib.hid (by rw [← HR.out, HV.out]; rfl)
        clear h HN
        go_wp2
        go_ret2
        exact ⟨ret_tb HS.out HB.out, hb.alloc hb.size _⟩
      · rw [decide_eq_false h] at g g2
        have HN2 : Hid (nameM s.data.toList = lookM (tabM.drop 10) s.data.toList) := Lib.hid (by
          rw [HN.out]
          exact if_neg (fun e => h e.symm))
        clear h HN
        go_wp2
        go_roundw
        case rel => exact ⟨10, by decide, rfl, HN2, hb.alloc hb.size _⟩
        case measure => decide
    · have HV : Hid (nameM s.data.toList = []) := Lib.hid (by rw [HN.out]; rfl)
      have HS : Hid ((⟨#[]⟩ : ByteArray) = T) := Lib.hid (by rw [text_is HT.out, HV.out])
      have HB : Hid (false = r) := Lib.hid (by rw [← HR.out, HV.out]; rfl)
      clear HN
      go_wp2
      go_ret2
      exact ⟨ret_tb HS.out HB.out, hb⟩
theorem nameP_hid (s T : ByteArray) (hT : T.data.toList = nameM s.data.toList) (r : Bool) (hr : decide (nameM s.data.toList ≠ []) = r) : Hid (∀ W, SignsIn W → Calls Tryd.prog 11 #[.string s] W fun e w' => e = .returned (.tuple #[.string T, .bool r]) ∧ Below W.heap.size W w') := Lib.hid fun W hk => nameP_any s T hT r hr W hk

set_option maxRecDepth 100000 in
set_option maxHeartbeats 4000000 in
theorem refName_any (s T : ByteArray) (hT : T.data.toList = nameM s.data.toList) (r : Bool) (hr : decide (nameM s.data.toList ≠ []) = r) (w : World) :
    Calls Tryd.prog 12 #[.string s] w fun e w' => e = .returned (.tuple #[.string T, .bool r]) ∧ Below w.heap.size w w' := by
  obtain ⟨NB, hNB⟩ := text_of (encN 160)
  have CB := bytes_hid 160 NB hNB (by omega)
  have HNB : Hid (NB.data.toList = [194, 160]) := Lib.hid (by rw [hNB]; decide)
  clear hNB
  have HT := Lib.hid hT
  have HR := Lib.hid hr
  clear hT hr
  have g0 := text_lit s [97, 109, 112]
  by_cases h0 : s.data.toList = [97, 109, 112]
  · rw [decide_eq_true h0] at g0
    have HV : Hid (nameM s.data.toList = [38]) := Lib.hid (by rw [h0]; rfl)
    have HS : Hid ((⟨#[38]⟩ : ByteArray) = T) := Lib.hid (by rw [text_is HT.out, HV.out])
    have HB : Hid (true = r) := Lib.hid (by rw [← HR.out, HV.out]; rfl)
    clear h0
    go_enter Tryd.func12, Tryd.ntmps12
    go_wp2
    go_ret2
    exact ⟨ret_tb HS.out HB.out, Below.refl _ _⟩
  rw [decide_eq_false h0] at g0
  have g1 := text_lit s [108, 116]
  by_cases h1 : s.data.toList = [108, 116]
  · rw [decide_eq_true h1] at g1
    have HV : Hid (nameM s.data.toList = [60]) := Lib.hid (by rw [h1]; rfl)
    have HS : Hid ((⟨#[60]⟩ : ByteArray) = T) := Lib.hid (by rw [text_is HT.out, HV.out])
    have HB : Hid (true = r) := Lib.hid (by rw [← HR.out, HV.out]; rfl)
    clear h1
    go_enter Tryd.func12, Tryd.ntmps12
    go_wp2
    go_ret2
    exact ⟨ret_tb HS.out HB.out, Below.refl _ _⟩
  rw [decide_eq_false h1] at g1
  have g2 := text_lit s [103, 116]
  by_cases h2 : s.data.toList = [103, 116]
  · rw [decide_eq_true h2] at g2
    have HV : Hid (nameM s.data.toList = [62]) := Lib.hid (by rw [h2]; rfl)
    have HS : Hid ((⟨#[62]⟩ : ByteArray) = T) := Lib.hid (by rw [text_is HT.out, HV.out])
    have HB : Hid (true = r) := Lib.hid (by rw [← HR.out, HV.out]; rfl)
    clear h2
    go_enter Tryd.func12, Tryd.ntmps12
    go_wp2
    go_ret2
    exact ⟨ret_tb HS.out HB.out, Below.refl _ _⟩
  rw [decide_eq_false h2] at g2
  have g3 := text_lit s [113, 117, 111, 116]
  by_cases h3 : s.data.toList = [113, 117, 111, 116]
  · rw [decide_eq_true h3] at g3
    have HV : Hid (nameM s.data.toList = [34]) := Lib.hid (by rw [h3]; rfl)
    have HS : Hid ((⟨#[34]⟩ : ByteArray) = T) := Lib.hid (by rw [text_is HT.out, HV.out])
    have HB : Hid (true = r) := Lib.hid (by rw [← HR.out, HV.out]; rfl)
    clear h3
    go_enter Tryd.func12, Tryd.ntmps12
    go_wp2
    go_ret2
    exact ⟨ret_tb HS.out HB.out, Below.refl _ _⟩
  rw [decide_eq_false h3] at g3
  have g4 := text_lit s [97, 112, 111, 115]
  by_cases h4 : s.data.toList = [97, 112, 111, 115]
  · rw [decide_eq_true h4] at g4
    have HV : Hid (nameM s.data.toList = [39]) := Lib.hid (by rw [h4]; rfl)
    have HS : Hid ((⟨#[39]⟩ : ByteArray) = T) := Lib.hid (by rw [text_is HT.out, HV.out])
    have HB : Hid (true = r) := Lib.hid (by rw [← HR.out, HV.out]; rfl)
    clear h4
    go_enter Tryd.func12, Tryd.ntmps12
    go_wp2
    go_ret2
    exact ⟨ret_tb HS.out HB.out, Below.refl _ _⟩
  rw [decide_eq_false h4] at g4
  have g5 := text_lit s [110, 98, 115, 112]
  by_cases h5 : s.data.toList = [110, 98, 115, 112]
  · rw [decide_eq_true h5] at g5
    have HV : Hid (nameM s.data.toList = [194, 160]) := Lib.hid (by rw [h5]; rfl)
    have HS : Hid (NB = T) := Lib.hid (by rw [text_is HT.out, text_is HNB.out, HV.out])
    have HB : Hid (true = r) := Lib.hid (by rw [← HR.out, HV.out]; rfl)
    clear h5
    go_enter Tryd.func12, Tryd.ntmps12
    go_wp2_with fail
    refine (CB.out _).mono ?_
    rintro e w' ⟨rfl, b1⟩
    go_wp2
    go_ret2
    exact ⟨ret_tb HS.out HB.out, b1⟩
  rw [decide_eq_false h5] at g5
  have g6 := text_lit s [99, 111, 108, 111, 110]
  by_cases h6 : s.data.toList = [99, 111, 108, 111, 110]
  · rw [decide_eq_true h6] at g6
    have HV : Hid (nameM s.data.toList = [58]) := Lib.hid (by rw [h6]; rfl)
    have HS : Hid ((⟨#[58]⟩ : ByteArray) = T) := Lib.hid (by rw [text_is HT.out, HV.out])
    have HB : Hid (true = r) := Lib.hid (by rw [← HR.out, HV.out]; rfl)
    clear h6
    go_enter Tryd.func12, Tryd.ntmps12
    go_wp2
    go_ret2
    exact ⟨ret_tb HS.out HB.out, Below.refl _ _⟩
  rw [decide_eq_false h6] at g6
  have g7 := text_lit s [108, 112, 97, 114]
  by_cases h7 : s.data.toList = [108, 112, 97, 114]
  · rw [decide_eq_true h7] at g7
    have HV : Hid (nameM s.data.toList = [40]) := Lib.hid (by rw [h7]; rfl)
    have HS : Hid ((⟨#[40]⟩ : ByteArray) = T) := Lib.hid (by rw [text_is HT.out, HV.out])
    have HB : Hid (true = r) := Lib.hid (by rw [← HR.out, HV.out]; rfl)
    clear h7
    go_enter Tryd.func12, Tryd.ntmps12
    go_wp2
    go_ret2
    exact ⟨ret_tb HS.out HB.out, Below.refl _ _⟩
  rw [decide_eq_false h7] at g7
  have g8 := text_lit s [114, 112, 97, 114]
  by_cases h8 : s.data.toList = [114, 112, 97, 114]
  · rw [decide_eq_true h8] at g8
    have HV : Hid (nameM s.data.toList = [41]) := Lib.hid (by rw [h8]; rfl)
    have HS : Hid ((⟨#[41]⟩ : ByteArray) = T) := Lib.hid (by rw [text_is HT.out, HV.out])
    have HB : Hid (true = r) := Lib.hid (by rw [← HR.out, HV.out]; rfl)
    clear h8
    go_enter Tryd.func12, Tryd.ntmps12
    go_wp2
    go_ret2
    exact ⟨ret_tb HS.out HB.out, Below.refl _ _⟩
  rw [decide_eq_false h8] at g8
  have g9 := text_lit s [116, 97, 98]
  by_cases h9 : s.data.toList = [116, 97, 98]
  · rw [decide_eq_true h9] at g9
    have HV : Hid (nameM s.data.toList = [9]) := Lib.hid (by rw [h9]; rfl)
    have HS : Hid ((⟨#[9]⟩ : ByteArray) = T) := Lib.hid (by rw [text_is HT.out, HV.out])
    have HB : Hid (true = r) := Lib.hid (by rw [← HR.out, HV.out]; rfl)
    clear h9
    go_enter Tryd.func12, Tryd.ntmps12
    go_wp2
    go_ret2
    exact ⟨ret_tb HS.out HB.out, Below.refl _ _⟩
  rw [decide_eq_false h9] at g9
  have HV : Hid (nameM s.data.toList = []) := Lib.hid (by
    unfold nameM tabM lookM
    simp only [lookM]
    rw [if_neg (fun e => h0 e.symm), if_neg (fun e => h1 e.symm), if_neg (fun e => h2 e.symm), if_neg (fun e => h3 e.symm), if_neg (fun e => h4 e.symm), if_neg (fun e => h5 e.symm), if_neg (fun e => h6 e.symm), if_neg (fun e => h7 e.symm), if_neg (fun e => h8 e.symm), if_neg (fun e => h9 e.symm)])
  have HS : Hid ((⟨#[]⟩ : ByteArray) = T) := Lib.hid (by rw [text_is HT.out, HV.out])
  have HB : Hid (false = r) := Lib.hid (by rw [← HR.out, HV.out]; rfl)
  clear h0 h1 h2 h3 h4 h5 h6 h7 h8 h9
  go_enter Tryd.func12, Tryd.ntmps12
  go_wp2
  go_ret2
  exact ⟨ret_tb HS.out HB.out, Below.refl _ _⟩
theorem refName_hid (s T : ByteArray) (hT : T.data.toList = nameM s.data.toList) (r : Bool) (hr : decide (nameM s.data.toList ≠ []) = r) : Hid (∀ W, Calls Tryd.prog 12 #[.string s] W fun e w' => e = .returned (.tuple #[.string T, .bool r]) ∧ Below W.heap.size W w') := Lib.hid fun W => refName_any s T hT r hr W

end Go.Proofs.YtccmmeehiafbiaaDoor
