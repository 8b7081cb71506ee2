/- The program's Print: tokens' text. -/
import Derived.Test.YtgbilfbonliipaaGreatDoorTokBB
namespace Go.Proofs.YtgbilfbonliipaaGreatDoor
open Go.RowKit

set_option maxRecDepth 100000 in
set_option maxHeartbeats 4000000 in
theorem printed_1t (N D P : ByteArray) (A : List (List UInt8 × List UInt8)) (c : Bool) (hP : P.data.toList = printT true ⟨1, N.data.toList, D.data.toList, A, c⟩) (hw : wT ⟨1, N.data.toList, D.data.toList, A, c⟩ ≤ 1000000) : Hid (∀ W av, Low W → AtIn W av A → Calls Tryz.prog 31 #[.agg #[.int .i64 1, .string N, .string D, av, .bool c], .bool true] W fun e w' => e = .returned (.string P) ∧ Below W.heap.size W w') := Lib.hid fun w av hlow hat => by
  obtain ⟨aa, ac, rfl⟩ := hat.form
  have hNs : N.size + D.size ≤ 1000000 := by
    unfold wT at hw
    simp only [lsize] at hw
    omega
  have al1 := (Below.refl w.heap.size w).alloc (Nat.le_refl _) (.cells #[.int .i64 1, .string N, .string D, .slice aa A.length ac, .bool c] 40)
  have hbox := new_block w (.cells #[.int .i64 1, .string N, .string D, .slice aa A.length ac, .bool c] 40)
  have e0 := cell_of hbox 0
  have e1 := cell_of hbox 1
  have e2 := cell_of hbox 2
  obtain rfl : P = D := by rw [text_is hP]; exact (text_is (T := D) rfl).symm
  have HAL := Lib.hid al1
  clear hlow hat hbox al1 hw hP
  go_enter Tryz.func31, Tryz.ntmps31
  go_wp2
  go_ret
  exact ⟨rfl, HAL.out⟩

set_option maxRecDepth 100000 in
set_option maxHeartbeats 4000000 in
theorem printed_1f (N D P : ByteArray) (A : List (List UInt8 × List UInt8)) (c : Bool) (hP : P.data.toList = printT false ⟨1, N.data.toList, D.data.toList, A, c⟩) (hw : wT ⟨1, N.data.toList, D.data.toList, A, c⟩ ≤ 1000000) : Hid (∀ W av, Low W → AtIn W av A → Calls Tryz.prog 31 #[.agg #[.int .i64 1, .string N, .string D, av, .bool c], .bool false] W fun e w' => e = .returned (.string P) ∧ Below W.heap.size W w') := Lib.hid fun w av hlow hat => by
  obtain ⟨aa, ac, rfl⟩ := hat.form
  have hNs : N.size + D.size ≤ 1000000 := by
    unfold wT at hw
    simp only [lsize] at hw
    omega
  have al1 := (Below.refl w.heap.size w).alloc (Nat.le_refl _) (.cells #[.int .i64 1, .string N, .string D, .slice aa A.length ac, .bool c] 40)
  have hbox := new_block w (.cells #[.int .i64 1, .string N, .string D, .slice aa A.length ac, .bool c] 40)
  have e0 := cell_of hbox 0
  have e1 := cell_of hbox 1
  have e2 := cell_of hbox 2
  have CE := encode_hid D P hP (by omega)
  have HL := Lib.hid (hlow.below al1).s
  have HAL := Lib.hid al1
  clear hlow hat hbox al1 hw hP
  go_enter Tryz.func31, Tryz.ntmps31
  go_wp2_with fail
  (with_reducible refine (CE.out _ HL.out).mono ?_)
  rintro e w2 ⟨rfl, b2⟩
  have b3 := HAL.out.trans (b2.mono HAL.out.size)
  clear b2
  go_wp2
  go_ret
  exact ⟨rfl, b3⟩

set_option maxRecDepth 100000 in
set_option maxHeartbeats 4000000 in
theorem printed_2 (N D P : ByteArray) (code : Bool) (A : List (List UInt8 × List UInt8)) (c : Bool) (hP : P.data.toList = printT code ⟨2, N.data.toList, D.data.toList, A, c⟩) (hw : wT ⟨2, N.data.toList, D.data.toList, A, c⟩ ≤ 1000000) : Hid (∀ W av, Low W → AtIn W av A → Calls Tryz.prog 31 #[.agg #[.int .i64 2, .string N, .string D, av, .bool c], .bool code] W fun e w' => e = .returned (.string P) ∧ Below W.heap.size W w') := Lib.hid fun w av hlow hat => by
  obtain ⟨aa, ac, rfl⟩ := hat.form
  have hNs : N.size + D.size ≤ 1000000 := by
    unfold wT at hw
    simp only [lsize] at hw
    omega
  have al1 := (Below.refl w.heap.size w).alloc (Nat.le_refl _) (.cells #[.int .i64 2, .string N, .string D, .slice aa A.length ac, .bool c] 40)
  have hbox := new_block w (.cells #[.int .i64 2, .string N, .string D, .slice aa A.length ac, .bool c] 40)
  have e0 := cell_of hbox 0
  have e1 := cell_of hbox 1
  have e2 := cell_of hbox 2
  have e3 := cell_of hbox 3
  have e4 := cell_of hbox 4
  have CE := startTag_hid 2 N D P A c hP hw
  have HL := Lib.hid (And.intro (hlow.below al1) (hat.below al1))
  have HAL := Lib.hid al1
  clear hlow hat hbox al1 hw hP
  go_enter Tryz.func31, Tryz.ntmps31
  go_wp2_with fail
  (with_reducible refine (CE.out _ _ HL.out.1 HL.out.2).mono ?_)
  rintro e w2 ⟨rfl, b2⟩
  have b3 := HAL.out.trans (b2.mono HAL.out.size)
  clear b2
  go_wp2
  go_ret
  exact ⟨rfl, b3⟩

set_option maxRecDepth 100000 in
set_option maxHeartbeats 4000000 in
theorem printed_3 (N D P : ByteArray) (code : Bool) (A : List (List UInt8 × List UInt8)) (c : Bool) (hP : P.data.toList = printT code ⟨3, N.data.toList, D.data.toList, A, c⟩) (hw : wT ⟨3, N.data.toList, D.data.toList, A, c⟩ ≤ 1000000) : Hid (∀ W av, Low W → AtIn W av A → Calls Tryz.prog 31 #[.agg #[.int .i64 3, .string N, .string D, av, .bool c], .bool code] W fun e w' => e = .returned (.string P) ∧ Below W.heap.size W w') := Lib.hid fun w av hlow hat => by
  obtain ⟨aa, ac, rfl⟩ := hat.form
  have hNs : N.size + D.size ≤ 1000000 := by
    unfold wT at hw
    simp only [lsize] at hw
    omega
  have al1 := (Below.refl w.heap.size w).alloc (Nat.le_refl _) (.cells #[.int .i64 3, .string N, .string D, .slice aa A.length ac, .bool c] 40)
  have hbox := new_block w (.cells #[.int .i64 3, .string N, .string D, .slice aa A.length ac, .bool c] 40)
  have e0 := cell_of hbox 0
  have e1 := cell_of hbox 1
  have e2 := cell_of hbox 2
  obtain ⟨S1, hS1⟩ := text_of ((⟨#[60, 47]⟩ : ByteArray).data.toList ++ N.data.toList)
  have q1 : S1.size ≤ 1000010 := by
    rw [← lsize, hS1, List.length_append, lsize, lsize]
    have : (⟨#[60, 47]⟩ : ByteArray).size ≤ 10 := by decide
    omega
  have z1 : (⟨#[60, 47]⟩ : ByteArray).size ≤ 10 := by decide
  have z2 : (⟨#[62]⟩ : ByteArray).size ≤ 10 := by decide
  have s1 := add_to ⟨#[60, 47]⟩ N S1 hS1 (by omega)
  have s2 := add_to S1 ⟨#[62]⟩ P (by rw [hP, hS1]; rfl) (by omega)
  clear z1 z2
  clear hS1 q1
  have HAL := Lib.hid al1
  clear hlow hat hbox al1 hw hP
  go_enter Tryz.func31, Tryz.ntmps31
  go_wp2
  go_ret
  exact ⟨rfl, HAL.out⟩

set_option maxRecDepth 100000 in
set_option maxHeartbeats 4000000 in
theorem printed_4 (N D P : ByteArray) (code : Bool) (A : List (List UInt8 × List UInt8)) (c : Bool) (hP : P.data.toList = printT code ⟨4, N.data.toList, D.data.toList, A, c⟩) (hw : wT ⟨4, N.data.toList, D.data.toList, A, c⟩ ≤ 1000000) : Hid (∀ W av, Low W → AtIn W av A → Calls Tryz.prog 31 #[.agg #[.int .i64 4, .string N, .string D, av, .bool c], .bool code] W fun e w' => e = .returned (.string P) ∧ Below W.heap.size W w') := Lib.hid fun w av hlow hat => by
  obtain ⟨aa, ac, rfl⟩ := hat.form
  have hNs : N.size + D.size ≤ 1000000 := by
    unfold wT at hw
    simp only [lsize] at hw
    omega
  have al1 := (Below.refl w.heap.size w).alloc (Nat.le_refl _) (.cells #[.int .i64 4, .string N, .string D, .slice aa A.length ac, .bool c] 40)
  have hbox := new_block w (.cells #[.int .i64 4, .string N, .string D, .slice aa A.length ac, .bool c] 40)
  have e0 := cell_of hbox 0
  have e1 := cell_of hbox 1
  have e2 := cell_of hbox 2
  obtain ⟨S1, hS1⟩ := text_of ((⟨#[60, 33, 45, 45]⟩ : ByteArray).data.toList ++ D.data.toList)
  have q1 : S1.size ≤ 1000010 := by
    rw [← lsize, hS1, List.length_append, lsize, lsize]
    have : (⟨#[60, 33, 45, 45]⟩ : ByteArray).size ≤ 10 := by decide
    omega
  have z1 : (⟨#[60, 33, 45, 45]⟩ : ByteArray).size ≤ 10 := by decide
  have z2 : (⟨#[45, 45, 62]⟩ : ByteArray).size ≤ 10 := by decide
  have s1 := add_to ⟨#[60, 33, 45, 45]⟩ D S1 hS1 (by omega)
  have s2 := add_to S1 ⟨#[45, 45, 62]⟩ P (by rw [hP, hS1]; rfl) (by omega)
  clear z1 z2
  clear hS1 q1
  have HAL := Lib.hid al1
  clear hlow hat hbox al1 hw hP
  go_enter Tryz.func31, Tryz.ntmps31
  go_wp2
  go_ret
  exact ⟨rfl, HAL.out⟩

set_option maxRecDepth 100000 in
set_option maxHeartbeats 4000000 in
theorem printed_5 (N D P : ByteArray) (code : Bool) (A : List (List UInt8 × List UInt8)) (c : Bool) (hP : P.data.toList = printT code ⟨5, N.data.toList, D.data.toList, A, c⟩) (hw : wT ⟨5, N.data.toList, D.data.toList, A, c⟩ ≤ 1000000) : Hid (∀ W av, Low W → AtIn W av A → Calls Tryz.prog 31 #[.agg #[.int .i64 5, .string N, .string D, av, .bool c], .bool code] W fun e w' => e = .returned (.string P) ∧ Below W.heap.size W w') := Lib.hid fun w av hlow hat => by
  obtain ⟨aa, ac, rfl⟩ := hat.form
  have hNs : N.size + D.size ≤ 1000000 := by
    unfold wT at hw
    simp only [lsize] at hw
    omega
  have al1 := (Below.refl w.heap.size w).alloc (Nat.le_refl _) (.cells #[.int .i64 5, .string N, .string D, .slice aa A.length ac, .bool c] 40)
  have hbox := new_block w (.cells #[.int .i64 5, .string N, .string D, .slice aa A.length ac, .bool c] 40)
  have e0 := cell_of hbox 0
  have e1 := cell_of hbox 1
  have e2 := cell_of hbox 2
  obtain ⟨S1, hS1⟩ := text_of ((⟨#[60, 33, 100, 111, 99, 116, 121, 112, 101, 32]⟩ : ByteArray).data.toList ++ D.data.toList)
  have q1 : S1.size ≤ 1000010 := by
    rw [← lsize, hS1, List.length_append, lsize, lsize]
    have : (⟨#[60, 33, 100, 111, 99, 116, 121, 112, 101, 32]⟩ : ByteArray).size ≤ 10 := by decide
    omega
  have z1 : (⟨#[60, 33, 100, 111, 99, 116, 121, 112, 101, 32]⟩ : ByteArray).size ≤ 10 := by decide
  have z2 : (⟨#[62]⟩ : ByteArray).size ≤ 10 := by decide
  have s1 := add_to ⟨#[60, 33, 100, 111, 99, 116, 121, 112, 101, 32]⟩ D S1 hS1 (by omega)
  have s2 := add_to S1 ⟨#[62]⟩ P (by rw [hP, hS1]; rfl) (by omega)
  clear z1 z2
  clear hS1 q1
  have HAL := Lib.hid al1
  clear hlow hat hbox al1 hw hP
  go_enter Tryz.func31, Tryz.ntmps31
  go_wp2
  go_ret
  exact ⟨rfl, HAL.out⟩

set_option maxRecDepth 100000 in
set_option maxHeartbeats 4000000 in
theorem printed_0 (N D P : ByteArray) (k : Int) (code : Bool) (A : List (List UInt8 × List UInt8)) (c : Bool) (h1 : k ≠ 1) (h2 : k ≠ 2) (h3 : k ≠ 3) (h4 : k ≠ 4) (h5 : k ≠ 5) (hP : P.data.toList = printT code ⟨k, N.data.toList, D.data.toList, A, c⟩) (hw : wT ⟨k, N.data.toList, D.data.toList, A, c⟩ ≤ 1000000) : Hid (∀ W av, Low W → AtIn W av A → Calls Tryz.prog 31 #[.agg #[.int .i64 k, .string N, .string D, av, .bool c], .bool code] W fun e w' => e = .returned (.string P) ∧ Below W.heap.size W w') := Lib.hid fun w av hlow hat => by
  obtain ⟨aa, ac, rfl⟩ := hat.form
  have hNs : N.size + D.size ≤ 1000000 := by
    unfold wT at hw
    simp only [lsize] at hw
    omega
  have g1 : (k == 1) = false := beq_eq_false_iff_ne.2 h1
  have g2 : (k == 2) = false := beq_eq_false_iff_ne.2 h2
  have g3 : (k == 3) = false := beq_eq_false_iff_ne.2 h3
  have g4 : (k == 4) = false := beq_eq_false_iff_ne.2 h4
  have g5 : (k == 5) = false := beq_eq_false_iff_ne.2 h5
  have al1 := (Below.refl w.heap.size w).alloc (Nat.le_refl _) (.cells #[.int .i64 k, .string N, .string D, .slice aa A.length ac, .bool c] 40)
  have hbox := new_block w (.cells #[.int .i64 k, .string N, .string D, .slice aa A.length ac, .bool c] 40)
  have e0 := cell_of hbox 0
  have e1 := cell_of hbox 1
  have e2 := cell_of hbox 2
  obtain rfl : P = ⟨#[]⟩ := text_is (by rw [hP]; unfold printT; rw [if_neg h1, if_neg h2, if_neg h3, if_neg h4, if_neg h5])
  clear h1 h2 h3 h4 h5
  have HAL := Lib.hid al1
  clear hlow hat hbox al1 hw hP
  go_enter Tryz.func31, Tryz.ntmps31
  go_wp2
  go_ret
  exact ⟨rfl, HAL.out⟩

theorem printed_hid (k : Int) (code : Bool) (N D P : ByteArray) (A : List (List UInt8 × List UInt8)) (c : Bool) (hP : P.data.toList = printT code ⟨k, N.data.toList, D.data.toList, A, c⟩) (hw : wT ⟨k, N.data.toList, D.data.toList, A, c⟩ ≤ 1000000) : Hid (∀ W av, Low W → AtIn W av A → Calls Tryz.prog 31 #[.agg #[.int .i64 k, .string N, .string D, av, .bool c], .bool code] W fun e w' => e = .returned (.string P) ∧ Below W.heap.size W w') := by
  by_cases h1 : k = 1
  · subst h1
    cases code with
    | true => exact printed_1t N D P A c hP hw
    | false => exact printed_1f N D P A c hP hw
  by_cases h2 : k = 2
  · subst h2; exact printed_2 N D P code A c hP hw
  by_cases h3 : k = 3
  · subst h3; exact printed_3 N D P code A c hP hw
  by_cases h4 : k = 4
  · subst h4; exact printed_4 N D P code A c hP hw
  by_cases h5 : k = 5
  · subst h5; exact printed_5 N D P code A c hP hw
  exact printed_0 N D P k code A c h1 h2 h3 h4 h5 hP hw

theorem hardM_some (t : Tk) : hardM (some t) = (decide (t.k = 2) && (decide (t.n = scriptN) || decide (t.n = styleN))) := rfl
theorem printF_drop (L : List Tk) (b : Option Tk) {i : Nat} (h : i < L.length) : printF b (L.drop i) = printT (hardM b) L[i] ++ printF (some L[i]) (L.drop (i + 1)) := by
  rw [List.drop_eq_getElem_cons h]
  rfl

set_option maxRecDepth 100000 in
set_option maxHeartbeats 8000000 in
theorem print_hid (L : List Tk) (P : ByteArray) (hP : P.data.toList = printM L) (hw : wL L ≤ 20000000) (hwt : ∀ t ∈ L, wT t ≤ 1000000) : Hid (∀ W v, Low W → TokIn W v L → Calls Tryz.prog 18 #[v] W fun e w' => e = .returned (.string P) ∧ Below W.heap.size W w') := Lib.hid fun w v hlow hat => by
  obtain ⟨aa, ac, rfl⟩ := hat.form
  have hLl : L.length ≤ 20000000 := Nat.le_trans (wL_len L) hw
  have al1 := (Below.refl w.heap.size w).alloc (Nat.le_refl _) (.cells #[.pointer none, .slice none 0 0] 48)
  have hbo := BO.new w
  have H2 := Lib.hid (And.intro hbo al1)
  have HLow := Lib.hid hlow
  have HAT := Lib.hid hat
  have HP := Lib.hid hP
  have HW := Lib.hid hw
  have HWT := Lib.hid hwt
  have HPF := Lib.hid (printF_len none L)
  clear hlow hat hP hw hwt hbo al1
  go_enter Tryz.func18, Tryz.ntmps18
  go_wp2
  generalize w.alloc (.cells #[.pointer none, .slice none 0 0] 48) = w1 at H2 ⊢
  generalize hTb : w.heap.size = Tb at H2 ⊢
  have HTb := Lib.hid hTb
  clear hTb
  go_loopw [4, 6, 9] (fun cv _ j wr => ∃ (i : Nat) (code : Bool), j = .int .i64 i ∧ cv = .bool code ∧ i ≤ L.length ∧ ∃ (H : List UInt8) (b : Option Tk), Hid (BO wr Tb Tb H ∧ Below Tb w wr ∧ H ++ printF b (L.drop i) = printM L ∧ code = hardM b)) (fun _ _ j _ => L.length - (intOf j).toNat)
  case atStart => exact ⟨0, false, rfl, rfl, Nat.zero_le _, [], none, Lib.hid ⟨H2.out.1, H2.out.2, rfl, rfl⟩⟩
  case round =>
    clear H2
    obtain ⟨i, code, rfl, rfl, hi, H, b, HX⟩ := hrel
    obtain ⟨h1, h3, h4, h5⟩ := HX.out
    have hTw : Tb ≤ wr.heap.size := by have := lt_of_block h1.1.choose_spec.choose_spec.blk; omega
    have hlenH : H.length ≤ 120000000 := by
      have e := congrArg List.length h4
      have h0 := HW.out
      have h9 := HPF.out
      unfold printM at e
      rw [List.length_append] at e
      omega
    by_cases hlt : i < L.length
    · have har : TokIn wr (.slice aa L.length ac) L := HAT.out.below (by rw [HTb.out]; exact h3)
      obtain ⟨g, off, av, rfl, c0, c1, c2, c3, c4, c5⟩ := har.at hlt
      obtain ⟨N, hN⟩ := text_of L[i].n
      obtain ⟨D, hD⟩ := text_of L[i].d
      rw [strV_of hN] at c1
      rw [strV_of hD] at c2
      obtain ⟨at', ac', rfl⟩ := c5.form
      have hw0 := HWT.out _ (List.getElem_mem hlt)
      obtain ⟨Q, hQ⟩ := text_of (printT code L[i])
      have hQs : Q.size ≤ 6000000 := by
        rw [← lsize, hQ]
        have := printT_len code L[i]
        omega
      have hstep : (H ++ Q.data.toList) ++ printF (some L[i]) (L.drop (i + 1)) = printM L := by
        rw [← h4, printF_drop L b hlt, hQ, ← h5, List.append_assoc]
      have hhard := hardM_some L[i]
      obtain ⟨t, ht⟩ : ∃ t, L[i] = t := ⟨_, rfl⟩
      rw [ht] at c0 c3 c4 c5 hN hD hw0 hQ hstep hhard
      clear ht
      obtain ⟨tk, tn, td, ta, tc⟩ := t
      subst hN hD
      dsimp only at c0 c3 c4 c5 hhard
      have CP := printed_hid tk code N D Q ta tc hQ hw0
      have alr := (Below.refl wr.heap.size wr).alloc (Nat.le_refl _) (.cells #[.int .i64 tk, .string N, .string D, .slice at' ta.length ac', .bool tc] 40)
      have hxb := new_block wr (.cells #[.int .i64 tk, .string N, .string D, .slice at' ta.length ac', .bool tc] 40)
      have h8 := (HLow.out.below (by rw [HTb.out]; exact h3)).below alr
      have H5 := Lib.hid (And.intro (h1.below alr) (And.intro (h3.trans (alr.mono hTw)) (And.intro hxb (And.intro h8 (c5.below alr)))))
      have hTa : Tb ≤ (wr.alloc (.cells #[.int .i64 tk, .string N, .string D, .slice at' ta.length ac', .bool tc] 40)).heap.size := Nat.le_trans hTw alr.size
      have e0 := cell_of hxb 0
      have e1 := cell_of hxb 1
      have e2 := cell_of hxb 2
      have e3 := cell_of hxb 3
      have e4 := cell_of hxb 4
      have HST := Lib.hid (And.intro hstep hhard)
      have CW := writeO_hid Q
      have HTW := Lib.hid hTw
      have zi : (i : Int) < (L.length : Int) := by omega
      clear HX h1 h3 h4 h5 har c5 hQ hw0 hstep hhard alr hxb h8 hlt
      go_wp2_with fail
      generalize wr.alloc (.cells #[.int .i64 tk, .string N, .string D, .slice at' ta.length ac', .bool tc] 40) = w2 at H5 e0 e1 e2 e3 e4 hTa ⊢
      generalize wr.heap.size = Xb at H5 e0 e1 e2 e3 e4 HTW ⊢
      (with_reducible refine (CP.out _ _ H5.out.2.2.2.1 H5.out.2.2.2.2).mono ?_)
      rintro e w3 ⟨rfl, b3⟩
      have H6 := Lib.hid (And.intro (H5.out.1.below b3) (And.intro (H5.out.2.1.trans (b3.mono hTa)) ((b3.block _ (lt_of_block H5.out.2.2.1)).trans H5.out.2.2.1)))
      have hT3 : Tb ≤ w3.heap.size := Nat.le_trans hTa b3.size
      clear b3 H5 e0 e1 e2 e3 e4 CP hTa
      go_wp2_with fail
      (with_reducible refine (CW.out _ Tb _ _ H6.out.1 hT3 (by omega)).mono ?_)
      rintro e w4 ⟨rfl, bo4, k4⟩
      have hx4 := k4.cells H6.out.2.2 (fun e => by
        rcases e with e | e
        · have hq := H6.out.1.1.choose_spec.choose_spec.blk
          have hz := H6.out.2.2
          rw [e, hq] at hz
          injection hz with hz
          injection hz with _ hz
          exact absurd hz (by decide)
        · exact absurd e.2 (by decide))
      have b4 := H6.out.2.1.trans (wrB_below k4 (Nat.le_refl _) hT3)
      have e0 := cell_of hx4 0
      have e1 := cell_of hx4 1
      have H7 := Lib.hid (And.intro bo4 (And.intro b4 HST.out.1))
      obtain ⟨cd, hcd⟩ : ∃ cd, (decide (N.data.toList = scriptN) || decide (N.data.toList = styleN)) = cd := ⟨_, rfl⟩
      have CI := isCode_hid N cd hcd
      have HH := Lib.hid HST.out.2
      rw [hcd] at HH
      clear bo4 b4 k4 hx4 H6 CW HST hT3 hcd
      by_cases hk : tk = 2
      · subst hk
        have HC : Hid (cd = hardM (some ⟨2, N.data.toList, D.data.toList, ta, tc⟩)) := Lib.hid (by rw [HH.out]; rfl)
        go_wp2_with fail
        (with_reducible refine (CI.out _).mono ?_)
        rintro e w5 ⟨rfl, rfl⟩
        go_wp2
        go_roundw
        case rel => exact ⟨i + 1, cd, by go_num, rfl, by omega, _, some ⟨2, N.data.toList, D.data.toList, ta, tc⟩, Lib.hid ⟨H7.out.1, H7.out.2.1, H7.out.2.2, HC.out⟩⟩
        case measure => simp [intOf]; omega
      · have gk : (tk == 2) = false := beq_eq_false_iff_ne.2 hk
        have HC : Hid (false = hardM (some ⟨tk, N.data.toList, D.data.toList, ta, tc⟩)) := Lib.hid (by rw [HH.out, decide_eq_false hk]; rfl)
        clear hk
        go_wp2
        go_roundw
        case rel => exact ⟨i + 1, false, by go_num, rfl, by omega, _, some ⟨tk, N.data.toList, D.data.toList, ta, tc⟩, Lib.hid ⟨H7.out.1, H7.out.2.1, H7.out.2.2, HC.out⟩⟩
        case measure => simp [intOf]; omega
    · obtain rfl : i = L.length := by omega
      rw [List.drop_length] at h4
      have h4' : H = printM L := by rw [← h4]; exact (List.append_nil H).symm
      have HE : Hid (Value.string ⟨H.toArray⟩ = .string P) := Lib.hid (by rw [← text_is (T := P) (by rw [HP.out, h4'])])
      have H5 := Lib.hid (And.intro h1 h3)
      clear HX h1 h3 h4 h4' h5
      go_wp2_with fail
      (with_reducible refine (stringO_hid.out _ Tb _ _ H5.out.1).mono ?_)
      rintro e w8 ⟨rfl, k8⟩
      have b8 := H5.out.2.trans (k8.below (fun _ _ e => e.1) hTw)
      clear k8 H5
      go_wp2
      go_ret
      exact ⟨congrArg Ending.returned HE.out, by rw [HTb.out]; exact b8⟩

end Go.Proofs.YtgbilfbonliipaaGreatDoor
