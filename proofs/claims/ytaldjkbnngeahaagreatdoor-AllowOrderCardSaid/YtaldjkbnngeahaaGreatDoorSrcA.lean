/- Is a source right, part by part: the program's isNonce, isScheme, isHost, isPath. -/
import Derived.Test.YtaldjkbnngeahaaGreatDoorWalkZ
import Derived.Test.YtaldjkbnngeahaaGreatDoorAny5
import Derived.Test.YtaldjkbnngeahaaGreatDoorBaseZ
import Derived.Test.YtaldjkbnngeahaaGreatDoorPureZ
namespace Go.Proofs.YtaldjkbnngeahaaGreatDoor
open Go.RowKit

set_option maxRecDepth 100000 in
set_option maxHeartbeats 1000000 in
theorem nonceP_any (s : ByteArray) (b : Bool) (hb : (decide (s.data.toList.length ≤ 200) && formM s.data.toList) = b) (hs : s.size ≤ 100000) (w : World) : Calls Tryz.prog 120 #[.string s] w fun e w' => e = .returned (.bool b) ∧ w' = w := by
  obtain ⟨f, hf⟩ : ∃ f, formM s.data.toList = f := ⟨_, rfl⟩
  have CF := form_hid s (by omega) f hf
  rw [hf, lsize] at hb
  by_cases h : s.size ≤ 200
  · have hz : (s.size : Int) ≤ 200 := by omega
    have HR : Hid (f = b) := Lib.hid (by rw [← hb, decide_eq_true h, Bool.true_and])
    clear h hb hf
    go_enter Tryz.func120, Tryz.ntmps120
    go_wp2_with (go_at_call 145; (with_reducible refine (CF.out _).mono ?_); rintro e w ⟨rfl, rfl⟩)
    go_ret
    exact ⟨ret_bool HR.out, rfl⟩
  · have hz : ¬ (s.size : Int) ≤ 200 := by omega
    have HR : Hid (false = b) := Lib.hid (by rw [← hb, decide_eq_false h, Bool.false_and])
    clear h hb hf
    go_enter Tryz.func120, Tryz.ntmps120
    go_wp2
    go_ret
    exact ⟨ret_bool HR.out, rfl⟩
theorem nonceP_hid (s : ByteArray) (b : Bool) (hb : (decide (s.data.toList.length ≤ 200) && formM s.data.toList) = b) (hs : s.size ≤ 100000) : Hid (∀ W, Calls Tryz.prog 120 #[.string s] W fun e w' => e = .returned (.bool b) ∧ w' = W) :=
  Lib.hid fun W => nonceP_any s b hb hs W

theorem right_opq {s : ByteArray} (h : dfl s.data.toList = 0) : rightM (uM true s ⟨#[]⟩ 0 ⟨#[]⟩ ⟨#[]⟩) = schM s.data.toList := by
  unfold rightM opaqueM uM textM within
  simp only [if_true, h]
  cases hs : schM s.data.toList
  · rfl
  · have hl : s.data.toList.length ≤ 20 := by
      cases hd : s.data.toList with
      | nil => simp
      | cons b l =>
        rw [hd, schM_cons] at hs
        simp only [Bool.and_eq_true, decide_eq_true_eq] at hs
        have := hs.1.1
        simp; omega
    rw [decide_eq_true (p := (s.data.toList ++ 58 :: ([] : List UInt8)).length ≤ 500) (by simp at hl ⊢; omega)]
    rfl
theorem right_hst (h : ByteArray) : rightM (uM false ⟨#[104, 116, 116, 112]⟩ h 0 ⟨#[47]⟩ ⟨#[]⟩) = hostM h.data.toList := by
  unfold rightM rankedM uM textM
  simp only [Bool.false_eq_true, if_false]
  rw [show decide (dfl (⟨#[104, 116, 116, 112]⟩ : ByteArray).data.toList ≠ 0) = true by decide, show decide ((0 : Int) ≠ ((dfl (⟨#[104, 116, 116, 112]⟩ : ByteArray).data.toList : Nat) : Int)) = true by decide, show pathM (⟨#[47]⟩ : ByteArray).data.toList = true by decide, show queryM (⟨#[]⟩ : ByteArray).data.toList = true by decide]
  cases hs : hostM h.data.toList
  · rfl
  · have hl : h.data.toList.length ≤ 100 := by
      unfold hostM at hs
      simp only [Bool.and_eq_true, decide_eq_true_eq] at hs
      exact hs.1
    simp [show portT 0 = [] from rfl] at hl ⊢
    omega

set_option maxRecDepth 100000 in
set_option maxHeartbeats 1000000 in
theorem schP_any (s : ByteArray) (hs : s.size ≤ 100000) (w : World) (hmx : MaxIn w) (ht : TabIn w) : Calls Tryz.prog 121 #[.string s] w fun e w' => e = .returned (.bool (schM s.data.toList)) ∧ Below w.heap.size w w' := by
  obtain ⟨d, hd⟩ : ∃ d, dfl s.data.toList = d := ⟨_, rfl⟩
  have CD := default_hid s d hd
  by_cases h0 : d = 0
  · subst h0
    have hr := right_opq hd
    cases hx : schM s.data.toList
    · rw [hx] at hr
      have CC := check_hid true s ⟨#[]⟩ 0 ⟨#[]⟩ ⟨#[]⟩ 50 (chk_wrong hr) hs (by decide) (by decide) (by decide)
      clear hr hd hx hs
      unfold uV at CC
      go_enter Tryz.func121, Tryz.ntmps121
      go_wp2_with (first | (go_at_call 99; (with_reducible refine (CD.out _).mono ?_); rintro e w ⟨rfl, rfl⟩) | (go_at_call 47; (with_reducible refine (CC.out _ hmx ht).mono ?_); rintro e w1 ⟨rfl, b1⟩))
      go_ret
      exact ⟨rfl, b1⟩
    · rw [hx] at hr
      have CC := check_hid true s ⟨#[]⟩ 0 ⟨#[]⟩ ⟨#[]⟩ 0 (chk_right hr) hs (by decide) (by decide) (by decide)
      clear hr hd hx hs
      unfold uV at CC
      go_enter Tryz.func121, Tryz.ntmps121
      go_wp2_with (first | (go_at_call 99; (with_reducible refine (CD.out _).mono ?_); rintro e w ⟨rfl, rfl⟩) | (go_at_call 47; (with_reducible refine (CC.out _ hmx ht).mono ?_); rintro e w1 ⟨rfl, b1⟩))
      go_ret
      exact ⟨rfl, b1⟩
  · have hx : schM s.data.toList = true := dfl_sch (by omega)
    have g1 : ((d : Int) != 0) = true := by rw [bne_iff_ne]; omega
    rw [hx]
    clear hx hd h0 hs
    go_enter Tryz.func121, Tryz.ntmps121
    go_wp2_with (go_at_call 99; (with_reducible refine (CD.out _).mono ?_); rintro e w ⟨rfl, rfl⟩)
    go_ret
    exact ⟨rfl, Below.refl _ _⟩
theorem schP_hid (s : ByteArray) (b : Bool) (hb : schM s.data.toList = b) (hs : s.size ≤ 100000) : Hid (∀ W, MaxIn W → TabIn W → Calls Tryz.prog 121 #[.string s] W fun e w' => e = .returned (.bool b) ∧ Below W.heap.size W w') :=
  Lib.hid fun W hm ht => by rw [← hb]; exact schP_any s hs W hm ht

set_option maxRecDepth 100000 in
set_option maxHeartbeats 1000000 in
theorem hostP_any (s : ByteArray) (hs : s.size ≤ 100000) (w : World) (hmx : MaxIn w) (ht : TabIn w) : Calls Tryz.prog 146 #[.string s] w fun e w' => e = .returned (.bool (hostM s.data.toList)) ∧ Below w.heap.size w w' := by
  have hr := right_hst s
  cases hx : hostM s.data.toList
  · rw [hx] at hr
    have CC := check_hid false ⟨#[104, 116, 116, 112]⟩ s 0 ⟨#[47]⟩ ⟨#[]⟩ 50 (chk_wrong hr) (by decide) hs (by decide) (by decide)
    clear hr hx hs
    unfold uV at CC
    go_enter Tryz.func146, Tryz.ntmps146
    go_wp2_with (go_at_call 47; (with_reducible refine (CC.out _ hmx ht).mono ?_); rintro e w1 ⟨rfl, b1⟩)
    go_ret
    exact ⟨rfl, b1⟩
  · rw [hx] at hr
    have CC := check_hid false ⟨#[104, 116, 116, 112]⟩ s 0 ⟨#[47]⟩ ⟨#[]⟩ 0 (chk_right hr) (by decide) hs (by decide) (by decide)
    clear hr hx hs
    unfold uV at CC
    go_enter Tryz.func146, Tryz.ntmps146
    go_wp2_with (go_at_call 47; (with_reducible refine (CC.out _ hmx ht).mono ?_); rintro e w1 ⟨rfl, b1⟩)
    go_ret
    exact ⟨rfl, b1⟩
theorem hostP_hid (s : ByteArray) (b : Bool) (hb : hostM s.data.toList = b) (hs : s.size ≤ 100000) : Hid (∀ W, MaxIn W → TabIn W → Calls Tryz.prog 146 #[.string s] W fun e w' => e = .returned (.bool b) ∧ Below W.heap.size W w') :=
  Lib.hid fun W hm ht => by rw [← hb]; exact hostP_any s hs W hm ht

theorem inS_parts (l : List UInt8) : l.all inS = (!l.any [63, 35, 44, 59, 58].contains && l.all (fun b => decide (33 ≤ b.toNat ∧ b.toNat ≤ 126))) := by
  induction l with
  | nil => rfl
  | cons b l ih =>
    rw [List.all_cons, List.all_cons, List.any_cons, ih]
    unfold inS inB
    generalize [63, 35, 44, 59, 58].contains b = x
    generalize decide (33 ≤ b.toNat ∧ b.toNat ≤ 126) = y
    generalize List.any l _ = z
    generalize List.all l _ = u
    cases x <;> cases y <;> cases z <;> cases u <;> rfl

set_option maxRecDepth 100000 in
set_option maxHeartbeats 2000000 in
theorem spathP_any (s : ByteArray) (hs : s.size ≤ 100000) (w : World) : Calls Tryz.prog 147 #[.string s] w fun e w' => e = .returned (.bool (spathM s.data.toList)) ∧ Below w.heap.size w w' := by
  by_cases h0 : s.data.toList = []
  · obtain rfl : s = ⟨#[]⟩ := text_is h0
    go_enter Tryz.func147, Tryz.ntmps147
    go_wp2
    go_ret
    exact ⟨rfl, Below.refl _ _⟩
  have g0 : s.toList.isEmpty = false := by rw [text_empty]; simpa using h0
  by_cases hl : (200 : Int) < (s.size : Int)
  · have HR : Hid (false = spathM s.data.toList) := Lib.hid (by unfold spathM; rw [decide_eq_false (by rw [lsize]; omega)]; rfl)
    clear h0
    go_enter Tryz.func147, Tryz.ntmps147
    go_wp2
    go_ret
    exact ⟨ret_bool HR.out, Below.refl _ _⟩
  have hl2 : s.data.toList.length ≤ 200 := by rw [lsize]; omega
  have hM : spathM s.data.toList = ((s.data.toList.head? == some 47) && s.data.toList.all inS) := by
    unfold spathM
    rw [decide_eq_true hl2, ← text_empty, g0]
    rfl
  have hpre : Lib.hasPrefix s.data.toList [47] = (s.data.toList.head? == some 47) := by
    cases hd : s.data.toList with
    | nil => exact absurd hd h0
    | cons b l =>
      have hbb : ∀ b : UInt8, (47 == b) = (b == 47) := byte_all (by decide +kernel)
      simp [Lib.hasPrefix, List.isPrefixOf, hbb]
  rw [inS_parts] at hM
  cases hc : s.data.toList.any [63, 35, 44, 59, 58].contains
  case true =>
    have CC := contains_hid s true (by omega) hc
    have HR : Hid (false = spathM s.data.toList) := Lib.hid (by rw [hM, hc]; simp)
    clear h0 hl2 hM hpre hc
    go_enter Tryz.func147, Tryz.ntmps147
    go_wp2_with (go_at_call 167; (with_reducible refine (CC.out _).mono ?_); rintro e w1 ⟨rfl, b1⟩)
    go_ret
    exact ⟨ret_bool HR.out, b1⟩
  rw [hc] at hM
  simp only [Bool.not_false, Bool.true_and] at hM
  have CC := contains_hid s false (by omega) hc
  obtain ⟨hp, hhp⟩ : ∃ hp, (s.data.toList.head? == some (47 : UInt8)) = hp := ⟨_, rfl⟩
  rw [hhp] at hpre hM
  have CP : Hid (∀ W, Calls Tryz.prog 110 #[.string s, .string ⟨#[47]⟩] W fun e w' => e = .returned (.bool hp) ∧ w' = W) := Lib.hid fun W => by
    rw [← hpre]; exact Tryz.strings_HasPrefix s ⟨#[47]⟩ W
  have HP := Lib.hid hM
  clear h0 hl2 hM hpre hc hhp
  go_enter Tryz.func147, Tryz.ntmps147
  go_wp2_with (go_at_call 167; (with_reducible refine (CC.out _).mono ?_); rintro e w1 ⟨rfl, b1⟩)
  have HB1 := Lib.hid b1
  clear b1
  go_loop [15] (fun i => ∃ k : Nat, k ≤ s.size ∧ i = .int .i64 k ∧ Hid ((s.data.toList.take k).all (fun b => decide (33 ≤ b.toNat ∧ b.toNat ≤ 126)) = true)) (fun i => s.size - (intOf i).toNat)
  case atStart => exact ⟨0, by omega, rfl, Lib.hid rfl⟩
  case round =>
    obtain ⟨k, hk, rfl, HS⟩ := hrel
    by_cases hlt : k < s.size
    · have hst := all_step (fun b => decide (33 ≤ b.toNat ∧ b.toNat ≤ 126)) hlt HS.out
      by_cases h1 : (s[k].toNat : Int) < 33
      · have HR : Hid (false = spathM s.data.toList) := Lib.hid (by rw [HP.out, hst.2 (decide_eq_false (by omega))]; simp)
        clear hst
        go_wp2
        go_ret
        exact ⟨ret_bool HR.out, HB1.out⟩
      by_cases h2 : 126 < (s[k].toNat : Int)
      · have HR : Hid (false = spathM s.data.toList) := Lib.hid (by rw [HP.out, hst.2 (decide_eq_false (by omega))]; simp)
        clear hst
        go_wp2
        go_ret
        exact ⟨ret_bool HR.out, HB1.out⟩
      have HS2 := Lib.hid (hst.1 (decide_eq_true (by omega)))
      clear hst
      go_wp2
      go_round
      case rel => exact ⟨k + 1, by omega, by go_num, HS2⟩
      case measure => simp [intOf]; omega
    · obtain rfl : k = s.size := by omega
      have HR : Hid (hp = spathM s.data.toList) := Lib.hid (by
        rw [HP.out]
        have := HS.out
        rw [take_all] at this
        rw [this, Bool.and_true])
      go_wp2_with (go_at_call 110; (with_reducible refine (CP.out _).mono ?_); rintro e w1 ⟨rfl, rfl⟩)
      go_ret
      exact ⟨ret_bool HR.out, HB1.out⟩
theorem spathP_hid (s : ByteArray) (b : Bool) (hb : spathM s.data.toList = b) (hs : s.size ≤ 100000) : Hid (∀ W, Calls Tryz.prog 147 #[.string s] W fun e w' => e = .returned (.bool b) ∧ Below W.heap.size W w') :=
  Lib.hid fun W => by rw [← hb]; exact spathP_any s hs W

end Go.Proofs.YtaldjkbnngeahaaGreatDoor
