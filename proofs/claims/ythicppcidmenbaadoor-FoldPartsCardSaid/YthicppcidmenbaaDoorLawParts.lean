/- The walk: a text has one part more than it has the byte, and parts joined by it have the same parts; for every text and byte. -/
import Derived.Test.YthicppcidmenbaaDoorLawTexts
namespace Go.Proofs.YthicppcidmenbaaDoor
open Go.RowKit

theorem joined_snoc (c : UInt8) (ws : List (List UInt8)) (x : List UInt8) (h : ws ≠ []) : joined c (ws ++ [x]) = joined c ws ++ c :: x := by
  induction ws with
  | nil => exact absurd rfl h
  | cons w ws ih =>
    cases ws with
    | nil => rfl
    | cons v ws =>
      show w ++ c :: joined c (v :: ws ++ [x]) = (w ++ c :: joined c (v :: ws)) ++ c :: x
      rw [ih (by simp)]
      simp
theorem sum_take_le (L : List (List UInt8)) (k : Nat) : ((L.take k).map List.length).sum ≤ (L.map List.length).sum := by
  induction L generalizing k with
  | nil => simp
  | cons a L ih =>
    cases k with
    | zero => simp
    | succ k => have := ih k; simp only [List.take_succ_cons, List.map_cons, List.sum_cons]; omega
theorem joined_take_len (c : UInt8) (l : List UInt8) (d : UInt8) (k : Nat) : (joined c ((parts l d).take k)).length ≤ 2 * l.length + 1 := by
  have h1 := joined_length c ((parts l d).take k)
  have h2 := sum_take_le (parts l d) k
  have h3 := parts_total l d
  have h4 : ((parts l d).take k).length ≤ (parts l d).length := by rw [List.length_take]; omega
  omega
theorem add_to (S T R : ByteArray) (h : R.data.toList = S.data.toList ++ T.data.toList) (hl : S.size + T.size ≤ 9223372036854775807) : ∀ W, (Op.stringOp .add S T).run Tryd.prog W = .ok (.string R) W := fun W => by
  rw [run_string_add_sum (P := Tryd.prog) W S T hl]
  congr 2
  apply ByteArray.ext
  apply Array.toList_inj.1
  rw [h]
  simp

set_option maxRecDepth 100000 in
set_option maxHeartbeats 4000000 in
theorem parts_law (s : ByteArray) (c : UInt8) (w : World) (hm : MaxIn w) :
    Calls Tryd.prog 6 #[.string s, .int .u8 (c.toNat : Int)] w fun e w' => e = .returned (.bool true) ∧ Below w.heap.size w w' := by
  by_cases hs : 5000 < s.size
  · have hz : (5000 : Int) < (s.size : Int) := by omega
    clear hs hm
    go_enter Tryd.func6, Tryd.ntmps6
    go_wp2
    go_ret
    exact ⟨rfl, Below.refl _ _⟩
  have hz : ¬ (5000 : Int) < (s.size : Int) := by omega
  have hs' : s.size ≤ 5000 := by omega
  obtain ⟨Q, hQ⟩ : ∃ Q, parts s.data.toList c = Q := ⟨_, rfl⟩
  have C1 := parts_to s c Q hQ (by omega)
  have hQn : Q.length = s.data.toList.count c + 1 := by rw [← hQ, parts_length]
  have hQl := (parts_total s.data.toList c).2
  rw [hQ, lsize] at hQl
  have HJ : Hid (∀ k, (joined c (Q.take k)).length ≤ 10001) := Lib.hid fun k => by
    have := joined_take_len c s.data.toList c k
    rw [hQ, lsize] at this; omega
  have HX : Hid (∀ x ∈ Q, x.length ≤ 5000) := Lib.hid fun x hx => by
    have h1 := mem_len Q x hx
    have h2 := (parts_total s.data.toList c).1
    rw [hQ, lsize] at h2; omega
  obtain ⟨J, hJ⟩ : ∃ J : ByteArray, J.data.toList = joined c Q := ⟨⟨(joined c Q).toArray⟩, rfl⟩
  have hJs : J.size ≤ 10001 := by
    have := HJ.out Q.length
    rw [List.take_length, ← hJ, lsize] at this; exact this
  have C2 := parts_to J c Q (by rw [hJ, ← hQ, parts_joined]) (by omega)
  have HQ := Lib.hid hQn
  have HJJ := Lib.hid hJ
  have HLL := Lib.hid (lsize s)
  clear hQ hQn hJ hs
  go_enter Tryd.func6, Tryd.ntmps6
  go_wp2_with fail
  refine (C1.out _ hm).mono ?_
  rintro e w1 ⟨a1, k1, rfl, t1, B1⟩
  rcases t1 with ⟨_, hnil⟩ | ⟨B, off, cap, hsl, hcells⟩
  · exfalso; have := HQ.out; rw [hnil] at this; simp at this
  obtain ⟨rfl, rfl⟩ : a1 = some ⟨B, off, none⟩ ∧ k1 = cap := by simpa using hsl
  clear hsl
  have hm1 := hm.below B1
  have HC : Hid (∀ j (h : j < Q.length), w1.cell? ⟨B, off + j, none⟩ = some (strV Q[j])) := Lib.hid hcells
  clear hcells
  go_wp2
  go_loop [6, 7] (fun n i => ∃ k m : Nat, n = .int .i64 m ∧ i = .int .i64 k ∧ k ≤ s.size ∧ m ≤ k + 1 ∧ Hid (m = (s.data.toList.take k).count c + 1)) (fun _ i => s.size - (intOf i).toNat)
  case atStart => exact ⟨0, 1, rfl, rfl, Nat.zero_le _, Nat.le_refl _, Lib.hid (by simp)⟩
  case round =>
    obtain ⟨k, m, rfl, rfl, hk, hmk, HM⟩ := hrel
    by_cases hlt : k < s.size
    · obtain ⟨b, hb1, _, rfl⟩ := at_some hlt
      have hq := int_beq s[k] c
      have ht : s.data.toList.take (k + 1) = s.data.toList.take k ++ [s[k]] := by rw [List.take_add_one, hb1]; rfl
      cases hbl : (s[k] == c)
      · rw [hbl] at hq
        have HN : Hid (m = (s.data.toList.take (k + 1)).count c + 1) := Lib.hid (by
          rw [ht, List.count_append, List.count_singleton, hbl, HM.out]; simp)
        clear hbl hb1 ht HM
        go_wp2
        go_round
        case rel => exact ⟨k + 1, m, rfl, by go_num, by omega, by omega, HN⟩
        case measure => simp [intOf]; omega
      · rw [hbl] at hq
        have HN : Hid (m + 1 = (s.data.toList.take (k + 1)).count c + 1) := Lib.hid (by
          rw [ht, List.count_append, List.count_singleton, hbl, HM.out]; simp)
        clear hbl hb1 ht HM
        go_wp2
        go_round
        case rel => exact ⟨k + 1, m + 1, by go_num, by go_num, by omega, by omega, HN⟩
        case measure => simp [intOf]; omega
    · obtain rfl : k = s.size := by omega
      have hmq : Hid (m = Q.length) := Lib.hid (by
        rw [HM.out, HQ.out, List.take_of_length_le (by rw [HLL.out]; exact Nat.le_refl _)])
      clear HM
      go_wp2
      go_loopw [8, 9] (fun t i wr => ∃ (k : Nat) (S : ByteArray), t = .string S ∧ i = .int .i64 k ∧ k ≤ Q.length ∧ Hid (S.data.toList = joined c (Q.take k)) ∧ Below w1.heap.size w1 wr) (fun _ i _ => Q.length - (intOf i).toNat)
      case atStart => exact ⟨0, ⟨#[]⟩, rfl, rfl, Nat.zero_le _, Lib.hid rfl, Below.refl _ _⟩
      case round =>
        obtain ⟨k, S, rfl, rfl, hk, HS, hbw⟩ := hrel
        have hSl : S.size ≤ 10001 := by have := HJ.out k; rw [← HS.out, lsize] at this; exact this
        by_cases hlt : k < Q.length
        · have hcell : wr.cell? ⟨B, off + k, none⟩ = some (strV Q[k]) := by
            have := HC.out k hlt
            rw [hbw.cell (lt_of_cell this)]; exact this
          obtain ⟨X, hX⟩ : ∃ X : ByteArray, X.data.toList = Q[k] := ⟨⟨Q[k].toArray⟩, rfl⟩
          have hXl : X.size ≤ 5000 := by have := HX.out Q[k] (List.getElem_mem hlt); rw [← hX, lsize] at this; exact this
          have hcX : wr.cell? ⟨B, off + k, none⟩ = some (.string X) := by rw [hcell, ← hX]; rfl
          have htk : Q.take (k + 1) = Q.take k ++ [Q[k]] := List.take_succ_eq_append_getElem hlt
          clear hcell
          by_cases hk0 : k = 0
          · subst hk0
            obtain ⟨R, hR⟩ : ∃ R : ByteArray, R.data.toList = S.data.toList ++ X.data.toList := ⟨⟨(S.data.toList ++ X.data.toList).toArray⟩, rfl⟩
            have HR : Hid (R.data.toList = joined c (Q.take (0 + 1))) := Lib.hid (by
              rw [hR, HS.out, htk, hX]; rfl)
            have hadd := add_to S X R hR (by omega)
            simp only [Nat.add_zero] at hcX
            clear hX htk hR HS
            go_wp2
            go_roundw
            case rel => exact ⟨1, R, rfl, by go_num, by omega, HR, hbw⟩
            case measure => simp [intOf]; omega
          · obtain ⟨S1, hS1⟩ : ∃ S1 : ByteArray, S1.data.toList = S.data.toList ++ (⟨#[c]⟩ : ByteArray).data.toList := ⟨⟨(S.data.toList ++ [c]).toArray⟩, rfl⟩
            obtain ⟨R, hR⟩ : ∃ R : ByteArray, R.data.toList = S1.data.toList ++ X.data.toList := ⟨⟨(S1.data.toList ++ X.data.toList).toArray⟩, rfl⟩
            have HR : Hid (R.data.toList = joined c (Q.take (k + 1))) := Lib.hid (by
              rw [hR, hS1, HS.out, htk, joined_snoc _ _ _ (by intro h; have := congrArg List.length h; rw [List.length_take] at this; simp only [List.length_nil] at this; omega), hX]; simp)
            have hS1l : S1.size = S.size + 1 := by rw [← lsize, hS1, List.length_append, lsize]; rfl
            have hone : (⟨#[c]⟩ : ByteArray).size = 1 := rfl
            have hadd1 := add_to S ⟨#[c]⟩ S1 hS1 (by rw [hone]; omega)
            have hadd2 := add_to S1 X R hR (by omega)
            have hconv := conv_new wr [(c.toNat : Int)] [c] 1 rfl rfl 1 #[.int .u8 (c.toNat : Int)] rfl
            have hkp : 0 < (k : Int) := by omega
            have hcX2 : (wr.alloc (.cells #[.int .u8 (c.toNat : Int)] 5)).cell? ⟨B, off + k, none⟩ = some (.string X) := by rw [World.cell?_alloc_lt _ _ _ (lt_of_cell hcX)]; exact hcX
            have hbw2 := hbw.alloc hbw.size (.cells #[.int .u8 (c.toNat : Int)] 5)
            clear hX htk hR HS hS1 hS1l hone hk0
            go_wp2
            go_roundw
            case rel => exact ⟨k + 1, R, rfl, by go_num, by omega, HR, hbw2⟩
            case measure => simp [intOf]; omega
        · obtain rfl : k = Q.length := by omega
          obtain rfl : S = J := by
            apply ByteArray.ext
            apply Array.toList_inj.1
            rw [HS.out, HJJ.out, List.take_length]
          have B2 : Below w.heap.size w wr := B1.trans (hbw.mono B1.size)
          have t2 : TextsIn wr (.slice (some ⟨B, off, none⟩) Q.length k1) Q := .inr ⟨B, off, k1, rfl, fun j hj => by
            have := HC.out j hj
            rw [hbw.cell (lt_of_cell this)]; exact this⟩
          have hmeq : ((Q.length : Int) == (m : Int)) = true := by rw [hmq.out]; simp
          have hQ64 : Q.length ≤ 9223372036854775807 := by omega
          have hm2 := hm.below B2
          clear hbw HS HJJ HC hm1
          go_wp2_with fail
          refine (folds_any _ hm2).mono ?_
          rintro e w3 ⟨rfl, b3⟩
          have B3 := B2.trans (b3.mono B2.size)
          have t3 := t2.below b3
          clear b3 B2 t2 hm2
          go_wp2_with fail
          refine (C2.out _ (hm.below B3)).mono ?_
          rintro e w4 ⟨a4, k4, rfl, t4, b4⟩
          have B4 := B3.trans (b4.mono B3.size)
          have t3' := t3.below b4
          clear b4 B3 t3
          go_wp2_with fail
          refine (texts_bool _ _ true (eqT_self _) _ _ _ t4 t3' hQ64 hQ64).mono ?_
          rintro e w5 ⟨rfl, b5⟩
          have B5 := B4.trans (b5.mono B4.size)
          go_wp2
          go_ret
          exact ⟨rfl, B5⟩

end Go.Proofs.YthicppcidmenbaaDoor
