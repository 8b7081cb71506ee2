/- The walk: words joined by blanks have the same words, and no word is empty, or has a blank; for every text and byte. -/
import Derived.Test.YthicppcidmenbaaDoorLawParts
import Derived.RegionTactic
import Derived.BigRegion
namespace Go.Proofs.YthicppcidmenbaaDoor
open Go.RowKit

theorem spread_snoc (c : UInt8) (ws : List (List UInt8)) (x : List UInt8) : spread c (ws ++ [x]) = spread c ws ++ x ++ [c, c] := by
  simp [spread]
theorem spread_len (c : UInt8) (ws : List (List UInt8)) : (spread c ws).length = (ws.map List.length).sum + 2 * ws.length + 1 := by
  unfold spread
  induction ws with
  | nil => rfl
  | cons w ws ih => simp only [List.length_cons, List.flatMap_cons, List.length_append, List.map_cons, List.sum_cons, List.length_nil] at ih ⊢; omega

set_option maxRecDepth 100000 in
set_option maxHeartbeats 4000000 in
theorem words_law (s : ByteArray) (c : UInt8) (w : World) (hm : MaxIn w) :
    Calls Tryd.prog 5 #[.string s, .int .u8 (c.toNat : Int)] w fun e w' => e = .returned (.bool true) ∧ Below w.heap.size w w' := by
  by_cases hs : 5000 < s.size
  · have hz : (5000 : Int) < (s.size : Int) := by omega
    clear hs
    go_enter Tryd.func5, Tryd.ntmps5
    go_wp2_with (go_at_call 13; refine (folds_any _ hm).mono ?_; rintro e w1 ⟨rfl, B1⟩)
    go_ret
    exact ⟨rfl, B1⟩
  have hz : ¬ (5000 : Int) < (s.size : Int) := by omega
  have hs' : s.size ≤ 5000 := by omega
  clear hs
  cases hbc : blk c
  · have C0 := blank_to c false hbc
    clear hbc
    go_enter Tryd.func5, Tryd.ntmps5
    go_wp2_with fail
    refine (C0.out _).mono ?_
    rintro e w0 ⟨rfl, rfl⟩
    go_wp2_with (go_at_call 13; refine (folds_any _ hm).mono ?_; rintro e w1 ⟨rfl, B1⟩)
    go_ret
    exact ⟨rfl, B1⟩
  have C0 := blank_to c true hbc
  obtain ⟨Q, hQ⟩ : ∃ Q, words s.data.toList = Q := ⟨_, rfl⟩
  have C1 := words_to s Q hQ (by omega)
  have hQl := words_total s.data.toList
  rw [hQ, lsize] at hQl
  have HX : Hid (∀ x ∈ Q, x.length ≤ 5000 ∧ 0 < x.length ∧ ∀ b ∈ x, blk b = false) := Lib.hid fun x hx => by
    have h1 := mem_len Q x hx
    have h2 := words_mem s.data.toList x (by rw [hQ]; exact hx)
    exact ⟨by omega, List.length_pos_iff.2 h2.1, h2.2⟩
  have HJ : Hid (∀ k, (spread c (Q.take k)).length ≤ 15001) := Lib.hid fun k => by
    have h1 := spread_len c (Q.take k)
    have h2 := sum_take_le Q k
    have h4 : (Q.take k).length ≤ Q.length := by rw [List.length_take]; omega
    omega
  obtain ⟨J, hJ⟩ : ∃ J : ByteArray, J.data.toList = spread c Q := ⟨⟨(spread c Q).toArray⟩, rfl⟩
  have hJs : J.size ≤ 15001 := by
    have := HJ.out Q.length
    rw [List.take_length, ← hJ, lsize] at this; exact this
  have C2 := words_to J Q (by rw [hJ]; exact spread_words c hbc Q (fun x hx => ⟨List.length_pos_iff.1 (HX.out x hx).2.1, (HX.out x hx).2.2⟩)) (by omega)
  have HJJ := Lib.hid hJ
  have hQ64 : Q.length ≤ 9223372036854775807 := by omega
  have hQ5 : Q.length ≤ 5000 := by omega
  clear hQ hQl hJ hbc
  go_enter Tryd.func5, Tryd.ntmps5
  go_wp2_with fail
  refine (C0.out _).mono ?_
  rintro e w0 ⟨rfl, rfl⟩
  go_wp2_with fail
  refine (C1.out _).mono ?_
  rintro e w1 ⟨a1, k1, rfl, t1, B1⟩
  have T1 := Lib.hid t1
  clear t1
  have hconv := conv_new w1 [(c.toNat : Int)] [c] 1 rfl rfl 1 #[.int .u8 (c.toNat : Int)] rfl
  have b1 := (Below.refl w1.heap.size w1).alloc (Nat.le_refl _) (.cells #[.int .u8 (c.toNat : Int)] 5)
  go_wp2
  go_loopw [6, 7, 8] (fun t i _ wr => ∃ (k : Nat) (S : ByteArray), t = .string S ∧ i = .int .i64 k ∧ k ≤ Q.length ∧ Hid (S.data.toList = spread c (Q.take k)) ∧ Below w1.heap.size w1 wr) (fun _ i _ _ => Q.length - (intOf i).toNat)
  case atStart => exact ⟨0, ⟨#[c]⟩, rfl, rfl, Nat.zero_le _, Lib.hid rfl, b1⟩
  case round =>
    obtain ⟨k, S, rfl, rfl, hk, HS, hbw⟩ := hrel
    clear hconv b1
    have hSl : S.size ≤ 15001 := by have := HJ.out k; rw [← HS.out, lsize] at this; exact this
    by_cases hlt : k < Q.length
    · rcases T1.out with ⟨_, hnil⟩ | ⟨B, off, cap, hsl, hcells⟩
      · exfalso; rw [hnil] at hlt; simp at hlt
      obtain ⟨rfl, rfl⟩ : a1 = some ⟨B, off, none⟩ ∧ k1 = cap := by simpa using hsl
      have hcell := hcells k hlt
      have hx := HX.out Q[k] (List.getElem_mem hlt)
      obtain ⟨X, hX⟩ : ∃ X : ByteArray, X.data.toList = Q[k] := ⟨⟨Q[k].toArray⟩, rfl⟩
      have htk : Q.take (k + 1) = Q.take k ++ [Q[k]] := List.take_succ_eq_append_getElem hlt
      rw [← hX, lsize] at hx
      have hcX : wr.cell? ⟨B, off + k, none⟩ = some (.string X) := by
        rw [hbw.cell (lt_of_cell hcell), hcell, ← hX]; rfl
      obtain ⟨hx1, hx2, hx3⟩ := hx
      have HX3 := Lib.hid hx3
      obtain ⟨S1, hS1⟩ : ∃ S1 : ByteArray, S1.data.toList = S.data.toList ++ X.data.toList := ⟨⟨(S.data.toList ++ X.data.toList).toArray⟩, rfl⟩
      obtain ⟨R, hR⟩ : ∃ R : ByteArray, R.data.toList = S1.data.toList ++ (⟨#[c, c]⟩ : ByteArray).data.toList := ⟨⟨(S1.data.toList ++ [c, c]).toArray⟩, rfl⟩
      have HR : Hid (R.data.toList = spread c (Q.take (k + 1))) := Lib.hid (by
        rw [hR, hS1, HS.out, htk, spread_snoc, hX])
      have hS1l : S1.size = S.size + X.size := by rw [← lsize, hS1, List.length_append, lsize, lsize]
      have htwo : (⟨#[c, c]⟩ : ByteArray).size = 2 := rfl
      have hadd1 := add_to S X S1 hS1 (by omega)
      have hadd2 := add_to S1 ⟨#[c, c]⟩ R hR (by rw [htwo]; omega)
      have q4 : X.toList.isEmpty = false := by
        rw [ByteArray.toList_eq]
        cases hh : X.data.toList with
        | nil => have := lsize X; rw [hh] at this; simp at this; omega
        | cons a t => rfl
      have q5 : (X.toList == []) = false := by
        revert q4; cases X.toList <;> simp
      clear hx3 hcells hsl hcell hX htk hS1 hR hS1l htwo HS
      go_wp2
      go_loop [8] (fun i => ∃ j : Nat, i = .int .i64 j ∧ j ≤ X.size) (fun i => X.size - (intOf i).toNat)
      case atStart => exact ⟨0, rfl, Nat.zero_le _⟩
      case round =>
        obtain ⟨j, rfl, hj⟩ := hrel
        by_cases hjl : j < X.size
        · have hjb : blk X[j] = false := by
            obtain ⟨b, h1, _, rfl⟩ := at_some hjl
            exact HX3.out _ (List.mem_of_getElem? h1)
          have CJ := blank_to X[j] false hjb
          clear hjb
          go_wp2_with fail
          refine (CJ.out _).mono ?_
          rintro e w5 ⟨rfl, rfl⟩
          go_wp2
          go_round
          case rel => exact ⟨j + 1, by go_num, by omega⟩
          case measure => simp [intOf]; omega
        · obtain rfl : j = X.size := by omega
          have hcv : (convert 32 9 (.slice (some ⟨wr.heap.size, 0, none⟩) 2 2)).run Tryd.prog (wr.alloc (.cells #[.int .u8 (c.toNat : Int), .int .u8 (c.toNat : Int)] 5)).drew = .ok (.string ⟨#[c, c]⟩) (wr.alloc (.cells #[.int .u8 (c.toNat : Int), .int .u8 (c.toNat : Int)] 5)).drew := conv_new wr.drew [(c.toNat : Int), (c.toNat : Int)] [c, c] 2 rfl rfl 2 #[.int .u8 (c.toNat : Int), .int .u8 (c.toNat : Int)] rfl
          have hcX2 : (wr.alloc (.cells #[.int .u8 (c.toNat : Int), .int .u8 (c.toNat : Int)] 5)).cell? ⟨B, off + k, none⟩ = some (.string X) := by rw [World.cell?_alloc_lt _ _ _ (lt_of_cell hcX)]; exact hcX
          have hbw2 : Below w1.heap.size w1 (wr.alloc (.cells #[.int .u8 (c.toNat : Int), .int .u8 (c.toNat : Int)] 5)).drew := (hbw.alloc hbw.size _).drew
          go_wp2
          go_region
          go_wp2
          go_roundw
          case rel => exact ⟨k + 1, R, rfl, by go_num, by omega, HR, hbw2⟩
          case measure => simp [intOf]; omega
    · obtain rfl : k = Q.length := by omega
      obtain rfl : S = J := by
        apply ByteArray.ext
        apply Array.toList_inj.1
        rw [HS.out, HJJ.out, List.take_length]
      have B2 : Below w.heap.size w wr := B1.trans (hbw.mono B1.size)
      have t2 := T1.out.below hbw
      have hm2 := hm.below B2
      clear hbw HS HJJ T1
      go_wp2_with fail
      refine (folds_any _ hm2).mono ?_
      rintro e w3 ⟨rfl, b3⟩
      have B3 := B2.trans (b3.mono B2.size)
      have t3 := t2.below b3
      clear b3 B2 t2 hm2
      go_wp2_with fail
      refine (C2.out _).mono ?_
      rintro e w4 ⟨a4, k4, rfl, t4, b4⟩
      have B4 := B3.trans (b4.mono B3.size)
      have t3' := t3.below b4
      clear b4 B3 t3
      go_wp2_with fail
      refine (texts_bool _ _ true (eqT_self _) _ _ _ t4 t3' hQ64 hQ64).mono ?_
      rintro e w5 ⟨rfl, b5⟩
      have B5 := B4.trans (b5.mono B4.size)
      go_wp2
      go_ret
      exact ⟨rfl, B5⟩

end Go.Proofs.YthicppcidmenbaaDoor
