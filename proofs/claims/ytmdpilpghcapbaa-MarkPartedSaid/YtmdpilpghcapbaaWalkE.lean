/- Are two rows of texts the same; the document's rows. -/
import Derived.Test.YtmdpilpghcapbaaWalkD
namespace Go.Proofs.Ytmdpilpghcapbaa
open Go.RowKit

theorem text_eq (s t : ByteArray) : (s.toList == t.toList) = decide (s.data.toList = t.data.toList) := by
  rw [ByteArray.toList_eq, ByteArray.toList_eq, Bool.eq_iff_iff]
  simp
def eqT (p q : List (List UInt8)) : Bool := decide (p = q)
theorem str_eq (a b : List UInt8) : ((⟨a.toArray⟩ : ByteArray).toList == (⟨b.toArray⟩ : ByteArray).toList) = decide (a = b) := text_eq _ _

set_option maxRecDepth 100000 in
set_option maxHeartbeats 1000000 in
/-- Texts: are two rows the same? -/
theorem texts_any (p q : List (List UInt8)) (u v : Value) (w : World) (hp : TextsIn w u p) (hq : TextsIn w v q) (hl : p.length ≤ 9223372036854775807) (hl2 : q.length ≤ 9223372036854775807) :
    Calls Try.prog 15 #[u, v] w fun e w' => e = .returned (.bool (eqT p q)) ∧ ∃ n, w' = w.drewN n := by
  have hu := hp.form
  have hv := hq.form
  by_cases hne : p.length = q.length
  · by_cases h0 : p.length = 0
    · obtain ⟨a, c, rfl⟩ := hu
      obtain ⟨a2, c2, rfl⟩ := hv
      have e1 : p = [] := List.length_eq_zero_iff.1 h0
      have e2 : q = [] := List.length_eq_zero_iff.1 (by omega)
      subst e1 e2
      clear hp hq hl hl2 hne h0
      go_enter Try.func15, Try.ntmps15
      go_wp2
      refine wp_loop_rounds 1 ?_
      rw [rounds_succ]
      go_wp2
      go_ret
      exact ⟨rfl, 0, rfl⟩
    · rcases hp with ⟨_, rfl⟩ | ⟨B, off, cap, rfl, hc⟩
      · exact absurd rfl h0
      rcases hq with ⟨_, rfl⟩ | ⟨B2, off2, cap2, rfl, hc2⟩
      · exact absurd hne h0
      clear hu hv
      have g2 : ((p.length : Int) != (q.length : Int)) = false := by simp [hne]
      have HN := Lib.hid hne
      have h0' : 0 < p.length := by omega
      clear hne h0
      go_enter Try.func15, Try.ntmps15
      go_wp2
      go_loopw [5] (fun i wr => ∃ k n : Nat, i = .int .i64 k ∧ k ≤ p.length ∧ wr = w.drewN n ∧ Hid (p.take k = q.take k)) (fun i _ => p.length - (intOf i).toNat)
      case atStart => exact ⟨0, 0, rfl, Nat.zero_le _, rfl, rfl⟩
      case round =>
        obtain ⟨k, n, rfl, hk, rfl, HS⟩ := hrel
        by_cases hlt : k < p.length
        · have hlt2 : k < q.length := by have := HN.out; omega
          have hcell := hc k hlt
          have hcell2 := hc2 k hlt2
          have hix : (k : Int) < (p.length : Int) := by omega
          have hix2 : (k : Int) < (q.length : Int) := by omega
          have hT : Hid (p.take (k + 1) = p.take k ++ [p[k]] ∧ q.take (k + 1) = q.take k ++ [q[k]]) := ⟨by rw [List.take_succ_eq_append_getElem hlt], by rw [List.take_succ_eq_append_getElem hlt2]⟩
          have hE : Hid (p[k] ≠ q[k] → eqT p q = false) := fun h => by
            unfold eqT; rw [decide_eq_false]
            rintro rfl
            exact h rfl
          generalize p[k] = x at *
          generalize q[k] = y at *
          have hb := str_eq x y
          unfold strV at hcell hcell2
          obtain ⟨X, hX⟩ : ∃ X : ByteArray, X = ⟨x.toArray⟩ := ⟨_, rfl⟩
          obtain ⟨Y, hY⟩ : ∃ Y : ByteArray, Y = ⟨y.toArray⟩ := ⟨_, rfl⟩
          rw [← hX] at hcell hb
          rw [← hY] at hcell2 hb
          clear hc hc2 hX hY
          by_cases hxy : x = y
          · subst hxy
            rw [decide_eq_true rfl] at hb
            go_wp2_with fail
            go_quiet (fail)
            go_wp2
            go_roundw
            case rel => exact ⟨k + 1, n + nq, by go_num, by omega, rfl, by show _ = _; rw [hT.out.1, hT.out.2, HS.out]⟩
            case measure => simp [intOf]; omega
          · rw [decide_eq_false hxy] at hb
            have e := hE.out hxy
            have HE := Lib.hid e
            clear e hxy
            go_wp2_with fail
            go_quiet (fail)
            go_wp2
            go_ret
            exact ⟨by rw [HE.out]; rfl, n + nq, World.drewN_drewN _ _ _⟩
        · obtain rfl : k = p.length := by omega
          have e : eqT p q = true := by
            unfold eqT
            have h1 := HS.out
            rw [List.take_length, List.take_of_length_le (by have := HN.out; omega)] at h1
            rw [decide_eq_true h1]
          have HE := Lib.hid e
          clear e hc hc2
          go_wp2
          go_ret
          exact ⟨by rw [HE.out]; rfl, n, rfl⟩
  · obtain ⟨a, c, rfl⟩ := hu
    obtain ⟨a2, c2, rfl⟩ := hv
    have g2 : ((p.length : Int) != (q.length : Int)) = true := by simp; omega
    have e : eqT p q = false := by unfold eqT; rw [decide_eq_false]; intro h; exact hne (by rw [h])
    rw [e]
    clear hne e hp hq
    go_enter Try.func15, Try.ntmps15
    go_wp2
    go_ret
    exact ⟨rfl, 0, rfl⟩
theorem texts_bool (p q : List (List UInt8)) (b : Bool) (hb : eqT p q = b) (u v : Value) (w : World) (hp : TextsIn w u p) (hq : TextsIn w v q) (hl : p.length ≤ 9223372036854775807) (hl2 : q.length ≤ 9223372036854775807) :
    Calls Try.prog 15 #[u, v] w fun e w' => e = .returned (.bool b) ∧ Below w.heap.size w w' :=
  (texts_any p q u v w hp hq hl hl2).mono fun e w' ⟨he, n, hw⟩ => ⟨by rw [he, hb], by rw [hw]; exact belowN (Below.refl _ _) n⟩
theorem eqT_self (p : List (List UInt8)) : eqT p p = true := by unfold eqT; rw [decide_eq_true rfl]


theorem m0 : (⟨#[0, 0, 0, 7, 0, 0, 0, 11, 0, 0, 0, 77, 0, 0, 0, 0]⟩ : ByteArray).data.toList = markL ([] : List (List UInt8)).flatten := by decide
theorem m1 : markL [97] ≠ markL [98] := by decide

theorem ref_to (s M : ByteArray) (hM : M.data.toList = markL s.data.toList) (hs : s.size ≤ 1000000) : Hid (∀ W, Calls Try.prog 13 #[.string s] W fun e w' => e = .returned (.string M) ∧ Below W.heap.size W w') :=
  Lib.hid fun W => by rw [text_is hM]; exact refOf_any s W (by omega)
theorem of_to (p : List (List UInt8)) (M : ByteArray) (hM : M.data.toList = markL p.flatten) (hl : p.length ≤ 1000000) (hf : p.flatten.length ≤ 1000000) : Hid (∀ v W, TextsIn W v p → Calls Try.prog 12 #[v] W fun e w' => e = .returned (.string M) ∧ Below W.heap.size W w') :=
  Lib.hid fun v W h => of_any p v W M hM h hl hf
theorem add_to_k (B R : Nat) (l : List UInt8) (s : ByteArray) (l' : List UInt8) (h' : l ++ s.data.toList = l') (hBR : B ≤ R) (hl : l.length + s.size ≤ 1099511627776) (w0 : World) : Hid (∀ W, Below B w0 W → MkAt W R l → Calls Try.prog 19 #[.pointer (some ⟨R, 0, none⟩), .string s] W fun e w' => e = .returned (.int .i64 0) ∧ Below B w0 w' ∧ MkAt w' R l' ∧ W.heap.size ≤ w'.heap.size) :=
  Lib.hid fun W hB hR => by rw [← h']; exact add_any R B l s w0 W hB hBR hR hl
theorem count_to (R : Nat) (l : List UInt8) (n : Int) (hn : (l.length : Int) = n) : Hid (∀ W, MkAt W R l → Calls Try.prog 18 #[.pointer (some ⟨R, 0, none⟩)] W fun e w' => e = .returned (.int .i64 n) ∧ W = w') :=
  Lib.hid fun W hR => by rw [← hn]; exact count_any R l W hR

set_option maxRecDepth 100000 in
set_option maxHeartbeats 2000000 in
/-- The document's rows. -/
theorem marks_any (w : World) : Calls Try.prog 11 #[] w fun e w' => e = .returned (.bool true) ∧ Below w.heap.size w w' := by
  obtain ⟨M1, hM1⟩ := text_of (markL [97])
  obtain ⟨M2, hM2⟩ := text_of (markL [98])
  have hne : (M1.toList == M2.toList) = false := by rw [text_eq, hM1, hM2, decide_eq_false m1]
  have CA := add_to_k w.heap.size w.heap.size [] ⟨#[97]⟩ [97] rfl (Nat.le_refl _) (by decide) w
  have C0 := of_to [] ⟨#[0, 0, 0, 7, 0, 0, 0, 11, 0, 0, 0, 77, 0, 0, 0, 0]⟩ m0 (by decide) (by decide)
  have C1 := of_to [[97]] M1 hM1 (by decide) (by decide)
  have C3 := of_to [[], [97], []] M1 hM1 (by decide) (by decide)
  have C2 := of_to [[98]] M2 hM2 (by decide) (by decide)
  have CR := ref_to ⟨#[97]⟩ M1 hM1 (by decide)
  have CM := mark_hid w.heap.size [97] (by decide) M1 hM1
  have CN := count_to w.heap.size [97] 1 rfl
  clear hM1 hM2
  go_enter Try.func11, Try.ntmps11
  go_wp2_with fail
  refine (new_any _).mono ?_
  rintro e w1 ⟨rfl, hk1, B1⟩
  have H1 := Lib.hid hk1
  clear hk1
  go_wp2_with fail
  refine (CA.out _ B1 H1.out).mono ?_
  rintro e w2 ⟨rfl, B2, hk2, _⟩
  have H2 := Lib.hid hk2
  clear hk2 H1 B1
  go_wp2_with fail
  refine (C0.out _ _ (.inl ⟨⟨_, _, rfl⟩, rfl⟩)).mono ?_
  rintro e w3 ⟨rfl, b3⟩
  have B3 := B2.trans (b3.mono B2.size)
  have H3 := Lib.hid (H2.out.below b3)
  clear H2 b3 B2
  go_wp2_with fail
  refine (C1.out _ _ (textsIn_new _ [[97]] _ rfl 1 rfl _)).mono ?_
  rintro e w4 ⟨rfl, b4⟩
  have b4' := ((Below.refl _ _).alloc (Nat.le_refl _) _).trans (b4.mono (by simp))
  have B4 := B3.trans (b4'.mono B3.size)
  have H4 := Lib.hid (H3.out.below b4')
  clear H3 b4 b4' B3
  go_wp2_with fail
  refine (CR.out _).mono ?_
  rintro e w5 ⟨rfl, b5⟩
  have B5 := B4.trans (b5.mono B4.size)
  have H5 := Lib.hid (H4.out.below b5)
  clear H4 b5 B4
  go_wp2_with fail
  refine (C3.out _ _ (textsIn_new _ [[], [97], []] _ rfl 3 rfl _)).mono ?_
  rintro e w6 ⟨rfl, b6⟩
  have b' := ((Below.refl _ _).alloc (Nat.le_refl _) _).trans (b6.mono (by simp))
  have B6 := B5.trans (b'.mono B5.size)
  have H6 := Lib.hid (H5.out.below b')
  clear H5 b6 b' B5
  go_wp2_with fail
  refine (C1.out _ _ (textsIn_new _ [[97]] _ rfl 1 rfl _)).mono ?_
  rintro e w7 ⟨rfl, b7⟩
  have b' := ((Below.refl _ _).alloc (Nat.le_refl _) _).trans (b7.mono (by simp))
  have B7 := B6.trans (b'.mono B6.size)
  have H7 := Lib.hid (H6.out.below b')
  clear H6 b7 b' B6
  go_wp2_with fail
  refine (CM.out _ H7.out).mono ?_
  rintro e w8 ⟨rfl, b8⟩
  have B8 := B7.trans (b8.mono B7.size)
  have H8 := Lib.hid (H7.out.below b8)
  clear H7 b8 B7
  go_wp2_with fail
  refine (C1.out _ _ (textsIn_new _ [[97]] _ rfl 1 rfl _)).mono ?_
  rintro e w9 ⟨rfl, b9⟩
  have b' := ((Below.refl _ _).alloc (Nat.le_refl _) _).trans (b9.mono (by simp))
  have B9 := B8.trans (b'.mono B8.size)
  have H9 := Lib.hid (H8.out.below b')
  clear H8 b9 b' B8
  go_wp2_with fail
  refine (CN.out _ H9.out).mono ?_
  rintro e w10 ⟨rfl, rfl⟩
  go_wp2_with fail
  refine (C1.out _ _ (textsIn_new _ [[97]] _ rfl 1 rfl _)).mono ?_
  rintro e w11 ⟨rfl, b11⟩
  have b' := ((Below.refl _ _).alloc (Nat.le_refl _) _).trans (b11.mono (by simp))
  have B11 := B9.trans (b'.mono B9.size)
  have H11 := Lib.hid (H9.out.below b')
  clear H9 b11 b' B9
  go_wp2_with fail
  refine (C2.out _ _ (textsIn_new _ [[98]] _ rfl 1 rfl _)).mono ?_
  rintro e w12 ⟨rfl, b12⟩
  have b' := ((Below.refl _ _).alloc (Nat.le_refl _) _).trans (b12.mono (by simp))
  have B12 := B11.trans (b'.mono B11.size)
  have H12 := Lib.hid (H11.out.below b')
  clear H11 b12 b' B11
  go_wp2
  go_ret
  exact ⟨rfl, B12⟩

end Go.Proofs.Ytmdpilpghcapbaa
