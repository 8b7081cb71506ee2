/- SourceMarks: the mark of a text, encoded, is a source that has it. -/
import Derived.Test.YtmfejcmhbncchaaGreatDoorSrcW
import Derived.Test.YtmfejcmhbncchaaGreatDoorMarkZ
namespace Go.Proofs.YtmfejcmhbncchaaGreatDoor
open Go.RowKit

theorem word_10 (M : ByteArray) : wordS (srcM 10 M ⟨#[]⟩ ⟨#[]⟩ false 0 ⟨#[]⟩) = MRK ++ (encM M.data.toList ++ [39]) := by
  unfold wordS
  rw [if_neg (show ¬ (srcM 10 M ⟨#[]⟩ ⟨#[]⟩ false 0 ⟨#[]⟩).k = 9 from (show ¬ (10 : Int) = 9 by decide)), if_pos (show (srcM 10 M ⟨#[]⟩ ⟨#[]⟩ false 0 ⟨#[]⟩).k = 10 from rfl)]
  rfl
theorem right_10 (M : ByteArray) (h : M.size = 16) : rightS (srcM 10 M ⟨#[]⟩ ⟨#[]⟩ false 0 ⟨#[]⟩) = true := by
  unfold rightS
  rw [if_neg (show ¬ (srcM 10 M ⟨#[]⟩ ⟨#[]⟩ false 0 ⟨#[]⟩).k = 9 from (show ¬ (10 : Int) = 9 by decide)), if_pos (show (srcM 10 M ⟨#[]⟩ ⟨#[]⟩ false 0 ⟨#[]⟩).k = 10 from rfl), show (srcM 10 M ⟨#[]⟩ ⟨#[]⟩ false 0 ⟨#[]⟩).t = M.data.toList from rfl, lsize, decide_eq_true h]
  rfl

set_option maxRecDepth 100000 in
set_option maxHeartbeats 4000000 in
theorem marks_law (s : ByteArray) (w : World) (hw : Low w) : Calls Tryz.prog 5 #[.string s] w fun e w' => e = .returned (.bool true) ∧ Below w.heap.size w w' := by
  by_cases hbig : (3000 : Int) < (s.size : Int)
  · go_enter Tryz.func5, Tryz.ntmps5
    go_wp2
    go_ret
    exact ⟨rfl, Below.refl _ _⟩
  obtain ⟨M, hM⟩ := text_of (markL [s.data.toList].flatten)
  have hMs : M.size = 16 := by rw [← lsize, hM]; exact mark_length _
  have CM : Hid (∀ W v, TextsIn W v [s.data.toList] → Calls Tryz.prog 14 #[v] W fun e w' => e = .returned (.string M) ∧ Below W.heap.size W w') := Lib.hid fun W v h => of_any [s.data.toList] v W M hM h (by simp) (by simp; omega)
  obtain ⟨E, hE⟩ := text_of (encM M.data.toList)
  have zE : E.size ≤ 24 := by rw [← lsize, hE, encM_length, lsize, hMs]; decide
  have CE := encode_hid M (by omega) E hE
  obtain ⟨X1, hX1, zX1, a1⟩ := add_step ⟨#[39, 109, 97, 114, 107, 45]⟩ E 6 24 (by decide) zE (by decide)
  obtain ⟨X2, hX2, zX2, a2⟩ := add_step X1 ⟨#[39]⟩ 30 1 zX1 (by decide) (by decide)
  have CPA := parseS_is X2 (by omega) 10 M ⟨#[]⟩ ⟨#[]⟩ false 0 ⟨#[]⟩ (by
    rw [hX2, hX1, hE, List.append_assoc, show (⟨#[39, 109, 97, 114, 107, 45]⟩ : ByteArray).data.toList = MRK from rfl, show (⟨#[39]⟩ : ByteArray).data.toList = [39] from rfl, ← word_10]
    exact parse_word (right_10 M hMs))
  have HQ := src_eql 10 M ⟨#[]⟩ ⟨#[]⟩ false 0 ⟨#[]⟩ 10 M ⟨#[]⟩ ⟨#[]⟩ false 0 ⟨#[]⟩
  rw [srcE_M, decide_eq_true rfl] at HQ
  have CW := words_hid
  have tz := textsIn_new w [s.data.toList] #[.string s] (by unfold txtCells; simp [strV_of]) 1 rfl 1
  have gz := hw.made (.cells #[.string s] 9)
  have Bz : Below w.heap.size w (w.alloc (.cells #[.string s] 9)) := (Below.refl _ _).alloc (Nat.le_refl _) _
  unfold srcV at CPA
  clear hM hMs hE zE hX1 zX1 hX2 zX2 hw
  go_enter Tryz.func5, Tryz.ntmps5
  go_wp2_with fail
  generalize w.alloc (.cells #[.string s] 9) = w1 at tz gz Bz ⊢
  refine (CM.out _ _ tz).mono ?_
  rintro e w2 ⟨rfl, b2⟩
  have g2 := gz.below b2
  have B2 := Bz.trans (b2.mono Bz.size)
  clear gz tz Bz b2
  go_wp2_with fail
  refine (CE.out _).mono ?_
  rintro e w3 ⟨rfl, b3⟩
  have g3 := g2.below b3
  have B3 := B2.trans (b3.mono B2.size)
  clear g2 B2 b3
  go_wp2_with fail
  refine (CPA.out _ g3).mono ?_
  rintro e w4 ⟨rfl, b_⟩
  have gw4 := g3.below b_
  have Bw4 := B3.trans (b_.mono B3.size)
  clear b_ g3 B3
  go_wp2_with fail
  have xn := SX.made w4 10 M ⟨#[]⟩ ⟨#[]⟩ false 0 ⟨#[]⟩
  have gw5 := gw4.made (.cells #[.int .i64 10, .string M, .string ⟨#[]⟩, .string ⟨#[]⟩, .bool false, .int .i64 0, .string ⟨#[]⟩] 24)
  have Bw5 := Bw4.trans (((Below.refl w4.heap.size w4).alloc (Nat.le_refl _) (.cells #[.int .i64 10, .string M, .string ⟨#[]⟩, .string ⟨#[]⟩, .bool false, .int .i64 0, .string ⟨#[]⟩] 24)).mono Bw4.size)
  generalize w4.heap.size = R at xn ⊢
  generalize w4.alloc (.cells #[.int .i64 10, .string M, .string ⟨#[]⟩, .string ⟨#[]⟩, .bool false, .int .i64 0, .string ⟨#[]⟩] 24) = w5 at xn gw5 Bw5  ⊢
  have xR_w5 := xn
  clear xn gw4 Bw4
  refine (CW.out _ gw5).mono ?_
  rintro e w6 ⟨rfl, b_⟩
  have gw6 := gw5.below b_
  have Bw6 := Bw5.trans (b_.mono Bw5.size)
  have xR_w6 := xR_w5.below b_
  clear b_ gw5 Bw5 xR_w5
  have dR0 := xR_w6.c0
  have dR1 := xR_w6.c1
  have dR2 := xR_w6.c2
  have dR3 := xR_w6.c3
  have dR4 := xR_w6.c4
  have dR5 := xR_w6.c5
  have dR6 := xR_w6.c6
  go_wp2
  go_ret
  exact ⟨rfl, Bw6⟩

end Go.Proofs.YtmfejcmhbncchaaGreatDoor
