/- A text whose mark a policy tells is let be as a script. -/
import Derived.Test.YthnogdodlhkldaaGreatDoorTopA
namespace Go.Proofs.YthnogdodlhkldaaGreatDoor
open Go.RowKit


set_option maxRecDepth 100000 in
set_option maxHeartbeats 8000000 in
theorem marks_core (text nonce M EN Q1 Q2 S1 S3 : ByteArray) (Z : Prop) (LG : Hid (∀ W : World, Calls Tryz.prog 29 #[.slice (some ⟨W.heap.size, 0, none⟩) 2 2] (W.alloc (.cells #[.string text, .string nonce] 9)) fun e w' => ∃ b, e = .returned (.bool b) ∧ w' = W.alloc (.cells #[.string text, .string nonce] 9) ∧ (b = false → Z))) (AR : Hid (∀ W, Low W → Calls Tryz.prog 33 #[] W fun e w' => e = .returned (.bool true) ∧ Below W.heap.size W w')) (CM : Hid (Z → Hid (∀ W : World, Calls Tryz.prog 31 #[.slice (some ⟨W.heap.size, 0, none⟩) 1 1] (W.alloc (.cells #[.string text] 9)) fun e w' => e = .returned (.string M) ∧ Below W.heap.size W w'))) (CE : Hid (∀ W : World, Calls Tryz.prog 30 #[.string M] W fun e w' => e = .returned (.string EN) ∧ Below W.heap.size W w')) (a1 : ∀ W, (Op.stringOp .add ⟨#[39, 109, 97, 114, 107, 45]⟩ EN).run Tryz.prog W = .ok (.string Q1) W) (a2 : ∀ W, (Op.stringOp .add Q1 ⟨#[39]⟩).run Tryz.prog W = .ok (.string Q2) W) (a3 : ∀ W, (Op.stringOp .add ⟨#[115, 99, 114, 105, 112, 116, 45, 115, 114, 99, 32]⟩ Q2).run Tryz.prog W = .ok (.string S1) W) (a4 : ∀ W, (Op.stringOp .add S1 ⟨#[32, 39, 117, 110, 115, 97, 102, 101, 45, 104, 97, 115, 104, 101, 115, 39]⟩).run Tryz.prog W = .ok (.string S3) W) (CA : Hid (Z → Hid (∀ W, Low W → Calls Tryz.prog 32 #[.string S1, reqV 1 text false ⟨#[]⟩ ⟨#[]⟩ 0 ⟨#[]⟩ ⟨#[]⟩ false nonce false false ⟨#[]⟩ ⟨#[]⟩ 0 ⟨#[]⟩ ⟨#[]⟩] W fun e w' => e = .returned (.bool true) ∧ Below W.heap.size W w'))) (CB : Hid (Z → Hid (∀ W, Low W → Calls Tryz.prog 32 #[.string S1, reqV 3 text false ⟨#[]⟩ ⟨#[]⟩ 0 ⟨#[]⟩ ⟨#[]⟩ false nonce false false ⟨#[]⟩ ⟨#[]⟩ 0 ⟨#[]⟩ ⟨#[]⟩] W fun e w' => e = .returned (.bool false) ∧ Below W.heap.size W w'))) (CC : Hid (Z → Hid (∀ W, Low W → Calls Tryz.prog 32 #[.string S3, reqV 3 text false ⟨#[]⟩ ⟨#[]⟩ 0 ⟨#[]⟩ ⟨#[]⟩ false nonce false false ⟨#[]⟩ ⟨#[]⟩ 0 ⟨#[]⟩ ⟨#[]⟩] W fun e w' => e = .returned (.bool true) ∧ Below W.heap.size W w'))) (w : World) (hw : Low w) : Calls Tryz.prog 9 #[.string text, .string nonce] w fun e w' => e = .returned (.bool true) ∧ Below w.heap.size w w' := by
  unfold reqV at CA CB CC
  go_enter Tryz.func9, Tryz.ntmps9
  go_wp2_with fail
  have HG0 := Lib.hid (hw.made (.cells #[.string text, .string nonce] 9))
  have HB0 := Lib.hid ((Below.refl w.heap.size w).alloc (Nat.le_refl _) (.cells #[.string text, .string nonce] 9))
  have HG1 := Lib.hid hw
  clear hw
  refine (LG.out _).mono ?_
  rintro e w1 ⟨b0, rfl, rfl, hz⟩
  have HZ := Lib.hid hz
  clear hz LG
  generalize w.alloc (.cells #[.string text, .string nonce] 9) = w1 at HG0 HB0 ⊢
  have gw1 := HG0.out
  have Bw1 := HB0.out
  clear HG0 HB0
  cases b0
  case true =>
    go_wp2
    go_ret
    exact ⟨rfl, Bw1⟩
  have z1 := HZ.out (by trivial)
  have CM2 := Lib.hid (CM.out z1).out
  have CA2 := Lib.hid (CA.out z1).out
  have CB2 := Lib.hid (CB.out z1).out
  have CC2 := Lib.hid (CC.out z1).out
  clear HZ CM CA CB CC
  go_wp2_with fail
  refine (CM2.out _).mono ?_
  rintro e w2 ⟨rfl, b_⟩
  have gw2 := gw1.below b_
  have Bw2 := Bw1.trans (b_.mono Bw1.size)
  clear b_ gw1 Bw1
  go_wp2_with fail
  refine (CE.out _).mono ?_
  rintro e w3 ⟨rfl, b_⟩
  have gw3 := gw2.below b_
  have Bw3 := Bw2.trans (b_.mono Bw2.size)
  clear b_ gw2 Bw2
  go_wp2_with fail
  have xn := RX.made w3 1 text false ⟨#[]⟩ ⟨#[]⟩ 0 ⟨#[]⟩ ⟨#[]⟩ false nonce false false ⟨#[]⟩ ⟨#[]⟩ 0 ⟨#[]⟩ ⟨#[]⟩
  have al : Below w3.heap.size w3 (w3.alloc (.cells #[.int .i64 1, .string text, .bool false, .string ⟨#[]⟩, .string ⟨#[]⟩, .int .i64 0, .string ⟨#[]⟩, .string ⟨#[]⟩, .bool false, .string nonce, .bool false, .bool false, .string ⟨#[]⟩, .string ⟨#[]⟩, .int .i64 0, .string ⟨#[]⟩, .string ⟨#[]⟩] 42)) := (Below.refl _ _).alloc (Nat.le_refl _) _
  have gq := gw3.below al
  have Bq := Bw3.trans (al.mono Bw3.size)
  have hle : w.heap.size ≤ w3.heap.size := Bw3.size
  clear al gw3 Bw3
  generalize w3.heap.size = Ra at xn hle ⊢
  generalize w3.alloc (.cells #[.int .i64 1, .string text, .bool false, .string ⟨#[]⟩, .string ⟨#[]⟩, .int .i64 0, .string ⟨#[]⟩, .string ⟨#[]⟩, .bool false, .string nonce, .bool false, .bool false, .string ⟨#[]⟩, .string ⟨#[]⟩, .int .i64 0, .string ⟨#[]⟩, .string ⟨#[]⟩] 42) = w9 at xn gq Bq ⊢
  have xRa_w9 := xn
  clear xn
  generalize Value.agg #[.int .i64 1, .string text, .bool false, .string ⟨#[]⟩, .string ⟨#[]⟩, .int .i64 0, .string ⟨#[]⟩, .string ⟨#[]⟩, .bool false, .string nonce, .bool false, .bool false, .string ⟨#[]⟩, .string ⟨#[]⟩, .int .i64 0, .string ⟨#[]⟩, .string ⟨#[]⟩] = rq1 at CA2 ⊢
  refine (CA2.out _ gq).mono ?_
  rintro e w10 ⟨rfl, b_⟩
  have gw10 := gq.below b_
  have Bw10 := Bq.trans (b_.mono Bq.size)
  have xRa_w10 := xRa_w9.below b_
  clear b_ gq Bq xRa_w9
  clear CA2
  as_aux_lemma =>
    have dRa0 := xRa_w10.c0
    have dRa1 := xRa_w10.c1
    have dRa2 := xRa_w10.c2
    have dRa3 := xRa_w10.c3
    have dRa4 := xRa_w10.c4
    have dRa5 := xRa_w10.c5
    have dRa6 := xRa_w10.c6
    have dRa7 := xRa_w10.c7
    have dRa8 := xRa_w10.c8
    have dRa9 := xRa_w10.c9
    have dRa10 := xRa_w10.c10
    have dRa11 := xRa_w10.c11
    have dRa12 := xRa_w10.c12
    have dRa13 := xRa_w10.c13
    have dRa14 := xRa_w10.c14
    have dRa15 := xRa_w10.c15
    have dRa16 := xRa_w10.c16
    have f0 := open_of xRa_w10 0
    have x3 : RX (w10.setCell ⟨Ra, 0, none⟩ (.int .i64 3)) Ra 3 text false ⟨#[]⟩ ⟨#[]⟩ 0 ⟨#[]⟩ ⟨#[]⟩ false nonce false false ⟨#[]⟩ ⟨#[]⟩ 0 ⟨#[]⟩ ⟨#[]⟩ := heap_setCell_same w10 Ra 0 _ _ _ _ xRa_w10
    have e0 := x3.c0
    have e1 := x3.c1
    have e2 := x3.c2
    have e3 := x3.c3
    have e4 := x3.c4
    have e5 := x3.c5
    have e6 := x3.c6
    have e7 := x3.c7
    have e8 := x3.c8
    have e9 := x3.c9
    have e10 := x3.c10
    have e11 := x3.c11
    have e12 := x3.c12
    have e13 := x3.c13
    have e14 := x3.c14
    have e15 := x3.c15
    have e16 := x3.c16
    have B3_ := Bw10.setCell (p := ⟨Ra, 0, none⟩) hle (.int .i64 3)
    have g3 : Low (w10.setCell ⟨Ra, 0, none⟩ (.int .i64 3)) := HG1.out.below (B3_)
    have B3 := B3_
    go_wp2_with fail
    clear f0 e0 e1 e2 e3 e4 e5 e6 e7 e8 e9 e10 e11 e12 e13 e14 e15 e16
    generalize w10.setCell ⟨Ra, 0, none⟩ (.int .i64 3) = w20 at x3 g3 B3 ⊢
    have xRa_w20 := x3
    clear x3 gw10 Bw10 xRa_w10
    clear dRa0 dRa1 dRa2 dRa3 dRa4 dRa5 dRa6 dRa7 dRa8 dRa9 dRa10 dRa11 dRa12 dRa13 dRa14 dRa15 dRa16
    as_aux_lemma =>
      generalize hq2 : Value.agg #[.int .i64 3, .string text, .bool false, .string ⟨#[]⟩, .string ⟨#[]⟩, .int .i64 0, .string ⟨#[]⟩, .string ⟨#[]⟩, .bool false, .string nonce, .bool false, .bool false, .string ⟨#[]⟩, .string ⟨#[]⟩, .int .i64 0, .string ⟨#[]⟩, .string ⟨#[]⟩] = rq2 at CB2 ⊢
      clear hq2
      refine (CB2.out _ g3).mono ?_
      rintro e w21 ⟨rfl, b_⟩
      have gw21 := g3.below b_
      have Bw21 := B3.trans (b_.mono B3.size)
      have xRa_w21 := xRa_w20.below b_
      clear b_ g3 B3 xRa_w20
      clear CB2
      have dRa0 := xRa_w21.c0
      have dRa1 := xRa_w21.c1
      have dRa2 := xRa_w21.c2
      have dRa3 := xRa_w21.c3
      have dRa4 := xRa_w21.c4
      have dRa5 := xRa_w21.c5
      have dRa6 := xRa_w21.c6
      have dRa7 := xRa_w21.c7
      have dRa8 := xRa_w21.c8
      have dRa9 := xRa_w21.c9
      have dRa10 := xRa_w21.c10
      have dRa11 := xRa_w21.c11
      have dRa12 := xRa_w21.c12
      have dRa13 := xRa_w21.c13
      have dRa14 := xRa_w21.c14
      have dRa15 := xRa_w21.c15
      have dRa16 := xRa_w21.c16
      go_wp2_with fail
      clear dRa0 dRa1 dRa2 dRa3 dRa4 dRa5 dRa6 dRa7 dRa8 dRa9 dRa10 dRa11 dRa12 dRa13 dRa14 dRa15 dRa16
      generalize Value.agg #[.int .i64 3, .string text, .bool false, .string ⟨#[]⟩, .string ⟨#[]⟩, .int .i64 0, .string ⟨#[]⟩, .string ⟨#[]⟩, .bool false, .string nonce, .bool false, .bool false, .string ⟨#[]⟩, .string ⟨#[]⟩, .int .i64 0, .string ⟨#[]⟩, .string ⟨#[]⟩] = rq3 at CC2 ⊢
      refine (CC2.out _ gw21).mono ?_
      rintro e w22 ⟨rfl, b_⟩
      have gw22 := gw21.below b_
      have Bw22 := Bw21.trans (b_.mono Bw21.size)
      have xRa_w22 := xRa_w21.below b_
      clear b_ gw21 Bw21 xRa_w21
      clear CC2
      go_wp2_with fail
      refine (AR.out _ gw22).mono ?_
      rintro e w23 ⟨rfl, b_⟩
      have gw23 := gw22.below b_
      have Bw23 := Bw22.trans (b_.mono Bw22.size)
      have xRa_w23 := xRa_w22.below b_
      clear b_ gw22 Bw22 xRa_w22
      go_wp2
      go_ret
      exact ⟨rfl, Bw23⟩

set_option maxRecDepth 100000 in
set_option maxHeartbeats 8000000 in
theorem tailT_one (a : List UInt8) : tailT [a] = 32 :: a := by unfold tailT; simp
theorem tailT_two (a b : List UInt8) : tailT [a, b] = 32 :: a ++ 32 :: b := by unfold tailT; simp
theorem marks_adds (em mk : List UInt8) (hm : mk = MRK ++ (em ++ [39])) (he : em.length = 24) (EN Q1 Q2 S1 S3 : ByteArray) (hEN : EN.data.toList = em) (hQ1 : Q1.data.toList = MRK ++ em) (hQ2 : Q2.data.toList = mk) (hS1 : S1.data.toList = nScr ++ 32 :: mk) (hS3 : S3.data.toList = nScr ++ 32 :: mk ++ 32 :: UH) : (S1.size ≤ 100 ∧ S3.size ≤ 100 ∧ mk.length ≤ 100) ∧ (∀ W, (Op.stringOp .add ⟨#[39, 109, 97, 114, 107, 45]⟩ EN).run Tryz.prog W = .ok (.string Q1) W) ∧ (∀ W, (Op.stringOp .add Q1 ⟨#[39]⟩).run Tryz.prog W = .ok (.string Q2) W) ∧ (∀ W, (Op.stringOp .add ⟨#[115, 99, 114, 105, 112, 116, 45, 115, 114, 99, 32]⟩ Q2).run Tryz.prog W = .ok (.string S1) W) ∧ (∀ W, (Op.stringOp .add S1 ⟨#[32, 39, 117, 110, 115, 97, 102, 101, 45, 104, 97, 115, 104, 101, 115, 39]⟩).run Tryz.prog W = .ok (.string S3) W) := by
  have l1 : (⟨#[39, 109, 97, 114, 107, 45]⟩ : ByteArray).data.toList = MRK := by decide
  have l2 : (⟨#[39]⟩ : ByteArray).data.toList = [39] := by decide
  have l3 : (⟨#[115, 99, 114, 105, 112, 116, 45, 115, 114, 99, 32]⟩ : ByteArray).data.toList = nScr ++ [32] := by decide
  have l4 : (⟨#[32, 39, 117, 110, 115, 97, 102, 101, 45, 104, 97, 115, 104, 101, 115, 39]⟩ : ByteArray).data.toList = 32 :: UH := by decide
  have n1 : MRK.length = 6 := by decide
  have n2 : nScr.length = 10 := by decide
  have n3 : UH.length = 15 := by decide
  have lEN : EN.size = 24 := by rw [← lsize, hEN, he]
  have lQ1 : Q1.size = 30 := by rw [← lsize, hQ1, List.length_append, n1, he]
  have lmk : mk.length = 31 := by rw [hm, List.length_append, List.length_append, n1, he]; simp
  have lQ2 : Q2.size = 31 := by rw [← lsize, hQ2, lmk]
  have lS1 : S1.size = 42 := by rw [← lsize, hS1, List.length_append, List.length_cons, n2, lmk]
  have lS3 : S3.size = 58 := by rw [← lsize, hS3, List.length_append, List.length_append, List.length_cons, List.length_cons, n2, n3, lmk]
  refine ⟨⟨by omega, by omega, by omega⟩, add_to _ EN Q1 ?_ ?_, add_to Q1 _ Q2 ?_ ?_, add_to _ Q2 S1 ?_ ?_, add_to S1 _ S3 ?_ ?_⟩
  · rw [hQ1, hEN, l1]
  · rw [lEN]; decide
  · rw [hQ2, hQ1, l2, hm, List.append_assoc]
  · rw [lQ1]; decide
  · rw [hS1, hQ2, l3, List.append_assoc, List.singleton_append]
  · rw [lQ2]; decide
  · rw [hS3, hS1, l4]
  · rw [lS1]; decide

set_option maxRecDepth 100000 in
set_option maxHeartbeats 8000000 in
theorem topMarks_law (text nonce : ByteArray) (w : World) (hw : Low w) : Calls Tryz.prog 9 #[.string text, .string nonce] w fun e w' => e = .returned (.bool true) ∧ Below w.heap.size w w' := by
  have LG : Hid (∀ W : World, Calls Tryz.prog 29 #[.slice (some ⟨W.heap.size, 0, none⟩) 2 2] (W.alloc (.cells #[.string text, .string nonce] 9)) fun e w' => ∃ b, e = .returned (.bool b) ∧ w' = W.alloc (.cells #[.string text, .string nonce] 9) ∧ (b = false → (text.size ≤ 1500 ∧ nonce.size ≤ 1500))) := Lib.hid fun W => (long_any [text.data.toList, nonce.data.toList] _ (by simp) _ (textsIn_new W [text.data.toList, nonce.data.toList] _ (by unfold txtCells; rw [List.map_cons, List.map_cons, strV_of, strV_of]; rfl) 2 rfl 2)).mono fun e w' ⟨b, h1_, h2_, h3_⟩ => ⟨b, h1_, h2_, fun hb_ => by
    have k0 := h3_ hb_ 0 (by simp)
    have k1 := h3_ hb_ 1 (by simp)
    rw [← lsize, ← lsize]
    exact ⟨k0, k1⟩⟩
  obtain ⟨em, hem⟩ : ∃ em, em = encM (markL text.data.toList) := ⟨_, rfl⟩
  obtain ⟨mk, hmk⟩ : ∃ mk, mk = mkw text.data.toList := ⟨_, rfl⟩
  have hm : mk = MRK ++ (em ++ [39]) := by rw [hmk, hem, mkw]
  have he : em.length = 24 := by
    have := encM_length (markL text.data.toList)
    rw [mark_length] at this
    rw [hem]
    omega
  obtain ⟨M, hM⟩ : ∃ M : ByteArray, M.data.toList = markL text.data.toList := ⟨⟨(markL text.data.toList).toArray⟩, rfl⟩
  have lM : M.size ≤ 100000 := by
    have := mark_length text.data.toList
    rw [← hM, lsize] at this
    omega
  have ok1 : ∀ r : Rq, r.k = 1 → r.t = text.data.toList → okC [([⟨nScr, [mk]⟩], false)] r = true := fun r h1_ h2_ => by rw [hmk]; exact marks_one _ r h1_ h2_
  have ok2 : ∀ r : Rq, r.k = 3 → okC [([⟨nScr, [mk]⟩], false)] r = false := fun r h1_ => by rw [hmk]; exact marks_two _ r h1_
  have ok3 : ∀ r : Rq, r.k = 3 → r.t = text.data.toList → okC [([⟨nScr, [mk, UH]⟩], false)] r = true := fun r h1_ h2_ => by rw [hmk]; exact marks_three _ r h1_ h2_
  have mw : wordH mk = true := by rw [hmk]; exact mkw_word _
  obtain ⟨EN, hEN⟩ : ∃ M : ByteArray, M.data.toList = em := ⟨⟨em.toArray⟩, rfl⟩
  have CE := encode_hid M lM EN (by rw [hEN, hem, hM])
  have CM : Hid ((text.size ≤ 1500 ∧ nonce.size ≤ 1500) → Hid (∀ W : World, Calls Tryz.prog 31 #[.slice (some ⟨W.heap.size, 0, none⟩) 1 1] (W.alloc (.cells #[.string text] 9)) fun e w' => e = .returned (.string M) ∧ Below W.heap.size W w')) := Lib.hid fun h_ => of1_hid text M (by omega) hM
  clear hmk hem hM
  obtain ⟨Q1, hQ1⟩ : ∃ M : ByteArray, M.data.toList = MRK ++ em := ⟨⟨(MRK ++ em).toArray⟩, rfl⟩
  obtain ⟨Q2, hQ2⟩ : ∃ M : ByteArray, M.data.toList = mk := ⟨⟨mk.toArray⟩, rfl⟩
  obtain ⟨S1, hS1⟩ : ∃ M : ByteArray, M.data.toList = nScr ++ 32 :: mk := ⟨⟨(nScr ++ 32 :: mk).toArray⟩, rfl⟩
  obtain ⟨S3, hS3⟩ : ∃ M : ByteArray, M.data.toList = nScr ++ 32 :: mk ++ 32 :: UH := ⟨⟨(nScr ++ 32 :: mk ++ 32 :: UH).toArray⟩, rfl⟩
  obtain ⟨⟨lS1, lS3, lmk⟩, a1, a2, a3, a4⟩ := marks_adds em mk hm he EN Q1 Q2 S1 S3 hEN hQ1 hQ2 hS1 hS3
  have lw : mk.length ≤ 1000 := by omega
  have hp1 : polsM false S1.data.toList = [([⟨nScr, [mk]⟩], false)] := by
    rw [hS1, ← tailT_one]
    exact scr_pols (ws := [mk]) (by simp) (fun w_ h_ => by rw [List.mem_singleton.1 h_]; exact mw)
  have hp3 : polsM false S3.data.toList = [([⟨nScr, [mk, UH]⟩], false)] := by
    rw [hS3, List.append_assoc, ← tailT_two]
    exact scr_pols (ws := [mk, UH]) (by simp) (fun w_ h_ => by
      simp only [List.mem_cons, List.not_mem_nil, or_false] at h_
      rcases h_ with rfl | rfl
      · exact mw
      · decide)
  clear hS1 hS3 hEN hQ1 hQ2 hm he mw
  have f1 : ∀ p ∈ [(([⟨nScr, [mk]⟩], false) : List D × Bool)], FitD p.1 := fPol_fit (fun p hp => by
    rw [List.mem_singleton.1 hp]
    refine ⟨by simp, fun d hd => ?_⟩
    rw [List.mem_singleton.1 hd]
    refine ⟨by simp, fun x hx => ?_⟩
    rw [List.mem_singleton.1 hx]
    exact lw)
  have f3 : ∀ p ∈ [(([⟨nScr, [mk, UH]⟩], false) : List D × Bool)], FitD p.1 := fPol_fit (fun p hp => by
    rw [List.mem_singleton.1 hp]
    refine ⟨by simp, fun d hd => ?_⟩
    rw [List.mem_singleton.1 hd]
    refine ⟨by simp, fun x hx => ?_⟩
    simp only [List.mem_cons, List.not_mem_nil, or_false] at hx
    rcases hx with rfl | rfl
    · exact lw
    · decide)
  exact marks_core text nonce M EN Q1 Q2 S1 S3 (text.size ≤ 1500 ∧ nonce.size ≤ 1500) LG firm_hid CM CE a1 a2 a3 a4
    (Lib.hid fun h_ => topSays_hid S1 (by omega) _ hp1 (by simp) f1 1 text false ⟨#[]⟩ ⟨#[]⟩ 0 ⟨#[]⟩ ⟨#[]⟩ false nonce false false ⟨#[]⟩ ⟨#[]⟩ 0 ⟨#[]⟩ ⟨#[]⟩ (by omega) (by decide) (by decide) (by decide) (by decide) (by decide) (by decide) (by decide) (by decide) true (ok1 _ rfl rfl))
    (Lib.hid fun h_ => topSays_hid S1 (by omega) _ hp1 (by simp) f1 3 text false ⟨#[]⟩ ⟨#[]⟩ 0 ⟨#[]⟩ ⟨#[]⟩ false nonce false false ⟨#[]⟩ ⟨#[]⟩ 0 ⟨#[]⟩ ⟨#[]⟩ (by omega) (by decide) (by decide) (by decide) (by decide) (by decide) (by decide) (by decide) (by decide) false (ok2 _ rfl))
    (Lib.hid fun h_ => topSays_hid S3 (by omega) _ hp3 (by simp) f3 3 text false ⟨#[]⟩ ⟨#[]⟩ 0 ⟨#[]⟩ ⟨#[]⟩ false nonce false false ⟨#[]⟩ ⟨#[]⟩ 0 ⟨#[]⟩ ⟨#[]⟩ (by omega) (by decide) (by decide) (by decide) (by decide) (by decide) (by decide) (by decide) (by decide) true (ok3 _ rfl rfl)) w hw

end Go.Proofs.YthnogdodlhkldaaGreatDoor
