/- The program's Print: a start tag's text. -/
import Derived.Test.YtgbilfbonliipaaGreatDoorTokBA
namespace Go.Proofs.YtgbilfbonliipaaGreatDoor
open Go.RowKit

set_option maxRecDepth 100000 in
set_option maxHeartbeats 8000000 in
theorem startTag_hid (k : Int) (N D P : ByteArray) (A : List (List UInt8 × List UInt8)) (c : Bool) (hP : P.data.toList = startT ⟨k, N.data.toList, D.data.toList, A, c⟩) (hw : wT ⟨k, N.data.toList, D.data.toList, A, c⟩ ≤ 1000000) : Hid (∀ W av, Low W → AtIn W av A → Calls Tryz.prog 52 #[.agg #[.int .i64 k, .string N, .string D, av, .bool c]] W fun e w' => e = .returned (.string P) ∧ Below W.heap.size W w') := Lib.hid fun w av hlow hat => by
  obtain ⟨aa, ac, rfl⟩ := hat.form
  obtain ⟨Z, hZ⟩ := text_of (60 :: N.data.toList)
  have hNs : N.size + wA A ≤ 1000000 := by
    unfold wT at hw
    simp only [lsize] at hw
    omega
  have hAl : A.length ≤ 1000000 := by
    have : ∀ B : List (List UInt8 × List UInt8), B.length ≤ wA B := fun B => by
      induction B with
      | nil => exact Nat.le_refl _
      | cons y B ih =>
        simp only [wA, List.map_cons, List.sum_cons, List.length_cons] at ih ⊢
        omega
    have := this A
    omega
  have hZs : Z.size = N.size + 1 := by rw [← lsize, hZ, List.length_cons, lsize]
  have a1 := add_to ⟨#[60]⟩ N Z hZ (by show 1 + N.size ≤ _; omega)
  have al1 := (Below.refl w.heap.size w).alloc (Nat.le_refl _) (.cells #[.int .i64 k, .string N, .string D, .slice aa A.length ac, .bool c] 40)
  have hbox := new_block w (.cells #[.int .i64 k, .string N, .string D, .slice aa A.length ac, .bool c] 40)
  generalize hw1 : w.alloc (.cells #[.int .i64 k, .string N, .string D, .slice aa A.length ac, .bool c] 40) = w1 at al1 hbox
  have al2 := (Below.refl w1.heap.size w1).alloc (Nat.le_refl _) (.cells #[.pointer none, .slice none 0 0] 48)
  have hs1 : w1.heap.size = w.heap.size + 1 := by rw [← hw1]; simp
  have hbo : BO (w1.alloc (.cells #[.pointer none, .slice none 0 0] 48)) w.heap.size w1.heap.size [] := (BO.new w1).low (by omega)
  have hbox2 : (w1.alloc (.cells #[.pointer none, .slice none 0 0] 48)).heap[w.heap.size]? = some (.cells #[.int .i64 k, .string N, .string D, .slice aa A.length ac, .bool c] 40 (0, 0)) := (al2.block _ (by omega)).trans hbox
  have hb2 : Below w.heap.size w (w1.alloc (.cells #[.pointer none, .slice none 0 0] 48)) := al1.trans (al2.mono (by omega))
  rw [hs1] at hbo
  have HLow := Lib.hid hlow
  have HAT := Lib.hid hat
  have HP := Lib.hid hP
  have HZ := Lib.hid hZ
  have HW := Lib.hid hNs
  have CE := fun (V E : ByteArray) (h1 : E.data.toList = encT V.data.toList) (h2 : V.size ≤ 1000000) => encode_hid V E h1 h2
  have d1 := cell_of hbox2 1
  have d3 := cell_of hbox2 3
  have d4 := cell_of hbox2 4
  have H2 := Lib.hid (And.intro hbo (And.intro hbox2 hb2))
  subst hw1
  clear hlow hat hP hZ hw hbo hbox hbox2 hb2 al1 al2 hs1
  go_enter Tryz.func52, Tryz.ntmps52
  go_wp2_with fail
  generalize (w.alloc (.cells #[.int .i64 k, .string N, .string D, .slice aa A.length ac, .bool c] 40)).alloc (.cells #[.pointer none, .slice none 0 0] 48) = w2 at H2 d1 d3 d4 ⊢
  generalize hTb : w.heap.size = Tb at H2 d1 d3 d4 ⊢
  have HTb := Lib.hid hTb
  have hws : Tb ≤ w2.heap.size := by rw [← hTb]; rw [← hTb] at H2; exact H2.out.2.2.size
  clear hTb
  have C1 := writeO_hid Z
  (with_reducible refine (C1.out _ Tb _ _ H2.out.1 hws (by simp; omega)).mono ?_)
  rintro e w3 ⟨rfl, bo3, k3⟩
  have hbx3 := k3.cells H2.out.2.1 (fun e => by
    rcases e with e | e
    · omega
    · exact absurd e.2 (by decide))
  have b3 := H2.out.2.2.trans (wrB_below k3 (Nat.le_succ _) hws)
  have hZ3 : [] ++ Z.data.toList ++ (A.drop 0).flatMap attrT = 60 :: N.data.toList ++ A.flatMap attrT := by rw [HZ.out]; rfl
  have H3 := Lib.hid (And.intro bo3 (And.intro hbx3 (And.intro b3 hZ3)))
  have d3 := cell_of hbx3 3
  clear bo3 k3 hbx3 b3 hZ3 H2 d1 d4 C1 a1 hws
  go_wp2
  go_loopw [5, 13] (fun _ j wr => ∃ (i : Nat), j = .int .i64 i ∧ i ≤ A.length ∧ ∃ H : List UInt8, Hid (BO wr Tb (Tb + 1) H ∧ wr.heap[Tb]? = some (.cells #[.int .i64 k, .string N, .string D, .slice aa A.length ac, .bool c] 40 (0, 0)) ∧ Below Tb w wr ∧ H ++ (A.drop i).flatMap attrT = 60 :: N.data.toList ++ A.flatMap attrT)) (fun _ j _ => A.length - (intOf j).toNat)
  case atStart => exact ⟨0, rfl, Nat.zero_le _, _, H3⟩
  case round =>
    clear H3 d3
    obtain ⟨i, rfl, hi, H, HX⟩ := hrel
    obtain ⟨h1, h2, h3, h4⟩ := HX.out
    have hlenH : H.length ≤ 7000000 := by
      have e := congrArg List.length h4
      have hb := attrs_lenT A
      have h0 := HW.out
      simp only [List.length_append, List.length_cons, lsize] at e
      omega
    by_cases hlt : i < A.length
    · have har : AtIn wr (.slice aa A.length ac) A := HAT.out.below (by rw [HTb.out]; exact h3)
      obtain ⟨g, off, rfl, c0, c1⟩ := har.at hlt
      obtain ⟨X, hX⟩ := text_of A[i].1
      obtain ⟨V, hV⟩ := text_of A[i].2
      rw [strV_of hX] at c0
      rw [strV_of hV] at c1
      have hmem : A[i].1.length + A[i].2.length + 5 ≤ wA A := by
        have : ∀ (B : List (List UInt8 × List UInt8)) (y : List UInt8 × List UInt8), y ∈ B → y.1.length + y.2.length + 5 ≤ wA B := fun B y h => by
          induction B with
          | nil => cases h
          | cons z B ih =>
            simp only [wA, List.map_cons, List.sum_cons] at ih ⊢
            rcases List.mem_cons.1 h with rfl | h
            · omega
            · have := ih h; omega
        exact this A _ (List.getElem_mem hlt)
      rw [← hX, ← hV, lsize, lsize] at hmem
      have hXV : X.size + V.size ≤ 1000000 := by have := HW.out; omega
      obtain ⟨E, hE⟩ := text_of (encT V.data.toList)
      have hEs : E.size ≤ 6000000 := by rw [← lsize, hE]; have := (encT_len V.data.toList).2; rw [lsize] at this; omega
      obtain ⟨S1, hS1⟩ := text_of (32 :: X.data.toList)
      obtain ⟨S2, hS2⟩ := text_of (S1.data.toList ++ [61])
      obtain ⟨S3, hS3⟩ := text_of (S2.data.toList ++ [34])
      obtain ⟨S4, hS4⟩ := text_of (S3.data.toList ++ E.data.toList)
      obtain ⟨S5, hS5⟩ := text_of (S4.data.toList ++ [34])
      have q1 : S1.size = X.size + 1 := by rw [← lsize, hS1, List.length_cons, lsize]
      have q2 : S2.size = X.size + 2 := by rw [← lsize, hS2, List.length_append, lsize, q1]; rfl
      have q3 : S3.size = X.size + 3 := by rw [← lsize, hS3, List.length_append, lsize, q2]; rfl
      have q4 : S4.size = X.size + 3 + E.size := by rw [← lsize, hS4, List.length_append, lsize, lsize, q3]
      have q5 : S5.size = X.size + 4 + E.size := by rw [← lsize, hS5, List.length_append, lsize, q4]; simp only [List.length_cons, List.length_nil]; omega
      have s1 := add_to ⟨#[32]⟩ X S1 hS1 (by show 1 + X.size ≤ _; omega)
      have s2 := add_to S1 ⟨#[61]⟩ S2 hS2 (by show S1.size + 1 ≤ _; omega)
      have s3 := add_to S2 ⟨#[34]⟩ S3 hS3 (by show S2.size + 1 ≤ _; omega)
      have s4 := add_to S3 E S4 hS4 (by omega)
      have s5 := add_to S4 ⟨#[34]⟩ S5 hS5 (by show S4.size + 1 ≤ _; omega)
      have hy : S5.data.toList = attrT A[i] := by
        rw [hS5, hS4, hS3, hS2, hS1, hE, hV, hX]
        unfold attrT
        simp
      have CEv := CE V E hE (by omega)
      have CWv := writeO_hid S5
      have hstep : (H ++ S5.data.toList) ++ (A.drop (i + 1)).flatMap attrT = 60 :: N.data.toList ++ A.flatMap attrT := by
        rw [← h4, hy, List.drop_eq_getElem_cons hlt, List.flatMap_cons, List.append_assoc]
      have alr := (Below.refl wr.heap.size wr).alloc (Nat.le_refl _) (.cells #[.string X, .string V] 56)
      have hxb := new_block wr (.cells #[.string X, .string V] 56)
      have hbr := h3.size
      have hTw : Tb ≤ wr.heap.size := by have := lt_of_block h2; omega
      have e0 := cell_of hxb 0
      have e1 := cell_of hxb 1
      have H5 := Lib.hid (And.intro (h1.below alr) (And.intro ((alr.block _ (lt_of_block h2)).trans h2) (And.intro (h3.trans (alr.mono hTw)) hxb)))
      have HST := Lib.hid hstep
      have HLw : Low (wr.alloc (.cells #[.string X, .string V] 56)).drew := ((HLow.out.below (by rw [HTb.out]; exact h3)).below alr).below (Below.refl _ _).drew
      have HLW := Lib.hid HLw.s
      clear HX h1 h2 h3 h4 har hX hV hmem hE hS1 hS2 hS3 hS4 hS5 hy q1 q2 q3 q4 hstep alr hxb HLw
      go_wp2_with fail
      generalize wr.alloc (.cells #[.string X, .string V] 56) = w4 at H5 e0 e1 HLW ⊢
      generalize wr.heap.size = Ab at H5 e0 e1 ⊢
      go_region_law (first
        | (go_simp
           go_at_call 51
           (with_reducible refine (CEv.out _ HLW.out).mono ?_)
           rintro e w5 ⟨rfl, b5⟩
           have b6 : Below w4.heap.size w4 w5 := (Below.refl _ _).drew.trans b5
           have H6 := Lib.hid (And.intro (H5.out.1.below b6) (And.intro ((b6.block _ (lt_of_block H5.out.2.1)).trans H5.out.2.1) (And.intro (H5.out.2.2.1.trans (b6.mono (by have := lt_of_block H5.out.2.1; omega))) ((b6.block _ (lt_of_block H5.out.2.2.2)).trans H5.out.2.2.2))))
           have e0 := cell_of H6.out.2.2.2 0
           have hw5 : Tb ≤ w5.heap.size := by have := lt_of_block H6.out.2.1; omega
           clear b5 b6)
        | (go_simp
           go_at_call 30
           (with_reducible refine (CWv.out _ Tb _ _ H6.out.1 hw5 (by omega)).mono ?_)
           rintro e w6 ⟨rfl, bo6, k6⟩
           have hbx6 := k6.cells H6.out.2.1 (fun e => by
             rcases e with e | e
             · omega
             · exact absurd e.2 (by decide))
           have b7 := H6.out.2.2.1.trans (wrB_below k6 (Nat.le_succ _) hw5)
           have H7 := Lib.hid (And.intro bo6 (And.intro hbx6 (And.intro b7 HST.out)))
           clear bo6 k6 hbx6 b7))
      all_goals
        clear H5 H6 e0 e1 HLW c0 c1 CEv CWv s1 s2 s3 s4 s5 HST
        go_wp2
        go_roundw
        case rel => exact ⟨i + 1, by go_num, by omega, _, H7⟩
        case measure => simp [intOf]; omega
    · obtain rfl : i = A.length := by omega
      rw [List.drop_length, List.flatMap_nil, List.append_nil] at h4
      have e4 := cell_of h2 4
      have hTw : Tb ≤ wr.heap.size := by have := lt_of_block h2; omega
      have H5 := Lib.hid (And.intro h1 (And.intro h3 h4))
      clear HX h1 h2 h3 h4
      have CG := writeO_hid ⟨#[62]⟩
      cases c with
      | true =>
        have CL := writeO_hid ⟨#[47]⟩
        go_wp2_with fail
        (with_reducible refine (CL.out _ Tb _ _ H5.out.1 hTw (by have h9 : (⟨#[62]⟩ : ByteArray).size = 1 := rfl; have h8 : (⟨#[47]⟩ : ByteArray).size = 1 := rfl; omega)).mono ?_)
        rintro e w6 ⟨rfl, bo6, k6⟩
        have b6 := H5.out.2.1.trans (wrB_below k6 (Nat.le_succ _) hTw)
        have hT6 : Tb ≤ w6.heap.size := Nat.le_trans hTw k6.size
        have H6 := Lib.hid (And.intro bo6 b6)
        clear bo6 b6 k6 e4 CL
        go_wp2_with fail
        (with_reducible refine (CG.out _ Tb _ _ H6.out.1 hT6 (by have h9 : (⟨#[62]⟩ : ByteArray).size = 1 := rfl; simp only [List.length_append, List.length_cons, List.length_nil]; omega)).mono ?_)
        rintro e w7 ⟨rfl, bo7, k7⟩
        have b7 := H6.out.2.trans (wrB_below k7 (Nat.le_succ _) hT6)
        have hT7 : Tb ≤ w7.heap.size := Nat.le_trans hT6 k7.size
        have H7 := Lib.hid (And.intro bo7 b7)
        clear bo7 b7 k7 CG H6
        go_wp2_with fail
        (with_reducible refine (stringO_hid.out _ Tb _ _ H7.out.1).mono ?_)
        rintro e w8 ⟨rfl, k8⟩
        have b8 := H7.out.2.trans (k8.below (fun _ _ e => e.1) hT7)
        have HE : Hid (Value.string ⟨(H ++ [47, 62]).toArray⟩ = .string P) := Lib.hid (by
          rw [← text_is (T := P) (by rw [HP.out]; unfold startT; rw [H5.out.2.2]; simp)])
        clear k8 H7
        go_wp2
        go_ret
        exact ⟨congrArg Ending.returned HE.out, by rw [HTb.out]; exact b8⟩
      | false =>
        go_wp2_with fail
        (with_reducible refine (CG.out _ Tb _ _ H5.out.1 hTw (by have h9 : (⟨#[62]⟩ : ByteArray).size = 1 := rfl; have h8 : (⟨#[47]⟩ : ByteArray).size = 1 := rfl; omega)).mono ?_)
        rintro e w7 ⟨rfl, bo7, k7⟩
        have b7 := H5.out.2.1.trans (wrB_below k7 (Nat.le_succ _) hTw)
        have hT7 : Tb ≤ w7.heap.size := Nat.le_trans hTw k7.size
        have H7 := Lib.hid (And.intro bo7 b7)
        clear bo7 b7 k7 CG e4
        go_wp2_with fail
        (with_reducible refine (stringO_hid.out _ Tb _ _ H7.out.1).mono ?_)
        rintro e w8 ⟨rfl, k8⟩
        have b8 := H7.out.2.trans (k8.below (fun _ _ e => e.1) hT7)
        have HE : Hid (Value.string ⟨(H ++ [62]).toArray⟩ = .string P) := Lib.hid (by
          rw [← text_is (T := P) (by rw [HP.out]; unfold startT; rw [H5.out.2.2]; simp)])
        clear k8 H7
        go_wp2
        go_ret
        exact ⟨congrArg Ending.returned HE.out, by rw [HTb.out]; exact b8⟩

end Go.Proofs.YtgbilfbonliipaaGreatDoor
