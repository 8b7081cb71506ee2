/- Decode: the document's. -/
import Derived.Test.YteagchgoiofjgaaDoorWalkH
namespace Go.Proofs.YteagchgoiofjgaaDoor
open Go.RowKit

theorem slice_eight (g N c P : Nat) (h : P + 8 ≤ c) : ∀ W, (Instr.slice 33 (.slice (some ⟨g, 0, none⟩) N c) (some (.int .i64 (P : Int))) (some (.int .i64 ((P : Int) + 8))) none).run Tryd.prog W = .ok (.slice (some ⟨g, P, none⟩) 8 (c - P)) W := fun W => by
  have e : ((P : Int) + 8) = ((P + 8 : Nat) : Int) := rfl
  rw [e]
  have key : ∀ Q : Nat, Q = P + 8 → (Instr.slice 33 (.slice (some ⟨g, 0, none⟩) N c) (some (.int .i64 (P : Int))) (some (.int .i64 (Q : Int))) none).run Tryd.prog W = .ok (.slice (some ⟨g, P, none⟩) (Q - P) (c - P)) W := fun Q hQ => by
    have h1 : Q ≤ c := by omega
    have h2 : P ≤ Q := by omega
    have h3 : c ≠ P := by omega
    simp [Instr.slice, run_underlying Tryd.underlying33, Instr.sliceBounds, run_sliceBound, h1, h2, h3, Addr.add]
    exact fun h => h.symm
  have := key (P + 8) rfl
  rw [Nat.add_sub_cancel_left] at this
  exact this
theorem slice_tail (g N c P : Nat) (h : P ≤ N) (_ : N ≤ c) (o : Nat) (ho : o = if c = P then 0 else P) : ∀ W, (Instr.slice 33 (.slice (some ⟨g, 0, none⟩) N c) (some (.int .i64 (P : Int))) none none).run Tryd.prog W = .ok (.slice (some ⟨g, o, none⟩) (N - P) (c - P)) W := fun W => by
  subst ho
  by_cases h3 : c = P
  · simp [Instr.slice, run_underlying Tryd.underlying33, Instr.sliceBounds, run_sliceBound, h, h3]
  · simp [Instr.slice, run_underlying Tryd.underlying33, Instr.sliceBounds, run_sliceBound, h, h3, Addr.add]
    exact fun h => h.symm
theorem flat8_piece (E : List Nat) (r : List Bool) (k x : Nat) (h : E[k]? = some x) : flat 8 E ++ r = flat 8 (E.take k) ++ (bitsN 8 x ++ (flat 8 (E.drop (k + 1)) ++ r)) := by
  have hk := List.getElem?_eq_some_iff.1 h
  have hd : E.drop k = x :: E.drop (k + 1) := by rw [List.drop_eq_getElem_cons hk.1, hk.2]
  rw [← List.append_assoc (bitsN 8 x), ← flat_cons, ← hd, ← List.append_assoc, ← flat_append, List.take_append_drop]
theorem head_hid (s : ByteArray) (hs : s.size ≤ 1099511627776) : Hid (∀ W, Calls Tryd.prog 24 #[.string s] W fun e w' => (∃ T : ByteArray, e = .returned (.string T) ∧ Head s.data.toList T.data.toList) ∧ w' = W) :=
  Lib.hid fun W => head_any s hs W
theorem refForm_hid (s : ByteArray) (hs : s.size ≤ 1099511627776) (b : Bool) (hb : formM s.data.toList = b) : Hid (∀ W, Calls Tryd.prog 15 #[.string s] W fun e w' => e = .returned (.bool b) ∧ w' = W) :=
  Lib.hid fun W => by rw [← hb]; exact refForm_any s hs W

set_option maxRecDepth 100000 in
set_option maxHeartbeats 4000000 in
theorem refDecode_any (s : ByteArray) (hs : s.size ≤ 100000) (T : ByteArray) (b : Bool) (hT : (T.data.toList, b) = decM s.data.toList) (w : World) :
    Calls Tryd.prog 13 #[.string s] w fun e w' => e = .returned (.tuple #[.string T, .bool b]) ∧ Below w.heap.size w w' := by
  unfold decM at hT
  by_cases h0 : s.data.toList = []
  · have g : s.toList.isEmpty = true := by rw [text_empty, h0]; rfl
    rw [if_pos h0] at hT
    obtain ⟨h1, rfl⟩ := Prod.mk.inj hT
    obtain rfl : T = ⟨#[]⟩ := text_is h1
    clear hT h1 h0
    go_enter Tryd.func13, Tryd.ntmps13
    go_wp2
    go_ret2
    exact ⟨rfl, Below.refl _ _⟩
  have g : s.toList.isEmpty = false := by
    rw [text_empty]
    cases h : s.data.toList with
    | nil => exact absurd h h0
    | cons => rfl
  rw [if_neg h0] at hT
  by_cases h1 : formM s.data.toList = false
  · rw [if_pos h1] at hT
    obtain ⟨h2, rfl⟩ := Prod.mk.inj hT
    obtain rfl : T = ⟨#[]⟩ := text_is h2
    have CF := refForm_hid s (by omega) false h1
    clear hT h1 h0 h2
    go_enter Tryd.func13, Tryd.ntmps13
    go_wp2_with fail
    refine (CF.out _).mono ?_
    rintro e w' ⟨rfl, rfl⟩
    go_wp2
    go_ret2
    exact ⟨rfl, Below.refl _ _⟩
  rw [if_neg h1] at hT
  have hform : formM s.data.toList = true := by simpa using h1
  have CF := refForm_hid s (by omega) true hform
  have CH := head_hid s (by omega)
  have HFORM := Lib.hid hform
  have HTT := Lib.hid hT
  obtain ⟨i0, hi, hz0, hz1, hz2⟩ := info_parts Tinfo4
  clear hT h1 h0 hform
  go_enter Tryd.func13, Tryd.ntmps13
  go_wp2_with fail
  refine (CF.out _).mono ?_
  rintro e w ⟨rfl, rfl⟩
  go_wp2_with fail
  refine (CH.out _).mono ?_
  rintro e w ⟨⟨D, rfl, hD⟩, rfl⟩
  have hd := head_is hD HFORM.out
  have hgood : good D.data.toList = true := by
    have := HFORM.out
    unfold formM at this
    rw [hd] at this
    simp only [Bool.and_eq_true] at this
    exact this.2
  have hDne : 0 < D.size := by
    have := HFORM.out
    unfold formM at this
    rw [hd] at this
    rw [← lsize]
    cases h : D.data.toList with
    | nil => rw [h] at this; simp at this
    | cons => simp
  have hDs : D.size ≤ s.size := by rw [← lsize D, ← lsize s, ← hd]; exact hd_le _
  have hT := HTT.out
  rw [hd, lsize, lsize] at hT
  have HG := Lib.hid (good_mem hgood)
  have HT := Lib.hid hT
  clear hT hd hD hgood HTT HFORM CF CH
  go_wp2
  go_loopw [5, 6, 7] (fun v i _ wr => ∃ k : Nat, i = .int .i64 k ∧ k ≤ D.size ∧ wr.ownsRow w.heap.size 4 1 v (6 * k) (boolCells (flat 6 ((D.data.toList.take k).map valN))) ∧ Below w.heap.size w wr) (fun _ i _ _ => D.size - (intOf i).toNat)
  case atStart => exact ⟨0, rfl, Nat.zero_le _, World.ownsRow_nil w w.heap.size 4 1, Below.refl _ _⟩
  case round =>
    obtain ⟨k, rfl, hk, hown, hb⟩ := hrel
    by_cases hlt : k < D.size
    · have hH : Hid (boolCells (flat 6 ((D.data.toList.take (k + 1)).map valN)) = boolCells (flat 6 ((D.data.toList.take k).map valN)) ++ boolCells (bitsN 6 (valN D[k]))) := Lib.hid (by
        rw [take_snoc hlt, List.map_append, flat_append, boolCells_append]; rfl)
      have h0 := HG.out D[k] (List.getElem_mem (by rw [lsize]; exact hlt))
      have D1 := value_hid D[k] (valN D[k] : Int) (valN_int h0).symm
      have hv64 := valN_lt D[k]
      have C := bits_six (valN D[k]) (by omega)
      have hHl : (boolCells (bitsN 6 (valN D[k]))).length = 6 * 1 := by rw [boolCells_length, bitsN_length]
      have hHo := bool_one (l := bitsN 6 (valN D[k]))
      generalize boolCells (flat 6 ((D.data.toList.take k).map valN)) = A at *
      clear h0
      generalize valN D[k] = x at *
      go_wp2_with fail
      with_reducible refine (D1.out _).mono ?_
      rintro e w' ⟨rfl, rfl⟩
      go_wp2_with fail
      with_reducible refine (C.out _).mono ?_
      rintro e w1 ⟨⟨g, c, rfl, hbn⟩, b1⟩
      have hnews := hbn.news
      have hown1 := ownsRow_below hown b1
      have B1 := hb.trans (b1.mono hb.size)
      clear hbn b1 hb hown
      generalize boolCells (bitsN 6 x) = Z at *
      go_wp2_with (at_builtin; refine wpList_append_own _ rfl _ _ 33 rfl w.heap.size 4 i0 (.bool false) 1 1 Tryd.underlying33 hi hz0 hz1 hz2 rfl (by decide) _ _ _ rfl hown1 ⟨g, 0, none⟩ 6 c Z rfl hHl hnews hHo (by unfold maxLen; omega) (by omega) B1.size ?_; intro v' w3 hown' hgrow3 hnil3
                   have hbw3 : Below w.heap.size w w3 := Below.grown B1 hgrow3 B1.size (fun j hj => by have := (hown1.lt _ hj).1; omega)
                   have X : Aside (w3.ownsRow w.heap.size 4 1 v' (6 * k + 6) (A ++ Z) ∧ Below w.heap.size w w3) := ⟨hown', hbw3⟩
                   clear hown' hgrow3 hnil3)
      go_roundw
      case rel => exact ⟨k + 1, by go_num, by omega, by rw [hH.out]; exact X.out.1, X.out.2⟩
      case measure => simp [intOf]; omega
    · obtain rfl : k = D.size := by omega
      obtain ⟨wo, rfl⟩ : ∃ wo : World, wo = wr := ⟨_, rfl⟩
      rw [take_all] at hown
      have hb6 : flat 6 (D.data.toList.map valN) = bits6 D.data.toList := rfl
      rw [hb6] at hown
      obtain ⟨g1, g2, g3⟩ := grp_spec 8 (by decide) (bits6 D.data.toList)
      have hT := HT.out
      have hlen : (bits6 D.data.toList).length = 6 * D.size := by unfold bits6; rw [flat_length, List.length_map, lsize]
      have hBI : BoolsIn wo u5 (bits6 D.data.toList) := BoolsIn.of_row (base := w.heap.size) (by rw [hlen]; exact hown)
      obtain ⟨gg, c, rfl, hNc⟩ : ∃ gg c, u5 = .slice (some ⟨gg, 0, none⟩) (6 * D.size) c ∧ 6 * D.size ≤ c := by
        rcases rowCap hown with ⟨_, h⟩ | ⟨g, cap, rfl, hcap⟩
        · omega
        · exact ⟨g, cap, rfl, hcap⟩
      generalize grp 8 (bits6 D.data.toList) = p at *
      obtain ⟨m, r⟩ := p
      simp only at g1 g2 g3 hT
      have hl2 := congrArg List.length g1
      rw [hlen, List.length_append, flat_length] at hl2
      rw [g1] at hBI
      obtain ⟨N, hN⟩ : ∃ N, N = 6 * D.size := ⟨_, rfl⟩
      obtain ⟨M, hM⟩ : ∃ M, M = m.length := ⟨_, rfl⟩
      obtain ⟨L, hL⟩ : ∃ L, L = r.length := ⟨_, rfl⟩
      obtain ⟨H, hH⟩ : ∃ H, H = num r := ⟨_, rfl⟩
      rw [← hL, ← hH] at hT
      rw [← hN] at hNc hBI hl2 ⊢
      rw [← hL] at g2
      rw [← hM, ← hL] at hl2
      have hq : (N : Int) / 8 = (M : Int) := by omega
      obtain ⟨Q, hQ⟩ : ∃ Q, Q = 8 * M := ⟨_, rfl⟩
      have hq8 : (8 : Int) * (M : Int) = (Q : Int) := by omega
      have hsl := slice_tail gg N c Q (by omega) hNc _ rfl
      have hNL : N - Q = L := by omega
      rw [hNL] at hsl
      have hBr : BoolsIn wo (.slice (some ⟨gg, if c = Q then 0 else Q, none⟩) L (c - Q)) r := by
        by_cases hr0 : L = 0
        · have : r = [] := List.length_eq_zero_iff.1 (by omega)
          subst this
          subst hr0
          exact .inl ⟨⟨_, _, rfl⟩, rfl⟩
        · rw [if_neg (by omega)]
          exact hBI.piece (flat 8 m) r [] (by simp) _ (by rw [flat_length]; omega) _ hL _
      have hH8 : H ≤ 127 := by rw [hH]; exact num_127 (Nat.le_refl _) (by omega)
      have CN := num_any r _ wo hBr (by omega)
      rw [← hH] at CN
      have CN := Lib.hid CN
      have HBI := Lib.hid hBI
      have H256 := Lib.hid g3
      have HM := Lib.hid hM
      have hMN : 8 * M ≤ N := by omega
      have hNz : N ≤ 600000 := by omega
      generalize (if c = Q then 0 else Q) = o at *
      have HNN := Lib.hid hN
      clear hBr hBI g1 g2 g3 hM hL hH hQ hN hNL hl2 hlen hown HT hb6 HG i0 hi hz0 hz1 hz2
      by_cases hr : 6 ≤ L ∨ H ≠ 0
      · by_cases hcut : D.size < s.size ∧ s.size % 4 ≠ 0
        all_goals
          first
            | rw [if_pos hcut] at hT
            | rw [if_neg hcut, if_pos hr] at hT
          by_cases y1 : (6 : Int) ≤ (L : Int)
          · clear hr hcut
            obtain ⟨h3, rfl⟩ := Prod.mk.inj hT
            obtain rfl : T = ⟨#[]⟩ := text_is h3
            clear hT h3
            go_wp2_with (go_at_call 21; (with_reducible refine CN.out.mono ?_); rintro e w' ⟨rfl, rfl⟩)
            go_ret2
            exact ⟨rfl, hb⟩
          · have y2 : ((H : Int) != 0) = true := by rw [bne_iff_ne]; omega
            clear hr hcut
            obtain ⟨h3, rfl⟩ := Prod.mk.inj hT
            obtain rfl : T = ⟨#[]⟩ := text_is h3
            clear hT h3
            go_wp2_with (go_at_call 21; (with_reducible refine CN.out.mono ?_); rintro e w' ⟨rfl, rfl⟩)
            go_ret2
            exact ⟨rfl, hb⟩
      · have y1 : ¬ (6 : Int) ≤ (L : Int) := by omega
        have y2 : ((H : Int) != 0) = false := by rw [bne_eq_false_iff_eq]; omega
        by_cases hcut : D.size < s.size ∧ s.size % 4 ≠ 0
        · rw [if_pos hcut] at hT
          have y3 : (D.size : Int) < (s.size : Int) := by omega
          have y4 : ((s.size : Int) % 4 != 0) = true := by rw [bne_iff_ne]; omega
          clear hr hcut
          obtain ⟨h3, rfl⟩ := Prod.mk.inj hT
          obtain rfl : T = ⟨#[]⟩ := text_is h3
          clear hT h3
          go_wp2_with (go_at_call 21; (with_reducible refine CN.out.mono ?_); rintro e w' ⟨rfl, rfl⟩)
          go_ret2
          exact ⟨rfl, hb⟩
        · rw [if_neg hcut, if_neg hr] at hT
          by_cases y3 : (D.size : Int) < (s.size : Int)
          all_goals
            try have y4 : ((s.size : Int) % 4 != 0) = false := by rw [bne_eq_false_iff_eq]; omega
            clear hr hcut
            obtain ⟨h3, rfl⟩ := Prod.mk.inj hT
            obtain ⟨i1, hi, hz0, hz1, hz2⟩ := info_parts Tinfo5
            have HT3 := Lib.hid h3
            clear hT h3
            go_wp2_with (go_at_call 21; (with_reducible refine CN.out.mono ?_); rintro e wo ⟨rfl, rfl⟩)
            go_loopw [10, 11] (fun v i wr => ∃ k : Nat, k ≤ M ∧ i = .int .i64 k ∧ wr.ownsRow wo.heap.size 5 1 v k (natCells (m.take k)) ∧ Below wo.heap.size wo wr) (fun _ i _ => M - (intOf i).toNat)
            case atStart => exact ⟨0, Nat.zero_le _, rfl, World.ownsRow_nil wo wo.heap.size 5 1, Below.refl _ _⟩
            case round =>
              obtain ⟨k, hk, rfl, hown, hbw⟩ := hrel
              by_cases hlt : k < M
              · have hlm : k < m.length := by have := HM.out; omega
                have hat : m[k]? = some m[k] := List.getElem?_eq_getElem hlm
                obtain ⟨P, hP⟩ : ∃ P, P = 8 * k := ⟨_, rfl⟩
                have hP8 : (8 : Int) * (k : Int) = (P : Int) := by omega
                have hsl2 := slice_eight gg N c P (by omega)
                have hfl := flat8_piece m r k _ hat
                have hp := (HBI.out.below hbw).piece _ _ _ hfl P (by rw [flat_length, List.length_take]; omega) 8 (bitsN_length 8 _).symm (c - P)
                have hx := H256.out _ (List.getElem_mem hlm)
                have hnx := num_bitsN 8 m[k] hx
                have C := num_any _ _ wr hp (by rw [bitsN_length]; decide)
                rw [hnx] at C
                have CC := Lib.hid C
                have hx255 : m[k] ≤ 255 := by omega
                have hsn : natCells (m.take (k + 1)) = natCells (m.take k) ++ [.int .u8 (m[k] : Int)] := by
                  rw [List.take_add_one, hat]; exact natCells_snoc _ _
                have HSN := Lib.hid hsn
                clear C hp hfl hat hnx hsn hx CN hsl hq hq8
                generalize natCells (m.take k) = A at *
                generalize m[k] = x at *
                have HP := Lib.hid hP
                have hP63 : P ≤ 600000 := by omega
                clear hP
                go_wp2_with (first
                  | (go_at_call 21; (with_reducible refine CC.out.mono ?_); rintro e wr ⟨rfl, rfl⟩)
                  | (at_builtin; refine wpList_append_own _ rfl _ _ 28 rfl wo.heap.size 5 i1 (.int .u8 0) 1 1 Tryd.underlying28 hi hz0 hz1 hz2 rfl (by decide) _ _ _ rfl (hown.alloc _) ⟨wr.heap.size, 0, none⟩ 1 1 [.int .u8 (x : Int)] rfl rfl (cell_one_new _ _ _) (fun x hx => by simp at hx; subst hx; rfl) (by unfold maxLen; omega) (by omega) (by have := hbw.size; simp; omega) ?_; intro v' w5 hown' hgrow5 hnil5
                     have hb5 : Below wo.heap.size wo w5 := Below.grown (hbw.alloc hbw.size _) hgrow5 (by have := hbw.size; simp; omega) (fun j hj => by have := (hown.lt _ hj).1; omega)
                     have X : Aside (w5.ownsRow wo.heap.size 5 1 v' (k + 1) (A ++ [.int .u8 (x : Int)]) ∧ Below wo.heap.size wo w5) := ⟨hown', hb5⟩
                     clear hown' hgrow5 hnil5))
                go_roundw
                case rel => exact ⟨k + 1, by omega, by go_num, by rw [HSN.out]; exact X.out.1, X.out.2⟩
                case measure => simp [intOf]; omega
              · obtain rfl : k = M := by omega
                have htk : m.take k = m := by rw [HM.out, List.take_length]
                rw [htk] at hown
                have hown2 : wr.ownsRow wo.heap.size 5 1 u10 m.length (natCells m) := by rw [← HM.out]; exact hown
                have hcv := conv_nats hown2 H256.out
                have et : (⟨(m.map Nat.toUInt8).toArray⟩ : ByteArray) = T := (text_is HT3.out).symm
                rw [et] at hcv
                have B2 := hb.trans (hbw.mono hb.size)
                clear htk hown hown2 et CN hsl hq hq8
                go_wp2
                go_ret2
                exact ⟨rfl, B2⟩
theorem refDecode_hid (s : ByteArray) (hs : s.size ≤ 100000) (T : ByteArray) (b : Bool) (hT : (T.data.toList, b) = decM s.data.toList) : Hid (∀ W, Calls Tryd.prog 13 #[.string s] W fun e w' => e = .returned (.tuple #[.string T, .bool b]) ∧ Below W.heap.size W w') :=
  Lib.hid fun W => refDecode_any s hs T b hT W

end Go.Proofs.YteagchgoiofjgaaDoor
