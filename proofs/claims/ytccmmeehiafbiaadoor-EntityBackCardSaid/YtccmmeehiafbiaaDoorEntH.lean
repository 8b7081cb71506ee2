/- The document's Decode and Encode. -/
import Derived.Test.YtccmmeehiafbiaaDoorEntG
import Derived.Test.YtccmmeehiafbiaaDoorEntE
namespace Go.Proofs.YtccmmeehiafbiaaDoor
open Go.RowKit

theorem semi_38 (r : List UInt8) : semi (38 :: r) = (semi r).map (· + 1) := by
  show (if (38 : UInt8) = 59 then some 0 else (semi r).map (· + 1)) = _
  rw [if_neg (by decide)]
/-- A sign's text at a place, as the document finds it. -/
theorem first_end (r : List UInt8) (h : endI (38 :: r) = -1) : firstM (38 :: r) = none := by
  rw [first_amp]
  cases hs : semi r with
  | none => rfl
  | some j =>
    simp only
    rw [show signM (r.take j) = none from sign_long (by
      rw [List.length_take]
      have hj := (semi_lt hs).1
      by_cases h11 : j < 11
      · exfalso
        unfold endI at h
        rw [semi_take, semi_38, hs] at h
        have h12 : j + 1 < 12 := by omega
        simp [h12] at h
        omega
      · omega)]
    rfl
theorem end_at (r : List UInt8) (h : endI (38 :: r) ≠ -1) : ∃ j, semi r = some j ∧ endI (38 :: r) = ((j + 1 : Nat) : Int) ∧ j < r.length ∧ j < 11 := by
  unfold endI at h ⊢
  rw [semi_take, semi_38] at h ⊢
  cases hs : semi r with
  | none => rw [hs] at h; simp at h
  | some j =>
    rw [hs] at h
    have hj := (semi_lt hs).1
    by_cases h11 : j < 11
    · have h12 : j + 1 < 12 := by omega
      exact ⟨j, rfl, by simp [h12], hj, h11⟩
    · have h12 : ¬ j + 1 < 12 := by omega
      simp [h12] at h
theorem cat_list (a b : ByteArray) : (a ++ b).data.toList = a.data.toList ++ b.data.toList := by simp
theorem add_cat (S T : ByteArray) (hl : S.size + T.size ≤ 9223372036854775807) : ∀ W, (Op.stringOp .add S T).run Tryd.prog W = .ok (.string (S ++ T)) W := add_to S T (S ++ T) (cat_list S T) hl
theorem slice_at1 (L U : ByteArray) (pos K : Nat) (hK : 1 ≤ K) (hj : pos + K ≤ L.size) (h : U.data.toList = (L.data.toList.drop (pos + 1)).take (K - 1)) : ∀ W, (Instr.slice 9 (.string L) (some (.int .i64 ((pos : Int) + 1))) (some (.int .i64 ((pos : Int) + (K : Int)))) none).run Tryd.prog W = .ok (.string U) W := by
  have := slice_mid L U (pos + 1) (pos + K) (by omega) hj (by rw [h, show pos + K - (pos + 1) = K - 1 by omega])
  rw [show ((pos + 1 : Nat) : Int) = (pos : Int) + 1 by omega, show ((pos + K : Nat) : Int) = (pos : Int) + (K : Int) by omega] at this
  exact this
theorem slice_one' (L U : ByteArray) (k : Nat) (c : UInt8) (hk : L.data.toList[k]? = some c) (h : U.data.toList = [c]) : ∀ W, (Instr.slice 9 (.string L) (some (.int .i64 (k : Int))) (some (.int .i64 ((k : Int) + 1))) none).run Tryd.prog W = .ok (.string U) W := by
  obtain ⟨h1, h2⟩ := List.getElem?_eq_some_iff.1 hk
  have hk' : k < L.size := by rw [← lsize]; exact h1
  have := slice_mid L U k (k + 1) (by omega) hk' (by rw [h, List.drop_eq_getElem_cons h1, h2, show k + 1 - k = 1 by omega]; rfl)
  rw [show ((k + 1 : Nat) : Int) = (k : Int) + 1 by omega] at this
  exact this

set_option maxRecDepth 100000 in
set_option maxHeartbeats 8000000 in
theorem refDecode_any (s : ByteArray) (hs : s.size ≤ 100000) (w : World) :
    Calls Tryd.prog 10 #[.string s] w fun e w' => ∃ v, e = .returned (.tuple #[.string ⟨(decT 0 s.data.toList).1.toArray⟩, v]) ∧ w'.ownsRow w.heap.size 34 2 v (decT 0 s.data.toList).2.length (failCs (decT 0 s.data.toList).2) ∧ Below w.heap.size w w' := by
  obtain ⟨i1, hi1, hy0, hy1, hy2⟩ := info_parts Tinfo34
  go_enter Tryd.func10, Tryd.ntmps10
  go_wp2
  go_loopw [4, 5, 6] (fun v u i wr => ∃ (pos : Nat) (O : ByteArray) (facc : List Nat), i = .int .i64 pos ∧ v = .string O ∧ pos ≤ s.size ∧ wr.ownsRow w.heap.size 34 2 u facc.length (failCs facc) ∧ Below w.heap.size w wr ∧ Hid (decT 0 s.data.toList = (O.data.toList ++ (decT pos (s.data.toList.drop pos)).1, facc ++ (decT pos (s.data.toList.drop pos)).2)) ∧ O.size ≤ pos ∧ facc.length ≤ pos) (fun _ _ i _ => s.size - (intOf i).toNat)
  case atStart => exact ⟨0, ⟨#[]⟩, [], rfl, rfl, Nat.zero_le _, World.ownsRow_nil _ _ _ _, Below.refl _ _, Lib.hid rfl, Nat.le_refl _, Nat.le_refl _⟩
  case round =>
    obtain ⟨pos, O, facc, rfl, rfl, hp, hfow, hb, HS, hlo, hlf⟩ := hrel
    by_cases hlt : pos < s.size
    · have hpl : pos < s.data.toList.length := by rw [lsize]; exact hlt
      have hdr := dec_place s.data.toList pos hpl
      obtain ⟨c, hc⟩ : ∃ c, s.data.toList[pos]? = some c := ⟨_, List.getElem?_eq_getElem hpl⟩
      have hg : s.data.toList[pos] = c := by rw [List.getElem?_eq_getElem hpl] at hc; exact Option.some.inj hc
      rw [hg] at hdr
      have i0 := index_at s pos c hc
      obtain ⟨R, hR⟩ := text_of (s.data.toList.drop pos)
      have s1 := slice_from s R pos hp hR
      have hRs : R.size = s.size - pos := by rw [← lsize, hR, List.length_drop, lsize]
      obtain ⟨kk, hkk⟩ : ∃ kk, endI R.data.toList = kk := ⟨_, rfl⟩
      have CE := end_hid R (by omega) kk hkk
      rw [hR, hdr] at hkk
      obtain ⟨U, hU⟩ : ∃ U : ByteArray, U.data.toList = [c] := ⟨⟨#[c]⟩, rfl⟩
      have s2 := slice_one' s U pos c hc hU
      have hUs : U.size = 1 := by rw [← lsize, hU]; rfl
      have a1 := add_cat O U (by omega)
      have HU := Lib.hid hU
      have HDR := Lib.hid hdr
      have hsz := hb.size
      -- where no sign's text begins
      have HPL : Hid (firstM (c :: s.data.toList.drop (pos + 1)) = none → decT 0 s.data.toList = ((O ++ U).data.toList ++ (decT (pos + 1) (s.data.toList.drop (pos + 1))).1, facc ++ (decT (pos + 1) (s.data.toList.drop (pos + 1))).2)) := Lib.hid (fun hn => by
        rw [HS.out, hdr, decT_plain pos c _ hn, cat_list, hU]
        simp)
      have hou : (O ++ U).size ≤ pos + 1 := by rw [← lsize, cat_list, List.length_append, lsize, lsize]; omega
      clear hR hg hpl hU hdr
      by_cases h38 : c = 38
      · subst h38
        have i0 : ∀ W, (Instr.index 9 (.string s) (.int .i64 (pos : Int))).run Tryd.prog W = .ok (.int .u8 38) W := i0
        by_cases hneg : endI (38 :: s.data.toList.drop (pos + 1)) = -1
        · obtain rfl : kk = -1 := hkk.symm.trans hneg
          have HN := Lib.hid (HPL.out (first_end _ hneg))
          clear hneg hkk HPL HS
          go_wp2_with fail
          (with_reducible refine (CE.out _).mono ?_)
          rintro e wr ⟨rfl, rfl⟩
          go_wp2
          go_roundw
          case rel => exact ⟨pos + 1, O ++ U, facc, by go_num, rfl, by omega, hfow, hb, HN, hou, by omega⟩
          case measure => simp [intOf]; omega
        · obtain ⟨j, hj1, hj2, hj3, hj4⟩ := end_at _ hneg
          rw [List.length_drop, lsize] at hj3
          obtain ⟨K, hK⟩ : ∃ K, K = j + 1 := ⟨_, rfl⟩
          rw [← hK] at hj2
          obtain rfl : kk = (K : Int) := hkk.symm.trans hj2
          obtain ⟨I, hI⟩ := text_of ((s.data.toList.drop (pos + 1)).take j)
          have s3 := slice_at1 s I pos K (by omega) (by omega) (by rw [hI, show K - 1 = j by omega])
          have hIs : I.size = j := by rw [← lsize, hI, List.length_take, List.length_drop, lsize]; omega
          have CS := refSign_hid I (by omega)
          have hKj : K ≤ 11 := by omega
          have hKp : pos + K + 1 ≤ s.size := by omega
          have z1 : (0 : Int) < (K : Int) := by omega
          have HF : Hid (firstM (38 :: s.data.toList.drop (pos + 1)) = (signM I.data.toList).map fun p => (p.1, p.2, K + 1)) := Lib.hid (by
            rw [first_amp, hj1]
            simp only
            rw [hI, hK])
          clear hneg hkk hj1 hj2 hj3 hj4 hI hIs hK
          go_wp2_with fail
          (with_reducible refine (CE.out _).mono ?_)
          rintro e wr ⟨rfl, rfl⟩
          go_wp2_with fail
          (with_reducible refine (CS.out _).mono ?_)
          rintro e w1 ⟨T, ok, bad, rfl, b1, hv⟩
          have hfow1 := ownsRow_below hfow b1
          have hb1 := hb.trans (b1.mono hsz)
          have hsz1 := hb1.size
          clear hfow hb b1
          rcases hv with ⟨hn, rfl⟩ | ⟨hn, rfl, rfl⟩
          · have hfm : firstM (38 :: s.data.toList.drop (pos + 1)) = some (T.data.toList, bad, K + 1) := by rw [HF.out, hn]; rfl
            have hl := first_len hfm
            rw [lsize] at hl
            obtain ⟨hk4, hk10, hks, ht1, htk⟩ := hl
            have a2 := add_cat O T (by omega)
            have hot : (O ++ T).size ≤ pos + K + 1 := by rw [← lsize, cat_list, List.length_append, lsize, lsize]; omega
            have HN : Hid (decT 0 s.data.toList = ((O ++ T).data.toList ++ (decT (pos + K + 1) (s.data.toList.drop (pos + K + 1))).1, (facc ++ (if bad = true then [pos] else [])) ++ (decT (pos + K + 1) (s.data.toList.drop (pos + K + 1))).2)) := Lib.hid (by
              rw [← HDR.out] at hfm
              rw [HS.out, decT_sign pos hfm, List.drop_drop, cat_list, show pos + (K + 1) = pos + K + 1 by omega]
              simp)
            clear hn hfm HF HPL HS HDR HU
            cases bad with
            | true =>
              go_wp2_with (at_builtin; refine wpList_append_own _ rfl _ _ 22 rfl w.heap.size 34 i1 (.agg #[.int .i64 0, .int .i64 0]) 2 16 Tryd.underlying22 hi1 hy0 hy1 hy2 rfl (by decide) _ _ _ rfl (hfow1.alloc _) ⟨w1.heap.size, 0, none⟩ 1 1 [.int .i64 130, .int .i64 (pos : Int)] rfl rfl (cells_new w1 [.int .i64 130, .int .i64 (pos : Int)] 34) (fun x hx => by simp at hx; rcases hx with rfl | rfl <;> rfl) (by unfold maxLen; omega) (by omega) (by simp; omega) ?_; intro v5 w5 hfow5 hgrow5 hnil5
                           have hb5 : Below w.heap.size w w5 := Below.grown (hb1.alloc hsz1 _) hgrow5 (by simp; omega) (fun j hj => (hfow1.lt _ hj).1)
                           clear hgrow5 hnil5)
              have hfow7 : w5.ownsRow w.heap.size 34 2 v5 (facc ++ [pos]).length (failCs (facc ++ [pos])) := by rw [failCs_snoc, List.length_append]; exact hfow5
              clear hfow5
              go_roundw
              case rel => exact ⟨pos + K + 1, O ++ T, facc ++ [pos], by go_num, rfl, by omega, hfow7, hb5, HN, hot, by rw [List.length_append]; simp; omega⟩
              case measure => simp [intOf]; omega
            | false =>
              go_wp2
              go_roundw
              case rel => exact ⟨pos + K + 1, O ++ T, facc, by go_num, rfl, by omega, hfow1, hb1, Lib.hid (by simpa using HN.out), hot, by omega⟩
              case measure => simp [intOf]; omega
          · have HN := Lib.hid (HPL.out (by rw [HF.out, hn]; rfl))
            clear hn HF HPL HS HDR HU
            go_wp2
            go_roundw
            case rel => exact ⟨pos + 1, O ++ U, facc, by go_num, rfl, by omega, hfow1, hb1, HN, hou, by omega⟩
            case measure => simp [intOf]; omega
      · have g1 : ((c.toNat : Int) == 38) = false := by rw [beq_eq_false_iff_ne]; exact fun h => h38 (byte_is (d := 38) h)
        have HN := Lib.hid (HPL.out (first_plain c _ h38))
        clear h38 hkk HPL HS
        go_wp2_with fail
        (with_reducible refine (CE.out _).mono ?_)
        rintro e wr ⟨rfl, rfl⟩
        go_wp2
        go_roundw
        case rel => exact ⟨pos + 1, O ++ U, facc, by go_num, rfl, by omega, hfow, hb, HN, hou, by omega⟩
        case measure => simp [intOf]; omega
    · obtain rfl : pos = s.size := by omega
      have HE : Hid (decT 0 s.data.toList = (O.data.toList, facc)) := Lib.hid (by
        rw [HS.out, show s.data.toList.drop s.size = [] by rw [← lsize]; simp, decT_nil]
        simp)
      clear HS
      go_wp2
      go_ret2
      exact ⟨_, by rw [HE.out]; rfl, by rw [HE.out]; exact hfow, hb⟩

theorem encT_step' (l : List UInt8) (k : Nat) (c : UInt8) (h : l[k]? = some c) : encT (l.take (k + 1)) = encT (l.take k) ++ encB c := by
  obtain ⟨h1, h2⟩ := List.getElem?_eq_some_iff.1 h
  rw [List.take_succ_eq_append_getElem h1, encT_append, encT_one, h2]

set_option maxRecDepth 100000 in
set_option maxHeartbeats 8000000 in
theorem refEncode_any (s : ByteArray) (hs : s.size ≤ 100000) (w : World) :
    Calls Tryd.prog 16 #[.string s] w fun e w' => e = .returned (.string ⟨(encT s.data.toList).toArray⟩) ∧ w' = w := by
  go_enter Tryd.func16, Tryd.ntmps16
  go_wp2
  go_loop [3, 4] (fun v i => ∃ (k : Nat) (O : ByteArray), i = .int .i64 k ∧ v = .string O ∧ k ≤ s.size ∧ Hid (O.data.toList = encT (s.data.toList.take k)) ∧ O.size ≤ 6 * k) (fun _ i => s.size - (intOf i).toNat)
  case atStart => exact ⟨0, ⟨#[]⟩, rfl, rfl, Nat.zero_le _, Lib.hid rfl, by decide⟩
  case round =>
    obtain ⟨k, O, rfl, rfl, hk, HS, hlo⟩ := hrel
    by_cases hlt : k < s.size
    · have hkl : k < s.data.toList.length := by rw [lsize]; exact hlt
      obtain ⟨c, hc⟩ : ∃ c, s.data.toList[k]? = some c := ⟨_, List.getElem?_eq_getElem hkl⟩
      have i0 := index_at s k c hc
      have hst := encT_step' s.data.toList k c hc
      obtain ⟨U, hU⟩ : ∃ U : ByteArray, U.data.toList = encB c := ⟨⟨(encB c).toArray⟩, rfl⟩
      have hUl := encB_len c
      have hUs : U.size ≤ 6 := by rw [← lsize, hU]; omega
      have a1 := add_cat O U (by omega)
      have HN : Hid ((O ++ U).data.toList = encT (s.data.toList.take (k + 1))) := Lib.hid (by rw [hst, cat_list, HS.out, hU])
      have hou : (O ++ U).size ≤ 6 * (k + 1) := by rw [← lsize, cat_list, List.length_append, lsize, lsize]; omega
      clear hkl HS hst hUl
      by_cases h38 : c = 38
      · subst h38
        have i0 : ∀ W, (Instr.index 9 (.string s) (.int .i64 (k : Int))).run Tryd.prog W = .ok (.int .u8 38) W := i0
        obtain rfl : U = ⟨#[38, 97, 109, 112, 59]⟩ := text_is hU
        clear hc hU
        go_wp2
        go_round
        case rel => exact ⟨k + 1, _, by go_num, rfl, by omega, HN, hou⟩
        case measure => simp [intOf]; omega
      by_cases h60 : c = 60
      · subst h60
        have i0 : ∀ W, (Instr.index 9 (.string s) (.int .i64 (k : Int))).run Tryd.prog W = .ok (.int .u8 60) W := i0
        obtain rfl : U = ⟨#[38, 108, 116, 59]⟩ := text_is hU
        clear hc hU
        go_wp2
        go_round
        case rel => exact ⟨k + 1, _, by go_num, rfl, by omega, HN, hou⟩
        case measure => simp [intOf]; omega
      by_cases h62 : c = 62
      · subst h62
        have i0 : ∀ W, (Instr.index 9 (.string s) (.int .i64 (k : Int))).run Tryd.prog W = .ok (.int .u8 62) W := i0
        obtain rfl : U = ⟨#[38, 103, 116, 59]⟩ := text_is hU
        clear hc hU
        go_wp2
        go_round
        case rel => exact ⟨k + 1, _, by go_num, rfl, by omega, HN, hou⟩
        case measure => simp [intOf]; omega
      by_cases h34 : c = 34
      · subst h34
        have i0 : ∀ W, (Instr.index 9 (.string s) (.int .i64 (k : Int))).run Tryd.prog W = .ok (.int .u8 34) W := i0
        obtain rfl : U = ⟨#[38, 113, 117, 111, 116, 59]⟩ := text_is hU
        clear hc hU
        go_wp2
        go_round
        case rel => exact ⟨k + 1, _, by go_num, rfl, by omega, HN, hou⟩
        case measure => simp [intOf]; omega
      by_cases h39 : c = 39
      · subst h39
        have i0 : ∀ W, (Instr.index 9 (.string s) (.int .i64 (k : Int))).run Tryd.prog W = .ok (.int .u8 39) W := i0
        obtain rfl : U = ⟨#[38, 97, 112, 111, 115, 59]⟩ := text_is hU
        clear hc hU
        go_wp2
        go_round
        case rel => exact ⟨k + 1, _, by go_num, rfl, by omega, HN, hou⟩
        case measure => simp [intOf]; omega
      have e : encB c = [c] := encB_other h38 h60 h62 h34 h39
      rw [e] at hU
      have s2 := slice_one' s U k c hc hU
      have g1 : ((c.toNat : Int) == 38) = false := by rw [beq_eq_false_iff_ne]; exact fun h => h38 (byte_is (d := 38) h)
      have g2 : ((c.toNat : Int) == 60) = false := by rw [beq_eq_false_iff_ne]; exact fun h => h60 (byte_is (d := 60) h)
      have g3 : ((c.toNat : Int) == 62) = false := by rw [beq_eq_false_iff_ne]; exact fun h => h62 (byte_is (d := 62) h)
      have g4 : ((c.toNat : Int) == 34) = false := by rw [beq_eq_false_iff_ne]; exact fun h => h34 (byte_is (d := 34) h)
      have g5 : ((c.toNat : Int) == 39) = false := by rw [beq_eq_false_iff_ne]; exact fun h => h39 (byte_is (d := 39) h)
      clear h38 h60 h62 h34 h39 e hU hc
      go_wp2
      go_round
      case rel => exact ⟨k + 1, O ++ U, by go_num, rfl, by omega, HN, hou⟩
      case measure => simp [intOf]; omega
    · obtain rfl : k = s.size := by omega
      have HE : Hid (O = ⟨(encT s.data.toList).toArray⟩) := Lib.hid (text_is (by rw [HS.out, ← lsize, List.take_length]))
      clear HS
      go_wp2
      go_ret
      exact ⟨congrArg (fun x => Ending.returned (Value.string x)) HE.out, rfl⟩

end Go.Proofs.YtccmmeehiafbiaaDoor
