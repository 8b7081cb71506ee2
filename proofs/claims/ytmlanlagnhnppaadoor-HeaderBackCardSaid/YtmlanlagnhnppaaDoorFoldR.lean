/- Small letters, trimmed texts, words, parts, rows of texts: the document's. -/
import Derived.Test.YtmlanlagnhnppaaDoorFoldP
namespace Go.Proofs.YtmlanlagnhnppaaDoor
open Go.RowKit

theorem blk_int (c : UInt8) : blk c = decide ((c.toNat : Int) = 9 ∨ (c.toNat : Int) = 10 ∨ (c.toNat : Int) = 12 ∨ (c.toNat : Int) = 13 ∨ (c.toNat : Int) = 32) := by
  rw [Bool.eq_iff_iff]
  unfold blk
  simp [← UInt8.toNat_inj]
  omega

theorem refBlank_any (c : UInt8) (w : World) : Calls Tryd.prog 55 #[.int .u8 (c.toNat : Int)] w fun e w' => e = .returned (.bool (blk c)) ∧ w = w' := by
  have hb := blk_int c
  generalize blk c = bl at hb ⊢
  generalize c.toNat = n at hb ⊢
  subst hb
  go_enter Tryd.func55, Tryd.ntmps55
  go_wp2
  all_goals go_ret
  all_goals refine ⟨ret_bool ?_, rfl⟩
  all_goals (rw [Bool.eq_iff_iff]; simp only [Bool.or_eq_true, decide_eq_true_eq, true_iff, beq_iff_eq] at *; omega)

theorem conv_row {w : World} {base : Nat} {v : Value} {n : Nat} {l : List UInt8} (h : w.ownsRow base 5 1 v n (Lib.byteCells l)) :
    (convert 58 9 v).run Tryd.prog w = .ok (.string ⟨l.toArray⟩) w := by
  have hl : l.length = n := by have := h.1; simpa [Lib.byteCells_length] using this
  rcases rowForms h with ⟨rfl, h2⟩ | ⟨g, cap, rfl⟩
  · have e : l = [] := List.length_eq_zero_iff.1 (by omega)
    rw [e]
    exact run_convert_bytes_nil (P := Tryd.prog) w 58 5 Tryd.underlying58 Tryd.underlying5 0 0 9 Tryd.underlying9
  · subst hl
    refine run_convert_bytes_back (P := Tryd.prog) w 58 9 5 ⟨g, 0, none⟩ cap l Tryd.underlying58 Tryd.underlying5 Tryd.underlying9 (fun j hj => ?_)
    have e : (⟨g, 0, none⟩ : Addr).add j = ⟨g, j, none⟩ := by simp [Addr.add]; omega
    rw [e, h.cellAt j (by omega)]
    simp [Lib.byteCells, List.getElem?_eq_getElem hj]

theorem byteCells_append (a b : List UInt8) : Lib.byteCells (a ++ b) = Lib.byteCells a ++ Lib.byteCells b := by simp [Lib.byteCells]

theorem byteCells_one (b : UInt8) : Lib.byteCells [b] = [.int .u8 (b.toNat : Int)] := by simp [Lib.byteCells]

set_option maxRecDepth 100000 in
set_option maxHeartbeats 1000000 in
theorem refLower_any (s : ByteArray) (w : World) (hs : s.size ≤ 1099511627776) :
    Calls Tryd.prog 21 #[.string s] w fun e w' => e = .returned (.string ⟨(low s.data.toList).toArray⟩) ∧ Below w.heap.size w w' := by
  obtain ⟨i0, hi, hz0, hz1, hz2⟩ := info_parts Tinfo5
  go_enter Tryd.func21, Tryd.ntmps21
  go_wp2
  go_loopw [3, 4, 5] (fun v i _ wr => ∃ k : Nat, i = .int .i64 k ∧ k ≤ s.size ∧ wr.ownsRow w.heap.size 5 1 v k (Lib.byteCells ((low s.data.toList).take k)) ∧ Below w.heap.size w wr) (fun _ i _ _ => s.size - (intOf i).toNat)
  case atStart => exact ⟨0, rfl, Nat.zero_le _, World.ownsRow_nil w w.heap.size 5 1, Below.refl _ _⟩
  case round =>
    obtain ⟨k, rfl, hk, hown, hbw⟩ := hrel
    by_cases hlt : k < s.size
    · obtain ⟨b, hb1, _, rfl⟩ := at_some hlt
      have hH : Hid (Lib.byteCells ((low s.data.toList).take (k + 1)) = Lib.byteCells ((low s.data.toList).take k) ++ [.int .u8 ((lowB s[k]).toNat : Int)]) := by
        show _ = _
        rw [take_low _ k _ hb1, byteCells_append, byteCells_one]
      clear hb1
      have hlo := lowB_other (b := s[k])
      have hgr := lowB_great (b := s[k])
      generalize Lib.byteCells ((low s.data.toList).take k) = A at *
      by_cases hg : 65 ≤ (s[k].toNat : Int) ∧ (s[k].toNat : Int) ≤ 90
      · obtain ⟨hg1, hg2⟩ := hg
        have e := hgr hg1 hg2
        rw [e] at hH
        clear e hlo hgr
        go_wp2_with (at_builtin; refine wpList_append_own _ rfl _ _ 58 rfl w.heap.size 5 i0 (.int .u8 0) 1 1 Tryd.underlying58 hi hz0 hz1 hz2 rfl (by decide) _ _ _ rfl (hown.alloc _) ⟨wr.heap.size, 0, none⟩ 1 1 [.int .u8 ((s[k].toNat : Int) + 32)] rfl rfl (cell_one_new _ _ _) (fun x hx => by simp at hx; subst hx; rfl) (by unfold maxLen; omega) (by omega) (by have := hbw.size; simp; omega) ?_; intro v' w3 hown' hgrow3 hnil3
                     have hbw3 : Below w.heap.size w w3 := Below.grown (hbw.alloc (by have := hbw.size; omega) _) hgrow3 (by have := hbw.size; simp; omega) (fun j hj => by have := (hown.lt _ hj).1; omega)
                     have X : Aside (w3.ownsRow w.heap.size 5 1 v' (k + 1) (A ++ [.int .u8 ((s[k].toNat : Int) + 32)]) ∧ Below w.heap.size w w3) := ⟨hown', hbw3⟩
                     clear hown' hgrow3 hnil3)
        go_roundw
        case rel => exact ⟨k + 1, by go_num, by omega, by rw [hH.out]; exact X.out.1, X.out.2⟩
        case measure => simp [intOf]; omega
      · have e := hlo hg
        rw [e] at hH
        clear e hlo hgr
        by_cases hg1 : 65 ≤ (s[k].toNat : Int)
        all_goals
          go_wp2_with (at_builtin; refine wpList_append_own _ rfl _ _ 58 rfl w.heap.size 5 i0 (.int .u8 0) 1 1 Tryd.underlying58 hi hz0 hz1 hz2 rfl (by decide) _ _ _ rfl (hown.alloc _) ⟨wr.heap.size, 0, none⟩ 1 1 [.int .u8 (s[k].toNat : Int)] rfl rfl (cell_one_new _ _ _) (fun x hx => by simp at hx; subst hx; rfl) (by unfold maxLen; omega) (by omega) (by have := hbw.size; simp; omega) ?_; intro v' w3 hown' hgrow3 hnil3
                       have hbw3 : Below w.heap.size w w3 := Below.grown (hbw.alloc (by have := hbw.size; omega) _) hgrow3 (by have := hbw.size; simp; omega) (fun j hj => by have := (hown.lt _ hj).1; omega)
                       have X : Aside (w3.ownsRow w.heap.size 5 1 v' (k + 1) (A ++ [.int .u8 (s[k].toNat : Int)]) ∧ Below w.heap.size w w3) := ⟨hown', hbw3⟩
                       clear hown' hgrow3 hnil3)
          go_roundw
          case rel => exact ⟨k + 1, by go_num, by omega, by rw [hH.out]; exact X.out.1, X.out.2⟩
          case measure => simp [intOf]; omega
    · obtain rfl : k = s.size := by omega
      rw [List.take_of_length_le (by rw [low_length, lsize]; exact Nat.le_refl _)] at hown
      have hconv := conv_row hown
      go_wp2
      go_ret
      exact ⟨rfl, hbw⟩

/-- What the two loops of the document's Trim know. -/
def Front (l : List UInt8) (i : Nat) : Prop := ∀ k, k < i → ∀ b, l[k]? = some b → blk b = true

def Back (l : List UInt8) (j : Nat) : Prop := ∀ k, j ≤ k → ∀ b, l[k]? = some b → blk b = true

set_option maxRecDepth 100000 in
set_option maxHeartbeats 1000000 in
theorem refTrim_any (s : ByteArray) (w : World) (hs : s.size ≤ 1099511627776) :
    Calls Tryd.prog 42 #[.string s] w fun e w' => e = .returned (.string ⟨(trim s.data.toList).toArray⟩) ∧ w = w' := by
  go_enter Tryd.func42, Tryd.ntmps42
  go_wp2
  go_loop [3] (fun i => ∃ k : Nat, i = .int .i64 k ∧ k ≤ s.size ∧ Hid (Front s.data.toList k)) (fun i => s.size - (intOf i).toNat)
  case atStart => exact ⟨0, rfl, Nat.zero_le _, Lib.hid (fun k hk => by omega)⟩
  case round =>
    obtain ⟨k, rfl, hk, HF⟩ := hrel
    have hgo : (∃ h : k < s.size, blk s[k] = true) ∨ ((k = s.size) ∨ (∃ h : k < s.size, blk s[k] = false)) := by
      by_cases h : k < s.size
      · cases hb : blk s[k]
        · exact .inr (.inr ⟨h, hb⟩)
        · exact .inl ⟨h, hb⟩
      · exact .inr (.inl (by omega))
    rcases hgo with ⟨hlt, hb⟩ | hend
    · have HF2 : Hid (Front s.data.toList (k + 1)) := Lib.hid (fun j hj b hjb => by
        by_cases h : j < k
        · exact HF.out j h b hjb
        · obtain rfl : j = k := by omega
          obtain ⟨b', h1, _, rfl⟩ := at_some hlt
          rw [h1] at hjb; cases hjb; exact hb)
      have c := fun W => refBlank_any s[k] W
      rw [hb] at c
      have C := Lib.hid c
      clear c hb HF
      go_wp2_with (go_at_call 55; refine (C.out _).mono ?_; rintro e w' ⟨rfl, rfl⟩)
      go_round
      case rel => exact ⟨k + 1, by go_num, by omega, HF2⟩
      case measure => simp [intOf]; omega
    · have HE : Hid (∀ j, k < j → ∀ b, s.data.toList[k]? = some b → blk b = false) := Lib.hid (fun j hj b hb => by
        rcases hend with rfl | ⟨h, hb2⟩
        · have := (get_of hb).2; omega
        · obtain ⟨b', h1, _, rfl⟩ := at_some h
          rw [h1] at hb; cases hb; exact hb2)
      have loop2 : ∀ (P : Prop), (P → P) := fun _ h => h
      have hcase : ¬ k < s.size ∨ ∃ h : k < s.size, ∀ W, Calls Tryd.prog 55 #[.int .u8 (s[k].toNat : Int)] W fun e w' => e = .returned (.bool false) ∧ W = w' := by
        rcases hend with rfl | ⟨h, hb2⟩
        · exact .inl (by omega)
        · refine .inr ⟨h, fun W => ?_⟩
          have := refBlank_any s[k] W
          rw [hb2] at this; exact this
      clear hend loop2
      rcases hcase with hlt | ⟨hlt, c⟩
      all_goals (try (have C := Lib.hid c; clear c))
      all_goals
        go_wp2_with (go_at_call 55; refine (C.out _).mono ?_; rintro e w' ⟨rfl, rfl⟩)
        go_loop [4] (fun i => ∃ j : Nat, i = .int .i64 j ∧ k ≤ j ∧ j ≤ s.size ∧ Hid (Back s.data.toList j)) (fun i => (intOf i).toNat)
        case atStart => exact ⟨s.size, rfl, hk, Nat.le_refl _, Lib.hid (fun q hq b hb => by have := (get_of hb).2; omega)⟩
        case round =>
          obtain ⟨j, rfl, hkj, hj, HB⟩ := hrel
          have hgo : (∃ m, j = m + 1 ∧ k ≤ m ∧ ∃ h : m < s.size, blk s[m] = true) ∨ j = k ∨ (∃ m, j = m + 1 ∧ k ≤ m ∧ ∃ h : m < s.size, blk s[m] = false) := by
            by_cases h : j = k
            · exact .inr (.inl h)
            · obtain ⟨m, rfl⟩ : ∃ m, j = m + 1 := ⟨j - 1, by omega⟩
              have hm : m < s.size := by omega
              cases hb : blk s[m]
              · exact .inr (.inr ⟨m, rfl, by omega, hm, hb⟩)
              · exact .inl ⟨m, rfl, by omega, hm, hb⟩
          have fin : (k < j → ∀ b, s.data.toList[j - 1]? = some b → blk b = false) → s.extract k j = ⟨(trim s.data.toList).toArray⟩ := fun h4 => by
            apply extract_mk
            rw [take_drop_swap]
            exact (trim_range s.data.toList k j hkj (by rw [lsize]; exact hj) HF.out HB.out (fun h => HE.out j h) h4).symm
          rcases hgo with ⟨m, rfl, hkm, hm, hb⟩ | rfl | ⟨m, rfl, hkm, hm, hb⟩
          · have HB2 : Hid (Back s.data.toList m) := Lib.hid (fun q hq b hqb => by
              by_cases h : m + 1 ≤ q
              · exact HB.out q h b hqb
              · obtain rfl : q = m := by omega
                obtain ⟨b', h1, _, rfl⟩ := at_some hm
                rw [h1] at hqb; cases hqb; exact hb)
            have c2 := fun W => refBlank_any s[m] W
            rw [hb] at c2
            have C2 := Lib.hid c2
            clear c2 hb HB fin
            go_wp2_with (go_at_call 55; refine (C2.out _).mono ?_; rintro e w' ⟨rfl, rfl⟩)
            first
              | done
              | (go_round
                 case rel => exact ⟨m, by go_num, hkm, by omega, HB2⟩
                 case measure => simp [intOf])
          · have hf := fin (fun h => by omega)
            have he : s.extract j j = ByteArray.empty := by simp
            rw [he] at hf
            have HFI := Lib.hid hf
            clear fin hf he
            go_wp2
            go_ret
            exact ⟨congrArg (fun x => Ending.returned (Value.string x)) HFI.out, rfl⟩
          · have hf := fin (fun h b hb3 => by
              obtain ⟨b', h1, _, rfl⟩ := at_some hm
              rw [Nat.add_sub_cancel, h1] at hb3; cases hb3; exact hb)
            have c2 := fun W => refBlank_any s[m] W
            rw [hb] at c2
            have C2 := Lib.hid c2
            have HFI := Lib.hid hf
            clear c2 hb HB fin hf
            go_wp2_with (go_at_call 55; refine (C2.out _).mono ?_; rintro e w' ⟨rfl, rfl⟩)
            all_goals go_ret
            all_goals exact ⟨congrArg (fun x => Ending.returned (Value.string x)) HFI.out, rfl⟩

theorem refLower_hid (s T : ByteArray) (hT : T.data.toList = low s.data.toList) (hs : s.size ≤ 1099511627776) : Hid (∀ W, Calls Tryd.prog 21 #[.string s] W fun e w' => e = .returned (.string T) ∧ Below W.heap.size W w') := Lib.hid fun W => by
  rw [text_is hT]; exact refLower_any s W hs

theorem refTrim_hid (s T : ByteArray) (hT : T.data.toList = trim s.data.toList) (hs : s.size ≤ 1099511627776) : Hid (∀ W, Calls Tryd.prog 42 #[.string s] W fun e w' => e = .returned (.string T) ∧ w' = W) := Lib.hid fun W => by
  rw [text_is hT]; exact (refTrim_any s W hs).mono fun e w' h => ⟨h.1, h.2.symm⟩

/-- Where the document's Parts is. -/
def PAt (l : List UInt8) (c : UInt8) (fr k : Nat) (acc : List (List UInt8)) : Prop := (k ≤ l.length ∧ PartsTo l c fr k acc) ∨ (k = l.length + 1 ∧ acc = parts l c ∧ acc.length ≤ l.length + 1)

def eqT (p q : List (List UInt8)) : Bool := decide (p = q)

theorem str_eq (a b : List UInt8) : ((⟨a.toArray⟩ : ByteArray).toList == (⟨b.toArray⟩ : ByteArray).toList) = decide (a = b) := text_eq _ _

set_option maxRecDepth 100000 in
set_option maxHeartbeats 1000000 in
/-- Texts: are two rows the same? -/
theorem texts_any (p q : List (List UInt8)) (u v : Value) (w : World) (hp : TextsIn w u p) (hq : TextsIn w v q) (hl : p.length ≤ 9223372036854775807) (hl2 : q.length ≤ 9223372036854775807) :
    Calls Tryd.prog 19 #[u, v] w fun e w' => e = .returned (.bool (eqT p q)) ∧ ∃ n, w' = w.drewN n := by
  have hu := hp.form
  have hv := hq.form
  by_cases hne : p.length = q.length
  · by_cases h0 : p.length = 0
    · obtain ⟨a, c, rfl⟩ := hu
      obtain ⟨a2, c2, rfl⟩ := hv
      have e1 : p = [] := List.length_eq_zero_iff.1 h0
      have e2 : q = [] := List.length_eq_zero_iff.1 (by omega)
      subst e1 e2
      clear hp hq hl hl2 hne h0
      go_enter Tryd.func19, Tryd.ntmps19
      go_wp2
      refine wp_loop_rounds 1 ?_
      rw [rounds_succ]
      go_wp2
      go_ret
      exact ⟨rfl, 0, rfl⟩
    · rcases hp with ⟨_, rfl⟩ | ⟨B, off, cap, rfl, hc⟩
      · exact absurd rfl h0
      rcases hq with ⟨_, rfl⟩ | ⟨B2, off2, cap2, rfl, hc2⟩
      · exact absurd hne h0
      clear hu hv
      have g2 : ((p.length : Int) != (q.length : Int)) = false := by simp [hne]
      have HN := Lib.hid hne
      have h0' : 0 < p.length := by omega
      clear hne h0
      go_enter Tryd.func19, Tryd.ntmps19
      go_wp2
      go_loopw [5] (fun i wr => ∃ k n : Nat, i = .int .i64 k ∧ k ≤ p.length ∧ wr = w.drewN n ∧ Hid (p.take k = q.take k)) (fun i _ => p.length - (intOf i).toNat)
      case atStart => exact ⟨0, 0, rfl, Nat.zero_le _, rfl, rfl⟩
      case round =>
        obtain ⟨k, n, rfl, hk, rfl, HS⟩ := hrel
        by_cases hlt : k < p.length
        · have hlt2 : k < q.length := by have := HN.out; omega
          have hcell := hc k hlt
          have hcell2 := hc2 k hlt2
          have hix : (k : Int) < (p.length : Int) := by omega
          have hix2 : (k : Int) < (q.length : Int) := by omega
          have hT : Hid (p.take (k + 1) = p.take k ++ [p[k]] ∧ q.take (k + 1) = q.take k ++ [q[k]]) := ⟨by rw [List.take_succ_eq_append_getElem hlt], by rw [List.take_succ_eq_append_getElem hlt2]⟩
          have hE : Hid (p[k] ≠ q[k] → eqT p q = false) := fun h => by
            unfold eqT; rw [decide_eq_false]
            rintro rfl
            exact h rfl
          generalize p[k] = x at *
          generalize q[k] = y at *
          have hb := str_eq x y
          unfold strV at hcell hcell2
          obtain ⟨X, hX⟩ : ∃ X : ByteArray, X = ⟨x.toArray⟩ := ⟨_, rfl⟩
          obtain ⟨Y, hY⟩ : ∃ Y : ByteArray, Y = ⟨y.toArray⟩ := ⟨_, rfl⟩
          rw [← hX] at hcell hb
          rw [← hY] at hcell2 hb
          clear hc hc2 hX hY
          by_cases hxy : x = y
          · subst hxy
            rw [decide_eq_true rfl] at hb
            go_wp2_with fail
            go_quiet (fail)
            go_wp2
            go_roundw
            case rel => exact ⟨k + 1, n + nq, by go_num, by omega, rfl, by show _ = _; rw [hT.out.1, hT.out.2, HS.out]⟩
            case measure => simp [intOf]; omega
          · rw [decide_eq_false hxy] at hb
            have e := hE.out hxy
            have HE := Lib.hid e
            clear e hxy
            go_wp2_with fail
            go_quiet (fail)
            go_wp2
            go_ret
            exact ⟨by rw [HE.out]; rfl, n + nq, World.drewN_drewN _ _ _⟩
        · obtain rfl : k = p.length := by omega
          have e : eqT p q = true := by
            unfold eqT
            have h1 := HS.out
            rw [List.take_length, List.take_of_length_le (by have := HN.out; omega)] at h1
            rw [decide_eq_true h1]
          have HE := Lib.hid e
          clear e hc hc2
          go_wp2
          go_ret
          exact ⟨by rw [HE.out]; rfl, n, rfl⟩
  · obtain ⟨a, c, rfl⟩ := hu
    obtain ⟨a2, c2, rfl⟩ := hv
    have g2 : ((p.length : Int) != (q.length : Int)) = true := by simp; omega
    have e : eqT p q = false := by unfold eqT; rw [decide_eq_false]; intro h; exact hne (by rw [h])
    rw [e]
    clear hne e hp hq
    go_enter Tryd.func19, Tryd.ntmps19
    go_wp2
    go_ret
    exact ⟨rfl, 0, rfl⟩

theorem texts_bool (p q : List (List UInt8)) (b : Bool) (hb : eqT p q = b) (u v : Value) (w : World) (hp : TextsIn w u p) (hq : TextsIn w v q) (hl : p.length ≤ 9223372036854775807) (hl2 : q.length ≤ 9223372036854775807) :
    Calls Tryd.prog 19 #[u, v] w fun e w' => e = .returned (.bool b) ∧ Below w.heap.size w w' :=
  (texts_any p q u v w hp hq hl hl2).mono fun e w' ⟨he, n, hw⟩ => ⟨by rw [he, hb], by rw [hw]; exact belowN (Below.refl _ _) n⟩

theorem eqT_self (p : List (List UInt8)) : eqT p p = true := by unfold eqT; rw [decide_eq_true rfl]

/-- Where the document's Words is. -/
def WAt (l : List UInt8) (fr k : Nat) (acc : List (List UInt8)) : Prop := (k ≤ l.length ∧ WordsTo l fr k acc) ∨ (k = l.length + 1 ∧ acc = words l ∧ acc.length ≤ l.length)

set_option maxRecDepth 100000 in
set_option maxHeartbeats 2000000 in
theorem refWords_any (s : ByteArray) (w : World) (hs : s.size ≤ 1099511627776) :
    Calls Tryd.prog 43 #[.string s] w fun e w' => ∃ v, e = .returned v ∧ TextsIn w' v (words s.data.toList) ∧ Below w.heap.size w w' := by
  obtain ⟨i0, hi, hz0, hz1, hz2⟩ := info_parts Tinfo9
  have hll := lsize s
  have HLL := Lib.hid hll
  clear hll
  go_enter Tryd.func43, Tryd.ntmps43
  go_wp2
  go_loopw [3, 4, 5] (fun v f i wr => ∃ (fr k : Nat) (acc : List (List UInt8)), f = .int .i64 fr ∧ i = .int .i64 k ∧ k ≤ s.size + 1 ∧ fr ≤ k ∧ wr.ownsRow w.heap.size 9 1 v acc.length (txtCells acc) ∧ Below w.heap.size w wr ∧ Hid (WAt s.data.toList fr k acc)) (fun _ _ i _ => s.size + 1 - (intOf i).toNat)
  case atStart => exact ⟨0, 0, [], rfl, rfl, Nat.zero_le _, Nat.le_refl _, World.ownsRow_nil w w.heap.size 9 1, Below.refl _ _, Lib.hid (.inl ⟨Nat.zero_le _, wordsTo_start _⟩)⟩
  case round =>
    obtain ⟨fr, k, acc, rfl, rfl, hk, hfk, hown, hbw, HW⟩ := hrel
    by_cases hend : k = s.size + 1
    · subst hend
      have e : acc = words s.data.toList := by
        rcases HW.out with ⟨h1, _⟩ | ⟨_, h2, _⟩
        · rw [HLL.out] at h1; omega
        · exact h2
      have hv := TextsIn.of_row hown
      have HV : Hid (TextsIn wr u3 (words s.data.toList)) := by rw [← e]; exact Lib.hid hv
      clear e hv hown
      go_wp2
      go_ret
      exact ⟨_, rfl, HV.out, hbw⟩
    · have hk2 : k ≤ s.size := by omega
      have HT : Hid (WordsTo s.data.toList fr k acc) := Lib.hid (by
        rcases HW.out with ⟨_, h1⟩ | ⟨h1, _⟩
        · exact h1
        · rw [HLL.out] at h1; omega)
      have hacc : acc.length ≤ s.size := by have := HT.out.few; omega
      clear HW hend
      have happ : ∀ (t : ByteArray) (W : World) (v' : Value), W.ownsRow w.heap.size 9 1 v' (acc.length + 1) (txtCells acc ++ [.string t]) → W.ownsRow w.heap.size 9 1 v' (acc ++ [t.data.toList]).length (txtCells (acc ++ [t.data.toList])) := fun t W v' h => by
        rw [txtCells_snoc, List.length_append]; exact h
      have HA := Lib.hid happ
      clear happ
      by_cases hlt : k < s.size
      · obtain ⟨b, hb1, _, rfl⟩ := at_some hlt
        have c := fun W => refBlank_any s[k] W
        cases hbl : blk s[k]
        · have HN : Hid (WAt s.data.toList fr (k + 1) acc) := Lib.hid (.inl ⟨by rw [HLL.out]; omega, wordsTo_in HT.out hb1 hbl⟩)
          rw [hbl] at c
          have C := Lib.hid c
          clear c hbl hb1 HT
          go_wp2_with (go_at_call 55; refine (C.out _).mono ?_; rintro e w' ⟨rfl, rfl⟩)
          go_roundw
          case rel => exact ⟨fr, k + 1, acc, rfl, by go_num, by omega, by omega, hown, hbw, HN⟩
          case measure => simp [intOf]; omega
        · rw [hbl] at c
          have C := Lib.hid c
          clear c
          by_cases hfl : fr < k
          · have HN : Hid (WAt s.data.toList (k + 1) (k + 1) (acc ++ [(s.extract fr k).data.toList])) := Lib.hid (.inl ⟨by rw [HLL.out]; omega, by rw [extract_toList]; exact wordsTo_hit HT.out hb1 hbl hfl⟩)
            clear hbl hb1 HT
            go_wp2_with (first
              | (go_at_call 55; refine (C.out _).mono ?_; rintro e w' ⟨rfl, rfl⟩)
              | (at_builtin; refine wpList_append_own _ rfl _ _ 32 rfl w.heap.size 9 i0 (.string ⟨#[]⟩) 1 16 Tryd.underlying32 hi hz0 hz1 hz2 rfl (by decide) _ _ _ rfl (hown.alloc _) ⟨wr.heap.size, 0, none⟩ 1 1 [.string (s.extract fr k)] rfl rfl (cell_one_new _ _ _) (fun x hx => by simp at hx; subst hx; rfl) (by unfold maxLen; omega) (by omega) (by have := hbw.size; simp; omega) ?_; intro v' w3 hown' hgrow3 hnil3
                 have hbw3 : Below w.heap.size w w3 := Below.grown (hbw.alloc (by have := hbw.size; omega) _) hgrow3 (by have := hbw.size; simp; omega) (fun j hj => by have := (hown.lt _ hj).1; omega)
                 have X : Aside (w3.ownsRow w.heap.size 9 1 v' (acc.length + 1) (txtCells acc ++ [.string (s.extract fr k)]) ∧ Below w.heap.size w w3) := ⟨hown', hbw3⟩
                 clear hown' hgrow3 hnil3))
            go_roundw
            case rel => exact ⟨k + 1, k + 1, acc ++ [(s.extract fr k).data.toList], by go_num, by go_num, by omega, Nat.le_refl _, HA.out _ _ _ X.out.1, X.out.2, HN⟩
            case measure => simp [intOf]; omega
          · obtain rfl : fr = k := by omega
            have HN : Hid (WAt s.data.toList (fr + 1) (fr + 1) acc) := Lib.hid (.inl ⟨by rw [HLL.out]; omega, wordsTo_skip HT.out hb1 hbl⟩)
            clear hbl hb1 HT
            go_wp2_with (go_at_call 55; refine (C.out _).mono ?_; rintro e w' ⟨rfl, rfl⟩)
            go_roundw
            case rel => exact ⟨fr + 1, fr + 1, acc, by go_num, by go_num, by omega, Nat.le_refl _, hown, hbw, HN⟩
            case measure => simp [intOf]; omega
      · obtain rfl : k = s.size := by omega
        by_cases hfl : fr < s.size
        · have HN : Hid (WAt s.data.toList (s.size + 1) (s.size + 1) (acc ++ [(s.extract fr s.size).data.toList])) := Lib.hid (.inr ⟨by rw [HLL.out], by
            have h := HT.out
            rw [extract_toList]
            rw [← HLL.out] at h hfl ⊢
            exact wordsTo_end_open h hfl, by
            have := HT.out.few; rw [HLL.out]; simp; omega⟩)
          clear HT
          go_wp2_with (at_builtin; refine wpList_append_own _ rfl _ _ 32 rfl w.heap.size 9 i0 (.string ⟨#[]⟩) 1 16 Tryd.underlying32 hi hz0 hz1 hz2 rfl (by decide) _ _ _ rfl (hown.alloc _) ⟨wr.heap.size, 0, none⟩ 1 1 [.string (s.extract fr s.size)] rfl rfl (cell_one_new _ _ _) (fun x hx => by simp at hx; subst hx; rfl) (by unfold maxLen; omega) (by omega) (by have := hbw.size; simp; omega) ?_; intro v' w3 hown' hgrow3 hnil3
                       have hbw3 : Below w.heap.size w w3 := Below.grown (hbw.alloc (by have := hbw.size; omega) _) hgrow3 (by have := hbw.size; simp; omega) (fun j hj => by have := (hown.lt _ hj).1; omega)
                       have X : Aside (w3.ownsRow w.heap.size 9 1 v' (acc.length + 1) (txtCells acc ++ [.string (s.extract fr s.size)]) ∧ Below w.heap.size w w3) := ⟨hown', hbw3⟩
                       clear hown' hgrow3 hnil3)
          go_roundw
          case rel => exact ⟨s.size + 1, s.size + 1, acc ++ [(s.extract fr s.size).data.toList], by go_num, by go_num, by omega, Nat.le_refl _, HA.out _ _ _ X.out.1, X.out.2, HN⟩
          case measure => simp [intOf]
        · have HN : Hid (WAt s.data.toList (s.size + 1) (s.size + 1) acc) := Lib.hid (.inr ⟨by rw [HLL.out], by
            have h := HT.out
            have e : fr = s.size := by have := h.le; omega
            subst e
            rw [← HLL.out] at h
            exact wordsTo_end h, by
            have := HT.out.few; rw [HLL.out]; omega⟩)
          clear HT
          go_wp2
          go_roundw
          case rel => exact ⟨s.size + 1, s.size + 1, acc, by go_num, by go_num, by omega, Nat.le_refl _, hown, hbw, HN⟩
          case measure => simp [intOf]

set_option maxRecDepth 100000 in
set_option maxHeartbeats 2000000 in
theorem refParts_any (s : ByteArray) (c : UInt8) (w : World) (hs : s.size ≤ 1099511627776) :
    Calls Tryd.prog 25 #[.string s, .int .u8 (c.toNat : Int)] w fun e w' => ∃ v, e = .returned v ∧ TextsIn w' v (parts s.data.toList c) ∧ Below w.heap.size w w' := by
  obtain ⟨i0, hi, hz0, hz1, hz2⟩ := info_parts Tinfo9
  have hll := lsize s
  have HLL := Lib.hid hll
  clear hll
  go_enter Tryd.func25, Tryd.ntmps25
  go_wp2
  go_loopw [5, 6, 7] (fun v f i wr => ∃ (fr k : Nat) (acc : List (List UInt8)), f = .int .i64 fr ∧ i = .int .i64 k ∧ k ≤ s.size + 1 ∧ fr ≤ k ∧ wr.ownsRow w.heap.size 9 1 v acc.length (txtCells acc) ∧ Below w.heap.size w wr ∧ Hid (PAt s.data.toList c fr k acc)) (fun _ _ i _ => s.size + 1 - (intOf i).toNat)
  case atStart => exact ⟨0, 0, [], rfl, rfl, Nat.zero_le _, Nat.le_refl _, World.ownsRow_nil w w.heap.size 9 1, Below.refl _ _, Lib.hid (.inl ⟨Nat.zero_le _, partsTo_start _ _⟩)⟩
  case round =>
    obtain ⟨fr, k, acc, rfl, rfl, hk, hfk, hown, hbw, HW⟩ := hrel
    by_cases hend : k = s.size + 1
    · subst hend
      have e : acc = parts s.data.toList c := by
        rcases HW.out with ⟨h1, _⟩ | ⟨_, h2, _⟩
        · rw [HLL.out] at h1; omega
        · exact h2
      have hv := TextsIn.of_row hown
      have HV : Hid (TextsIn wr u5 (parts s.data.toList c)) := by rw [← e]; exact Lib.hid hv
      clear e hv hown
      go_wp2
      go_ret
      exact ⟨_, rfl, HV.out, hbw⟩
    · have hk2 : k ≤ s.size := by omega
      have HT : Hid (PartsTo s.data.toList c fr k acc) := Lib.hid (by
        rcases HW.out with ⟨_, h1⟩ | ⟨h1, _⟩
        · exact h1
        · rw [HLL.out] at h1; omega)
      have hacc : acc.length ≤ s.size := by have := HT.out.few; omega
      clear HW hend
      have happ : ∀ (t : ByteArray) (W : World) (v' : Value), W.ownsRow w.heap.size 9 1 v' (acc.length + 1) (txtCells acc ++ [.string t]) → W.ownsRow w.heap.size 9 1 v' (acc ++ [t.data.toList]).length (txtCells (acc ++ [t.data.toList])) := fun t W v' h => by
        rw [txtCells_snoc, List.length_append]; exact h
      have HA := Lib.hid happ
      clear happ
      have ct := fun W => refTrim_any (s.extract fr k) W (by simp; omega)
      obtain ⟨T, hT⟩ : ∃ T : ByteArray, T = ⟨(trim (s.extract fr k).data.toList).toArray⟩ := ⟨_, rfl⟩
      rw [← hT] at ct
      have hT2 : T.data.toList = trim ((s.data.toList.drop fr).take (k - fr)) := by rw [hT, ← extract_toList]
      have CT := Lib.hid ct
      have HT2 := Lib.hid hT2
      clear ct hT hT2
      by_cases hlt : k < s.size
      · have hkn : ((k : Int) == (s.size : Int)) = false := by simp; omega
        obtain ⟨b, hb1, _, rfl⟩ := at_some hlt
        have hq := int_beq s[k] c
        cases hbl : (s[k] == c)
        · have HN : Hid (PAt s.data.toList c fr (k + 1) acc) := Lib.hid (.inl ⟨by rw [HLL.out]; omega, partsTo_in HT.out hb1 hbl⟩)
          rw [hbl] at hq
          clear hbl hb1 HT
          go_wp2
          go_roundw
          case rel => exact ⟨fr, k + 1, acc, rfl, by go_num, by omega, by omega, hown, hbw, HN⟩
          case measure => simp [intOf]; omega
        · rw [hbl] at hq
          have HN : Hid (PAt s.data.toList c (k + 1) (k + 1) (acc ++ [T.data.toList])) := Lib.hid (.inl ⟨by rw [HLL.out]; omega, by rw [HT2.out]; exact partsTo_hit HT.out hb1 hbl⟩)
          clear hbl hb1 HT
          go_wp2_with (first
            | (go_at_call 42; refine (CT.out _).mono ?_; rintro e w' ⟨rfl, rfl⟩)
            | (at_builtin; refine wpList_append_own _ rfl _ _ 32 rfl w.heap.size 9 i0 (.string ⟨#[]⟩) 1 16 Tryd.underlying32 hi hz0 hz1 hz2 rfl (by decide) _ _ _ rfl (hown.alloc _) ⟨wr.heap.size, 0, none⟩ 1 1 [.string T] rfl rfl (cell_one_new _ _ _) (fun x hx => by simp at hx; subst hx; rfl) (by unfold maxLen; omega) (by omega) (by have := hbw.size; simp; omega) ?_; intro v' w3 hown' hgrow3 hnil3
               have hbw3 : Below w.heap.size w w3 := Below.grown (hbw.alloc (by have := hbw.size; omega) _) hgrow3 (by have := hbw.size; simp; omega) (fun j hj => by have := (hown.lt _ hj).1; omega)
               have X : Aside (w3.ownsRow w.heap.size 9 1 v' (acc.length + 1) (txtCells acc ++ [.string T]) ∧ Below w.heap.size w w3) := ⟨hown', hbw3⟩
               clear hown' hgrow3 hnil3))
          go_roundw
          case rel => exact ⟨k + 1, k + 1, acc ++ [T.data.toList], by go_num, by go_num, by omega, Nat.le_refl _, HA.out _ _ _ X.out.1, X.out.2, HN⟩
          case measure => simp [intOf]; omega
      · obtain rfl : k = s.size := by omega
        have hkn : ((s.size : Int) == (s.size : Int)) = true := by simp
        have HN : Hid (PAt s.data.toList c (s.size + 1) (s.size + 1) (acc ++ [T.data.toList])) := Lib.hid (.inr ⟨by rw [HLL.out], by
            have h := HT.out
            rw [HT2.out]
            rw [← HLL.out] at h ⊢
            exact partsTo_end h, by
            have := HT.out.few; rw [HLL.out]; simp; omega⟩)
        clear HT
        go_wp2_with (first
          | (go_at_call 42; refine (CT.out _).mono ?_; rintro e w' ⟨rfl, rfl⟩)
          | (at_builtin; refine wpList_append_own _ rfl _ _ 32 rfl w.heap.size 9 i0 (.string ⟨#[]⟩) 1 16 Tryd.underlying32 hi hz0 hz1 hz2 rfl (by decide) _ _ _ rfl (hown.alloc _) ⟨wr.heap.size, 0, none⟩ 1 1 [.string T] rfl rfl (cell_one_new _ _ _) (fun x hx => by simp at hx; subst hx; rfl) (by unfold maxLen; omega) (by omega) (by have := hbw.size; simp; omega) ?_; intro v' w3 hown' hgrow3 hnil3
             have hbw3 : Below w.heap.size w w3 := Below.grown (hbw.alloc (by have := hbw.size; omega) _) hgrow3 (by have := hbw.size; simp; omega) (fun j hj => by have := (hown.lt _ hj).1; omega)
             have X : Aside (w3.ownsRow w.heap.size 9 1 v' (acc.length + 1) (txtCells acc ++ [.string T]) ∧ Below w.heap.size w w3) := ⟨hown', hbw3⟩
             clear hown' hgrow3 hnil3))
        go_roundw
        case rel => exact ⟨s.size + 1, s.size + 1, acc ++ [T.data.toList], by go_num, by go_num, by omega, Nat.le_refl _, HA.out _ _ _ X.out.1, X.out.2, HN⟩
        case measure => simp [intOf]

end Go.Proofs.YtmlanlagnhnppaaDoor
