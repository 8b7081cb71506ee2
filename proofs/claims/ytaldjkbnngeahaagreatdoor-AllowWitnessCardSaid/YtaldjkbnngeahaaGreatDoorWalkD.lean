/- A path cleaned: the program's. -/
import Derived.Test.YtaldjkbnngeahaaGreatDoorWalkC
namespace Go.Proofs.YtaldjkbnngeahaaGreatDoor
open Go.RowKit

theorem prefix_hid (s p : ByteArray) (b : Bool) (h : p.data.toList.isPrefixOf s.data.toList = b) : Hid (∀ W, Calls Tryz.prog 110 #[.string s, .string p] W fun e w' => e = .returned (.bool b) ∧ w' = W) := Lib.hid fun W => by
  rw [← h]; exact Tryz.strings_HasPrefix s p W
theorem join_any (W : World) (B : Nat) (L : List (List UInt8)) (v : Value) (hL : L ≠ []) (hown : W.ownsRow B 9 1 v L.length (txtCells L)) (J : ByteArray) (hJ : J.data.toList = Lib.join L [47]) (hJl : J.size ≤ 1000000000) (hLl : L.length ≤ 1000000000) :
    Calls Tryz.prog 149 #[v, .string ⟨#[47]⟩] W fun e w' => e = .returned (.string J) ∧ Below W.heap.size W w' := by
  obtain ⟨h1, h2⟩ := hown
  rcases h2 with ⟨_, h0⟩ | ⟨g, cap, cur, rfl, hg, hc, hn, hcap, hsz, htk⟩
  · exact absurd (List.length_eq_zero_iff.1 h0) hL
  have hmap : (L.map (fun l => (⟨l.toArray⟩ : ByteArray))).map (·.data.toList) = L := by
    rw [List.map_map]
    conv => rhs; rw [← List.map_id L]
    congr 1
  have h := Tryz.strings_Join g 0 cap (L.map (fun l => (⟨l.toArray⟩ : ByteArray))) ⟨#[47]⟩ W (fun j x hx => by
      rw [List.getElem?_map] at hx
      have hlt : j < L.length := by
        rcases Nat.lt_or_ge j L.length with h | h
        · exact h
        · rw [List.getElem?_eq_none h] at hx; cases hx
      rw [List.getElem?_eq_getElem hlt] at hx
      cases hx
      have hco : W.ownsRow B 9 1 (.slice (some ⟨g, 0, none⟩) L.length cap) L.length (txtCells L) := ⟨h1, .inr ⟨g, cap, cur, rfl, hg, hc, hn, hcap, hsz, htk⟩⟩
      rw [Nat.zero_add, hco.cellAt j (by omega)]
      simp [txtCells, strV, List.getElem?_eq_getElem hlt]) (lt_of_block hc) (by rw [List.length_map]; omega) (by rw [List.length_map]; exact hn) (by
      rw [hmap]
      have : (Lib.join L (⟨#[47]⟩ : ByteArray).data.toList).length = J.size := by rw [← lsize, hJ]
      rw [this]; omega)
  rw [hmap, List.length_map] at h
  have e : (⟨(Lib.join L (⟨#[47]⟩ : ByteArray).data.toList).toArray⟩ : ByteArray) = J := by
    rw [text_is hJ]
  rw [e] at h
  exact h
theorem shrink {W : World} {B : Nat} {g m cap : Nat} {D : List (List UInt8)} {x : List UInt8} (h : W.ownsRow B 9 1 (.slice (some ⟨g, 0, none⟩) (m + 1) cap) (m + 1) (txtCells (D ++ [x]))) : W.ownsRow B 9 1 (.slice (some ⟨g, 0, none⟩) m cap) m (txtCells D) := by
  obtain ⟨h1, h2⟩ := h
  rw [txtCells_snoc, List.length_append, List.length_singleton] at h1
  rcases h2 with ⟨h2, _⟩ | ⟨g', cap', cur, hv, hg, hc, hn, hcap, hsz, htk⟩
  · cases h2
  · cases hv
    refine ⟨by omega, .inr ⟨g, cap, cur, rfl, hg, hc, by omega, hcap, hsz, ?_⟩⟩
    have e : cur.toList.take (m * 1) = (cur.toList.take ((m + 1) * 1)).take (m * 1) := by rw [List.take_take]; congr 1; omega
    rw [e, htk, txtCells_snoc]
    rw [List.take_left' (by omega)]
theorem Tslice {W : World} (g m cap : Nat) (hc : m + 1 ≤ cap) : (Instr.slice 53 (.slice (some ⟨g, 0, none⟩) (m + 1) cap) none (some (.int .i64 (m : Int))) none).run Tryz.prog W = .ok (.slice (some ⟨g, 0, none⟩) m cap) W := by
  simp [Instr.slice, go_sem]
  intro h
  omega

/-- What Clean knows of the pieces. -/
theorem step_dot {L : List (List UInt8)} {k : Nat} (h : k < L.length) (hx : L[k] = [46]) : taken (L.take (k + 1)) = taken (L.take k) := by
  rw [List.take_succ_eq_append_getElem h, taken_snoc, hx]; rfl
theorem step_up {L : List (List UInt8)} {k : Nat} (h : k < L.length) (hx : L[k] = [46, 46]) : taken (L.take (k + 1)) = (taken (L.take k)).dropLast := by
  rw [List.take_succ_eq_append_getElem h, taken_snoc, hx]; rfl
theorem step_in {L : List (List UInt8)} {k : Nat} (h : k < L.length) (h1 : L[k] ≠ [46]) (h2 : L[k] ≠ [46, 46]) : taken (L.take (k + 1)) = taken (L.take k) ++ [L[k]] := by
  rw [List.take_succ_eq_append_getElem h, taken_snoc]
  unfold stepC
  rw [if_neg h1, if_neg h2]

theorem endC_ne {L : List (List UInt8)} (h : L ≠ []) : endC L (taken L) ≠ [] := by
  rcases List.eq_nil_or_concat L with h0 | ⟨M, p, h0⟩
  · exact absurd h0 h
  · rw [h0, List.concat_eq_append, endC_snoc, taken_snoc]
    cases hd : dots p
    · rw [stepC_not hd]; simp
    · simp
theorem join_text {Z : List (List UInt8)} (h : Z ≠ []) {T J : ByteArray} (hT : T.data.toList = slashed Z) (hJ : J.data.toList = Lib.join Z [47]) : T.data.toList = (⟨#[47]⟩ : ByteArray).data.toList ++ J.data.toList ∧ J.size + 1 = T.size := by
  obtain ⟨x, L, rfl⟩ := List.exists_cons_of_ne_nil h
  have e : T.data.toList = 47 :: J.data.toList := by rw [hT, hJ, slashed_join]
  refine ⟨e, ?_⟩
  rw [← lsize T, ← lsize J, e]; rfl

set_option maxRecDepth 100000 in
set_option maxHeartbeats 2000000 in
theorem clean_any (s : ByteArray) (hs : s.size ≤ 1000000) (T : ByteArray) (hT : T.data.toList = cleanP s.data.toList) (w : World) (hmx : MaxIn w) : Calls Tryz.prog 126 #[.string s] w fun e w' => e = .returned (.string T) ∧ Below w.heap.size w w' := by
  by_cases hp : [47].isPrefixOf s.data.toList = false
  · have C := prefix_hid s ⟨#[47]⟩ false hp
    have e : cleanP s.data.toList = [] := by
      cases h : s.data.toList with
      | nil => rfl
      | cons b l =>
        rw [h] at hp
        have : sl b = false := by
          cases hb : sl b
          · rfl
          · have : b = 47 := by simpa [sl] using hb
            subst this
            simp [List.isPrefixOf] at hp
        simp [cleanP, this]
    rw [e] at hT
    obtain rfl : T = ⟨#[]⟩ := text_is hT
    clear hT e hp
    go_enter Tryz.func126, Tryz.ntmps126
    go_wp2_with (go_at_call 110; refine (C.out _).mono ?_; rintro e w' ⟨rfl, rfl⟩)
    go_ret
    exact ⟨rfl, Below.refl _ _⟩
  have hp : [47].isPrefixOf s.data.toList = true := by simpa using hp
  have C := prefix_hid s ⟨#[47]⟩ true hp
  obtain ⟨r, hr⟩ : ∃ r, s.data.toList = 47 :: r := by
    cases h : s.data.toList with
    | nil => rw [h] at hp; cases hp
    | cons b l =>
      rw [h] at hp
      have : b = 47 := by simp [List.isPrefixOf] at hp; exact hp.symm
      exact ⟨l, by rw [this]⟩
  have hrl : r.length + 1 = s.size := by rw [← lsize s, hr]; rfl
  have hsz1 : 1 ≤ s.size := by omega
  have hex : (s.extract 1 s.size).data.toList = r := by rw [extract_toList, hr]; simp [← hrl]
  have hexs : (s.extract 1 s.size).size = r.length := by rw [← lsize, hex]
  obtain ⟨L, hL⟩ : ∃ L, cut sl r = L := ⟨_, rfl⟩
  have CS := split_hid (s.extract 1 s.size) 47 L (by rw [hex]; exact hL) (by omega)
  have hne : L ≠ [] := hL ▸ cut_ne sl r
  have hwt := wt_cut r
  rw [hL] at hwt
  have hT2 : T.data.toList = slashed (endC L (taken L)) := by rw [hT, hr, ← hL]; rfl
  have hTs : T.size ≤ s.size := by rw [← lsize T, ← lsize s, hT]; exact cleanP_length _
  have hLn : L.length ≤ 1000001 := by
    have h2 := cut_length sl r
    have h3 : r.countP sl ≤ r.length := List.countP_le_length
    rw [hL] at h2; omega
  have hXl : ∀ x ∈ L, x.length ≤ 1000000 := fun x hx => by
    have := cut_len sl r x (by rw [hL]; exact hx)
    omega
  obtain ⟨m, hm⟩ : ∃ m, L.length = m + 1 := ⟨L.length - 1, by have := List.length_pos_iff.2 hne; omega⟩
  have htl := fun k => taken_length (L.take k)
  have HTL : Hid (∀ k, (taken (L.take k)).length ≤ m + 1) := Lib.hid fun k => by
    have := htl k
    rw [List.length_take] at this; omega
  have HT2 := Lib.hid hT2
  have HXL := Lib.hid hXl
  have HM := Lib.hid hm
  obtain ⟨i0, hi, hz0, hz1, hz2⟩ := info_parts Tinfo9
  rw [hm] at CS
  clear hT hp hr hrl hex hexs hL hwt hT2 hXl htl hne
  have hm9 : m ≤ 1000000 := by rw [hm] at hLn; omega
  clear hm hLn
  go_enter Tryz.func126, Tryz.ntmps126
  go_wp2_with (go_at_call 110; refine (C.out _).mono ?_; rintro e w ⟨rfl, rfl⟩)
  refine (CS.out _ hmx).mono ?_
  rintro e w1 ⟨rfl, hown, hb⟩
  have hB : w.heap.size < w1.heap.size := (hown.lt _ rfl).2
  have hcell : Hid (∀ j (h : j < L.length), w1.cell? ⟨w.heap.size, j, none⟩ = some (strV L[j])) := Lib.hid fun j h => by
    rw [hown.cellAt j (by have := HM.out; omega)]
    simp [txtCells, List.getElem?_eq_getElem h]
  obtain ⟨W1, hmk, hown1, hgr⟩ := run_make_own (P := Tryz.prog) w1 w1.heap.size 53 9 i0 _ 1 Tryz.underlying53 hi hz0 hz1 .i64 .i64 (m + 1) (by rw [hz2]; omega) (by unfold maxLen; omega) (Nat.le_refl _)
  have hmk2 : (Instr.makeSlice 53 (.int .i64 0) (.int .i64 ((m : Int) + 1))).run Tryz.prog w1 = .ok (.slice (some ⟨w1.heap.size, 0, none⟩) 0 (m + 1)) W1 := hmk
  have B1 : Below w1.heap.size w1 W1 := Below.grown (Below.refl _ _) hgr (Nat.le_refl _) (fun k hk => by cases hk)
  generalize hv : (Value.slice (some ⟨w1.heap.size, 0, none⟩) 0 (m + 1)) = v0 at hmk2 hown1
  clear hmk hgr hv hown C CS hmx
  go_wp2
  go_loopw [4, 19] (fun v i wr => ∃ k : Nat, k ≤ m + 1 ∧ i = .int .i64 k ∧ wr.ownsRow w1.heap.size 9 1 v (taken (L.take k)).length (txtCells (taken (L.take k))) ∧ Below w1.heap.size w1 wr) (fun _ i _ => m + 1 - (intOf i).toNat)
  case atStart => exact ⟨0, Nat.zero_le _, rfl, hown1, B1⟩
  case round =>
    obtain ⟨k, hk, rfl, hown, hbw⟩ := hrel
    clear hown1 hmk2 B1
    by_cases hlt : k < m + 1
    · have hltL : k < L.length := by rw [HM.out]; exact hlt
      have hc := hcell.out k hltL
      rw [← hbw.cell hB] at hc
      obtain ⟨X, hX⟩ := text_of L[k]
      have hXs : X.size ≤ 1000000 := by have := HXL.out _ (List.getElem_mem hltL); rw [← hX, lsize] at this; exact this
      have hc2 : wr.cell? ⟨w.heap.size, k, none⟩ = some (.string X) := by rw [hc, ← hX]; rfl
      have g1 : (X.toList == [46]) = decide (L[k] = [46]) := by rw [text_lit, hX]
      have g2 : (X.toList == [46, 46]) = decide (L[k] = [46, 46]) := by rw [text_lit, hX]
      have hki : (k : Int) < (m : Int) + 1 := by omega
      by_cases h1 : L[k] = [46]
      · have e := step_dot hltL h1
        rw [decide_eq_true h1] at g1
        rw [← e] at hown
        clear g2 h1 e hc hX
        go_wp2
        go_roundw
        case rel => exact ⟨k + 1, by omega, by go_num, hown, hbw⟩
        case measure => simp [intOf]; omega
      by_cases h2 : L[k] = [46, 46]
      · have e := step_up hltL h2
        rw [decide_eq_false h1] at g1
        rw [decide_eq_true h2] at g2
        rcases List.eq_nil_or_concat (taken (L.take k)) with h0 | ⟨D, x, h0⟩
        · rw [h0] at hown e
          have HE : Hid (taken (L.take (k + 1)) = []) := Lib.hid e
          rcases rowForms hown with ⟨rfl, _⟩ | ⟨g, cap, rfl⟩
          all_goals
            clear h1 h2 e hc hX h0
            go_wp2
            go_roundw
            case rel => exact ⟨k + 1, by omega, by go_num, by rw [HE.out]; exact hown, hbw⟩
            case measure => simp [intOf]; omega
        · rw [List.concat_eq_append] at h0
          rw [h0, List.dropLast_concat] at e
          have HE := Lib.hid e
          rw [h0, List.length_append, List.length_singleton] at hown
          obtain ⟨d, hd⟩ : ∃ d, D.length = d := ⟨_, rfl⟩
          rw [hd] at hown
          have HD := Lib.hid hd
          obtain ⟨g, cap, rfl⟩ : ∃ g cap, u4 = .slice (some ⟨g, 0, none⟩) (d + 1) cap := by
            rcases rowForms hown with ⟨_, h⟩ | h
            · cases h
            · exact h
          have hcap : d + 1 ≤ cap := by
            rcases hown.2 with ⟨h, _⟩ | ⟨_, _, _, h, _, _, h3, _⟩
            · cases h
            · cases h; exact h3
          have hsh := shrink hown
          have hsl := Tslice (W := wr) g d cap hcap
          have hd9 : d ≤ 1000000 := by
            have := HTL.out (k + 1)
            rw [HE.out, hd] at this
            have h9 := HTL.out k
            rw [h0, List.length_append, List.length_singleton, hd] at h9; omega
          clear h1 h2 e hc hX h0 hd hown
          go_wp2
          go_roundw
          case rel => exact ⟨k + 1, by omega, by go_num, by rw [HE.out, HD.out]; exact hsh, hbw⟩
          case measure => simp [intOf]; omega
      · have e := step_in hltL h1 h2
        rw [decide_eq_false h1] at g1
        rw [decide_eq_false h2] at g2
        have hn9 := HTL.out k
        rw [← hX] at e
        obtain ⟨N, hN⟩ : ∃ N, (taken (L.take k)).length = N := ⟨_, rfl⟩
        obtain ⟨A, hA⟩ : ∃ A, txtCells (taken (L.take k)) = A := ⟨_, rfl⟩
        have HE : Hid ((taken (L.take (k + 1))).length = N + 1 ∧ txtCells (taken (L.take (k + 1))) = A ++ [.string X]) := Lib.hid (by
          rw [e, List.length_append, List.length_singleton, hN, txtCells_snoc, hA]
          exact ⟨rfl, rfl⟩)
        rw [hN, hA] at hown
        rw [hN] at hn9
        clear h1 h2 e hc hX hN hA
        go_wp2_with (at_builtin; refine wpList_append_own _ rfl _ _ 53 rfl w1.heap.size 9 i0 (.string ⟨#[]⟩) 1 16 Tryz.underlying53 hi hz0 hz1 hz2 rfl (by decide) _ _ _ rfl (hown.alloc _) ⟨wr.heap.size, 0, none⟩ 1 1 [.string X] rfl rfl (cell_one_new _ _ _) (fun x hx => by simp at hx; subst hx; rfl) (by unfold maxLen; omega) (by omega) (by have := hbw.size; simp; omega) ?_; intro v' w3 hown' hgrow3 hnil3
                     have hbw3 : Below w1.heap.size w1 w3 := Below.grown (hbw.alloc (by have := hbw.size; omega) _) hgrow3 (by have := hbw.size; simp; omega) (fun j hj => by have := (hown.lt _ hj).1; omega)
                     have X9 : Aside (w3.ownsRow w1.heap.size 9 1 v' (N + 1) (A ++ [.string X]) ∧ Below w1.heap.size w1 w3) := ⟨hown', hbw3⟩
                     clear hown' hgrow3 hnil3)
        go_roundw
        case rel => exact ⟨k + 1, by omega, by go_num, by rw [HE.out.1, HE.out.2]; exact X9.out.1, X9.out.2⟩
        case measure => simp [intOf]; omega
    · obtain rfl : k = m + 1 := by omega
      have hLt : L.take (m + 1) = L := List.take_of_length_le (by rw [HM.out]; exact Nat.le_refl _)
      rw [hLt] at hown
      have hltL : m < L.length := by rw [HM.out]; omega
      have hc := hcell.out m hltL
      rw [← hbw.cell hB] at hc
      obtain ⟨X, hX⟩ := text_of L[m]
      have hc2 : wr.cell? ⟨w.heap.size, m, none⟩ = some (.string X) := by rw [hc, ← hX]; rfl
      have g1 : (X.toList == [46]) = decide (L[m] = [46]) := by rw [text_lit, hX]
      have g2 : (X.toList == [46, 46]) = decide (L[m] = [46, 46]) := by rw [text_lit, hX]
      have hls : L.getLast? = some L[m] := by
        rw [List.getLast?_eq_getElem?, List.getElem?_eq_getElem (by rw [HM.out]; omega)]
        congr 1
        simp [HM.out]
      have hE : endC L (taken L) = if dots L[m] then taken L ++ [[]] else taken L := by unfold endC; rw [hls]
      have hne : endC L (taken L) ≠ [] := endC_ne (by intro h; rw [h] at hltL; cases hltL)
      obtain ⟨J, hJ⟩ := text_of (Lib.join (endC L (taken L)) [47])
      obtain ⟨hTJ, hJs⟩ := join_text hne HT2.out hJ
      have hadd := add_to ⟨#[47]⟩ J T hTJ (by show 1 + J.size ≤ _; omega)
      have hN9 := taken_length L
      rw [HM.out] at hN9
      have HJ := Lib.hid hJ
      have HNE := Lib.hid hne
      have hbw9 : Below w.heap.size w wr := hb.trans (hbw.mono (by omega))
      clear hc hls hJ hne hTJ hLt hcell HTL HXL
      by_cases hd : dots L[m] = true
      · rw [if_pos hd] at hE
        obtain ⟨N, hN⟩ : ∃ N, (taken L).length = N := ⟨_, rfl⟩
        obtain ⟨A, hA⟩ : ∃ A, txtCells (taken L) = A := ⟨_, rfl⟩
        have HE : Hid ((endC L (taken L)).length = N + 1 ∧ txtCells (endC L (taken L)) = A ++ [.string ⟨#[]⟩]) := Lib.hid (by
          rw [hE, List.length_append, List.length_singleton, hN, txtCells_snoc, hA]
          exact ⟨rfl, rfl⟩)
        rw [hN] at hN9
        rw [hN, hA] at hown
        have hd2 : (L[m] = [46] ∧ X.toList == [46]) ∨ ((X.toList == [46]) = false ∧ X.toList == [46, 46]) := by
          rcases dots_or hd with h | h
          · rw [decide_eq_true h] at g1; exact .inl ⟨h, g1⟩
          · rw [decide_eq_true h] at g2
            rw [decide_eq_false (by rw [h]; decide)] at g1
            exact .inr ⟨g1, g2⟩
        clear g1 g2 hd hE hX hN hA
        rcases hd2 with ⟨_, g1⟩ | ⟨g1, g2⟩
        all_goals
          go_wp2_with (at_builtin; refine wpList_append_own _ rfl _ _ 53 rfl w1.heap.size 9 i0 (.string ⟨#[]⟩) 1 16 Tryz.underlying53 hi hz0 hz1 hz2 rfl (by decide) _ _ _ rfl (hown.alloc _) ⟨wr.heap.size, 0, none⟩ 1 1 [.string ⟨#[]⟩] rfl rfl (cell_one_new _ _ _) (fun x hx => by simp at hx; subst hx; rfl) (by unfold maxLen; omega) (by omega) (by have := hbw.size; simp; omega) ?_; intro v' w3 hown' hgrow3 hnil3
                       have hbw3 : Below w1.heap.size w1 w3 := Below.grown (hbw.alloc (by have := hbw.size; omega) _) hgrow3 (by have := hbw.size; simp; omega) (fun j hj => by have := (hown.lt _ hj).1; omega)
                       have X9 : Aside (w3.ownsRow w1.heap.size 9 1 v' (endC L (taken L)).length (txtCells (endC L (taken L))) ∧ Below w1.heap.size w1 w3) := ⟨by rw [HE.out.1, HE.out.2]; exact hown', hbw3⟩
                       clear hown' hgrow3 hnil3)
          have hb9 : Below w.heap.size w w3 := hb.trans (X9.out.2.mono (by omega))
          refine (join_any w3 w1.heap.size (endC L (taken L)) _ HNE.out X9.out.1 J HJ.out (by omega) (by rw [HE.out.1]; omega)).mono ?_
          rintro e w4 ⟨rfl, b4⟩
          have B4 := hb9.trans (b4.mono hb9.size)
          clear b4 X9
          go_wp2
          go_ret
          exact ⟨rfl, B4⟩
      · rw [if_neg hd] at hE
        have g1' : (X.toList == [46]) = false := by rw [g1, decide_eq_false]; intro h; rw [h] at hd; exact hd rfl
        have g2' : (X.toList == [46, 46]) = false := by rw [g2, decide_eq_false]; intro h; rw [h] at hd; exact hd rfl
        have HO : Hid (wr.ownsRow w1.heap.size 9 1 u4 (endC L (taken L)).length (txtCells (endC L (taken L)))) := Lib.hid (by rw [hE]; exact hown)
        have HL9 : Hid ((endC L (taken L)).length ≤ 1000000000) := Lib.hid (by rw [hE]; omega)
        clear g1 g2 hd hE hX hown hN9
        go_wp2_with fail
        refine (join_any wr w1.heap.size (endC L (taken L)) _ HNE.out HO.out J HJ.out (by omega) HL9.out).mono ?_
        rintro e w4 ⟨rfl, b4⟩
        have B4 := hbw9.trans (b4.mono hbw9.size)
        clear b4
        go_wp2
        go_ret
        exact ⟨rfl, B4⟩
theorem clean_hid (s : ByteArray) (hs : s.size ≤ 1000000) (T : ByteArray) (hT : T.data.toList = cleanP s.data.toList) : Hid (∀ W, MaxIn W → Calls Tryz.prog 126 #[.string s] W fun e w' => e = .returned (.string T) ∧ Below W.heap.size W w') :=
  Lib.hid fun W hm => clean_any s hs T hT W hm

set_option maxRecDepth 100000 in
theorem path_any (s : ByteArray) (hs : s.size ≤ 1000000) (w : World) (hmx : MaxIn w) : Calls Tryz.prog 101 #[.string s] w fun e w' => e = .returned (.bool (pathM s.data.toList)) ∧ Below w.heap.size w w' := by
  have hm : pathM s.data.toList = (!s.toList.isEmpty && within 33 [63, 35] s.data.toList && decide (cleanP s.data.toList = s.data.toList)) := by rw [text_empty]; rfl
  obtain ⟨T, hT⟩ := text_of (cleanP s.data.toList)
  have C1 := clean_hid s hs T hT
  obtain ⟨wi, hwi⟩ : ∃ wi, within 33 [63, 35] s.data.toList = wi := ⟨_, rfl⟩
  have C2 := within_hid 33 ⟨#[63, 35]⟩ s wi hwi (by omega)
  have hq := text_eq T s
  rw [hT] at hq
  rw [← hq, hwi] at hm
  obtain ⟨q, hq2⟩ : ∃ q, (T.toList == s.toList) = q := ⟨_, rfl⟩
  rw [hq2] at hm
  clear hq hT hwi
  cases g : s.toList.isEmpty
  · cases wi
    · rw [g] at hm
      rw [hm]
      clear hm
      go_enter Tryz.func101, Tryz.ntmps101
      go_wp2_with (go_at_call 104; refine (C2.out _).mono ?_; rintro e w ⟨rfl, rfl⟩)
      go_ret
      exact ⟨rfl, Below.refl _ _⟩
    · rw [g] at hm
      rw [hm]
      clear hm
      go_enter Tryz.func101, Tryz.ntmps101
      go_wp2_with (first | (go_at_call 104; refine (C2.out _).mono ?_; rintro e w ⟨rfl, rfl⟩) | (go_at_call 126; refine (C1.out _ hmx).mono ?_; rintro e w1 ⟨rfl, hb⟩))
      all_goals go_ret
      all_goals exact ⟨rfl, hb⟩
  · rw [g] at hm
    rw [hm]
    clear hm
    go_enter Tryz.func101, Tryz.ntmps101
    go_wp2
    go_ret
    exact ⟨rfl, Below.refl _ _⟩
theorem path_hid (s : ByteArray) (b : Bool) (h : pathM s.data.toList = b) (hs : s.size ≤ 1000000) : Hid (∀ W, MaxIn W → Calls Tryz.prog 101 #[.string s] W fun e w' => e = .returned (.bool b) ∧ Below W.heap.size W w') :=
  Lib.hid fun W hm => by rw [← h]; exact path_any s hs W hm

end Go.Proofs.YtaldjkbnngeahaaGreatDoor
