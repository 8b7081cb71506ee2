/- A path cleaned: the document's. -/
import Derived.Test.YteoeppmigngkeaaGreatDoorWalkM
namespace Go.Proofs.YteoeppmigngkeaaGreatDoor
open Go.RowKit

theorem stepC_dot (acc : List (List UInt8)) : stepC acc [46] = acc := rfl
theorem stepC_up (acc : List (List UInt8)) : stepC acc [46, 46] = acc.dropLast := rfl
theorem stepC_in {acc : List (List UInt8)} {x : List UInt8} (h1 : x ≠ [46]) (h2 : x ≠ [46, 46]) : stepC acc x = acc ++ [x] := by
  unfold stepC
  rw [if_neg h1, if_neg h2]
theorem wt_take (Z : List (List UInt8)) (k : Nat) : wt (Z.take k) ≤ wt Z := by
  unfold wt slashed
  rw [← List.take_append_drop k Z, List.flatMap_append]
  simp

set_option maxRecDepth 100000 in
set_option maxHeartbeats 4000000 in
theorem refClean_any (s : ByteArray) (hs : s.size ≤ 1000000) (T : ByteArray) (hT : T.data.toList = cleanP s.data.toList) (w : World) : Calls Tryz.prog 44 #[.string s] w fun e w' => e = .returned (.string T) ∧ Below w.heap.size w w' := by
  by_cases h0 : s.size = 0
  · have hl : s.data.toList = [] := List.length_eq_zero_iff.1 (by rw [lsize]; exact h0)
    have g : s.toList.isEmpty = true := by rw [text_empty, hl]; rfl
    rw [hl] at hT
    obtain rfl : T = ⟨#[]⟩ := text_is hT
    clear hl hT
    go_enter Tryz.func44, Tryz.ntmps44
    go_wp2
    go_ret
    exact ⟨rfl, Below.refl _ _⟩
  have hpos : 0 < s.size := by omega
  obtain ⟨b0, r, hr⟩ : ∃ b l, s.data.toList = b :: l := by
    cases h : s.data.toList with
    | nil => rw [← lsize, h] at hpos; cases hpos
    | cons b l => exact ⟨b, l, rfl⟩
  have g : s.toList.isEmpty = false := by rw [text_empty, hr]; rfl
  have hb0 : s[0] = b0 := by
    obtain ⟨b, h1, _, h3⟩ := at_b hpos
    rw [hr] at h1; simp at h1; rw [h3, h1]
  cases hsl : sl b0
  · have g2 : ((s[0].toNat : Int) != 47) = true := by
      have := sl_int s[0]
      rw [hb0, hsl] at this
      rw [hb0, bne, this]; rfl
    have e : cleanP s.data.toList = [] := by rw [hr]; simp [cleanP, hsl]
    rw [e] at hT
    obtain rfl : T = ⟨#[]⟩ := text_is hT
    clear hT e hb0 hr hsl
    go_enter Tryz.func44, Tryz.ntmps44
    go_wp2
    go_ret
    exact ⟨rfl, Below.refl _ _⟩
  have g2 : ((s[0].toNat : Int) != 47) = false := by
    have := sl_int s[0]
    rw [hb0, hsl] at this
    rw [hb0, bne, this]; rfl
  have hdr : s.data.toList.drop 1 = r := by rw [hr]; rfl
  have CP := fun W => refPieces_any s hs hpos W
  rw [hdr] at CP
  have hrl : r.length + 1 = s.size := by rw [← lsize s, hr]; rfl
  obtain ⟨L, hL⟩ : ∃ L, cut sl r = L := ⟨_, rfl⟩
  have hne : L ≠ [] := hL ▸ cut_ne sl r
  have hT2 : T.data.toList = slashed (endC L (taken L)) := by
    rw [hT, hr, ← hL]
    show (if sl b0 then slashed (outC r) else []) = _
    rw [hsl]; rfl
  have hTs : T.size ≤ s.size := by rw [← lsize T, ← lsize s, hT]; exact cleanP_length _
  have hLn : L.length ≤ 1000001 := by
    have h2 := cut_length sl r
    have h3 : r.countP sl ≤ r.length := List.countP_le_length
    rw [hL] at h2; omega
  have hXl : ∀ x ∈ L, x.length ≤ 1000000 := fun x hx => by
    have := cut_len sl r x (by rw [hL]; exact hx)
    omega
  rw [hL] at CP
  obtain ⟨m, hm⟩ : ∃ m, L.length = m + 1 := ⟨L.length - 1, by have := List.length_pos_iff.2 hne; omega⟩
  have HTL : Hid (∀ k, (taken (L.take k)).length ≤ m + 1) := Lib.hid fun k => by
    have := taken_length (L.take k)
    rw [List.length_take] at this; omega
  have HT2 := Lib.hid hT2
  have HXL := Lib.hid hXl
  have HM := Lib.hid hm
  have HNE := Lib.hid hne
  obtain ⟨i0, hi, hz0, hz1, hz2⟩ := info_parts Tinfo9
  rw [hm] at CP
  have HCP := Lib.hid CP
  have hm9 : m ≤ 1000000 := by rw [hm] at hLn; omega
  clear hT hr hrl hL hT2 hXl hne hdr CP hb0 hsl hm hLn
  go_enter Tryz.func44, Tryz.ntmps44
  go_wp2_with fail
  refine (HCP.out _).mono ?_
  rintro e w2 ⟨v2, rfl, hown2, hb2⟩
  obtain ⟨g9, cp9, rfl⟩ : ∃ g cap, v2 = .slice (some ⟨g, 0, none⟩) (m + 1) cap := by
    rcases rowForms hown2 with ⟨_, h⟩ | h
    · cases h
    · exact h
  have hB : g9 < w2.heap.size := (hown2.lt _ rfl).2
  have hcell : Hid (∀ j (h : j < L.length), w2.cell? ⟨g9, j, none⟩ = some (strV L[j])) := Lib.hid fun j h => by
    rw [hown2.cellAt j (by have := HM.out; omega)]
    simp [txtCells, List.getElem?_eq_getElem h]
  clear hown2 HCP
  go_wp2
  go_loopw [4, 5] (fun v i wr => ∃ k : Nat, k ≤ m + 1 ∧ i = .int .i64 k ∧ wr.ownsRow w2.heap.size 9 1 v (refC L k).length (txtCells (refC L k)) ∧ Below w2.heap.size w2 wr) (fun _ i _ => m + 1 - (intOf i).toNat)
  case atStart => exact ⟨0, Nat.zero_le _, rfl, by rw [refC_zero L HNE.out]; exact World.ownsRow_nil w2 w2.heap.size 9 1, Below.refl _ _⟩
  case round =>
    obtain ⟨k, hk, rfl, hown, hbw⟩ := hrel
    by_cases hlt : k < m + 1
    · have hltL : k < L.length := by rw [HM.out]; exact hlt
      rw [refC_lt L k hltL] at hown
      have hc := hcell.out k hltL
      rw [← hbw.cell hB] at hc
      obtain ⟨X, hX⟩ := text_of L[k]
      have hXs : X.size ≤ 1000000 := by have := HXL.out _ (List.getElem_mem hltL); rw [← hX, lsize] at this; exact this
      have hc2 : wr.cell? ⟨g9, k, none⟩ = some (.string X) := by rw [hc, ← hX]; rfl
      have g1 : (X.toList == [46]) = decide (L[k] = [46]) := by rw [text_lit, hX]
      have g2 : (X.toList == [46, 46]) = decide (L[k] = [46, 46]) := by rw [text_lit, hX]
      have hki : (k : Int) < (m : Int) + 1 := by omega
      have hS := refC_succ L k hltL
      rw [HM.out] at hS
      have hn9 := HTL.out k
      obtain ⟨Q, hQ⟩ : ∃ Q, taken (L.take k) = Q := ⟨_, rfl⟩
      rw [hQ] at hS hown hn9
      clear hQ hc
      by_cases h1 : L[k] = [46]
      · rw [decide_eq_true h1] at g1
        rw [decide_eq_false (by rw [h1]; decide)] at g2
        rw [h1, stepC_dot] at hS
        by_cases hkm : k = m
        · have HE : Hid ((refC L (k + 1)).length = Q.length + 1 ∧ txtCells (refC L (k + 1)) = txtCells Q ++ [.string ⟨#[]⟩]) := Lib.hid (by
            rw [hS, if_pos ⟨by omega, rfl⟩, List.length_append, txtCells_snoc]; exact ⟨rfl, rfl⟩)
          have g3 : ((k : Int) == (m : Int)) = true := by rw [beq_iff_eq]; omega
          clear h1 hS hX hkm
          go_wp2_with (at_builtin; refine wpList_append_own _ rfl _ _ 56 rfl w2.heap.size 9 i0 (.string ⟨#[]⟩) 1 16 Tryz.underlying56 hi hz0 hz1 hz2 rfl (by decide) _ _ _ rfl (hown.alloc _) ⟨wr.heap.size, 0, none⟩ 1 1 [.string ⟨#[]⟩] rfl rfl (cell_one_new _ _ _) (fun x hx => by simp at hx; subst hx; rfl) (by unfold maxLen; omega) (by omega) (by have := hbw.size; simp; omega) ?_; intro v' w3 hown' hgrow3 hnil3
                       have hbw3 : Below w2.heap.size w2 w3 := Below.grown (hbw.alloc (by have := hbw.size; omega) _) hgrow3 (by have := hbw.size; simp; omega) (fun j hj => by have := (hown.lt _ hj).1; omega)
                       have X9 : Aside (w3.ownsRow w2.heap.size 9 1 v' (Q.length + 1) (txtCells Q ++ [.string ⟨#[]⟩]) ∧ Below w2.heap.size w2 w3) := ⟨hown', hbw3⟩
                       clear hown' hgrow3 hnil3)
          go_roundw
          case rel => exact ⟨k + 1, by omega, by go_num, by rw [HE.out.1, HE.out.2]; exact X9.out.1, X9.out.2⟩
          case measure => simp [intOf]; omega
        · have HE : Hid (refC L (k + 1) = Q) := Lib.hid (by rw [hS, if_neg (by rintro ⟨h, _⟩; omega)])
          have g3 : ((k : Int) == (m : Int)) = false := by rw [beq_eq_false_iff_ne]; omega
          clear h1 hS hX hkm
          go_wp2
          go_roundw
          case rel => exact ⟨k + 1, by omega, by go_num, by rw [HE.out]; exact hown, hbw⟩
          case measure => simp [intOf]; omega
      by_cases h2 : L[k] = [46, 46]
      · rw [decide_eq_false h1] at g1
        rw [decide_eq_true h2] at g2
        rw [h2, stepC_up] at hS
        rcases List.eq_nil_or_concat Q with h9 | ⟨D, x, h9⟩
        · subst h9
          by_cases hkm : k = m
          · have HE : Hid ((refC L (k + 1)).length = 0 + 1 ∧ txtCells (refC L (k + 1)) = [] ++ [.string ⟨#[]⟩]) := Lib.hid (by
              rw [hS, if_pos ⟨by omega, rfl⟩]; exact ⟨rfl, rfl⟩)
            have g3 : ((k : Int) == (m : Int)) = true := by rw [beq_iff_eq]; omega
            have hown0 : wr.ownsRow w2.heap.size 9 1 u4 0 [] := hown
            clear h1 h2 hS hX hkm hown
            rcases rowForms hown0 with ⟨rfl, _⟩ | ⟨g, cap, rfl⟩
            all_goals
              go_wp2_with (at_builtin; refine wpList_append_own _ rfl _ _ 56 rfl w2.heap.size 9 i0 (.string ⟨#[]⟩) 1 16 Tryz.underlying56 hi hz0 hz1 hz2 rfl (by decide) _ _ _ rfl (hown0.alloc _) ⟨wr.heap.size, 0, none⟩ 1 1 [.string ⟨#[]⟩] rfl rfl (cell_one_new _ _ _) (fun x hx => by simp at hx; subst hx; rfl) (by unfold maxLen; omega) (by omega) (by have := hbw.size; simp; omega) ?_; intro v' w3 hown' hgrow3 hnil3
                           have hbw3 : Below w2.heap.size w2 w3 := Below.grown (hbw.alloc (by have := hbw.size; omega) _) hgrow3 (by have := hbw.size; simp; omega) (fun j hj => by have := (hown0.lt _ hj).1; omega)
                           have X9 : Aside (w3.ownsRow w2.heap.size 9 1 v' (0 + 1) ([] ++ [.string ⟨#[]⟩]) ∧ Below w2.heap.size w2 w3) := ⟨hown', hbw3⟩
                           clear hown' hgrow3 hnil3)
              go_roundw
              case rel => exact ⟨k + 1, by omega, by go_num, by rw [HE.out.1, HE.out.2]; exact X9.out.1, X9.out.2⟩
              case measure => simp [intOf]; omega
          · have HE : Hid (refC L (k + 1) = []) := Lib.hid (by rw [hS, if_neg (by rintro ⟨h, _⟩; omega)]; rfl)
            have g3 : ((k : Int) == (m : Int)) = false := by rw [beq_eq_false_iff_ne]; omega
            have hown0 : wr.ownsRow w2.heap.size 9 1 u4 0 [] := hown
            clear h1 h2 hS hX hkm hown
            rcases rowForms hown0 with ⟨rfl, _⟩ | ⟨g, cap, rfl⟩
            all_goals
              go_wp2
              go_roundw
              case rel => exact ⟨k + 1, by omega, by go_num, by rw [HE.out]; exact hown0, hbw⟩
              case measure => simp [intOf]; omega
        · rw [List.concat_eq_append] at h9
          subst h9
          rw [List.dropLast_concat] at hS
          rw [List.length_append, List.length_singleton] at hown hn9
          obtain ⟨d, hd⟩ : ∃ d, D.length = d := ⟨_, rfl⟩
          rw [hd] at hown hn9
          obtain ⟨g, cap, rfl⟩ : ∃ g cap, u4 = .slice (some ⟨g, 0, none⟩) (d + 1) cap := by
            rcases rowForms hown with ⟨_, h⟩ | h
            · cases h
            · exact h
          have hcap : d + 1 ≤ cap := by
            rcases hown.2 with ⟨h, _⟩ | ⟨_, _, _, h, _, _, h3, _⟩
            · cases h
            · cases h; exact h3
          have hsh := shrink hown
          have hsl := Tslice (W := wr) g d cap hcap
          by_cases hkm : k = m
          · have HE : Hid ((refC L (k + 1)).length = d + 1 ∧ txtCells (refC L (k + 1)) = txtCells D ++ [.string ⟨#[]⟩]) := Lib.hid (by
              rw [hS, if_pos ⟨by omega, rfl⟩, List.length_append, txtCells_snoc, hd]; exact ⟨rfl, rfl⟩)
            have g3 : ((k : Int) == (m : Int)) = true := by rw [beq_iff_eq]; omega
            clear h1 h2 hS hX hkm hown hd
            go_wp2_with (at_builtin; refine wpList_append_own _ rfl _ _ 56 rfl w2.heap.size 9 i0 (.string ⟨#[]⟩) 1 16 Tryz.underlying56 hi hz0 hz1 hz2 rfl (by decide) _ _ _ rfl (hsh.alloc _) ⟨wr.heap.size, 0, none⟩ 1 1 [.string ⟨#[]⟩] rfl rfl (cell_one_new _ _ _) (fun x hx => by simp at hx; subst hx; rfl) (by unfold maxLen; omega) (by omega) (by have := hbw.size; simp; omega) ?_; intro v' w3 hown' hgrow3 hnil3
                         have hbw3 : Below w2.heap.size w2 w3 := Below.grown (hbw.alloc (by have := hbw.size; omega) _) hgrow3 (by have := hbw.size; simp; omega) (fun j hj => by have := (hsh.lt _ hj).1; omega)
                         have X9 : Aside (w3.ownsRow w2.heap.size 9 1 v' (d + 1) (txtCells D ++ [.string ⟨#[]⟩]) ∧ Below w2.heap.size w2 w3) := ⟨hown', hbw3⟩
                         clear hown' hgrow3 hnil3)
            go_roundw
            case rel => exact ⟨k + 1, by omega, by go_num, by rw [HE.out.1, HE.out.2]; exact X9.out.1, X9.out.2⟩
            case measure => simp [intOf]; omega
          · have HE : Hid (refC L (k + 1) = D) := Lib.hid (by rw [hS, if_neg (by rintro ⟨h, _⟩; omega)])
            have HD := Lib.hid hd
            have g3 : ((k : Int) == (m : Int)) = false := by rw [beq_eq_false_iff_ne]; omega
            clear h1 h2 hS hX hkm hown hd
            go_wp2
            go_roundw
            case rel => exact ⟨k + 1, by omega, by go_num, by rw [HE.out, HD.out]; exact hsh, hbw⟩
            case measure => simp [intOf]; omega
      · rw [decide_eq_false h1] at g1
        rw [decide_eq_false h2] at g2
        have hdd : dots L[k] = false := by unfold dots; rw [decide_eq_false]; rintro (h | h); exact h1 h; exact h2 h
        have HE : Hid ((refC L (k + 1)).length = Q.length + 1 ∧ txtCells (refC L (k + 1)) = txtCells Q ++ [.string X]) := Lib.hid (by
          rw [hS, if_neg (by rw [hdd]; rintro ⟨_, h⟩; cases h), stepC_in h1 h2, ← hX, List.length_append, txtCells_snoc]; exact ⟨rfl, rfl⟩)
        clear h1 h2 hS hX hdd
        go_wp2_with (at_builtin; refine wpList_append_own _ rfl _ _ 56 rfl w2.heap.size 9 i0 (.string ⟨#[]⟩) 1 16 Tryz.underlying56 hi hz0 hz1 hz2 rfl (by decide) _ _ _ rfl (hown.alloc _) ⟨wr.heap.size, 0, none⟩ 1 1 [.string X] rfl rfl (cell_one_new _ _ _) (fun x hx => by simp at hx; subst hx; rfl) (by unfold maxLen; omega) (by omega) (by have := hbw.size; simp; omega) ?_; intro v' w3 hown' hgrow3 hnil3
                     have hbw3 : Below w2.heap.size w2 w3 := Below.grown (hbw.alloc (by have := hbw.size; omega) _) hgrow3 (by have := hbw.size; simp; omega) (fun j hj => by have := (hown.lt _ hj).1; omega)
                     have X9 : Aside (w3.ownsRow w2.heap.size 9 1 v' (Q.length + 1) (txtCells Q ++ [.string X]) ∧ Below w2.heap.size w2 w3) := ⟨hown', hbw3⟩
                     clear hown' hgrow3 hnil3)
        go_roundw
        case rel => exact ⟨k + 1, by omega, by go_num, by rw [HE.out.1, HE.out.2]; exact X9.out.1, X9.out.2⟩
        case measure => simp [intOf]; omega
    · obtain rfl : k = m + 1 := by omega
      have hZ : refC L (m + 1) = endC L (taken L) := by rw [← HM.out]; exact refC_all L
      rw [hZ] at hown
      clear hZ hcell HXL HTL HM HNE
      generalize endC L (taken L) = Z at hown HT2
      have hZw : (slashed Z).length = T.size := by rw [← HT2.out, lsize]
      obtain ⟨N, hN⟩ : ∃ N, Z.length = N := ⟨_, rfl⟩
      rw [hN] at hown
      have HZ : Hid (∀ k, (slashed (Z.take k)).length ≤ T.size) := Lib.hid fun k => by rw [← hZw]; exact wt_take Z k
      have HN := Lib.hid hN
      have HCL : Hid (∀ j (h : j < Z.length), ∃ g cap, u4 = .slice (some ⟨g, 0, none⟩) N cap ∧ wr.cell? ⟨g, j, none⟩ = some (strV Z[j])) := Lib.hid fun j h => by
        rcases rowForms hown with ⟨_, h9⟩ | ⟨g, cap, rfl⟩
        · omega
        · refine ⟨g, cap, rfl, ?_⟩
          rw [hown.cellAt j (by omega)]
          simp [txtCells, List.getElem?_eq_getElem h]
      have hfm : ∃ a c, u4 = .slice a N c := by
        rcases rowForms hown with ⟨rfl, h9⟩ | ⟨g, cap, rfl⟩
        · exact ⟨_, _, by rw [h9]⟩
        · exact ⟨_, _, rfl⟩
      have hN9 : N ≤ 1000000 := by
        have h1 : ∀ M : List (List UInt8), M.length ≤ wt M := fun M => by
          induction M with
          | nil => exact Nat.le_refl _
          | cons a M ih =>
            have : wt (a :: M) = (a.length + 1) + wt M := by simp [wt, slashed]; omega
            rw [this, List.length_cons]; omega
        have h2 := h1 Z
        unfold wt at h2
        omega
      have hbw9 : Below w.heap.size w wr := hb2.trans (hbw.mono hb2.size)
      clear hown hN hZw hbw
      obtain ⟨a4, c4, rfl⟩ := hfm
      go_wp2
      go_loop [7, 8] (fun t i => ∃ (k : Nat) (S : ByteArray), t = .string S ∧ i = .int .i64 k ∧ k ≤ N ∧ Hid (S.data.toList = slashed (Z.take k))) (fun _ i => N - (intOf i).toNat)
      case atStart => exact ⟨0, ⟨#[]⟩, rfl, rfl, Nat.zero_le _, Lib.hid rfl⟩
      case round =>
        obtain ⟨k, S, rfl, rfl, hk, HS⟩ := hrel
        have hSl : S.size ≤ T.size := by rw [← lsize, HS.out]; exact HZ.out k
        by_cases hlt : k < N
        · have hltZ : k < Z.length := by rw [HN.out]; exact hlt
          obtain ⟨g, cap, h9, hc⟩ := HCL.out k hltZ
          obtain ⟨rfl, rfl⟩ : a4 = some ⟨g, 0, none⟩ ∧ c4 = cap := by simpa using h9
          obtain ⟨X, hX⟩ := text_of Z[k]
          have hc2 : wr.cell? ⟨g, k, none⟩ = some (.string X) := by rw [hc, ← hX]; rfl
          obtain ⟨S1, hS1⟩ := text_of (S.data.toList ++ [47])
          obtain ⟨S2, hS2⟩ := text_of (S1.data.toList ++ X.data.toList)
          have z1 : S1.size = S.size + 1 := by rw [← lsize, hS1, List.length_append, lsize]; rfl
          have hnx : S2.data.toList = slashed (Z.take (k + 1)) := by
            rw [hS2, hS1, HS.out, List.take_succ_eq_append_getElem hltZ, slashed_snoc, hX]; simp
          have z2 : S2.size ≤ T.size := by rw [← lsize, hnx]; exact HZ.out (k + 1)
          have z3 : S2.size = S1.size + X.size := by rw [← lsize, hS2, List.length_append, lsize, lsize]
          have a1 := add_to S ⟨#[47]⟩ S1 hS1 (by show S.size + 1 ≤ _; omega)
          have a2 := add_to S1 X S2 hS2 (by omega)
          have HNX := Lib.hid hnx
          clear h9 hc hX hS1 hS2 hnx z1 z2 z3
          go_wp2
          go_round
          case rel => exact ⟨k + 1, S2, rfl, by go_num, by omega, HNX⟩
          case measure => simp [intOf]; omega
        · obtain rfl : k = N := by omega
          obtain rfl : S = T := by
            apply ByteArray.ext
            apply Array.toList_inj.1
            rw [HS.out, HT2.out, List.take_of_length_le (by rw [HN.out]; exact Nat.le_refl _)]
          clear HCL HZ HS
          go_wp2
          go_ret
          exact ⟨rfl, hbw9⟩
theorem refClean_hid (s : ByteArray) (hs : s.size ≤ 1000000) (T : ByteArray) (hT : T.data.toList = cleanP s.data.toList) : Hid (∀ W, Calls Tryz.prog 44 #[.string s] W fun e w' => e = .returned (.string T) ∧ Below W.heap.size W w') :=
  Lib.hid fun W => refClean_any s hs T hT W

end Go.Proofs.YteoeppmigngkeaaGreatDoor
