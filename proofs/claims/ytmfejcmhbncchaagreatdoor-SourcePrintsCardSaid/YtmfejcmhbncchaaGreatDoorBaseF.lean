/- Encode and Decode: the program's. -/
import Derived.Test.YtmfejcmhbncchaaGreatDoorBaseE
namespace Go.Proofs.YtmfejcmhbncchaaGreatDoor
open Go.RowKit

theorem conv_nats {w : World} {base : Nat} {v : Value} {m : List Nat} (h : w.ownsRow base 5 1 v m.length (natCells m)) (hm : ∀ x ∈ m, x < 256) :
    (convert 46 9 v).run Tryz.prog w = .ok (.string ⟨(m.map Nat.toUInt8).toArray⟩) w := by
  rcases rowForms h with ⟨rfl, h2⟩ | ⟨g, cap, rfl⟩
  · have e : m = [] := List.length_eq_zero_iff.1 h2
    subst e
    exact run_convert_bytes_nil (P := Tryz.prog) w 46 5 Tryz.underlying46 Tryz.underlying5 0 0 9 Tryz.underlying9
  · refine conv_cells w g cap _ (fun j b hj => ?_) _ (by simp)
    rw [List.getElem?_map] at hj
    have hlt : j < m.length := by
      rcases Nat.lt_or_ge j m.length with h1 | h1
      · exact h1
      · rw [List.getElem?_eq_none h1] at hj; cases hj
    rw [List.getElem?_eq_getElem hlt] at hj
    cases hj
    have hc := h.cellAt j (by omega)
    have e : (⟨g, j, none⟩ : Addr) = ⟨g, j, none⟩ := rfl
    rw [hc]
    have := hm m[j] (List.getElem_mem hlt)
    simp [natCells, List.getElem?_eq_getElem hlt]
    omega
theorem repeat_hid (c : Nat) (hc : c ≤ 3) (T : ByteArray) (hT : T.data.toList = List.replicate c 61) : Hid (∀ W, Calls Tryz.prog 30 #[.string ⟨#[61]⟩, .int .i64 (c : Int)] W fun e w' => e = .returned (.string T) ∧ Below W.heap.size W w') := Lib.hid fun W => by
  have h := Tryz.strings_Repeat ⟨#[61]⟩ c W (by omega) (by show 1 * c ≤ _; omega)
  have e : Lib.repeatL ((⟨#[61]⟩ : ByteArray).data.toList) c = T.data.toList := by
    have := Lib.repeatL_replicate 61 1 c
    rw [Nat.mul_one] at this
    rw [hT, ← this]
    rfl
  rw [e] at h
  have et : (⟨T.data.toList.toArray⟩ : ByteArray) = T := (text_is rfl).symm
  rw [et] at h
  exact h
theorem written_hid (l : List Nat) (hl64 : ∀ x ∈ l, x < 64) (T : ByteArray) (hT : T.data.toList = l.map sgn) (hl : l.length ≤ 1000000000) :
    Hid (∀ W v, NatsIn W v l → Calls Tryz.prog 29 #[v] W fun e w' => e = .returned (.string T) ∧ Below W.heap.size W w') :=
  Lib.hid fun W v h => written_any l hl64 v W T hT h hl

set_option maxRecDepth 100000 in
set_option maxHeartbeats 2000000 in
theorem encode_any (s : ByteArray) (hs : s.size ≤ 100000) (T : ByteArray) (hT : T.data.toList = encM s.data.toList) (w : World) :
    Calls Tryz.prog 15 #[.string s] w fun e w' => e = .returned (.string T) ∧ Below w.heap.size w w' := by
  have hconv := Lib.run_convert_string_bytes (P := Tryz.prog) w 9 46 5 s Tryz.underlying9 Tryz.underlying46 Tryz.underlying5
  have hin := nats_world w s (grownCap w s.size 0 5)
  have hbel := below_bytesWorld w s
  generalize Lib.bytesWorld w 5 s = W at hconv hin hbel
  generalize grownCap w s.size 0 5 = cap at hconv hin
  have CR := Lib.hid (regroup_any 8 6 (by decide) (by decide) (by decide) (by decide) (nat8 s.data.toList) (fun x hx => by have := nat8_lt _ x hx; omega) _ W hin (by rw [nat8, List.length_map, lsize]; omega))
  obtain ⟨g1, g2, g3⟩ := grp_spec 6 (by decide) (flat 8 (nat8 s.data.toList))
  have hE : encN s.data.toList = (grp 6 (flat 8 (nat8 s.data.toList))).1 ++ (if (grp 6 (flat 8 (nat8 s.data.toList))).2.length = 0 then [] else [num (grp 6 (flat 8 (nat8 s.data.toList))).2 * 2 ^ (6 - (grp 6 (flat 8 (nat8 s.data.toList))).2.length)]) := rfl
  have hnum := num_lt (grp 6 (flat 8 (nat8 s.data.toList))).2
  have hE64 := (enc_spec s.data.toList).2
  have hEl := enc_length s.data.toList
  rw [lsize] at hEl
  generalize grp 6 (flat 8 (nat8 s.data.toList)) = g at *
  obtain ⟨m, h⟩ := g
  simp only at CR g2 g3 hE hnum
  obtain ⟨L, hL⟩ : ∃ L, L = h.length := ⟨_, rfl⟩
  obtain ⟨H, hH⟩ : ∃ H, H = num h := ⟨_, rfl⟩
  rw [← hL, ← hH] at CR hE hnum
  rw [← hL] at g2
  have hms : ∀ n : Nat, n = (encN s.data.toList).length → (4 - (n : Int) % 4) % 4 = (((4 - n % 4) % 4 : Nat) : Int) := fun n _ => by omega
  obtain ⟨T1, hT1⟩ := text_of ((encN s.data.toList).map sgn)
  obtain ⟨T2, hT2⟩ := text_of (fill (encN s.data.toList).length)
  have z1 : T1.size ≤ 1000000 := by rw [← lsize, hT1, List.length_map]; omega
  have z2 : T2.size ≤ 3 := by rw [← lsize, hT2, fill_length]; omega
  have hadd := add_to T1 T2 T (by rw [hT, hT1, hT2]; rfl) (by omega)
  have CW := written_hid (encN s.data.toList) hE64 T1 hT1 (by omega)
  have CF := repeat_hid ((4 - (encN s.data.toList).length % 4) % 4) (by omega) T2 hT2
  clear hin hT hT1 hT2 g1 hL hH
  by_cases h0 : L = 0
  · subst h0
    rw [if_pos rfl, List.append_nil] at hE
    rw [hE] at CW CF hE64 hEl hms
    have hm := hms m.length rfl
    have hM : m.length ≤ 1000000 := by omega
    clear hms hE hEl
    go_enter Tryz.func15, Tryz.ntmps15
    go_wp2_with fail
    refine CR.out.mono ?_
    rintro e w1 ⟨⟨u, rfl, hown⟩, b1⟩
    have hN := NatsIn.of_row hown
    obtain ⟨a, cp, rfl⟩ := hN.form
    have B1 := hbel.trans (b1.mono hbel.size)
    have HN := Lib.hid hN
    clear hN hown b1 hconv CR
    generalize m.length = M at *
    generalize (4 - M % 4) % 4 = c at *
    go_wp2_with fail
    refine (CW.out _ _ HN.out).mono ?_
    rintro e w2 ⟨rfl, b2⟩
    have B2 := B1.trans (b2.mono B1.size)
    clear b2
    go_wp2_with fail
    refine (CF.out _).mono ?_
    rintro e w3 ⟨rfl, b3⟩
    have B3 := B2.trans (b3.mono B2.size)
    go_wp2
    go_ret
    exact ⟨rfl, B3⟩
  · rw [if_neg h0] at hE
    obtain ⟨V, hV⟩ : ∃ V, V = H * 2 ^ (6 - L) := ⟨_, rfl⟩
    rw [← hV] at hE
    rw [hE] at CW CF hE64 hEl hms
    have hm := hms (m.length + 1) (by rw [List.length_append, List.length_singleton])
    rw [List.length_append, List.length_singleton] at hEl CF
    have hM : m.length ≤ 1000000 := by omega
    have hz : (0 : Int) < (L : Int) := by omega
    have hV63 : V < 64 := hE64 V (by simp)
    have hsn := natCells_snoc m V
    have hVz : (H : Int) * 2 ^ (6 - L) = (V : Int) := by rw [hV, Int.natCast_mul, Int.natCast_pow]; rfl
    have hmi : -(((m.length : Int) + 1) % 4) % 4 = (((4 - (m.length + 1) % 4) % 4 : Nat) : Int) := by omega
    obtain ⟨i0, hi, hz0, hz1, hz2⟩ := info_parts Tinfo5
    clear hms hE hEl hV hm hnum hE64 g3
    go_enter Tryz.func15, Tryz.ntmps15
    go_wp2_with fail
    refine CR.out.mono ?_
    rintro e w1 ⟨⟨u, rfl, hown⟩, b1⟩
    have B1 := hbel.trans (b1.mono hbel.size)
    have hN := NatsIn.of_row hown
    obtain ⟨a, cp, rfl⟩ := hN.form
    have hWw := hbel.size
    have HSN := Lib.hid hsn
    obtain ⟨A, hA⟩ : ∃ A, natCells m = A := ⟨_, rfl⟩
    obtain ⟨M, hMe⟩ : ∃ M, m.length = M := ⟨_, rfl⟩
    rw [hA, hMe] at hown
    rw [hMe] at hM CF hmi ⊢
    have HA := Lib.hid hA
    have HM := Lib.hid hMe
    clear hN hconv CR hsn hA hMe
    rw [← hmi] at CF
    clear hmi
    have hb1s := b1.size
    go_wp2_with (at_builtin; refine wpList_append_own _ rfl _ _ 46 rfl W.heap.size 5 i0 (.int .u8 0) 1 1 Tryz.underlying46 hi hz0 hz1 hz2 rfl (by decide) _ _ _ rfl (hown.alloc _) ⟨w1.heap.size, 0, none⟩ 1 1 [.int .u8 (V : Int)] rfl rfl (cell_one_new _ _ _) (fun x hx => by simp at hx; subst hx; rfl) (by unfold maxLen; omega) (by omega) (by simp; omega) ?_; intro v' w5 hown' hgrow5 hnil5
                 have hb5 : Below W.heap.size W w5 := Below.grown (b1.alloc b1.size _) hgrow5 (by simp; omega) (fun j hj => by have := (hown.lt _ hj).1; omega)
                 have X : Aside (NatsIn w5 v' (m ++ [V]) ∧ Below w.heap.size w w5) := ⟨NatsIn.of_row (by rw [HSN.out, HA.out, List.length_append, List.length_singleton, HM.out]; exact hown'), hbel.trans (hb5.mono hbel.size)⟩
                 obtain ⟨a', cp', rfl⟩ : ∃ a' cp', v' = .slice a' (M + 1) cp' := by
                   have := X.out.1.form
                   rw [List.length_append, List.length_singleton, HM.out] at this
                   exact this
                 clear hown' hgrow5 hnil5 hown hb5)
    refine (CW.out _ _ X.out.1).mono ?_
    rintro e w2 ⟨rfl, b2⟩
    have B2 := X.out.2.trans (b2.mono X.out.2.size)
    clear b2
    go_wp2_with fail
    refine (CF.out _).mono ?_
    rintro e w3 ⟨rfl, b3⟩
    have B3 := B2.trans (b3.mono B2.size)
    go_wp2
    go_ret
    exact ⟨rfl, B3⟩
theorem encode_hid (s : ByteArray) (hs : s.size ≤ 100000) (T : ByteArray) (hT : T.data.toList = encM s.data.toList) : Hid (∀ W, Calls Tryz.prog 15 #[.string s] W fun e w' => e = .returned (.string T) ∧ Below W.heap.size W w') :=
  Lib.hid fun W => encode_any s hs T hT W
theorem read_hid (s : ByteArray) (hg : good s.data.toList = true) (hs : s.size ≤ 1000000000) : Hid (∀ W, Calls Tryz.prog 92 #[.string s] W fun e w' => (∃ u, e = .returned u ∧ NatsIn w' u (s.data.toList.map valN)) ∧ Below W.heap.size W w') :=
  Lib.hid fun W => read_any s hg hs W
theorem form_hid (s : ByteArray) (hs : s.size ≤ 1099511627776) (b : Bool) (hb : formM s.data.toList = b) : Hid (∀ W, Calls Tryz.prog 54 #[.string s] W fun e w' => e = .returned (.bool b) ∧ w' = W) :=
  Lib.hid fun W => by rw [← hb]; exact form_any s hs W

set_option maxRecDepth 100000 in
set_option maxHeartbeats 2000000 in
theorem decode_any (s : ByteArray) (hs : s.size ≤ 100000) (T : ByteArray) (b : Bool) (hT : (T.data.toList, b) = decM s.data.toList) (w : World) :
    Calls Tryz.prog 72 #[.string s] w fun e w' => e = .returned (.tuple #[.string T, .bool b]) ∧ Below w.heap.size w w' := by
  unfold decM at hT
  by_cases h0 : s.data.toList = []
  · have g : s.toList.isEmpty = true := by rw [text_empty, h0]; rfl
    rw [if_pos h0] at hT
    obtain ⟨h1, rfl⟩ := Prod.mk.inj hT
    obtain rfl : T = ⟨#[]⟩ := text_is h1
    clear hT h1 h0
    go_enter Tryz.func72, Tryz.ntmps72
    go_wp2
    go_ret2
    exact ⟨rfl, Below.refl _ _⟩
  have g : s.toList.isEmpty = false := by
    rw [text_empty]
    cases h : s.data.toList with
    | nil => exact absurd h h0
    | cons => rfl
  rw [if_neg h0] at hT
  by_cases h1 : formM s.data.toList = false
  · rw [if_pos h1] at hT
    obtain ⟨h2, rfl⟩ := Prod.mk.inj hT
    obtain rfl : T = ⟨#[]⟩ := text_is h2
    have CF := form_hid s (by omega) false h1
    clear hT h1 h0 h2
    go_enter Tryz.func72, Tryz.ntmps72
    go_wp2_with fail
    refine (CF.out _).mono ?_
    rintro e w' ⟨rfl, rfl⟩
    go_wp2
    go_ret2
    exact ⟨rfl, Below.refl _ _⟩
  rw [if_neg h1] at hT
  have hform : formM s.data.toList = true := by simpa using h1
  have CF := form_hid s (by omega) true hform
  obtain ⟨D, hD⟩ := text_of (hd s.data.toList)
  have CD : Hid (∀ W, Calls Tryz.prog 84 #[.string s] W fun e w' => e = .returned (.string D) ∧ w' = W) := Lib.hid fun W => without_any s D hD (by omega) W
  have hgood : good D.data.toList = true := by
    rw [hD]
    unfold formM at hform
    simp only [Bool.and_eq_true] at hform
    exact hform.2
  have hDs : D.size ≤ s.size := by rw [← lsize D, ← lsize s, hD]; exact hd_le _
  rw [← hD, lsize, lsize] at hT
  by_cases h2 : D.size < s.size ∧ s.size % 4 ≠ 0
  · rw [if_pos h2] at hT
    obtain ⟨h3, rfl⟩ := Prod.mk.inj hT
    obtain rfl : T = ⟨#[]⟩ := text_is h3
    have z1 : (D.size : Int) < (s.size : Int) := by omega
    have z2 : ((s.size : Int) % 4 != 0) = true := by rw [bne_iff_ne]; omega
    clear hT h1 h0 h2 h3 hD hgood hform
    go_enter Tryz.func72, Tryz.ntmps72
    go_wp2_with fail
    refine (CF.out _).mono ?_
    rintro e w' ⟨rfl, rfl⟩
    go_wp2_with fail
    refine (CD.out _).mono ?_
    rintro e w' ⟨rfl, rfl⟩
    go_wp2
    go_ret2
    exact ⟨rfl, Below.refl _ _⟩
  rw [if_neg h2] at hT
  have CRd := read_hid D hgood (by omega)
  have CR : Hid (∀ W v, NatsIn W v (D.data.toList.map valN) → Calls Tryz.prog 28 #[v, .int .i64 6, .int .i64 8] W fun e w' => (∃ u, e = .returned (.tuple #[u, .int .u8 (num (grp 8 (bits6 D.data.toList)).2 : Nat), .int .i64 ((grp 8 (bits6 D.data.toList)).2.length : Nat)]) ∧ w'.ownsRow W.heap.size 5 1 u (grp 8 (bits6 D.data.toList)).1.length (natCells (grp 8 (bits6 D.data.toList)).1)) ∧ Below W.heap.size W w') := Lib.hid fun W v h =>
    regroup_any 6 8 (by decide) (by decide) (by decide) (by decide) (D.data.toList.map valN) (fun x hx => by obtain ⟨c, _, rfl⟩ := List.mem_map.1 hx; have := valN_lt c; omega) v W h (by rw [List.length_map, lsize]; omega)
  obtain ⟨g1, g2, g3⟩ := grp_spec 8 (by decide) (bits6 D.data.toList)
  generalize grp 8 (bits6 D.data.toList) = p at *
  obtain ⟨m, r⟩ := p
  simp only at CR g2 g3 hT
  obtain ⟨L, hL⟩ : ∃ L, L = r.length := ⟨_, rfl⟩
  obtain ⟨H, hH⟩ : ∃ H, H = num r := ⟨_, rfl⟩
  have hH8 : H ≤ 127 := by rw [hH]; exact num_127 (Nat.le_refl _) g2
  rw [← hL] at g2
  rw [← hL, ← hH] at CR hT
  have HM : Hid (∀ {w : World} {base : Nat} {v : Value}, w.ownsRow base 5 1 v m.length (natCells m) → (convert 46 9 v).run Tryz.prog w = .ok (.string ⟨(m.map Nat.toUInt8).toArray⟩) w) := Lib.hid fun h => conv_nats h g3
  clear hL hH g1 g3 h1 hD hform hgood h0
  have hF : D.size < s.size → ((s.size : Int) % 4 != 0) = false := fun h => by rw [bne_eq_false_iff_eq]; omega
  clear h2
  by_cases z1 : (D.size : Int) < (s.size : Int)
  all_goals
    try have z2 := hF (by omega)
    clear hF
    by_cases hr : 6 ≤ L ∨ H ≠ 0
    · rw [if_pos hr] at hT
      obtain ⟨h3, rfl⟩ := Prod.mk.inj hT
      obtain rfl : T = ⟨#[]⟩ := text_is h3
      clear hT h3
      by_cases y1 : (6 : Int) ≤ (L : Int)
      · clear hr
        go_enter Tryz.func72, Tryz.ntmps72
        go_wp2_with fail
        refine (CF.out _).mono ?_
        rintro e w' ⟨rfl, rfl⟩
        go_wp2_with fail
        refine (CD.out _).mono ?_
        rintro e w' ⟨rfl, rfl⟩
        go_wp2_with fail
        refine (CRd.out _).mono ?_
        rintro e w1 ⟨⟨u, rfl, hN⟩, B1⟩
        go_wp2_with fail
        refine (CR.out _ _ hN).mono ?_
        rintro e w2 ⟨⟨u2, rfl, hown⟩, b2⟩
        have B2 := B1.trans (b2.mono B1.size)
        clear hN b2 B1
        clear hown
        go_wp2
        go_ret2
        exact ⟨rfl, B2⟩
      · have y2 : ((H : Int) != 0) = true := by rw [bne_iff_ne]; omega
        clear hr
        go_enter Tryz.func72, Tryz.ntmps72
        go_wp2_with fail
        refine (CF.out _).mono ?_
        rintro e w' ⟨rfl, rfl⟩
        go_wp2_with fail
        refine (CD.out _).mono ?_
        rintro e w' ⟨rfl, rfl⟩
        go_wp2_with fail
        refine (CRd.out _).mono ?_
        rintro e w1 ⟨⟨u, rfl, hN⟩, B1⟩
        go_wp2_with fail
        refine (CR.out _ _ hN).mono ?_
        rintro e w2 ⟨⟨u2, rfl, hown⟩, b2⟩
        have B2 := B1.trans (b2.mono B1.size)
        clear hN b2 B1
        clear hown
        go_wp2
        go_ret2
        exact ⟨rfl, B2⟩
    · rw [if_neg hr] at hT
      obtain ⟨h3, rfl⟩ := Prod.mk.inj hT
      obtain rfl := text_is h3
      have y1 : ¬ (6 : Int) ≤ (L : Int) := by omega
      have y2 : ((H : Int) != 0) = false := by rw [bne_eq_false_iff_eq]; omega
      clear hT h3 hr
      go_enter Tryz.func72, Tryz.ntmps72
      go_wp2_with fail
      refine (CF.out _).mono ?_
      rintro e w' ⟨rfl, rfl⟩
      go_wp2_with fail
      refine (CD.out _).mono ?_
      rintro e w' ⟨rfl, rfl⟩
      go_wp2_with fail
      refine (CRd.out _).mono ?_
      rintro e w1 ⟨⟨u, rfl, hN⟩, B1⟩
      go_wp2_with fail
      refine (CR.out _ _ hN).mono ?_
      rintro e w2 ⟨⟨u2, rfl, hown⟩, b2⟩
      have B2 := B1.trans (b2.mono B1.size)
      clear hN b2 B1
      have HO := HM.out hown
      clear hown
      go_wp2
      go_ret2
      exact ⟨rfl, B2⟩
theorem decode_hid (s : ByteArray) (hs : s.size ≤ 100000) (T : ByteArray) (b : Bool) (hT : (T.data.toList, b) = decM s.data.toList) : Hid (∀ W, Calls Tryz.prog 72 #[.string s] W fun e w' => e = .returned (.tuple #[.string T, .bool b]) ∧ Below W.heap.size W w') :=
  Lib.hid fun W => decode_any s hs T b hT W

end Go.Proofs.YtmfejcmhbncchaaGreatDoor
