/- Encode: the document's. -/
import Derived.Test.YtmfejcmhbncchaaGreatDoorBaseG
namespace Go.Proofs.YtmfejcmhbncchaaGreatDoor
open Go.RowKit

def lenV : Value → Nat
  | .slice _ n _ => n
  | _ => 0
theorem lenV_slice (a : Option Addr) (n c : Nat) : lenV (.slice a n c) = n := rfl
theorem BoolsIn.news {w : World} {g n c : Nat} {l : List Bool} (h : BoolsIn w (.slice (some ⟨g, 0, none⟩) n c) l) : ∀ j u, (boolCells l)[j]? = some u → w.cell? ((⟨g, 0, none⟩ : Addr).add j) = some u := fun j u hj => by
  have hj' : j < l.length := by
    have := (List.getElem?_eq_some_iff.1 hj).1
    simpa [boolCells] using this
  rcases h with ⟨_, h2⟩ | ⟨B, off, cap, h1, h2⟩
  · subst h2; simp at hj'
  · cases h1
    have e : (⟨g, 0, none⟩ : Addr).add j = ⟨g, 0 + j, none⟩ := by unfold Addr.add; split <;> simp_all
    rw [e, h2 j hj']
    simp [boolCells, List.getElem?_eq_getElem hj'] at hj
    rw [← hj]
theorem bool_one {l : List Bool} : ∀ u ∈ boolCells l, u.oneCell' = true := fun u hu => by
  obtain ⟨b, _, rfl⟩ := List.mem_map.1 hu
  rfl
theorem nat8_get {s : ByteArray} {k : Nat} (h : k < s.size) : (nat8 s.data.toList)[k]? = some s[k].toNat := by
  rw [nat8, List.getElem?_map, List.getElem?_eq_getElem (by rw [lsize]; exact h)]; rfl
theorem nat8_length (s : ByteArray) : (nat8 s.data.toList).length = s.size := by rw [nat8, List.length_map, lsize]
theorem bits_hid (x t : Nat) (hx : x ≤ 255) (ht : t ≤ 8) : Hid (∀ W, Calls Tryz.prog 66 #[.int .i64 (x : Int), .int .i64 (t : Int)] W fun e w' => (∃ g c, e = .returned (.slice (some ⟨g, 0, none⟩) t c) ∧ BoolsIn w' (.slice (some ⟨g, 0, none⟩) t c) (bitsN t x)) ∧ Below W.heap.size W w') :=
  Lib.hid fun W => bits_any x t hx ht W
theorem bits_eight (x : Nat) (hx : x ≤ 255) : Hid (∀ W, Calls Tryz.prog 66 #[.int .i64 (x : Int), .int .i64 8] W fun e w' => (∃ g c, e = .returned (.slice (some ⟨g, 0, none⟩) 8 c) ∧ BoolsIn w' (.slice (some ⟨g, 0, none⟩) 8 c) (bitsN 8 x)) ∧ Below W.heap.size W w') := bits_hid x 8 hx (Nat.le_refl _)
theorem bits_six (x : Nat) (hx : x ≤ 255) : Hid (∀ W, Calls Tryz.prog 66 #[.int .i64 (x : Int), .int .i64 6] W fun e w' => (∃ g c, e = .returned (.slice (some ⟨g, 0, none⟩) 6 c) ∧ BoolsIn w' (.slice (some ⟨g, 0, none⟩) 6 c) (bitsN 6 x)) ∧ Below W.heap.size W w') := bits_hid x 6 hx (by decide)
theorem slice_lh (s : ByteArray) (a b : Nat) (hab : a ≤ b) (h : b ≤ s.size) : ∀ W, (Instr.slice 9 (.string s) (some (.int .i64 (a : Int))) (some (.int .i64 (b : Int))) none).run Tryz.prog W = .ok (.string (s.extract a b)) W := fun W => by
  simp [Instr.slice, run_underlying Tryz.underlying9, Instr.sliceBounds, run_sliceBound, h, hab]
/-- One sign of the table as a text. -/
theorem sign_slice (n : Nat) (h : n < 64) : ∀ W, (Instr.slice 9 (.string ⟨#[65, 66, 67, 68, 69, 70, 71, 72, 73, 74, 75, 76, 77, 78, 79, 80, 81, 82, 83, 84, 85, 86, 87, 88, 89, 90, 97, 98, 99, 100, 101, 102, 103, 104, 105, 106, 107, 108, 109, 110, 111, 112, 113, 114, 115, 116, 117, 118, 119, 120, 121, 122, 48, 49, 50, 51, 52, 53, 54, 55, 56, 57, 43, 47]⟩) (some (.int .i64 (n : Int))) (some (.int .i64 ((n : Int) + 1))) none).run Tryz.prog W = .ok (.string ⟨#[sgn n]⟩) W := fun W => by
  have key : ∀ (S : ByteArray), S.data.toList = SG → (Instr.slice 9 (.string S) (some (.int .i64 (n : Int))) (some (.int .i64 ((n : Int) + 1))) none).run Tryz.prog W = .ok (.string ⟨#[sgn n]⟩) W := fun S hS => by
    have hsz : S.size = 64 := by rw [← lsize, hS]; rfl
    have e2 : S.extract n (n + 1) = ⟨#[sgn n]⟩ := by
      rw [Lib.extract_eq, hS, Nat.add_sub_cancel_left]
      have hd : SG.drop n = sgn n :: SG.drop (n + 1) := by
        have h2 := sgn_get n h
        have hk := List.getElem?_eq_some_iff.1 h2
        rw [List.drop_eq_getElem_cons hk.1, hk.2]
      rw [hd]
      rfl
    have h3 := slice_lh S n (n + 1) (by omega) (by omega) W
    rw [e2] at h3
    exact h3
  exact key _ rfl

theorem rowCap {w : World} {base size n : Nat} {e : TypeId} {v : Value} {xs : List Value} (h : w.ownsRow base e size v n xs) : (v = .slice none 0 0 ∧ n = 0) ∨ ∃ g cap, v = .slice (some ⟨g, 0, none⟩) n cap ∧ n ≤ cap := by
  rcases h.2 with h2 | ⟨g, cap, cur, a, _, _, b, _⟩
  · exact .inl h2
  · exact .inr ⟨g, cap, a, b⟩
theorem slice_six (g N c P : Nat) (h : P + 6 ≤ c) : ∀ W, (Instr.slice 88 (.slice (some ⟨g, 0, none⟩) N c) (some (.int .i64 (P : Int))) (some (.int .i64 ((P : Int) + 6))) none).run Tryz.prog W = .ok (.slice (some ⟨g, P, none⟩) 6 (c - P)) W := fun W => by
  have e : ((P : Int) + 6) = ((P + 6 : Nat) : Int) := rfl
  rw [e]
  have hne : ¬ c - P = 0 := by omega
  have key : ∀ Q : Nat, Q = P + 6 → (Instr.slice 88 (.slice (some ⟨g, 0, none⟩) N c) (some (.int .i64 (P : Int))) (some (.int .i64 (Q : Int))) none).run Tryz.prog W = .ok (.slice (some ⟨g, P, none⟩) (Q - P) (c - P)) W := fun Q hQ => by
    have h1 : Q ≤ c := by omega
    have h2 : P ≤ Q := by omega
    have h3 : c ≠ P := by omega
    simp [Instr.slice, run_underlying Tryz.underlying88, Instr.sliceBounds, run_sliceBound, h1, h2, h3, Addr.add]
    exact fun h => h.symm
  have := key (P + 6) rfl
  rw [Nat.add_sub_cancel_left] at this
  exact this
theorem pad_at (n j : Nat) (h : (n + j) % 4 = 0) (h2 : j ≤ (4 - n % 4) % 4) : j = (4 - n % 4) % 4 := by omega
theorem flat_piece (E : List Nat) (k x : Nat) (h : E[k]? = some x) : flat 6 E = flat 6 (E.take k) ++ (bitsN 6 x ++ flat 6 (E.drop (k + 1))) := by
  have hk := List.getElem?_eq_some_iff.1 h
  have hd : E.drop k = x :: E.drop (k + 1) := by rw [List.drop_eq_getElem_cons hk.1, hk.2]
  rw [← flat_cons, ← hd, ← flat_append, List.take_append_drop]

set_option maxRecDepth 100000 in
set_option maxHeartbeats 4000000 in
theorem refEncode_any (s : ByteArray) (hs : s.size ≤ 100000) (T : ByteArray) (hT : T.data.toList = encM s.data.toList) (w : World) :
    Calls Tryz.prog 39 #[.string s] w fun e w' => e = .returned (.string T) ∧ Below w.heap.size w w' := by
  obtain ⟨i0, hi, hz0, hz1, hz2⟩ := info_parts Tinfo4
  have HT := Lib.hid hT
  clear hT
  go_enter Tryz.func39, Tryz.ntmps39
  go_wp2
  go_loopw [3, 4, 5] (fun v i _ wr => ∃ k : Nat, i = .int .i64 k ∧ k ≤ s.size ∧ wr.ownsRow w.heap.size 4 1 v (8 * k) (boolCells (flat 8 ((nat8 s.data.toList).take k))) ∧ Below w.heap.size w wr) (fun _ i _ _ => s.size - (intOf i).toNat)
  case atStart => exact ⟨0, rfl, Nat.zero_le _, World.ownsRow_nil w w.heap.size 4 1, Below.refl _ _⟩
  case round =>
    obtain ⟨k, rfl, hk, hown, hb⟩ := hrel
    by_cases hlt : k < s.size
    · have hH : Hid (boolCells (flat 8 ((nat8 s.data.toList).take (k + 1))) = boolCells (flat 8 ((nat8 s.data.toList).take k)) ++ boolCells (bitsN 8 s[k].toNat)) := Lib.hid (by
        rw [flat_take 8 _ k _ (nat8_get hlt), boolCells_append])
      have hb8 : s[k].toNat ≤ 255 := by have := s[k].toNat_lt; omega
      have C := bits_eight s[k].toNat hb8
      have hHl : (boolCells (bitsN 8 s[k].toNat)).length = 8 * 1 := by rw [boolCells_length, bitsN_length]
      have hHo := bool_one (l := bitsN 8 s[k].toNat)
      generalize boolCells (flat 8 ((nat8 s.data.toList).take k)) = A at *
      go_wp2_with fail
      with_reducible refine (C.out _).mono ?_
      rintro e w1 ⟨⟨g, c, rfl, hbn⟩, b1⟩
      have hnews := hbn.news
      have hown1 := ownsRow_below hown b1
      have B1 := hb.trans (b1.mono hb.size)
      clear hbn b1 hb hown
      generalize boolCells (bitsN 8 s[k].toNat) = Z at *
      go_wp2_with (at_builtin; refine wpList_append_own _ rfl _ _ 88 rfl w.heap.size 4 i0 (.bool false) 1 1 Tryz.underlying88 hi hz0 hz1 hz2 rfl (by decide) _ _ _ rfl hown1 ⟨g, 0, none⟩ 8 c Z rfl hHl hnews hHo (by unfold maxLen; omega) (by omega) B1.size ?_; intro v' w3 hown' hgrow3 hnil3
                   have hbw3 : Below w.heap.size w w3 := Below.grown B1 hgrow3 B1.size (fun j hj => by have := (hown1.lt _ hj).1; omega)
                   have X : Aside (w3.ownsRow w.heap.size 4 1 v' (8 * k + 8) (A ++ Z) ∧ Below w.heap.size w w3) := ⟨hown', hbw3⟩
                   clear hown' hgrow3 hnil3)
      go_roundw
      case rel => exact ⟨k + 1, by go_num, by omega, by rw [hH.out]; exact X.out.1, X.out.2⟩
      case measure => simp [intOf]; omega
    · obtain rfl : k = s.size := by omega
      have htk : (nat8 s.data.toList).take s.size = nat8 s.data.toList := List.take_of_length_le (by rw [nat8_length]; exact Nat.le_refl _)
      rw [htk] at hown
      clear htk
      obtain ⟨wo, rfl⟩ : ∃ wo : World, wo = wr := ⟨_, rfl⟩
      go_wp2
      go_loopw [3] (fun v wr => ∃ n N : Nat, n ≤ (6 - 8 * s.size % 6) % 6 ∧ N = 8 * s.size + n ∧ wr.ownsRow w.heap.size 4 1 v N (boolCells (flat 8 (nat8 s.data.toList) ++ List.replicate n false)) ∧ Below w.heap.size w wr) (fun v _ => (6 - lenV v % 6) % 6)
      case atStart => exact ⟨0, 8 * s.size, Nat.zero_le _, rfl, by rw [List.replicate_zero, List.append_nil]; exact hown, hb⟩
      case round =>
        clear hown hb
        obtain ⟨n, N, hn, hN, hown, hb⟩ := hrel
        have hform : ∃ a c, u3 = .slice a N c ∧ c ≤ 9223372036854775807 ∧ (0 < N → ∃ g, a = some ⟨g, 0, none⟩ ∧ N ≤ c) := by
          rcases rowCap hown with ⟨rfl, rfl⟩ | ⟨g, cap, rfl, hcap⟩
          · exact ⟨_, _, rfl, by omega, fun h => absurd h (Nat.lt_irrefl _)⟩
          · refine ⟨_, _, rfl, ?_, fun _ => ⟨g, rfl, hcap⟩⟩
            rcases hown.2 with ⟨h, _⟩ | ⟨g', cap', cur, h, _, _, _, hm, _⟩
            · cases h
            · cases h
              unfold maxLen at hm
              exact hm
        have hNb : N ≤ 1000000 := by omega
        by_cases h6 : N % 6 = 0
        · have g6 : ((N : Int) % 6 != 0) = false := by rw [bne_eq_false_iff_eq]; omega
          obtain ⟨⟨k', hk', h1⟩, h2⟩ := enc_spec s.data.toList
          have l2 := congrArg List.length h1
          rw [List.length_append, List.length_replicate, flat_length, flat_length, nat8_length] at l2
          obtain rfl : k' = n := by omega
          rw [← h1] at hown
          have hNE : N = 6 * (encN s.data.toList).length := by omega
          have hTE : T.data.toList = (encN s.data.toList).map sgn ++ fill (encN s.data.toList).length := HT.out
          generalize encN s.data.toList = E at *
          have HTE := Lib.hid hTE
          have H64 := Lib.hid h2
          have hBI := BoolsIn.of_row (p := flat 6 E) (v := u3) (w := wr) (base := w.heap.size) (by rw [flat_length, ← hNE]; exact hown)
          have HBI := Lib.hid hBI
          obtain ⟨a, c, rfl, hc63, hsome⟩ := hform
          have hEb : E.length ≤ 200000 := by omega
          have HSM := Lib.hid hsome
          have HNE := Lib.hid hNE
          clear h1 hTE h2 hBI hown l2 hn hN h6 HT hsome hNE
          go_wp2
          go_loop [6, 7, 8] (fun o i _ => ∃ (k P : Nat) (S : ByteArray), k ≤ E.length ∧ P = 6 * k ∧ i = .int .i64 (P : Int) ∧ o = .string S ∧ Hid (S.data.toList = (E.take k).map sgn)) (fun _ i _ => N - (intOf i).toNat)
          case atStart => exact ⟨0, 0, ⟨#[]⟩, Nat.zero_le _, rfl, rfl, rfl, Lib.hid rfl⟩
          case round =>
            obtain ⟨k, P, S, hk, hP, rfl, rfl, HS⟩ := hrel
            have hNE := HNE.out
            by_cases hlt : k < E.length
            · have hPN : P + 6 ≤ N := by omega
              have hPN2 : (P : Int) < (N : Int) := by omega
              obtain ⟨g, rfl, hNc⟩ := HSM.out (by omega)
              have hat : E[k]? = some E[k] := List.getElem?_eq_getElem hlt
              have hx64 : E[k] < 64 := H64.out _ (List.getElem_mem hlt)
              have hsl := slice_six g N c P (by omega)
              have hfl := flat_piece E k _ hat
              have hp := HBI.out.piece _ _ _ hfl P (by rw [flat_length, List.length_take]; omega) 6 (bitsN_length 6 _).symm (c - P)
              have hnx := num_bitsN 6 E[k] hx64
              have C := num_any _ _ wr hp (by rw [bitsN_length]; decide)
              rw [hnx] at C
              have hS2 : Hid (∀ R : ByteArray, R.data.toList = S.data.toList ++ [sgn E[k]] → R.data.toList = (E.take (k + 1)).map sgn) := Lib.hid fun R hR => by
                rw [hR, HS.out, List.take_add_one, hat, List.map_append]; rfl
              have hix := sign_slice E[k] hx64
              have hSs : S.size ≤ 200000 := by rw [← lsize, HS.out, List.length_map, List.length_take]; omega
              obtain ⟨R, hR⟩ := text_of (S.data.toList ++ [sgn E[k]])
              have hadd := add_to S ⟨#[sgn E[k]]⟩ R hR (by show S.size + 1 ≤ _; omega)
              have HR := Lib.hid (hS2.out R hR)
              have CC := Lib.hid C
              clear C hp hfl hat hnx hS2 hR HS HSM
              generalize E[k] = x at *
              have HP := Lib.hid hP
              clear hP hNE
              go_wp2_with (go_at_call 67; (with_reducible refine CC.out.mono ?_); rintro e w' ⟨rfl, rfl⟩)
              go_round
              case rel => exact ⟨k + 1, P + 6, R, by omega, by have := HP.out; omega, by go_num, rfl, HR⟩
              case measure => simp [intOf]; omega
            · obtain rfl : k = E.length := by omega
              have hPN : P = N := by omega
              have hPN2 : ¬ (P : Int) < (N : Int) := by omega
              have hS0 : S.data.toList = E.map sgn := by rw [HS.out, List.take_length]
              have HS0 := Lib.hid hS0
              clear HS hS0 hP hNE hPN HBI
              go_wp2
              go_loop [6] (fun o => ∃ (j : Nat) (R : ByteArray), j ≤ (4 - E.length % 4) % 4 ∧ o = .string R ∧ R.size = E.length + j ∧ Hid (R.data.toList = E.map sgn ++ List.replicate j 61)) (fun o => (4 - Lib.strSize o % 4) % 4)
              case atStart => exact ⟨0, S, Nat.zero_le _, rfl, by rw [← lsize, HS0.out, List.length_map]; rfl, Lib.hid (by rw [HS0.out]; simp)⟩
              case round =>
                obtain ⟨j, R, hj, rfl, hRs, HR⟩ := hrel
                by_cases h4 : R.size % 4 = 0
                · have g4 : ((R.size : Int) % 4 != 0) = false := by rw [bne_eq_false_iff_eq]; omega
                  have e : R = T := by
                    apply ByteArray.ext
                    apply Array.toList_inj.1
                    rw [HR.out, HTE.out]
                    unfold fill
                    rw [← pad_at E.length j (by omega) hj]
                  have HE := Lib.hid e
                  clear e hRs h4
                  go_wp2
                  go_ret
                  exact ⟨congrArg (fun x => Ending.returned (Value.string x)) HE.out, hb⟩
                · have g4 : ((R.size : Int) % 4 != 0) = true := by rw [bne_iff_ne]; omega
                  obtain ⟨R2, hR2⟩ := text_of (R.data.toList ++ [61])
                  have hadd := add_to R ⟨#[61]⟩ R2 hR2 (by show R.size + 1 ≤ _; omega)
                  have HR2 : Hid (R2.data.toList = E.map sgn ++ List.replicate (j + 1) 61) := Lib.hid (by
                    rw [hR2, HR.out, List.append_assoc, ← List.replicate_succ'])
                  have hz2 : R2.size = R.size + 1 := by rw [← lsize, hR2, List.length_append, lsize]; rfl
                  have HZ := Lib.hid hz2
                  have HRS := Lib.hid hRs
                  have H4 := Lib.hid h4
                  clear hR2 hz2 hRs h4
                  go_wp2
                  go_round
                  case rel => exact ⟨j + 1, R2, by have := HRS.out; have := H4.out; omega, rfl, by rw [HZ.out, HRS.out]; omega, HR2⟩
                  case measure =>
                    rw [Lib.strSize_string, Lib.strSize_string, HZ.out]
                    have := H4.out
                    omega
        · have g6 : ((N : Int) % 6 != 0) = true := by rw [bne_iff_ne]; omega
          obtain ⟨a, c, rfl, hc63, hsome⟩ := hform
          have HN := Lib.hid hN
          have H6 := Lib.hid h6
          have hsn : boolCells (flat 8 (nat8 s.data.toList) ++ List.replicate (n + 1) false) = boolCells (flat 8 (nat8 s.data.toList) ++ List.replicate n false) ++ [.bool false] := by
            rw [List.replicate_succ', ← List.append_assoc, boolCells_append]; rfl
          have HSN := Lib.hid hsn
          generalize boolCells (flat 8 (nat8 s.data.toList) ++ List.replicate n false) = A at *
          clear hN h6 hsome hsn
          go_wp2_with (at_builtin; refine wpList_append_own _ rfl _ _ 88 rfl w.heap.size 4 i0 (.bool false) 1 1 Tryz.underlying88 hi hz0 hz1 hz2 rfl (by decide) _ _ _ rfl (hown.alloc _) ⟨wr.heap.size, 0, none⟩ 1 1 [.bool false] rfl rfl (cell_one_new _ _ _) (fun x hx => by simp at hx; subst hx; rfl) (by unfold maxLen; omega) (by omega) (by have := hb.size; simp; omega) ?_; intro v' w5 hown' hgrow5 hnil5
                       have hb5 : Below w.heap.size w w5 := Below.grown (hb.alloc hb.size _) hgrow5 (by have := hb.size; simp; omega) (fun j hj => by have := (hown.lt _ hj).1; omega)
                       have X : Aside (w5.ownsRow w.heap.size 4 1 v' (N + 1) (A ++ [.bool false]) ∧ Below w.heap.size w w5) := ⟨hown', hb5⟩
                       clear hown' hgrow5 hnil5)
          go_roundw
          case rel => exact ⟨n + 1, N + 1, by have := HN.out; have := H6.out; omega, by rw [HN.out]; omega, by rw [HSN.out]; exact X.out.1, X.out.2⟩
          case measure =>
            rcases rowForms X.out.1 with ⟨_, h⟩ | ⟨g', c', rfl⟩
            · omega
            · rw [lenV_slice, lenV_slice]
              have := H6.out
              omega

end Go.Proofs.YtmfejcmhbncchaaGreatDoor
