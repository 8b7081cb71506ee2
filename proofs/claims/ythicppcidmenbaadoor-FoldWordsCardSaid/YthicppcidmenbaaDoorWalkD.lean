/- Rows of texts; the document's Texts, Words, Parts. -/
import Derived.Test.YthicppcidmenbaaDoorWalkC
namespace Go.Proofs.YthicppcidmenbaaDoor
open Go.RowKit

def strV (t : List UInt8) : Value := .string ⟨t.toArray⟩
/-- A slice of texts that reads as this list. -/
def TextsIn (w : World) (v : Value) (ts : List (List UInt8)) : Prop :=
  ((∃ a c, v = .slice a 0 c) ∧ ts = []) ∨ ∃ B off cap, v = .slice (some ⟨B, off, none⟩) ts.length cap ∧ ∀ j, (h : j < ts.length) → w.cell? ⟨B, off + j, none⟩ = some (strV ts[j])
theorem TextsIn.below {w w' : World} {v : Value} {p : List (List UInt8)} (h : TextsIn w v p) (hb : Below w.heap.size w w') : TextsIn w' v p := by
  rcases h with h | ⟨B, off, cap, h1, h2⟩
  · exact .inl h
  · exact .inr ⟨B, off, cap, h1, fun j hj => by rw [hb.cell (lt_of_cell (h2 j hj))]; exact h2 j hj⟩
theorem TextsIn.form {w : World} {v : Value} {p : List (List UInt8)} (h : TextsIn w v p) : ∃ a c, v = .slice a p.length c := by
  rcases h with ⟨⟨a, c, rfl⟩, rfl⟩ | ⟨B, off, cap, rfl, _⟩
  · exact ⟨_, _, rfl⟩
  · exact ⟨_, _, rfl⟩
def txtCells (p : List (List UInt8)) : List Value := p.map strV
theorem txtCells_snoc (p : List (List UInt8)) (c : List UInt8) : txtCells (p ++ [c]) = txtCells p ++ [strV c] := by simp [txtCells]
theorem TextsIn.of_row {w : World} {base : Nat} {v : Value} {p : List (List UInt8)} (h : w.ownsRow base 9 1 v p.length (txtCells p)) : TextsIn w v p := by
  rcases rowForms h with ⟨h1, h2⟩ | ⟨g, cap, rfl⟩
  · exact .inl ⟨⟨_, _, h1⟩, List.length_eq_zero_iff.1 h2⟩
  · refine .inr ⟨g, 0, cap, rfl, fun j hj => ?_⟩
    rw [Nat.zero_add, h.cellAt j (by omega)]
    simp [txtCells, List.getElem?_eq_getElem hj]
theorem belowN {B : Nat} {a w : World} (h : Below B a w) (n : Nat) : Below B a (w.drewN n) := h.trans ⟨rfl, rfl, rfl, Nat.le_refl _, fun _ _ => rfl⟩

def eqT (p q : List (List UInt8)) : Bool := decide (p = q)
theorem str_eq (a b : List UInt8) : ((⟨a.toArray⟩ : ByteArray).toList == (⟨b.toArray⟩ : ByteArray).toList) = decide (a = b) := text_eq _ _

set_option maxRecDepth 100000 in
set_option maxHeartbeats 1000000 in
/-- Texts: are two rows the same? -/
theorem texts_any (p q : List (List UInt8)) (u v : Value) (w : World) (hp : TextsIn w u p) (hq : TextsIn w v q) (hl : p.length ≤ 9223372036854775807) (hl2 : q.length ≤ 9223372036854775807) :
    Calls Tryd.prog 14 #[u, v] w fun e w' => e = .returned (.bool (eqT p q)) ∧ ∃ n, w' = w.drewN n := by
  have hu := hp.form
  have hv := hq.form
  by_cases hne : p.length = q.length
  · by_cases h0 : p.length = 0
    · obtain ⟨a, c, rfl⟩ := hu
      obtain ⟨a2, c2, rfl⟩ := hv
      have e1 : p = [] := List.length_eq_zero_iff.1 h0
      have e2 : q = [] := List.length_eq_zero_iff.1 (by omega)
      subst e1 e2
      clear hp hq hl hl2 hne h0
      go_enter Tryd.func14, Tryd.ntmps14
      go_wp2
      refine wp_loop_rounds 1 ?_
      rw [rounds_succ]
      go_wp2
      go_ret
      exact ⟨rfl, 0, rfl⟩
    · rcases hp with ⟨_, rfl⟩ | ⟨B, off, cap, rfl, hc⟩
      · exact absurd rfl h0
      rcases hq with ⟨_, rfl⟩ | ⟨B2, off2, cap2, rfl, hc2⟩
      · exact absurd hne h0
      clear hu hv
      have g2 : ((p.length : Int) != (q.length : Int)) = false := by simp [hne]
      have HN := Lib.hid hne
      have h0' : 0 < p.length := by omega
      clear hne h0
      go_enter Tryd.func14, Tryd.ntmps14
      go_wp2
      go_loopw [5] (fun i wr => ∃ k n : Nat, i = .int .i64 k ∧ k ≤ p.length ∧ wr = w.drewN n ∧ Hid (p.take k = q.take k)) (fun i _ => p.length - (intOf i).toNat)
      case atStart => exact ⟨0, 0, rfl, Nat.zero_le _, rfl, rfl⟩
      case round =>
        obtain ⟨k, n, rfl, hk, rfl, HS⟩ := hrel
        by_cases hlt : k < p.length
        · have hlt2 : k < q.length := by have := HN.out; omega
          have hcell := hc k hlt
          have hcell2 := hc2 k hlt2
          have hix : (k : Int) < (p.length : Int) := by omega
          have hix2 : (k : Int) < (q.length : Int) := by omega
          have hT : Hid (p.take (k + 1) = p.take k ++ [p[k]] ∧ q.take (k + 1) = q.take k ++ [q[k]]) := ⟨by rw [List.take_succ_eq_append_getElem hlt], by rw [List.take_succ_eq_append_getElem hlt2]⟩
          have hE : Hid (p[k] ≠ q[k] → eqT p q = false) := fun h => by
            unfold eqT; rw [decide_eq_false]
            rintro rfl
            exact h rfl
          generalize p[k] = x at *
          generalize q[k] = y at *
          have hb := str_eq x y
          unfold strV at hcell hcell2
          obtain ⟨X, hX⟩ : ∃ X : ByteArray, X = ⟨x.toArray⟩ := ⟨_, rfl⟩
          obtain ⟨Y, hY⟩ : ∃ Y : ByteArray, Y = ⟨y.toArray⟩ := ⟨_, rfl⟩
          rw [← hX] at hcell hb
          rw [← hY] at hcell2 hb
          clear hc hc2 hX hY
          by_cases hxy : x = y
          · subst hxy
            rw [decide_eq_true rfl] at hb
            go_wp2_with fail
            go_quiet (fail)
            go_wp2
            go_roundw
            case rel => exact ⟨k + 1, n + nq, by go_num, by omega, rfl, by show _ = _; rw [hT.out.1, hT.out.2, HS.out]⟩
            case measure => simp [intOf]; omega
          · rw [decide_eq_false hxy] at hb
            have e := hE.out hxy
            have HE := Lib.hid e
            clear e hxy
            go_wp2_with fail
            go_quiet (fail)
            go_wp2
            go_ret
            exact ⟨by rw [HE.out]; rfl, n + nq, World.drewN_drewN _ _ _⟩
        · obtain rfl : k = p.length := by omega
          have e : eqT p q = true := by
            unfold eqT
            have h1 := HS.out
            rw [List.take_length, List.take_of_length_le (by have := HN.out; omega)] at h1
            rw [decide_eq_true h1]
          have HE := Lib.hid e
          clear e hc hc2
          go_wp2
          go_ret
          exact ⟨by rw [HE.out]; rfl, n, rfl⟩
  · obtain ⟨a, c, rfl⟩ := hu
    obtain ⟨a2, c2, rfl⟩ := hv
    have g2 : ((p.length : Int) != (q.length : Int)) = true := by simp; omega
    have e : eqT p q = false := by unfold eqT; rw [decide_eq_false]; intro h; exact hne (by rw [h])
    rw [e]
    clear hne e hp hq
    go_enter Tryd.func14, Tryd.ntmps14
    go_wp2
    go_ret
    exact ⟨rfl, 0, rfl⟩
theorem texts_bool (p q : List (List UInt8)) (b : Bool) (hb : eqT p q = b) (u v : Value) (w : World) (hp : TextsIn w u p) (hq : TextsIn w v q) (hl : p.length ≤ 9223372036854775807) (hl2 : q.length ≤ 9223372036854775807) :
    Calls Tryd.prog 14 #[u, v] w fun e w' => e = .returned (.bool b) ∧ Below w.heap.size w w' :=
  (texts_any p q u v w hp hq hl hl2).mono fun e w' ⟨he, n, hw⟩ => ⟨by rw [he, hb], by rw [hw]; exact belowN (Below.refl _ _) n⟩
theorem eqT_self (p : List (List UInt8)) : eqT p p = true := by unfold eqT; rw [decide_eq_true rfl]

/-- Where the document's Words is. -/
def WAt (l : List UInt8) (fr k : Nat) (acc : List (List UInt8)) : Prop := (k ≤ l.length ∧ WordsTo l fr k acc) ∨ (k = l.length + 1 ∧ acc = words l ∧ acc.length ≤ l.length)

set_option maxRecDepth 100000 in
set_option maxHeartbeats 2000000 in
theorem refWords_any (s : ByteArray) (w : World) (hs : s.size ≤ 1099511627776) :
    Calls Tryd.prog 16 #[.string s] w fun e w' => ∃ v, e = .returned v ∧ TextsIn w' v (words s.data.toList) ∧ Below w.heap.size w w' := by
  obtain ⟨i0, hi, hz0, hz1, hz2⟩ := info_parts Tinfo9
  have hll := lsize s
  have HLL := Lib.hid hll
  clear hll
  go_enter Tryd.func16, Tryd.ntmps16
  go_wp2
  go_loopw [3, 4, 5] (fun v f i wr => ∃ (fr k : Nat) (acc : List (List UInt8)), f = .int .i64 fr ∧ i = .int .i64 k ∧ k ≤ s.size + 1 ∧ fr ≤ k ∧ wr.ownsRow w.heap.size 9 1 v acc.length (txtCells acc) ∧ Below w.heap.size w wr ∧ Hid (WAt s.data.toList fr k acc)) (fun _ _ i _ => s.size + 1 - (intOf i).toNat)
  case atStart => exact ⟨0, 0, [], rfl, rfl, Nat.zero_le _, Nat.le_refl _, World.ownsRow_nil w w.heap.size 9 1, Below.refl _ _, Lib.hid (.inl ⟨Nat.zero_le _, wordsTo_start _⟩)⟩
  case round =>
    obtain ⟨fr, k, acc, rfl, rfl, hk, hfk, hown, hbw, HW⟩ := hrel
    by_cases hend : k = s.size + 1
    · subst hend
      have e : acc = words s.data.toList := by
        rcases HW.out with ⟨h1, _⟩ | ⟨_, h2, _⟩
        · rw [HLL.out] at h1; omega
        · exact h2
      have hv := TextsIn.of_row hown
      have HV : Hid (TextsIn wr u3 (words s.data.toList)) := by rw [← e]; exact Lib.hid hv
      clear e hv hown
      go_wp2
      go_ret
      exact ⟨_, rfl, HV.out, hbw⟩
    · have hk2 : k ≤ s.size := by omega
      have HT : Hid (WordsTo s.data.toList fr k acc) := Lib.hid (by
        rcases HW.out with ⟨_, h1⟩ | ⟨h1, _⟩
        · exact h1
        · rw [HLL.out] at h1; omega)
      have hacc : acc.length ≤ s.size := by have := HT.out.few; omega
      clear HW hend
      have happ : ∀ (t : ByteArray) (W : World) (v' : Value), W.ownsRow w.heap.size 9 1 v' (acc.length + 1) (txtCells acc ++ [.string t]) → W.ownsRow w.heap.size 9 1 v' (acc ++ [t.data.toList]).length (txtCells (acc ++ [t.data.toList])) := fun t W v' h => by
        rw [txtCells_snoc, List.length_append]; exact h
      have HA := Lib.hid happ
      clear happ
      by_cases hlt : k < s.size
      · obtain ⟨b, hb1, _, rfl⟩ := at_some hlt
        have c := fun W => refBlank_any s[k] W
        cases hbl : blk s[k]
        · have HN : Hid (WAt s.data.toList fr (k + 1) acc) := Lib.hid (.inl ⟨by rw [HLL.out]; omega, wordsTo_in HT.out hb1 hbl⟩)
          rw [hbl] at c
          have C := Lib.hid c
          clear c hbl hb1 HT
          go_wp2_with (go_at_call 20; refine (C.out _).mono ?_; rintro e w' ⟨rfl, rfl⟩)
          go_roundw
          case rel => exact ⟨fr, k + 1, acc, rfl, by go_num, by omega, by omega, hown, hbw, HN⟩
          case measure => simp [intOf]; omega
        · rw [hbl] at c
          have C := Lib.hid c
          clear c
          by_cases hfl : fr < k
          · have HN : Hid (WAt s.data.toList (k + 1) (k + 1) (acc ++ [(s.extract fr k).data.toList])) := Lib.hid (.inl ⟨by rw [HLL.out]; omega, by rw [extract_toList]; exact wordsTo_hit HT.out hb1 hbl hfl⟩)
            clear hbl hb1 HT
            go_wp2_with (first
              | (go_at_call 20; refine (C.out _).mono ?_; rintro e w' ⟨rfl, rfl⟩)
              | (at_builtin; refine wpList_append_own _ rfl _ _ 26 rfl w.heap.size 9 i0 (.string ⟨#[]⟩) 1 16 Tryd.underlying26 hi hz0 hz1 hz2 rfl (by decide) _ _ _ rfl (hown.alloc _) ⟨wr.heap.size, 0, none⟩ 1 1 [.string (s.extract fr k)] rfl rfl (cell_one_new _ _ _) (fun x hx => by simp at hx; subst hx; rfl) (by unfold maxLen; omega) (by omega) (by have := hbw.size; simp; omega) ?_; intro v' w3 hown' hgrow3 hnil3
                 have hbw3 : Below w.heap.size w w3 := Below.grown (hbw.alloc (by have := hbw.size; omega) _) hgrow3 (by have := hbw.size; simp; omega) (fun j hj => by have := (hown.lt _ hj).1; omega)
                 have X : Aside (w3.ownsRow w.heap.size 9 1 v' (acc.length + 1) (txtCells acc ++ [.string (s.extract fr k)]) ∧ Below w.heap.size w w3) := ⟨hown', hbw3⟩
                 clear hown' hgrow3 hnil3))
            go_roundw
            case rel => exact ⟨k + 1, k + 1, acc ++ [(s.extract fr k).data.toList], by go_num, by go_num, by omega, Nat.le_refl _, HA.out _ _ _ X.out.1, X.out.2, HN⟩
            case measure => simp [intOf]; omega
          · obtain rfl : fr = k := by omega
            have HN : Hid (WAt s.data.toList (fr + 1) (fr + 1) acc) := Lib.hid (.inl ⟨by rw [HLL.out]; omega, wordsTo_skip HT.out hb1 hbl⟩)
            clear hbl hb1 HT
            go_wp2_with (go_at_call 20; refine (C.out _).mono ?_; rintro e w' ⟨rfl, rfl⟩)
            go_roundw
            case rel => exact ⟨fr + 1, fr + 1, acc, by go_num, by go_num, by omega, Nat.le_refl _, hown, hbw, HN⟩
            case measure => simp [intOf]; omega
      · obtain rfl : k = s.size := by omega
        by_cases hfl : fr < s.size
        · have HN : Hid (WAt s.data.toList (s.size + 1) (s.size + 1) (acc ++ [(s.extract fr s.size).data.toList])) := Lib.hid (.inr ⟨by rw [HLL.out], by
            have h := HT.out
            rw [extract_toList]
            rw [← HLL.out] at h hfl ⊢
            exact wordsTo_end_open h hfl, by
            have := HT.out.few; rw [HLL.out]; simp; omega⟩)
          clear HT
          go_wp2_with (at_builtin; refine wpList_append_own _ rfl _ _ 26 rfl w.heap.size 9 i0 (.string ⟨#[]⟩) 1 16 Tryd.underlying26 hi hz0 hz1 hz2 rfl (by decide) _ _ _ rfl (hown.alloc _) ⟨wr.heap.size, 0, none⟩ 1 1 [.string (s.extract fr s.size)] rfl rfl (cell_one_new _ _ _) (fun x hx => by simp at hx; subst hx; rfl) (by unfold maxLen; omega) (by omega) (by have := hbw.size; simp; omega) ?_; intro v' w3 hown' hgrow3 hnil3
                       have hbw3 : Below w.heap.size w w3 := Below.grown (hbw.alloc (by have := hbw.size; omega) _) hgrow3 (by have := hbw.size; simp; omega) (fun j hj => by have := (hown.lt _ hj).1; omega)
                       have X : Aside (w3.ownsRow w.heap.size 9 1 v' (acc.length + 1) (txtCells acc ++ [.string (s.extract fr s.size)]) ∧ Below w.heap.size w w3) := ⟨hown', hbw3⟩
                       clear hown' hgrow3 hnil3)
          go_roundw
          case rel => exact ⟨s.size + 1, s.size + 1, acc ++ [(s.extract fr s.size).data.toList], by go_num, by go_num, by omega, Nat.le_refl _, HA.out _ _ _ X.out.1, X.out.2, HN⟩
          case measure => simp [intOf]
        · have HN : Hid (WAt s.data.toList (s.size + 1) (s.size + 1) acc) := Lib.hid (.inr ⟨by rw [HLL.out], by
            have h := HT.out
            have e : fr = s.size := by have := h.le; omega
            subst e
            rw [← HLL.out] at h
            exact wordsTo_end h, by
            have := HT.out.few; rw [HLL.out]; omega⟩)
          clear HT
          go_wp2
          go_roundw
          case rel => exact ⟨s.size + 1, s.size + 1, acc, by go_num, by go_num, by omega, Nat.le_refl _, hown, hbw, HN⟩
          case measure => simp [intOf]

end Go.Proofs.YthicppcidmenbaaDoor
