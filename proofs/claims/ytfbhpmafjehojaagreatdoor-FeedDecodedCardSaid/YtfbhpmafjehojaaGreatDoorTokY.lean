/- The document's reader: an attribute's value; whether a tag has an attribute. -/
import Derived.Test.YtfbhpmafjehojaaGreatDoorTokU
namespace Go.Proofs.YtfbhpmafjehojaaGreatDoor
open Go.RowKit

set_option maxRecDepth 100000 in
set_option maxHeartbeats 8000000 in
theorem valueQ_word (s P D : ByteArray) (g i : Nat) (q : List Nat) (hg : g ≤ s.size) (hs : s.size ≤ 20000) (c : UInt8) (hc : s.data.toList[g]? = some c) (h34 : c ≠ 34) (h39 : c ≠ 39) (hi : (s.data.toList.drop g).findIdx wordE = i) (hP : P.data.toList = (s.data.toList.drop g).take i) (h : decT 0 P.data.toList = (D.data.toList, q)) : Hid (∀ W B m Q n T F x, QS W B m Q s n T F x → F.length ≤ 500000 → Calls Tryz.prog 129 #[.pointer (some ⟨Q, 0, none⟩), .int .i64 (g : Int)] W fun e w' => e = .returned (.tuple #[.string D, .int .i64 ((g + i : Nat) : Int)]) ∧ QS w' B m Q s n T (F ++ failM g q) x ∧ Kp (frD B Q) W w') := Lib.hid fun w B m Q n T F x h0 hF => by
  have CU := upto_hid Q s ⟨#[9, 10, 12, 13, 32, 62]⟩ g hg (by omega) (by decide)
  rw [show (⟨#[9, 10, 12, 13, 32, 62]⟩ : ByteArray).data.toList = [9, 10, 12, 13, 32, 62] from rfl, inL_word, hi] at CU
  have hil := find_le wordE s g hg
  rw [hi] at hil
  obtain ⟨e1, he1⟩ : ∃ e1, g + i = e1 := ⟨_, rfl⟩
  rw [he1] at CU ⊢
  have CD := decodeQ_hid s P D q g e1 (by rw [hP]; congr 1; omega) (by omega) (by omega) hs h
  have hlt := get_some hc
  have z1 : (g : Int) < (s.size : Int) := by omega
  have i0 := index_ty Tryz.underlying9 s g c hc
  have g34 : ((c.toNat : Int) == 34) = false := by rw [beq_eq_false_iff_ne]; exact fun e => h34 (byte_is (d := 34) e)
  have g39 : ((c.toNat : Int) == 39) = false := by rw [beq_eq_false_iff_ne]; exact fun e => h39 (byte_is (d := 39) e)
  clear h34 h39 hlt
  clear hc hi hP h hil he1
  obtain ⟨tv, fv, hv⟩ := h0
  have d0 := hv.q.c0
  have HV := Lib.hid hv
  clear hv
  go_enter Tryz.func129, Tryz.ntmps129
  go_wp2_with fail
  (with_reducible refine (CU.out _ _ _ _ _ HV.out.q).mono ?_)
  rintro e w1 ⟨rfl, b1⟩
  have HV1 := Lib.hid (HV.out.below b1).form
  have K1 : Kp (frD B Q) w w1 := Kp.of_below b1
  clear b1 HV d0
  go_wp2_with fail
  (with_reducible refine (CD.out _ _ _ _ _ _ _ _ HV1.out hF).mono ?_)
  rintro e w2 ⟨rfl, h2, k2⟩
  have HR := Lib.hid (And.intro h2 (K1.trans k2))
  clear h2 k2 K1 HV1 CU CD
  go_wp2
  go_ret2
  exact ⟨rfl, HR.out.1, HR.out.2⟩

set_option maxRecDepth 100000 in
set_option maxHeartbeats 8000000 in
theorem valueQ_none (s P D : ByteArray) (g i : Nat) (q : List Nat) (hg : g ≤ s.size) (hs : s.size ≤ 20000) (hc : s.data.toList[g]? = none) (hi : (s.data.toList.drop g).findIdx wordE = i) (hP : P.data.toList = (s.data.toList.drop g).take i) (h : decT 0 P.data.toList = (D.data.toList, q)) : Hid (∀ W B m Q n T F x, QS W B m Q s n T F x → F.length ≤ 500000 → Calls Tryz.prog 129 #[.pointer (some ⟨Q, 0, none⟩), .int .i64 (g : Int)] W fun e w' => e = .returned (.tuple #[.string D, .int .i64 ((g + i : Nat) : Int)]) ∧ QS w' B m Q s n T (F ++ failM g q) x ∧ Kp (frD B Q) W w') := Lib.hid fun w B m Q n T F x h0 hF => by
  have CU := upto_hid Q s ⟨#[9, 10, 12, 13, 32, 62]⟩ g hg (by omega) (by decide)
  rw [show (⟨#[9, 10, 12, 13, 32, 62]⟩ : ByteArray).data.toList = [9, 10, 12, 13, 32, 62] from rfl, inL_word, hi] at CU
  have hil := find_le wordE s g hg
  rw [hi] at hil
  obtain ⟨e1, he1⟩ : ∃ e1, g + i = e1 := ⟨_, rfl⟩
  rw [he1] at CU ⊢
  have CD := decodeQ_hid s P D q g e1 (by rw [hP]; congr 1; omega) (by omega) (by omega) hs h
  have hlt := get_none hc
  have z1 : ¬ (g : Int) < (s.size : Int) := by omega
  clear hlt
  clear hc hi hP h hil he1
  obtain ⟨tv, fv, hv⟩ := h0
  have d0 := hv.q.c0
  have HV := Lib.hid hv
  clear hv
  go_enter Tryz.func129, Tryz.ntmps129
  go_wp2_with fail
  (with_reducible refine (CU.out _ _ _ _ _ HV.out.q).mono ?_)
  rintro e w1 ⟨rfl, b1⟩
  have HV1 := Lib.hid (HV.out.below b1).form
  have K1 : Kp (frD B Q) w w1 := Kp.of_below b1
  clear b1 HV d0
  go_wp2_with fail
  (with_reducible refine (CD.out _ _ _ _ _ _ _ _ HV1.out hF).mono ?_)
  rintro e w2 ⟨rfl, h2, k2⟩
  have HR := Lib.hid (And.intro h2 (K1.trans k2))
  clear h2 k2 K1 HV1 CU CD
  go_wp2
  go_ret2
  exact ⟨rfl, HR.out.1, HR.out.2⟩

set_option maxRecDepth 100000 in
set_option maxHeartbeats 8000000 in
theorem valueQ_34_hit (s P D : ByteArray) (g i : Nat) (q : List Nat) (hc : s.data.toList[g]? = some 34) (hs : s.size ≤ 20000) (hf : findT [34] (s.data.toList.drop (g + 1)) = some i) (hP : P.data.toList = (s.data.toList.drop (g + 1)).take i) (h : decT 0 P.data.toList = (D.data.toList, q)) : Hid (∀ W B m Q n T F x, QS W B m Q s n T F x → F.length ≤ 500000 → Calls Tryz.prog 129 #[.pointer (some ⟨Q, 0, none⟩), .int .i64 (g : Int)] W fun e w' => e = .returned (.tuple #[.string D, .int .i64 ((g + 1 + i + 1 : Nat) : Int)]) ∧ QS w' B m Q s n T (F ++ failM (g + 1) q) x ∧ Kp (frD B Q) W w') := Lib.hid fun w B m Q n T F x h0 hF => by
  have hlt := get_some hc
  have CF := find_hid Q s ⟨#[34]⟩ (g + 1) (by decide) (by decide) (by omega) (by omega)
  have hv : findV s.data.toList (⟨#[34]⟩ : ByteArray).data.toList (g + 1) = ((g + 1 + i : Nat) : Int) := by unfold findV; rw [show (⟨#[34]⟩ : ByteArray).data.toList = [34] from rfl, hf]
  rw [hv, show (((g + 1 : Nat)) : Int) = (g : Int) + 1 by push_cast; rfl] at CF
  have z1 : (g : Int) < (s.size : Int) := by omega
  have z0 : (g : Int) ≤ 20000 := by omega
  have z9 : (0 : Int) ≤ (g : Int) := by omega
  have i0 := index_ty Tryz.underlying9 s g 34 hc
  rw [show (((34 : UInt8).toNat : Nat) : Int) = 34 from rfl] at i0
  have g1 := slice_one' s ⟨#[34]⟩ g 34 hc rfl
  have hle := findT_le _ _ _ hf
  rw [List.length_drop, lsize, List.length_singleton] at hle
  obtain ⟨t, ht⟩ : ∃ t, g + 1 + i = t := ⟨_, rfl⟩
  rw [ht] at CF ⊢
  have CD := decodeQ_hid s P D q (g + 1) t (by rw [hP]; congr 1; omega) (by omega) (by omega) hs h
  rw [show (((g + 1 : Nat)) : Int) = (g : Int) + 1 by push_cast; rfl] at CD
  have z2 : (0 : Int) ≤ (t : Int) := by omega
  have z3 : (t : Int) ≤ 20000 := by omega
  rw [show (((t + 1 : Nat)) : Int) = (t : Int) + 1 by push_cast; rfl]
  clear hP h hle ht
  clear hc hf hv hlt
  obtain ⟨tv, fv, hv⟩ := h0
  have d0 := hv.q.c0
  have HV := Lib.hid hv
  clear hv
  go_enter Tryz.func129, Tryz.ntmps129
  go_wp2_with fail
  (with_reducible refine (CF.out _ _ _ _ _ HV.out.q).mono ?_)
  rintro e w1 ⟨rfl, rfl⟩
  clear d0
  go_wp2_with fail
  (with_reducible refine (CD.out _ _ _ _ _ _ _ _ HV.out.form hF).mono ?_)
  rintro e w2 ⟨rfl, h2, k2⟩
  have HR := Lib.hid (And.intro h2 k2)
  clear h2 k2 HV CF CD
  go_wp2
  go_ret2
  exact ⟨rfl, HR.out.1, HR.out.2⟩

set_option maxRecDepth 100000 in
set_option maxHeartbeats 8000000 in
theorem valueQ_34_cut (s : ByteArray) (g : Nat) (hc : s.data.toList[g]? = some 34) (hs : s.size ≤ 20000) (hf : findT [34] (s.data.toList.drop (g + 1)) = none) : Hid (∀ W B m Q n T F x, QS W B m Q s n T F x → F.length ≤ 500000 → Calls Tryz.prog 129 #[.pointer (some ⟨Q, 0, none⟩), .int .i64 (g : Int)] W fun e w' => e = .returned (.tuple #[.string ⟨#[]⟩, .int .i64 (-1)]) ∧ QS w' B m Q s n T F x ∧ Kp (frD B Q) W w') := Lib.hid fun w B m Q n T F x h0 hF => by
  have hlt := get_some hc
  have CF := find_hid Q s ⟨#[34]⟩ (g + 1) (by decide) (by decide) (by omega) (by omega)
  have hv : findV s.data.toList (⟨#[34]⟩ : ByteArray).data.toList (g + 1) = -1 := by unfold findV; rw [show (⟨#[34]⟩ : ByteArray).data.toList = [34] from rfl, hf]
  rw [hv, show (((g + 1 : Nat)) : Int) = (g : Int) + 1 by push_cast; rfl] at CF
  have z1 : (g : Int) < (s.size : Int) := by omega
  have z0 : (g : Int) ≤ 20000 := by omega
  have z9 : (0 : Int) ≤ (g : Int) := by omega
  have i0 := index_ty Tryz.underlying9 s g 34 hc
  rw [show (((34 : UInt8).toNat : Nat) : Int) = 34 from rfl] at i0
  have g1 := slice_one' s ⟨#[34]⟩ g 34 hc rfl
  clear hc hf hv hlt
  obtain ⟨tv, fv, hv⟩ := h0
  have d0 := hv.q.c0
  have HV := Lib.hid hv
  clear hv
  go_enter Tryz.func129, Tryz.ntmps129
  go_wp2_with fail
  (with_reducible refine (CF.out _ _ _ _ _ HV.out.q).mono ?_)
  rintro e w1 ⟨rfl, rfl⟩
  clear d0
  go_wp2
  go_ret2
  exact ⟨rfl, HV.out.form, Kp.refl _ _⟩

set_option maxRecDepth 100000 in
set_option maxHeartbeats 8000000 in
theorem valueQ_39_hit (s P D : ByteArray) (g i : Nat) (q : List Nat) (hc : s.data.toList[g]? = some 39) (hs : s.size ≤ 20000) (hf : findT [39] (s.data.toList.drop (g + 1)) = some i) (hP : P.data.toList = (s.data.toList.drop (g + 1)).take i) (h : decT 0 P.data.toList = (D.data.toList, q)) : Hid (∀ W B m Q n T F x, QS W B m Q s n T F x → F.length ≤ 500000 → Calls Tryz.prog 129 #[.pointer (some ⟨Q, 0, none⟩), .int .i64 (g : Int)] W fun e w' => e = .returned (.tuple #[.string D, .int .i64 ((g + 1 + i + 1 : Nat) : Int)]) ∧ QS w' B m Q s n T (F ++ failM (g + 1) q) x ∧ Kp (frD B Q) W w') := Lib.hid fun w B m Q n T F x h0 hF => by
  have hlt := get_some hc
  have CF := find_hid Q s ⟨#[39]⟩ (g + 1) (by decide) (by decide) (by omega) (by omega)
  have hv : findV s.data.toList (⟨#[39]⟩ : ByteArray).data.toList (g + 1) = ((g + 1 + i : Nat) : Int) := by unfold findV; rw [show (⟨#[39]⟩ : ByteArray).data.toList = [39] from rfl, hf]
  rw [hv, show (((g + 1 : Nat)) : Int) = (g : Int) + 1 by push_cast; rfl] at CF
  have z1 : (g : Int) < (s.size : Int) := by omega
  have z0 : (g : Int) ≤ 20000 := by omega
  have z9 : (0 : Int) ≤ (g : Int) := by omega
  have i0 := index_ty Tryz.underlying9 s g 39 hc
  rw [show (((39 : UInt8).toNat : Nat) : Int) = 39 from rfl] at i0
  have g1 := slice_one' s ⟨#[39]⟩ g 39 hc rfl
  have hle := findT_le _ _ _ hf
  rw [List.length_drop, lsize, List.length_singleton] at hle
  obtain ⟨t, ht⟩ : ∃ t, g + 1 + i = t := ⟨_, rfl⟩
  rw [ht] at CF ⊢
  have CD := decodeQ_hid s P D q (g + 1) t (by rw [hP]; congr 1; omega) (by omega) (by omega) hs h
  rw [show (((g + 1 : Nat)) : Int) = (g : Int) + 1 by push_cast; rfl] at CD
  have z2 : (0 : Int) ≤ (t : Int) := by omega
  have z3 : (t : Int) ≤ 20000 := by omega
  rw [show (((t + 1 : Nat)) : Int) = (t : Int) + 1 by push_cast; rfl]
  clear hP h hle ht
  clear hc hf hv hlt
  obtain ⟨tv, fv, hv⟩ := h0
  have d0 := hv.q.c0
  have HV := Lib.hid hv
  clear hv
  go_enter Tryz.func129, Tryz.ntmps129
  go_wp2_with fail
  (with_reducible refine (CF.out _ _ _ _ _ HV.out.q).mono ?_)
  rintro e w1 ⟨rfl, rfl⟩
  clear d0
  go_wp2_with fail
  (with_reducible refine (CD.out _ _ _ _ _ _ _ _ HV.out.form hF).mono ?_)
  rintro e w2 ⟨rfl, h2, k2⟩
  have HR := Lib.hid (And.intro h2 k2)
  clear h2 k2 HV CF CD
  go_wp2
  go_ret2
  exact ⟨rfl, HR.out.1, HR.out.2⟩

set_option maxRecDepth 100000 in
set_option maxHeartbeats 8000000 in
theorem valueQ_39_cut (s : ByteArray) (g : Nat) (hc : s.data.toList[g]? = some 39) (hs : s.size ≤ 20000) (hf : findT [39] (s.data.toList.drop (g + 1)) = none) : Hid (∀ W B m Q n T F x, QS W B m Q s n T F x → F.length ≤ 500000 → Calls Tryz.prog 129 #[.pointer (some ⟨Q, 0, none⟩), .int .i64 (g : Int)] W fun e w' => e = .returned (.tuple #[.string ⟨#[]⟩, .int .i64 (-1)]) ∧ QS w' B m Q s n T F x ∧ Kp (frD B Q) W w') := Lib.hid fun w B m Q n T F x h0 hF => by
  have hlt := get_some hc
  have CF := find_hid Q s ⟨#[39]⟩ (g + 1) (by decide) (by decide) (by omega) (by omega)
  have hv : findV s.data.toList (⟨#[39]⟩ : ByteArray).data.toList (g + 1) = -1 := by unfold findV; rw [show (⟨#[39]⟩ : ByteArray).data.toList = [39] from rfl, hf]
  rw [hv, show (((g + 1 : Nat)) : Int) = (g : Int) + 1 by push_cast; rfl] at CF
  have z1 : (g : Int) < (s.size : Int) := by omega
  have z0 : (g : Int) ≤ 20000 := by omega
  have z9 : (0 : Int) ≤ (g : Int) := by omega
  have i0 := index_ty Tryz.underlying9 s g 39 hc
  rw [show (((39 : UInt8).toNat : Nat) : Int) = 39 from rfl] at i0
  have g1 := slice_one' s ⟨#[39]⟩ g 39 hc rfl
  clear hc hf hv hlt
  obtain ⟨tv, fv, hv⟩ := h0
  have d0 := hv.q.c0
  have HV := Lib.hid hv
  clear hv
  go_enter Tryz.func129, Tryz.ntmps129
  go_wp2_with fail
  (with_reducible refine (CF.out _ _ _ _ _ HV.out.q).mono ?_)
  rintro e w1 ⟨rfl, rfl⟩
  clear d0
  go_wp2
  go_ret2
  exact ⟨rfl, HV.out.form, Kp.refl _ _⟩

/-- What the document's value is told as: the value, the place behind it. -/
def outV (g : Nat) : Option ((List UInt8 × List Fl) × Nat) → Int
  | none => -1
  | some p => ((g + p.2 : Nat) : Int)
def outD : Option ((List UInt8 × List Fl) × Nat) → List UInt8
  | none => []
  | some p => p.1.1
def outF : Option ((List UInt8 × List Fl) × Nat) → List Fl
  | none => []
  | some p => p.1.2
theorem valueQ_hid (s V : ByteArray) (g : Nat) (hg : g ≤ s.size) (hs : s.size ≤ 20000) (r : Option ((List UInt8 × List Fl) × Nat)) (hr : valueM g (s.data.toList.drop g) = r) (hV : V.data.toList = outD r) : Hid (∀ W B m Q n T F x, QS W B m Q s n T F x → F.length ≤ 500000 → Calls Tryz.prog 129 #[.pointer (some ⟨Q, 0, none⟩), .int .i64 (g : Int)] W fun e w' => e = .returned (.tuple #[.string V, .int .i64 (outV g r)]) ∧ QS w' B m Q s n T (F ++ outF r) x ∧ Kp (frD B Q) W w') := by
  cases hc : s.data.toList[g]? with
  | none =>
    have hd : s.data.toList.drop g = [] := by rw [List.drop_eq_nil_iff]; exact List.getElem?_eq_none_iff.1 hc
    rw [hd] at hr
    subst hr
    obtain rfl : V = ⟨#[]⟩ := text_is hV
    have C := valueQ_none s ⟨#[]⟩ ⟨#[]⟩ g 0 [] hg hs hc (by rw [hd]; rfl) (by rw [hd]; rfl) rfl
    exact C
  | some c =>
    have hlt := get_some hc
    have hd : s.data.toList.drop g = c :: s.data.toList.drop (g + 1) := by
      rw [List.drop_eq_getElem_cons (by rw [lsize]; exact hlt)]
      congr 1
      obtain ⟨_, h2⟩ := List.getElem?_eq_some_iff.1 hc
      exact h2
    by_cases hq : c = 34 ∨ c = 39
    · have hvq : valueM g (s.data.toList.drop g) = match findT [c] (s.data.toList.drop (g + 1)) with
        | some i => some (decL (g + 1) ((s.data.toList.drop (g + 1)).take i), i + 2)
        | none => none := by
        rw [hd, find_single]
        unfold valueM
        dsimp only
        rw [if_pos hq]
        split <;> rfl
      cases hf : findT [c] (s.data.toList.drop (g + 1)) with
      | some i =>
        rw [hf] at hvq
        rw [hvq] at hr
        subst hr
        obtain ⟨P, hP⟩ := text_of ((s.data.toList.drop (g + 1)).take i)
        obtain ⟨q, hqq⟩ : ∃ q, (decT 0 P.data.toList).2 = q := ⟨_, rfl⟩
        have hdl : decT 0 P.data.toList = (V.data.toList, q) := by
          rw [hV, ← hqq]
          unfold outD
          dsimp only
          rw [← hP, decL_shift]
        unfold outV outF
        dsimp only
        rw [← hP, decL_fail hdl, show g + (i + 2) = g + 1 + i + 1 by omega]
        rcases hq with rfl | rfl
        · exact valueQ_34_hit s P V g i q hc hs hf hP hdl
        · exact valueQ_39_hit s P V g i q hc hs hf hP hdl
      | none =>
        rw [hf] at hvq
        rw [hvq] at hr
        subst hr
        obtain rfl : V = ⟨#[]⟩ := text_is hV
        unfold outV outF
        simp only [List.append_nil]
        rcases hq with rfl | rfl
        · exact valueQ_34_cut s g hc hs hf
        · exact valueQ_39_cut s g hc hs hf
    · have hvw : valueM g (s.data.toList.drop g) = some (decL g ((s.data.toList.drop g).take ((s.data.toList.drop g).findIdx wordE)), (s.data.toList.drop g).findIdx wordE) := by
        rw [hd]
        unfold valueM
        dsimp only
        rw [if_neg hq]
      rw [hvw] at hr
      subst hr
      obtain ⟨i, hi⟩ : ∃ i, (s.data.toList.drop g).findIdx wordE = i := ⟨_, rfl⟩
      rw [hi] at hV ⊢
      obtain ⟨P, hP⟩ := text_of ((s.data.toList.drop g).take i)
      obtain ⟨q, hqq⟩ : ∃ q, (decT 0 P.data.toList).2 = q := ⟨_, rfl⟩
      have hdl : decT 0 P.data.toList = (V.data.toList, q) := by
        rw [hV, ← hqq]
        unfold outD
        dsimp only
        rw [← hP, decL_shift]
      unfold outV outF
      dsimp only
      rw [← hP, decL_fail hdl]
      exact valueQ_word s P V g i q hg hs c hc (fun e => hq (.inl e)) (fun e => hq (.inr e)) hi hP hdl

set_option maxRecDepth 100000 in
set_option maxHeartbeats 4000000 in
theorem hasQ_hid (A : List (List UInt8 × List UInt8)) (X NM : ByteArray) (k : Int) (c b : Bool) (h : A.any (fun y => y.1 == X.data.toList) = b) (B m : Nat) (a : Option Addr) (cap : Nat) (hl : A.length ≤ 1000000) : Hid (∀ W, AttrsBy W B m (.slice a A.length cap) A → Calls Tryz.prog 127 #[.agg #[.int .i64 k, .string NM, .string ⟨#[]⟩, .slice a A.length cap, .bool c], .string X] W fun e w' => e = .returned (.bool b) ∧ Below W.heap.size W w') := Lib.hid fun w ha => by
  have al := (Below.refl w.heap.size w).alloc (Nat.le_refl _) (.cells #[.int .i64 k, .string NM, .string ⟨#[]⟩, .slice a A.length cap, .bool c] 47)
  have HA := Lib.hid ha
  have HB0 := Lib.hid h
  have hnb : (w.alloc (.cells #[.int .i64 k, .string NM, .string ⟨#[]⟩, .slice a A.length cap, .bool c] 47)).cell? ⟨w.heap.size, 3, none⟩ = some (.slice a A.length cap) := by rw [cell_of (new_block w _)]; rfl
  have HN := Lib.hid hnb
  have HAL := Lib.hid al
  clear ha h al hnb
  go_enter Tryz.func127, Tryz.ntmps127
  go_wp2
  generalize w.alloc (.cells #[.int .i64 k, .string NM, .string ⟨#[]⟩, .slice a A.length cap, .bool c] 47) = w1 at HN HAL ⊢
  go_loop [5] (fun j => ∃ i : Nat, j = .int .i64 (i : Int) ∧ i ≤ A.length ∧ Hid (∀ u, (h : u < A.length) → u < i → A[u].1 ≠ X.data.toList)) (fun j => A.length - (intOf j).toNat)
  case atStart => exact ⟨0, rfl, Nat.zero_le _, Lib.hid fun u _ h => by omega⟩
  case round =>
    obtain ⟨i, rfl, hi, HI⟩ := hrel
    have d3 := HN.out
    by_cases hlt : i < A.length
    · have har := HA.out.below HAL.out
      obtain ⟨g, rfl, c0, c1⟩ := har.at hlt
      obtain ⟨NX, hNX⟩ := text_of A[i].1
      rw [strV_of hNX] at c0
      obtain ⟨e, he⟩ : ∃ e, (NX.toList == X.toList) = e := ⟨_, rfl⟩
      have HE : Hid (e = decide (A[i].1 = X.data.toList)) := Lib.hid (by rw [← he, text_eq, hNX])
      have z1 : (i : Int) < (A.length : Int) := by omega
      clear har c1 hNX
      cases e with
      | true =>
        have HR : Hid (b = true) := Lib.hid (by
          rw [← HB0.out, List.any_eq_true]
          exact ⟨A[i], List.getElem_mem hlt, by rw [beq_iff_eq]; exact of_decide_eq_true HE.out.symm⟩)
        clear HE HI
        go_wp2
        go_ret
        exact ⟨ret_bool HR.out.symm, HAL.out⟩
      | false =>
        have HI2 : Hid (∀ u, (h : u < A.length) → u < i + 1 → A[u].1 ≠ X.data.toList) := Lib.hid fun u hu h2 => by
          by_cases e : u = i
          · subst e
            exact of_decide_eq_false HE.out.symm
          · exact HI.out u hu (by omega)
        clear HE HI
        go_wp2
        go_round
        case rel => exact ⟨i + 1, by go_num, by omega, HI2⟩
        case measure => simp [intOf]; omega
    · have z1 : ¬ (i : Int) < (A.length : Int) := by omega
      have HR : Hid (b = false) := Lib.hid (by
        rw [← HB0.out, List.any_eq_false]
        intro y hy
        obtain ⟨u, hu, rfl⟩ := List.getElem_of_mem hy
        rw [beq_iff_eq]
        exact HI.out u hu (by omega))
      clear HI
      go_wp2
      go_ret
      exact ⟨ret_bool HR.out.symm, HAL.out⟩

end Go.Proofs.YtfbhpmafjehojaaGreatDoor
