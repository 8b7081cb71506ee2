/- A source in a block of its own; is a place right: the program's isPlace. -/
import Derived.Test.YtaldjkbnngeahaaGreatDoorSrcB
import Derived.Test.YtaldjkbnngeahaaGreatDoorRefSZ
namespace Go.Proofs.YtaldjkbnngeahaaGreatDoor
open Go.RowKit

/-- A source in a block of its own. -/
def SX (w : World) (R : Nat) (k : Int) (t s h : ByteArray) (b : Bool) (p : Int) (pa : ByteArray) : Prop := w.heap[R]? = some (.cells #[.int .i64 k, .string t, .string s, .string h, .bool b, .int .i64 p, .string pa] 40 (0, 0))
theorem SX.lt {w : World} {R : Nat} {t s h pa : ByteArray} {b : Bool} {k p : Int} (a : SX w R k t s h b p pa) : R < w.heap.size := lt_of_block a
theorem SX.below {w w' : World} {R : Nat} {t s h pa : ByteArray} {b : Bool} {k p : Int} (a : SX w R k t s h b p pa) (hb : Below w.heap.size w w') : SX w' R k t s h b p pa := by
  unfold SX at *
  rw [hb.block R (lt_of_block a)]; exact a
theorem SX.made (w : World) (k : Int) (t s h : ByteArray) (b : Bool) (p : Int) (pa : ByteArray) : SX (w.alloc (.cells #[.int .i64 k, .string t, .string s, .string h, .bool b, .int .i64 p, .string pa] 40)) w.heap.size k t s h b p pa := new_block w _
theorem SX.c0 {w : World} {R : Nat} {t s h pa : ByteArray} {b : Bool} {k p : Int} (a : SX w R k t s h b p pa) : w.cell? ⟨R, 0, none⟩ = some (.int .i64 k) := by rw [cell_of a]; rfl
theorem SX.c1 {w : World} {R : Nat} {t s h pa : ByteArray} {b : Bool} {k p : Int} (a : SX w R k t s h b p pa) : w.cell? ⟨R, 1, none⟩ = some (.string t) := by rw [cell_of a]; rfl
theorem SX.c2 {w : World} {R : Nat} {t s h pa : ByteArray} {b : Bool} {k p : Int} (a : SX w R k t s h b p pa) : w.cell? ⟨R, 2, none⟩ = some (.string s) := by rw [cell_of a]; rfl
theorem SX.c3 {w : World} {R : Nat} {t s h pa : ByteArray} {b : Bool} {k p : Int} (a : SX w R k t s h b p pa) : w.cell? ⟨R, 3, none⟩ = some (.string h) := by rw [cell_of a]; rfl
theorem SX.c4 {w : World} {R : Nat} {t s h pa : ByteArray} {b : Bool} {k p : Int} (a : SX w R k t s h b p pa) : w.cell? ⟨R, 4, none⟩ = some (.bool b) := by rw [cell_of a]; rfl
theorem SX.c5 {w : World} {R : Nat} {t s h pa : ByteArray} {b : Bool} {k p : Int} (a : SX w R k t s h b p pa) : w.cell? ⟨R, 5, none⟩ = some (.int .i64 p) := by rw [cell_of a]; rfl
theorem SX.c6 {w : World} {R : Nat} {t s h pa : ByteArray} {b : Bool} {k p : Int} (a : SX w R k t s h b p pa) : w.cell? ⟨R, 6, none⟩ = some (.string pa) := by rw [cell_of a]; rfl

def placeB (a : Src) : Bool := (a.s.isEmpty || schM a.s) && ((a.h.isEmpty && a.w) || hostM a.h) && decide (-1 ≤ a.p ∧ a.p ≤ 65535) && spathM a.pa
theorem host_nil : hostM [] = false := by decide
theorem place_host (a : Src) : shostM a = (a.t.isEmpty && placeB a) := by
  unfold shostM placeB
  cases hh : a.h with
  | nil =>
    rw [host_nil]
    cases a.t.isEmpty <;> cases a.w <;> simp
  | cons c l =>
    cases a.t.isEmpty <;> simp

set_option maxRecDepth 100000 in
set_option maxHeartbeats 8000000 in
theorem placeP_any (k : Int) (t s h : ByteArray) (b : Bool) (p : Int) (pa : ByteArray) (hs : s.size ≤ 100000) (hh : h.size ≤ 100000) (hpa : pa.size ≤ 100000) (w : World) (hm : MaxIn w) (ht : TabIn w) : Calls Tryz.prog 122 #[srcV k t s h b p pa] w fun e w' => e = .returned (.bool (placeB (srcM k t s h b p pa))) ∧ Below w.heap.size w w' := by
  obtain ⟨xs, hxs⟩ : ∃ x, schM s.data.toList = x := ⟨_, rfl⟩
  obtain ⟨xh, hxh⟩ : ∃ x, hostM h.data.toList = x := ⟨_, rfl⟩
  obtain ⟨xp, hxp⟩ : ∃ x, spathM pa.data.toList = x := ⟨_, rfl⟩
  have CS := schP_hid s xs hxs hs
  have CH := hostP_hid h xh hxh hh
  have CP := spathP_hid pa xp hxp hpa
  have HM : Hid (placeB (srcM k t s h b p pa) = ((s.toList.isEmpty || xs) && ((h.toList.isEmpty && b) || xh) && decide (-1 ≤ p ∧ p ≤ 65535) && xp)) := Lib.hid (by rw [← hxs, ← hxh, ← hxp, text_empty, text_empty]; rfl)
  have HE : Hid (h.toList.isEmpty = true → xh = false) := Lib.hid (by
    intro e
    rw [text_empty] at e
    have e2 : h.data.toList = [] := by simpa using e
    rw [← hxh, e2]; exact host_nil)
  clear hxs hxh hxp hs hh hpa
  unfold srcV
  cases gs : s.toList.isEmpty
  · rw [gs] at HM
    cases xs
    · show _
      have HF : Hid (false = placeB (srcM k t s h b p pa)) := Lib.hid (by rw [HM.out]; simp)
      clear HM HE
      go_enter Tryz.func122, Tryz.ntmps122
      go_wp2_with fail
      have xn := SX.made w k t s h b p pa
      have mw1 := hm.made (.cells #[.int .i64 k, .string t, .string s, .string h, .bool b, .int .i64 p, .string pa] 40)
      have tw1 := ht.made (.cells #[.int .i64 k, .string t, .string s, .string h, .bool b, .int .i64 p, .string pa] 40)
      have Bw1 : Below w.heap.size w (w.alloc (.cells #[.int .i64 k, .string t, .string s, .string h, .bool b, .int .i64 p, .string pa] 40)) := ((Below.refl w.heap.size w).alloc (Nat.le_refl _) (.cells #[.int .i64 k, .string t, .string s, .string h, .bool b, .int .i64 p, .string pa] 40))
      generalize hR : w.heap.size = R at xn Bw1 ⊢
      have HR := Lib.hid hR
      clear hR
      generalize w.alloc (.cells #[.int .i64 k, .string t, .string s, .string h, .bool b, .int .i64 p, .string pa] 40) = w1 at xn mw1 tw1 Bw1  ⊢
      have xR_w1 := xn
      clear xn hm ht
      refine (CS.out _ mw1 tw1).mono ?_
      rintro e w2 ⟨rfl, b_⟩
      have mw2 := mw1.below b_
      have tw2 := tw1.below b_
      have Bw2 := Bw1.trans (b_.mono (Nat.le_of_lt xR_w1.lt))
      have xR_w2 := xR_w1.below b_
      clear b_ mw1 tw1 Bw1 xR_w1
      have dR0 := xR_w2.c0
      have dR1 := xR_w2.c1
      have dR2 := xR_w2.c2
      have dR3 := xR_w2.c3
      have dR4 := xR_w2.c4
      have dR5 := xR_w2.c5
      have dR6 := xR_w2.c6
      go_wp2
      go_ret
      exact ⟨ret_bool HF.out, by rw [HR.out]; exact Bw2⟩

    · show _
      cases gh : h.toList.isEmpty
      · rw [gh] at HM HE
        cases xh
        · show _
          have HF : Hid (false = placeB (srcM k t s h b p pa)) := Lib.hid (by rw [HM.out]; simp only [Bool.or_true, Bool.true_and]; simp)
          clear HM HE
          go_enter Tryz.func122, Tryz.ntmps122
          go_wp2_with fail
          have xn := SX.made w k t s h b p pa
          have mw1 := hm.made (.cells #[.int .i64 k, .string t, .string s, .string h, .bool b, .int .i64 p, .string pa] 40)
          have tw1 := ht.made (.cells #[.int .i64 k, .string t, .string s, .string h, .bool b, .int .i64 p, .string pa] 40)
          have Bw1 : Below w.heap.size w (w.alloc (.cells #[.int .i64 k, .string t, .string s, .string h, .bool b, .int .i64 p, .string pa] 40)) := ((Below.refl w.heap.size w).alloc (Nat.le_refl _) (.cells #[.int .i64 k, .string t, .string s, .string h, .bool b, .int .i64 p, .string pa] 40))
          generalize hR : w.heap.size = R at xn Bw1 ⊢
          have HR := Lib.hid hR
          clear hR
          generalize w.alloc (.cells #[.int .i64 k, .string t, .string s, .string h, .bool b, .int .i64 p, .string pa] 40) = w1 at xn mw1 tw1 Bw1  ⊢
          have xR_w1 := xn
          clear xn hm ht
          refine (CS.out _ mw1 tw1).mono ?_
          rintro e w2 ⟨rfl, b_⟩
          have mw2 := mw1.below b_
          have tw2 := tw1.below b_
          have Bw2 := Bw1.trans (b_.mono (Nat.le_of_lt xR_w1.lt))
          have xR_w2 := xR_w1.below b_
          clear b_ mw1 tw1 Bw1 xR_w1
          have dR0 := xR_w2.c0
          have dR1 := xR_w2.c1
          have dR2 := xR_w2.c2
          have dR3 := xR_w2.c3
          have dR4 := xR_w2.c4
          have dR5 := xR_w2.c5
          have dR6 := xR_w2.c6
          go_wp2_with fail
          clear dR0 dR1 dR2 dR3 dR4 dR5 dR6
          refine (CH.out _ mw2 tw2).mono ?_
          rintro e w3 ⟨rfl, b_⟩
          have mw3 := mw2.below b_
          have tw3 := tw2.below b_
          have Bw3 := Bw2.trans (b_.mono (Nat.le_of_lt xR_w2.lt))
          have xR_w3 := xR_w2.below b_
          clear b_ mw2 tw2 Bw2 xR_w2
          have dR0 := xR_w3.c0
          have dR1 := xR_w3.c1
          have dR2 := xR_w3.c2
          have dR3 := xR_w3.c3
          have dR4 := xR_w3.c4
          have dR5 := xR_w3.c5
          have dR6 := xR_w3.c6
          go_wp2
          go_ret
          exact ⟨ret_bool HF.out, by rw [HR.out]; exact Bw3⟩

        · show _
          by_cases p1 : p < -1
          · have q1 : decide (-1 ≤ p ∧ p ≤ 65535) = false := decide_eq_false (by omega)
            have HF : Hid (false = placeB (srcM k t s h b p pa)) := Lib.hid (by rw [HM.out]; simp only [Bool.or_true, Bool.true_and]; rw [q1]; simp)
            clear HM HE
            go_enter Tryz.func122, Tryz.ntmps122
            go_wp2_with fail
            have xn := SX.made w k t s h b p pa
            have mw1 := hm.made (.cells #[.int .i64 k, .string t, .string s, .string h, .bool b, .int .i64 p, .string pa] 40)
            have tw1 := ht.made (.cells #[.int .i64 k, .string t, .string s, .string h, .bool b, .int .i64 p, .string pa] 40)
            have Bw1 : Below w.heap.size w (w.alloc (.cells #[.int .i64 k, .string t, .string s, .string h, .bool b, .int .i64 p, .string pa] 40)) := ((Below.refl w.heap.size w).alloc (Nat.le_refl _) (.cells #[.int .i64 k, .string t, .string s, .string h, .bool b, .int .i64 p, .string pa] 40))
            generalize hR : w.heap.size = R at xn Bw1 ⊢
            have HR := Lib.hid hR
            clear hR
            generalize w.alloc (.cells #[.int .i64 k, .string t, .string s, .string h, .bool b, .int .i64 p, .string pa] 40) = w1 at xn mw1 tw1 Bw1  ⊢
            have xR_w1 := xn
            clear xn hm ht
            refine (CS.out _ mw1 tw1).mono ?_
            rintro e w2 ⟨rfl, b_⟩
            have mw2 := mw1.below b_
            have tw2 := tw1.below b_
            have Bw2 := Bw1.trans (b_.mono (Nat.le_of_lt xR_w1.lt))
            have xR_w2 := xR_w1.below b_
            clear b_ mw1 tw1 Bw1 xR_w1
            have dR0 := xR_w2.c0
            have dR1 := xR_w2.c1
            have dR2 := xR_w2.c2
            have dR3 := xR_w2.c3
            have dR4 := xR_w2.c4
            have dR5 := xR_w2.c5
            have dR6 := xR_w2.c6
            go_wp2_with fail
            clear dR0 dR1 dR2 dR3 dR4 dR5 dR6
            refine (CH.out _ mw2 tw2).mono ?_
            rintro e w3 ⟨rfl, b_⟩
            have mw3 := mw2.below b_
            have tw3 := tw2.below b_
            have Bw3 := Bw2.trans (b_.mono (Nat.le_of_lt xR_w2.lt))
            have xR_w3 := xR_w2.below b_
            clear b_ mw2 tw2 Bw2 xR_w2
            have dR0 := xR_w3.c0
            have dR1 := xR_w3.c1
            have dR2 := xR_w3.c2
            have dR3 := xR_w3.c3
            have dR4 := xR_w3.c4
            have dR5 := xR_w3.c5
            have dR6 := xR_w3.c6
            go_wp2
            go_ret
            exact ⟨ret_bool HF.out, by rw [HR.out]; exact Bw3⟩

          have p1' : -1 ≤ p := by omega
          by_cases p2 : 65535 < p
          · have q1 : decide (-1 ≤ p ∧ p ≤ 65535) = false := decide_eq_false (by omega)
            have p2' : ¬ p ≤ 65535 := by omega
            have HF : Hid (false = placeB (srcM k t s h b p pa)) := Lib.hid (by rw [HM.out]; simp only [Bool.or_true, Bool.true_and]; rw [q1]; simp)
            clear HM HE
            go_enter Tryz.func122, Tryz.ntmps122
            go_wp2_with fail
            have xn := SX.made w k t s h b p pa
            have mw1 := hm.made (.cells #[.int .i64 k, .string t, .string s, .string h, .bool b, .int .i64 p, .string pa] 40)
            have tw1 := ht.made (.cells #[.int .i64 k, .string t, .string s, .string h, .bool b, .int .i64 p, .string pa] 40)
            have Bw1 : Below w.heap.size w (w.alloc (.cells #[.int .i64 k, .string t, .string s, .string h, .bool b, .int .i64 p, .string pa] 40)) := ((Below.refl w.heap.size w).alloc (Nat.le_refl _) (.cells #[.int .i64 k, .string t, .string s, .string h, .bool b, .int .i64 p, .string pa] 40))
            generalize hR : w.heap.size = R at xn Bw1 ⊢
            have HR := Lib.hid hR
            clear hR
            generalize w.alloc (.cells #[.int .i64 k, .string t, .string s, .string h, .bool b, .int .i64 p, .string pa] 40) = w1 at xn mw1 tw1 Bw1  ⊢
            have xR_w1 := xn
            clear xn hm ht
            refine (CS.out _ mw1 tw1).mono ?_
            rintro e w2 ⟨rfl, b_⟩
            have mw2 := mw1.below b_
            have tw2 := tw1.below b_
            have Bw2 := Bw1.trans (b_.mono (Nat.le_of_lt xR_w1.lt))
            have xR_w2 := xR_w1.below b_
            clear b_ mw1 tw1 Bw1 xR_w1
            have dR0 := xR_w2.c0
            have dR1 := xR_w2.c1
            have dR2 := xR_w2.c2
            have dR3 := xR_w2.c3
            have dR4 := xR_w2.c4
            have dR5 := xR_w2.c5
            have dR6 := xR_w2.c6
            go_wp2_with fail
            clear dR0 dR1 dR2 dR3 dR4 dR5 dR6
            refine (CH.out _ mw2 tw2).mono ?_
            rintro e w3 ⟨rfl, b_⟩
            have mw3 := mw2.below b_
            have tw3 := tw2.below b_
            have Bw3 := Bw2.trans (b_.mono (Nat.le_of_lt xR_w2.lt))
            have xR_w3 := xR_w2.below b_
            clear b_ mw2 tw2 Bw2 xR_w2
            have dR0 := xR_w3.c0
            have dR1 := xR_w3.c1
            have dR2 := xR_w3.c2
            have dR3 := xR_w3.c3
            have dR4 := xR_w3.c4
            have dR5 := xR_w3.c5
            have dR6 := xR_w3.c6
            go_wp2
            go_ret
            exact ⟨ret_bool HF.out, by rw [HR.out]; exact Bw3⟩

          have p2' : p ≤ 65535 := by omega
          have q1 : decide (-1 ≤ p ∧ p ≤ 65535) = true := decide_eq_true (by omega)
          have HF : Hid (xp = placeB (srcM k t s h b p pa)) := Lib.hid (by rw [HM.out]; simp only [Bool.or_true, Bool.true_and]; rw [q1]; simp)
          clear HM HE
          go_enter Tryz.func122, Tryz.ntmps122
          go_wp2_with fail
          have xn := SX.made w k t s h b p pa
          have mw1 := hm.made (.cells #[.int .i64 k, .string t, .string s, .string h, .bool b, .int .i64 p, .string pa] 40)
          have tw1 := ht.made (.cells #[.int .i64 k, .string t, .string s, .string h, .bool b, .int .i64 p, .string pa] 40)
          have Bw1 : Below w.heap.size w (w.alloc (.cells #[.int .i64 k, .string t, .string s, .string h, .bool b, .int .i64 p, .string pa] 40)) := ((Below.refl w.heap.size w).alloc (Nat.le_refl _) (.cells #[.int .i64 k, .string t, .string s, .string h, .bool b, .int .i64 p, .string pa] 40))
          generalize hR : w.heap.size = R at xn Bw1 ⊢
          have HR := Lib.hid hR
          clear hR
          generalize w.alloc (.cells #[.int .i64 k, .string t, .string s, .string h, .bool b, .int .i64 p, .string pa] 40) = w1 at xn mw1 tw1 Bw1  ⊢
          have xR_w1 := xn
          clear xn hm ht
          refine (CS.out _ mw1 tw1).mono ?_
          rintro e w2 ⟨rfl, b_⟩
          have mw2 := mw1.below b_
          have tw2 := tw1.below b_
          have Bw2 := Bw1.trans (b_.mono (Nat.le_of_lt xR_w1.lt))
          have xR_w2 := xR_w1.below b_
          clear b_ mw1 tw1 Bw1 xR_w1
          have dR0 := xR_w2.c0
          have dR1 := xR_w2.c1
          have dR2 := xR_w2.c2
          have dR3 := xR_w2.c3
          have dR4 := xR_w2.c4
          have dR5 := xR_w2.c5
          have dR6 := xR_w2.c6
          go_wp2_with fail
          clear dR0 dR1 dR2 dR3 dR4 dR5 dR6
          refine (CH.out _ mw2 tw2).mono ?_
          rintro e w3 ⟨rfl, b_⟩
          have mw3 := mw2.below b_
          have tw3 := tw2.below b_
          have Bw3 := Bw2.trans (b_.mono (Nat.le_of_lt xR_w2.lt))
          have xR_w3 := xR_w2.below b_
          clear b_ mw2 tw2 Bw2 xR_w2
          have dR0 := xR_w3.c0
          have dR1 := xR_w3.c1
          have dR2 := xR_w3.c2
          have dR3 := xR_w3.c3
          have dR4 := xR_w3.c4
          have dR5 := xR_w3.c5
          have dR6 := xR_w3.c6
          go_wp2_with fail
          clear dR0 dR1 dR2 dR3 dR4 dR5 dR6
          refine (CP.out _ ).mono ?_
          rintro e w4 ⟨rfl, b_⟩
          have mw4 := mw3.below b_
          have tw4 := tw3.below b_
          have Bw4 := Bw3.trans (b_.mono (Nat.le_of_lt xR_w3.lt))
          have xR_w4 := xR_w3.below b_
          clear b_ mw3 tw3 Bw3 xR_w3
          have dR0 := xR_w4.c0
          have dR1 := xR_w4.c1
          have dR2 := xR_w4.c2
          have dR3 := xR_w4.c3
          have dR4 := xR_w4.c4
          have dR5 := xR_w4.c5
          have dR6 := xR_w4.c6
          go_wp2
          go_ret
          exact ⟨ret_bool HF.out, by rw [HR.out]; exact Bw4⟩

      · rw [gh] at HM HE
        obtain rfl := HE.out rfl
        cases b
        · show _
          have HF : Hid (false = placeB (srcM k t s h false p pa)) := Lib.hid (by rw [HM.out]; simp only [Bool.or_true, Bool.true_and]; simp)
          clear HM HE
          go_enter Tryz.func122, Tryz.ntmps122
          go_wp2_with fail
          have xn := SX.made w k t s h false p pa
          have mw1 := hm.made (.cells #[.int .i64 k, .string t, .string s, .string h, .bool false, .int .i64 p, .string pa] 40)
          have tw1 := ht.made (.cells #[.int .i64 k, .string t, .string s, .string h, .bool false, .int .i64 p, .string pa] 40)
          have Bw1 : Below w.heap.size w (w.alloc (.cells #[.int .i64 k, .string t, .string s, .string h, .bool false, .int .i64 p, .string pa] 40)) := ((Below.refl w.heap.size w).alloc (Nat.le_refl _) (.cells #[.int .i64 k, .string t, .string s, .string h, .bool false, .int .i64 p, .string pa] 40))
          generalize hR : w.heap.size = R at xn Bw1 ⊢
          have HR := Lib.hid hR
          clear hR
          generalize w.alloc (.cells #[.int .i64 k, .string t, .string s, .string h, .bool false, .int .i64 p, .string pa] 40) = w1 at xn mw1 tw1 Bw1  ⊢
          have xR_w1 := xn
          clear xn hm ht
          refine (CS.out _ mw1 tw1).mono ?_
          rintro e w2 ⟨rfl, b_⟩
          have mw2 := mw1.below b_
          have tw2 := tw1.below b_
          have Bw2 := Bw1.trans (b_.mono (Nat.le_of_lt xR_w1.lt))
          have xR_w2 := xR_w1.below b_
          clear b_ mw1 tw1 Bw1 xR_w1
          have dR0 := xR_w2.c0
          have dR1 := xR_w2.c1
          have dR2 := xR_w2.c2
          have dR3 := xR_w2.c3
          have dR4 := xR_w2.c4
          have dR5 := xR_w2.c5
          have dR6 := xR_w2.c6
          go_wp2_with fail
          clear dR0 dR1 dR2 dR3 dR4 dR5 dR6
          refine (CH.out _ mw2 tw2).mono ?_
          rintro e w3 ⟨rfl, b_⟩
          have mw3 := mw2.below b_
          have tw3 := tw2.below b_
          have Bw3 := Bw2.trans (b_.mono (Nat.le_of_lt xR_w2.lt))
          have xR_w3 := xR_w2.below b_
          clear b_ mw2 tw2 Bw2 xR_w2
          have dR0 := xR_w3.c0
          have dR1 := xR_w3.c1
          have dR2 := xR_w3.c2
          have dR3 := xR_w3.c3
          have dR4 := xR_w3.c4
          have dR5 := xR_w3.c5
          have dR6 := xR_w3.c6
          go_wp2
          go_ret
          exact ⟨ret_bool HF.out, by rw [HR.out]; exact Bw3⟩

        · show _
          by_cases p1 : p < -1
          · have q1 : decide (-1 ≤ p ∧ p ≤ 65535) = false := decide_eq_false (by omega)
            have HF : Hid (false = placeB (srcM k t s h true p pa)) := Lib.hid (by rw [HM.out]; simp only [Bool.or_true, Bool.true_and]; rw [q1]; simp)
            clear HM HE
            go_enter Tryz.func122, Tryz.ntmps122
            go_wp2_with fail
            have xn := SX.made w k t s h true p pa
            have mw1 := hm.made (.cells #[.int .i64 k, .string t, .string s, .string h, .bool true, .int .i64 p, .string pa] 40)
            have tw1 := ht.made (.cells #[.int .i64 k, .string t, .string s, .string h, .bool true, .int .i64 p, .string pa] 40)
            have Bw1 : Below w.heap.size w (w.alloc (.cells #[.int .i64 k, .string t, .string s, .string h, .bool true, .int .i64 p, .string pa] 40)) := ((Below.refl w.heap.size w).alloc (Nat.le_refl _) (.cells #[.int .i64 k, .string t, .string s, .string h, .bool true, .int .i64 p, .string pa] 40))
            generalize hR : w.heap.size = R at xn Bw1 ⊢
            have HR := Lib.hid hR
            clear hR
            generalize w.alloc (.cells #[.int .i64 k, .string t, .string s, .string h, .bool true, .int .i64 p, .string pa] 40) = w1 at xn mw1 tw1 Bw1  ⊢
            have xR_w1 := xn
            clear xn hm ht
            refine (CS.out _ mw1 tw1).mono ?_
            rintro e w2 ⟨rfl, b_⟩
            have mw2 := mw1.below b_
            have tw2 := tw1.below b_
            have Bw2 := Bw1.trans (b_.mono (Nat.le_of_lt xR_w1.lt))
            have xR_w2 := xR_w1.below b_
            clear b_ mw1 tw1 Bw1 xR_w1
            have dR0 := xR_w2.c0
            have dR1 := xR_w2.c1
            have dR2 := xR_w2.c2
            have dR3 := xR_w2.c3
            have dR4 := xR_w2.c4
            have dR5 := xR_w2.c5
            have dR6 := xR_w2.c6
            go_wp2
            go_ret
            exact ⟨ret_bool HF.out, by rw [HR.out]; exact Bw2⟩

          have p1' : -1 ≤ p := by omega
          by_cases p2 : 65535 < p
          · have q1 : decide (-1 ≤ p ∧ p ≤ 65535) = false := decide_eq_false (by omega)
            have p2' : ¬ p ≤ 65535 := by omega
            have HF : Hid (false = placeB (srcM k t s h true p pa)) := Lib.hid (by rw [HM.out]; simp only [Bool.or_true, Bool.true_and]; rw [q1]; simp)
            clear HM HE
            go_enter Tryz.func122, Tryz.ntmps122
            go_wp2_with fail
            have xn := SX.made w k t s h true p pa
            have mw1 := hm.made (.cells #[.int .i64 k, .string t, .string s, .string h, .bool true, .int .i64 p, .string pa] 40)
            have tw1 := ht.made (.cells #[.int .i64 k, .string t, .string s, .string h, .bool true, .int .i64 p, .string pa] 40)
            have Bw1 : Below w.heap.size w (w.alloc (.cells #[.int .i64 k, .string t, .string s, .string h, .bool true, .int .i64 p, .string pa] 40)) := ((Below.refl w.heap.size w).alloc (Nat.le_refl _) (.cells #[.int .i64 k, .string t, .string s, .string h, .bool true, .int .i64 p, .string pa] 40))
            generalize hR : w.heap.size = R at xn Bw1 ⊢
            have HR := Lib.hid hR
            clear hR
            generalize w.alloc (.cells #[.int .i64 k, .string t, .string s, .string h, .bool true, .int .i64 p, .string pa] 40) = w1 at xn mw1 tw1 Bw1  ⊢
            have xR_w1 := xn
            clear xn hm ht
            refine (CS.out _ mw1 tw1).mono ?_
            rintro e w2 ⟨rfl, b_⟩
            have mw2 := mw1.below b_
            have tw2 := tw1.below b_
            have Bw2 := Bw1.trans (b_.mono (Nat.le_of_lt xR_w1.lt))
            have xR_w2 := xR_w1.below b_
            clear b_ mw1 tw1 Bw1 xR_w1
            have dR0 := xR_w2.c0
            have dR1 := xR_w2.c1
            have dR2 := xR_w2.c2
            have dR3 := xR_w2.c3
            have dR4 := xR_w2.c4
            have dR5 := xR_w2.c5
            have dR6 := xR_w2.c6
            go_wp2
            go_ret
            exact ⟨ret_bool HF.out, by rw [HR.out]; exact Bw2⟩

          have p2' : p ≤ 65535 := by omega
          have q1 : decide (-1 ≤ p ∧ p ≤ 65535) = true := decide_eq_true (by omega)
          have HF : Hid (xp = placeB (srcM k t s h true p pa)) := Lib.hid (by rw [HM.out]; simp only [Bool.or_true, Bool.true_and]; rw [q1]; simp)
          clear HM HE
          go_enter Tryz.func122, Tryz.ntmps122
          go_wp2_with fail
          have xn := SX.made w k t s h true p pa
          have mw1 := hm.made (.cells #[.int .i64 k, .string t, .string s, .string h, .bool true, .int .i64 p, .string pa] 40)
          have tw1 := ht.made (.cells #[.int .i64 k, .string t, .string s, .string h, .bool true, .int .i64 p, .string pa] 40)
          have Bw1 : Below w.heap.size w (w.alloc (.cells #[.int .i64 k, .string t, .string s, .string h, .bool true, .int .i64 p, .string pa] 40)) := ((Below.refl w.heap.size w).alloc (Nat.le_refl _) (.cells #[.int .i64 k, .string t, .string s, .string h, .bool true, .int .i64 p, .string pa] 40))
          generalize hR : w.heap.size = R at xn Bw1 ⊢
          have HR := Lib.hid hR
          clear hR
          generalize w.alloc (.cells #[.int .i64 k, .string t, .string s, .string h, .bool true, .int .i64 p, .string pa] 40) = w1 at xn mw1 tw1 Bw1  ⊢
          have xR_w1 := xn
          clear xn hm ht
          refine (CS.out _ mw1 tw1).mono ?_
          rintro e w2 ⟨rfl, b_⟩
          have mw2 := mw1.below b_
          have tw2 := tw1.below b_
          have Bw2 := Bw1.trans (b_.mono (Nat.le_of_lt xR_w1.lt))
          have xR_w2 := xR_w1.below b_
          clear b_ mw1 tw1 Bw1 xR_w1
          have dR0 := xR_w2.c0
          have dR1 := xR_w2.c1
          have dR2 := xR_w2.c2
          have dR3 := xR_w2.c3
          have dR4 := xR_w2.c4
          have dR5 := xR_w2.c5
          have dR6 := xR_w2.c6
          go_wp2_with fail
          clear dR0 dR1 dR2 dR3 dR4 dR5 dR6
          refine (CP.out _ ).mono ?_
          rintro e w3 ⟨rfl, b_⟩
          have mw3 := mw2.below b_
          have tw3 := tw2.below b_
          have Bw3 := Bw2.trans (b_.mono (Nat.le_of_lt xR_w2.lt))
          have xR_w3 := xR_w2.below b_
          clear b_ mw2 tw2 Bw2 xR_w2
          have dR0 := xR_w3.c0
          have dR1 := xR_w3.c1
          have dR2 := xR_w3.c2
          have dR3 := xR_w3.c3
          have dR4 := xR_w3.c4
          have dR5 := xR_w3.c5
          have dR6 := xR_w3.c6
          go_wp2
          go_ret
          exact ⟨ret_bool HF.out, by rw [HR.out]; exact Bw3⟩

  · rw [gs] at HM
    cases gh : h.toList.isEmpty
    · rw [gh] at HM HE
      cases xh
      · show _
        have HF : Hid (false = placeB (srcM k t s h b p pa)) := Lib.hid (by rw [HM.out]; simp only [Bool.true_or, Bool.true_and]; simp)
        clear HM HE
        go_enter Tryz.func122, Tryz.ntmps122
        go_wp2_with fail
        have xn := SX.made w k t s h b p pa
        have mw1 := hm.made (.cells #[.int .i64 k, .string t, .string s, .string h, .bool b, .int .i64 p, .string pa] 40)
        have tw1 := ht.made (.cells #[.int .i64 k, .string t, .string s, .string h, .bool b, .int .i64 p, .string pa] 40)
        have Bw1 : Below w.heap.size w (w.alloc (.cells #[.int .i64 k, .string t, .string s, .string h, .bool b, .int .i64 p, .string pa] 40)) := ((Below.refl w.heap.size w).alloc (Nat.le_refl _) (.cells #[.int .i64 k, .string t, .string s, .string h, .bool b, .int .i64 p, .string pa] 40))
        generalize hR : w.heap.size = R at xn Bw1 ⊢
        have HR := Lib.hid hR
        clear hR
        generalize w.alloc (.cells #[.int .i64 k, .string t, .string s, .string h, .bool b, .int .i64 p, .string pa] 40) = w1 at xn mw1 tw1 Bw1  ⊢
        have xR_w1 := xn
        clear xn hm ht
        refine (CH.out _ mw1 tw1).mono ?_
        rintro e w2 ⟨rfl, b_⟩
        have mw2 := mw1.below b_
        have tw2 := tw1.below b_
        have Bw2 := Bw1.trans (b_.mono (Nat.le_of_lt xR_w1.lt))
        have xR_w2 := xR_w1.below b_
        clear b_ mw1 tw1 Bw1 xR_w1
        have dR0 := xR_w2.c0
        have dR1 := xR_w2.c1
        have dR2 := xR_w2.c2
        have dR3 := xR_w2.c3
        have dR4 := xR_w2.c4
        have dR5 := xR_w2.c5
        have dR6 := xR_w2.c6
        go_wp2
        go_ret
        exact ⟨ret_bool HF.out, by rw [HR.out]; exact Bw2⟩

      · show _
        by_cases p1 : p < -1
        · have q1 : decide (-1 ≤ p ∧ p ≤ 65535) = false := decide_eq_false (by omega)
          have HF : Hid (false = placeB (srcM k t s h b p pa)) := Lib.hid (by rw [HM.out]; simp only [Bool.true_or, Bool.true_and]; rw [q1]; simp)
          clear HM HE
          go_enter Tryz.func122, Tryz.ntmps122
          go_wp2_with fail
          have xn := SX.made w k t s h b p pa
          have mw1 := hm.made (.cells #[.int .i64 k, .string t, .string s, .string h, .bool b, .int .i64 p, .string pa] 40)
          have tw1 := ht.made (.cells #[.int .i64 k, .string t, .string s, .string h, .bool b, .int .i64 p, .string pa] 40)
          have Bw1 : Below w.heap.size w (w.alloc (.cells #[.int .i64 k, .string t, .string s, .string h, .bool b, .int .i64 p, .string pa] 40)) := ((Below.refl w.heap.size w).alloc (Nat.le_refl _) (.cells #[.int .i64 k, .string t, .string s, .string h, .bool b, .int .i64 p, .string pa] 40))
          generalize hR : w.heap.size = R at xn Bw1 ⊢
          have HR := Lib.hid hR
          clear hR
          generalize w.alloc (.cells #[.int .i64 k, .string t, .string s, .string h, .bool b, .int .i64 p, .string pa] 40) = w1 at xn mw1 tw1 Bw1  ⊢
          have xR_w1 := xn
          clear xn hm ht
          refine (CH.out _ mw1 tw1).mono ?_
          rintro e w2 ⟨rfl, b_⟩
          have mw2 := mw1.below b_
          have tw2 := tw1.below b_
          have Bw2 := Bw1.trans (b_.mono (Nat.le_of_lt xR_w1.lt))
          have xR_w2 := xR_w1.below b_
          clear b_ mw1 tw1 Bw1 xR_w1
          have dR0 := xR_w2.c0
          have dR1 := xR_w2.c1
          have dR2 := xR_w2.c2
          have dR3 := xR_w2.c3
          have dR4 := xR_w2.c4
          have dR5 := xR_w2.c5
          have dR6 := xR_w2.c6
          go_wp2
          go_ret
          exact ⟨ret_bool HF.out, by rw [HR.out]; exact Bw2⟩

        have p1' : -1 ≤ p := by omega
        by_cases p2 : 65535 < p
        · have q1 : decide (-1 ≤ p ∧ p ≤ 65535) = false := decide_eq_false (by omega)
          have p2' : ¬ p ≤ 65535 := by omega
          have HF : Hid (false = placeB (srcM k t s h b p pa)) := Lib.hid (by rw [HM.out]; simp only [Bool.true_or, Bool.true_and]; rw [q1]; simp)
          clear HM HE
          go_enter Tryz.func122, Tryz.ntmps122
          go_wp2_with fail
          have xn := SX.made w k t s h b p pa
          have mw1 := hm.made (.cells #[.int .i64 k, .string t, .string s, .string h, .bool b, .int .i64 p, .string pa] 40)
          have tw1 := ht.made (.cells #[.int .i64 k, .string t, .string s, .string h, .bool b, .int .i64 p, .string pa] 40)
          have Bw1 : Below w.heap.size w (w.alloc (.cells #[.int .i64 k, .string t, .string s, .string h, .bool b, .int .i64 p, .string pa] 40)) := ((Below.refl w.heap.size w).alloc (Nat.le_refl _) (.cells #[.int .i64 k, .string t, .string s, .string h, .bool b, .int .i64 p, .string pa] 40))
          generalize hR : w.heap.size = R at xn Bw1 ⊢
          have HR := Lib.hid hR
          clear hR
          generalize w.alloc (.cells #[.int .i64 k, .string t, .string s, .string h, .bool b, .int .i64 p, .string pa] 40) = w1 at xn mw1 tw1 Bw1  ⊢
          have xR_w1 := xn
          clear xn hm ht
          refine (CH.out _ mw1 tw1).mono ?_
          rintro e w2 ⟨rfl, b_⟩
          have mw2 := mw1.below b_
          have tw2 := tw1.below b_
          have Bw2 := Bw1.trans (b_.mono (Nat.le_of_lt xR_w1.lt))
          have xR_w2 := xR_w1.below b_
          clear b_ mw1 tw1 Bw1 xR_w1
          have dR0 := xR_w2.c0
          have dR1 := xR_w2.c1
          have dR2 := xR_w2.c2
          have dR3 := xR_w2.c3
          have dR4 := xR_w2.c4
          have dR5 := xR_w2.c5
          have dR6 := xR_w2.c6
          go_wp2
          go_ret
          exact ⟨ret_bool HF.out, by rw [HR.out]; exact Bw2⟩

        have p2' : p ≤ 65535 := by omega
        have q1 : decide (-1 ≤ p ∧ p ≤ 65535) = true := decide_eq_true (by omega)
        have HF : Hid (xp = placeB (srcM k t s h b p pa)) := Lib.hid (by rw [HM.out]; simp only [Bool.true_or, Bool.true_and]; rw [q1]; simp)
        clear HM HE
        go_enter Tryz.func122, Tryz.ntmps122
        go_wp2_with fail
        have xn := SX.made w k t s h b p pa
        have mw1 := hm.made (.cells #[.int .i64 k, .string t, .string s, .string h, .bool b, .int .i64 p, .string pa] 40)
        have tw1 := ht.made (.cells #[.int .i64 k, .string t, .string s, .string h, .bool b, .int .i64 p, .string pa] 40)
        have Bw1 : Below w.heap.size w (w.alloc (.cells #[.int .i64 k, .string t, .string s, .string h, .bool b, .int .i64 p, .string pa] 40)) := ((Below.refl w.heap.size w).alloc (Nat.le_refl _) (.cells #[.int .i64 k, .string t, .string s, .string h, .bool b, .int .i64 p, .string pa] 40))
        generalize hR : w.heap.size = R at xn Bw1 ⊢
        have HR := Lib.hid hR
        clear hR
        generalize w.alloc (.cells #[.int .i64 k, .string t, .string s, .string h, .bool b, .int .i64 p, .string pa] 40) = w1 at xn mw1 tw1 Bw1  ⊢
        have xR_w1 := xn
        clear xn hm ht
        refine (CH.out _ mw1 tw1).mono ?_
        rintro e w2 ⟨rfl, b_⟩
        have mw2 := mw1.below b_
        have tw2 := tw1.below b_
        have Bw2 := Bw1.trans (b_.mono (Nat.le_of_lt xR_w1.lt))
        have xR_w2 := xR_w1.below b_
        clear b_ mw1 tw1 Bw1 xR_w1
        have dR0 := xR_w2.c0
        have dR1 := xR_w2.c1
        have dR2 := xR_w2.c2
        have dR3 := xR_w2.c3
        have dR4 := xR_w2.c4
        have dR5 := xR_w2.c5
        have dR6 := xR_w2.c6
        go_wp2_with fail
        clear dR0 dR1 dR2 dR3 dR4 dR5 dR6
        refine (CP.out _ ).mono ?_
        rintro e w3 ⟨rfl, b_⟩
        have mw3 := mw2.below b_
        have tw3 := tw2.below b_
        have Bw3 := Bw2.trans (b_.mono (Nat.le_of_lt xR_w2.lt))
        have xR_w3 := xR_w2.below b_
        clear b_ mw2 tw2 Bw2 xR_w2
        have dR0 := xR_w3.c0
        have dR1 := xR_w3.c1
        have dR2 := xR_w3.c2
        have dR3 := xR_w3.c3
        have dR4 := xR_w3.c4
        have dR5 := xR_w3.c5
        have dR6 := xR_w3.c6
        go_wp2
        go_ret
        exact ⟨ret_bool HF.out, by rw [HR.out]; exact Bw3⟩

    · rw [gh] at HM HE
      obtain rfl := HE.out rfl
      cases b
      · show _
        have HF : Hid (false = placeB (srcM k t s h false p pa)) := Lib.hid (by rw [HM.out]; simp only [Bool.true_or, Bool.true_and]; simp)
        clear HM HE
        go_enter Tryz.func122, Tryz.ntmps122
        go_wp2_with fail
        have xn := SX.made w k t s h false p pa
        have mw1 := hm.made (.cells #[.int .i64 k, .string t, .string s, .string h, .bool false, .int .i64 p, .string pa] 40)
        have tw1 := ht.made (.cells #[.int .i64 k, .string t, .string s, .string h, .bool false, .int .i64 p, .string pa] 40)
        have Bw1 : Below w.heap.size w (w.alloc (.cells #[.int .i64 k, .string t, .string s, .string h, .bool false, .int .i64 p, .string pa] 40)) := ((Below.refl w.heap.size w).alloc (Nat.le_refl _) (.cells #[.int .i64 k, .string t, .string s, .string h, .bool false, .int .i64 p, .string pa] 40))
        generalize hR : w.heap.size = R at xn Bw1 ⊢
        have HR := Lib.hid hR
        clear hR
        generalize w.alloc (.cells #[.int .i64 k, .string t, .string s, .string h, .bool false, .int .i64 p, .string pa] 40) = w1 at xn mw1 tw1 Bw1  ⊢
        have xR_w1 := xn
        clear xn hm ht
        refine (CH.out _ mw1 tw1).mono ?_
        rintro e w2 ⟨rfl, b_⟩
        have mw2 := mw1.below b_
        have tw2 := tw1.below b_
        have Bw2 := Bw1.trans (b_.mono (Nat.le_of_lt xR_w1.lt))
        have xR_w2 := xR_w1.below b_
        clear b_ mw1 tw1 Bw1 xR_w1
        have dR0 := xR_w2.c0
        have dR1 := xR_w2.c1
        have dR2 := xR_w2.c2
        have dR3 := xR_w2.c3
        have dR4 := xR_w2.c4
        have dR5 := xR_w2.c5
        have dR6 := xR_w2.c6
        go_wp2
        go_ret
        exact ⟨ret_bool HF.out, by rw [HR.out]; exact Bw2⟩

      · show _
        by_cases p1 : p < -1
        · have q1 : decide (-1 ≤ p ∧ p ≤ 65535) = false := decide_eq_false (by omega)
          have HF : Hid (false = placeB (srcM k t s h true p pa)) := Lib.hid (by rw [HM.out]; simp only [Bool.true_or, Bool.true_and]; rw [q1]; simp)
          clear HM HE
          go_enter Tryz.func122, Tryz.ntmps122
          go_wp2
          go_ret
          exact ⟨ret_bool HF.out, (Below.refl _ _).alloc (Nat.le_refl _) _⟩

        have p1' : -1 ≤ p := by omega
        by_cases p2 : 65535 < p
        · have q1 : decide (-1 ≤ p ∧ p ≤ 65535) = false := decide_eq_false (by omega)
          have p2' : ¬ p ≤ 65535 := by omega
          have HF : Hid (false = placeB (srcM k t s h true p pa)) := Lib.hid (by rw [HM.out]; simp only [Bool.true_or, Bool.true_and]; rw [q1]; simp)
          clear HM HE
          go_enter Tryz.func122, Tryz.ntmps122
          go_wp2
          go_ret
          exact ⟨ret_bool HF.out, (Below.refl _ _).alloc (Nat.le_refl _) _⟩

        have p2' : p ≤ 65535 := by omega
        have q1 : decide (-1 ≤ p ∧ p ≤ 65535) = true := decide_eq_true (by omega)
        have HF : Hid (xp = placeB (srcM k t s h true p pa)) := Lib.hid (by rw [HM.out]; simp only [Bool.true_or, Bool.true_and]; rw [q1]; simp)
        clear HM HE
        go_enter Tryz.func122, Tryz.ntmps122
        go_wp2_with fail
        have xn := SX.made w k t s h true p pa
        have mw1 := hm.made (.cells #[.int .i64 k, .string t, .string s, .string h, .bool true, .int .i64 p, .string pa] 40)
        have tw1 := ht.made (.cells #[.int .i64 k, .string t, .string s, .string h, .bool true, .int .i64 p, .string pa] 40)
        have Bw1 : Below w.heap.size w (w.alloc (.cells #[.int .i64 k, .string t, .string s, .string h, .bool true, .int .i64 p, .string pa] 40)) := ((Below.refl w.heap.size w).alloc (Nat.le_refl _) (.cells #[.int .i64 k, .string t, .string s, .string h, .bool true, .int .i64 p, .string pa] 40))
        generalize hR : w.heap.size = R at xn Bw1 ⊢
        have HR := Lib.hid hR
        clear hR
        generalize w.alloc (.cells #[.int .i64 k, .string t, .string s, .string h, .bool true, .int .i64 p, .string pa] 40) = w1 at xn mw1 tw1 Bw1  ⊢
        have xR_w1 := xn
        clear xn hm ht
        refine (CP.out _ ).mono ?_
        rintro e w2 ⟨rfl, b_⟩
        have mw2 := mw1.below b_
        have tw2 := tw1.below b_
        have Bw2 := Bw1.trans (b_.mono (Nat.le_of_lt xR_w1.lt))
        have xR_w2 := xR_w1.below b_
        clear b_ mw1 tw1 Bw1 xR_w1
        have dR0 := xR_w2.c0
        have dR1 := xR_w2.c1
        have dR2 := xR_w2.c2
        have dR3 := xR_w2.c3
        have dR4 := xR_w2.c4
        have dR5 := xR_w2.c5
        have dR6 := xR_w2.c6
        go_wp2
        go_ret
        exact ⟨ret_bool HF.out, by rw [HR.out]; exact Bw2⟩

theorem placeP_hid (k : Int) (t s h : ByteArray) (b : Bool) (p : Int) (pa : ByteArray) (hs : s.size ≤ 100000) (hh : h.size ≤ 100000) (hpa : pa.size ≤ 100000) (r : Bool) (hr : placeB (srcM k t s h b p pa) = r) : Hid (∀ W, MaxIn W → TabIn W → Calls Tryz.prog 122 #[srcV k t s h b p pa] W fun e w' => e = .returned (.bool r) ∧ Below W.heap.size W w') := Lib.hid fun W hm ht => by rw [← hr]; exact placeP_any k t s h b p pa hs hh hpa W hm ht

end Go.Proofs.YtaldjkbnngeahaaGreatDoor
