/- Where an address comes from: the program's port, Of, Secure, Same. -/
import Derived.Test.YtlkpdepdflcbcaaDoorWalkK
import Derived.Test.YtlkpdepdflcbcaaDoorPureO
namespace Go.Proofs.YtlkpdepdflcbcaaDoor
open Go.RowKit

/-- An origin as a value, and as the mathematics have it. -/
def oV (o : Bool) (s h : ByteArray) (p : Int) : Value := .agg #[.bool o, .string s, .string h, .int .i64 p]
def oM (o : Bool) (s h : ByteArray) (p : Int) : O := ⟨o, s.data.toList, h.data.toList, p⟩
def OX (w : World) (R : Nat) (o : Bool) (s h : ByteArray) (p : Int) : Prop := w.heap[R]? = some (.cells #[.bool o, .string s, .string h, .int .i64 p] 23 (0, 0))
theorem OX.lt {w : World} {R : Nat} {s h : ByteArray} {o : Bool} {p : Int} (a : OX w R o s h p) : R < w.heap.size := lt_of_block a
theorem OX.below {w w' : World} {R : Nat} {s h : ByteArray} {o : Bool} {p : Int} (a : OX w R o s h p) (hb : Below w.heap.size w w') : OX w' R o s h p := by
  unfold OX at *
  rw [hb.block R (lt_of_block a)]; exact a
theorem OX.made (w : World) (o : Bool) (s h : ByteArray) (p : Int) : OX (w.alloc (.cells #[.bool o, .string s, .string h, .int .i64 p] 23)) w.heap.size o s h p := new_block w _
theorem OX.c0 {w : World} {R : Nat} {s h : ByteArray} {o : Bool} {p : Int} (a : OX w R o s h p) : w.cell? ⟨R, 0, none⟩ = some (.bool o) := by rw [cell_of a]; rfl
theorem OX.c1 {w : World} {R : Nat} {s h : ByteArray} {o : Bool} {p : Int} (a : OX w R o s h p) : w.cell? ⟨R, 1, none⟩ = some (.string s) := by rw [cell_of a]; rfl
theorem OX.c2 {w : World} {R : Nat} {s h : ByteArray} {o : Bool} {p : Int} (a : OX w R o s h p) : w.cell? ⟨R, 2, none⟩ = some (.string h) := by rw [cell_of a]; rfl
theorem OX.c3 {w : World} {R : Nat} {s h : ByteArray} {o : Bool} {p : Int} (a : OX w R o s h p) : w.cell? ⟨R, 3, none⟩ = some (.int .i64 p) := by rw [cell_of a]; rfl

set_option maxRecDepth 100000 in
set_option maxHeartbeats 1000000 in
theorem port_any (o : Bool) (s h : ByteArray) (p : Int) (pa q : ByteArray) (w : World) : Calls Tryd.prog 24 #[uV o s h p pa q] w fun e w' => e = .returned (.int .i64 (portU (uM o s h p pa q))) ∧ Below w.heap.size w w' := by
  obtain ⟨d, hd⟩ : ∃ d, dfl s.data.toList = d := ⟨_, rfl⟩
  have CD := default_hid s d hd
  have HP : Hid (portU (uM o s h p pa q) = if p = 0 then (d : Int) else p) := Lib.hid (by rw [← hd]; rfl)
  clear hd
  unfold uV
  by_cases h0 : p = 0
  · subst h0
    have HF : Hid ((d : Int) = portU (uM o s h 0 pa q)) := Lib.hid (by rw [HP.out]; rfl)
    go_enter Tryd.func24, Tryd.ntmps24
    go_wp2_with fail
    refine (CD.out _).mono ?_
    rintro e w1 ⟨rfl, rfl⟩
    go_wp2
    go_ret
    exact ⟨ret_int HF.out, (Below.refl _ _).alloc (Nat.le_refl _) _⟩
  · have g : (p == 0) = false := by rw [beq_eq_false_iff_ne]; exact h0
    have HF : Hid (p = portU (uM o s h p pa q)) := Lib.hid (by rw [HP.out, if_neg h0])
    clear h0
    go_enter Tryd.func24, Tryd.ntmps24
    go_wp2
    go_ret
    exact ⟨ret_int HF.out, (Below.refl _ _).alloc (Nat.le_refl _) _⟩
theorem portHid (o : Bool) (s h : ByteArray) (p : Int) (pa q : ByteArray) (P : Int) (hP : portU (uM o s h p pa q) = P) : Hid (∀ W, Calls Tryd.prog 24 #[uV o s h p pa q] W fun e w' => e = .returned (.int .i64 P) ∧ Below W.heap.size W w') :=
  Lib.hid fun W => by rw [← hP]; exact port_any o s h p pa q W

set_option maxRecDepth 100000 in
set_option maxHeartbeats 2000000 in
theorem secure_any (o : Bool) (s h : ByteArray) (p : Int) (pa q : ByteArray) (hs : s.size ≤ 100000) (hh : h.size ≤ 100000) (hpa : pa.size ≤ 100000) (hq : q.size ≤ 100000) (w : World) (hmx : MaxIn w) (ht : TabIn w) : Calls Tryd.prog 15 #[uV o s h p pa q] w fun e w' => e = .returned (.bool (secM (uM o s h p pa q))) ∧ Below w.heap.size w w' := by
  have g1 : (s.toList == [104, 116, 116, 112, 115]) = decide (s.data.toList = HTTPS) := text_lit _ _
  have g2 : (s.toList == [119, 115, 115]) = decide (s.data.toList = WSS) := text_lit _ _
  have HS : Hid (secM (uM o s h p pa q) = (rightM (uM o s h p pa q) && (decide (s.data.toList = HTTPS) || decide (s.data.toList = WSS)))) := Lib.hid (by unfold secM; rw [Bool.decide_or]; rfl)
  generalize decide (s.data.toList = HTTPS) = b1 at g1 HS
  generalize decide (s.data.toList = WSS) = b2 at g2 HS
  cases hr : rightM (uM o s h p pa q)
  · have CC := check_hid o s h p pa q 50 (chk_wrong hr) hs hh hpa hq
    have HF : Hid (false = secM (uM o s h p pa q)) := Lib.hid (by rw [HS.out, hr]; rfl)
    clear hr HS
    unfold uV at *
    go_enter Tryd.func15, Tryd.ntmps15
    go_wp2_with fail
    have x1 := BX.made w o s h p pa q
    have m1 := hmx.made (.cells #[.bool o, .string s, .string h, .int .i64 p, .string pa, .string q] 28)
    have t1 := ht.made (.cells #[.bool o, .string s, .string h, .int .i64 p, .string pa, .string q] 28)
    have B1 : Below w.heap.size w (w.alloc (.cells #[.bool o, .string s, .string h, .int .i64 p, .string pa, .string q] 28)) := (Below.refl _ _).alloc (Nat.le_refl _) _
    generalize hR : w.heap.size = R at x1 B1 ⊢
    have HR := Lib.hid hR
    clear hR
    generalize w.alloc (.cells #[.bool o, .string s, .string h, .int .i64 p, .string pa, .string q] 28) = w1 at x1 B1 m1 t1 ⊢
    refine (CC.out _ m1 t1).mono ?_
    rintro e w2 ⟨rfl, b2⟩
    have B2 := B1.trans (b2.mono (Nat.le_of_lt x1.lt))
    clear b2 x1 m1 t1 B1
    go_wp2
    go_ret
    exact ⟨ret_bool HF.out, by rw [HR.out]; exact B2⟩
  · have CC := check_hid o s h p pa q 0 (chk_right hr) hs hh hpa hq
    have HF : Hid ((b1 || b2) = secM (uM o s h p pa q)) := Lib.hid (by rw [HS.out, hr]; rfl)
    clear hr HS
    unfold uV at *
    cases b1 <;> cases b2
    all_goals
      go_enter Tryd.func15, Tryd.ntmps15
      go_wp2_with fail
      have x1 := BX.made w o s h p pa q
      have m1 := hmx.made (.cells #[.bool o, .string s, .string h, .int .i64 p, .string pa, .string q] 28)
      have t1 := ht.made (.cells #[.bool o, .string s, .string h, .int .i64 p, .string pa, .string q] 28)
      have B1 : Below w.heap.size w (w.alloc (.cells #[.bool o, .string s, .string h, .int .i64 p, .string pa, .string q] 28)) := (Below.refl _ _).alloc (Nat.le_refl _) _
      generalize hR : w.heap.size = R at x1 B1 ⊢
      have HR := Lib.hid hR
      clear hR
      generalize w.alloc (.cells #[.bool o, .string s, .string h, .int .i64 p, .string pa, .string q] 28) = w1 at x1 B1 m1 t1 ⊢
      refine (CC.out _ m1 t1).mono ?_
      rintro e w2 ⟨rfl, b2⟩
      have x2 := x1.below b2
      have B2 := B1.trans (b2.mono (Nat.le_of_lt x1.lt))
      have c1 := x2.c1
      clear b2 x1 m1 t1 B1
      go_wp2
      go_ret
      exact ⟨ret_bool HF.out, by rw [HR.out]; exact B2⟩
theorem secure_hid (o : Bool) (s h : ByteArray) (p : Int) (pa q : ByteArray) (b : Bool) (hb : secM (uM o s h p pa q) = b) (hs : s.size ≤ 100000) (hh : h.size ≤ 100000) (hpa : pa.size ≤ 100000) (hq : q.size ≤ 100000) : Hid (∀ W, MaxIn W → TabIn W → Calls Tryd.prog 15 #[uV o s h p pa q] W fun e w' => e = .returned (.bool b) ∧ Below W.heap.size W w') :=
  Lib.hid fun W hm ht => by rw [← hb]; exact secure_any o s h p pa q hs hh hpa hq W hm ht

theorem text_two (s t : ByteArray) : (s.toList == t.toList) = decide (s.data.toList = t.data.toList) := by
  rw [text_lit, ByteArray.toList_eq]
set_option maxRecDepth 100000 in
set_option maxHeartbeats 2000000 in
theorem same_any (o : Bool) (s h : ByteArray) (p : Int) (o2 : Bool) (s2 h2 : ByteArray) (p2 : Int) (w : World) : Calls Tryd.prog 8 #[oV o s h p, oV o2 s2 h2 p2] w fun e w' => e = .returned (.bool (sameM (oM o s h p) (oM o2 s2 h2 p2))) ∧ Below w.heap.size w w' := by
  have g1 : (s.toList == s2.toList) = decide (s.data.toList = s2.data.toList) := text_two _ _
  have g2 : (h.toList == h2.toList) = decide (h.data.toList = h2.data.toList) := text_two _ _
  have g3 : (p == p2) = decide (p = p2) := by rw [Bool.eq_iff_iff]; simp
  have HS : Hid (sameM (oM o s h p) (oM o2 s2 h2 p2) = (!o && (o == o2 && decide (s.data.toList = s2.data.toList) && decide (h.data.toList = h2.data.toList) && decide (p = p2)))) := Lib.hid (by
    unfold sameM oM
    rw [Bool.eq_iff_iff]
    simp [and_assoc])
  generalize decide (s.data.toList = s2.data.toList) = b1 at g1 HS
  generalize decide (h.data.toList = h2.data.toList) = b2 at g2 HS
  generalize decide (p = p2) = b3 at g3 HS
  unfold oV
  cases b1 <;> cases b2 <;> cases b3 <;> cases o <;> cases o2
  all_goals
    have HF := Lib.hid (HS.out.symm)
    clear HS
    go_enter Tryd.func8, Tryd.ntmps8
    go_wp2
    go_ret
    exact ⟨ret_bool HF.out, ((Below.refl _ _).alloc (Nat.le_refl _) _).alloc (Below.size ((Below.refl w.heap.size w).alloc (Nat.le_refl _) _)) _⟩

end Go.Proofs.YtlkpdepdflcbcaaDoor
