/- Where an address comes from: the program's port, Of, Secure, Same. Where an address comes from: the program's Of. -/
import Derived.Test.YthnogdodlhkldaaGreatDoorWalkZ
import Derived.Test.YthnogdodlhkldaaGreatDoorPureA
namespace Go.Proofs.YthnogdodlhkldaaGreatDoor
open Go.RowKit

/-- An origin as a value, and as the mathematics have it. -/
def oV (o : Bool) (s h : ByteArray) (p : Int) : Value := .agg #[.bool o, .string s, .string h, .int .i64 p]
def oM (o : Bool) (s h : ByteArray) (p : Int) : O := ⟨o, s.data.toList, h.data.toList, p⟩
def OX (w : World) (R : Nat) (o : Bool) (s h : ByteArray) (p : Int) : Prop := w.heap[R]? = some (.cells #[.bool o, .string s, .string h, .int .i64 p] 198 (0, 0))
theorem OX.lt {w : World} {R : Nat} {s h : ByteArray} {o : Bool} {p : Int} (a : OX w R o s h p) : R < w.heap.size := lt_of_block a
theorem OX.below {w w' : World} {R : Nat} {s h : ByteArray} {o : Bool} {p : Int} (a : OX w R o s h p) (hb : Below w.heap.size w w') : OX w' R o s h p := by
  unfold OX at *
  rw [hb.block R (lt_of_block a)]; exact a
theorem OX.made (w : World) (o : Bool) (s h : ByteArray) (p : Int) : OX (w.alloc (.cells #[.bool o, .string s, .string h, .int .i64 p] 198)) w.heap.size o s h p := new_block w _
theorem OX.c0 {w : World} {R : Nat} {s h : ByteArray} {o : Bool} {p : Int} (a : OX w R o s h p) : w.cell? ⟨R, 0, none⟩ = some (.bool o) := by rw [cell_of a]; rfl
theorem OX.c1 {w : World} {R : Nat} {s h : ByteArray} {o : Bool} {p : Int} (a : OX w R o s h p) : w.cell? ⟨R, 1, none⟩ = some (.string s) := by rw [cell_of a]; rfl
theorem OX.c2 {w : World} {R : Nat} {s h : ByteArray} {o : Bool} {p : Int} (a : OX w R o s h p) : w.cell? ⟨R, 2, none⟩ = some (.string h) := by rw [cell_of a]; rfl
theorem OX.c3 {w : World} {R : Nat} {s h : ByteArray} {o : Bool} {p : Int} (a : OX w R o s h p) : w.cell? ⟨R, 3, none⟩ = some (.int .i64 p) := by rw [cell_of a]; rfl

set_option maxRecDepth 100000 in
set_option maxHeartbeats 1000000 in
theorem port_any (o : Bool) (s h : ByteArray) (p : Int) (pa q : ByteArray) (w : World) : Calls Tryz.prog 240 #[uV o s h p pa q] w fun e w' => e = .returned (.int .i64 (portU (uM o s h p pa q))) ∧ Below w.heap.size w w' := by
  obtain ⟨d, hd⟩ : ∃ d, dfl s.data.toList = d := ⟨_, rfl⟩
  have CD := default_hid s d hd
  have HP : Hid (portU (uM o s h p pa q) = if p = 0 then (d : Int) else p) := Lib.hid (by rw [← hd]; rfl)
  clear hd
  unfold uV
  by_cases h0 : p = 0
  · subst h0
    have HF : Hid ((d : Int) = portU (uM o s h 0 pa q)) := Lib.hid (by rw [HP.out]; rfl)
    go_enter Tryz.func240, Tryz.ntmps240
    go_wp2_with fail
    refine (CD.out _).mono ?_
    rintro e w1 ⟨rfl, rfl⟩
    go_wp2
    go_ret
    exact ⟨ret_int HF.out, (Below.refl _ _).alloc (Nat.le_refl _) _⟩
  · have g : (p == 0) = false := by rw [beq_eq_false_iff_ne]; exact h0
    have HF : Hid (p = portU (uM o s h p pa q)) := Lib.hid (by rw [HP.out, if_neg h0])
    clear h0
    go_enter Tryz.func240, Tryz.ntmps240
    go_wp2
    go_ret
    exact ⟨ret_int HF.out, (Below.refl _ _).alloc (Nat.le_refl _) _⟩
theorem portHid (o : Bool) (s h : ByteArray) (p : Int) (pa q : ByteArray) (P : Int) (hP : portU (uM o s h p pa q) = P) : Hid (∀ W, Calls Tryz.prog 240 #[uV o s h p pa q] W fun e w' => e = .returned (.int .i64 P) ∧ Below W.heap.size W w') :=
  Lib.hid fun W => by rw [← hP]; exact port_any o s h p pa q W

theorem text_two (s t : ByteArray) : (s.toList == t.toList) = decide (s.data.toList = t.data.toList) := by
  rw [text_lit, ByteArray.toList_eq]
set_option maxRecDepth 100000 in
set_option maxHeartbeats 2000000 in
theorem same_any (o : Bool) (s h : ByteArray) (p : Int) (o2 : Bool) (s2 h2 : ByteArray) (p2 : Int) (w : World) : Calls Tryz.prog 199 #[oV o s h p, oV o2 s2 h2 p2] w fun e w' => e = .returned (.bool (sameM (oM o s h p) (oM o2 s2 h2 p2))) ∧ Below w.heap.size w w' := by
  have g1 : (s.toList == s2.toList) = decide (s.data.toList = s2.data.toList) := text_two _ _
  have g2 : (h.toList == h2.toList) = decide (h.data.toList = h2.data.toList) := text_two _ _
  have g3 : (p == p2) = decide (p = p2) := by rw [Bool.eq_iff_iff]; simp
  have HS : Hid (sameM (oM o s h p) (oM o2 s2 h2 p2) = (!o && (o == o2 && decide (s.data.toList = s2.data.toList) && decide (h.data.toList = h2.data.toList) && decide (p = p2)))) := Lib.hid (by
    unfold sameM oM
    rw [Bool.eq_iff_iff]
    simp [and_assoc])
  generalize decide (s.data.toList = s2.data.toList) = b1 at g1 HS
  generalize decide (h.data.toList = h2.data.toList) = b2 at g2 HS
  generalize decide (p = p2) = b3 at g3 HS
  unfold oV
  cases b1 <;> cases b2 <;> cases b3 <;> cases o <;> cases o2
  all_goals
    have HF := Lib.hid (HS.out.symm)
    clear HS
    go_enter Tryz.func199, Tryz.ntmps199
    go_wp2
    go_ret
    exact ⟨ret_bool HF.out, ((Below.refl _ _).alloc (Nat.le_refl _) _).alloc (Below.size ((Below.refl w.heap.size w).alloc (Nat.le_refl _) _)) _⟩

end Go.Proofs.YthnogdodlhkldaaGreatDoor

namespace Go.Proofs.YthnogdodlhkldaaGreatDoor
open Go.RowKit

theorem size_alloc (w : World) (x : Obj) : (w.alloc x).heap.size = w.heap.size + 1 := by show (w.heap.push x).size = _; simp
theorem OX.store {w : World} {R : Nat} {s h : ByteArray} {o : Bool} {p : Int} (a : OX w R o s h p) (o2 : Bool) (s2 h2 : ByteArray) (p2 : Int) : OX ((((w.setCell ⟨R, 0, none⟩ (.bool o2)).setCell ⟨R, 1, none⟩ (.string s2)).setCell ⟨R, 2, none⟩ (.string h2)).setCell ⟨R, 3, none⟩ (.int .i64 p2)) R o2 s2 h2 p2 := by
  unfold OX at *
  rw [heap_setCell_same _ R 3 _ _ _ _ (heap_setCell_same _ R 2 _ _ _ _ (heap_setCell_same _ R 1 _ _ _ _ (heap_setCell_same _ R 0 _ _ _ _ a)))]
  rfl
theorem stO_below {w0 w : World} {R R0 : Nat} (hR : R0 ≤ R) (hb : Below R0 w0 w) (o2 : Bool) (s2 h2 : ByteArray) (p2 : Int) : Below R0 w0 ((((w.setCell ⟨R, 0, none⟩ (.bool o2)).setCell ⟨R, 1, none⟩ (.string s2)).setCell ⟨R, 2, none⟩ (.string h2)).setCell ⟨R, 3, none⟩ (.int .i64 p2)) :=
  (((hb.setCell hR _).setCell hR _).setCell hR _).setCell hR _

set_option maxRecDepth 100000 in
set_option maxHeartbeats 4000000 in
theorem of_opaque (s h : ByteArray) (p : Int) (pa q : ByteArray) (w : World) : Calls Tryz.prog 200 #[uV true s h p pa q] w fun e w' => e = .returned (oV true ⟨#[]⟩ ⟨#[]⟩ 0) ∧ Below w.heap.size w w' := by
  unfold uV oV
  go_enter Tryz.func200, Tryz.ntmps200
  go_wp2
  have xz := OX.made (w.alloc (.cells #[.bool true, .string s, .string h, .int .i64 p, .string pa, .string q] 40)) true ⟨#[]⟩ ⟨#[]⟩ 0
  rw [size_alloc] at xz
  have bz : Below w.heap.size w ((w.alloc (.cells #[.bool true, .string s, .string h, .int .i64 p, .string pa, .string q] 40)).alloc (.cells #[.bool true, .string ⟨#[]⟩, .string ⟨#[]⟩, .int .i64 0] 198)) := ((Below.refl _ _).alloc (Nat.le_refl _) _).alloc (Below.size ((Below.refl w.heap.size w).alloc (Nat.le_refl _) _)) _
  generalize (w.alloc (.cells #[.bool true, .string s, .string h, .int .i64 p, .string pa, .string q] 40)).alloc (.cells #[.bool true, .string ⟨#[]⟩, .string ⟨#[]⟩, .int .i64 0] 198) = wz at xz bz ⊢
  have c0 := xz.c0
  have c1 := xz.c1
  have c2 := xz.c2
  have c3 := xz.c3
  exact bodyPost_ret (v := .agg #[.bool true, .string ⟨#[]⟩, .string ⟨#[]⟩, .int .i64 0]) (by simp [results, Tryz.results200, go_sem, c0, c1, c2, c3]) rfl ⟨rfl, bz⟩

set_option maxRecDepth 100000 in
set_option maxHeartbeats 4000000 in
theorem of_wrong (s h : ByteArray) (p : Int) (pa q : ByteArray) (hs : s.size ≤ 100000) (hh : h.size ≤ 100000) (hpa : pa.size ≤ 100000) (hq : q.size ≤ 100000) (hr : rightM (uM false s h p pa q) = false) (w : World) (hmx : MaxIn w) (ht : TabIn w) : Calls Tryz.prog 200 #[uV false s h p pa q] w fun e w' => e = .returned (oV true ⟨#[]⟩ ⟨#[]⟩ 0) ∧ Below w.heap.size w w' := by
  have CC := check_hid false s h p pa q 50 (chk_wrong hr) hs hh hpa hq
  clear hr
  unfold uV oV at *
  go_enter Tryz.func200, Tryz.ntmps200
  go_wp2_with fail
  have x1 := BX.made w false s h p pa q
  have m1 := hmx.made (.cells #[.bool false, .string s, .string h, .int .i64 p, .string pa, .string q] 40)
  have t1 := ht.made (.cells #[.bool false, .string s, .string h, .int .i64 p, .string pa, .string q] 40)
  have B1 : Below w.heap.size w (w.alloc (.cells #[.bool false, .string s, .string h, .int .i64 p, .string pa, .string q] 40)) := (Below.refl _ _).alloc (Nat.le_refl _) _
  have hsz := size_alloc w (.cells #[.bool false, .string s, .string h, .int .i64 p, .string pa, .string q] 40)
  generalize hR : w.heap.size = R at x1 B1 hsz ⊢
  have HR := Lib.hid hR
  clear hR
  generalize w.alloc (.cells #[.bool false, .string s, .string h, .int .i64 p, .string pa, .string q] 40) = w1 at x1 B1 m1 t1 hsz ⊢
  have y2 := OX.made w1 false ⟨#[]⟩ ⟨#[]⟩ 0
  have x2 := x1.below ((Below.refl w1.heap.size w1).alloc (Nat.le_refl _) (.cells #[.bool false, .string ⟨#[]⟩, .string ⟨#[]⟩, .int .i64 0] 198))
  have m2 := m1.made (.cells #[.bool false, .string ⟨#[]⟩, .string ⟨#[]⟩, .int .i64 0] 198)
  have t2 := t1.made (.cells #[.bool false, .string ⟨#[]⟩, .string ⟨#[]⟩, .int .i64 0] 198)
  have B2 := B1.alloc (Nat.le_of_lt x1.lt) (.cells #[.bool false, .string ⟨#[]⟩, .string ⟨#[]⟩, .int .i64 0] 198)
  rw [hsz] at y2
  generalize w1.alloc (.cells #[.bool false, .string ⟨#[]⟩, .string ⟨#[]⟩, .int .i64 0] 198) = w2 at x2 y2 B2 m2 t2 ⊢
  clear x1 m1 t1 B1 hsz
  refine (CC.out _ m2 t2).mono ?_
  rintro e w3 ⟨rfl, b3⟩
  have x3 := x2.below b3
  have y3 := y2.below b3
  have B3 := B2.trans (b3.mono (Nat.le_of_lt x2.lt))
  have r0 := y3.c0
  have r1 := y3.c1
  have r2 := y3.c2
  have r3 := y3.c3
  have f0 := open_of y3 0
  have f1 := open_of y3 1
  have f2 := open_of y3 2
  have f3 := open_of y3 3
  have xz := y3.store true ⟨#[]⟩ ⟨#[]⟩ 0
  have bz := stO_below (R := R + 1) (Nat.le_succ R) B3 true ⟨#[]⟩ ⟨#[]⟩ 0
  clear b3 m2 t2 B2 x2 y2
  go_wp2
  clear r0 r1 r2 r3 f0 f1 f2 f3
  generalize (((w3.setCell ⟨R + 1, 0, none⟩ (.bool true)).setCell ⟨R + 1, 1, none⟩ (.string ⟨#[]⟩)).setCell ⟨R + 1, 2, none⟩ (.string ⟨#[]⟩)).setCell ⟨R + 1, 3, none⟩ (.int .i64 0) = wz at xz bz ⊢
  have c0 := xz.c0
  have c1 := xz.c1
  have c2 := xz.c2
  have c3 := xz.c3
  exact bodyPost_ret (v := .agg #[.bool true, .string ⟨#[]⟩, .string ⟨#[]⟩, .int .i64 0]) (by simp [results, Tryz.results200, go_sem, c0, c1, c2, c3]) rfl ⟨rfl, by rw [HR.out]; exact bz⟩

set_option maxRecDepth 100000 in
set_option maxHeartbeats 4000000 in
theorem of_right (s h : ByteArray) (p : Int) (pa q : ByteArray) (hs : s.size ≤ 100000) (hh : h.size ≤ 100000) (hpa : pa.size ≤ 100000) (hq : q.size ≤ 100000) (hr : rightM (uM false s h p pa q) = true) (P : Int) (hP : portU (uM false s h p pa q) = P) (w : World) (hmx : MaxIn w) (ht : TabIn w) : Calls Tryz.prog 200 #[uV false s h p pa q] w fun e w' => e = .returned (oV false s h P) ∧ Below w.heap.size w w' := by
  have CC := check_hid false s h p pa q 0 (chk_right hr) hs hh hpa hq
  have CP := portHid false s h p pa q P hP
  clear hr hP
  unfold uV oV at *
  go_enter Tryz.func200, Tryz.ntmps200
  go_wp2_with fail
  have x1 := BX.made w false s h p pa q
  have m1 := hmx.made (.cells #[.bool false, .string s, .string h, .int .i64 p, .string pa, .string q] 40)
  have t1 := ht.made (.cells #[.bool false, .string s, .string h, .int .i64 p, .string pa, .string q] 40)
  have B1 : Below w.heap.size w (w.alloc (.cells #[.bool false, .string s, .string h, .int .i64 p, .string pa, .string q] 40)) := (Below.refl _ _).alloc (Nat.le_refl _) _
  have hsz := size_alloc w (.cells #[.bool false, .string s, .string h, .int .i64 p, .string pa, .string q] 40)
  generalize hR : w.heap.size = R at x1 B1 hsz ⊢
  have HR := Lib.hid hR
  clear hR
  generalize w.alloc (.cells #[.bool false, .string s, .string h, .int .i64 p, .string pa, .string q] 40) = w1 at x1 B1 m1 t1 hsz ⊢
  have y2 := OX.made w1 false ⟨#[]⟩ ⟨#[]⟩ 0
  have x2 := x1.below ((Below.refl w1.heap.size w1).alloc (Nat.le_refl _) (.cells #[.bool false, .string ⟨#[]⟩, .string ⟨#[]⟩, .int .i64 0] 198))
  have m2 := m1.made (.cells #[.bool false, .string ⟨#[]⟩, .string ⟨#[]⟩, .int .i64 0] 198)
  have t2 := t1.made (.cells #[.bool false, .string ⟨#[]⟩, .string ⟨#[]⟩, .int .i64 0] 198)
  have B2 := B1.alloc (Nat.le_of_lt x1.lt) (.cells #[.bool false, .string ⟨#[]⟩, .string ⟨#[]⟩, .int .i64 0] 198)
  rw [hsz] at y2
  generalize w1.alloc (.cells #[.bool false, .string ⟨#[]⟩, .string ⟨#[]⟩, .int .i64 0] 198) = w2 at x2 y2 B2 m2 t2 ⊢
  clear x1 m1 t1 B1 hsz
  refine (CC.out _ m2 t2).mono ?_
  rintro e w3 ⟨rfl, b3⟩
  have x3 := x2.below b3
  have y3 := y2.below b3
  have B3 := B2.trans (b3.mono (Nat.le_of_lt x2.lt))
  have m3 := m2.below b3
  have c0 := x3.c0
  have c1 := x3.c1
  have c2 := x3.c2
  have c3 := x3.c3
  have c4 := x3.c4
  have c5 := x3.c5
  clear b3 m2 t2 B2 x2 y2
  go_wp2_with fail
  go_region_with (first
    | (go_at_call 240
       (with_reducible refine (CP.out _).mono ?_)
       rintro e w4 ⟨rfl, b4⟩
       have x4 := BX.below (w := w3.drew) x3 b4
       have y4 := OX.below (w := w3.drew) y3 b4
       have B4 := B3.drew.trans (b4.mono (Nat.le_of_lt x3.lt))
       have d1 := x4.c1
       have d2 := x4.c2
       have r0 := y4.c0
       have r1 := y4.c1
       have r2 := y4.c2
       have r3 := y4.c3
       have f0 := open_of y4 0
       have f1 := open_of y4 1
       have f2 := open_of y4 2
       have f3 := open_of y4 3
       clear b4))
  all_goals
    have xz := y4.store false s h P
    have bz := stO_below (R := R + 1) (Nat.le_succ R) B4 false s h P
    clear r0 r1 r2 r3 f0 f1 f2 f3 c0 c1 c2 c3 c4 c5 x4 y4 B4 d1 d2
    go_wp2
    generalize (((w4.setCell ⟨R + 1, 0, none⟩ (.bool false)).setCell ⟨R + 1, 1, none⟩ (.string s)).setCell ⟨R + 1, 2, none⟩ (.string h)).setCell ⟨R + 1, 3, none⟩ (.int .i64 P) = wz at xz bz ⊢
    have c0 := xz.c0
    have c1 := xz.c1
    have c2 := xz.c2
    have c3 := xz.c3
    exact bodyPost_ret (v := .agg #[.bool false, .string s, .string h, .int .i64 P]) (by simp [results, Tryz.results200, go_sem, c0, c1, c2, c3]) rfl ⟨rfl, by rw [HR.out]; exact bz⟩

/-- Where an address comes from, as the program has it: the value's parts. -/
theorem of_hid (o : Bool) (s h : ByteArray) (p : Int) (pa q : ByteArray) (hs : s.size ≤ 100000) (hh : h.size ≤ 100000) (hpa : pa.size ≤ 100000) (hq : q.size ≤ 100000) (o2 : Bool) (s2 h2 : ByteArray) (p2 : Int) (he : originM (uM o s h p pa q) = oM o2 s2 h2 p2) : Hid (∀ W, MaxIn W → TabIn W → Calls Tryz.prog 200 #[uV o s h p pa q] W fun e w' => e = .returned (oV o2 s2 h2 p2) ∧ Below W.heap.size W w') := Lib.hid fun W hm ht => by
  have inj : ∀ {a b : Bool} {x y x' y' : ByteArray} {m n : Int}, oM a x y m = oM b x' y' n → oV a x y m = oV b x' y' n := by
    intro a b x y x' y' m n e
    unfold oM at e
    injection e with e1 e2 e3 e4
    rw [e1, e4, (text_is e2).trans (text_is rfl).symm, (text_is e3).trans (text_is rfl).symm]
  cases o
  · cases hr : rightM (uM false s h p pa q)
    · rw [origin_none (by rw [hr]; simp)] at he
      rw [← inj (a := true) (x := ⟨#[]⟩) (y := ⟨#[]⟩) (m := 0) he]
      exact of_wrong s h p pa q hs hh hpa hq hr W hm ht
    · rw [origin_some hr rfl] at he
      rw [← inj (a := false) (x := s) (y := h) (m := portU (uM false s h p pa q)) he]
      exact of_right s h p pa q hs hh hpa hq hr _ rfl W hm ht
  · rw [origin_none (fun h => by cases h.2)] at he
    rw [← inj (a := true) (x := ⟨#[]⟩) (y := ⟨#[]⟩) (m := 0) he]
    exact of_opaque s h p pa q W

end Go.Proofs.YthnogdodlhkldaaGreatDoor
