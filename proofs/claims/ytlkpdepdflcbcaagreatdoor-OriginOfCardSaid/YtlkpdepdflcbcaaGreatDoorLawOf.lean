/- Where an address comes from, and whether it is secure: the document's, for opaque addresses too. -/
import Derived.Test.YtlkpdepdflcbcaaGreatDoorRefO
namespace Go.Proofs.YtlkpdepdflcbcaaGreatDoor
open Go.RowKit

set_option maxRecDepth 100000 in
set_option maxHeartbeats 4000000 in
theorem refOf_op0 (s h : ByteArray) (p : Int) (pa q : ByteArray) (hs : s.size ≤ 100000) (hh : h.size ≤ 100000) (hpa : pa.size ≤ 100000) (hq : q.size ≤ 100000) (hr : rightM (uM true s h p pa q) = false) (w : World) (hmx : MaxIn w) (ht : TabIn w) : Calls Tryz.prog 7 #[uV true s h p pa q] w fun e w' => e = .returned (oV true ⟨#[]⟩ ⟨#[]⟩ 0) ∧ Below w.heap.size w w' := by
  have CC := refRight_hid true s h p pa q false hr hs hh hpa hq
  clear hr
  unfold uV oV at *
  go_enter Tryz.func7, Tryz.ntmps7
  go_wp2_with fail
  have x1 := BX.made w true s h p pa q
  have m1 := hmx.made (.cells #[.bool true, .string s, .string h, .int .i64 p, .string pa, .string q] 23)
  have t1 := ht.made (.cells #[.bool true, .string s, .string h, .int .i64 p, .string pa, .string q] 23)
  have B1 : Below w.heap.size w (w.alloc (.cells #[.bool true, .string s, .string h, .int .i64 p, .string pa, .string q] 23)) := (Below.refl _ _).alloc (Nat.le_refl _) _
  have hsz := size_alloc w (.cells #[.bool true, .string s, .string h, .int .i64 p, .string pa, .string q] 23)
  generalize hR : w.heap.size = R at x1 B1 hsz ⊢
  have HR := Lib.hid hR
  clear hR
  generalize w.alloc (.cells #[.bool true, .string s, .string h, .int .i64 p, .string pa, .string q] 23) = w1 at x1 B1 m1 t1 hsz ⊢
  have y2 := OX.made w1 false ⟨#[]⟩ ⟨#[]⟩ 0
  have x2 := x1.below ((Below.refl w1.heap.size w1).alloc (Nat.le_refl _) (.cells #[.bool false, .string ⟨#[]⟩, .string ⟨#[]⟩, .int .i64 0] 27))
  have m2 := m1.made (.cells #[.bool false, .string ⟨#[]⟩, .string ⟨#[]⟩, .int .i64 0] 27)
  have t2 := t1.made (.cells #[.bool false, .string ⟨#[]⟩, .string ⟨#[]⟩, .int .i64 0] 27)
  have B2 := B1.alloc (Nat.le_of_lt x1.lt) (.cells #[.bool false, .string ⟨#[]⟩, .string ⟨#[]⟩, .int .i64 0] 27)
  rw [hsz] at y2
  generalize w1.alloc (.cells #[.bool false, .string ⟨#[]⟩, .string ⟨#[]⟩, .int .i64 0] 27) = w2 at x2 y2 B2 m2 t2 ⊢
  clear x1 m1 t1 B1 hsz
  refine (CC.out _).mono ?_
  rintro e w3 ⟨rfl, b3⟩
  have x3 := x2.below b3
  have y3 := y2.below b3
  have B3 := B2.trans (b3.mono (Nat.le_of_lt x2.lt))
  have r0 := y3.c0
  have r1 := y3.c1
  have r2 := y3.c2
  have r3 := y3.c3
  have f0 := open_of y3 0
  have f1 := open_of y3 1
  have f2 := open_of y3 2
  have f3 := open_of y3 3
  have xz := y3.store true ⟨#[]⟩ ⟨#[]⟩ 0
  have bz := stO_below (R := R + 1) (Nat.le_succ R) B3 true ⟨#[]⟩ ⟨#[]⟩ 0
  clear b3 m2 t2 B2 x2 y2
  go_wp2
  clear r0 r1 r2 r3 f0 f1 f2 f3
  generalize (((w3.setCell ⟨R + 1, 0, none⟩ (.bool true)).setCell ⟨R + 1, 1, none⟩ (.string ⟨#[]⟩)).setCell ⟨R + 1, 2, none⟩ (.string ⟨#[]⟩)).setCell ⟨R + 1, 3, none⟩ (.int .i64 0) = wz at xz bz ⊢
  have c0 := xz.c0
  have c1 := xz.c1
  have c2 := xz.c2
  have c3 := xz.c3
  exact bodyPost_ret (v := .agg #[.bool true, .string ⟨#[]⟩, .string ⟨#[]⟩, .int .i64 0]) (by simp [results, Tryz.results7, go_sem, c0, c1, c2, c3]) rfl ⟨rfl, by rw [HR.out]; exact bz⟩

set_option maxRecDepth 100000 in
set_option maxHeartbeats 4000000 in
theorem refOf_op1 (s h : ByteArray) (p : Int) (pa q : ByteArray) (hs : s.size ≤ 100000) (hh : h.size ≤ 100000) (hpa : pa.size ≤ 100000) (hq : q.size ≤ 100000) (hr : rightM (uM true s h p pa q) = true) (w : World) (hmx : MaxIn w) (ht : TabIn w) : Calls Tryz.prog 7 #[uV true s h p pa q] w fun e w' => e = .returned (oV true ⟨#[]⟩ ⟨#[]⟩ 0) ∧ Below w.heap.size w w' := by
  have CC := refRight_hid true s h p pa q true hr hs hh hpa hq
  clear hr
  unfold uV oV at *
  go_enter Tryz.func7, Tryz.ntmps7
  go_wp2_with fail
  have x1 := BX.made w true s h p pa q
  have m1 := hmx.made (.cells #[.bool true, .string s, .string h, .int .i64 p, .string pa, .string q] 23)
  have t1 := ht.made (.cells #[.bool true, .string s, .string h, .int .i64 p, .string pa, .string q] 23)
  have B1 : Below w.heap.size w (w.alloc (.cells #[.bool true, .string s, .string h, .int .i64 p, .string pa, .string q] 23)) := (Below.refl _ _).alloc (Nat.le_refl _) _
  have hsz := size_alloc w (.cells #[.bool true, .string s, .string h, .int .i64 p, .string pa, .string q] 23)
  generalize hR : w.heap.size = R at x1 B1 hsz ⊢
  have HR := Lib.hid hR
  clear hR
  generalize w.alloc (.cells #[.bool true, .string s, .string h, .int .i64 p, .string pa, .string q] 23) = w1 at x1 B1 m1 t1 hsz ⊢
  have y2 := OX.made w1 false ⟨#[]⟩ ⟨#[]⟩ 0
  have x2 := x1.below ((Below.refl w1.heap.size w1).alloc (Nat.le_refl _) (.cells #[.bool false, .string ⟨#[]⟩, .string ⟨#[]⟩, .int .i64 0] 27))
  have m2 := m1.made (.cells #[.bool false, .string ⟨#[]⟩, .string ⟨#[]⟩, .int .i64 0] 27)
  have t2 := t1.made (.cells #[.bool false, .string ⟨#[]⟩, .string ⟨#[]⟩, .int .i64 0] 27)
  have B2 := B1.alloc (Nat.le_of_lt x1.lt) (.cells #[.bool false, .string ⟨#[]⟩, .string ⟨#[]⟩, .int .i64 0] 27)
  rw [hsz] at y2
  generalize w1.alloc (.cells #[.bool false, .string ⟨#[]⟩, .string ⟨#[]⟩, .int .i64 0] 27) = w2 at x2 y2 B2 m2 t2 ⊢
  clear x1 m1 t1 B1 hsz
  refine (CC.out _).mono ?_
  rintro e w3 ⟨rfl, b3⟩
  have x3 := x2.below b3
  have y3 := y2.below b3
  have B3 := B2.trans (b3.mono (Nat.le_of_lt x2.lt))
  have q0 := x3.c0
  have r0 := y3.c0
  have r1 := y3.c1
  have r2 := y3.c2
  have r3 := y3.c3
  have f0 := open_of y3 0
  have f1 := open_of y3 1
  have f2 := open_of y3 2
  have f3 := open_of y3 3
  have xz := y3.store true ⟨#[]⟩ ⟨#[]⟩ 0
  have bz := stO_below (R := R + 1) (Nat.le_succ R) B3 true ⟨#[]⟩ ⟨#[]⟩ 0
  clear b3 m2 t2 B2 x2 y2
  go_wp2
  clear q0 r0 r1 r2 r3 f0 f1 f2 f3
  generalize (((w3.setCell ⟨R + 1, 0, none⟩ (.bool true)).setCell ⟨R + 1, 1, none⟩ (.string ⟨#[]⟩)).setCell ⟨R + 1, 2, none⟩ (.string ⟨#[]⟩)).setCell ⟨R + 1, 3, none⟩ (.int .i64 0) = wz at xz bz ⊢
  have c0 := xz.c0
  have c1 := xz.c1
  have c2 := xz.c2
  have c3 := xz.c3
  exact bodyPost_ret (v := .agg #[.bool true, .string ⟨#[]⟩, .string ⟨#[]⟩, .int .i64 0]) (by simp [results, Tryz.results7, go_sem, c0, c1, c2, c3]) rfl ⟨rfl, by rw [HR.out]; exact bz⟩

set_option maxRecDepth 100000 in
set_option maxHeartbeats 2000000 in
theorem refSecure_any (o : Bool) (s h : ByteArray) (p : Int) (pa q : ByteArray) (hs : s.size ≤ 100000) (hh : h.size ≤ 100000) (hpa : pa.size ≤ 100000) (hq : q.size ≤ 100000) (w : World) (hmx : MaxIn w) (ht : TabIn w) : Calls Tryz.prog 9 #[uV o s h p pa q] w fun e w' => e = .returned (.bool (secM (uM o s h p pa q))) ∧ Below w.heap.size w w' := by
  have g1 : (s.toList == [104, 116, 116, 112, 115]) = decide (s.data.toList = HTTPS) := text_lit _ _
  have g2 : (s.toList == [119, 115, 115]) = decide (s.data.toList = WSS) := text_lit _ _
  have HS : Hid (secM (uM o s h p pa q) = (rightM (uM o s h p pa q) && (decide (s.data.toList = HTTPS) || decide (s.data.toList = WSS)))) := Lib.hid (by unfold secM; rw [Bool.decide_or]; rfl)
  generalize decide (s.data.toList = HTTPS) = b1 at g1 HS
  generalize decide (s.data.toList = WSS) = b2 at g2 HS
  cases hr : rightM (uM o s h p pa q)
  · have CC := refRight_hid o s h p pa q false hr hs hh hpa hq
    have HF : Hid (false = secM (uM o s h p pa q)) := Lib.hid (by rw [HS.out, hr]; rfl)
    clear hr HS
    unfold uV at *
    go_enter Tryz.func9, Tryz.ntmps9
    go_wp2_with fail
    have x1 := BX.made w o s h p pa q
    have m1 := hmx.made (.cells #[.bool o, .string s, .string h, .int .i64 p, .string pa, .string q] 23)
    have t1 := ht.made (.cells #[.bool o, .string s, .string h, .int .i64 p, .string pa, .string q] 23)
    have B1 : Below w.heap.size w (w.alloc (.cells #[.bool o, .string s, .string h, .int .i64 p, .string pa, .string q] 23)) := (Below.refl _ _).alloc (Nat.le_refl _) _
    generalize hR : w.heap.size = R at x1 B1 ⊢
    have HR := Lib.hid hR
    clear hR
    generalize w.alloc (.cells #[.bool o, .string s, .string h, .int .i64 p, .string pa, .string q] 23) = w1 at x1 B1 m1 t1 ⊢
    refine (CC.out _).mono ?_
    rintro e w2 ⟨rfl, b2⟩
    have B2 := B1.trans (b2.mono (Nat.le_of_lt x1.lt))
    clear b2 x1 m1 t1 B1
    go_wp2
    go_ret
    exact ⟨ret_bool HF.out, by rw [HR.out]; exact B2⟩
  · have CC := refRight_hid o s h p pa q true hr hs hh hpa hq
    have HF : Hid ((b1 || b2) = secM (uM o s h p pa q)) := Lib.hid (by rw [HS.out, hr]; rfl)
    clear hr HS
    unfold uV at *
    cases b1 <;> cases b2
    all_goals
      go_enter Tryz.func9, Tryz.ntmps9
      go_wp2_with fail
      have x1 := BX.made w o s h p pa q
      have m1 := hmx.made (.cells #[.bool o, .string s, .string h, .int .i64 p, .string pa, .string q] 23)
      have t1 := ht.made (.cells #[.bool o, .string s, .string h, .int .i64 p, .string pa, .string q] 23)
      have B1 : Below w.heap.size w (w.alloc (.cells #[.bool o, .string s, .string h, .int .i64 p, .string pa, .string q] 23)) := (Below.refl _ _).alloc (Nat.le_refl _) _
      generalize hR : w.heap.size = R at x1 B1 ⊢
      have HR := Lib.hid hR
      clear hR
      generalize w.alloc (.cells #[.bool o, .string s, .string h, .int .i64 p, .string pa, .string q] 23) = w1 at x1 B1 m1 t1 ⊢
      refine (CC.out _).mono ?_
      rintro e w2 ⟨rfl, b2⟩
      have x2 := x1.below b2
      have B2 := B1.trans (b2.mono (Nat.le_of_lt x1.lt))
      have c1 := x2.c1
      clear b2 x1 m1 t1 B1
      go_wp2
      go_ret
      exact ⟨ret_bool HF.out, by rw [HR.out]; exact B2⟩
theorem refSecure_hid (o : Bool) (s h : ByteArray) (p : Int) (pa q : ByteArray) (b : Bool) (hb : secM (uM o s h p pa q) = b) (hs : s.size ≤ 100000) (hh : h.size ≤ 100000) (hpa : pa.size ≤ 100000) (hq : q.size ≤ 100000) : Hid (∀ W, MaxIn W → TabIn W → Calls Tryz.prog 9 #[uV o s h p pa q] W fun e w' => e = .returned (.bool b) ∧ Below W.heap.size W w') :=
  Lib.hid fun W hm ht => by rw [← hb]; exact refSecure_any o s h p pa q hs hh hpa hq W hm ht


/-- Where an address comes from, as the document has it: the value's parts. -/
theorem refOf_hid (o : Bool) (s h : ByteArray) (p : Int) (pa q : ByteArray) (hs : s.size ≤ 100000) (hh : h.size ≤ 100000) (hpa : pa.size ≤ 100000) (hq : q.size ≤ 100000) (o2 : Bool) (s2 h2 : ByteArray) (p2 : Int) (he : originM (uM o s h p pa q) = oM o2 s2 h2 p2) : Hid (∀ W, MaxIn W → TabIn W → Calls Tryz.prog 7 #[uV o s h p pa q] W fun e w' => e = .returned (oV o2 s2 h2 p2) ∧ Below W.heap.size W w') := Lib.hid fun W hm ht => by
  have inj : ∀ {a b : Bool} {x y x' y' : ByteArray} {m n : Int}, oM a x y m = oM b x' y' n → oV a x y m = oV b x' y' n := by
    intro a b x y x' y' m n e
    unfold oM at e
    injection e with e1 e2 e3 e4
    rw [e1, e4, (text_is e2).trans (text_is rfl).symm, (text_is e3).trans (text_is rfl).symm]
  cases o
  · cases hr : rightM (uM false s h p pa q)
    · rw [origin_none (by rw [hr]; simp)] at he
      rw [← inj (a := true) (x := ⟨#[]⟩) (y := ⟨#[]⟩) (m := 0) he]
      exact refOf_wrong s h p pa q hs hh hpa hq hr W hm ht
    · rw [origin_some hr rfl] at he
      rw [← inj (a := false) (x := s) (y := h) (m := portU (uM false s h p pa q)) he]
      exact refOf_right s h p pa q hs hh hpa hq hr _ rfl W hm ht
  · rw [origin_none (fun h => by cases h.2)] at he
    rw [← inj (a := true) (x := ⟨#[]⟩) (y := ⟨#[]⟩) (m := 0) he]
    cases hr : rightM (uM true s h p pa q)
    · exact refOf_op0 s h p pa q hs hh hpa hq hr W hm ht
    · exact refOf_op1 s h p pa q hs hh hpa hq hr W hm ht

set_option maxRecDepth 100000 in
set_option maxHeartbeats 8000000 in
theorem oOf_big (o : Bool) (s h : ByteArray) (p : Int) (pa q : ByteArray) (CB1 : Hid (∀ W, Calls Tryz.prog 4 #[uV o s h p pa q] W fun e w' => e = .returned (.bool true) ∧ Below W.heap.size W w')) (w : World) (hm : MaxIn w) (ht : TabIn w) : Calls Tryz.prog 3 #[uV o s h p pa q] w fun e w' => e = .returned (.bool true) ∧ Below w.heap.size w w' := by
  unfold uV at *
  go_enter Tryz.func3, Tryz.ntmps3
  go_wp2_with fail
  have xn := BX.made w o s h p pa q
  have mw1 := hm.made (.cells #[.bool o, .string s, .string h, .int .i64 p, .string pa, .string q] 23)
  have tw1 := ht.made (.cells #[.bool o, .string s, .string h, .int .i64 p, .string pa, .string q] 23)
  have Bw1 : Below w.heap.size w (w.alloc (.cells #[.bool o, .string s, .string h, .int .i64 p, .string pa, .string q] 23)) := ((Below.refl w.heap.size w).alloc (Nat.le_refl _) (.cells #[.bool o, .string s, .string h, .int .i64 p, .string pa, .string q] 23))
  generalize hR : w.heap.size = Ra at xn Bw1 ⊢
  have HR := Lib.hid hR
  clear hR
  generalize w.alloc (.cells #[.bool o, .string s, .string h, .int .i64 p, .string pa, .string q] 23) = w1 at xn mw1 tw1 Bw1  ⊢
  have xRa_w1 := xn
  clear xn hm ht
  refine (CB1.out _ ).mono ?_
  rintro e w2 ⟨rfl, b_⟩
  have mw2 := mw1.below b_
  have tw2 := tw1.below b_
  have Bw2 := Bw1.trans (b_.mono (Nat.le_of_lt xRa_w1.lt))
  have xRa_w2 := xRa_w1.below b_
  clear b_ mw1 tw1 Bw1 xRa_w1
  go_wp2
  go_ret
  exact ⟨rfl, by rw [HR.out]; exact Bw2⟩

set_option maxRecDepth 100000 in
set_option maxHeartbeats 8000000 in
theorem oOf_small (o : Bool) (s h : ByteArray) (p : Int) (pa q : ByteArray) (o2 : Bool) (s2 h2 : ByteArray) (p2 : Int) (b : Bool) (CB1 : Hid (∀ W, Calls Tryz.prog 4 #[uV o s h p pa q] W fun e w' => e = .returned (.bool false) ∧ Below W.heap.size W w')) (CF1 : Hid (∀ W, MaxIn W → TabIn W → Calls Tryz.prog 6 #[uV o s h p pa q] W fun e w' => e = .returned (oV o2 s2 h2 p2) ∧ Below W.heap.size W w')) (CF2 : Hid (∀ W, MaxIn W → TabIn W → Calls Tryz.prog 7 #[uV o s h p pa q] W fun e w' => e = .returned (oV o2 s2 h2 p2) ∧ Below W.heap.size W w')) (CG1 : Hid (∀ W, MaxIn W → TabIn W → Calls Tryz.prog 8 #[uV o s h p pa q] W fun e w' => e = .returned (.bool b) ∧ Below W.heap.size W w')) (CG2 : Hid (∀ W, MaxIn W → TabIn W → Calls Tryz.prog 9 #[uV o s h p pa q] W fun e w' => e = .returned (.bool b) ∧ Below W.heap.size W w')) (gs : (s2.toList == s2.toList) = true) (gh : (h2.toList == h2.toList) = true) (gp : (p2 == p2) = true) (gb : (b == b) = true) (w : World) (hm : MaxIn w) (ht : TabIn w) : Calls Tryz.prog 3 #[uV o s h p pa q] w fun e w' => e = .returned (.bool true) ∧ Below w.heap.size w w' := by
  have FR : Hid (∀ W, MaxIn W → TabIn W → Calls Tryz.prog 5 #[] W fun e w' => e = .returned (.bool true) ∧ Below W.heap.size W w') := Lib.hid fun W hm ht => froms_any W hm ht
  unfold uV oV at *
  go_enter Tryz.func3, Tryz.ntmps3
  go_wp2_with fail
  have xn := BX.made w o s h p pa q
  have mw1 := hm.made (.cells #[.bool o, .string s, .string h, .int .i64 p, .string pa, .string q] 23)
  have tw1 := ht.made (.cells #[.bool o, .string s, .string h, .int .i64 p, .string pa, .string q] 23)
  have Bw1 : Below w.heap.size w (w.alloc (.cells #[.bool o, .string s, .string h, .int .i64 p, .string pa, .string q] 23)) := ((Below.refl w.heap.size w).alloc (Nat.le_refl _) (.cells #[.bool o, .string s, .string h, .int .i64 p, .string pa, .string q] 23))
  generalize hR : w.heap.size = Ra at xn Bw1 ⊢
  have HR := Lib.hid hR
  clear hR
  generalize w.alloc (.cells #[.bool o, .string s, .string h, .int .i64 p, .string pa, .string q] 23) = w1 at xn mw1 tw1 Bw1  ⊢
  have xRa_w1 := xn
  clear xn hm ht
  refine (CB1.out _ ).mono ?_
  rintro e w2 ⟨rfl, b_⟩
  have mw2 := mw1.below b_
  have tw2 := tw1.below b_
  have Bw2 := Bw1.trans (b_.mono (Nat.le_of_lt xRa_w1.lt))
  have xRa_w2 := xRa_w1.below b_
  clear b_ mw1 tw1 Bw1 xRa_w1
  have dRa0 := xRa_w2.c0
  have dRa1 := xRa_w2.c1
  have dRa2 := xRa_w2.c2
  have dRa3 := xRa_w2.c3
  have dRa4 := xRa_w2.c4
  have dRa5 := xRa_w2.c5
  go_wp2
  clear dRa0 dRa1 dRa2 dRa3 dRa4 dRa5
  obtain ⟨C, hC⟩ : ∃ C : World → Prop, ∀ w', C w' ↔ (BX w' Ra o s h p pa q ∧ Below Ra w w' ∧ MaxIn w' ∧ TabIn w') := ⟨_, fun _ => Iff.rfl⟩
  have HC := Lib.hid hC
  clear hC
  have hC0 : C w2.drew := (HC.out _).2 ⟨xRa_w2, Bw2.drew, mw2, tw2⟩
  have HK : Hid (∀ w', C w' → ∀ w7, Below w'.heap.size w' w7 → C w7) := Lib.hid fun w' hc w7 b => by
    obtain ⟨xRa, K4, m7, t7⟩ := (HC.out w').1 hc
    exact (HC.out _).2 ⟨xRa.below b, K4.trans (b.mono (Nat.le_of_lt xRa.lt)), m7.below b, t7.below b⟩
  clear xRa_w2 Bw2 mw2 tw2
  refine region_class C (by kernel_rfl) (by kernel_rfl) hC0 ?_
  clear hC0
  repeat
    first
      | go_big_quiet_skip
      | (go_big_quiet_want; go_big_quiet_op; go_big_quiet_on)
      | (refine BigFrame.wpQuiet_want rfl (fun K hK => ?_)
         apply Exists.intro
         refine ⟨fun w' hc => ?_, hK _ ?_⟩
         · obtain ⟨xRa, K4, m7, t7⟩ := (HC.out w').1 hc
           have dRa0 := xRa.c0
           have dRa1 := xRa.c1
           have dRa2 := xRa.c2
           have dRa3 := xRa.c3
           have dRa4 := xRa.c4
           have dRa5 := xRa.c5
           unfold Oper.quietAt
           go_simp
           first
             | done
             | rfl
             | ((with_reducible refine (FR.out _ m7 t7).mono ?_); rintro e w7 ⟨rfl, b7⟩; exact ⟨rfl, HK.out w' hc w7 b7⟩)
             | ((with_reducible refine (CF1.out _ m7 t7).mono ?_); rintro e w7 ⟨rfl, b7⟩; exact ⟨rfl, HK.out w' hc w7 b7⟩)
             | ((with_reducible refine (CF2.out _ m7 t7).mono ?_); rintro e w7 ⟨rfl, b7⟩; exact ⟨rfl, HK.out w' hc w7 b7⟩)
             | ((with_reducible refine (CG1.out _ m7 t7).mono ?_); rintro e w7 ⟨rfl, b7⟩; exact ⟨rfl, HK.out w' hc w7 b7⟩)
             | ((with_reducible refine (CG2.out _ m7 t7).mono ?_); rintro e w7 ⟨rfl, b7⟩; exact ⟨rfl, HK.out w' hc w7 b7⟩)
         clear hK K
         simp only [Act.put, List.setIfInBounds_toArray, List.set_cons_zero, List.set_cons_succ])
  refine wpQuiet_nil ?_
  intro w3 hc
  obtain ⟨xRa_w3, Bw3, mw3, tw3⟩ := (HC.out w3).1 hc
  clear hc HC HK
  go_wp2
  go_ret
  exact ⟨rfl, by rw [HR.out]; exact Bw3⟩

theorem oOf_law (o : Bool) (s h : ByteArray) (p : Int) (pa q : ByteArray) (w : World) (hm : MaxIn w) (ht : TabIn w) : Calls Tryz.prog 3 #[uV o s h p pa q] w fun e w' => e = .returned (.bool true) ∧ Below w.heap.size w w' := by
  obtain ⟨g1, hg1⟩ : ∃ b, (decide (2000 < s.size) || decide (2000 < h.size) || decide (2000 < pa.size) || decide (2000 < q.size)) = b := ⟨_, rfl⟩
  have CB1 := big_hid o s h p pa q g1 hg1
  cases g1
  case true => exact oOf_big o s h p pa q CB1 w hm ht
  simp only [Bool.or_eq_false_iff, decide_eq_false_iff_not] at hg1
  obtain ⟨⟨⟨z1, z2⟩, z3⟩, z4⟩ := hg1
  obtain ⟨s2, hs2⟩ := text_of (originM (uM o s h p pa q)).s
  obtain ⟨h2, hh2⟩ := text_of (originM (uM o s h p pa q)).h
  have e1 : originM (uM o s h p pa q) = oM (originM (uM o s h p pa q)).o s2 h2 (originM (uM o s h p pa q)).p := by unfold oM; rw [hs2, hh2]
  exact oOf_small o s h p pa q _ s2 h2 _ _ CB1 (of_hid o s h p pa q (by omega) (by omega) (by omega) (by omega) _ s2 h2 _ e1) (refOf_hid o s h p pa q (by omega) (by omega) (by omega) (by omega) _ s2 h2 _ e1) (secure_hid o s h p pa q _ rfl (by omega) (by omega) (by omega) (by omega)) (refSecure_hid o s h p pa q _ rfl (by omega) (by omega) (by omega) (by omega)) (by rw [beq_iff_eq]) (by rw [beq_iff_eq]) (by rw [beq_iff_eq]) (by rw [beq_iff_eq]) w hm ht

end Go.Proofs.YtlkpdepdflcbcaaGreatDoor
