/- Whether a scheme, a host, a port, a path are let be: the document's. -/
import Derived.Test.YtaldjkbnngeahaaGreatDoorRefOY
import Derived.Test.YtaldjkbnngeahaaGreatDoorMtB
namespace Go.Proofs.YtaldjkbnngeahaaGreatDoor
open Go.RowKit

set_option maxRecDepth 100000 in
set_option maxHeartbeats 4000000 in
theorem refScheme10_any (t i : ByteArray) (w : World) : Calls Tryz.prog 54 #[.string t, .string i] w fun e w' => e = .returned (.bool (schL t.data.toList i.data.toList)) ∧ w' = w := by
  obtain ⟨b0, b1, b2, b3, b4, g0, g1, g2, g3, g4, HS, HX⟩ := schL_parts t i
  cases b0 <;> cases b1 <;> cases b2 <;> cases b3 <;> cases b4
  all_goals
    first
    | exact absurd (HX.out rfl) (by decide)
    | (have HF := Lib.hid HS.out.symm
       clear HS HX
       go_enter Tryz.func54, Tryz.ntmps54
       go_wp2
       go_ret
       exact ⟨ret_bool HF.out, rfl⟩)
theorem refScheme10_hid (t i : ByteArray) (b : Bool) (hb : schL t.data.toList i.data.toList = b) : Hid (∀ W, Calls Tryz.prog 54 #[.string t, .string i] W fun e w' => e = .returned (.bool b) ∧ w' = W) :=
  Lib.hid fun W => by rw [← hb]; exact refScheme10_any t i W

set_option maxRecDepth 100000 in
set_option maxHeartbeats 4000000 in
theorem refEnds_any (s t : ByteArray) (hs : s.size ≤ 1000000) (w : World) : Calls Tryz.prog 95 #[.string s, .string t] w fun e w' => e = .returned (.bool (endsL s.data.toList t.data.toList)) ∧ w' = w := by
  by_cases h : (t.size : Int) < (s.size : Int)
  · obtain ⟨n, hn⟩ : ∃ n, s.size = t.size + n := ⟨s.size - t.size, by omega⟩
    have hix : (s.size : Int) - (t.size : Int) = (n : Int) := by omega
    obtain ⟨R, hR⟩ := text_of (s.data.toList.drop n)
    have sf := slice_from s R n (by omega) hR
    obtain ⟨b, g⟩ : ∃ b, (R.toList == t.toList) = b := ⟨_, rfl⟩
    have HF : Hid (b = endsL s.data.toList t.data.toList) := Lib.hid (by
      unfold endsL
      rw [lsize, lsize, decide_eq_true (by omega), Bool.true_and, ← g, text_two, hR, show s.size - t.size = n by omega])
    have hns : n ≤ s.size := by omega
    clear hR hn
    go_enter Tryz.func95, Tryz.ntmps95
    go_wp2
    go_ret
    exact ⟨ret_bool HF.out, rfl⟩
  · have HF : Hid (false = endsL s.data.toList t.data.toList) := Lib.hid (by
      unfold endsL
      rw [lsize, lsize, decide_eq_false (by omega), Bool.false_and])
    go_enter Tryz.func95, Tryz.ntmps95
    go_wp2
    go_ret
    exact ⟨ret_bool HF.out, rfl⟩
theorem refEnds_hid (s t : ByteArray) (hs : s.size ≤ 1000000) (b : Bool) (hb : endsL s.data.toList t.data.toList = b) : Hid (∀ W, Calls Tryz.prog 95 #[.string s, .string t] W fun e w' => e = .returned (.bool b) ∧ w' = W) :=
  Lib.hid fun W => by rw [← hb]; exact refEnds_any s t hs W

set_option maxRecDepth 100000 in
set_option maxHeartbeats 4000000 in
theorem refHost10_any (k : Int) (t s h : ByteArray) (wd : Bool) (p : Int) (pa n : ByteArray) (hh : h.size ≤ 100000) (hn : n.size ≤ 100000) (w : World) : Calls Tryz.prog 56 #[srcV k t s h wd p pa, .string n] w fun e w' => e = .returned (.bool (hostL wd h.data.toList n.data.toList)) ∧ Below w.heap.size w w' := by
  obtain ⟨T, hT⟩ := text_of (low h.data.toList)
  obtain ⟨I, hI⟩ := text_of (low n.data.toList)
  have sT := low_size hT
  have C1 := refLower_hid h T hT (by omega)
  have C2 := refLower_hid n I hI (by omega)
  obtain ⟨R2, hR2⟩ := text_of (46 :: T.data.toList)
  have add := add_to ⟨#[46]⟩ T R2 hR2 (by show 1 + T.size ≤ _; omega)
  obtain ⟨f, hf⟩ : ∃ f, endsL I.data.toList R2.data.toList = f := ⟨_, rfl⟩
  have C3 := refEnds_hid I R2 (by rw [low_size hI]; omega) f hf
  obtain ⟨b, g⟩ : ∃ b, (I.toList == T.toList) = b := ⟨_, rfl⟩
  obtain ⟨b0, g0⟩ : ∃ b, T.toList.isEmpty = b := ⟨_, rfl⟩
  have HS : Hid (hostL wd h.data.toList n.data.toList = if wd then (b0 || f) else b) := Lib.hid (by
    unfold hostL
    rw [← g0, ← g, ← hf, text_none, text_two, hR2, hT, hI]
    rw [show (decide (low n.data.toList = low h.data.toList)) = decide (low h.data.toList = low n.data.toList) by rw [Bool.eq_iff_iff]; simp [eq_comm]])
  clear hT hI hh hn sT hR2 hf
  unfold srcV
  cases wd
  case false =>
    have HF : Hid (b = _) := Lib.hid HS.out.symm
    clear HS
    go_enter Tryz.func56, Tryz.ntmps56
    go_wp2_with fail
    have x1 := SX.made w k t s h false p pa
    have B1 : Below w.heap.size w (w.alloc (.cells #[.int .i64 k, .string t, .string s, .string h, .bool false, .int .i64 p, .string pa] 40)) := (Below.refl _ _).alloc (Nat.le_refl _) _
    generalize hR : w.heap.size = R at x1 B1 ⊢
    have HR := Lib.hid hR
    clear hR
    generalize w.alloc (.cells #[.int .i64 k, .string t, .string s, .string h, .bool false, .int .i64 p, .string pa] 40) = w1 at x1 B1 ⊢
    refine (C2.out _).mono ?_
    rintro e w2 ⟨rfl, b2⟩
    have x2 := x1.below b2
    have B2 := B1.trans (b2.mono (Nat.le_of_lt x1.lt))
    have c3 := x2.c3
    clear b2 x1 B1
    go_wp2_with fail
    refine (C1.out _).mono ?_
    rintro e w3 ⟨rfl, b3⟩
    have x3 := x2.below b3
    have B3 := B2.trans (b3.mono (Nat.le_of_lt x2.lt))
    have c4 := x3.c4
    clear b3 x2 B2 c3
    go_wp2
    go_ret
    exact ⟨ret_bool HF.out, by rw [HR.out]; exact B3⟩
  case true =>
    clear g
    cases b0
    all_goals
      have HF := Lib.hid HS.out.symm
      clear HS
      go_enter Tryz.func56, Tryz.ntmps56
      go_wp2_with fail
      have x1 := SX.made w k t s h true p pa
      have B1 : Below w.heap.size w (w.alloc (.cells #[.int .i64 k, .string t, .string s, .string h, .bool true, .int .i64 p, .string pa] 40)) := (Below.refl _ _).alloc (Nat.le_refl _) _
      generalize hR : w.heap.size = R at x1 B1 ⊢
      have HR := Lib.hid hR
      clear hR
      generalize w.alloc (.cells #[.int .i64 k, .string t, .string s, .string h, .bool true, .int .i64 p, .string pa] 40) = w1 at x1 B1 ⊢
      refine (C2.out _).mono ?_
      rintro e w2 ⟨rfl, b2⟩
      have x2 := x1.below b2
      have B2 := B1.trans (b2.mono (Nat.le_of_lt x1.lt))
      have c3 := x2.c3
      clear b2 x1 B1
      go_wp2_with fail
      refine (C1.out _).mono ?_
      rintro e w3 ⟨rfl, b3⟩
      have x3 := x2.below b3
      have B3 := B2.trans (b3.mono (Nat.le_of_lt x2.lt))
      have c4 := x3.c4
      clear b3 x2 B2 c3
      go_wp2_with fail
      first
      | (go_ret
         exact ⟨ret_bool HF.out, by rw [HR.out]; exact B3⟩)
      | (refine (C3.out _).mono ?_
         rintro e w3 ⟨rfl, rfl⟩
         go_wp2
         go_ret
         exact ⟨ret_bool HF.out, by rw [HR.out]; exact B3⟩)
theorem refHost10_hid (k : Int) (t s h : ByteArray) (wd : Bool) (p : Int) (pa n : ByteArray) (hh : h.size ≤ 100000) (hn : n.size ≤ 100000) (b : Bool) (hb : hostL wd h.data.toList n.data.toList = b) : Hid (∀ W, Calls Tryz.prog 56 #[srcV k t s h wd p pa, .string n] W fun e w' => e = .returned (.bool b) ∧ Below W.heap.size W w') :=
  Lib.hid fun W => by rw [← hb]; exact refHost10_any k t s h wd p pa n hh hn W

/-! Paths. -/
theorem take_prefix (t i : List UInt8) : decide (i.take t.length = t) = t.isPrefixOf i := by
  rw [Bool.eq_iff_iff, decide_eq_true_eq, List.isPrefixOf_iff_prefix, List.prefix_iff_eq_take]
  exact eq_comm

set_option maxRecDepth 100000 in
set_option maxHeartbeats 4000000 in
theorem refPath10_any (t i : ByteArray) (hts : t.size ≤ 100000) (m : Bool) (w : World) : Calls Tryz.prog 58 #[.string t, .string i, .bool m] w fun e w' => e = .returned (.bool (pathL t.data.toList i.data.toList m)) ∧ w' = w := by
  obtain ⟨b0, g0⟩ : ∃ b, t.toList.isEmpty = b := ⟨_, rfl⟩
  obtain ⟨b1, g1⟩ : ∃ b, (t.toList == i.toList) = b := ⟨_, rfl⟩
  have HS : Hid (pathL t.data.toList i.data.toList m = (b0 || m || b1 || (decide (t.data.toList.getLast? = some 47) && t.data.toList.isPrefixOf i.data.toList))) := Lib.hid (by
    rw [← g0, ← g1, text_none, text_two]
    unfold pathL
    rw [show (decide (i.data.toList = t.data.toList)) = decide (t.data.toList = i.data.toList) by rw [Bool.eq_iff_iff]; simp [eq_comm]])
  cases b0 <;> cases m <;> cases b1
  case false.false.false =>
    have hne : t.data.toList ≠ [] := by
      rw [text_none] at g0
      intro e; rw [e] at g0; cases g0
    obtain ⟨n, hn⟩ : ∃ n, t.size = n + 1 := ⟨t.size - 1, by
      have : t.data.toList.length ≠ 0 := fun e => hne (List.length_eq_zero_iff.1 e)
      rw [lsize] at this; omega⟩
    have hlt : n < t.size := by omega
    have hix : (t.size : Int) - 1 = (n : Int) := by omega
    have hlast : decide (t.data.toList.getLast? = some 47) = ((t[n].toNat : Int) == 47) := by
      have e1 : t.data.toList.getLast? = some t[n] := by
        obtain ⟨b, h1, _, h3⟩ := at_b hlt
        rw [List.getLast?_eq_getElem?, lsize, hn, Nat.add_sub_cancel, h1, h3]
      have e2 : ((t[n].toNat : Int) == 47) = (t[n] == 47) := int_beq t[n] 47
      rw [e1, e2, Bool.eq_iff_iff]
      simp
    rw [hlast] at HS
    have hn9 : n ≤ 100000 := by omega
    clear hlast hne hn
    cases g2 : ((t[n].toNat : Int) == 47)
    · have HF : Hid (false = _) := Lib.hid (HS.out.trans (by rw [g2]; rfl)).symm
      clear HS
      go_enter Tryz.func58, Tryz.ntmps58
      go_wp2
      go_ret
      exact ⟨ret_bool HF.out, rfl⟩
    · by_cases h3 : (t.size : Int) ≤ (i.size : Int)
      · obtain ⟨R, hR⟩ := text_of (i.data.toList.take t.size)
        have st := slice_to i R t.size (by omega) hR
        obtain ⟨b, g⟩ : ∃ b, (R.toList == t.toList) = b := ⟨_, rfl⟩
        have HF : Hid (b = pathL t.data.toList i.data.toList false) := Lib.hid (by
          rw [HS.out, g2, ← take_prefix _ _, lsize, ← g, text_two, hR]; rfl)
        clear HS hR
        go_enter Tryz.func58, Tryz.ntmps58
        go_wp2
        go_ret
        exact ⟨ret_bool HF.out, rfl⟩
      · have HF : Hid (false = pathL t.data.toList i.data.toList false) := Lib.hid (by
          rw [HS.out, g2]
          have : t.data.toList.isPrefixOf i.data.toList = false := by
            rw [Bool.eq_false_iff]
            intro e
            have := (List.isPrefixOf_iff_prefix.1 e).length_le
            rw [lsize, lsize] at this; omega
          rw [this]; rfl)
        clear HS
        go_enter Tryz.func58, Tryz.ntmps58
        go_wp2
        go_ret
        exact ⟨ret_bool HF.out, rfl⟩
  all_goals
    have HF : Hid (true = _) := Lib.hid HS.out.symm
    clear HS
    go_enter Tryz.func58, Tryz.ntmps58
    go_wp2
    go_ret
    exact ⟨ret_bool HF.out, rfl⟩
theorem refPath10_hid (t i : ByteArray) (hts : t.size ≤ 100000) (m b : Bool) (hb : pathL t.data.toList i.data.toList m = b) : Hid (∀ W, Calls Tryz.prog 58 #[.string t, .string i, .bool m] W fun e w' => e = .returned (.bool b) ∧ w' = W) :=
  Lib.hid fun W => by rw [← hb]; exact refPath10_any t i hts m W

/-! Ports. -/
set_option maxRecDepth 100000 in
set_option maxHeartbeats 8000000 in
theorem refPort10_any (k : Int) (t s h : ByteArray) (wd : Bool) (sp : Int) (pa : ByteArray) (o : Bool) (s2 h2 : ByteArray) (p : Int) (pa2 q2 : ByteArray) (w : World) : Calls Tryz.prog 57 #[srcV k t s h wd sp pa, uV o s2 h2 p pa2 q2] w fun e w' => e = .returned (.bool (portL sp (uM o s2 h2 p pa2 q2))) ∧ Below w.heap.size w w' := by
  obtain ⟨d, hd⟩ : ∃ d, dfl s2.data.toList = d := ⟨_, rfl⟩
  have CD := refDefault_hid s2 d hd
  obtain ⟨P, hP⟩ : ∃ P, portU (uM o s2 h2 p pa2 q2) = P := ⟨_, rfl⟩
  have CP := refPort_hid o s2 h2 p pa2 q2 P hP
  have HP := portL_M sp o s2 h2 p pa2 q2 d hd
  rw [hP] at HP
  clear hd hP
  unfold uV srcV at *
  have key : ∀ r : Bool, r = portL sp (uM o s2 h2 p pa2 q2) → (sp = -1 ∧ r = true) ∨ (sp = 0 ∧ r = (P == (d : Int))) ∨ (sp ≠ -1 ∧ sp ≠ 0 ∧ r = ((P == sp) || ((sp == 80) && (P == 443)))) := by
    intro r hr
    rw [HP] at hr
    by_cases s1 : sp = -1
    · rw [if_pos s1] at hr; exact .inl ⟨s1, hr⟩
    · by_cases s0 : sp = 0
      · rw [if_neg s1, if_pos s0] at hr; exact .inr (.inl ⟨s0, hr⟩)
      · rw [if_neg s1, if_neg s0] at hr; exact .inr (.inr ⟨s1, s0, hr⟩)
  obtain ⟨r, hr⟩ : ∃ r, r = portL sp (uM o s2 h2 p pa2 q2) := ⟨_, rfl⟩
  have HF := Lib.hid hr
  have hk := key r hr
  clear key HP hr
  rcases hk with ⟨rfl, rfl⟩ | ⟨rfl, hr⟩ | ⟨s1, s0, hr⟩
  · go_enter Tryz.func57, Tryz.ntmps57
    go_wp2_with fail
    have xn := SX.made w k t s h wd (-1) pa
    have xz := BX.made (w.alloc (.cells #[.int .i64 k, .string t, .string s, .string h, .bool wd, .int .i64 (-1), .string pa] 40)) o s2 h2 p pa2 q2
    have xy := xn.below ((Below.refl _ _).alloc (Nat.le_refl _) (.cells #[.bool o, .string s2, .string h2, .int .i64 p, .string pa2, .string q2] 25))
    have B2 := ((Below.refl w.heap.size w).alloc (Nat.le_refl _) (.cells #[.int .i64 k, .string t, .string s, .string h, .bool wd, .int .i64 (-1), .string pa] 40)).alloc (Below.size ((Below.refl w.heap.size w).alloc (Nat.le_refl _) (.cells #[.int .i64 k, .string t, .string s, .string h, .bool wd, .int .i64 (-1), .string pa] 40))) (.cells #[.bool o, .string s2, .string h2, .int .i64 p, .string pa2, .string q2] 25)
    rw [size_alloc] at xz
    clear xn
    generalize hR : w.heap.size = Ra at xy xz B2 ⊢
    have HR := Lib.hid hR
    clear hR
    obtain ⟨Rb, hRb⟩ : ∃ Rb, Ra + 1 = Rb := ⟨_, rfl⟩
    rw [hRb] at xz
    try rw [hRb]
    clear hRb
    generalize (w.alloc (.cells #[.int .i64 k, .string t, .string s, .string h, .bool wd, .int .i64 (-1), .string pa] 40)).alloc (.cells #[.bool o, .string s2, .string h2, .int .i64 p, .string pa2, .string q2] 25) = w1 at xy xz B2 ⊢
    refine (CP.out _).mono ?_
    rintro e w2 ⟨rfl, b2⟩
    have x2 := xy.below b2
    have z2 := xz.below b2
    have B3 := B2.trans (b2.mono (Nat.le_of_lt xy.lt))
    have c5 := x2.c5
    have c1 := z2.c1
    clear b2 B2 xy xz
    go_wp2
    go_ret
    exact ⟨ret_bool HF.out, by rw [HR.out]; exact B3⟩
  · have g : (P == (d : Int)) = r := hr.symm
    clear hr
    go_enter Tryz.func57, Tryz.ntmps57
    go_wp2_with fail
    have xn := SX.made w k t s h wd 0 pa
    have xz := BX.made (w.alloc (.cells #[.int .i64 k, .string t, .string s, .string h, .bool wd, .int .i64 0, .string pa] 40)) o s2 h2 p pa2 q2
    have xy := xn.below ((Below.refl _ _).alloc (Nat.le_refl _) (.cells #[.bool o, .string s2, .string h2, .int .i64 p, .string pa2, .string q2] 25))
    have B2 := ((Below.refl w.heap.size w).alloc (Nat.le_refl _) (.cells #[.int .i64 k, .string t, .string s, .string h, .bool wd, .int .i64 0, .string pa] 40)).alloc (Below.size ((Below.refl w.heap.size w).alloc (Nat.le_refl _) (.cells #[.int .i64 k, .string t, .string s, .string h, .bool wd, .int .i64 0, .string pa] 40))) (.cells #[.bool o, .string s2, .string h2, .int .i64 p, .string pa2, .string q2] 25)
    rw [size_alloc] at xz
    clear xn
    generalize hR : w.heap.size = Ra at xy xz B2 ⊢
    have HR := Lib.hid hR
    clear hR
    obtain ⟨Rb, hRb⟩ : ∃ Rb, Ra + 1 = Rb := ⟨_, rfl⟩
    rw [hRb] at xz
    try rw [hRb]
    clear hRb
    generalize (w.alloc (.cells #[.int .i64 k, .string t, .string s, .string h, .bool wd, .int .i64 0, .string pa] 40)).alloc (.cells #[.bool o, .string s2, .string h2, .int .i64 p, .string pa2, .string q2] 25) = w1 at xy xz B2 ⊢
    refine (CP.out _).mono ?_
    rintro e w2 ⟨rfl, b2⟩
    have x2 := xy.below b2
    have z2 := xz.below b2
    have B3 := B2.trans (b2.mono (Nat.le_of_lt xy.lt))
    have c5 := x2.c5
    have c1 := z2.c1
    clear b2 B2 xy xz
    go_wp2_with fail
    refine (CD.out _).mono ?_
    rintro e w2 ⟨rfl, rfl⟩
    go_wp2
    go_ret
    exact ⟨ret_bool HF.out, by rw [HR.out]; exact B3⟩
  · have n1 : (sp == -1) = false := by rw [beq_eq_false_iff_ne]; exact s1
    have n0 : (sp == 0) = false := by rw [beq_eq_false_iff_ne]; exact s0
    clear s1 s0
    obtain ⟨b1, g1⟩ : ∃ b, (P == sp) = b := ⟨_, rfl⟩
    obtain ⟨b2, g2⟩ : ∃ b, (sp == 80) = b := ⟨_, rfl⟩
    obtain ⟨b3, g3⟩ : ∃ b, (P == 443) = b := ⟨_, rfl⟩
    rw [g1, g2, g3] at hr
    cases b1 <;> cases b2
    all_goals
      have HG := Lib.hid (hr.symm.trans HF.out)
      clear hr HF
      go_enter Tryz.func57, Tryz.ntmps57
      go_wp2_with fail
      have xn := SX.made w k t s h wd sp pa
      have xz := BX.made (w.alloc (.cells #[.int .i64 k, .string t, .string s, .string h, .bool wd, .int .i64 sp, .string pa] 40)) o s2 h2 p pa2 q2
      have xy := xn.below ((Below.refl _ _).alloc (Nat.le_refl _) (.cells #[.bool o, .string s2, .string h2, .int .i64 p, .string pa2, .string q2] 25))
      have B2 := ((Below.refl w.heap.size w).alloc (Nat.le_refl _) (.cells #[.int .i64 k, .string t, .string s, .string h, .bool wd, .int .i64 sp, .string pa] 40)).alloc (Below.size ((Below.refl w.heap.size w).alloc (Nat.le_refl _) (.cells #[.int .i64 k, .string t, .string s, .string h, .bool wd, .int .i64 sp, .string pa] 40))) (.cells #[.bool o, .string s2, .string h2, .int .i64 p, .string pa2, .string q2] 25)
      rw [size_alloc] at xz
      clear xn
      generalize hR : w.heap.size = Ra at xy xz B2 ⊢
      have HR := Lib.hid hR
      clear hR
      obtain ⟨Rb, hRb⟩ : ∃ Rb, Ra + 1 = Rb := ⟨_, rfl⟩
      rw [hRb] at xz
      try rw [hRb]
      clear hRb
      generalize (w.alloc (.cells #[.int .i64 k, .string t, .string s, .string h, .bool wd, .int .i64 sp, .string pa] 40)).alloc (.cells #[.bool o, .string s2, .string h2, .int .i64 p, .string pa2, .string q2] 25) = w1 at xy xz B2 ⊢
      refine (CP.out _).mono ?_
      rintro e w2 ⟨rfl, b2⟩
      have x2 := xy.below b2
      have z2 := xz.below b2
      have B3 := B2.trans (b2.mono (Nat.le_of_lt xy.lt))
      have c5 := x2.c5
      have c1 := z2.c1
      clear b2 B2 xy xz
      go_wp2
      go_ret
      exact ⟨ret_bool HG.out, by rw [HR.out]; exact B3⟩
theorem refPort10_hid (k : Int) (t s h : ByteArray) (wd : Bool) (sp : Int) (pa : ByteArray) (o : Bool) (s2 h2 : ByteArray) (p : Int) (pa2 q2 : ByteArray) (b : Bool) (hb : portL sp (uM o s2 h2 p pa2 q2) = b) : Hid (∀ W, Calls Tryz.prog 57 #[srcV k t s h wd sp pa, uV o s2 h2 p pa2 q2] W fun e w' => e = .returned (.bool b) ∧ Below W.heap.size W w') :=
  Lib.hid fun W => by rw [← hb]; exact refPort10_any k t s h wd sp pa o s2 h2 p pa2 q2 W

end Go.Proofs.YtaldjkbnngeahaaGreatDoor
