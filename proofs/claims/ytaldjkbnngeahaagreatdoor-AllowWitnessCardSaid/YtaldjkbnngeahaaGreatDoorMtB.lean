/- Whether a port is let be: the program's. -/
import Derived.Test.YtaldjkbnngeahaaGreatDoorMtA
namespace Go.Proofs.YtaldjkbnngeahaaGreatDoor
open Go.RowKit

theorem dfl_three (l : List UInt8) : dfl l = 0 ∨ dfl l = 80 ∨ dfl l = 443 := by
  unfold dfl; split
  · right; left; rfl
  · split
    · right; right; rfl
    · left; rfl
theorem portU_M (o : Bool) (s h : ByteArray) (p : Int) (pa q : ByteArray) (d : Nat) (hd : dfl s.data.toList = d) : portU (uM o s h p pa q) = if p = 0 then (d : Int) else p := by rw [← hd]; rfl
theorem portL_M (sp : Int) (o : Bool) (s h : ByteArray) (p : Int) (pa q : ByteArray) (d : Nat) (hd : dfl s.data.toList = d) : portL sp (uM o s h p pa q) = if sp = -1 then true else if sp = 0 then decide (portU (uM o s h p pa q) = (d : Int)) else decide (portU (uM o s h p pa q) = sp) || (decide (sp = 80) && decide (portU (uM o s h p pa q) = 443)) := by rw [← hd]; rfl

set_option maxRecDepth 100000 in
set_option maxHeartbeats 8000000 in
theorem matPort_any (k : Int) (t s h : ByteArray) (wd : Bool) (sp : Int) (pa : ByteArray) (o : Bool) (s2 h2 : ByteArray) (p : Int) (pa2 q2 : ByteArray) (w : World) : Calls Tryz.prog 76 #[srcV k t s h wd sp pa, uV o s2 h2 p pa2 q2] w fun e w' => e = .returned (.bool (portL sp (uM o s2 h2 p pa2 q2))) ∧ Below w.heap.size w w' := by
  obtain ⟨d, hd⟩ : ∃ d, dfl s2.data.toList = d := ⟨_, rfl⟩
  have hd3 : d = 0 ∨ d = 80 ∨ d = 443 := by rw [← hd]; exact dfl_three _
  have CD := default_hid s2 d hd
  have HP := Lib.hid (portL_M sp o s2 h2 p pa2 q2 d hd)
  have HU := Lib.hid (portU_M o s2 h2 p pa2 q2 d hd)
  clear hd
  unfold uV srcV
  by_cases s1 : sp = -1
  · subst s1
    by_cases h0 : p = 0
    · subst h0
      have HF : Hid (true = portL (-1) (uM o s2 h2 0 pa2 q2)) := Lib.hid (by rw [HP.out, if_pos rfl])
      clear HP HU
      go_enter Tryz.func76, Tryz.ntmps76
      go_wp2_with fail
      have xn := SX.made w k t s h wd (-1) pa
      have xz := BX.made (w.alloc (.cells #[.int .i64 k, .string t, .string s, .string h, .bool wd, .int .i64 (-1), .string pa] 40)) o s2 h2 0 pa2 q2
      have xy := xn.below ((Below.refl _ _).alloc (Nat.le_refl _) (.cells #[.bool o, .string s2, .string h2, .int .i64 0, .string pa2, .string q2] 25))
      have B2 := ((Below.refl w.heap.size w).alloc (Nat.le_refl _) (.cells #[.int .i64 k, .string t, .string s, .string h, .bool wd, .int .i64 (-1), .string pa] 40)).alloc (Below.size ((Below.refl w.heap.size w).alloc (Nat.le_refl _) (.cells #[.int .i64 k, .string t, .string s, .string h, .bool wd, .int .i64 (-1), .string pa] 40))) (.cells #[.bool o, .string s2, .string h2, .int .i64 0, .string pa2, .string q2] 25)
      rw [size_alloc] at xz
      clear xn
      generalize hR : w.heap.size = Ra at xy xz B2 ⊢
      have HR := Lib.hid hR
      clear hR
      obtain ⟨Rb, hRb⟩ : ∃ Rb, Ra + 1 = Rb := ⟨_, rfl⟩
      rw [hRb] at xz
      try rw [hRb]
      clear hRb
      generalize (w.alloc (.cells #[.int .i64 k, .string t, .string s, .string h, .bool wd, .int .i64 (-1), .string pa] 40)).alloc (.cells #[.bool o, .string s2, .string h2, .int .i64 0, .string pa2, .string q2] 25) = w1 at xy xz B2 ⊢
      have c1 := xz.c1
      have c3 := xz.c3
      have c5 := xy.c5
      go_wp2_with fail
      refine (CD.out _).mono ?_
      rintro e w1 ⟨rfl, rfl⟩
      go_wp2
      go_ret
      exact ⟨ret_bool HF.out, by rw [HR.out]; exact B2⟩
    · have n0 : (p == 0) = false := by rw [beq_eq_false_iff_ne]; exact h0
      have hU : portU (uM o s2 h2 p pa2 q2) = p := by rw [HU.out, if_neg h0]
      clear h0 hU
      have HF : Hid (true = portL (-1) (uM o s2 h2 p pa2 q2)) := Lib.hid (by rw [HP.out, if_pos rfl])
      clear HP HU
      go_enter Tryz.func76, Tryz.ntmps76
      go_wp2_with fail
      have xn := SX.made w k t s h wd (-1) pa
      have xz := BX.made (w.alloc (.cells #[.int .i64 k, .string t, .string s, .string h, .bool wd, .int .i64 (-1), .string pa] 40)) o s2 h2 p pa2 q2
      have xy := xn.below ((Below.refl _ _).alloc (Nat.le_refl _) (.cells #[.bool o, .string s2, .string h2, .int .i64 p, .string pa2, .string q2] 25))
      have B2 := ((Below.refl w.heap.size w).alloc (Nat.le_refl _) (.cells #[.int .i64 k, .string t, .string s, .string h, .bool wd, .int .i64 (-1), .string pa] 40)).alloc (Below.size ((Below.refl w.heap.size w).alloc (Nat.le_refl _) (.cells #[.int .i64 k, .string t, .string s, .string h, .bool wd, .int .i64 (-1), .string pa] 40))) (.cells #[.bool o, .string s2, .string h2, .int .i64 p, .string pa2, .string q2] 25)
      rw [size_alloc] at xz
      clear xn
      generalize hR : w.heap.size = Ra at xy xz B2 ⊢
      have HR := Lib.hid hR
      clear hR
      obtain ⟨Rb, hRb⟩ : ∃ Rb, Ra + 1 = Rb := ⟨_, rfl⟩
      rw [hRb] at xz
      try rw [hRb]
      clear hRb
      generalize (w.alloc (.cells #[.int .i64 k, .string t, .string s, .string h, .bool wd, .int .i64 (-1), .string pa] 40)).alloc (.cells #[.bool o, .string s2, .string h2, .int .i64 p, .string pa2, .string q2] 25) = w1 at xy xz B2 ⊢
      have c1 := xz.c1
      have c3 := xz.c3
      have c5 := xy.c5
      go_wp2_with fail
      refine (CD.out _).mono ?_
      rintro e w1 ⟨rfl, rfl⟩
      go_wp2
      go_ret
      exact ⟨ret_bool HF.out, by rw [HR.out]; exact B2⟩
  have n1 : (sp == -1) = false := by rw [beq_eq_false_iff_ne]; exact s1
  by_cases s0 : sp = 0
  · subst s0
    by_cases h0 : p = 0
    · subst h0
      have HF : Hid (true = portL 0 (uM o s2 h2 0 pa2 q2)) := Lib.hid (by rw [HP.out, if_neg (by decide), if_pos rfl, HU.out, if_pos rfl]; simp)
      clear HP HU
      go_enter Tryz.func76, Tryz.ntmps76
      go_wp2_with fail
      have xn := SX.made w k t s h wd 0 pa
      have xz := BX.made (w.alloc (.cells #[.int .i64 k, .string t, .string s, .string h, .bool wd, .int .i64 0, .string pa] 40)) o s2 h2 0 pa2 q2
      have xy := xn.below ((Below.refl _ _).alloc (Nat.le_refl _) (.cells #[.bool o, .string s2, .string h2, .int .i64 0, .string pa2, .string q2] 25))
      have B2 := ((Below.refl w.heap.size w).alloc (Nat.le_refl _) (.cells #[.int .i64 k, .string t, .string s, .string h, .bool wd, .int .i64 0, .string pa] 40)).alloc (Below.size ((Below.refl w.heap.size w).alloc (Nat.le_refl _) (.cells #[.int .i64 k, .string t, .string s, .string h, .bool wd, .int .i64 0, .string pa] 40))) (.cells #[.bool o, .string s2, .string h2, .int .i64 0, .string pa2, .string q2] 25)
      rw [size_alloc] at xz
      clear xn
      generalize hR : w.heap.size = Ra at xy xz B2 ⊢
      have HR := Lib.hid hR
      clear hR
      obtain ⟨Rb, hRb⟩ : ∃ Rb, Ra + 1 = Rb := ⟨_, rfl⟩
      rw [hRb] at xz
      try rw [hRb]
      clear hRb
      generalize (w.alloc (.cells #[.int .i64 k, .string t, .string s, .string h, .bool wd, .int .i64 0, .string pa] 40)).alloc (.cells #[.bool o, .string s2, .string h2, .int .i64 0, .string pa2, .string q2] 25) = w1 at xy xz B2 ⊢
      have c1 := xz.c1
      have c3 := xz.c3
      have c5 := xy.c5
      go_wp2_with fail
      refine (CD.out _).mono ?_
      rintro e w1 ⟨rfl, rfl⟩
      go_wp2
      go_ret
      exact ⟨ret_bool HF.out, by rw [HR.out]; exact B2⟩
    · have n0 : (p == 0) = false := by rw [beq_eq_false_iff_ne]; exact h0
      have hU : portU (uM o s2 h2 p pa2 q2) = p := by rw [HU.out, if_neg h0]
      obtain ⟨b, g⟩ : ∃ b, (p == (d : Int)) = b := ⟨_, rfl⟩
      have HF : Hid (b = portL 0 (uM o s2 h2 p pa2 q2)) := Lib.hid (by rw [HP.out, if_neg (by decide), if_pos rfl, hU, ← g]; rfl)
      clear HP HU h0 hU
      go_enter Tryz.func76, Tryz.ntmps76
      go_wp2_with fail
      have xn := SX.made w k t s h wd 0 pa
      have xz := BX.made (w.alloc (.cells #[.int .i64 k, .string t, .string s, .string h, .bool wd, .int .i64 0, .string pa] 40)) o s2 h2 p pa2 q2
      have xy := xn.below ((Below.refl _ _).alloc (Nat.le_refl _) (.cells #[.bool o, .string s2, .string h2, .int .i64 p, .string pa2, .string q2] 25))
      have B2 := ((Below.refl w.heap.size w).alloc (Nat.le_refl _) (.cells #[.int .i64 k, .string t, .string s, .string h, .bool wd, .int .i64 0, .string pa] 40)).alloc (Below.size ((Below.refl w.heap.size w).alloc (Nat.le_refl _) (.cells #[.int .i64 k, .string t, .string s, .string h, .bool wd, .int .i64 0, .string pa] 40))) (.cells #[.bool o, .string s2, .string h2, .int .i64 p, .string pa2, .string q2] 25)
      rw [size_alloc] at xz
      clear xn
      generalize hR : w.heap.size = Ra at xy xz B2 ⊢
      have HR := Lib.hid hR
      clear hR
      obtain ⟨Rb, hRb⟩ : ∃ Rb, Ra + 1 = Rb := ⟨_, rfl⟩
      rw [hRb] at xz
      try rw [hRb]
      clear hRb
      generalize (w.alloc (.cells #[.int .i64 k, .string t, .string s, .string h, .bool wd, .int .i64 0, .string pa] 40)).alloc (.cells #[.bool o, .string s2, .string h2, .int .i64 p, .string pa2, .string q2] 25) = w1 at xy xz B2 ⊢
      have c1 := xz.c1
      have c3 := xz.c3
      have c5 := xy.c5
      go_wp2_with fail
      refine (CD.out _).mono ?_
      rintro e w1 ⟨rfl, rfl⟩
      go_wp2
      go_ret
      exact ⟨ret_bool HF.out, by rw [HR.out]; exact B2⟩
  have n2 : (sp == 0) = false := by rw [beq_eq_false_iff_ne]; exact s0
  by_cases s8 : sp = 80
  · subst s8
    by_cases h0 : p = 0
    · subst h0
      obtain rfl | rfl | rfl := hd3
      all_goals
        have HF : Hid (_ = portL 80 (uM o s2 h2 0 pa2 q2)) := Lib.hid (by exact (by rw [HP.out, if_neg (by decide), if_neg (by decide), HU.out, if_pos rfl] : portL 80 (uM o s2 h2 0 pa2 q2) = _).symm)
        clear HP HU
        go_enter Tryz.func76, Tryz.ntmps76
        go_wp2_with fail
        have xn := SX.made w k t s h wd 80 pa
        have xz := BX.made (w.alloc (.cells #[.int .i64 k, .string t, .string s, .string h, .bool wd, .int .i64 80, .string pa] 40)) o s2 h2 0 pa2 q2
        have xy := xn.below ((Below.refl _ _).alloc (Nat.le_refl _) (.cells #[.bool o, .string s2, .string h2, .int .i64 0, .string pa2, .string q2] 25))
        have B2 := ((Below.refl w.heap.size w).alloc (Nat.le_refl _) (.cells #[.int .i64 k, .string t, .string s, .string h, .bool wd, .int .i64 80, .string pa] 40)).alloc (Below.size ((Below.refl w.heap.size w).alloc (Nat.le_refl _) (.cells #[.int .i64 k, .string t, .string s, .string h, .bool wd, .int .i64 80, .string pa] 40))) (.cells #[.bool o, .string s2, .string h2, .int .i64 0, .string pa2, .string q2] 25)
        rw [size_alloc] at xz
        clear xn
        generalize hR : w.heap.size = Ra at xy xz B2 ⊢
        have HR := Lib.hid hR
        clear hR
        obtain ⟨Rb, hRb⟩ : ∃ Rb, Ra + 1 = Rb := ⟨_, rfl⟩
        rw [hRb] at xz
        try rw [hRb]
        clear hRb
        generalize (w.alloc (.cells #[.int .i64 k, .string t, .string s, .string h, .bool wd, .int .i64 80, .string pa] 40)).alloc (.cells #[.bool o, .string s2, .string h2, .int .i64 0, .string pa2, .string q2] 25) = w1 at xy xz B2 ⊢
        have c1 := xz.c1
        have c3 := xz.c3
        have c5 := xy.c5
        go_wp2_with fail
        refine (CD.out _).mono ?_
        rintro e w1 ⟨rfl, rfl⟩
        go_wp2
        go_ret
        exact ⟨ret_bool HF.out, by rw [HR.out]; exact B2⟩
    · have n0 : (p == 0) = false := by rw [beq_eq_false_iff_ne]; exact h0
      have hU : portU (uM o s2 h2 p pa2 q2) = p := by rw [HU.out, if_neg h0]
      obtain ⟨b, g⟩ : ∃ b, (p == 80) = b := ⟨_, rfl⟩
      obtain ⟨b2, g2⟩ : ∃ b, (p == 443) = b := ⟨_, rfl⟩
      have HB : Hid ((b || b2) = portL 80 (uM o s2 h2 p pa2 q2)) := Lib.hid (by rw [HP.out, if_neg (by decide), if_neg (by decide), hU, ← g, ← g2]; rfl)
      clear HP HU h0 hU n1 n2 s1 s0
      cases b
      all_goals
        have HF : Hid (_ = portL 80 (uM o s2 h2 p pa2 q2)) := Lib.hid (by exact HB.out)
        go_enter Tryz.func76, Tryz.ntmps76
        go_wp2_with fail
        have xn := SX.made w k t s h wd 80 pa
        have xz := BX.made (w.alloc (.cells #[.int .i64 k, .string t, .string s, .string h, .bool wd, .int .i64 80, .string pa] 40)) o s2 h2 p pa2 q2
        have xy := xn.below ((Below.refl _ _).alloc (Nat.le_refl _) (.cells #[.bool o, .string s2, .string h2, .int .i64 p, .string pa2, .string q2] 25))
        have B2 := ((Below.refl w.heap.size w).alloc (Nat.le_refl _) (.cells #[.int .i64 k, .string t, .string s, .string h, .bool wd, .int .i64 80, .string pa] 40)).alloc (Below.size ((Below.refl w.heap.size w).alloc (Nat.le_refl _) (.cells #[.int .i64 k, .string t, .string s, .string h, .bool wd, .int .i64 80, .string pa] 40))) (.cells #[.bool o, .string s2, .string h2, .int .i64 p, .string pa2, .string q2] 25)
        rw [size_alloc] at xz
        clear xn
        generalize hR : w.heap.size = Ra at xy xz B2 ⊢
        have HR := Lib.hid hR
        clear hR
        obtain ⟨Rb, hRb⟩ : ∃ Rb, Ra + 1 = Rb := ⟨_, rfl⟩
        rw [hRb] at xz
        try rw [hRb]
        clear hRb
        generalize (w.alloc (.cells #[.int .i64 k, .string t, .string s, .string h, .bool wd, .int .i64 80, .string pa] 40)).alloc (.cells #[.bool o, .string s2, .string h2, .int .i64 p, .string pa2, .string q2] 25) = w1 at xy xz B2 ⊢
        have c1 := xz.c1
        have c3 := xz.c3
        have c5 := xy.c5
        go_wp2_with fail
        refine (CD.out _).mono ?_
        rintro e w1 ⟨rfl, rfl⟩
        go_wp2
        go_ret
        exact ⟨ret_bool HF.out, by rw [HR.out]; exact B2⟩
  have n3 : (sp == 80) = false := by rw [beq_eq_false_iff_ne]; exact s8
  by_cases h0 : p = 0
  · subst h0
    obtain ⟨b, g⟩ : ∃ b, ((d : Int) == sp) = b := ⟨_, rfl⟩
    have HF : Hid (b = portL sp (uM o s2 h2 0 pa2 q2)) := Lib.hid (by rw [HP.out, if_neg s1, if_neg s0, HU.out, if_pos rfl, decide_eq_false s8, Bool.false_and, Bool.or_false, ← g]; rfl)
    clear HP HU
    go_enter Tryz.func76, Tryz.ntmps76
    go_wp2_with fail
    have xn := SX.made w k t s h wd sp pa
    have xz := BX.made (w.alloc (.cells #[.int .i64 k, .string t, .string s, .string h, .bool wd, .int .i64 sp, .string pa] 40)) o s2 h2 0 pa2 q2
    have xy := xn.below ((Below.refl _ _).alloc (Nat.le_refl _) (.cells #[.bool o, .string s2, .string h2, .int .i64 0, .string pa2, .string q2] 25))
    have B2 := ((Below.refl w.heap.size w).alloc (Nat.le_refl _) (.cells #[.int .i64 k, .string t, .string s, .string h, .bool wd, .int .i64 sp, .string pa] 40)).alloc (Below.size ((Below.refl w.heap.size w).alloc (Nat.le_refl _) (.cells #[.int .i64 k, .string t, .string s, .string h, .bool wd, .int .i64 sp, .string pa] 40))) (.cells #[.bool o, .string s2, .string h2, .int .i64 0, .string pa2, .string q2] 25)
    rw [size_alloc] at xz
    clear xn
    generalize hR : w.heap.size = Ra at xy xz B2 ⊢
    have HR := Lib.hid hR
    clear hR
    obtain ⟨Rb, hRb⟩ : ∃ Rb, Ra + 1 = Rb := ⟨_, rfl⟩
    rw [hRb] at xz
    try rw [hRb]
    clear hRb
    generalize (w.alloc (.cells #[.int .i64 k, .string t, .string s, .string h, .bool wd, .int .i64 sp, .string pa] 40)).alloc (.cells #[.bool o, .string s2, .string h2, .int .i64 0, .string pa2, .string q2] 25) = w1 at xy xz B2 ⊢
    have c1 := xz.c1
    have c3 := xz.c3
    have c5 := xy.c5
    go_wp2_with fail
    refine (CD.out _).mono ?_
    rintro e w1 ⟨rfl, rfl⟩
    go_wp2
    go_ret
    exact ⟨ret_bool HF.out, by rw [HR.out]; exact B2⟩
  · have n0 : (p == 0) = false := by rw [beq_eq_false_iff_ne]; exact h0
    have hU : portU (uM o s2 h2 p pa2 q2) = p := by rw [HU.out, if_neg h0]
    obtain ⟨b, g⟩ : ∃ b, (p == sp) = b := ⟨_, rfl⟩
    have HF : Hid (b = portL sp (uM o s2 h2 p pa2 q2)) := Lib.hid (by rw [HP.out, if_neg s1, if_neg s0, hU, decide_eq_false s8, Bool.false_and, Bool.or_false, ← g]; rfl)
    clear HP HU h0 hU
    go_enter Tryz.func76, Tryz.ntmps76
    go_wp2_with fail
    have xn := SX.made w k t s h wd sp pa
    have xz := BX.made (w.alloc (.cells #[.int .i64 k, .string t, .string s, .string h, .bool wd, .int .i64 sp, .string pa] 40)) o s2 h2 p pa2 q2
    have xy := xn.below ((Below.refl _ _).alloc (Nat.le_refl _) (.cells #[.bool o, .string s2, .string h2, .int .i64 p, .string pa2, .string q2] 25))
    have B2 := ((Below.refl w.heap.size w).alloc (Nat.le_refl _) (.cells #[.int .i64 k, .string t, .string s, .string h, .bool wd, .int .i64 sp, .string pa] 40)).alloc (Below.size ((Below.refl w.heap.size w).alloc (Nat.le_refl _) (.cells #[.int .i64 k, .string t, .string s, .string h, .bool wd, .int .i64 sp, .string pa] 40))) (.cells #[.bool o, .string s2, .string h2, .int .i64 p, .string pa2, .string q2] 25)
    rw [size_alloc] at xz
    clear xn
    generalize hR : w.heap.size = Ra at xy xz B2 ⊢
    have HR := Lib.hid hR
    clear hR
    obtain ⟨Rb, hRb⟩ : ∃ Rb, Ra + 1 = Rb := ⟨_, rfl⟩
    rw [hRb] at xz
    try rw [hRb]
    clear hRb
    generalize (w.alloc (.cells #[.int .i64 k, .string t, .string s, .string h, .bool wd, .int .i64 sp, .string pa] 40)).alloc (.cells #[.bool o, .string s2, .string h2, .int .i64 p, .string pa2, .string q2] 25) = w1 at xy xz B2 ⊢
    have c1 := xz.c1
    have c3 := xz.c3
    have c5 := xy.c5
    go_wp2_with fail
    refine (CD.out _).mono ?_
    rintro e w1 ⟨rfl, rfl⟩
    go_wp2
    go_ret
    exact ⟨ret_bool HF.out, by rw [HR.out]; exact B2⟩
theorem matPort_hid (k : Int) (t s h : ByteArray) (wd : Bool) (sp : Int) (pa : ByteArray) (o : Bool) (s2 h2 : ByteArray) (p : Int) (pa2 q2 : ByteArray) (b : Bool) (hb : portL sp (uM o s2 h2 p pa2 q2) = b) : Hid (∀ W, Calls Tryz.prog 76 #[srcV k t s h wd sp pa, uV o s2 h2 p pa2 q2] W fun e w' => e = .returned (.bool b) ∧ Below W.heap.size W w') :=
  Lib.hid fun W => by rw [← hb]; exact matPort_any k t s h wd sp pa o s2 h2 p pa2 q2 W

end Go.Proofs.YtaldjkbnngeahaaGreatDoor
