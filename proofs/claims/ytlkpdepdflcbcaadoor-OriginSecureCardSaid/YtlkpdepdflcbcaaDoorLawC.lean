/- Two right addresses have one origin just if scheme, host and port are the same. -/
import Derived.Test.YtlkpdepdflcbcaaDoorLawB
namespace Go.Proofs.YtlkpdepdflcbcaaDoor
open Go.RowKit

set_option maxRecDepth 100000 in
set_option maxHeartbeats 8000000 in
theorem apart_1 (o : Bool) (s h : ByteArray) (p : Int) (pa q : ByteArray) (o9 : Bool) (s9 h9 : ByteArray) (p9 : Int) (pa9 q9 : ByteArray) (CB1 : Hid (∀ W, Calls Tryd.prog 12 #[uV o s h p pa q] W fun e w' => e = .returned (.bool true) ∧ Below W.heap.size W w')) (w : World) (hm : MaxIn w) (ht : TabIn w) : Calls Tryd.prog 4 #[uV o s h p pa q, uV o9 s9 h9 p9 pa9 q9] w fun e w' => e = .returned (.bool true) ∧ Below w.heap.size w w' := by
  have FR := froms_hid
  unfold uV at *
  go_enter Tryd.func4, Tryd.ntmps4
  go_wp2_with fail
  have xn := BX.made w o s h p pa q
  have xz := BX.made (w.alloc (.cells #[.bool o, .string s, .string h, .int .i64 p, .string pa, .string q] 28)) o9 s9 h9 p9 pa9 q9
  have xy := xn.below ((Below.refl _ _).alloc (Nat.le_refl _) (.cells #[.bool o9, .string s9, .string h9, .int .i64 p9, .string pa9, .string q9] 28))
  have mB := (hm.made (.cells #[.bool o, .string s, .string h, .int .i64 p, .string pa, .string q] 28)).made (.cells #[.bool o9, .string s9, .string h9, .int .i64 p9, .string pa9, .string q9] 28)
  have tB := (ht.made (.cells #[.bool o, .string s, .string h, .int .i64 p, .string pa, .string q] 28)).made (.cells #[.bool o9, .string s9, .string h9, .int .i64 p9, .string pa9, .string q9] 28)
  have BB := ((Below.refl w.heap.size w).alloc (Nat.le_refl _) (.cells #[.bool o, .string s, .string h, .int .i64 p, .string pa, .string q] 28)).alloc (Below.size ((Below.refl w.heap.size w).alloc (Nat.le_refl _) (.cells #[.bool o, .string s, .string h, .int .i64 p, .string pa, .string q] 28))) (.cells #[.bool o9, .string s9, .string h9, .int .i64 p9, .string pa9, .string q9] 28)
  rw [size_alloc] at xz
  clear xn hm ht
  generalize hR : w.heap.size = Ra at xy xz BB ⊢
  have HR := Lib.hid hR
  clear hR
  obtain ⟨Rb, hRb⟩ : ∃ Rb, Ra + 1 = Rb := ⟨_, rfl⟩
  rw [hRb] at xz
  try rw [hRb]
  clear hRb
  generalize (w.alloc (.cells #[.bool o, .string s, .string h, .int .i64 p, .string pa, .string q] 28)).alloc (.cells #[.bool o9, .string s9, .string h9, .int .i64 p9, .string pa9, .string q9] 28) = w1 at xy xz mB tB BB ⊢
  have xRa_w1 := xy
  have xRb_w1 := xz
  clear xy xz
  refine (CB1.out _ ).mono ?_
  rintro e w2 ⟨rfl, b_⟩
  have mw2 := mB.below b_
  have tw2 := tB.below b_
  have Bw2 := BB.trans (b_.mono (Nat.le_of_lt xRa_w1.lt))
  have xRa_w2 := xRa_w1.below b_
  have xRb_w2 := xRb_w1.below b_
  clear b_ mB tB BB xRa_w1 xRb_w1
  have dRa0 := xRa_w2.c0
  have dRa1 := xRa_w2.c1
  have dRa2 := xRa_w2.c2
  have dRa3 := xRa_w2.c3
  have dRa4 := xRa_w2.c4
  have dRa5 := xRa_w2.c5
  have dRb0 := xRb_w2.c0
  have dRb1 := xRb_w2.c1
  have dRb2 := xRb_w2.c2
  have dRb3 := xRb_w2.c3
  have dRb4 := xRb_w2.c4
  have dRb5 := xRb_w2.c5
  go_wp2_with fail
  clear dRa0 dRa1 dRa2 dRa3 dRa4 dRa5 dRb0 dRb1 dRb2 dRb3 dRb4 dRb5
  refine (FR.out _ mw2 tw2).mono ?_
  rintro e w3 ⟨rfl, b_⟩
  have mw3 := mw2.below b_
  have tw3 := tw2.below b_
  have Bw3 := Bw2.trans (b_.mono (Nat.le_of_lt xRa_w2.lt))
  have xRa_w3 := xRa_w2.below b_
  have xRb_w3 := xRb_w2.below b_
  clear b_ mw2 tw2 Bw2 xRa_w2 xRb_w2
  go_wp2
  go_ret
  exact ⟨rfl, by rw [HR.out]; exact Bw3⟩

set_option maxRecDepth 100000 in
set_option maxHeartbeats 8000000 in
theorem apart_2 (o : Bool) (s h : ByteArray) (p : Int) (pa q : ByteArray) (o9 : Bool) (s9 h9 : ByteArray) (p9 : Int) (pa9 q9 : ByteArray) (CB1 : Hid (∀ W, Calls Tryd.prog 12 #[uV o s h p pa q] W fun e w' => e = .returned (.bool false) ∧ Below W.heap.size W w')) (CB2 : Hid (∀ W, Calls Tryd.prog 12 #[uV o9 s9 h9 p9 pa9 q9] W fun e w' => e = .returned (.bool true) ∧ Below W.heap.size W w')) (w : World) (hm : MaxIn w) (ht : TabIn w) : Calls Tryd.prog 4 #[uV o s h p pa q, uV o9 s9 h9 p9 pa9 q9] w fun e w' => e = .returned (.bool true) ∧ Below w.heap.size w w' := by
  have FR := froms_hid
  unfold uV at *
  go_enter Tryd.func4, Tryd.ntmps4
  go_wp2_with fail
  have xn := BX.made w o s h p pa q
  have xz := BX.made (w.alloc (.cells #[.bool o, .string s, .string h, .int .i64 p, .string pa, .string q] 28)) o9 s9 h9 p9 pa9 q9
  have xy := xn.below ((Below.refl _ _).alloc (Nat.le_refl _) (.cells #[.bool o9, .string s9, .string h9, .int .i64 p9, .string pa9, .string q9] 28))
  have mB := (hm.made (.cells #[.bool o, .string s, .string h, .int .i64 p, .string pa, .string q] 28)).made (.cells #[.bool o9, .string s9, .string h9, .int .i64 p9, .string pa9, .string q9] 28)
  have tB := (ht.made (.cells #[.bool o, .string s, .string h, .int .i64 p, .string pa, .string q] 28)).made (.cells #[.bool o9, .string s9, .string h9, .int .i64 p9, .string pa9, .string q9] 28)
  have BB := ((Below.refl w.heap.size w).alloc (Nat.le_refl _) (.cells #[.bool o, .string s, .string h, .int .i64 p, .string pa, .string q] 28)).alloc (Below.size ((Below.refl w.heap.size w).alloc (Nat.le_refl _) (.cells #[.bool o, .string s, .string h, .int .i64 p, .string pa, .string q] 28))) (.cells #[.bool o9, .string s9, .string h9, .int .i64 p9, .string pa9, .string q9] 28)
  rw [size_alloc] at xz
  clear xn hm ht
  generalize hR : w.heap.size = Ra at xy xz BB ⊢
  have HR := Lib.hid hR
  clear hR
  obtain ⟨Rb, hRb⟩ : ∃ Rb, Ra + 1 = Rb := ⟨_, rfl⟩
  rw [hRb] at xz
  try rw [hRb]
  clear hRb
  generalize (w.alloc (.cells #[.bool o, .string s, .string h, .int .i64 p, .string pa, .string q] 28)).alloc (.cells #[.bool o9, .string s9, .string h9, .int .i64 p9, .string pa9, .string q9] 28) = w1 at xy xz mB tB BB ⊢
  have xRa_w1 := xy
  have xRb_w1 := xz
  clear xy xz
  refine (CB1.out _ ).mono ?_
  rintro e w2 ⟨rfl, b_⟩
  have mw2 := mB.below b_
  have tw2 := tB.below b_
  have Bw2 := BB.trans (b_.mono (Nat.le_of_lt xRa_w1.lt))
  have xRa_w2 := xRa_w1.below b_
  have xRb_w2 := xRb_w1.below b_
  clear b_ mB tB BB xRa_w1 xRb_w1
  have dRb0 := xRb_w2.c0
  have dRb1 := xRb_w2.c1
  have dRb2 := xRb_w2.c2
  have dRb3 := xRb_w2.c3
  have dRb4 := xRb_w2.c4
  have dRb5 := xRb_w2.c5
  go_wp2_with fail
  clear dRb0 dRb1 dRb2 dRb3 dRb4 dRb5
  refine (CB2.out _ ).mono ?_
  rintro e w3 ⟨rfl, b_⟩
  have mw3 := mw2.below b_
  have tw3 := tw2.below b_
  have Bw3 := Bw2.trans (b_.mono (Nat.le_of_lt xRa_w2.lt))
  have xRa_w3 := xRa_w2.below b_
  have xRb_w3 := xRb_w2.below b_
  clear b_ mw2 tw2 Bw2 xRa_w2 xRb_w2
  have dRa0 := xRa_w3.c0
  have dRa1 := xRa_w3.c1
  have dRa2 := xRa_w3.c2
  have dRa3 := xRa_w3.c3
  have dRa4 := xRa_w3.c4
  have dRa5 := xRa_w3.c5
  have dRb0 := xRb_w3.c0
  have dRb1 := xRb_w3.c1
  have dRb2 := xRb_w3.c2
  have dRb3 := xRb_w3.c3
  have dRb4 := xRb_w3.c4
  have dRb5 := xRb_w3.c5
  go_wp2_with fail
  clear dRa0 dRa1 dRa2 dRa3 dRa4 dRa5 dRb0 dRb1 dRb2 dRb3 dRb4 dRb5
  refine (FR.out _ mw3 tw3).mono ?_
  rintro e w4 ⟨rfl, b_⟩
  have mw4 := mw3.below b_
  have tw4 := tw3.below b_
  have Bw4 := Bw3.trans (b_.mono (Nat.le_of_lt xRa_w3.lt))
  have xRa_w4 := xRa_w3.below b_
  have xRb_w4 := xRb_w3.below b_
  clear b_ mw3 tw3 Bw3 xRa_w3 xRb_w3
  go_wp2
  go_ret
  exact ⟨rfl, by rw [HR.out]; exact Bw4⟩

set_option maxRecDepth 100000 in
set_option maxHeartbeats 8000000 in
theorem apart_3 (o : Bool) (s h : ByteArray) (p : Int) (pa q : ByteArray) (o9 : Bool) (s9 h9 : ByteArray) (p9 : Int) (pa9 q9 : ByteArray) (CB1 : Hid (∀ W, Calls Tryd.prog 12 #[uV o s h p pa q] W fun e w' => e = .returned (.bool false) ∧ Below W.heap.size W w')) (CB2 : Hid (∀ W, Calls Tryd.prog 12 #[uV o9 s9 h9 p9 pa9 q9] W fun e w' => e = .returned (.bool false) ∧ Below W.heap.size W w')) (CC1 : Hid (∀ W, MaxIn W → TabIn W → Calls Tryd.prog 13 #[uV o s h p pa q] W fun e w' => e = .returned (.int .i64 50) ∧ Below W.heap.size W w')) (w : World) (hm : MaxIn w) (ht : TabIn w) : Calls Tryd.prog 4 #[uV o s h p pa q, uV o9 s9 h9 p9 pa9 q9] w fun e w' => e = .returned (.bool true) ∧ Below w.heap.size w w' := by
  have FR := froms_hid
  unfold uV at *
  go_enter Tryd.func4, Tryd.ntmps4
  go_wp2_with fail
  have xn := BX.made w o s h p pa q
  have xz := BX.made (w.alloc (.cells #[.bool o, .string s, .string h, .int .i64 p, .string pa, .string q] 28)) o9 s9 h9 p9 pa9 q9
  have xy := xn.below ((Below.refl _ _).alloc (Nat.le_refl _) (.cells #[.bool o9, .string s9, .string h9, .int .i64 p9, .string pa9, .string q9] 28))
  have mB := (hm.made (.cells #[.bool o, .string s, .string h, .int .i64 p, .string pa, .string q] 28)).made (.cells #[.bool o9, .string s9, .string h9, .int .i64 p9, .string pa9, .string q9] 28)
  have tB := (ht.made (.cells #[.bool o, .string s, .string h, .int .i64 p, .string pa, .string q] 28)).made (.cells #[.bool o9, .string s9, .string h9, .int .i64 p9, .string pa9, .string q9] 28)
  have BB := ((Below.refl w.heap.size w).alloc (Nat.le_refl _) (.cells #[.bool o, .string s, .string h, .int .i64 p, .string pa, .string q] 28)).alloc (Below.size ((Below.refl w.heap.size w).alloc (Nat.le_refl _) (.cells #[.bool o, .string s, .string h, .int .i64 p, .string pa, .string q] 28))) (.cells #[.bool o9, .string s9, .string h9, .int .i64 p9, .string pa9, .string q9] 28)
  rw [size_alloc] at xz
  clear xn hm ht
  generalize hR : w.heap.size = Ra at xy xz BB ⊢
  have HR := Lib.hid hR
  clear hR
  obtain ⟨Rb, hRb⟩ : ∃ Rb, Ra + 1 = Rb := ⟨_, rfl⟩
  rw [hRb] at xz
  try rw [hRb]
  clear hRb
  generalize (w.alloc (.cells #[.bool o, .string s, .string h, .int .i64 p, .string pa, .string q] 28)).alloc (.cells #[.bool o9, .string s9, .string h9, .int .i64 p9, .string pa9, .string q9] 28) = w1 at xy xz mB tB BB ⊢
  have xRa_w1 := xy
  have xRb_w1 := xz
  clear xy xz
  refine (CB1.out _ ).mono ?_
  rintro e w2 ⟨rfl, b_⟩
  have mw2 := mB.below b_
  have tw2 := tB.below b_
  have Bw2 := BB.trans (b_.mono (Nat.le_of_lt xRa_w1.lt))
  have xRa_w2 := xRa_w1.below b_
  have xRb_w2 := xRb_w1.below b_
  clear b_ mB tB BB xRa_w1 xRb_w1
  have dRb0 := xRb_w2.c0
  have dRb1 := xRb_w2.c1
  have dRb2 := xRb_w2.c2
  have dRb3 := xRb_w2.c3
  have dRb4 := xRb_w2.c4
  have dRb5 := xRb_w2.c5
  go_wp2_with fail
  clear dRb0 dRb1 dRb2 dRb3 dRb4 dRb5
  refine (CB2.out _ ).mono ?_
  rintro e w3 ⟨rfl, b_⟩
  have mw3 := mw2.below b_
  have tw3 := tw2.below b_
  have Bw3 := Bw2.trans (b_.mono (Nat.le_of_lt xRa_w2.lt))
  have xRa_w3 := xRa_w2.below b_
  have xRb_w3 := xRb_w2.below b_
  clear b_ mw2 tw2 Bw2 xRa_w2 xRb_w2
  have dRa0 := xRa_w3.c0
  have dRa1 := xRa_w3.c1
  have dRa2 := xRa_w3.c2
  have dRa3 := xRa_w3.c3
  have dRa4 := xRa_w3.c4
  have dRa5 := xRa_w3.c5
  go_wp2_with fail
  clear dRa0 dRa1 dRa2 dRa3 dRa4 dRa5
  refine (CC1.out _ mw3 tw3).mono ?_
  rintro e w4 ⟨rfl, b_⟩
  have mw4 := mw3.below b_
  have tw4 := tw3.below b_
  have Bw4 := Bw3.trans (b_.mono (Nat.le_of_lt xRa_w3.lt))
  have xRa_w4 := xRa_w3.below b_
  have xRb_w4 := xRb_w3.below b_
  clear b_ mw3 tw3 Bw3 xRa_w3 xRb_w3
  have dRa0 := xRa_w4.c0
  have dRa1 := xRa_w4.c1
  have dRa2 := xRa_w4.c2
  have dRa3 := xRa_w4.c3
  have dRa4 := xRa_w4.c4
  have dRa5 := xRa_w4.c5
  have dRb0 := xRb_w4.c0
  have dRb1 := xRb_w4.c1
  have dRb2 := xRb_w4.c2
  have dRb3 := xRb_w4.c3
  have dRb4 := xRb_w4.c4
  have dRb5 := xRb_w4.c5
  go_wp2_with fail
  clear dRa0 dRa1 dRa2 dRa3 dRa4 dRa5 dRb0 dRb1 dRb2 dRb3 dRb4 dRb5
  refine (FR.out _ mw4 tw4).mono ?_
  rintro e w5 ⟨rfl, b_⟩
  have mw5 := mw4.below b_
  have tw5 := tw4.below b_
  have Bw5 := Bw4.trans (b_.mono (Nat.le_of_lt xRa_w4.lt))
  have xRa_w5 := xRa_w4.below b_
  have xRb_w5 := xRb_w4.below b_
  clear b_ mw4 tw4 Bw4 xRa_w4 xRb_w4
  go_wp2
  go_ret
  exact ⟨rfl, by rw [HR.out]; exact Bw5⟩

set_option maxRecDepth 100000 in
set_option maxHeartbeats 8000000 in
theorem apart_4 (o : Bool) (s h : ByteArray) (p : Int) (pa q : ByteArray) (o9 : Bool) (s9 h9 : ByteArray) (p9 : Int) (pa9 q9 : ByteArray) (CB1 : Hid (∀ W, Calls Tryd.prog 12 #[uV o s h p pa q] W fun e w' => e = .returned (.bool false) ∧ Below W.heap.size W w')) (CB2 : Hid (∀ W, Calls Tryd.prog 12 #[uV o9 s9 h9 p9 pa9 q9] W fun e w' => e = .returned (.bool false) ∧ Below W.heap.size W w')) (CC1 : Hid (∀ W, MaxIn W → TabIn W → Calls Tryd.prog 13 #[uV o s h p pa q] W fun e w' => e = .returned (.int .i64 0) ∧ Below W.heap.size W w')) (CC2 : Hid (∀ W, MaxIn W → TabIn W → Calls Tryd.prog 13 #[uV o9 s9 h9 p9 pa9 q9] W fun e w' => e = .returned (.int .i64 50) ∧ Below W.heap.size W w')) (w : World) (hm : MaxIn w) (ht : TabIn w) : Calls Tryd.prog 4 #[uV o s h p pa q, uV o9 s9 h9 p9 pa9 q9] w fun e w' => e = .returned (.bool true) ∧ Below w.heap.size w w' := by
  have FR := froms_hid
  unfold uV at *
  go_enter Tryd.func4, Tryd.ntmps4
  go_wp2_with fail
  have xn := BX.made w o s h p pa q
  have xz := BX.made (w.alloc (.cells #[.bool o, .string s, .string h, .int .i64 p, .string pa, .string q] 28)) o9 s9 h9 p9 pa9 q9
  have xy := xn.below ((Below.refl _ _).alloc (Nat.le_refl _) (.cells #[.bool o9, .string s9, .string h9, .int .i64 p9, .string pa9, .string q9] 28))
  have mB := (hm.made (.cells #[.bool o, .string s, .string h, .int .i64 p, .string pa, .string q] 28)).made (.cells #[.bool o9, .string s9, .string h9, .int .i64 p9, .string pa9, .string q9] 28)
  have tB := (ht.made (.cells #[.bool o, .string s, .string h, .int .i64 p, .string pa, .string q] 28)).made (.cells #[.bool o9, .string s9, .string h9, .int .i64 p9, .string pa9, .string q9] 28)
  have BB := ((Below.refl w.heap.size w).alloc (Nat.le_refl _) (.cells #[.bool o, .string s, .string h, .int .i64 p, .string pa, .string q] 28)).alloc (Below.size ((Below.refl w.heap.size w).alloc (Nat.le_refl _) (.cells #[.bool o, .string s, .string h, .int .i64 p, .string pa, .string q] 28))) (.cells #[.bool o9, .string s9, .string h9, .int .i64 p9, .string pa9, .string q9] 28)
  rw [size_alloc] at xz
  clear xn hm ht
  generalize hR : w.heap.size = Ra at xy xz BB ⊢
  have HR := Lib.hid hR
  clear hR
  obtain ⟨Rb, hRb⟩ : ∃ Rb, Ra + 1 = Rb := ⟨_, rfl⟩
  rw [hRb] at xz
  try rw [hRb]
  clear hRb
  generalize (w.alloc (.cells #[.bool o, .string s, .string h, .int .i64 p, .string pa, .string q] 28)).alloc (.cells #[.bool o9, .string s9, .string h9, .int .i64 p9, .string pa9, .string q9] 28) = w1 at xy xz mB tB BB ⊢
  have xRa_w1 := xy
  have xRb_w1 := xz
  clear xy xz
  refine (CB1.out _ ).mono ?_
  rintro e w2 ⟨rfl, b_⟩
  have mw2 := mB.below b_
  have tw2 := tB.below b_
  have Bw2 := BB.trans (b_.mono (Nat.le_of_lt xRa_w1.lt))
  have xRa_w2 := xRa_w1.below b_
  have xRb_w2 := xRb_w1.below b_
  clear b_ mB tB BB xRa_w1 xRb_w1
  have dRb0 := xRb_w2.c0
  have dRb1 := xRb_w2.c1
  have dRb2 := xRb_w2.c2
  have dRb3 := xRb_w2.c3
  have dRb4 := xRb_w2.c4
  have dRb5 := xRb_w2.c5
  go_wp2_with fail
  clear dRb0 dRb1 dRb2 dRb3 dRb4 dRb5
  refine (CB2.out _ ).mono ?_
  rintro e w3 ⟨rfl, b_⟩
  have mw3 := mw2.below b_
  have tw3 := tw2.below b_
  have Bw3 := Bw2.trans (b_.mono (Nat.le_of_lt xRa_w2.lt))
  have xRa_w3 := xRa_w2.below b_
  have xRb_w3 := xRb_w2.below b_
  clear b_ mw2 tw2 Bw2 xRa_w2 xRb_w2
  have dRa0 := xRa_w3.c0
  have dRa1 := xRa_w3.c1
  have dRa2 := xRa_w3.c2
  have dRa3 := xRa_w3.c3
  have dRa4 := xRa_w3.c4
  have dRa5 := xRa_w3.c5
  go_wp2_with fail
  clear dRa0 dRa1 dRa2 dRa3 dRa4 dRa5
  refine (CC1.out _ mw3 tw3).mono ?_
  rintro e w4 ⟨rfl, b_⟩
  have mw4 := mw3.below b_
  have tw4 := tw3.below b_
  have Bw4 := Bw3.trans (b_.mono (Nat.le_of_lt xRa_w3.lt))
  have xRa_w4 := xRa_w3.below b_
  have xRb_w4 := xRb_w3.below b_
  clear b_ mw3 tw3 Bw3 xRa_w3 xRb_w3
  have dRb0 := xRb_w4.c0
  have dRb1 := xRb_w4.c1
  have dRb2 := xRb_w4.c2
  have dRb3 := xRb_w4.c3
  have dRb4 := xRb_w4.c4
  have dRb5 := xRb_w4.c5
  go_wp2_with fail
  clear dRb0 dRb1 dRb2 dRb3 dRb4 dRb5
  refine (CC2.out _ mw4 tw4).mono ?_
  rintro e w5 ⟨rfl, b_⟩
  have mw5 := mw4.below b_
  have tw5 := tw4.below b_
  have Bw5 := Bw4.trans (b_.mono (Nat.le_of_lt xRa_w4.lt))
  have xRa_w5 := xRa_w4.below b_
  have xRb_w5 := xRb_w4.below b_
  clear b_ mw4 tw4 Bw4 xRa_w4 xRb_w4
  have dRa0 := xRa_w5.c0
  have dRa1 := xRa_w5.c1
  have dRa2 := xRa_w5.c2
  have dRa3 := xRa_w5.c3
  have dRa4 := xRa_w5.c4
  have dRa5 := xRa_w5.c5
  have dRb0 := xRb_w5.c0
  have dRb1 := xRb_w5.c1
  have dRb2 := xRb_w5.c2
  have dRb3 := xRb_w5.c3
  have dRb4 := xRb_w5.c4
  have dRb5 := xRb_w5.c5
  go_wp2_with fail
  clear dRa0 dRa1 dRa2 dRa3 dRa4 dRa5 dRb0 dRb1 dRb2 dRb3 dRb4 dRb5
  refine (FR.out _ mw5 tw5).mono ?_
  rintro e w6 ⟨rfl, b_⟩
  have mw6 := mw5.below b_
  have tw6 := tw5.below b_
  have Bw6 := Bw5.trans (b_.mono (Nat.le_of_lt xRa_w5.lt))
  have xRa_w6 := xRa_w5.below b_
  have xRb_w6 := xRb_w5.below b_
  clear b_ mw5 tw5 Bw5 xRa_w5 xRb_w5
  go_wp2
  go_ret
  exact ⟨rfl, by rw [HR.out]; exact Bw6⟩

set_option maxRecDepth 100000 in
set_option maxHeartbeats 8000000 in
theorem apart_5 (s h : ByteArray) (p : Int) (pa q : ByteArray) (o9 : Bool) (s9 h9 : ByteArray) (p9 : Int) (pa9 q9 : ByteArray) (CB1 : Hid (∀ W, Calls Tryd.prog 12 #[uV true s h p pa q] W fun e w' => e = .returned (.bool false) ∧ Below W.heap.size W w')) (CB2 : Hid (∀ W, Calls Tryd.prog 12 #[uV o9 s9 h9 p9 pa9 q9] W fun e w' => e = .returned (.bool false) ∧ Below W.heap.size W w')) (CC1 : Hid (∀ W, MaxIn W → TabIn W → Calls Tryd.prog 13 #[uV true s h p pa q] W fun e w' => e = .returned (.int .i64 0) ∧ Below W.heap.size W w')) (CC2 : Hid (∀ W, MaxIn W → TabIn W → Calls Tryd.prog 13 #[uV o9 s9 h9 p9 pa9 q9] W fun e w' => e = .returned (.int .i64 0) ∧ Below W.heap.size W w')) (w : World) (hm : MaxIn w) (ht : TabIn w) : Calls Tryd.prog 4 #[uV true s h p pa q, uV o9 s9 h9 p9 pa9 q9] w fun e w' => e = .returned (.bool true) ∧ Below w.heap.size w w' := by
  have FR := froms_hid
  unfold uV at *
  go_enter Tryd.func4, Tryd.ntmps4
  go_wp2_with fail
  have xn := BX.made w true s h p pa q
  have xz := BX.made (w.alloc (.cells #[.bool true, .string s, .string h, .int .i64 p, .string pa, .string q] 28)) o9 s9 h9 p9 pa9 q9
  have xy := xn.below ((Below.refl _ _).alloc (Nat.le_refl _) (.cells #[.bool o9, .string s9, .string h9, .int .i64 p9, .string pa9, .string q9] 28))
  have mB := (hm.made (.cells #[.bool true, .string s, .string h, .int .i64 p, .string pa, .string q] 28)).made (.cells #[.bool o9, .string s9, .string h9, .int .i64 p9, .string pa9, .string q9] 28)
  have tB := (ht.made (.cells #[.bool true, .string s, .string h, .int .i64 p, .string pa, .string q] 28)).made (.cells #[.bool o9, .string s9, .string h9, .int .i64 p9, .string pa9, .string q9] 28)
  have BB := ((Below.refl w.heap.size w).alloc (Nat.le_refl _) (.cells #[.bool true, .string s, .string h, .int .i64 p, .string pa, .string q] 28)).alloc (Below.size ((Below.refl w.heap.size w).alloc (Nat.le_refl _) (.cells #[.bool true, .string s, .string h, .int .i64 p, .string pa, .string q] 28))) (.cells #[.bool o9, .string s9, .string h9, .int .i64 p9, .string pa9, .string q9] 28)
  rw [size_alloc] at xz
  clear xn hm ht
  generalize hR : w.heap.size = Ra at xy xz BB ⊢
  have HR := Lib.hid hR
  clear hR
  obtain ⟨Rb, hRb⟩ : ∃ Rb, Ra + 1 = Rb := ⟨_, rfl⟩
  rw [hRb] at xz
  try rw [hRb]
  clear hRb
  generalize (w.alloc (.cells #[.bool true, .string s, .string h, .int .i64 p, .string pa, .string q] 28)).alloc (.cells #[.bool o9, .string s9, .string h9, .int .i64 p9, .string pa9, .string q9] 28) = w1 at xy xz mB tB BB ⊢
  have xRa_w1 := xy
  have xRb_w1 := xz
  clear xy xz
  refine (CB1.out _ ).mono ?_
  rintro e w2 ⟨rfl, b_⟩
  have mw2 := mB.below b_
  have tw2 := tB.below b_
  have Bw2 := BB.trans (b_.mono (Nat.le_of_lt xRa_w1.lt))
  have xRa_w2 := xRa_w1.below b_
  have xRb_w2 := xRb_w1.below b_
  clear b_ mB tB BB xRa_w1 xRb_w1
  have dRb0 := xRb_w2.c0
  have dRb1 := xRb_w2.c1
  have dRb2 := xRb_w2.c2
  have dRb3 := xRb_w2.c3
  have dRb4 := xRb_w2.c4
  have dRb5 := xRb_w2.c5
  go_wp2_with fail
  clear dRb0 dRb1 dRb2 dRb3 dRb4 dRb5
  refine (CB2.out _ ).mono ?_
  rintro e w3 ⟨rfl, b_⟩
  have mw3 := mw2.below b_
  have tw3 := tw2.below b_
  have Bw3 := Bw2.trans (b_.mono (Nat.le_of_lt xRa_w2.lt))
  have xRa_w3 := xRa_w2.below b_
  have xRb_w3 := xRb_w2.below b_
  clear b_ mw2 tw2 Bw2 xRa_w2 xRb_w2
  have dRa0 := xRa_w3.c0
  have dRa1 := xRa_w3.c1
  have dRa2 := xRa_w3.c2
  have dRa3 := xRa_w3.c3
  have dRa4 := xRa_w3.c4
  have dRa5 := xRa_w3.c5
  go_wp2_with fail
  clear dRa0 dRa1 dRa2 dRa3 dRa4 dRa5
  refine (CC1.out _ mw3 tw3).mono ?_
  rintro e w4 ⟨rfl, b_⟩
  have mw4 := mw3.below b_
  have tw4 := tw3.below b_
  have Bw4 := Bw3.trans (b_.mono (Nat.le_of_lt xRa_w3.lt))
  have xRa_w4 := xRa_w3.below b_
  have xRb_w4 := xRb_w3.below b_
  clear b_ mw3 tw3 Bw3 xRa_w3 xRb_w3
  have dRb0 := xRb_w4.c0
  have dRb1 := xRb_w4.c1
  have dRb2 := xRb_w4.c2
  have dRb3 := xRb_w4.c3
  have dRb4 := xRb_w4.c4
  have dRb5 := xRb_w4.c5
  go_wp2_with fail
  clear dRb0 dRb1 dRb2 dRb3 dRb4 dRb5
  refine (CC2.out _ mw4 tw4).mono ?_
  rintro e w5 ⟨rfl, b_⟩
  have mw5 := mw4.below b_
  have tw5 := tw4.below b_
  have Bw5 := Bw4.trans (b_.mono (Nat.le_of_lt xRa_w4.lt))
  have xRa_w5 := xRa_w4.below b_
  have xRb_w5 := xRb_w4.below b_
  clear b_ mw4 tw4 Bw4 xRa_w4 xRb_w4
  have dRa0 := xRa_w5.c0
  have dRa1 := xRa_w5.c1
  have dRa2 := xRa_w5.c2
  have dRa3 := xRa_w5.c3
  have dRa4 := xRa_w5.c4
  have dRa5 := xRa_w5.c5
  have dRb0 := xRb_w5.c0
  have dRb1 := xRb_w5.c1
  have dRb2 := xRb_w5.c2
  have dRb3 := xRb_w5.c3
  have dRb4 := xRb_w5.c4
  have dRb5 := xRb_w5.c5
  go_wp2_with fail
  clear dRa0 dRa1 dRa2 dRa3 dRa4 dRa5 dRb0 dRb1 dRb2 dRb3 dRb4 dRb5
  refine (FR.out _ mw5 tw5).mono ?_
  rintro e w6 ⟨rfl, b_⟩
  have mw6 := mw5.below b_
  have tw6 := tw5.below b_
  have Bw6 := Bw5.trans (b_.mono (Nat.le_of_lt xRa_w5.lt))
  have xRa_w6 := xRa_w5.below b_
  have xRb_w6 := xRb_w5.below b_
  clear b_ mw5 tw5 Bw5 xRa_w5 xRb_w5
  go_wp2
  go_ret
  exact ⟨rfl, by rw [HR.out]; exact Bw6⟩

set_option maxRecDepth 100000 in
set_option maxHeartbeats 8000000 in
theorem apart_6 (s h : ByteArray) (p : Int) (pa q : ByteArray) (s9 h9 : ByteArray) (p9 : Int) (pa9 q9 : ByteArray) (CB1 : Hid (∀ W, Calls Tryd.prog 12 #[uV false s h p pa q] W fun e w' => e = .returned (.bool false) ∧ Below W.heap.size W w')) (CB2 : Hid (∀ W, Calls Tryd.prog 12 #[uV true s9 h9 p9 pa9 q9] W fun e w' => e = .returned (.bool false) ∧ Below W.heap.size W w')) (CC1 : Hid (∀ W, MaxIn W → TabIn W → Calls Tryd.prog 13 #[uV false s h p pa q] W fun e w' => e = .returned (.int .i64 0) ∧ Below W.heap.size W w')) (CC2 : Hid (∀ W, MaxIn W → TabIn W → Calls Tryd.prog 13 #[uV true s9 h9 p9 pa9 q9] W fun e w' => e = .returned (.int .i64 0) ∧ Below W.heap.size W w')) (w : World) (hm : MaxIn w) (ht : TabIn w) : Calls Tryd.prog 4 #[uV false s h p pa q, uV true s9 h9 p9 pa9 q9] w fun e w' => e = .returned (.bool true) ∧ Below w.heap.size w w' := by
  have FR := froms_hid
  unfold uV at *
  go_enter Tryd.func4, Tryd.ntmps4
  go_wp2_with fail
  have xn := BX.made w false s h p pa q
  have xz := BX.made (w.alloc (.cells #[.bool false, .string s, .string h, .int .i64 p, .string pa, .string q] 28)) true s9 h9 p9 pa9 q9
  have xy := xn.below ((Below.refl _ _).alloc (Nat.le_refl _) (.cells #[.bool true, .string s9, .string h9, .int .i64 p9, .string pa9, .string q9] 28))
  have mB := (hm.made (.cells #[.bool false, .string s, .string h, .int .i64 p, .string pa, .string q] 28)).made (.cells #[.bool true, .string s9, .string h9, .int .i64 p9, .string pa9, .string q9] 28)
  have tB := (ht.made (.cells #[.bool false, .string s, .string h, .int .i64 p, .string pa, .string q] 28)).made (.cells #[.bool true, .string s9, .string h9, .int .i64 p9, .string pa9, .string q9] 28)
  have BB := ((Below.refl w.heap.size w).alloc (Nat.le_refl _) (.cells #[.bool false, .string s, .string h, .int .i64 p, .string pa, .string q] 28)).alloc (Below.size ((Below.refl w.heap.size w).alloc (Nat.le_refl _) (.cells #[.bool false, .string s, .string h, .int .i64 p, .string pa, .string q] 28))) (.cells #[.bool true, .string s9, .string h9, .int .i64 p9, .string pa9, .string q9] 28)
  rw [size_alloc] at xz
  clear xn hm ht
  generalize hR : w.heap.size = Ra at xy xz BB ⊢
  have HR := Lib.hid hR
  clear hR
  obtain ⟨Rb, hRb⟩ : ∃ Rb, Ra + 1 = Rb := ⟨_, rfl⟩
  rw [hRb] at xz
  try rw [hRb]
  clear hRb
  generalize (w.alloc (.cells #[.bool false, .string s, .string h, .int .i64 p, .string pa, .string q] 28)).alloc (.cells #[.bool true, .string s9, .string h9, .int .i64 p9, .string pa9, .string q9] 28) = w1 at xy xz mB tB BB ⊢
  have xRa_w1 := xy
  have xRb_w1 := xz
  clear xy xz
  refine (CB1.out _ ).mono ?_
  rintro e w2 ⟨rfl, b_⟩
  have mw2 := mB.below b_
  have tw2 := tB.below b_
  have Bw2 := BB.trans (b_.mono (Nat.le_of_lt xRa_w1.lt))
  have xRa_w2 := xRa_w1.below b_
  have xRb_w2 := xRb_w1.below b_
  clear b_ mB tB BB xRa_w1 xRb_w1
  have dRb0 := xRb_w2.c0
  have dRb1 := xRb_w2.c1
  have dRb2 := xRb_w2.c2
  have dRb3 := xRb_w2.c3
  have dRb4 := xRb_w2.c4
  have dRb5 := xRb_w2.c5
  go_wp2_with fail
  clear dRb0 dRb1 dRb2 dRb3 dRb4 dRb5
  refine (CB2.out _ ).mono ?_
  rintro e w3 ⟨rfl, b_⟩
  have mw3 := mw2.below b_
  have tw3 := tw2.below b_
  have Bw3 := Bw2.trans (b_.mono (Nat.le_of_lt xRa_w2.lt))
  have xRa_w3 := xRa_w2.below b_
  have xRb_w3 := xRb_w2.below b_
  clear b_ mw2 tw2 Bw2 xRa_w2 xRb_w2
  have dRa0 := xRa_w3.c0
  have dRa1 := xRa_w3.c1
  have dRa2 := xRa_w3.c2
  have dRa3 := xRa_w3.c3
  have dRa4 := xRa_w3.c4
  have dRa5 := xRa_w3.c5
  go_wp2_with fail
  clear dRa0 dRa1 dRa2 dRa3 dRa4 dRa5
  refine (CC1.out _ mw3 tw3).mono ?_
  rintro e w4 ⟨rfl, b_⟩
  have mw4 := mw3.below b_
  have tw4 := tw3.below b_
  have Bw4 := Bw3.trans (b_.mono (Nat.le_of_lt xRa_w3.lt))
  have xRa_w4 := xRa_w3.below b_
  have xRb_w4 := xRb_w3.below b_
  clear b_ mw3 tw3 Bw3 xRa_w3 xRb_w3
  have dRb0 := xRb_w4.c0
  have dRb1 := xRb_w4.c1
  have dRb2 := xRb_w4.c2
  have dRb3 := xRb_w4.c3
  have dRb4 := xRb_w4.c4
  have dRb5 := xRb_w4.c5
  go_wp2_with fail
  clear dRb0 dRb1 dRb2 dRb3 dRb4 dRb5
  refine (CC2.out _ mw4 tw4).mono ?_
  rintro e w5 ⟨rfl, b_⟩
  have mw5 := mw4.below b_
  have tw5 := tw4.below b_
  have Bw5 := Bw4.trans (b_.mono (Nat.le_of_lt xRa_w4.lt))
  have xRa_w5 := xRa_w4.below b_
  have xRb_w5 := xRb_w4.below b_
  clear b_ mw4 tw4 Bw4 xRa_w4 xRb_w4
  have dRa0 := xRa_w5.c0
  have dRa1 := xRa_w5.c1
  have dRa2 := xRa_w5.c2
  have dRa3 := xRa_w5.c3
  have dRa4 := xRa_w5.c4
  have dRa5 := xRa_w5.c5
  have dRb0 := xRb_w5.c0
  have dRb1 := xRb_w5.c1
  have dRb2 := xRb_w5.c2
  have dRb3 := xRb_w5.c3
  have dRb4 := xRb_w5.c4
  have dRb5 := xRb_w5.c5
  go_wp2_with fail
  clear dRa0 dRa1 dRa2 dRa3 dRa4 dRa5 dRb0 dRb1 dRb2 dRb3 dRb4 dRb5
  refine (FR.out _ mw5 tw5).mono ?_
  rintro e w6 ⟨rfl, b_⟩
  have mw6 := mw5.below b_
  have tw6 := tw5.below b_
  have Bw6 := Bw5.trans (b_.mono (Nat.le_of_lt xRa_w5.lt))
  have xRa_w6 := xRa_w5.below b_
  have xRb_w6 := xRb_w5.below b_
  clear b_ mw5 tw5 Bw5 xRa_w5 xRb_w5
  go_wp2
  go_ret
  exact ⟨rfl, by rw [HR.out]; exact Bw6⟩

set_option maxRecDepth 100000 in
set_option maxHeartbeats 8000000 in
theorem apart_s (s h : ByteArray) (p : Int) (pa q : ByteArray) (s9 h9 : ByteArray) (p9 : Int) (pa9 q9 : ByteArray) (P P9 : Int) (CF1 : Hid (∀ W, MaxIn W → TabIn W → Calls Tryd.prog 14 #[uV false s h p pa q] W fun e w' => e = .returned (oV false s h P) ∧ Below W.heap.size W w')) (CF2 : Hid (∀ W, MaxIn W → TabIn W → Calls Tryd.prog 14 #[uV false s9 h9 p9 pa9 q9] W fun e w' => e = .returned (oV false s9 h9 P9) ∧ Below W.heap.size W w')) (CF3 : Hid (∀ W, MaxIn W → TabIn W → Calls Tryd.prog 14 #[uV false s h p ⟨#[47]⟩ ⟨#[]⟩] W fun e w' => e = .returned (oV false s h P) ∧ Below W.heap.size W w')) (CS1 : Hid (∀ W, Calls Tryd.prog 8 #[oV false s h P, oV false s9 h9 P9] W fun e w' => e = .returned (.bool false) ∧ Below W.heap.size W w')) (CS2 : Hid (∀ W, Calls Tryd.prog 8 #[oV false s h P, oV false s h P] W fun e w' => e = .returned (.bool true) ∧ Below W.heap.size W w')) (CB1 : Hid (∀ W, Calls Tryd.prog 12 #[uV false s h p pa q] W fun e w' => e = .returned (.bool false) ∧ Below W.heap.size W w')) (CB2 : Hid (∀ W, Calls Tryd.prog 12 #[uV false s9 h9 p9 pa9 q9] W fun e w' => e = .returned (.bool false) ∧ Below W.heap.size W w')) (CC1 : Hid (∀ W, MaxIn W → TabIn W → Calls Tryd.prog 13 #[uV false s h p pa q] W fun e w' => e = .returned (.int .i64 0) ∧ Below W.heap.size W w')) (CC2 : Hid (∀ W, MaxIn W → TabIn W → Calls Tryd.prog 13 #[uV false s9 h9 p9 pa9 q9] W fun e w' => e = .returned (.int .i64 0) ∧ Below W.heap.size W w')) (g1 : (s.toList == s9.toList) = false) (w : World) (hm : MaxIn w) (ht : TabIn w) : Calls Tryd.prog 4 #[uV false s h p pa q, uV false s9 h9 p9 pa9 q9] w fun e w' => e = .returned (.bool true) ∧ Below w.heap.size w w' := by
  have FR := froms_hid
  unfold uV at *
  unfold oV at *
  go_enter Tryd.func4, Tryd.ntmps4
  go_wp2_with fail
  have xn := BX.made w false s h p pa q
  have xz := BX.made (w.alloc (.cells #[.bool false, .string s, .string h, .int .i64 p, .string pa, .string q] 28)) false s9 h9 p9 pa9 q9
  have xy := xn.below ((Below.refl _ _).alloc (Nat.le_refl _) (.cells #[.bool false, .string s9, .string h9, .int .i64 p9, .string pa9, .string q9] 28))
  have mB := (hm.made (.cells #[.bool false, .string s, .string h, .int .i64 p, .string pa, .string q] 28)).made (.cells #[.bool false, .string s9, .string h9, .int .i64 p9, .string pa9, .string q9] 28)
  have tB := (ht.made (.cells #[.bool false, .string s, .string h, .int .i64 p, .string pa, .string q] 28)).made (.cells #[.bool false, .string s9, .string h9, .int .i64 p9, .string pa9, .string q9] 28)
  have BB := ((Below.refl w.heap.size w).alloc (Nat.le_refl _) (.cells #[.bool false, .string s, .string h, .int .i64 p, .string pa, .string q] 28)).alloc (Below.size ((Below.refl w.heap.size w).alloc (Nat.le_refl _) (.cells #[.bool false, .string s, .string h, .int .i64 p, .string pa, .string q] 28))) (.cells #[.bool false, .string s9, .string h9, .int .i64 p9, .string pa9, .string q9] 28)
  rw [size_alloc] at xz
  clear xn hm ht
  generalize hR : w.heap.size = Ra at xy xz BB ⊢
  have HR := Lib.hid hR
  clear hR
  obtain ⟨Rb, hRb⟩ : ∃ Rb, Ra + 1 = Rb := ⟨_, rfl⟩
  rw [hRb] at xz
  try rw [hRb]
  clear hRb
  generalize (w.alloc (.cells #[.bool false, .string s, .string h, .int .i64 p, .string pa, .string q] 28)).alloc (.cells #[.bool false, .string s9, .string h9, .int .i64 p9, .string pa9, .string q9] 28) = w1 at xy xz mB tB BB ⊢
  have xRa_w1 := xy
  have xRb_w1 := xz
  clear xy xz
  refine (CB1.out _ ).mono ?_
  rintro e w2 ⟨rfl, b_⟩
  have mw2 := mB.below b_
  have tw2 := tB.below b_
  have Bw2 := BB.trans (b_.mono (Nat.le_of_lt xRa_w1.lt))
  have xRa_w2 := xRa_w1.below b_
  have xRb_w2 := xRb_w1.below b_
  clear b_ mB tB BB xRa_w1 xRb_w1
  have dRb0 := xRb_w2.c0
  have dRb1 := xRb_w2.c1
  have dRb2 := xRb_w2.c2
  have dRb3 := xRb_w2.c3
  have dRb4 := xRb_w2.c4
  have dRb5 := xRb_w2.c5
  go_wp2_with fail
  clear dRb0 dRb1 dRb2 dRb3 dRb4 dRb5
  refine (CB2.out _ ).mono ?_
  rintro e w3 ⟨rfl, b_⟩
  have mw3 := mw2.below b_
  have tw3 := tw2.below b_
  have Bw3 := Bw2.trans (b_.mono (Nat.le_of_lt xRa_w2.lt))
  have xRa_w3 := xRa_w2.below b_
  have xRb_w3 := xRb_w2.below b_
  clear b_ mw2 tw2 Bw2 xRa_w2 xRb_w2
  have dRa0 := xRa_w3.c0
  have dRa1 := xRa_w3.c1
  have dRa2 := xRa_w3.c2
  have dRa3 := xRa_w3.c3
  have dRa4 := xRa_w3.c4
  have dRa5 := xRa_w3.c5
  go_wp2_with fail
  clear dRa0 dRa1 dRa2 dRa3 dRa4 dRa5
  refine (CC1.out _ mw3 tw3).mono ?_
  rintro e w4 ⟨rfl, b_⟩
  have mw4 := mw3.below b_
  have tw4 := tw3.below b_
  have Bw4 := Bw3.trans (b_.mono (Nat.le_of_lt xRa_w3.lt))
  have xRa_w4 := xRa_w3.below b_
  have xRb_w4 := xRb_w3.below b_
  clear b_ mw3 tw3 Bw3 xRa_w3 xRb_w3
  have dRb0 := xRb_w4.c0
  have dRb1 := xRb_w4.c1
  have dRb2 := xRb_w4.c2
  have dRb3 := xRb_w4.c3
  have dRb4 := xRb_w4.c4
  have dRb5 := xRb_w4.c5
  go_wp2_with fail
  clear dRb0 dRb1 dRb2 dRb3 dRb4 dRb5
  refine (CC2.out _ mw4 tw4).mono ?_
  rintro e w5 ⟨rfl, b_⟩
  have mw5 := mw4.below b_
  have tw5 := tw4.below b_
  have Bw5 := Bw4.trans (b_.mono (Nat.le_of_lt xRa_w4.lt))
  have xRa_w5 := xRa_w4.below b_
  have xRb_w5 := xRb_w4.below b_
  clear b_ mw4 tw4 Bw4 xRa_w4 xRb_w4
  have dRa0 := xRa_w5.c0
  have dRa1 := xRa_w5.c1
  have dRa2 := xRa_w5.c2
  have dRa3 := xRa_w5.c3
  have dRa4 := xRa_w5.c4
  have dRa5 := xRa_w5.c5
  have dRb0 := xRb_w5.c0
  have dRb1 := xRb_w5.c1
  have dRb2 := xRb_w5.c2
  have dRb3 := xRb_w5.c3
  have dRb4 := xRb_w5.c4
  have dRb5 := xRb_w5.c5
  go_wp2
  clear dRa0 dRa1 dRa2 dRa3 dRa4 dRa5 dRb0 dRb1 dRb2 dRb3 dRb4 dRb5
  have xn := BX.made w5 false s h p ⟨#[47]⟩ ⟨#[]⟩
  have mw6 := mw5.made (.cells #[.bool false, .string s, .string h, .int .i64 p, .string ⟨#[47]⟩, .string ⟨#[]⟩] 28)
  have tw6 := tw5.made (.cells #[.bool false, .string s, .string h, .int .i64 p, .string ⟨#[47]⟩, .string ⟨#[]⟩] 28)
  have Bw6 := Bw5.trans (((Below.refl w5.heap.size w5).alloc (Nat.le_refl _) (.cells #[.bool false, .string s, .string h, .int .i64 p, .string ⟨#[47]⟩, .string ⟨#[]⟩] 28)).mono (Nat.le_of_lt xRa_w5.lt))
  have xRa_w6 := xRa_w5.below ((Below.refl w5.heap.size w5).alloc (Nat.le_refl _) (.cells #[.bool false, .string s, .string h, .int .i64 p, .string ⟨#[47]⟩, .string ⟨#[]⟩] 28))
  have xRb_w6 := xRb_w5.below ((Below.refl w5.heap.size w5).alloc (Nat.le_refl _) (.cells #[.bool false, .string s, .string h, .int .i64 p, .string ⟨#[47]⟩, .string ⟨#[]⟩] 28))
  generalize w5.heap.size = Rc at xn ⊢
  generalize w5.alloc (.cells #[.bool false, .string s, .string h, .int .i64 p, .string ⟨#[47]⟩, .string ⟨#[]⟩] 28) = w6 at xn mw6 tw6 Bw6 xRa_w6 xRb_w6 ⊢
  have xRc_w6 := xn
  clear xn mw5 tw5 Bw5 xRa_w5 xRb_w5
  obtain ⟨C, hC⟩ : ∃ C : World → Prop, ∀ w', C w' ↔ (BX w' Ra false s h p pa q ∧ BX w' Rb false s9 h9 p9 pa9 q9 ∧ BX w' Rc false s h p ⟨#[47]⟩ ⟨#[]⟩ ∧ Below Ra w w' ∧ MaxIn w' ∧ TabIn w') := ⟨_, fun _ => Iff.rfl⟩
  have HC := Lib.hid hC
  clear hC
  have hC0 : C w6.drew := (HC.out _).2 ⟨xRa_w6, xRb_w6, xRc_w6, Bw6.drew, mw6, tw6⟩
  have HK : Hid (∀ w', C w' → ∀ w7, Below w'.heap.size w' w7 → C w7) := Lib.hid fun w' hc w7 b => by
    obtain ⟨xRa, xRb, xRc, K4, m7, t7⟩ := (HC.out w').1 hc
    exact (HC.out _).2 ⟨xRa.below b, xRb.below b, xRc.below b, K4.trans (b.mono (Nat.le_of_lt xRa.lt)), m7.below b, t7.below b⟩
  clear xRa_w6 xRb_w6 xRc_w6 Bw6 mw6 tw6
  refine region_class C (by kernel_rfl) (by kernel_rfl) hC0 ?_
  clear hC0
  repeat
    first
      | go_big_quiet_skip
      | (go_big_quiet_want; go_big_quiet_op; go_big_quiet_on)
      | (refine BigFrame.wpQuiet_want rfl (fun K hK => ?_)
         apply Exists.intro
         refine ⟨fun w' hc => ?_, hK _ ?_⟩
         · obtain ⟨xRa, xRb, xRc, K4, m7, t7⟩ := (HC.out w').1 hc
           have dRa0 := xRa.c0
           have dRa1 := xRa.c1
           have dRa2 := xRa.c2
           have dRa3 := xRa.c3
           have dRa4 := xRa.c4
           have dRa5 := xRa.c5
           have dRb0 := xRb.c0
           have dRb1 := xRb.c1
           have dRb2 := xRb.c2
           have dRb3 := xRb.c3
           have dRb4 := xRb.c4
           have dRb5 := xRb.c5
           have dRc0 := xRc.c0
           have dRc1 := xRc.c1
           have dRc2 := xRc.c2
           have dRc3 := xRc.c3
           have dRc4 := xRc.c4
           have dRc5 := xRc.c5
           unfold Oper.quietAt
           go_simp
           first
             | done
             | rfl
             | ((with_reducible refine (FR.out _ m7 t7).mono ?_); rintro e w7 ⟨rfl, b7⟩; exact ⟨rfl, HK.out w' hc w7 b7⟩)
             | ((with_reducible refine (CF1.out _ m7 t7).mono ?_); rintro e w7 ⟨rfl, b7⟩; exact ⟨rfl, HK.out w' hc w7 b7⟩)
             | ((with_reducible refine (CF2.out _ m7 t7).mono ?_); rintro e w7 ⟨rfl, b7⟩; exact ⟨rfl, HK.out w' hc w7 b7⟩)
             | ((with_reducible refine (CF3.out _ m7 t7).mono ?_); rintro e w7 ⟨rfl, b7⟩; exact ⟨rfl, HK.out w' hc w7 b7⟩)
             | ((with_reducible refine (CS1.out _).mono ?_); rintro e w7 ⟨rfl, b7⟩; exact ⟨rfl, HK.out w' hc w7 b7⟩)
             | ((with_reducible refine (CS2.out _).mono ?_); rintro e w7 ⟨rfl, b7⟩; exact ⟨rfl, HK.out w' hc w7 b7⟩)
         clear hK K
         simp only [Act.put, List.setIfInBounds_toArray, List.set_cons_zero, List.set_cons_succ])
  refine wpQuiet_nil ?_
  intro w7 hc
  obtain ⟨xRa_w7, xRb_w7, xRc_w7, Bw7, mw7, tw7⟩ := (HC.out w7).1 hc
  clear hc HC HK
  go_wp2
  go_ret
  exact ⟨rfl, by rw [HR.out]; exact Bw7⟩

set_option maxRecDepth 100000 in
set_option maxHeartbeats 8000000 in
theorem apart_h (s h : ByteArray) (p : Int) (pa q : ByteArray) (s9 h9 : ByteArray) (p9 : Int) (pa9 q9 : ByteArray) (P P9 : Int) (CF1 : Hid (∀ W, MaxIn W → TabIn W → Calls Tryd.prog 14 #[uV false s h p pa q] W fun e w' => e = .returned (oV false s h P) ∧ Below W.heap.size W w')) (CF2 : Hid (∀ W, MaxIn W → TabIn W → Calls Tryd.prog 14 #[uV false s9 h9 p9 pa9 q9] W fun e w' => e = .returned (oV false s9 h9 P9) ∧ Below W.heap.size W w')) (CF3 : Hid (∀ W, MaxIn W → TabIn W → Calls Tryd.prog 14 #[uV false s h p ⟨#[47]⟩ ⟨#[]⟩] W fun e w' => e = .returned (oV false s h P) ∧ Below W.heap.size W w')) (CS1 : Hid (∀ W, Calls Tryd.prog 8 #[oV false s h P, oV false s9 h9 P9] W fun e w' => e = .returned (.bool false) ∧ Below W.heap.size W w')) (CS2 : Hid (∀ W, Calls Tryd.prog 8 #[oV false s h P, oV false s h P] W fun e w' => e = .returned (.bool true) ∧ Below W.heap.size W w')) (CB1 : Hid (∀ W, Calls Tryd.prog 12 #[uV false s h p pa q] W fun e w' => e = .returned (.bool false) ∧ Below W.heap.size W w')) (CB2 : Hid (∀ W, Calls Tryd.prog 12 #[uV false s9 h9 p9 pa9 q9] W fun e w' => e = .returned (.bool false) ∧ Below W.heap.size W w')) (CC1 : Hid (∀ W, MaxIn W → TabIn W → Calls Tryd.prog 13 #[uV false s h p pa q] W fun e w' => e = .returned (.int .i64 0) ∧ Below W.heap.size W w')) (CC2 : Hid (∀ W, MaxIn W → TabIn W → Calls Tryd.prog 13 #[uV false s9 h9 p9 pa9 q9] W fun e w' => e = .returned (.int .i64 0) ∧ Below W.heap.size W w')) (g0 : (s.toList == s9.toList) = true) (g1 : (h.toList == h9.toList) = false) (w : World) (hm : MaxIn w) (ht : TabIn w) : Calls Tryd.prog 4 #[uV false s h p pa q, uV false s9 h9 p9 pa9 q9] w fun e w' => e = .returned (.bool true) ∧ Below w.heap.size w w' := by
  have FR := froms_hid
  unfold uV at *
  unfold oV at *
  go_enter Tryd.func4, Tryd.ntmps4
  go_wp2_with fail
  have xn := BX.made w false s h p pa q
  have xz := BX.made (w.alloc (.cells #[.bool false, .string s, .string h, .int .i64 p, .string pa, .string q] 28)) false s9 h9 p9 pa9 q9
  have xy := xn.below ((Below.refl _ _).alloc (Nat.le_refl _) (.cells #[.bool false, .string s9, .string h9, .int .i64 p9, .string pa9, .string q9] 28))
  have mB := (hm.made (.cells #[.bool false, .string s, .string h, .int .i64 p, .string pa, .string q] 28)).made (.cells #[.bool false, .string s9, .string h9, .int .i64 p9, .string pa9, .string q9] 28)
  have tB := (ht.made (.cells #[.bool false, .string s, .string h, .int .i64 p, .string pa, .string q] 28)).made (.cells #[.bool false, .string s9, .string h9, .int .i64 p9, .string pa9, .string q9] 28)
  have BB := ((Below.refl w.heap.size w).alloc (Nat.le_refl _) (.cells #[.bool false, .string s, .string h, .int .i64 p, .string pa, .string q] 28)).alloc (Below.size ((Below.refl w.heap.size w).alloc (Nat.le_refl _) (.cells #[.bool false, .string s, .string h, .int .i64 p, .string pa, .string q] 28))) (.cells #[.bool false, .string s9, .string h9, .int .i64 p9, .string pa9, .string q9] 28)
  rw [size_alloc] at xz
  clear xn hm ht
  generalize hR : w.heap.size = Ra at xy xz BB ⊢
  have HR := Lib.hid hR
  clear hR
  obtain ⟨Rb, hRb⟩ : ∃ Rb, Ra + 1 = Rb := ⟨_, rfl⟩
  rw [hRb] at xz
  try rw [hRb]
  clear hRb
  generalize (w.alloc (.cells #[.bool false, .string s, .string h, .int .i64 p, .string pa, .string q] 28)).alloc (.cells #[.bool false, .string s9, .string h9, .int .i64 p9, .string pa9, .string q9] 28) = w1 at xy xz mB tB BB ⊢
  have xRa_w1 := xy
  have xRb_w1 := xz
  clear xy xz
  refine (CB1.out _ ).mono ?_
  rintro e w2 ⟨rfl, b_⟩
  have mw2 := mB.below b_
  have tw2 := tB.below b_
  have Bw2 := BB.trans (b_.mono (Nat.le_of_lt xRa_w1.lt))
  have xRa_w2 := xRa_w1.below b_
  have xRb_w2 := xRb_w1.below b_
  clear b_ mB tB BB xRa_w1 xRb_w1
  have dRb0 := xRb_w2.c0
  have dRb1 := xRb_w2.c1
  have dRb2 := xRb_w2.c2
  have dRb3 := xRb_w2.c3
  have dRb4 := xRb_w2.c4
  have dRb5 := xRb_w2.c5
  go_wp2_with fail
  clear dRb0 dRb1 dRb2 dRb3 dRb4 dRb5
  refine (CB2.out _ ).mono ?_
  rintro e w3 ⟨rfl, b_⟩
  have mw3 := mw2.below b_
  have tw3 := tw2.below b_
  have Bw3 := Bw2.trans (b_.mono (Nat.le_of_lt xRa_w2.lt))
  have xRa_w3 := xRa_w2.below b_
  have xRb_w3 := xRb_w2.below b_
  clear b_ mw2 tw2 Bw2 xRa_w2 xRb_w2
  have dRa0 := xRa_w3.c0
  have dRa1 := xRa_w3.c1
  have dRa2 := xRa_w3.c2
  have dRa3 := xRa_w3.c3
  have dRa4 := xRa_w3.c4
  have dRa5 := xRa_w3.c5
  go_wp2_with fail
  clear dRa0 dRa1 dRa2 dRa3 dRa4 dRa5
  refine (CC1.out _ mw3 tw3).mono ?_
  rintro e w4 ⟨rfl, b_⟩
  have mw4 := mw3.below b_
  have tw4 := tw3.below b_
  have Bw4 := Bw3.trans (b_.mono (Nat.le_of_lt xRa_w3.lt))
  have xRa_w4 := xRa_w3.below b_
  have xRb_w4 := xRb_w3.below b_
  clear b_ mw3 tw3 Bw3 xRa_w3 xRb_w3
  have dRb0 := xRb_w4.c0
  have dRb1 := xRb_w4.c1
  have dRb2 := xRb_w4.c2
  have dRb3 := xRb_w4.c3
  have dRb4 := xRb_w4.c4
  have dRb5 := xRb_w4.c5
  go_wp2_with fail
  clear dRb0 dRb1 dRb2 dRb3 dRb4 dRb5
  refine (CC2.out _ mw4 tw4).mono ?_
  rintro e w5 ⟨rfl, b_⟩
  have mw5 := mw4.below b_
  have tw5 := tw4.below b_
  have Bw5 := Bw4.trans (b_.mono (Nat.le_of_lt xRa_w4.lt))
  have xRa_w5 := xRa_w4.below b_
  have xRb_w5 := xRb_w4.below b_
  clear b_ mw4 tw4 Bw4 xRa_w4 xRb_w4
  have dRa0 := xRa_w5.c0
  have dRa1 := xRa_w5.c1
  have dRa2 := xRa_w5.c2
  have dRa3 := xRa_w5.c3
  have dRa4 := xRa_w5.c4
  have dRa5 := xRa_w5.c5
  have dRb0 := xRb_w5.c0
  have dRb1 := xRb_w5.c1
  have dRb2 := xRb_w5.c2
  have dRb3 := xRb_w5.c3
  have dRb4 := xRb_w5.c4
  have dRb5 := xRb_w5.c5
  go_wp2
  clear dRa0 dRa1 dRa2 dRa3 dRa4 dRa5 dRb0 dRb1 dRb2 dRb3 dRb4 dRb5
  have xn := BX.made w5 false s h p ⟨#[47]⟩ ⟨#[]⟩
  have mw6 := mw5.made (.cells #[.bool false, .string s, .string h, .int .i64 p, .string ⟨#[47]⟩, .string ⟨#[]⟩] 28)
  have tw6 := tw5.made (.cells #[.bool false, .string s, .string h, .int .i64 p, .string ⟨#[47]⟩, .string ⟨#[]⟩] 28)
  have Bw6 := Bw5.trans (((Below.refl w5.heap.size w5).alloc (Nat.le_refl _) (.cells #[.bool false, .string s, .string h, .int .i64 p, .string ⟨#[47]⟩, .string ⟨#[]⟩] 28)).mono (Nat.le_of_lt xRa_w5.lt))
  have xRa_w6 := xRa_w5.below ((Below.refl w5.heap.size w5).alloc (Nat.le_refl _) (.cells #[.bool false, .string s, .string h, .int .i64 p, .string ⟨#[47]⟩, .string ⟨#[]⟩] 28))
  have xRb_w6 := xRb_w5.below ((Below.refl w5.heap.size w5).alloc (Nat.le_refl _) (.cells #[.bool false, .string s, .string h, .int .i64 p, .string ⟨#[47]⟩, .string ⟨#[]⟩] 28))
  generalize w5.heap.size = Rc at xn ⊢
  generalize w5.alloc (.cells #[.bool false, .string s, .string h, .int .i64 p, .string ⟨#[47]⟩, .string ⟨#[]⟩] 28) = w6 at xn mw6 tw6 Bw6 xRa_w6 xRb_w6 ⊢
  have xRc_w6 := xn
  clear xn mw5 tw5 Bw5 xRa_w5 xRb_w5
  obtain ⟨C, hC⟩ : ∃ C : World → Prop, ∀ w', C w' ↔ (BX w' Ra false s h p pa q ∧ BX w' Rb false s9 h9 p9 pa9 q9 ∧ BX w' Rc false s h p ⟨#[47]⟩ ⟨#[]⟩ ∧ Below Ra w w' ∧ MaxIn w' ∧ TabIn w') := ⟨_, fun _ => Iff.rfl⟩
  have HC := Lib.hid hC
  clear hC
  have hC0 : C w6.drew := (HC.out _).2 ⟨xRa_w6, xRb_w6, xRc_w6, Bw6.drew, mw6, tw6⟩
  have HK : Hid (∀ w', C w' → ∀ w7, Below w'.heap.size w' w7 → C w7) := Lib.hid fun w' hc w7 b => by
    obtain ⟨xRa, xRb, xRc, K4, m7, t7⟩ := (HC.out w').1 hc
    exact (HC.out _).2 ⟨xRa.below b, xRb.below b, xRc.below b, K4.trans (b.mono (Nat.le_of_lt xRa.lt)), m7.below b, t7.below b⟩
  clear xRa_w6 xRb_w6 xRc_w6 Bw6 mw6 tw6
  refine region_class C (by kernel_rfl) (by kernel_rfl) hC0 ?_
  clear hC0
  repeat
    first
      | go_big_quiet_skip
      | (go_big_quiet_want; go_big_quiet_op; go_big_quiet_on)
      | (refine BigFrame.wpQuiet_want rfl (fun K hK => ?_)
         apply Exists.intro
         refine ⟨fun w' hc => ?_, hK _ ?_⟩
         · obtain ⟨xRa, xRb, xRc, K4, m7, t7⟩ := (HC.out w').1 hc
           have dRa0 := xRa.c0
           have dRa1 := xRa.c1
           have dRa2 := xRa.c2
           have dRa3 := xRa.c3
           have dRa4 := xRa.c4
           have dRa5 := xRa.c5
           have dRb0 := xRb.c0
           have dRb1 := xRb.c1
           have dRb2 := xRb.c2
           have dRb3 := xRb.c3
           have dRb4 := xRb.c4
           have dRb5 := xRb.c5
           have dRc0 := xRc.c0
           have dRc1 := xRc.c1
           have dRc2 := xRc.c2
           have dRc3 := xRc.c3
           have dRc4 := xRc.c4
           have dRc5 := xRc.c5
           unfold Oper.quietAt
           go_simp
           first
             | done
             | rfl
             | ((with_reducible refine (FR.out _ m7 t7).mono ?_); rintro e w7 ⟨rfl, b7⟩; exact ⟨rfl, HK.out w' hc w7 b7⟩)
             | ((with_reducible refine (CF1.out _ m7 t7).mono ?_); rintro e w7 ⟨rfl, b7⟩; exact ⟨rfl, HK.out w' hc w7 b7⟩)
             | ((with_reducible refine (CF2.out _ m7 t7).mono ?_); rintro e w7 ⟨rfl, b7⟩; exact ⟨rfl, HK.out w' hc w7 b7⟩)
             | ((with_reducible refine (CF3.out _ m7 t7).mono ?_); rintro e w7 ⟨rfl, b7⟩; exact ⟨rfl, HK.out w' hc w7 b7⟩)
             | ((with_reducible refine (CS1.out _).mono ?_); rintro e w7 ⟨rfl, b7⟩; exact ⟨rfl, HK.out w' hc w7 b7⟩)
             | ((with_reducible refine (CS2.out _).mono ?_); rintro e w7 ⟨rfl, b7⟩; exact ⟨rfl, HK.out w' hc w7 b7⟩)
         clear hK K
         simp only [Act.put, List.setIfInBounds_toArray, List.set_cons_zero, List.set_cons_succ])
  refine wpQuiet_nil ?_
  intro w7 hc
  obtain ⟨xRa_w7, xRb_w7, xRc_w7, Bw7, mw7, tw7⟩ := (HC.out w7).1 hc
  clear hc HC HK
  go_wp2
  go_ret
  exact ⟨rfl, by rw [HR.out]; exact Bw7⟩

set_option maxRecDepth 100000 in
set_option maxHeartbeats 8000000 in
theorem apart_p (s h : ByteArray) (p : Int) (pa q : ByteArray) (s9 h9 : ByteArray) (p9 : Int) (pa9 q9 : ByteArray) (P P9 : Int) (CF1 : Hid (∀ W, MaxIn W → TabIn W → Calls Tryd.prog 14 #[uV false s h p pa q] W fun e w' => e = .returned (oV false s h P) ∧ Below W.heap.size W w')) (CF2 : Hid (∀ W, MaxIn W → TabIn W → Calls Tryd.prog 14 #[uV false s9 h9 p9 pa9 q9] W fun e w' => e = .returned (oV false s9 h9 P9) ∧ Below W.heap.size W w')) (CF3 : Hid (∀ W, MaxIn W → TabIn W → Calls Tryd.prog 14 #[uV false s h p ⟨#[47]⟩ ⟨#[]⟩] W fun e w' => e = .returned (oV false s h P) ∧ Below W.heap.size W w')) (CS1 : Hid (∀ W, Calls Tryd.prog 8 #[oV false s h P, oV false s9 h9 P9] W fun e w' => e = .returned (.bool false) ∧ Below W.heap.size W w')) (CS2 : Hid (∀ W, Calls Tryd.prog 8 #[oV false s h P, oV false s h P] W fun e w' => e = .returned (.bool true) ∧ Below W.heap.size W w')) (CB1 : Hid (∀ W, Calls Tryd.prog 12 #[uV false s h p pa q] W fun e w' => e = .returned (.bool false) ∧ Below W.heap.size W w')) (CB2 : Hid (∀ W, Calls Tryd.prog 12 #[uV false s9 h9 p9 pa9 q9] W fun e w' => e = .returned (.bool false) ∧ Below W.heap.size W w')) (CC1 : Hid (∀ W, MaxIn W → TabIn W → Calls Tryd.prog 13 #[uV false s h p pa q] W fun e w' => e = .returned (.int .i64 0) ∧ Below W.heap.size W w')) (CC2 : Hid (∀ W, MaxIn W → TabIn W → Calls Tryd.prog 13 #[uV false s9 h9 p9 pa9 q9] W fun e w' => e = .returned (.int .i64 0) ∧ Below W.heap.size W w')) (g0 : (s.toList == s9.toList) = true) (g1 : (h.toList == h9.toList) = true) (g2 : (p == p9) = false) (w : World) (hm : MaxIn w) (ht : TabIn w) : Calls Tryd.prog 4 #[uV false s h p pa q, uV false s9 h9 p9 pa9 q9] w fun e w' => e = .returned (.bool true) ∧ Below w.heap.size w w' := by
  have FR := froms_hid
  unfold uV at *
  unfold oV at *
  go_enter Tryd.func4, Tryd.ntmps4
  go_wp2_with fail
  have xn := BX.made w false s h p pa q
  have xz := BX.made (w.alloc (.cells #[.bool false, .string s, .string h, .int .i64 p, .string pa, .string q] 28)) false s9 h9 p9 pa9 q9
  have xy := xn.below ((Below.refl _ _).alloc (Nat.le_refl _) (.cells #[.bool false, .string s9, .string h9, .int .i64 p9, .string pa9, .string q9] 28))
  have mB := (hm.made (.cells #[.bool false, .string s, .string h, .int .i64 p, .string pa, .string q] 28)).made (.cells #[.bool false, .string s9, .string h9, .int .i64 p9, .string pa9, .string q9] 28)
  have tB := (ht.made (.cells #[.bool false, .string s, .string h, .int .i64 p, .string pa, .string q] 28)).made (.cells #[.bool false, .string s9, .string h9, .int .i64 p9, .string pa9, .string q9] 28)
  have BB := ((Below.refl w.heap.size w).alloc (Nat.le_refl _) (.cells #[.bool false, .string s, .string h, .int .i64 p, .string pa, .string q] 28)).alloc (Below.size ((Below.refl w.heap.size w).alloc (Nat.le_refl _) (.cells #[.bool false, .string s, .string h, .int .i64 p, .string pa, .string q] 28))) (.cells #[.bool false, .string s9, .string h9, .int .i64 p9, .string pa9, .string q9] 28)
  rw [size_alloc] at xz
  clear xn hm ht
  generalize hR : w.heap.size = Ra at xy xz BB ⊢
  have HR := Lib.hid hR
  clear hR
  obtain ⟨Rb, hRb⟩ : ∃ Rb, Ra + 1 = Rb := ⟨_, rfl⟩
  rw [hRb] at xz
  try rw [hRb]
  clear hRb
  generalize (w.alloc (.cells #[.bool false, .string s, .string h, .int .i64 p, .string pa, .string q] 28)).alloc (.cells #[.bool false, .string s9, .string h9, .int .i64 p9, .string pa9, .string q9] 28) = w1 at xy xz mB tB BB ⊢
  have xRa_w1 := xy
  have xRb_w1 := xz
  clear xy xz
  refine (CB1.out _ ).mono ?_
  rintro e w2 ⟨rfl, b_⟩
  have mw2 := mB.below b_
  have tw2 := tB.below b_
  have Bw2 := BB.trans (b_.mono (Nat.le_of_lt xRa_w1.lt))
  have xRa_w2 := xRa_w1.below b_
  have xRb_w2 := xRb_w1.below b_
  clear b_ mB tB BB xRa_w1 xRb_w1
  have dRb0 := xRb_w2.c0
  have dRb1 := xRb_w2.c1
  have dRb2 := xRb_w2.c2
  have dRb3 := xRb_w2.c3
  have dRb4 := xRb_w2.c4
  have dRb5 := xRb_w2.c5
  go_wp2_with fail
  clear dRb0 dRb1 dRb2 dRb3 dRb4 dRb5
  refine (CB2.out _ ).mono ?_
  rintro e w3 ⟨rfl, b_⟩
  have mw3 := mw2.below b_
  have tw3 := tw2.below b_
  have Bw3 := Bw2.trans (b_.mono (Nat.le_of_lt xRa_w2.lt))
  have xRa_w3 := xRa_w2.below b_
  have xRb_w3 := xRb_w2.below b_
  clear b_ mw2 tw2 Bw2 xRa_w2 xRb_w2
  have dRa0 := xRa_w3.c0
  have dRa1 := xRa_w3.c1
  have dRa2 := xRa_w3.c2
  have dRa3 := xRa_w3.c3
  have dRa4 := xRa_w3.c4
  have dRa5 := xRa_w3.c5
  go_wp2_with fail
  clear dRa0 dRa1 dRa2 dRa3 dRa4 dRa5
  refine (CC1.out _ mw3 tw3).mono ?_
  rintro e w4 ⟨rfl, b_⟩
  have mw4 := mw3.below b_
  have tw4 := tw3.below b_
  have Bw4 := Bw3.trans (b_.mono (Nat.le_of_lt xRa_w3.lt))
  have xRa_w4 := xRa_w3.below b_
  have xRb_w4 := xRb_w3.below b_
  clear b_ mw3 tw3 Bw3 xRa_w3 xRb_w3
  have dRb0 := xRb_w4.c0
  have dRb1 := xRb_w4.c1
  have dRb2 := xRb_w4.c2
  have dRb3 := xRb_w4.c3
  have dRb4 := xRb_w4.c4
  have dRb5 := xRb_w4.c5
  go_wp2_with fail
  clear dRb0 dRb1 dRb2 dRb3 dRb4 dRb5
  refine (CC2.out _ mw4 tw4).mono ?_
  rintro e w5 ⟨rfl, b_⟩
  have mw5 := mw4.below b_
  have tw5 := tw4.below b_
  have Bw5 := Bw4.trans (b_.mono (Nat.le_of_lt xRa_w4.lt))
  have xRa_w5 := xRa_w4.below b_
  have xRb_w5 := xRb_w4.below b_
  clear b_ mw4 tw4 Bw4 xRa_w4 xRb_w4
  have dRa0 := xRa_w5.c0
  have dRa1 := xRa_w5.c1
  have dRa2 := xRa_w5.c2
  have dRa3 := xRa_w5.c3
  have dRa4 := xRa_w5.c4
  have dRa5 := xRa_w5.c5
  have dRb0 := xRb_w5.c0
  have dRb1 := xRb_w5.c1
  have dRb2 := xRb_w5.c2
  have dRb3 := xRb_w5.c3
  have dRb4 := xRb_w5.c4
  have dRb5 := xRb_w5.c5
  go_wp2
  clear dRa0 dRa1 dRa2 dRa3 dRa4 dRa5 dRb0 dRb1 dRb2 dRb3 dRb4 dRb5
  have xn := BX.made w5 false s h p ⟨#[47]⟩ ⟨#[]⟩
  have mw6 := mw5.made (.cells #[.bool false, .string s, .string h, .int .i64 p, .string ⟨#[47]⟩, .string ⟨#[]⟩] 28)
  have tw6 := tw5.made (.cells #[.bool false, .string s, .string h, .int .i64 p, .string ⟨#[47]⟩, .string ⟨#[]⟩] 28)
  have Bw6 := Bw5.trans (((Below.refl w5.heap.size w5).alloc (Nat.le_refl _) (.cells #[.bool false, .string s, .string h, .int .i64 p, .string ⟨#[47]⟩, .string ⟨#[]⟩] 28)).mono (Nat.le_of_lt xRa_w5.lt))
  have xRa_w6 := xRa_w5.below ((Below.refl w5.heap.size w5).alloc (Nat.le_refl _) (.cells #[.bool false, .string s, .string h, .int .i64 p, .string ⟨#[47]⟩, .string ⟨#[]⟩] 28))
  have xRb_w6 := xRb_w5.below ((Below.refl w5.heap.size w5).alloc (Nat.le_refl _) (.cells #[.bool false, .string s, .string h, .int .i64 p, .string ⟨#[47]⟩, .string ⟨#[]⟩] 28))
  generalize w5.heap.size = Rc at xn ⊢
  generalize w5.alloc (.cells #[.bool false, .string s, .string h, .int .i64 p, .string ⟨#[47]⟩, .string ⟨#[]⟩] 28) = w6 at xn mw6 tw6 Bw6 xRa_w6 xRb_w6 ⊢
  have xRc_w6 := xn
  clear xn mw5 tw5 Bw5 xRa_w5 xRb_w5
  obtain ⟨C, hC⟩ : ∃ C : World → Prop, ∀ w', C w' ↔ (BX w' Ra false s h p pa q ∧ BX w' Rb false s9 h9 p9 pa9 q9 ∧ BX w' Rc false s h p ⟨#[47]⟩ ⟨#[]⟩ ∧ Below Ra w w' ∧ MaxIn w' ∧ TabIn w') := ⟨_, fun _ => Iff.rfl⟩
  have HC := Lib.hid hC
  clear hC
  have hC0 : C w6.drew := (HC.out _).2 ⟨xRa_w6, xRb_w6, xRc_w6, Bw6.drew, mw6, tw6⟩
  have HK : Hid (∀ w', C w' → ∀ w7, Below w'.heap.size w' w7 → C w7) := Lib.hid fun w' hc w7 b => by
    obtain ⟨xRa, xRb, xRc, K4, m7, t7⟩ := (HC.out w').1 hc
    exact (HC.out _).2 ⟨xRa.below b, xRb.below b, xRc.below b, K4.trans (b.mono (Nat.le_of_lt xRa.lt)), m7.below b, t7.below b⟩
  clear xRa_w6 xRb_w6 xRc_w6 Bw6 mw6 tw6
  refine region_class C (by kernel_rfl) (by kernel_rfl) hC0 ?_
  clear hC0
  repeat
    first
      | go_big_quiet_skip
      | (go_big_quiet_want; go_big_quiet_op; go_big_quiet_on)
      | (refine BigFrame.wpQuiet_want rfl (fun K hK => ?_)
         apply Exists.intro
         refine ⟨fun w' hc => ?_, hK _ ?_⟩
         · obtain ⟨xRa, xRb, xRc, K4, m7, t7⟩ := (HC.out w').1 hc
           have dRa0 := xRa.c0
           have dRa1 := xRa.c1
           have dRa2 := xRa.c2
           have dRa3 := xRa.c3
           have dRa4 := xRa.c4
           have dRa5 := xRa.c5
           have dRb0 := xRb.c0
           have dRb1 := xRb.c1
           have dRb2 := xRb.c2
           have dRb3 := xRb.c3
           have dRb4 := xRb.c4
           have dRb5 := xRb.c5
           have dRc0 := xRc.c0
           have dRc1 := xRc.c1
           have dRc2 := xRc.c2
           have dRc3 := xRc.c3
           have dRc4 := xRc.c4
           have dRc5 := xRc.c5
           unfold Oper.quietAt
           go_simp
           first
             | done
             | rfl
             | ((with_reducible refine (FR.out _ m7 t7).mono ?_); rintro e w7 ⟨rfl, b7⟩; exact ⟨rfl, HK.out w' hc w7 b7⟩)
             | ((with_reducible refine (CF1.out _ m7 t7).mono ?_); rintro e w7 ⟨rfl, b7⟩; exact ⟨rfl, HK.out w' hc w7 b7⟩)
             | ((with_reducible refine (CF2.out _ m7 t7).mono ?_); rintro e w7 ⟨rfl, b7⟩; exact ⟨rfl, HK.out w' hc w7 b7⟩)
             | ((with_reducible refine (CF3.out _ m7 t7).mono ?_); rintro e w7 ⟨rfl, b7⟩; exact ⟨rfl, HK.out w' hc w7 b7⟩)
             | ((with_reducible refine (CS1.out _).mono ?_); rintro e w7 ⟨rfl, b7⟩; exact ⟨rfl, HK.out w' hc w7 b7⟩)
             | ((with_reducible refine (CS2.out _).mono ?_); rintro e w7 ⟨rfl, b7⟩; exact ⟨rfl, HK.out w' hc w7 b7⟩)
         clear hK K
         simp only [Act.put, List.setIfInBounds_toArray, List.set_cons_zero, List.set_cons_succ])
  refine wpQuiet_nil ?_
  intro w7 hc
  obtain ⟨xRa_w7, xRb_w7, xRc_w7, Bw7, mw7, tw7⟩ := (HC.out w7).1 hc
  clear hc HC HK
  go_wp2
  go_ret
  exact ⟨rfl, by rw [HR.out]; exact Bw7⟩

set_option maxRecDepth 100000 in
set_option maxHeartbeats 8000000 in
theorem apart_e (s h : ByteArray) (p : Int) (pa q : ByteArray) (s9 h9 : ByteArray) (p9 : Int) (pa9 q9 : ByteArray) (P P9 : Int) (CF1 : Hid (∀ W, MaxIn W → TabIn W → Calls Tryd.prog 14 #[uV false s h p pa q] W fun e w' => e = .returned (oV false s h P) ∧ Below W.heap.size W w')) (CF2 : Hid (∀ W, MaxIn W → TabIn W → Calls Tryd.prog 14 #[uV false s9 h9 p9 pa9 q9] W fun e w' => e = .returned (oV false s9 h9 P9) ∧ Below W.heap.size W w')) (CF3 : Hid (∀ W, MaxIn W → TabIn W → Calls Tryd.prog 14 #[uV false s h p ⟨#[47]⟩ ⟨#[]⟩] W fun e w' => e = .returned (oV false s h P) ∧ Below W.heap.size W w')) (CS1 : Hid (∀ W, Calls Tryd.prog 8 #[oV false s h P, oV false s9 h9 P9] W fun e w' => e = .returned (.bool true) ∧ Below W.heap.size W w')) (CS2 : Hid (∀ W, Calls Tryd.prog 8 #[oV false s h P, oV false s h P] W fun e w' => e = .returned (.bool true) ∧ Below W.heap.size W w')) (CB1 : Hid (∀ W, Calls Tryd.prog 12 #[uV false s h p pa q] W fun e w' => e = .returned (.bool false) ∧ Below W.heap.size W w')) (CB2 : Hid (∀ W, Calls Tryd.prog 12 #[uV false s9 h9 p9 pa9 q9] W fun e w' => e = .returned (.bool false) ∧ Below W.heap.size W w')) (CC1 : Hid (∀ W, MaxIn W → TabIn W → Calls Tryd.prog 13 #[uV false s h p pa q] W fun e w' => e = .returned (.int .i64 0) ∧ Below W.heap.size W w')) (CC2 : Hid (∀ W, MaxIn W → TabIn W → Calls Tryd.prog 13 #[uV false s9 h9 p9 pa9 q9] W fun e w' => e = .returned (.int .i64 0) ∧ Below W.heap.size W w')) (g0 : (s.toList == s9.toList) = true) (g1 : (h.toList == h9.toList) = true) (g2 : (p == p9) = true) (w : World) (hm : MaxIn w) (ht : TabIn w) : Calls Tryd.prog 4 #[uV false s h p pa q, uV false s9 h9 p9 pa9 q9] w fun e w' => e = .returned (.bool true) ∧ Below w.heap.size w w' := by
  have FR := froms_hid
  unfold uV at *
  unfold oV at *
  go_enter Tryd.func4, Tryd.ntmps4
  go_wp2_with fail
  have xn := BX.made w false s h p pa q
  have xz := BX.made (w.alloc (.cells #[.bool false, .string s, .string h, .int .i64 p, .string pa, .string q] 28)) false s9 h9 p9 pa9 q9
  have xy := xn.below ((Below.refl _ _).alloc (Nat.le_refl _) (.cells #[.bool false, .string s9, .string h9, .int .i64 p9, .string pa9, .string q9] 28))
  have mB := (hm.made (.cells #[.bool false, .string s, .string h, .int .i64 p, .string pa, .string q] 28)).made (.cells #[.bool false, .string s9, .string h9, .int .i64 p9, .string pa9, .string q9] 28)
  have tB := (ht.made (.cells #[.bool false, .string s, .string h, .int .i64 p, .string pa, .string q] 28)).made (.cells #[.bool false, .string s9, .string h9, .int .i64 p9, .string pa9, .string q9] 28)
  have BB := ((Below.refl w.heap.size w).alloc (Nat.le_refl _) (.cells #[.bool false, .string s, .string h, .int .i64 p, .string pa, .string q] 28)).alloc (Below.size ((Below.refl w.heap.size w).alloc (Nat.le_refl _) (.cells #[.bool false, .string s, .string h, .int .i64 p, .string pa, .string q] 28))) (.cells #[.bool false, .string s9, .string h9, .int .i64 p9, .string pa9, .string q9] 28)
  rw [size_alloc] at xz
  clear xn hm ht
  generalize hR : w.heap.size = Ra at xy xz BB ⊢
  have HR := Lib.hid hR
  clear hR
  obtain ⟨Rb, hRb⟩ : ∃ Rb, Ra + 1 = Rb := ⟨_, rfl⟩
  rw [hRb] at xz
  try rw [hRb]
  clear hRb
  generalize (w.alloc (.cells #[.bool false, .string s, .string h, .int .i64 p, .string pa, .string q] 28)).alloc (.cells #[.bool false, .string s9, .string h9, .int .i64 p9, .string pa9, .string q9] 28) = w1 at xy xz mB tB BB ⊢
  have xRa_w1 := xy
  have xRb_w1 := xz
  clear xy xz
  refine (CB1.out _ ).mono ?_
  rintro e w2 ⟨rfl, b_⟩
  have mw2 := mB.below b_
  have tw2 := tB.below b_
  have Bw2 := BB.trans (b_.mono (Nat.le_of_lt xRa_w1.lt))
  have xRa_w2 := xRa_w1.below b_
  have xRb_w2 := xRb_w1.below b_
  clear b_ mB tB BB xRa_w1 xRb_w1
  have dRb0 := xRb_w2.c0
  have dRb1 := xRb_w2.c1
  have dRb2 := xRb_w2.c2
  have dRb3 := xRb_w2.c3
  have dRb4 := xRb_w2.c4
  have dRb5 := xRb_w2.c5
  go_wp2_with fail
  clear dRb0 dRb1 dRb2 dRb3 dRb4 dRb5
  refine (CB2.out _ ).mono ?_
  rintro e w3 ⟨rfl, b_⟩
  have mw3 := mw2.below b_
  have tw3 := tw2.below b_
  have Bw3 := Bw2.trans (b_.mono (Nat.le_of_lt xRa_w2.lt))
  have xRa_w3 := xRa_w2.below b_
  have xRb_w3 := xRb_w2.below b_
  clear b_ mw2 tw2 Bw2 xRa_w2 xRb_w2
  have dRa0 := xRa_w3.c0
  have dRa1 := xRa_w3.c1
  have dRa2 := xRa_w3.c2
  have dRa3 := xRa_w3.c3
  have dRa4 := xRa_w3.c4
  have dRa5 := xRa_w3.c5
  go_wp2_with fail
  clear dRa0 dRa1 dRa2 dRa3 dRa4 dRa5
  refine (CC1.out _ mw3 tw3).mono ?_
  rintro e w4 ⟨rfl, b_⟩
  have mw4 := mw3.below b_
  have tw4 := tw3.below b_
  have Bw4 := Bw3.trans (b_.mono (Nat.le_of_lt xRa_w3.lt))
  have xRa_w4 := xRa_w3.below b_
  have xRb_w4 := xRb_w3.below b_
  clear b_ mw3 tw3 Bw3 xRa_w3 xRb_w3
  have dRb0 := xRb_w4.c0
  have dRb1 := xRb_w4.c1
  have dRb2 := xRb_w4.c2
  have dRb3 := xRb_w4.c3
  have dRb4 := xRb_w4.c4
  have dRb5 := xRb_w4.c5
  go_wp2_with fail
  clear dRb0 dRb1 dRb2 dRb3 dRb4 dRb5
  refine (CC2.out _ mw4 tw4).mono ?_
  rintro e w5 ⟨rfl, b_⟩
  have mw5 := mw4.below b_
  have tw5 := tw4.below b_
  have Bw5 := Bw4.trans (b_.mono (Nat.le_of_lt xRa_w4.lt))
  have xRa_w5 := xRa_w4.below b_
  have xRb_w5 := xRb_w4.below b_
  clear b_ mw4 tw4 Bw4 xRa_w4 xRb_w4
  have dRa0 := xRa_w5.c0
  have dRa1 := xRa_w5.c1
  have dRa2 := xRa_w5.c2
  have dRa3 := xRa_w5.c3
  have dRa4 := xRa_w5.c4
  have dRa5 := xRa_w5.c5
  have dRb0 := xRb_w5.c0
  have dRb1 := xRb_w5.c1
  have dRb2 := xRb_w5.c2
  have dRb3 := xRb_w5.c3
  have dRb4 := xRb_w5.c4
  have dRb5 := xRb_w5.c5
  go_wp2
  clear dRa0 dRa1 dRa2 dRa3 dRa4 dRa5 dRb0 dRb1 dRb2 dRb3 dRb4 dRb5
  have xn := BX.made w5 false s h p ⟨#[47]⟩ ⟨#[]⟩
  have mw6 := mw5.made (.cells #[.bool false, .string s, .string h, .int .i64 p, .string ⟨#[47]⟩, .string ⟨#[]⟩] 28)
  have tw6 := tw5.made (.cells #[.bool false, .string s, .string h, .int .i64 p, .string ⟨#[47]⟩, .string ⟨#[]⟩] 28)
  have Bw6 := Bw5.trans (((Below.refl w5.heap.size w5).alloc (Nat.le_refl _) (.cells #[.bool false, .string s, .string h, .int .i64 p, .string ⟨#[47]⟩, .string ⟨#[]⟩] 28)).mono (Nat.le_of_lt xRa_w5.lt))
  have xRa_w6 := xRa_w5.below ((Below.refl w5.heap.size w5).alloc (Nat.le_refl _) (.cells #[.bool false, .string s, .string h, .int .i64 p, .string ⟨#[47]⟩, .string ⟨#[]⟩] 28))
  have xRb_w6 := xRb_w5.below ((Below.refl w5.heap.size w5).alloc (Nat.le_refl _) (.cells #[.bool false, .string s, .string h, .int .i64 p, .string ⟨#[47]⟩, .string ⟨#[]⟩] 28))
  generalize w5.heap.size = Rc at xn ⊢
  generalize w5.alloc (.cells #[.bool false, .string s, .string h, .int .i64 p, .string ⟨#[47]⟩, .string ⟨#[]⟩] 28) = w6 at xn mw6 tw6 Bw6 xRa_w6 xRb_w6 ⊢
  have xRc_w6 := xn
  clear xn mw5 tw5 Bw5 xRa_w5 xRb_w5
  obtain ⟨C, hC⟩ : ∃ C : World → Prop, ∀ w', C w' ↔ (BX w' Ra false s h p pa q ∧ BX w' Rb false s9 h9 p9 pa9 q9 ∧ BX w' Rc false s h p ⟨#[47]⟩ ⟨#[]⟩ ∧ Below Ra w w' ∧ MaxIn w' ∧ TabIn w') := ⟨_, fun _ => Iff.rfl⟩
  have HC := Lib.hid hC
  clear hC
  have hC0 : C w6.drew := (HC.out _).2 ⟨xRa_w6, xRb_w6, xRc_w6, Bw6.drew, mw6, tw6⟩
  have HK : Hid (∀ w', C w' → ∀ w7, Below w'.heap.size w' w7 → C w7) := Lib.hid fun w' hc w7 b => by
    obtain ⟨xRa, xRb, xRc, K4, m7, t7⟩ := (HC.out w').1 hc
    exact (HC.out _).2 ⟨xRa.below b, xRb.below b, xRc.below b, K4.trans (b.mono (Nat.le_of_lt xRa.lt)), m7.below b, t7.below b⟩
  clear xRa_w6 xRb_w6 xRc_w6 Bw6 mw6 tw6
  refine region_class C (by kernel_rfl) (by kernel_rfl) hC0 ?_
  clear hC0
  repeat
    first
      | go_big_quiet_skip
      | (go_big_quiet_want; go_big_quiet_op; go_big_quiet_on)
      | (refine BigFrame.wpQuiet_want rfl (fun K hK => ?_)
         apply Exists.intro
         refine ⟨fun w' hc => ?_, hK _ ?_⟩
         · obtain ⟨xRa, xRb, xRc, K4, m7, t7⟩ := (HC.out w').1 hc
           have dRa0 := xRa.c0
           have dRa1 := xRa.c1
           have dRa2 := xRa.c2
           have dRa3 := xRa.c3
           have dRa4 := xRa.c4
           have dRa5 := xRa.c5
           have dRb0 := xRb.c0
           have dRb1 := xRb.c1
           have dRb2 := xRb.c2
           have dRb3 := xRb.c3
           have dRb4 := xRb.c4
           have dRb5 := xRb.c5
           have dRc0 := xRc.c0
           have dRc1 := xRc.c1
           have dRc2 := xRc.c2
           have dRc3 := xRc.c3
           have dRc4 := xRc.c4
           have dRc5 := xRc.c5
           unfold Oper.quietAt
           go_simp
           first
             | done
             | rfl
             | ((with_reducible refine (FR.out _ m7 t7).mono ?_); rintro e w7 ⟨rfl, b7⟩; exact ⟨rfl, HK.out w' hc w7 b7⟩)
             | ((with_reducible refine (CF1.out _ m7 t7).mono ?_); rintro e w7 ⟨rfl, b7⟩; exact ⟨rfl, HK.out w' hc w7 b7⟩)
             | ((with_reducible refine (CF2.out _ m7 t7).mono ?_); rintro e w7 ⟨rfl, b7⟩; exact ⟨rfl, HK.out w' hc w7 b7⟩)
             | ((with_reducible refine (CF3.out _ m7 t7).mono ?_); rintro e w7 ⟨rfl, b7⟩; exact ⟨rfl, HK.out w' hc w7 b7⟩)
             | ((with_reducible refine (CS1.out _).mono ?_); rintro e w7 ⟨rfl, b7⟩; exact ⟨rfl, HK.out w' hc w7 b7⟩)
             | ((with_reducible refine (CS2.out _).mono ?_); rintro e w7 ⟨rfl, b7⟩; exact ⟨rfl, HK.out w' hc w7 b7⟩)
         clear hK K
         simp only [Act.put, List.setIfInBounds_toArray, List.set_cons_zero, List.set_cons_succ])
  refine wpQuiet_nil ?_
  intro w7 hc
  obtain ⟨xRa_w7, xRb_w7, xRc_w7, Bw7, mw7, tw7⟩ := (HC.out w7).1 hc
  clear hc HC HK
  go_wp2
  go_ret
  exact ⟨rfl, by rw [HR.out]; exact Bw7⟩

theorem oApart_law (o : Bool) (s h : ByteArray) (p : Int) (pa q : ByteArray) (o9 : Bool) (s9 h9 : ByteArray) (p9 : Int) (pa9 q9 : ByteArray) (w : World) (hm : MaxIn w) (ht : TabIn w) : Calls Tryd.prog 4 #[uV o s h p pa q, uV o9 s9 h9 p9 pa9 q9] w fun e w' => e = .returned (.bool true) ∧ Below w.heap.size w w' := by
  obtain ⟨g1, hg1⟩ : ∃ b, (decide (2000 < s.size) || decide (2000 < h.size) || decide (2000 < pa.size) || decide (2000 < q.size)) = b := ⟨_, rfl⟩
  have CB1 := big_hid o s h p pa q g1 hg1
  cases g1
  case true => exact apart_1 o s h p pa q o9 s9 h9 p9 pa9 q9 CB1 w hm ht
  obtain ⟨g2, hg2⟩ : ∃ b, (decide (2000 < s9.size) || decide (2000 < h9.size) || decide (2000 < pa9.size) || decide (2000 < q9.size)) = b := ⟨_, rfl⟩
  have CB2 := big_hid o9 s9 h9 p9 pa9 q9 g2 hg2
  cases g2
  case true => exact apart_2 o s h p pa q o9 s9 h9 p9 pa9 q9 CB1 CB2 w hm ht
  simp only [Bool.or_eq_false_iff, decide_eq_false_iff_not] at hg1 hg2
  obtain ⟨⟨⟨z1, z2⟩, z3⟩, z4⟩ := hg1
  obtain ⟨⟨⟨y1, y2⟩, y3⟩, y4⟩ := hg2
  cases hr : rightM (uM o s h p pa q)
  · exact apart_3 o s h p pa q o9 s9 h9 p9 pa9 q9 CB1 CB2 (check_hid o s h p pa q 50 (chk_wrong hr) (by omega) (by omega) (by omega) (by omega)) w hm ht
  have CC1 := check_hid o s h p pa q 0 (chk_right hr) (by omega) (by omega) (by omega) (by omega)
  cases hr9 : rightM (uM o9 s9 h9 p9 pa9 q9)
  · exact apart_4 o s h p pa q o9 s9 h9 p9 pa9 q9 CB1 CB2 CC1 (check_hid o9 s9 h9 p9 pa9 q9 50 (chk_wrong hr9) (by omega) (by omega) (by omega) (by omega)) w hm ht
  have CC2 := check_hid o9 s9 h9 p9 pa9 q9 0 (chk_right hr9) (by omega) (by omega) (by omega) (by omega)
  cases o
  case true => exact apart_5 s h p pa q o9 s9 h9 p9 pa9 q9 CB1 CB2 CC1 CC2 w hm ht
  cases o9
  case true => exact apart_6 s h p pa q s9 h9 p9 pa9 q9 CB1 CB2 CC1 CC2 w hm ht
  have e1 := origin_some hr rfl
  have e2 := origin_some hr9 rfl
  have e3 : originM (uM false s h p ⟨#[47]⟩ ⟨#[]⟩) = originM (uM false s h p pa q) := bare_origin hr rfl
  rw [e1] at e3
  have key := origin_apart hr rfl hr9 rfl
  rw [e1, e2] at key
  have F1 := of_hid false s h p pa q (by omega) (by omega) (by omega) (by omega) false s h (portU (uM false s h p pa q)) e1
  have F2 := of_hid false s9 h9 p9 pa9 q9 (by omega) (by omega) (by omega) (by omega) false s9 h9 (portU (uM false s9 h9 p9 pa9 q9)) e2
  have F3 := of_hid false s h p ⟨#[47]⟩ ⟨#[]⟩ (by omega) (by omega) (by decide) (by decide) false s h (portU (uM false s h p pa q)) e3
  have S2 := same_hid false s h (portU (uM false s h p pa q)) false s h (portU (uM false s h p pa q)) true (same_self _ _ _ _)
  have S1 := fun b hb => same_hid false s h (portU (uM false s h p pa q)) false s9 h9 (portU (uM false s9 h9 p9 pa9 q9)) b (key.trans hb)
  have eqs : ∀ {x y : ByteArray}, x.data.toList = y.data.toList → (x.toList == y.toList) = true := fun {x y} h => by rw [text_two, decide_eq_true h]
  have d1 : (uM false s h p pa q).s = s.data.toList := rfl
  have d2 : (uM false s9 h9 p9 pa9 q9).s = s9.data.toList := rfl
  by_cases hs : s.data.toList = s9.data.toList
  case neg => exact apart_s s h p pa q s9 h9 p9 pa9 q9 _ _ F1 F2 F3 (S1 false (by simp [uM, hs])) S2 CB1 CB2 CC1 CC2 (not_two hs) w hm ht
  by_cases hh : h.data.toList = h9.data.toList
  case neg => exact apart_h s h p pa q s9 h9 p9 pa9 q9 _ _ F1 F2 F3 (S1 false (by simp [uM, hh])) S2 CB1 CB2 CC1 CC2 (eqs hs) (not_two hh) w hm ht
  by_cases hp : p = p9
  case neg => exact apart_p s h p pa q s9 h9 p9 pa9 q9 _ _ F1 F2 F3 (S1 false (by simp [uM, hp])) S2 CB1 CB2 CC1 CC2 (eqs hs) (eqs hh) (by rw [beq_eq_false_iff_ne]; exact hp) w hm ht
  exact apart_e s h p pa q s9 h9 p9 pa9 q9 _ _ F1 F2 F3 (S1 true (by simp [uM, hs, hh, hp])) S2 CB1 CB2 CC1 CC2 (eqs hs) (eqs hh) (by rw [beq_iff_eq]; exact hp) w hm ht

end Go.Proofs.YtlkpdepdflcbcaaDoor
