/- The widest source, and a scheme's own: what they let be. -/
import Derived.Test.YtpmnpaopkncphaaGreatDoorRowsY
namespace Go.Proofs.YtpmnpaopkncphaaGreatDoor
open Go.RowKit

set_option maxRecDepth 100000 in
set_option maxHeartbeats 8000000 in
theorem wide_long (o : Bool) (s2 h2 : ByteArray) (p : Int) (pa2 q2 : ByteArray) (o3 : Bool) (s3 h3 : ByteArray) (p3 : Int) (pa3 q3 : ByteArray) (m : Bool) (hn : ¬ Fits ⟨#[]⟩ ⟨#[]⟩ ⟨#[]⟩ ⟨#[]⟩ s2 h2 pa2 q2 s3 h3 pa3 q3) (w : World) (hw : Low w) : Calls Tryz.prog 6 #[uV o s2 h2 p pa2 q2, uV o3 s3 h3 p3 pa3 q3, .bool m] w fun e w' => e = .returned (.bool true) ∧ Below w.heap.size w w' := by
  have MR := matches_hid
  have LG := large_hid 0 ⟨#[]⟩ ⟨#[]⟩ ⟨#[]⟩ false 0 ⟨#[]⟩ o s2 h2 p pa2 q2 o3 s3 h3 p3 pa3 q3
  have HN := Lib.hid hn
  clear hn
  unfold srcV uV at *
  go_enter Tryz.func6, Tryz.ntmps6
  go_wp2_with fail
  have xn := BX.made w o s2 h2 p pa2 q2
  have xz := BX.made (w.alloc (.cells #[.bool o, .string s2, .string h2, .int .i64 p, .string pa2, .string q2] 26)) o3 s3 h3 p3 pa3 q3
  have xy := xn.below ((Below.refl _ _).alloc (Nat.le_refl _) (.cells #[.bool o3, .string s3, .string h3, .int .i64 p3, .string pa3, .string q3] 26))
  have gB := (hw.made (.cells #[.bool o, .string s2, .string h2, .int .i64 p, .string pa2, .string q2] 26)).made (.cells #[.bool o3, .string s3, .string h3, .int .i64 p3, .string pa3, .string q3] 26)
  have BB := ((Below.refl w.heap.size w).alloc (Nat.le_refl _) (.cells #[.bool o, .string s2, .string h2, .int .i64 p, .string pa2, .string q2] 26)).alloc (Below.size ((Below.refl w.heap.size w).alloc (Nat.le_refl _) (.cells #[.bool o, .string s2, .string h2, .int .i64 p, .string pa2, .string q2] 26))) (.cells #[.bool o3, .string s3, .string h3, .int .i64 p3, .string pa3, .string q3] 26)
  rw [size_alloc] at xz
  clear xn hw
  generalize hR : w.heap.size = Ra at xy xz BB ⊢
  have HR := Lib.hid hR
  clear hR
  obtain ⟨Rb, hRb⟩ : ∃ Rb, Ra + 1 = Rb := ⟨_, rfl⟩
  rw [hRb] at xz
  try rw [hRb]
  clear hRb
  generalize (w.alloc (.cells #[.bool o, .string s2, .string h2, .int .i64 p, .string pa2, .string q2] 26)).alloc (.cells #[.bool o3, .string s3, .string h3, .int .i64 p3, .string pa3, .string q3] 26) = w1 at xy xz gB BB ⊢
  have xRa_w1 := xy
  have xRb_w1 := xz
  clear xy xz
  refine (LG.out _ ).mono ?_
  rintro e w2 ⟨b0, rfl, b_, hz⟩
  have gw2 := gB.below b_
  have Bw2 := BB.trans (b_.mono (Nat.le_of_lt xRa_w1.lt))
  have xRa_w2 := xRa_w1.below b_
  have xRb_w2 := xRb_w1.below b_
  clear b_ gB BB xRa_w1 xRb_w1
  have HZ := Lib.hid hz
  clear hz
  cases b0
  case false => exact absurd (HZ.out rfl) HN.out
  have dRa0 := xRa_w2.c0
  have dRa1 := xRa_w2.c1
  have dRa2 := xRa_w2.c2
  have dRa3 := xRa_w2.c3
  have dRa4 := xRa_w2.c4
  have dRa5 := xRa_w2.c5
  have dRb0 := xRb_w2.c0
  have dRb1 := xRb_w2.c1
  have dRb2 := xRb_w2.c2
  have dRb3 := xRb_w2.c3
  have dRb4 := xRb_w2.c4
  have dRb5 := xRb_w2.c5
  go_wp2_with fail
  clear dRa0 dRa1 dRa2 dRa3 dRa4 dRa5 dRb0 dRb1 dRb2 dRb3 dRb4 dRb5
  refine (MR.out _ gw2).mono ?_
  rintro e w3 ⟨rfl, b_⟩
  have gw3 := gw2.below b_
  have Bw3 := Bw2.trans (b_.mono (Nat.le_of_lt xRa_w2.lt))
  have xRa_w3 := xRa_w2.below b_
  have xRb_w3 := xRb_w2.below b_
  clear b_ gw2 Bw2 xRa_w2 xRb_w2
  go_wp2
  go_ret
  exact ⟨rfl, by rw [HR.out]; exact Bw3⟩

set_option maxRecDepth 100000 in
set_option maxHeartbeats 8000000 in
theorem wide_wrong (o : Bool) (s2 h2 : ByteArray) (p : Int) (pa2 q2 : ByteArray) (o3 : Bool) (s3 h3 : ByteArray) (p3 : Int) (pa3 q3 : ByteArray) (m : Bool) (CC : Hid (∀ W, Low W → Calls Tryz.prog 22 #[uV o s2 h2 p pa2 q2] W fun e w' => e = .returned (.int .i64 50) ∧ Below W.heap.size W w')) (w : World) (hw : Low w) : Calls Tryz.prog 6 #[uV o s2 h2 p pa2 q2, uV o3 s3 h3 p3 pa3 q3, .bool m] w fun e w' => e = .returned (.bool true) ∧ Below w.heap.size w w' := by
  have MR := matches_hid
  have LG := large_hid 0 ⟨#[]⟩ ⟨#[]⟩ ⟨#[]⟩ false 0 ⟨#[]⟩ o s2 h2 p pa2 q2 o3 s3 h3 p3 pa3 q3
  unfold srcV uV at *
  go_enter Tryz.func6, Tryz.ntmps6
  go_wp2_with fail
  have xn := BX.made w o s2 h2 p pa2 q2
  have xz := BX.made (w.alloc (.cells #[.bool o, .string s2, .string h2, .int .i64 p, .string pa2, .string q2] 26)) o3 s3 h3 p3 pa3 q3
  have xy := xn.below ((Below.refl _ _).alloc (Nat.le_refl _) (.cells #[.bool o3, .string s3, .string h3, .int .i64 p3, .string pa3, .string q3] 26))
  have gB := (hw.made (.cells #[.bool o, .string s2, .string h2, .int .i64 p, .string pa2, .string q2] 26)).made (.cells #[.bool o3, .string s3, .string h3, .int .i64 p3, .string pa3, .string q3] 26)
  have BB := ((Below.refl w.heap.size w).alloc (Nat.le_refl _) (.cells #[.bool o, .string s2, .string h2, .int .i64 p, .string pa2, .string q2] 26)).alloc (Below.size ((Below.refl w.heap.size w).alloc (Nat.le_refl _) (.cells #[.bool o, .string s2, .string h2, .int .i64 p, .string pa2, .string q2] 26))) (.cells #[.bool o3, .string s3, .string h3, .int .i64 p3, .string pa3, .string q3] 26)
  rw [size_alloc] at xz
  clear xn hw
  generalize hR : w.heap.size = Ra at xy xz BB ⊢
  have HR := Lib.hid hR
  clear hR
  obtain ⟨Rb, hRb⟩ : ∃ Rb, Ra + 1 = Rb := ⟨_, rfl⟩
  rw [hRb] at xz
  try rw [hRb]
  clear hRb
  generalize (w.alloc (.cells #[.bool o, .string s2, .string h2, .int .i64 p, .string pa2, .string q2] 26)).alloc (.cells #[.bool o3, .string s3, .string h3, .int .i64 p3, .string pa3, .string q3] 26) = w1 at xy xz gB BB ⊢
  have xRa_w1 := xy
  have xRb_w1 := xz
  clear xy xz
  refine (LG.out _ ).mono ?_
  rintro e w2 ⟨b0, rfl, b_, hz⟩
  have gw2 := gB.below b_
  have Bw2 := BB.trans (b_.mono (Nat.le_of_lt xRa_w1.lt))
  have xRa_w2 := xRa_w1.below b_
  have xRb_w2 := xRb_w1.below b_
  clear b_ gB BB xRa_w1 xRb_w1
  have HZ := Lib.hid hz
  clear hz
  cases b0
  case true =>
    have dRa0 := xRa_w2.c0
    have dRa1 := xRa_w2.c1
    have dRa2 := xRa_w2.c2
    have dRa3 := xRa_w2.c3
    have dRa4 := xRa_w2.c4
    have dRa5 := xRa_w2.c5
    have dRb0 := xRb_w2.c0
    have dRb1 := xRb_w2.c1
    have dRb2 := xRb_w2.c2
    have dRb3 := xRb_w2.c3
    have dRb4 := xRb_w2.c4
    have dRb5 := xRb_w2.c5
    go_wp2_with fail
    clear dRa0 dRa1 dRa2 dRa3 dRa4 dRa5 dRb0 dRb1 dRb2 dRb3 dRb4 dRb5
    refine (MR.out _ gw2).mono ?_
    rintro e w3 ⟨rfl, b_⟩
    have gw3 := gw2.below b_
    have Bw3 := Bw2.trans (b_.mono (Nat.le_of_lt xRa_w2.lt))
    have xRa_w3 := xRa_w2.below b_
    have xRb_w3 := xRb_w2.below b_
    clear b_ gw2 Bw2 xRa_w2 xRb_w2
    go_wp2
    go_ret
    exact ⟨rfl, by rw [HR.out]; exact Bw3⟩
  clear HZ LG
  have dRa0 := xRa_w2.c0
  have dRa1 := xRa_w2.c1
  have dRa2 := xRa_w2.c2
  have dRa3 := xRa_w2.c3
  have dRa4 := xRa_w2.c4
  have dRa5 := xRa_w2.c5
  have dRb0 := xRb_w2.c0
  have dRb1 := xRb_w2.c1
  have dRb2 := xRb_w2.c2
  have dRb3 := xRb_w2.c3
  have dRb4 := xRb_w2.c4
  have dRb5 := xRb_w2.c5
  go_wp2_with fail
  clear dRa0 dRa1 dRa2 dRa3 dRa4 dRa5 dRb0 dRb1 dRb2 dRb3 dRb4 dRb5
  refine (CC.out _ gw2).mono ?_
  rintro e w3 ⟨rfl, b_⟩
  have gw3 := gw2.below b_
  have Bw3 := Bw2.trans (b_.mono (Nat.le_of_lt xRa_w2.lt))
  have xRa_w3 := xRa_w2.below b_
  have xRb_w3 := xRb_w2.below b_
  clear b_ gw2 Bw2 xRa_w2 xRb_w2
  have dRa0 := xRa_w3.c0
  have dRa1 := xRa_w3.c1
  have dRa2 := xRa_w3.c2
  have dRa3 := xRa_w3.c3
  have dRa4 := xRa_w3.c4
  have dRa5 := xRa_w3.c5
  have dRb0 := xRb_w3.c0
  have dRb1 := xRb_w3.c1
  have dRb2 := xRb_w3.c2
  have dRb3 := xRb_w3.c3
  have dRb4 := xRb_w3.c4
  have dRb5 := xRb_w3.c5
  go_wp2_with fail
  clear dRa0 dRa1 dRa2 dRa3 dRa4 dRa5 dRb0 dRb1 dRb2 dRb3 dRb4 dRb5
  refine (MR.out _ gw3).mono ?_
  rintro e w4 ⟨rfl, b_⟩
  have gw4 := gw3.below b_
  have Bw4 := Bw3.trans (b_.mono (Nat.le_of_lt xRa_w3.lt))
  have xRa_w4 := xRa_w3.below b_
  have xRb_w4 := xRb_w3.below b_
  clear b_ gw3 Bw3 xRa_w3 xRb_w3
  go_wp2
  go_ret
  exact ⟨rfl, by rw [HR.out]; exact Bw4⟩

set_option maxRecDepth 100000 in
set_option maxHeartbeats 8000000 in
theorem wide_opaque (s2 h2 : ByteArray) (p : Int) (pa2 q2 : ByteArray) (o3 : Bool) (s3 h3 : ByteArray) (p3 : Int) (pa3 q3 : ByteArray) (m : Bool) (CC : Hid (∀ W, Low W → Calls Tryz.prog 22 #[uV true s2 h2 p pa2 q2] W fun e w' => e = .returned (.int .i64 0) ∧ Below W.heap.size W w')) (CM : Hid (∀ W, Low W → Calls Tryz.prog 20 #[srcV 12 ⟨#[]⟩ ⟨#[]⟩ ⟨#[]⟩ true (-1) ⟨#[]⟩, uV true s2 h2 p pa2 q2, uV o3 s3 h3 p3 pa3 q3, .bool m] W fun e w' => e = .returned (.bool false) ∧ Below W.heap.size W w')) (CN : Hid (∀ W, Low W → Calls Tryz.prog 20 #[srcV 11 ⟨#[]⟩ s2 ⟨#[]⟩ false 0 ⟨#[]⟩, uV true s2 h2 p pa2 q2, uV o3 s3 h3 p3 pa3 q3, .bool m] W fun e w' => e = .returned (.bool true) ∧ Below W.heap.size W w')) (w : World) (hw : Low w) : Calls Tryz.prog 6 #[uV true s2 h2 p pa2 q2, uV o3 s3 h3 p3 pa3 q3, .bool m] w fun e w' => e = .returned (.bool true) ∧ Below w.heap.size w w' := by
  have MR := matches_hid
  have LG := large_hid 0 ⟨#[]⟩ ⟨#[]⟩ ⟨#[]⟩ false 0 ⟨#[]⟩ true s2 h2 p pa2 q2 o3 s3 h3 p3 pa3 q3
  unfold srcV uV at *
  go_enter Tryz.func6, Tryz.ntmps6
  go_wp2_with fail
  have xn := BX.made w true s2 h2 p pa2 q2
  have xz := BX.made (w.alloc (.cells #[.bool true, .string s2, .string h2, .int .i64 p, .string pa2, .string q2] 26)) o3 s3 h3 p3 pa3 q3
  have xy := xn.below ((Below.refl _ _).alloc (Nat.le_refl _) (.cells #[.bool o3, .string s3, .string h3, .int .i64 p3, .string pa3, .string q3] 26))
  have gB := (hw.made (.cells #[.bool true, .string s2, .string h2, .int .i64 p, .string pa2, .string q2] 26)).made (.cells #[.bool o3, .string s3, .string h3, .int .i64 p3, .string pa3, .string q3] 26)
  have BB := ((Below.refl w.heap.size w).alloc (Nat.le_refl _) (.cells #[.bool true, .string s2, .string h2, .int .i64 p, .string pa2, .string q2] 26)).alloc (Below.size ((Below.refl w.heap.size w).alloc (Nat.le_refl _) (.cells #[.bool true, .string s2, .string h2, .int .i64 p, .string pa2, .string q2] 26))) (.cells #[.bool o3, .string s3, .string h3, .int .i64 p3, .string pa3, .string q3] 26)
  rw [size_alloc] at xz
  clear xn hw
  generalize hR : w.heap.size = Ra at xy xz BB ⊢
  have HR := Lib.hid hR
  clear hR
  obtain ⟨Rb, hRb⟩ : ∃ Rb, Ra + 1 = Rb := ⟨_, rfl⟩
  rw [hRb] at xz
  try rw [hRb]
  clear hRb
  generalize (w.alloc (.cells #[.bool true, .string s2, .string h2, .int .i64 p, .string pa2, .string q2] 26)).alloc (.cells #[.bool o3, .string s3, .string h3, .int .i64 p3, .string pa3, .string q3] 26) = w1 at xy xz gB BB ⊢
  have xRa_w1 := xy
  have xRb_w1 := xz
  clear xy xz
  refine (LG.out _ ).mono ?_
  rintro e w2 ⟨b0, rfl, b_, hz⟩
  have gw2 := gB.below b_
  have Bw2 := BB.trans (b_.mono (Nat.le_of_lt xRa_w1.lt))
  have xRa_w2 := xRa_w1.below b_
  have xRb_w2 := xRb_w1.below b_
  clear b_ gB BB xRa_w1 xRb_w1
  have HZ := Lib.hid hz
  clear hz
  cases b0
  case true =>
    have dRa0 := xRa_w2.c0
    have dRa1 := xRa_w2.c1
    have dRa2 := xRa_w2.c2
    have dRa3 := xRa_w2.c3
    have dRa4 := xRa_w2.c4
    have dRa5 := xRa_w2.c5
    have dRb0 := xRb_w2.c0
    have dRb1 := xRb_w2.c1
    have dRb2 := xRb_w2.c2
    have dRb3 := xRb_w2.c3
    have dRb4 := xRb_w2.c4
    have dRb5 := xRb_w2.c5
    go_wp2_with fail
    clear dRa0 dRa1 dRa2 dRa3 dRa4 dRa5 dRb0 dRb1 dRb2 dRb3 dRb4 dRb5
    refine (MR.out _ gw2).mono ?_
    rintro e w3 ⟨rfl, b_⟩
    have gw3 := gw2.below b_
    have Bw3 := Bw2.trans (b_.mono (Nat.le_of_lt xRa_w2.lt))
    have xRa_w3 := xRa_w2.below b_
    have xRb_w3 := xRb_w2.below b_
    clear b_ gw2 Bw2 xRa_w2 xRb_w2
    go_wp2
    go_ret
    exact ⟨rfl, by rw [HR.out]; exact Bw3⟩
  clear HZ LG
  have dRa0 := xRa_w2.c0
  have dRa1 := xRa_w2.c1
  have dRa2 := xRa_w2.c2
  have dRa3 := xRa_w2.c3
  have dRa4 := xRa_w2.c4
  have dRa5 := xRa_w2.c5
  have dRb0 := xRb_w2.c0
  have dRb1 := xRb_w2.c1
  have dRb2 := xRb_w2.c2
  have dRb3 := xRb_w2.c3
  have dRb4 := xRb_w2.c4
  have dRb5 := xRb_w2.c5
  go_wp2_with fail
  clear dRa0 dRa1 dRa2 dRa3 dRa4 dRa5 dRb0 dRb1 dRb2 dRb3 dRb4 dRb5
  refine (CC.out _ gw2).mono ?_
  rintro e w3 ⟨rfl, b_⟩
  have gw3 := gw2.below b_
  have Bw3 := Bw2.trans (b_.mono (Nat.le_of_lt xRa_w2.lt))
  have xRa_w3 := xRa_w2.below b_
  have xRb_w3 := xRb_w2.below b_
  clear b_ gw2 Bw2 xRa_w2 xRb_w2
  have dRa0 := xRa_w3.c0
  have dRa1 := xRa_w3.c1
  have dRa2 := xRa_w3.c2
  have dRa3 := xRa_w3.c3
  have dRa4 := xRa_w3.c4
  have dRa5 := xRa_w3.c5
  have dRb0 := xRb_w3.c0
  have dRb1 := xRb_w3.c1
  have dRb2 := xRb_w3.c2
  have dRb3 := xRb_w3.c3
  have dRb4 := xRb_w3.c4
  have dRb5 := xRb_w3.c5
  go_wp2
  clear dRa0 dRa1 dRa2 dRa3 dRa4 dRa5 dRb0 dRb1 dRb2 dRb3 dRb4 dRb5
  have xn := SX.made w3 12 ⟨#[]⟩ ⟨#[]⟩ ⟨#[]⟩ true (-1) ⟨#[]⟩
  have gw4 := gw3.made (.cells #[.int .i64 12, .string ⟨#[]⟩, .string ⟨#[]⟩, .string ⟨#[]⟩, .bool true, .int .i64 (-1), .string ⟨#[]⟩] 24)
  have Bw4 := Bw3.trans (((Below.refl w3.heap.size w3).alloc (Nat.le_refl _) (.cells #[.int .i64 12, .string ⟨#[]⟩, .string ⟨#[]⟩, .string ⟨#[]⟩, .bool true, .int .i64 (-1), .string ⟨#[]⟩] 24)).mono (Nat.le_of_lt xRa_w3.lt))
  have xRa_w4 := xRa_w3.below ((Below.refl w3.heap.size w3).alloc (Nat.le_refl _) (.cells #[.int .i64 12, .string ⟨#[]⟩, .string ⟨#[]⟩, .string ⟨#[]⟩, .bool true, .int .i64 (-1), .string ⟨#[]⟩] 24))
  have xRb_w4 := xRb_w3.below ((Below.refl w3.heap.size w3).alloc (Nat.le_refl _) (.cells #[.int .i64 12, .string ⟨#[]⟩, .string ⟨#[]⟩, .string ⟨#[]⟩, .bool true, .int .i64 (-1), .string ⟨#[]⟩] 24))
  generalize w3.heap.size = Rc at xn ⊢
  generalize w3.alloc (.cells #[.int .i64 12, .string ⟨#[]⟩, .string ⟨#[]⟩, .string ⟨#[]⟩, .bool true, .int .i64 (-1), .string ⟨#[]⟩] 24) = w4 at xn gw4 Bw4 xRa_w4 xRb_w4 ⊢
  have xRc_w4 := xn
  clear xn gw3 Bw3 xRa_w3 xRb_w3
  obtain ⟨C, hC⟩ : ∃ C : World → Prop, ∀ w', C w' ↔ (BX w' Ra true s2 h2 p pa2 q2 ∧ BX w' Rb o3 s3 h3 p3 pa3 q3 ∧ SX w' Rc 12 ⟨#[]⟩ ⟨#[]⟩ ⟨#[]⟩ true (-1) ⟨#[]⟩ ∧ Below Ra w w' ∧ Low w') := ⟨_, fun _ => Iff.rfl⟩
  have HC := Lib.hid hC
  clear hC
  have hC0 : C w4.drew := (HC.out _).2 ⟨xRa_w4, xRb_w4, xRc_w4, Bw4.drew, gw4.drew⟩
  have HK : Hid (∀ w', C w' → ∀ w7, Below w'.heap.size w' w7 → C w7) := Lib.hid fun w' hc w7 b => by
    obtain ⟨xRa, xRb, xRc, K4, g7⟩ := (HC.out w').1 hc
    exact (HC.out _).2 ⟨xRa.below b, xRb.below b, xRc.below b, K4.trans (b.mono (Nat.le_of_lt xRa.lt)), g7.below b⟩
  clear xRa_w4 xRb_w4 xRc_w4 Bw4 gw4
  refine region_class C (by kernel_rfl) (by kernel_rfl) hC0 ?_
  clear hC0
  repeat
    first
      | go_big_quiet_skip
      | (go_big_quiet_want; go_big_quiet_op; go_big_quiet_on)
      | (refine BigFrame.wpQuiet_want rfl (fun K hK => ?_)
         apply Exists.intro
         refine ⟨fun w' hc => ?_, hK _ ?_⟩
         · obtain ⟨xRa, xRb, xRc, K4, g7⟩ := (HC.out w').1 hc
           have dRa0 := xRa.c0
           have dRa1 := xRa.c1
           have dRa2 := xRa.c2
           have dRa3 := xRa.c3
           have dRa4 := xRa.c4
           have dRa5 := xRa.c5
           have dRb0 := xRb.c0
           have dRb1 := xRb.c1
           have dRb2 := xRb.c2
           have dRb3 := xRb.c3
           have dRb4 := xRb.c4
           have dRb5 := xRb.c5
           have dRc0 := xRc.c0
           have dRc1 := xRc.c1
           have dRc2 := xRc.c2
           have dRc3 := xRc.c3
           have dRc4 := xRc.c4
           have dRc5 := xRc.c5
           have dRc6 := xRc.c6
           unfold Oper.quietAt
           go_simp
           first
             | done
             | rfl
             | ((with_reducible refine (CM.out _ g7).mono ?_); rintro e w7 ⟨rfl, b7⟩; exact ⟨rfl, HK.out w' hc w7 b7⟩)
         clear hK K
         simp only [Act.put, List.setIfInBounds_toArray, List.set_cons_zero, List.set_cons_succ])
  refine wpQuiet_nil ?_
  intro w5 hc
  obtain ⟨xRa_w5, xRb_w5, xRc_w5, Bw5, gw5⟩ := (HC.out w5).1 hc
  clear hc HC HK
  have dRa0 := xRa_w5.c0
  have dRa1 := xRa_w5.c1
  have dRa2 := xRa_w5.c2
  have dRa3 := xRa_w5.c3
  have dRa4 := xRa_w5.c4
  have dRa5 := xRa_w5.c5
  have dRb0 := xRb_w5.c0
  have dRb1 := xRb_w5.c1
  have dRb2 := xRb_w5.c2
  have dRb3 := xRb_w5.c3
  have dRb4 := xRb_w5.c4
  have dRb5 := xRb_w5.c5
  go_wp2_with fail
  clear dRa0 dRa1 dRa2 dRa3 dRa4 dRa5 dRb0 dRb1 dRb2 dRb3 dRb4 dRb5
  refine (MR.out _ gw5).mono ?_
  rintro e w6 ⟨rfl, b_⟩
  have gw6 := gw5.below b_
  have Bw6 := Bw5.trans (b_.mono (Nat.le_of_lt xRa_w5.lt))
  have xRa_w6 := xRa_w5.below b_
  have xRb_w6 := xRb_w5.below b_
  have xRc_w6 := xRc_w5.below b_
  clear b_ gw5 Bw5 xRa_w5 xRb_w5 xRc_w5
  have dRa0 := xRa_w6.c0
  have dRa1 := xRa_w6.c1
  have dRa2 := xRa_w6.c2
  have dRa3 := xRa_w6.c3
  have dRa4 := xRa_w6.c4
  have dRa5 := xRa_w6.c5
  have dRb0 := xRb_w6.c0
  have dRb1 := xRb_w6.c1
  have dRb2 := xRb_w6.c2
  have dRb3 := xRb_w6.c3
  have dRb4 := xRb_w6.c4
  have dRb5 := xRb_w6.c5
  go_wp2_with fail
  clear dRa0 dRa1 dRa2 dRa3 dRa4 dRa5 dRb0 dRb1 dRb2 dRb3 dRb4 dRb5
  refine (CN.out _ gw6).mono ?_
  rintro e w7 ⟨rfl, b_⟩
  have gw7 := gw6.below b_
  have Bw7 := Bw6.trans (b_.mono (Nat.le_of_lt xRa_w6.lt))
  have xRa_w7 := xRa_w6.below b_
  have xRb_w7 := xRb_w6.below b_
  have xRc_w7 := xRc_w6.below b_
  clear b_ gw6 Bw6 xRa_w6 xRb_w6 xRc_w6
  go_wp2
  go_ret
  exact ⟨rfl, by rw [HR.out]; exact Bw7⟩

set_option maxRecDepth 100000 in
set_option maxHeartbeats 8000000 in
theorem wide_plain (s2 h2 : ByteArray) (p : Int) (pa2 q2 : ByteArray) (o3 : Bool) (s3 h3 : ByteArray) (p3 : Int) (pa3 q3 : ByteArray) (m : Bool) (CC : Hid (∀ W, Low W → Calls Tryz.prog 22 #[uV false s2 h2 p pa2 q2] W fun e w' => e = .returned (.int .i64 0) ∧ Below W.heap.size W w')) (r : Bool) (CM : Hid (∀ W, Low W → Calls Tryz.prog 20 #[srcV 12 ⟨#[]⟩ ⟨#[]⟩ ⟨#[]⟩ true (-1) ⟨#[]⟩, uV false s2 h2 p pa2 q2, uV o3 s3 h3 p3 pa3 q3, .bool m] W fun e w' => e = .returned (.bool r) ∧ Below W.heap.size W w')) (CS : Hid (∀ W, Calls Tryz.prog 12 #[.string s3, .string s2] W fun e w' => e = .returned (.bool r) ∧ Below W.heap.size W w')) (CN : Hid (∀ W, Low W → Calls Tryz.prog 20 #[srcV 11 ⟨#[]⟩ s2 ⟨#[]⟩ false 0 ⟨#[]⟩, uV false s2 h2 p pa2 q2, uV o3 s3 h3 p3 pa3 q3, .bool m] W fun e w' => e = .returned (.bool true) ∧ Below W.heap.size W w')) (w : World) (hw : Low w) : Calls Tryz.prog 6 #[uV false s2 h2 p pa2 q2, uV o3 s3 h3 p3 pa3 q3, .bool m] w fun e w' => e = .returned (.bool true) ∧ Below w.heap.size w w' := by
  have MR := matches_hid
  have LG := large_hid 0 ⟨#[]⟩ ⟨#[]⟩ ⟨#[]⟩ false 0 ⟨#[]⟩ false s2 h2 p pa2 q2 o3 s3 h3 p3 pa3 q3
  unfold srcV uV at *
  go_enter Tryz.func6, Tryz.ntmps6
  go_wp2_with fail
  have xn := BX.made w false s2 h2 p pa2 q2
  have xz := BX.made (w.alloc (.cells #[.bool false, .string s2, .string h2, .int .i64 p, .string pa2, .string q2] 26)) o3 s3 h3 p3 pa3 q3
  have xy := xn.below ((Below.refl _ _).alloc (Nat.le_refl _) (.cells #[.bool o3, .string s3, .string h3, .int .i64 p3, .string pa3, .string q3] 26))
  have gB := (hw.made (.cells #[.bool false, .string s2, .string h2, .int .i64 p, .string pa2, .string q2] 26)).made (.cells #[.bool o3, .string s3, .string h3, .int .i64 p3, .string pa3, .string q3] 26)
  have BB := ((Below.refl w.heap.size w).alloc (Nat.le_refl _) (.cells #[.bool false, .string s2, .string h2, .int .i64 p, .string pa2, .string q2] 26)).alloc (Below.size ((Below.refl w.heap.size w).alloc (Nat.le_refl _) (.cells #[.bool false, .string s2, .string h2, .int .i64 p, .string pa2, .string q2] 26))) (.cells #[.bool o3, .string s3, .string h3, .int .i64 p3, .string pa3, .string q3] 26)
  rw [size_alloc] at xz
  clear xn hw
  generalize hR : w.heap.size = Ra at xy xz BB ⊢
  have HR := Lib.hid hR
  clear hR
  obtain ⟨Rb, hRb⟩ : ∃ Rb, Ra + 1 = Rb := ⟨_, rfl⟩
  rw [hRb] at xz
  try rw [hRb]
  clear hRb
  generalize (w.alloc (.cells #[.bool false, .string s2, .string h2, .int .i64 p, .string pa2, .string q2] 26)).alloc (.cells #[.bool o3, .string s3, .string h3, .int .i64 p3, .string pa3, .string q3] 26) = w1 at xy xz gB BB ⊢
  have xRa_w1 := xy
  have xRb_w1 := xz
  clear xy xz
  refine (LG.out _ ).mono ?_
  rintro e w2 ⟨b0, rfl, b_, hz⟩
  have gw2 := gB.below b_
  have Bw2 := BB.trans (b_.mono (Nat.le_of_lt xRa_w1.lt))
  have xRa_w2 := xRa_w1.below b_
  have xRb_w2 := xRb_w1.below b_
  clear b_ gB BB xRa_w1 xRb_w1
  have HZ := Lib.hid hz
  clear hz
  cases b0
  case true =>
    have dRa0 := xRa_w2.c0
    have dRa1 := xRa_w2.c1
    have dRa2 := xRa_w2.c2
    have dRa3 := xRa_w2.c3
    have dRa4 := xRa_w2.c4
    have dRa5 := xRa_w2.c5
    have dRb0 := xRb_w2.c0
    have dRb1 := xRb_w2.c1
    have dRb2 := xRb_w2.c2
    have dRb3 := xRb_w2.c3
    have dRb4 := xRb_w2.c4
    have dRb5 := xRb_w2.c5
    go_wp2_with fail
    clear dRa0 dRa1 dRa2 dRa3 dRa4 dRa5 dRb0 dRb1 dRb2 dRb3 dRb4 dRb5
    refine (MR.out _ gw2).mono ?_
    rintro e w3 ⟨rfl, b_⟩
    have gw3 := gw2.below b_
    have Bw3 := Bw2.trans (b_.mono (Nat.le_of_lt xRa_w2.lt))
    have xRa_w3 := xRa_w2.below b_
    have xRb_w3 := xRb_w2.below b_
    clear b_ gw2 Bw2 xRa_w2 xRb_w2
    go_wp2
    go_ret
    exact ⟨rfl, by rw [HR.out]; exact Bw3⟩
  clear HZ LG
  have dRa0 := xRa_w2.c0
  have dRa1 := xRa_w2.c1
  have dRa2 := xRa_w2.c2
  have dRa3 := xRa_w2.c3
  have dRa4 := xRa_w2.c4
  have dRa5 := xRa_w2.c5
  have dRb0 := xRb_w2.c0
  have dRb1 := xRb_w2.c1
  have dRb2 := xRb_w2.c2
  have dRb3 := xRb_w2.c3
  have dRb4 := xRb_w2.c4
  have dRb5 := xRb_w2.c5
  go_wp2_with fail
  clear dRa0 dRa1 dRa2 dRa3 dRa4 dRa5 dRb0 dRb1 dRb2 dRb3 dRb4 dRb5
  refine (CC.out _ gw2).mono ?_
  rintro e w3 ⟨rfl, b_⟩
  have gw3 := gw2.below b_
  have Bw3 := Bw2.trans (b_.mono (Nat.le_of_lt xRa_w2.lt))
  have xRa_w3 := xRa_w2.below b_
  have xRb_w3 := xRb_w2.below b_
  clear b_ gw2 Bw2 xRa_w2 xRb_w2
  have dRa0 := xRa_w3.c0
  have dRa1 := xRa_w3.c1
  have dRa2 := xRa_w3.c2
  have dRa3 := xRa_w3.c3
  have dRa4 := xRa_w3.c4
  have dRa5 := xRa_w3.c5
  have dRb0 := xRb_w3.c0
  have dRb1 := xRb_w3.c1
  have dRb2 := xRb_w3.c2
  have dRb3 := xRb_w3.c3
  have dRb4 := xRb_w3.c4
  have dRb5 := xRb_w3.c5
  go_wp2
  clear dRa0 dRa1 dRa2 dRa3 dRa4 dRa5 dRb0 dRb1 dRb2 dRb3 dRb4 dRb5
  have xn := SX.made w3 12 ⟨#[]⟩ ⟨#[]⟩ ⟨#[]⟩ true (-1) ⟨#[]⟩
  have gw4 := gw3.made (.cells #[.int .i64 12, .string ⟨#[]⟩, .string ⟨#[]⟩, .string ⟨#[]⟩, .bool true, .int .i64 (-1), .string ⟨#[]⟩] 24)
  have Bw4 := Bw3.trans (((Below.refl w3.heap.size w3).alloc (Nat.le_refl _) (.cells #[.int .i64 12, .string ⟨#[]⟩, .string ⟨#[]⟩, .string ⟨#[]⟩, .bool true, .int .i64 (-1), .string ⟨#[]⟩] 24)).mono (Nat.le_of_lt xRa_w3.lt))
  have xRa_w4 := xRa_w3.below ((Below.refl w3.heap.size w3).alloc (Nat.le_refl _) (.cells #[.int .i64 12, .string ⟨#[]⟩, .string ⟨#[]⟩, .string ⟨#[]⟩, .bool true, .int .i64 (-1), .string ⟨#[]⟩] 24))
  have xRb_w4 := xRb_w3.below ((Below.refl w3.heap.size w3).alloc (Nat.le_refl _) (.cells #[.int .i64 12, .string ⟨#[]⟩, .string ⟨#[]⟩, .string ⟨#[]⟩, .bool true, .int .i64 (-1), .string ⟨#[]⟩] 24))
  generalize w3.heap.size = Rc at xn ⊢
  generalize w3.alloc (.cells #[.int .i64 12, .string ⟨#[]⟩, .string ⟨#[]⟩, .string ⟨#[]⟩, .bool true, .int .i64 (-1), .string ⟨#[]⟩] 24) = w4 at xn gw4 Bw4 xRa_w4 xRb_w4 ⊢
  have xRc_w4 := xn
  clear xn gw3 Bw3 xRa_w3 xRb_w3
  obtain ⟨C, hC⟩ : ∃ C : World → Prop, ∀ w', C w' ↔ (BX w' Ra false s2 h2 p pa2 q2 ∧ BX w' Rb o3 s3 h3 p3 pa3 q3 ∧ SX w' Rc 12 ⟨#[]⟩ ⟨#[]⟩ ⟨#[]⟩ true (-1) ⟨#[]⟩ ∧ Below Ra w w' ∧ Low w') := ⟨_, fun _ => Iff.rfl⟩
  have HC := Lib.hid hC
  clear hC
  have hC0 : C w4.drew := (HC.out _).2 ⟨xRa_w4, xRb_w4, xRc_w4, Bw4.drew, gw4.drew⟩
  have HK : Hid (∀ w', C w' → ∀ w7, Below w'.heap.size w' w7 → C w7) := Lib.hid fun w' hc w7 b => by
    obtain ⟨xRa, xRb, xRc, K4, g7⟩ := (HC.out w').1 hc
    exact (HC.out _).2 ⟨xRa.below b, xRb.below b, xRc.below b, K4.trans (b.mono (Nat.le_of_lt xRa.lt)), g7.below b⟩
  clear xRa_w4 xRb_w4 xRc_w4 Bw4 gw4
  refine region_class C (by kernel_rfl) (by kernel_rfl) hC0 ?_
  clear hC0
  repeat
    first
      | go_big_quiet_skip
      | (go_big_quiet_want; go_big_quiet_op; go_big_quiet_on)
      | (refine BigFrame.wpQuiet_want rfl (fun K hK => ?_)
         apply Exists.intro
         refine ⟨fun w' hc => ?_, hK _ ?_⟩
         · obtain ⟨xRa, xRb, xRc, K4, g7⟩ := (HC.out w').1 hc
           have dRa0 := xRa.c0
           have dRa1 := xRa.c1
           have dRa2 := xRa.c2
           have dRa3 := xRa.c3
           have dRa4 := xRa.c4
           have dRa5 := xRa.c5
           have dRb0 := xRb.c0
           have dRb1 := xRb.c1
           have dRb2 := xRb.c2
           have dRb3 := xRb.c3
           have dRb4 := xRb.c4
           have dRb5 := xRb.c5
           have dRc0 := xRc.c0
           have dRc1 := xRc.c1
           have dRc2 := xRc.c2
           have dRc3 := xRc.c3
           have dRc4 := xRc.c4
           have dRc5 := xRc.c5
           have dRc6 := xRc.c6
           unfold Oper.quietAt
           go_simp
           first
             | done
             | rfl
             | ((with_reducible refine (CM.out _ g7).mono ?_); rintro e w7 ⟨rfl, b7⟩; exact ⟨rfl, HK.out w' hc w7 b7⟩)
             | ((with_reducible refine (CS.out _).mono ?_); rintro e w7 ⟨rfl, b7⟩; exact ⟨rfl, HK.out w' hc w7 b7⟩)
         clear hK K
         simp only [Act.put, List.setIfInBounds_toArray, List.set_cons_zero, List.set_cons_succ])
  refine wpQuiet_nil ?_
  intro w5 hc
  obtain ⟨xRa_w5, xRb_w5, xRc_w5, Bw5, gw5⟩ := (HC.out w5).1 hc
  clear hc HC HK
  have dRa0 := xRa_w5.c0
  have dRa1 := xRa_w5.c1
  have dRa2 := xRa_w5.c2
  have dRa3 := xRa_w5.c3
  have dRa4 := xRa_w5.c4
  have dRa5 := xRa_w5.c5
  have dRb0 := xRb_w5.c0
  have dRb1 := xRb_w5.c1
  have dRb2 := xRb_w5.c2
  have dRb3 := xRb_w5.c3
  have dRb4 := xRb_w5.c4
  have dRb5 := xRb_w5.c5
  go_wp2_with fail
  clear dRa0 dRa1 dRa2 dRa3 dRa4 dRa5 dRb0 dRb1 dRb2 dRb3 dRb4 dRb5
  refine (MR.out _ gw5).mono ?_
  rintro e w6 ⟨rfl, b_⟩
  have gw6 := gw5.below b_
  have Bw6 := Bw5.trans (b_.mono (Nat.le_of_lt xRa_w5.lt))
  have xRa_w6 := xRa_w5.below b_
  have xRb_w6 := xRb_w5.below b_
  have xRc_w6 := xRc_w5.below b_
  clear b_ gw5 Bw5 xRa_w5 xRb_w5 xRc_w5
  have dRa0 := xRa_w6.c0
  have dRa1 := xRa_w6.c1
  have dRa2 := xRa_w6.c2
  have dRa3 := xRa_w6.c3
  have dRa4 := xRa_w6.c4
  have dRa5 := xRa_w6.c5
  have dRb0 := xRb_w6.c0
  have dRb1 := xRb_w6.c1
  have dRb2 := xRb_w6.c2
  have dRb3 := xRb_w6.c3
  have dRb4 := xRb_w6.c4
  have dRb5 := xRb_w6.c5
  go_wp2_with fail
  clear dRa0 dRa1 dRa2 dRa3 dRa4 dRa5 dRb0 dRb1 dRb2 dRb3 dRb4 dRb5
  refine (CN.out _ gw6).mono ?_
  rintro e w7 ⟨rfl, b_⟩
  have gw7 := gw6.below b_
  have Bw7 := Bw6.trans (b_.mono (Nat.le_of_lt xRa_w6.lt))
  have xRa_w7 := xRa_w6.below b_
  have xRb_w7 := xRb_w6.below b_
  have xRc_w7 := xRc_w6.below b_
  clear b_ gw6 Bw6 xRa_w6 xRb_w6 xRc_w6
  go_wp2
  go_ret
  exact ⟨rfl, by rw [HR.out]; exact Bw7⟩
theorem check_low (o : Bool) (s h : ByteArray) (p : Int) (pa q : ByteArray) (n : Int) (hn : chk (uM o s h p pa q) = n) (hs : s.size ≤ 100000) (hh : h.size ≤ 100000) (hpa : pa.size ≤ 100000) (hq : q.size ≤ 100000) : Hid (∀ W, Low W → Calls Tryz.prog 22 #[uV o s h p pa q] W fun e w' => e = .returned (.int .i64 n) ∧ Below W.heap.size W w') :=
  Lib.hid fun W hw => (check_hid o s h p pa q n hn hs hh hpa hq).out W hw.m hw.t
theorem matchWide_law (o : Bool) (s2 h2 : ByteArray) (p : Int) (pa2 q2 : ByteArray) (o3 : Bool) (s3 h3 : ByteArray) (p3 : Int) (pa3 q3 : ByteArray) (m : Bool) (w : World) (hw : Low w) : Calls Tryz.prog 6 #[uV o s2 h2 p pa2 q2, uV o3 s3 h3 p3 pa3 q3, .bool m] w fun e w' => e = .returned (.bool true) ∧ Below w.heap.size w w' := by
  by_cases hF : Fits ⟨#[]⟩ ⟨#[]⟩ ⟨#[]⟩ ⟨#[]⟩ s2 h2 pa2 q2 s3 h3 pa3 q3
  case neg => exact wide_long o s2 h2 p pa2 q2 o3 s3 h3 p3 pa3 q3 m hF w hw
  obtain ⟨_, ⟨c1, c2, c3, c4⟩, ⟨e1, e2, e3, e4⟩⟩ := hF
  cases hr : rightM (uM o s2 h2 p pa2 q2)
  case false => exact wide_wrong o s2 h2 p pa2 q2 o3 s3 h3 p3 pa3 q3 m (check_low o s2 h2 p pa2 q2 50 (chk_wrong hr) (by omega) (by omega) (by omega) (by omega)) w hw
  have CC := check_low o s2 h2 p pa2 q2 0 (chk_right hr) (by omega) (by omega) (by omega) (by omega)
  have k1 := url_wide (uM o s2 h2 p pa2 q2) (uM o3 s3 h3 p3 pa3 q3) m hr
  have k2 := url_scheme (uM o s2 h2 p pa2 q2) (uM o3 s3 h3 p3 pa3 q3) m hr s2.data.toList rfl
  have CN := matUrl_hid 11 ⟨#[]⟩ s2 ⟨#[]⟩ false 0 ⟨#[]⟩ o s2 h2 p pa2 q2 o3 s3 h3 p3 pa3 q3 m (by decide) (by decide) (by omega) (by omega) (by omega) (by omega) (by omega) (by omega) (by omega) (by omega) true k2
  cases o
  case true => exact wide_opaque s2 h2 p pa2 q2 o3 s3 h3 p3 pa3 q3 m CC (matUrl_hid 12 ⟨#[]⟩ ⟨#[]⟩ ⟨#[]⟩ true (-1) ⟨#[]⟩ true s2 h2 p pa2 q2 o3 s3 h3 p3 pa3 q3 m (by decide) (by decide) (by omega) (by omega) (by omega) (by omega) (by omega) (by omega) (by omega) (by omega) false k1) CN w hw
  case false => exact wide_plain s2 h2 p pa2 q2 o3 s3 h3 p3 pa3 q3 m CC _ (matUrl_hid 12 ⟨#[]⟩ ⟨#[]⟩ ⟨#[]⟩ true (-1) ⟨#[]⟩ false s2 h2 p pa2 q2 o3 s3 h3 p3 pa3 q3 m (by decide) (by decide) (by omega) (by omega) (by omega) (by omega) (by omega) (by omega) (by omega) (by omega) _ k1) (same_low _ _ _ (matScheme_hid s3 s2 _ rfl)) CN w hw

end Go.Proofs.YtpmnpaopkncphaaGreatDoor
