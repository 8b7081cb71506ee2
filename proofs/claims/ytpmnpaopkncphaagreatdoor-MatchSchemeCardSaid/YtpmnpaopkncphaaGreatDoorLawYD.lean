/- A source without a scheme lets be what it lets be with the page's. -/
import Derived.Test.YtpmnpaopkncphaaGreatDoorRowsY
namespace Go.Proofs.YtpmnpaopkncphaaGreatDoor
open Go.RowKit

set_option maxRecDepth 100000 in
set_option maxHeartbeats 8000000 in
theorem scheme_long (k : Int) (t s h : ByteArray) (wd : Bool) (sp : Int) (pa : ByteArray) (o : Bool) (s2 h2 : ByteArray) (p : Int) (pa2 q2 : ByteArray) (o3 : Bool) (s3 h3 : ByteArray) (p3 : Int) (pa3 q3 : ByteArray) (m : Bool) (hn : ¬ Fits t s h pa s2 h2 pa2 q2 s3 h3 pa3 q3)  (w : World) (hw : Low w) : Calls Tryz.prog 8 #[srcV k t s h wd sp pa, uV o s2 h2 p pa2 q2, uV o3 s3 h3 p3 pa3 q3, .bool m] w fun e w' => e = .returned (.bool true) ∧ Below w.heap.size w w' := by
  have MR := matches_hid
  have LG := large_hid k t s h wd sp pa o s2 h2 p pa2 q2 o3 s3 h3 p3 pa3 q3
  have HN := Lib.hid hn
  clear hn
  unfold srcV uV at *
  go_enter Tryz.func8, Tryz.ntmps8
  go_wp2_with fail
  obtain ⟨x1, x2, x3, BB⟩ := urlBlocks w k t s h wd sp pa o s2 h2 p pa2 q2 o3 s3 h3 p3 pa3 q3
  have gB := ((hw.made (.cells #[.int .i64 k, .string t, .string s, .string h, .bool wd, .int .i64 sp, .string pa] 24)).made (.cells #[.bool o, .string s2, .string h2, .int .i64 p, .string pa2, .string q2] 26)).made (.cells #[.bool o3, .string s3, .string h3, .int .i64 p3, .string pa3, .string q3] 26)
  clear hw
  generalize hR : w.heap.size = Ra at x1 x2 x3 BB ⊢
  have HR := Lib.hid hR
  clear hR
  obtain ⟨Rb, hRb⟩ : ∃ Rb, Ra + 1 = Rb := ⟨_, rfl⟩
  rw [hRb] at x2 x3
  try rw [hRb]
  clear hRb
  obtain ⟨Rc, hRb⟩ : ∃ Rc, Rb + 1 = Rc := ⟨_, rfl⟩
  rw [hRb] at x3
  try rw [hRb]
  clear hRb
  generalize ((w.alloc (.cells #[.int .i64 k, .string t, .string s, .string h, .bool wd, .int .i64 sp, .string pa] 24)).alloc (.cells #[.bool o, .string s2, .string h2, .int .i64 p, .string pa2, .string q2] 26)).alloc (.cells #[.bool o3, .string s3, .string h3, .int .i64 p3, .string pa3, .string q3] 26) = w1 at x1 x2 x3 gB BB ⊢
  have xRa_w1 := x1
  have xRb_w1 := x2
  have xRc_w1 := x3
  clear x1 x2 x3
  refine (LG.out _ ).mono ?_
  rintro e w2 ⟨b0, rfl, b_, hz⟩
  have gw2 := gB.below b_
  have Bw2 := BB.trans (b_.mono (Nat.le_of_lt xRa_w1.lt))
  have xRa_w2 := xRa_w1.below b_
  have xRb_w2 := xRb_w1.below b_
  have xRc_w2 := xRc_w1.below b_
  clear b_ gB BB xRa_w1 xRb_w1 xRc_w1
  have HZ := Lib.hid hz
  clear hz
  cases b0
  case false => exact absurd (HZ.out rfl) HN.out
  have dRa0 := xRa_w2.c0
  have dRa1 := xRa_w2.c1
  have dRa2 := xRa_w2.c2
  have dRa3 := xRa_w2.c3
  have dRa4 := xRa_w2.c4
  have dRa5 := xRa_w2.c5
  have dRa6 := xRa_w2.c6
  have dRb0 := xRb_w2.c0
  have dRb1 := xRb_w2.c1
  have dRb2 := xRb_w2.c2
  have dRb3 := xRb_w2.c3
  have dRb4 := xRb_w2.c4
  have dRb5 := xRb_w2.c5
  have dRc0 := xRc_w2.c0
  have dRc1 := xRc_w2.c1
  have dRc2 := xRc_w2.c2
  have dRc3 := xRc_w2.c3
  have dRc4 := xRc_w2.c4
  have dRc5 := xRc_w2.c5
  go_wp2_with fail
  clear dRa0 dRa1 dRa2 dRa3 dRa4 dRa5 dRa6 dRb0 dRb1 dRb2 dRb3 dRb4 dRb5 dRc0 dRc1 dRc2 dRc3 dRc4 dRc5
  refine (MR.out _ gw2).mono ?_
  rintro e w3 ⟨rfl, b_⟩
  have gw3 := gw2.below b_
  have Bw3 := Bw2.trans (b_.mono (Nat.le_of_lt xRa_w2.lt))
  have xRa_w3 := xRa_w2.below b_
  have xRb_w3 := xRb_w2.below b_
  have xRc_w3 := xRc_w2.below b_
  clear b_ gw2 Bw2 xRa_w2 xRb_w2 xRc_w2
  go_wp2
  go_ret
  exact ⟨rfl, by rw [HR.out]; exact Bw3⟩

set_option maxRecDepth 100000 in
set_option maxHeartbeats 8000000 in
theorem scheme_k (k : Int) (t s h : ByteArray) (wd : Bool) (sp : Int) (pa : ByteArray) (o : Bool) (s2 h2 : ByteArray) (p : Int) (pa2 q2 : ByteArray) (o3 : Bool) (s3 h3 : ByteArray) (p3 : Int) (pa3 q3 : ByteArray) (m : Bool) (n1 : (k != 12) = true)  (w : World) (hw : Low w) : Calls Tryz.prog 8 #[srcV k t s h wd sp pa, uV o s2 h2 p pa2 q2, uV o3 s3 h3 p3 pa3 q3, .bool m] w fun e w' => e = .returned (.bool true) ∧ Below w.heap.size w w' := by
  have MR := matches_hid
  have LG := large_hid k t s h wd sp pa o s2 h2 p pa2 q2 o3 s3 h3 p3 pa3 q3
  unfold srcV uV at *
  go_enter Tryz.func8, Tryz.ntmps8
  go_wp2_with fail
  obtain ⟨x1, x2, x3, BB⟩ := urlBlocks w k t s h wd sp pa o s2 h2 p pa2 q2 o3 s3 h3 p3 pa3 q3
  have gB := ((hw.made (.cells #[.int .i64 k, .string t, .string s, .string h, .bool wd, .int .i64 sp, .string pa] 24)).made (.cells #[.bool o, .string s2, .string h2, .int .i64 p, .string pa2, .string q2] 26)).made (.cells #[.bool o3, .string s3, .string h3, .int .i64 p3, .string pa3, .string q3] 26)
  clear hw
  generalize hR : w.heap.size = Ra at x1 x2 x3 BB ⊢
  have HR := Lib.hid hR
  clear hR
  obtain ⟨Rb, hRb⟩ : ∃ Rb, Ra + 1 = Rb := ⟨_, rfl⟩
  rw [hRb] at x2 x3
  try rw [hRb]
  clear hRb
  obtain ⟨Rc, hRb⟩ : ∃ Rc, Rb + 1 = Rc := ⟨_, rfl⟩
  rw [hRb] at x3
  try rw [hRb]
  clear hRb
  generalize ((w.alloc (.cells #[.int .i64 k, .string t, .string s, .string h, .bool wd, .int .i64 sp, .string pa] 24)).alloc (.cells #[.bool o, .string s2, .string h2, .int .i64 p, .string pa2, .string q2] 26)).alloc (.cells #[.bool o3, .string s3, .string h3, .int .i64 p3, .string pa3, .string q3] 26) = w1 at x1 x2 x3 gB BB ⊢
  have xRa_w1 := x1
  have xRb_w1 := x2
  have xRc_w1 := x3
  clear x1 x2 x3
  refine (LG.out _ ).mono ?_
  rintro e w2 ⟨b0, rfl, b_, hz⟩
  have gw2 := gB.below b_
  have Bw2 := BB.trans (b_.mono (Nat.le_of_lt xRa_w1.lt))
  have xRa_w2 := xRa_w1.below b_
  have xRb_w2 := xRb_w1.below b_
  have xRc_w2 := xRc_w1.below b_
  clear b_ gB BB xRa_w1 xRb_w1 xRc_w1
  have HZ := Lib.hid hz
  clear hz
  cases b0
  case true =>
    have dRa0 := xRa_w2.c0
    have dRa1 := xRa_w2.c1
    have dRa2 := xRa_w2.c2
    have dRa3 := xRa_w2.c3
    have dRa4 := xRa_w2.c4
    have dRa5 := xRa_w2.c5
    have dRa6 := xRa_w2.c6
    have dRb0 := xRb_w2.c0
    have dRb1 := xRb_w2.c1
    have dRb2 := xRb_w2.c2
    have dRb3 := xRb_w2.c3
    have dRb4 := xRb_w2.c4
    have dRb5 := xRb_w2.c5
    have dRc0 := xRc_w2.c0
    have dRc1 := xRc_w2.c1
    have dRc2 := xRc_w2.c2
    have dRc3 := xRc_w2.c3
    have dRc4 := xRc_w2.c4
    have dRc5 := xRc_w2.c5
    go_wp2_with fail
    clear dRa0 dRa1 dRa2 dRa3 dRa4 dRa5 dRa6 dRb0 dRb1 dRb2 dRb3 dRb4 dRb5 dRc0 dRc1 dRc2 dRc3 dRc4 dRc5
    refine (MR.out _ gw2).mono ?_
    rintro e w3 ⟨rfl, b_⟩
    have gw3 := gw2.below b_
    have Bw3 := Bw2.trans (b_.mono (Nat.le_of_lt xRa_w2.lt))
    have xRa_w3 := xRa_w2.below b_
    have xRb_w3 := xRb_w2.below b_
    have xRc_w3 := xRc_w2.below b_
    clear b_ gw2 Bw2 xRa_w2 xRb_w2 xRc_w2
    go_wp2
    go_ret
    exact ⟨rfl, by rw [HR.out]; exact Bw3⟩
  clear HZ LG
  have dRa0 := xRa_w2.c0
  have dRa1 := xRa_w2.c1
  have dRa2 := xRa_w2.c2
  have dRa3 := xRa_w2.c3
  have dRa4 := xRa_w2.c4
  have dRa5 := xRa_w2.c5
  have dRa6 := xRa_w2.c6
  have dRb0 := xRb_w2.c0
  have dRb1 := xRb_w2.c1
  have dRb2 := xRb_w2.c2
  have dRb3 := xRb_w2.c3
  have dRb4 := xRb_w2.c4
  have dRb5 := xRb_w2.c5
  have dRc0 := xRc_w2.c0
  have dRc1 := xRc_w2.c1
  have dRc2 := xRc_w2.c2
  have dRc3 := xRc_w2.c3
  have dRc4 := xRc_w2.c4
  have dRc5 := xRc_w2.c5
  go_wp2_with fail
  clear dRa0 dRa1 dRa2 dRa3 dRa4 dRa5 dRa6 dRb0 dRb1 dRb2 dRb3 dRb4 dRb5 dRc0 dRc1 dRc2 dRc3 dRc4 dRc5
  refine (MR.out _ gw2).mono ?_
  rintro e w3 ⟨rfl, b_⟩
  have gw3 := gw2.below b_
  have Bw3 := Bw2.trans (b_.mono (Nat.le_of_lt xRa_w2.lt))
  have xRa_w3 := xRa_w2.below b_
  have xRb_w3 := xRb_w2.below b_
  have xRc_w3 := xRc_w2.below b_
  clear b_ gw2 Bw2 xRa_w2 xRb_w2 xRc_w2
  go_wp2
  go_ret
  exact ⟨rfl, by rw [HR.out]; exact Bw3⟩

set_option maxRecDepth 100000 in
set_option maxHeartbeats 8000000 in
theorem scheme_s (t s h : ByteArray) (wd : Bool) (sp : Int) (pa : ByteArray) (o : Bool) (s2 h2 : ByteArray) (p : Int) (pa2 q2 : ByteArray) (o3 : Bool) (s3 h3 : ByteArray) (p3 : Int) (pa3 q3 : ByteArray) (m : Bool) (g1 : s.toList.isEmpty = false)  (w : World) (hw : Low w) : Calls Tryz.prog 8 #[srcV 12 t s h wd sp pa, uV o s2 h2 p pa2 q2, uV o3 s3 h3 p3 pa3 q3, .bool m] w fun e w' => e = .returned (.bool true) ∧ Below w.heap.size w w' := by
  have MR := matches_hid
  have LG := large_hid 12 t s h wd sp pa o s2 h2 p pa2 q2 o3 s3 h3 p3 pa3 q3
  unfold srcV uV at *
  go_enter Tryz.func8, Tryz.ntmps8
  go_wp2_with fail
  obtain ⟨x1, x2, x3, BB⟩ := urlBlocks w 12 t s h wd sp pa o s2 h2 p pa2 q2 o3 s3 h3 p3 pa3 q3
  have gB := ((hw.made (.cells #[.int .i64 12, .string t, .string s, .string h, .bool wd, .int .i64 sp, .string pa] 24)).made (.cells #[.bool o, .string s2, .string h2, .int .i64 p, .string pa2, .string q2] 26)).made (.cells #[.bool o3, .string s3, .string h3, .int .i64 p3, .string pa3, .string q3] 26)
  clear hw
  generalize hR : w.heap.size = Ra at x1 x2 x3 BB ⊢
  have HR := Lib.hid hR
  clear hR
  obtain ⟨Rb, hRb⟩ : ∃ Rb, Ra + 1 = Rb := ⟨_, rfl⟩
  rw [hRb] at x2 x3
  try rw [hRb]
  clear hRb
  obtain ⟨Rc, hRb⟩ : ∃ Rc, Rb + 1 = Rc := ⟨_, rfl⟩
  rw [hRb] at x3
  try rw [hRb]
  clear hRb
  generalize ((w.alloc (.cells #[.int .i64 12, .string t, .string s, .string h, .bool wd, .int .i64 sp, .string pa] 24)).alloc (.cells #[.bool o, .string s2, .string h2, .int .i64 p, .string pa2, .string q2] 26)).alloc (.cells #[.bool o3, .string s3, .string h3, .int .i64 p3, .string pa3, .string q3] 26) = w1 at x1 x2 x3 gB BB ⊢
  have xRa_w1 := x1
  have xRb_w1 := x2
  have xRc_w1 := x3
  clear x1 x2 x3
  refine (LG.out _ ).mono ?_
  rintro e w2 ⟨b0, rfl, b_, hz⟩
  have gw2 := gB.below b_
  have Bw2 := BB.trans (b_.mono (Nat.le_of_lt xRa_w1.lt))
  have xRa_w2 := xRa_w1.below b_
  have xRb_w2 := xRb_w1.below b_
  have xRc_w2 := xRc_w1.below b_
  clear b_ gB BB xRa_w1 xRb_w1 xRc_w1
  have HZ := Lib.hid hz
  clear hz
  cases b0
  case true =>
    have dRa0 := xRa_w2.c0
    have dRa1 := xRa_w2.c1
    have dRa2 := xRa_w2.c2
    have dRa3 := xRa_w2.c3
    have dRa4 := xRa_w2.c4
    have dRa5 := xRa_w2.c5
    have dRa6 := xRa_w2.c6
    have dRb0 := xRb_w2.c0
    have dRb1 := xRb_w2.c1
    have dRb2 := xRb_w2.c2
    have dRb3 := xRb_w2.c3
    have dRb4 := xRb_w2.c4
    have dRb5 := xRb_w2.c5
    have dRc0 := xRc_w2.c0
    have dRc1 := xRc_w2.c1
    have dRc2 := xRc_w2.c2
    have dRc3 := xRc_w2.c3
    have dRc4 := xRc_w2.c4
    have dRc5 := xRc_w2.c5
    go_wp2_with fail
    clear dRa0 dRa1 dRa2 dRa3 dRa4 dRa5 dRa6 dRb0 dRb1 dRb2 dRb3 dRb4 dRb5 dRc0 dRc1 dRc2 dRc3 dRc4 dRc5
    refine (MR.out _ gw2).mono ?_
    rintro e w3 ⟨rfl, b_⟩
    have gw3 := gw2.below b_
    have Bw3 := Bw2.trans (b_.mono (Nat.le_of_lt xRa_w2.lt))
    have xRa_w3 := xRa_w2.below b_
    have xRb_w3 := xRb_w2.below b_
    have xRc_w3 := xRc_w2.below b_
    clear b_ gw2 Bw2 xRa_w2 xRb_w2 xRc_w2
    go_wp2
    go_ret
    exact ⟨rfl, by rw [HR.out]; exact Bw3⟩
  clear HZ LG
  have dRa0 := xRa_w2.c0
  have dRa1 := xRa_w2.c1
  have dRa2 := xRa_w2.c2
  have dRa3 := xRa_w2.c3
  have dRa4 := xRa_w2.c4
  have dRa5 := xRa_w2.c5
  have dRa6 := xRa_w2.c6
  have dRb0 := xRb_w2.c0
  have dRb1 := xRb_w2.c1
  have dRb2 := xRb_w2.c2
  have dRb3 := xRb_w2.c3
  have dRb4 := xRb_w2.c4
  have dRb5 := xRb_w2.c5
  have dRc0 := xRc_w2.c0
  have dRc1 := xRc_w2.c1
  have dRc2 := xRc_w2.c2
  have dRc3 := xRc_w2.c3
  have dRc4 := xRc_w2.c4
  have dRc5 := xRc_w2.c5
  go_wp2_with fail
  clear dRa0 dRa1 dRa2 dRa3 dRa4 dRa5 dRa6 dRb0 dRb1 dRb2 dRb3 dRb4 dRb5 dRc0 dRc1 dRc2 dRc3 dRc4 dRc5
  refine (MR.out _ gw2).mono ?_
  rintro e w3 ⟨rfl, b_⟩
  have gw3 := gw2.below b_
  have Bw3 := Bw2.trans (b_.mono (Nat.le_of_lt xRa_w2.lt))
  have xRa_w3 := xRa_w2.below b_
  have xRb_w3 := xRb_w2.below b_
  have xRc_w3 := xRc_w2.below b_
  clear b_ gw2 Bw2 xRa_w2 xRb_w2 xRc_w2
  go_wp2
  go_ret
  exact ⟨rfl, by rw [HR.out]; exact Bw3⟩

set_option maxRecDepth 100000 in
set_option maxHeartbeats 8000000 in
theorem scheme_v (t s h : ByteArray) (wd : Bool) (sp : Int) (pa : ByteArray) (o : Bool) (s2 h2 : ByteArray) (p : Int) (pa2 q2 : ByteArray) (o3 : Bool) (s3 h3 : ByteArray) (p3 : Int) (pa3 q3 : ByteArray) (m : Bool) (g1 : s.toList.isEmpty = true) (g2 : s3.toList.isEmpty = true)  (w : World) (hw : Low w) : Calls Tryz.prog 8 #[srcV 12 t s h wd sp pa, uV o s2 h2 p pa2 q2, uV o3 s3 h3 p3 pa3 q3, .bool m] w fun e w' => e = .returned (.bool true) ∧ Below w.heap.size w w' := by
  have MR := matches_hid
  have LG := large_hid 12 t s h wd sp pa o s2 h2 p pa2 q2 o3 s3 h3 p3 pa3 q3
  unfold srcV uV at *
  go_enter Tryz.func8, Tryz.ntmps8
  go_wp2_with fail
  obtain ⟨x1, x2, x3, BB⟩ := urlBlocks w 12 t s h wd sp pa o s2 h2 p pa2 q2 o3 s3 h3 p3 pa3 q3
  have gB := ((hw.made (.cells #[.int .i64 12, .string t, .string s, .string h, .bool wd, .int .i64 sp, .string pa] 24)).made (.cells #[.bool o, .string s2, .string h2, .int .i64 p, .string pa2, .string q2] 26)).made (.cells #[.bool o3, .string s3, .string h3, .int .i64 p3, .string pa3, .string q3] 26)
  clear hw
  generalize hR : w.heap.size = Ra at x1 x2 x3 BB ⊢
  have HR := Lib.hid hR
  clear hR
  obtain ⟨Rb, hRb⟩ : ∃ Rb, Ra + 1 = Rb := ⟨_, rfl⟩
  rw [hRb] at x2 x3
  try rw [hRb]
  clear hRb
  obtain ⟨Rc, hRb⟩ : ∃ Rc, Rb + 1 = Rc := ⟨_, rfl⟩
  rw [hRb] at x3
  try rw [hRb]
  clear hRb
  generalize ((w.alloc (.cells #[.int .i64 12, .string t, .string s, .string h, .bool wd, .int .i64 sp, .string pa] 24)).alloc (.cells #[.bool o, .string s2, .string h2, .int .i64 p, .string pa2, .string q2] 26)).alloc (.cells #[.bool o3, .string s3, .string h3, .int .i64 p3, .string pa3, .string q3] 26) = w1 at x1 x2 x3 gB BB ⊢
  have xRa_w1 := x1
  have xRb_w1 := x2
  have xRc_w1 := x3
  clear x1 x2 x3
  refine (LG.out _ ).mono ?_
  rintro e w2 ⟨b0, rfl, b_, hz⟩
  have gw2 := gB.below b_
  have Bw2 := BB.trans (b_.mono (Nat.le_of_lt xRa_w1.lt))
  have xRa_w2 := xRa_w1.below b_
  have xRb_w2 := xRb_w1.below b_
  have xRc_w2 := xRc_w1.below b_
  clear b_ gB BB xRa_w1 xRb_w1 xRc_w1
  have HZ := Lib.hid hz
  clear hz
  cases b0
  case true =>
    have dRa0 := xRa_w2.c0
    have dRa1 := xRa_w2.c1
    have dRa2 := xRa_w2.c2
    have dRa3 := xRa_w2.c3
    have dRa4 := xRa_w2.c4
    have dRa5 := xRa_w2.c5
    have dRa6 := xRa_w2.c6
    have dRb0 := xRb_w2.c0
    have dRb1 := xRb_w2.c1
    have dRb2 := xRb_w2.c2
    have dRb3 := xRb_w2.c3
    have dRb4 := xRb_w2.c4
    have dRb5 := xRb_w2.c5
    have dRc0 := xRc_w2.c0
    have dRc1 := xRc_w2.c1
    have dRc2 := xRc_w2.c2
    have dRc3 := xRc_w2.c3
    have dRc4 := xRc_w2.c4
    have dRc5 := xRc_w2.c5
    go_wp2_with fail
    clear dRa0 dRa1 dRa2 dRa3 dRa4 dRa5 dRa6 dRb0 dRb1 dRb2 dRb3 dRb4 dRb5 dRc0 dRc1 dRc2 dRc3 dRc4 dRc5
    refine (MR.out _ gw2).mono ?_
    rintro e w3 ⟨rfl, b_⟩
    have gw3 := gw2.below b_
    have Bw3 := Bw2.trans (b_.mono (Nat.le_of_lt xRa_w2.lt))
    have xRa_w3 := xRa_w2.below b_
    have xRb_w3 := xRb_w2.below b_
    have xRc_w3 := xRc_w2.below b_
    clear b_ gw2 Bw2 xRa_w2 xRb_w2 xRc_w2
    go_wp2
    go_ret
    exact ⟨rfl, by rw [HR.out]; exact Bw3⟩
  clear HZ LG
  have dRa0 := xRa_w2.c0
  have dRa1 := xRa_w2.c1
  have dRa2 := xRa_w2.c2
  have dRa3 := xRa_w2.c3
  have dRa4 := xRa_w2.c4
  have dRa5 := xRa_w2.c5
  have dRa6 := xRa_w2.c6
  have dRb0 := xRb_w2.c0
  have dRb1 := xRb_w2.c1
  have dRb2 := xRb_w2.c2
  have dRb3 := xRb_w2.c3
  have dRb4 := xRb_w2.c4
  have dRb5 := xRb_w2.c5
  have dRc0 := xRc_w2.c0
  have dRc1 := xRc_w2.c1
  have dRc2 := xRc_w2.c2
  have dRc3 := xRc_w2.c3
  have dRc4 := xRc_w2.c4
  have dRc5 := xRc_w2.c5
  go_wp2_with fail
  clear dRa0 dRa1 dRa2 dRa3 dRa4 dRa5 dRa6 dRb0 dRb1 dRb2 dRb3 dRb4 dRb5 dRc0 dRc1 dRc2 dRc3 dRc4 dRc5
  refine (MR.out _ gw2).mono ?_
  rintro e w3 ⟨rfl, b_⟩
  have gw3 := gw2.below b_
  have Bw3 := Bw2.trans (b_.mono (Nat.le_of_lt xRa_w2.lt))
  have xRa_w3 := xRa_w2.below b_
  have xRb_w3 := xRb_w2.below b_
  have xRc_w3 := xRc_w2.below b_
  clear b_ gw2 Bw2 xRa_w2 xRb_w2 xRc_w2
  go_wp2
  go_ret
  exact ⟨rfl, by rw [HR.out]; exact Bw3⟩

set_option maxRecDepth 100000 in
set_option maxHeartbeats 8000000 in
theorem scheme_yes (t s h : ByteArray) (wd : Bool) (sp : Int) (pa : ByteArray) (o : Bool) (s2 h2 : ByteArray) (p : Int) (pa2 q2 : ByteArray) (o3 : Bool) (s3 h3 : ByteArray) (p3 : Int) (pa3 q3 : ByteArray) (m : Bool) (g1 : s.toList.isEmpty = true) (g2 : s3.toList.isEmpty = false) (r : Bool) (CM : Hid (∀ W, Low W → Calls Tryz.prog 20 #[srcV 12 t s h wd sp pa, uV o s2 h2 p pa2 q2, uV o3 s3 h3 p3 pa3 q3, .bool m] W fun e w' => e = .returned (.bool r) ∧ Below W.heap.size W w')) (CN : Hid (∀ W, Low W → Calls Tryz.prog 20 #[srcV 12 t s3 h wd sp pa, uV o s2 h2 p pa2 q2, uV o3 s3 h3 p3 pa3 q3, .bool m] W fun e w' => e = .returned (.bool r) ∧ Below W.heap.size W w')) (w : World) (hw : Low w) : Calls Tryz.prog 8 #[srcV 12 t s h wd sp pa, uV o s2 h2 p pa2 q2, uV o3 s3 h3 p3 pa3 q3, .bool m] w fun e w' => e = .returned (.bool true) ∧ Below w.heap.size w w' := by
  have MR := matches_hid
  have LG := large_hid 12 t s h wd sp pa o s2 h2 p pa2 q2 o3 s3 h3 p3 pa3 q3
  unfold srcV uV at *
  go_enter Tryz.func8, Tryz.ntmps8
  go_wp2_with fail
  obtain ⟨x1, x2, x3, BB⟩ := urlBlocks w 12 t s h wd sp pa o s2 h2 p pa2 q2 o3 s3 h3 p3 pa3 q3
  have gB := ((hw.made (.cells #[.int .i64 12, .string t, .string s, .string h, .bool wd, .int .i64 sp, .string pa] 24)).made (.cells #[.bool o, .string s2, .string h2, .int .i64 p, .string pa2, .string q2] 26)).made (.cells #[.bool o3, .string s3, .string h3, .int .i64 p3, .string pa3, .string q3] 26)
  clear hw
  generalize hR : w.heap.size = Ra at x1 x2 x3 BB ⊢
  have HR := Lib.hid hR
  clear hR
  obtain ⟨Rb, hRb⟩ : ∃ Rb, Ra + 1 = Rb := ⟨_, rfl⟩
  rw [hRb] at x2 x3
  try rw [hRb]
  clear hRb
  obtain ⟨Rc, hRb⟩ : ∃ Rc, Rb + 1 = Rc := ⟨_, rfl⟩
  rw [hRb] at x3
  try rw [hRb]
  clear hRb
  generalize ((w.alloc (.cells #[.int .i64 12, .string t, .string s, .string h, .bool wd, .int .i64 sp, .string pa] 24)).alloc (.cells #[.bool o, .string s2, .string h2, .int .i64 p, .string pa2, .string q2] 26)).alloc (.cells #[.bool o3, .string s3, .string h3, .int .i64 p3, .string pa3, .string q3] 26) = w1 at x1 x2 x3 gB BB ⊢
  have xRa_w1 := x1
  have xRb_w1 := x2
  have xRc_w1 := x3
  clear x1 x2 x3
  refine (LG.out _ ).mono ?_
  rintro e w2 ⟨b0, rfl, b_, hz⟩
  have gw2 := gB.below b_
  have Bw2 := BB.trans (b_.mono (Nat.le_of_lt xRa_w1.lt))
  have xRa_w2 := xRa_w1.below b_
  have xRb_w2 := xRb_w1.below b_
  have xRc_w2 := xRc_w1.below b_
  clear b_ gB BB xRa_w1 xRb_w1 xRc_w1
  have HZ := Lib.hid hz
  clear hz
  cases b0
  case true =>
    have dRa0 := xRa_w2.c0
    have dRa1 := xRa_w2.c1
    have dRa2 := xRa_w2.c2
    have dRa3 := xRa_w2.c3
    have dRa4 := xRa_w2.c4
    have dRa5 := xRa_w2.c5
    have dRa6 := xRa_w2.c6
    have dRb0 := xRb_w2.c0
    have dRb1 := xRb_w2.c1
    have dRb2 := xRb_w2.c2
    have dRb3 := xRb_w2.c3
    have dRb4 := xRb_w2.c4
    have dRb5 := xRb_w2.c5
    have dRc0 := xRc_w2.c0
    have dRc1 := xRc_w2.c1
    have dRc2 := xRc_w2.c2
    have dRc3 := xRc_w2.c3
    have dRc4 := xRc_w2.c4
    have dRc5 := xRc_w2.c5
    go_wp2_with fail
    clear dRa0 dRa1 dRa2 dRa3 dRa4 dRa5 dRa6 dRb0 dRb1 dRb2 dRb3 dRb4 dRb5 dRc0 dRc1 dRc2 dRc3 dRc4 dRc5
    refine (MR.out _ gw2).mono ?_
    rintro e w3 ⟨rfl, b_⟩
    have gw3 := gw2.below b_
    have Bw3 := Bw2.trans (b_.mono (Nat.le_of_lt xRa_w2.lt))
    have xRa_w3 := xRa_w2.below b_
    have xRb_w3 := xRb_w2.below b_
    have xRc_w3 := xRc_w2.below b_
    clear b_ gw2 Bw2 xRa_w2 xRb_w2 xRc_w2
    go_wp2
    go_ret
    exact ⟨rfl, by rw [HR.out]; exact Bw3⟩
  clear HZ LG
  have dRa0 := xRa_w2.c0
  have dRa1 := xRa_w2.c1
  have dRa2 := xRa_w2.c2
  have dRa3 := xRa_w2.c3
  have dRa4 := xRa_w2.c4
  have dRa5 := xRa_w2.c5
  have dRa6 := xRa_w2.c6
  have dRb0 := xRb_w2.c0
  have dRb1 := xRb_w2.c1
  have dRb2 := xRb_w2.c2
  have dRb3 := xRb_w2.c3
  have dRb4 := xRb_w2.c4
  have dRb5 := xRb_w2.c5
  have dRc0 := xRc_w2.c0
  have dRc1 := xRc_w2.c1
  have dRc2 := xRc_w2.c2
  have dRc3 := xRc_w2.c3
  have dRc4 := xRc_w2.c4
  have dRc5 := xRc_w2.c5
  have yq := (xRc_w2.below ((Below.refl w2.heap.size w2).alloc (Nat.le_refl _) (.cells #[.int .i64 12, .string t, .string s, .string h, .bool wd, .int .i64 sp, .string pa] 24))).c1
  go_wp2
  clear yq
  clear dRa0 dRa1 dRa2 dRa3 dRa4 dRa5 dRa6 dRb0 dRb1 dRb2 dRb3 dRb4 dRb5 dRc0 dRc1 dRc2 dRc3 dRc4 dRc5
  have xn := SX.made w2 12 t s3 h wd sp pa
  have gw3 := gw2.made (.cells #[.int .i64 12, .string t, .string s3, .string h, .bool wd, .int .i64 sp, .string pa] 24)
  have Bw3 := Bw2.trans (((Below.refl w2.heap.size w2).alloc (Nat.le_refl _) (.cells #[.int .i64 12, .string t, .string s3, .string h, .bool wd, .int .i64 sp, .string pa] 24)).mono (Nat.le_of_lt xRa_w2.lt))
  have xRa_w3 := xRa_w2.below ((Below.refl w2.heap.size w2).alloc (Nat.le_refl _) (.cells #[.int .i64 12, .string t, .string s3, .string h, .bool wd, .int .i64 sp, .string pa] 24))
  have xRb_w3 := xRb_w2.below ((Below.refl w2.heap.size w2).alloc (Nat.le_refl _) (.cells #[.int .i64 12, .string t, .string s3, .string h, .bool wd, .int .i64 sp, .string pa] 24))
  have xRc_w3 := xRc_w2.below ((Below.refl w2.heap.size w2).alloc (Nat.le_refl _) (.cells #[.int .i64 12, .string t, .string s3, .string h, .bool wd, .int .i64 sp, .string pa] 24))
  generalize w2.heap.size = Rd at xn ⊢
  generalize w2.alloc (.cells #[.int .i64 12, .string t, .string s3, .string h, .bool wd, .int .i64 sp, .string pa] 24) = w3 at xn gw3 Bw3 xRa_w3 xRb_w3 xRc_w3 ⊢
  have xRd_w3 := xn
  clear xn gw2 Bw2 xRa_w2 xRb_w2 xRc_w2
  obtain ⟨C, hC⟩ : ∃ C : World → Prop, ∀ w', C w' ↔ (SX w' Ra 12 t s h wd sp pa ∧ BX w' Rb o s2 h2 p pa2 q2 ∧ BX w' Rc o3 s3 h3 p3 pa3 q3 ∧ SX w' Rd 12 t s3 h wd sp pa ∧ Below Ra w w' ∧ Low w') := ⟨_, fun _ => Iff.rfl⟩
  have HC := Lib.hid hC
  clear hC
  have hC0 : C w3.drew := (HC.out _).2 ⟨xRa_w3, xRb_w3, xRc_w3, xRd_w3, Bw3.drew, gw3.drew⟩
  have HK : Hid (∀ w', C w' → ∀ w7, Below w'.heap.size w' w7 → C w7) := Lib.hid fun w' hc w7 b => by
    obtain ⟨xRa, xRb, xRc, xRd, K4, g7⟩ := (HC.out w').1 hc
    exact (HC.out _).2 ⟨xRa.below b, xRb.below b, xRc.below b, xRd.below b, K4.trans (b.mono (Nat.le_of_lt xRa.lt)), g7.below b⟩
  clear xRa_w3 xRb_w3 xRc_w3 xRd_w3 Bw3 gw3
  refine region_class C (by kernel_rfl) (by kernel_rfl) hC0 ?_
  clear hC0
  repeat
    first
      | go_big_quiet_skip
      | (go_big_quiet_want; go_big_quiet_op; go_big_quiet_on)
      | (refine BigFrame.wpQuiet_want rfl (fun K hK => ?_)
         apply Exists.intro
         refine ⟨fun w' hc => ?_, hK _ ?_⟩
         · obtain ⟨xRa, xRb, xRc, xRd, K4, g7⟩ := (HC.out w').1 hc
           have dRa0 := xRa.c0
           have dRa1 := xRa.c1
           have dRa2 := xRa.c2
           have dRa3 := xRa.c3
           have dRa4 := xRa.c4
           have dRa5 := xRa.c5
           have dRa6 := xRa.c6
           have dRb0 := xRb.c0
           have dRb1 := xRb.c1
           have dRb2 := xRb.c2
           have dRb3 := xRb.c3
           have dRb4 := xRb.c4
           have dRb5 := xRb.c5
           have dRc0 := xRc.c0
           have dRc1 := xRc.c1
           have dRc2 := xRc.c2
           have dRc3 := xRc.c3
           have dRc4 := xRc.c4
           have dRc5 := xRc.c5
           have dRd0 := xRd.c0
           have dRd1 := xRd.c1
           have dRd2 := xRd.c2
           have dRd3 := xRd.c3
           have dRd4 := xRd.c4
           have dRd5 := xRd.c5
           have dRd6 := xRd.c6
           unfold Oper.quietAt
           go_simp
           first
             | done
             | rfl
             | ((with_reducible refine (MR.out _ g7).mono ?_); rintro e w7 ⟨rfl, b7⟩; exact ⟨rfl, HK.out w' hc w7 b7⟩)
             | ((with_reducible refine (CM.out _ g7).mono ?_); rintro e w7 ⟨rfl, b7⟩; exact ⟨rfl, HK.out w' hc w7 b7⟩)
             | ((with_reducible refine (CN.out _ g7).mono ?_); rintro e w7 ⟨rfl, b7⟩; exact ⟨rfl, HK.out w' hc w7 b7⟩)
         clear hK K
         simp only [Act.put, List.setIfInBounds_toArray, List.set_cons_zero, List.set_cons_succ])
  refine wpQuiet_nil ?_
  intro w4 hc
  obtain ⟨xRa_w4, xRb_w4, xRc_w4, xRd_w4, Bw4, gw4⟩ := (HC.out w4).1 hc
  clear hc HC HK
  go_wp2
  go_ret
  exact ⟨rfl, by rw [HR.out]; exact Bw4⟩
theorem matchScheme_law (k : Int) (t s h : ByteArray) (wd : Bool) (sp : Int) (pa : ByteArray) (o : Bool) (s2 h2 : ByteArray) (p : Int) (pa2 q2 : ByteArray) (o3 : Bool) (s3 h3 : ByteArray) (p3 : Int) (pa3 q3 : ByteArray) (m : Bool) (w : World) (hw : Low w) : Calls Tryz.prog 8 #[srcV k t s h wd sp pa, uV o s2 h2 p pa2 q2, uV o3 s3 h3 p3 pa3 q3, .bool m] w fun e w' => e = .returned (.bool true) ∧ Below w.heap.size w w' := by
  by_cases hF : Fits t s h pa s2 h2 pa2 q2 s3 h3 pa3 q3
  case neg => exact scheme_long k t s h wd sp pa o s2 h2 p pa2 q2 o3 s3 h3 p3 pa3 q3 m hF w hw
  obtain ⟨⟨a1, a2, a3, a4⟩, ⟨c1, c2, c3, c4⟩, ⟨e1, e2, e3, e4⟩⟩ := hF
  by_cases hk : k = 12
  case neg => exact scheme_k k t s h wd sp pa o s2 h2 p pa2 q2 o3 s3 h3 p3 pa3 q3 m (by rw [bne_iff_ne]; exact hk) w hw
  subst hk
  cases g1 : s.toList.isEmpty
  case false => exact scheme_s t s h wd sp pa o s2 h2 p pa2 q2 o3 s3 h3 p3 pa3 q3 m g1 w hw
  cases g2 : s3.toList.isEmpty
  case true => exact scheme_v t s h wd sp pa o s2 h2 p pa2 q2 o3 s3 h3 p3 pa3 q3 m g1 g2 w hw
  have key := url_told (srcM 12 t s h wd sp pa) (uM o s2 h2 p pa2 q2) (uM o3 s3 h3 p3 pa3 q3) m rfl (by rw [text_none] at g1; exact List.isEmpty_iff.1 g1)
  exact scheme_yes t s h wd sp pa o s2 h2 p pa2 q2 o3 s3 h3 p3 pa3 q3 m g1 g2 _ (matUrl_hid 12 t s h wd sp pa o s2 h2 p pa2 q2 o3 s3 h3 p3 pa3 q3 m (by omega) (by omega) (by omega) (by omega) (by omega) (by omega) (by omega) (by omega) (by omega) (by omega) _ rfl) (matUrl_hid 12 t s3 h wd sp pa o s2 h2 p pa2 q2 o3 s3 h3 p3 pa3 q3 m (by omega) (by omega) (by omega) (by omega) (by omega) (by omega) (by omega) (by omega) (by omega) (by omega) _ key.symm) w hw

end Go.Proofs.YtpmnpaopkncphaaGreatDoor
