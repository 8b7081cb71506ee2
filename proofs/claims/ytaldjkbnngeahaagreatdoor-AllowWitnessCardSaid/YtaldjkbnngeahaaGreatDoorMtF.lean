/- Whether a source lets an address be: the program's. -/
import Derived.Test.YtaldjkbnngeahaaGreatDoorMtE
import Derived.Test.YtaldjkbnngeahaaGreatDoorRefOY
namespace Go.Proofs.YtaldjkbnngeahaaGreatDoor
open Go.RowKit

theorem urlBlocks (w : World) (k : Int) (t s h : ByteArray) (wd : Bool) (sp : Int) (pa : ByteArray) (o : Bool) (s2 h2 : ByteArray) (p : Int) (pa2 q2 : ByteArray) (o3 : Bool) (s3 h3 : ByteArray) (p3 : Int) (pa3 q3 : ByteArray) :
    SX (((w.alloc (.cells #[.int .i64 k, .string t, .string s, .string h, .bool wd, .int .i64 sp, .string pa] 40)).alloc (.cells #[.bool o, .string s2, .string h2, .int .i64 p, .string pa2, .string q2] 25)).alloc (.cells #[.bool o3, .string s3, .string h3, .int .i64 p3, .string pa3, .string q3] 25)) w.heap.size k t s h wd sp pa ∧ BX (((w.alloc (.cells #[.int .i64 k, .string t, .string s, .string h, .bool wd, .int .i64 sp, .string pa] 40)).alloc (.cells #[.bool o, .string s2, .string h2, .int .i64 p, .string pa2, .string q2] 25)).alloc (.cells #[.bool o3, .string s3, .string h3, .int .i64 p3, .string pa3, .string q3] 25)) (w.heap.size + 1) o s2 h2 p pa2 q2 ∧ BX (((w.alloc (.cells #[.int .i64 k, .string t, .string s, .string h, .bool wd, .int .i64 sp, .string pa] 40)).alloc (.cells #[.bool o, .string s2, .string h2, .int .i64 p, .string pa2, .string q2] 25)).alloc (.cells #[.bool o3, .string s3, .string h3, .int .i64 p3, .string pa3, .string q3] 25)) (w.heap.size + 1 + 1) o3 s3 h3 p3 pa3 q3 ∧ Below w.heap.size w (((w.alloc (.cells #[.int .i64 k, .string t, .string s, .string h, .bool wd, .int .i64 sp, .string pa] 40)).alloc (.cells #[.bool o, .string s2, .string h2, .int .i64 p, .string pa2, .string q2] 25)).alloc (.cells #[.bool o3, .string s3, .string h3, .int .i64 p3, .string pa3, .string q3] 25)) := by
  refine ⟨?_, ?_, ?_, ?_⟩
  · unfold SX
    rw [heap_new, heap_new, heap_at] <;> simp
    all_goals omega
  · unfold BX
    rw [heap_new, heap_at] <;> simp
  · unfold BX
    rw [heap_at]
    simp
  · exact (((Below.refl w.heap.size w).alloc (Nat.le_refl _) _).alloc (by simp) _).alloc (by simp; omega) _
theorem om_any (x : O) : ∃ (o : Bool) (s h : ByteArray) (p : Int), x = oM o s h p := by
  obtain ⟨s, hs⟩ := text_of x.s
  obtain ⟨h, hh⟩ := text_of x.h
  exact ⟨x.o, s, h, x.p, by unfold oM; rw [hs, hh]⟩


set_option maxRecDepth 100000 in
set_option maxHeartbeats 8000000 in
theorem url_wrong (k : Int) (t s h : ByteArray) (wd : Bool) (sp : Int) (pa : ByteArray) (o : Bool) (s2 h2 : ByteArray) (p : Int) (pa2 q2 : ByteArray) (o3 : Bool) (s3 h3 : ByteArray) (p3 : Int) (pa3 q3 : ByteArray) (m : Bool) (CC : Hid (∀ W, MaxIn W → TabIn W → Calls Tryz.prog 47 #[uV o s2 h2 p pa2 q2] W fun e w' => e = .returned (.int .i64 50) ∧ Below W.heap.size W w')) (w : World) (hm : MaxIn w) (ht : TabIn w) : Calls Tryz.prog 34 #[srcV k t s h wd sp pa, uV o s2 h2 p pa2 q2, uV o3 s3 h3 p3 pa3 q3, .bool m] w fun e w' => e = .returned (.bool false) ∧ Below w.heap.size w w' := by
  unfold srcV uV at *
  go_enter Tryz.func34, Tryz.ntmps34
  go_wp2_with fail
  obtain ⟨x1, x2, x3, BB⟩ := urlBlocks w k t s h wd sp pa o s2 h2 p pa2 q2 o3 s3 h3 p3 pa3 q3
  have mB := ((hm.made (.cells #[.int .i64 k, .string t, .string s, .string h, .bool wd, .int .i64 sp, .string pa] 40)).made (.cells #[.bool o, .string s2, .string h2, .int .i64 p, .string pa2, .string q2] 25)).made (.cells #[.bool o3, .string s3, .string h3, .int .i64 p3, .string pa3, .string q3] 25)
  have tB := ((ht.made (.cells #[.int .i64 k, .string t, .string s, .string h, .bool wd, .int .i64 sp, .string pa] 40)).made (.cells #[.bool o, .string s2, .string h2, .int .i64 p, .string pa2, .string q2] 25)).made (.cells #[.bool o3, .string s3, .string h3, .int .i64 p3, .string pa3, .string q3] 25)
  clear hm ht
  generalize hR : w.heap.size = Ra at x1 x2 x3 BB ⊢
  have HR := Lib.hid hR
  clear hR
  obtain ⟨Rb, hRb⟩ : ∃ Rb, Ra + 1 = Rb := ⟨_, rfl⟩
  rw [hRb] at x2 x3
  try rw [hRb]
  clear hRb
  obtain ⟨Rc, hRb⟩ : ∃ Rc, Rb + 1 = Rc := ⟨_, rfl⟩
  rw [hRb] at x3
  try rw [hRb]
  clear hRb
  generalize ((w.alloc (.cells #[.int .i64 k, .string t, .string s, .string h, .bool wd, .int .i64 sp, .string pa] 40)).alloc (.cells #[.bool o, .string s2, .string h2, .int .i64 p, .string pa2, .string q2] 25)).alloc (.cells #[.bool o3, .string s3, .string h3, .int .i64 p3, .string pa3, .string q3] 25) = w1 at x1 x2 x3 mB tB BB ⊢
  have xRa_w1 := x1
  have xRb_w1 := x2
  have xRc_w1 := x3
  clear x1 x2 x3
  refine (CC.out _ mB tB).mono ?_
  rintro e w2 ⟨rfl, b_⟩
  have mw2 := mB.below b_
  have tw2 := tB.below b_
  have Bw2 := BB.trans (b_.mono (Nat.le_of_lt xRa_w1.lt))
  have xRa_w2 := xRa_w1.below b_
  have xRb_w2 := xRb_w1.below b_
  have xRc_w2 := xRc_w1.below b_
  clear b_ mB tB BB xRa_w1 xRb_w1 xRc_w1
  have dRa0 := xRa_w2.c0
  have dRa1 := xRa_w2.c1
  have dRa2 := xRa_w2.c2
  have dRa3 := xRa_w2.c3
  have dRa4 := xRa_w2.c4
  have dRa5 := xRa_w2.c5
  have dRa6 := xRa_w2.c6
  have dRb0 := xRb_w2.c0
  have dRb1 := xRb_w2.c1
  have dRb2 := xRb_w2.c2
  have dRb3 := xRb_w2.c3
  have dRb4 := xRb_w2.c4
  have dRb5 := xRb_w2.c5
  have dRc0 := xRc_w2.c0
  have dRc1 := xRc_w2.c1
  have dRc2 := xRc_w2.c2
  have dRc3 := xRc_w2.c3
  have dRc4 := xRc_w2.c4
  have dRc5 := xRc_w2.c5
  go_wp2
  go_ret
  exact ⟨rfl, by rw [HR.out]; exact Bw2⟩


set_option maxRecDepth 100000 in
set_option maxHeartbeats 8000000 in
theorem url_k11 (t s h : ByteArray) (wd : Bool) (sp : Int) (pa : ByteArray) (o : Bool) (s2 h2 : ByteArray) (p : Int) (pa2 q2 : ByteArray) (o3 : Bool) (s3 h3 : ByteArray) (p3 : Int) (pa3 q3 : ByteArray) (m r : Bool) (CC : Hid (∀ W, MaxIn W → TabIn W → Calls Tryz.prog 47 #[uV o s2 h2 p pa2 q2] W fun e w' => e = .returned (.int .i64 0) ∧ Below W.heap.size W w')) (CS : Hid (∀ W, Calls Tryz.prog 48 #[.string s, .string s2] W fun e w' => e = .returned (.bool r) ∧ Below W.heap.size W w')) (w : World) (hm : MaxIn w) (ht : TabIn w) : Calls Tryz.prog 34 #[srcV 11 t s h wd sp pa, uV o s2 h2 p pa2 q2, uV o3 s3 h3 p3 pa3 q3, .bool m] w fun e w' => e = .returned (.bool r) ∧ Below w.heap.size w w' := by
  unfold srcV uV at *
  go_enter Tryz.func34, Tryz.ntmps34
  go_wp2_with fail
  obtain ⟨x1, x2, x3, BB⟩ := urlBlocks w 11 t s h wd sp pa o s2 h2 p pa2 q2 o3 s3 h3 p3 pa3 q3
  have mB := ((hm.made (.cells #[.int .i64 11, .string t, .string s, .string h, .bool wd, .int .i64 sp, .string pa] 40)).made (.cells #[.bool o, .string s2, .string h2, .int .i64 p, .string pa2, .string q2] 25)).made (.cells #[.bool o3, .string s3, .string h3, .int .i64 p3, .string pa3, .string q3] 25)
  have tB := ((ht.made (.cells #[.int .i64 11, .string t, .string s, .string h, .bool wd, .int .i64 sp, .string pa] 40)).made (.cells #[.bool o, .string s2, .string h2, .int .i64 p, .string pa2, .string q2] 25)).made (.cells #[.bool o3, .string s3, .string h3, .int .i64 p3, .string pa3, .string q3] 25)
  clear hm ht
  generalize hR : w.heap.size = Ra at x1 x2 x3 BB ⊢
  have HR := Lib.hid hR
  clear hR
  obtain ⟨Rb, hRb⟩ : ∃ Rb, Ra + 1 = Rb := ⟨_, rfl⟩
  rw [hRb] at x2 x3
  try rw [hRb]
  clear hRb
  obtain ⟨Rc, hRb⟩ : ∃ Rc, Rb + 1 = Rc := ⟨_, rfl⟩
  rw [hRb] at x3
  try rw [hRb]
  clear hRb
  generalize ((w.alloc (.cells #[.int .i64 11, .string t, .string s, .string h, .bool wd, .int .i64 sp, .string pa] 40)).alloc (.cells #[.bool o, .string s2, .string h2, .int .i64 p, .string pa2, .string q2] 25)).alloc (.cells #[.bool o3, .string s3, .string h3, .int .i64 p3, .string pa3, .string q3] 25) = w1 at x1 x2 x3 mB tB BB ⊢
  have xRa_w1 := x1
  have xRb_w1 := x2
  have xRc_w1 := x3
  clear x1 x2 x3
  refine (CC.out _ mB tB).mono ?_
  rintro e w2 ⟨rfl, b_⟩
  have mw2 := mB.below b_
  have tw2 := tB.below b_
  have Bw2 := BB.trans (b_.mono (Nat.le_of_lt xRa_w1.lt))
  have xRa_w2 := xRa_w1.below b_
  have xRb_w2 := xRb_w1.below b_
  have xRc_w2 := xRc_w1.below b_
  clear b_ mB tB BB xRa_w1 xRb_w1 xRc_w1
  have dRa0 := xRa_w2.c0
  have dRa1 := xRa_w2.c1
  have dRa2 := xRa_w2.c2
  have dRa3 := xRa_w2.c3
  have dRa4 := xRa_w2.c4
  have dRa5 := xRa_w2.c5
  have dRa6 := xRa_w2.c6
  have dRb0 := xRb_w2.c0
  have dRb1 := xRb_w2.c1
  have dRb2 := xRb_w2.c2
  have dRb3 := xRb_w2.c3
  have dRb4 := xRb_w2.c4
  have dRb5 := xRb_w2.c5
  go_wp2_with fail
  clear dRa0 dRa1 dRa2 dRa3 dRa4 dRa5 dRa6 dRb0 dRb1 dRb2 dRb3 dRb4 dRb5
  refine (CS.out _ ).mono ?_
  rintro e w3 ⟨rfl, b_⟩
  have mw3 := mw2.below b_
  have tw3 := tw2.below b_
  have Bw3 := Bw2.trans (b_.mono (Nat.le_of_lt xRa_w2.lt))
  have xRa_w3 := xRa_w2.below b_
  have xRb_w3 := xRb_w2.below b_
  have xRc_w3 := xRc_w2.below b_
  clear b_ mw2 tw2 Bw2 xRa_w2 xRb_w2 xRc_w2
  go_wp2
  go_ret
  exact ⟨rfl, by rw [HR.out]; exact Bw3⟩


set_option maxRecDepth 100000 in
set_option maxHeartbeats 8000000 in
theorem url_k12 (t s h : ByteArray) (wd : Bool) (sp : Int) (pa : ByteArray) (o : Bool) (s2 h2 : ByteArray) (p : Int) (pa2 q2 : ByteArray) (o3 : Bool) (s3 h3 : ByteArray) (p3 : Int) (pa3 q3 : ByteArray) (m r : Bool) (CC : Hid (∀ W, MaxIn W → TabIn W → Calls Tryz.prog 47 #[uV o s2 h2 p pa2 q2] W fun e w' => e = .returned (.int .i64 0) ∧ Below W.heap.size W w')) (CL : Hid (∀ W, Calls Tryz.prog 49 #[srcV 12 t s h wd sp pa, uV o s2 h2 p pa2 q2, uV o3 s3 h3 p3 pa3 q3, .bool m] W fun e w' => e = .returned (.bool r) ∧ Below W.heap.size W w')) (w : World) (hm : MaxIn w) (ht : TabIn w) : Calls Tryz.prog 34 #[srcV 12 t s h wd sp pa, uV o s2 h2 p pa2 q2, uV o3 s3 h3 p3 pa3 q3, .bool m] w fun e w' => e = .returned (.bool r) ∧ Below w.heap.size w w' := by
  unfold srcV uV at *
  go_enter Tryz.func34, Tryz.ntmps34
  go_wp2_with fail
  obtain ⟨x1, x2, x3, BB⟩ := urlBlocks w 12 t s h wd sp pa o s2 h2 p pa2 q2 o3 s3 h3 p3 pa3 q3
  have mB := ((hm.made (.cells #[.int .i64 12, .string t, .string s, .string h, .bool wd, .int .i64 sp, .string pa] 40)).made (.cells #[.bool o, .string s2, .string h2, .int .i64 p, .string pa2, .string q2] 25)).made (.cells #[.bool o3, .string s3, .string h3, .int .i64 p3, .string pa3, .string q3] 25)
  have tB := ((ht.made (.cells #[.int .i64 12, .string t, .string s, .string h, .bool wd, .int .i64 sp, .string pa] 40)).made (.cells #[.bool o, .string s2, .string h2, .int .i64 p, .string pa2, .string q2] 25)).made (.cells #[.bool o3, .string s3, .string h3, .int .i64 p3, .string pa3, .string q3] 25)
  clear hm ht
  generalize hR : w.heap.size = Ra at x1 x2 x3 BB ⊢
  have HR := Lib.hid hR
  clear hR
  obtain ⟨Rb, hRb⟩ : ∃ Rb, Ra + 1 = Rb := ⟨_, rfl⟩
  rw [hRb] at x2 x3
  try rw [hRb]
  clear hRb
  obtain ⟨Rc, hRb⟩ : ∃ Rc, Rb + 1 = Rc := ⟨_, rfl⟩
  rw [hRb] at x3
  try rw [hRb]
  clear hRb
  generalize ((w.alloc (.cells #[.int .i64 12, .string t, .string s, .string h, .bool wd, .int .i64 sp, .string pa] 40)).alloc (.cells #[.bool o, .string s2, .string h2, .int .i64 p, .string pa2, .string q2] 25)).alloc (.cells #[.bool o3, .string s3, .string h3, .int .i64 p3, .string pa3, .string q3] 25) = w1 at x1 x2 x3 mB tB BB ⊢
  have xRa_w1 := x1
  have xRb_w1 := x2
  have xRc_w1 := x3
  clear x1 x2 x3
  refine (CC.out _ mB tB).mono ?_
  rintro e w2 ⟨rfl, b_⟩
  have mw2 := mB.below b_
  have tw2 := tB.below b_
  have Bw2 := BB.trans (b_.mono (Nat.le_of_lt xRa_w1.lt))
  have xRa_w2 := xRa_w1.below b_
  have xRb_w2 := xRb_w1.below b_
  have xRc_w2 := xRc_w1.below b_
  clear b_ mB tB BB xRa_w1 xRb_w1 xRc_w1
  have dRa0 := xRa_w2.c0
  have dRa1 := xRa_w2.c1
  have dRa2 := xRa_w2.c2
  have dRa3 := xRa_w2.c3
  have dRa4 := xRa_w2.c4
  have dRa5 := xRa_w2.c5
  have dRa6 := xRa_w2.c6
  have dRb0 := xRb_w2.c0
  have dRb1 := xRb_w2.c1
  have dRb2 := xRb_w2.c2
  have dRb3 := xRb_w2.c3
  have dRb4 := xRb_w2.c4
  have dRb5 := xRb_w2.c5
  have dRc0 := xRc_w2.c0
  have dRc1 := xRc_w2.c1
  have dRc2 := xRc_w2.c2
  have dRc3 := xRc_w2.c3
  have dRc4 := xRc_w2.c4
  have dRc5 := xRc_w2.c5
  go_wp2_with fail
  clear dRa0 dRa1 dRa2 dRa3 dRa4 dRa5 dRa6 dRb0 dRb1 dRb2 dRb3 dRb4 dRb5 dRc0 dRc1 dRc2 dRc3 dRc4 dRc5
  refine (CL.out _ ).mono ?_
  rintro e w3 ⟨rfl, b_⟩
  have mw3 := mw2.below b_
  have tw3 := tw2.below b_
  have Bw3 := Bw2.trans (b_.mono (Nat.le_of_lt xRa_w2.lt))
  have xRa_w3 := xRa_w2.below b_
  have xRb_w3 := xRb_w2.below b_
  have xRc_w3 := xRc_w2.below b_
  clear b_ mw2 tw2 Bw2 xRa_w2 xRb_w2 xRc_w2
  go_wp2
  go_ret
  exact ⟨rfl, by rw [HR.out]; exact Bw3⟩


set_option maxRecDepth 100000 in
set_option maxHeartbeats 8000000 in
theorem url_k2s (t s h : ByteArray) (wd : Bool) (sp : Int) (pa : ByteArray) (o : Bool) (s2 h2 : ByteArray) (p : Int) (pa2 q2 : ByteArray) (o3 : Bool) (s3 h3 : ByteArray) (p3 : Int) (pa3 q3 : ByteArray) (m : Bool) (CC : Hid (∀ W, MaxIn W → TabIn W → Calls Tryz.prog 47 #[uV o s2 h2 p pa2 q2] W fun e w' => e = .returned (.int .i64 0) ∧ Below W.heap.size W w')) (oa : Bool) (sx hx : ByteArray) (px : Int) (ob : Bool) (sy hy : ByteArray) (py : Int) (CO1 : Hid (∀ W, MaxIn W → TabIn W → Calls Tryz.prog 51 #[uV o3 s3 h3 p3 pa3 q3] W fun e w' => e = .returned (oV oa sx hx px) ∧ Below W.heap.size W w')) (CO2 : Hid (∀ W, MaxIn W → TabIn W → Calls Tryz.prog 51 #[uV o s2 h2 p pa2 q2] W fun e w' => e = .returned (oV ob sy hy py) ∧ Below W.heap.size W w')) (CS : Hid (∀ W, Calls Tryz.prog 50 #[oV oa sx hx px, oV ob sy hy py] W fun e w' => e = .returned (.bool true) ∧ Below W.heap.size W w')) (w : World) (hm : MaxIn w) (ht : TabIn w) : Calls Tryz.prog 34 #[srcV 2 t s h wd sp pa, uV o s2 h2 p pa2 q2, uV o3 s3 h3 p3 pa3 q3, .bool m] w fun e w' => e = .returned (.bool true) ∧ Below w.heap.size w w' := by
  unfold srcV uV at *
  go_enter Tryz.func34, Tryz.ntmps34
  go_wp2_with fail
  obtain ⟨x1, x2, x3, BB⟩ := urlBlocks w 2 t s h wd sp pa o s2 h2 p pa2 q2 o3 s3 h3 p3 pa3 q3
  have mB := ((hm.made (.cells #[.int .i64 2, .string t, .string s, .string h, .bool wd, .int .i64 sp, .string pa] 40)).made (.cells #[.bool o, .string s2, .string h2, .int .i64 p, .string pa2, .string q2] 25)).made (.cells #[.bool o3, .string s3, .string h3, .int .i64 p3, .string pa3, .string q3] 25)
  have tB := ((ht.made (.cells #[.int .i64 2, .string t, .string s, .string h, .bool wd, .int .i64 sp, .string pa] 40)).made (.cells #[.bool o, .string s2, .string h2, .int .i64 p, .string pa2, .string q2] 25)).made (.cells #[.bool o3, .string s3, .string h3, .int .i64 p3, .string pa3, .string q3] 25)
  clear hm ht
  generalize hR : w.heap.size = Ra at x1 x2 x3 BB ⊢
  have HR := Lib.hid hR
  clear hR
  obtain ⟨Rb, hRb⟩ : ∃ Rb, Ra + 1 = Rb := ⟨_, rfl⟩
  rw [hRb] at x2 x3
  try rw [hRb]
  clear hRb
  obtain ⟨Rc, hRb⟩ : ∃ Rc, Rb + 1 = Rc := ⟨_, rfl⟩
  rw [hRb] at x3
  try rw [hRb]
  clear hRb
  generalize ((w.alloc (.cells #[.int .i64 2, .string t, .string s, .string h, .bool wd, .int .i64 sp, .string pa] 40)).alloc (.cells #[.bool o, .string s2, .string h2, .int .i64 p, .string pa2, .string q2] 25)).alloc (.cells #[.bool o3, .string s3, .string h3, .int .i64 p3, .string pa3, .string q3] 25) = w1 at x1 x2 x3 mB tB BB ⊢
  have xRa_w1 := x1
  have xRb_w1 := x2
  have xRc_w1 := x3
  clear x1 x2 x3
  refine (CC.out _ mB tB).mono ?_
  rintro e w2 ⟨rfl, b_⟩
  have mw2 := mB.below b_
  have tw2 := tB.below b_
  have Bw2 := BB.trans (b_.mono (Nat.le_of_lt xRa_w1.lt))
  have xRa_w2 := xRa_w1.below b_
  have xRb_w2 := xRb_w1.below b_
  have xRc_w2 := xRc_w1.below b_
  clear b_ mB tB BB xRa_w1 xRb_w1 xRc_w1
  unfold oV at *
  have dRa0 := xRa_w2.c0
  have dRa1 := xRa_w2.c1
  have dRa2 := xRa_w2.c2
  have dRa3 := xRa_w2.c3
  have dRa4 := xRa_w2.c4
  have dRa5 := xRa_w2.c5
  have dRa6 := xRa_w2.c6
  have dRb0 := xRb_w2.c0
  have dRb1 := xRb_w2.c1
  have dRb2 := xRb_w2.c2
  have dRb3 := xRb_w2.c3
  have dRb4 := xRb_w2.c4
  have dRb5 := xRb_w2.c5
  have dRc0 := xRc_w2.c0
  have dRc1 := xRc_w2.c1
  have dRc2 := xRc_w2.c2
  have dRc3 := xRc_w2.c3
  have dRc4 := xRc_w2.c4
  have dRc5 := xRc_w2.c5
  go_wp2
  clear dRa0 dRa1 dRa2 dRa3 dRa4 dRa5 dRa6 dRb0 dRb1 dRb2 dRb3 dRb4 dRb5 dRc0 dRc1 dRc2 dRc3 dRc4 dRc5
  obtain ⟨C, hC⟩ : ∃ C : World → Prop, ∀ w', C w' ↔ (SX w' Ra 2 t s h wd sp pa ∧ BX w' Rb o s2 h2 p pa2 q2 ∧ BX w' Rc o3 s3 h3 p3 pa3 q3 ∧ Below Ra w w' ∧ MaxIn w' ∧ TabIn w') := ⟨_, fun _ => Iff.rfl⟩
  have HC := Lib.hid hC
  clear hC
  have hC0 : C w2.drew := (HC.out _).2 ⟨xRa_w2, xRb_w2, xRc_w2, Bw2.drew, mw2, tw2⟩
  have HK : Hid (∀ w', C w' → ∀ w7, Below w'.heap.size w' w7 → C w7) := Lib.hid fun w' hc w7 b => by
    obtain ⟨xRa, xRb, xRc, K4, m7, t7⟩ := (HC.out w').1 hc
    exact (HC.out _).2 ⟨xRa.below b, xRb.below b, xRc.below b, K4.trans (b.mono (Nat.le_of_lt xRa.lt)), m7.below b, t7.below b⟩
  clear xRa_w2 xRb_w2 xRc_w2 Bw2 mw2 tw2
  refine region_class C (by kernel_rfl) (by kernel_rfl) hC0 ?_
  clear hC0
  repeat
    first
      | go_big_quiet_skip
      | (go_big_quiet_want; go_big_quiet_op; go_big_quiet_on)
      | (refine BigFrame.wpQuiet_want rfl (fun K hK => ?_)
         apply Exists.intro
         refine ⟨fun w' hc => ?_, hK _ ?_⟩
         · obtain ⟨xRa, xRb, xRc, K4, m7, t7⟩ := (HC.out w').1 hc
           have dRa0 := xRa.c0
           have dRa1 := xRa.c1
           have dRa2 := xRa.c2
           have dRa3 := xRa.c3
           have dRa4 := xRa.c4
           have dRa5 := xRa.c5
           have dRa6 := xRa.c6
           have dRb0 := xRb.c0
           have dRb1 := xRb.c1
           have dRb2 := xRb.c2
           have dRb3 := xRb.c3
           have dRb4 := xRb.c4
           have dRb5 := xRb.c5
           have dRc0 := xRc.c0
           have dRc1 := xRc.c1
           have dRc2 := xRc.c2
           have dRc3 := xRc.c3
           have dRc4 := xRc.c4
           have dRc5 := xRc.c5
           unfold Oper.quietAt
           go_simp
           first
             | done
             | rfl
             | ((with_reducible refine (CO1.out _ m7 t7).mono ?_); rintro e w7 ⟨rfl, b7⟩; exact ⟨rfl, HK.out w' hc w7 b7⟩)
             | ((with_reducible refine (CO2.out _ m7 t7).mono ?_); rintro e w7 ⟨rfl, b7⟩; exact ⟨rfl, HK.out w' hc w7 b7⟩)
             | ((with_reducible refine (CS.out _).mono ?_); rintro e w7 ⟨rfl, b7⟩; exact ⟨rfl, HK.out w' hc w7 b7⟩)
         clear hK K
         simp only [Act.put, List.setIfInBounds_toArray, List.set_cons_zero, List.set_cons_succ])
  refine wpQuiet_nil ?_
  intro w3 hc
  obtain ⟨xRa_w3, xRb_w3, xRc_w3, Bw3, mw3, tw3⟩ := (HC.out w3).1 hc
  clear hc HC HK
  go_wp2
  go_ret
  exact ⟨rfl, by rw [HR.out]; exact Bw3⟩


set_option maxRecDepth 100000 in
set_option maxHeartbeats 8000000 in
theorem url_k2n (t s h : ByteArray) (wd : Bool) (sp : Int) (pa : ByteArray) (o : Bool) (s2 h2 : ByteArray) (p : Int) (pa2 q2 : ByteArray) (o3 : Bool) (s3 h3 : ByteArray) (p3 : Int) (pa3 q3 : ByteArray) (m r : Bool) (CC : Hid (∀ W, MaxIn W → TabIn W → Calls Tryz.prog 47 #[uV o s2 h2 p pa2 q2] W fun e w' => e = .returned (.int .i64 0) ∧ Below W.heap.size W w')) (oa : Bool) (sx hx : ByteArray) (px : Int) (ob : Bool) (sy hy : ByteArray) (py : Int) (CO1 : Hid (∀ W, MaxIn W → TabIn W → Calls Tryz.prog 51 #[uV o3 s3 h3 p3 pa3 q3] W fun e w' => e = .returned (oV oa sx hx px) ∧ Below W.heap.size W w')) (CO2 : Hid (∀ W, MaxIn W → TabIn W → Calls Tryz.prog 51 #[uV o s2 h2 p pa2 q2] W fun e w' => e = .returned (oV ob sy hy py) ∧ Below W.heap.size W w')) (CS : Hid (∀ W, Calls Tryz.prog 50 #[oV oa sx hx px, oV ob sy hy py] W fun e w' => e = .returned (.bool false) ∧ Below W.heap.size W w')) (CN : Hid (∀ W, MaxIn W → TabIn W → Calls Tryz.prog 52 #[uV o3 s3 h3 p3 pa3 q3, uV o s2 h2 p pa2 q2] W fun e w' => e = .returned (.bool r) ∧ Below W.heap.size W w')) (w : World) (hm : MaxIn w) (ht : TabIn w) : Calls Tryz.prog 34 #[srcV 2 t s h wd sp pa, uV o s2 h2 p pa2 q2, uV o3 s3 h3 p3 pa3 q3, .bool m] w fun e w' => e = .returned (.bool r) ∧ Below w.heap.size w w' := by
  unfold srcV uV at *
  go_enter Tryz.func34, Tryz.ntmps34
  go_wp2_with fail
  obtain ⟨x1, x2, x3, BB⟩ := urlBlocks w 2 t s h wd sp pa o s2 h2 p pa2 q2 o3 s3 h3 p3 pa3 q3
  have mB := ((hm.made (.cells #[.int .i64 2, .string t, .string s, .string h, .bool wd, .int .i64 sp, .string pa] 40)).made (.cells #[.bool o, .string s2, .string h2, .int .i64 p, .string pa2, .string q2] 25)).made (.cells #[.bool o3, .string s3, .string h3, .int .i64 p3, .string pa3, .string q3] 25)
  have tB := ((ht.made (.cells #[.int .i64 2, .string t, .string s, .string h, .bool wd, .int .i64 sp, .string pa] 40)).made (.cells #[.bool o, .string s2, .string h2, .int .i64 p, .string pa2, .string q2] 25)).made (.cells #[.bool o3, .string s3, .string h3, .int .i64 p3, .string pa3, .string q3] 25)
  clear hm ht
  generalize hR : w.heap.size = Ra at x1 x2 x3 BB ⊢
  have HR := Lib.hid hR
  clear hR
  obtain ⟨Rb, hRb⟩ : ∃ Rb, Ra + 1 = Rb := ⟨_, rfl⟩
  rw [hRb] at x2 x3
  try rw [hRb]
  clear hRb
  obtain ⟨Rc, hRb⟩ : ∃ Rc, Rb + 1 = Rc := ⟨_, rfl⟩
  rw [hRb] at x3
  try rw [hRb]
  clear hRb
  generalize ((w.alloc (.cells #[.int .i64 2, .string t, .string s, .string h, .bool wd, .int .i64 sp, .string pa] 40)).alloc (.cells #[.bool o, .string s2, .string h2, .int .i64 p, .string pa2, .string q2] 25)).alloc (.cells #[.bool o3, .string s3, .string h3, .int .i64 p3, .string pa3, .string q3] 25) = w1 at x1 x2 x3 mB tB BB ⊢
  have xRa_w1 := x1
  have xRb_w1 := x2
  have xRc_w1 := x3
  clear x1 x2 x3
  refine (CC.out _ mB tB).mono ?_
  rintro e w2 ⟨rfl, b_⟩
  have mw2 := mB.below b_
  have tw2 := tB.below b_
  have Bw2 := BB.trans (b_.mono (Nat.le_of_lt xRa_w1.lt))
  have xRa_w2 := xRa_w1.below b_
  have xRb_w2 := xRb_w1.below b_
  have xRc_w2 := xRc_w1.below b_
  clear b_ mB tB BB xRa_w1 xRb_w1 xRc_w1
  unfold oV at *
  have dRa0 := xRa_w2.c0
  have dRa1 := xRa_w2.c1
  have dRa2 := xRa_w2.c2
  have dRa3 := xRa_w2.c3
  have dRa4 := xRa_w2.c4
  have dRa5 := xRa_w2.c5
  have dRa6 := xRa_w2.c6
  have dRb0 := xRb_w2.c0
  have dRb1 := xRb_w2.c1
  have dRb2 := xRb_w2.c2
  have dRb3 := xRb_w2.c3
  have dRb4 := xRb_w2.c4
  have dRb5 := xRb_w2.c5
  have dRc0 := xRc_w2.c0
  have dRc1 := xRc_w2.c1
  have dRc2 := xRc_w2.c2
  have dRc3 := xRc_w2.c3
  have dRc4 := xRc_w2.c4
  have dRc5 := xRc_w2.c5
  go_wp2
  clear dRa0 dRa1 dRa2 dRa3 dRa4 dRa5 dRa6 dRb0 dRb1 dRb2 dRb3 dRb4 dRb5 dRc0 dRc1 dRc2 dRc3 dRc4 dRc5
  obtain ⟨C, hC⟩ : ∃ C : World → Prop, ∀ w', C w' ↔ (SX w' Ra 2 t s h wd sp pa ∧ BX w' Rb o s2 h2 p pa2 q2 ∧ BX w' Rc o3 s3 h3 p3 pa3 q3 ∧ Below Ra w w' ∧ MaxIn w' ∧ TabIn w') := ⟨_, fun _ => Iff.rfl⟩
  have HC := Lib.hid hC
  clear hC
  have hC0 : C w2.drew := (HC.out _).2 ⟨xRa_w2, xRb_w2, xRc_w2, Bw2.drew, mw2, tw2⟩
  have HK : Hid (∀ w', C w' → ∀ w7, Below w'.heap.size w' w7 → C w7) := Lib.hid fun w' hc w7 b => by
    obtain ⟨xRa, xRb, xRc, K4, m7, t7⟩ := (HC.out w').1 hc
    exact (HC.out _).2 ⟨xRa.below b, xRb.below b, xRc.below b, K4.trans (b.mono (Nat.le_of_lt xRa.lt)), m7.below b, t7.below b⟩
  clear xRa_w2 xRb_w2 xRc_w2 Bw2 mw2 tw2
  refine region_class C (by kernel_rfl) (by kernel_rfl) hC0 ?_
  clear hC0
  repeat
    first
      | go_big_quiet_skip
      | (go_big_quiet_want; go_big_quiet_op; go_big_quiet_on)
      | (refine BigFrame.wpQuiet_want rfl (fun K hK => ?_)
         apply Exists.intro
         refine ⟨fun w' hc => ?_, hK _ ?_⟩
         · obtain ⟨xRa, xRb, xRc, K4, m7, t7⟩ := (HC.out w').1 hc
           have dRa0 := xRa.c0
           have dRa1 := xRa.c1
           have dRa2 := xRa.c2
           have dRa3 := xRa.c3
           have dRa4 := xRa.c4
           have dRa5 := xRa.c5
           have dRa6 := xRa.c6
           have dRb0 := xRb.c0
           have dRb1 := xRb.c1
           have dRb2 := xRb.c2
           have dRb3 := xRb.c3
           have dRb4 := xRb.c4
           have dRb5 := xRb.c5
           have dRc0 := xRc.c0
           have dRc1 := xRc.c1
           have dRc2 := xRc.c2
           have dRc3 := xRc.c3
           have dRc4 := xRc.c4
           have dRc5 := xRc.c5
           unfold Oper.quietAt
           go_simp
           first
             | done
             | rfl
             | ((with_reducible refine (CO1.out _ m7 t7).mono ?_); rintro e w7 ⟨rfl, b7⟩; exact ⟨rfl, HK.out w' hc w7 b7⟩)
             | ((with_reducible refine (CO2.out _ m7 t7).mono ?_); rintro e w7 ⟨rfl, b7⟩; exact ⟨rfl, HK.out w' hc w7 b7⟩)
             | ((with_reducible refine (CS.out _).mono ?_); rintro e w7 ⟨rfl, b7⟩; exact ⟨rfl, HK.out w' hc w7 b7⟩)
             | ((with_reducible refine (CN.out _ m7 t7).mono ?_); rintro e w7 ⟨rfl, b7⟩; exact ⟨rfl, HK.out w' hc w7 b7⟩)
         clear hK K
         simp only [Act.put, List.setIfInBounds_toArray, List.set_cons_zero, List.set_cons_succ])
  refine wpQuiet_nil ?_
  intro w3 hc
  obtain ⟨xRa_w3, xRb_w3, xRc_w3, Bw3, mw3, tw3⟩ := (HC.out w3).1 hc
  clear hc HC HK
  go_wp2
  go_ret
  exact ⟨rfl, by rw [HR.out]; exact Bw3⟩


set_option maxRecDepth 100000 in
set_option maxHeartbeats 8000000 in
theorem url_other (k : Int) (t s h : ByteArray) (wd : Bool) (sp : Int) (pa : ByteArray) (o : Bool) (s2 h2 : ByteArray) (p : Int) (pa2 q2 : ByteArray) (o3 : Bool) (s3 h3 : ByteArray) (p3 : Int) (pa3 q3 : ByteArray) (m : Bool) (CC : Hid (∀ W, MaxIn W → TabIn W → Calls Tryz.prog 47 #[uV o s2 h2 p pa2 q2] W fun e w' => e = .returned (.int .i64 0) ∧ Below W.heap.size W w')) (n1 : (k == 11) = false) (n2 : (k == 12) = false) (n3 : (k == 2) = false) (w : World) (hm : MaxIn w) (ht : TabIn w) : Calls Tryz.prog 34 #[srcV k t s h wd sp pa, uV o s2 h2 p pa2 q2, uV o3 s3 h3 p3 pa3 q3, .bool m] w fun e w' => e = .returned (.bool false) ∧ Below w.heap.size w w' := by
  unfold srcV uV at *
  go_enter Tryz.func34, Tryz.ntmps34
  go_wp2_with fail
  obtain ⟨x1, x2, x3, BB⟩ := urlBlocks w k t s h wd sp pa o s2 h2 p pa2 q2 o3 s3 h3 p3 pa3 q3
  have mB := ((hm.made (.cells #[.int .i64 k, .string t, .string s, .string h, .bool wd, .int .i64 sp, .string pa] 40)).made (.cells #[.bool o, .string s2, .string h2, .int .i64 p, .string pa2, .string q2] 25)).made (.cells #[.bool o3, .string s3, .string h3, .int .i64 p3, .string pa3, .string q3] 25)
  have tB := ((ht.made (.cells #[.int .i64 k, .string t, .string s, .string h, .bool wd, .int .i64 sp, .string pa] 40)).made (.cells #[.bool o, .string s2, .string h2, .int .i64 p, .string pa2, .string q2] 25)).made (.cells #[.bool o3, .string s3, .string h3, .int .i64 p3, .string pa3, .string q3] 25)
  clear hm ht
  generalize hR : w.heap.size = Ra at x1 x2 x3 BB ⊢
  have HR := Lib.hid hR
  clear hR
  obtain ⟨Rb, hRb⟩ : ∃ Rb, Ra + 1 = Rb := ⟨_, rfl⟩
  rw [hRb] at x2 x3
  try rw [hRb]
  clear hRb
  obtain ⟨Rc, hRb⟩ : ∃ Rc, Rb + 1 = Rc := ⟨_, rfl⟩
  rw [hRb] at x3
  try rw [hRb]
  clear hRb
  generalize ((w.alloc (.cells #[.int .i64 k, .string t, .string s, .string h, .bool wd, .int .i64 sp, .string pa] 40)).alloc (.cells #[.bool o, .string s2, .string h2, .int .i64 p, .string pa2, .string q2] 25)).alloc (.cells #[.bool o3, .string s3, .string h3, .int .i64 p3, .string pa3, .string q3] 25) = w1 at x1 x2 x3 mB tB BB ⊢
  have xRa_w1 := x1
  have xRb_w1 := x2
  have xRc_w1 := x3
  clear x1 x2 x3
  refine (CC.out _ mB tB).mono ?_
  rintro e w2 ⟨rfl, b_⟩
  have mw2 := mB.below b_
  have tw2 := tB.below b_
  have Bw2 := BB.trans (b_.mono (Nat.le_of_lt xRa_w1.lt))
  have xRa_w2 := xRa_w1.below b_
  have xRb_w2 := xRb_w1.below b_
  have xRc_w2 := xRc_w1.below b_
  clear b_ mB tB BB xRa_w1 xRb_w1 xRc_w1
  have dRa0 := xRa_w2.c0
  have dRa1 := xRa_w2.c1
  have dRa2 := xRa_w2.c2
  have dRa3 := xRa_w2.c3
  have dRa4 := xRa_w2.c4
  have dRa5 := xRa_w2.c5
  have dRa6 := xRa_w2.c6
  go_wp2
  clear dRa0 dRa1 dRa2 dRa3 dRa4 dRa5 dRa6
  go_ret
  exact ⟨rfl, by rw [HR.out]; exact Bw2⟩

theorem same_low (f : Nat) (a : Array Value) (r : Value) (h : Hid (∀ W, Calls Tryz.prog f a W fun e w' => e = .returned r ∧ w' = W)) : Hid (∀ W, Calls Tryz.prog f a W fun e w' => e = .returned r ∧ Below W.heap.size W w') :=
  Lib.hid fun W => (h.out W).mono fun e w' ⟨h1, h2⟩ => ⟨h1, by rw [h2]; exact Below.refl _ _⟩
theorem matUrl_any (k : Int) (t s h : ByteArray) (wd : Bool) (sp : Int) (pa : ByteArray) (o : Bool) (s2 h2 : ByteArray) (p : Int) (pa2 q2 : ByteArray) (o3 : Bool) (s3 h3 : ByteArray) (p3 : Int) (pa3 q3 : ByteArray) (m : Bool) (z1 : h.size ≤ 100000) (z2 : pa.size ≤ 100000) (u1 : s2.size ≤ 100000) (u2 : h2.size ≤ 100000) (u3 : pa2.size ≤ 100000) (u4 : q2.size ≤ 100000) (v1 : s3.size ≤ 100000) (v2 : h3.size ≤ 100000) (v3 : pa3.size ≤ 100000) (v4 : q3.size ≤ 100000) (w : World) (hm : MaxIn w) (ht : TabIn w) : Calls Tryz.prog 34 #[srcV k t s h wd sp pa, uV o s2 h2 p pa2 q2, uV o3 s3 h3 p3 pa3 q3, .bool m] w fun e w' => e = .returned (.bool (urlL (srcM k t s h wd sp pa) (uM o s2 h2 p pa2 q2) (uM o3 s3 h3 p3 pa3 q3) m)) ∧ Below w.heap.size w w' := by
  cases hr : rightM (uM o s2 h2 p pa2 q2)
  · rw [show urlL (srcM k t s h wd sp pa) (uM o s2 h2 p pa2 q2) (uM o3 s3 h3 p3 pa3 q3) m = false by unfold urlL; rw [hr]; rfl]
    exact url_wrong k t s h wd sp pa o s2 h2 p pa2 q2 o3 s3 h3 p3 pa3 q3 m (check_hid o s2 h2 p pa2 q2 50 (chk_wrong hr) u1 u2 u3 u4) w hm ht
  have CC := check_hid o s2 h2 p pa2 q2 0 (chk_right hr) u1 u2 u3 u4
  by_cases k1 : k = 11
  · subst k1
    have e : schL s.data.toList s2.data.toList = urlL (srcM 11 t s h wd sp pa) (uM o s2 h2 p pa2 q2) (uM o3 s3 h3 p3 pa3 q3) m := by unfold urlL; rw [hr]; rfl
    exact url_k11 t s h wd sp pa o s2 h2 p pa2 q2 o3 s3 h3 p3 pa3 q3 m _ CC (same_low _ _ _ (matScheme_hid s s2 _ e)) w hm ht
  by_cases k2 : k = 12
  · subst k2
    have e : letsL (srcM 12 t s h wd sp pa) (uM o s2 h2 p pa2 q2) (uM o3 s3 h3 p3 pa3 q3) m = urlL (srcM 12 t s h wd sp pa) (uM o s2 h2 p pa2 q2) (uM o3 s3 h3 p3 pa3 q3) m := by unfold urlL; rw [hr]; rfl
    exact url_k12 t s h wd sp pa o s2 h2 p pa2 q2 o3 s3 h3 p3 pa3 q3 m _ CC (letsPlace_hid 12 t s h wd sp pa o s2 h2 p pa2 q2 o3 s3 h3 p3 pa3 q3 m z1 u2 z2 _ e) w hm ht
  by_cases k3 : k = 2
  · subst k3
    have e : urlL (srcM 2 t s h wd sp pa) (uM o s2 h2 p pa2 q2) (uM o3 s3 h3 p3 pa3 q3) m = selfL (uM o s2 h2 p pa2 q2) (uM o3 s3 h3 p3 pa3 q3) := by rw [url_self _ rfl, hr]; rfl
    obtain ⟨oa, sx, hx, px, ea⟩ := om_any (originM (uM o3 s3 h3 p3 pa3 q3))
    obtain ⟨ob, sy, hy, py, eb⟩ := om_any (originM (uM o s2 h2 p pa2 q2))
    have CO1 := of_hid o3 s3 h3 p3 pa3 q3 v1 v2 v3 v4 oa sx hx px ea
    have CO2 := of_hid o s2 h2 p pa2 q2 u1 u2 u3 u4 ob sy hy py eb
    rw [e]
    unfold selfL
    rw [ea, eb]
    cases hs : sameM (oM oa sx hx px) (oM ob sy hy py)
    · rw [Bool.false_or]
      exact url_k2n t s h wd sp pa o s2 h2 p pa2 q2 o3 s3 h3 p3 pa3 q3 m _ CC oa sx hx px ob sy hy py CO1 CO2 (same_hid oa sx hx px ob sy hy py false hs) (isNear_hid o3 s3 h3 p3 pa3 q3 o s2 h2 p pa2 q2 v1 v2 v3 v4 _ rfl) w hm ht
    · exact url_k2s t s h wd sp pa o s2 h2 p pa2 q2 o3 s3 h3 p3 pa3 q3 m CC oa sx hx px ob sy hy py CO1 CO2 (same_hid oa sx hx px ob sy hy py true hs) w hm ht
  rw [show urlL (srcM k t s h wd sp pa) (uM o s2 h2 p pa2 q2) (uM o3 s3 h3 p3 pa3 q3) m = false by
    unfold urlL
    rw [hr, if_neg (show ¬ (srcM k t s h wd sp pa).k = 11 from k1), if_neg (show ¬ (srcM k t s h wd sp pa).k = 12 from k2), if_neg (show ¬ (srcM k t s h wd sp pa).k = 2 from k3)]
    rfl]
  exact url_other k t s h wd sp pa o s2 h2 p pa2 q2 o3 s3 h3 p3 pa3 q3 m CC (by rw [beq_eq_false_iff_ne]; exact k1) (by rw [beq_eq_false_iff_ne]; exact k2) (by rw [beq_eq_false_iff_ne]; exact k3) w hm ht
theorem matUrl_hid (k : Int) (t s h : ByteArray) (wd : Bool) (sp : Int) (pa : ByteArray) (o : Bool) (s2 h2 : ByteArray) (p : Int) (pa2 q2 : ByteArray) (o3 : Bool) (s3 h3 : ByteArray) (p3 : Int) (pa3 q3 : ByteArray) (m : Bool) (z1 : h.size ≤ 100000) (z2 : pa.size ≤ 100000) (u1 : s2.size ≤ 100000) (u2 : h2.size ≤ 100000) (u3 : pa2.size ≤ 100000) (u4 : q2.size ≤ 100000) (v1 : s3.size ≤ 100000) (v2 : h3.size ≤ 100000) (v3 : pa3.size ≤ 100000) (v4 : q3.size ≤ 100000) (b : Bool) (hb : urlL (srcM k t s h wd sp pa) (uM o s2 h2 p pa2 q2) (uM o3 s3 h3 p3 pa3 q3) m = b) : Hid (∀ W, Low W → Calls Tryz.prog 34 #[srcV k t s h wd sp pa, uV o s2 h2 p pa2 q2, uV o3 s3 h3 p3 pa3 q3, .bool m] W fun e w' => e = .returned (.bool b) ∧ Below W.heap.size W w') :=
  Lib.hid fun W hw => by rw [← hb]; exact matUrl_any k t s h wd sp pa o s2 h2 p pa2 q2 o3 s3 h3 p3 pa3 q3 m z1 z2 u1 u2 u3 u4 v1 v2 v3 v4 W hw.m hw.t

end Go.Proofs.YtaldjkbnngeahaaGreatDoor
