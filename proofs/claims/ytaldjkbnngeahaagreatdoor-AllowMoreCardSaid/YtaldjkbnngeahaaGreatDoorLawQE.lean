/- One source more that is no nonce, no mark and not 'strict-dynamic' takes nothing away. -/
import Derived.Test.YtaldjkbnngeahaaGreatDoorRowsQ
namespace Go.Proofs.YtaldjkbnngeahaaGreatDoor
open Go.RowKit

theorem srBlocks (w : World) (k : Int) (t s h : ByteArray) (wd : Bool) (sp : Int) (pa : ByteArray) (rk : Int) (rt : ByteArray) (o : Bool) (s2 h2 : ByteArray) (p : Int) (pa2 q2 : ByteArray) (mv : Bool) (rn : ByteArray) (pr : Bool) (o3 : Bool) (s3 h3 : ByteArray) (p3 : Int) (pa3 q3 : ByteArray) :
    SX ((w.alloc (.cells #[.int .i64 k, .string t, .string s, .string h, .bool wd, .int .i64 sp, .string pa] 40)).alloc (.cells #[.int .i64 rk, .string rt, .bool o, .string s2, .string h2, .int .i64 p, .string pa2, .string q2, .bool mv, .string rn, .bool pr, .bool o3, .string s3, .string h3, .int .i64 p3, .string pa3, .string q3] 27)) w.heap.size k t s h wd sp pa ∧ RX ((w.alloc (.cells #[.int .i64 k, .string t, .string s, .string h, .bool wd, .int .i64 sp, .string pa] 40)).alloc (.cells #[.int .i64 rk, .string rt, .bool o, .string s2, .string h2, .int .i64 p, .string pa2, .string q2, .bool mv, .string rn, .bool pr, .bool o3, .string s3, .string h3, .int .i64 p3, .string pa3, .string q3] 27)) (w.heap.size + 1) rk rt o s2 h2 p pa2 q2 mv rn pr o3 s3 h3 p3 pa3 q3 ∧ Below w.heap.size w ((w.alloc (.cells #[.int .i64 k, .string t, .string s, .string h, .bool wd, .int .i64 sp, .string pa] 40)).alloc (.cells #[.int .i64 rk, .string rt, .bool o, .string s2, .string h2, .int .i64 p, .string pa2, .string q2, .bool mv, .string rn, .bool pr, .bool o3, .string s3, .string h3, .int .i64 p3, .string pa3, .string q3] 27)) := by
  refine ⟨?_, ?_, ?_⟩
  · unfold SX
    rw [heap_new, heap_at] <;> simp
  · unfold RX
    rw [heap_at]
    simp
  · exact ((Below.refl w.heap.size w).alloc (Nat.le_refl _) _).alloc (by simp) _

set_option maxRecDepth 100000 in
set_option maxHeartbeats 8000000 in
theorem more_nine (L : List Src) (v : Value) (hl0 : L.length ≤ 9223372036854775807) (k : Int) (t s h : ByteArray) (wd : Bool) (sp : Int) (pa : ByteArray) (rk : Int) (rt : ByteArray) (o : Bool) (s2 h2 : ByteArray) (p : Int) (pa2 q2 : ByteArray) (mv : Bool) (rn : ByteArray) (pr : Bool) (o3 : Bool) (s3 h3 : ByteArray) (p3 : Int) (pa3 q3 : ByteArray) (n9 : (k == 9) = true) (w : World) (hw : Low w) (hv : SrcsIn w v L) : Calls Tryz.prog 7 #[v, srcV k t s h wd sp pa, reqV rk rt o s2 h2 p pa2 q2 mv rn pr o3 s3 h3 p3 pa3 q3] w fun e w' => e = .returned (.bool true) ∧ Below w.heap.size w w' := by
  have AR := allows_hid
  have LG := large11_hid L v hl0 rk rt o s2 h2 p pa2 q2 mv rn pr o3 s3 h3 p3 pa3 q3
  unfold reqV srcV at *
  go_enter Tryz.func7, Tryz.ntmps7
  go_wp2_with fail
  obtain ⟨x1, x2, BB⟩ := srBlocks w k t s h wd sp pa rk rt o s2 h2 p pa2 q2 mv rn pr o3 s3 h3 p3 pa3 q3
  have gB := ((hw.made (.cells #[.int .i64 k, .string t, .string s, .string h, .bool wd, .int .i64 sp, .string pa] 40)).made (.cells #[.int .i64 rk, .string rt, .bool o, .string s2, .string h2, .int .i64 p, .string pa2, .string q2, .bool mv, .string rn, .bool pr, .bool o3, .string s3, .string h3, .int .i64 p3, .string pa3, .string q3] 27))
  have lB := ((hv.made (.cells #[.int .i64 k, .string t, .string s, .string h, .bool wd, .int .i64 sp, .string pa] 40)).made (.cells #[.int .i64 rk, .string rt, .bool o, .string s2, .string h2, .int .i64 p, .string pa2, .string q2, .bool mv, .string rn, .bool pr, .bool o3, .string s3, .string h3, .int .i64 p3, .string pa3, .string q3] 27))
  clear hw hv
  generalize hR : w.heap.size = Ra at x1 x2 BB ⊢
  have HR := Lib.hid hR
  clear hR
  obtain ⟨Rb, hRb⟩ : ∃ Rb, Ra + 1 = Rb := ⟨_, rfl⟩
  rw [hRb] at x2
  try rw [hRb]
  clear hRb
  generalize (w.alloc (.cells #[.int .i64 k, .string t, .string s, .string h, .bool wd, .int .i64 sp, .string pa] 40)).alloc (.cells #[.int .i64 rk, .string rt, .bool o, .string s2, .string h2, .int .i64 p, .string pa2, .string q2, .bool mv, .string rn, .bool pr, .bool o3, .string s3, .string h3, .int .i64 p3, .string pa3, .string q3] 27) = w1 at x1 x2 gB lB BB ⊢
  have xRa_w1 := x1
  have xRb_w1 := x2
  clear x1 x2
  refine (LG.out _ lB).mono ?_
  rintro e w2 ⟨b0, rfl, b_, hz⟩
  have gw2 := gB.below b_
  have lw2 := lB.below b_
  have Bw2 := BB.trans (b_.mono (Nat.le_of_lt xRa_w1.lt))
  have xRa_w2 := xRa_w1.below b_
  have xRb_w2 := xRb_w1.below b_
  clear b_ gB lB BB xRa_w1 xRb_w1
  generalize Value.agg #[.int .i64 rk, .string rt, .bool o, .string s2, .string h2, .int .i64 p, .string pa2, .string q2, .bool mv, .string rn, .bool pr, .bool o3, .string s3, .string h3, .int .i64 p3, .string pa3, .string q3] = rq
  have HZ := Lib.hid hz
  clear hz
  cases b0
  case true =>
    go_wp2_with fail
    refine (AR.out _ gw2).mono ?_
    rintro e w3 ⟨rfl, b_⟩
    have gw3 := gw2.below b_
    have lw3 := lw2.below b_
    have Bw3 := Bw2.trans (b_.mono (Nat.le_of_lt xRa_w2.lt))
    have xRa_w3 := xRa_w2.below b_
    have xRb_w3 := xRb_w2.below b_
    clear b_ gw2 lw2 Bw2 xRa_w2 xRb_w2
    go_wp2
    go_ret
    exact ⟨rfl, by rw [HR.out]; exact Bw3⟩
  obtain ⟨FL, z1, z2, ⟨c1, c2, c3, c4⟩, ⟨e1, e2, e3, e4⟩⟩ := HZ.out rfl
  have hl : L.length ≤ 1000000 := by have := FL.1; omega
  clear HZ
  clear LG
  have dRa0 := xRa_w2.c0
  have dRa1 := xRa_w2.c1
  have dRa2 := xRa_w2.c2
  have dRa3 := xRa_w2.c3
  have dRa4 := xRa_w2.c4
  have dRa5 := xRa_w2.c5
  have dRa6 := xRa_w2.c6
  go_wp2_with fail
  clear dRa0 dRa1 dRa2 dRa3 dRa4 dRa5 dRa6
  have al : Below w2.heap.size w2 (w2.alloc (.cells #[.int .i64 k, .string t, .string s, .string h, .bool wd, .int .i64 sp, .string pa] 40)) := (Below.refl _ _).alloc (Nat.le_refl _) _
  have hin : SrcsIn (w2.alloc (.cells #[.int .i64 k, .string t, .string s, .string h, .bool wd, .int .i64 sp, .string pa] 40)) (.slice (some ⟨w2.heap.size, 0, none⟩) 1 1) [srcM k t s h wd sp pa] := (SX.made w2 k t s h wd sp pa).row
  refine (refBig9_any [srcM k t s h wd sp pa] _ _ hin (by simp)).mono ?_
  rintro e w9 ⟨b1, rfl, rfl, hz⟩
  have HZ := Lib.hid hz
  clear hz hin
  have xRa_w9 := xRa_w2.below al
  have xRb_w9 := xRb_w2.below al
  have gw9 := gw2.below al
  have lw9 := lw2.below al
  have Bw9 := Bw2.trans (al.mono (Nat.le_of_lt xRa_w2.lt))
  generalize w2.alloc (.cells #[.int .i64 k, .string t, .string s, .string h, .bool wd, .int .i64 sp, .string pa] 40) = w9 at xRa_w9 xRb_w9 gw9 lw9 Bw9 ⊢
  clear al xRa_w2 xRb_w2 gw2 lw2 Bw2
  cases b1
  case true =>
    go_wp2_with fail
    refine (AR.out _ gw9).mono ?_
    rintro e w10 ⟨rfl, b_⟩
    have gw10 := gw9.below b_
    have lw10 := lw9.below b_
    have Bw10 := Bw9.trans (b_.mono (Nat.le_of_lt xRa_w9.lt))
    have xRa_w10 := xRa_w9.below b_
    have xRb_w10 := xRb_w9.below b_
    clear b_ gw9 lw9 Bw9 xRa_w9 xRb_w9
    go_wp2
    go_ret
    exact ⟨rfl, by rw [HR.out]; exact Bw10⟩
  clear HZ FL z1 z2 c1 c2 c3 c4 e1 e2 e3 e4 hl
  have dRa0 := xRa_w9.c0
  have dRa1 := xRa_w9.c1
  have dRa2 := xRa_w9.c2
  have dRa3 := xRa_w9.c3
  have dRa4 := xRa_w9.c4
  have dRa5 := xRa_w9.c5
  have dRa6 := xRa_w9.c6
  go_wp2_with fail
  clear dRa0 dRa1 dRa2 dRa3 dRa4 dRa5 dRa6
  refine (AR.out _ gw9).mono ?_
  rintro e w10 ⟨rfl, b_⟩
  have gw10 := gw9.below b_
  have lw10 := lw9.below b_
  have Bw10 := Bw9.trans (b_.mono (Nat.le_of_lt xRa_w9.lt))
  have xRa_w10 := xRa_w9.below b_
  have xRb_w10 := xRb_w9.below b_
  clear b_ gw9 lw9 Bw9 xRa_w9 xRb_w9
  go_wp2
  go_ret
  exact ⟨rfl, by rw [HR.out]; exact Bw10⟩

set_option maxRecDepth 100000 in
set_option maxHeartbeats 8000000 in
theorem more_ten (L : List Src) (v : Value) (hl0 : L.length ≤ 9223372036854775807) (k : Int) (t s h : ByteArray) (wd : Bool) (sp : Int) (pa : ByteArray) (rk : Int) (rt : ByteArray) (o : Bool) (s2 h2 : ByteArray) (p : Int) (pa2 q2 : ByteArray) (mv : Bool) (rn : ByteArray) (pr : Bool) (o3 : Bool) (s3 h3 : ByteArray) (p3 : Int) (pa3 q3 : ByteArray) (n9 : (k == 9) = false) (n10 : (k == 10) = true) (w : World) (hw : Low w) (hv : SrcsIn w v L) : Calls Tryz.prog 7 #[v, srcV k t s h wd sp pa, reqV rk rt o s2 h2 p pa2 q2 mv rn pr o3 s3 h3 p3 pa3 q3] w fun e w' => e = .returned (.bool true) ∧ Below w.heap.size w w' := by
  have AR := allows_hid
  have LG := large11_hid L v hl0 rk rt o s2 h2 p pa2 q2 mv rn pr o3 s3 h3 p3 pa3 q3
  unfold reqV srcV at *
  go_enter Tryz.func7, Tryz.ntmps7
  go_wp2_with fail
  obtain ⟨x1, x2, BB⟩ := srBlocks w k t s h wd sp pa rk rt o s2 h2 p pa2 q2 mv rn pr o3 s3 h3 p3 pa3 q3
  have gB := ((hw.made (.cells #[.int .i64 k, .string t, .string s, .string h, .bool wd, .int .i64 sp, .string pa] 40)).made (.cells #[.int .i64 rk, .string rt, .bool o, .string s2, .string h2, .int .i64 p, .string pa2, .string q2, .bool mv, .string rn, .bool pr, .bool o3, .string s3, .string h3, .int .i64 p3, .string pa3, .string q3] 27))
  have lB := ((hv.made (.cells #[.int .i64 k, .string t, .string s, .string h, .bool wd, .int .i64 sp, .string pa] 40)).made (.cells #[.int .i64 rk, .string rt, .bool o, .string s2, .string h2, .int .i64 p, .string pa2, .string q2, .bool mv, .string rn, .bool pr, .bool o3, .string s3, .string h3, .int .i64 p3, .string pa3, .string q3] 27))
  clear hw hv
  generalize hR : w.heap.size = Ra at x1 x2 BB ⊢
  have HR := Lib.hid hR
  clear hR
  obtain ⟨Rb, hRb⟩ : ∃ Rb, Ra + 1 = Rb := ⟨_, rfl⟩
  rw [hRb] at x2
  try rw [hRb]
  clear hRb
  generalize (w.alloc (.cells #[.int .i64 k, .string t, .string s, .string h, .bool wd, .int .i64 sp, .string pa] 40)).alloc (.cells #[.int .i64 rk, .string rt, .bool o, .string s2, .string h2, .int .i64 p, .string pa2, .string q2, .bool mv, .string rn, .bool pr, .bool o3, .string s3, .string h3, .int .i64 p3, .string pa3, .string q3] 27) = w1 at x1 x2 gB lB BB ⊢
  have xRa_w1 := x1
  have xRb_w1 := x2
  clear x1 x2
  refine (LG.out _ lB).mono ?_
  rintro e w2 ⟨b0, rfl, b_, hz⟩
  have gw2 := gB.below b_
  have lw2 := lB.below b_
  have Bw2 := BB.trans (b_.mono (Nat.le_of_lt xRa_w1.lt))
  have xRa_w2 := xRa_w1.below b_
  have xRb_w2 := xRb_w1.below b_
  clear b_ gB lB BB xRa_w1 xRb_w1
  generalize Value.agg #[.int .i64 rk, .string rt, .bool o, .string s2, .string h2, .int .i64 p, .string pa2, .string q2, .bool mv, .string rn, .bool pr, .bool o3, .string s3, .string h3, .int .i64 p3, .string pa3, .string q3] = rq
  have HZ := Lib.hid hz
  clear hz
  cases b0
  case true =>
    go_wp2_with fail
    refine (AR.out _ gw2).mono ?_
    rintro e w3 ⟨rfl, b_⟩
    have gw3 := gw2.below b_
    have lw3 := lw2.below b_
    have Bw3 := Bw2.trans (b_.mono (Nat.le_of_lt xRa_w2.lt))
    have xRa_w3 := xRa_w2.below b_
    have xRb_w3 := xRb_w2.below b_
    clear b_ gw2 lw2 Bw2 xRa_w2 xRb_w2
    go_wp2
    go_ret
    exact ⟨rfl, by rw [HR.out]; exact Bw3⟩
  obtain ⟨FL, z1, z2, ⟨c1, c2, c3, c4⟩, ⟨e1, e2, e3, e4⟩⟩ := HZ.out rfl
  have hl : L.length ≤ 1000000 := by have := FL.1; omega
  clear HZ
  clear LG
  have dRa0 := xRa_w2.c0
  have dRa1 := xRa_w2.c1
  have dRa2 := xRa_w2.c2
  have dRa3 := xRa_w2.c3
  have dRa4 := xRa_w2.c4
  have dRa5 := xRa_w2.c5
  have dRa6 := xRa_w2.c6
  go_wp2_with fail
  clear dRa0 dRa1 dRa2 dRa3 dRa4 dRa5 dRa6
  have al : Below w2.heap.size w2 (w2.alloc (.cells #[.int .i64 k, .string t, .string s, .string h, .bool wd, .int .i64 sp, .string pa] 40)) := (Below.refl _ _).alloc (Nat.le_refl _) _
  have hin : SrcsIn (w2.alloc (.cells #[.int .i64 k, .string t, .string s, .string h, .bool wd, .int .i64 sp, .string pa] 40)) (.slice (some ⟨w2.heap.size, 0, none⟩) 1 1) [srcM k t s h wd sp pa] := (SX.made w2 k t s h wd sp pa).row
  refine (refBig9_any [srcM k t s h wd sp pa] _ _ hin (by simp)).mono ?_
  rintro e w9 ⟨b1, rfl, rfl, hz⟩
  have HZ := Lib.hid hz
  clear hz hin
  have xRa_w9 := xRa_w2.below al
  have xRb_w9 := xRb_w2.below al
  have gw9 := gw2.below al
  have lw9 := lw2.below al
  have Bw9 := Bw2.trans (al.mono (Nat.le_of_lt xRa_w2.lt))
  generalize w2.alloc (.cells #[.int .i64 k, .string t, .string s, .string h, .bool wd, .int .i64 sp, .string pa] 40) = w9 at xRa_w9 xRb_w9 gw9 lw9 Bw9 ⊢
  clear al xRa_w2 xRb_w2 gw2 lw2 Bw2
  cases b1
  case true =>
    go_wp2_with fail
    refine (AR.out _ gw9).mono ?_
    rintro e w10 ⟨rfl, b_⟩
    have gw10 := gw9.below b_
    have lw10 := lw9.below b_
    have Bw10 := Bw9.trans (b_.mono (Nat.le_of_lt xRa_w9.lt))
    have xRa_w10 := xRa_w9.below b_
    have xRb_w10 := xRb_w9.below b_
    clear b_ gw9 lw9 Bw9 xRa_w9 xRb_w9
    go_wp2
    go_ret
    exact ⟨rfl, by rw [HR.out]; exact Bw10⟩
  clear HZ FL z1 z2 c1 c2 c3 c4 e1 e2 e3 e4 hl
  have dRa0 := xRa_w9.c0
  have dRa1 := xRa_w9.c1
  have dRa2 := xRa_w9.c2
  have dRa3 := xRa_w9.c3
  have dRa4 := xRa_w9.c4
  have dRa5 := xRa_w9.c5
  have dRa6 := xRa_w9.c6
  go_wp2_with fail
  clear dRa0 dRa1 dRa2 dRa3 dRa4 dRa5 dRa6
  refine (AR.out _ gw9).mono ?_
  rintro e w10 ⟨rfl, b_⟩
  have gw10 := gw9.below b_
  have lw10 := lw9.below b_
  have Bw10 := Bw9.trans (b_.mono (Nat.le_of_lt xRa_w9.lt))
  have xRa_w10 := xRa_w9.below b_
  have xRb_w10 := xRb_w9.below b_
  clear b_ gw9 lw9 Bw9 xRa_w9 xRb_w9
  go_wp2
  go_ret
  exact ⟨rfl, by rw [HR.out]; exact Bw10⟩

set_option maxRecDepth 100000 in
set_option maxHeartbeats 8000000 in
theorem more_six (L : List Src) (v : Value) (hl0 : L.length ≤ 9223372036854775807) (k : Int) (t s h : ByteArray) (wd : Bool) (sp : Int) (pa : ByteArray) (rk : Int) (rt : ByteArray) (o : Bool) (s2 h2 : ByteArray) (p : Int) (pa2 q2 : ByteArray) (mv : Bool) (rn : ByteArray) (pr : Bool) (o3 : Bool) (s3 h3 : ByteArray) (p3 : Int) (pa3 q3 : ByteArray) (n9 : (k == 9) = false) (n10 : (k == 10) = false) (n6 : (k == 6) = true) (w : World) (hw : Low w) (hv : SrcsIn w v L) : Calls Tryz.prog 7 #[v, srcV k t s h wd sp pa, reqV rk rt o s2 h2 p pa2 q2 mv rn pr o3 s3 h3 p3 pa3 q3] w fun e w' => e = .returned (.bool true) ∧ Below w.heap.size w w' := by
  have AR := allows_hid
  have LG := large11_hid L v hl0 rk rt o s2 h2 p pa2 q2 mv rn pr o3 s3 h3 p3 pa3 q3
  unfold reqV srcV at *
  go_enter Tryz.func7, Tryz.ntmps7
  go_wp2_with fail
  obtain ⟨x1, x2, BB⟩ := srBlocks w k t s h wd sp pa rk rt o s2 h2 p pa2 q2 mv rn pr o3 s3 h3 p3 pa3 q3
  have gB := ((hw.made (.cells #[.int .i64 k, .string t, .string s, .string h, .bool wd, .int .i64 sp, .string pa] 40)).made (.cells #[.int .i64 rk, .string rt, .bool o, .string s2, .string h2, .int .i64 p, .string pa2, .string q2, .bool mv, .string rn, .bool pr, .bool o3, .string s3, .string h3, .int .i64 p3, .string pa3, .string q3] 27))
  have lB := ((hv.made (.cells #[.int .i64 k, .string t, .string s, .string h, .bool wd, .int .i64 sp, .string pa] 40)).made (.cells #[.int .i64 rk, .string rt, .bool o, .string s2, .string h2, .int .i64 p, .string pa2, .string q2, .bool mv, .string rn, .bool pr, .bool o3, .string s3, .string h3, .int .i64 p3, .string pa3, .string q3] 27))
  clear hw hv
  generalize hR : w.heap.size = Ra at x1 x2 BB ⊢
  have HR := Lib.hid hR
  clear hR
  obtain ⟨Rb, hRb⟩ : ∃ Rb, Ra + 1 = Rb := ⟨_, rfl⟩
  rw [hRb] at x2
  try rw [hRb]
  clear hRb
  generalize (w.alloc (.cells #[.int .i64 k, .string t, .string s, .string h, .bool wd, .int .i64 sp, .string pa] 40)).alloc (.cells #[.int .i64 rk, .string rt, .bool o, .string s2, .string h2, .int .i64 p, .string pa2, .string q2, .bool mv, .string rn, .bool pr, .bool o3, .string s3, .string h3, .int .i64 p3, .string pa3, .string q3] 27) = w1 at x1 x2 gB lB BB ⊢
  have xRa_w1 := x1
  have xRb_w1 := x2
  clear x1 x2
  refine (LG.out _ lB).mono ?_
  rintro e w2 ⟨b0, rfl, b_, hz⟩
  have gw2 := gB.below b_
  have lw2 := lB.below b_
  have Bw2 := BB.trans (b_.mono (Nat.le_of_lt xRa_w1.lt))
  have xRa_w2 := xRa_w1.below b_
  have xRb_w2 := xRb_w1.below b_
  clear b_ gB lB BB xRa_w1 xRb_w1
  generalize Value.agg #[.int .i64 rk, .string rt, .bool o, .string s2, .string h2, .int .i64 p, .string pa2, .string q2, .bool mv, .string rn, .bool pr, .bool o3, .string s3, .string h3, .int .i64 p3, .string pa3, .string q3] = rq
  have HZ := Lib.hid hz
  clear hz
  cases b0
  case true =>
    go_wp2_with fail
    refine (AR.out _ gw2).mono ?_
    rintro e w3 ⟨rfl, b_⟩
    have gw3 := gw2.below b_
    have lw3 := lw2.below b_
    have Bw3 := Bw2.trans (b_.mono (Nat.le_of_lt xRa_w2.lt))
    have xRa_w3 := xRa_w2.below b_
    have xRb_w3 := xRb_w2.below b_
    clear b_ gw2 lw2 Bw2 xRa_w2 xRb_w2
    go_wp2
    go_ret
    exact ⟨rfl, by rw [HR.out]; exact Bw3⟩
  obtain ⟨FL, z1, z2, ⟨c1, c2, c3, c4⟩, ⟨e1, e2, e3, e4⟩⟩ := HZ.out rfl
  have hl : L.length ≤ 1000000 := by have := FL.1; omega
  clear HZ
  clear LG
  have dRa0 := xRa_w2.c0
  have dRa1 := xRa_w2.c1
  have dRa2 := xRa_w2.c2
  have dRa3 := xRa_w2.c3
  have dRa4 := xRa_w2.c4
  have dRa5 := xRa_w2.c5
  have dRa6 := xRa_w2.c6
  go_wp2_with fail
  clear dRa0 dRa1 dRa2 dRa3 dRa4 dRa5 dRa6
  have al : Below w2.heap.size w2 (w2.alloc (.cells #[.int .i64 k, .string t, .string s, .string h, .bool wd, .int .i64 sp, .string pa] 40)) := (Below.refl _ _).alloc (Nat.le_refl _) _
  have hin : SrcsIn (w2.alloc (.cells #[.int .i64 k, .string t, .string s, .string h, .bool wd, .int .i64 sp, .string pa] 40)) (.slice (some ⟨w2.heap.size, 0, none⟩) 1 1) [srcM k t s h wd sp pa] := (SX.made w2 k t s h wd sp pa).row
  refine (refBig9_any [srcM k t s h wd sp pa] _ _ hin (by simp)).mono ?_
  rintro e w9 ⟨b1, rfl, rfl, hz⟩
  have HZ := Lib.hid hz
  clear hz hin
  have xRa_w9 := xRa_w2.below al
  have xRb_w9 := xRb_w2.below al
  have gw9 := gw2.below al
  have lw9 := lw2.below al
  have Bw9 := Bw2.trans (al.mono (Nat.le_of_lt xRa_w2.lt))
  generalize w2.alloc (.cells #[.int .i64 k, .string t, .string s, .string h, .bool wd, .int .i64 sp, .string pa] 40) = w9 at xRa_w9 xRb_w9 gw9 lw9 Bw9 ⊢
  clear al xRa_w2 xRb_w2 gw2 lw2 Bw2
  cases b1
  case true =>
    go_wp2_with fail
    refine (AR.out _ gw9).mono ?_
    rintro e w10 ⟨rfl, b_⟩
    have gw10 := gw9.below b_
    have lw10 := lw9.below b_
    have Bw10 := Bw9.trans (b_.mono (Nat.le_of_lt xRa_w9.lt))
    have xRa_w10 := xRa_w9.below b_
    have xRb_w10 := xRb_w9.below b_
    clear b_ gw9 lw9 Bw9 xRa_w9 xRb_w9
    go_wp2
    go_ret
    exact ⟨rfl, by rw [HR.out]; exact Bw10⟩
  clear HZ FL z1 z2 c1 c2 c3 c4 e1 e2 e3 e4 hl
  have dRa0 := xRa_w9.c0
  have dRa1 := xRa_w9.c1
  have dRa2 := xRa_w9.c2
  have dRa3 := xRa_w9.c3
  have dRa4 := xRa_w9.c4
  have dRa5 := xRa_w9.c5
  have dRa6 := xRa_w9.c6
  go_wp2_with fail
  clear dRa0 dRa1 dRa2 dRa3 dRa4 dRa5 dRa6
  refine (AR.out _ gw9).mono ?_
  rintro e w10 ⟨rfl, b_⟩
  have gw10 := gw9.below b_
  have lw10 := lw9.below b_
  have Bw10 := Bw9.trans (b_.mono (Nat.le_of_lt xRa_w9.lt))
  have xRa_w10 := xRa_w9.below b_
  have xRb_w10 := xRb_w9.below b_
  clear b_ gw9 lw9 Bw9 xRa_w9 xRb_w9
  go_wp2
  go_ret
  exact ⟨rfl, by rw [HR.out]; exact Bw10⟩

set_option maxRecDepth 100000 in
set_option maxHeartbeats 8000000 in
theorem more_is (L : List Src) (v : Value) (hl0 : L.length ≤ 9223372036854775807) (k : Int) (t s h : ByteArray) (wd : Bool) (sp : Int) (pa : ByteArray) (rk : Int) (rt : ByteArray) (o : Bool) (s2 h2 : ByteArray) (p : Int) (pa2 q2 : ByteArray) (mv : Bool) (rn : ByteArray) (pr : Bool) (o3 : Bool) (s3 h3 : ByteArray) (p3 : Int) (pa3 q3 : ByteArray) (n9 : (k == 9) = false) (n10 : (k == 10) = false) (n6 : (k == 6) = false) (w : World) (hw : Low w) (hv : SrcsIn w v L) : Calls Tryz.prog 7 #[v, srcV k t s h wd sp pa, reqV rk rt o s2 h2 p pa2 q2 mv rn pr o3 s3 h3 p3 pa3 q3] w fun e w' => e = .returned (.bool true) ∧ Below w.heap.size w w' := by
  have AR := allows_hid
  have LG := large11_hid L v hl0 rk rt o s2 h2 p pa2 q2 mv rn pr o3 s3 h3 p3 pa3 q3
  unfold reqV srcV at *
  go_enter Tryz.func7, Tryz.ntmps7
  go_wp2_with fail
  obtain ⟨x1, x2, BB⟩ := srBlocks w k t s h wd sp pa rk rt o s2 h2 p pa2 q2 mv rn pr o3 s3 h3 p3 pa3 q3
  have gB := ((hw.made (.cells #[.int .i64 k, .string t, .string s, .string h, .bool wd, .int .i64 sp, .string pa] 40)).made (.cells #[.int .i64 rk, .string rt, .bool o, .string s2, .string h2, .int .i64 p, .string pa2, .string q2, .bool mv, .string rn, .bool pr, .bool o3, .string s3, .string h3, .int .i64 p3, .string pa3, .string q3] 27))
  have lB := ((hv.made (.cells #[.int .i64 k, .string t, .string s, .string h, .bool wd, .int .i64 sp, .string pa] 40)).made (.cells #[.int .i64 rk, .string rt, .bool o, .string s2, .string h2, .int .i64 p, .string pa2, .string q2, .bool mv, .string rn, .bool pr, .bool o3, .string s3, .string h3, .int .i64 p3, .string pa3, .string q3] 27))
  clear hw hv
  generalize hR : w.heap.size = Ra at x1 x2 BB ⊢
  have HR := Lib.hid hR
  clear hR
  obtain ⟨Rb, hRb⟩ : ∃ Rb, Ra + 1 = Rb := ⟨_, rfl⟩
  rw [hRb] at x2
  try rw [hRb]
  clear hRb
  generalize (w.alloc (.cells #[.int .i64 k, .string t, .string s, .string h, .bool wd, .int .i64 sp, .string pa] 40)).alloc (.cells #[.int .i64 rk, .string rt, .bool o, .string s2, .string h2, .int .i64 p, .string pa2, .string q2, .bool mv, .string rn, .bool pr, .bool o3, .string s3, .string h3, .int .i64 p3, .string pa3, .string q3] 27) = w1 at x1 x2 gB lB BB ⊢
  have xRa_w1 := x1
  have xRb_w1 := x2
  clear x1 x2
  refine (LG.out _ lB).mono ?_
  rintro e w2 ⟨b0, rfl, b_, hz⟩
  have gw2 := gB.below b_
  have lw2 := lB.below b_
  have Bw2 := BB.trans (b_.mono (Nat.le_of_lt xRa_w1.lt))
  have xRa_w2 := xRa_w1.below b_
  have xRb_w2 := xRb_w1.below b_
  clear b_ gB lB BB xRa_w1 xRb_w1
  generalize Value.agg #[.int .i64 rk, .string rt, .bool o, .string s2, .string h2, .int .i64 p, .string pa2, .string q2, .bool mv, .string rn, .bool pr, .bool o3, .string s3, .string h3, .int .i64 p3, .string pa3, .string q3] = rq
  have HZ := Lib.hid hz
  clear hz
  cases b0
  case true =>
    go_wp2_with fail
    refine (AR.out _ gw2).mono ?_
    rintro e w3 ⟨rfl, b_⟩
    have gw3 := gw2.below b_
    have lw3 := lw2.below b_
    have Bw3 := Bw2.trans (b_.mono (Nat.le_of_lt xRa_w2.lt))
    have xRa_w3 := xRa_w2.below b_
    have xRb_w3 := xRb_w2.below b_
    clear b_ gw2 lw2 Bw2 xRa_w2 xRb_w2
    go_wp2
    go_ret
    exact ⟨rfl, by rw [HR.out]; exact Bw3⟩
  obtain ⟨FL, z1, z2, ⟨c1, c2, c3, c4⟩, ⟨e1, e2, e3, e4⟩⟩ := HZ.out rfl
  have hl : L.length ≤ 1000000 := by have := FL.1; omega
  clear HZ
  clear LG
  have dRa0 := xRa_w2.c0
  have dRa1 := xRa_w2.c1
  have dRa2 := xRa_w2.c2
  have dRa3 := xRa_w2.c3
  have dRa4 := xRa_w2.c4
  have dRa5 := xRa_w2.c5
  have dRa6 := xRa_w2.c6
  go_wp2_with fail
  clear dRa0 dRa1 dRa2 dRa3 dRa4 dRa5 dRa6
  have al : Below w2.heap.size w2 (w2.alloc (.cells #[.int .i64 k, .string t, .string s, .string h, .bool wd, .int .i64 sp, .string pa] 40)) := (Below.refl _ _).alloc (Nat.le_refl _) _
  have hin : SrcsIn (w2.alloc (.cells #[.int .i64 k, .string t, .string s, .string h, .bool wd, .int .i64 sp, .string pa] 40)) (.slice (some ⟨w2.heap.size, 0, none⟩) 1 1) [srcM k t s h wd sp pa] := (SX.made w2 k t s h wd sp pa).row
  refine (refBig9_any [srcM k t s h wd sp pa] _ _ hin (by simp)).mono ?_
  rintro e w9 ⟨b1, rfl, rfl, hz⟩
  have HZ := Lib.hid hz
  clear hz hin
  have xRa_w9 := xRa_w2.below al
  have xRb_w9 := xRb_w2.below al
  have gw9 := gw2.below al
  have lw9 := lw2.below al
  have Bw9 := Bw2.trans (al.mono (Nat.le_of_lt xRa_w2.lt))
  generalize w2.alloc (.cells #[.int .i64 k, .string t, .string s, .string h, .bool wd, .int .i64 sp, .string pa] 40) = w9 at xRa_w9 xRb_w9 gw9 lw9 Bw9 ⊢
  clear al xRa_w2 xRb_w2 gw2 lw2 Bw2
  cases b1
  case true =>
    go_wp2_with fail
    refine (AR.out _ gw9).mono ?_
    rintro e w10 ⟨rfl, b_⟩
    have gw10 := gw9.below b_
    have lw10 := lw9.below b_
    have Bw10 := Bw9.trans (b_.mono (Nat.le_of_lt xRa_w9.lt))
    have xRa_w10 := xRa_w9.below b_
    have xRb_w10 := xRb_w9.below b_
    clear b_ gw9 lw9 Bw9 xRa_w9 xRb_w9
    go_wp2
    go_ret
    exact ⟨rfl, by rw [HR.out]; exact Bw10⟩
  have hS := (HZ.out rfl).2 _ (List.mem_singleton.2 rfl)
  unfold SmallS srcM at hS
  simp only [lsize] at hS
  clear HZ
  have OW := own_hid L v hl
  have dRa0 := xRa_w9.c0
  have dRa1 := xRa_w9.c1
  have dRa2 := xRa_w9.c2
  have dRa3 := xRa_w9.c3
  have dRa4 := xRa_w9.c4
  have dRa5 := xRa_w9.c5
  have dRa6 := xRa_w9.c6
  go_wp2_with fail
  clear dRa0 dRa1 dRa2 dRa3 dRa4 dRa5 dRa6
  have HG9 := Lib.hid gw9
  have HL9 := Lib.hid lw9
  have HX9 := Lib.hid xRb_w9
  have HB9 := Lib.hid (And.intro Bw9 (Nat.le_of_lt xRa_w9.lt))
  refine (OW.out _ lw9).mono ?_
  rintro e w10 ⟨v2, rfl, _, own2, b_⟩
  have BW := b_
  have gw10 := gw9.below b_
  have lw10 := lw9.below b_
  have Bw10 := Bw9.trans (b_.mono (Nat.le_of_lt xRa_w9.lt))
  have xRa_w10 := xRa_w9.below b_
  have xRb_w10 := xRb_w9.below b_
  clear b_ gw9 lw9 Bw9 xRa_w9 xRb_w9
  clear OW
  have dRa0 := xRa_w10.c0
  have dRa1 := xRa_w10.c1
  have dRa2 := xRa_w10.c2
  have dRa3 := xRa_w10.c3
  have dRa4 := xRa_w10.c4
  have dRa5 := xRa_w10.c5
  have dRa6 := xRa_w10.c6
  have HO := Lib.hid own2
  have HIN : Hid (SrcsIn (w10.alloc (.cells #[.int .i64 k, .string t, .string s, .string h, .bool wd, .int .i64 sp, .string pa] 40)) (.slice (some ⟨w10.heap.size, 0, none⟩) 1 1) [srcM k t s h wd sp pa]) := Lib.hid (SX.made w10 k t s h wd sp pa).row
  have HB0 := Lib.hid (Below.refl w10.heap.size w10)
  have hbs : w9.heap.size ≤ w10.heap.size := BW.size
  have H50 := Lib.hid FL.1
  have hsz := size_allocS w10 (.cells #[.int .i64 k, .string t, .string s, .string h, .bool wd, .int .i64 sp, .string pa] 40)
  clear own2
  go_wp2_with (at_builtin; refine wpList_append_src rfl _ _ rfl w9.heap.size _ L.length _ rfl (HO.out.alloc (.cells #[.int .i64 k, .string t, .string s, .string h, .bool wd, .int .i64 sp, .string pa] 40)) _ [srcM k t s h wd sp pa] rfl HIN.out (by have := H50.out; rw [List.length_singleton]; omega) (by omega) ?_; intro v3 w3q hown3 hgr3
               have Y3 : AsideM (w3q.ownsRow w9.heap.size 40 7 v3 (L.length + 1) (srcCs L ++ srcCs [srcM k t s h wd sp pa]) ∧ Below w9.heap.size w9 w3q) := ⟨hown3, Below.grown (BW.alloc BW.size (.cells #[.int .i64 k, .string t, .string s, .string h, .bool wd, .int .i64 sp, .string pa] 40)) hgr3 (by omega) (fun k hk => (HO.out.lt _ hk).1)⟩
               clear hown3 hgr3
               have XB := HX9.out.below Y3.out.2
               have dRb0 := XB.c0
               have dRb1 := XB.c1
               have dRb2 := XB.c2
               have dRb3 := XB.c3
               have dRb4 := XB.c4
               have dRb5 := XB.c5
               have dRb6 := XB.c6
               have dRb7 := XB.c7
               have dRb8 := XB.c8
               have dRb9 := XB.c9
               have dRb10 := XB.c10
               have dRb11 := XB.c11
               have dRb12 := XB.c12
               have dRb13 := XB.c13
               have dRb14 := XB.c14
               have dRb15 := XB.c15
               have dRb16 := XB.c16
               clear XB)
  clear dRa0 dRa1 dRa2 dRa3 dRa4 dRa5 dRa6
  have j3 : SrcsIn w3q v3 (L ++ [srcM k t s h wd sp pa]) := SrcsIn.of_row (by
    have := Y3.out.1
    rw [List.length_append]
    unfold srcCs at *
    rw [List.flatMap_append]
    exact this)
  have hk9 : Below w9.heap.size w9 w3q := Y3.out.2
  clear Y3 HO HIN HB0 hbs hsz dRb0 dRb1 dRb2 dRb3 dRb4 dRb5 dRb6 dRb7 dRb8 dRb9 dRb10 dRb11 dRb12 dRb13 dRb14 dRb15 dRb16
  have g3 := HG9.out.below hk9
  have l3 := HL9.out.below hk9
  have xRb_w3q := HX9.out.below hk9
  have B3 := HB9.out.1.trans (hk9.mono HB9.out.2)
  have hltw3q : Ra ≤ w3q.heap.size := Nat.le_trans HB9.out.2 hk9.size
  clear hk9 HG9 HL9 HX9 HB9 BW gw10 lw10 Bw10 xRa_w10 xRb_w10
  obtain ⟨r1, hr1⟩ : ∃ r, inlineL L rk rn.data.toList rt.data.toList = r := ⟨_, rfl⟩
  have Hr1 := Lib.hid hr1
  clear hr1
  have gr1 : (r1 == r1) = true := by rw [beq_iff_eq]
  obtain ⟨r2, hr2⟩ : ∃ r, fetchL L (uM o s2 h2 p pa2 q2) (uM o3 s3 h3 p3 pa3 q3) mv rn.data.toList pr = r := ⟨_, rfl⟩
  have Hr2 := Lib.hid hr2
  clear hr2
  have gr2 : (r2 == r2) = true := by rw [beq_iff_eq]
  obtain ⟨r3, hr3⟩ : ∃ r, evalL L rk = r := ⟨_, rfl⟩
  have Hr3 := Lib.hid hr3
  clear hr3
  have gr3 : (r3 == r3) = true := by rw [beq_iff_eq]
  have m9 : k ≠ 9 := beq_eq_false_iff_ne.1 n9
  have m10 : k ≠ 10 := beq_eq_false_iff_ne.1 n10
  have m6 : k ≠ 6 := beq_eq_false_iff_ne.1 n6
  have hl2 : (L ++ [srcM k t s h wd sp pa]).length ≤ 1000000 := by rw [List.length_append, List.length_singleton]; have := FL.1; omega
  have far2 : ∀ x ∈ L ++ [srcM k t s h wd sp pa], x.h.length ≤ 100000 ∧ x.pa.length ≤ 100000 := fun x hx => by
    rcases List.mem_append.1 hx with hx | hx
    · exact FL.far x hx
    · rw [List.mem_singleton.1 hx]; unfold srcM; simp only [lsize]; exact ⟨by omega, by omega⟩
  have CI := alwInline_hid L v hl rk rn rt (by omega) r1 Hr1.out
  have RI : r1 = true → Hid (∀ W, SrcsIn W v3 (L ++ [srcM k t s h wd sp pa]) → Calls Tryz.prog 22 #[v3, .int .i64 rk, .string rn, .string rt] W fun e w' => e = .returned (.bool true) ∧ Below W.heap.size W w') := fun h => alwInline_hid _ v3 hl2 rk rn rt (by omega) true (more_inline L _ m9 m10 m6 _ _ _ (Hr1.out.trans h))
  have CF := alwFetch_hid L v hl FL.far rk rt o s2 h2 p pa2 q2 mv rn pr o3 s3 h3 p3 pa3 q3 (by omega) (by omega) (by omega) (by omega) (by omega) (by omega) (by omega) (by omega) r2 Hr2.out
  have RF : r2 = true → Hid (∀ W, Low W → SrcsIn W v3 (L ++ [srcM k t s h wd sp pa]) → Calls Tryz.prog 24 #[v3, reqV rk rt o s2 h2 p pa2 q2 mv rn pr o3 s3 h3 p3 pa3 q3] W fun e w' => e = .returned (.bool true) ∧ Below W.heap.size W w') := fun h => alwFetch_hid _ v3 hl2 far2 rk rt o s2 h2 p pa2 q2 mv rn pr o3 s3 h3 p3 pa3 q3 (by omega) (by omega) (by omega) (by omega) (by omega) (by omega) (by omega) (by omega) true (more_fetch L _ m6 _ _ _ _ _ (Hr2.out.trans h))
  have CE := alwEval_hid L v hl rk r3 Hr3.out
  have RE : r3 = true → Hid (∀ W, SrcsIn W v3 (L ++ [srcM k t s h wd sp pa]) → Calls Tryz.prog 26 #[v3, .int .i64 rk] W fun e w' => e = .returned (.bool true) ∧ Below W.heap.size W w') := fun h => alwEval_hid _ v3 hl2 rk true (more_eval L _ _ (Hr3.out.trans h))
  unfold reqV at CF RF
  generalize L ++ [srcM k t s h wd sp pa] = L2 at j3 RI RF RE
  clear FL z1 z2 c1 c2 c3 c4 e1 e2 e3 e4 hl hl0 hl2 far2 Hr1 Hr2 Hr3 m9 m10 m6 n9 n10 n6 hS H50
  refine (CI.out _ l3).mono ?_
  rintro e w21 ⟨rfl, b_⟩
  have gw21 := g3.below b_
  have lw21 := l3.below b_
  have jw21 := j3.below b_
  have Bw21 := B3.trans (b_.mono hltw3q)
  have hltw21 := Nat.le_trans hltw3q b_.size
  have xRb_w21 := xRb_w3q.below b_
  clear b_ g3 l3 j3 B3 xRb_w3q hltw3q
  cases r1
  case false =>
    as_aux_lemma =>
      have dRb0 := xRb_w21.c0
      go_wp2_with fail
      clear dRb0
      refine (AR.out _ gw21).mono ?_
      rintro e w22 ⟨rfl, b_⟩
      have gw22 := gw21.below b_
      have lw22 := lw21.below b_
      have jw22 := jw21.below b_
      have Bw22 := Bw21.trans (b_.mono hltw21)
      have hltw22 := Nat.le_trans hltw21 b_.size
      have xRb_w22 := xRb_w21.below b_
      clear b_ gw21 lw21 jw21 Bw21 xRb_w21 hltw21
      have dRb0 := xRb_w22.c0
      have dRb1 := xRb_w22.c1
      have dRb2 := xRb_w22.c2
      have dRb3 := xRb_w22.c3
      have dRb4 := xRb_w22.c4
      have dRb5 := xRb_w22.c5
      have dRb6 := xRb_w22.c6
      have dRb7 := xRb_w22.c7
      have dRb8 := xRb_w22.c8
      have dRb9 := xRb_w22.c9
      have dRb10 := xRb_w22.c10
      have dRb11 := xRb_w22.c11
      have dRb12 := xRb_w22.c12
      have dRb13 := xRb_w22.c13
      have dRb14 := xRb_w22.c14
      have dRb15 := xRb_w22.c15
      have dRb16 := xRb_w22.c16
      go_wp2_with fail
      clear dRb0 dRb1 dRb2 dRb3 dRb4 dRb5 dRb6 dRb7 dRb8 dRb9 dRb10 dRb11 dRb12 dRb13 dRb14 dRb15 dRb16
      refine (CF.out _ gw22 lw22).mono ?_
      rintro e w23 ⟨rfl, b_⟩
      have gw23 := gw22.below b_
      have lw23 := lw22.below b_
      have jw23 := jw22.below b_
      have Bw23 := Bw22.trans (b_.mono hltw22)
      have hltw23 := Nat.le_trans hltw22 b_.size
      have xRb_w23 := xRb_w22.below b_
      clear b_ gw22 lw22 jw22 Bw22 xRb_w22 hltw22
      cases r2
      case false =>
        as_aux_lemma =>
          have dRb0 := xRb_w23.c0
          go_wp2_with fail
          clear dRb0
          refine (CE.out _ lw23).mono ?_
          rintro e w24 ⟨rfl, b_⟩
          have gw24 := gw23.below b_
          have lw24 := lw23.below b_
          have jw24 := jw23.below b_
          have Bw24 := Bw23.trans (b_.mono hltw23)
          have hltw24 := Nat.le_trans hltw23 b_.size
          have xRb_w24 := xRb_w23.below b_
          clear b_ gw23 lw23 jw23 Bw23 xRb_w23 hltw23
          cases r3
          case false =>
            as_aux_lemma =>
              go_wp2
              go_ret
              exact ⟨rfl, by rw [HR.out]; exact Bw24⟩
          case true =>
            as_aux_lemma =>
              have dRb0 := xRb_w24.c0
              go_wp2_with fail
              clear dRb0
              refine ((RE (by trivial)).out _ jw24).mono ?_
              rintro e w25 ⟨rfl, b_⟩
              have gw25 := gw24.below b_
              have lw25 := lw24.below b_
              have jw25 := jw24.below b_
              have Bw25 := Bw24.trans (b_.mono hltw24)
              have hltw25 := Nat.le_trans hltw24 b_.size
              have xRb_w25 := xRb_w24.below b_
              clear b_ gw24 lw24 jw24 Bw24 xRb_w24 hltw24
              go_wp2
              go_ret
              exact ⟨rfl, by rw [HR.out]; exact Bw25⟩
      case true =>
        as_aux_lemma =>
          have dRb0 := xRb_w23.c0
          have dRb1 := xRb_w23.c1
          have dRb2 := xRb_w23.c2
          have dRb3 := xRb_w23.c3
          have dRb4 := xRb_w23.c4
          have dRb5 := xRb_w23.c5
          have dRb6 := xRb_w23.c6
          have dRb7 := xRb_w23.c7
          have dRb8 := xRb_w23.c8
          have dRb9 := xRb_w23.c9
          have dRb10 := xRb_w23.c10
          have dRb11 := xRb_w23.c11
          have dRb12 := xRb_w23.c12
          have dRb13 := xRb_w23.c13
          have dRb14 := xRb_w23.c14
          have dRb15 := xRb_w23.c15
          have dRb16 := xRb_w23.c16
          go_wp2_with fail
          clear dRb0 dRb1 dRb2 dRb3 dRb4 dRb5 dRb6 dRb7 dRb8 dRb9 dRb10 dRb11 dRb12 dRb13 dRb14 dRb15 dRb16
          refine ((RF (by trivial)).out _ gw23 jw23).mono ?_
          rintro e w24 ⟨rfl, b_⟩
          have gw24 := gw23.below b_
          have lw24 := lw23.below b_
          have jw24 := jw23.below b_
          have Bw24 := Bw23.trans (b_.mono hltw23)
          have hltw24 := Nat.le_trans hltw23 b_.size
          have xRb_w24 := xRb_w23.below b_
          clear b_ gw23 lw23 jw23 Bw23 xRb_w23 hltw23
          have dRb0 := xRb_w24.c0
          go_wp2_with fail
          clear dRb0
          refine (CE.out _ lw24).mono ?_
          rintro e w25 ⟨rfl, b_⟩
          have gw25 := gw24.below b_
          have lw25 := lw24.below b_
          have jw25 := jw24.below b_
          have Bw25 := Bw24.trans (b_.mono hltw24)
          have hltw25 := Nat.le_trans hltw24 b_.size
          have xRb_w25 := xRb_w24.below b_
          clear b_ gw24 lw24 jw24 Bw24 xRb_w24 hltw24
          cases r3
          case false =>
            as_aux_lemma =>
              go_wp2
              go_ret
              exact ⟨rfl, by rw [HR.out]; exact Bw25⟩
          case true =>
            as_aux_lemma =>
              have dRb0 := xRb_w25.c0
              go_wp2_with fail
              clear dRb0
              refine ((RE (by trivial)).out _ jw25).mono ?_
              rintro e w26 ⟨rfl, b_⟩
              have gw26 := gw25.below b_
              have lw26 := lw25.below b_
              have jw26 := jw25.below b_
              have Bw26 := Bw25.trans (b_.mono hltw25)
              have hltw26 := Nat.le_trans hltw25 b_.size
              have xRb_w26 := xRb_w25.below b_
              clear b_ gw25 lw25 jw25 Bw25 xRb_w25 hltw25
              go_wp2
              go_ret
              exact ⟨rfl, by rw [HR.out]; exact Bw26⟩
  case true =>
    as_aux_lemma =>
      have dRb0 := xRb_w21.c0
      have dRb1 := xRb_w21.c1
      have dRb9 := xRb_w21.c9
      go_wp2_with fail
      clear dRb0 dRb1 dRb9
      refine ((RI (by trivial)).out _ jw21).mono ?_
      rintro e w22 ⟨rfl, b_⟩
      have gw22 := gw21.below b_
      have lw22 := lw21.below b_
      have jw22 := jw21.below b_
      have Bw22 := Bw21.trans (b_.mono hltw21)
      have hltw22 := Nat.le_trans hltw21 b_.size
      have xRb_w22 := xRb_w21.below b_
      clear b_ gw21 lw21 jw21 Bw21 xRb_w21 hltw21
      have dRb0 := xRb_w22.c0
      go_wp2_with fail
      clear dRb0
      refine (AR.out _ gw22).mono ?_
      rintro e w23 ⟨rfl, b_⟩
      have gw23 := gw22.below b_
      have lw23 := lw22.below b_
      have jw23 := jw22.below b_
      have Bw23 := Bw22.trans (b_.mono hltw22)
      have hltw23 := Nat.le_trans hltw22 b_.size
      have xRb_w23 := xRb_w22.below b_
      clear b_ gw22 lw22 jw22 Bw22 xRb_w22 hltw22
      have dRb0 := xRb_w23.c0
      have dRb1 := xRb_w23.c1
      have dRb2 := xRb_w23.c2
      have dRb3 := xRb_w23.c3
      have dRb4 := xRb_w23.c4
      have dRb5 := xRb_w23.c5
      have dRb6 := xRb_w23.c6
      have dRb7 := xRb_w23.c7
      have dRb8 := xRb_w23.c8
      have dRb9 := xRb_w23.c9
      have dRb10 := xRb_w23.c10
      have dRb11 := xRb_w23.c11
      have dRb12 := xRb_w23.c12
      have dRb13 := xRb_w23.c13
      have dRb14 := xRb_w23.c14
      have dRb15 := xRb_w23.c15
      have dRb16 := xRb_w23.c16
      go_wp2_with fail
      clear dRb0 dRb1 dRb2 dRb3 dRb4 dRb5 dRb6 dRb7 dRb8 dRb9 dRb10 dRb11 dRb12 dRb13 dRb14 dRb15 dRb16
      refine (CF.out _ gw23 lw23).mono ?_
      rintro e w24 ⟨rfl, b_⟩
      have gw24 := gw23.below b_
      have lw24 := lw23.below b_
      have jw24 := jw23.below b_
      have Bw24 := Bw23.trans (b_.mono hltw23)
      have hltw24 := Nat.le_trans hltw23 b_.size
      have xRb_w24 := xRb_w23.below b_
      clear b_ gw23 lw23 jw23 Bw23 xRb_w23 hltw23
      cases r2
      case false =>
        as_aux_lemma =>
          have dRb0 := xRb_w24.c0
          go_wp2_with fail
          clear dRb0
          refine (CE.out _ lw24).mono ?_
          rintro e w25 ⟨rfl, b_⟩
          have gw25 := gw24.below b_
          have lw25 := lw24.below b_
          have jw25 := jw24.below b_
          have Bw25 := Bw24.trans (b_.mono hltw24)
          have hltw25 := Nat.le_trans hltw24 b_.size
          have xRb_w25 := xRb_w24.below b_
          clear b_ gw24 lw24 jw24 Bw24 xRb_w24 hltw24
          cases r3
          case false =>
            as_aux_lemma =>
              go_wp2
              go_ret
              exact ⟨rfl, by rw [HR.out]; exact Bw25⟩
          case true =>
            as_aux_lemma =>
              have dRb0 := xRb_w25.c0
              go_wp2_with fail
              clear dRb0
              refine ((RE (by trivial)).out _ jw25).mono ?_
              rintro e w26 ⟨rfl, b_⟩
              have gw26 := gw25.below b_
              have lw26 := lw25.below b_
              have jw26 := jw25.below b_
              have Bw26 := Bw25.trans (b_.mono hltw25)
              have hltw26 := Nat.le_trans hltw25 b_.size
              have xRb_w26 := xRb_w25.below b_
              clear b_ gw25 lw25 jw25 Bw25 xRb_w25 hltw25
              go_wp2
              go_ret
              exact ⟨rfl, by rw [HR.out]; exact Bw26⟩
      case true =>
        as_aux_lemma =>
          have dRb0 := xRb_w24.c0
          have dRb1 := xRb_w24.c1
          have dRb2 := xRb_w24.c2
          have dRb3 := xRb_w24.c3
          have dRb4 := xRb_w24.c4
          have dRb5 := xRb_w24.c5
          have dRb6 := xRb_w24.c6
          have dRb7 := xRb_w24.c7
          have dRb8 := xRb_w24.c8
          have dRb9 := xRb_w24.c9
          have dRb10 := xRb_w24.c10
          have dRb11 := xRb_w24.c11
          have dRb12 := xRb_w24.c12
          have dRb13 := xRb_w24.c13
          have dRb14 := xRb_w24.c14
          have dRb15 := xRb_w24.c15
          have dRb16 := xRb_w24.c16
          go_wp2_with fail
          clear dRb0 dRb1 dRb2 dRb3 dRb4 dRb5 dRb6 dRb7 dRb8 dRb9 dRb10 dRb11 dRb12 dRb13 dRb14 dRb15 dRb16
          refine ((RF (by trivial)).out _ gw24 jw24).mono ?_
          rintro e w25 ⟨rfl, b_⟩
          have gw25 := gw24.below b_
          have lw25 := lw24.below b_
          have jw25 := jw24.below b_
          have Bw25 := Bw24.trans (b_.mono hltw24)
          have hltw25 := Nat.le_trans hltw24 b_.size
          have xRb_w25 := xRb_w24.below b_
          clear b_ gw24 lw24 jw24 Bw24 xRb_w24 hltw24
          have dRb0 := xRb_w25.c0
          go_wp2_with fail
          clear dRb0
          refine (CE.out _ lw25).mono ?_
          rintro e w26 ⟨rfl, b_⟩
          have gw26 := gw25.below b_
          have lw26 := lw25.below b_
          have jw26 := jw25.below b_
          have Bw26 := Bw25.trans (b_.mono hltw25)
          have hltw26 := Nat.le_trans hltw25 b_.size
          have xRb_w26 := xRb_w25.below b_
          clear b_ gw25 lw25 jw25 Bw25 xRb_w25 hltw25
          cases r3
          case false =>
            as_aux_lemma =>
              go_wp2
              go_ret
              exact ⟨rfl, by rw [HR.out]; exact Bw26⟩
          case true =>
            as_aux_lemma =>
              have dRb0 := xRb_w26.c0
              go_wp2_with fail
              clear dRb0
              refine ((RE (by trivial)).out _ jw26).mono ?_
              rintro e w27 ⟨rfl, b_⟩
              have gw27 := gw26.below b_
              have lw27 := lw26.below b_
              have jw27 := jw26.below b_
              have Bw27 := Bw26.trans (b_.mono hltw26)
              have hltw27 := Nat.le_trans hltw26 b_.size
              have xRb_w27 := xRb_w26.below b_
              clear b_ gw26 lw26 jw26 Bw26 xRb_w26 hltw26
              go_wp2
              go_ret
              exact ⟨rfl, by rw [HR.out]; exact Bw27⟩
theorem allowMore_law (L : List Src) (v : Value) (hl0 : L.length ≤ 9223372036854775807) (k : Int) (t s h : ByteArray) (wd : Bool) (sp : Int) (pa : ByteArray) (rk : Int) (rt : ByteArray) (o : Bool) (s2 h2 : ByteArray) (p : Int) (pa2 q2 : ByteArray) (mv : Bool) (rn : ByteArray) (pr : Bool) (o3 : Bool) (s3 h3 : ByteArray) (p3 : Int) (pa3 q3 : ByteArray) (w : World) (hw : Low w) (hv : SrcsIn w v L) : Calls Tryz.prog 7 #[v, srcV k t s h wd sp pa, reqV rk rt o s2 h2 p pa2 q2 mv rn pr o3 s3 h3 p3 pa3 q3] w fun e w' => e = .returned (.bool true) ∧ Below w.heap.size w w' := by
  cases n9 : (k == 9)
  case true => exact more_nine L v hl0 k t s h wd sp pa rk rt o s2 h2 p pa2 q2 mv rn pr o3 s3 h3 p3 pa3 q3 n9 w hw hv
  cases n10 : (k == 10)
  case true => exact more_ten L v hl0 k t s h wd sp pa rk rt o s2 h2 p pa2 q2 mv rn pr o3 s3 h3 p3 pa3 q3 n9 n10 w hw hv
  cases n6 : (k == 6)
  case true => exact more_six L v hl0 k t s h wd sp pa rk rt o s2 h2 p pa2 q2 mv rn pr o3 s3 h3 p3 pa3 q3 n9 n10 n6 w hw hv
  exact more_is L v hl0 k t s h wd sp pa rk rt o s2 h2 p pa2 q2 mv rn pr o3 s3 h3 p3 pa3 q3 n9 n10 n6 w hw hv

end Go.Proofs.YtaldjkbnngeahaaGreatDoor
