/- Match's questions, one by one. -/
import Derived.Test.YtaldjkbnngeahaaGreatDoorMtC
namespace Go.Proofs.YtaldjkbnngeahaaGreatDoor
open Go.RowKit

/-- A variable of text, and one of bool, of the call's own. -/
def VX (w : World) (R : Nat) (x : ByteArray) : Prop := w.heap[R]? = some (.cells #[.string x] 9 (0, 0))
theorem VX.below {w w' : World} {R : Nat} {x : ByteArray} (a : VX w R x) (hb : Below w.heap.size w w') : VX w' R x := by
  unfold VX at *
  rw [hb.block R (lt_of_block a)]; exact a
theorem VX.made (w : World) (x : ByteArray) : VX (w.alloc (.cells #[.string x] 9)) w.heap.size x := new_block w _
theorem VX.lt {w : World} {R : Nat} {x : ByteArray} (a : VX w R x) : R < w.heap.size := lt_of_block a
theorem VX.c0 {w : World} {R : Nat} {x : ByteArray} (a : VX w R x) : w.cell? ⟨R, 0, none⟩ = some (.string x) := by rw [cell_of a]; rfl
def VB (w : World) (R : Nat) (x : Bool) : Prop := w.heap[R]? = some (.cells #[.bool x] 4 (0, 0))
theorem VB.below {w w' : World} {R : Nat} {x : Bool} (a : VB w R x) (hb : Below w.heap.size w w') : VB w' R x := by
  unfold VB at *
  rw [hb.block R (lt_of_block a)]; exact a
theorem VB.made (w : World) (x : Bool) : VB (w.alloc (.cells #[.bool x] 4)) w.heap.size x := new_block w _
theorem VB.lt {w : World} {R : Nat} {x : Bool} (a : VB w R x) : R < w.heap.size := lt_of_block a
theorem VB.c0 {w : World} {R : Nat} {x : Bool} (a : VB w R x) : w.cell? ⟨R, 0, none⟩ = some (.bool x) := by rw [cell_of a]; rfl


set_option maxRecDepth 100000 in
set_option maxHeartbeats 4000000 in
theorem lets1_any (U : Nat) (o : Bool) (s2 h2 : ByteArray) (p : Int) (pa2 q2 : ByteArray) (w : World) (x : BX w U o s2 h2 p pa2 q2) : Calls Tryz.prog 71 #[.pointer (some ⟨U, 0, none⟩)] w fun e w' => e = .returned (.bool (!o)) ∧ Below w.heap.size w w' := by
  have a0 := x.c0
  go_enter Tryz.func71, Tryz.ntmps71
  go_wp2
  go_ret
  exact ⟨rfl, Below.refl _ _⟩

set_option maxRecDepth 100000 in
set_option maxHeartbeats 4000000 in
theorem lets2_any (T U : Nat) (tt : ByteArray) (o : Bool) (s2 h2 : ByteArray) (p : Int) (pa2 q2 : ByteArray) (b : Bool) (hb : schL tt.data.toList s2.data.toList = b) (w : World) (v : VX w T tt) (x : BX w U o s2 h2 p pa2 q2) : Calls Tryz.prog 72 #[.pointer (some ⟨T, 0, none⟩), .pointer (some ⟨U, 0, none⟩)] w fun e w' => e = .returned (.bool b) ∧ Below w.heap.size w w' := by
  have C := matScheme_hid tt s2 b hb
  have v0 := v.c0
  have a1 := x.c1
  clear hb
  go_enter Tryz.func72, Tryz.ntmps72
  go_wp2_with fail
  refine (C.out _).mono ?_
  rintro e w ⟨rfl, rfl⟩
  go_wp2
  go_ret
  exact ⟨rfl, Below.refl _ _⟩

set_option maxRecDepth 100000 in
set_option maxHeartbeats 4000000 in
theorem lets3_any (S U : Nat) (k : Int) (t s h : ByteArray) (wd : Bool) (sp : Int) (pa : ByteArray) (o : Bool) (s2 h2 : ByteArray) (p : Int) (pa2 q2 : ByteArray) (hh : h.size ≤ 100000) (hh2 : h2.size ≤ 100000) (b : Bool) (hb : hostL wd h.data.toList h2.data.toList = b) (w : World) (y : SX w S k t s h wd sp pa) (x : BX w U o s2 h2 p pa2 q2) : Calls Tryz.prog 73 #[.pointer (some ⟨S, 0, none⟩), .pointer (some ⟨U, 0, none⟩)] w fun e w' => e = .returned (.bool b) ∧ Below w.heap.size w w' := by
  have C := matHost_hid k t s h wd sp pa h2 hh hh2 b hb
  unfold srcV at C
  have e0 := y.c0
  have e1 := y.c1
  have e2 := y.c2
  have e3 := y.c3
  have e4 := y.c4
  have e5 := y.c5
  have e6 := y.c6
  have a2 := x.c2
  clear hb
  go_enter Tryz.func73, Tryz.ntmps73
  go_wp2_with fail
  refine (C.out _).mono ?_
  rintro e w1 ⟨rfl, b1⟩
  clear e0 e1 e2 e3 e4 e5 e6 a2 x y
  go_wp2
  go_ret
  exact ⟨rfl, b1⟩

set_option maxRecDepth 100000 in
set_option maxHeartbeats 4000000 in
theorem lets4_any (S U : Nat) (k : Int) (t s h : ByteArray) (wd : Bool) (sp : Int) (pa : ByteArray) (o : Bool) (s2 h2 : ByteArray) (p : Int) (pa2 q2 : ByteArray) (b : Bool) (hb : portL sp (uM o s2 h2 p pa2 q2) = b) (w : World) (y : SX w S k t s h wd sp pa) (x : BX w U o s2 h2 p pa2 q2) : Calls Tryz.prog 75 #[.pointer (some ⟨S, 0, none⟩), .pointer (some ⟨U, 0, none⟩)] w fun e w' => e = .returned (.bool b) ∧ Below w.heap.size w w' := by
  have C := matPort_hid k t s h wd sp pa o s2 h2 p pa2 q2 b hb
  unfold srcV uV at C
  have e0 := y.c0
  have e1 := y.c1
  have e2 := y.c2
  have e3 := y.c3
  have e4 := y.c4
  have e5 := y.c5
  have e6 := y.c6
  have a0 := x.c0
  have a1 := x.c1
  have a2 := x.c2
  have a3 := x.c3
  have a4 := x.c4
  have a5 := x.c5
  clear hb
  go_enter Tryz.func75, Tryz.ntmps75
  go_wp2_with fail
  refine (C.out _).mono ?_
  rintro e w1 ⟨rfl, b1⟩
  clear e0 e1 e2 e3 e4 e5 e6 a0 a1 a2 a3 a4 a5 x y
  go_wp2
  go_ret
  exact ⟨rfl, b1⟩

set_option maxRecDepth 100000 in
set_option maxHeartbeats 4000000 in
theorem lets5_any (S U M : Nat) (k : Int) (t s h : ByteArray) (wd : Bool) (sp : Int) (pa : ByteArray) (o : Bool) (s2 h2 : ByteArray) (p : Int) (pa2 q2 : ByteArray) (m : Bool) (hpa : pa.size ≤ 100000) (b : Bool) (hb : pathL pa.data.toList pa2.data.toList m = b) (w : World) (y : SX w S k t s h wd sp pa) (x : BX w U o s2 h2 p pa2 q2) (v : VB w M m) : Calls Tryz.prog 77 #[.pointer (some ⟨S, 0, none⟩), .pointer (some ⟨U, 0, none⟩), .pointer (some ⟨M, 0, none⟩)] w fun e w' => e = .returned (.bool b) ∧ Below w.heap.size w w' := by
  have C := matPath_hid pa pa2 hpa m b hb
  have e6 := y.c6
  have a4 := x.c4
  have v0 := v.c0
  clear hb
  go_enter Tryz.func77, Tryz.ntmps77
  go_wp2_with fail
  refine (C.out _).mono ?_
  rintro e w ⟨rfl, rfl⟩
  go_wp2
  go_ret
  exact ⟨rfl, Below.refl _ _⟩

set_option maxRecDepth 100000 in
set_option maxHeartbeats 4000000 in
theorem near1_any (V : Nat) (o3 : Bool) (s3 h3 : ByteArray) (p3 : Int) (pa3 q3 : ByteArray) (z1 : s3.size ≤ 100000) (z2 : h3.size ≤ 100000) (z3 : pa3.size ≤ 100000) (z4 : q3.size ≤ 100000) (b : Bool) (hb : rightM (uM o3 s3 h3 p3 pa3 q3) = b) (w : World) (hm : MaxIn w) (ht : TabIn w) (x : BX w V o3 s3 h3 p3 pa3 q3) : Calls Tryz.prog 80 #[.pointer (some ⟨V, 0, none⟩)] w fun e w' => e = .returned (.bool b) ∧ Below w.heap.size w w' := by
  obtain ⟨n, hn⟩ : ∃ n, chk (uM o3 s3 h3 p3 pa3 q3) = n := ⟨_, rfl⟩
  have C := check_hid o3 s3 h3 p3 pa3 q3 n hn z1 z2 z3 z4
  have g : (n == 0) = b := by
    rw [← hn, ← hb]; unfold chk; cases rightM (uM o3 s3 h3 p3 pa3 q3) <;> rfl
  unfold uV at C
  have a0 := x.c0
  have a1 := x.c1
  have a2 := x.c2
  have a3 := x.c3
  have a4 := x.c4
  have a5 := x.c5
  clear hb hn z1 z2 z3 z4
  go_enter Tryz.func80, Tryz.ntmps80
  go_wp2_with fail
  refine (C.out _ hm ht).mono ?_
  rintro e w1 ⟨rfl, b1⟩
  clear a0 a1 a2 a3 a4 a5 x
  go_wp2
  go_ret
  exact ⟨rfl, b1⟩

set_option maxRecDepth 100000 in
set_option maxHeartbeats 4000000 in
theorem near2_any (V U : Nat) (o3 : Bool) (s3 h3 : ByteArray) (p3 : Int) (pa3 q3 : ByteArray) (o : Bool) (s2 h2 : ByteArray) (p : Int) (pa2 q2 : ByteArray) (w : World) (y : BX w V o3 s3 h3 p3 pa3 q3) (x : BX w U o s2 h2 p pa2 q2) : Calls Tryz.prog 81 #[.pointer (some ⟨V, 0, none⟩), .pointer (some ⟨U, 0, none⟩)] w fun e w' => e = .returned (.bool (!o3 && !o)) ∧ Below w.heap.size w w' := by
  have e0 := y.c0
  have a0 := x.c0
  cases o3 <;> cases o
  all_goals
    go_enter Tryz.func81, Tryz.ntmps81
    go_wp2
    go_ret
    exact ⟨rfl, Below.refl _ _⟩

set_option maxRecDepth 100000 in
set_option maxHeartbeats 4000000 in
theorem near3_any (V U : Nat) (o3 : Bool) (s3 h3 : ByteArray) (p3 : Int) (pa3 q3 : ByteArray) (o : Bool) (s2 h2 : ByteArray) (p : Int) (pa2 q2 : ByteArray) (w : World) (y : BX w V o3 s3 h3 p3 pa3 q3) (x : BX w U o s2 h2 p pa2 q2) : Calls Tryz.prog 82 #[.pointer (some ⟨V, 0, none⟩), .pointer (some ⟨U, 0, none⟩)] w fun e w' => e = .returned (.bool (decide (h3.data.toList = h2.data.toList))) ∧ Below w.heap.size w w' := by
  have e2 := y.c2
  have a2 := x.c2
  obtain ⟨b, g⟩ : ∃ b, (h3.toList == h2.toList) = b := ⟨_, rfl⟩
  have HF : Hid (b = decide (h3.data.toList = h2.data.toList)) := Lib.hid (by rw [← g, text_two])
  go_enter Tryz.func82, Tryz.ntmps82
  go_wp2
  go_ret
  exact ⟨ret_bool HF.out, Below.refl _ _⟩

set_option maxRecDepth 100000 in
set_option maxHeartbeats 4000000 in
theorem near4_any (V U : Nat) (o3 : Bool) (s3 h3 : ByteArray) (p3 : Int) (pa3 q3 : ByteArray) (o : Bool) (s2 h2 : ByteArray) (p : Int) (pa2 q2 : ByteArray) (w : World) (y : BX w V o3 s3 h3 p3 pa3 q3) (x : BX w U o s2 h2 p pa2 q2) : Calls Tryz.prog 83 #[.pointer (some ⟨V, 0, none⟩), .pointer (some ⟨U, 0, none⟩)] w fun e w' => e = .returned (.bool (decide (p3 = 0) && decide (p = 0))) ∧ Below w.heap.size w w' := by
  have e3 := y.c3
  have a3 := x.c3
  obtain ⟨b, g⟩ : ∃ b, (p3 == 0) = b := ⟨_, rfl⟩
  obtain ⟨b2, g2⟩ : ∃ b, (p == 0) = b := ⟨_, rfl⟩
  have HF : Hid ((b && b2) = (decide (p3 = 0) && decide (p = 0))) := Lib.hid (by rw [← g, ← g2]; rfl)
  cases b
  all_goals
    go_enter Tryz.func83, Tryz.ntmps83
    go_wp2
    go_ret
    exact ⟨ret_bool HF.out, Below.refl _ _⟩

set_option maxRecDepth 100000 in
set_option maxHeartbeats 4000000 in
theorem near5_any (V U : Nat) (o3 : Bool) (s3 h3 : ByteArray) (p3 : Int) (pa3 q3 : ByteArray) (o : Bool) (s2 h2 : ByteArray) (p : Int) (pa2 q2 : ByteArray) (b : Bool) (hb : schL s3.data.toList s2.data.toList = b) (w : World) (y : BX w V o3 s3 h3 p3 pa3 q3) (x : BX w U o s2 h2 p pa2 q2) : Calls Tryz.prog 84 #[.pointer (some ⟨V, 0, none⟩), .pointer (some ⟨U, 0, none⟩)] w fun e w' => e = .returned (.bool b) ∧ Below w.heap.size w w' := by
  have C := matScheme_hid s3 s2 b hb
  have e1 := y.c1
  have a1 := x.c1
  clear hb
  go_enter Tryz.func84, Tryz.ntmps84
  go_wp2_with fail
  refine (C.out _).mono ?_
  rintro e w ⟨rfl, rfl⟩
  go_wp2
  go_ret
  exact ⟨rfl, Below.refl _ _⟩

end Go.Proofs.YtaldjkbnngeahaaGreatDoor
