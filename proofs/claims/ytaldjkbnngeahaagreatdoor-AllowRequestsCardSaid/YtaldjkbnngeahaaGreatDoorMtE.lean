/- Whether a place lets an address be; whether an address is near the page: the program's. -/
import Derived.Test.YtaldjkbnngeahaaGreatDoorMtD
namespace Go.Proofs.YtaldjkbnngeahaaGreatDoor
open Go.RowKit

theorem heap_new (w : World) (x : Obj) (i : Nat) (hi : i < w.heap.size) : (w.alloc x).heap[i]? = w.heap[i]? := by
  show (w.heap.push x)[i]? = _
  rw [Array.getElem?_push_lt hi, Array.getElem?_eq_getElem hi]
theorem heap_at (w : World) (x : Obj) (i : Nat) (hi : i = w.heap.size) : (w.alloc x).heap[i]? = some x := by subst hi; exact new_block w x

/-- A place's questions asked. -/
theorem letsRow_any (M S T U Q : Nat) (k : Int) (t s h : ByteArray) (wd : Bool) (sp : Int) (pa : ByteArray) (o : Bool) (s2 h2 : ByteArray) (p : Int) (pa2 q2 : ByteArray) (tt : ByteArray) (m : Bool) (z1 : h.size ≤ 100000) (z2 : h2.size ≤ 100000) (z3 : pa.size ≤ 100000) (w : World) (y : SX w S k t s h wd sp pa) (x : BX w U o s2 h2 p pa2 q2) (v : VX w T tt) (u : VB w M m) (hq : RowP w Q M S T U) :
    Calls Tryz.prog 70 #[.slice (some ⟨Q, 0, none⟩) 5 5] w fun e w' => e = .returned (.bool (!o && ((schL tt.data.toList s2.data.toList) && ((hostL wd h.data.toList h2.data.toList) && ((portL sp (uM o s2 h2 p pa2 q2)) && (pathL pa.data.toList pa2.data.toList m)))))) ∧ Below w.heap.size w w' :=
  allP_any (fun W => SX W S k t s h wd sp pa ∧ BX W U o s2 h2 p pa2 q2 ∧ VX W T tt ∧ VB W M m) (Lib.hid fun _ _ h b => ⟨h.1.below b, h.2.1.below b, h.2.2.1.below b, h.2.2.2.below b⟩) Q M S T U (!o) (schL tt.data.toList s2.data.toList) (hostL wd h.data.toList h2.data.toList) (portL sp (uM o s2 h2 p pa2 q2)) (pathL pa.data.toList pa2.data.toList m)
    (Lib.hid fun W a => lets1_any U o s2 h2 p pa2 q2 W a.2.1)
    (fun _ => Lib.hid fun W a => lets2_any T U tt o s2 h2 p pa2 q2 _ rfl W a.2.2.1 a.2.1)
    (fun _ _ => Lib.hid fun W a => lets3_any S U k t s h wd sp pa o s2 h2 p pa2 q2 z1 z2 _ rfl W a.1 a.2.1)
    (fun _ _ _ => Lib.hid fun W a => lets4_any S U k t s h wd sp pa o s2 h2 p pa2 q2 _ rfl W a.1 a.2.1)
    (fun _ _ _ _ => Lib.hid fun W a => lets5_any S U M k t s h wd sp pa o s2 h2 p pa2 q2 m z3 _ rfl W a.1 a.2.1 a.2.2.2)
    w ⟨y, x, v, u⟩ hq

/-- The blocks that a place's questions ask. -/
theorem letsBlocks (w : World) (k : Int) (t s h : ByteArray) (wd : Bool) (sp : Int) (pa : ByteArray) (o : Bool) (s2 h2 : ByteArray) (p : Int) (pa2 q2 : ByteArray) (o3 : Bool) (s3 h3 : ByteArray) (p3 : Int) (pa3 q3 : ByteArray) (m : Bool) (tt : ByteArray) (x : Obj) :
    SX ((((((w.alloc (.cells #[.int .i64 k, .string t, .string s, .string h, .bool wd, .int .i64 sp, .string pa] 40)).alloc (.cells #[.bool o, .string s2, .string h2, .int .i64 p, .string pa2, .string q2] 25)).alloc (.cells #[.bool o3, .string s3, .string h3, .int .i64 p3, .string pa3, .string q3] 25)).alloc (.cells #[.bool m] 4)).alloc (.cells #[.string tt] 9)).alloc x) w.heap.size k t s h wd sp pa ∧ BX ((((((w.alloc (.cells #[.int .i64 k, .string t, .string s, .string h, .bool wd, .int .i64 sp, .string pa] 40)).alloc (.cells #[.bool o, .string s2, .string h2, .int .i64 p, .string pa2, .string q2] 25)).alloc (.cells #[.bool o3, .string s3, .string h3, .int .i64 p3, .string pa3, .string q3] 25)).alloc (.cells #[.bool m] 4)).alloc (.cells #[.string tt] 9)).alloc x) (w.heap.size + 1) o s2 h2 p pa2 q2 ∧ VX ((((((w.alloc (.cells #[.int .i64 k, .string t, .string s, .string h, .bool wd, .int .i64 sp, .string pa] 40)).alloc (.cells #[.bool o, .string s2, .string h2, .int .i64 p, .string pa2, .string q2] 25)).alloc (.cells #[.bool o3, .string s3, .string h3, .int .i64 p3, .string pa3, .string q3] 25)).alloc (.cells #[.bool m] 4)).alloc (.cells #[.string tt] 9)).alloc x) (w.heap.size + 1 + 1 + 1 + 1) tt ∧ VB ((((((w.alloc (.cells #[.int .i64 k, .string t, .string s, .string h, .bool wd, .int .i64 sp, .string pa] 40)).alloc (.cells #[.bool o, .string s2, .string h2, .int .i64 p, .string pa2, .string q2] 25)).alloc (.cells #[.bool o3, .string s3, .string h3, .int .i64 p3, .string pa3, .string q3] 25)).alloc (.cells #[.bool m] 4)).alloc (.cells #[.string tt] 9)).alloc x) (w.heap.size + 1 + 1 + 1) m ∧ ((((((w.alloc (.cells #[.int .i64 k, .string t, .string s, .string h, .bool wd, .int .i64 sp, .string pa] 40)).alloc (.cells #[.bool o, .string s2, .string h2, .int .i64 p, .string pa2, .string q2] 25)).alloc (.cells #[.bool o3, .string s3, .string h3, .int .i64 p3, .string pa3, .string q3] 25)).alloc (.cells #[.bool m] 4)).alloc (.cells #[.string tt] 9)).alloc x).heap[w.heap.size + 1 + 1 + 1 + 1 + 1]? = some x ∧ Below w.heap.size w ((((((w.alloc (.cells #[.int .i64 k, .string t, .string s, .string h, .bool wd, .int .i64 sp, .string pa] 40)).alloc (.cells #[.bool o, .string s2, .string h2, .int .i64 p, .string pa2, .string q2] 25)).alloc (.cells #[.bool o3, .string s3, .string h3, .int .i64 p3, .string pa3, .string q3] 25)).alloc (.cells #[.bool m] 4)).alloc (.cells #[.string tt] 9)).alloc x) := by
  refine ⟨?_, ?_, ?_, ?_, ?_, ?_⟩
  · unfold SX
    rw [heap_new, heap_new, heap_new, heap_new, heap_new, heap_at] <;> simp
    all_goals omega
  · unfold BX
    rw [heap_new, heap_new, heap_new, heap_new, heap_at] <;> simp
    all_goals omega
  · unfold VX
    rw [heap_new, heap_at] <;> simp
  · unfold VB
    rw [heap_new, heap_new, heap_at] <;> simp
    all_goals omega
  · rw [heap_at]
    simp
  · exact (((((((Below.refl w.heap.size w).alloc (Nat.le_refl _) _).alloc (by simp) _).alloc (by simp; omega) _).alloc (by simp; omega) _).alloc (by simp; omega) _).alloc (by simp; omega) _)


set_option maxRecDepth 100000 in
set_option maxHeartbeats 4000000 in
theorem letsPlace_told (k : Int) (t s h : ByteArray) (wd : Bool) (sp : Int) (pa : ByteArray) (o : Bool) (s2 h2 : ByteArray) (p : Int) (pa2 q2 : ByteArray) (o3 : Bool) (s3 h3 : ByteArray) (p3 : Int) (pa3 q3 : ByteArray) (m : Bool) (z1 : h.size ≤ 100000) (z2 : h2.size ≤ 100000) (z3 : pa.size ≤ 100000) (g : s.toList.isEmpty = false) (w : World) : Calls Tryz.prog 49 #[srcV k t s h wd sp pa, uV o s2 h2 p pa2 q2, uV o3 s3 h3 p3 pa3 q3, .bool m] w fun e w' => e = .returned (.bool (letsL (srcM k t s h wd sp pa) (uM o s2 h2 p pa2 q2) (uM o3 s3 h3 p3 pa3 q3) m)) ∧ Below w.heap.size w w' := by
  have HF : Hid ((!o && (schL s.data.toList s2.data.toList && (hostL wd h.data.toList h2.data.toList && (portL sp (uM o s2 h2 p pa2 q2) && pathL pa.data.toList pa2.data.toList m)))) = letsL (srcM k t s h wd sp pa) (uM o s2 h2 p pa2 q2) (uM o3 s3 h3 p3 pa3 q3) m) := Lib.hid (by
    have e : toldL (srcM k t s h wd sp pa) (uM o3 s3 h3 p3 pa3 q3) = s.data.toList := by
      unfold toldL
      rw [show (srcM k t s h wd sp pa).s.isEmpty = false by rw [← g, text_none]; rfl]
      rfl
    unfold letsL
    rw [e, Bool.and_assoc, Bool.and_assoc, Bool.and_assoc]
    rfl)
  unfold uV srcV
  go_enter Tryz.func49, Tryz.ntmps49
  go_wp2_with fail
  obtain ⟨y, x, v, u, hq, B⟩ := letsBlocks w k t s h wd sp pa o s2 h2 p pa2 q2 o3 s3 h3 p3 pa3 q3 m s _
  refine (letsRow_any _ _ _ _ _ k t s h wd sp pa o s2 h2 p pa2 q2 s m z1 z2 z3 _ y x v u hq).mono ?_
  clear y x v u hq
  rintro e w9 ⟨rfl, b9⟩
  have B9 := Lib.hid (B.trans (b9.mono B.size))
  clear B b9
  go_wp2
  go_ret
  exact ⟨ret_bool HF.out, B9.out⟩


set_option maxRecDepth 100000 in
set_option maxHeartbeats 4000000 in
theorem letsPlace_none (k : Int) (t s h : ByteArray) (wd : Bool) (sp : Int) (pa : ByteArray) (o : Bool) (s2 h2 : ByteArray) (p : Int) (pa2 q2 : ByteArray) (o3 : Bool) (s3 h3 : ByteArray) (p3 : Int) (pa3 q3 : ByteArray) (m : Bool) (z1 : h.size ≤ 100000) (z2 : h2.size ≤ 100000) (z3 : pa.size ≤ 100000) (g : s.toList.isEmpty = true) (w : World) : Calls Tryz.prog 49 #[srcV k t s h wd sp pa, uV o s2 h2 p pa2 q2, uV o3 s3 h3 p3 pa3 q3, .bool m] w fun e w' => e = .returned (.bool (letsL (srcM k t s h wd sp pa) (uM o s2 h2 p pa2 q2) (uM o3 s3 h3 p3 pa3 q3) m)) ∧ Below w.heap.size w w' := by
  have HF : Hid ((!o && (schL s3.data.toList s2.data.toList && (hostL wd h.data.toList h2.data.toList && (portL sp (uM o s2 h2 p pa2 q2) && pathL pa.data.toList pa2.data.toList m)))) = letsL (srcM k t s h wd sp pa) (uM o s2 h2 p pa2 q2) (uM o3 s3 h3 p3 pa3 q3) m) := Lib.hid (by
    have e : toldL (srcM k t s h wd sp pa) (uM o3 s3 h3 p3 pa3 q3) = s3.data.toList := by
      unfold toldL
      rw [show (srcM k t s h wd sp pa).s.isEmpty = true by rw [← g, text_none]; rfl]
      rfl
    unfold letsL
    rw [e, Bool.and_assoc, Bool.and_assoc, Bool.and_assoc]
    rfl)
  unfold uV srcV
  go_enter Tryz.func49, Tryz.ntmps49
  go_wp2_with fail
  obtain ⟨y, x, v, u, hq, B⟩ := letsBlocks w k t s h wd sp pa o s2 h2 p pa2 q2 o3 s3 h3 p3 pa3 q3 m s3 _
  refine (letsRow_any _ _ _ _ _ k t s h wd sp pa o s2 h2 p pa2 q2 s3 m z1 z2 z3 _ y x v u hq).mono ?_
  clear y x v u hq
  rintro e w9 ⟨rfl, b9⟩
  have B9 := Lib.hid (B.trans (b9.mono B.size))
  clear B b9
  go_wp2
  go_ret
  exact ⟨ret_bool HF.out, B9.out⟩

theorem letsPlace_hid (k : Int) (t s h : ByteArray) (wd : Bool) (sp : Int) (pa : ByteArray) (o : Bool) (s2 h2 : ByteArray) (p : Int) (pa2 q2 : ByteArray) (o3 : Bool) (s3 h3 : ByteArray) (p3 : Int) (pa3 q3 : ByteArray) (m : Bool) (z1 : h.size ≤ 100000) (z2 : h2.size ≤ 100000) (z3 : pa.size ≤ 100000) (b : Bool) (hb : letsL (srcM k t s h wd sp pa) (uM o s2 h2 p pa2 q2) (uM o3 s3 h3 p3 pa3 q3) m = b) : Hid (∀ W, Calls Tryz.prog 49 #[srcV k t s h wd sp pa, uV o s2 h2 p pa2 q2, uV o3 s3 h3 p3 pa3 q3, .bool m] W fun e w' => e = .returned (.bool b) ∧ Below W.heap.size W w') :=
  Lib.hid fun W => by
    rw [← hb]
    cases g : s.toList.isEmpty
    · exact letsPlace_told k t s h wd sp pa o s2 h2 p pa2 q2 o3 s3 h3 p3 pa3 q3 m z1 z2 z3 g W
    · exact letsPlace_none k t s h wd sp pa o s2 h2 p pa2 q2 o3 s3 h3 p3 pa3 q3 m z1 z2 z3 g W

/-! Near the page. -/
theorem nearRow_any (U V Q : Nat) (o3 : Bool) (s3 h3 : ByteArray) (p3 : Int) (pa3 q3 : ByteArray) (o : Bool) (s2 h2 : ByteArray) (p : Int) (pa2 q2 : ByteArray) (z1 : s3.size ≤ 100000) (z2 : h3.size ≤ 100000) (z3 : pa3.size ≤ 100000) (z4 : q3.size ≤ 100000) (w : World) (hm : MaxIn w) (ht : TabIn w) (y : BX w V o3 s3 h3 p3 pa3 q3) (x : BX w U o s2 h2 p pa2 q2) (hq : RowN w Q U V) :
    Calls Tryz.prog 70 #[.slice (some ⟨Q, 0, none⟩) 5 5] w fun e w' => e = .returned (.bool (rightM (uM o3 s3 h3 p3 pa3 q3) && ((!o3 && !o) && (decide (h3.data.toList = h2.data.toList) && ((decide (p3 = 0) && decide (p = 0)) && schL s3.data.toList s2.data.toList))))) ∧ Below w.heap.size w w' :=
  allN_any (fun W => (MaxIn W ∧ TabIn W) ∧ BX W V o3 s3 h3 p3 pa3 q3 ∧ BX W U o s2 h2 p pa2 q2) (Lib.hid fun _ _ h b => ⟨⟨h.1.1.below b, h.1.2.below b⟩, h.2.1.below b, h.2.2.below b⟩) Q U V (rightM (uM o3 s3 h3 p3 pa3 q3)) (!o3 && !o) (decide (h3.data.toList = h2.data.toList)) (decide (p3 = 0) && decide (p = 0)) (schL s3.data.toList s2.data.toList)
    (Lib.hid fun W a => near1_any V o3 s3 h3 p3 pa3 q3 z1 z2 z3 z4 _ rfl W a.1.1 a.1.2 a.2.1)
    (fun _ => Lib.hid fun W a => near2_any V U o3 s3 h3 p3 pa3 q3 o s2 h2 p pa2 q2 W a.2.1 a.2.2)
    (fun _ _ => Lib.hid fun W a => near3_any V U o3 s3 h3 p3 pa3 q3 o s2 h2 p pa2 q2 W a.2.1 a.2.2)
    (fun _ _ _ => Lib.hid fun W a => near4_any V U o3 s3 h3 p3 pa3 q3 o s2 h2 p pa2 q2 W a.2.1 a.2.2)
    (fun _ _ _ _ => Lib.hid fun W a => near5_any V U o3 s3 h3 p3 pa3 q3 o s2 h2 p pa2 q2 _ rfl W a.2.1 a.2.2)
    w ⟨⟨hm, ht⟩, y, x⟩ hq
theorem nearBlocks (w : World) (o3 : Bool) (s3 h3 : ByteArray) (p3 : Int) (pa3 q3 : ByteArray) (o : Bool) (s2 h2 : ByteArray) (p : Int) (pa2 q2 : ByteArray) (x : Obj) :
    BX (((w.alloc (.cells #[.bool o3, .string s3, .string h3, .int .i64 p3, .string pa3, .string q3] 25)).alloc (.cells #[.bool o, .string s2, .string h2, .int .i64 p, .string pa2, .string q2] 25)).alloc x) w.heap.size o3 s3 h3 p3 pa3 q3 ∧ BX (((w.alloc (.cells #[.bool o3, .string s3, .string h3, .int .i64 p3, .string pa3, .string q3] 25)).alloc (.cells #[.bool o, .string s2, .string h2, .int .i64 p, .string pa2, .string q2] 25)).alloc x) (w.heap.size + 1) o s2 h2 p pa2 q2 ∧ (((w.alloc (.cells #[.bool o3, .string s3, .string h3, .int .i64 p3, .string pa3, .string q3] 25)).alloc (.cells #[.bool o, .string s2, .string h2, .int .i64 p, .string pa2, .string q2] 25)).alloc x).heap[w.heap.size + 1 + 1]? = some x ∧ Below w.heap.size w (((w.alloc (.cells #[.bool o3, .string s3, .string h3, .int .i64 p3, .string pa3, .string q3] 25)).alloc (.cells #[.bool o, .string s2, .string h2, .int .i64 p, .string pa2, .string q2] 25)).alloc x) := by
  refine ⟨?_, ?_, ?_, ?_⟩
  · unfold BX
    rw [heap_new, heap_new, heap_at] <;> simp
    all_goals omega
  · unfold BX
    rw [heap_new, heap_at] <;> simp
  · rw [heap_at]
    simp
  · exact (((Below.refl w.heap.size w).alloc (Nat.le_refl _) _).alloc (by simp) _).alloc (by simp; omega) _

set_option maxRecDepth 100000 in
set_option maxHeartbeats 4000000 in
theorem isNear_any (o3 : Bool) (s3 h3 : ByteArray) (p3 : Int) (pa3 q3 : ByteArray) (o : Bool) (s2 h2 : ByteArray) (p : Int) (pa2 q2 : ByteArray) (z1 : s3.size ≤ 100000) (z2 : h3.size ≤ 100000) (z3 : pa3.size ≤ 100000) (z4 : q3.size ≤ 100000) (w : World) (hm : MaxIn w) (ht : TabIn w) : Calls Tryz.prog 52 #[uV o3 s3 h3 p3 pa3 q3, uV o s2 h2 p pa2 q2] w fun e w' => e = .returned (.bool (nearL (uM o s2 h2 p pa2 q2) (uM o3 s3 h3 p3 pa3 q3))) ∧ Below w.heap.size w w' := by
  obtain ⟨r, hr⟩ : ∃ r, (rightM (uM o3 s3 h3 p3 pa3 q3) && ((!o3 && !o) && (decide (h3.data.toList = h2.data.toList) && ((decide (p3 = 0) && decide (p = 0)) && schL s3.data.toList s2.data.toList)))) = r := ⟨_, rfl⟩
  have HR := Lib.hid hr
  have HF : Hid (r = nearL (uM o s2 h2 p pa2 q2) (uM o3 s3 h3 p3 pa3 q3)) := Lib.hid (by
    rw [← hr]
    unfold nearL
    simp only [Bool.and_assoc]
    rfl)
  clear hr
  unfold uV
  go_enter Tryz.func52, Tryz.ntmps52
  go_wp2_with fail
  obtain ⟨y, x, hq, B⟩ := nearBlocks w o3 s3 h3 p3 pa3 q3 o s2 h2 p pa2 q2 _
  have CN := nearRow_any _ _ _ o3 s3 h3 p3 pa3 q3 o s2 h2 p pa2 q2 z1 z2 z3 z4 _ (((hm.made _).made _).made _) (((ht.made _).made _).made _) y x hq
  rw [HR.out] at CN
  refine CN.mono ?_
  clear y x hq CN HR
  rintro e w9 ⟨rfl, b9⟩
  have B9 := Lib.hid (B.trans (b9.mono B.size))
  clear B b9
  go_wp2
  go_ret
  exact ⟨ret_bool HF.out, B9.out⟩
theorem isNear_hid (o3 : Bool) (s3 h3 : ByteArray) (p3 : Int) (pa3 q3 : ByteArray) (o : Bool) (s2 h2 : ByteArray) (p : Int) (pa2 q2 : ByteArray) (z1 : s3.size ≤ 100000) (z2 : h3.size ≤ 100000) (z3 : pa3.size ≤ 100000) (z4 : q3.size ≤ 100000) (b : Bool) (hb : nearL (uM o s2 h2 p pa2 q2) (uM o3 s3 h3 p3 pa3 q3) = b) : Hid (∀ W, MaxIn W → TabIn W → Calls Tryz.prog 52 #[uV o3 s3 h3 p3 pa3 q3, uV o s2 h2 p pa2 q2] W fun e w' => e = .returned (.bool b) ∧ Below W.heap.size W w') :=
  Lib.hid fun W hm ht => by rw [← hb]; exact isNear_any o3 s3 h3 p3 pa3 q3 o s2 h2 p pa2 q2 z1 z2 z3 z4 W hm ht

end Go.Proofs.YtaldjkbnngeahaaGreatDoor
