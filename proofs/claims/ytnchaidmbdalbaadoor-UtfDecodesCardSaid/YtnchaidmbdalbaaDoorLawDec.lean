/-
  PROVED: bytes are decoded as just the document's text, of just its code points, and they stay; for every slice of bytes.
  Conditions: the form's own reach, and that the two tables of unicode/utf8 begin as the program's text lays them (the tied card).
-/
import Derived.Test.YtnchaidmbdalbaaDoorApp
import Derived.Deep.RegionWith
import Derived.Deep.DeepHandedRow
namespace Go.Proofs.YtnchaidmbdalbaaDoor
open Go.ChangeShapes Go.WideShapes Go.ChangeAt Go.RowKit

set_option maxRecDepth 100000 in
set_option maxHeartbeats 4000000 in
theorem dec_law (l : List UInt8) (v : Value) (w : World) (hv : BytesIn w v l) (hT : Lib.Utf8Tabs 0 1 w) :
    Calls Tryd.prog 3 #[v] w fun e w' => e = .returned (.bool true) ∧ Below w.heap.size w w' := by
  obtain ⟨a, c, rfl⟩ := hv.form
  by_cases hl : 5000 < l.length
  · have hz : (5000 : Int) < (l.length : Int) := by omega
    clear hl hv hT
    go_enter Tryd.func3, Tryd.ntmps3
    go_wp2
    go_ret
    exact ⟨rfl, Below.refl _ _⟩
  · have hz : ¬ (5000 : Int) < (l.length : Int) := by omega
    have hl2 : l.length ≤ 1099511627776 := by omega
    have hl3 : (⟨l.toArray⟩ : ByteArray).size ≤ 1099511627776 := by rw [bsize]; exact hl2
    have hpl := (pts_len l).1
    go_enter Tryd.func3, Tryd.ntmps3
    go_wp2_with (first
      | (at_builtin; refine wpList_append_in22 rfl _ _ rfl w.heap.size _ 0 [] rfl (World.ownsRow_nil w w.heap.size 5 1) _ l rfl hv (by omega) (Nat.le_refl _) ?_; intro v1 w1 hown1 hgrow1
         rw [Nat.zero_add, List.nil_append] at hown1
         have B1 : Below w.heap.size w w1 := Below.grown (Below.refl _ _) hgrow1 (Nat.le_refl _) (fun j hj => by cases hj)
         have V1 := hv.below B1
         have T1 := tabs_below hT B1
         clear hgrow1)
      | (go_at_call 10; refine (decode_any l _ _ hl2 V1 T1).mono ?_; rintro e w2 ⟨rfl, hb2⟩))
    have B2 : Below w.heap.size w w2 := B1.trans (hb2.mono B1.size)
    have T2 := tabs_below hT B2
    have V2 := hv.below B2
    have O2 := BytesIn.of_row (ownsRow_below hown1 hb2)
    clear hv hT V1 T1 hown1 B1 hb2 hz hl
    have hd : ∀ W, Below w2.heap.size w2 W → Calls Tryd.prog 11 #[] W fun e W' => e = .returned (.bool true) ∧ Below W.heap.size W W' := fun W hb => decodes_any W (tabs_below T2 hb)
    have hp : ∀ W, Calls Tryd.prog 14 #[.string ⟨l.toArray⟩] W fun e W' => ∃ v, e = .returned v ∧ IntsIn W' v ((pts l).map fun (c : Nat) => (c : Int)) ∧ Below W.heap.size W W' := fun W => (points_any ⟨l.toArray⟩ W hl3).mono fun e W' ⟨v, h1, h2, h3⟩ => ⟨v, h1, IntsIn.of_row h2, h3⟩
    have hq : ∀ W, Calls Tryd.prog 15 #[.string ⟨l.toArray⟩] W fun e W' => ∃ v, e = .returned v ∧ IntsIn W' v ((pts l).map fun (c : Nat) => (c : Int)) ∧ Below W.heap.size W W' := fun W => (refPoints_any ⟨l.toArray⟩ W hl3).mono fun e W' ⟨v, h1, h2, h3⟩ => ⟨v, h1, IntsIn.of_row h2, h3⟩
    have hr : ∀ W, Calls Tryd.prog 12 #[.string ⟨l.toArray⟩] W fun e W' => e = .returned (.string ⟨(dec l).toArray⟩) ∧ Below W.heap.size W W' := fun W => refDecode_any ⟨l.toArray⟩ W hl3
    have hs : ∀ (W : World) (u v : Value), IntsIn W u ((pts l).map fun (c : Nat) => (c : Int)) → IntsIn W v ((pts l).map fun (c : Nat) => (c : Int)) → Calls Tryd.prog 13 #[u, v] W fun e W' => e = .returned (.bool true) ∧ Below W.heap.size W W' := fun W u v h1 h2 => ints_same _ u v W h1 h2 (by simp; omega)
    have HD := Lib.hid hd
    have HP := Lib.hid hp
    have HQ := Lib.hid hq
    have HR := Lib.hid hr
    have HS := Lib.hid hs
    clear hd hp hq hr hs hpl
    go_region_with (first
      | (go_at_call 11; refine (HD.out _ ((Below.refl _ _).drew)).mono ?_; rintro e w3 ⟨rfl, hb3⟩
         have B3 : Below w2.heap.size w2 w3 := ((Below.refl _ _).drew).trans (hb3.mono (Nat.le_refl _))
         have cv3 := conv_in (O2.below B3))
      | (go_at_call 12; refine (HR.out _).mono ?_; rintro e w4 ⟨rfl, hb4⟩
         have B4 : Below w2.heap.size w2 w4 := B3.trans (hb4.mono B3.size)
         have cv4 := conv_in (O2.below B4))
      | (go_at_call 14; refine (HP.out _).mono ?_; rintro e w5 ⟨v5, rfl, i5, hb5⟩
         try (have B5 : Below w2.heap.size w2 w5 := B4.trans (hb5.mono B4.size))
         try (have B5 : Below w2.heap.size w2 w5 := B6.trans (hb5.mono B6.size))
         have cv5 := conv_in (O2.below B5)
         try (have i6' := i6.below hb5))
      | (go_at_call 15; refine (HQ.out _).mono ?_; rintro e w6 ⟨v6, rfl, i6, hb6⟩
         try (have B6 : Below w2.heap.size w2 w6 := B4.trans (hb6.mono B4.size))
         try (have B6 : Below w2.heap.size w2 w6 := B5.trans (hb6.mono B5.size))
         have cv6 := conv_in (O2.below B6)
         try (have i5' := i5.below hb6))
      | (go_at_call 13; first | refine (HS.out _ _ _ i5 i6').mono ?_ | refine (HS.out _ _ _ i5' i6).mono ?_
         rintro e w7 ⟨rfl, hb7⟩
         first | (have B7 : Below w2.heap.size w2 w7 := B5.trans (hb7.mono B5.size)) | (have B7 : Below w2.heap.size w2 w7 := B6.trans (hb7.mono B6.size))
         have cv7 := conv_in (O2.below B7)
         have cb7 := conv_in (V2.below B7)))
    all_goals
      clear cv3 cv4 cv7 cb7 HD HP HQ HR HS
      go_wp2
      go_ret
      exact ⟨rfl, B2.trans (B7.mono B2.size)⟩

end Go.Proofs.YtnchaidmbdalbaaDoor
