/- The names of a kind: the program's. -/
import Derived.Test.YthnogdodlhkldaaGreatDoorFoldZ
import Derived.Test.YthnogdodlhkldaaGreatDoorPureC
namespace Go.Proofs.YthnogdodlhkldaaGreatDoor
open Go.RowKit


set_option maxRecDepth 100000 in
set_option maxHeartbeats 2000000 in
theorem chNames_1 (w : World) : Calls Tryz.prog 17 #[.int .i64 1] w fun e w' => ∃ u, e = .returned u ∧ w'.ownsRow w.heap.size 9 1 u 3 (txtCells [nElem, nScr, nDef]) ∧ Below w.heap.size w w' := by
  have own0 : (w.alloc (.cells #[] 9)).ownsRow w.heap.size 9 1 (.slice (some ⟨w.heap.size, 0, none⟩) 0 0) 0 [] := World.ownsRow_made w #[] 0 (Nat.le_refl _) (Nat.zero_le _) rfl
  have b0 : Below w.heap.size w (w.alloc (.cells #[] 9)) := (Below.refl _ _).alloc (Nat.le_refl _) _
  have HO1 := Lib.hid (own0.alloc (.cells #[.string ⟨#[115, 99, 114, 105, 112, 116, 45, 115, 114, 99, 45, 101, 108, 101, 109]⟩] 9))
  have HB1 := Lib.hid (b0.alloc b0.size (.cells #[.string ⟨#[115, 99, 114, 105, 112, 116, 45, 115, 114, 99, 45, 101, 108, 101, 109]⟩] 9))
  have HT1 : Hid (TextsIn ((w.alloc (.cells #[] 9)).alloc (.cells #[.string ⟨#[115, 99, 114, 105, 112, 116, 45, 115, 114, 99, 45, 101, 108, 101, 109]⟩] 9)) (.slice (some ⟨w.heap.size + 1, 0, none⟩) 1 1) [nElem]) := Lib.hid (by
    have := textsIn_new (w.alloc (.cells #[] 9)) [nElem] #[.string ⟨#[115, 99, 114, 105, 112, 116, 45, 115, 114, 99, 45, 101, 108, 101, 109]⟩] rfl 1 rfl 1
    rwa [World.size_alloc] at this)
  clear own0 b0
  go_enter Tryz.func17, Tryz.ntmps17
  go_wp2_with (at_builtin; first
    | (refine wpList_append_in rfl _ _ rfl w.heap.size _ 0 [] rfl HO1.out _ [nElem] rfl HT1.out (by decide) HB1.out.size ?_; intro v1 w5 hown5 hgr5
       have X1 : Aside (w5.ownsRow w.heap.size 9 1 v1 1 (txtCells [nElem]) ∧ Below w.heap.size w w5) := ⟨hown5, Below.grown HB1.out hgr5 HB1.out.size (fun q hq => (HO1.out.lt q hq).1)⟩
       clear hown5 hgr5 HO1 HB1 HT1)
    | (refine wpList_append_in rfl _ _ rfl w.heap.size _ 1 _ rfl (X1.out.1.alloc _) _ [nScr, nDef] rfl (textsIn_new w5 [nScr, nDef] _ rfl 2 rfl 2) (by decide) (Nat.le_trans X1.out.2.size (by rw [World.size_alloc]; omega)) ?_; intro v2 w6 hown6 hgr6
       have X2 : Aside (w6.ownsRow w.heap.size 9 1 v2 3 (txtCells [nElem, nScr, nDef]) ∧ Below w.heap.size w w6) := ⟨hown6, Below.grown (X1.out.2.alloc X1.out.2.size _) hgr6 (Nat.le_trans X1.out.2.size (by rw [World.size_alloc]; omega)) (fun q hq => (X1.out.1.lt q hq).1)⟩
       clear hown6 hgr6))
  go_ret
  exact ⟨_, rfl, X2.out.1, X2.out.2⟩

set_option maxRecDepth 100000 in
set_option maxHeartbeats 2000000 in
theorem chNames_2 (w : World) : Calls Tryz.prog 17 #[.int .i64 2] w fun e w' => ∃ u, e = .returned u ∧ w'.ownsRow w.heap.size 9 1 u 3 (txtCells [nElem, nScr, nDef]) ∧ Below w.heap.size w w' := by
  have own0 : (w.alloc (.cells #[] 9)).ownsRow w.heap.size 9 1 (.slice (some ⟨w.heap.size, 0, none⟩) 0 0) 0 [] := World.ownsRow_made w #[] 0 (Nat.le_refl _) (Nat.zero_le _) rfl
  have b0 : Below w.heap.size w (w.alloc (.cells #[] 9)) := (Below.refl _ _).alloc (Nat.le_refl _) _
  have HO1 := Lib.hid (own0.alloc (.cells #[.string ⟨#[115, 99, 114, 105, 112, 116, 45, 115, 114, 99, 45, 101, 108, 101, 109]⟩] 9))
  have HB1 := Lib.hid (b0.alloc b0.size (.cells #[.string ⟨#[115, 99, 114, 105, 112, 116, 45, 115, 114, 99, 45, 101, 108, 101, 109]⟩] 9))
  have HT1 : Hid (TextsIn ((w.alloc (.cells #[] 9)).alloc (.cells #[.string ⟨#[115, 99, 114, 105, 112, 116, 45, 115, 114, 99, 45, 101, 108, 101, 109]⟩] 9)) (.slice (some ⟨w.heap.size + 1, 0, none⟩) 1 1) [nElem]) := Lib.hid (by
    have := textsIn_new (w.alloc (.cells #[] 9)) [nElem] #[.string ⟨#[115, 99, 114, 105, 112, 116, 45, 115, 114, 99, 45, 101, 108, 101, 109]⟩] rfl 1 rfl 1
    rwa [World.size_alloc] at this)
  clear own0 b0
  go_enter Tryz.func17, Tryz.ntmps17
  go_wp2_with (at_builtin; first
    | (refine wpList_append_in rfl _ _ rfl w.heap.size _ 0 [] rfl HO1.out _ [nElem] rfl HT1.out (by decide) HB1.out.size ?_; intro v1 w5 hown5 hgr5
       have X1 : Aside (w5.ownsRow w.heap.size 9 1 v1 1 (txtCells [nElem]) ∧ Below w.heap.size w w5) := ⟨hown5, Below.grown HB1.out hgr5 HB1.out.size (fun q hq => (HO1.out.lt q hq).1)⟩
       clear hown5 hgr5 HO1 HB1 HT1)
    | (refine wpList_append_in rfl _ _ rfl w.heap.size _ 1 _ rfl (X1.out.1.alloc _) _ [nScr, nDef] rfl (textsIn_new w5 [nScr, nDef] _ rfl 2 rfl 2) (by decide) (Nat.le_trans X1.out.2.size (by rw [World.size_alloc]; omega)) ?_; intro v2 w6 hown6 hgr6
       have X2 : Aside (w6.ownsRow w.heap.size 9 1 v2 3 (txtCells [nElem, nScr, nDef]) ∧ Below w.heap.size w w6) := ⟨hown6, Below.grown (X1.out.2.alloc X1.out.2.size _) hgr6 (Nat.le_trans X1.out.2.size (by rw [World.size_alloc]; omega)) (fun q hq => (X1.out.1.lt q hq).1)⟩
       clear hown6 hgr6))
  go_ret
  exact ⟨_, rfl, X2.out.1, X2.out.2⟩

set_option maxRecDepth 100000 in
set_option maxHeartbeats 2000000 in
theorem chNames_3 (w : World) : Calls Tryz.prog 17 #[.int .i64 3] w fun e w' => ∃ u, e = .returned u ∧ w'.ownsRow w.heap.size 9 1 u 3 (txtCells [nAttr, nScr, nDef]) ∧ Below w.heap.size w w' := by
  have own0 : (w.alloc (.cells #[] 9)).ownsRow w.heap.size 9 1 (.slice (some ⟨w.heap.size, 0, none⟩) 0 0) 0 [] := World.ownsRow_made w #[] 0 (Nat.le_refl _) (Nat.zero_le _) rfl
  have b0 : Below w.heap.size w (w.alloc (.cells #[] 9)) := (Below.refl _ _).alloc (Nat.le_refl _) _
  have HO1 := Lib.hid (own0.alloc (.cells #[.string ⟨#[115, 99, 114, 105, 112, 116, 45, 115, 114, 99, 45, 97, 116, 116, 114]⟩] 9))
  have HB1 := Lib.hid (b0.alloc b0.size (.cells #[.string ⟨#[115, 99, 114, 105, 112, 116, 45, 115, 114, 99, 45, 97, 116, 116, 114]⟩] 9))
  have HT1 : Hid (TextsIn ((w.alloc (.cells #[] 9)).alloc (.cells #[.string ⟨#[115, 99, 114, 105, 112, 116, 45, 115, 114, 99, 45, 97, 116, 116, 114]⟩] 9)) (.slice (some ⟨w.heap.size + 1, 0, none⟩) 1 1) [nAttr]) := Lib.hid (by
    have := textsIn_new (w.alloc (.cells #[] 9)) [nAttr] #[.string ⟨#[115, 99, 114, 105, 112, 116, 45, 115, 114, 99, 45, 97, 116, 116, 114]⟩] rfl 1 rfl 1
    rwa [World.size_alloc] at this)
  clear own0 b0
  go_enter Tryz.func17, Tryz.ntmps17
  go_wp2_with (at_builtin; first
    | (refine wpList_append_in rfl _ _ rfl w.heap.size _ 0 [] rfl HO1.out _ [nAttr] rfl HT1.out (by decide) HB1.out.size ?_; intro v1 w5 hown5 hgr5
       have X1 : Aside (w5.ownsRow w.heap.size 9 1 v1 1 (txtCells [nAttr]) ∧ Below w.heap.size w w5) := ⟨hown5, Below.grown HB1.out hgr5 HB1.out.size (fun q hq => (HO1.out.lt q hq).1)⟩
       clear hown5 hgr5 HO1 HB1 HT1)
    | (refine wpList_append_in rfl _ _ rfl w.heap.size _ 1 _ rfl (X1.out.1.alloc _) _ [nScr, nDef] rfl (textsIn_new w5 [nScr, nDef] _ rfl 2 rfl 2) (by decide) (Nat.le_trans X1.out.2.size (by rw [World.size_alloc]; omega)) ?_; intro v2 w6 hown6 hgr6
       have X2 : Aside (w6.ownsRow w.heap.size 9 1 v2 3 (txtCells [nAttr, nScr, nDef]) ∧ Below w.heap.size w w6) := ⟨hown6, Below.grown (X1.out.2.alloc X1.out.2.size _) hgr6 (Nat.le_trans X1.out.2.size (by rw [World.size_alloc]; omega)) (fun q hq => (X1.out.1.lt q hq).1)⟩
       clear hown6 hgr6))
  go_ret
  exact ⟨_, rfl, X2.out.1, X2.out.2⟩

set_option maxRecDepth 100000 in
set_option maxHeartbeats 2000000 in
theorem chNames_4 (w : World) : Calls Tryz.prog 17 #[.int .i64 4] w fun e w' => ∃ u, e = .returned u ∧ w'.ownsRow w.heap.size 9 1 u 3 (txtCells [nElem, nScr, nDef]) ∧ Below w.heap.size w w' := by
  have own0 : (w.alloc (.cells #[] 9)).ownsRow w.heap.size 9 1 (.slice (some ⟨w.heap.size, 0, none⟩) 0 0) 0 [] := World.ownsRow_made w #[] 0 (Nat.le_refl _) (Nat.zero_le _) rfl
  have b0 : Below w.heap.size w (w.alloc (.cells #[] 9)) := (Below.refl _ _).alloc (Nat.le_refl _) _
  have HO1 := Lib.hid (own0.alloc (.cells #[.string ⟨#[115, 99, 114, 105, 112, 116, 45, 115, 114, 99, 45, 101, 108, 101, 109]⟩] 9))
  have HB1 := Lib.hid (b0.alloc b0.size (.cells #[.string ⟨#[115, 99, 114, 105, 112, 116, 45, 115, 114, 99, 45, 101, 108, 101, 109]⟩] 9))
  have HT1 : Hid (TextsIn ((w.alloc (.cells #[] 9)).alloc (.cells #[.string ⟨#[115, 99, 114, 105, 112, 116, 45, 115, 114, 99, 45, 101, 108, 101, 109]⟩] 9)) (.slice (some ⟨w.heap.size + 1, 0, none⟩) 1 1) [nElem]) := Lib.hid (by
    have := textsIn_new (w.alloc (.cells #[] 9)) [nElem] #[.string ⟨#[115, 99, 114, 105, 112, 116, 45, 115, 114, 99, 45, 101, 108, 101, 109]⟩] rfl 1 rfl 1
    rwa [World.size_alloc] at this)
  clear own0 b0
  go_enter Tryz.func17, Tryz.ntmps17
  go_wp2_with (at_builtin; first
    | (refine wpList_append_in rfl _ _ rfl w.heap.size _ 0 [] rfl HO1.out _ [nElem] rfl HT1.out (by decide) HB1.out.size ?_; intro v1 w5 hown5 hgr5
       have X1 : Aside (w5.ownsRow w.heap.size 9 1 v1 1 (txtCells [nElem]) ∧ Below w.heap.size w w5) := ⟨hown5, Below.grown HB1.out hgr5 HB1.out.size (fun q hq => (HO1.out.lt q hq).1)⟩
       clear hown5 hgr5 HO1 HB1 HT1)
    | (refine wpList_append_in rfl _ _ rfl w.heap.size _ 1 _ rfl (X1.out.1.alloc _) _ [nScr, nDef] rfl (textsIn_new w5 [nScr, nDef] _ rfl 2 rfl 2) (by decide) (Nat.le_trans X1.out.2.size (by rw [World.size_alloc]; omega)) ?_; intro v2 w6 hown6 hgr6
       have X2 : Aside (w6.ownsRow w.heap.size 9 1 v2 3 (txtCells [nElem, nScr, nDef]) ∧ Below w.heap.size w w6) := ⟨hown6, Below.grown (X1.out.2.alloc X1.out.2.size _) hgr6 (Nat.le_trans X1.out.2.size (by rw [World.size_alloc]; omega)) (fun q hq => (X1.out.1.lt q hq).1)⟩
       clear hown6 hgr6))
  go_ret
  exact ⟨_, rfl, X2.out.1, X2.out.2⟩

set_option maxRecDepth 100000 in
set_option maxHeartbeats 2000000 in
theorem chNames_5 (w : World) : Calls Tryz.prog 17 #[.int .i64 5] w fun e w' => ∃ u, e = .returned u ∧ w'.ownsRow w.heap.size 9 1 u 2 (txtCells [nScr, nDef]) ∧ Below w.heap.size w w' := by
  have own0 : (w.alloc (.cells #[] 9)).ownsRow w.heap.size 9 1 (.slice (some ⟨w.heap.size, 0, none⟩) 0 0) 0 [] := World.ownsRow_made w #[] 0 (Nat.le_refl _) (Nat.zero_le _) rfl
  have b0 : Below w.heap.size w (w.alloc (.cells #[] 9)) := (Below.refl _ _).alloc (Nat.le_refl _) _
  have HO1 := Lib.hid (own0.alloc (.cells #[.string ⟨#[115, 99, 114, 105, 112, 116, 45, 115, 114, 99]⟩, .string ⟨#[100, 101, 102, 97, 117, 108, 116, 45, 115, 114, 99]⟩] 9))
  have HB1 := Lib.hid (b0.alloc b0.size (.cells #[.string ⟨#[115, 99, 114, 105, 112, 116, 45, 115, 114, 99]⟩, .string ⟨#[100, 101, 102, 97, 117, 108, 116, 45, 115, 114, 99]⟩] 9))
  have HT1 : Hid (TextsIn ((w.alloc (.cells #[] 9)).alloc (.cells #[.string ⟨#[115, 99, 114, 105, 112, 116, 45, 115, 114, 99]⟩, .string ⟨#[100, 101, 102, 97, 117, 108, 116, 45, 115, 114, 99]⟩] 9)) (.slice (some ⟨w.heap.size + 1, 0, none⟩) 2 2) [nScr, nDef]) := Lib.hid (by
    have := textsIn_new (w.alloc (.cells #[] 9)) [nScr, nDef] #[.string ⟨#[115, 99, 114, 105, 112, 116, 45, 115, 114, 99]⟩, .string ⟨#[100, 101, 102, 97, 117, 108, 116, 45, 115, 114, 99]⟩] rfl 2 rfl 2
    rwa [World.size_alloc] at this)
  clear own0 b0
  go_enter Tryz.func17, Tryz.ntmps17
  go_wp2_with (at_builtin; first
    | (refine wpList_append_in rfl _ _ rfl w.heap.size _ 0 [] rfl HO1.out _ [nScr, nDef] rfl HT1.out (by decide) HB1.out.size ?_; intro v1 w5 hown5 hgr5
       have X1 : Aside (w5.ownsRow w.heap.size 9 1 v1 2 (txtCells [nScr, nDef]) ∧ Below w.heap.size w w5) := ⟨hown5, Below.grown HB1.out hgr5 HB1.out.size (fun q hq => (HO1.out.lt q hq).1)⟩
       clear hown5 hgr5 HO1 HB1 HT1))
  go_ret
  exact ⟨_, rfl, X1.out.1, X1.out.2⟩

set_option maxRecDepth 100000 in
set_option maxHeartbeats 2000000 in
theorem chNames_6 (w : World) : Calls Tryz.prog 17 #[.int .i64 6] w fun e w' => ∃ u, e = .returned u ∧ w'.ownsRow w.heap.size 9 1 u 2 (txtCells [nScr, nDef]) ∧ Below w.heap.size w w' := by
  have own0 : (w.alloc (.cells #[] 9)).ownsRow w.heap.size 9 1 (.slice (some ⟨w.heap.size, 0, none⟩) 0 0) 0 [] := World.ownsRow_made w #[] 0 (Nat.le_refl _) (Nat.zero_le _) rfl
  have b0 : Below w.heap.size w (w.alloc (.cells #[] 9)) := (Below.refl _ _).alloc (Nat.le_refl _) _
  have HO1 := Lib.hid (own0.alloc (.cells #[.string ⟨#[115, 99, 114, 105, 112, 116, 45, 115, 114, 99]⟩, .string ⟨#[100, 101, 102, 97, 117, 108, 116, 45, 115, 114, 99]⟩] 9))
  have HB1 := Lib.hid (b0.alloc b0.size (.cells #[.string ⟨#[115, 99, 114, 105, 112, 116, 45, 115, 114, 99]⟩, .string ⟨#[100, 101, 102, 97, 117, 108, 116, 45, 115, 114, 99]⟩] 9))
  have HT1 : Hid (TextsIn ((w.alloc (.cells #[] 9)).alloc (.cells #[.string ⟨#[115, 99, 114, 105, 112, 116, 45, 115, 114, 99]⟩, .string ⟨#[100, 101, 102, 97, 117, 108, 116, 45, 115, 114, 99]⟩] 9)) (.slice (some ⟨w.heap.size + 1, 0, none⟩) 2 2) [nScr, nDef]) := Lib.hid (by
    have := textsIn_new (w.alloc (.cells #[] 9)) [nScr, nDef] #[.string ⟨#[115, 99, 114, 105, 112, 116, 45, 115, 114, 99]⟩, .string ⟨#[100, 101, 102, 97, 117, 108, 116, 45, 115, 114, 99]⟩] rfl 2 rfl 2
    rwa [World.size_alloc] at this)
  clear own0 b0
  go_enter Tryz.func17, Tryz.ntmps17
  go_wp2_with (at_builtin; first
    | (refine wpList_append_in rfl _ _ rfl w.heap.size _ 0 [] rfl HO1.out _ [nScr, nDef] rfl HT1.out (by decide) HB1.out.size ?_; intro v1 w5 hown5 hgr5
       have X1 : Aside (w5.ownsRow w.heap.size 9 1 v1 2 (txtCells [nScr, nDef]) ∧ Below w.heap.size w w5) := ⟨hown5, Below.grown HB1.out hgr5 HB1.out.size (fun q hq => (HO1.out.lt q hq).1)⟩
       clear hown5 hgr5 HO1 HB1 HT1))
  go_ret
  exact ⟨_, rfl, X1.out.1, X1.out.2⟩

set_option maxRecDepth 100000 in
set_option maxHeartbeats 2000000 in
theorem chNames_no (k : Int) (n1 : (k == 1) = false) (n2 : (k == 2) = false) (n3 : (k == 3) = false) (n4 : (k == 4) = false) (n5 : (k == 5) = false) (n6 : (k == 6) = false) (w : World) : Calls Tryz.prog 17 #[.int .i64 k] w fun e w' => ∃ u, e = .returned u ∧ w'.ownsRow w.heap.size 9 1 u 0 (txtCells []) ∧ Below w.heap.size w w' := by
  have own0 : (w.alloc (.cells #[] 9)).ownsRow w.heap.size 9 1 (.slice (some ⟨w.heap.size, 0, none⟩) 0 0) 0 [] := World.ownsRow_made w #[] 0 (Nat.le_refl _) (Nat.zero_le _) rfl
  have b0 : Below w.heap.size w (w.alloc (.cells #[] 9)) := (Below.refl _ _).alloc (Nat.le_refl _) _
  have H0 := Lib.hid (And.intro own0 b0)
  clear own0 b0
  go_enter Tryz.func17, Tryz.ntmps17
  go_wp2
  go_ret
  exact ⟨_, rfl, H0.out.1, H0.out.2⟩
theorem chNames_any (k : Int) (w : World) : Calls Tryz.prog 17 #[.int .i64 k] w fun e w' => ∃ u, e = .returned u ∧ w'.ownsRow w.heap.size 9 1 u (namesC k).length (txtCells (namesC k)) ∧ Below w.heap.size w w' := by
  by_cases h1 : k = 1
  · subst h1; exact chNames_1 w
  by_cases h2 : k = 2
  · subst h2; exact chNames_2 w
  by_cases h3 : k = 3
  · subst h3; exact chNames_3 w
  by_cases h4 : k = 4
  · subst h4; exact chNames_4 w
  by_cases h5 : k = 5
  · subst h5; exact chNames_5 w
  by_cases h6 : k = 6
  · subst h6; exact chNames_6 w
  have e : namesC k = [] := by
    unfold namesC
    rw [if_neg (by omega), if_neg h3, if_neg (by omega)]
  rw [e]
  exact chNames_no k (beq_eq_false_iff_ne.2 h1) (beq_eq_false_iff_ne.2 h2) (beq_eq_false_iff_ne.2 h3) (beq_eq_false_iff_ne.2 h4) (beq_eq_false_iff_ne.2 h5) (beq_eq_false_iff_ne.2 h6) w
theorem chNames_hid (k : Int) : Hid (∀ w, Calls Tryz.prog 17 #[.int .i64 k] w fun e w' => ∃ u, e = .returned u ∧ w'.ownsRow w.heap.size 9 1 u (namesC k).length (txtCells (namesC k)) ∧ Below w.heap.size w w') := Lib.hid fun w => chNames_any k w

end Go.Proofs.YthnogdodlhkldaaGreatDoor
