/- The walk: how a text is parted plays no part. -/
import Derived.Test.YtmdpilpghcapbaaLawNil
import Derived.Deep.RegionHeld3
namespace Go.Proofs.Ytmdpilpghcapbaa
open Go.RowKit

theorem extract_toList (s : ByteArray) (i j : Nat) : (s.extract i j).data.toList = (s.data.toList.drop i).take (j - i) := by
  simp [ByteArray.data_extract, List.extract_eq_take_drop]

theorem slice_l (s : ByteArray) (a : Nat) (h : a ≤ s.size) : ∀ W, (Instr.slice 9 (.string s) none (some (.int .i64 (a : Int))) none).run Try.prog W = .ok (.string (s.extract 0 a)) W := fun W => by
  simp [Instr.slice, run_underlying Try.underlying9, Instr.sliceBounds, run_sliceBound, h]
theorem slice_lh (s : ByteArray) (a b : Nat) (hab : a ≤ b) (h : b ≤ s.size) : ∀ W, (Instr.slice 9 (.string s) (some (.int .i64 (a : Int))) (some (.int .i64 (b : Int))) none).run Try.prog W = .ok (.string (s.extract a b)) W := fun W => by
  simp [Instr.slice, run_underlying Try.underlying9, Instr.sliceBounds, run_sliceBound, h, hab]
theorem slice_h (s : ByteArray) (b : Nat) (h : b ≤ s.size) : ∀ W, (Instr.slice 9 (.string s) (some (.int .i64 (b : Int))) none none).run Try.prog W = .ok (.string (s.extract b s.size)) W := fun W => by
  simp [Instr.slice, run_underlying Try.underlying9, Instr.sliceBounds, run_sliceBound, h]

set_option maxRecDepth 100000 in
set_option maxHeartbeats 2000000 in
theorem parted_in (s : ByteArray) (a b : Nat) (hs : s.size ≤ 3000) (hab : a ≤ b) (hb : b ≤ s.size) (w : World) :
    Calls Try.prog 5 #[.string s, .int .i64 (a : Int), .int .i64 (b : Int)] w fun e w' => e = .returned (.bool true) ∧ Below w.heap.size w w' := by
  have hz : ¬ (3000 : Int) < (s.size : Int) := by omega
  have hz2 : ¬ (a : Int) < 0 := by omega
  have hz3 : ¬ (b : Int) < (a : Int) := by omega
  have hz4 : ¬ (s.size : Int) < (b : Int) := by omega
  obtain ⟨M, hM⟩ := text_of (markL s.data.toList)
  have hMs : M.size = 16 := by rw [← lsize, hM]; rfl
  have C1 := of_one s M hM (by omega)
  have hfl : [(s.extract 0 a).data.toList, (s.extract a b).data.toList, (s.extract b s.size).data.toList].flatten = s.data.toList := by
    simp only [List.flatten_cons, List.flatten_nil, List.append_nil, extract_toList, List.drop_zero, Nat.sub_zero]
    have e1 : s.data.toList.drop a = (s.data.toList.drop a).take (b - a) ++ (s.data.toList.drop a).drop (b - a) := (List.take_append_drop _ _).symm
    rw [List.drop_drop, Nat.add_sub_cancel' hab] at e1
    have e2 : (s.data.toList.drop b).take (s.size - b) = s.data.toList.drop b := List.take_of_length_le (by simp)
    rw [e2, ← e1, List.take_append_drop]
  have C3 := of_to [(s.extract 0 a).data.toList, (s.extract a b).data.toList, (s.extract b s.size).data.toList] M (by rw [hfl, hM]) (by simp) (by rw [hfl, lsize]; omega)
  have s1 := slice_l s a (by omega)
  have s2 := slice_lh s a b hab hb
  have s3 := slice_h s b hb
  clear hM hfl
  go_enter Try.func5, Try.ntmps5
  go_wp2_with fail
  refine (C1.out _ _ (textsIn_new _ [s.data.toList] _ rfl 1 rfl _)).mono ?_
  rintro e w1 ⟨rfl, b1⟩
  have B1 := ((Below.refl _ _).alloc (Nat.le_refl _) _).trans (b1.mono (by simp))
  clear b1
  go_wp2
  go_region_held3 (fun w' => Below w.heap.size w w') (first
    | exact B1
    | exact B1.drew
    | exact B2
    | exact B2.alloc B2.size _
    | exact B3
    | go_keep) (first
    | (go_at_call 11; (with_reducible refine (marks_any _).mono ?_); rintro e w2 ⟨rfl, hb2⟩
       have B2 : Below w.heap.size w w2 := (B1.drew).trans (hb2.mono (B1.drew).size)
       clear hb2)
    | (go_at_call 12; (with_reducible refine (C3.out _ _ (textsIn_new _ [(s.extract 0 a).data.toList, (s.extract a b).data.toList, (s.extract b s.size).data.toList] #[.string (s.extract 0 a), .string (s.extract a b), .string (s.extract b s.size)] rfl 3 rfl 3)).mono ?_); rintro e w3 ⟨rfl, hb3⟩
       have b3' := ((Below.refl _ _).alloc (Nat.le_refl _) _).trans (hb3.mono (by simp))
       have B3 := B2.trans (b3'.mono B2.size)
       clear hb3 b3'))
  go_wp2
  go_ret
  exact ⟨rfl, B3⟩

set_option maxRecDepth 100000 in
set_option maxHeartbeats 1000000 in
theorem parted_law (s : ByteArray) (x y : Int) (w : World) :
    Calls Try.prog 5 #[.string s, .int .i64 x, .int .i64 y] w fun e w' => e = .returned (.bool true) ∧ Below w.heap.size w w' := by
  by_cases h1 : (3000 : Int) < (s.size : Int)
  · go_enter Try.func5, Try.ntmps5
    go_wp2_with fail
    refine (marks_any _).mono ?_
    rintro e w1 ⟨rfl, B1⟩
    go_wp2
    go_ret
    exact ⟨rfl, B1⟩
  by_cases h2 : x < 0
  · go_enter Try.func5, Try.ntmps5
    go_wp2_with fail
    refine (marks_any _).mono ?_
    rintro e w1 ⟨rfl, B1⟩
    go_wp2
    go_ret
    exact ⟨rfl, B1⟩
  by_cases h3 : y < x
  · go_enter Try.func5, Try.ntmps5
    go_wp2_with fail
    refine (marks_any _).mono ?_
    rintro e w1 ⟨rfl, B1⟩
    go_wp2
    go_ret
    exact ⟨rfl, B1⟩
  by_cases h4 : (s.size : Int) < y
  · go_enter Try.func5, Try.ntmps5
    go_wp2_with fail
    refine (marks_any _).mono ?_
    rintro e w1 ⟨rfl, B1⟩
    go_wp2
    go_ret
    exact ⟨rfl, B1⟩
  obtain ⟨a, rfl⟩ : ∃ a : Nat, x = (a : Int) := ⟨x.toNat, by omega⟩
  obtain ⟨b, rfl⟩ : ∃ b : Nat, y = (b : Int) := ⟨y.toNat, by omega⟩
  exact parted_in s a b (by omega) (by omega) (by omega) w

end Go.Proofs.Ytmdpilpghcapbaa
