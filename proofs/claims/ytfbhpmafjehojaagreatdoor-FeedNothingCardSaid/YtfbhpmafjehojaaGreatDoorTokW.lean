/- The document's reader: comments and doctypes. -/
import Derived.Test.YtfbhpmafjehojaaGreatDoorTokV
namespace Go.Proofs.YtfbhpmafjehojaaGreatDoor
open Go.RowKit

set_option maxRecDepth 100000 in
set_option maxHeartbeats 8000000 in
theorem noteQ_4_hit (s z D : ByteArray) (n p m : Nat) (hz : 0 < z.size) (hzs : z.size ≤ 100) (hp : p ≤ s.size) (hs : s.size ≤ 1000000) (hf : findT z.data.toList (s.data.toList.drop p) = some m) (hD : D.data.toList = (s.data.toList.drop p).take m) : Hid (∀ W B m0 Q T F x, QS W B m0 Q s n T F x → T.length ≤ 900000 → F.length ≤ 900000 → Calls Tryz.prog 87 #[.pointer (some ⟨Q, 0, none⟩), .int .i64 4, .int .i64 (p : Int), .string z] W fun e w' => e = .returned (.tuple #[]) ∧ QS w' B w'.heap.size Q s (p + m + z.size) (T ++ [⟨4, [], D.data.toList, [], false⟩]) (F) x ∧ Below B W w') := Lib.hid fun w B m0 Q T F x h hl hlF => by
  obtain ⟨i0, hi, hz0, hz1, hz2⟩ := info_parts TinfoT
  have CD := find_hid Q s z p hz hzs hp (by omega)
  have hv : findV s.data.toList z.data.toList p = ((p + m : Nat) : Int) := by unfold findV; rw [hf]
  rw [hv] at CD
  have hle := findT_le _ _ _ hf
  rw [List.length_drop, lsize, lsize] at hle
  obtain ⟨to', hto⟩ : ∃ to', p + m = to' := ⟨_, rfl⟩
  rw [hto] at CD
  have g1 := slice_mid s D p to' (by omega) (by omega) (by rw [hD]; congr 1; omega)
  have z1 : (0 : Int) ≤ (to' : Int) := by omega
  have z2 : (to' : Int) ≤ 1000000 := by omega
  have z3 : (z.size : Int) ≤ 100 := by omega
  rw [hto]
  clear hf hD hv hz hzs hp hs hle hto
  obtain ⟨tv, fv, h⟩ := h
  have d0 := h.q.c0
  have d2 := h.q.c2
  have hbw := h.bw
  obtain ⟨cs, t1, t2, t3⟩ := h.ht
  have HH := Lib.hid (And.intro h t3)
  obtain ⟨a, c, rfl⟩ := h.ht.form
  clear h t2 t3
  go_enter Tryz.func87, Tryz.ntmps87
  go_wp2_with fail
  (with_reducible refine (CD.out _ _ _ _ _ HH.out.1.q).mono ?_)
  rintro e w1 ⟨rfl, rfl⟩
  go_wp2_with (
    at_builtin
    go_loud (
      refine wpList_append_own_at _ rfl _ _ 23 rfl B 47 i0 (.agg #[.int .i64 0, .string ⟨#[]⟩, .string ⟨#[]⟩, .slice none 0 0, .bool false]) 5 72 Tryz.underlying23 hi hz0 hz1 hz2 rfl (by decide) _ _ _ rfl (t1.alloc _) ⟨w1.heap.size, 0, none⟩ 1 1 [.int .i64 4, .string ⟨#[]⟩, .string D, .slice none 0 0, .bool false] rfl rfl (cells_new w1 [.int .i64 4, .string ⟨#[]⟩, .string D, .slice none 0 0, .bool false] 47) (fun x hx => by simp at hx; rcases hx with rfl | rfl | rfl | rfl | rfl <;> rfl) (by unfold maxLen; omega) (by omega) (by simp; omega) ?_
      intro v6 w6 hown6 hgrow6 _ hat6
      have hown7 : w6.ownsRow B 47 5 v6 (T.length + 1) (cs ++ tkC ⟨4, [], D.data.toList, [], false⟩ (.slice none 0 0)) := by
        have e : tkC ⟨4, [], D.data.toList, [], false⟩ (.slice none 0 0) = [.int .i64 4, .string ⟨#[]⟩, .string D, .slice none 0 0, .bool false] := by
          unfold tkC
          rw [strV_of (T := D) rfl]
          rfl
        rw [e]
        exact hown6
      have HA := Lib.hid (HH.out.1.appended ((Below.refl _ _).alloc (Nat.le_refl _) _) t1 HH.out.2 (AttrsBy.nil _ _ _) hown7 hgrow6)
      have d6 := HA.out.1.c2
      have f6 := HA.out.1.free 2
      have f7 := HA.out.1.free 1
      have d7 := HA.out.1.c1
      have f8 := HA.out.2.1.q.free 1
      have d8 := HA.out.2.1.q.c1
      have HF6 : Hid (∃ a k, v6 = .slice a (T.length + 1) k) := Lib.hid (by
        rcases rowForms hown6 with ⟨e1, e2⟩ | ⟨g, k, e1⟩
        · exact ⟨none, 0, by rw [e1, e2]⟩
        · exact ⟨_, _, e1⟩)
      clear hown6 hgrow6 hat6 hown7
      obtain ⟨va, vk, rfl⟩ := HF6.out
      clear HF6))
  go_end0
  have q2 := HA.out.2.1
  have q3 := q2.moved (q2.q.set1 (to' + z.size)) (q2.q.kset 1 _)
  have B3 : Below B w1 _ := (HH.out.1.frQb HA.out.2.2).trans (q2.form.onb (q2.q.kset 1 (.int .i64 ((to' + z.size : Nat) : Int))))
  rw [Int.natCast_add] at q3 B3
  exact ⟨rfl, (q3.up q3.mw (Nat.le_refl _)).form, B3⟩

set_option maxRecDepth 100000 in
set_option maxHeartbeats 8000000 in
theorem noteQ_4_miss (s z D : ByteArray) (n p : Nat) (hz : 0 < z.size) (hzs : z.size ≤ 100) (hp : p ≤ s.size) (hs : s.size ≤ 1000000) (hf : findT z.data.toList (s.data.toList.drop p) = none) (hD : D.data.toList = s.data.toList.drop p) : Hid (∀ W B m0 Q T F x, QS W B m0 Q s n T F x → T.length ≤ 900000 → F.length ≤ 900000 → Calls Tryz.prog 87 #[.pointer (some ⟨Q, 0, none⟩), .int .i64 4, .int .i64 (p : Int), .string z] W fun e w' => e = .returned (.tuple #[]) ∧ QS w' B w'.heap.size Q s (s.size) (T ++ [⟨4, [], D.data.toList, [], false⟩]) (F ++ [((140 : Int), n)]) x ∧ Below B W w') := Lib.hid fun w B m0 Q T F x h hl hlF => by
  obtain ⟨i0, hi, hz0, hz1, hz2⟩ := info_parts TinfoT
  have CD := find_hid Q s z p hz hzs hp (by omega)
  have hv : findV s.data.toList z.data.toList p = -1 := by unfold findV; rw [hf]
  rw [hv] at CD
  have g1 := slice_mid s D p s.size hp (Nat.le_refl _) (by rw [hD, List.take_of_length_le (by rw [List.length_drop, lsize]; exact Nat.le_refl _)])
  have z3 : (z.size : Int) ≤ 100 := by omega
  clear hf hD hv hz hzs hp hs
  have HX := Lib.hid h
  obtain ⟨tv, fv, h⟩ := h
  have hq0 := h.q
  have hb0 := h.bw
  clear h
  go_enter Tryz.func87, Tryz.ntmps87
  go_wp2_with fail
  (with_reducible refine (CD.out _ _ _ _ _ hq0).mono ?_)
  rintro e w1 ⟨rfl, rfl⟩
  have d1 := hq0.c1
  go_wp2_with fail
  have CF := failQ_hid 140 n
  (with_reducible refine (CF.out _ _ _ _ _ _ _ _ _ HX.out (by omega)).mono ?_)
  rintro e w2 ⟨rfl, h2, k2⟩
  have B2 := HX.out.frb k2
  clear k2 d1 hq0 CF CD HX
  obtain ⟨tv2, fv2, h⟩ := h2
  have d0 := h.q.c0
  have d2 := h.q.c2
  have hbw := h.bw
  obtain ⟨cs, t1, t2, t3⟩ := h.ht
  have HH := Lib.hid (And.intro h t3)
  obtain ⟨a, c, rfl⟩ := h.ht.form
  clear h t2 t3
  go_wp2_with (
    at_builtin
    go_loud (
      refine wpList_append_own_at _ rfl _ _ 23 rfl B 47 i0 (.agg #[.int .i64 0, .string ⟨#[]⟩, .string ⟨#[]⟩, .slice none 0 0, .bool false]) 5 72 Tryz.underlying23 hi hz0 hz1 hz2 rfl (by decide) _ _ _ rfl (t1.alloc _) ⟨w2.heap.size, 0, none⟩ 1 1 [.int .i64 4, .string ⟨#[]⟩, .string D, .slice none 0 0, .bool false] rfl rfl (cells_new w2 [.int .i64 4, .string ⟨#[]⟩, .string D, .slice none 0 0, .bool false] 47) (fun x hx => by simp at hx; rcases hx with rfl | rfl | rfl | rfl | rfl <;> rfl) (by unfold maxLen; omega) (by omega) (by simp; omega) ?_
      intro v6 w6 hown6 hgrow6 _ hat6
      have hown7 : w6.ownsRow B 47 5 v6 (T.length + 1) (cs ++ tkC ⟨4, [], D.data.toList, [], false⟩ (.slice none 0 0)) := by
        have e : tkC ⟨4, [], D.data.toList, [], false⟩ (.slice none 0 0) = [.int .i64 4, .string ⟨#[]⟩, .string D, .slice none 0 0, .bool false] := by
          unfold tkC
          rw [strV_of (T := D) rfl]
          rfl
        rw [e]
        exact hown6
      have HA := Lib.hid (HH.out.1.appended ((Below.refl _ _).alloc (Nat.le_refl _) _) t1 HH.out.2 (AttrsBy.nil _ _ _) hown7 hgrow6)
      have d6 := HA.out.1.c2
      have f6 := HA.out.1.free 2
      have f7 := HA.out.1.free 1
      have d7 := HA.out.1.c1
      have f8 := HA.out.2.1.q.free 1
      have d8 := HA.out.2.1.q.c1
      have HF6 : Hid (∃ a k, v6 = .slice a (T.length + 1) k) := Lib.hid (by
        rcases rowForms hown6 with ⟨e1, e2⟩ | ⟨g, k, e1⟩
        · exact ⟨none, 0, by rw [e1, e2]⟩
        · exact ⟨_, _, e1⟩)
      clear hown6 hgrow6 hat6 hown7
      obtain ⟨va, vk, rfl⟩ := HF6.out
      clear HF6))
  go_end0
  have q2 := HA.out.2.1
  have q3 := q2.moved (q2.q.set1 (s.size)) (q2.q.kset 1 _)
  have B3 : Below B w2 _ := (HH.out.1.frQb HA.out.2.2).trans (q2.form.onb (q2.q.kset 1 (.int .i64 ((s.size : Nat) : Int))))
  exact ⟨rfl, (q3.up q3.mw (Nat.le_refl _)).form, B2.trans B3⟩

set_option maxRecDepth 100000 in
set_option maxHeartbeats 8000000 in
theorem noteQ_5_hit (s z D : ByteArray) (n p m : Nat) (hz : 0 < z.size) (hzs : z.size ≤ 100) (hp : p ≤ s.size) (hs : s.size ≤ 1000000) (hf : findT z.data.toList (s.data.toList.drop p) = some m) (hD : D.data.toList = trim ((s.data.toList.drop p).take m)) : Hid (∀ W B m0 Q T F x, QS W B m0 Q s n T F x → T.length ≤ 900000 → F.length ≤ 900000 → Calls Tryz.prog 87 #[.pointer (some ⟨Q, 0, none⟩), .int .i64 5, .int .i64 (p : Int), .string z] W fun e w' => e = .returned (.tuple #[]) ∧ QS w' B w'.heap.size Q s (p + m + z.size) (T ++ [⟨5, [], D.data.toList, [], false⟩]) (F) x ∧ Below B W w') := Lib.hid fun w B m0 Q T F x h hl hlF => by
  obtain ⟨i0, hi, hz0, hz1, hz2⟩ := info_parts TinfoT
  have CD := find_hid Q s z p hz hzs hp (by omega)
  have hv : findV s.data.toList z.data.toList p = ((p + m : Nat) : Int) := by unfold findV; rw [hf]
  rw [hv] at CD
  have hle := findT_le _ _ _ hf
  rw [List.length_drop, lsize, lsize] at hle
  obtain ⟨to', hto⟩ : ∃ to', p + m = to' := ⟨_, rfl⟩
  rw [hto] at CD
  obtain ⟨P, hP⟩ := text_of ((s.data.toList.drop p).take m)
  have g1 := slice_mid s P p to' (by omega) (by omega) (by rw [hP]; congr 1; omega)
  have z1 : (0 : Int) ≤ (to' : Int) := by omega
  have z2 : (to' : Int) ≤ 1000000 := by omega
  have z3 : (z.size : Int) ≤ 100 := by omega
  rw [hto]
  have hPs : P.size ≤ 1000000 := by
    rw [← lsize, hP]
    simp only [List.length_take, List.length_drop, lsize]
    omega
  have CT := refTrim_hid P D (by rw [hD, hP]) (by omega)
  clear hf hD hv hz hzs hp hs hle hto hP hPs
  obtain ⟨tv, fv, h⟩ := h
  have d0 := h.q.c0
  have d2 := h.q.c2
  have hbw := h.bw
  obtain ⟨cs, t1, t2, t3⟩ := h.ht
  have HH := Lib.hid (And.intro h t3)
  obtain ⟨a, c, rfl⟩ := h.ht.form
  clear h t2 t3
  go_enter Tryz.func87, Tryz.ntmps87
  go_wp2_with fail
  (with_reducible refine (CD.out _ _ _ _ _ HH.out.1.q).mono ?_)
  rintro e w1 ⟨rfl, rfl⟩
  go_wp2_with fail
  (with_reducible refine (CT.out _).mono ?_)
  rintro e w3 ⟨rfl, rfl⟩
  go_wp2_with (
    at_builtin
    go_loud (
      refine wpList_append_own_at _ rfl _ _ 23 rfl B 47 i0 (.agg #[.int .i64 0, .string ⟨#[]⟩, .string ⟨#[]⟩, .slice none 0 0, .bool false]) 5 72 Tryz.underlying23 hi hz0 hz1 hz2 rfl (by decide) _ _ _ rfl (t1.alloc _) ⟨w3.heap.size, 0, none⟩ 1 1 [.int .i64 5, .string ⟨#[]⟩, .string D, .slice none 0 0, .bool false] rfl rfl (cells_new w3 [.int .i64 5, .string ⟨#[]⟩, .string D, .slice none 0 0, .bool false] 47) (fun x hx => by simp at hx; rcases hx with rfl | rfl | rfl | rfl | rfl <;> rfl) (by unfold maxLen; omega) (by omega) (by simp; omega) ?_
      intro v6 w6 hown6 hgrow6 _ hat6
      have hown7 : w6.ownsRow B 47 5 v6 (T.length + 1) (cs ++ tkC ⟨5, [], D.data.toList, [], false⟩ (.slice none 0 0)) := by
        have e : tkC ⟨5, [], D.data.toList, [], false⟩ (.slice none 0 0) = [.int .i64 5, .string ⟨#[]⟩, .string D, .slice none 0 0, .bool false] := by
          unfold tkC
          rw [strV_of (T := D) rfl]
          rfl
        rw [e]
        exact hown6
      have HA := Lib.hid (HH.out.1.appended ((Below.refl _ _).alloc (Nat.le_refl _) _) t1 HH.out.2 (AttrsBy.nil _ _ _) hown7 hgrow6)
      have d6 := HA.out.1.c2
      have f6 := HA.out.1.free 2
      have f7 := HA.out.1.free 1
      have d7 := HA.out.1.c1
      have f8 := HA.out.2.1.q.free 1
      have d8 := HA.out.2.1.q.c1
      have HF6 : Hid (∃ a k, v6 = .slice a (T.length + 1) k) := Lib.hid (by
        rcases rowForms hown6 with ⟨e1, e2⟩ | ⟨g, k, e1⟩
        · exact ⟨none, 0, by rw [e1, e2]⟩
        · exact ⟨_, _, e1⟩)
      clear hown6 hgrow6 hat6 hown7
      obtain ⟨va, vk, rfl⟩ := HF6.out
      clear HF6))
  go_end0
  have q2 := HA.out.2.1
  have q3 := q2.moved (q2.q.set1 (to' + z.size)) (q2.q.kset 1 _)
  have B3 : Below B w3 _ := (HH.out.1.frQb HA.out.2.2).trans (q2.form.onb (q2.q.kset 1 (.int .i64 ((to' + z.size : Nat) : Int))))
  rw [Int.natCast_add] at q3 B3
  exact ⟨rfl, (q3.up q3.mw (Nat.le_refl _)).form, B3⟩

set_option maxRecDepth 100000 in
set_option maxHeartbeats 8000000 in
theorem noteQ_5_miss (s z D : ByteArray) (n p : Nat) (hz : 0 < z.size) (hzs : z.size ≤ 100) (hp : p ≤ s.size) (hs : s.size ≤ 1000000) (hf : findT z.data.toList (s.data.toList.drop p) = none) (hD : D.data.toList = trim (s.data.toList.drop p)) : Hid (∀ W B m0 Q T F x, QS W B m0 Q s n T F x → T.length ≤ 900000 → F.length ≤ 900000 → Calls Tryz.prog 87 #[.pointer (some ⟨Q, 0, none⟩), .int .i64 5, .int .i64 (p : Int), .string z] W fun e w' => e = .returned (.tuple #[]) ∧ QS w' B w'.heap.size Q s (s.size) (T ++ [⟨5, [], D.data.toList, [], false⟩]) (F ++ [((140 : Int), n)]) x ∧ Below B W w') := Lib.hid fun w B m0 Q T F x h hl hlF => by
  obtain ⟨i0, hi, hz0, hz1, hz2⟩ := info_parts TinfoT
  have CD := find_hid Q s z p hz hzs hp (by omega)
  have hv : findV s.data.toList z.data.toList p = -1 := by unfold findV; rw [hf]
  rw [hv] at CD
  obtain ⟨P, hP⟩ := text_of (s.data.toList.drop p)
  have g1 := slice_mid s P p s.size hp (Nat.le_refl _) (by rw [hP, List.take_of_length_le (by rw [List.length_drop, lsize]; exact Nat.le_refl _)])
  have z3 : (z.size : Int) ≤ 100 := by omega
  have hPs : P.size ≤ 1000000 := by
    rw [← lsize, hP]
    simp only [List.length_drop, lsize]
    omega
  have CT := refTrim_hid P D (by rw [hD, hP]) (by omega)
  clear hf hD hv hz hzs hp hs hP hPs
  have HX := Lib.hid h
  obtain ⟨tv, fv, h⟩ := h
  have hq0 := h.q
  have hb0 := h.bw
  clear h
  go_enter Tryz.func87, Tryz.ntmps87
  go_wp2_with fail
  (with_reducible refine (CD.out _ _ _ _ _ hq0).mono ?_)
  rintro e w1 ⟨rfl, rfl⟩
  have d1 := hq0.c1
  go_wp2_with fail
  have CF := failQ_hid 140 n
  (with_reducible refine (CF.out _ _ _ _ _ _ _ _ _ HX.out (by omega)).mono ?_)
  rintro e w2 ⟨rfl, h2, k2⟩
  have B2 := HX.out.frb k2
  clear k2 d1 hq0 CF CD HX
  obtain ⟨tv2, fv2, h⟩ := h2
  have d0 := h.q.c0
  have d2 := h.q.c2
  have hbw := h.bw
  obtain ⟨cs, t1, t2, t3⟩ := h.ht
  have HH := Lib.hid (And.intro h t3)
  obtain ⟨a, c, rfl⟩ := h.ht.form
  clear h t2 t3
  go_wp2_with fail
  (with_reducible refine (CT.out _).mono ?_)
  rintro e w3 ⟨rfl, rfl⟩
  go_wp2_with (
    at_builtin
    go_loud (
      refine wpList_append_own_at _ rfl _ _ 23 rfl B 47 i0 (.agg #[.int .i64 0, .string ⟨#[]⟩, .string ⟨#[]⟩, .slice none 0 0, .bool false]) 5 72 Tryz.underlying23 hi hz0 hz1 hz2 rfl (by decide) _ _ _ rfl (t1.alloc _) ⟨w3.heap.size, 0, none⟩ 1 1 [.int .i64 5, .string ⟨#[]⟩, .string D, .slice none 0 0, .bool false] rfl rfl (cells_new w3 [.int .i64 5, .string ⟨#[]⟩, .string D, .slice none 0 0, .bool false] 47) (fun x hx => by simp at hx; rcases hx with rfl | rfl | rfl | rfl | rfl <;> rfl) (by unfold maxLen; omega) (by omega) (by simp; omega) ?_
      intro v6 w6 hown6 hgrow6 _ hat6
      have hown7 : w6.ownsRow B 47 5 v6 (T.length + 1) (cs ++ tkC ⟨5, [], D.data.toList, [], false⟩ (.slice none 0 0)) := by
        have e : tkC ⟨5, [], D.data.toList, [], false⟩ (.slice none 0 0) = [.int .i64 5, .string ⟨#[]⟩, .string D, .slice none 0 0, .bool false] := by
          unfold tkC
          rw [strV_of (T := D) rfl]
          rfl
        rw [e]
        exact hown6
      have HA := Lib.hid (HH.out.1.appended ((Below.refl _ _).alloc (Nat.le_refl _) _) t1 HH.out.2 (AttrsBy.nil _ _ _) hown7 hgrow6)
      have d6 := HA.out.1.c2
      have f6 := HA.out.1.free 2
      have f7 := HA.out.1.free 1
      have d7 := HA.out.1.c1
      have f8 := HA.out.2.1.q.free 1
      have d8 := HA.out.2.1.q.c1
      have HF6 : Hid (∃ a k, v6 = .slice a (T.length + 1) k) := Lib.hid (by
        rcases rowForms hown6 with ⟨e1, e2⟩ | ⟨g, k, e1⟩
        · exact ⟨none, 0, by rw [e1, e2]⟩
        · exact ⟨_, _, e1⟩)
      clear hown6 hgrow6 hat6 hown7
      obtain ⟨va, vk, rfl⟩ := HF6.out
      clear HF6))
  go_end0
  have q2 := HA.out.2.1
  have q3 := q2.moved (q2.q.set1 (s.size)) (q2.q.kset 1 _)
  have B3 : Below B w3 _ := (HH.out.1.frQb HA.out.2.2).trans (q2.form.onb (q2.q.kset 1 (.int .i64 ((s.size : Nat) : Int))))
  exact ⟨rfl, (q3.up q3.mw (Nat.le_refl _)).form, B2.trans B3⟩

/-- A comment, a doctype: as the document's step tells it. -/
theorem noteM_some {k : Int} {d n m : Nat} {z l : List UInt8} (h : findT z (l.drop d) = some m) : noteM k d n z l = ⟨some ⟨k, [], if k = 5 then trim ((l.drop d).take m) else (l.drop d).take m, [], false⟩, [], d + m + z.length, []⟩ := by unfold noteM; rw [h]
theorem noteM_none {k : Int} {d n : Nat} {z l : List UInt8} (h : findT z (l.drop d) = none) : noteM k d n z l = ⟨some ⟨k, [], if k = 5 then trim (l.drop d) else l.drop d, [], false⟩, [(140, n)], l.length, []⟩ := by unfold noteM; rw [h]
/-- A step: where the reader is behind it, and what it holds. -/
def StepP (B Q : Nat) (s : ByteArray) (n : Nat) (T : List Tk) (F : List Fl) (x : ByteArray) (S : Step) (W : World) (e : Ending) (w' : World) : Prop := e = .returned (.tuple #[]) ∧ QS w' B w'.heap.size Q s (n + S.k) (pushM T S.t) (F ++ S.f) x ∧ Below B W w'
theorem noteQ_hid (s z : ByteArray) (n d : Nat) (k : Int) (hk : k = 4 ∨ k = 5) (hz : 0 < z.size) (hzs : z.size ≤ 100) (hnd : n + d ≤ s.size) (hs : s.size ≤ 1000000) : Hid (∀ W B m0 Q T F x, QS W B m0 Q s n T F x → T.length ≤ 900000 → F.length ≤ 900000 → Calls Tryz.prog 87 #[.pointer (some ⟨Q, 0, none⟩), .int .i64 k, .int .i64 ((n : Int) + (d : Int)), .string z] W (StepP B Q s n T F x (noteM k d n z.data.toList (s.data.toList.drop n)) W)) := Lib.hid fun w B m0 Q T F x h hl hlF => by
  unfold StepP
  have hdd : (s.data.toList.drop n).drop d = s.data.toList.drop (n + d) := List.drop_drop
  have hlen : (s.data.toList.drop n).length = s.size - n := by rw [List.length_drop, lsize]
  have hc : ((n : Int) + (d : Int)) = ((n + d : Nat) : Int) := by push_cast; rfl
  cases hf : findT z.data.toList (s.data.toList.drop (n + d)) with
  | some m =>
    rw [noteM_some (by rw [hdd]; exact hf), hdd, hc]
    rcases hk with rfl | rfl
    · obtain ⟨D, hD⟩ := text_of ((s.data.toList.drop (n + d)).take m)
      refine ((noteQ_4_hit s z D n (n + d) m hz hzs hnd hs hf hD).out w B m0 Q T F x h hl hlF).mono ?_
      rintro e w' ⟨h1, h2, h3⟩
      refine ⟨h1, ?_, h3⟩
      rw [push_other T _ (show (4 : Int) ≠ 1 by decide), if_neg (by decide), ← hD, show n + (d + m + z.data.toList.length) = n + d + m + z.size by rw [lsize]; omega, List.append_nil]
      exact h2
    · obtain ⟨D, hD⟩ := text_of (trim ((s.data.toList.drop (n + d)).take m))
      refine ((noteQ_5_hit s z D n (n + d) m hz hzs hnd hs hf hD).out w B m0 Q T F x h hl hlF).mono ?_
      rintro e w' ⟨h1, h2, h3⟩
      refine ⟨h1, ?_, h3⟩
      rw [push_other T _ (show (5 : Int) ≠ 1 by decide), if_pos rfl, ← hD, show n + (d + m + z.data.toList.length) = n + d + m + z.size by rw [lsize]; omega, List.append_nil]
      exact h2
  | none =>
    rw [noteM_none (by rw [hdd]; exact hf), hdd, hc]
    rcases hk with rfl | rfl
    · obtain ⟨D, hD⟩ := text_of (s.data.toList.drop (n + d))
      refine ((noteQ_4_miss s z D n (n + d) hz hzs hnd hs hf hD).out w B m0 Q T F x h hl hlF).mono ?_
      rintro e w' ⟨h1, h2, h3⟩
      refine ⟨h1, ?_, h3⟩
      rw [push_other T _ (show (4 : Int) ≠ 1 by decide), if_neg (by decide), ← hD, show n + (s.data.toList.drop n).length = s.size by rw [hlen]; omega]
      exact h2
    · obtain ⟨D, hD⟩ := text_of (trim (s.data.toList.drop (n + d)))
      refine ((noteQ_5_miss s z D n (n + d) hz hzs hnd hs hf hD).out w B m0 Q T F x h hl hlF).mono ?_
      rintro e w' ⟨h1, h2, h3⟩
      refine ⟨h1, ?_, h3⟩
      rw [push_other T _ (show (5 : Int) ≠ 1 by decide), if_pos rfl, ← hD, show n + (s.data.toList.drop n).length = s.size by rw [hlen]; omega]
      exact h2

end Go.Proofs.YtfbhpmafjehojaaGreatDoor
