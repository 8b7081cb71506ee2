/- The document's reader looks at its text: letters, beginnings, the first of some bytes, a text's first place, blanks. -/
import Derived.Test.YtfbhpmafjehojaaGreatDoorTokN
namespace Go.Proofs.YtfbhpmafjehojaaGreatDoor
open Go.RowKit

theorem endM_hit {s x : List UInt8} {k : Nat} (hk : k < s.length) (h : condM x (s.drop k)) : endM x (s.drop k) = 0 := by
  rw [List.drop_eq_getElem_cons hk] at h ⊢
  unfold endM
  exact if_pos h
theorem endM_miss {s x : List UInt8} {k : Nat} (hk : k < s.length) (h : ¬ condM x (s.drop k)) : endM x (s.drop k) = endM x (s.drop (k + 1)) + 1 := by
  rw [List.drop_eq_getElem_cons hk] at h ⊢
  conv => lhs; unfold endM
  exact if_neg h
/-- The document's reader in its block. -/
def QX (w : World) (Q : Nat) (s : ByteArray) (n : Nat) (tv fv : Value) (x : ByteArray) : Prop := w.heap[Q]? = some (.cells #[.string s, .int .i64 (n : Int), tv, fv, .string x] 74 (0, 0))
section
variable {w w' : World} {Q : Nat} {s : ByteArray} {n : Nat} {tv fv : Value} {x : ByteArray}
theorem QX.lt (a : QX w Q s n tv fv x) : Q < w.heap.size := lt_of_block a
theorem QX.below (a : QX w Q s n tv fv x) (hb : Below w.heap.size w w') : QX w' Q s n tv fv x := by
  unfold QX at *
  rw [hb.block Q (lt_of_block a)]; exact a
theorem QX.kp {P : Nat → TypeId → Prop} (a : QX w Q s n tv fv x) (hb : Kp P w w') (hn : ¬ P Q 74) : QX w' Q s n tv fv x := hb.cells a hn
theorem QX.free (a : QX w Q s n tv fv x) (j : Nat) : w.frozen? ⟨Q, j, none⟩ = false := open_of a j
theorem QX.c0 (a : QX w Q s n tv fv x) : w.cell? ⟨Q, 0, none⟩ = some (.string s) := by rw [cell_of a]; rfl
theorem QX.c1 (a : QX w Q s n tv fv x) : w.cell? ⟨Q, 1, none⟩ = some (.int .i64 (n : Int)) := by rw [cell_of a]; rfl
theorem QX.c2 (a : QX w Q s n tv fv x) : w.cell? ⟨Q, 2, none⟩ = some tv := by rw [cell_of a]; rfl
theorem QX.c3 (a : QX w Q s n tv fv x) : w.cell? ⟨Q, 3, none⟩ = some fv := by rw [cell_of a]; rfl
theorem QX.c4 (a : QX w Q s n tv fv x) : w.cell? ⟨Q, 4, none⟩ = some (.string x) := by rw [cell_of a]; rfl
theorem QX.set1 (a : QX w Q s n tv fv x) (k : Nat) : QX (w.setCell ⟨Q, 1, none⟩ (.int .i64 (k : Int))) Q s k tv fv x := by unfold QX at *; rw [heap_setCell_same _ _ _ _ _ _ _ a]; rfl
theorem QX.set2 (a : QX w Q s n tv fv x) (u : Value) : QX (w.setCell ⟨Q, 2, none⟩ u) Q s n u fv x := by unfold QX at *; rw [heap_setCell_same _ _ _ _ _ _ _ a]; rfl
theorem QX.set3 (a : QX w Q s n tv fv x) (u : Value) : QX (w.setCell ⟨Q, 3, none⟩ u) Q s n tv u x := by unfold QX at *; rw [heap_setCell_same _ _ _ _ _ _ _ a]; rfl
theorem QX.set4 (a : QX w Q s n tv fv x) (u : ByteArray) : QX (w.setCell ⟨Q, 4, none⟩ (.string u)) Q s n tv fv u := by unfold QX at *; rw [heap_setCell_same _ _ _ _ _ _ _ a]; rfl
theorem QX.kset (a : QX w Q s n tv fv x) (j : Nat) (u : Value) : Kp (onR Q) w (w.setCell ⟨Q, j, none⟩ u) := Kp.of_set a u rfl
end

theorem letterR_any (c : UInt8) (w : World) : Calls Tryz.prog 84 #[.int .u8 (c.toNat : Int)] w fun e w' => e = .returned (.bool (letB c)) ∧ w' = w := by
  have HL : Hid (letB c = (decide (97 ≤ (c.toNat : Int) ∧ (c.toNat : Int) ≤ 122) || decide (65 ≤ (c.toNat : Int) ∧ (c.toNat : Int) ≤ 90))) := Lib.hid (by
    unfold letB
    rw [Bool.eq_iff_iff]
    simp only [Bool.or_eq_true, decide_eq_true_eq]
    omega)
  go_enter Tryz.func84, Tryz.ntmps84
  go_wp2
  all_goals go_ret
  all_goals refine ⟨ret_bool ?_, rfl⟩
  all_goals rw [HL.out, Bool.eq_iff_iff]
  all_goals simp only [Bool.or_eq_true, decide_eq_true_eq, true_iff, Bool.false_eq_true, false_iff]
  all_goals omega
theorem letterR_hid (c : UInt8) (b : Bool) (h : letB c = b) : Hid (∀ W, Calls Tryz.prog 84 #[.int .u8 (c.toNat : Int)] W fun e w' => e = .returned (.bool b) ∧ w' = W) := Lib.hid fun W => by rw [← h]; exact letterR_any c W
theorem blankR_hid (c : UInt8) (b : Bool) (h : blk c = b) : Hid (∀ W, Calls Tryz.prog 103 #[.int .u8 (c.toNat : Int)] W fun e w' => e = .returned (.bool b) ∧ w' = W) := Lib.hid fun W => by
  rw [← h]
  exact (refBlank_any c W).mono fun e w' h => ⟨h.1, h.2.symm⟩
set_option maxHeartbeats 1000000 in
theorem beginsR_any (s z : ByteArray) (hzs : z.size ≤ 1000000000) (w : World) : Calls Tryz.prog 86 #[.string s, .string z] w fun e w' => e = .returned (.bool (beginsM z.data.toList s.data.toList)) ∧ Below w.heap.size w w' := by
  by_cases h : z.size ≤ s.size
  · obtain ⟨U, hU⟩ := text_of (s.data.toList.take z.size)
    have g := slice_to s U z.size h hU
    obtain ⟨V, hV⟩ := text_of (low U.data.toList)
    have hUs : U.size = z.size := by rw [← lsize, hU, List.length_take, lsize]; omega
    have C := refLower_hid U V hV (by omega)
    have g2 : (V.toList == z.toList) = beginsM z.data.toList s.data.toList := by
      rw [text_eq, hV, hU]
      unfold beginsM
      rw [lsize, lsize, decide_eq_true h]
      simp
    generalize beginsM z.data.toList s.data.toList = b at g2 ⊢
    have z1 : (z.size : Int) ≤ (s.size : Int) := by omega
    clear hU hUs h hV
    go_enter Tryz.func86, Tryz.ntmps86
    go_wp2_with fail
    (with_reducible refine (C.out _).mono ?_)
    rintro e w1 ⟨rfl, b1⟩
    go_wp2
    go_ret
    exact ⟨rfl, b1⟩
  · have HV : Hid (beginsM z.data.toList s.data.toList = false) := Lib.hid (by
      unfold beginsM
      rw [decide_eq_false (by rw [lsize, lsize]; omega)]
      rfl)
    have z1 : ¬ (z.size : Int) ≤ (s.size : Int) := by omega
    clear h
    go_enter Tryz.func86, Tryz.ntmps86
    go_wp2
    go_ret
    exact ⟨ret_bool HV.out.symm, Below.refl _ _⟩
theorem beginsR_hid (s z : ByteArray) (b : Bool) (h : beginsM z.data.toList s.data.toList = b) (hzs : z.size ≤ 1000000000) : Hid (∀ W, Calls Tryz.prog 86 #[.string s, .string z] W fun e w' => e = .returned (.bool b) ∧ Below W.heap.size W w') := Lib.hid fun W => by rw [← h]; exact beginsR_any s z hzs W

/-- One of these bytes. -/
def inL (L : List UInt8) (c : UInt8) : Bool := L.contains c
theorem inL_name : inL [9, 10, 12, 13, 32, 47, 62] = nameE := by
  funext c
  unfold inL nameE blk
  rw [Bool.eq_iff_iff]
  simp [or_assoc]
theorem inL_attr : inL [9, 10, 12, 13, 32, 47, 62, 61] = attrE := by
  funext c
  unfold inL attrE nameE blk
  rw [Bool.eq_iff_iff]
  simp [or_assoc]
theorem inL_word : inL [9, 10, 12, 13, 32, 62] = wordE := by
  funext c
  unfold inL wordE blk
  rw [Bool.eq_iff_iff]
  simp [or_assoc]
theorem inL_open : inL [60] = (· == (60 : UInt8)) := by
  funext c
  unfold inL
  rw [Bool.eq_iff_iff]
  simp

set_option maxRecDepth 100000 in
set_option maxHeartbeats 8000000 in
theorem upto_hid (Q : Nat) (s L : ByteArray) (p : Nat) (hp : p ≤ s.size) (hs : s.size ≤ 1000000000) (hL : L.size ≤ 100) : Hid (∀ W n tv fv x, QX W Q s n tv fv x → Calls Tryz.prog 53 #[.pointer (some ⟨Q, 0, none⟩), .int .i64 (p : Int), .string L] W fun e w' => e = .returned (.int .i64 ((p + (s.data.toList.drop p).findIdx (inL L.data.toList) : Nat) : Int)) ∧ Below W.heap.size W w') := Lib.hid fun w n tv fv x hx => by
  obtain ⟨m, hm⟩ : ∃ m, p + (s.data.toList.drop p).findIdx (inL L.data.toList) = m := ⟨_, rfl⟩
  rw [hm]
  have HM := Lib.hid hm.symm
  have HX := Lib.hid hx
  have z3 : (s.size : Int) ≤ 1000000000 := by omega
  have z4 : (L.size : Int) ≤ 100 := by omega
  have d0 := hx.c0
  clear hx hm
  go_enter Tryz.func53, Tryz.ntmps53
  go_wp2
  clear d0
  go_loopw [1, 7] (fun i _ wr => ∃ q : Nat, i = .int .i64 q ∧ q ≤ s.size ∧ Below w.heap.size w wr ∧ Hid (m = q + (s.data.toList.drop q).findIdx (inL L.data.toList))) (fun i _ _ => s.size - (intOf i).toNat)
  case atStart => exact ⟨p, rfl, hp, Below.refl _ _, HM⟩
  case round =>
    obtain ⟨q, rfl, hq, hb, HF⟩ := hrel
    obtain ⟨wm, rfl⟩ : ∃ wm : World, wm = wr := ⟨_, rfl⟩
    have d0 := (HX.out.below hb).c0
    cases hc : s.data.toList[q]? with
    | none =>
      have h1 := get_none hc
      have z1 : ¬ (q : Int) < (s.size : Int) := by omega
      have HE : Hid (Ending.returned (Value.int .i64 (q : Int)) = .returned (.int .i64 (m : Int))) := Lib.hid (by rw [HF.out, find_end hc]; rfl)
      clear hc h1 HF
      go_wp2
      go_ret
      exact ⟨HE.out, hb⟩
    | some c =>
      have h1 := get_some hc
      have z1 : (q : Int) < (s.size : Int) := by omega
      have i0 := index_ty Tryz.underlying9 s q c hc
      have HC := Lib.hid hc
      clear hc h1
      go_wp2
      go_loopw [7] (fun k w2 => ∃ j : Nat, k = .int .i64 j ∧ j ≤ L.size ∧ Below w.heap.size w w2 ∧ Hid (∀ i, i < j → L.data.toList[i]? ≠ some c)) (fun k _ => L.size - (intOf k).toNat)
      case atStart => exact ⟨0, rfl, Nat.zero_le _, hb, Lib.hid fun i h => by omega⟩
      case round =>
        clear hb d0
        obtain ⟨j, rfl, hj, hb, HJ⟩ := hrel
        have d0 := (HX.out.below hb).c0
        cases hd : L.data.toList[j]? with
        | none =>
          have h1 := get_none hd
          have z2 : ¬ (j : Int) < (L.size : Int) := by omega
          have HF2 : Hid (m = (q + 1) + (s.data.toList.drop (q + 1)).findIdx (inL L.data.toList)) := Lib.hid (by
            have hno : inL L.data.toList c = false := by
              unfold inL
              rw [Bool.eq_false_iff]
              intro h
              rw [List.contains_iff_mem] at h
              obtain ⟨i, hi, he⟩ := List.getElem_of_mem h
              exact HJ.out i (by rw [lsize] at hi; omega) (by rw [List.getElem?_eq_getElem hi, he])
            rw [HF.out, find_step HC.out, hno]
            simp only [Bool.false_eq_true, if_false]
            omega)
          clear hd h1 HJ HF
          go_wp2
          go_roundw
          case rel => exact ⟨q + 1, by go_num, by omega, hb, HF2⟩
          case measure => simp [intOf]; omega
        | some d =>
          have h1 := get_some hd
          have z2 : (j : Int) < (L.size : Int) := by omega
          have i1 := index_ty Tryz.underlying9 L j d hd
          by_cases hcd : c = d
          · subst hcd
            have g : ((c.toNat : Int) == (c.toNat : Int)) = true := by simp
            have HE : Hid (Ending.returned (Value.int .i64 (q : Int)) = .returned (.int .i64 (m : Int))) := Lib.hid (by
              have hyes : inL L.data.toList c = true := by
                unfold inL
                rw [List.contains_iff_mem]
                exact List.mem_of_getElem? hd
              rw [HF.out, find_step HC.out, hyes]
              simp)
            clear hd h1 HJ HF
            go_wp2
            go_quiet (fail)
            go_wp2
            go_ret
            exact ⟨HE.out, belowN hb _⟩
          · have g : ((c.toNat : Int) == (d.toNat : Int)) = false := by
              rw [beq_eq_false_iff_ne]
              exact fun e => hcd (byte_is e)
            have HJ2 : Hid (∀ i, i < j + 1 → L.data.toList[i]? ≠ some c) := Lib.hid fun i hi => by
              by_cases e : i = j
              · subst e
                rw [hd]
                exact fun e => hcd (Option.some.inj e).symm
              · exact HJ.out i (by omega)
            clear hd h1 HJ
            go_wp2
            go_quiet (fail)
            go_wp2
            go_roundw
            case rel => exact ⟨j + 1, by go_num, by omega, belowN hb _, HJ2⟩
            case measure => simp [intOf]; omega

set_option maxRecDepth 100000 in
set_option maxHeartbeats 4000000 in
theorem blanksR_hid (Q : Nat) (s : ByteArray) (p : Nat) (hp : p ≤ s.size) (hs : s.size ≤ 1000000000) : Hid (∀ W n tv fv x, QX W Q s n tv fv x → Calls Tryz.prog 128 #[.pointer (some ⟨Q, 0, none⟩), .int .i64 (p : Int)] W fun e w' => e = .returned (.int .i64 ((p + (s.data.toList.drop p).findIdx blkE : Nat) : Int)) ∧ w' = W) := Lib.hid fun w n tv fv x hx => by
  obtain ⟨m, hm⟩ : ∃ m, p + (s.data.toList.drop p).findIdx blkE = m := ⟨_, rfl⟩
  rw [hm]
  have HM := Lib.hid hm.symm
  have z3 : (s.size : Int) ≤ 1000000000 := by omega
  have d0 := hx.c0
  clear hx hm
  go_enter Tryz.func128, Tryz.ntmps128
  go_wp2
  go_loop [1] (fun i => ∃ q : Nat, i = .int .i64 (q : Int) ∧ q ≤ s.size ∧ Hid (m = q + (s.data.toList.drop q).findIdx blkE)) (fun i => s.size - (intOf i).toNat)
  case atStart => exact ⟨p, rfl, hp, HM⟩
  case round =>
    obtain ⟨q, rfl, hq, HF⟩ := hrel
    cases hc : s.data.toList[q]? with
    | none =>
      have h1 := get_none hc
      have z1 : ¬ (q : Int) < (s.size : Int) := by omega
      have HE : Hid (Ending.returned (Value.int .i64 (q : Int)) = .returned (.int .i64 (m : Int))) := Lib.hid (by rw [HF.out, find_end hc]; rfl)
      clear hc h1 HF
      go_wp2
      go_ret
      exact ⟨HE.out, rfl⟩
    | some c =>
      have h1 := get_some hc
      have z1 : (q : Int) < (s.size : Int) := by omega
      have i0 := index_ty Tryz.underlying9 s q c hc
      cases hb : blk c with
      | true =>
        have C := blankR_hid c true hb
        have HF2 : Hid (m = (q + 1) + (s.data.toList.drop (q + 1)).findIdx blkE) := Lib.hid (by
          rw [HF.out, find_step hc, show blkE c = false by unfold blkE; rw [hb]; rfl]
          simp only [Bool.false_eq_true, if_false]
          omega)
        clear hc hb HF
        go_wp2_with fail
        (with_reducible refine (C.out _).mono ?_)
        rintro e w' ⟨rfl, rfl⟩
        go_wp2
        go_round
        case rel => exact ⟨q + 1, by go_num, by omega, HF2⟩
        case measure => simp [intOf]; omega
      | false =>
        have C := blankR_hid c false hb
        have HE : Hid (Ending.returned (Value.int .i64 (q : Int)) = .returned (.int .i64 (m : Int))) := Lib.hid (by
          rw [HF.out, find_step hc, show blkE c = true by unfold blkE; rw [hb]; rfl]
          simp)
        clear hc hb HF h1
        go_wp2_with fail
        (with_reducible refine (C.out _).mono ?_)
        rintro e w ⟨rfl, rfl⟩
        go_wp2
        go_ret
        exact ⟨HE.out, rfl⟩

/-- Where a text is found, from a place on; -1: nowhere. -/
def findV (s z : List UInt8) (p : Nat) : Int := match findT z (s.drop p) with | some i => ((p + i : Nat) : Int) | none => -1
theorem findV_here {s z : List UInt8} {p : Nat} (h : z.isPrefixOf (s.drop p) = true) : findV s z p = (p : Int) := by
  unfold findV
  cases hd : s.drop p with
  | nil =>
    rw [hd] at h
    have : z = [] := by cases z with
      | nil => rfl
      | cons => cases h
    subst this
    rfl
  | cons c r =>
    rw [hd] at h
    have e : findT z (c :: r) = some 0 := by unfold findT; rw [if_pos h]
    rw [e]
    rfl
theorem findV_next {s z : List UInt8} {p : Nat} (h : z.isPrefixOf (s.drop p) = false) (hp : p < s.length) : findV s z p = findV s z (p + 1) := by
  unfold findV
  rw [List.drop_eq_getElem_cons hp] at h ⊢
  conv => lhs; unfold findT
  rw [h]
  simp only [Bool.false_eq_true, if_false]
  cases findT z (s.drop (p + 1)) with
  | none => rfl
  | some i =>
    simp only [Option.map_some]
    congr 1
    omega
theorem findV_end {s z : List UInt8} {p : Nat} (hz : 0 < z.length) (h : s.length < p + z.length) : findV s z p = -1 := by
  unfold findV
  cases hf : findT z (s.drop p) with
  | none => rfl
  | some i =>
    have := findT_le _ _ _ hf
    rw [List.length_drop] at this
    exfalso
    omega
set_option maxRecDepth 100000 in
set_option maxHeartbeats 4000000 in
theorem find_hid (Q : Nat) (s z : ByteArray) (p : Nat) (hz : 0 < z.size) (hzs : z.size ≤ 100) (hp : p ≤ s.size) (hs : s.size ≤ 1000000000) : Hid (∀ W n tv fv x, QX W Q s n tv fv x → Calls Tryz.prog 107 #[.pointer (some ⟨Q, 0, none⟩), .int .i64 (p : Int), .string z] W fun e w' => e = .returned (.int .i64 (findV s.data.toList z.data.toList p)) ∧ w' = W) := Lib.hid fun w n tv fv x hx => by
  obtain ⟨m, hm⟩ : ∃ m, findV s.data.toList z.data.toList p = m := ⟨_, rfl⟩
  rw [hm]
  have HM := Lib.hid hm.symm
  have z3 : (s.size : Int) ≤ 1000000000 := by omega
  have z4 : (z.size : Int) ≤ 100 := by omega
  have z5 : (0 : Int) < (z.size : Int) := by omega
  have d0 := hx.c0
  clear hx hm
  go_enter Tryz.func107, Tryz.ntmps107
  go_wp2
  go_loop [1] (fun i => ∃ q : Nat, i = .int .i64 (q : Int) ∧ q ≤ s.size ∧ Hid (m = findV s.data.toList z.data.toList q)) (fun i => s.size - (intOf i).toNat)
  case atStart => exact ⟨p, rfl, hp, HM⟩
  case round =>
    obtain ⟨q, rfl, hq, HF⟩ := hrel
    by_cases hlt : q + z.size ≤ s.size
    · have z1 : (q : Int) + (z.size : Int) ≤ (s.size : Int) := by omega
      have z2 : (q : Int) ≤ 1000000000 := by omega
      have z6 : (0 : Int) ≤ (q : Int) := by omega
      obtain ⟨U, hU⟩ := text_of ((s.data.toList.drop q).take z.size)
      have g := slice_mid s U q (q + z.size) (by omega) hlt (by rw [hU]; congr 1; omega)
      rw [show (((q + z.size : Nat)) : Int) = (q : Int) + (z.size : Int) by push_cast; rfl] at g
      have hpre : z.data.toList.isPrefixOf (s.data.toList.drop q) = decide (U.data.toList = z.data.toList) := by
        rw [Bool.eq_iff_iff, List.isPrefixOf_iff_prefix, decide_eq_true_eq, hU, List.prefix_iff_eq_take, lsize]
        exact eq_comm
      obtain ⟨b, hb⟩ : ∃ b, decide (U.data.toList = z.data.toList) = b := ⟨_, rfl⟩
      have g2 : (U.toList == z.toList) = b := by rw [text_eq]; exact hb
      rw [hb] at hpre
      cases b with
      | true =>
        have HE : Hid (Ending.returned (Value.int .i64 (q : Int)) = .returned (.int .i64 m)) := Lib.hid (by rw [HF.out, findV_here hpre])
        clear hpre hb hU HF
        go_wp2
        go_ret
        exact ⟨HE.out, rfl⟩
      | false =>
        have HF2 : Hid (m = findV s.data.toList z.data.toList (q + 1)) := Lib.hid (HF.out.trans (findV_next hpre (by rw [lsize]; omega)))
        clear hpre hb hU HF
        go_wp2
        go_round
        case rel => exact ⟨q + 1, by go_num, by omega, HF2⟩
        case measure => simp [intOf]; omega
    · have z1 : ¬ (q : Int) + (z.size : Int) ≤ (s.size : Int) := by omega
      have z2 : (q : Int) ≤ 1000000000 := by omega
      have z6 : (0 : Int) ≤ (q : Int) := by omega
      have HE : Hid (Ending.returned (Value.int .i64 (-1)) = .returned (.int .i64 m)) := Lib.hid (by rw [HF.out, findV_end (by rw [lsize]; exact hz) (by rw [lsize, lsize]; omega)])
      clear HF
      go_wp2
      go_ret
      exact ⟨HE.out, rfl⟩

end Go.Proofs.YtfbhpmafjehojaaGreatDoor
