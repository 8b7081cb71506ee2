/- The document's reader looks at its text: letters, beginnings, the first of some bytes, a text's first place, blanks. The document's reader: a raw name's end, Fails, a part decoded. The document's reader: a part decoded, text that joins the token ahead of it. The document's reader: text that joins the token ahead of it. -/
import Derived.Test.YtgbilfbonliipaaGreatDoorTokR
namespace Go.Proofs.YtgbilfbonliipaaGreatDoor
open Go.RowKit

theorem endM_hit {s x : List UInt8} {k : Nat} (hk : k < s.length) (h : condM x (s.drop k)) : endM x (s.drop k) = 0 := by
  rw [List.drop_eq_getElem_cons hk] at h ⊢
  unfold endM
  exact if_pos h
theorem endM_miss {s x : List UInt8} {k : Nat} (hk : k < s.length) (h : ¬ condM x (s.drop k)) : endM x (s.drop k) = endM x (s.drop (k + 1)) + 1 := by
  rw [List.drop_eq_getElem_cons hk] at h ⊢
  conv => lhs; unfold endM
  exact if_neg h
/-- The document's reader in its block. -/
def QX (w : World) (Q : Nat) (s : ByteArray) (n : Nat) (tv fv : Value) (x : ByteArray) : Prop := w.heap[Q]? = some (.cells #[.string s, .int .i64 (n : Int), tv, fv, .string x] 54 (0, 0))
section
variable {w w' : World} {Q : Nat} {s : ByteArray} {n : Nat} {tv fv : Value} {x : ByteArray}
theorem QX.lt (a : QX w Q s n tv fv x) : Q < w.heap.size := lt_of_block a
theorem QX.below (a : QX w Q s n tv fv x) (hb : Below w.heap.size w w') : QX w' Q s n tv fv x := by
  unfold QX at *
  rw [hb.block Q (lt_of_block a)]; exact a
theorem QX.kp {P : Nat → TypeId → Prop} (a : QX w Q s n tv fv x) (hb : Kp P w w') (hn : ¬ P Q 54) : QX w' Q s n tv fv x := hb.cells a hn
theorem QX.free (a : QX w Q s n tv fv x) (j : Nat) : w.frozen? ⟨Q, j, none⟩ = false := open_of a j
theorem QX.c0 (a : QX w Q s n tv fv x) : w.cell? ⟨Q, 0, none⟩ = some (.string s) := by rw [cell_of a]; rfl
theorem QX.c1 (a : QX w Q s n tv fv x) : w.cell? ⟨Q, 1, none⟩ = some (.int .i64 (n : Int)) := by rw [cell_of a]; rfl
theorem QX.c2 (a : QX w Q s n tv fv x) : w.cell? ⟨Q, 2, none⟩ = some tv := by rw [cell_of a]; rfl
theorem QX.c3 (a : QX w Q s n tv fv x) : w.cell? ⟨Q, 3, none⟩ = some fv := by rw [cell_of a]; rfl
theorem QX.c4 (a : QX w Q s n tv fv x) : w.cell? ⟨Q, 4, none⟩ = some (.string x) := by rw [cell_of a]; rfl
theorem QX.set1 (a : QX w Q s n tv fv x) (k : Nat) : QX (w.setCell ⟨Q, 1, none⟩ (.int .i64 (k : Int))) Q s k tv fv x := by unfold QX at *; rw [heap_setCell_same _ _ _ _ _ _ _ a]; rfl
theorem QX.set2 (a : QX w Q s n tv fv x) (u : Value) : QX (w.setCell ⟨Q, 2, none⟩ u) Q s n u fv x := by unfold QX at *; rw [heap_setCell_same _ _ _ _ _ _ _ a]; rfl
theorem QX.set3 (a : QX w Q s n tv fv x) (u : Value) : QX (w.setCell ⟨Q, 3, none⟩ u) Q s n tv u x := by unfold QX at *; rw [heap_setCell_same _ _ _ _ _ _ _ a]; rfl
theorem QX.set4 (a : QX w Q s n tv fv x) (u : ByteArray) : QX (w.setCell ⟨Q, 4, none⟩ (.string u)) Q s n tv fv u := by unfold QX at *; rw [heap_setCell_same _ _ _ _ _ _ _ a]; rfl
theorem QX.kset (a : QX w Q s n tv fv x) (j : Nat) (u : Value) : Kp (onR Q) w (w.setCell ⟨Q, j, none⟩ u) := Kp.of_set a u rfl
end

theorem letterR_any (c : UInt8) (w : World) : Calls Tryz.prog 76 #[.int .u8 (c.toNat : Int)] w fun e w' => e = .returned (.bool (letB c)) ∧ w' = w := by
  have HL : Hid (letB c = (decide (97 ≤ (c.toNat : Int) ∧ (c.toNat : Int) ≤ 122) || decide (65 ≤ (c.toNat : Int) ∧ (c.toNat : Int) ≤ 90))) := Lib.hid (by
    unfold letB
    rw [Bool.eq_iff_iff]
    simp only [Bool.or_eq_true, decide_eq_true_eq]
    omega)
  go_enter Tryz.func76, Tryz.ntmps76
  go_wp2
  all_goals go_ret
  all_goals refine ⟨ret_bool ?_, rfl⟩
  all_goals rw [HL.out, Bool.eq_iff_iff]
  all_goals simp only [Bool.or_eq_true, decide_eq_true_eq, true_iff, Bool.false_eq_true, false_iff]
  all_goals omega
theorem letterR_hid (c : UInt8) (b : Bool) (h : letB c = b) : Hid (∀ W, Calls Tryz.prog 76 #[.int .u8 (c.toNat : Int)] W fun e w' => e = .returned (.bool b) ∧ w' = W) := Lib.hid fun W => by rw [← h]; exact letterR_any c W
theorem blankR_hid (c : UInt8) (b : Bool) (h : blk c = b) : Hid (∀ W, Calls Tryz.prog 95 #[.int .u8 (c.toNat : Int)] W fun e w' => e = .returned (.bool b) ∧ w' = W) := Lib.hid fun W => by
  rw [← h]
  exact (refBlank_any c W).mono fun e w' h => ⟨h.1, h.2.symm⟩
set_option maxHeartbeats 1000000 in
theorem beginsR_any (s z : ByteArray) (hzs : z.size ≤ 1000000000) (w : World) : Calls Tryz.prog 78 #[.string s, .string z] w fun e w' => e = .returned (.bool (beginsM z.data.toList s.data.toList)) ∧ Below w.heap.size w w' := by
  by_cases h : z.size ≤ s.size
  · obtain ⟨U, hU⟩ := text_of (s.data.toList.take z.size)
    have g := slice_to s U z.size h hU
    obtain ⟨V, hV⟩ := text_of (low U.data.toList)
    have hUs : U.size = z.size := by rw [← lsize, hU, List.length_take, lsize]; omega
    have C := refLower_hid U V hV (by omega)
    have g2 : (V.toList == z.toList) = beginsM z.data.toList s.data.toList := by
      rw [text_eq, hV, hU]
      unfold beginsM
      rw [lsize, lsize, decide_eq_true h]
      simp
    generalize beginsM z.data.toList s.data.toList = b at g2 ⊢
    have z1 : (z.size : Int) ≤ (s.size : Int) := by omega
    clear hU hUs h hV
    go_enter Tryz.func78, Tryz.ntmps78
    go_wp2_with fail
    (with_reducible refine (C.out _).mono ?_)
    rintro e w1 ⟨rfl, b1⟩
    go_wp2
    go_ret
    exact ⟨rfl, b1⟩
  · have HV : Hid (beginsM z.data.toList s.data.toList = false) := Lib.hid (by
      unfold beginsM
      rw [decide_eq_false (by rw [lsize, lsize]; omega)]
      rfl)
    have z1 : ¬ (z.size : Int) ≤ (s.size : Int) := by omega
    clear h
    go_enter Tryz.func78, Tryz.ntmps78
    go_wp2
    go_ret
    exact ⟨ret_bool HV.out.symm, Below.refl _ _⟩
theorem beginsR_hid (s z : ByteArray) (b : Bool) (h : beginsM z.data.toList s.data.toList = b) (hzs : z.size ≤ 1000000000) : Hid (∀ W, Calls Tryz.prog 78 #[.string s, .string z] W fun e w' => e = .returned (.bool b) ∧ Below W.heap.size W w') := Lib.hid fun W => by rw [← h]; exact beginsR_any s z hzs W

/-- One of these bytes. -/
def inL (L : List UInt8) (c : UInt8) : Bool := L.contains c
theorem inL_name : inL [9, 10, 12, 13, 32, 47, 62] = nameE := by
  funext c
  unfold inL nameE blk
  rw [Bool.eq_iff_iff]
  simp [or_assoc]
theorem inL_attr : inL [9, 10, 12, 13, 32, 47, 62, 61] = attrE := by
  funext c
  unfold inL attrE nameE blk
  rw [Bool.eq_iff_iff]
  simp [or_assoc]
theorem inL_word : inL [9, 10, 12, 13, 32, 62] = wordE := by
  funext c
  unfold inL wordE blk
  rw [Bool.eq_iff_iff]
  simp [or_assoc]
theorem inL_open : inL [60] = (· == (60 : UInt8)) := by
  funext c
  unfold inL
  rw [Bool.eq_iff_iff]
  simp

set_option maxRecDepth 100000 in
set_option maxHeartbeats 8000000 in
theorem upto_hid (Q : Nat) (s L : ByteArray) (p : Nat) (hp : p ≤ s.size) (hs : s.size ≤ 1000000000) (hL : L.size ≤ 100) : Hid (∀ W n tv fv x, QX W Q s n tv fv x → Calls Tryz.prog 46 #[.pointer (some ⟨Q, 0, none⟩), .int .i64 (p : Int), .string L] W fun e w' => e = .returned (.int .i64 ((p + (s.data.toList.drop p).findIdx (inL L.data.toList) : Nat) : Int)) ∧ Below W.heap.size W w') := Lib.hid fun w n tv fv x hx => by
  obtain ⟨m, hm⟩ : ∃ m, p + (s.data.toList.drop p).findIdx (inL L.data.toList) = m := ⟨_, rfl⟩
  rw [hm]
  have HM := Lib.hid hm.symm
  have HX := Lib.hid hx
  have z3 : (s.size : Int) ≤ 1000000000 := by omega
  have z4 : (L.size : Int) ≤ 100 := by omega
  have d0 := hx.c0
  clear hx hm
  go_enter Tryz.func46, Tryz.ntmps46
  go_wp2
  clear d0
  go_loopw [1, 7] (fun i _ wr => ∃ q : Nat, i = .int .i64 q ∧ q ≤ s.size ∧ Below w.heap.size w wr ∧ Hid (m = q + (s.data.toList.drop q).findIdx (inL L.data.toList))) (fun i _ _ => s.size - (intOf i).toNat)
  case atStart => exact ⟨p, rfl, hp, Below.refl _ _, HM⟩
  case round =>
    obtain ⟨q, rfl, hq, hb, HF⟩ := hrel
    obtain ⟨wm, rfl⟩ : ∃ wm : World, wm = wr := ⟨_, rfl⟩
    have d0 := (HX.out.below hb).c0
    cases hc : s.data.toList[q]? with
    | none =>
      have h1 := get_none hc
      have z1 : ¬ (q : Int) < (s.size : Int) := by omega
      have HE : Hid (Ending.returned (Value.int .i64 (q : Int)) = .returned (.int .i64 (m : Int))) := Lib.hid (by rw [HF.out, find_end hc]; rfl)
      clear hc h1 HF
      go_wp2
      go_ret
      exact ⟨HE.out, hb⟩
    | some c =>
      have h1 := get_some hc
      have z1 : (q : Int) < (s.size : Int) := by omega
      have i0 := index_ty Tryz.underlying9 s q c hc
      have HC := Lib.hid hc
      clear hc h1
      go_wp2
      go_loopw [7] (fun k w2 => ∃ j : Nat, k = .int .i64 j ∧ j ≤ L.size ∧ Below w.heap.size w w2 ∧ Hid (∀ i, i < j → L.data.toList[i]? ≠ some c)) (fun k _ => L.size - (intOf k).toNat)
      case atStart => exact ⟨0, rfl, Nat.zero_le _, hb, Lib.hid fun i h => by omega⟩
      case round =>
        clear hb d0
        obtain ⟨j, rfl, hj, hb, HJ⟩ := hrel
        have d0 := (HX.out.below hb).c0
        cases hd : L.data.toList[j]? with
        | none =>
          have h1 := get_none hd
          have z2 : ¬ (j : Int) < (L.size : Int) := by omega
          have HF2 : Hid (m = (q + 1) + (s.data.toList.drop (q + 1)).findIdx (inL L.data.toList)) := Lib.hid (by
            have hno : inL L.data.toList c = false := by
              unfold inL
              rw [Bool.eq_false_iff]
              intro h
              rw [List.contains_iff_mem] at h
              obtain ⟨i, hi, he⟩ := List.getElem_of_mem h
              exact HJ.out i (by rw [lsize] at hi; omega) (by rw [List.getElem?_eq_getElem hi, he])
            rw [HF.out, find_step HC.out, hno]
            simp only [Bool.false_eq_true, if_false]
            omega)
          clear hd h1 HJ HF
          go_wp2
          go_roundw
          case rel => exact ⟨q + 1, by go_num, by omega, hb, HF2⟩
          case measure => simp [intOf]; omega
        | some d =>
          have h1 := get_some hd
          have z2 : (j : Int) < (L.size : Int) := by omega
          have i1 := index_ty Tryz.underlying9 L j d hd
          by_cases hcd : c = d
          · subst hcd
            have g : ((c.toNat : Int) == (c.toNat : Int)) = true := by simp
            have HE : Hid (Ending.returned (Value.int .i64 (q : Int)) = .returned (.int .i64 (m : Int))) := Lib.hid (by
              have hyes : inL L.data.toList c = true := by
                unfold inL
                rw [List.contains_iff_mem]
                exact List.mem_of_getElem? hd
              rw [HF.out, find_step HC.out, hyes]
              simp)
            clear hd h1 HJ HF
            go_wp2
            go_quiet (fail)
            go_wp2
            go_ret
            exact ⟨HE.out, belowN hb _⟩
          · have g : ((c.toNat : Int) == (d.toNat : Int)) = false := by
              rw [beq_eq_false_iff_ne]
              exact fun e => hcd (byte_is e)
            have HJ2 : Hid (∀ i, i < j + 1 → L.data.toList[i]? ≠ some c) := Lib.hid fun i hi => by
              by_cases e : i = j
              · subst e
                rw [hd]
                exact fun e => hcd (Option.some.inj e).symm
              · exact HJ.out i (by omega)
            clear hd h1 HJ
            go_wp2
            go_quiet (fail)
            go_wp2
            go_roundw
            case rel => exact ⟨j + 1, by go_num, by omega, belowN hb _, HJ2⟩
            case measure => simp [intOf]; omega

set_option maxRecDepth 100000 in
set_option maxHeartbeats 4000000 in
theorem blanksR_hid (Q : Nat) (s : ByteArray) (p : Nat) (hp : p ≤ s.size) (hs : s.size ≤ 1000000000) : Hid (∀ W n tv fv x, QX W Q s n tv fv x → Calls Tryz.prog 123 #[.pointer (some ⟨Q, 0, none⟩), .int .i64 (p : Int)] W fun e w' => e = .returned (.int .i64 ((p + (s.data.toList.drop p).findIdx blkE : Nat) : Int)) ∧ w' = W) := Lib.hid fun w n tv fv x hx => by
  obtain ⟨m, hm⟩ : ∃ m, p + (s.data.toList.drop p).findIdx blkE = m := ⟨_, rfl⟩
  rw [hm]
  have HM := Lib.hid hm.symm
  have z3 : (s.size : Int) ≤ 1000000000 := by omega
  have d0 := hx.c0
  clear hx hm
  go_enter Tryz.func123, Tryz.ntmps123
  go_wp2
  go_loop [1] (fun i => ∃ q : Nat, i = .int .i64 (q : Int) ∧ q ≤ s.size ∧ Hid (m = q + (s.data.toList.drop q).findIdx blkE)) (fun i => s.size - (intOf i).toNat)
  case atStart => exact ⟨p, rfl, hp, HM⟩
  case round =>
    obtain ⟨q, rfl, hq, HF⟩ := hrel
    cases hc : s.data.toList[q]? with
    | none =>
      have h1 := get_none hc
      have z1 : ¬ (q : Int) < (s.size : Int) := by omega
      have HE : Hid (Ending.returned (Value.int .i64 (q : Int)) = .returned (.int .i64 (m : Int))) := Lib.hid (by rw [HF.out, find_end hc]; rfl)
      clear hc h1 HF
      go_wp2
      go_ret
      exact ⟨HE.out, rfl⟩
    | some c =>
      have h1 := get_some hc
      have z1 : (q : Int) < (s.size : Int) := by omega
      have i0 := index_ty Tryz.underlying9 s q c hc
      cases hb : blk c with
      | true =>
        have C := blankR_hid c true hb
        have HF2 : Hid (m = (q + 1) + (s.data.toList.drop (q + 1)).findIdx blkE) := Lib.hid (by
          rw [HF.out, find_step hc, show blkE c = false by unfold blkE; rw [hb]; rfl]
          simp only [Bool.false_eq_true, if_false]
          omega)
        clear hc hb HF
        go_wp2_with fail
        (with_reducible refine (C.out _).mono ?_)
        rintro e w' ⟨rfl, rfl⟩
        go_wp2
        go_round
        case rel => exact ⟨q + 1, by go_num, by omega, HF2⟩
        case measure => simp [intOf]; omega
      | false =>
        have C := blankR_hid c false hb
        have HE : Hid (Ending.returned (Value.int .i64 (q : Int)) = .returned (.int .i64 (m : Int))) := Lib.hid (by
          rw [HF.out, find_step hc, show blkE c = true by unfold blkE; rw [hb]; rfl]
          simp)
        clear hc hb HF h1
        go_wp2_with fail
        (with_reducible refine (C.out _).mono ?_)
        rintro e w ⟨rfl, rfl⟩
        go_wp2
        go_ret
        exact ⟨HE.out, rfl⟩

/-- Where a text is found, from a place on; -1: nowhere. -/
def findV (s z : List UInt8) (p : Nat) : Int := match findT z (s.drop p) with | some i => ((p + i : Nat) : Int) | none => -1
theorem findV_here {s z : List UInt8} {p : Nat} (h : z.isPrefixOf (s.drop p) = true) : findV s z p = (p : Int) := by
  unfold findV
  cases hd : s.drop p with
  | nil =>
    rw [hd] at h
    have : z = [] := by cases z with
      | nil => rfl
      | cons => cases h
    subst this
    rfl
  | cons c r =>
    rw [hd] at h
    have e : findT z (c :: r) = some 0 := by unfold findT; rw [if_pos h]
    rw [e]
    rfl
theorem findV_next {s z : List UInt8} {p : Nat} (h : z.isPrefixOf (s.drop p) = false) (hp : p < s.length) : findV s z p = findV s z (p + 1) := by
  unfold findV
  rw [List.drop_eq_getElem_cons hp] at h ⊢
  conv => lhs; unfold findT
  rw [h]
  simp only [Bool.false_eq_true, if_false]
  cases findT z (s.drop (p + 1)) with
  | none => rfl
  | some i =>
    simp only [Option.map_some]
    congr 1
    omega
theorem findV_end {s z : List UInt8} {p : Nat} (hz : 0 < z.length) (h : s.length < p + z.length) : findV s z p = -1 := by
  unfold findV
  cases hf : findT z (s.drop p) with
  | none => rfl
  | some i =>
    have := findT_le _ _ _ hf
    rw [List.length_drop] at this
    exfalso
    omega
set_option maxRecDepth 100000 in
set_option maxHeartbeats 4000000 in
theorem find_hid (Q : Nat) (s z : ByteArray) (p : Nat) (hz : 0 < z.size) (hzs : z.size ≤ 100) (hp : p ≤ s.size) (hs : s.size ≤ 1000000000) : Hid (∀ W n tv fv x, QX W Q s n tv fv x → Calls Tryz.prog 98 #[.pointer (some ⟨Q, 0, none⟩), .int .i64 (p : Int), .string z] W fun e w' => e = .returned (.int .i64 (findV s.data.toList z.data.toList p)) ∧ w' = W) := Lib.hid fun w n tv fv x hx => by
  obtain ⟨m, hm⟩ : ∃ m, findV s.data.toList z.data.toList p = m := ⟨_, rfl⟩
  rw [hm]
  have HM := Lib.hid hm.symm
  have z3 : (s.size : Int) ≤ 1000000000 := by omega
  have z4 : (z.size : Int) ≤ 100 := by omega
  have z5 : (0 : Int) < (z.size : Int) := by omega
  have d0 := hx.c0
  clear hx hm
  go_enter Tryz.func98, Tryz.ntmps98
  go_wp2
  go_loop [1] (fun i => ∃ q : Nat, i = .int .i64 (q : Int) ∧ q ≤ s.size ∧ Hid (m = findV s.data.toList z.data.toList q)) (fun i => s.size - (intOf i).toNat)
  case atStart => exact ⟨p, rfl, hp, HM⟩
  case round =>
    obtain ⟨q, rfl, hq, HF⟩ := hrel
    by_cases hlt : q + z.size ≤ s.size
    · have z1 : (q : Int) + (z.size : Int) ≤ (s.size : Int) := by omega
      have z2 : (q : Int) ≤ 1000000000 := by omega
      have z6 : (0 : Int) ≤ (q : Int) := by omega
      obtain ⟨U, hU⟩ := text_of ((s.data.toList.drop q).take z.size)
      have g := slice_mid s U q (q + z.size) (by omega) hlt (by rw [hU]; congr 1; omega)
      rw [show (((q + z.size : Nat)) : Int) = (q : Int) + (z.size : Int) by push_cast; rfl] at g
      have hpre : z.data.toList.isPrefixOf (s.data.toList.drop q) = decide (U.data.toList = z.data.toList) := by
        rw [Bool.eq_iff_iff, List.isPrefixOf_iff_prefix, decide_eq_true_eq, hU, List.prefix_iff_eq_take, lsize]
        exact eq_comm
      obtain ⟨b, hb⟩ : ∃ b, decide (U.data.toList = z.data.toList) = b := ⟨_, rfl⟩
      have g2 : (U.toList == z.toList) = b := by rw [text_eq]; exact hb
      rw [hb] at hpre
      cases b with
      | true =>
        have HE : Hid (Ending.returned (Value.int .i64 (q : Int)) = .returned (.int .i64 m)) := Lib.hid (by rw [HF.out, findV_here hpre])
        clear hpre hb hU HF
        go_wp2
        go_ret
        exact ⟨HE.out, rfl⟩
      | false =>
        have HF2 : Hid (m = findV s.data.toList z.data.toList (q + 1)) := Lib.hid (HF.out.trans (findV_next hpre (by rw [lsize]; omega)))
        clear hpre hb hU HF
        go_wp2
        go_round
        case rel => exact ⟨q + 1, by go_num, by omega, HF2⟩
        case measure => simp [intOf]; omega
    · have z1 : ¬ (q : Int) + (z.size : Int) ≤ (s.size : Int) := by omega
      have z2 : (q : Int) ≤ 1000000000 := by omega
      have z6 : (0 : Int) ≤ (q : Int) := by omega
      have HE : Hid (Ending.returned (Value.int .i64 (-1)) = .returned (.int .i64 m)) := Lib.hid (by rw [HF.out, findV_end (by rw [lsize]; exact hz) (by rw [lsize, lsize]; omega)])
      clear HF
      go_wp2
      go_ret
      exact ⟨HE.out, rfl⟩

end Go.Proofs.YtgbilfbonliipaaGreatDoor

namespace Go.Proofs.YtgbilfbonliipaaGreatDoor
open Go.RowKit

set_option maxRecDepth 100000 in
set_option maxHeartbeats 8000000 in
theorem endR_hid (Q : Nat) (s x : ByteArray) (p : Nat) (hp : p ≤ s.size) (hs : s.size ≤ 1000000) (hxs : x.size ≤ 1000000) : Hid (∀ W n tv fv y, QX W Q s n tv fv y → Calls Tryz.prog 74 #[.pointer (some ⟨Q, 0, none⟩), .int .i64 (p : Int), .string x] W fun e w' => e = .returned (.int .i64 ((p + endM x.data.toList (s.data.toList.drop p) : Nat) : Int)) ∧ Below W.heap.size W w') := Lib.hid fun w n tv fv y hx => by
  obtain ⟨m, hm⟩ : ∃ m, p + endM x.data.toList (s.data.toList.drop p) = m := ⟨_, rfl⟩
  rw [hm]
  have HM := Lib.hid hm.symm
  obtain ⟨Z, hZ⟩ := text_of (60 :: 47 :: x.data.toList)
  have hZs : Z.size = x.size + 2 := by rw [← lsize, hZ, ← lsize x]; rfl
  have a1 := add_to ⟨#[60, 47]⟩ x Z hZ (by show 2 + x.size ≤ _; omega)
  have HZ := Lib.hid hZ
  have HX := Lib.hid hx
  have z3 : (s.size : Int) ≤ 1000000 := by omega
  have z4 : (x.size : Int) ≤ 1000000 := by omega
  have d0 := hx.c0
  have hzl : Z.size ≤ 1000002 := by omega
  have hzx : Z.data.toList.length = x.size + 2 := by rw [lsize]; exact hZs
  have HZX := Lib.hid hzx
  clear hx hm hZ hZs hzx
  go_enter Tryz.func74, Tryz.ntmps74
  go_wp2
  clear d0
  go_loopw [7, 8, 9] (fun i _ _ wr => ∃ q : Nat, i = .int .i64 q ∧ q ≤ s.size ∧ Below w.heap.size w wr ∧ Hid (m = q + endM x.data.toList (s.data.toList.drop q))) (fun i _ _ _ => s.size - (intOf i).toNat)
  case atStart => exact ⟨p, rfl, hp, Below.refl _ _, HM⟩
  case round =>
    obtain ⟨q, rfl, hq, hb, HF⟩ := hrel
    have d0 := (HX.out.below hb).c0
    by_cases hlt : q < s.size
    · have z1 : (q : Int) < (s.size : Int) := by omega
      have z0 : (0 : Int) ≤ (q : Int) := by omega
      have hql : q < s.data.toList.length := by rw [lsize]; exact hlt
      obtain ⟨U, hU⟩ := text_of (s.data.toList.drop q)
      have g := slice_from s U q (by omega) hU
      obtain ⟨b, hbb⟩ : ∃ b, beginsM Z.data.toList U.data.toList = b := ⟨_, rfl⟩
      have CB := beginsR_hid U Z b hbb (by omega)
      have hcb : beginsM (60 :: 47 :: x.data.toList) (s.data.toList.drop q) = b := by rw [← hbb, hU, HZ.out]
      have hstep : ¬ condM x.data.toList (s.data.toList.drop q) → m = (q + 1) + endM x.data.toList (s.data.toList.drop (q + 1)) := fun h => by
        rw [HF.out, endM_miss hql h]
        omega
      have hhere : condM x.data.toList (s.data.toList.drop q) → m = q := fun h => by
        rw [HF.out, endM_hit hql h]
        rfl
      have HS := Lib.hid hstep
      have HH := Lib.hid hhere
      have hsz := hb.size
      have hget : (s.data.toList.drop q)[2 + x.data.toList.length]? = s.data.toList[q + 2 + x.size]? := by
        rw [List.getElem?_drop, lsize, Nat.add_assoc]
      cases hk : s.data.toList[q + 2 + x.size]? with
      | none =>
        have h1 := get_none hk
        have HF2 : Hid (m = (q + 1) + endM x.data.toList (s.data.toList.drop (q + 1))) := Lib.hid (HS.out fun h => by
          have := h.2
          rw [hget, hk] at this
          cases this)
        have z5 : (s.size : Int) ≤ (q : Int) + 2 + (x.size : Int) := by omega
        clear hbb hU hcb hstep hhere hget hk h1 HF
        cases b with
        | false =>
          go_wp2_with fail
          (with_reducible refine (CB.out _).mono ?_)
          rintro e w1 ⟨rfl, b1⟩
          have hb1 := hb.trans (b1.mono hsz)
          clear hb b1 d0
          go_wp2
          go_roundw
          case rel => exact ⟨q + 1, by go_num, by omega, hb1, HF2⟩
          case measure => simp [intOf]; omega
        | true =>
          go_wp2_with fail
          (with_reducible refine (CB.out _).mono ?_)
          rintro e w1 ⟨rfl, b1⟩
          have hb1 := hb.trans (b1.mono hsz)
          have d0 := (HX.out.below hb1).c0
          clear hb b1
          go_wp2
          go_roundw
          case rel => exact ⟨q + 1, by go_num, by omega, hb1, HF2⟩
          case measure => simp [intOf]; omega
      | some c =>
        have h1 := get_some hk
        have z5 : (q : Int) + 2 + (x.size : Int) < (s.size : Int) := by omega
        have i0 := index_ty Tryz.underlying9 s (q + 2 + x.size) c hk
        rw [show (((q + 2 + x.size : Nat)) : Int) = (q : Int) + 2 + (x.size : Int) by push_cast; rfl] at i0
        have hcond : condM x.data.toList (s.data.toList.drop q) ↔ (b = true ∧ nameE c = true) := by
          unfold condM
          rw [hcb, hget, hk]
          rfl
        have HC := Lib.hid hcond
        clear hbb hU hcb hstep hhere hget hk h1 HF hcond
        cases b with
        | false =>
          have HF2 : Hid (m = (q + 1) + endM x.data.toList (s.data.toList.drop (q + 1))) := Lib.hid (HS.out fun h => absurd (HC.out.1 h).1 (by decide))
          clear HS HH HC
          go_wp2_with fail
          (with_reducible refine (CB.out _).mono ?_)
          rintro e w1 ⟨rfl, b1⟩
          have hb1 := hb.trans (b1.mono hsz)
          clear hb b1 d0
          go_wp2
          go_roundw
          case rel => exact ⟨q + 1, by go_num, by omega, hb1, HF2⟩
          case measure => simp [intOf]; omega
        | true =>
          by_cases h47 : c = 47
          · subst h47
            have HE : Hid (Ending.returned (Value.int .i64 (q : Int)) = .returned (.int .i64 (m : Int))) := Lib.hid (by rw [HH.out (HC.out.2 ⟨rfl, by decide⟩)])
            have i0 := i0
            rw [show (((47 : UInt8).toNat : Nat) : Int) = 47 from rfl] at i0
            clear HS HH HC
            go_wp2_with fail
            (with_reducible refine (CB.out _).mono ?_)
            rintro e w1 ⟨rfl, b1⟩
            have hb1 := hb.trans (b1.mono hsz)
            have d0 := (HX.out.below hb1).c0
            clear hb b1
            go_wp2
            go_ret
            exact ⟨HE.out, hb1⟩
          · have g47 : ((c.toNat : Int) == 47) = false := by rw [beq_eq_false_iff_ne]; exact fun e => h47 (byte_is (d := 47) e)
            by_cases h62 : c = 62
            · subst h62
              have HE : Hid (Ending.returned (Value.int .i64 (q : Int)) = .returned (.int .i64 (m : Int))) := Lib.hid (by rw [HH.out (HC.out.2 ⟨rfl, by decide⟩)])
              rw [show (((62 : UInt8).toNat : Nat) : Int) = 62 from rfl] at i0
              clear HS HH HC g47
              go_wp2_with fail
              (with_reducible refine (CB.out _).mono ?_)
              rintro e w1 ⟨rfl, b1⟩
              have hb1 := hb.trans (b1.mono hsz)
              have d0 := (HX.out.below hb1).c0
              clear hb b1
              go_wp2
              go_ret
              exact ⟨HE.out, hb1⟩
            · have g62 : ((c.toNat : Int) == 62) = false := by rw [beq_eq_false_iff_ne]; exact fun e => h62 (byte_is (d := 62) e)
              obtain ⟨bl, hbl⟩ : ∃ bl, blk c = bl := ⟨_, rfl⟩
              have CK := blankR_hid c bl hbl
              have hne : nameE c = bl := by
                unfold nameE
                rw [hbl, show (c == 47) = false from beq_eq_false_iff_ne.2 h47, show (c == 62) = false from beq_eq_false_iff_ne.2 h62, Bool.or_false, Bool.or_false]
              cases bl with
              | true =>
                have HE : Hid (Ending.returned (Value.int .i64 (q : Int)) = .returned (.int .i64 (m : Int))) := Lib.hid (by rw [HH.out (HC.out.2 ⟨rfl, hne⟩)])
                clear HS HH HC hbl hne h47 h62
                go_wp2_with fail
                (with_reducible refine (CB.out _).mono ?_)
                rintro e w1 ⟨rfl, b1⟩
                have hb1 := hb.trans (b1.mono hsz)
                have d0 := (HX.out.below hb1).c0
                clear hb b1
                go_wp2_with fail
                (with_reducible refine (CK.out _).mono ?_)
                rintro e w1 ⟨rfl, rfl⟩
                go_wp2
                go_ret
                exact ⟨HE.out, hb1⟩
              | false =>
                have HF2 : Hid (m = (q + 1) + endM x.data.toList (s.data.toList.drop (q + 1))) := Lib.hid (HS.out fun h => by
                  have := (HC.out.1 h).2
                  rw [hne] at this
                  cases this)
                clear HS HH HC hbl hne h47 h62
                go_wp2_with fail
                (with_reducible refine (CB.out _).mono ?_)
                rintro e w1 ⟨rfl, b1⟩
                have hb1 := hb.trans (b1.mono hsz)
                have d0 := (HX.out.below hb1).c0
                clear hb b1
                go_wp2_with fail
                (with_reducible refine (CK.out _).mono ?_)
                rintro e w1 ⟨rfl, rfl⟩
                go_wp2
                go_roundw
                case rel => exact ⟨q + 1, by go_num, by omega, hb1, HF2⟩
                case measure => simp [intOf]; omega
    · obtain rfl : q = s.size := by omega
      have z1 : ¬ (s.size : Int) < (s.size : Int) := by omega
      have HE : Hid (Ending.returned (Value.int .i64 (s.size : Int)) = .returned (.int .i64 (m : Int))) := Lib.hid (by
        rw [HF.out, show s.data.toList.drop s.size = [] by rw [← lsize]; simp]
        rfl)
      clear HF
      go_wp2
      go_ret
      exact ⟨HE.out, hb⟩

/-! ### what the reader holds -/
structure QV (w : World) (B m Q : Nat) (s : ByteArray) (n : Nat) (T : List Tk) (F : List Fl) (x : ByteArray) (tv fv : Value) : Prop where
  q : QX w Q s n tv fv x
  ht : OwnT w B m tv T
  hf : w.ownsRow B 59 2 fv F.length (flC F)
  lo : B ≤ Q
  hi : Q < m
  mw : m ≤ w.heap.size
def QS (w : World) (B m Q : Nat) (s : ByteArray) (n : Nat) (T : List Tk) (F : List Fl) (x : ByteArray) : Prop := ∃ tv fv, QV w B m Q s n T F x tv fv
theorem TRow.rows {w w' : World} {B m : Nat} (h : ∀ av A, AttrsBy w B m av A → AttrsBy w' B m av A) : ∀ {T : List Tk} {cs : List Value}, TRow w B m T cs → TRow w' B m T cs
  | [], _, h => h
  | _ :: _, _, ⟨av, r, h1, h2, h3⟩ => ⟨av, r, h1, h _ _ h2, h3.rows h⟩
section
variable {w w' : World} {B m Q : Nat} {s : ByteArray} {n : Nat} {T : List Tk} {F : List Fl} {x : ByteArray} {tv fv : Value}
theorem QV.form (h : QV w B m Q s n T F x tv fv) : QS w B m Q s n T F x := ⟨tv, fv, h⟩
theorem QV.bw (h : QV w B m Q s n T F x tv fv) : B ≤ w.heap.size := by have := h.lo; have := h.hi; have := h.mw; omega
theorem QV.moved (h : QV w B m Q s n T F x tv fv) {n' : Nat} {x' : ByteArray} (q : QX w' Q s n' tv fv x') (k : Kp (onR Q) w w') : QV w' B m Q s n' T F x' tv fv := by
  have ne : ∀ {base size n : Nat} {e : TypeId} {v : Value} {xs : List Value}, w.ownsRow base e size v n xs → 54 ≠ e → w'.ownsRow base e size v n xs := fun r hne => k.row r fun j hj _ e => row_ne r h.q hne (by rw [hj]; exact congrArg some e)
  obtain ⟨cs, t1, t2, t3⟩ := h.ht
  exact ⟨q, ⟨cs, ne t1 (by decide), t2, t3.rows fun av A ha => ⟨ne ha.1 (by decide), ha.2⟩⟩, ne h.hf (by decide), h.lo, h.hi, Nat.le_trans h.mw k.size⟩
theorem QV.below (h : QV w B m Q s n T F x tv fv) (b : Below w.heap.size w w') : QV w' B m Q s n T F x tv fv := h.moved (h.q.below b) (Kp.of_below b)
theorem QV.up (h : QV w B m Q s n T F x tv fv) {m' : Nat} (hm : m ≤ m') (hw : m' ≤ w.heap.size) : QV w B m' Q s n T F x tv fv := ⟨h.q, h.ht.up hm, h.hf, h.lo, Nat.lt_of_lt_of_le h.hi hm, hw⟩
theorem QS.below (h : QS w B m Q s n T F x) (b : Below w.heap.size w w') : QS w' B m Q s n T F x := by
  obtain ⟨tv, fv, h⟩ := h
  exact ⟨tv, fv, h.below b⟩
theorem QS.up (h : QS w B m Q s n T F x) {m' : Nat} (hm : m ≤ m') (hw : m' ≤ w.heap.size) : QS w B m' Q s n T F x := by
  obtain ⟨tv, fv, h⟩ := h
  exact ⟨tv, fv, h.up hm hw⟩
theorem QS.bw (h : QS w B m Q s n T F x) : B ≤ w.heap.size := by obtain ⟨tv, fv, h⟩ := h; exact h.bw
theorem QS.lo (h : QS w B m Q s n T F x) : B ≤ Q := by obtain ⟨tv, fv, h⟩ := h; exact h.lo
theorem QS.hi (h : QS w B m Q s n T F x) : Q < m := by obtain ⟨tv, fv, h⟩ := h; exact h.hi
theorem QS.mw (h : QS w B m Q s n T F x) : m ≤ w.heap.size := by obtain ⟨tv, fv, h⟩ := h; exact h.mw
theorem QS.onb (h : QS w B m Q s n T F x) (k : Kp (onR Q) w w') : Below B w w' := k.below (fun j t e => by rw [show j = Q from e]; exact h.lo) h.bw
theorem QS.frb (h : QS w B m Q s n T F x) (k : Kp (frD B Q) w w') : Below B w w' := k.below (fun j t e => by
  rcases e with rfl | e
  · exact h.lo
  · exact e.1) h.bw
theorem QV.frD (h : QV w B m Q s n T F x tv fv) (k : Kp (fun k _ => k = Q ∨ fv.ownBlock = some k) w w') : Kp (frD B Q) w w' := k.mono fun k c t fr hk e => by
  rcases e with e | e
  · exact .inl e
  · obtain ⟨cur, g1, g2, _⟩ := row_block h.hf e
    rw [hk] at g1
    cases g1
    exact .inr ⟨g2, rfl⟩
end

set_option maxRecDepth 100000 in
set_option maxHeartbeats 2000000 in
theorem failQ_rv (code : Int) (place : Nat) (w : World) (B m Q : Nat) (s : ByteArray) (n : Nat) (T : List Tk) (F : List Fl) (x : ByteArray) (tv fv : Value) (h : QV w B m Q s n T F x tv fv) (hl : F.length ≤ 1000000) : Calls Tryz.prog 75 #[.pointer (some ⟨Q, 0, none⟩), .int .i64 code, .int .i64 (place : Int)] w fun e w' => e = .returned (.tuple #[]) ∧ ∃ fv', QV w' B m Q s n T (F ++ [(code, place)]) x tv fv' ∧ (fv'.ownBlock = fv.ownBlock ∨ ∃ k, fv'.ownBlock = some k ∧ w.heap.size ≤ k) ∧ Kp (fun k _ => k = Q ∨ fv.ownBlock = some k) w w' := by
  obtain ⟨i1, hi1, hy0, hy1, hy2⟩ := info_parts Tinfo34
  have hf := h.hf
  have d3 := h.q.c3
  have hne := row_ne hf h.q (by decide)
  have hbw := h.bw
  have hx := h.q
  have HR := Lib.hid h
  clear h
  go_enter Tryz.func75, Tryz.ntmps75
  go_wp2_with (
    at_builtin
    go_loud (
      refine wpList_append_elder _ rfl _ _ 23 rfl B 59 i1 (.agg #[.int .i64 0, .int .i64 0]) 2 16 Tryz.underlying23 hi1 hy0 hy1 hy2 rfl (by decide) _ _ _ rfl (hf.alloc _) ⟨w.heap.size, 0, none⟩ 1 1 [.int .i64 code, .int .i64 (place : Int)] rfl rfl (cells_new w [.int .i64 code, .int .i64 (place : Int)] 59) (fun x hx => by simp at hx; rcases hx with rfl | rfl <;> rfl) (by unfold maxLen; omega) (by omega) (by simp; omega) ?_
      intro v5 w5 hown5 hold5 hgrow5 hat5
      have x5 : QX w5 Q s n tv fv x := by
        have h1 : QX (w.alloc (.cells #[.int .i64 code, .int .i64 (place : Int)] 59)) Q s n tv fv x := hx.below ((Below.refl _ _).alloc (Nat.le_refl _) _)
        unfold QX at h1 ⊢
        rw [hgrow5.block Q (lt_of_block h1) (fun e => hne e.symm)]
        exact h1
      have HX := Lib.hid (x5.set3 v5)
      have HK5 : Hid (Kp (fun k t => fv.ownBlock = some k) w w5) := Lib.hid ((Kp.of_below ((Below.refl _ _).alloc (Nat.le_refl _) _)).trans (Kp.of_grown hgrow5 (fun k c t fr hk _ => hk) fun k hk => by
        obtain ⟨cur, h1, _⟩ := row_block (hf.alloc (.cells #[.int .i64 code, .int .i64 (place : Int)] 59)) hk
        exact ⟨_, _, _, h1⟩))
      have HK6 : Hid (Kp (onR Q) w5 (w5.setCell ⟨Q, 3, none⟩ v5)) := Lib.hid (x5.kset 3 v5)
      have HO : Hid (w5.ownsRow B 59 2 v5 (F ++ [(code, place)]).length (flC (F ++ [(code, place)]))) := Lib.hid (by rw [flC_snoc, List.length_append]; exact hown5)
      have HAT : Hid (v5.ownBlock = fv.ownBlock ∨ v5.ownBlock = some (w.heap.size + 1)) := Lib.hid (by
        rcases hat5 with e | e
        · exact .inl e
        · exact .inr (e.trans (by simp)))
      have d3' := x5.c3
      have f3' := x5.free 3
      have HX5 := Lib.hid x5
      have HF5 : Hid (∃ a k, v5 = .slice a (F.length + 1) k) := Lib.hid (by
        rcases rowForms hown5 with ⟨e1, e2⟩ | ⟨g, k, e1⟩
        · exact ⟨none, 0, by rw [e1, e2]⟩
        · exact ⟨_, _, e1⟩)
      clear hown5 hold5 hgrow5 hat5 x5
      obtain ⟨va, vk, rfl⟩ := HF5.out
      clear HF5))
  go_end0
  have h := HR.out
  have k5 := HK5.out
  have k6 := HK6.out
  have hf5 := HO.out
  have nef : ∀ {base size n : Nat} {e : TypeId} {v : Value} {xs : List Value}, w.ownsRow base e size v n xs → 59 ≠ e → w5.ownsRow base e size v n xs := fun r hne' => k5.row r fun j hj _ e => rows_ne hf r hne' e hj
  have neR : ∀ {base size n : Nat} {e : TypeId} {v : Value} {xs : List Value}, w5.ownsRow base e size v n xs → 54 ≠ e → (w5.setCell ⟨Q, 3, none⟩ (.slice va (F.length + 1) vk)).ownsRow base e size v n xs := fun r hne' => k6.row r fun j hj _ e => row_ne r HX5.out hne' (by rw [hj]; exact congrArg some e)
  obtain ⟨cs, t1, t2, t3⟩ := h.ht
  have kk : Kp (fun k _ => k = Q ∨ fv.ownBlock = some k) w (w5.setCell ⟨Q, 3, none⟩ (.slice va (F.length + 1) vk)) := (k5.mono fun k c t fr hk e => Or.inr e).trans (k6.mono fun k c t fr _ e => Or.inl e)
  refine ⟨rfl, .slice va (F.length + 1) vk, ?_, ?_, kk⟩
  · exact ⟨HX.out, ⟨cs, neR (nef t1 (by decide)) (by decide), t2, t3.rows fun av A ha => ⟨neR (nef ha.1 (by decide)) (by decide), ha.2⟩⟩, neR hf5 (by decide), h.lo, h.hi, Nat.le_trans h.mw kk.size⟩
  · rcases HAT.out with e | e
    · exact .inl e
    · exact .inr ⟨_, e, Nat.le_succ _⟩
theorem failQ_hid (code : Int) (place : Nat) : Hid (∀ W B m Q s n T F x, QS W B m Q s n T F x → F.length ≤ 1000000 → Calls Tryz.prog 75 #[.pointer (some ⟨Q, 0, none⟩), .int .i64 code, .int .i64 (place : Int)] W fun e w' => e = .returned (.tuple #[]) ∧ QS w' B m Q s n T (F ++ [(code, place)]) x ∧ Kp (frD B Q) W w') := Lib.hid fun w B m Q s n T F x h hl => by
  obtain ⟨tv, fv, h⟩ := h
  refine (failQ_rv code place w B m Q s n T F x tv fv h hl).mono ?_
  rintro e w' ⟨rfl, fv', h', -, k⟩
  exact ⟨rfl, ⟨tv, fv', h'⟩, h.frD k⟩

end Go.Proofs.YtgbilfbonliipaaGreatDoor

namespace Go.Proofs.YtgbilfbonliipaaGreatDoor
open Go.RowKit

theorem refDecO_hid (s T : ByteArray) (p : List Nat) (h : decT 0 s.data.toList = (T.data.toList, p)) (hs : s.size ≤ 100000) : Hid (∀ W, Calls Tryz.prog 80 #[.string s] W fun e w' => ∃ a c, e = .returned (.tuple #[.string T, .slice a p.length c]) ∧ w'.ownsRow W.heap.size 59 2 (.slice a p.length c) p.length (failCs p) ∧ Below W.heap.size W w') := Lib.hid fun W => (refDecode_any s hs W).mono fun e w' ⟨v, h1, h2, h3⟩ => by
  rw [h] at h1 h2
  have hf := FailsIn.of_row h2
  obtain ⟨a, c, rfl⟩ := hf.form
  exact ⟨a, c, by rw [h1, text_is (T := T) rfl], h2, h3⟩

set_option maxRecDepth 100000 in
set_option maxHeartbeats 4000000 in
theorem decodeQ_hid (s P D : ByteArray) (p : List Nat) (fr to' : Nat) (hP : P.data.toList = (s.data.toList.drop fr).take (to' - fr)) (hft : fr ≤ to') (hts : to' ≤ s.size) (hs : s.size ≤ 20000) (h : decT 0 P.data.toList = (D.data.toList, p)) : Hid (∀ W B m Q n T F x, QS W B m Q s n T F x → F.length ≤ 500000 → Calls Tryz.prog 48 #[.pointer (some ⟨Q, 0, none⟩), .int .i64 (fr : Int), .int .i64 (to' : Int)] W fun e w' => e = .returned (.string D) ∧ QS w' B m Q s n T (F ++ failM fr p) x ∧ Kp (frD B Q) W w') := Lib.hid fun w B m Q n T F x hr hl => by
  obtain ⟨tv, fv, hr⟩ := hr
  have hPs : P.size ≤ 20000 := by rw [← lsize, hP, List.length_take, List.length_drop, lsize]; omega
  have g := slice_mid s P fr to' hft hts hP
  have CD := refDecO_hid P D p h (by omega)
  have hlen : p.length ≤ 20000 := by
    have := (decT_len 0 P.data.toList).2
    rw [h, lsize] at this
    simp only at this
    omega
  have hplace : ∀ q ∈ p, q ≤ 20000 := fun q hq => by
    have := decT_place 0 P.data.toList q (by rw [h]; exact hq)
    rw [lsize] at this
    omega
  have HP := Lib.hid hplace
  have d0 := hr.q.c0
  have HR0 := Lib.hid hr
  clear h hplace hP hr
  go_enter Tryz.func48, Tryz.ntmps48
  go_wp2_with fail
  (with_reducible refine (CD.out _).mono ?_)
  rintro e w1 ⟨a, c, rfl, hrow, b1⟩
  have hr1 := HR0.out.below b1
  have HG : Hid (∀ g, (Value.slice a p.length c).ownBlock = some g → w.heap.size ≤ g ∧ g < w1.heap.size) := Lib.hid hrow.lt
  have hfv : ∀ j, fv.ownBlock = some j → j < w.heap.size ∨ w1.heap.size ≤ j := fun j hj => .inl (HR0.out.hf.lt j hj).2
  have hk1 : Kp (frD B Q) w w1 := Kp.of_below b1
  have HR1 := Lib.hid (And.intro hr1 (And.intro hfv (And.intro hk1 hrow)))
  obtain ⟨W1, hW1⟩ : ∃ W1, w1.heap.size = W1 := ⟨_, rfl⟩
  rw [hW1] at HR1 HG
  have HW1 := Lib.hid hW1
  clear hr1 hfv hk1 hrow b1 CD hW1 d0 HR0
  go_wp2
  go_loopw [9] (fun i wr => ∃ (k : Nat) (fv' : Value), i = .int .i64 k ∧ k ≤ p.length ∧ Hid (QV wr B m Q s n T (F ++ failM fr (p.take k)) x tv fv' ∧ (∀ j, fv'.ownBlock = some j → j < w.heap.size ∨ W1 ≤ j) ∧ Kp (frD B Q) w wr ∧ wr.ownsRow w.heap.size 59 2 (.slice a p.length c) p.length (failCs p) ∧ W1 ≤ wr.heap.size)) (fun i _ => p.length - (intOf i).toNat)
  case atStart =>
    obtain ⟨h1, h2, h3, h4⟩ := HR1.out
    exact ⟨0, fv, rfl, Nat.zero_le _, Lib.hid ⟨by simpa [failM] using h1, h2, h3, h4, by rw [HW1.out]; exact Nat.le_refl _⟩⟩
  case round =>
    clear HR1
    obtain ⟨k, fv', rfl, hk, HX⟩ := hrel
    by_cases hlt : k < p.length
    · obtain ⟨h1, h2, h3, h4, h5⟩ := HX.out
      obtain ⟨q, hq⟩ : ∃ q, p[k] = q := ⟨_, rfl⟩
      have hq2 : q ≤ 20000 := HP.out q (by rw [← hq]; exact List.getElem_mem hlt)
      have HT : Hid (F ++ failM fr (p.take (k + 1)) = (F ++ failM fr (p.take k)) ++ [((130 : Int), fr + q)]) := Lib.hid (by
        rw [List.take_succ_eq_append_getElem hlt, hq]
        simp [failM])
      have hlen2 : (F ++ failM fr (p.take k)).length ≤ 1000000 := by
        simp only [List.length_append, failM, List.length_map, List.length_take]
        omega
      obtain ⟨g0, rfl⟩ : ∃ g, a = some ⟨g, 0, none⟩ := by
        rcases rowForms h4 with ⟨e1, e2⟩ | ⟨g, cc, e1⟩
        · omega
        · injection e1 with e1 _ _
          exact ⟨g, e1⟩
      have e12 := failCs_at p k hlt
      rw [hq] at e12
      have c0 : wr.cell? ⟨g0, k * 2, none⟩ = some (.int .i64 130) := by rw [h4.cellAt (k * 2) (by omega)]; exact e12.1
      have c1 : wr.cell? ⟨g0, k * 2 + 1, none⟩ = some (.int .i64 (q : Int)) := by rw [h4.cellAt (k * 2 + 1) (by omega)]; exact e12.2
      have z1 : (fr : Int) ≤ 20000 := by omega
      have z2 : (q : Int) ≤ 20000 := by omega
      have z3 : (0 : Int) ≤ (fr : Int) := by omega
      have z4 : (0 : Int) ≤ (q : Int) := by omega
      have CF := failQ_rv 130 (fr + q) wr.drew B m Q s n T _ x tv fv' (show QV wr.drew B m Q s n T (F ++ failM fr (p.take k)) x tv fv' from h1.below (Below.refl _ _).drew) hlen2
      rw [show (((fr + q : Nat)) : Int) = IntKind.i64.wrap ((fr : Int) + (q : Int)) by simp only [IntKind.wrap, IntKind.bits, IntKind.signed]; simp; omega] at CF
      have HCF := Lib.hid CF
      have HH := Lib.hid (And.intro h1 (And.intro h2 (And.intro h3 (And.intro h4 h5))))
      clear CF h1 h2 h3 h4 h5 HX e12 hq hq2
      go_wp2_with fail
      go_region_law (go_simp
                     go_at_call 75
                     (with_reducible refine HCF.out.mono ?_)
                     rintro e w3 ⟨rfl, fv3, h3', hat, k3⟩
                     have HN : Hid (QV w3 B m Q s n T (F ++ failM fr (p.take (k + 1))) x tv fv3 ∧ (∀ j, fv3.ownBlock = some j → j < w.heap.size ∨ W1 ≤ j) ∧ Kp (frD B Q) w w3 ∧ w3.ownsRow w.heap.size 59 2 (.slice (some ⟨g0, 0, none⟩) p.length c) p.length (failCs p) ∧ W1 ≤ w3.heap.size) := Lib.hid (by
                       obtain ⟨h1, h2, h3, h4, h5⟩ := HH.out
                       have k3' : Kp (fun k _ => k = Q ∨ fv'.ownBlock = some k) wr w3 := (Kp.refl _ wr).drew.trans k3
                       refine ⟨by rw [HT.out]; exact h3', fun j hj => ?_, h3.trans (h1.frD k3'), k3'.row h4 fun j hj _ e => ?_, Nat.le_trans h5 k3'.size⟩
                       · rcases hat with e | ⟨j2, e, hj2⟩
                         · exact h2 j (by rw [← e]; exact hj)
                         · rw [e] at hj
                           cases hj
                           exact .inr (Nat.le_trans h5 hj2)
                       · have hg := HG.out j hj
                         rcases e with e | e
                         · exact row_ne h4 h1.q (by decide) (by rw [hj, e])
                         · rcases h2 j e with h | h <;> omega)
                     clear h3' hat k3)
      all_goals
        clear HH HCF c0 c1
        go_wp2
        go_roundw
        case rel => exact ⟨k + 1, fv3, by go_num, by omega, HN⟩
        case measure => simp [intOf]; omega
    · obtain rfl : k = p.length := by omega
      rw [List.take_length] at HX
      go_wp2
      go_ret
      exact ⟨rfl, HX.out.1.form, HX.out.2.2.1⟩

/-! ### text -/
theorem TRow.last {w : World} {B m : Nat} {u : Tk} : ∀ {K : List Tk} {cs : List Value}, TRow w B m (K ++ [u]) cs → ∃ c1 av, cs = c1 ++ tkC u av ∧ c1.length = K.length * 5 ∧ TRow w B m K c1 ∧ AttrsBy w B m av u.a
  | [], cs, ⟨av, r, h1, h2, h3⟩ => ⟨[], av, by rw [h1, show r = [] from h3]; rfl, rfl, rfl, h2⟩
  | t :: K, cs, ⟨av, r, h1, h2, h3⟩ => by
    obtain ⟨c1, bv, e1, e2, e3, e4⟩ := TRow.last h3
    refine ⟨tkC t av ++ c1, bv, by rw [h1, e1, List.append_assoc], ?_, ⟨av, c1, rfl, h2, e3⟩, e4⟩
    rw [List.length_append, e2, List.length_cons]
    show 5 + K.length * 5 = _
    omega
theorem ownsRow_set {w : World} {base : Nat} {e : TypeId} {size n g cap : Nat} {xs : List Value} (h : w.ownsRow base e size (.slice (some ⟨g, 0, none⟩) n cap) n xs) (j : Nat) (u : Value) : (w.setCell ⟨g, j, none⟩ u).ownsRow base e size (.slice (some ⟨g, 0, none⟩) n cap) n (xs.set j u) := by
  refine ⟨by rw [List.length_set]; exact h.1, ?_⟩
  rcases h.2 with ⟨e1, _⟩ | ⟨g', cap', cur, a1, a2, a3, a4, a5, a6, a7⟩
  · cases e1
  · injection a1 with a1 _ a8
    injection a1 with a1
    injection a1 with a1
    subst a1 a8
    refine .inr ⟨g, cap, _, rfl, a2, heap_setCell_same w g j cur e (0, 0) u a3, a4, a5, by rw [Array.size_setIfInBounds]; exact a6, ?_⟩
    rw [Array.toList_setIfInBounds, List.take_set, a7]
theorem row_open {w : World} {base : Nat} {e : TypeId} {size n g cap : Nat} {xs : List Value} (h : w.ownsRow base e size (.slice (some ⟨g, 0, none⟩) n cap) n xs) : ∃ cur, w.heap[g]? = some (.cells cur e (0, 0)) ∧ base ≤ g := by
  rcases h.2 with ⟨e1, _⟩ | ⟨g', cap', cur, a1, a2, a3, _⟩
  · cases e1
  · injection a1 with a1 _ _
    injection a1 with a1
    injection a1 with a1
    subst a1
    exact ⟨cur, a3, a2⟩
theorem push_join {K : List Tk} {u : Tk} (hu : u.k = 1) {d : List UInt8} (hd : d ≠ []) : pushM (K ++ [u]) (some (textT d)) = K ++ [{ u with d := u.d ++ d }] := by
  unfold pushM
  simp only [textT, if_true, hd, if_false]
  rw [List.getLast?_append]
  simp [hu]
theorem push_apart {K : List Tk} {u : Tk} (hu : u.k ≠ 1) {d : List UInt8} (hd : d ≠ []) : pushM (K ++ [u]) (some (textT d)) = K ++ [u] ++ [textT d] := push_text _ _ rfl hd fun v hv => by
  rw [List.getLast?_append] at hv
  simp at hv
  rw [← hv]
  exact hu
/-- What a token more turns: R's own cells, the row of tokens. -/
def frQ (Q : Nat) (tv : Value) (k : Nat) (_ : TypeId) : Prop := k = Q ∨ tv.ownBlock = some k
theorem QV.told {w w' : World} {B m Q : Nat} {s : ByteArray} {n : Nat} {T : List Tk} {F : List Fl} {x : ByteArray} {tv fv : Value} (h : QV w B m Q s n T F x tv fv) {n' m' : Nat} {x' : ByteArray} {T' : List Tk} {tv' : Value} (k : Kp (frQ Q tv) w w') (q : QX w' Q s n' tv' fv x') (ht : OwnT w' B m' tv' T') (hm : m ≤ m') (hm' : m' ≤ w'.heap.size) : QV w' B m' Q s n' T' F x' tv' fv := by
  refine ⟨q, ht, k.row h.hf fun j hj _ e => ?_, h.lo, Nat.lt_of_lt_of_le h.hi hm, hm'⟩
  rcases e with rfl | e
  · exact row_ne h.hf h.q (by decide) hj
  · obtain ⟨cs, h1, _⟩ := h.ht
    exact rows_ne h1 h.hf (by decide) e hj
theorem QV.frQb {w w' : World} {B m Q : Nat} {s : ByteArray} {n : Nat} {T : List Tk} {F : List Fl} {x : ByteArray} {tv fv : Value} (h : QV w B m Q s n T F x tv fv) (k : Kp (frQ Q tv) w w') : Below B w w' := k.below (fun j t e => by
  rcases e with rfl | e
  · exact h.lo
  · obtain ⟨cs, h1, _⟩ := h.ht
    exact (h1.lt j e).1) h.bw

end Go.Proofs.YtgbilfbonliipaaGreatDoor

namespace Go.Proofs.YtgbilfbonliipaaGreatDoor
open Go.RowKit

theorem tk_cells {c1 : List Value} {L : Nat} (h : c1.length = L * 5) (u : Tk) (av : Value) : (c1 ++ tkC u av)[L * 5]? = some (.int .i64 u.k) ∧ (c1 ++ tkC u av)[L * 5 + 1]? = some (strV u.n) ∧ (c1 ++ tkC u av)[L * 5 + 2]? = some (strV u.d) ∧ (c1 ++ tkC u av)[L * 5 + 3]? = some av ∧ (c1 ++ tkC u av)[L * 5 + 4]? = some (.bool u.c) := by
  refine ⟨?_, ?_, ?_, ?_, ?_⟩ <;> rw [List.getElem?_append_right (by omega), h]
  · rw [Nat.sub_self]; rfl
  · rw [Nat.add_sub_cancel_left]; rfl
  · rw [Nat.add_sub_cancel_left]; rfl
  · rw [Nat.add_sub_cancel_left]; rfl
  · rw [Nat.add_sub_cancel_left]; rfl
theorem tk_set {c1 : List Value} {L : Nat} (h : c1.length = L * 5) (u : Tk) (av : Value) (d : List UInt8) : (c1 ++ tkC u av).set (L * 5 + 2) (strV d) = c1 ++ tkC { u with d := d } av := by
  rw [List.set_append_right _ _ (by omega), h, Nat.add_sub_cancel_left]
  rfl
/-- Tokens of which the last one's text has turned. -/
theorem OwnT.join {w : World} {B m : Nat} {g c : Nat} {K : List Tk} {u : Tk} {c1 : List Value} {av : Value} (hrow : w.ownsRow B 40 5 (.slice (some ⟨g, 0, none⟩) (K.length + 1) c) (K.length + 1) (c1 ++ tkC u av)) (hlen : c1.length = K.length * 5) (hm : ∀ k, (Value.slice (some ⟨g, 0, none⟩) (K.length + 1) c).ownBlock = some k → k < m) (h1 : TRow w B m K c1) (h2 : AttrsBy w B m av u.a) (d : List UInt8) : OwnT (w.setCell ⟨g, K.length * 5 + 2, none⟩ (strV d)) B m (.slice (some ⟨g, 0, none⟩) (K.length + 1) c) (K ++ [{ u with d := d }]) := by
  obtain ⟨cur, hg, _⟩ := row_open hrow
  have k : Kp (fun j t => j = g ∧ t = 40) w (w.setCell ⟨g, K.length * 5 + 2, none⟩ (strV d)) := Kp.of_set hg _ ⟨rfl, rfl⟩
  refine ⟨c1 ++ tkC { u with d := d } av, ?_, hm, ?_⟩
  · rw [List.length_append, ← tk_set hlen u av d]
    exact ownsRow_set hrow _ _
  · exact TRow.snoc (t := { u with d := d }) (h2.kp k fun _ _ _ e => absurd e.2 (by decide)) (h1.kp k fun _ _ _ e => absurd e.2 (by decide))

set_option maxRecDepth 100000 in
set_option maxHeartbeats 8000000 in
theorem textQ_join (S : ByteArray) (hS : S.data.toList ≠ []) (K : List Tk) (u : Tk) (hu : u.k = 1) (hd : u.d.length + S.size ≤ 1000000000) (hl : K.length ≤ 900000) : Hid (∀ W B m Q s n F x, QS W B m Q s n (K ++ [u]) F x → Calls Tryz.prog 47 #[.pointer (some ⟨Q, 0, none⟩), .string S] W fun e w' => e = .returned (.tuple #[]) ∧ QS w' B w'.heap.size Q s n (K ++ [{ u with d := u.d ++ S.data.toList }]) F x ∧ Below B W w') := Lib.hid fun w B m Q s n F x h => by
  obtain ⟨tv, fv, h⟩ := h
  obtain ⟨U, hU⟩ := text_of u.d
  obtain ⟨V, hV⟩ := text_of (u.d ++ S.data.toList)
  have hUs : U.size = u.d.length := by rw [← lsize, hU]
  have a1 := add_to U S V (by rw [hV, hU]) (by omega)
  have g0 : (S.toList == []) = false := by
    rw [text_lit]
    exact decide_eq_false hS
  have g1 : S.toList.isEmpty = false := by
    rw [text_empty]
    cases hq : S.data.toList with
    | nil => exact absurd hq hS
    | cons => rfl
  obtain ⟨cs, t1, t2, t3⟩ := h.ht
  obtain ⟨c1, av, rfl, hlen, q1, q2⟩ := t3.last
  obtain ⟨g, c, rfl⟩ : ∃ g c, tv = .slice (some ⟨g, 0, none⟩) (K.length + 1) c := by
    rcases rowForms t1 with ⟨e1, e2⟩ | ⟨g, cc, e1⟩
    · rw [List.length_append] at e2; simp at e2
    · rw [List.length_append] at e1; exact ⟨g, cc, e1⟩
  rw [List.length_append] at t1
  have t1 : w.ownsRow B 40 5 (.slice (some ⟨g, 0, none⟩) (K.length + 1) c) (K.length + 1) (c1 ++ tkC u av) := t1
  obtain ⟨e0, -, e2, -, -⟩ := tk_cells hlen u av
  have b0 : w.cell? ⟨g, K.length * 5, none⟩ = some (.int .i64 1) := by rw [t1.cellAt (K.length * 5) (by omega), e0, hu]
  have b2 : w.cell? ⟨g, K.length * 5 + 2, none⟩ = some (.string U) := by rw [t1.cellAt (K.length * 5 + 2) (by omega), e2, strV_of hU]
  obtain ⟨cur, hg, hBg⟩ := row_open t1
  have b3 := open_of hg (K.length * 5 + 2)
  have d2 := h.q.c2
  have hne : g ≠ Q := fun e => row_ne t1 h.q (by decide) (by rw [← e]; rfl)
  have HN : Hid (QV (w.setCell ⟨g, K.length * 5 + 2, none⟩ (.string V)) B (w.setCell ⟨g, K.length * 5 + 2, none⟩ (.string V)).heap.size Q s n (K ++ [{ u with d := u.d ++ S.data.toList }]) F x (.slice (some ⟨g, 0, none⟩) (K.length + 1) c) fv ∧ Below B w (w.setCell ⟨g, K.length * 5 + 2, none⟩ (.string V))) := Lib.hid (by
    have hj := OwnT.join t1 hlen t2 q1 q2 (u.d ++ S.data.toList)
    rw [strV_of hV] at hj
    have k : Kp (frQ Q (.slice (some ⟨g, 0, none⟩) (K.length + 1) c)) w (w.setCell ⟨g, K.length * 5 + 2, none⟩ (.string V)) := Kp.of_set hg _ (.inr rfl)
    have hsz := k.size
    have k0 : Kp (fun j _ => j = g) w (w.setCell ⟨g, K.length * 5 + 2, none⟩ (.string V)) := Kp.of_set hg _ rfl
    exact ⟨h.told k (h.q.kp k0 (fun e => hne e.symm)) (hj.up (Nat.le_trans h.mw hsz)) (Nat.le_trans h.mw hsz) (Nat.le_refl _), h.frQb k⟩)
  have z2 : (K.length : Int) ≤ 900000 := by omega
  clear h hU hV hUs hd hS t1 t2 t3 q1 q2 e0 e2 hlen hg
  obtain ⟨L, hL⟩ : ∃ L, K.length = L := ⟨_, rfl⟩
  rw [hL] at b0 b2 b3 d2 HN z2
  clear hl hL
  go_enter Tryz.func47, Tryz.ntmps47
  go_wp2
  go_region
  all_goals
    go_wp2
    (try simp only [Exit.inBlock, Exit.then])
    refine bodyPost_ret (results_none rfl _ _ _) rfl ?_
    exact ⟨rfl, HN.out.1.form.below (Below.refl _ _).drew, HN.out.2.drew⟩

/-- A token more: what an append leaves. -/
theorem QV.appended {w wa w6 : World} {B m Q : Nat} {s : ByteArray} {n : Nat} {T : List Tk} {F : List Fl} {x : ByteArray} {tv fv v6 : Value} {cs : List Value} {t : Tk} {av : Value} (h : QV w B m Q s n T F x tv fv) (b : Below w.heap.size w wa) (t1 : w.ownsRow B 40 5 tv T.length cs) (t3 : TRow w B m T cs) (ha : AttrsBy w B w.heap.size av t.a) (hown : w6.ownsRow B 40 5 v6 (T.length + 1) (cs ++ tkC t av)) (hg : wa.grownBy w6 tv.ownBlock) :
    QX w6 Q s n tv fv x ∧ QV (w6.setCell ⟨Q, 2, none⟩ v6) B (w6.setCell ⟨Q, 2, none⟩ v6).heap.size Q s n (T ++ [t]) F x v6 fv ∧ Kp (frQ Q tv) w (w6.setCell ⟨Q, 2, none⟩ v6) := by
  have hne : tv.ownBlock ≠ some Q := row_ne t1 h.q (by decide)
  have q1 := h.q.below b
  have x6 : QX w6 Q s n tv fv x := by
    unfold QX at q1 ⊢
    rw [hg.block Q (lt_of_block q1) (fun e => hne e.symm)]
    exact q1
  have k6 : Kp (frQ Q tv) w w6 := (Kp.of_below b).trans (Kp.of_grown hg (fun k c t fr hk _ => .inr hk) fun k hk => by
    obtain ⟨cur, h1, _⟩ := row_block (ownsRow_below t1 b) hk
    exact ⟨_, _, _, h1⟩)
  have k7 : Kp (frQ Q tv) w (w6.setCell ⟨Q, 2, none⟩ v6) := k6.trans ((x6.kset 2 _).mono fun k c t fr _ e => .inl e)
  have hsz : (w6.setCell ⟨Q, 2, none⟩ v6).heap.size = w6.heap.size := by simp [World.setCell]
  have hT6 : OwnT w6 B w6.heap.size v6 (T ++ [t]) := by
    have t3' : TRow wa B w.heap.size T cs := (t3.up h.mw).kp (Kp.of_below b (P := fun _ _ => False)) fun _ _ _ e => e
    exact OwnT.grow t3' (ha.below b) b.size (ownsRow_below t1 b) hown hg
  have hT7 : OwnT (w6.setCell ⟨Q, 2, none⟩ v6) B w6.heap.size v6 (T ++ [t]) := by
    obtain ⟨ds, r1, r2, r3⟩ := hT6
    have ne : ∀ {base size n : Nat} {e : TypeId} {v : Value} {xs : List Value}, w6.ownsRow base e size v n xs → 54 ≠ e → (w6.setCell ⟨Q, 2, none⟩ v6).ownsRow base e size v n xs := fun r hne => (x6.kset 2 v6).row r fun j hj _ e => row_ne r x6 hne (by rw [hj]; exact congrArg some e)
    exact ⟨ds, ne r1 (by decide), r2, r3.rows fun av A ha => ⟨ne ha.1 (by decide), ha.2⟩⟩
  refine ⟨x6, ?_, k7⟩
  have hm : m ≤ (w6.setCell ⟨Q, 2, none⟩ v6).heap.size := Nat.le_trans h.mw k7.size
  exact h.told k7 (x6.set2 v6) (hT7.up (by rw [hsz]; exact Nat.le_refl _)) hm (Nat.le_refl _)

set_option maxRecDepth 100000 in
set_option maxHeartbeats 8000000 in
theorem textQ_append (S : ByteArray) (hS : S.data.toList ≠ []) (T : List Tk) (ht : ∀ u, T.getLast? = some u → u.k ≠ 1) (hl : T.length ≤ 900000) : Hid (∀ W B m Q s n F x, QS W B m Q s n T F x → Calls Tryz.prog 47 #[.pointer (some ⟨Q, 0, none⟩), .string S] W fun e w' => e = .returned (.tuple #[]) ∧ QS w' B w'.heap.size Q s n (T ++ [textT S.data.toList]) F x ∧ Below B W w') := Lib.hid fun w B m Q s n F x h => by
  obtain ⟨tv, fv, h⟩ := h
  obtain ⟨i0, hi, hz0, hz1, hz2⟩ := info_parts TinfoT
  have g0 : (S.toList == []) = false := by
    rw [text_lit]
    exact decide_eq_false hS
  have g1 : S.toList.isEmpty = false := by
    rw [text_empty]
    cases hq : S.data.toList with
    | nil => exact absurd hq hS
    | cons => rfl
  have d2 := h.q.c2
  have hbw := h.bw
  obtain ⟨cs, t1, t2, t3⟩ := h.ht
  have HH := Lib.hid (And.intro h t3)
  have hlast : T = [] ∨ ∃ K u, T = K ++ [u] ∧ u.k ≠ 1 := by
    rcases List.eq_nil_or_concat T with e | ⟨K, u, e⟩
    · exact .inl e
    · rw [List.concat_eq_append] at e
      exact .inr ⟨K, u, e, ht u (by rw [e]; simp)⟩
  obtain ⟨a, c, rfl⟩ := h.ht.form
  rcases hlast with hT0 | ⟨K, u, hTK, hu⟩
  · have z0 : (T.length : Int) = 0 := by rw [hT0]; rfl
    clear h t2 t3 hT0 ht hS
    go_enter Tryz.func47, Tryz.ntmps47
    go_wp2_with (
      at_builtin
      go_loud (
        refine wpList_append_own_at _ rfl _ _ 22 rfl B 40 i0 (.agg #[.int .i64 0, .string ⟨#[]⟩, .string ⟨#[]⟩, .slice none 0 0, .bool false]) 5 72 Tryz.underlying22 hi hz0 hz1 hz2 rfl (by decide) _ _ _ rfl (t1.alloc _) ⟨w.heap.size, 0, none⟩ 1 1 [.int .i64 1, .string ⟨#[]⟩, .string S, .slice none 0 0, .bool false] rfl rfl (cells_new w [.int .i64 1, .string ⟨#[]⟩, .string S, .slice none 0 0, .bool false] 40) (fun x hx => by simp at hx; rcases hx with rfl | rfl | rfl | rfl | rfl <;> rfl) (by unfold maxLen; omega) (by omega) (by simp; omega) ?_
        intro v6 w6 hown6 hgrow6 _ hat6
        have hown7 : w6.ownsRow B 40 5 v6 (T.length + 1) (cs ++ tkC (textT S.data.toList) (.slice none 0 0)) := by
          have e : tkC (textT S.data.toList) (.slice none 0 0) = [.int .i64 1, .string ⟨#[]⟩, .string S, .slice none 0 0, .bool false] := by
            unfold tkC textT
            rw [strV_of (T := S) rfl]
            rfl
          rw [e]
          exact hown6
        have HA := Lib.hid (HH.out.1.appended ((Below.refl _ _).alloc (Nat.le_refl _) _) t1 HH.out.2 (AttrsBy.nil _ _ _) hown7 hgrow6)
        have d6 := HA.out.1.c2
        have f6 := HA.out.1.free 2
        have HF6 : Hid (∃ a k, v6 = .slice a (T.length + 1) k) := Lib.hid (by
          rcases rowForms hown6 with ⟨e1, e2⟩ | ⟨g, k, e1⟩
          · exact ⟨none, 0, by rw [e1, e2]⟩
          · exact ⟨_, _, e1⟩)
        clear hown6 hgrow6 hat6 hown7
        obtain ⟨va, vk, rfl⟩ := HF6.out
        clear HF6))
    go_end0
    exact ⟨rfl, HA.out.2.1.form, HH.out.1.frQb HA.out.2.2⟩
  · have hlen : T.length = K.length + 1 := by rw [hTK, List.length_append]; rfl
    have z1 : (0 : Int) < (T.length : Int) := by omega
    rw [hTK] at t3
    obtain ⟨c1, av, hcs, hlen1, q1, q2⟩ := t3.last
    obtain ⟨g, rfl⟩ : ∃ g, a = some ⟨g, 0, none⟩ := by
      rcases rowForms t1 with ⟨e1, e2⟩ | ⟨g, cc, e1⟩
      · omega
      · injection e1 with e1 _ _
        exact ⟨g, e1⟩
    have b0 : w.cell? ⟨g, K.length * 5, none⟩ = some (.int .i64 u.k) := by rw [t1.cellAt (K.length * 5) (by omega), hcs]; exact (tk_cells hlen1 u av).1
    have gk : (u.k == 1) = false := by rw [beq_eq_false_iff_ne]; exact hu
    have z2 : (K.length : Int) ≤ 900000 := by omega
    have z3 : (T.length : Int) - 1 = (K.length : Int) := by omega
    obtain ⟨uk, huk⟩ : ∃ uk, u.k = uk := ⟨_, rfl⟩
    rw [huk] at b0 gk
    obtain ⟨L, hL⟩ : ∃ L, K.length = L := ⟨_, rfl⟩
    rw [hL] at b0 z2 z3
    have z5 : L < T.length := by omega
    clear h t2 t3 ht hS hcs hlen1 q1 q2 hTK hu huk hlen hL
    go_enter Tryz.func47, Tryz.ntmps47
    go_wp2_with (
      at_builtin
      go_loud (
        refine wpList_append_own_at _ rfl _ _ 22 rfl B 40 i0 (.agg #[.int .i64 0, .string ⟨#[]⟩, .string ⟨#[]⟩, .slice none 0 0, .bool false]) 5 72 Tryz.underlying22 hi hz0 hz1 hz2 rfl (by decide) _ _ _ rfl (t1.alloc _) ⟨w.heap.size, 0, none⟩ 1 1 [.int .i64 1, .string ⟨#[]⟩, .string S, .slice none 0 0, .bool false] rfl rfl (cells_new w [.int .i64 1, .string ⟨#[]⟩, .string S, .slice none 0 0, .bool false] 40) (fun x hx => by simp at hx; rcases hx with rfl | rfl | rfl | rfl | rfl <;> rfl) (by unfold maxLen; omega) (by omega) (by simp; omega) ?_
        intro v6 w6 hown6 hgrow6 _ hat6
        have hown7 : w6.ownsRow B 40 5 v6 (T.length + 1) (cs ++ tkC (textT S.data.toList) (.slice none 0 0)) := by
          have e : tkC (textT S.data.toList) (.slice none 0 0) = [.int .i64 1, .string ⟨#[]⟩, .string S, .slice none 0 0, .bool false] := by
            unfold tkC textT
            rw [strV_of (T := S) rfl]
            rfl
          rw [e]
          exact hown6
        have HA := Lib.hid (HH.out.1.appended ((Below.refl _ _).alloc (Nat.le_refl _) _) t1 HH.out.2 (AttrsBy.nil _ _ _) hown7 hgrow6)
        have d6 := HA.out.1.c2
        have f6 := HA.out.1.free 2
        have HF6 : Hid (∃ a k, v6 = .slice a (T.length + 1) k) := Lib.hid (by
          rcases rowForms hown6 with ⟨e1, e2⟩ | ⟨g, k, e1⟩
          · exact ⟨none, 0, by rw [e1, e2]⟩
          · exact ⟨_, _, e1⟩)
        clear hown6 hgrow6 hat6 hown7
        obtain ⟨va, vk, rfl⟩ := HF6.out
        clear HF6))
    go_end0
    exact ⟨rfl, HA.out.2.1.form, HH.out.1.frQb HA.out.2.2⟩

set_option maxRecDepth 100000 in
theorem textQ_none : Hid (∀ W B m Q s n T F x, QS W B m Q s n T F x → Calls Tryz.prog 47 #[.pointer (some ⟨Q, 0, none⟩), .string ⟨#[]⟩] W fun e w' => e = .returned (.tuple #[]) ∧ w' = W) := Lib.hid fun w B m Q s n T F x h => by
  obtain ⟨tv, fv, h⟩ := h
  have d2 := h.q.c2
  obtain ⟨a, c, rfl⟩ := h.ht.form
  clear h
  go_enter Tryz.func47, Tryz.ntmps47
  go_wp2
  (try simp only [Exit.inBlock, Exit.then])
  refine bodyPost_ret (results_none rfl _ _ _) rfl ?_
  exact ⟨rfl, rfl⟩
/-- The last token's text is not too long. -/
def LastD (T : List Tk) (k : Nat) : Prop := ∀ u, T.getLast? = some u → u.d.length ≤ k
theorem textQ_hid (S : ByteArray) (T : List Tk) (hS : S.size ≤ 1000000) (hd : LastD T 1000000) (hl : T.length ≤ 900000) : Hid (∀ W B m Q s n F x, QS W B m Q s n T F x → Calls Tryz.prog 47 #[.pointer (some ⟨Q, 0, none⟩), .string S] W fun e w' => e = .returned (.tuple #[]) ∧ QS w' B w'.heap.size Q s n (pushM T (some (textT S.data.toList))) F x ∧ Below B W w') := Lib.hid fun w B m Q s n F x h => by
  by_cases h0 : S.data.toList = []
  · obtain rfl : S = ⟨#[]⟩ := text_is h0
    refine (textQ_none.out w B m Q s n T F x h).mono ?_
    rintro e w' ⟨rfl, rfl⟩
    exact ⟨rfl, by rw [show (⟨#[]⟩ : ByteArray).data.toList = [] from rfl, push_empty]; exact h.up h.mw (Nat.le_refl _), Below.refl _ _⟩
  · rcases List.eq_nil_or_concat T with e | ⟨K, u, e⟩
    · rw [push_text T (textT S.data.toList) rfl h0 fun u hu => by rw [e] at hu; cases hu]
      exact (textQ_append S h0 T (fun u hu => by rw [e] at hu; cases hu) hl).out w B m Q s n F x h
    · rw [List.concat_eq_append] at e
      by_cases hu : u.k = 1
      · subst e
        rw [push_join hu h0]
        refine (textQ_join S h0 K u hu ?_ ?_).out w B m Q s n F x h
        · have := hd u (by simp)
          omega
        · rw [List.length_append] at hl; omega
      · have hq : ∀ v, T.getLast? = some v → v.k ≠ 1 := fun v hv => by
          rw [e] at hv
          simp at hv
          rw [← hv]
          exact hu
        rw [push_text T (textT S.data.toList) rfl h0 hq]
        exact (textQ_append S h0 T hq hl).out w B m Q s n F x h

end Go.Proofs.YtgbilfbonliipaaGreatDoor
