/- What stands at a place: letters, blanks and signs, a sign's text, a raw name's end tag (the program's text). The cursor within the program's reader: what stands at it, what it takes and leaves out. -/
import Derived.Test.YtfbhpmafjehojaaGreatDoorToA
namespace Go.Proofs.YtfbhpmafjehojaaGreatDoor
open Go.RowKit

theorem index_ty {t : TypeId} (ht : Tryz.prog.underlying t = some .string) (L : ByteArray) (k : Nat) (c : UInt8) (h : L.data.toList[k]? = some c) : ∀ W, (Instr.index t (.string L) (.int .i64 (k : Int))).run Tryz.prog W = .ok (.int .u8 (c.toNat : Int)) W := fun W => by
  obtain ⟨hk, hc⟩ := List.getElem?_eq_some_iff.1 h
  rw [lsize] at hk
  have e3 : ∀ (n : Nat) (hn : n < L.size), n = k → L[n] = c := fun n hn hq => by
    subst hq
    exact hc
  rw [run_index_string W t L .i64 (k : Int) ht, dif_pos ⟨by omega, by omega⟩, e3 _ _ (by omega)]
theorem get_none {s : ByteArray} {k : Nat} (h : s.data.toList[k]? = none) : s.size ≤ k := by
  rw [List.getElem?_eq_none_iff, lsize] at h; exact h
theorem get_some {s : ByteArray} {k : Nat} {c : UInt8} (h : s.data.toList[k]? = some c) : k < s.size := by
  have := (List.getElem?_eq_some_iff.1 h).1
  rw [lsize] at this; exact this

theorem isLetter_any (s : ByteArray) (k : Nat) (w : World) : Calls Tryz.prog 59 #[.string s, .int .i64 (k : Int)] w fun e w' => e = .returned (.bool ((s.data.toList[k]?).any letB)) ∧ w' = w := by
  cases hc : s.data.toList[k]? with
  | none =>
    have h1 := get_none hc
    have z : ¬ (k : Int) < (s.size : Int) := by omega
    clear hc h1
    go_enter Tryz.func59, Tryz.ntmps59
    go_wp2
    go_ret
    exact ⟨rfl, rfl⟩
  | some c =>
    have h1 := get_some hc
    have z : (k : Int) < (s.size : Int) := by omega
    have i0 := index_ty Tryz.underlying60 s k c hc
    have HL : Hid (letB c = (decide (97 ≤ (c.toNat : Int) ∧ (c.toNat : Int) ≤ 122) || decide (65 ≤ (c.toNat : Int) ∧ (c.toNat : Int) ≤ 90))) := Lib.hid (by
      unfold letB
      rw [Bool.eq_iff_iff]
      simp only [Bool.or_eq_true, decide_eq_true_eq]
      omega)
    clear hc h1
    go_enter Tryz.func59, Tryz.ntmps59
    go_wp2
    all_goals go_ret
    all_goals refine ⟨ret_bool ?_, rfl⟩
    all_goals (try simp only [Option.any_some])
    all_goals rw [HL.out, Bool.eq_iff_iff]
    all_goals simp only [Bool.or_eq_true, decide_eq_true_eq, true_iff, Bool.false_eq_true, false_iff]
    all_goals omega
theorem isLetter_hid (s : ByteArray) (k : Nat) (b : Bool) (h : (s.data.toList[k]?).any letB = b) : Hid (∀ W, Calls Tryz.prog 59 #[.string s, .int .i64 (k : Int)] W fun e w' => e = .returned (.bool b) ∧ w' = W) := Lib.hid fun W => by rw [← h]; exact isLetter_any s k W
theorem blank_hid (c : UInt8) (b : Bool) (h : blk c = b) : Hid (∀ W, Calls Tryz.prog 111 #[.int .u8 (c.toNat : Int)] W fun e w' => e = .returned (.bool b) ∧ w' = W) := Lib.hid fun W => by
  have H := Lib.hid fun W => has_any c W
  subst h
  generalize blk c = b at *
  go_enter Tryz.func111, Tryz.ntmps111
  go_wp2_with (go_at_call 132; refine (H.out _).mono ?_; rintro e w' ⟨rfl, rfl⟩)
  go_ret
  exact ⟨rfl, rfl⟩
def oneOf (L : List UInt8) (c : UInt8) : Bool := blk c || L.contains c
theorem isOneOf_any (s L : ByteArray) (k : Nat) (w : World) : Calls Tryz.prog 91 #[.string s, .int .i64 (k : Int), .string L] w fun e w' => e = .returned (.bool ((s.data.toList[k]?).any (oneOf L.data.toList))) ∧ w' = w := by
  cases hc : s.data.toList[k]? with
  | none =>
    have h1 := get_none hc
    have z : ¬ (k : Int) < (s.size : Int) := by omega
    clear hc h1
    go_enter Tryz.func91, Tryz.ntmps91
    go_wp2
    go_ret
    exact ⟨rfl, rfl⟩
  | some c =>
    have h1 := get_some hc
    have z : (k : Int) < (s.size : Int) := by omega
    have i0 := index_ty Tryz.underlying60 s k c hc
    have hI := fun W => Tryz.strings_IndexByte L (c.toNat : Int) W
    have e : ((c.toNat : Int)).toNat.toUInt8 = c := by simp
    rw [e] at hI
    have hm := indexByte_mem L.data.toList c
    generalize Lib.indexByte L.data.toList c = n at hm hI
    have HI := Lib.hid hI
    clear hI e hc h1
    cases hb : blk c with
    | true =>
      have CB := blank_hid c true hb
      have HV : Hid ((some c).any (oneOf L.data.toList) = true) := Lib.hid (by simp [oneOf, hb])
      clear hb hm
      go_enter Tryz.func91, Tryz.ntmps91
      go_wp2_with (go_at_call 111; refine (CB.out _).mono ?_; rintro e w' ⟨rfl, rfl⟩)
      go_ret
      exact ⟨ret_bool HV.out.symm, rfl⟩
    | false =>
      have CB := blank_hid c false hb
      rcases hm with ⟨hm, hn⟩ | ⟨hm, rfl⟩
      · have HV : Hid ((some c).any (oneOf L.data.toList) = true) := Lib.hid (by simpa [oneOf, hb] using hm)
        clear hb hm
        go_enter Tryz.func91, Tryz.ntmps91
        go_wp2_with (first | (go_at_call 111; refine (CB.out _).mono ?_; rintro e w' ⟨rfl, rfl⟩) | (go_at_call 112; refine (HI.out _).mono ?_; rintro e w' ⟨rfl, rfl⟩))
        go_ret
        exact ⟨ret_bool HV.out.symm, rfl⟩
      · have HV : Hid ((some c).any (oneOf L.data.toList) = false) := Lib.hid (by simpa [oneOf, hb] using hm)
        clear hb hm
        go_enter Tryz.func91, Tryz.ntmps91
        go_wp2_with (first | (go_at_call 111; refine (CB.out _).mono ?_; rintro e w' ⟨rfl, rfl⟩) | (go_at_call 112; refine (HI.out _).mono ?_; rintro e w' ⟨rfl, rfl⟩))
        go_ret
        exact ⟨ret_bool HV.out.symm, rfl⟩
theorem isOneOf_hid (s L : ByteArray) (k : Nat) (b : Bool) (h : (s.data.toList[k]?).any (oneOf L.data.toList) = b) : Hid (∀ W, Calls Tryz.prog 91 #[.string s, .int .i64 (k : Int), .string L] W fun e w' => e = .returned (.bool b) ∧ w' = W) := Lib.hid fun W => by rw [← h]; exact isOneOf_any s L k W

/-! ### a sign's text -/
theorem same_hid (a z : ByteArray) (b : Bool) (h : decide (low a.data.toList = low z.data.toList) = b) (ha : a.size ≤ 1099511627776) (hz : z.size ≤ 1099511627776) : Hid (∀ W, Calls Tryz.prog 97 #[.string a, .string z] W fun e w' => e = .returned (.bool b) ∧ Below W.heap.size W w') := Lib.hid fun W => by
  obtain ⟨A, hA⟩ := text_of (low a.data.toList)
  obtain ⟨Z, hZ⟩ := text_of (low z.data.toList)
  have C1 := lower_hid a A hA ha
  have C2 := lower_hid z Z hZ hz
  have g : (A.toList == Z.toList) = b := by rw [text_eq, hA, hZ]; exact h
  clear hA hZ h
  go_enter Tryz.func97, Tryz.ntmps97
  go_wp2_with fail
  (with_reducible refine (C1.out _).mono ?_)
  rintro e w1 ⟨rfl, b1⟩
  go_wp2_with fail
  (with_reducible refine (C2.out _).mono ?_)
  rintro e w2 ⟨rfl, b2⟩
  have b3 := b1.trans (b2.mono b1.size)
  clear b1 b2
  go_wp2
  go_ret
  exact ⟨rfl, b3⟩
theorem slice_ty {t : TypeId} (ht : Tryz.prog.underlying t = some .string) (L U : ByteArray) (i j : Nat) (hij : i ≤ j) (hj : j ≤ L.size) (h : U.data.toList = (L.data.toList.drop i).take (j - i)) : ∀ W, (Instr.slice t (.string L) (some (.int .i64 (i : Int))) (some (.int .i64 (j : Int))) none).run Tryz.prog W = .ok (.string U) W := fun W => by
  have e : L.extract i j = U := cut_run L U i j hij hj h
  simp [Instr.slice, go_sem, run_underlying ht, e, hj, hij]
set_option maxHeartbeats 1000000 in
/-- Whether a sign (in small letters) stands at a place. -/
theorem isAt_any (s z : ByteArray) (k : Nat) (hk : k ≤ s.size) (hz : low z.data.toList = z.data.toList) (hs : s.size ≤ 1000000000) (hzs : z.size ≤ 1000000000) (w : World) : Calls Tryz.prog 69 #[.string s, .int .i64 (k : Int), .string z] w fun e w' => e = .returned (.bool (beginsM z.data.toList (s.data.toList.drop k))) ∧ Below w.heap.size w w' := by
  by_cases h : k + z.size ≤ s.size
  · obtain ⟨U, hU⟩ := text_of ((s.data.toList.drop k).take z.size)
    have g := slice_ty Tryz.underlying60 s U k (k + z.size) (by omega) h (by rw [hU]; congr 1; omega)
    rw [show (((k + z.size : Nat)) : Int) = (k : Int) + (z.size : Int) by push_cast; rfl] at g
    have hUs : U.size = z.size := by rw [← lsize, hU, List.length_take, List.length_drop, lsize]; omega
    have C := same_hid U z (beginsM z.data.toList (s.data.toList.drop k)) (by
      unfold beginsM
      rw [hz, lsize, hU, show decide (z.size ≤ (s.data.toList.drop k).length) = true from decide_eq_true (by rw [List.length_drop, lsize]; omega)]
      rfl) (by omega) (by omega)
    generalize beginsM z.data.toList (s.data.toList.drop k) = b at C ⊢
    have z1 : (k : Int) + (z.size : Int) ≤ (s.size : Int) := by omega
    have z0 : (0 : Int) ≤ (k : Int) := by omega
    have z2 : (0 : Int) ≤ (z.size : Int) := by omega
    have z3 : (s.size : Int) ≤ 1000000000 := by omega
    clear hU hUs h hz
    go_enter Tryz.func69, Tryz.ntmps69
    go_wp2_with fail
    (with_reducible refine (C.out _).mono ?_)
    rintro e w1 ⟨rfl, b1⟩
    go_wp2
    go_ret
    exact ⟨rfl, b1⟩
  · have HV : Hid (beginsM z.data.toList (s.data.toList.drop k) = false) := Lib.hid (by
      unfold beginsM
      rw [decide_eq_false (by rw [List.length_drop, lsize, lsize]; omega)]
      rfl)
    have z1 : ¬ (k : Int) + (z.size : Int) ≤ (s.size : Int) := by omega
    have z0 : (0 : Int) ≤ (k : Int) := by omega
    have z2 : (0 : Int) ≤ (z.size : Int) := by omega
    have z3 : (s.size : Int) ≤ 1000000000 := by omega
    have z4 : (k : Int) ≤ 1000000000 := by omega
    have z5 : (z.size : Int) ≤ 1000000000 := by omega
    clear h hz
    go_enter Tryz.func69, Tryz.ntmps69
    go_wp2
    go_ret
    exact ⟨ret_bool HV.out.symm, Below.refl _ _⟩
theorem isAt_hid (s z : ByteArray) (k : Nat) (b : Bool) (h : beginsM z.data.toList (s.data.toList.drop k) = b) (hk : k ≤ s.size) (hz : low z.data.toList = z.data.toList) (hs : s.size ≤ 1000000000) (hzs : z.size ≤ 1000000000) : Hid (∀ W, Calls Tryz.prog 69 #[.string s, .int .i64 (k : Int), .string z] W fun e w' => e = .returned (.bool b) ∧ Below W.heap.size W w') := Lib.hid fun W => by rw [← h]; exact isAt_any s z k hk hz hs hzs W

/-! ### a raw name's end tag -/
def endV (s x : List UInt8) (k : Nat) : Value := if endM x (s.drop k) < s.length - k then .tuple #[.int .i64 ((k + endM x (s.drop k) : Nat) : Int), .bool true] else .tuple #[.int .i64 0, .bool false]
theorem endV_here {s x : List UInt8} {k : Nat} (hk : k < s.length) (h : condM x (s.drop k)) : endV s x k = .tuple #[.int .i64 (k : Int), .bool true] := by
  have e : endM x (s.drop k) = 0 := by
    rw [List.drop_eq_getElem_cons hk] at h ⊢
    unfold endM
    exact if_pos h
  unfold endV
  rw [e, if_pos (by omega)]
  rfl
theorem endV_next {s x : List UInt8} {k : Nat} (hk : k < s.length) (h : ¬ condM x (s.drop k)) : endV s x k = endV s x (k + 1) := by
  have e : endM x (s.drop k) = endM x (s.drop (k + 1)) + 1 := by
    rw [List.drop_eq_getElem_cons hk] at h ⊢
    unfold endM
    conv => lhs; unfold endM
    exact if_neg h
  unfold endV
  rw [e]
  by_cases h2 : endM x (s.drop (k + 1)) < s.length - (k + 1)
  · rw [if_pos (by omega), if_pos h2, show k + (endM x (s.drop (k + 1)) + 1) = k + 1 + endM x (s.drop (k + 1)) by omega]
  · rw [if_neg (by omega), if_neg h2]
theorem endV_end (s x : List UInt8) : endV s x s.length = .tuple #[.int .i64 0, .bool false] := by
  unfold endV
  rw [if_neg (by omega)]
theorem ret_val {a b : Value} (h : a = b) : Ending.returned a = .returned b := by rw [h]
theorem nameE_oneOf : oneOf [47, 62] = nameE := by
  funext c
  unfold oneOf nameE
  rw [Bool.or_assoc]
  congr 1
  rw [Bool.eq_iff_iff]
  simp
set_option maxRecDepth 100000 in
set_option maxHeartbeats 4000000 in
theorem endTag_any (s x : ByteArray) (p : Nat) (hp : p ≤ s.size) (hx : low x.data.toList = x.data.toList) (hs : s.size ≤ 1000000) (hxs : x.size ≤ 1000000) (w : World) : Calls Tryz.prog 96 #[.string s, .int .i64 (p : Int), .string x] w fun e w' => e = .returned (endV s.data.toList x.data.toList p) ∧ Below w.heap.size w w' := by
  obtain ⟨Z, hZ⟩ := text_of (60 :: 47 :: x.data.toList)
  have hZs : Z.size = x.size + 2 := by rw [← lsize, hZ, ← lsize x]; rfl
  have a1 := add_to ⟨#[60, 47]⟩ x Z hZ (by show 2 + x.size ≤ _; omega)
  have zz : (Z.size : Int) = (x.size : Int) + 2 := by omega
  have HZ := Lib.hid hZ
  have HX := Lib.hid hx
  have hzl : Z.size ≤ 1000002 := by omega
  clear hZ hx hZs zz
  have z3 : (s.size : Int) ≤ 1000000 := by omega
  have z6 : (Z.size : Int) ≤ 1000002 := by omega
  have z7 : (0 : Int) ≤ (Z.size : Int) := by omega
  go_enter Tryz.func96, Tryz.ntmps96
  go_wp2
  go_loopw [1] (fun i wr => ∃ k : Nat, i = .int .i64 k ∧ k ≤ s.size ∧ Below w.heap.size w wr ∧ Hid (endV s.data.toList x.data.toList p = endV s.data.toList x.data.toList k)) (fun i _ => s.size - (intOf i).toNat)
  case atStart => exact ⟨p, rfl, hp, Below.refl _ _, Lib.hid rfl⟩
  case round =>
    obtain ⟨k, rfl, hk, hb, HV⟩ := hrel
    by_cases hlt : k < s.size
    · have z0 : (k : Int) < (s.size : Int) := by omega
      have hkl : k < s.data.toList.length := by rw [lsize]; exact hlt
      obtain ⟨b, hbb⟩ : ∃ b, beginsM Z.data.toList (s.data.toList.drop k) = b := ⟨_, rfl⟩
      have CA := isAt_hid s Z k b hbb (by omega) (by rw [HZ.out]; exact low_of_ok HX.out) (by omega) (by omega)
      obtain ⟨d, hd⟩ : ∃ d, (s.data.toList[k + Z.size]?).any (oneOf [47, 62]) = d := ⟨_, rfl⟩
      have CO := isOneOf_hid s ⟨#[47, 62]⟩ (k + Z.size) d hd
      rw [show (((k + Z.size : Nat)) : Int) = (k : Int) + (Z.size : Int) by push_cast; rfl] at CO
      have hcond : condM x.data.toList (s.data.toList.drop k) ↔ (b = true ∧ d = true) := by
        unfold condM
        rw [← hbb, ← hd, HZ.out, nameE_oneOf, List.getElem?_drop, show k + (2 + x.data.toList.length) = k + Z.size by rw [← lsize Z, HZ.out]; simp; omega]
      have HB := Lib.hid hcond
      have hsz := hb.size
      clear hbb hd hcond
      cases b with
      | false =>
        have HN : Hid (endV s.data.toList x.data.toList p = endV s.data.toList x.data.toList (k + 1)) := Lib.hid (HV.out.trans (endV_next hkl fun h => absurd (HB.out.1 h).1 (by decide)))
        clear HV HB CO
        go_wp2_with fail
        (with_reducible refine (CA.out _).mono ?_)
        rintro e w1 ⟨rfl, b1⟩
        have hb1 := hb.trans (b1.mono hsz)
        clear hb b1
        go_wp2
        go_roundw
        case rel => exact ⟨k + 1, by go_num, by omega, hb1, HN⟩
        case measure => simp [intOf]; omega
      | true =>
        cases d with
        | false =>
          have HN : Hid (endV s.data.toList x.data.toList p = endV s.data.toList x.data.toList (k + 1)) := Lib.hid (HV.out.trans (endV_next hkl fun h => absurd (HB.out.1 h).2 (by decide)))
          clear HV HB
          go_wp2_with fail
          (with_reducible refine (CA.out _).mono ?_)
          rintro e w1 ⟨rfl, b1⟩
          have hb1 := hb.trans (b1.mono hsz)
          clear hb b1
          go_wp2_with fail
          (with_reducible refine (CO.out _).mono ?_)
          rintro e w1 ⟨rfl, rfl⟩
          go_wp2
          go_roundw
          case rel => exact ⟨k + 1, by go_num, by omega, hb1, HN⟩
          case measure => simp [intOf]; omega
        | true =>
          have HN : Hid (endV s.data.toList x.data.toList p = .tuple #[.int .i64 (k : Int), .bool true]) := Lib.hid (HV.out.trans (endV_here hkl (HB.out.2 ⟨rfl, rfl⟩)))
          clear HV HB
          go_wp2_with fail
          (with_reducible refine (CA.out _).mono ?_)
          rintro e w1 ⟨rfl, b1⟩
          have hb1 := hb.trans (b1.mono hsz)
          clear hb b1
          go_wp2_with fail
          (with_reducible refine (CO.out _).mono ?_)
          rintro e w1 ⟨rfl, rfl⟩
          go_wp2
          go_ret2
          exact ⟨ret_val HN.out.symm, hb1⟩
    · obtain rfl : k = s.size := by omega
      have HN : Hid (endV s.data.toList x.data.toList p = .tuple #[.int .i64 0, .bool false]) := Lib.hid (HV.out.trans (by have := endV_end s.data.toList x.data.toList; rw [lsize] at this; exact this))
      clear HV
      go_wp2
      go_ret2
      exact ⟨ret_val HN.out.symm, hb⟩

/-! ### names -/
theorem isCode_any (x : ByteArray) (w : World) : Calls Tryz.prog 95 #[.string x] w fun e w' => e = .returned (.bool (decide (x.data.toList = scriptN) || decide (x.data.toList = styleN))) ∧ w' = w := by
  obtain ⟨b, hb⟩ : ∃ b, decide (x.data.toList = scriptN) = b := ⟨_, rfl⟩
  obtain ⟨d, hd⟩ : ∃ d, decide (x.data.toList = styleN) = d := ⟨_, rfl⟩
  have g1 : (x.toList == [115, 99, 114, 105, 112, 116]) = b := by rw [text_lit]; exact hb
  have g2 : (x.toList == [115, 116, 121, 108, 101]) = d := by rw [text_lit]; exact hd
  rw [hb, hd]
  clear hb hd
  cases b <;> cases d
  all_goals
    go_enter Tryz.func95, Tryz.ntmps95
    go_wp2
    go_ret
    exact ⟨rfl, rfl⟩
theorem isCode_hid (x : ByteArray) (b : Bool) (h : (decide (x.data.toList = scriptN) || decide (x.data.toList = styleN)) = b) : Hid (∀ W, Calls Tryz.prog 95 #[.string x] W fun e w' => e = .returned (.bool b) ∧ w' = W) := Lib.hid fun W => by rw [← h]; exact isCode_any x W
theorem rawP_any (x : ByteArray) (w : World) : Calls Tryz.prog 67 #[.string x] w fun e w' => e = .returned (.bool (rawM x.data.toList)) ∧ w' = w := by
  obtain ⟨b, hb⟩ : ∃ b, (decide (x.data.toList = scriptN) || decide (x.data.toList = styleN)) = b := ⟨_, rfl⟩
  obtain ⟨d, hd⟩ : ∃ d, decide (x.data.toList = areaN) = d := ⟨_, rfl⟩
  obtain ⟨f, hf⟩ : ∃ f, decide (x.data.toList = titleN) = f := ⟨_, rfl⟩
  have g1 : (x.toList == [116, 101, 120, 116, 97, 114, 101, 97]) = d := by rw [text_lit]; exact hd
  have g2 : (x.toList == [116, 105, 116, 108, 101]) = f := by rw [text_lit]; exact hf
  have C := isCode_hid x b hb
  unfold rawM
  rw [hb, hd, hf]
  clear hb hd hf
  cases b <;> cases d <;> cases f
  all_goals
    go_enter Tryz.func67, Tryz.ntmps67
    go_wp2_with (go_at_call 95; refine (C.out _).mono ?_; rintro e w' ⟨rfl, rfl⟩)
    go_ret
    exact ⟨rfl, rfl⟩
theorem rawP_hid (x : ByteArray) (b : Bool) (h : rawM x.data.toList = b) : Hid (∀ W, Calls Tryz.prog 67 #[.string x] W fun e w' => e = .returned (.bool b) ∧ w' = W) := Lib.hid fun W => by rw [← h]; exact rawP_any x W
theorem rawR_any (x : ByteArray) (w : World) : Calls Tryz.prog 106 #[.string x] w fun e w' => e = .returned (.bool (rawM x.data.toList)) ∧ w' = w := by
  obtain ⟨a, ha⟩ : ∃ b, decide (x.data.toList = scriptN) = b := ⟨_, rfl⟩
  obtain ⟨b, hb⟩ : ∃ d, decide (x.data.toList = styleN) = d := ⟨_, rfl⟩
  obtain ⟨d, hd⟩ : ∃ d, decide (x.data.toList = areaN) = d := ⟨_, rfl⟩
  obtain ⟨f, hf⟩ : ∃ f, decide (x.data.toList = titleN) = f := ⟨_, rfl⟩
  have g3 : (x.toList == [115, 99, 114, 105, 112, 116]) = a := by rw [text_lit]; exact ha
  have g4 : (x.toList == [115, 116, 121, 108, 101]) = b := by rw [text_lit]; exact hb
  have g1 : (x.toList == [116, 101, 120, 116, 97, 114, 101, 97]) = d := by rw [text_lit]; exact hd
  have g2 : (x.toList == [116, 105, 116, 108, 101]) = f := by rw [text_lit]; exact hf
  unfold rawM
  rw [ha, hb, hd, hf]
  clear ha hb hd hf
  cases a <;> cases b <;> cases d <;> cases f
  all_goals
    go_enter Tryz.func106, Tryz.ntmps106
    go_wp2
    go_ret
    exact ⟨rfl, rfl⟩
theorem rawR_hid (x : ByteArray) (b : Bool) (h : rawM x.data.toList = b) : Hid (∀ W, Calls Tryz.prog 106 #[.string x] W fun e w' => e = .returned (.bool b) ∧ w' = W) := Lib.hid fun W => by rw [← h]; exact rawR_any x W

end Go.Proofs.YtfbhpmafjehojaaGreatDoor

namespace Go.Proofs.YtfbhpmafjehojaaGreatDoor
open Go.RowKit

/-- A region that draws its order, walked once in the order of the text: every operation yields one value in each world of a class, and a call leaves a world of the class. -/
theorem region_class {P : Program} {id : Nat} {Q : Exit → Act → World → Prop} {a : Act} {w : World} {l : List Oper} (C : World → Prop) (hm : P.follows .mixedOrders = true) (hB : Region.lexB .any l.toArray = true) (hC : C w.drew)
    (h : wpQuiet P l.toArray C (fun a' => ∀ w', C w' → Q .normal a' w') l a) : (Code.region id l.toArray true).wp P Q a w :=
  wp_region_quiet (C := C) hm hB hC (by simpa using h)

/-- The reader's block. -/
def RX (w : World) (R : Nat) (s : ByteArray) (n : Nat) (p bv tv fv : Value) : Prop := w.heap[R]? = some (.cells #[.string s, .int .i64 (n : Int), p, bv, tv, fv] 67 (0, 0))
theorem RX.lt {w : World} {R : Nat} {s : ByteArray} {n : Nat} {p bv tv fv : Value} (a : RX w R s n p bv tv fv) : R < w.heap.size := lt_of_block a
theorem RX.below {w' : World} {w : World} {R : Nat} {s : ByteArray} {n : Nat} {p bv tv fv : Value} (a : RX w R s n p bv tv fv) (hb : Below w.heap.size w w') : RX w' R s n p bv tv fv := by
  unfold RX at *
  rw [hb.block R (lt_of_block a)]; exact a
theorem RX.kp {w' : World} {P : Nat → TypeId → Prop} {w : World} {R : Nat} {s : ByteArray} {n : Nat} {p bv tv fv : Value} (a : RX w R s n p bv tv fv) (hb : Kp P w w') (hn : ¬ P R 67) : RX w' R s n p bv tv fv := hb.cells a hn
theorem RX.free {w : World} {R : Nat} {s : ByteArray} {n : Nat} {p bv tv fv : Value} (a : RX w R s n p bv tv fv) (j : Nat) : w.frozen? ⟨R, j, none⟩ = false := open_of a j
theorem RX.c0 {w : World} {R : Nat} {s : ByteArray} {n : Nat} {p bv tv fv : Value} (a : RX w R s n p bv tv fv) : w.cell? ⟨R, 0, none⟩ = some (.string s) := by rw [cell_of a]; rfl
theorem RX.c1 {w : World} {R : Nat} {s : ByteArray} {n : Nat} {p bv tv fv : Value} (a : RX w R s n p bv tv fv) : w.cell? ⟨R, 1, none⟩ = some (.int .i64 (n : Int)) := by rw [cell_of a]; rfl
theorem RX.c2 {w : World} {R : Nat} {s : ByteArray} {n : Nat} {p bv tv fv : Value} (a : RX w R s n p bv tv fv) : w.cell? ⟨R, 2, none⟩ = some (p) := by rw [cell_of a]; rfl
theorem RX.c3 {w : World} {R : Nat} {s : ByteArray} {n : Nat} {p bv tv fv : Value} (a : RX w R s n p bv tv fv) : w.cell? ⟨R, 3, none⟩ = some (bv) := by rw [cell_of a]; rfl
theorem RX.c4 {w : World} {R : Nat} {s : ByteArray} {n : Nat} {p bv tv fv : Value} (a : RX w R s n p bv tv fv) : w.cell? ⟨R, 4, none⟩ = some (tv) := by rw [cell_of a]; rfl
theorem RX.c5 {w : World} {R : Nat} {s : ByteArray} {n : Nat} {p bv tv fv : Value} (a : RX w R s n p bv tv fv) : w.cell? ⟨R, 5, none⟩ = some (fv) := by rw [cell_of a]; rfl
theorem RX.set1 {w : World} {R : Nat} {s : ByteArray} {n : Nat} {p bv tv fv : Value} (a : RX w R s n p bv tv fv) (k : Nat) : RX (w.setCell ⟨R, 1, none⟩ (.int .i64 (k : Int))) R s k p bv tv fv := by unfold RX at *; rw [heap_setCell_same _ _ _ _ _ _ _ a]; rfl
theorem RX.set4 {w : World} {R : Nat} {s : ByteArray} {n : Nat} {p bv tv fv : Value} (a : RX w R s n p bv tv fv) (u : Value) : RX (w.setCell ⟨R, 4, none⟩ u) R s n p bv u fv := by unfold RX at *; rw [heap_setCell_same _ _ _ _ _ _ _ a]; rfl
theorem RX.set5 {w : World} {R : Nat} {s : ByteArray} {n : Nat} {p bv tv fv : Value} (a : RX w R s n p bv tv fv) (u : Value) : RX (w.setCell ⟨R, 5, none⟩ u) R s n p bv tv u := by unfold RX at *; rw [heap_setCell_same _ _ _ _ _ _ _ a]; rfl
/-- Nothing but R's own cells. -/
def onR (R : Nat) (k : Nat) (_ : TypeId) : Prop := k = R
theorem RX.kset {w : World} {R : Nat} {s : ByteArray} {n : Nat} {p bv tv fv : Value} (a : RX w R s n p bv tv fv) (j : Nat) (u : Value) : Kp (onR R) w (w.setCell ⟨R, j, none⟩ u) := Kp.of_set a u rfl
theorem RX.kset' {w0 : World} {w : World} {R : Nat} {s : ByteArray} {n : Nat} {p bv tv fv : Value} (a : RX w R s n p bv tv fv) (k : Kp (onR R) w0 w) (j : Nat) (u : Value) : Kp (onR R) w0 (w.setCell ⟨R, j, none⟩ u) := k.trans (a.kset j u)
theorem slice_from_ty {t : TypeId} (ht : Tryz.prog.underlying t = some .string) (L U : ByteArray) (k : Nat) (hk : k ≤ L.size) (h : U.data.toList = L.data.toList.drop k) : ∀ W, (Instr.slice t (.string L) (some (.int .i64 (k : Int))) none none).run Tryz.prog W = .ok (.string U) W := fun W => by
  have e : L.extract k L.size = U := cut_run L U k L.size hk (Nat.le_refl _) (by rw [h, List.take_of_length_le]; rw [List.length_drop, lsize]; exact Nat.le_refl _)
  have hz : ¬ L.size < k := by omega
  simp [Instr.slice, go_sem, run_underlying ht, e, hz]
theorem nat_eq (n m : Nat) (b : Bool) (h : decide (n = m) = b) : ((n : Int) == (m : Int)) = b := by
  rw [← h, Bool.eq_iff_iff]
  simp
  omega

set_option maxRecDepth 100000 in
theorem atEnd_hid (R : Nat) (s : ByteArray) (n : Nat) (b : Bool) (h : decide (n = s.size) = b) : Hid (∀ W p bv tv fv, RX W R s n p bv tv fv → Calls Tryz.prog 25 #[.pointer (some ⟨R, 0, none⟩)] W fun e w' => e = .returned (.bool b) ∧ Below W.heap.size W w') := Lib.hid fun w p bv tv fv x => by
  have g := nat_eq _ _ _ h
  have d0 := x.c0
  have d1 := x.c1
  clear x h
  go_enter Tryz.func25, Tryz.ntmps25
  go_wp2
  go_quiet (fail)
  go_wp2
  go_ret
  exact ⟨rfl, belowN (Below.refl _ _) _⟩
set_option maxRecDepth 100000 in
theorem left_hid (R : Nat) (s U : ByteArray) (n : Nat) (h : U.data.toList = s.data.toList.drop n) (hn : n ≤ s.size) : Hid (∀ W p bv tv fv, RX W R s n p bv tv fv → Calls Tryz.prog 74 #[.pointer (some ⟨R, 0, none⟩)] W fun e w' => e = .returned (.string U) ∧ Below W.heap.size W w') := Lib.hid fun w p bv tv fv x => by
  have g := slice_from_ty Tryz.underlying60 s U n hn h
  have d0 := x.c0
  have d1 := x.c1
  clear x h
  go_enter Tryz.func74, Tryz.ntmps74
  go_wp2
  go_quiet (fail)
  go_wp2
  go_ret
  exact ⟨rfl, belowN (Below.refl _ _) _⟩
set_option maxRecDepth 100000 in
theorem begins_hid (R : Nat) (s z : ByteArray) (n : Nat) (b : Bool) (h : beginsM z.data.toList (s.data.toList.drop n) = b) (hn : n ≤ s.size) (hz : low z.data.toList = z.data.toList) (hs : s.size ≤ 1000000000) (hzs : z.size ≤ 1000000000) : Hid (∀ W p bv tv fv, RX W R s n p bv tv fv → Calls Tryz.prog 38 #[.pointer (some ⟨R, 0, none⟩), .string z] W fun e w' => e = .returned (.bool b) ∧ Below W.heap.size W w') := Lib.hid fun w p bv tv fv x => by
  have CA := isAt_hid s z n b h hn hz hs hzs
  clear h hz
  go_enter Tryz.func38, Tryz.ntmps38
  go_wp2
  obtain ⟨C, hC⟩ : ∃ C : World → Prop, ∀ w', C w' ↔ (RX w' R s n p bv tv fv ∧ Below w.heap.size w w') := ⟨_, fun _ => Iff.rfl⟩
  have HC := Lib.hid hC
  clear hC
  have hC0 : C w.drew := (HC.out _).2 (⟨x, (Below.refl _ _).drew⟩)
  have HK : Hid (∀ w', C w' → ∀ w7, Below w'.heap.size w' w7 → C w7) := Lib.hid fun w' hc w7 b => by
    obtain ⟨x7, K7⟩ := (HC.out w').1 hc
    exact (HC.out _).2 ⟨x7.below b, K7.trans (b.mono K7.size)⟩
  refine region_class C (by kernel_rfl) (by kernel_rfl) hC0 ?_
  clear hC0
  repeat
    first
      | go_big_quiet_skip
      | (go_big_quiet_want; go_big_quiet_op; go_big_quiet_on)
      | (refine BigFrame.wpQuiet_want rfl (fun K hK => ?_)
         apply Exists.intro
         refine ⟨fun w' hc => ?_, hK _ ?_⟩
         · obtain ⟨x7, K7⟩ := (HC.out w').1 hc
           have d0 := x7.c0
           have d1 := x7.c1
           unfold Oper.quietAt
           go_simp
           first
             | done
             | rfl
             | ((with_reducible refine (CA.out _).mono ?_); rintro e w7 ⟨rfl, b7⟩; exact ⟨rfl, HK.out w' hc w7 b7⟩)
         clear hK K
         simp only [Act.put, List.setIfInBounds_toArray, List.set_cons_zero, List.set_cons_succ])
  refine wpQuiet_nil ?_
  intro w1 hc
  obtain ⟨xw1, Kw1⟩ := (HC.out w1).1 hc
  clear hc HC HK
  go_wp2
  go_ret
  exact ⟨rfl, Kw1⟩
set_option maxRecDepth 100000 in
/-- A tag begins here: a sign, and a letter behind it. -/
theorem beginsTag_hid (R : Nat) (s z : ByteArray) (n : Nat) (b d : Bool) (h : beginsM z.data.toList (s.data.toList.drop n) = b) (h2 : (s.data.toList[n + z.size]?).any letB = d) (hn : n ≤ s.size) (hz : low z.data.toList = z.data.toList) (hs : s.size ≤ 1000000000) (hzs : z.size ≤ 1000000000) : Hid (∀ W p bv tv fv, RX W R s n p bv tv fv → Calls Tryz.prog 36 #[.pointer (some ⟨R, 0, none⟩), .string z] W fun e w' => e = .returned (.bool (b && d)) ∧ Below W.heap.size W w') := Lib.hid fun w p bv tv fv x => by
  have CA := begins_hid R s z n b h hn hz hs hzs
  have CL := isLetter_hid s (n + z.size) d h2
  rw [show (((n + z.size : Nat)) : Int) = IntKind.i64.wrap ((n : Int) + (z.size : Int)) by simp only [IntKind.wrap, IntKind.bits, IntKind.signed]; simp; omega] at CL
  clear h h2 hz hn hs hzs
  cases b
  · go_enter Tryz.func36, Tryz.ntmps36
    go_wp2
    obtain ⟨C, hC⟩ : ∃ C : World → Prop, ∀ w', C w' ↔ (RX w' R s n p bv tv fv ∧ Below w.heap.size w w') := ⟨_, fun _ => Iff.rfl⟩
    have HC := Lib.hid hC
    clear hC
    have hC0 : C w.drew := (HC.out _).2 (⟨x, (Below.refl _ _).drew⟩)
    have HK : Hid (∀ w', C w' → ∀ w7, Below w'.heap.size w' w7 → C w7) := Lib.hid fun w' hc w7 b => by
      obtain ⟨x7, K7⟩ := (HC.out w').1 hc
      exact (HC.out _).2 ⟨x7.below b, K7.trans (b.mono K7.size)⟩
    refine region_class C (by kernel_rfl) (by kernel_rfl) hC0 ?_
    clear hC0
    repeat
      first
        | go_big_quiet_skip
        | (go_big_quiet_want; go_big_quiet_op; go_big_quiet_on)
        | (refine BigFrame.wpQuiet_want rfl (fun K hK => ?_)
           apply Exists.intro
           refine ⟨fun w' hc => ?_, hK _ ?_⟩
           · obtain ⟨x7, K7⟩ := (HC.out w').1 hc
             have d0 := x7.c0
             have d1 := x7.c1
             unfold Oper.quietAt
             go_simp
             first
               | done
               | rfl
               | ((with_reducible refine (CA.out _ _ _ _ _ x7).mono ?_); rintro e w7 ⟨rfl, b7⟩; exact ⟨rfl, HK.out w' hc w7 b7⟩)
           clear hK K
           simp only [Act.put, List.setIfInBounds_toArray, List.set_cons_zero, List.set_cons_succ])
    refine wpQuiet_nil ?_
    intro w1 hc
    obtain ⟨xw1, Kw1⟩ := (HC.out w1).1 hc
    clear hc HC HK
    go_wp2
    go_ret
    exact ⟨ret_bool (by simp), Kw1⟩
  · go_enter Tryz.func36, Tryz.ntmps36
    go_wp2
    obtain ⟨C, hC⟩ : ∃ C : World → Prop, ∀ w', C w' ↔ (RX w' R s n p bv tv fv ∧ Below w.heap.size w w') := ⟨_, fun _ => Iff.rfl⟩
    have HC := Lib.hid hC
    clear hC
    have hC0 : C w.drew := (HC.out _).2 (⟨x, (Below.refl _ _).drew⟩)
    have HK : Hid (∀ w', C w' → ∀ w7, Below w'.heap.size w' w7 → C w7) := Lib.hid fun w' hc w7 b => by
      obtain ⟨x7, K7⟩ := (HC.out w').1 hc
      exact (HC.out _).2 ⟨x7.below b, K7.trans (b.mono K7.size)⟩
    refine region_class C (by kernel_rfl) (by kernel_rfl) hC0 ?_
    clear hC0
    repeat
      first
        | go_big_quiet_skip
        | (go_big_quiet_want; go_big_quiet_op; go_big_quiet_on)
        | (refine BigFrame.wpQuiet_want rfl (fun K hK => ?_)
           apply Exists.intro
           refine ⟨fun w' hc => ?_, hK _ ?_⟩
           · obtain ⟨x7, K7⟩ := (HC.out w').1 hc
             have d0 := x7.c0
             have d1 := x7.c1
             unfold Oper.quietAt
             go_simp
             first
               | done
               | rfl
               | ((with_reducible refine (CA.out _ _ _ _ _ x7).mono ?_); rintro e w7 ⟨rfl, b7⟩; exact ⟨rfl, HK.out w' hc w7 b7⟩)
               | ((with_reducible refine (CL.out _).mono ?_); rintro e w7 ⟨rfl, b7⟩; exact ⟨rfl, HK.out w' hc w7 (by rw [← b7]; exact Below.refl _ _)⟩)
           clear hK K
           simp only [Act.put, List.setIfInBounds_toArray, List.set_cons_zero, List.set_cons_succ])
    refine wpQuiet_nil ?_
    intro w1 hc
    obtain ⟨xw1, Kw1⟩ := (HC.out w1).1 hc
    clear hc HC HK
    go_wp2
    go_ret
    exact ⟨ret_bool (by simp), Kw1⟩
set_option maxRecDepth 100000 in
theorem skip_hid (R : Nat) (s z : ByteArray) (n : Nat) (b : Bool) (h : beginsM z.data.toList (s.data.toList.drop n) = b) (hn : n ≤ s.size) (hz : low z.data.toList = z.data.toList) (hs : s.size ≤ 1000000000) (hzs : z.size ≤ 1000000000) : Hid (∀ W p bv tv fv, RX W R s n p bv tv fv → Calls Tryz.prog 60 #[.pointer (some ⟨R, 0, none⟩), .string z] W fun e w' => e = .returned (.bool b) ∧ RX w' R s (if b then n + z.size else n) p bv tv fv ∧ Kp (onR R) W w') := Lib.hid fun w p bv tv fv x => by
  have CA := begins_hid R s z n b h hn hz hs hzs
  have z0 : (0 : Int) ≤ (n : Int) := by omega
  have z1 : (0 : Int) ≤ (z.size : Int) := by omega
  have z2 : (n : Int) ≤ 1000000000 := by omega
  have z3 : (z.size : Int) ≤ 1000000000 := by omega
  clear h hz
  cases b
  · go_enter Tryz.func60, Tryz.ntmps60
    go_wp2_with fail
    (with_reducible refine (CA.out _ _ _ _ _ x).mono ?_)
    rintro e w1 ⟨rfl, b1⟩
    go_wp2
    go_ret
    exact ⟨rfl, x.below b1, Kp.of_below b1⟩
  · go_enter Tryz.func60, Tryz.ntmps60
    go_wp2_with fail
    (with_reducible refine (CA.out _ _ _ _ _ x).mono ?_)
    rintro e w1 ⟨rfl, b1⟩
    have x1 := x.below b1
    have d1 := x1.c1
    have f1 := x1.free 1
    have HX := Lib.hid (x1.set1 (n + z.size))
    have HK := Lib.hid (x1.kset' (Kp.of_below b1) 1 (.int .i64 ((n + z.size : Nat) : Int)))
    rw [show (((n + z.size : Nat)) : Int) = (n : Int) + (z.size : Int) by push_cast; rfl] at HX HK
    clear x x1 b1
    go_wp2
    go_ret
    exact ⟨rfl, HX.out, HK.out⟩
set_option maxRecDepth 100000 in
theorem take_hid (R : Nat) (s U : ByteArray) (n k : Nat) (h : U.data.toList = (s.data.toList.drop n).take k) (hn : n + k ≤ s.size) (hs : s.size ≤ 1000000000) : Hid (∀ W p bv tv fv, RX W R s n p bv tv fv → Calls Tryz.prog 70 #[.pointer (some ⟨R, 0, none⟩), .int .i64 (k : Int)] W fun e w' => e = .returned (.string U) ∧ RX w' R s (n + k) p bv tv fv ∧ Kp (onR R) W w') := Lib.hid fun w p bv tv fv x => by
  have g := slice_ty Tryz.underlying60 s U n (n + k) (by omega) hn (by rw [h]; congr 1; omega)
  have z0 : (0 : Int) ≤ (n : Int) := by omega
  have z1 : (0 : Int) ≤ (k : Int) := by omega
  have z2 : (n : Int) ≤ 1000000000 := by omega
  have z3 : (k : Int) ≤ 1000000000 := by omega
  have d1 := x.c1
  have f1 := x.free 1
  have x2 := x.set1 (n + k)
  have HK := Lib.hid (x.kset 1 (.int .i64 ((n + k : Nat) : Int)))
  have e1 : (((n + k : Nat)) : Int) = (n : Int) + (k : Int) := by push_cast; rfl
  rw [e1] at g x2 HK
  have HX := Lib.hid x2
  have d0' := x2.c0
  have d1' := x2.c1
  rw [e1] at d1'
  have e2 : (n : Int) + (k : Int) - (k : Int) = (n : Int) := by omega
  clear x x2 h e1
  go_enter Tryz.func70, Tryz.ntmps70
  go_wp2
  go_quiet (fail)
  go_wp2
  go_ret
  exact ⟨rfl, HX.out, HK.out.trans (Kp.of_below (belowN (Below.refl _ _) _))⟩

end Go.Proofs.YtfbhpmafjehojaaGreatDoor
