/- Is a code point's row of bytes whole? (unicode/utf8's FullRuneInString over its two tables.) -/
import Derived.Shelf.Unicode.DecodeSlow
import Derived.Test.YtfbhpmafjehojaaGreatDoorUWA
namespace Go.Proofs.YtfbhpmafjehojaaGreatDoor.U1
open Go.RowKit
open Go.Lib (firstT accLo accHi)

def fullN (n b0 b1 b2 : Nat) : Bool :=
  if n = 0 then false
  else if firstT b0 % 8 ≤ n then true
  else if 1 < n ∧ (b1 < accLo (firstT b0 / 16) ∨ accHi (firstT b0 / 16) < b1) then true
  else decide (2 < n ∧ (b2 < 128 ∨ 191 < b2))
theorem full_eq (l : List UInt8) : full l = fullN l.length (nb l 0) (nb l 1) (nb l 2) := rfl

def fullS (n b1 b2 sz lo hi : Nat) : Bool :=
  if n = 0 then false
  else if sz ≤ n then true
  else if 1 < n ∧ (b1 < lo ∨ hi < b1) then true
  else decide (2 < n ∧ (b2 < 128 ∨ 191 < b2))
theorem fullS_1 (n b1 b2 sz lo hi : Nat) (h0 : ¬ n = 0) (h : ¬ sz ≤ n) (h1 : n < 2) : fullS n b1 b2 sz lo hi = false := by
  unfold fullS; rw [if_neg h0, if_neg h, if_neg (by omega), decide_eq_false (by omega)]
theorem fullS_out (n b1 b2 sz lo hi : Nat) (h0 : ¬ n = 0) (h : ¬ sz ≤ n) (h1 : ¬ n < 2) (hb : b1 < lo ∨ hi < b1) : fullS n b1 b2 sz lo hi = true := by
  unfold fullS; rw [if_neg h0, if_neg h, if_pos (by omega)]
theorem fullS_2 (n b1 b2 sz lo hi : Nat) (h0 : ¬ n = 0) (h : ¬ sz ≤ n) (h1 : n < 3) (hb : ¬ (b1 < lo ∨ hi < b1)) : fullS n b1 b2 sz lo hi = false := by
  unfold fullS; rw [if_neg h0, if_neg h, if_neg (by omega), decide_eq_false (by omega)]
theorem fullS_3 (n b1 b2 sz lo hi : Nat) (h0 : ¬ n = 0) (h : ¬ sz ≤ n) (h1 : ¬ n < 3) (hb : ¬ (b1 < lo ∨ hi < b1)) : fullS n b1 b2 sz lo hi = decide (b2 < 128 ∨ 191 < b2) := by
  unfold fullS; rw [if_neg h0, if_neg h, if_neg (by omega)]; simp only [show 2 < n by omega, true_and]

set_option maxRecDepth 100000 in
set_option maxHeartbeats 4000000 in
theorem fullRune_any (s : ByteArray) (w : World) (hT : Lib.Utf8Tabs 0 1 w) :
    Calls Tryz.prog 45 #[.string s] w fun e w' => e = .returned (.bool (full s.data.toList)) ∧ Below w.heap.size w w' := by
  by_cases h0 : s.size = 0
  · have hz : ((s.size : Int) == 0) = true := by simp [h0]
    have e : full s.data.toList = false := by
      unfold full; rw [if_pos (by simpa using h0)]
    rw [e]
    go_enter Tryz.func45, Tryz.ntmps45
    go_wp2
    all_goals go_ret
    all_goals exact ⟨rfl, Below.refl _ _⟩
  have hl0 : s.data.toList.length = s.size := by simp
  have hz : ((s.size : Int) == 0) = false := by simp [h0]
  have hz0 : (0 : Int) < (s.size : Int) := by omega
  have k0 : 0 < s.size := by omega
  obtain ⟨x0, hx0⟩ : ∃ x0, s[0]'k0 = x0 := ⟨_, rfl⟩
  have l0 := x0.toNat_lt
  have hc0 := hT.1 x0.toNat (by omega)
  have hnb0 : nb s.data.toList 0 = x0.toNat := by rw [nb_get s 0 (by omega), hx0]
  rw [full_eq, hl0, hnb0]
  by_cases hlong : firstT x0.toNat % 8 ≤ s.size
  · have e : fullN s.size x0.toNat (nb s.data.toList 1) (nb s.data.toList 2) = true := by
      unfold fullN; rw [if_neg h0, if_pos hlong]
    rw [e]
    clear e
    rcases Lib.firstT_cases x0.toNat with hX | hX | hX | hX | hX | hX | hX | hX | hX
    all_goals rw [hX] at hc0 hlong
    all_goals clear hX hT hnb0 hl0 h0
    all_goals simp only [Nat.reduceMod] at hlong
    all_goals
      have hlz : ((_ : Nat) : Int) ≤ (s.size : Int) := Int.ofNat_le.2 hlong
      clear hlong
      go_enter Tryz.func45, Tryz.ntmps45
      go_wp2
      go_ret
      exact ⟨rfl, Below.refl _ _⟩
  · rcases Lib.firstT_cases x0.toNat with hX | hX | hX | hX | hX | hX | hX | hX | hX
    · rw [hX] at hlong; omega
    · rw [hX] at hlong; omega
    · -- first[s0] = 2: 2 bytes; acceptRanges[0]
      rw [hX] at hc0 hlong
      simp only [Nat.reduceMod] at hlong
      have ha0 := (hT.2 0 (by omega)).1
      have ha1 := (hT.2 0 (by omega)).2
      simp only [accLo, accHi, Nat.reduceMul, Nat.reduceAdd, Nat.reduceEqDiff, if_true, if_false] at ha0 ha1
      have hfull : fullN s.size x0.toNat (nb s.data.toList 1) (nb s.data.toList 2) = fullS s.size (nb s.data.toList 1) (nb s.data.toList 2) 2 (accLo 0) (accHi 0) := by
        unfold fullN fullS; rw [hX]
      rw [hfull]
      simp only [accLo, accHi, Nat.reduceEqDiff, if_true, if_false]
      clear hfull hX hT hnb0 hl0
      have hlz : ¬ (2 : Int) ≤ (s.size : Int) := by omega
      by_cases n1 : s.size < 2
      · rw [fullS_1 _ _ _ _ _ _ h0 hlong n1]
        have gd1 : decide ((1 : Int) < (s.size : Int)) = false := by simp; omega
        have gd2 : decide ((2 : Int) < (s.size : Int)) = false := by simp; omega
        clear hlong h0
        go_enter Tryz.func45, Tryz.ntmps45
        go_wp2
        go_quiet (fail)
        go_wp2
        go_ret
        exact ⟨rfl, below_drewN ((Below.refl _ _).alloc (Nat.le_refl _) _) _⟩
      · exact absurd hlong (by omega)
    · -- first[s0] = 19: 3 bytes; acceptRanges[1]
      rw [hX] at hc0 hlong
      simp only [Nat.reduceMod] at hlong
      have ha0 := (hT.2 1 (by omega)).1
      have ha1 := (hT.2 1 (by omega)).2
      simp only [accLo, accHi, Nat.reduceMul, Nat.reduceAdd, Nat.reduceEqDiff, if_true, if_false] at ha0 ha1
      have hfull : fullN s.size x0.toNat (nb s.data.toList 1) (nb s.data.toList 2) = fullS s.size (nb s.data.toList 1) (nb s.data.toList 2) 3 (accLo 1) (accHi 1) := by
        unfold fullN fullS; rw [hX]
      rw [hfull]
      simp only [accLo, accHi, Nat.reduceEqDiff, if_true, if_false]
      clear hfull hX hT hnb0 hl0
      have hlz : ¬ (3 : Int) ≤ (s.size : Int) := by omega
      by_cases n1 : s.size < 2
      · rw [fullS_1 _ _ _ _ _ _ h0 hlong n1]
        have gd1 : decide ((1 : Int) < (s.size : Int)) = false := by simp; omega
        have gd2 : decide ((2 : Int) < (s.size : Int)) = false := by simp; omega
        clear hlong h0
        go_enter Tryz.func45, Tryz.ntmps45
        go_wp2
        go_quiet (fail)
        go_wp2
        go_ret
        exact ⟨rfl, below_drewN ((Below.refl _ _).alloc (Nat.le_refl _) _) _⟩
      · have hz1 : (1 : Int) < (s.size : Int) := by omega
        have k1 : 1 < s.size := by omega
        obtain ⟨x1, hx1⟩ : ∃ x1, s[1]'k1 = x1 := ⟨_, rfl⟩
        have l1 := x1.toNat_lt
        rw [show nb s.data.toList 1 = x1.toNat by rw [nb_get s 1 (by omega), hx1]]
        by_cases b1 : x1.toNat < 160
        · rw [fullS_out _ _ _ _ _ _ h0 hlong n1 (.inl b1)]
          have gd1 : decide ((x1.toNat : Int) < 160) = true := by simp; omega
          clear hlong h0
          go_enter Tryz.func45, Tryz.ntmps45
          go_wp2
          go_quiet (fail)
          go_wp2
          go_ret
          exact ⟨rfl, below_drewN ((Below.refl _ _).alloc (Nat.le_refl _) _) _⟩
        by_cases b2 : 191 < x1.toNat
        · rw [fullS_out _ _ _ _ _ _ h0 hlong n1 (.inr b2)]
          have gd1 : decide ((x1.toNat : Int) < 160) = false := by simp; omega
          have gd2 : decide ((191 : Int) < (x1.toNat : Int)) = true := by simp; omega
          clear hlong h0
          go_enter Tryz.func45, Tryz.ntmps45
          go_wp2
          go_quiet (fail)
          go_wp2
          go_ret
          exact ⟨rfl, below_drewN ((Below.refl _ _).alloc (Nat.le_refl _) _) _⟩
        have gd1 : decide ((x1.toNat : Int) < 160) = false := by simp; omega
        have gd2 : decide ((191 : Int) < (x1.toNat : Int)) = false := by simp; omega
        by_cases n2 : s.size < 3
        · rw [fullS_2 _ _ _ _ _ _ h0 hlong n2 (by omega)]
          have gd3 : decide ((2 : Int) < (s.size : Int)) = false := by simp; omega
          clear hlong h0
          go_enter Tryz.func45, Tryz.ntmps45
          go_wp2
          go_quiet (fail)
          go_wp2
          go_ret
          exact ⟨rfl, below_drewN ((Below.refl _ _).alloc (Nat.le_refl _) _) _⟩
        · exact absurd hlong (by omega)
    · -- first[s0] = 3: 3 bytes; acceptRanges[0]
      rw [hX] at hc0 hlong
      simp only [Nat.reduceMod] at hlong
      have ha0 := (hT.2 0 (by omega)).1
      have ha1 := (hT.2 0 (by omega)).2
      simp only [accLo, accHi, Nat.reduceMul, Nat.reduceAdd, Nat.reduceEqDiff, if_true, if_false] at ha0 ha1
      have hfull : fullN s.size x0.toNat (nb s.data.toList 1) (nb s.data.toList 2) = fullS s.size (nb s.data.toList 1) (nb s.data.toList 2) 3 (accLo 0) (accHi 0) := by
        unfold fullN fullS; rw [hX]
      rw [hfull]
      simp only [accLo, accHi, Nat.reduceEqDiff, if_true, if_false]
      clear hfull hX hT hnb0 hl0
      have hlz : ¬ (3 : Int) ≤ (s.size : Int) := by omega
      by_cases n1 : s.size < 2
      · rw [fullS_1 _ _ _ _ _ _ h0 hlong n1]
        have gd1 : decide ((1 : Int) < (s.size : Int)) = false := by simp; omega
        have gd2 : decide ((2 : Int) < (s.size : Int)) = false := by simp; omega
        clear hlong h0
        go_enter Tryz.func45, Tryz.ntmps45
        go_wp2
        go_quiet (fail)
        go_wp2
        go_ret
        exact ⟨rfl, below_drewN ((Below.refl _ _).alloc (Nat.le_refl _) _) _⟩
      · have hz1 : (1 : Int) < (s.size : Int) := by omega
        have k1 : 1 < s.size := by omega
        obtain ⟨x1, hx1⟩ : ∃ x1, s[1]'k1 = x1 := ⟨_, rfl⟩
        have l1 := x1.toNat_lt
        rw [show nb s.data.toList 1 = x1.toNat by rw [nb_get s 1 (by omega), hx1]]
        by_cases b1 : x1.toNat < 128
        · rw [fullS_out _ _ _ _ _ _ h0 hlong n1 (.inl b1)]
          have gd1 : decide ((x1.toNat : Int) < 128) = true := by simp; omega
          clear hlong h0
          go_enter Tryz.func45, Tryz.ntmps45
          go_wp2
          go_quiet (fail)
          go_wp2
          go_ret
          exact ⟨rfl, below_drewN ((Below.refl _ _).alloc (Nat.le_refl _) _) _⟩
        by_cases b2 : 191 < x1.toNat
        · rw [fullS_out _ _ _ _ _ _ h0 hlong n1 (.inr b2)]
          have gd1 : decide ((x1.toNat : Int) < 128) = false := by simp; omega
          have gd2 : decide ((191 : Int) < (x1.toNat : Int)) = true := by simp; omega
          clear hlong h0
          go_enter Tryz.func45, Tryz.ntmps45
          go_wp2
          go_quiet (fail)
          go_wp2
          go_ret
          exact ⟨rfl, below_drewN ((Below.refl _ _).alloc (Nat.le_refl _) _) _⟩
        have gd1 : decide ((x1.toNat : Int) < 128) = false := by simp; omega
        have gd2 : decide ((191 : Int) < (x1.toNat : Int)) = false := by simp; omega
        by_cases n2 : s.size < 3
        · rw [fullS_2 _ _ _ _ _ _ h0 hlong n2 (by omega)]
          have gd3 : decide ((2 : Int) < (s.size : Int)) = false := by simp; omega
          clear hlong h0
          go_enter Tryz.func45, Tryz.ntmps45
          go_wp2
          go_quiet (fail)
          go_wp2
          go_ret
          exact ⟨rfl, below_drewN ((Below.refl _ _).alloc (Nat.le_refl _) _) _⟩
        · exact absurd hlong (by omega)
    · -- first[s0] = 35: 3 bytes; acceptRanges[2]
      rw [hX] at hc0 hlong
      simp only [Nat.reduceMod] at hlong
      have ha0 := (hT.2 2 (by omega)).1
      have ha1 := (hT.2 2 (by omega)).2
      simp only [accLo, accHi, Nat.reduceMul, Nat.reduceAdd, Nat.reduceEqDiff, if_true, if_false] at ha0 ha1
      have hfull : fullN s.size x0.toNat (nb s.data.toList 1) (nb s.data.toList 2) = fullS s.size (nb s.data.toList 1) (nb s.data.toList 2) 3 (accLo 2) (accHi 2) := by
        unfold fullN fullS; rw [hX]
      rw [hfull]
      simp only [accLo, accHi, Nat.reduceEqDiff, if_true, if_false]
      clear hfull hX hT hnb0 hl0
      have hlz : ¬ (3 : Int) ≤ (s.size : Int) := by omega
      by_cases n1 : s.size < 2
      · rw [fullS_1 _ _ _ _ _ _ h0 hlong n1]
        have gd1 : decide ((1 : Int) < (s.size : Int)) = false := by simp; omega
        have gd2 : decide ((2 : Int) < (s.size : Int)) = false := by simp; omega
        clear hlong h0
        go_enter Tryz.func45, Tryz.ntmps45
        go_wp2
        go_quiet (fail)
        go_wp2
        go_ret
        exact ⟨rfl, below_drewN ((Below.refl _ _).alloc (Nat.le_refl _) _) _⟩
      · have hz1 : (1 : Int) < (s.size : Int) := by omega
        have k1 : 1 < s.size := by omega
        obtain ⟨x1, hx1⟩ : ∃ x1, s[1]'k1 = x1 := ⟨_, rfl⟩
        have l1 := x1.toNat_lt
        rw [show nb s.data.toList 1 = x1.toNat by rw [nb_get s 1 (by omega), hx1]]
        by_cases b1 : x1.toNat < 128
        · rw [fullS_out _ _ _ _ _ _ h0 hlong n1 (.inl b1)]
          have gd1 : decide ((x1.toNat : Int) < 128) = true := by simp; omega
          clear hlong h0
          go_enter Tryz.func45, Tryz.ntmps45
          go_wp2
          go_quiet (fail)
          go_wp2
          go_ret
          exact ⟨rfl, below_drewN ((Below.refl _ _).alloc (Nat.le_refl _) _) _⟩
        by_cases b2 : 159 < x1.toNat
        · rw [fullS_out _ _ _ _ _ _ h0 hlong n1 (.inr b2)]
          have gd1 : decide ((x1.toNat : Int) < 128) = false := by simp; omega
          have gd2 : decide ((159 : Int) < (x1.toNat : Int)) = true := by simp; omega
          clear hlong h0
          go_enter Tryz.func45, Tryz.ntmps45
          go_wp2
          go_quiet (fail)
          go_wp2
          go_ret
          exact ⟨rfl, below_drewN ((Below.refl _ _).alloc (Nat.le_refl _) _) _⟩
        have gd1 : decide ((x1.toNat : Int) < 128) = false := by simp; omega
        have gd2 : decide ((159 : Int) < (x1.toNat : Int)) = false := by simp; omega
        by_cases n2 : s.size < 3
        · rw [fullS_2 _ _ _ _ _ _ h0 hlong n2 (by omega)]
          have gd3 : decide ((2 : Int) < (s.size : Int)) = false := by simp; omega
          clear hlong h0
          go_enter Tryz.func45, Tryz.ntmps45
          go_wp2
          go_quiet (fail)
          go_wp2
          go_ret
          exact ⟨rfl, below_drewN ((Below.refl _ _).alloc (Nat.le_refl _) _) _⟩
        · exact absurd hlong (by omega)
    · -- first[s0] = 53: 4 bytes; acceptRanges[3]
      rw [hX] at hc0 hlong
      simp only [Nat.reduceMod] at hlong
      have ha0 := (hT.2 3 (by omega)).1
      have ha1 := (hT.2 3 (by omega)).2
      simp only [accLo, accHi, Nat.reduceMul, Nat.reduceAdd, Nat.reduceEqDiff, if_true, if_false] at ha0 ha1
      have hfull : fullN s.size x0.toNat (nb s.data.toList 1) (nb s.data.toList 2) = fullS s.size (nb s.data.toList 1) (nb s.data.toList 2) 4 (accLo 3) (accHi 3) := by
        unfold fullN fullS; rw [hX]
      rw [hfull]
      simp only [accLo, accHi, Nat.reduceEqDiff, if_true, if_false]
      clear hfull hX hT hnb0 hl0
      have hlz : ¬ (4 : Int) ≤ (s.size : Int) := by omega
      by_cases n1 : s.size < 2
      · rw [fullS_1 _ _ _ _ _ _ h0 hlong n1]
        have gd1 : decide ((1 : Int) < (s.size : Int)) = false := by simp; omega
        have gd2 : decide ((2 : Int) < (s.size : Int)) = false := by simp; omega
        clear hlong h0
        go_enter Tryz.func45, Tryz.ntmps45
        go_wp2
        go_quiet (fail)
        go_wp2
        go_ret
        exact ⟨rfl, below_drewN ((Below.refl _ _).alloc (Nat.le_refl _) _) _⟩
      · have hz1 : (1 : Int) < (s.size : Int) := by omega
        have k1 : 1 < s.size := by omega
        obtain ⟨x1, hx1⟩ : ∃ x1, s[1]'k1 = x1 := ⟨_, rfl⟩
        have l1 := x1.toNat_lt
        rw [show nb s.data.toList 1 = x1.toNat by rw [nb_get s 1 (by omega), hx1]]
        by_cases b1 : x1.toNat < 144
        · rw [fullS_out _ _ _ _ _ _ h0 hlong n1 (.inl b1)]
          have gd1 : decide ((x1.toNat : Int) < 144) = true := by simp; omega
          clear hlong h0
          go_enter Tryz.func45, Tryz.ntmps45
          go_wp2
          go_quiet (fail)
          go_wp2
          go_ret
          exact ⟨rfl, below_drewN ((Below.refl _ _).alloc (Nat.le_refl _) _) _⟩
        by_cases b2 : 191 < x1.toNat
        · rw [fullS_out _ _ _ _ _ _ h0 hlong n1 (.inr b2)]
          have gd1 : decide ((x1.toNat : Int) < 144) = false := by simp; omega
          have gd2 : decide ((191 : Int) < (x1.toNat : Int)) = true := by simp; omega
          clear hlong h0
          go_enter Tryz.func45, Tryz.ntmps45
          go_wp2
          go_quiet (fail)
          go_wp2
          go_ret
          exact ⟨rfl, below_drewN ((Below.refl _ _).alloc (Nat.le_refl _) _) _⟩
        have gd1 : decide ((x1.toNat : Int) < 144) = false := by simp; omega
        have gd2 : decide ((191 : Int) < (x1.toNat : Int)) = false := by simp; omega
        by_cases n2 : s.size < 3
        · rw [fullS_2 _ _ _ _ _ _ h0 hlong n2 (by omega)]
          have gd3 : decide ((2 : Int) < (s.size : Int)) = false := by simp; omega
          clear hlong h0
          go_enter Tryz.func45, Tryz.ntmps45
          go_wp2
          go_quiet (fail)
          go_wp2
          go_ret
          exact ⟨rfl, below_drewN ((Below.refl _ _).alloc (Nat.le_refl _) _) _⟩
        have hz2 : (2 : Int) < (s.size : Int) := by omega
        have k2 : 2 < s.size := by omega
        obtain ⟨x2, hx2⟩ : ∃ x2, s[2]'k2 = x2 := ⟨_, rfl⟩
        have l2 := x2.toNat_lt
        rw [show nb s.data.toList 2 = x2.toNat by rw [nb_get s 2 (by omega), hx2]]
        rw [fullS_3 _ _ _ _ _ _ h0 hlong n2 (by omega)]
        clear hlong h0 n1 n2
        by_cases c1 : x2.toNat < 128
        · rw [decide_eq_true (Or.inl c1)]
          have gd3 : decide ((x2.toNat : Int) < 128) = true := by simp; omega
          go_enter Tryz.func45, Tryz.ntmps45
          go_wp2
          go_quiet (fail)
          go_wp2
          go_ret
          exact ⟨rfl, below_drewN ((Below.refl _ _).alloc (Nat.le_refl _) _) _⟩
        by_cases c2 : 191 < x2.toNat
        · rw [decide_eq_true (Or.inr c2)]
          have gd3 : decide ((x2.toNat : Int) < 128) = false := by simp; omega
          have gd4 : decide ((191 : Int) < (x2.toNat : Int)) = true := by simp; omega
          go_enter Tryz.func45, Tryz.ntmps45
          go_wp2
          go_quiet (fail)
          go_wp2
          go_ret
          exact ⟨rfl, below_drewN ((Below.refl _ _).alloc (Nat.le_refl _) _) _⟩
        · rw [decide_eq_false (by omega)]
          have gd3 : decide ((x2.toNat : Int) < 128) = false := by simp; omega
          have gd4 : decide ((191 : Int) < (x2.toNat : Int)) = false := by simp; omega
          go_enter Tryz.func45, Tryz.ntmps45
          go_wp2
          go_quiet (fail)
          go_wp2
          go_ret
          exact ⟨rfl, below_drewN ((Below.refl _ _).alloc (Nat.le_refl _) _) _⟩
    · -- first[s0] = 4: 4 bytes; acceptRanges[0]
      rw [hX] at hc0 hlong
      simp only [Nat.reduceMod] at hlong
      have ha0 := (hT.2 0 (by omega)).1
      have ha1 := (hT.2 0 (by omega)).2
      simp only [accLo, accHi, Nat.reduceMul, Nat.reduceAdd, Nat.reduceEqDiff, if_true, if_false] at ha0 ha1
      have hfull : fullN s.size x0.toNat (nb s.data.toList 1) (nb s.data.toList 2) = fullS s.size (nb s.data.toList 1) (nb s.data.toList 2) 4 (accLo 0) (accHi 0) := by
        unfold fullN fullS; rw [hX]
      rw [hfull]
      simp only [accLo, accHi, Nat.reduceEqDiff, if_true, if_false]
      clear hfull hX hT hnb0 hl0
      have hlz : ¬ (4 : Int) ≤ (s.size : Int) := by omega
      by_cases n1 : s.size < 2
      · rw [fullS_1 _ _ _ _ _ _ h0 hlong n1]
        have gd1 : decide ((1 : Int) < (s.size : Int)) = false := by simp; omega
        have gd2 : decide ((2 : Int) < (s.size : Int)) = false := by simp; omega
        clear hlong h0
        go_enter Tryz.func45, Tryz.ntmps45
        go_wp2
        go_quiet (fail)
        go_wp2
        go_ret
        exact ⟨rfl, below_drewN ((Below.refl _ _).alloc (Nat.le_refl _) _) _⟩
      · have hz1 : (1 : Int) < (s.size : Int) := by omega
        have k1 : 1 < s.size := by omega
        obtain ⟨x1, hx1⟩ : ∃ x1, s[1]'k1 = x1 := ⟨_, rfl⟩
        have l1 := x1.toNat_lt
        rw [show nb s.data.toList 1 = x1.toNat by rw [nb_get s 1 (by omega), hx1]]
        by_cases b1 : x1.toNat < 128
        · rw [fullS_out _ _ _ _ _ _ h0 hlong n1 (.inl b1)]
          have gd1 : decide ((x1.toNat : Int) < 128) = true := by simp; omega
          clear hlong h0
          go_enter Tryz.func45, Tryz.ntmps45
          go_wp2
          go_quiet (fail)
          go_wp2
          go_ret
          exact ⟨rfl, below_drewN ((Below.refl _ _).alloc (Nat.le_refl _) _) _⟩
        by_cases b2 : 191 < x1.toNat
        · rw [fullS_out _ _ _ _ _ _ h0 hlong n1 (.inr b2)]
          have gd1 : decide ((x1.toNat : Int) < 128) = false := by simp; omega
          have gd2 : decide ((191 : Int) < (x1.toNat : Int)) = true := by simp; omega
          clear hlong h0
          go_enter Tryz.func45, Tryz.ntmps45
          go_wp2
          go_quiet (fail)
          go_wp2
          go_ret
          exact ⟨rfl, below_drewN ((Below.refl _ _).alloc (Nat.le_refl _) _) _⟩
        have gd1 : decide ((x1.toNat : Int) < 128) = false := by simp; omega
        have gd2 : decide ((191 : Int) < (x1.toNat : Int)) = false := by simp; omega
        by_cases n2 : s.size < 3
        · rw [fullS_2 _ _ _ _ _ _ h0 hlong n2 (by omega)]
          have gd3 : decide ((2 : Int) < (s.size : Int)) = false := by simp; omega
          clear hlong h0
          go_enter Tryz.func45, Tryz.ntmps45
          go_wp2
          go_quiet (fail)
          go_wp2
          go_ret
          exact ⟨rfl, below_drewN ((Below.refl _ _).alloc (Nat.le_refl _) _) _⟩
        have hz2 : (2 : Int) < (s.size : Int) := by omega
        have k2 : 2 < s.size := by omega
        obtain ⟨x2, hx2⟩ : ∃ x2, s[2]'k2 = x2 := ⟨_, rfl⟩
        have l2 := x2.toNat_lt
        rw [show nb s.data.toList 2 = x2.toNat by rw [nb_get s 2 (by omega), hx2]]
        rw [fullS_3 _ _ _ _ _ _ h0 hlong n2 (by omega)]
        clear hlong h0 n1 n2
        by_cases c1 : x2.toNat < 128
        · rw [decide_eq_true (Or.inl c1)]
          have gd3 : decide ((x2.toNat : Int) < 128) = true := by simp; omega
          go_enter Tryz.func45, Tryz.ntmps45
          go_wp2
          go_quiet (fail)
          go_wp2
          go_ret
          exact ⟨rfl, below_drewN ((Below.refl _ _).alloc (Nat.le_refl _) _) _⟩
        by_cases c2 : 191 < x2.toNat
        · rw [decide_eq_true (Or.inr c2)]
          have gd3 : decide ((x2.toNat : Int) < 128) = false := by simp; omega
          have gd4 : decide ((191 : Int) < (x2.toNat : Int)) = true := by simp; omega
          go_enter Tryz.func45, Tryz.ntmps45
          go_wp2
          go_quiet (fail)
          go_wp2
          go_ret
          exact ⟨rfl, below_drewN ((Below.refl _ _).alloc (Nat.le_refl _) _) _⟩
        · rw [decide_eq_false (by omega)]
          have gd3 : decide ((x2.toNat : Int) < 128) = false := by simp; omega
          have gd4 : decide ((191 : Int) < (x2.toNat : Int)) = false := by simp; omega
          go_enter Tryz.func45, Tryz.ntmps45
          go_wp2
          go_quiet (fail)
          go_wp2
          go_ret
          exact ⟨rfl, below_drewN ((Below.refl _ _).alloc (Nat.le_refl _) _) _⟩
    · -- first[s0] = 68: 4 bytes; acceptRanges[4]
      rw [hX] at hc0 hlong
      simp only [Nat.reduceMod] at hlong
      have ha0 := (hT.2 4 (by omega)).1
      have ha1 := (hT.2 4 (by omega)).2
      simp only [accLo, accHi, Nat.reduceMul, Nat.reduceAdd, Nat.reduceEqDiff, if_true, if_false] at ha0 ha1
      have hfull : fullN s.size x0.toNat (nb s.data.toList 1) (nb s.data.toList 2) = fullS s.size (nb s.data.toList 1) (nb s.data.toList 2) 4 (accLo 4) (accHi 4) := by
        unfold fullN fullS; rw [hX]
      rw [hfull]
      simp only [accLo, accHi, Nat.reduceEqDiff, if_true, if_false]
      clear hfull hX hT hnb0 hl0
      have hlz : ¬ (4 : Int) ≤ (s.size : Int) := by omega
      by_cases n1 : s.size < 2
      · rw [fullS_1 _ _ _ _ _ _ h0 hlong n1]
        have gd1 : decide ((1 : Int) < (s.size : Int)) = false := by simp; omega
        have gd2 : decide ((2 : Int) < (s.size : Int)) = false := by simp; omega
        clear hlong h0
        go_enter Tryz.func45, Tryz.ntmps45
        go_wp2
        go_quiet (fail)
        go_wp2
        go_ret
        exact ⟨rfl, below_drewN ((Below.refl _ _).alloc (Nat.le_refl _) _) _⟩
      · have hz1 : (1 : Int) < (s.size : Int) := by omega
        have k1 : 1 < s.size := by omega
        obtain ⟨x1, hx1⟩ : ∃ x1, s[1]'k1 = x1 := ⟨_, rfl⟩
        have l1 := x1.toNat_lt
        rw [show nb s.data.toList 1 = x1.toNat by rw [nb_get s 1 (by omega), hx1]]
        by_cases b1 : x1.toNat < 128
        · rw [fullS_out _ _ _ _ _ _ h0 hlong n1 (.inl b1)]
          have gd1 : decide ((x1.toNat : Int) < 128) = true := by simp; omega
          clear hlong h0
          go_enter Tryz.func45, Tryz.ntmps45
          go_wp2
          go_quiet (fail)
          go_wp2
          go_ret
          exact ⟨rfl, below_drewN ((Below.refl _ _).alloc (Nat.le_refl _) _) _⟩
        by_cases b2 : 143 < x1.toNat
        · rw [fullS_out _ _ _ _ _ _ h0 hlong n1 (.inr b2)]
          have gd1 : decide ((x1.toNat : Int) < 128) = false := by simp; omega
          have gd2 : decide ((143 : Int) < (x1.toNat : Int)) = true := by simp; omega
          clear hlong h0
          go_enter Tryz.func45, Tryz.ntmps45
          go_wp2
          go_quiet (fail)
          go_wp2
          go_ret
          exact ⟨rfl, below_drewN ((Below.refl _ _).alloc (Nat.le_refl _) _) _⟩
        have gd1 : decide ((x1.toNat : Int) < 128) = false := by simp; omega
        have gd2 : decide ((143 : Int) < (x1.toNat : Int)) = false := by simp; omega
        by_cases n2 : s.size < 3
        · rw [fullS_2 _ _ _ _ _ _ h0 hlong n2 (by omega)]
          have gd3 : decide ((2 : Int) < (s.size : Int)) = false := by simp; omega
          clear hlong h0
          go_enter Tryz.func45, Tryz.ntmps45
          go_wp2
          go_quiet (fail)
          go_wp2
          go_ret
          exact ⟨rfl, below_drewN ((Below.refl _ _).alloc (Nat.le_refl _) _) _⟩
        have hz2 : (2 : Int) < (s.size : Int) := by omega
        have k2 : 2 < s.size := by omega
        obtain ⟨x2, hx2⟩ : ∃ x2, s[2]'k2 = x2 := ⟨_, rfl⟩
        have l2 := x2.toNat_lt
        rw [show nb s.data.toList 2 = x2.toNat by rw [nb_get s 2 (by omega), hx2]]
        rw [fullS_3 _ _ _ _ _ _ h0 hlong n2 (by omega)]
        clear hlong h0 n1 n2
        by_cases c1 : x2.toNat < 128
        · rw [decide_eq_true (Or.inl c1)]
          have gd3 : decide ((x2.toNat : Int) < 128) = true := by simp; omega
          go_enter Tryz.func45, Tryz.ntmps45
          go_wp2
          go_quiet (fail)
          go_wp2
          go_ret
          exact ⟨rfl, below_drewN ((Below.refl _ _).alloc (Nat.le_refl _) _) _⟩
        by_cases c2 : 191 < x2.toNat
        · rw [decide_eq_true (Or.inr c2)]
          have gd3 : decide ((x2.toNat : Int) < 128) = false := by simp; omega
          have gd4 : decide ((191 : Int) < (x2.toNat : Int)) = true := by simp; omega
          go_enter Tryz.func45, Tryz.ntmps45
          go_wp2
          go_quiet (fail)
          go_wp2
          go_ret
          exact ⟨rfl, below_drewN ((Below.refl _ _).alloc (Nat.le_refl _) _) _⟩
        · rw [decide_eq_false (by omega)]
          have gd3 : decide ((x2.toNat : Int) < 128) = false := by simp; omega
          have gd4 : decide ((191 : Int) < (x2.toNat : Int)) = false := by simp; omega
          go_enter Tryz.func45, Tryz.ntmps45
          go_wp2
          go_quiet (fail)
          go_wp2
          go_ret
          exact ⟨rfl, below_drewN ((Below.refl _ _).alloc (Nat.le_refl _) _) _⟩

end Go.Proofs.YtfbhpmafjehojaaGreatDoor.U1
