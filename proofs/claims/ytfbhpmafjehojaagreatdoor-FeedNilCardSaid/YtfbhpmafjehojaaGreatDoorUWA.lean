/- The small functions that only reckon with numbers. The document's own answers: First, Points, Join. The document's own answers: Points and Join. The document's own answers: Decode, Text; Ints. -/
import Derived.Test.YtfbhpmafjehojaaGreatDoorProg
import Derived.WalkKit
import Derived.WalkSpells
import Derived.WalkLawsBesides
import Derived.BigQuiet
import Derived.Deep.QuietTactic
import Derived.Outline
import Derived.Lib.SlBytesRow
import Derived.Lib.SlBytesConst
import Derived.Deep.LoopGhost
import Derived.Deep.RegionWith
import Derived.Lib.Hide
import Derived.Lib.RabinKarpLaws
import Derived.WalkSmall
import Derived.Test.YtfbhpmafjehojaaGreatDoorUPA
namespace Go.Proofs.YtfbhpmafjehojaaGreatDoor.U1
open Go.RowKit


theorem nb_get (s : ByteArray) (k : Nat) (h : k < s.size) : nb s.data.toList k = s[k].toNat := by
  simp [nb, List.getD_eq_getElem?_getD, List.getElem?_eq_getElem (show k < s.data.toList.length by simpa using h)]
  rfl
theorem below_drewN {B : Nat} {a w : World} (h : Below B a w) (n : Nat) : Below B a (w.drewN n) := h.trans ⟨rfl, rfl, rfl, Nat.le_refl _, fun _ _ => rfl⟩
theorem ret_bool {a b : Bool} (h : a = b) : Ending.returned (.bool a) = .returned (.bool b) := by rw [h]
theorem isPoint_any (n : Int) (w : World) : Calls Tryz.prog 156 #[.int .i64 n] w fun e w' => e = .returned (.bool (ptB n)) ∧ w = w' := by
  go_enter Tryz.func156, Tryz.ntmps156
  go_wp2
  all_goals go_ret
  all_goals refine ⟨ret_bool ?_, rfl⟩
  all_goals (unfold ptB; rw [Bool.eq_iff_iff]; simp only [Bool.or_eq_true, decide_eq_true_eq, Bool.false_eq_true, false_iff, true_iff]; omega)

theorem point_any (n : Int) (w : World) : Calls Tryz.prog 90 #[.int .i64 n] w fun e w' => e = .returned (.bool (ptB n)) ∧ w = w' := by
  go_enter Tryz.func90, Tryz.ntmps90
  go_wp2
  all_goals go_ret
  all_goals refine ⟨ret_bool ?_, rfl⟩
  all_goals (unfold ptB; rw [Bool.eq_iff_iff]; simp only [Bool.or_eq_true, decide_eq_true_eq, Bool.false_eq_true, false_iff, true_iff]; omega)

theorem ret_two {a b c d : Int} (h : a = c) (h2 : b = d) : Ending.returned (.tuple #[.int .i64 a, .int .i64 b]) = .returned (.tuple #[.int .i64 c, .int .i64 d]) := by rw [h, h2]

set_option maxRecDepth 100000 in
theorem lead_any (c : Nat) (hc : c < 256) (w : World) : Calls Tryz.prog 89 #[.int .u8 c] w fun e w' => e = .returned (.tuple #[.int .i64 (leadK c), .int .i64 (leadN c)]) ∧ w = w' := by
  go_enter Tryz.func89, Tryz.ntmps89
  go_wp2
  all_goals go_ret2
  all_goals refine ⟨ret_two ?_ ?_, rfl⟩
  all_goals (first | unfold leadK | unfold leadN)
  all_goals ((repeat' split) <;> omega)

/-- 'string(b)' of a new row of bytes. -/
theorem conv_new (w : World) (zs : List Int) (l : List UInt8) (n : Nat) (hn : n = l.length) (hl : l.map (fun b => (b.toNat : Int)) = zs) (c : Nat) (C : Array Value) (hC : C = (zs.map (Value.int .u8)).toArray) :
    (convert 22 9 (.slice (some ⟨w.heap.size, 0, none⟩) n c)).run Tryz.prog (w.alloc (.cells C 5)) = .ok (.string ⟨l.toArray⟩) (w.alloc (.cells C 5)) := by
  subst hn
  refine run_convert_bytes_back (P := Tryz.prog) _ 22 9 5 ⟨w.heap.size, 0, none⟩ c l Tryz.underlying22 Tryz.underlying5 Tryz.underlying9 (fun j hj => ?_)
  have e : (⟨w.heap.size, 0, none⟩ : Addr).add j = ⟨w.heap.size, j, none⟩ := by simp [Addr.add]; omega
  rw [e, World.cell?_alloc_mark, hC, ← hl]
  simp [List.getElem?_eq_getElem hj]

theorem enc1 {n : Nat} (h : n ≤ 127) : encN n = [n.toUInt8] := if_pos h
theorem enc2 {n : Nat} (h1 : ¬ n ≤ 127) (h : n ≤ 2047) : encN n = [(192 + n / 64).toUInt8, (128 + n % 64).toUInt8] := by unfold encN; rw [if_neg h1, if_pos h]
theorem enc3 {n : Nat} (h1 : ¬ n ≤ 127) (h2 : ¬ n ≤ 2047) (h : n ≤ 65535) : encN n = [(224 + n / 4096).toUInt8, (128 + n / 64 % 64).toUInt8, (128 + n % 64).toUInt8] := by unfold encN; rw [if_neg h1, if_neg h2, if_pos h]
theorem enc4 {n : Nat} (h1 : ¬ n ≤ 127) (h2 : ¬ n ≤ 2047) (h3 : ¬ n ≤ 65535) : encN n = [(240 + n / 262144).toUInt8, (128 + n / 4096 % 64).toUInt8, (128 + n / 64 % 64).toUInt8, (128 + n % 64).toUInt8] := by unfold encN; rw [if_neg h1, if_neg h2, if_neg h3]
theorem u8i {n : Nat} (h : n < 256) : ((n.toUInt8).toNat : Int) = (n : Int) := by rw [u8_toNat h]

set_option maxRecDepth 100000 in
theorem bytes_any (n : Nat) (hn : n ≤ 1114111) (w : World) : Calls Tryz.prog 56 #[.int .i64 n] w fun e w' => e = .returned (.string ⟨(encN n).toArray⟩) ∧ Below w.heap.size w w' := by
  by_cases h1 : n ≤ 127
  · have hc := conv_new w [(n : Int)] (encN n) 1 (by rw [enc1 h1]; rfl) (by rw [enc1 h1]; simp only [List.map_cons, List.map_nil]; rw [u8i (by omega)]) 1 _ rfl
    have e1 : ((n : Int) ≤ 127) := by omega
    simp only [List.map_cons, List.map_nil] at hc
    go_enter Tryz.func56, Tryz.ntmps56
    go_wp2
    go_ret
    exact ⟨rfl, (Below.refl _ _).alloc (Nat.le_refl _) _⟩
  by_cases h2 : n ≤ 2047
  · have hc := conv_new w [(192 + n / 64 : Int), (128 + n % 64 : Int)] (encN n) 2 (by rw [enc2 h1 h2]; rfl) (by rw [enc2 h1 h2]; simp only [List.map_cons, List.map_nil]; rw [u8i (by omega), u8i (by omega)]; simp) 2 _ rfl
    have e1 : ¬ ((n : Int) ≤ 127) := by omega
    have e2 : ((n : Int) ≤ 2047) := by omega
    simp only [List.map_cons, List.map_nil] at hc
    go_enter Tryz.func56, Tryz.ntmps56
    go_wp2
    go_ret
    exact ⟨rfl, (Below.refl _ _).alloc (Nat.le_refl _) _⟩
  by_cases h3 : n ≤ 65535
  · have hc := conv_new w [(224 + n / 4096 : Int), (128 + n / 64 % 64 : Int), (128 + n % 64 : Int)] (encN n) 3 (by rw [enc3 h1 h2 h3]; rfl) (by rw [enc3 h1 h2 h3]; simp only [List.map_cons, List.map_nil]; rw [u8i (by omega), u8i (by omega), u8i (by omega)]; simp) 3 _ rfl
    have e1 : ¬ ((n : Int) ≤ 127) := by omega
    have e2 : ¬ ((n : Int) ≤ 2047) := by omega
    have e3 : ((n : Int) ≤ 65535) := by omega
    simp only [List.map_cons, List.map_nil] at hc
    go_enter Tryz.func56, Tryz.ntmps56
    go_wp2
    go_ret
    exact ⟨rfl, (Below.refl _ _).alloc (Nat.le_refl _) _⟩
  · have hc := conv_new w [(240 + n / 262144 : Int), (128 + n / 4096 % 64 : Int), (128 + n / 64 % 64 : Int), (128 + n % 64 : Int)] (encN n) 4 (by rw [enc4 h1 h2 h3]; rfl) (by rw [enc4 h1 h2 h3]; simp only [List.map_cons, List.map_nil]; rw [u8i (by omega), u8i (by omega), u8i (by omega), u8i (by omega)]; simp) 4 _ rfl
    have e1 : ¬ ((n : Int) ≤ 127) := by omega
    have e2 : ¬ ((n : Int) ≤ 2047) := by omega
    have e3 : ¬ ((n : Int) ≤ 65535) := by omega
    simp only [List.map_cons, List.map_nil] at hc
    go_enter Tryz.func56, Tryz.ntmps56
    go_wp2
    go_ret
    exact ⟨rfl, (Below.refl _ _).alloc (Nat.le_refl _) _⟩

end Go.Proofs.YtfbhpmafjehojaaGreatDoor.U1

namespace Go.Proofs.YtfbhpmafjehojaaGreatDoor.U1
open Go.RowKit


theorem ext0 (s : ByteArray) (j : Nat) : (s.extract 0 j).toList = s.data.toList.take j := by
  rw [ext_win]; simp [Lib.RK.win]

theorem point_bool (n : Int) (b : Bool) (h : ptB n = b) (w : World) : Calls Tryz.prog 90 #[.int .i64 n] w fun e w' => e = .returned (.bool b) ∧ w' = w :=
  (point_any n w).mono fun _ _ ⟨he, hw⟩ => ⟨by rw [he, h], hw.symm⟩

set_option maxRecDepth 100000 in
set_option maxHeartbeats 1000000 in
theorem first_any (s : ByteArray) (w : World) (h0 : 0 < s.size) (hs : s.size ≤ 9223372036854775807) :
    Calls Tryz.prog 57 #[.string s] w fun e w' => e = .returned (.tuple #[.int .i64 (firstL s.data.toList).1, .int .i64 (firstL s.data.toList).2]) ∧ Below w.heap.size w w' := by
  obtain ⟨x0, hx0⟩ : ∃ x0, s[0]'h0 = x0 := ⟨_, rfl⟩
  have l0 := x0.toNat_lt
  have hz0 : (0 : Int) < (s.size : Int) := by omega
  have hnb0 : nb s.data.toList 0 = x0.toNat := by rw [nb_get s 0 h0, hx0]
  have hl0 : s.data.toList.length = s.size := by simp
  have hk4 := leadK_le x0.toNat
  by_cases hk : leadK x0.toNat = 0
  · have e : firstL s.data.toList = (0, 0) := by unfold firstL; rw [hnb0, if_pos (.inl hk)]
    rw [e]
    have g1 : ((leadK x0.toNat : Int) == 0) = true := by simp [hk]
    have HK := Lib.hid hk
    clear hk hnb0 hl0
    go_enter Tryz.func57, Tryz.ntmps57
    go_wp2_with (go_at_call 89; refine (lead_any x0.toNat (by omega) _).mono ?_; rintro e w' ⟨rfl, rfl⟩)
    go_ret2
    exact ⟨rfl, Below.refl _ _⟩
  by_cases hlen : s.size < leadK x0.toNat
  · have e : firstL s.data.toList = (0, 0) := by unfold firstL; rw [hnb0, hl0, if_pos (.inr hlen)]
    rw [e]
    have g1 : ((leadK x0.toNat : Int) == 0) = false := by simp [hk]
    have g2 : (s.size : Int) < (leadK x0.toNat : Int) := by omega
    clear hk hnb0 hl0 hlen
    go_enter Tryz.func57, Tryz.ntmps57
    go_wp2_with (go_at_call 89; refine (lead_any x0.toNat (by omega) _).mono ?_; rintro e w' ⟨rfl, rfl⟩)
    go_ret2
    exact ⟨rfl, Below.refl _ _⟩
  have g1 : ((leadK x0.toNat : Int) == 0) = false := by simp [hk]
  have g2 : ¬ (s.size : Int) < (leadK x0.toNat : Int) := by omega
  have hacc1 : accL s.data.toList 1 = leadN x0.toNat := by rw [accL_one, hnb0]
  have hfirst : firstL s.data.toList = if ptB (accL s.data.toList (leadK x0.toNat) : Nat) = true ∧ encN (accL s.data.toList (leadK x0.toNat)) = s.data.toList.take (leadK x0.toNat) then (accL s.data.toList (leadK x0.toNat), leadK x0.toNat) else (0, 0) := by
    unfold firstL; rw [hnb0, if_neg (by omega)]
  have HF := Lib.hid hfirst
  have HA := Lib.hid hacc1
  have hk1 : 1 ≤ leadK x0.toNat := by omega
  have hks : leadK x0.toNat ≤ s.size := by omega
  have HL := Lib.hid hl0
  have HN := Lib.hid hnb0
  clear hk hnb0 hl0 hlen hacc1 hfirst
  go_enter Tryz.func57, Tryz.ntmps57
  go_wp2_with (go_at_call 89; refine (lead_any x0.toNat (by omega) _).mono ?_; rintro e w' ⟨rfl, rfl⟩)
  generalize leadK x0.toNat = k at *
  go_loop [5, 6] (fun n i => ∃ j : Nat, 1 ≤ j ∧ j ≤ k ∧ i = .int .i64 j ∧ n = .int .i64 (accL s.data.toList j)) (fun _ i => k - (intOf i).toNat)
  case atStart => exact ⟨1, by omega, hk1, rfl, by rw [HA.out]⟩
  case round =>
    obtain ⟨j, hj1, hjk, rfl, rfl⟩ := hrel
    have hb := accL_lt s.data.toList j (by omega)
    by_cases hlt : j < k
    · have hjs : j < s.size := by omega
      obtain ⟨xj, hxj⟩ : ∃ xj, s[j]'hjs = xj := ⟨_, rfl⟩
      have lj := xj.toNat_lt
      have HS : Hid (accL s.data.toList (j + 1) = 64 * accL s.data.toList j + xj.toNat % 64) := by
        rw [accL_succ _ _ hj1, nb_get s j hjs, hxj]; rfl
      go_wp2
      go_round
      case rel => exact ⟨j + 1, by omega, by omega, by go_num, by rw [HS.out]; go_num⟩
      case measure => simp [intOf]; omega
    · obtain rfl : j = k := by omega
      cases hp : ptB (accL s.data.toList j : Nat) with
      | false =>
        have hf : firstL s.data.toList = (0, 0) := by rw [HF.out, if_neg (by rw [hp]; simp)]
        have HE := Lib.hid hf
        have HP := Lib.hid hp
        clear hp hf
        go_wp2_with fail
        go_quiet ((go_at_call 90; exact Calls.quiet_of_same (point_bool _ false HP.out _)))
        go_wp2
        go_ret2
        exact ⟨by rw [HE.out]; rfl, below_drewN (Below.refl _ _) _⟩
      | true =>
        have hpt : accL s.data.toList j ≤ 1114111 := ((ptB_iff _).1 hp).1
        have HP := Lib.hid hp
        clear hp
        go_wp2_with fail
        go_region_with (first | (go_at_call 90; refine (point_bool _ true HP.out _).mono ?_; rintro e w' ⟨rfl, rfl⟩) | (go_at_call 56; refine (bytes_any _ hpt _).mono ?_; rintro e w' ⟨rfl, hb1⟩))
        go_wp2_with fail
        · have ht : (!encN (accL s.data.toList j) == (s.extract 0 j).toList) = true := by assumption
          go_ret2
          refine ⟨?_, ((Below.refl _ _).drew).trans (hb1.mono (Nat.le_refl _))⟩
          rw [HF.out, if_neg (by
            intro hh
            rw [ext0, hh.2] at ht
            simp at ht)]
          rfl
        · have ht : (!encN (accL s.data.toList j) == (s.extract 0 j).toList) = false := by assumption
          go_ret2
          refine ⟨?_, ((Below.refl _ _).drew).trans (hb1.mono (Nat.le_refl _))⟩
          rw [HF.out, if_pos (by
            refine ⟨HP.out, ?_⟩
            rw [ext0] at ht
            simpa using ht)]
          rfl

end Go.Proofs.YtfbhpmafjehojaaGreatDoor.U1

namespace Go.Proofs.YtfbhpmafjehojaaGreatDoor.U1
open Go.RowKit

theorem Tinfo3 : (Tryz.prog.info? 3).map (fun i => (i.zero, i.size, i.bytes)) = some (some (.int .i64 0), 1, 8) := by kernel_rfl
theorem Tinfo5 : (Tryz.prog.info? 5).map (fun i => (i.zero, i.size, i.bytes)) = some (some (.int .u8 0), 1, 1) := by kernel_rfl

theorem lt_of_block {w : World} {g : Nat} {o : Obj} (h : w.heap[g]? = some o) : g < w.heap.size := by
  rcases Nat.lt_or_ge g w.heap.size with h' | h'
  · exact h'
  · simp [Array.getElem?_eq_none h'] at h
theorem ownsRow_below {w w' : World} {base : Nat} {e : TypeId} {size : Nat} {v : Value} {n : Nat} {xs : List Value} (h : w.ownsRow base e size v n xs) (hb : Below w.heap.size w w') : w'.ownsRow base e size v n xs := by
  obtain ⟨h1, h2⟩ := h
  refine ⟨h1, ?_⟩
  rcases h2 with h2 | ⟨g, cap, cur, a, b, c, d⟩
  · exact .inl h2
  · exact .inr ⟨g, cap, cur, a, b, by rw [hb.block g (lt_of_block c)]; exact c, d⟩

def ptCells (p : List Nat) : List Value := p.map fun (c : Nat) => Value.int .i64 (c : Int)
theorem ptCells_snoc (p : List Nat) (c : Nat) : ptCells (p ++ [c]) = ptCells p ++ [.int .i64 (c : Int)] := by simp [ptCells]
theorem extract_drop (s : ByteArray) (pos : Nat) : (s.extract pos s.size).data.toList = s.data.toList.drop pos := by
  rw [Lib.extract_data, List.take_of_length_le (by simp)]
theorem size_drop (s : ByteArray) (pos : Nat) : (s.extract pos s.size).size = s.size - pos := by
  simp

set_option maxRecDepth 100000 in
set_option maxHeartbeats 1000000 in
theorem refPoints_any (s : ByteArray) (w : World) (hs : s.size ≤ 1099511627776) :
    Calls Tryz.prog 32 #[.string s] w fun e w' => ∃ v, e = .returned v ∧ w'.ownsRow w.heap.size 3 1 v (pts s.data.toList).length (ptCells (pts s.data.toList)) ∧ Below w.heap.size w w' := by
  obtain ⟨i0, hi, hz0, hz1, hz2⟩ := info_parts Tinfo3
  go_enter Tryz.func32, Tryz.ntmps32
  go_wp2
  go_loopw [3, 4] (fun v i wr => ∃ (pos : Nat) (acc : List Nat), i = .int .i64 pos ∧ pos ≤ s.size ∧ wr.ownsRow w.heap.size 3 1 v acc.length (ptCells acc) ∧ Below w.heap.size w wr ∧ Hid (pts s.data.toList = acc ++ pts (s.data.toList.drop pos)) ∧ acc.length ≤ pos) (fun _ i _ => s.size - (intOf i).toNat)
  case atStart => exact ⟨0, [], rfl, Nat.zero_le _, World.ownsRow_nil w w.heap.size 3 1, Below.refl _ _, rfl, Nat.le_refl _⟩
  case round =>
    obtain ⟨pos, acc, rfl, hp, hown, hbw, HS, hlen⟩ := hrel
    by_cases hlt : pos < s.size
    · have hne : s.data.toList.drop pos ≠ [] := by
        intro h
        have := congrArg List.length h
        simp at this; omega
      have hsz := size_drop s pos
      have hw := width_pos _ hne
      have hld : (s.data.toList.drop pos).length = s.size - pos := by simp
      have hH : Hid (pts s.data.toList = (acc ++ [(decL (s.data.toList.drop pos)).1]) ++ pts (s.data.toList.drop (pos + (decL (s.data.toList.drop pos)).2))) := by
        show _ = _
        rw [HS.out, pts_cons _ hne, List.drop_drop]
        simp
      have hb1 : 0 < (s.extract pos s.size).size := by omega
      have hb2 : (s.extract pos s.size).size ≤ 9223372036854775807 := by omega
      have c1 := first_any (s.extract pos s.size)
      rw [extract_drop] at c1
      have hcase := firstL_dec _ hne
      generalize hD : decL (s.data.toList.drop pos) = D at *
      obtain ⟨c, k⟩ := D
      simp only at hw hH
      have hk1 := hw.1
      have hk2 : pos + k ≤ s.size := by omega
      clear hw hld hsz hD HS
      rcases hcase with ⟨f1, f2, f3⟩ | ⟨f1, f2⟩
      · obtain ⟨rfl, rfl⟩ : c = 65533 ∧ k = 1 := by simpa using f3
        generalize firstL (s.data.toList.drop pos) = F at *
        obtain ⟨F1, F2⟩ := F
        simp only at f1 f2
        subst f1 f2
        clear f3 hne
        go_wp2_with (first
          | (go_at_call 57; refine (c1 _ hb1 hb2).mono ?_; rintro e w1 ⟨rfl, hb⟩
             have hown1 := ownsRow_below hown hb
             have hbw1 := hbw.trans (hb.mono hbw.size)
             clear hown hbw hb c1)
          | (at_builtin; refine wpList_append_own _ rfl _ _ 33 rfl w.heap.size 3 i0 (.int .i64 0) 1 8 Tryz.underlying33 hi hz0 hz1 hz2 rfl (by decide) _ _ _ rfl (hown1.alloc _) ⟨w1.heap.size, 0, none⟩ 1 1 [.int .i64 65533] rfl rfl (cell_one_new _ _ _) (fun x hx => by simp at hx; subst hx; rfl) (by unfold maxLen; omega) (by omega) (by have := hbw1.size; simp; omega) ?_; intro v' w3 hown' hgrow3 hnil3
             have hbw3 : Below w.heap.size w w3 := Below.grown (hbw1.alloc (by have := hbw1.size; omega) _) hgrow3 (by have := hbw1.size; simp; omega) (fun j hj => by have := (hown1.lt _ hj).1; omega)
             have X : Aside (w3.ownsRow w.heap.size 3 1 v' (acc.length + 1) (ptCells acc ++ [.int .i64 65533]) ∧ Below w.heap.size w w3) := ⟨hown', hbw3⟩
             clear hown' hgrow3 hnil3))
        go_roundw
        case rel => exact ⟨pos + 1, acc ++ [65533], by go_num, hk2, by rw [ptCells_snoc, List.length_append]; exact X.out.1, X.out.2, hH, by simp; omega⟩
        case measure => simp [intOf]; omega
      · have hk0 : ((k : Int) == 0) = false := by simp; omega
        rw [← f2] at c1
        clear f1 f2 hne
        go_wp2_with (first
          | (go_at_call 57; refine (c1 _ hb1 hb2).mono ?_; rintro e w1 ⟨rfl, hb⟩
             have hown1 := ownsRow_below hown hb
             have hbw1 := hbw.trans (hb.mono hbw.size)
             clear hown hbw hb c1)
          | (at_builtin; refine wpList_append_own _ rfl _ _ 33 rfl w.heap.size 3 i0 (.int .i64 0) 1 8 Tryz.underlying33 hi hz0 hz1 hz2 rfl (by decide) _ _ _ rfl (hown1.alloc _) ⟨w1.heap.size, 0, none⟩ 1 1 [.int .i64 c] rfl rfl (cell_one_new _ _ _) (fun x hx => by simp at hx; subst hx; rfl) (by unfold maxLen; omega) (by omega) (by have := hbw1.size; simp; omega) ?_; intro v' w3 hown' hgrow3 hnil3
             have hbw3 : Below w.heap.size w w3 := Below.grown (hbw1.alloc (by have := hbw1.size; omega) _) hgrow3 (by have := hbw1.size; simp; omega) (fun j hj => by have := (hown1.lt _ hj).1; omega)
             have X : Aside (w3.ownsRow w.heap.size 3 1 v' (acc.length + 1) (ptCells acc ++ [.int .i64 c]) ∧ Below w.heap.size w w3) := ⟨hown', hbw3⟩
             clear hown' hgrow3 hnil3))
        go_roundw
        case rel => exact ⟨pos + k, acc ++ [c], by go_num, hk2, by rw [ptCells_snoc, List.length_append]; exact X.out.1, X.out.2, hH, by simp; omega⟩
        case measure => simp [intOf]; omega
    · obtain rfl : pos = s.size := by omega
      have e : pts s.data.toList = acc := by
        rw [HS.out, List.drop_of_length_le (by simp), pts_nil, List.append_nil]
      have HE := Lib.hid e
      clear e
      go_wp2
      go_ret
      exact ⟨_, rfl, by rw [HE.out]; exact hown, hbw⟩

theorem rowForms {w : World} {base size n : Nat} {e : TypeId} {v : Value} {xs : List Value} (h : w.ownsRow base e size v n xs) : (v = .slice none 0 0 ∧ n = 0) ∨ ∃ g cap, v = .slice (some ⟨g, 0, none⟩) n cap := by
  rcases h.2 with h2 | ⟨g, cap, cur, a, _⟩
  · exact .inl h2
  · exact .inr ⟨g, cap, a⟩
theorem bsize (l : List UInt8) : (⟨l.toArray⟩ : ByteArray).size = l.length := by
  show l.toArray.size = _
  simp
/-- A slice of ints that reads as this list. -/
def IntsIn (w : World) (v : Value) (p : List Int) : Prop :=
  ((∃ a c, v = .slice a 0 c) ∧ p = []) ∨ ∃ B off cap, v = .slice (some ⟨B, off, none⟩) p.length cap ∧ ∀ j, (h : j < p.length) → w.cell? ⟨B, off + j, none⟩ = some (.int .i64 p[j])
theorem lt_of_cell {w : World} {a : Addr} {v : Value} (hc : w.cell? a = some v) : a.block < w.heap.size := by
  rcases Nat.lt_or_ge a.block w.heap.size with h' | h'
  · exact h'
  · simp [World.cell?, Array.getElem?_eq_none h'] at hc
theorem IntsIn.below {w w' : World} {v : Value} {p : List Int} (h : IntsIn w v p) (hb : Below w.heap.size w w') : IntsIn w' v p := by
  rcases h with h | ⟨B, off, cap, h1, h2⟩
  · exact .inl h
  · exact .inr ⟨B, off, cap, h1, fun j hj => by rw [hb.cell (lt_of_cell (h2 j hj))]; exact h2 j hj⟩
theorem IntsIn.of_row {w : World} {base : Nat} {v : Value} {p : List Nat} (h : w.ownsRow base 3 1 v p.length (ptCells p)) : IntsIn w v (p.map fun (c : Nat) => (c : Int)) := by
  rcases rowForms h with ⟨h1, h2⟩ | ⟨g, cap, rfl⟩
  · exact .inl ⟨⟨_, _, h1⟩, by rw [List.length_eq_zero_iff.1 h2]; rfl⟩
  · refine .inr ⟨g, 0, cap, by simp, fun j hj => ?_⟩
    have hj' : j < p.length := by simpa using hj
    rw [Nat.zero_add, h.cellAt j (by omega)]
    simp [ptCells, List.getElem?_eq_getElem hj']

theorem conv_row {w : World} {base : Nat} {v : Value} {n : Nat} {l : List UInt8} (h : w.ownsRow base 5 1 v n (Lib.byteCells l)) :
    (convert 22 9 v).run Tryz.prog w = .ok (.string ⟨l.toArray⟩) w := by
  have hl : l.length = n := by have := h.1; simpa [Lib.byteCells_length] using this
  rcases rowForms h with ⟨rfl, h2⟩ | ⟨g, cap, rfl⟩
  · have e : l = [] := List.length_eq_zero_iff.1 (by omega)
    rw [e]
    exact run_convert_bytes_nil (P := Tryz.prog) w 22 5 Tryz.underlying22 Tryz.underlying5 0 0 9 Tryz.underlying9
  · subst hl
    refine run_convert_bytes_back (P := Tryz.prog) w 22 9 5 ⟨g, 0, none⟩ cap l Tryz.underlying22 Tryz.underlying5 Tryz.underlying9 (fun j hj => ?_)
    have e : (⟨g, 0, none⟩ : Addr).add j = ⟨g, j, none⟩ := by simp [Addr.add]; omega
    rw [e, h.cellAt j (by omega)]
    simp [Lib.byteCells, List.getElem?_eq_getElem hj]

theorem byteCells_append (a b : List UInt8) : Lib.byteCells (a ++ b) = Lib.byteCells a ++ Lib.byteCells b := by simp [Lib.byteCells]
theorem take_snoc (p : List Nat) (k : Nat) (h : k < p.length) : p.take (k + 1) = p.take k ++ [p[k]] := by
  rw [List.take_succ_eq_append_getElem h]
theorem encs_snoc (p : List Nat) (c : Nat) : encs (p ++ [c]) = encs p ++ encN c := by rw [encs_append, encs_cons, encs_nil, List.append_nil]

set_option maxRecDepth 100000 in
set_option maxHeartbeats 1000000 in
/-- Join: the bytes of code points. -/
theorem join_any (p : List Nat) (hp : ∀ c ∈ p, c ≤ 1114111) (v : Value) (w : World) (hlen : p.length ≤ 1099511627776) (hv : IntsIn w v (p.map fun (c : Nat) => (c : Int))) :
    Calls Tryz.prog 31 #[v] w fun e w' => e = .returned (.string ⟨(encs p).toArray⟩) ∧ Below w.heap.size w w' := by
  obtain ⟨i0, hi, hz0, hz1, hz2⟩ := info_parts Tinfo5
  rcases hv with ⟨⟨a0, c0, rfl⟩, hp0⟩ | ⟨B, off, cap, rfl, hc⟩
  · obtain rfl : p = [] := List.map_eq_nil_iff.1 hp0
    clear hp hp0 hlen
    have hconv := conv_row (l := []) (World.ownsRow_nil w 0 5 1)
    go_enter Tryz.func31, Tryz.ntmps31
    go_wp2
    refine wp_loop_rounds 1 ?_
    rw [rounds_succ]
    go_wp2
    go_ret
    exact ⟨rfl, Below.refl _ _⟩
  simp only [List.length_map] at hc ⊢
  go_enter Tryz.func31, Tryz.ntmps31
  go_wp2
  go_loopw [3, 4] (fun o i wr => ∃ k : Nat, i = .int .i64 k ∧ k ≤ p.length ∧ wr.ownsRow w.heap.size 5 1 o (encs (p.take k)).length (Lib.byteCells (encs (p.take k))) ∧ Below w.heap.size w wr) (fun _ i _ => p.length - (intOf i).toNat)
  case atStart => exact ⟨0, rfl, Nat.zero_le _, World.ownsRow_nil w w.heap.size 5 1, Below.refl _ _⟩
  case round =>
    obtain ⟨k, rfl, hk, hown, hbw⟩ := hrel
    by_cases hlt : k < p.length
    · have hcell : wr.cell? ⟨B, off + k, none⟩ = some (.int .i64 (p[k] : Nat)) := by
        have := hc k hlt
        rw [hbw.cell (lt_of_cell this), this]
        simp
      have hpk : p[k] ≤ 1114111 := hp _ (List.getElem_mem hlt)
      have hH : Hid (encs (p.take (k + 1)) = encs (p.take k) ++ encN p[k]) := by
        show _ = _
        rw [take_snoc p k hlt, encs_snoc]
      have hlen2 := (encs_len_le (p.take k)).2
      have hlen3 : (p.take k).length ≤ k := List.length_take_le _ _
      have hlen4 := encN_length p[k]
      generalize p[k] = c at *
      generalize encs (p.take k) = A at *
      go_wp2_with (first
        | (go_at_call 56; refine (bytes_any c hpk _).mono ?_; rintro e w1 ⟨rfl, hb⟩
           have hown1 := ownsRow_below hown hb
           have hbw1 := hbw.trans (hb.mono hbw.size)
           clear hown hbw hb hcell)
        | (at_builtin; go_loud (refine Lib.wpList_append_own_string _ rfl _ _ 22 9 rfl w.heap.size 5 i0 Tryz.underlying22 Tryz.underlying9 hi hz0 hz1 hz2 _ _ _ rfl hown1 ⟨(encN c).toArray⟩ rfl (by rw [bsize]; unfold maxLen; omega) (by rw [bsize]; omega) hbw1.size ?_); intro v' w3 hown' hgrow3 hnil3
           rw [bsize] at hown'
           have hbw3 : Below w.heap.size w w3 := Below.grown hbw1 hgrow3 hbw1.size (fun j hj => (hown1.lt _ hj).1)
           have X : Aside (w3.ownsRow w.heap.size 5 1 v' (A.length + (encN c).length) (Lib.byteCells A ++ Lib.byteCells (encN c)) ∧ Below w.heap.size w w3) := ⟨hown', hbw3⟩
           clear hown' hgrow3 hnil3))
      go_roundw
      case rel => exact ⟨k + 1, by go_num, by omega, by rw [hH.out, byteCells_append, List.length_append]; exact X.out.1, X.out.2⟩
      case measure => simp [intOf]; omega
    · obtain rfl : k = p.length := by omega
      rw [List.take_length] at hown
      have hconv := conv_row hown
      go_wp2
      go_ret
      exact ⟨rfl, hbw⟩

end Go.Proofs.YtfbhpmafjehojaaGreatDoor.U1

namespace Go.Proofs.YtfbhpmafjehojaaGreatDoor.U1
open Go.RowKit

theorem pts_le (l : List UInt8) : ∀ c ∈ pts l, c ≤ 1114111 := fun c hc => (pts_valid l c hc).1

set_option maxRecDepth 100000 in
theorem refDecode_any (s : ByteArray) (w : World) (hs : s.size ≤ 1099511627776) :
    Calls Tryz.prog 21 #[.string s] w fun e w' => e = .returned (.string ⟨(dec s.data.toList).toArray⟩) ∧ Below w.heap.size w w' := by
  have hl := (pts_len s.data.toList).1
  have hl2 : (pts s.data.toList).length ≤ 1099511627776 := by simp at hl; omega
  clear hl
  go_enter Tryz.func21, Tryz.ntmps21
  go_wp2_with (first
    | (go_at_call 32; refine (refPoints_any s _ hs).mono ?_; rintro e w1 ⟨v, rfl, hown, hb⟩)
    | (go_at_call 31; refine (join_any (pts s.data.toList) (pts_le _) _ _ hl2 (IntsIn.of_row hown)).mono ?_; rintro e w2 ⟨rfl, hb2⟩))
  go_ret
  exact ⟨rfl, hb.trans (hb2.mono hb.size)⟩

end Go.Proofs.YtfbhpmafjehojaaGreatDoor.U1
