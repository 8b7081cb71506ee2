/- One step, four bytes, the document's mark. -/
import Derived.Test.YtmdpilpghcapbaaProg
import Derived.Test.YtmdpilpghcapbaaPure
import Derived.WalkKit
import Derived.WalkSpells
import Derived.WalkLawsBesides
import Derived.BigQuiet
import Derived.Deep.QuietTactic
import Derived.Outline
import Derived.Lib.SlBytesRow
import Derived.Lib.SlBytesConst
import Derived.Lib.ConvBytes
import Derived.Lib.SmallJoins
import Derived.Lib.Hide
import Derived.OwnWalk
namespace Go.Proofs.Ytmdpilpghcapbaa
open Go.RowKit

theorem ret_int {k : IntKind} {a b : Int} (h : a = b) : Ending.returned (.int k a) = .returned (.int k b) := by rw [h]

theorem step_257 (n : Nat) (b : UInt8) (w : World) (hn : n ≤ 1000000006) :
    Calls Try.prog 22 #[.int .u64 (n : Int), .int .u64 257, .int .u8 (b.toNat : Int)] w fun e w' => e = .returned (.int .u64 (stp 257 n b : Nat)) ∧ w = w' := by
  have hb : b.toNat ≤ 255 := by have := b.toNat_lt; omega
  have hs : (stp 257 n b : Int) = ((n : Int) * 257 + (b.toNat : Int) + 1) % 1000000007 := by unfold stp; omega
  generalize stp 257 n b = r at *
  generalize b.toNat = c at *
  have HS := Lib.hid hs
  clear hs
  go_enter Try.func22, Try.ntmps22
  go_wp2
  go_ret
  exact ⟨ret_int HS.out.symm, rfl⟩
theorem step_65539 (n : Nat) (b : UInt8) (w : World) (hn : n ≤ 1000000006) :
    Calls Try.prog 22 #[.int .u64 (n : Int), .int .u64 65539, .int .u8 (b.toNat : Int)] w fun e w' => e = .returned (.int .u64 (stp 65539 n b : Nat)) ∧ w = w' := by
  have hb : b.toNat ≤ 255 := by have := b.toNat_lt; omega
  have hs : (stp 65539 n b : Int) = ((n : Int) * 65539 + (b.toNat : Int) + 1) % 1000000007 := by unfold stp; omega
  generalize stp 65539 n b = r at *
  generalize b.toNat = c at *
  have HS := Lib.hid hs
  clear hs
  go_enter Try.func22, Try.ntmps22
  go_wp2
  go_ret
  exact ⟨ret_int HS.out.symm, rfl⟩

theorem conv_new (w : World) (zs : List Int) (l : List UInt8) (n : Nat) (hn : n = l.length) (hl : l.map (fun b => (b.toNat : Int)) = zs) (c : Nat) (C : Array Value) (hC : C = (zs.map (Value.int .u8)).toArray) :
    (convert 46 9 (.slice (some ⟨w.heap.size, 0, none⟩) n c)).run Try.prog (w.alloc (.cells C 5)) = .ok (.string ⟨l.toArray⟩) (w.alloc (.cells C 5)) := by
  subst hn
  refine run_convert_bytes_back (P := Try.prog) _ 46 9 5 ⟨w.heap.size, 0, none⟩ c l Try.underlying46 Try.underlying5 Try.underlying9 (fun j hj => ?_)
  have e : (⟨w.heap.size, 0, none⟩ : Addr).add j = ⟨w.heap.size, j, none⟩ := by simp [Addr.add]; omega
  rw [e, World.cell?_alloc_mark, hC, ← hl]
  simp [List.getElem?_eq_getElem hj]

theorem four_ints (n : Nat) (hn : n ≤ 1000000006) : (four n).map (fun b => (b.toNat : Int)) = [(n : Int) / 16777216, (n : Int) / 65536 % 256, (n : Int) / 256 % 256, (n : Int) % 256] := by
  simp only [four, List.map_cons, List.map_nil, List.cons.injEq, and_true, Nat.toUInt8_eq, UInt8.toNat_ofNat']
  omega
theorem four_any (n : Nat) (w : World) (hn : n ≤ 1000000006) :
    Calls Try.prog 20 #[.int .i64 (n : Int)] w fun e w' => e = .returned (.string ⟨(four n).toArray⟩) ∧ Below w.heap.size w w' := by
  have hc := conv_new w [(n : Int) / 16777216, (n : Int) / 65536 % 256, (n : Int) / 256 % 256, (n : Int) % 256] (four n) 4 rfl (four_ints n hn) 4 #[.int .u8 ((n : Int) / 16777216), .int .u8 ((n : Int) / 65536 % 256), .int .u8 ((n : Int) / 256 % 256), .int .u8 ((n : Int) % 256)] rfl
  go_enter Try.func20, Try.ntmps20
  go_wp2
  go_ret
  exact ⟨rfl, (Below.refl _ _).alloc (Nat.le_refl _) _⟩
/-- To a text of its own name. -/
theorem four_to (n : Nat) (T : ByteArray) (hT : T.data.toList = four n) (hn : n ≤ 1000000006) : Hid (∀ W, Calls Try.prog 20 #[.int .i64 (n : Int)] W fun e w' => e = .returned (.string T) ∧ Below W.heap.size W w') :=
  Lib.hid fun W => by
    have e : (⟨(four n).toArray⟩ : ByteArray) = T := by
      apply ByteArray.ext
      apply Array.toList_inj.1
      rw [hT]
    rw [← e]
    exact four_any n W hn
theorem add_to (S T R : ByteArray) (h : R.data.toList = S.data.toList ++ T.data.toList) (hl : S.size + T.size ≤ 9223372036854775807) : ∀ W, (Op.stringOp .add S T).run Try.prog W = .ok (.string R) W := fun W => by
  rw [run_string_add_sum (P := Try.prog) W S T hl]
  congr 2
  apply ByteArray.ext
  apply Array.toList_inj.1
  rw [h]
  simp
theorem lsize (s : ByteArray) : s.data.toList.length = s.size := by simp
theorem text_of (l : List UInt8) : ∃ T : ByteArray, T.data.toList = l := ⟨⟨l.toArray⟩, rfl⟩
theorem text_is {T : ByteArray} {l : List UInt8} (h : T.data.toList = l) : T = ⟨l.toArray⟩ := by
  apply ByteArray.ext
  apply Array.toList_inj.1
  rw [h]

set_option maxRecDepth 100000 in
set_option maxHeartbeats 1000000 in
/-- The document's mark. -/
theorem refOf_any (s : ByteArray) (w : World) (hs : s.size ≤ 1099511627776) :
    Calls Try.prog 13 #[.string s] w fun e w' => e = .returned (.string ⟨(markL s.data.toList).toArray⟩) ∧ Below w.heap.size w w' := by
  go_enter Try.func13, Try.ntmps13
  go_wp2
  go_loop [3, 4, 5] (fun x y i => ∃ k a b : Nat, k ≤ s.size ∧ i = .int .i64 k ∧ x = .int .i64 a ∧ y = .int .i64 b ∧ a ≤ 1000000006 ∧ b ≤ 1000000006 ∧ Hid (a = rx (s.data.toList.take k) ∧ b = ry (s.data.toList.take k))) (fun _ _ i => s.size - (intOf i).toNat)
  case atStart => exact ⟨0, 7, 11, Nat.zero_le _, rfl, rfl, rfl, by decide, by decide, ⟨rfl, rfl⟩⟩
  case round =>
    obtain ⟨k, a, b, hk, rfl, rfl, rfl, ha, hb, HR⟩ := hrel
    by_cases hlt : k < s.size
    · have hsn := take_snoc hlt
      have HX : Hid (stp 257 a s[k] = rx (s.data.toList.take (k + 1)) ∧ stp 65539 b s[k] = ry (s.data.toList.take (k + 1))) := Lib.hid (by
        rw [hsn, rx_snoc, ry_snoc, ← HR.out.1, ← HR.out.2]; exact ⟨rfl, rfl⟩)
      have hx : Hid ((stp 257 a s[k] : Int) = ((a : Int) * 257 + (s[k].toNat : Int) + 1) % 1000000007) := Lib.hid (by unfold stp; omega)
      have hy : Hid ((stp 65539 b s[k] : Int) = ((b : Int) * 65539 + (s[k].toNat : Int) + 1) % 1000000007) := Lib.hid (by unfold stp; omega)
      have hx2 := stp_lt 257 a s[k]
      have hy2 := stp_lt 65539 b s[k]
      have hb8 : s[k].toNat ≤ 255 := by have := s[k].toNat_lt; omega
      clear hsn
      go_wp2
      go_round
      case rel => exact ⟨k + 1, stp 257 a s[k], stp 65539 b s[k], by omega, by go_num, by rw [hx.out], by rw [hy.out], hx2, hy2, HX⟩
      case measure => simp [intOf]; omega
    · obtain rfl : k = s.size := by omega
      have h1 : a = rx s.data.toList := by rw [HR.out.1, List.take_of_length_le (by simp)]
      have h2 : b = ry s.data.toList := by rw [HR.out.2, List.take_of_length_le (by simp)]
      have hm := mul_lt a b ha hb
      have hmz : (a : Int) * (b : Int) ≤ 1000000012000000036 := by rw [← Int.natCast_mul]; omega
      have hmz0 : 0 ≤ (a : Int) * (b : Int) := by rw [← Int.natCast_mul]; omega
      have hpr : ((a * b % 1000000007 : Nat) : Int) = (a : Int) * (b : Int) % 1000000007 := by rw [← Int.natCast_mul]; omega
      have hln : ((s.size % 1000000007 : Nat) : Int) = (s.size : Int) % 1000000007 := by omega
      obtain ⟨T1, hT1⟩ := text_of (four a)
      obtain ⟨T2, hT2⟩ := text_of (four b)
      obtain ⟨T3, hT3⟩ := text_of (four (a * b % 1000000007))
      obtain ⟨T4, hT4⟩ := text_of (four (s.size % 1000000007))
      obtain ⟨R1, hR1⟩ := text_of (T1.data.toList ++ T2.data.toList)
      obtain ⟨R2, hR2⟩ := text_of (R1.data.toList ++ T3.data.toList)
      obtain ⟨R3, hR3⟩ := text_of (R2.data.toList ++ T4.data.toList)
      have HF : Hid (R3 = ⟨(markL s.data.toList).toArray⟩) := Lib.hid (by
        apply text_is
        rw [hR3, hR2, hR1, hT1, hT2, hT3, hT4, h1, h2]
        unfold markL
        rw [lsize])
      have z1 : T1.size = 4 := by rw [← lsize, hT1]; rfl
      have z2 : T2.size = 4 := by rw [← lsize, hT2]; rfl
      have z3 : T3.size = 4 := by rw [← lsize, hT3]; rfl
      have z4 : T4.size = 4 := by rw [← lsize, hT4]; rfl
      have y1 : R1.size = 8 := by rw [← lsize, hR1, List.length_append, lsize, lsize, z1, z2]
      have y2 : R2.size = 12 := by rw [← lsize, hR2, List.length_append, lsize, lsize, y1, z3]
      have a1 := add_to T1 T2 R1 hR1 (by omega)
      have a2 := add_to R1 T3 R2 hR2 (by omega)
      have a3 := add_to R2 T4 R3 hR3 (by omega)
      have C1 := four_to a T1 hT1 ha
      have C2 := four_to b T2 hT2 hb
      have C3 := four_to _ T3 hT3 (by omega)
      have C4 := four_to _ T4 hT4 (by omega)
      rw [hpr] at C3
      rw [hln] at C4
      clear hT1 hT2 hT3 hT4 hR1 hR2 hR3 z1 z2 z3 z4 y1 y2 h1 h2 hpr hln HR hm
      go_wp2_with fail
      refine (C1.out _).mono ?_
      rintro e w1 ⟨rfl, B1⟩
      go_wp2_with fail
      refine (C2.out _).mono ?_
      rintro e w2 ⟨rfl, b2⟩
      have B2 := B1.trans (b2.mono B1.size)
      clear b2
      go_wp2_with fail
      refine (C3.out _).mono ?_
      rintro e w3 ⟨rfl, b3⟩
      have B3 := B2.trans (b3.mono B2.size)
      clear b3
      go_wp2_with fail
      refine (C4.out _).mono ?_
      rintro e w4 ⟨rfl, b4⟩
      have B4 := B3.trans (b4.mono B3.size)
      clear b4
      go_wp2
      go_ret
      exact ⟨congrArg (fun x => Ending.returned (Value.string x)) HF.out, B4⟩

end Go.Proofs.Ytmdpilpghcapbaa
