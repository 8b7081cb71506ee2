/- The law's own helper: is a text what bytes are decoded as without the last one, two or three? -/
import Derived.Test.YtnchaidmbdalbaaDoorEnd
namespace Go.Proofs.YtnchaidmbdalbaaDoor
open Go.RowKit

theorem extract_take (l : List UInt8) (n : Nat) : (⟨l.toArray⟩ : ByteArray).extract 0 n = ⟨(l.take n).toArray⟩ := by
  apply ByteArray.ext
  apply Array.toList_inj.1
  rw [Lib.extract_data]
  simp

set_option maxRecDepth 100000 in
set_option maxHeartbeats 2000000 in
theorem behind_any (t l : List UInt8) (k0 : Nat) (h1 : 1 ≤ k0) (h3 : k0 ≤ 3) (hk : k0 ≤ l.length) (ht : t = dec (l.take (l.length - k0))) (hl : l.length ≤ 1099511627776) (w : World) :
    Calls Tryd.prog 20 #[.string ⟨t.toArray⟩, .string ⟨l.toArray⟩] w fun e w' => e = .returned (.bool true) ∧ Below w.heap.size w w' := by
  have HT := Lib.hid ht
  clear ht
  go_enter Tryd.func20, Tryd.ntmps20
  go_wp2
  go_loopw [5] (fun i wr => ∃ j : Nat, i = .int .i64 j ∧ 1 ≤ j ∧ j ≤ k0 ∧ Below w.heap.size w wr) (fun i _ => 4 - (intOf i).toNat)
  case atStart => exact ⟨1, rfl, by omega, h1, Below.refl _ _⟩
  case round =>
    obtain ⟨j, rfl, hj1, hj2, hbw⟩ := hrel
    have hd := refDecode_any ((⟨l.toArray⟩ : ByteArray).extract 0 (l.length - j))
    rw [extract_take] at hd
    simp only at hd
    have hsz : (⟨(l.take (l.length - j)).toArray⟩ : ByteArray).size ≤ 1099511627776 := by rw [bsize, List.length_take]; omega
    have hext := extract_take l (l.length - j)
    have g3 : (j : Int) ≤ 3 := by omega
    have gl : (j : Int) ≤ (l.length : Int) := by omega
    have HD := Lib.hid hd
    have HS := Lib.hid hsz
    clear hd hsz
    by_cases he : t = dec (l.take (l.length - j))
    · have g : (t == dec (l.take (l.length - j))) = true := by rw [he]; simp
      clear he
      go_wp2_with fail
      refine (HD.out wr HS.out).mono ?_
      rintro e w1 ⟨rfl, hb⟩
      have hB := hbw.trans (hb.mono hbw.size)
      clear hbw hb
      go_wp2
      go_ret
      exact ⟨rfl, hB⟩
    · have g : (t == dec (l.take (l.length - j))) = false := by simpa using he
      have hj3 : j + 1 ≤ k0 := by
        rcases Nat.lt_or_ge j k0 with h | h
        · exact h
        · exact absurd (by rw [show j = k0 by omega]; exact HT.out) he
      clear he
      go_wp2_with fail
      refine (HD.out wr HS.out).mono ?_
      rintro e w1 ⟨rfl, hb⟩
      have hB := hbw.trans (hb.mono hbw.size)
      clear hbw hb
      go_wp2
      go_roundw
      case rel => exact ⟨j + 1, by go_num, by omega, hj3, hB⟩
      case measure => simp [intOf]; omega

end Go.Proofs.YtnchaidmbdalbaaDoor
