/- The law of texts without &. -/
import Derived.Test.YtccmmeehiafbiaaDoorEntJ
import Derived.IntWalk
namespace Go.Proofs.YtccmmeehiafbiaaDoor
open Go.RowKit

set_option maxRecDepth 100000 in
set_option maxHeartbeats 8000000 in
theorem plain_law (a b : ByteArray) (w : World) (hw : Low w) : Calls Tryd.prog 6 #[.string a, .string b] w fun e w' => e = .returned (.bool true) ∧ Below w.heap.size w w' := by
  have z0 : (0 : Int) ≤ (a.size : Int) := by omega
  by_cases hl : a.size ≤ 2000 ∧ b.size ≤ 2000
  · obtain ⟨hsa, hsb⟩ := hl
    have z : (a.size : Int) ≤ 2000 := by omega
    have z' : (b.size : Int) ≤ 2000 := by omega
    have C1 := signs_hid
    have HW := Lib.hid hw
    clear hw
    go_enter Tryd.func6, Tryd.ntmps6
    go_wp2
    go_loop [5] (fun i => ∃ k : Nat, k ≤ a.size ∧ i = .int .i64 k ∧ Hid (38 ∉ a.data.toList.take k)) (fun i => a.size - (intOf i).toNat)
    case atStart => exact ⟨0, Nat.zero_le _, rfl, Lib.hid (by simp)⟩
    case round =>
      obtain ⟨k, hk, rfl, HS⟩ := hrel
      by_cases hlt : k < a.size
      · have hkl : k < a.data.toList.length := by rw [lsize]; exact hlt
        obtain ⟨c, hc⟩ : ∃ c, a.data.toList[k]? = some c := ⟨_, List.getElem?_eq_getElem hkl⟩
        have hg : a.data.toList[k] = c := by rw [List.getElem?_eq_getElem hkl] at hc; exact Option.some.inj hc
        have i0 := index_at a k c hc
        by_cases h38 : c = 38
        · subst h38
          have i0 : ∀ W, (Instr.index 9 (.string a) (.int .i64 (k : Int))).run Tryd.prog W = .ok (.int .u8 38) W := i0
          clear hc hg hkl HS
          go_wp2_with fail
          (with_reducible refine (C1.out _ HW.out).mono ?_)
          rintro e w1 ⟨rfl, b1⟩
          go_wp2
          go_ret
          exact ⟨rfl, b1⟩
        · have g1 : ((c.toNat : Int) == 38) = false := by rw [beq_eq_false_iff_ne]; exact fun h => h38 (byte_is (d := 38) h)
          have HN : Hid (38 ∉ a.data.toList.take (k + 1)) := Lib.hid (by
            rw [List.take_succ_eq_append_getElem hkl, hg]
            simp only [List.mem_append, List.mem_singleton, not_or]
            exact ⟨HS.out, fun e => h38 e.symm⟩)
          clear hc hg hkl HS h38
          go_wp2
          go_round
          case rel => exact ⟨k + 1, by omega, by go_num, HN⟩
          case measure => simp [intOf]; omega
      · obtain rfl : k = a.size := by omega
        have hno : 38 ∉ a.data.toList := by have := HS.out; rwa [← lsize, List.take_length] at this
        obtain ⟨AB, hAB⟩ := text_of (a.data.toList ++ b.data.toList)
        have hABs : AB.size = a.size + b.size := by rw [← lsize, hAB, List.length_append, lsize, lsize]
        have a1 := add_to a b AB hAB (by omega)
        obtain ⟨T, hT⟩ := text_of (decT 0 b.data.toList).1
        obtain ⟨p, hp⟩ : ∃ p, (decT 0 b.data.toList).2 = p := ⟨_, rfl⟩
        have hd : decT 0 b.data.toList = (T.data.toList, p) := by rw [hT, ← hp]
        have hTs : T.size ≤ 2000 := by rw [← lsize, hT]; have := (decT_len 0 b.data.toList).1; rw [lsize] at this; omega
        have hpl : p.length ≤ 2000 := by rw [← hp]; have := (decT_len 0 b.data.toList).2; rw [lsize] at this; omega
        obtain ⟨U, hU⟩ := text_of (a.data.toList ++ T.data.toList)
        have a2 := add_to a T U hU (by omega)
        have hda : decT 0 a.data.toList = (a.data.toList, []) := dec_self _ 0 hno
        have hdu : decT 0 AB.data.toList = (U.data.toList, p.map (· + a.size)) := by
          rw [hAB, dec_ahead _ _ 0 hno, lsize, decT_shift 0 a.size, hd, hU]
        have C2 := decode_hid a a [] hda (by omega)
        have C3 := decode_hid b T p hd (by omega)
        have C4 := decode_hid AB U (p.map (· + a.size)) hdu (by omega)
        obtain ⟨q, hq⟩ : ∃ q, p.map (· + a.size) = q := ⟨_, rfl⟩
        have hql : q.length = p.length := by rw [← hq, List.length_map]
        have HQ : Hid (∀ i (h : i < p.length), ∃ h2 : i < q.length, q[i] = p[i] + a.size) := Lib.hid (fun i h => ⟨by omega, by subst hq; simp⟩)
        rw [hq] at C4
        have g := self_eq a
        have g2 := self_eq U
        have gn : (a.toList != a.toList) = false := by simp
        have gn2 : (U.toList != U.toList) = false := by simp
        have HPL : Hid (∀ i ∈ p, i ≤ 2000) := Lib.hid (by
          intro i hi
          rw [← hp] at hi
          have := decT_place 0 b.data.toList i hi
          rw [lsize] at this
          omega)
        clear HS hno hAB hABs hT hp hd hTs hU hda hdu hq
        go_wp2_with fail
        (with_reducible refine (C2.out _ HW.out).mono ?_)
        rintro e w1 ⟨x1, k1, rfl, -, b1⟩
        go_wp2_with fail
        (with_reducible refine (C3.out _ (HW.out.below b1)).mono ?_)
        rintro e w2 ⟨x2, k2, rfl, f2, b⟩
        have b2 := b1.trans (b.mono b1.size)
        clear b
        go_wp2_with fail
        (with_reducible refine (C4.out _ (HW.out.below b2)).mono ?_)
        rintro e w3 ⟨x3, k3, rfl, f3, b⟩
        have b3 := b2.trans (b.mono b2.size)
        have f2 := f2.below b
        clear b
        have HW3 := Lib.hid (HW.out.below b3)
        have HQL := Lib.hid hql
        have gl : ((q.length : Int) != (p.length : Int)) = false := by rw [hql]; simp
        have hp0 : (0 : Int) ≤ (p.length : Int) := by omega
        clear hql
        rcases f2 with ⟨_, rfl⟩ | ⟨B, off, cap, e2, hc2⟩
        · clear f3
          obtain rfl : q = [] := List.length_eq_zero_iff.1 (by simpa using HQL.out)
          go_wp2
          refine wp_loop_rounds 1 ?_
          rw [rounds_succ]
          go_wp2_with fail
          (with_reducible refine (C1.out _ HW3.out).mono ?_)
          rintro e w4 ⟨rfl, b⟩
          have b4 := b3.trans (b.mono b3.size)
          go_wp2
          go_ret
          exact ⟨rfl, b4⟩
        injection e2 with e2 _ e3
        subst e2 e3
        rcases f3 with ⟨_, rfl⟩ | ⟨B', off', cap', e2, hc3⟩
        · have : p.length = 0 := by have := HQL.out; simpa using this.symm
          obtain rfl : p = [] := List.length_eq_zero_iff.1 this
          clear hc2 this
          go_wp2
          refine wp_loop_rounds 1 ?_
          rw [rounds_succ]
          go_wp2_with fail
          (with_reducible refine (C1.out _ HW3.out).mono ?_)
          rintro e w4 ⟨rfl, b⟩
          have b4 := b3.trans (b.mono b3.size)
          go_wp2
          go_ret
          exact ⟨rfl, b4⟩
        injection e2 with e2 _ e3
        subst e2 e3
        have HC2 := Lib.hid hc2
        have HC3 := Lib.hid hc3
        clear hc2 hc3
        go_wp2
        go_loopw [12] (fun i wr => ∃ k n : Nat, i = .int .i64 k ∧ k ≤ p.length ∧ wr = w3.drewN n) (fun i _ => p.length - (intOf i).toNat)
        case atStart => exact ⟨0, 0, rfl, Nat.zero_le _, rfl⟩
        case round =>
          obtain ⟨k, n, rfl, hk, rfl⟩ := hrel
          by_cases hlt : k < p.length
          · obtain ⟨hq1, hq2⟩ := HQ.out k hlt
            obtain ⟨c1, c2⟩ := HC2.out k hlt
            obtain ⟨d1, d2⟩ := HC3.out k hq1
            rw [hq2] at d2
            have hix : (k : Int) < (p.length : Int) := by omega
            have hix2 : (k : Int) < (q.length : Int) := by omega
            have hk0 : (0 : Int) ≤ (k : Int) := by omega
            obtain ⟨x, hx⟩ : ∃ x : Int, ((p[k] : Nat) : Int) = x := ⟨_, rfl⟩
            have hx2 : (((p[k] + a.size : Nat)) : Int) = x + (a.size : Int) := by rw [← hx]; omega
            rw [hx] at c2
            rw [hx2] at d2
            have hxb := HPL.out p[k] (List.getElem_mem hlt)
            have hx0 : 0 ≤ x := by omega
            have hx1 : x ≤ 2000 := by omega
            have hs : x + (a.size : Int) - (a.size : Int) = x := by omega
            have hwr : IntKind.i64.wrap (x + (a.size : Int) - (a.size : Int)) = x := by rw [hs]; exact IntWalk.i64_in _ (by omega)
            have gx : (x != x) = false := by simp
            clear hx hx2 hxb hq2
            go_wp2_with fail
            go_quiet (fail)
            go_wp2
            go_roundw
            case rel => exact ⟨k + 1, n + nq, by go_num, by omega, rfl⟩
            case measure => simp [intOf]; omega
          · obtain rfl : k = p.length := by omega
            have HW4 := Lib.hid (HW.out.below (belowN b3 n))
            go_wp2_with fail
            (with_reducible refine (C1.out _ HW4.out).mono ?_)
            rintro e w4 ⟨rfl, b⟩
            have b4 := (belowN b3 n).trans (b.mono (by simpa using b3.size))
            go_wp2
            go_ret
            exact ⟨rfl, b4⟩
  · by_cases h1 : a.size ≤ 2000
    · have z1 : (a.size : Int) ≤ 2000 := by omega
      have z2 : (2000 : Int) < (b.size : Int) := by omega
      clear hl hw h1
      go_enter Tryd.func6, Tryd.ntmps6
      go_wp2
      go_ret
      exact ⟨rfl, Below.refl _ _⟩
    · have z2 : (2000 : Int) < (a.size : Int) := by omega
      clear hl hw h1
      go_enter Tryd.func6, Tryd.ntmps6
      go_wp2
      go_ret
      exact ⟨rfl, Below.refl _ _⟩

end Go.Proofs.YtccmmeehiafbiaaDoor
