/- A text encoded: the program's Encode. -/
import Derived.Test.YtccmmeehiafbiaaDoorEntB
import Derived.Lib.AppendStr
namespace Go.Proofs.YtccmmeehiafbiaaDoor
open Go.RowKit

theorem slice_one (L U : ByteArray) (k : Nat) (hk : k < L.size) (h : U.data.toList = [L.data.toList[k]'(by rw [lsize]; exact hk)]) : ∀ W, (Instr.slice 9 (.string L) (some (.int .i64 (k : Int))) (some (.int .i64 ((k : Int) + 1))) none).run Tryd.prog W = .ok (.string U) W := by
  have e : U.data.toList = (L.data.toList.drop k).take (k + 1 - k) := by
    rw [h, List.drop_eq_getElem_cons (show k < L.data.toList.length by rw [lsize]; exact hk), show k + 1 - k = 1 by omega]
    rfl
  have := slice_mid L U k (k + 1) (by omega) hk e
  rw [show ((k + 1 : Nat) : Int) = (k : Int) + 1 by omega] at this
  exact this
theorem encT_step (l : List UInt8) (k : Nat) (h : k < l.length) : encT (l.take (k + 1)) = encT (l.take k) ++ encB l[k] := by
  rw [List.take_succ_eq_append_getElem h, encT_append, encT_one]
def notJ (c : UInt8) (j : Nat) : Prop := (0 < j → c ≠ 38) ∧ (1 < j → c ≠ 60) ∧ (2 < j → c ≠ 62) ∧ (3 < j → c ≠ 34) ∧ (4 < j → c ≠ 39)
theorem notJ_all {c : UInt8} {j : Nat} (h : notJ c j) (hj : 5 ≤ j) : encB c = [c] := encB_other (h.1 (by omega)) (h.2.1 (by omega)) (h.2.2.1 (by omega)) (h.2.2.2.1 (by omega)) (h.2.2.2.2 (by omega))
theorem notJ_more {c : UInt8} {j : Nat} (h : notJ c j) (hj : 5 ≤ j) : notJ c (j + 1) := ⟨fun _ => h.1 (by omega), fun _ => h.2.1 (by omega), fun _ => h.2.2.1 (by omega), fun _ => h.2.2.2.1 (by omega), fun _ => h.2.2.2.2 (by omega)⟩

set_option maxRecDepth 100000 in
set_option maxHeartbeats 16000000 in
theorem encode_any (s : ByteArray) (hs : s.size ≤ 1000000) (w : World) (hlow : SignsIn w) :
    Calls Tryd.prog 15 #[.string s] w fun e w' => e = .returned (.string ⟨(encT s.data.toList).toArray⟩) ∧ Below w.heap.size w w' := by
  obtain ⟨i0, hi, hz0, hz1, hz2⟩ := info_parts Tinfo5
  have HLow := Lib.hid hlow
  clear hlow
  go_enter Tryd.func15, Tryd.ntmps15
  go_wp2
  go_step3
  go_wp2_with (at_make; refine wpList_make_own _ rfl _ _ 35 rfl w.heap.size 5 i0 (.int .u8 0) 1 Tryd.underlying35 hi hz0 hz1 .i64 .i64 _ s.size rfl rfl rfl (by rw [hz2]; omega) (by unfold maxLen; omega) (Nat.le_refl _) ?_; intro w0 hown0 hgrow0)
  have hbw0 : Below w.heap.size w w0 := Below.grown (Below.refl _ _) hgrow0 (Nat.le_refl _) (fun j hj => by cases hj)
  go_step3
  go_wp2
  go_loopw [3, 12] (fun v i wr => ∃ k : Nat, k ≤ s.size ∧ i = .int .i64 k ∧ wr.ownsRow w.heap.size 5 1 v (encT (s.data.toList.take k)).length (Lib.byteCells (encT (s.data.toList.take k))) ∧ Below w.heap.size w wr) (fun _ i _ => s.size - (intOf i).toNat)
  case atStart => exact ⟨0, Nat.zero_le _, rfl, hown0, hbw0⟩
  case round =>
    clear hown0 hgrow0 hbw0
    obtain ⟨k, hk, rfl, hown, hb⟩ := hrel
    by_cases hlt : k < s.size
    · have hkl : k < s.data.toList.length := by rw [lsize]; exact hlt
      have hst := encT_step s.data.toList k hkl
      have hlen := (encT_len (s.data.toList.take k)).2
      rw [List.length_take] at hlen
      have hg : s.data.toList[k] = s[k] := rfl
      rw [hg] at hst
      have hU0 : ∃ U : ByteArray, U.data.toList = [s.data.toList[k]'hkl] := ⟨⟨#[s.data.toList[k]'hkl]⟩, rfl⟩
      obtain ⟨U, hU⟩ := hU0
      have s1 := slice_one s U k hlt hU
      rw [hg] at hU
      obtain ⟨c, hc⟩ : ∃ c, s[k] = c := ⟨_, rfl⟩
      rw [hc] at hU hst
      have HST := Lib.hid hst
      have HC := Lib.hid hc
      obtain ⟨A, hA⟩ : ∃ A, encT (s.data.toList.take k) = A := ⟨_, rfl⟩
      rw [hA] at hown hlen
      rw [hA] at hst
      have HE : Hid (encT (s.data.toList.take (k + 1)) = A ++ encB c) := Lib.hid hst
      have HR := (HLow.out.below hb).range
      have HG := Lib.hid HR
      have hsz := hb.size
      clear hst HST hA hg HR hc
      obtain ⟨wm, rfl⟩ : ∃ wm : World, wm = wr := ⟨_, rfl⟩
      go_wp2_with (refine wpList_load_mid (by rfl) 43 _ (by rfl) 0 0 (by rfl) SL _ HG.out Tryd.underlying43 (by rfl) (by kernel_rfl) ?_)
      generalize hTA : Value.agg SL.toArray = TA
      have HIX : Hid (TA = .agg SL.toArray) := Lib.hid hTA.symm
      clear hTA
      go_loopw [3, 16] (fun v i wr => ∃ j : Nat, j ≤ 10 ∧ i = .int .i64 j ∧ v = u3 ∧ Hid (notJ c j) ∧ Below wm.heap.size wm wr) (fun _ i _ => 10 - (intOf i).toNat)
      case atStart => exact ⟨0, by decide, rfl, rfl, Lib.hid ⟨fun h => by omega, fun h => by omega, fun h => by omega, fun h => by omega, fun h => by omega⟩, Below.refl _ _⟩
      case round =>
        obtain ⟨j, hj, rfl, rfl, HN, hbj⟩ := hrel
        have hown2 := ownsRow_below hown hbj
        have hb2 := hb.trans (hbj.mono hsz)
        clear hown hb HG
        obtain rfl | rfl | rfl | rfl | rfl | rfl | rfl | rfl | rfl | rfl | rfl : j = 0 ∨ j = 1 ∨ j = 2 ∨ j = 3 ∨ j = 4 ∨ j = 5 ∨ j = 6 ∨ j = 7 ∨ j = 8 ∨ j = 9 ∨ j = 10 := by omega
        · have ix := sidx0 HIX.out
          have g0 := lit_text U [38]
          rw [hU] at g0
          by_cases h : c = 38
          · have g : ([38] == U.toList) = true := by rw [g0, h]; rfl
            clear g0
            have hfull : ((⟨#[38]⟩ : ByteArray) ++ ⟨#[97, 109, 112]⟩ ++ ⟨#[59]⟩) = ⟨#[38, 97, 109, 112, 59]⟩ := by decide
            have HFull := Lib.hid hfull
            clear hfull
            have HE2 : Hid (encT (s.data.toList.take (k + 1)) = A ++ [38, 97, 109, 112, 59]) := Lib.hid (by rw [HE.out, h]; rfl)
            clear h HN HE hU
            go_wp2_with fail
            go_quiet (fail)
            go_wp2_with (at_builtin; refine Lib.wpList_append_own_string _ rfl _ _ 35 9 rfl w.heap.size 5 i0 Tryd.underlying35 Tryd.underlying9 hi hz0 hz1 hz2 _ _ _ rfl (ownsRow_below (hown2.alloc _) (belowN (Below.refl _ _) _)) (⟨#[38]⟩ ++ ⟨#[97, 109, 112]⟩ ++ ⟨#[59]⟩) rfl (by rw [HFull.out]; show A.length + 5 ≤ _; unfold maxLen; omega) (by rw [HFull.out]; show A.length + 5 ≤ _; omega) (by have := hb2.size; simp; omega) ?_; intro v' w3 hown3 hgrow3 hnil3)
            have hb3 : Below w.heap.size w w3 := Below.grown (belowN (hb2.alloc hb2.size _) _) hgrow3 (by have := hb2.size; simp; omega) (fun j hj => (hown2.lt _ hj).1)
            have hown4 : w3.ownsRow w.heap.size 5 1 v' (A ++ [38, 97, 109, 112, 59]).length (Lib.byteCells (A ++ [38, 97, 109, 112, 59])) := by
              rw [HFull.out] at hown3
              rw [byteCells_append, List.length_append]; exact hown3
            clear hown3 hgrow3 hnil3
            go_roundw
            case rel => exact ⟨k + 1, by omega, by go_num, by rw [HE2.out]; exact hown4, hb3⟩
            case measure => simp [intOf]; omega
          · have g : ([38] == U.toList) = false := by rw [g0]; exact decide_eq_false (fun e => h (by injection e))
            clear g0
            have HN2 : Hid (notJ c 1) := Lib.hid ⟨fun _ => h, fun e => absurd e (by decide), fun e => absurd e (by decide), fun e => absurd e (by decide), fun e => absurd e (by decide)⟩
            clear h HN HE hU
            go_wp2_with fail
            go_quiet (fail)
            go_wp2
            go_roundw
            case rel => exact ⟨1, by decide, rfl, rfl, HN2, belowN (hbj.alloc hbj.size _) _⟩
            case measure => decide
        · have ix := sidx1 HIX.out
          have g0 := lit_text U [60]
          rw [hU] at g0
          by_cases h : c = 60
          · have g : ([60] == U.toList) = true := by rw [g0, h]; rfl
            clear g0
            have hfull : ((⟨#[38]⟩ : ByteArray) ++ ⟨#[108, 116]⟩ ++ ⟨#[59]⟩) = ⟨#[38, 108, 116, 59]⟩ := by decide
            have HFull := Lib.hid hfull
            clear hfull
            have HE2 : Hid (encT (s.data.toList.take (k + 1)) = A ++ [38, 108, 116, 59]) := Lib.hid (by rw [HE.out, h]; rfl)
            clear h HN HE hU
            go_wp2_with fail
            go_quiet (fail)
            go_wp2_with (at_builtin; refine Lib.wpList_append_own_string _ rfl _ _ 35 9 rfl w.heap.size 5 i0 Tryd.underlying35 Tryd.underlying9 hi hz0 hz1 hz2 _ _ _ rfl (ownsRow_below (hown2.alloc _) (belowN (Below.refl _ _) _)) (⟨#[38]⟩ ++ ⟨#[108, 116]⟩ ++ ⟨#[59]⟩) rfl (by rw [HFull.out]; show A.length + 4 ≤ _; unfold maxLen; omega) (by rw [HFull.out]; show A.length + 4 ≤ _; omega) (by have := hb2.size; simp; omega) ?_; intro v' w3 hown3 hgrow3 hnil3)
            have hb3 : Below w.heap.size w w3 := Below.grown (belowN (hb2.alloc hb2.size _) _) hgrow3 (by have := hb2.size; simp; omega) (fun j hj => (hown2.lt _ hj).1)
            have hown4 : w3.ownsRow w.heap.size 5 1 v' (A ++ [38, 108, 116, 59]).length (Lib.byteCells (A ++ [38, 108, 116, 59])) := by
              rw [HFull.out] at hown3
              rw [byteCells_append, List.length_append]; exact hown3
            clear hown3 hgrow3 hnil3
            go_roundw
            case rel => exact ⟨k + 1, by omega, by go_num, by rw [HE2.out]; exact hown4, hb3⟩
            case measure => simp [intOf]; omega
          · have g : ([60] == U.toList) = false := by rw [g0]; exact decide_eq_false (fun e => h (by injection e))
            clear g0
            have HN2 : Hid (notJ c 2) := Lib.hid ⟨fun _ => HN.out.1 (by decide), fun _ => h, fun e => absurd e (by decide), fun e => absurd e (by decide), fun e => absurd e (by decide)⟩
            clear h HN HE hU
            go_wp2_with fail
            go_quiet (fail)
            go_wp2
            go_roundw
            case rel => exact ⟨2, by decide, rfl, rfl, HN2, belowN (hbj.alloc hbj.size _) _⟩
            case measure => decide
        · have ix := sidx2 HIX.out
          have g0 := lit_text U [62]
          rw [hU] at g0
          by_cases h : c = 62
          · have g : ([62] == U.toList) = true := by rw [g0, h]; rfl
            clear g0
            have hfull : ((⟨#[38]⟩ : ByteArray) ++ ⟨#[103, 116]⟩ ++ ⟨#[59]⟩) = ⟨#[38, 103, 116, 59]⟩ := by decide
            have HFull := Lib.hid hfull
            clear hfull
            have HE2 : Hid (encT (s.data.toList.take (k + 1)) = A ++ [38, 103, 116, 59]) := Lib.hid (by rw [HE.out, h]; rfl)
            clear h HN HE hU
            go_wp2_with fail
            go_quiet (fail)
            go_wp2_with (at_builtin; refine Lib.wpList_append_own_string _ rfl _ _ 35 9 rfl w.heap.size 5 i0 Tryd.underlying35 Tryd.underlying9 hi hz0 hz1 hz2 _ _ _ rfl (ownsRow_below (hown2.alloc _) (belowN (Below.refl _ _) _)) (⟨#[38]⟩ ++ ⟨#[103, 116]⟩ ++ ⟨#[59]⟩) rfl (by rw [HFull.out]; show A.length + 4 ≤ _; unfold maxLen; omega) (by rw [HFull.out]; show A.length + 4 ≤ _; omega) (by have := hb2.size; simp; omega) ?_; intro v' w3 hown3 hgrow3 hnil3)
            have hb3 : Below w.heap.size w w3 := Below.grown (belowN (hb2.alloc hb2.size _) _) hgrow3 (by have := hb2.size; simp; omega) (fun j hj => (hown2.lt _ hj).1)
            have hown4 : w3.ownsRow w.heap.size 5 1 v' (A ++ [38, 103, 116, 59]).length (Lib.byteCells (A ++ [38, 103, 116, 59])) := by
              rw [HFull.out] at hown3
              rw [byteCells_append, List.length_append]; exact hown3
            clear hown3 hgrow3 hnil3
            go_roundw
            case rel => exact ⟨k + 1, by omega, by go_num, by rw [HE2.out]; exact hown4, hb3⟩
            case measure => simp [intOf]; omega
          · have g : ([62] == U.toList) = false := by rw [g0]; exact decide_eq_false (fun e => h (by injection e))
            clear g0
            have HN2 : Hid (notJ c 3) := Lib.hid ⟨fun _ => HN.out.1 (by decide), fun _ => HN.out.2.1 (by decide), fun _ => h, fun e => absurd e (by decide), fun e => absurd e (by decide)⟩
            clear h HN HE hU
            go_wp2_with fail
            go_quiet (fail)
            go_wp2
            go_roundw
            case rel => exact ⟨3, by decide, rfl, rfl, HN2, belowN (hbj.alloc hbj.size _) _⟩
            case measure => decide
        · have ix := sidx3 HIX.out
          have g0 := lit_text U [34]
          rw [hU] at g0
          by_cases h : c = 34
          · have g : ([34] == U.toList) = true := by rw [g0, h]; rfl
            clear g0
            have hfull : ((⟨#[38]⟩ : ByteArray) ++ ⟨#[113, 117, 111, 116]⟩ ++ ⟨#[59]⟩) = ⟨#[38, 113, 117, 111, 116, 59]⟩ := by decide
            have HFull := Lib.hid hfull
            clear hfull
            have HE2 : Hid (encT (s.data.toList.take (k + 1)) = A ++ [38, 113, 117, 111, 116, 59]) := Lib.hid (by rw [HE.out, h]; rfl)
            clear h HN HE hU
            go_wp2_with fail
            go_quiet (fail)
            go_wp2_with (at_builtin; refine Lib.wpList_append_own_string _ rfl _ _ 35 9 rfl w.heap.size 5 i0 Tryd.underlying35 Tryd.underlying9 hi hz0 hz1 hz2 _ _ _ rfl (ownsRow_below (hown2.alloc _) (belowN (Below.refl _ _) _)) (⟨#[38]⟩ ++ ⟨#[113, 117, 111, 116]⟩ ++ ⟨#[59]⟩) rfl (by rw [HFull.out]; show A.length + 6 ≤ _; unfold maxLen; omega) (by rw [HFull.out]; show A.length + 6 ≤ _; omega) (by have := hb2.size; simp; omega) ?_; intro v' w3 hown3 hgrow3 hnil3)
            have hb3 : Below w.heap.size w w3 := Below.grown (belowN (hb2.alloc hb2.size _) _) hgrow3 (by have := hb2.size; simp; omega) (fun j hj => (hown2.lt _ hj).1)
            have hown4 : w3.ownsRow w.heap.size 5 1 v' (A ++ [38, 113, 117, 111, 116, 59]).length (Lib.byteCells (A ++ [38, 113, 117, 111, 116, 59])) := by
              rw [HFull.out] at hown3
              rw [byteCells_append, List.length_append]; exact hown3
            clear hown3 hgrow3 hnil3
            go_roundw
            case rel => exact ⟨k + 1, by omega, by go_num, by rw [HE2.out]; exact hown4, hb3⟩
            case measure => simp [intOf]; omega
          · have g : ([34] == U.toList) = false := by rw [g0]; exact decide_eq_false (fun e => h (by injection e))
            clear g0
            have HN2 : Hid (notJ c 4) := Lib.hid ⟨fun _ => HN.out.1 (by decide), fun _ => HN.out.2.1 (by decide), fun _ => HN.out.2.2.1 (by decide), fun _ => h, fun e => absurd e (by decide)⟩
            clear h HN HE hU
            go_wp2_with fail
            go_quiet (fail)
            go_wp2
            go_roundw
            case rel => exact ⟨4, by decide, rfl, rfl, HN2, belowN (hbj.alloc hbj.size _) _⟩
            case measure => decide
        · have ix := sidx4 HIX.out
          have g0 := lit_text U [39]
          rw [hU] at g0
          by_cases h : c = 39
          · have g : ([39] == U.toList) = true := by rw [g0, h]; rfl
            clear g0
            have hfull : ((⟨#[38]⟩ : ByteArray) ++ ⟨#[97, 112, 111, 115]⟩ ++ ⟨#[59]⟩) = ⟨#[38, 97, 112, 111, 115, 59]⟩ := by decide
            have HFull := Lib.hid hfull
            clear hfull
            have HE2 : Hid (encT (s.data.toList.take (k + 1)) = A ++ [38, 97, 112, 111, 115, 59]) := Lib.hid (by rw [HE.out, h]; rfl)
            clear h HN HE hU
            go_wp2_with fail
            go_quiet (fail)
            go_wp2_with (at_builtin; refine Lib.wpList_append_own_string _ rfl _ _ 35 9 rfl w.heap.size 5 i0 Tryd.underlying35 Tryd.underlying9 hi hz0 hz1 hz2 _ _ _ rfl (ownsRow_below (hown2.alloc _) (belowN (Below.refl _ _) _)) (⟨#[38]⟩ ++ ⟨#[97, 112, 111, 115]⟩ ++ ⟨#[59]⟩) rfl (by rw [HFull.out]; show A.length + 6 ≤ _; unfold maxLen; omega) (by rw [HFull.out]; show A.length + 6 ≤ _; omega) (by have := hb2.size; simp; omega) ?_; intro v' w3 hown3 hgrow3 hnil3)
            have hb3 : Below w.heap.size w w3 := Below.grown (belowN (hb2.alloc hb2.size _) _) hgrow3 (by have := hb2.size; simp; omega) (fun j hj => (hown2.lt _ hj).1)
            have hown4 : w3.ownsRow w.heap.size 5 1 v' (A ++ [38, 97, 112, 111, 115, 59]).length (Lib.byteCells (A ++ [38, 97, 112, 111, 115, 59])) := by
              rw [HFull.out] at hown3
              rw [byteCells_append, List.length_append]; exact hown3
            clear hown3 hgrow3 hnil3
            go_roundw
            case rel => exact ⟨k + 1, by omega, by go_num, by rw [HE2.out]; exact hown4, hb3⟩
            case measure => simp [intOf]; omega
          · have g : ([39] == U.toList) = false := by rw [g0]; exact decide_eq_false (fun e => h (by injection e))
            clear g0
            have HN2 : Hid (notJ c 5) := Lib.hid ⟨fun _ => HN.out.1 (by decide), fun _ => HN.out.2.1 (by decide), fun _ => HN.out.2.2.1 (by decide), fun _ => HN.out.2.2.2.1 (by decide), fun _ => h⟩
            clear h HN HE hU
            go_wp2_with fail
            go_quiet (fail)
            go_wp2
            go_roundw
            case rel => exact ⟨5, by decide, rfl, rfl, HN2, belowN (hbj.alloc hbj.size _) _⟩
            case measure => decide
        · have ix := sidx5 HIX.out
          have HN2 : Hid (notJ c 6) := Lib.hid (notJ_more HN.out (by decide))
          clear HN HE hU
          go_wp2_with fail
          go_quiet (fail)
          go_wp2
          go_roundw
          case rel => exact ⟨6, by decide, rfl, rfl, HN2, belowN (hbj.alloc hbj.size _) _⟩
          case measure => decide
        · have ix := sidx6 HIX.out
          have HN2 : Hid (notJ c 7) := Lib.hid (notJ_more HN.out (by decide))
          clear HN HE hU
          go_wp2_with fail
          go_quiet (fail)
          go_wp2
          go_roundw
          case rel => exact ⟨7, by decide, rfl, rfl, HN2, belowN (hbj.alloc hbj.size _) _⟩
          case measure => decide
        · have ix := sidx7 HIX.out
          have HN2 : Hid (notJ c 8) := Lib.hid (notJ_more HN.out (by decide))
          clear HN HE hU
          go_wp2_with fail
          go_quiet (fail)
          go_wp2
          go_roundw
          case rel => exact ⟨8, by decide, rfl, rfl, HN2, belowN (hbj.alloc hbj.size _) _⟩
          case measure => decide
        · have ix := sidx8 HIX.out
          have HN2 : Hid (notJ c 9) := Lib.hid (notJ_more HN.out (by decide))
          clear HN HE hU
          go_wp2_with fail
          go_quiet (fail)
          go_wp2
          go_roundw
          case rel => exact ⟨9, by decide, rfl, rfl, HN2, belowN (hbj.alloc hbj.size _) _⟩
          case measure => decide
        · have ix := sidx9 HIX.out
          have HN2 : Hid (notJ c 10) := Lib.hid (notJ_more HN.out (by decide))
          clear HN HE hU
          go_wp2_with fail
          go_quiet (fail)
          go_wp2
          go_roundw
          case rel => exact ⟨10, by decide, rfl, rfl, HN2, belowN (hbj.alloc hbj.size _) _⟩
          case measure => decide
        · have HE2 : Hid (encT (s.data.toList.take (k + 1)) = A ++ [c]) := Lib.hid (by rw [HE.out, notJ_all HN.out (by decide)])
          clear HN HE hU
          have hcc : s[k] = c := HC.out
          go_wp2_with (at_builtin; refine wpList_append_own _ rfl _ _ 35 rfl w.heap.size 5 i0 (.int .u8 0) 1 1 Tryd.underlying35 hi hz0 hz1 hz2 rfl (by decide) _ _ _ rfl (hown2.alloc _) ⟨wr.heap.size, 0, none⟩ 1 1 [.int .u8 (c.toNat : Int)] rfl rfl (cell_one_new _ _ _) (fun x hx => by simp at hx; subst hx; rfl) (by unfold maxLen; omega) (by omega) (by have := hb2.size; simp; omega) ?_; intro v' w3 hown3 hgrow3 hnil3)
          have hb3 : Below w.heap.size w w3 := Below.grown (hb2.alloc hb2.size _) hgrow3 (by have := hb2.size; simp; omega) (fun j hj => (hown2.lt _ hj).1)
          have hown4 : w3.ownsRow w.heap.size 5 1 v' (A ++ [c]).length (Lib.byteCells (A ++ [c])) := by rw [byteCells_append, byteCells_one, List.length_append]; exact hown3
          clear hown3 hgrow3 hnil3
          go_roundw
          case rel => exact ⟨k + 1, by omega, by go_num, by rw [HE2.out]; exact hown4, hb3⟩
          case measure => simp [intOf]; omega
    · obtain rfl : k = s.size := by omega
      rw [show s.data.toList.take s.size = s.data.toList by rw [← lsize, List.take_length]] at hown
      have hconv := conv_row hown
      go_wp2
      rw [Exit.noGoto_ret]
      go_ret
      exact ⟨rfl, hb⟩
theorem encode_hid (s T : ByteArray) (hT : T.data.toList = encT s.data.toList) (hs : s.size ≤ 1000000) : Hid (∀ W, SignsIn W → Calls Tryd.prog 15 #[.string s] W fun e w' => e = .returned (.string T) ∧ Below W.heap.size W w') := Lib.hid fun W hW => by
  rw [text_is hT]; exact encode_any s hs W hW

end Go.Proofs.YtccmmeehiafbiaaDoor
