/- Words that are words: the program's. -/
import Derived.Test.YtmlanlagnhnppaaDoorHdA
namespace Go.Proofs.YtmlanlagnhnppaaDoor
open Go.RowKit

theorem TextsIn.at {w : World} {a : Option Addr} {n c : Nat} {p : List (List UInt8)} (h : TextsIn w (.slice a n c) p) {j : Nat} (hj : j < p.length) : ∃ B off, a = some ⟨B, off, none⟩ ∧ w.cell? ⟨B, off + j, none⟩ = some (strV p[j]) := by
  rcases h with ⟨_, h2⟩ | ⟨B, off, cap, h1, h2⟩
  · subst h2; simp at hj
  · cases h1
    exact ⟨B, off, rfl, h2 j hj⟩
theorem all_upto_step {α : Type} {l : List α} {p : α → Bool} {k : Nat} (h : k < l.length) (h1 : (l.take k).all p = true) : (l.take (k + 1)).all p = p l[k] := by
  rw [List.take_succ_eq_append_getElem h, List.all_append, h1]; simp

set_option maxRecDepth 100000 in
set_option maxHeartbeats 1000000 in
/-- Are all of them words, and not too many? -/
theorem areWords_any (p : List (List UInt8)) (v : Value) (w : World) (hp : TextsIn w v p) (hl : p.length ≤ 1000000) (hx : ∀ x ∈ p, x.length ≤ 1000000000) : Calls Tryd.prog 46 #[v] w fun e w' => e = .returned (.bool (decide (p.length ≤ 200) && p.all wordH)) ∧ w = w' := by
  obtain ⟨a, c, rfl⟩ := hp.form
  by_cases h2 : (200 : Int) < (p.length : Int)
  · have HR : Hid (false = (decide (p.length ≤ 200) && p.all wordH)) := Lib.hid (by rw [decide_eq_false (by omega)]; rfl)
    clear hp hx
    go_enter Tryd.func46, Tryd.ntmps46
    go_wp2
    go_ret
    exact ⟨ret_bool HR.out, rfl⟩
  have HD : Hid (decide (p.length ≤ 200) = true) := Lib.hid (decide_eq_true (by omega))
  have HP := Lib.hid hp
  have HX := Lib.hid hx
  clear hp hx
  go_enter Tryd.func46, Tryd.ntmps46
  go_wp2
  go_loop [10] (fun i => ∃ k : Nat, k ≤ p.length ∧ i = .int .i64 k ∧ Hid ((p.take k).all wordH = true)) (fun i => p.length - (intOf i).toNat)
  case atStart => exact ⟨0, by omega, rfl, Lib.hid rfl⟩
  case round =>
    obtain ⟨k, hk, rfl, HS⟩ := hrel
    by_cases hlt : k < p.length
    · obtain ⟨B, off, rfl, kc⟩ := HP.out.at hlt
      have HST := Lib.hid (all_upto_step hlt HS.out)
      have hxl := HX.out _ (List.getElem_mem hlt)
      have HT : Hid (p.all wordH = true → wordH p[k] = true) := Lib.hid (fun h => List.all_eq_true.1 h _ (List.getElem_mem hlt))
      generalize p[k] = x at *
      obtain ⟨X, hX⟩ := text_of x
      have kd : w.cell? ⟨B, off + k, none⟩ = some (.string X) := by rw [kc, text_is hX]; rfl
      obtain ⟨b, hb⟩ : ∃ b, wordH x = b := ⟨_, rfl⟩
      have CW := isWord_hid X b (by rw [hX]; exact hb) (by rw [← lsize, hX]; omega)
      rw [hb] at HST HT
      clear kc hX hxl hb
      cases b
      · have HR : Hid (false = (decide (p.length ≤ 200) && p.all wordH)) := Lib.hid (by
          cases h : p.all wordH
          · simp
          · exact absurd (HT.out h) (by simp))
        go_wp2_with (go_at_call 54; (with_reducible refine (CW.out _).mono ?_); rintro e w' ⟨rfl, rfl⟩)
        go_ret
        exact ⟨ret_bool HR.out, rfl⟩
      · go_wp2_with (go_at_call 54; (with_reducible refine (CW.out _).mono ?_); rintro e w' ⟨rfl, rfl⟩)
        go_round
        case rel => exact ⟨k + 1, by omega, by go_num, HST⟩
        case measure => simp [intOf]; omega
    · obtain rfl : k = p.length := by omega
      have HR : Hid (true = (decide (p.length ≤ 200) && p.all wordH)) := Lib.hid (by
        have := HS.out
        rw [List.take_length] at this; rw [HD.out, this]; rfl)
      go_wp2
      go_ret
      exact ⟨ret_bool HR.out, rfl⟩

set_option maxRecDepth 100000 in
set_option maxHeartbeats 4000000 in
/-- The words that are words, of the first two hundred. -/
theorem kept_any (p : List (List UInt8)) (a : Option Addr) (n c : Nat) (hn : n = p.length) (hc : n ≤ c) (w : World) (hp : TextsIn w (.slice a n c) p) (hl : p.length ≤ 1000000000) (hx : ∀ x ∈ p, x.length ≤ 1000000000) : Calls Tryd.prog 41 #[.slice a n c] w fun e w' => ∃ u, e = .returned u ∧ w'.ownsRow w.heap.size 9 1 u (keptW p 200).length (txtCells (keptW p 200)) ∧ Below w.heap.size w w' := by
  subst hn
  obtain ⟨i0, hi, hz0, hz1, hz2⟩ := info_parts Tinfo9
  obtain ⟨m, hm⟩ : ∃ m : Nat, m = min p.length 200 := ⟨_, rfl⟩
  have HK : Hid (keptW p 200 = keptW p m) := Lib.hid (by
    unfold keptW
    by_cases h : p.length ≤ 200
    · rw [List.take_of_length_le h, List.take_of_length_le (by omega)]
    · rw [show m = 200 by omega])
  have hm1 : m ≤ p.length := by omega
  have hm2 : m ≤ 200 := by omega
  have hmin : (min (p.length : Int) 200) = (m : Int) := by omega
  have HP := Lib.hid hp
  have HX := Lib.hid hx
  clear hp hx hm
  go_enter Tryd.func41, Tryd.ntmps41
  go_wp2
  have own0 : (w.alloc (.cells #[] 9)).ownsRow w.heap.size 9 1 (.slice (some ⟨w.heap.size, 0, none⟩) 0 0) (keptW p 0).length (txtCells (keptW p 0)) := World.ownsRow_made w #[] 0 (Nat.le_refl _) (Nat.zero_le _) rfl
  have hb0 : Below w.heap.size w (w.alloc (.cells #[] 9)) := (Below.refl _ _).alloc (Nat.le_refl _) _
  go_loopw [3, 13] (fun u i wr => ∃ k : Nat, k ≤ m ∧ i = .int .i64 k ∧ wr.ownsRow w.heap.size 9 1 u (keptW p k).length (txtCells (keptW p k)) ∧ Below w.heap.size w wr) (fun _ i _ => m - (intOf i).toNat)
  case atStart => exact ⟨0, Nat.zero_le _, rfl, own0, hb0⟩
  case round =>
    clear own0 hb0
    obtain ⟨k, hk, rfl, hown, hbw⟩ := hrel
    by_cases hlt : k < m
    · have hlt2 : k < p.length := by omega
      obtain ⟨B, off, rfl, kc⟩ := HP.out.at hlt2
      have hxl := HX.out _ (List.getElem_mem hlt2)
      have HS := Lib.hid (keptW_succ hlt2)
      have hle : (keptW p k).length ≤ k := by
        have h2 := List.length_filter_le wordH (p.take k)
        rw [List.length_take] at h2
        unfold keptW
        omega
      generalize p[k] = x at *
      obtain ⟨X, hX⟩ : ∃ X : ByteArray, X = ⟨x.toArray⟩ := ⟨_, rfl⟩
      have kd : wr.cell? ⟨B, off + k, none⟩ = some (.string X) := by rw [hbw.cell (lt_of_cell kc), kc, hX]; rfl
      have hXx : X.data.toList = x := by rw [hX]
      obtain ⟨b, hb⟩ : ∃ b, wordH x = b := ⟨_, rfl⟩
      have CW := isWord_hid X b (by rw [hXx]; exact hb) (by rw [← lsize, hXx]; omega)
      rw [hb] at HS
      have HXX := Lib.hid hX
      obtain ⟨L, hL⟩ : ∃ L, (keptW p k).length = L := ⟨_, rfl⟩
      rw [hL] at hown hle
      have HL := Lib.hid hL
      clear kc hX hXx hxl hb hL
      cases b
      · have HM : Hid (keptW p (k + 1) = keptW p k) := Lib.hid (by rw [HS.out]; rfl)
        have HO := Lib.hid hown
        clear hown
        go_wp2_with (go_at_call 54; (with_reducible refine (CW.out _).mono ?_); rintro e w' ⟨rfl, rfl⟩)
        go_roundw
        case rel => exact ⟨k + 1, by omega, by go_num, by rw [HM.out, HL.out]; exact HO.out, hbw⟩
        case measure => simp [intOf]; omega
      · have HM : Hid (keptW p (k + 1) = keptW p k ++ [x]) := Lib.hid (by rw [HS.out]; rfl)
        go_wp2_with (first
          | (go_at_call 54; (with_reducible refine (CW.out _).mono ?_); rintro e wr ⟨rfl, rfl⟩)
          | (at_builtin; refine wpList_append_own _ rfl _ _ 32 rfl w.heap.size 9 i0 (.string ⟨#[]⟩) 1 16 Tryd.underlying32 hi hz0 hz1 hz2 rfl (by decide) _ _ _ rfl (hown.alloc _) ⟨wr.heap.size, 0, none⟩ 1 1 [.string X] rfl rfl (cell_one_new _ _ _) (fun x hx => by simp at hx; subst hx; rfl) (by unfold maxLen; omega) (by omega) (by have := hbw.size; simp; omega) ?_; intro v' w3 hown' hgrow3 hnil3
             have hbw3 : Below w.heap.size w w3 := Below.grown (hbw.alloc (by have := hbw.size; omega) _) hgrow3 (by have := hbw.size; simp; omega) (fun j hj => by have := (hown.lt _ hj).1; omega)
             have Y : Aside (w3.ownsRow w.heap.size 9 1 v' (L + 1) (txtCells (keptW p k) ++ [.string X]) ∧ Below w.heap.size w w3) := ⟨hown', hbw3⟩
             clear hown' hgrow3 hnil3))
        go_roundw
        case rel =>
          refine ⟨k + 1, by omega, by go_num, ?_, Y.out.2⟩
          have e1 : (keptW p (k + 1)).length = L + 1 := by rw [HM.out, List.length_append, HL.out]; rfl
          have e2 : txtCells (keptW p (k + 1)) = txtCells (keptW p k) ++ [.string X] := by rw [HM.out, txtCells_snoc, HXX.out]; rfl
          rw [e1, e2]
          exact Y.out.1
        case measure => simp [intOf]; omega
    · obtain rfl : k = m := by omega
      rw [← HK.out] at hown
      have HO := Lib.hid hown
      clear hown HK
      go_wp2
      go_ret
      exact ⟨_, rfl, HO.out, hbw⟩

end Go.Proofs.YtmlanlagnhnppaaDoor
