/- A policy that is right: the document's. -/
import Derived.Test.YtmlanlagnhnppaaDoorRefHB
namespace Go.Proofs.YtmlanlagnhnppaaDoor
open Go.RowKit

instance rightDec (ds : List D) : Decidable (rightH ds) := by unfold rightH onceM; infer_instance
/-- What is known of the first k directives. -/
def FirstR (ds : List D) (k : Nat) : Prop := ∀ j, (h : j < ds.length) → j < k → dirR ds[j] = true ∧ ∀ i, (hi : i < j) → ds[i].n ≠ ds[j].n
theorem firstR_all {ds : List D} (h0 : ds ≠ []) (h : FirstR ds ds.length) : rightH ds := by
  refine ⟨h0, fun d hd => ?_, ?_⟩
  · obtain ⟨j, hj, rfl⟩ := List.getElem_of_mem hd
    exact (h j hj hj).1
  · unfold onceM
    rw [List.pairwise_iff_getElem]
    intro i j hi hj hij
    exact (h j hj hj).2 i hij
theorem not_right_dir {ds : List D} {k : Nat} (hk : k < ds.length) (h : dirR ds[k] = false) : ¬ rightH ds := fun hr => by
  have := hr.2.1 _ (List.getElem_mem hk)
  rw [h] at this; cases this
theorem not_right_two {ds : List D} {i k : Nat} (hk : k < ds.length) (hi : i < k) (h : ds[i].n = ds[k].n) : ¬ rightH ds := fun hr => by
  have := hr.2.2
  unfold onceM at this
  rw [List.pairwise_iff_getElem] at this
  exact this i k (by omega) hk hi h
theorem all_len {w : List (List UInt8)} {p : List UInt8 → Bool} (h : ∀ j, (h : j < w.length) → p w[j] = true) : w.all p = true := by
  rw [List.all_eq_true]
  intro x hx
  obtain ⟨j, hj, rfl⟩ := List.getElem_of_mem hx
  exact h j hj

set_option maxRecDepth 100000 in
set_option maxHeartbeats 4000000 in
theorem refRight_any (ds : List D) (dv : Value) (r : Bool) (w : World) (hd : DirsIn w dv ds) (hl : ds.length ≤ 1000000) (hws : ∀ d ∈ ds, d.w.length ≤ 1000000 ∧ ∀ x ∈ d.w, x.length ≤ 1000000) :
    Calls Tryd.prog 34 #[polV dv r] w fun e w' => e = .returned (.bool (decide (rightH ds))) ∧ Below w.heap.size w w' := by
  obtain ⟨a, c, rfl⟩ := hd.form
  unfold polV
  go_enter Tryd.func34, Tryd.ntmps34
  go_wp2
  have x1 := new_block w (.cells #[.slice a ds.length c, .bool r] 29)
  have B1 : Below w.heap.size w (w.alloc (.cells #[.slice a ds.length c, .bool r] 29)) := (Below.refl _ _).alloc (Nat.le_refl _) _
  have d1 := hd.below B1
  generalize hR : w.heap.size = R at x1 B1 ⊢
  have HR := Lib.hid hR
  clear hR
  generalize w.alloc (.cells #[.slice a ds.length c, .bool r] 29) = w1 at x1 B1 d1 ⊢
  clear hd
  go_loopw [3, 4, 5, 6] (fun i _ _ _ wr => ∃ k : Nat, k ≤ ds.length ∧ i = .int .i64 k ∧ wr.heap[R]? = some (.cells #[.slice a ds.length c, .bool r] 29) ∧ DirsIn wr (.slice a ds.length c) ds ∧ Below R w wr ∧ Hid (FirstR ds k)) (fun i _ _ _ _ => ds.length - (intOf i).toNat)
  case atStart => exact ⟨0, Nat.zero_le _, rfl, x1, d1, B1, Lib.hid (fun j _ h => absurd h (Nat.not_lt_zero _))⟩
  case round =>
    obtain ⟨k, hk, rfl, xr, dr, br, HS⟩ := hrel
    have c0 : wr.cell? ⟨R, 0, none⟩ = some (.slice a ds.length c) := by rw [cell_of xr]; rfl
    clear x1 B1 d1
    by_cases hlt : k < ds.length
    · obtain ⟨B, off, u, rfl, k1, k2, k3⟩ := dr.at hlt
      obtain ⟨hw1, hw2⟩ := hws _ (List.getElem_mem hlt)
      have HND : Hid (dirR ds[k] = false → ¬ rightH ds) := Lib.hid (not_right_dir hlt)
      have HNT : Hid (∀ i, (hi : i < k) → ds[i].n = ds[k].n → ¬ rightH ds) := Lib.hid fun i hi => not_right_two hlt hi
      have HNX : Hid (dirR ds[k] = true → (∀ i, (hi : i < k) → ds[i].n ≠ ds[k].n) → FirstR ds (k + 1)) := Lib.hid fun h1 h2 j hj hjk => by
        by_cases e : j = k
        · subst e; exact ⟨h1, h2⟩
        · exact HS.out j hj (by omega)
      have HAT : Hid (∀ i, (hi : i < k) → ∃ X : ByteArray, X.data.toList = ds[i].n ∧ wr.cell? ⟨B, off + i * 2, none⟩ = some (.string X)) := Lib.hid fun i hi => by
        obtain ⟨B', off', u', e1, e2, _, _⟩ := dr.at (show i < ds.length by omega)
        cases e1
        exact ⟨_, rfl, e2⟩
      have HK : Hid (∀ w', Below wr.heap.size wr w' → w'.heap[R]? = some (.cells #[.slice (some ⟨B, off, none⟩) ds.length c, .bool r] 29) ∧ DirsIn w' (.slice (some ⟨B, off, none⟩) ds.length c) ds ∧ Below R w w') := Lib.hid fun w' b => ⟨by rw [b.block R (lt_of_block xr)]; exact xr, dr.below b, br.trans (b.mono (Nat.le_of_lt (lt_of_block xr)))⟩
      obtain ⟨d, hdd⟩ : ∃ d, ds[k] = d := ⟨_, rfl⟩
      rw [hdd] at k1 k3 hw1 hw2
      have HDD := Lib.hid hdd
      unfold strV at k1
      obtain ⟨X, hX⟩ : ∃ X : ByteArray, X = ⟨d.n.toArray⟩ := ⟨_, rfl⟩
      rw [← hX] at k1
      have hXn : X.data.toList = d.n := by rw [hX]
      obtain ⟨nb, hnb⟩ : ∃ b, nameH d.n = b := ⟨_, rfl⟩
      have CN := refName_hid X nb (by rw [hXn]; exact hnb)
      have HDR : Hid (dirR d = (nb && decide (d.w.length ≤ 200) && d.w.all wordH)) := Lib.hid (by unfold dirR; rw [hnb])
      have HXn := Lib.hid hXn
      obtain ⟨a2, c2, rfl⟩ := k3.form
      clear hdd hX hnb xr dr br HS hXn
      obtain ⟨wo, rfl⟩ : ∃ wo : World, wo = wr := ⟨_, rfl⟩
      go_wp2_with fail
      have xd := new_block wo (.cells #[.string X, .slice a2 d.w.length c2] 42)
      have bd : Below wo.heap.size wo (wo.alloc (.cells #[.string X, .slice a2 d.w.length c2] 42)) := (Below.refl _ _).alloc (Nat.le_refl _) _
      have tw := k3.below bd
      obtain ⟨y1, y2, y3⟩ := HK.out _ bd
      have HB := Lib.hid bd
      generalize hD : wo.heap.size = Db at xd bd ⊢
      have HDb := Lib.hid hD
      clear hD
      generalize wo.alloc (.cells #[.string X, .slice a2 d.w.length c2] 42) = wd at xd bd tw y1 y2 y3 HB ⊢
      have e0 : wd.cell? ⟨Db, 0, none⟩ = some (.string X) := by rw [cell_of xd]; rfl
      have e1 : wd.cell? ⟨Db, 1, none⟩ = some (.slice a2 d.w.length c2) := by rw [cell_of xd]; rfl
      have c0' : wd.cell? ⟨R, 0, none⟩ = some (.slice (some ⟨B, off, none⟩) ds.length c) := by rw [cell_of y1]; rfl
      have HAT2 : Hid (∀ i, (hi : i < k) → ∃ X : ByteArray, X.data.toList = ds[i].n ∧ wd.cell? ⟨B, off + i * 2, none⟩ = some (.string X)) := Lib.hid fun i hi => by
        obtain ⟨X', h1, h2⟩ := HAT.out i hi
        exact ⟨X', h1, by rw [HB.out.cell (lt_of_cell h2)]; exact h2⟩
      have HY := Lib.hid (And.intro y1 (And.intro y2 y3))
      have HTW := Lib.hid tw
      clear c0 k1 k2 k3 HAT HK xd bd tw y1 y2 y3
      refine (CN.out _).mono ?_
      rintro e wd ⟨rfl, rfl⟩
      cases nb
      case false =>
        have HF : Hid (false = decide (rightH ds)) := Lib.hid (by rw [decide_eq_false (HND.out (by rw [HDD.out, HDR.out]; rfl))])
        go_wp2
        go_ret
        exact ⟨ret_bool HF.out, by rw [HR.out]; exact HY.out.2.2⟩
      by_cases h200 : (200 : Int) < (d.w.length : Int)
      · have HF : Hid (false = decide (rightH ds)) := Lib.hid (by rw [decide_eq_false (HND.out (by rw [HDD.out, HDR.out, decide_eq_false (show ¬ d.w.length ≤ 200 by omega)]; simp))])
        go_wp2
        go_ret
        exact ⟨ret_bool HF.out, by rw [HR.out]; exact HY.out.2.2⟩
      have HDR2 : Hid (dirR d = d.w.all wordH) := Lib.hid (by rw [HDR.out, decide_eq_true (show d.w.length ≤ 200 by omega)]; rfl)
      clear HDR CN
      go_wp2
      go_loop [5] (fun i => ∃ m : Nat, m ≤ d.w.length ∧ i = .int .i64 m ∧ Hid (∀ j, (h : j < d.w.length) → j < m → wordH d.w[j] = true)) (fun i => d.w.length - (intOf i).toNat)
      case atStart => exact ⟨0, Nat.zero_le _, rfl, fun j _ h => absurd h (Nat.not_lt_zero _)⟩
      case round =>
        obtain ⟨m, hm, rfl, HW⟩ := hrel
        by_cases hmt : m < d.w.length
        · obtain ⟨B2, off2, rfl, hc2⟩ : ∃ B2 off2, a2 = some ⟨B2, off2, none⟩ ∧ wd.cell? ⟨B2, off2 + m, none⟩ = some (strV d.w[m]) := by
            rcases HTW.out with ⟨_, h2⟩ | ⟨B', off', cap', h1, h2⟩
            · rw [h2] at hmt; cases hmt
            · cases h1; exact ⟨B', off', rfl, h2 m hmt⟩
          have hxl := hw2 _ (List.getElem_mem hmt)
          have HWN : Hid (wordH d.w[m] = true → ∀ j, (h : j < d.w.length) → j < m + 1 → wordH d.w[j] = true) := Lib.hid fun h1 j hj hjm => by
            by_cases e : j = m
            · subst e; exact h1
            · exact HW.out j hj (by omega)
          have HWF : Hid (wordH d.w[m] = false → dirR d = false) := Lib.hid fun h1 => by
            rw [HDR2.out, List.all_eq_false]
            exact ⟨_, List.getElem_mem hmt, by rw [h1]; simp⟩
          unfold strV at hc2
          generalize d.w[m] = x at *
          obtain ⟨Y, hY⟩ : ∃ Y : ByteArray, Y = ⟨x.toArray⟩ := ⟨_, rfl⟩
          rw [← hY] at hc2
          have hYx : Y.data.toList = x := by rw [hY]
          obtain ⟨wb, hwb⟩ : ∃ b, wordH x = b := ⟨_, rfl⟩
          have CW := refWord_hid Y wb (by rw [hYx]; exact hwb) (by rw [← lsize, hYx]; omega)
          clear hY hYx hxl
          cases wb
          · have HF : Hid (false = decide (rightH ds)) := Lib.hid (by rw [decide_eq_false (HND.out (by rw [HDD.out]; exact HWF.out hwb))])
            clear hwb HWN HWF
            go_wp2_with (go_at_call 44; (with_reducible refine (CW.out _).mono ?_); rintro e w' ⟨rfl, rfl⟩)
            go_ret
            exact ⟨ret_bool HF.out, by rw [HR.out]; exact HY.out.2.2⟩
          · have HM := Lib.hid (HWN.out hwb)
            clear hwb HWN HWF
            go_wp2_with (go_at_call 44; (with_reducible refine (CW.out _).mono ?_); rintro e w' ⟨rfl, rfl⟩)
            go_round
            case rel => exact ⟨m + 1, by omega, by go_num, HM⟩
            case measure => simp [intOf]; omega
        · obtain rfl : m = d.w.length := by omega
          have HDT : Hid (dirR d = true) := Lib.hid (by rw [HDR2.out]; exact all_len (fun j hj => HW.out j hj hj))
          clear HW HDR2 hw2 HND
          go_wp2
          go_loopw [6] (fun i wq => ∃ m n : Nat, m ≤ k ∧ i = .int .i64 m ∧ wq = wd.drewN n ∧ Hid (∀ j, (h : j < k) → j < m → ds[j].n ≠ ds[k].n)) (fun i _ => k - (intOf i).toNat)
          case atStart => exact ⟨0, 0, Nat.zero_le _, rfl, rfl, fun j _ h => absurd h (Nat.not_lt_zero _)⟩
          case round =>
            obtain ⟨m, n, hm2, rfl, rfl, HQ⟩ := hrel
            by_cases hmk : m < k
            · obtain ⟨Z, hZ, kz⟩ := HAT2.out m hmk
              have g1 : (Z.toList == X.toList) = decide (ds[m].n = d.n) := by rw [text_eq, hZ, HXn.out]
              have hix : (m : Int) < (ds.length : Int) := by omega
              by_cases he : ds[m].n = ds[k].n
              · have HF : Hid (false = decide (rightH ds)) := Lib.hid (by rw [decide_eq_false (HNT.out m hmk he)])
                rw [decide_eq_true (by rw [← HDD.out]; exact he)] at g1
                clear he hZ
                go_wp2_with fail
                go_quiet (fail)
                go_wp2
                go_ret
                exact ⟨ret_bool HF.out, by rw [HR.out]; exact belowN (belowN HY.out.2.2 _) _⟩
              · have HM : Hid (∀ j, (h : j < k) → j < m + 1 → ds[j].n ≠ ds[k].n) := Lib.hid fun j hj hjm => by
                  by_cases e : j = m
                  · subst e; exact he
                  · exact HQ.out j hj (by omega)
                rw [decide_eq_false (by rw [← HDD.out]; exact he)] at g1
                clear he hZ
                go_wp2_with fail
                go_quiet (fail)
                go_wp2
                go_roundw
                case rel => exact ⟨m + 1, n + nq, by omega, by go_num, rfl, HM⟩
                case measure => simp [intOf]; omega
            · obtain rfl : m = k := by omega
              have HM := Lib.hid (HNX.out (by rw [HDD.out]; exact HDT.out) (fun i hi => HQ.out i hi hi))
              clear HQ
              go_wp2
              go_roundw
              case rel => exact ⟨m + 1, by omega, by go_num, HY.out.1, HY.out.2.1, belowN HY.out.2.2 _, HM⟩
              case measure => simp [intOf]; omega
    · obtain rfl : k = ds.length := by omega
      have HF : Hid (decide (0 < ds.length) = decide (rightH ds)) := Lib.hid (by
        by_cases h0 : ds = []
        · subst h0; rfl
        · have h1 : 0 < ds.length := List.length_pos_iff.2 h0
          rw [decide_eq_true (firstR_all h0 HS.out), decide_eq_true h1])
      clear HS
      go_wp2
      go_ret
      exact ⟨ret_bool HF.out, by rw [HR.out]; exact br⟩
theorem refRight_hid8 (ds : List D) (b : Bool) (hb : decide (rightH ds) = b) (r : Bool) (hl : ds.length ≤ 1000000) (hws : ∀ d ∈ ds, d.w.length ≤ 1000000 ∧ ∀ x ∈ d.w, x.length ≤ 1000000) : Hid (∀ W dv, DirsIn W dv ds → Calls Tryd.prog 34 #[polV dv r] W fun e w' => e = .returned (.bool b) ∧ Below W.heap.size W w') :=
  Lib.hid fun W dv hd => by rw [← hb]; exact refRight_any ds dv r W hd hl hws

end Go.Proofs.YtmlanlagnhnppaaDoor
