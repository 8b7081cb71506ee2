/- A policy's text: the document's. -/
import Derived.Test.YtmlanlagnhnppaaDoorRefHC
namespace Go.Proofs.YtmlanlagnhnppaaDoor
open Go.RowKit

theorem pT_app : ∀ {L M : List D}, L ≠ [] → M ≠ [] → pT (L ++ M) = pT L ++ 59 :: 32 :: pT M
  | [], _, h, _ => absurd rfl h
  | [d], [], _, h => absurd rfl h
  | [d], e :: r, _, _ => rfl
  | d :: e :: r, M, _, h => by
    have ih := pT_app (L := e :: r) (by simp) h
    show dT d ++ 59 :: 32 :: pT ((e :: r) ++ M) = _
    rw [ih, pT_cons]
    simp
def sepT (k : Nat) : List UInt8 := if 0 < k then [59, 32] else []
theorem pT_take {ds : List D} {k : Nat} (hk : k < ds.length) : pT (ds.take (k + 1)) = pT (ds.take k) ++ sepT k ++ dT ds[k] := by
  rw [List.take_succ_eq_append_getElem hk]
  by_cases h0 : k = 0
  · subst h0; rfl
  · have : ds.take k ≠ [] := by
      intro e
      have hl := congrArg List.length e
      rw [List.length_take, List.length_nil] at hl
      omega
    rw [pT_app this (by simp)]
    unfold sepT
    rw [if_pos (by omega)]
    simp [pT]
theorem pT_prefix (ds : List D) (k : Nat) : ∃ r, pT ds = pT (ds.take k) ++ r := by
  by_cases h0 : ds.take k = []
  · exact ⟨pT ds, by rw [h0]; rfl⟩
  · by_cases h1 : ds.drop k = []
    · have e := List.take_append_drop k ds
      rw [h1, List.append_nil] at e
      exact ⟨[], by rw [e, List.append_nil]⟩
    · have := pT_app h0 h1
      rw [List.take_append_drop] at this
      exact ⟨_, this⟩
theorem tailT_take {w : List (List UInt8)} {m : Nat} (h : m < w.length) : tailT (w.take (m + 1)) = tailT (w.take m) ++ 32 :: w[m] := by
  rw [List.take_succ_eq_append_getElem h]
  unfold tailT
  simp only [List.flatMap_append, List.flatMap_cons, List.flatMap_nil, List.append_nil]
theorem tailT_prefix (w : List (List UInt8)) (m : Nat) : tailT w = tailT (w.take m) ++ tailT (w.drop m) := by
  have : tailT (w.take m ++ w.drop m) = tailT (w.take m) ++ tailT (w.drop m) := by unfold tailT; simp only [List.flatMap_append]
  rw [← this, List.take_append_drop]
theorem print_places {ds : List D} {k : Nat} (hk : k < ds.length) : (∃ r, pT ds = pT (ds.take k) ++ sepT k ++ ds[k].n ++ r) ∧ ∀ m, (h : m < ds[k].w.length) → ∃ r, pT ds = pT (ds.take k) ++ sepT k ++ ds[k].n ++ tailT (ds[k].w.take m) ++ 32 :: ds[k].w[m] ++ r := by
  obtain ⟨r, hr⟩ := pT_prefix ds (k + 1)
  rw [pT_take hk] at hr
  constructor
  · exact ⟨tailT ds[k].w ++ r, by rw [hr]; unfold dT; simp⟩
  · intro m h
    refine ⟨tailT (ds[k].w.drop (m + 1)) ++ r, ?_⟩
    rw [hr]
    unfold dT
    rw [tailT_prefix ds[k].w (m + 1), tailT_take h]
    simp

set_option maxRecDepth 100000 in
set_option maxHeartbeats 4000000 in
theorem refPrint_right (ds : List D) (hr : rightH ds) (dv : Value) (r : Bool) (w : World) (hd : DirsIn w dv ds) (hl : ds.length ≤ 1000000) (hws : ∀ d ∈ ds, d.w.length ≤ 1000000 ∧ ∀ x ∈ d.w, x.length ≤ 1000000) (hlen : (pT ds).length ≤ 1000000000) (T : ByteArray) (hT : T.data.toList = pT ds) :
    Calls Tryd.prog 18 #[polV dv r] w fun e w' => e = .returned (.tuple #[.string T, .bool true]) ∧ Below w.heap.size w w' := by
  have CR := refRight_hid8 ds true (decide_eq_true hr) r hl hws
  obtain ⟨N, hN⟩ : ∃ N, (pT ds).length = N := ⟨_, rfl⟩
  have HLEN := Lib.hid hN
  rw [hN] at hlen
  have HTT := Lib.hid hT
  clear hN hT
  obtain ⟨a, c, rfl⟩ := hd.form
  unfold polV at *
  go_enter Tryd.func18, Tryd.ntmps18
  go_wp2_with fail
  have x1 := new_block w (.cells #[.slice a ds.length c, .bool r] 29)
  have B1 : Below w.heap.size w (w.alloc (.cells #[.slice a ds.length c, .bool r] 29)) := (Below.refl _ _).alloc (Nat.le_refl _) _
  have d1 := hd.below B1
  generalize hR : w.heap.size = R at x1 B1 ⊢
  have HR := Lib.hid hR
  clear hR
  generalize w.alloc (.cells #[.slice a ds.length c, .bool r] 29) = w1 at x1 B1 d1 ⊢
  refine (CR.out _ _ d1).mono ?_
  rintro e w2 ⟨rfl, b2⟩
  have x2 : w2.heap[R]? = some (.cells #[.slice a ds.length c, .bool r] 29) := by rw [b2.block R (lt_of_block x1)]; exact x1
  have HD := Lib.hid (d1.below b2)
  have B2 := B1.trans (b2.mono (Nat.le_of_lt (lt_of_block x1)))
  have c0 : w2.cell? ⟨R, 0, none⟩ = some (.slice a ds.length c) := by rw [cell_of x2]; rfl
  clear x1 B1 d1 b2 x2 hd CR
  go_wp2
  go_loop [4, 5, 6] (fun s i _ => ∃ (k : Nat) (S : ByteArray), k ≤ ds.length ∧ i = .int .i64 k ∧ s = .string S ∧ Hid (S.data.toList = pT (ds.take k))) (fun _ i _ => ds.length - (intOf i).toNat)
  case atStart => exact ⟨0, ⟨#[]⟩, Nat.zero_le _, rfl, rfl, Lib.hid rfl⟩
  case round =>
    obtain ⟨k, S, hk, rfl, rfl, HS⟩ := hrel
    by_cases hlt : k < ds.length
    case neg =>
      obtain rfl : k = ds.length := by omega
      obtain rfl : S = T := by
        have e : S.data.toList = T.data.toList := by rw [HS.out, HTT.out, List.take_length]
        rw [text_is e, ← text_is rfl]
      clear HS HD HLEN HTT
      go_wp2
      go_ret2
      exact ⟨rfl, by rw [HR.out]; exact B2⟩
    obtain ⟨B, off, u, rfl, k1, k2, k3⟩ := HD.out.at hlt
    have HPL := print_places hlt
    have HNEXT := Lib.hid (pT_take hlt)
    obtain ⟨hw1, hw2⟩ := hws _ (List.getElem_mem hlt)
    unfold strV at k1
    generalize ds[k] = d at *
    obtain ⟨X, hX⟩ : ∃ X : ByteArray, X = ⟨d.n.toArray⟩ := ⟨_, rfl⟩
    rw [← hX] at k1
    have hXn : X.data.toList = d.n := by rw [hX]
    obtain ⟨a2', c2', rfl⟩ := k3.form
    have HTW := Lib.hid k3
    clear hX k3 HD hws hw2
    by_cases h0 : k = 0
    · have hg : ¬ (0 : Int) < (k : Int) := by omega
      obtain ⟨S1, hS1⟩ : ∃ S1, S1 = S := ⟨_, rfl⟩
      have hS1d : S1.data.toList = pT (ds.take k) ++ sepT k := by rw [hS1, HS.out, h0]; rfl
      rw [← hS1d] at HPL HNEXT
      obtain ⟨S2, hS2⟩ := text_of (S1.data.toList ++ d.n)
      have HP : Hid ((∃ r, pT ds = S2.data.toList ++ r) ∧ ∀ m, (h : m < d.w.length) → ∃ r, pT ds = S1.data.toList ++ d.n ++ tailT (d.w.take m) ++ 32 :: d.w[m] ++ r) := Lib.hid ⟨by rw [hS2]; exact HPL.1, HPL.2⟩
      subst hS1
      clear h0 hS1d HPL
      have a2 := add_to S1 X S2 (by rw [hS2, hXn]) (by
        obtain ⟨r0, hr0⟩ := HP.out.1
        have e1 := congrArg List.length hr0
        rw [List.length_append, lsize, HLEN.out] at e1
        have e2 := congrArg List.length hS2
        rw [List.length_append, lsize, lsize, ← hXn, lsize] at e2
        omega)
      have HS2 : Hid (S2.data.toList = S1.data.toList ++ d.n ++ tailT (d.w.take 0)) := Lib.hid (by rw [hS2]; simp [tailT])
      clear hS2 hXn
      go_wp2
      go_loop [4, 6] (fun s i => ∃ (m : Nat) (Q : ByteArray), m ≤ d.w.length ∧ i = .int .i64 m ∧ s = .string Q ∧ Hid (Q.data.toList = S1.data.toList ++ d.n ++ tailT (d.w.take m))) (fun _ i => d.w.length - (intOf i).toNat)
      case atStart => exact ⟨0, S2, Nat.zero_le _, rfl, rfl, HS2⟩
      case round =>
        obtain ⟨m, Q, hm, rfl, rfl, HQ⟩ := hrel
        by_cases hmt : m < d.w.length
        · obtain ⟨B2, off2, rfl, hc2⟩ : ∃ B2 off2, a2' = some ⟨B2, off2, none⟩ ∧ w2.cell? ⟨B2, off2 + m, none⟩ = some (strV d.w[m]) := by
            rcases HTW.out with ⟨_, h2⟩ | ⟨B', off', cap', h1, h2⟩
            · rw [h2] at hmt; cases hmt
            · cases h1; exact ⟨B', off', rfl, h2 m hmt⟩
          have HT : Hid (tailT (d.w.take (m + 1)) = tailT (d.w.take m) ++ 32 :: d.w[m]) := Lib.hid (tailT_take hmt)
          have HP2 := HP.out.2 m hmt
          unfold strV at hc2
          generalize d.w[m] = x at *
          obtain ⟨Y, hY⟩ : ∃ Y : ByteArray, Y = ⟨x.toArray⟩ := ⟨_, rfl⟩
          rw [← hY] at hc2
          have hYx : Y.data.toList = x := by rw [hY]
          obtain ⟨Q1, hQ1⟩ := text_of (Q.data.toList ++ [32])
          obtain ⟨Q2, hQ2⟩ := text_of (Q1.data.toList ++ x)
          have hQ2s : Q2.size ≤ 1000000000 := by
            obtain ⟨rr, hrr⟩ := HP2
            have e1 := congrArg List.length hrr
            rw [List.length_append, HLEN.out] at e1
            have e2 : Q2.data.toList = S1.data.toList ++ d.n ++ tailT (d.w.take m) ++ 32 :: x := by rw [hQ2, hQ1, HQ.out]; simp
            rw [← e2, lsize] at e1
            omega
          have z2 : Q2.size = Q1.size + Y.size := by rw [← lsize, hQ2, List.length_append, lsize, ← hYx, lsize]
          have z1 : Q1.size = Q.size + 1 := by rw [← lsize, hQ1, List.length_append, lsize]; rfl
          have b1 := add_to Q ⟨#[32]⟩ Q1 hQ1 (by show Q.size + 1 ≤ _; omega)
          have b2 := add_to Q1 Y Q2 (by rw [hQ2, hYx]) (by omega)
          have HM : Hid (Q2.data.toList = S1.data.toList ++ d.n ++ tailT (d.w.take (m + 1))) := Lib.hid (by rw [hQ2, hQ1, HQ.out, HT.out]; simp)
          clear hY hYx hQ1 hQ2 hQ2s z1 z2 HT HP2
          go_wp2
          go_round
          case rel => exact ⟨m + 1, Q2, by omega, by go_num, rfl, HM⟩
          case measure => simp [intOf]; omega
        · obtain rfl : m = d.w.length := by omega
          have HM : Hid (Q.data.toList = pT (ds.take (k + 1))) := Lib.hid (by
            rw [HQ.out, List.take_length, HNEXT.out]; unfold dT; rw [List.append_assoc])
          clear HQ
          go_wp2
          go_round
          case rel => exact ⟨k + 1, Q, by omega, by go_num, rfl, HM⟩
          case measure => simp [intOf]; omega
    · have hg : (0 : Int) < (k : Int) := by omega
      obtain ⟨S1, hS1⟩ := text_of (S.data.toList ++ [59, 32])
      have hS1d : S1.data.toList = pT (ds.take k) ++ sepT k := by rw [hS1, HS.out]; unfold sepT; rw [if_pos (by omega)]
      rw [← hS1d] at HPL HNEXT
      obtain ⟨S2, hS2⟩ := text_of (S1.data.toList ++ d.n)
      have HP : Hid ((∃ r, pT ds = S2.data.toList ++ r) ∧ ∀ m, (h : m < d.w.length) → ∃ r, pT ds = S1.data.toList ++ d.n ++ tailT (d.w.take m) ++ 32 :: d.w[m] ++ r) := Lib.hid ⟨by rw [hS2]; exact HPL.1, HPL.2⟩
      have z0 : S1.size = S.size + 2 := by rw [← lsize, hS1, List.length_append, lsize]; rfl
      have z9 : S1.size ≤ 1000000000 := by
        obtain ⟨r0, hr0⟩ := HP.out.1
        have e1 := congrArg List.length hr0
        rw [List.length_append, hS2, List.length_append, lsize, HLEN.out] at e1
        omega
      have a1 := add_to S ⟨#[59, 32]⟩ S1 hS1 (by show S.size + 2 ≤ _; omega)
      clear h0 hS1d HPL HS hS1 z0 z9
      have a2 := add_to S1 X S2 (by rw [hS2, hXn]) (by
        obtain ⟨r0, hr0⟩ := HP.out.1
        have e1 := congrArg List.length hr0
        rw [List.length_append, lsize, HLEN.out] at e1
        have e2 := congrArg List.length hS2
        rw [List.length_append, lsize, lsize, ← hXn, lsize] at e2
        omega)
      have HS2 : Hid (S2.data.toList = S1.data.toList ++ d.n ++ tailT (d.w.take 0)) := Lib.hid (by rw [hS2]; simp [tailT])
      clear hS2 hXn
      go_wp2
      go_loop [4, 6] (fun s i => ∃ (m : Nat) (Q : ByteArray), m ≤ d.w.length ∧ i = .int .i64 m ∧ s = .string Q ∧ Hid (Q.data.toList = S1.data.toList ++ d.n ++ tailT (d.w.take m))) (fun _ i => d.w.length - (intOf i).toNat)
      case atStart => exact ⟨0, S2, Nat.zero_le _, rfl, rfl, HS2⟩
      case round =>
        obtain ⟨m, Q, hm, rfl, rfl, HQ⟩ := hrel
        by_cases hmt : m < d.w.length
        · obtain ⟨B2, off2, rfl, hc2⟩ : ∃ B2 off2, a2' = some ⟨B2, off2, none⟩ ∧ w2.cell? ⟨B2, off2 + m, none⟩ = some (strV d.w[m]) := by
            rcases HTW.out with ⟨_, h2⟩ | ⟨B', off', cap', h1, h2⟩
            · rw [h2] at hmt; cases hmt
            · cases h1; exact ⟨B', off', rfl, h2 m hmt⟩
          have HT : Hid (tailT (d.w.take (m + 1)) = tailT (d.w.take m) ++ 32 :: d.w[m]) := Lib.hid (tailT_take hmt)
          have HP2 := HP.out.2 m hmt
          unfold strV at hc2
          generalize d.w[m] = x at *
          obtain ⟨Y, hY⟩ : ∃ Y : ByteArray, Y = ⟨x.toArray⟩ := ⟨_, rfl⟩
          rw [← hY] at hc2
          have hYx : Y.data.toList = x := by rw [hY]
          obtain ⟨Q1, hQ1⟩ := text_of (Q.data.toList ++ [32])
          obtain ⟨Q2, hQ2⟩ := text_of (Q1.data.toList ++ x)
          have hQ2s : Q2.size ≤ 1000000000 := by
            obtain ⟨rr, hrr⟩ := HP2
            have e1 := congrArg List.length hrr
            rw [List.length_append, HLEN.out] at e1
            have e2 : Q2.data.toList = S1.data.toList ++ d.n ++ tailT (d.w.take m) ++ 32 :: x := by rw [hQ2, hQ1, HQ.out]; simp
            rw [← e2, lsize] at e1
            omega
          have z2 : Q2.size = Q1.size + Y.size := by rw [← lsize, hQ2, List.length_append, lsize, ← hYx, lsize]
          have z1 : Q1.size = Q.size + 1 := by rw [← lsize, hQ1, List.length_append, lsize]; rfl
          have b1 := add_to Q ⟨#[32]⟩ Q1 hQ1 (by show Q.size + 1 ≤ _; omega)
          have b2 := add_to Q1 Y Q2 (by rw [hQ2, hYx]) (by omega)
          have HM : Hid (Q2.data.toList = S1.data.toList ++ d.n ++ tailT (d.w.take (m + 1))) := Lib.hid (by rw [hQ2, hQ1, HQ.out, HT.out]; simp)
          clear hY hYx hQ1 hQ2 hQ2s z1 z2 HT HP2
          go_wp2
          go_round
          case rel => exact ⟨m + 1, Q2, by omega, by go_num, rfl, HM⟩
          case measure => simp [intOf]; omega
        · obtain rfl : m = d.w.length := by omega
          have HM : Hid (Q.data.toList = pT (ds.take (k + 1))) := Lib.hid (by
            rw [HQ.out, List.take_length, HNEXT.out]; unfold dT; rw [List.append_assoc])
          clear HQ
          go_wp2
          go_round
          case rel => exact ⟨k + 1, Q, by omega, by go_num, rfl, HM⟩
          case measure => simp [intOf]; omega
theorem refPrint_wrong (ds : List D) (hr : ¬ rightH ds) (dv : Value) (r : Bool) (w : World) (hd : DirsIn w dv ds) (hl : ds.length ≤ 1000000) (hws : ∀ d ∈ ds, d.w.length ≤ 1000000 ∧ ∀ x ∈ d.w, x.length ≤ 1000000) :
    Calls Tryd.prog 18 #[polV dv r] w fun e w' => e = .returned (.tuple #[.string ⟨#[]⟩, .bool false]) ∧ Below w.heap.size w w' := by
  have CR := refRight_hid8 ds false (decide_eq_false hr) r hl hws
  obtain ⟨a, c, rfl⟩ := hd.form
  unfold polV at *
  go_enter Tryd.func18, Tryd.ntmps18
  go_wp2_with fail
  have B1 : Below w.heap.size w (w.alloc (.cells #[.slice a ds.length c, .bool r] 29)) := (Below.refl _ _).alloc (Nat.le_refl _) _
  have d1 := hd.below B1
  have bs := B1.size
  generalize w.alloc (.cells #[.slice a ds.length c, .bool r] 29) = w1 at B1 d1 bs ⊢
  refine (CR.out _ _ d1).mono ?_
  rintro e w2 ⟨rfl, b2⟩
  go_wp2
  go_ret2
  exact ⟨rfl, B1.trans (b2.mono bs)⟩

end Go.Proofs.YtmlanlagnhnppaaDoor
