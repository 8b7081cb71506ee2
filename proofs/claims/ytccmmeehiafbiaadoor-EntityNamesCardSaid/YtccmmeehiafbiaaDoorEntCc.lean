/- The number between & and ;: the program's. -/
import Derived.Test.YtccmmeehiafbiaaDoorEntCa
import Derived.Test.YtccmmeehiafbiaaDoorEntCb
namespace Go.Proofs.YtccmmeehiafbiaaDoor
open Go.RowKit

def IfaceV (v : Value) : Prop := v = .nilIface ∨ ∃ te pe, v = .iface te pe
/-- The library's own error lies, and holds an interface's value. -/
def SynIn (w : World) : Prop := ∃ v, w.cell? ⟨2, 0, none⟩ = some v ∧ IfaceV v
theorem SynIn.below {w w' : World} (h : SynIn w) (hb : Below w.heap.size w w') : SynIn w' := by
  obtain ⟨v, h1, h2⟩ := h
  exact ⟨v, by rw [hb.cell (lt_of_cell h1)]; exact h1, h2⟩
def ParseP (B : Nat) (l : List UInt8) (W : World) (e : Ending) (w' : World) : Prop :=
  ∃ v : Value, e = .returned v ∧ Below W.heap.size W w' ∧ ((∃ n : Nat, numD B l = some n ∧ v = .tuple #[.int .u64 (n : Int), .nilIface]) ∨ (numD B l = none ∧ ∃ N, v = .tuple #[.int .u64 0, .iface 69 (.pointer (some ⟨N, 0, none⟩))]))

set_option maxRecDepth 100000 in
theorem parseU10_any (t : ByteArray) (ht : t.size ≤ 8) (w : World) (hs : SynIn w) :
    Calls Tryd.prog 30 #[.string t, .int .i64 10, .int .i64 32] w (ParseP 10 t.data.toList w) := by
  have C := Lib.hid (parse10_any t ht)
  have HS := Lib.hid hs
  clear hs
  cases hn : numD 10 t.data.toList with
  | some n =>
    have HP : Hid (parseV 10 t.data.toList = .tuple #[.int .u64 (n : Int), .nilIface]) := Lib.hid (parseV_yes hn)
    have HN := Lib.hid hn
    clear hn
    go_enter Tryd.func30, Tryd.ntmps30
    go_wp2_with fail
    refine (C.out _).mono ?_
    rintro e w1 ⟨rfl, b1⟩
    rw [HP.out]
    go_wp2
    go_ret2
    exact ⟨_, rfl, b1, .inl ⟨n, HN.out, rfl⟩⟩
  | none =>
    have HP : Hid (parseV 10 t.data.toList = .tuple #[.int .u64 0, .iface 67 (.int .i64 2)]) := Lib.hid (parseV_no hn)
    have HN := Lib.hid hn
    clear hn
    go_enter Tryd.func30, Tryd.ntmps30
    go_wp2_with fail
    refine (C.out _).mono ?_
    rintro e w1 ⟨rfl, b1⟩
    rw [HP.out]
    obtain ⟨ev, hv, hev⟩ := HS.out.below b1
    have CE := Lib.hid (Tryd.strconv_toError_syntax ⟨#[80, 97, 114, 115, 101, 85, 105, 110, 116]⟩ t 10 32 ev w1 (by omega) hv hev)
    clear hv hev
    go_wp2_with fail
    refine CE.out.mono ?_
    rintro e w2 ⟨N, rfl, _, _, b2⟩
    go_wp2
    go_ret2
    exact ⟨_, rfl, b1.trans (b2.mono b1.size), .inr ⟨HN.out, N, rfl⟩⟩

set_option maxRecDepth 100000 in
theorem parseU16_any (t : ByteArray) (ht : t.size ≤ 8) (w : World) (hs : SynIn w) :
    Calls Tryd.prog 30 #[.string t, .int .i64 16, .int .i64 32] w (ParseP 16 t.data.toList w) := by
  have C := Lib.hid (parse16_any t ht)
  have HS := Lib.hid hs
  clear hs
  cases hn : numD 16 t.data.toList with
  | some n =>
    have HP : Hid (parseV 16 t.data.toList = .tuple #[.int .u64 (n : Int), .nilIface]) := Lib.hid (parseV_yes hn)
    have HN := Lib.hid hn
    clear hn
    go_enter Tryd.func30, Tryd.ntmps30
    go_wp2_with fail
    refine (C.out _).mono ?_
    rintro e w1 ⟨rfl, b1⟩
    rw [HP.out]
    go_wp2
    go_ret2
    exact ⟨_, rfl, b1, .inl ⟨n, HN.out, rfl⟩⟩
  | none =>
    have HP : Hid (parseV 16 t.data.toList = .tuple #[.int .u64 0, .iface 67 (.int .i64 2)]) := Lib.hid (parseV_no hn)
    have HN := Lib.hid hn
    clear hn
    go_enter Tryd.func30, Tryd.ntmps30
    go_wp2_with fail
    refine (C.out _).mono ?_
    rintro e w1 ⟨rfl, b1⟩
    rw [HP.out]
    obtain ⟨ev, hv, hev⟩ := HS.out.below b1
    have CE := Lib.hid (Tryd.strconv_toError_syntax ⟨#[80, 97, 114, 115, 101, 85, 105, 110, 116]⟩ t 16 32 ev w1 (by omega) hv hev)
    clear hv hev
    go_wp2_with fail
    refine CE.out.mono ?_
    rintro e w2 ⟨N, rfl, _, _, b2⟩
    go_wp2
    go_ret2
    exact ⟨_, rfl, b1.trans (b2.mono b1.size), .inr ⟨HN.out, N, rfl⟩⟩

theorem pre_one (l : List UInt8) (c : UInt8) : Lib.hasPrefix l [c] = decide (l.head? = some c) ∧ Lib.trimPrefix l [c] = if l.head? = some c then l.drop 1 else l := by
  cases l with
  | nil => exact ⟨rfl, rfl⟩
  | cons a r =>
    unfold Lib.trimPrefix Lib.hasPrefix
    by_cases h : a = c
    · subst h; simp
    · have h2 : (c == a) = false := by rw [beq_eq_false_iff_ne]; exact fun e => h e.symm
      have h3 : [c].isPrefixOf (a :: r) = false := by simp only [List.isPrefixOf, h2, Bool.false_and]
      have h4 : ¬ (a :: r).head? = some c := fun e => h (Option.some.inj e)
      rw [h3, decide_eq_false h4, if_neg h4]
      exact ⟨rfl, rfl⟩
theorem cutP_hid (s T : ByteArray) (c : UInt8) (r : Bool) (hr : decide (s.data.toList.head? = some c) = r) (hT : T.data.toList = if s.data.toList.head? = some c then s.data.toList.drop 1 else s.data.toList) :
    Hid (∀ W, Calls Tryd.prog 21 #[.string s, .string ⟨#[c]⟩] W fun e w' => e = .returned (.tuple #[.string T, .bool r]) ∧ w' = W) := Lib.hid fun W => by
  have h := Tryd.strings_CutPrefix s ⟨#[c]⟩ W
  rw [show (⟨#[c]⟩ : ByteArray).data.toList = [c] from rfl, (pre_one _ c).1, (pre_one _ c).2, hr, ← hT] at h
  rw [text_is (T := T) rfl]
  exact h
theorem hasP_hid (s : ByteArray) (c : UInt8) (r : Bool) (hr : decide (s.data.toList.head? = some c) = r) :
    Hid (∀ W, Calls Tryd.prog 29 #[.string s, .string ⟨#[c]⟩] W fun e w' => e = .returned (.bool r) ∧ w' = W) := Lib.hid fun W => by
  have h := Tryd.strings_HasPrefix s ⟨#[c]⟩ W
  rw [show (⟨#[c]⟩ : ByteArray).data.toList = [c] from rfl, (pre_one _ c).1, hr] at h
  exact h

/-- What number answers, of a text of at most eight bytes. -/
def NumP (l : List UInt8) (W : World) (e : Ending) (w' : World) : Prop :=
  ∃ (n : Int) (b : Bool), e = .returned (.tuple #[.int .i64 n, .bool b]) ∧ Below W.heap.size W w' ∧ ((∃ m : Nat, numM l = some m ∧ n = (m : Int) ∧ b = true) ∨ (numM l = none ∧ b = false))
theorem ret_nb {S T : Int} {a b : Bool} (h : S = T) (h2 : a = b) : Ending.returned (.tuple #[.int .i64 S, .bool a]) = .returned (.tuple #[.int .i64 T, .bool b]) := by rw [h, h2]
theorem numD_lt8 {B n : Nat} {l : List UInt8} (hB : B ≤ 16) (h : numD B l = some n) (hl : l.length ≤ 8) : n < 4294967296 := by
  unfold numD at h
  split at h
  · cases h
  · have := numF_lt B l 0 n 0 h (by simp)
    have h1 : B ^ (0 + l.length) ≤ 16 ^ (0 + l.length) := Nat.pow_le_pow_left hB _
    have h2 : (16 : Nat) ^ (0 + l.length) ≤ 16 ^ 8 := Nat.pow_le_pow_right (by decide) (by omega)
    have h3 : (16 : Nat) ^ 8 = 4294967296 := by decide
    omega
theorem numM_is (l : List UInt8) (hl : l.length ≤ 8) (D : List UInt8) (t x X : Bool) (hD : D = if l.head? = some 35 then l.drop 1 else l) (ht : decide (l.head? = some 35) = t) (hx : decide (D.head? = some 120) = x) (hX : decide (D.head? = some 88) = X) :
    numM l = if t = true then (if x = true ∨ X = true then numD 16 (D.drop 1) else numD 10 D) else none := by
  subst ht hx hX
  simp only [decide_eq_true_eq]
  by_cases h : l.head? = some 35
  · rw [if_pos h] at hD ⊢
    cases l with
    | nil => cases h
    | cons a r =>
      injection h with h
      subst h
      have e : D = r := hD
      subst e
      rw [num_sharp]
      simp only [List.length_cons] at hl
      by_cases hc : D.head? = some 120 ∨ D.head? = some 88
      · rw [if_pos hc, if_pos hc, numU_eq _ _ _ (by
          cases D with
          | nil => simp
          | cons y z => simp at hl ⊢; omega)]
      · rw [if_neg hc, if_neg hc, numU_eq _ _ _ (by omega)]
  · rw [if_neg h, num_plain _ h]


set_option maxRecDepth 100000 in
set_option maxHeartbeats 4000000 in
theorem number_any (s : ByteArray) (hs : s.size ≤ 8) (w : World) (hsyn : SynIn w) : Calls Tryd.prog 23 #[.string s] w (NumP s.data.toList w) := by
  obtain ⟨D, hD⟩ := text_of (if s.data.toList.head? = some 35 then s.data.toList.drop 1 else s.data.toList)
  obtain ⟨t, ht⟩ : ∃ t, decide (s.data.toList.head? = some 35) = t := ⟨_, rfl⟩
  obtain ⟨x, hx⟩ : ∃ x, decide (D.data.toList.head? = some 120) = x := ⟨_, rfl⟩
  obtain ⟨X, hX⟩ : ∃ X, decide (D.data.toList.head? = some 88) = X := ⟨_, rfl⟩
  have CC := cutP_hid s D 35 t ht hD
  have HM := Lib.hid (numM_is s.data.toList (by rw [lsize]; exact hs) D.data.toList t x X hD ht hx hX)
  have hDs : D.size ≤ 8 := by
    rw [← lsize, hD]
    split
    · rw [List.length_drop, lsize]; omega
    · rw [lsize]; exact hs
  have HS := Lib.hid hsyn
  clear hD ht hsyn
  cases x with
  | true =>
    have CH1 := hasP_hid D 120 true hx
    obtain ⟨E, hE⟩ := text_of (D.data.toList.drop 1)
    have hEs : E.size ≤ 8 := by rw [← lsize, hE, List.length_drop, lsize]; omega
    have hD1 : 1 ≤ D.size := by
      rw [← lsize]
      cases hq : D.data.toList with
      | nil => rw [hq] at hx; cases hx
      | cons a r => simp
    have s1 : ∀ W, (Instr.slice 9 (.string D) (some (.int .i64 1)) none none).run Tryd.prog W = .ok (.string E) W := slice_from D E 1 hD1 hE
    have CU := Lib.hid fun W hW => parseU16_any E hEs W hW
    have HM2 : Hid (numM s.data.toList = if t = true then numD 16 E.data.toList else none) := Lib.hid (by rw [HM.out, hE]; simp)
    clear hx hX HM hE
    have hlt := fun n (h : numD 16 E.data.toList = some n) => numD_lt8 (by decide) h (by rw [lsize]; omega)
    have HLT := Lib.hid hlt
    clear hlt
    go_enter Tryd.func23, Tryd.ntmps23
    go_wp2_with fail
    (with_reducible refine (CC.out _).mono ?_)
    rintro e w ⟨rfl, rfl⟩
    go_wp2_with fail
    (with_reducible refine (CH1.out _).mono ?_)
    rintro e w ⟨rfl, rfl⟩
    go_wp2_with fail
    (with_reducible refine (CU.out _ HS.out).mono ?_)
    rintro e w1 ⟨v, rfl, b1, hv⟩
    rcases hv with ⟨n, hn, rfl⟩ | ⟨hn, N, rfl⟩
    · have hn32 := HLT.out n hn
      have HN := Lib.hid hn
      clear hn
      cases t with
      | true =>
        have HR : Hid (numM s.data.toList = some n) := Lib.hid (by rw [HM2.out, HN.out]; rfl)
        clear HM2 HN
        go_wp2_with fail
        go_quiet (fail)
        go_wp2
        go_ret2
        exact ⟨(n : Int), true, rfl, belowN b1 _, .inl ⟨n, HR.out, rfl, rfl⟩⟩
      | false =>
        have HR : Hid (numM s.data.toList = none) := Lib.hid (by rw [HM2.out]; rfl)
        clear HM2 HN
        go_wp2_with fail
        go_quiet (fail)
        go_wp2
        go_ret2
        exact ⟨(n : Int), false, rfl, belowN b1 _, .inr ⟨HR.out, rfl⟩⟩
    · have HR : Hid (numM s.data.toList = none) := Lib.hid (by rw [HM2.out, hn]; cases t <;> rfl)
      clear hn HM2
      cases t with
      | true =>
        go_wp2_with fail
        go_quiet (fail)
        go_wp2
        go_ret2
        exact ⟨0, false, rfl, belowN b1 _, .inr ⟨HR.out, rfl⟩⟩
      | false =>
        go_wp2_with fail
        go_quiet (fail)
        go_wp2
        go_ret2
        exact ⟨0, false, rfl, belowN b1 _, .inr ⟨HR.out, rfl⟩⟩
  | false =>
  have CH1 := hasP_hid D 120 false hx
  cases X with
  | true =>
    have CH2 := hasP_hid D 88 true hX
    obtain ⟨E, hE⟩ := text_of (D.data.toList.drop 1)
    have hEs : E.size ≤ 8 := by rw [← lsize, hE, List.length_drop, lsize]; omega
    have hD1 : 1 ≤ D.size := by
      rw [← lsize]
      cases hq : D.data.toList with
      | nil => rw [hq] at hX; cases hX
      | cons a r => simp
    have s1 : ∀ W, (Instr.slice 9 (.string D) (some (.int .i64 1)) none none).run Tryd.prog W = .ok (.string E) W := slice_from D E 1 hD1 hE
    have CU := Lib.hid fun W hW => parseU16_any E hEs W hW
    have HM2 : Hid (numM s.data.toList = if t = true then numD 16 E.data.toList else none) := Lib.hid (by rw [HM.out, hE]; simp)
    clear hx hX HM hE
    have hlt := fun n (h : numD 16 E.data.toList = some n) => numD_lt8 (by decide) h (by rw [lsize]; omega)
    have HLT := Lib.hid hlt
    clear hlt
    go_enter Tryd.func23, Tryd.ntmps23
    go_wp2_with fail
    (with_reducible refine (CC.out _).mono ?_)
    rintro e w ⟨rfl, rfl⟩
    go_wp2_with fail
    (with_reducible refine (CH1.out _).mono ?_)
    rintro e w ⟨rfl, rfl⟩
    go_wp2_with fail
    (with_reducible refine (CH2.out _).mono ?_)
    rintro e w ⟨rfl, rfl⟩
    go_wp2_with fail
    (with_reducible refine (CU.out _ HS.out).mono ?_)
    rintro e w1 ⟨v, rfl, b1, hv⟩
    rcases hv with ⟨n, hn, rfl⟩ | ⟨hn, N, rfl⟩
    · have hn32 := HLT.out n hn
      have HN := Lib.hid hn
      clear hn
      cases t with
      | true =>
        have HR : Hid (numM s.data.toList = some n) := Lib.hid (by rw [HM2.out, HN.out]; rfl)
        clear HM2 HN
        go_wp2_with fail
        go_quiet (fail)
        go_wp2
        go_ret2
        exact ⟨(n : Int), true, rfl, belowN b1 _, .inl ⟨n, HR.out, rfl, rfl⟩⟩
      | false =>
        have HR : Hid (numM s.data.toList = none) := Lib.hid (by rw [HM2.out]; rfl)
        clear HM2 HN
        go_wp2_with fail
        go_quiet (fail)
        go_wp2
        go_ret2
        exact ⟨(n : Int), false, rfl, belowN b1 _, .inr ⟨HR.out, rfl⟩⟩
    · have HR : Hid (numM s.data.toList = none) := Lib.hid (by rw [HM2.out, hn]; cases t <;> rfl)
      clear hn HM2
      cases t with
      | true =>
        go_wp2_with fail
        go_quiet (fail)
        go_wp2
        go_ret2
        exact ⟨0, false, rfl, belowN b1 _, .inr ⟨HR.out, rfl⟩⟩
      | false =>
        go_wp2_with fail
        go_quiet (fail)
        go_wp2
        go_ret2
        exact ⟨0, false, rfl, belowN b1 _, .inr ⟨HR.out, rfl⟩⟩
  | false =>
    have CH2 := hasP_hid D 88 false hX
    obtain ⟨E, hE⟩ : ∃ E, D = E := ⟨_, rfl⟩
    have hEs : E.size ≤ 8 := by rw [← hE]; omega
    have CU := Lib.hid fun W hW => parseU10_any D (by omega) W hW
    have HM2 : Hid (numM s.data.toList = if t = true then numD 10 D.data.toList else none) := Lib.hid (by rw [HM.out]; simp)
    clear hx hX HM hE hEs
    have hlt := fun n (h : numD 10 D.data.toList = some n) => numD_lt8 (by decide) h (by rw [lsize]; omega)
    have HLT := Lib.hid hlt
    clear hlt
    go_enter Tryd.func23, Tryd.ntmps23
    go_wp2_with fail
    (with_reducible refine (CC.out _).mono ?_)
    rintro e w ⟨rfl, rfl⟩
    go_wp2_with fail
    (with_reducible refine (CH1.out _).mono ?_)
    rintro e w ⟨rfl, rfl⟩
    go_wp2_with fail
    (with_reducible refine (CH2.out _).mono ?_)
    rintro e w ⟨rfl, rfl⟩
    go_wp2_with fail
    (with_reducible refine (CU.out _ HS.out).mono ?_)
    rintro e w1 ⟨v, rfl, b1, hv⟩
    rcases hv with ⟨n, hn, rfl⟩ | ⟨hn, N, rfl⟩
    · have hn32 := HLT.out n hn
      have HN := Lib.hid hn
      clear hn
      cases t with
      | true =>
        have HR : Hid (numM s.data.toList = some n) := Lib.hid (by rw [HM2.out, HN.out]; rfl)
        clear HM2 HN
        go_wp2_with fail
        go_quiet (fail)
        go_wp2
        go_ret2
        exact ⟨(n : Int), true, rfl, belowN b1 _, .inl ⟨n, HR.out, rfl, rfl⟩⟩
      | false =>
        have HR : Hid (numM s.data.toList = none) := Lib.hid (by rw [HM2.out]; rfl)
        clear HM2 HN
        go_wp2_with fail
        go_quiet (fail)
        go_wp2
        go_ret2
        exact ⟨(n : Int), false, rfl, belowN b1 _, .inr ⟨HR.out, rfl⟩⟩
    · have HR : Hid (numM s.data.toList = none) := Lib.hid (by rw [HM2.out, hn]; cases t <;> rfl)
      clear hn HM2
      cases t with
      | true =>
        go_wp2_with fail
        go_quiet (fail)
        go_wp2
        go_ret2
        exact ⟨0, false, rfl, belowN b1 _, .inr ⟨HR.out, rfl⟩⟩
      | false =>
        go_wp2_with fail
        go_quiet (fail)
        go_wp2
        go_ret2
        exact ⟨0, false, rfl, belowN b1 _, .inr ⟨HR.out, rfl⟩⟩
theorem number_hid (s : ByteArray) (hs : s.size ≤ 8) : Hid (∀ W, SynIn W → Calls Tryd.prog 23 #[.string s] W (NumP s.data.toList W)) := Lib.hid fun W h => number_any s hs W h

end Go.Proofs.YtccmmeehiafbiaaDoor
