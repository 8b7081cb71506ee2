/- The number between & and ;: the program's. A sign's text at a text's beginning: the program's first. -/
import Derived.Test.YtfbhpmafjehojaaGreatDoorEntV
namespace Go.Proofs.YtfbhpmafjehojaaGreatDoor
open Go.RowKit

def IfaceV (v : Value) : Prop := v = .nilIface ∨ ∃ te pe, v = .iface te pe
/-- The library's own error lies, and holds an interface's value. -/
def SynIn (w : World) : Prop := ∃ v, w.cell? ⟨4, 0, none⟩ = some v ∧ IfaceV v
theorem SynIn.below {w w' : World} (h : SynIn w) (hb : Below w.heap.size w w') : SynIn w' := by
  obtain ⟨v, h1, h2⟩ := h
  exact ⟨v, by rw [hb.cell (lt_of_cell h1)]; exact h1, h2⟩
def ParseP (B : Nat) (l : List UInt8) (W : World) (e : Ending) (w' : World) : Prop :=
  ∃ v : Value, e = .returned v ∧ Below W.heap.size W w' ∧ ((∃ n : Nat, numD B l = some n ∧ v = .tuple #[.int .u64 (n : Int), .nilIface]) ∨ (numD B l = none ∧ ∃ N, v = .tuple #[.int .u64 0, .iface 182 (.pointer (some ⟨N, 0, none⟩))]))

set_option maxRecDepth 100000 in
theorem parseU10_any (t : ByteArray) (ht : t.size ≤ 8) (w : World) (hs : SynIn w) :
    Calls Tryz.prog 151 #[.string t, .int .i64 10, .int .i64 32] w (ParseP 10 t.data.toList w) := by
  have C := Lib.hid (parse10_any t ht)
  have HS := Lib.hid hs
  clear hs
  cases hn : numD 10 t.data.toList with
  | some n =>
    have HP : Hid (parseV 10 t.data.toList = .tuple #[.int .u64 (n : Int), .nilIface]) := Lib.hid (parseV_yes hn)
    have HN := Lib.hid hn
    clear hn
    go_enter Tryz.func151, Tryz.ntmps151
    go_wp2_with fail
    refine (C.out _).mono ?_
    rintro e w1 ⟨rfl, b1⟩
    rw [HP.out]
    go_wp2
    go_ret2
    exact ⟨_, rfl, b1, .inl ⟨n, HN.out, rfl⟩⟩
  | none =>
    have HP : Hid (parseV 10 t.data.toList = .tuple #[.int .u64 0, .iface 180 (.int .i64 2)]) := Lib.hid (parseV_no hn)
    have HN := Lib.hid hn
    clear hn
    go_enter Tryz.func151, Tryz.ntmps151
    go_wp2_with fail
    refine (C.out _).mono ?_
    rintro e w1 ⟨rfl, b1⟩
    rw [HP.out]
    obtain ⟨ev, hv, hev⟩ := HS.out.below b1
    have CE := Lib.hid (Tryz.strconv_toError_syntax ⟨#[80, 97, 114, 115, 101, 85, 105, 110, 116]⟩ t 10 32 ev w1 (by omega) hv hev)
    clear hv hev
    go_wp2_with fail
    refine CE.out.mono ?_
    rintro e w2 ⟨N, rfl, _, _, b2⟩
    go_wp2
    go_ret2
    exact ⟨_, rfl, b1.trans (b2.mono b1.size), .inr ⟨HN.out, N, rfl⟩⟩

set_option maxRecDepth 100000 in
theorem parseU16_any (t : ByteArray) (ht : t.size ≤ 8) (w : World) (hs : SynIn w) :
    Calls Tryz.prog 151 #[.string t, .int .i64 16, .int .i64 32] w (ParseP 16 t.data.toList w) := by
  have C := Lib.hid (parse16_any t ht)
  have HS := Lib.hid hs
  clear hs
  cases hn : numD 16 t.data.toList with
  | some n =>
    have HP : Hid (parseV 16 t.data.toList = .tuple #[.int .u64 (n : Int), .nilIface]) := Lib.hid (parseV_yes hn)
    have HN := Lib.hid hn
    clear hn
    go_enter Tryz.func151, Tryz.ntmps151
    go_wp2_with fail
    refine (C.out _).mono ?_
    rintro e w1 ⟨rfl, b1⟩
    rw [HP.out]
    go_wp2
    go_ret2
    exact ⟨_, rfl, b1, .inl ⟨n, HN.out, rfl⟩⟩
  | none =>
    have HP : Hid (parseV 16 t.data.toList = .tuple #[.int .u64 0, .iface 180 (.int .i64 2)]) := Lib.hid (parseV_no hn)
    have HN := Lib.hid hn
    clear hn
    go_enter Tryz.func151, Tryz.ntmps151
    go_wp2_with fail
    refine (C.out _).mono ?_
    rintro e w1 ⟨rfl, b1⟩
    rw [HP.out]
    obtain ⟨ev, hv, hev⟩ := HS.out.below b1
    have CE := Lib.hid (Tryz.strconv_toError_syntax ⟨#[80, 97, 114, 115, 101, 85, 105, 110, 116]⟩ t 16 32 ev w1 (by omega) hv hev)
    clear hv hev
    go_wp2_with fail
    refine CE.out.mono ?_
    rintro e w2 ⟨N, rfl, _, _, b2⟩
    go_wp2
    go_ret2
    exact ⟨_, rfl, b1.trans (b2.mono b1.size), .inr ⟨HN.out, N, rfl⟩⟩

theorem pre_one (l : List UInt8) (c : UInt8) : Lib.hasPrefix l [c] = decide (l.head? = some c) ∧ Lib.trimPrefix l [c] = if l.head? = some c then l.drop 1 else l := by
  cases l with
  | nil => exact ⟨rfl, rfl⟩
  | cons a r =>
    unfold Lib.trimPrefix Lib.hasPrefix
    by_cases h : a = c
    · subst h; simp
    · have h2 : (c == a) = false := by rw [beq_eq_false_iff_ne]; exact fun e => h e.symm
      have h3 : [c].isPrefixOf (a :: r) = false := by simp only [List.isPrefixOf, h2, Bool.false_and]
      have h4 : ¬ (a :: r).head? = some c := fun e => h (Option.some.inj e)
      rw [h3, decide_eq_false h4, if_neg h4]
      exact ⟨rfl, rfl⟩
theorem cutP_hid (s T : ByteArray) (c : UInt8) (r : Bool) (hr : decide (s.data.toList.head? = some c) = r) (hT : T.data.toList = if s.data.toList.head? = some c then s.data.toList.drop 1 else s.data.toList) :
    Hid (∀ W, Calls Tryz.prog 140 #[.string s, .string ⟨#[c]⟩] W fun e w' => e = .returned (.tuple #[.string T, .bool r]) ∧ w' = W) := Lib.hid fun W => by
  have h := Tryz.strings_CutPrefix s ⟨#[c]⟩ W
  rw [show (⟨#[c]⟩ : ByteArray).data.toList = [c] from rfl, (pre_one _ c).1, (pre_one _ c).2, hr, ← hT] at h
  rw [text_is (T := T) rfl]
  exact h
theorem hasP_hid (s : ByteArray) (c : UInt8) (r : Bool) (hr : decide (s.data.toList.head? = some c) = r) :
    Hid (∀ W, Calls Tryz.prog 48 #[.string s, .string ⟨#[c]⟩] W fun e w' => e = .returned (.bool r) ∧ w' = W) := Lib.hid fun W => by
  have h := Tryz.strings_HasPrefix s ⟨#[c]⟩ W
  rw [show (⟨#[c]⟩ : ByteArray).data.toList = [c] from rfl, (pre_one _ c).1, hr] at h
  exact h

/-- What number answers, of a text of at most eight bytes. -/
def NumP (l : List UInt8) (W : World) (e : Ending) (w' : World) : Prop :=
  ∃ (n : Int) (b : Bool), e = .returned (.tuple #[.int .i64 n, .bool b]) ∧ Below W.heap.size W w' ∧ ((∃ m : Nat, numM l = some m ∧ n = (m : Int) ∧ b = true) ∨ (numM l = none ∧ b = false))
theorem numD_lt8 {B n : Nat} {l : List UInt8} (hB : B ≤ 16) (h : numD B l = some n) (hl : l.length ≤ 8) : n < 4294967296 := by
  unfold numD at h
  split at h
  · cases h
  · have := numF_lt B l 0 n 0 h (by simp)
    have h1 : B ^ (0 + l.length) ≤ 16 ^ (0 + l.length) := Nat.pow_le_pow_left hB _
    have h2 : (16 : Nat) ^ (0 + l.length) ≤ 16 ^ 8 := Nat.pow_le_pow_right (by decide) (by omega)
    have h3 : (16 : Nat) ^ 8 = 4294967296 := by decide
    omega
theorem numM_is (l : List UInt8) (hl : l.length ≤ 8) (D : List UInt8) (t x X : Bool) (hD : D = if l.head? = some 35 then l.drop 1 else l) (ht : decide (l.head? = some 35) = t) (hx : decide (D.head? = some 120) = x) (hX : decide (D.head? = some 88) = X) :
    numM l = if t = true then (if x = true ∨ X = true then numD 16 (D.drop 1) else numD 10 D) else none := by
  subst ht hx hX
  simp only [decide_eq_true_eq]
  by_cases h : l.head? = some 35
  · rw [if_pos h] at hD ⊢
    cases l with
    | nil => cases h
    | cons a r =>
      injection h with h
      subst h
      have e : D = r := hD
      subst e
      rw [num_sharp]
      simp only [List.length_cons] at hl
      by_cases hc : D.head? = some 120 ∨ D.head? = some 88
      · rw [if_pos hc, if_pos hc, numU_eq _ _ _ (by
          cases D with
          | nil => simp
          | cons y z => simp at hl ⊢; omega)]
      · rw [if_neg hc, if_neg hc, numU_eq _ _ _ (by omega)]
  · rw [if_neg h, num_plain _ h]


set_option maxRecDepth 100000 in
set_option maxHeartbeats 4000000 in
theorem number_any (s : ByteArray) (hs : s.size ≤ 8) (w : World) (hsyn : SynIn w) : Calls Tryz.prog 143 #[.string s] w (NumP s.data.toList w) := by
  obtain ⟨D, hD⟩ := text_of (if s.data.toList.head? = some 35 then s.data.toList.drop 1 else s.data.toList)
  obtain ⟨t, ht⟩ : ∃ t, decide (s.data.toList.head? = some 35) = t := ⟨_, rfl⟩
  obtain ⟨x, hx⟩ : ∃ x, decide (D.data.toList.head? = some 120) = x := ⟨_, rfl⟩
  obtain ⟨X, hX⟩ : ∃ X, decide (D.data.toList.head? = some 88) = X := ⟨_, rfl⟩
  have CC := cutP_hid s D 35 t ht hD
  have HM := Lib.hid (numM_is s.data.toList (by rw [lsize]; exact hs) D.data.toList t x X hD ht hx hX)
  have hDs : D.size ≤ 8 := by
    rw [← lsize, hD]
    split
    · rw [List.length_drop, lsize]; omega
    · rw [lsize]; exact hs
  have HS := Lib.hid hsyn
  clear hD ht hsyn
  cases x with
  | true =>
    have CH1 := hasP_hid D 120 true hx
    obtain ⟨E, hE⟩ := text_of (D.data.toList.drop 1)
    have hEs : E.size ≤ 8 := by rw [← lsize, hE, List.length_drop, lsize]; omega
    have hD1 : 1 ≤ D.size := by
      rw [← lsize]
      cases hq : D.data.toList with
      | nil => rw [hq] at hx; cases hx
      | cons a r => simp
    have s1 : ∀ W, (Instr.slice 9 (.string D) (some (.int .i64 1)) none none).run Tryz.prog W = .ok (.string E) W := slice_from D E 1 hD1 hE
    have CU := Lib.hid fun W hW => parseU16_any E hEs W hW
    have HM2 : Hid (numM s.data.toList = if t = true then numD 16 E.data.toList else none) := Lib.hid (by rw [HM.out, hE]; simp)
    clear hx hX HM hE
    have hlt := fun n (h : numD 16 E.data.toList = some n) => numD_lt8 (by decide) h (by rw [lsize]; omega)
    have HLT := Lib.hid hlt
    clear hlt
    go_enter Tryz.func143, Tryz.ntmps143
    go_wp2_with fail
    (with_reducible refine (CC.out _).mono ?_)
    rintro e w ⟨rfl, rfl⟩
    go_wp2_with fail
    (with_reducible refine (CH1.out _).mono ?_)
    rintro e w ⟨rfl, rfl⟩
    go_wp2_with fail
    (with_reducible refine (CU.out _ HS.out).mono ?_)
    rintro e w1 ⟨v, rfl, b1, hv⟩
    rcases hv with ⟨n, hn, rfl⟩ | ⟨hn, N, rfl⟩
    · have hn32 := HLT.out n hn
      have HN := Lib.hid hn
      clear hn
      cases t with
      | true =>
        have HR : Hid (numM s.data.toList = some n) := Lib.hid (by rw [HM2.out, HN.out]; rfl)
        clear HM2 HN
        go_wp2_with fail
        go_quiet (fail)
        go_wp2
        go_ret2
        exact ⟨(n : Int), true, rfl, belowN b1 _, .inl ⟨n, HR.out, rfl, rfl⟩⟩
      | false =>
        have HR : Hid (numM s.data.toList = none) := Lib.hid (by rw [HM2.out]; rfl)
        clear HM2 HN
        go_wp2_with fail
        go_quiet (fail)
        go_wp2
        go_ret2
        exact ⟨(n : Int), false, rfl, belowN b1 _, .inr ⟨HR.out, rfl⟩⟩
    · have HR : Hid (numM s.data.toList = none) := Lib.hid (by rw [HM2.out, hn]; cases t <;> rfl)
      clear hn HM2
      cases t with
      | true =>
        go_wp2_with fail
        go_quiet (fail)
        go_wp2
        go_ret2
        exact ⟨0, false, rfl, belowN b1 _, .inr ⟨HR.out, rfl⟩⟩
      | false =>
        go_wp2_with fail
        go_quiet (fail)
        go_wp2
        go_ret2
        exact ⟨0, false, rfl, belowN b1 _, .inr ⟨HR.out, rfl⟩⟩
  | false =>
  have CH1 := hasP_hid D 120 false hx
  cases X with
  | true =>
    have CH2 := hasP_hid D 88 true hX
    obtain ⟨E, hE⟩ := text_of (D.data.toList.drop 1)
    have hEs : E.size ≤ 8 := by rw [← lsize, hE, List.length_drop, lsize]; omega
    have hD1 : 1 ≤ D.size := by
      rw [← lsize]
      cases hq : D.data.toList with
      | nil => rw [hq] at hX; cases hX
      | cons a r => simp
    have s1 : ∀ W, (Instr.slice 9 (.string D) (some (.int .i64 1)) none none).run Tryz.prog W = .ok (.string E) W := slice_from D E 1 hD1 hE
    have CU := Lib.hid fun W hW => parseU16_any E hEs W hW
    have HM2 : Hid (numM s.data.toList = if t = true then numD 16 E.data.toList else none) := Lib.hid (by rw [HM.out, hE]; simp)
    clear hx hX HM hE
    have hlt := fun n (h : numD 16 E.data.toList = some n) => numD_lt8 (by decide) h (by rw [lsize]; omega)
    have HLT := Lib.hid hlt
    clear hlt
    go_enter Tryz.func143, Tryz.ntmps143
    go_wp2_with fail
    (with_reducible refine (CC.out _).mono ?_)
    rintro e w ⟨rfl, rfl⟩
    go_wp2_with fail
    (with_reducible refine (CH1.out _).mono ?_)
    rintro e w ⟨rfl, rfl⟩
    go_wp2_with fail
    (with_reducible refine (CH2.out _).mono ?_)
    rintro e w ⟨rfl, rfl⟩
    go_wp2_with fail
    (with_reducible refine (CU.out _ HS.out).mono ?_)
    rintro e w1 ⟨v, rfl, b1, hv⟩
    rcases hv with ⟨n, hn, rfl⟩ | ⟨hn, N, rfl⟩
    · have hn32 := HLT.out n hn
      have HN := Lib.hid hn
      clear hn
      cases t with
      | true =>
        have HR : Hid (numM s.data.toList = some n) := Lib.hid (by rw [HM2.out, HN.out]; rfl)
        clear HM2 HN
        go_wp2_with fail
        go_quiet (fail)
        go_wp2
        go_ret2
        exact ⟨(n : Int), true, rfl, belowN b1 _, .inl ⟨n, HR.out, rfl, rfl⟩⟩
      | false =>
        have HR : Hid (numM s.data.toList = none) := Lib.hid (by rw [HM2.out]; rfl)
        clear HM2 HN
        go_wp2_with fail
        go_quiet (fail)
        go_wp2
        go_ret2
        exact ⟨(n : Int), false, rfl, belowN b1 _, .inr ⟨HR.out, rfl⟩⟩
    · have HR : Hid (numM s.data.toList = none) := Lib.hid (by rw [HM2.out, hn]; cases t <;> rfl)
      clear hn HM2
      cases t with
      | true =>
        go_wp2_with fail
        go_quiet (fail)
        go_wp2
        go_ret2
        exact ⟨0, false, rfl, belowN b1 _, .inr ⟨HR.out, rfl⟩⟩
      | false =>
        go_wp2_with fail
        go_quiet (fail)
        go_wp2
        go_ret2
        exact ⟨0, false, rfl, belowN b1 _, .inr ⟨HR.out, rfl⟩⟩
  | false =>
    have CH2 := hasP_hid D 88 false hX
    obtain ⟨E, hE⟩ : ∃ E, D = E := ⟨_, rfl⟩
    have hEs : E.size ≤ 8 := by rw [← hE]; omega
    have CU := Lib.hid fun W hW => parseU10_any D (by omega) W hW
    have HM2 : Hid (numM s.data.toList = if t = true then numD 10 D.data.toList else none) := Lib.hid (by rw [HM.out]; simp)
    clear hx hX HM hE hEs
    have hlt := fun n (h : numD 10 D.data.toList = some n) => numD_lt8 (by decide) h (by rw [lsize]; omega)
    have HLT := Lib.hid hlt
    clear hlt
    go_enter Tryz.func143, Tryz.ntmps143
    go_wp2_with fail
    (with_reducible refine (CC.out _).mono ?_)
    rintro e w ⟨rfl, rfl⟩
    go_wp2_with fail
    (with_reducible refine (CH1.out _).mono ?_)
    rintro e w ⟨rfl, rfl⟩
    go_wp2_with fail
    (with_reducible refine (CH2.out _).mono ?_)
    rintro e w ⟨rfl, rfl⟩
    go_wp2_with fail
    (with_reducible refine (CU.out _ HS.out).mono ?_)
    rintro e w1 ⟨v, rfl, b1, hv⟩
    rcases hv with ⟨n, hn, rfl⟩ | ⟨hn, N, rfl⟩
    · have hn32 := HLT.out n hn
      have HN := Lib.hid hn
      clear hn
      cases t with
      | true =>
        have HR : Hid (numM s.data.toList = some n) := Lib.hid (by rw [HM2.out, HN.out]; rfl)
        clear HM2 HN
        go_wp2_with fail
        go_quiet (fail)
        go_wp2
        go_ret2
        exact ⟨(n : Int), true, rfl, belowN b1 _, .inl ⟨n, HR.out, rfl, rfl⟩⟩
      | false =>
        have HR : Hid (numM s.data.toList = none) := Lib.hid (by rw [HM2.out]; rfl)
        clear HM2 HN
        go_wp2_with fail
        go_quiet (fail)
        go_wp2
        go_ret2
        exact ⟨(n : Int), false, rfl, belowN b1 _, .inr ⟨HR.out, rfl⟩⟩
    · have HR : Hid (numM s.data.toList = none) := Lib.hid (by rw [HM2.out, hn]; cases t <;> rfl)
      clear hn HM2
      cases t with
      | true =>
        go_wp2_with fail
        go_quiet (fail)
        go_wp2
        go_ret2
        exact ⟨0, false, rfl, belowN b1 _, .inr ⟨HR.out, rfl⟩⟩
      | false =>
        go_wp2_with fail
        go_quiet (fail)
        go_wp2
        go_ret2
        exact ⟨0, false, rfl, belowN b1 _, .inr ⟨HR.out, rfl⟩⟩
theorem number_hid (s : ByteArray) (hs : s.size ≤ 8) : Hid (∀ W, SynIn W → Calls Tryz.prog 143 #[.string s] W (NumP s.data.toList W)) := Lib.hid fun W h => number_any s hs W h

end Go.Proofs.YtfbhpmafjehojaaGreatDoor

namespace Go.Proofs.YtfbhpmafjehojaaGreatDoor
open Go.RowKit

def MaxIn (w : World) : Prop := ∃ m, w.cell? ⟨2, 0, none⟩ = some (.int .i64 m)
theorem MaxIn.below {w w' : World} (h : MaxIn w) (hb : Below w.heap.size w w') : MaxIn w' := by
  obtain ⟨m, hm⟩ := h
  exact ⟨m, by rw [hb.cell (lt_of_cell hm)]; exact hm⟩
/-- What lies below, and is read. -/
structure Low (w : World) : Prop where
  m : MaxIn w
  s : SignsIn w
  e : SynIn w
theorem Low.below {w w' : World} (h : Low w) (hb : Below w.heap.size w w') : Low w' := ⟨h.m.below hb, h.s.below hb, h.e.below hb⟩
theorem Low.made {w : World} (h : Low w) (x : Obj) : Low (w.alloc x) := h.below ((Below.refl _ _).alloc (Nat.le_refl _) _)

theorem index_semi : ∀ l : List UInt8, (semi l = none ∧ Lib.index l [59] = -1) ∨ ∃ k : Nat, semi l = some k ∧ Lib.index l [59] = (k : Int)
  | [] => .inl ⟨rfl, rfl⟩
  | c :: r => by
    unfold semi Lib.index
    by_cases hc : c = 59
    · subst hc
      rw [if_pos (by simp)]
      exact .inr ⟨0, rfl, rfl⟩
    · have h2 : ¬ [59].isPrefixOf (c :: r) = true := by
        simp only [List.isPrefixOf, Bool.and_true, beq_iff_eq]
        exact fun e => hc e.symm
      rw [if_neg h2, if_neg hc]
      rcases index_semi r with ⟨h3, h4⟩ | ⟨k, h3, h4⟩
      · rw [h3, h4]; exact .inl ⟨rfl, rfl⟩
      · rw [h3, h4]
        refine .inr ⟨k + 1, rfl, ?_⟩
        rw [if_neg (by simp)]
        simp
theorem cut_semi_no (l : List UInt8) (h : semi l = none) : Lib.cut l [59] = (l, [], false) := by
  unfold Lib.cut
  rcases index_semi l with ⟨_, h2⟩ | ⟨k, h1, _⟩
  · rw [h2]; rfl
  · rw [h] at h1; cases h1
theorem cut_semi_at (l : List UInt8) (k : Nat) (h : semi l = some k) : Lib.cut l [59] = (l.take k, l.drop (k + 1), true) := by
  unfold Lib.cut
  rcases index_semi l with ⟨h1, _⟩ | ⟨j, h1, h2⟩
  · rw [h] at h1; cases h1
  · rw [h] at h1
    injection h1 with h1
    subst h1
    rw [h2, if_pos (by omega)]
    simp
theorem cutS_hid (L A R : ByteArray) (r : Bool) (h : Lib.cut L.data.toList [59] = (A.data.toList, R.data.toList, r)) (hL : L.size ≤ 1000000) : Hid (∀ W, MaxIn W → Calls Tryz.prog 141 #[.string L, .string ⟨#[59]⟩] W fun e w' => e = .returned (.tuple #[.string A, .string R, .bool r]) ∧ Below W.heap.size W w') := Lib.hid fun W hm => by
  obtain ⟨m, hm⟩ := hm
  have C := Tryz.strings_Cut L ⟨#[59]⟩ m W (by omega) hm
  rw [show (⟨#[59]⟩ : ByteArray).data.toList = [59] from rfl, h] at C
  simp only [] at C
  rw [← text_is (T := A) rfl, ← text_is (T := R) rfl] at C
  exact C.mono fun e w' ⟨h1, n, h2⟩ => ⟨h1, by rw [h2]; exact belowN (Below.refl _ _) n⟩

theorem semi_take : ∀ (r : List UInt8) (m : Nat), semi (r.take m) = (semi r).bind fun k => if k < m then some k else none
  | [], m => by simp [semi]
  | c :: r, 0 => by
    cases h : semi (c :: r) <;> simp [semi]
  | c :: r, m + 1 => by
    rw [List.take_succ_cons]
    unfold semi
    by_cases hc : c = 59
    · rw [if_pos hc, if_pos hc]; simp
    · rw [if_neg hc, if_neg hc, semi_take r m]
      cases semi r with
      | none => rfl
      | some k =>
        by_cases hk : k < m
        · simp [hk]
        · simp [hk]
/-- The first nine bytes tell it. -/
theorem first_nine (r : List UInt8) : firstM (38 :: r) = match semi (r.take 9) with
    | some k => (signM (r.take k)).map fun p => (p.1, p.2, k + 2)
    | none => none := by
  rw [first_amp, semi_take]
  cases hs : semi r with
  | none => rfl
  | some k =>
    by_cases hk : k < 9
    · simp [hk]
    · have h8 : signM (r.take k) = none := sign_long (by
        have := (semi_lt hs).1
        rw [List.length_take]; omega)
      simp [hk, h8]

/-- What first answers. -/
def FirstP (l : List UInt8) (W : World) (e : Ending) (w' : World) : Prop :=
  ∃ (T : ByteArray) (k : Nat), e = .returned (.tuple #[.string T, .int .i64 (k : Int)]) ∧ Below W.heap.size W w' ∧ ((firstM l = none ∧ k = 0 ∧ T = ⟨#[]⟩) ∨ ∃ t b, firstM l = some (t, b, k) ∧ T.data.toList = if b = true then [] else t)
theorem first_no {l : List UInt8} {W w' : World} (h : firstM l = none) (b : Below W.heap.size W w') : FirstP l W (.returned (.tuple #[.string ⟨#[]⟩, .int .i64 0])) w' := ⟨⟨#[]⟩, 0, rfl, b, .inl ⟨h, rfl, rfl⟩⟩

set_option maxRecDepth 100000 in
set_option maxHeartbeats 4000000 in
theorem first_any (s : ByteArray) (hs : s.size ≤ 1000000) (w : World) (hlow : Low w) : Calls Tryz.prog 126 #[.string s] w (FirstP s.data.toList w) := by
  obtain ⟨D, hD⟩ := text_of (if s.data.toList.head? = some 38 then s.data.toList.drop 1 else s.data.toList)
  have HLow := Lib.hid hlow
  clear hlow
  by_cases ha : s.data.toList.head? = some 38
  · have CC := cutP_hid s D 38 true (decide_eq_true ha) hD
    rw [if_pos ha] at hD
    have hl : s.data.toList = 38 :: D.data.toList := by
      cases hq : s.data.toList with
      | nil => rw [hq] at ha; cases ha
      | cons a r => rw [hq] at ha hD; injection ha with ha; subst ha; rw [hD]; rfl
    have hDs : D.size + 1 = s.size := by rw [← lsize s, hl, ← lsize D]; rfl
    have hf := first_nine D.data.toList
    rw [← hl] at hf
    obtain ⟨M, hM⟩ := text_of (D.data.toList.take 9)
    obtain ⟨m, hm⟩ : ∃ m : Nat, m = min D.size 9 := ⟨_, rfl⟩
    have hMt : M.data.toList = D.data.toList.take m := by
      rw [hM, hm]
      by_cases h9 : D.size ≤ 9
      · rw [Nat.min_eq_left h9, ← lsize D, List.take_length, List.take_of_length_le (by rw [lsize]; exact h9)]
      · rw [Nat.min_eq_right (by omega)]
    have hmD : m ≤ D.size := by rw [hm]; exact Nat.min_le_left _ _
    have hm9 : m ≤ 9 := by rw [hm]; exact Nat.min_le_right _ _
    have hMs : M.size = m := by rw [← lsize, hMt, List.length_take, lsize]; omega
    have s1 := slice_to D M m hmD hMt
    have hmin : min (D.size : Int) 9 = (m : Int) := by rw [hm]; omega
    rw [← hM] at hf
    cases hsm : semi M.data.toList with
    | none =>
      have C2 := cutS_hid M M ⟨#[]⟩ false (cut_semi_no _ hsm) (by omega)
      rw [hsm] at hf
      have HF := Lib.hid hf
      clear hf hsm hl hD ha hM hMt hm hMs hm9
      go_enter Tryz.func126, Tryz.ntmps126
      go_wp2_with fail
      refine (CC.out _).mono ?_
      rintro e w ⟨rfl, rfl⟩
      go_wp2_with fail
      refine (C2.out _ HLow.out.m).mono ?_
      rintro e w1 ⟨rfl, b1⟩
      go_wp2
      go_ret2
      exact first_no HF.out b1
    | some k =>
      obtain ⟨I, hI⟩ := text_of (M.data.toList.take k)
      obtain ⟨R, hR⟩ := text_of (M.data.toList.drop (k + 1))
      have C2 := cutS_hid M I R true (by rw [cut_semi_at _ _ hsm, hI, hR]) (by omega)
      rw [hsm] at hf
      obtain ⟨hk, _, _⟩ := semi_lt hsm
      rw [lsize] at hk
      have hIs : I.size = k := by rw [← lsize, hI, List.length_take, lsize]; omega
      have hID : I.data.toList = D.data.toList.take k := by
        rw [hI, hMt, List.take_take, Nat.min_eq_left (by omega)]
      simp only at hf
      rw [← hID] at hf
      have hk8 : k ≤ 8 := by omega
      have hz1 : (1 : Int) + (I.size : Int) + 1 = ((k + 2 : Nat) : Int) := by omega
      obtain ⟨T1, hT1⟩ := text_of (nameM I.data.toList)
      obtain ⟨r, hr⟩ : ∃ r, decide (nameM I.data.toList ≠ []) = r := ⟨_, rfl⟩
      have C3 := nameP_hid I T1 hT1 r hr
      have C4 := number_hid I (by omega)
      have hI0 : 0 ≤ (I.size : Int) := by omega
      have hI8 : (I.size : Int) ≤ 8 := by omega
      cases r with
      | true =>
        have hne := of_decide_eq_true hr
        rw [sign_name hne] at hf
        have HF : Hid (firstM s.data.toList = some (nameM I.data.toList, false, k + 2)) := Lib.hid hf
        have HT := Lib.hid hT1
        have HZ := Lib.hid hz1
        clear hf hsm hl hD ha hM hMt hm hMs hm9 hI hR hID hr hne hT1 hz1 hIs hk
        go_enter Tryz.func126, Tryz.ntmps126
        go_wp2_with fail
        refine (CC.out _).mono ?_
        rintro e w ⟨rfl, rfl⟩
        go_wp2_with fail
        refine (C2.out _ HLow.out.m).mono ?_
        rintro e w1 ⟨rfl, b1⟩
        go_wp2_with fail
        refine (C3.out _ (HLow.out.below b1).s).mono ?_
        rintro e w2 ⟨rfl, b2⟩
        go_wp2
        go_ret2
        exact ⟨T1, k + 2, by rw [← HZ.out]; rfl, b1.trans (b2.mono b1.size), .inr ⟨_, _, HF.out, HT.out⟩⟩
      | false =>
        have hne : nameM I.data.toList = [] := by simpa using of_decide_eq_false hr
        obtain rfl : T1 = ⟨#[]⟩ := text_is (hT1.trans hne)
        have HNE := Lib.hid hne
        have HF := Lib.hid hf
        have HZ := Lib.hid hz1
        clear hf hsm hl hD ha hM hMt hm hMs hm9 hI hR hID hr hne hT1 hz1 hIs hk
        go_enter Tryz.func126, Tryz.ntmps126
        go_wp2_with fail
        refine (CC.out _).mono ?_
        rintro e w ⟨rfl, rfl⟩
        go_wp2_with fail
        refine (C2.out _ HLow.out.m).mono ?_
        rintro e w1 ⟨rfl, b1⟩
        go_wp2_with fail
        refine (C3.out _ (HLow.out.below b1).s).mono ?_
        rintro e w2 ⟨rfl, b2⟩
        have B2 := b1.trans (b2.mono b1.size)
        go_wp2_with fail
        refine (C4.out _ (HLow.out.below B2).e).mono ?_
        rintro e w3 ⟨n, b, rfl, b3, hv⟩
        have B3 := B2.trans (b3.mono B2.size)
        rcases hv with ⟨N, hn, rfl, rfl⟩ | ⟨hn, rfl⟩
        · obtain ⟨T, hT⟩ := text_of (if N = 0 ∨ ¬ isPt N then [] else encN N)
          have C5 := pointT_hid N T hT
          have HV : Hid (∃ t b, firstM s.data.toList = some (t, b, k + 2) ∧ T.data.toList = if b = true then [] else t) := Lib.hid (by
            by_cases h0 : N = 0 ∨ ¬ isPt N
            · exact ⟨badT, true, by rw [HF.out, sign_bad HNE.out hn h0]; rfl, by rw [hT, if_pos h0]; rfl⟩
            · refine ⟨encN N, false, ?_, by rw [hT, if_neg h0]; rfl⟩
              rw [HF.out, sign_point HNE.out hn (fun e => h0 (.inl e)) (Classical.byContradiction fun g => h0 (.inr g))]
              rfl)
          clear hn hT HF HNE
          go_wp2_with fail
          refine (C5.out _).mono ?_
          rintro e w4 ⟨rfl, b4⟩
          go_wp2
          go_ret2
          exact ⟨T, k + 2, by rw [← HZ.out]; rfl, B3.trans (b4.mono B3.size), .inr HV.out⟩
        · have HV : Hid (firstM s.data.toList = none) := Lib.hid (by rw [HF.out, sign_none HNE.out hn]; rfl)
          clear hn HF HNE
          go_wp2
          go_ret2
          exact first_no HV.out B3
  · have CC := cutP_hid s D 38 false (decide_eq_false ha) hD
    have HF : Hid (firstM s.data.toList = none) := Lib.hid (by
      cases hq : s.data.toList with
      | nil => rfl
      | cons a r => exact first_plain a r (fun e => ha (by rw [hq, e]; rfl)))
    clear ha hD
    go_enter Tryz.func126, Tryz.ntmps126
    go_wp2_with fail
    refine (CC.out _).mono ?_
    rintro e w ⟨rfl, rfl⟩
    go_wp2
    go_ret2
    exact first_no HF.out (Below.refl _ _)
theorem first_hid (s : ByteArray) (hs : s.size ≤ 1000000) : Hid (∀ W, Low W → Calls Tryz.prog 126 #[.string s] W (FirstP s.data.toList W)) := Lib.hid fun W h => first_any s hs W h

end Go.Proofs.YtfbhpmafjehojaaGreatDoor
