/- One sign: the program's number, the document's value; texts without their =; a text's form, the program's. A text's form: the program's, the document's; a sign's value, a text's head, a text as it is written: the document's. A text's head, a text's form, a text as it is written: the document's. Bits in groups: the program's regroup. Rows that are written: signs of numbers, numbers of signs: the program's. Encode and Decode: the program's. -/
import Derived.Test.YthnogdodlhkldaaGreatDoorProg
import Derived.Test.YthnogdodlhkldaaGreatDoorPureA
import Derived.Test.YthnogdodlhkldaaGreatDoorWalkX
import Derived.Test.YthnogdodlhkldaaGreatDoorShelf
import Derived.Test.YthnogdodlhkldaaGreatDoorShelfC
import Derived.WalkKit
import Derived.WalkSpells
import Derived.WalkLawsBesides
import Derived.BigQuiet
import Derived.Deep.QuietTactic
import Derived.Deep.LoopGhost
import Derived.Outline
import Derived.Lib.SlBytesRow
import Derived.Lib.SlBytesConst
import Derived.Lib.ConvBytes
import Derived.Lib.SmallJoins
import Derived.Lib.Hide
import Derived.OwnWalk
namespace Go.Proofs.YthnogdodlhkldaaGreatDoor
open Go.RowKit

/-- The program's index of a sign. -/
theorem sign_at (c : UInt8) (n : Int) (hn : Lib.indexByte SG c = n) : Hid (∀ W, Calls Tryz.prog 120 #[.string ⟨SG.toArray⟩, .int .u8 (c.toNat : Int)] W fun e w' => e = .returned (.int .i64 n) ∧ w' = W) :=
  Lib.hid fun W => by
    have h := Tryz.strings_IndexByte ⟨SG.toArray⟩ (c.toNat : Int) W
    have e : ((c.toNat : Int)).toNat.toUInt8 = c := by simp
    rw [e] at h
    rw [← hn]
    exact h
theorem numberK_any (c : UInt8) (w : World) : Calls Tryz.prog 227 #[.int .u8 (c.toNat : Int)] w fun e w' => e = .returned (.int .i64 (val c)) ∧ w' = w := by
  have hb : c.toNat ≤ 255 := by have := c.toNat_lt; omega
  by_cases h1 : c = 45
  · subst h1
    have C := sign_at 43 (val 45) rfl
    generalize val 45 = n at *
    go_enter Tryz.func227, Tryz.ntmps227
    go_wp2_with (go_at_call 120; refine (C.out _).mono ?_; rintro e w' ⟨rfl, rfl⟩)
    go_ret
    exact ⟨rfl, rfl⟩
  by_cases h2 : c = 95
  · subst h2
    have C := sign_at 47 (val 95) rfl
    generalize val 95 = n at *
    go_enter Tryz.func227, Tryz.ntmps227
    go_wp2_with (go_at_call 120; refine (C.out _).mono ?_; rintro e w' ⟨rfl, rfl⟩)
    go_ret
    exact ⟨rfl, rfl⟩
  · have C := sign_at c (val c) (by unfold val; rw [plB_id h1 h2])
    have g1 : ((c.toNat : Int) == 45) = false := by
      rw [beq_eq_false_iff_ne]; exact fun h => h1 (byte_is (d := 45) h)
    have g2 : ((c.toNat : Int) == 95) = false := by
      rw [beq_eq_false_iff_ne]; exact fun h => h2 (byte_is (d := 95) h)
    generalize val c = n at *
    clear h1 h2
    go_enter Tryz.func227, Tryz.ntmps227
    go_wp2_with (go_at_call 120; refine (C.out _).mono ?_; rintro e w' ⟨rfl, rfl⟩)
    go_ret
    exact ⟨rfl, rfl⟩
theorem numberK_hid (c : UInt8) (n : Int) (h : val c = n) : Hid (∀ W, Calls Tryz.prog 227 #[.int .u8 (c.toNat : Int)] W fun e w' => e = .returned (.int .i64 n) ∧ w' = W) :=
  Lib.hid fun W => by rw [← h]; exact numberK_any c W

theorem without_any (s : ByteArray) (T : ByteArray) (hT : T.data.toList = hd s.data.toList) (hs : s.size ≤ 9223372036854775807) (w : World) : Calls Tryz.prog 221 #[.string s] w fun e w' => e = .returned (.string T) ∧ w' = w := by
  have C : Hid (∀ W, Calls Tryz.prog 257 #[.string s, .string ⟨#[61]⟩] W fun e w' => e = .returned (.string T) ∧ w' = W) := Lib.hid fun W => by
    rw [text_is hT]; exact Tryz.strings_TrimRight_one s 61 (by decide) W hs
  clear hT
  go_enter Tryz.func221, Tryz.ntmps221
  go_wp2_with (go_at_call 257; refine (C.out _).mono ?_; rintro e w' ⟨rfl, rfl⟩)
  go_ret
  exact ⟨rfl, rfl⟩

end Go.Proofs.YthnogdodlhkldaaGreatDoor

namespace Go.Proofs.YthnogdodlhkldaaGreatDoor
open Go.RowKit

theorem good_take {h : List UInt8} (k : Nat) (hk : k < h.length) (e : 0 ≤ val h[k]) (p : good (h.take k) = true) : good (h.take (k + 1)) = true := by
  rw [List.take_succ_eq_append_getElem hk]
  unfold good at *
  rw [List.all_append, p]
  simpa using e
theorem good_not {h : List UInt8} (k : Nat) (hk : k < h.length) (e : val h[k] < 0) : good h = false := by
  cases hg : good h with
  | false => rfl
  | true =>
    have := good_mem hg h[k] (List.getElem_mem hk)
    omega

set_option maxRecDepth 100000 in
set_option maxHeartbeats 1000000 in
theorem form_any (s : ByteArray) (hs : s.size ≤ 1099511627776) (w : World) : Calls Tryz.prog 182 #[.string s] w fun e w' => e = .returned (.bool (formM s.data.toList)) ∧ w' = w := by
  obtain ⟨T, hT⟩ := text_of (hd s.data.toList)
  have C : Hid (∀ W, Calls Tryz.prog 221 #[.string s] W fun e w' => e = .returned (.string T) ∧ w' = W) := Lib.hid fun W => without_any s T hT (by omega) W
  have hle : T.size ≤ s.size := by rw [← lsize T, ← lsize s, hT]; exact hd_le _
  have hF : formM s.data.toList = (!T.data.toList.isEmpty && decide (s.size - T.size ≤ 2) && good T.data.toList) := by
    unfold formM; rw [← hT, lsize, lsize]
  by_cases h0 : T.data.toList = []
  · have g : T.toList.isEmpty = true := by rw [text_empty, h0]; rfl
    have HF : Hid (formM s.data.toList = false) := Lib.hid (by rw [hF, h0]; rfl)
    clear hT hF h0
    go_enter Tryz.func182, Tryz.ntmps182
    go_wp2_with (go_at_call 221; refine (C.out _).mono ?_; rintro e w' ⟨rfl, rfl⟩)
    go_ret
    exact ⟨ret_bool HF.out.symm, rfl⟩
  have g : T.toList.isEmpty = false := by
    rw [text_empty]
    cases h : T.data.toList with
    | nil => exact absurd h h0
    | cons => rfl
  by_cases h2 : 2 < (s.size : Int) - (T.size : Int)
  · have HF : Hid (formM s.data.toList = false) := Lib.hid (by rw [hF, decide_eq_false (by omega)]; simp)
    clear hT hF h0
    go_enter Tryz.func182, Tryz.ntmps182
    go_wp2_with (go_at_call 221; refine (C.out _).mono ?_; rintro e w' ⟨rfl, rfl⟩)
    go_ret
    exact ⟨ret_bool HF.out.symm, rfl⟩
  · have HF : Hid (formM s.data.toList = good T.data.toList) := Lib.hid (by
      have : T.data.toList.isEmpty = false := by rw [← text_empty]; exact g
      rw [hF, this, decide_eq_true (by omega)]; rfl)
    clear hT hF h0
    go_enter Tryz.func182, Tryz.ntmps182
    go_wp2_with (go_at_call 221; refine (C.out _).mono ?_; rintro e w' ⟨rfl, rfl⟩)
    go_loop [4, 19] (fun _ i => ∃ k : Nat, k ≤ T.size ∧ i = .int .i64 k ∧ Hid (good (T.data.toList.take k) = true)) (fun _ i => T.size - (intOf i).toNat)
    case atStart => exact ⟨0, by omega, rfl, Lib.hid rfl⟩
    case round =>
      obtain ⟨k, hk, rfl, HS⟩ := hrel
      by_cases hlt : k < T.size
      · have hk' : k < T.data.toList.length := by rw [lsize]; exact hlt
        have hg : T.data.toList[k] = T[k] := rfl
        have hn1 := good_take k hk'
        have hn2 := good_not k hk'
        rw [hg] at hn1 hn2
        obtain ⟨n, hn⟩ : ∃ n, val T[k] = n := ⟨_, rfl⟩
        have D := numberK_hid T[k] n hn
        rw [hn] at hn1 hn2
        by_cases hneg : n < 0
        · have HR : Hid (false = formM s.data.toList) := Lib.hid (by rw [HF.out, hn2 hneg])
          clear hn hn1 hn2 hg
          go_wp2_with (go_at_call 227; refine (D.out _).mono ?_; rintro e w' ⟨rfl, rfl⟩)
          go_ret
          exact ⟨ret_bool HR.out, rfl⟩
        · have HR := Lib.hid (hn1 (by omega) HS.out)
          clear hn hn1 hn2 hg
          go_wp2_with (go_at_call 227; refine (D.out _).mono ?_; rintro e w' ⟨rfl, rfl⟩)
          go_round
          case rel => exact ⟨k + 1, by omega, by go_num, HR⟩
          case measure => simp [intOf]; omega
      · obtain rfl : k = T.size := by omega
        have HR : Hid (true = formM s.data.toList) := Lib.hid (by rw [HF.out, ← HS.out, take_all])
        go_wp2
        go_ret
        exact ⟨ret_bool HR.out, rfl⟩

end Go.Proofs.YthnogdodlhkldaaGreatDoor

namespace Go.Proofs.YthnogdodlhkldaaGreatDoor
open Go.RowKit

end Go.Proofs.YthnogdodlhkldaaGreatDoor

namespace Go.Proofs.YthnogdodlhkldaaGreatDoor
open Go.RowKit

def natCells (m : List Nat) : List Value := m.map fun (x : Nat) => Value.int .u8 (x : Int)
theorem natCells_snoc (m : List Nat) (x : Nat) : natCells (m ++ [x]) = natCells m ++ [.int .u8 (x : Int)] := by simp [natCells]
/-- A slice of small numbers that reads as this list. -/
def NatsIn (w : World) (v : Value) (l : List Nat) : Prop :=
  ((∃ a c, v = .slice a 0 c) ∧ l = []) ∨ ∃ B off cap, v = .slice (some ⟨B, off, none⟩) l.length cap ∧ ∀ j, (h : j < l.length) → w.cell? ⟨B, off + j, none⟩ = some (.int .u8 (l[j] : Int))
theorem NatsIn.below {w w' : World} {v : Value} {p : List Nat} (h : NatsIn w v p) (hb : Below w.heap.size w w') : NatsIn w' v p := by
  rcases h with h | ⟨B, off, cap, h1, h2⟩
  · exact .inl h
  · exact .inr ⟨B, off, cap, h1, fun j hj => by rw [hb.cell (lt_of_cell (h2 j hj))]; exact h2 j hj⟩
theorem NatsIn.form {w : World} {v : Value} {p : List Nat} (h : NatsIn w v p) : ∃ a c, v = .slice a p.length c := by
  rcases h with ⟨⟨a, c, rfl⟩, rfl⟩ | ⟨B, off, cap, rfl, _⟩
  · exact ⟨_, _, rfl⟩
  · exact ⟨_, _, rfl⟩
theorem NatsIn.of_row {w : World} {base : Nat} {v : Value} {p : List Nat} (h : w.ownsRow base 5 1 v p.length (natCells p)) : NatsIn w v p := by
  rcases rowForms h with ⟨h1, h2⟩ | ⟨g, cap, rfl⟩
  · exact .inl ⟨⟨_, _, h1⟩, List.length_eq_zero_iff.1 h2⟩
  · refine .inr ⟨g, 0, cap, rfl, fun j hj => ?_⟩
    rw [Nat.zero_add, h.cellAt j (by omega)]
    simp [natCells, List.getElem?_eq_getElem hj]

theorem flat_part (f : Nat) (l : List Nat) (k j : Nat) (hk : k < l.length) (hj : j < f) : flat f (l.take k) ++ (bitsN f l[k]).take (j + 1) = flat f (l.take k) ++ (bitsN f l[k]).take j ++ [l[k] / 2 ^ (f - 1 - j) % 2 == 1] := by
  rw [List.take_add_one, bitsN_get f l[k] j hj, List.append_assoc]
  rfl

theorem and_one (y : Nat) (h : y ≤ 255) : bits .and .u8 (y : Int) 1 = ((y % 2 : Nat) : Int) := by
  have : ∀ m : Fin 256, bits .and .u8 (m.val : Int) 1 = ((m.val % 2 : Nat) : Int) := by decide +kernel
  exact this ⟨y, by omega⟩
theorem or_two (a b : Nat) (h : a ≤ 127) (h2 : b ≤ 1) : bits .or .u8 ((a : Int) * 2) (b : Int) = ((2 * a + b : Nat) : Int) := by
  have : ∀ m : Fin 128, bits .or .u8 ((m.val : Int) * 2) ((0 : Nat) : Int) = ((2 * m.val + 0 : Nat) : Int) ∧ bits .or .u8 ((m.val : Int) * 2) ((1 : Nat) : Int) = ((2 * m.val + 1 : Nat) : Int) := by decide +kernel
  have := this ⟨a, by omega⟩
  obtain rfl | rfl : b = 0 ∨ b = 1 := by omega
  · exact this.1
  · exact this.2
theorem bit_in (a x c : Nat) (ha : a ≤ 127) (hx : x ≤ 255) : bits .or .u8 ((a : Int) * 2) (bits .and .u8 ((x : Int) / 2 ^ c) 1) = ((2 * a + (x / 2 ^ c % 2 == 1).toNat : Nat) : Int) := by
  have e : ((x : Int) / 2 ^ c) = ((x / 2 ^ c : Nat) : Int) := by rw [Int.natCast_ediv, Int.natCast_pow]; rfl
  have hle : x / 2 ^ c ≤ 255 := Nat.le_trans (Nat.div_le_self _ _) hx
  rw [e, and_one _ hle, or_two a _ ha (by omega)]
  rcases Nat.mod_two_eq_zero_or_one (x / 2 ^ c) with h | h <;> rw [h] <;> rfl
theorem num_127 {t : Nat} {h : List Bool} (ht : t ≤ 8) (hl : h.length < t) : num h ≤ 127 := by
  have h1 := num_lt h
  have h2 : 2 ^ h.length ≤ 2 ^ 7 := Nat.pow_le_pow_right (by decide) (by omega)
  omega

set_option maxRecDepth 100000 in
set_option maxHeartbeats 1000000 in
theorem regroup_any (f t : Nat) (hf : 1 ≤ f) (hf2 : f ≤ 8) (ht : 1 ≤ t) (ht2 : t ≤ 8) (l : List Nat) (hl8 : ∀ x ∈ l, x ≤ 255) (v : Value) (w : World) (hin : NatsIn w v l) (hl : l.length ≤ 1000000) :
    Calls Tryz.prog 51 #[v, .int .i64 (f : Int), .int .i64 (t : Int)] w fun e w' => (∃ u, e = .returned (.tuple #[u, .int .u8 (num (grp t (flat f l)).2 : Nat), .int .i64 ((grp t (flat f l)).2.length : Nat)]) ∧ w'.ownsRow w.heap.size 5 1 u (grp t (flat f l)).1.length (natCells (grp t (flat f l)).1)) ∧ Below w.heap.size w w' := by
  obtain ⟨a, c, rfl⟩ := hin.form
  have hcell : Hid (∀ j, (h : j < l.length) → ∃ B off, a = some ⟨B, off, none⟩ ∧ B < w.heap.size ∧ w.cell? ⟨B, off + j, none⟩ = some (.int .u8 (l[j] : Int))) := Lib.hid fun j h => by
    rcases hin with ⟨_, h2⟩ | ⟨B, off, cap, h1, h2⟩
    · subst h2; simp at h
    · cases h1
      exact ⟨B, off, rfl, lt_of_cell (h2 j h), h2 j h⟩
  obtain ⟨z, hz⟩ : ∃ z : Nat, (l.length : Int) * (f : Int) / (t : Int) + 1 = (z : Int) := ⟨l.length * f / t + 1, by rw [Int.natCast_add, Int.natCast_ediv, Int.natCast_mul]; rfl⟩
  have hmul : (l.length : Int) * (f : Int) ≤ 8000000 := by
    have := Nat.mul_le_mul hl hf2
    rw [← Int.natCast_mul]; omega
  have hmul0 : 0 ≤ (l.length : Int) * (f : Int) := by rw [← Int.natCast_mul]; omega
  have hz9 : z ≤ 8000001 := by
    have h1 : (l.length : Int) * (f : Int) / (t : Int) ≤ (l.length : Int) * (f : Int) := Int.ediv_le_self _ hmul0
    omega
  have htz : ((t : Int) == 0) = false := by rw [beq_eq_false_iff_ne]; omega
  have ht0 : ¬ (t : Int) = 0 := by omega
  obtain ⟨i0, hi, hz0, hz1, hz2⟩ := info_parts Tinfo5
  obtain ⟨W1, hmk, hown, hgr⟩ := run_make_own (P := Tryz.prog) w w.heap.size 85 5 i0 _ 1 Tryz.underlying85 hi hz0 hz1 .i64 .i64 z (by rw [hz2]; omega) (by unfold maxLen; omega) (Nat.le_refl _)
  have hmk2 : (Instr.makeSlice 85 (.int .i64 0) (.int .i64 (z : Int))).run Tryz.prog w = .ok (.slice (some ⟨w.heap.size, 0, none⟩) 0 z) W1 := hmk
  have B1 : Below w.heap.size w W1 := Below.grown (Below.refl _ _) hgr (Nat.le_refl _) (fun k hk => by cases hk)
  generalize hv : (Value.slice (some ⟨w.heap.size, 0, none⟩) 0 z) = v0 at hmk2 hown
  have sizes : ∀ k j x, k ≤ l.length → j ≤ f → (grp t (flat f (l.take k) ++ (bitsN f x).take j)).2.length < t ∧ (grp t (flat f (l.take k) ++ (bitsN f x).take j)).1.length ≤ 8000008 := fun k j x hk hj => by
    obtain ⟨h1, h2, _⟩ := grp_spec t (by omega) (flat f (l.take k) ++ (bitsN f x).take j)
    refine ⟨h2, ?_⟩
    have h3 := congrArg List.length h1
    rw [List.length_append, List.length_append, flat_length, flat_length, List.length_take, List.length_take, bitsN_length] at h3
    have h4 : f * min k l.length ≤ 8 * 1000000 := Nat.mul_le_mul hf2 (by omega)
    have h5 : 1 * (grp t (flat f (l.take k) ++ (bitsN f x).take j)).1.length ≤ t * (grp t (flat f (l.take k) ++ (bitsN f x).take j)).1.length := Nat.mul_le_mul_right _ ht
    omega
  have SZ := Lib.hid sizes
  clear hin hmk hgr hv sizes
  go_enter Tryz.func51, Tryz.ntmps51
  go_wp2
  go_loopw [9, 10, 11, 25] (fun v hh cc i wr => ∃ k : Nat, k ≤ l.length ∧ i = .int .i64 k ∧ hh = .int .u8 (num (grp t (flat f (l.take k))).2 : Nat) ∧ cc = .int .i64 ((grp t (flat f (l.take k))).2.length : Nat) ∧ wr.ownsRow w.heap.size 5 1 v (grp t (flat f (l.take k))).1.length (natCells (grp t (flat f (l.take k))).1) ∧ Below w.heap.size w wr) (fun _ _ _ i _ => l.length - (intOf i).toNat)
  case atStart => exact ⟨0, Nat.zero_le _, rfl, rfl, rfl, hown, B1⟩
  case round =>
    obtain ⟨k, hk, rfl, rfl, rfl, hown, hb⟩ := hrel
    obtain ⟨wo, rfl⟩ : ∃ wo : World, wo = wr := ⟨_, rfl⟩
    by_cases hlt : k < l.length
    · obtain ⟨B, off, rfl, hB, hc⟩ := hcell.out k hlt
      have hc1 : wo.cell? ⟨B, off + k, none⟩ = some (.int .u8 (l[k] : Int)) := by rw [hb.cell hB, hc]
      obtain ⟨x, hx⟩ : ∃ x, x = l[k] := ⟨_, rfl⟩
      rw [← hx] at hc1
      have hx8 : x ≤ 255 := by rw [hx]; exact hl8 _ (List.getElem_mem hlt)
      have HN : Hid (flat f (l.take (k + 1)) = flat f (l.take k) ++ (bitsN f x).take f) := Lib.hid (by
        have h0 : (bitsN f x).take f = bitsN f x := List.take_of_length_le (by rw [bitsN_length]; exact Nat.le_refl _)
        rw [flat_take f l k x (by rw [hx]; exact List.getElem?_eq_getElem hlt), h0])
      have HJ : Hid (∀ j, j < f → flat f (l.take k) ++ (bitsN f x).take (j + 1) = flat f (l.take k) ++ (bitsN f x).take j ++ [x / 2 ^ (f - 1 - j) % 2 == 1]) := Lib.hid fun j hj => by
        rw [hx]; exact flat_part f l k j hlt hj
      have SZ2 := Lib.hid fun j => SZ.out k j x hk
      clear hx hc hcell B1 hmk2 SZ
      generalize flat f (l.take k) = F at *
      go_wp2
      go_loopw [9, 10, 11, 30] (fun v hh cc i wr => ∃ j : Nat, j ≤ f ∧ i = .int .i64 j ∧ hh = .int .u8 (num (grp t (F ++ (bitsN f x).take j)).2 : Nat) ∧ cc = .int .i64 ((grp t (F ++ (bitsN f x).take j)).2.length : Nat) ∧ wr.ownsRow w.heap.size 5 1 v (grp t (F ++ (bitsN f x).take j)).1.length (natCells (grp t (F ++ (bitsN f x).take j)).1) ∧ Below w.heap.size w wr) (fun _ _ _ i _ => f - (intOf i).toNat)
      case atStart => exact ⟨0, Nat.zero_le _, rfl, by rw [List.take_zero, List.append_nil], by rw [List.take_zero, List.append_nil], by rw [List.take_zero, List.append_nil]; exact hown, hb⟩
      case round =>
        clear hown hb
        obtain ⟨j, hj, rfl, rfl, rfl, hown, hb⟩ := hrel
        by_cases hjt : j < f
        · obtain ⟨s1, s2⟩ := SZ2.out j hj
          have hstep := grp_snoc t (F ++ (bitsN f x).take j) (x / 2 ^ (f - 1 - j) % 2 == 1)
          rw [← HJ.out j hjt] at hstep
          generalize grp t (F ++ (bitsN f x).take j) = g at *
          obtain ⟨m, h⟩ := g
          simp only at hown s1 s2 ⊢
          have hh8 := num_127 ht2 s1
          have hval := bit_in (num h) x (f - 1 - j) hh8 hx8
          have hns := num_snoc h (x / 2 ^ (f - 1 - j) % 2 == 1)
          rw [← hns] at hval
          have hv255 : num (h ++ [x / 2 ^ (f - 1 - j) % 2 == 1]) ≤ 255 := by
            rw [hns]
            cases (x / 2 ^ (f - 1 - j) % 2 == 1) <;> simp <;> omega
          unfold stepG at hstep
          simp only at hstep
          generalize (x / 2 ^ (f - 1 - j) % 2 == 1) = b at *
          obtain ⟨V, hV⟩ : ∃ V, V = num (h ++ [b]) := ⟨_, rfl⟩
          rw [← hV] at hval hv255 hstep
          have hsn := natCells_snoc m V
          obtain ⟨A, hA⟩ : ∃ A, natCells m = A := ⟨_, rfl⟩
          rw [hA] at hsn hown
          have HA := Lib.hid hA
          clear hA
          generalize num h = H at *
          have HST := Lib.hid hstep
          have HSN := Lib.hid hsn
          have HV := Lib.hid hV
          obtain ⟨L, hL⟩ : ∃ L, h.length = L := ⟨_, rfl⟩
          obtain ⟨M, hM⟩ : ∃ M, m.length = M := ⟨_, rfl⟩
          rw [hL] at s1 ⊢
          rw [hM] at s2 hown
          have HL := Lib.hid hL
          have HM := Lib.hid hM
          clear hstep hsn hV hns hL hM HJ SZ2 HN
          by_cases he : L + 1 = t
          · have g1 : (((L : Int) + 1) == (t : Int)) = true := by rw [beq_iff_eq]; omega
            go_wp2_with (at_builtin; refine wpList_append_own _ rfl _ _ 85 rfl w.heap.size 5 i0 (.int .u8 0) 1 1 Tryz.underlying85 hi hz0 hz1 hz2 rfl (by decide) _ _ _ rfl (hown.alloc _) ⟨wr.heap.size, 0, none⟩ 1 1 [.int .u8 (V : Int)] rfl rfl (cell_one_new _ _ _) (fun x hx => by simp at hx; subst hx; rfl) (by unfold maxLen; omega) (by omega) (by have := hb.size; simp; omega) ?_; intro v' w5 hown' hgrow5 hnil5
                         have hb5 : Below w.heap.size w w5 := Below.grown (hb.alloc hb.size _) hgrow5 (by have := hb.size; simp; omega) (fun j hj => by have := (hown.lt _ hj).1; omega)
                         have X : Aside (w5.ownsRow w.heap.size 5 1 v' (M + 1) (A ++ [.int .u8 (V : Int)]) ∧ Below w.heap.size w w5) := ⟨hown', hb5⟩
                         clear hown' hgrow5 hnil5)
            go_roundw
            case rel =>
              have e : grp t (F ++ (bitsN f x).take (j + 1)) = (m ++ [V], []) := by rw [HST.out, if_pos (by rw [HL.out]; exact he)]
              refine ⟨j + 1, by omega, by go_num, by rw [e]; rfl, by rw [e]; rfl, ?_, X.out.2⟩
              rw [e]
              simp only [List.length_append, List.length_singleton]
              rw [HSN.out, HM.out]
              exact X.out.1
            case measure => simp [intOf]; omega
          · have g1 : (((L : Int) + 1) == (t : Int)) = false := by rw [beq_eq_false_iff_ne]; omega
            go_wp2
            go_roundw
            case rel =>
              have e : grp t (F ++ (bitsN f x).take (j + 1)) = (m, h ++ [b]) := by rw [HST.out, if_neg (by rw [HL.out]; exact he)]
              refine ⟨j + 1, by omega, by go_num, by rw [e, HV.out], by rw [e]; simp only [List.length_append, List.length_singleton]; rw [HL.out]; go_num, ?_, hb⟩
              rw [e]
              simp only
              rw [HM.out, HA.out]
              exact hown
            case measure => simp [intOf]; omega
        · obtain rfl : j = f := by omega
          rw [← HN.out] at hown ⊢
          go_wp2
          go_roundw
          case rel => exact ⟨k + 1, by omega, by go_num, rfl, rfl, hown, hb⟩
          case measure => simp [intOf]; omega
    · obtain rfl : k = l.length := by omega
      rw [List.take_length] at hown ⊢
      go_wp2
      go_ret3
      exact ⟨⟨_, rfl, hown⟩, hb⟩

end Go.Proofs.YthnogdodlhkldaaGreatDoor

namespace Go.Proofs.YthnogdodlhkldaaGreatDoor
open Go.RowKit

/-- A row that may be written. -/
structure VRow (w : World) (g : Nat) (l : List Value) : Prop where
  cell : ∀ j v, l[j]? = some v → w.cell? ⟨g, j, none⟩ = some v
  free : ∀ j, j < l.length → w.frozen? ⟨g, j, none⟩ = false
theorem VRow.set {w : World} {g : Nat} {l : List Value} (h : VRow w g l) {k : Nat} (hk : k < l.length) (v : Value) : VRow (w.setCell ⟨g, k, none⟩ v) g (l.set k v) := by
  refine ⟨fun j c hj => ?_, fun j hj => by rw [World.frozen?_setCell]; exact h.free j (by simpa using hj)⟩
  rw [List.getElem?_set] at hj
  by_cases e : k = j
  · subst e
    rw [if_pos rfl, if_pos hk] at hj
    cases hj
    exact World.cell?_setCell_same _ _ _ (h.cell k l[k] (by rw [List.getElem?_eq_getElem hk]))
  · rw [if_neg e] at hj
    rw [World.cell?_setCell_other _ _ _ _ (by intro h; cases h; exact e rfl)]
    exact h.cell j c hj
theorem VRow.made (w : World) (z : Value) (n : Nat) (t : TypeId) : VRow (w.alloc (.cells (madeCells #[z] n) t)) w.heap.size (List.replicate n z) := by
  refine ⟨fun j v hj => ?_, fun j hj => ?_⟩
  · rw [World.cell?_alloc_mark, ← Array.getElem?_toList, toList_madeCells_one, hj]
  · rw [List.length_replicate] at hj
    unfold World.frozen?
    simp only [World.alloc, Array.getElem?_push_size]
    simp
def mixK {α : Type} (f g : α → Value) (l : List α) (k : Nat) : List Value := (l.take k).map f ++ (l.drop k).map g
theorem mixK_length {α : Type} (f g : α → Value) (l : List α) (k : Nat) : (mixK f g l k).length = l.length := by
  simp only [mixK, List.length_append, List.length_map, List.length_take, List.length_drop]; omega
theorem mixK_zero {α : Type} (f g : α → Value) (l : List α) : mixK f g l 0 = l.map g := by simp [mixK]
theorem mixK_all {α : Type} (f g : α → Value) (l : List α) : mixK f g l l.length = l.map f := by simp [mixK]
theorem mixK_at {α : Type} (f g : α → Value) (l : List α) (k : Nat) (b : α) (h : l[k]? = some b) : (mixK f g l k)[k]? = some (g b) := by
  have hk := (List.getElem?_eq_some_iff.1 h).1
  unfold mixK
  rw [List.getElem?_append_right (by simp; omega)]
  simp only [List.length_map, List.length_take, List.getElem?_map, List.getElem?_drop]
  have : k + (k - min k l.length) = k := by omega
  rw [this, h]; rfl
theorem mixK_succ {α : Type} (f g : α → Value) (l : List α) (k : Nat) (b : α) (h : l[k]? = some b) : mixK f g l (k + 1) = (mixK f g l k).set k (f b) := by
  have hk := List.getElem?_eq_some_iff.1 h
  have hlen : ((l.take k).map f).length = k := by have := hk.1; simp; omega
  unfold mixK
  have hd : l.drop k = b :: l.drop (k + 1) := by rw [List.drop_eq_getElem_cons hk.1, hk.2]
  rw [List.set_append_right _ _ (by omega), hlen, Nat.sub_self, hd, List.map_cons, List.set_cons_zero, List.take_add_one, h]
  simp
theorem conv_cells (w : World) (g cap : Nat) (L : List UInt8) (h : ∀ j b, L[j]? = some b → w.cell? ⟨g, j, none⟩ = some (.int .u8 (b.toNat : Int))) (n : Nat) (hn : n = L.length) : (convert 85 9 (.slice (some ⟨g, 0, none⟩) n cap)).run Tryz.prog w = .ok (.string ⟨L.toArray⟩) w := by
  subst hn
  refine run_convert_bytes_back (P := Tryz.prog) w 85 9 5 ⟨g, 0, none⟩ cap L Tryz.underlying85 Tryz.underlying5 Tryz.underlying9 (fun j hj => ?_)
  have e : (⟨g, 0, none⟩ : Addr).add j = ⟨g, j, none⟩ := by simp [Addr.add]; omega
  rw [e]
  exact h j _ (by rw [List.getElem?_eq_getElem hj])

theorem VRow.world (w : World) (s : ByteArray) : VRow (Lib.bytesWorld w 5 s) w.heap.size (s.data.toList.map fun b => .int .u8 (b.toNat : Int)) := by
  refine ⟨fun j v hj => ?_, fun j hj => ?_⟩
  · rw [List.getElem?_map] at hj
    cases hx : s.data.toList[j]? with
    | none => rw [hx] at hj; cases hj
    | some b =>
      rw [hx] at hj
      cases hj
      have hlt : j < s.size := by have := (List.getElem?_eq_some_iff.1 hx).1; rw [lsize] at this; exact this
      rw [Lib.bytesWorld_cell w 5 s j hlt]
      simp only [List.getD_eq_getElem?_getD, hx, Option.getD_some]
  · have hg := Lib.bytesWorld_at_new w 5 s
    have hsz : j < (Lib.bytesCells w 5 s).size := by
      rw [List.length_map, lsize] at hj
      simp [Lib.bytesCells]; omega
    unfold World.frozen?
    rw [hg]
    simp
    omega
def valV (c : UInt8) : Value := .int .u8 (valN c : Int)
def byteV (c : UInt8) : Value := .int .u8 (c.toNat : Int)

set_option maxRecDepth 100000 in
set_option maxHeartbeats 1000000 in
theorem read_any (s : ByteArray) (hg : good s.data.toList = true) (hs : s.size ≤ 1000000000) (w : World) :
    Calls Tryz.prog 222 #[.string s] w fun e w' => (∃ u, e = .returned u ∧ NatsIn w' u (s.data.toList.map valN)) ∧ Below w.heap.size w w' := by
  have hconv := Lib.run_convert_string_bytes (P := Tryz.prog) w 9 85 5 s Tryz.underlying9 Tryz.underlying85 Tryz.underlying5
  have hrow : VRow (Lib.bytesWorld w 5 s) w.heap.size (mixK valV byteV s.data.toList 0) := by rw [mixK_zero]; exact VRow.world w s
  have hbel := below_bytesWorld w s
  have hsz := Lib.bytesWorld_size w 5 s
  generalize Lib.bytesWorld w 5 s = W at hconv hrow hbel hsz
  generalize grownCap w s.size 0 5 = cap at hconv
  have HZ : w.heap.size < W.heap.size := by omega
  clear hsz
  have HG := Lib.hid (good_mem hg)
  have hll := lsize s
  generalize hL : s.data.toList = l at *
  generalize s.size = n at *
  have HN := Lib.hid hll
  have HL := Lib.hid hL
  clear hll hL hg
  go_enter Tryz.func222, Tryz.ntmps222
  go_wp2
  go_loopw [4, 5, 10] (fun _ _ i wr => ∃ k : Nat, i = .int .i64 k ∧ k ≤ n ∧ VRow wr w.heap.size (mixK valV byteV l k) ∧ Below w.heap.size w wr) (fun _ _ i _ => n - (intOf i).toNat)
  case atStart => exact ⟨0, rfl, Nat.zero_le _, hrow, hbel⟩
  case round =>
    obtain ⟨k, rfl, hk, hr, hb⟩ := hrel
    clear hrow hbel hconv
    by_cases hlt : k < n
    · obtain ⟨b, hb1⟩ : ∃ b, l[k]? = some b := ⟨l[k]'(by rw [HN.out]; exact hlt), List.getElem?_eq_getElem _⟩
      have hcell := hr.cell k _ (mixK_at valV byteV l k b hb1)
      have hfree := hr.free k (by rw [mixK_length, HN.out]; exact hlt)
      have hset := hr.set (k := k) (by rw [mixK_length, HN.out]; exact hlt) (valV b)
      rw [← mixK_succ valV byteV l k b hb1] at hset
      have hbs := hb.setCell (p := ⟨w.heap.size, k, none⟩) (Nat.le_refl _) (valV b)
      have h0 := HG.out b (List.mem_of_getElem? hb1)
      have h63 := (val_rng b).2
      have D := numberK_hid b (valN b : Int) (valN_int h0).symm
      have hv64 := valN_lt b
      have HS := Lib.hid hset
      have HB := Lib.hid hbs
      have es : valV b = .int .u8 (valN b : Int) := rfl
      rw [es] at HS HB
      unfold byteV at hcell
      clear hset hbs es h0 h63 hb1
      generalize valN b = x at *
      go_wp2_with (go_at_call 227; refine (D.out _).mono ?_; rintro e w' ⟨rfl, rfl⟩)
      go_roundw
      case rel => exact ⟨k + 1, by go_num, by omega, HS.out, HB.out⟩
      case measure => simp [intOf]; omega
    · obtain rfl : k = n := by omega
      have hNs : NatsIn wr (.slice (some ⟨w.heap.size, 0, none⟩) k cap) (l.map valN) := by
        refine .inr ⟨w.heap.size, 0, cap, by rw [List.length_map, HN.out], fun j hj => ?_⟩
        rw [Nat.zero_add]
        refine hr.cell j _ ?_
        have := mixK_all valV byteV l
        rw [HN.out] at this
        rw [this]
        rw [List.length_map] at hj
        rw [List.getElem?_map, List.getElem?_eq_getElem hj]
        simp [valV]
      have HNs := Lib.hid hNs
      clear hNs HN HL hr
      go_wp2
      go_ret
      exact ⟨⟨_, rfl, HNs.out⟩, hb⟩

end Go.Proofs.YthnogdodlhkldaaGreatDoor

namespace Go.Proofs.YthnogdodlhkldaaGreatDoor
open Go.RowKit

theorem conv_nats {w : World} {base : Nat} {v : Value} {m : List Nat} (h : w.ownsRow base 5 1 v m.length (natCells m)) (hm : ∀ x ∈ m, x < 256) :
    (convert 85 9 v).run Tryz.prog w = .ok (.string ⟨(m.map Nat.toUInt8).toArray⟩) w := by
  rcases rowForms h with ⟨rfl, h2⟩ | ⟨g, cap, rfl⟩
  · have e : m = [] := List.length_eq_zero_iff.1 h2
    subst e
    exact run_convert_bytes_nil (P := Tryz.prog) w 85 5 Tryz.underlying85 Tryz.underlying5 0 0 9 Tryz.underlying9
  · refine conv_cells w g cap _ (fun j b hj => ?_) _ (by simp)
    rw [List.getElem?_map] at hj
    have hlt : j < m.length := by
      rcases Nat.lt_or_ge j m.length with h1 | h1
      · exact h1
      · rw [List.getElem?_eq_none h1] at hj; cases hj
    rw [List.getElem?_eq_getElem hlt] at hj
    cases hj
    have hc := h.cellAt j (by omega)
    have e : (⟨g, j, none⟩ : Addr) = ⟨g, j, none⟩ := rfl
    rw [hc]
    have := hm m[j] (List.getElem_mem hlt)
    simp [natCells, List.getElem?_eq_getElem hlt]
    omega
theorem read_hid (s : ByteArray) (hg : good s.data.toList = true) (hs : s.size ≤ 1000000000) : Hid (∀ W, Calls Tryz.prog 222 #[.string s] W fun e w' => (∃ u, e = .returned u ∧ NatsIn w' u (s.data.toList.map valN)) ∧ Below W.heap.size W w') :=
  Lib.hid fun W => read_any s hg hs W
theorem form_hid (s : ByteArray) (hs : s.size ≤ 1099511627776) (b : Bool) (hb : formM s.data.toList = b) : Hid (∀ W, Calls Tryz.prog 182 #[.string s] W fun e w' => e = .returned (.bool b) ∧ w' = W) :=
  Lib.hid fun W => by rw [← hb]; exact form_any s hs W

set_option maxRecDepth 100000 in
set_option maxHeartbeats 2000000 in
theorem decode_any (s : ByteArray) (hs : s.size ≤ 100000) (T : ByteArray) (b : Bool) (hT : (T.data.toList, b) = decM s.data.toList) (w : World) :
    Calls Tryz.prog 174 #[.string s] w fun e w' => e = .returned (.tuple #[.string T, .bool b]) ∧ Below w.heap.size w w' := by
  unfold decM at hT
  by_cases h0 : s.data.toList = []
  · have g : s.toList.isEmpty = true := by rw [text_empty, h0]; rfl
    rw [if_pos h0] at hT
    obtain ⟨h1, rfl⟩ := Prod.mk.inj hT
    obtain rfl : T = ⟨#[]⟩ := text_is h1
    clear hT h1 h0
    go_enter Tryz.func174, Tryz.ntmps174
    go_wp2
    go_ret2
    exact ⟨rfl, Below.refl _ _⟩
  have g : s.toList.isEmpty = false := by
    rw [text_empty]
    cases h : s.data.toList with
    | nil => exact absurd h h0
    | cons => rfl
  rw [if_neg h0] at hT
  by_cases h1 : formM s.data.toList = false
  · rw [if_pos h1] at hT
    obtain ⟨h2, rfl⟩ := Prod.mk.inj hT
    obtain rfl : T = ⟨#[]⟩ := text_is h2
    have CF := form_hid s (by omega) false h1
    clear hT h1 h0 h2
    go_enter Tryz.func174, Tryz.ntmps174
    go_wp2_with fail
    refine (CF.out _).mono ?_
    rintro e w' ⟨rfl, rfl⟩
    go_wp2
    go_ret2
    exact ⟨rfl, Below.refl _ _⟩
  rw [if_neg h1] at hT
  have hform : formM s.data.toList = true := by simpa using h1
  have CF := form_hid s (by omega) true hform
  obtain ⟨D, hD⟩ := text_of (hd s.data.toList)
  have CD : Hid (∀ W, Calls Tryz.prog 221 #[.string s] W fun e w' => e = .returned (.string D) ∧ w' = W) := Lib.hid fun W => without_any s D hD (by omega) W
  have hgood : good D.data.toList = true := by
    rw [hD]
    unfold formM at hform
    simp only [Bool.and_eq_true] at hform
    exact hform.2
  have hDs : D.size ≤ s.size := by rw [← lsize D, ← lsize s, hD]; exact hd_le _
  rw [← hD, lsize, lsize] at hT
  by_cases h2 : D.size < s.size ∧ s.size % 4 ≠ 0
  · rw [if_pos h2] at hT
    obtain ⟨h3, rfl⟩ := Prod.mk.inj hT
    obtain rfl : T = ⟨#[]⟩ := text_is h3
    have z1 : (D.size : Int) < (s.size : Int) := by omega
    have z2 : ((s.size : Int) % 4 != 0) = true := by rw [bne_iff_ne]; omega
    clear hT h1 h0 h2 h3 hD hgood hform
    go_enter Tryz.func174, Tryz.ntmps174
    go_wp2_with fail
    refine (CF.out _).mono ?_
    rintro e w' ⟨rfl, rfl⟩
    go_wp2_with fail
    refine (CD.out _).mono ?_
    rintro e w' ⟨rfl, rfl⟩
    go_wp2
    go_ret2
    exact ⟨rfl, Below.refl _ _⟩
  rw [if_neg h2] at hT
  have CRd := read_hid D hgood (by omega)
  have CR : Hid (∀ W v, NatsIn W v (D.data.toList.map valN) → Calls Tryz.prog 51 #[v, .int .i64 6, .int .i64 8] W fun e w' => (∃ u, e = .returned (.tuple #[u, .int .u8 (num (grp 8 (bits6 D.data.toList)).2 : Nat), .int .i64 ((grp 8 (bits6 D.data.toList)).2.length : Nat)]) ∧ w'.ownsRow W.heap.size 5 1 u (grp 8 (bits6 D.data.toList)).1.length (natCells (grp 8 (bits6 D.data.toList)).1)) ∧ Below W.heap.size W w') := Lib.hid fun W v h =>
    regroup_any 6 8 (by decide) (by decide) (by decide) (by decide) (D.data.toList.map valN) (fun x hx => by obtain ⟨c, _, rfl⟩ := List.mem_map.1 hx; have := valN_lt c; omega) v W h (by rw [List.length_map, lsize]; omega)
  obtain ⟨g1, g2, g3⟩ := grp_spec 8 (by decide) (bits6 D.data.toList)
  generalize grp 8 (bits6 D.data.toList) = p at *
  obtain ⟨m, r⟩ := p
  simp only at CR g2 g3 hT
  obtain ⟨L, hL⟩ : ∃ L, L = r.length := ⟨_, rfl⟩
  obtain ⟨H, hH⟩ : ∃ H, H = num r := ⟨_, rfl⟩
  have hH8 : H ≤ 127 := by rw [hH]; exact num_127 (Nat.le_refl _) g2
  rw [← hL] at g2
  rw [← hL, ← hH] at CR hT
  have HM : Hid (∀ {w : World} {base : Nat} {v : Value}, w.ownsRow base 5 1 v m.length (natCells m) → (convert 85 9 v).run Tryz.prog w = .ok (.string ⟨(m.map Nat.toUInt8).toArray⟩) w) := Lib.hid fun h => conv_nats h g3
  clear hL hH g1 g3 h1 hD hform hgood h0
  have hF : D.size < s.size → ((s.size : Int) % 4 != 0) = false := fun h => by rw [bne_eq_false_iff_eq]; omega
  clear h2
  by_cases z1 : (D.size : Int) < (s.size : Int)
  all_goals
    try have z2 := hF (by omega)
    clear hF
    by_cases hr : 6 ≤ L ∨ H ≠ 0
    · rw [if_pos hr] at hT
      obtain ⟨h3, rfl⟩ := Prod.mk.inj hT
      obtain rfl : T = ⟨#[]⟩ := text_is h3
      clear hT h3
      by_cases y1 : (6 : Int) ≤ (L : Int)
      · clear hr
        go_enter Tryz.func174, Tryz.ntmps174
        go_wp2_with fail
        refine (CF.out _).mono ?_
        rintro e w' ⟨rfl, rfl⟩
        go_wp2_with fail
        refine (CD.out _).mono ?_
        rintro e w' ⟨rfl, rfl⟩
        go_wp2_with fail
        refine (CRd.out _).mono ?_
        rintro e w1 ⟨⟨u, rfl, hN⟩, B1⟩
        go_wp2_with fail
        refine (CR.out _ _ hN).mono ?_
        rintro e w2 ⟨⟨u2, rfl, hown⟩, b2⟩
        have B2 := B1.trans (b2.mono B1.size)
        clear hN b2 B1
        clear hown
        go_wp2
        go_ret2
        exact ⟨rfl, B2⟩
      · have y2 : ((H : Int) != 0) = true := by rw [bne_iff_ne]; omega
        clear hr
        go_enter Tryz.func174, Tryz.ntmps174
        go_wp2_with fail
        refine (CF.out _).mono ?_
        rintro e w' ⟨rfl, rfl⟩
        go_wp2_with fail
        refine (CD.out _).mono ?_
        rintro e w' ⟨rfl, rfl⟩
        go_wp2_with fail
        refine (CRd.out _).mono ?_
        rintro e w1 ⟨⟨u, rfl, hN⟩, B1⟩
        go_wp2_with fail
        refine (CR.out _ _ hN).mono ?_
        rintro e w2 ⟨⟨u2, rfl, hown⟩, b2⟩
        have B2 := B1.trans (b2.mono B1.size)
        clear hN b2 B1
        clear hown
        go_wp2
        go_ret2
        exact ⟨rfl, B2⟩
    · rw [if_neg hr] at hT
      obtain ⟨h3, rfl⟩ := Prod.mk.inj hT
      obtain rfl := text_is h3
      have y1 : ¬ (6 : Int) ≤ (L : Int) := by omega
      have y2 : ((H : Int) != 0) = false := by rw [bne_eq_false_iff_eq]; omega
      clear hT h3 hr
      go_enter Tryz.func174, Tryz.ntmps174
      go_wp2_with fail
      refine (CF.out _).mono ?_
      rintro e w' ⟨rfl, rfl⟩
      go_wp2_with fail
      refine (CD.out _).mono ?_
      rintro e w' ⟨rfl, rfl⟩
      go_wp2_with fail
      refine (CRd.out _).mono ?_
      rintro e w1 ⟨⟨u, rfl, hN⟩, B1⟩
      go_wp2_with fail
      refine (CR.out _ _ hN).mono ?_
      rintro e w2 ⟨⟨u2, rfl, hown⟩, b2⟩
      have B2 := B1.trans (b2.mono B1.size)
      clear hN b2 B1
      have HO := HM.out hown
      clear hown
      go_wp2
      go_ret2
      exact ⟨rfl, B2⟩
theorem decode_hid (s : ByteArray) (hs : s.size ≤ 100000) (T : ByteArray) (b : Bool) (hT : (T.data.toList, b) = decM s.data.toList) : Hid (∀ W, Calls Tryz.prog 174 #[.string s] W fun e w' => e = .returned (.tuple #[.string T, .bool b]) ∧ Below W.heap.size W w') :=
  Lib.hid fun W => decode_any s hs T b hT W

end Go.Proofs.YthnogdodlhkldaaGreatDoor
