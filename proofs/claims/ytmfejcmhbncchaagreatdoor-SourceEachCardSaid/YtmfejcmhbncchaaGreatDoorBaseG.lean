/- A number's bits, the number of bits, a text as it is written: the document's. -/
import Derived.Test.YtmfejcmhbncchaaGreatDoorBaseF
namespace Go.Proofs.YtmfejcmhbncchaaGreatDoor
open Go.RowKit

def boolCells (m : List Bool) : List Value := m.map Value.bool
theorem boolCells_length (m : List Bool) : (boolCells m).length = m.length := by simp [boolCells]
theorem boolCells_append (a b : List Bool) : boolCells (a ++ b) = boolCells a ++ boolCells b := by simp [boolCells]
/-- A slice of bools that reads as this list. -/
def BoolsIn (w : World) (v : Value) (l : List Bool) : Prop :=
  ((∃ a c, v = .slice a 0 c) ∧ l = []) ∨ ∃ B off cap, v = .slice (some ⟨B, off, none⟩) l.length cap ∧ ∀ j, (h : j < l.length) → w.cell? ⟨B, off + j, none⟩ = some (.bool l[j])
theorem BoolsIn.below {w w' : World} {v : Value} {p : List Bool} (h : BoolsIn w v p) (hb : Below w.heap.size w w') : BoolsIn w' v p := by
  rcases h with h | ⟨B, off, cap, h1, h2⟩
  · exact .inl h
  · exact .inr ⟨B, off, cap, h1, fun j hj => by rw [hb.cell (lt_of_cell (h2 j hj))]; exact h2 j hj⟩
theorem BoolsIn.form {w : World} {v : Value} {p : List Bool} (h : BoolsIn w v p) : ∃ a c, v = .slice a p.length c := by
  rcases h with ⟨⟨a, c, rfl⟩, rfl⟩ | ⟨B, off, cap, rfl, _⟩
  · exact ⟨_, _, rfl⟩
  · exact ⟨_, _, rfl⟩
theorem BoolsIn.of_row {w : World} {base : Nat} {v : Value} {p : List Bool} (h : w.ownsRow base 4 1 v p.length (boolCells p)) : BoolsIn w v p := by
  rcases rowForms h with ⟨h1, h2⟩ | ⟨g, cap, rfl⟩
  · exact .inl ⟨⟨_, _, h1⟩, List.length_eq_zero_iff.1 h2⟩
  · refine .inr ⟨g, 0, cap, rfl, fun j hj => ?_⟩
    rw [Nat.zero_add, h.cellAt j (by omega)]
    simp [boolCells, List.getElem?_eq_getElem hj]
/-- A piece of a row. -/
theorem BoolsIn.piece {w : World} {B off n c : Nat} {p : List Bool} (h : BoolsIn w (.slice (some ⟨B, off, none⟩) n c) p) (a b r : List Bool) (e : p = a ++ (b ++ r)) (o : Nat) (ho : o = off + a.length) (m : Nat) (hm : m = b.length) (c' : Nat) : BoolsIn w (.slice (some ⟨B, o, none⟩) m c') b := by
  subst ho hm
  rcases h with ⟨_, h2⟩ | ⟨B', off', cap, h1, h2⟩
  · subst h2
    have : b = [] := by
      have := congrArg List.length e
      simp only [List.length_append, List.length_nil] at this
      exact List.length_eq_zero_iff.1 (by omega)
    subst this
    exact .inl ⟨⟨_, _, rfl⟩, rfl⟩
  · cases h1
    refine .inr ⟨B, off + a.length, c', rfl, fun j hj => ?_⟩
    have hlen := congrArg List.length e
    simp only [List.length_append] at hlen
    have h3 := h2 (a.length + j) (by omega)
    rw [Nat.add_assoc, h3]
    congr 2
    have : p[a.length + j]? = b[j]? := by
      rw [e, List.getElem?_append_right (by omega), Nat.add_sub_cancel_left, List.getElem?_append_left hj]
    rw [List.getElem?_eq_getElem (by omega), List.getElem?_eq_getElem hj] at this
    exact Option.some.inj this

theorem bit_row (B : List Bool) (n : Nat) (b : Bool) (h : B[n]? = some b) : ((List.replicate (n + 1) false ++ B.drop (n + 1)).map Value.bool).set n (.bool b) = (List.replicate n false ++ B.drop n).map Value.bool := by
  have hk := List.getElem?_eq_some_iff.1 h
  have hd : B.drop n = b :: B.drop (n + 1) := by rw [List.drop_eq_getElem_cons hk.1, hk.2]
  rw [hd, List.replicate_succ', List.append_assoc, List.map_append, List.map_append, List.set_append_right _ _ (by simp)]
  simp

set_option maxRecDepth 100000 in
set_option maxHeartbeats 1000000 in
theorem bits_any (x t : Nat) (hx : x ≤ 255) (ht : t ≤ 8) (w : World) :
    Calls Tryz.prog 66 #[.int .i64 (x : Int), .int .i64 (t : Int)] w fun e w' => (∃ g c, e = .returned (.slice (some ⟨g, 0, none⟩) t c) ∧ BoolsIn w' (.slice (some ⟨g, 0, none⟩) t c) (bitsN t x)) ∧ Below w.heap.size w w' := by
  obtain ⟨i0, hi, hz0, hz1, hz2⟩ := info_parts Tinfo4
  have hmk := run_make (P := Tryz.prog) w 88 4 i0 _ Tryz.underlying88 hi hz0 .i64 .i64 (t : Int) (t : Int) (by omega) (Int.le_refl _) (by rw [hz2]; omega) (by omega)
  have ez : (Value.bool false).cells = #[.bool false] := rfl
  rw [hz1, Int.toNat_natCast, Nat.mul_one, ez] at hmk
  have hrow := VRow.made w (.bool false) t 4
  have hb1 : Below w.heap.size w (w.alloc (.cells (madeCells #[.bool false] t) 4)) := (Below.refl _ _).alloc (Nat.le_refl _) _
  have em : List.replicate t (Value.bool false) = (List.replicate t false ++ (bitsN t x).drop t).map Value.bool := by
    rw [List.drop_of_length_le (by rw [bitsN_length]; exact Nat.le_refl _)]
    simp
  rw [em] at hrow
  generalize hW1 : w.alloc (.cells (madeCells #[.bool false] t) 4) = W1 at hmk hrow hb1
  clear hW1 ez em
  go_enter Tryz.func66, Tryz.ntmps66
  go_wp2
  go_loopw [0, 6] (fun y i wr => ∃ (m X : Nat) (z : Int), m ≤ t ∧ z + 1 = (m : Int) ∧ i = .int .i64 z ∧ y = .int .i64 (X : Int) ∧ Hid (X = x / 2 ^ (t - m)) ∧ X ≤ 255 ∧ VRow wr w.heap.size ((List.replicate m false ++ (bitsN t x).drop m).map Value.bool) ∧ Below w.heap.size w wr) (fun _ i _ => (intOf i + 1).toNat)
  case atStart => exact ⟨t, x, (t : Int) - 1, Nat.le_refl _, by omega, rfl, rfl, Lib.hid (by rw [Nat.sub_self, Nat.pow_zero, Nat.div_one]), hx, hrow, hb1⟩
  case round =>
    obtain ⟨m, X, z, hm, hz, rfl, rfl, HX, hX63, hr, hb⟩ := hrel
    clear hrow hb1 hmk
    by_cases h0 : m = 0
    · subst h0
      obtain rfl : z = -1 := by omega
      have hBn : BoolsIn wr (.slice (some ⟨w.heap.size, 0, none⟩) t t) (bitsN t x) := by
        refine .inr ⟨w.heap.size, 0, t, by rw [bitsN_length], fun j hj => ?_⟩
        rw [Nat.zero_add]
        refine hr.cell j _ ?_
        simp [List.getElem?_eq_getElem hj]
      have HB := Lib.hid hBn
      clear hBn hr
      go_wp2
      go_ret
      exact ⟨⟨_, _, rfl, HB.out⟩, hb⟩
    · obtain ⟨n, rfl⟩ : ∃ n, m = n + 1 := ⟨m - 1, by omega⟩
      obtain rfl : z = (n : Int) := by omega
      have hget : (bitsN t x)[n]? = some (X % 2 == 1) := by
        rw [bitsN_get t x n (by omega), HX.out]
        have : t - 1 - n = t - (n + 1) := by omega
        rw [this]
      obtain ⟨b, hbit⟩ : ∃ b, (X % 2 == 1) = b := ⟨_, rfl⟩
      have hbz : ((X : Int) % 2 == 1) = b := by
        rw [← hbit, Bool.eq_iff_iff]; simp; omega
      rw [hbit] at hget
      have hlen : ((List.replicate (n + 1) false ++ (bitsN t x).drop (n + 1)).map Value.bool).length = t := by
        simp [bitsN_length]; omega
      have hfree := hr.free n (by rw [hlen]; omega)
      have hcell := hr.cell n (.bool false) (by
        rw [List.map_append, List.getElem?_append_left (by simp)]
        simp)
      have hset := hr.set (k := n) (by rw [hlen]; omega) (.bool b)
      rw [bit_row _ n b hget] at hset
      have hbs := hb.setCell (p := ⟨w.heap.size, n, none⟩) (Nat.le_refl _) (.bool b)
      have HS := Lib.hid hset
      have HBs := Lib.hid hbs
      have HX2 : Hid (X / 2 = x / 2 ^ (t - n)) := Lib.hid (by
        have : t - n = (t - (n + 1)) + 1 := by omega
        rw [HX.out, Nat.div_div_eq_div_mul, this, Nat.pow_succ])
      clear hset hbs hlen hget hr hbit
      go_wp2
      go_roundw
      case rel => exact ⟨n, X / 2, (n : Int) - 1, by omega, by omega, rfl, by go_num, HX2, by omega, HS.out, HBs.out⟩
      case measure => simp [intOf]

theorem num_take (l : List Bool) (k : Nat) (h : k < l.length) : num (l.take (k + 1)) = 2 * num (l.take k) + (l[k]).toNat := by
  rw [List.take_succ_eq_append_getElem h, num_snoc]
theorem num_255 (l : List Bool) (h : l.length ≤ 8) (k : Nat) : num (l.take k) ≤ 255 := by
  have h1 := num_lt (l.take k)
  have h2 : 2 ^ (l.take k).length ≤ 2 ^ 8 := Nat.pow_le_pow_right (by decide) (by rw [List.length_take]; omega)
  omega

set_option maxRecDepth 100000 in
set_option maxHeartbeats 1000000 in
theorem num_any (l : List Bool) (v : Value) (w : World) (hin : BoolsIn w v l) (hl : l.length ≤ 8) : Calls Tryz.prog 67 #[v] w fun e w' => e = .returned (.int .i64 (num l : Nat)) ∧ w' = w := by
  obtain ⟨a, c, rfl⟩ := hin.form
  have hcell : Hid (∀ j, (h : j < l.length) → ∃ B off, a = some ⟨B, off, none⟩ ∧ w.cell? ⟨B, off + j, none⟩ = some (.bool l[j])) := Lib.hid fun j h => by
    rcases hin with ⟨_, h2⟩ | ⟨B, off, cap, h1, h2⟩
    · subst h2; simp at h
    · cases h1
      exact ⟨B, off, rfl, h2 j h⟩
  clear hin
  go_enter Tryz.func67, Tryz.ntmps67
  go_wp2
  go_loop [3, 4] (fun n i => ∃ k N : Nat, k ≤ l.length ∧ i = .int .i64 k ∧ n = .int .i64 N ∧ N ≤ 255 ∧ Hid (N = num (l.take k))) (fun _ i => l.length - (intOf i).toNat)
  case atStart => exact ⟨0, 0, Nat.zero_le _, rfl, rfl, by decide, Lib.hid rfl⟩
  case round =>
    obtain ⟨k, N, hk, rfl, rfl, hN, HS⟩ := hrel
    by_cases hlt : k < l.length
    · obtain ⟨B, off, rfl, hc⟩ := hcell.out k hlt
      have hn := num_take l k hlt
      have h255 := num_255 l hl (k + 1)
      rw [← HS.out] at hn
      cases hb : l[k] with
      | false =>
        rw [hb] at hc hn
        have HN : Hid (2 * N = num (l.take (k + 1))) := Lib.hid (by rw [hn]; rfl)
        rw [hn] at h255
        have h2 : 2 * N ≤ 255 := h255
        clear hn h255 hb
        go_wp2
        go_round
        case rel => exact ⟨k + 1, 2 * N, by omega, by go_num, by go_num, h2, HN⟩
        case measure => simp [intOf]; omega
      | true =>
        rw [hb] at hc hn
        have HN : Hid (2 * N + 1 = num (l.take (k + 1))) := Lib.hid (by rw [hn]; rfl)
        rw [hn] at h255
        have h2 : 2 * N + 1 ≤ 255 := h255
        clear hn h255 hb
        go_wp2
        go_round
        case rel => exact ⟨k + 1, 2 * N + 1, by omega, by go_num, by go_num, h2, HN⟩
        case measure => simp [intOf]; omega
    · obtain rfl : k = l.length := by omega
      have HR : Hid ((N : Int) = (num l : Nat)) := Lib.hid (by rw [HS.out, List.take_length])
      clear HS
      go_wp2
      go_ret
      exact ⟨ret_int HR.out, rfl⟩

theorem byteCells_appendK (a b : List UInt8) : Lib.byteCells (a ++ b) = Lib.byteCells a ++ Lib.byteCells b := by simp [Lib.byteCells]
theorem byteCells_oneK (b : UInt8) : Lib.byteCells [b] = [.int .u8 (b.toNat : Int)] := by simp [Lib.byteCells]
theorem conv_rowK {w : World} {base : Nat} {v : Value} {n : Nat} {l : List UInt8} (h : w.ownsRow base 5 1 v n (Lib.byteCells l)) :
    (convert 46 9 v).run Tryz.prog w = .ok (.string ⟨l.toArray⟩) w := by
  have hl : l.length = n := by have := h.1; simpa [Lib.byteCells_length] using this
  rcases rowForms h with ⟨rfl, h2⟩ | ⟨g, cap, rfl⟩
  · have e : l = [] := List.length_eq_zero_iff.1 (by omega)
    rw [e]
    exact run_convert_bytes_nil (P := Tryz.prog) w 46 5 Tryz.underlying46 Tryz.underlying5 0 0 9 Tryz.underlying9
  · subst hl
    refine run_convert_bytes_back (P := Tryz.prog) w 46 9 5 ⟨g, 0, none⟩ cap l Tryz.underlying46 Tryz.underlying5 Tryz.underlying9 (fun j hj => ?_)
    have e : (⟨g, 0, none⟩ : Addr).add j = ⟨g, j, none⟩ := by simp [Addr.add]; omega
    rw [e, h.cellAt j (by omega)]
    simp [Lib.byteCells, List.getElem?_eq_getElem hj]

end Go.Proofs.YtmfejcmhbncchaaGreatDoor
