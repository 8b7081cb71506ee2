/- Rows of texts; a text split; hosts (the program's). -/
import Derived.Test.YtaldjkbnngeahaaGreatDoorWalkB
import Derived.Lib.SplitLaws
namespace Go.Proofs.YtaldjkbnngeahaaGreatDoor
open Go.RowKit

def strV (t : List UInt8) : Value := .string ⟨t.toArray⟩
/-- A slice of texts that reads as this list. -/
def TextsIn (w : World) (v : Value) (ts : List (List UInt8)) : Prop :=
  ((∃ a c, v = .slice a 0 c) ∧ ts = []) ∨ ∃ B off cap, v = .slice (some ⟨B, off, none⟩) ts.length cap ∧ ∀ j, (h : j < ts.length) → w.cell? ⟨B, off + j, none⟩ = some (strV ts[j])
theorem TextsIn.below {w w' : World} {v : Value} {p : List (List UInt8)} (h : TextsIn w v p) (hb : Below w.heap.size w w') : TextsIn w' v p := by
  rcases h with h | ⟨B, off, cap, h1, h2⟩
  · exact .inl h
  · exact .inr ⟨B, off, cap, h1, fun j hj => by rw [hb.cell (lt_of_cell (h2 j hj))]; exact h2 j hj⟩
theorem TextsIn.form {w : World} {v : Value} {p : List (List UInt8)} (h : TextsIn w v p) : ∃ a c, v = .slice a p.length c := by
  rcases h with ⟨⟨a, c, rfl⟩, rfl⟩ | ⟨B, off, cap, rfl, _⟩
  · exact ⟨_, _, rfl⟩
  · exact ⟨_, _, rfl⟩
def txtCells (p : List (List UInt8)) : List Value := p.map strV
theorem txtCells_snoc (p : List (List UInt8)) (c : List UInt8) : txtCells (p ++ [c]) = txtCells p ++ [strV c] := by simp [txtCells]
theorem TextsIn.of_row {w : World} {base : Nat} {v : Value} {p : List (List UInt8)} (h : w.ownsRow base 9 1 v p.length (txtCells p)) : TextsIn w v p := by
  rcases rowForms h with ⟨h1, h2⟩ | ⟨g, cap, rfl⟩
  · exact .inl ⟨⟨_, _, h1⟩, List.length_eq_zero_iff.1 h2⟩
  · refine .inr ⟨g, 0, cap, rfl, fun j hj => ?_⟩
    rw [Nat.zero_add, h.cellAt j (by omega)]
    simp [txtCells, List.getElem?_eq_getElem hj]
theorem mem_len (L : List (List UInt8)) (x : List UInt8) (h : x ∈ L) : x.length ≤ (L.map List.length).sum := by
  induction L with
  | nil => cases h
  | cons a L ih =>
    rcases List.mem_cons.1 h with rfl | h
    · simp
    · have := ih h; simp; omega
theorem cut_len (p : UInt8 → Bool) (l : List UInt8) (x : List UInt8) (h : x ∈ cut p l) : x.length ≤ l.length := by
  have h1 := mem_len _ x h
  have h2 := cut_total p l
  omega
theorem split_lists (s : ByteArray) (c : UInt8) : (Lib.splitB ⟨#[c]⟩ 0 (Lib.countB s ⟨#[c]⟩) s).map (fun t : ByteArray => t.data.toList) = cut (· == c) s.data.toList := by
  rw [Lib.splitB_data]
  exact splitK_cut c _ _ (by
    show s.data.toList.count c ≤ Lib.count s.data.toList [c]
    rw [Lib.count_one]; exact Nat.le_refl _)
theorem split_cells (s : ByteArray) (c : UInt8) : (Lib.splitB ⟨#[c]⟩ 0 (Lib.countB s ⟨#[c]⟩) s).map Value.string = txtCells (cut (· == c) s.data.toList) := by
  rw [← split_lists]
  unfold txtCells
  rw [List.map_map]
  rfl
theorem split_count (s : ByteArray) (c : UInt8) : Lib.countB s ⟨#[c]⟩ + 1 = (cut (· == c) s.data.toList).length := by
  rw [cut_length]
  show Lib.count s.data.toList [c] + 1 = s.data.toList.count c + 1
  rw [Lib.count_one]

/-- The library's own variable holds a number. -/
def MaxIn (w : World) : Prop := ∃ m, w.cell? ⟨1, 0, none⟩ = some (.int .i64 m)
theorem MaxIn.below {w w' : World} (h : MaxIn w) (hb : Below w.heap.size w w') : MaxIn w' := by
  obtain ⟨m, hm⟩ := h
  exact ⟨m, by rw [hb.cell (lt_of_cell hm)]; exact hm⟩

theorem split_any (s : ByteArray) (c : UInt8) (W : World) (hs : s.size < 4294967281) (hm : MaxIn W) :
    Calls Tryz.prog 124 #[.string s, .string ⟨#[c]⟩] W fun e w' => e = .returned (.slice (some ⟨W.heap.size, 0, none⟩) (cut (· == c) s.data.toList).length (cut (· == c) s.data.toList).length) ∧
      w'.ownsRow W.heap.size 9 1 (.slice (some ⟨W.heap.size, 0, none⟩) (cut (· == c) s.data.toList).length (cut (· == c) s.data.toList).length) (cut (· == c) s.data.toList).length (txtCells (cut (· == c) s.data.toList)) ∧ Below W.heap.size W w' := by
  obtain ⟨m, hm⟩ := hm
  have h := Tryz.strings_Split s ⟨#[c]⟩ m W hs hm (show 1 ≤ 1 from Nat.le_refl 1)
  have hlen : s.data.toList.length < 4294967281 := by rw [lsize]; exact hs
  have h2 := cut_total (· == c) s.data.toList
  have h3 := cut_length (· == c) s.data.toList
  rw [split_cells, split_count] at h
  refine h.mono fun e w' ⟨he, hw⟩ => ⟨he, ?_, ?_⟩
  · rw [hw]
    have := World.ownsRow_lit (e := 9) (size := 1) (base := W.heap.size) W (txtCells (cut (· == c) s.data.toList)).toArray (cut (· == c) s.data.toList).length (Nat.le_refl _) (by unfold maxLen; omega) (by simp [txtCells])
    simpa using this
  · rw [hw]
    exact (Below.refl _ _).alloc (Nat.le_refl _) _


theorem split_hid (s : ByteArray) (c : UInt8) (L : List (List UInt8)) (hL : cut (· == c) s.data.toList = L) (hs : s.size < 4294967281) : Hid (∀ W, MaxIn W → Calls Tryz.prog 124 #[.string s, .string ⟨#[c]⟩] W fun e w' => e = .returned (.slice (some ⟨W.heap.size, 0, none⟩) L.length L.length) ∧
      w'.ownsRow W.heap.size 9 1 (.slice (some ⟨W.heap.size, 0, none⟩) L.length L.length) L.length (txtCells L) ∧ Below W.heap.size W w') := Lib.hid fun W hm => by
  rw [← hL]; exact split_any s c W hs hm
theorem all_prefix {α : Type} (p : α → Bool) (L : List α) (k : Nat) (h : k < L.length) (h1 : (L.take k).all p = true) : (p L[k] = true → (L.take (k + 1)).all p = true) ∧ (p L[k] = false → L.all p = false) := by
  constructor
  · intro hp
    rw [List.take_succ_eq_append_getElem h, List.all_append, h1]; simp [hp]
  · intro hp
    rw [List.all_eq_false]
    exact ⟨L[k], List.getElem_mem h, by rw [hp]; simp⟩

set_option maxRecDepth 100000 in
set_option maxHeartbeats 1000000 in
theorem host_any (s : ByteArray) (hs : s.size ≤ 1000000000) (w : World) (hm : MaxIn w) : Calls Tryz.prog 100 #[.string s] w fun e w' => e = .returned (.bool (hostM s.data.toList)) ∧ Below w.heap.size w w' := by
  have hM : hostM s.data.toList = (decide (s.size ≤ 100) && (cut dot s.data.toList).all nameM) := by unfold hostM; rw [lsize]
  by_cases h1 : 100 < (s.size : Int)
  · have e : hostM s.data.toList = false := by rw [hM, decide_eq_false (by omega)]; rfl
    rw [e]
    clear hM e hm
    go_enter Tryz.func100, Tryz.ntmps100
    go_wp2
    go_ret
    exact ⟨rfl, Below.refl _ _⟩
  rw [decide_eq_true (by omega), Bool.true_and] at hM
  have hcl : ∀ x ∈ cut dot s.data.toList, x.length ≤ 1000000000 := fun x hx => by have := cut_len _ _ x hx; rw [lsize] at this; omega
  have hn : (cut dot s.data.toList).length ≤ 1000000001 := by
    have h2 := cut_total dot s.data.toList
    have h3 := cut_length dot s.data.toList
    rw [lsize] at h2; omega
  obtain ⟨L, hL⟩ : ∃ L, cut dot s.data.toList = L := ⟨_, rfl⟩
  have CS := split_hid s 46 L hL (by omega)
  rw [hL] at hcl hn hM
  have HM := Lib.hid hM
  have HC := Lib.hid hcl
  clear hL hM hcl
  go_enter Tryz.func100, Tryz.ntmps100
  go_wp2_with fail
  refine (CS.out _ hm).mono ?_
  rintro e w1 ⟨rfl, hown, hb⟩
  have hcell : Hid (∀ j (h : j < L.length), w1.cell? ⟨w.heap.size, j, none⟩ = some (strV L[j])) := Lib.hid fun j h => by
    rw [hown.cellAt j (by omega)]
    simp [txtCells, List.getElem?_eq_getElem h]
  clear hown
  go_wp2
  go_loop [4, 11] (fun _ i => ∃ k : Nat, k ≤ L.length ∧ i = .int .i64 k ∧ Hid ((L.take k).all nameM = true)) (fun _ i => L.length - (intOf i).toNat)
  case atStart => exact ⟨0, by omega, rfl, Lib.hid rfl⟩
  case round =>
    obtain ⟨k, hk, rfl, HS⟩ := hrel
    by_cases hlt : k < L.length
    · have hc := hcell.out k hlt
      obtain ⟨X, hX⟩ := text_of L[k]
      have hXs : X.size ≤ 1000000000 := by have := HC.out _ (List.getElem_mem hlt); rw [← hX, lsize] at this; exact this
      have hc2 : w1.cell? ⟨w.heap.size, k, none⟩ = some (.string X) := by rw [hc, ← hX]; rfl
      have hst := all_prefix nameM L k hlt HS.out
      rw [← hX] at hst
      clear hc hX
      cases hb2 : nameM X.data.toList
      · have C := name_hid X false hb2 (by omega)
        have HR : Hid (false = hostM s.data.toList) := Lib.hid (by rw [HM.out, hst.2 hb2])
        clear hst hb2
        go_wp2_with (go_at_call 125; refine (C.out _).mono ?_; rintro e w1 ⟨rfl, rfl⟩)
        go_ret
        exact ⟨ret_bool HR.out, hb⟩
      · have C := name_hid X true hb2 (by omega)
        have HR := Lib.hid (hst.1 hb2)
        clear hst hb2
        go_wp2_with (go_at_call 125; refine (C.out _).mono ?_; rintro e w1 ⟨rfl, rfl⟩)
        go_round
        case rel => exact ⟨k + 1, by omega, by go_num, HR⟩
        case measure => simp [intOf]; omega
    · obtain rfl : k = L.length := by omega
      have HR : Hid (true = hostM s.data.toList) := Lib.hid (by
        have := HS.out
        rw [List.take_length] at this; rw [HM.out, this])
      go_wp2
      go_ret
      exact ⟨ret_bool HR.out, hb⟩
theorem host_hid (s : ByteArray) (b : Bool) (h : hostM s.data.toList = b) (hs : s.size ≤ 1000000000) : Hid (∀ W, MaxIn W → Calls Tryz.prog 100 #[.string s] W fun e w' => e = .returned (.bool b) ∧ Below W.heap.size W w') :=
  Lib.hid fun W hm => by rw [← h]; exact host_any s hs W hm

end Go.Proofs.YtaldjkbnngeahaaGreatDoor
