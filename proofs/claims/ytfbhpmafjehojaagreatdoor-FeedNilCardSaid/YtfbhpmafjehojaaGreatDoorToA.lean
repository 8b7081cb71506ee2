/- Small letters, trimmed texts, blanks: the program's and the document's. What a step leaves as it was; a row that grows, its elder slice as it was; a builder that lies within a block. A strings.Builder that lies within a block: written, read, emptied. -/
import Derived.Deep.RegionHeld3
import Derived.Maps.AppendAt
import Derived.Deep.AppendLies
import Derived.Deep.RegionLaw
import Derived.Lib.Builder
import Derived.Lib.UnsafeStr
import Derived.Laws.Externs
import Derived.Test.YtfbhpmafjehojaaGreatDoorEntX
namespace Go.Proofs.YtfbhpmafjehojaaGreatDoor
open Go.RowKit

theorem heap_setCell_same (w : World) (R j : Nat) (c : Array Value) (t : TypeId) (fr : Nat × Nat) (u : Value) (h : w.heap[R]? = some (.cells c t fr)) : (w.setCell ⟨R, j, none⟩ u).heap[R]? = some (.cells (c.setIfInBounds j u) t fr) := by
  simp only [World.setCell, Array.getElem?_modify, h]
  simp
/-- A row of bytes that may be written. -/
structure RowAt (w : World) (g : Nat) (l : List UInt8) : Prop where
  cell : ∀ j b, l[j]? = some b → w.cell? ⟨g, j, none⟩ = some (.int .u8 (b.toNat : Int))
  free : ∀ j, j < l.length → w.frozen? ⟨g, j, none⟩ = false
theorem RowAt.set {w : World} {g : Nat} {l : List UInt8} (h : RowAt w g l) {k : Nat} (hk : k < l.length) (b : UInt8) : RowAt (w.setCell ⟨g, k, none⟩ (.int .u8 (b.toNat : Int))) g (l.set k b) := by
  refine ⟨fun j c hj => ?_, fun j hj => by rw [World.frozen?_setCell]; exact h.free j (by simpa using hj)⟩
  rw [List.getElem?_set] at hj
  by_cases e : k = j
  · subst e
    rw [if_pos rfl, if_pos hk] at hj
    cases hj
    exact World.cell?_setCell_same _ _ _ (h.cell k l[k] (by rw [List.getElem?_eq_getElem hk]))
  · rw [if_neg e] at hj
    rw [World.cell?_setCell_other _ _ _ _ (by intro h; cases h; exact e rfl)]
    exact h.cell j c hj
theorem rowAt_world (w : World) (s : ByteArray) : RowAt (Lib.bytesWorld w 5 s) w.heap.size s.data.toList := by
  refine ⟨fun j b hj => ?_, fun j hj => ?_⟩
  · rw [Lib.bytesWorld_cell w 5 s j (get_of hj).2]
    simp only [List.getD_eq_getElem?_getD, hj, Option.getD_some]
  · have hg := Lib.bytesWorld_at_new w 5 s
    have hsz : j < (Lib.bytesCells w 5 s).size := by
      rw [lsize] at hj
      simp [Lib.bytesCells]; omega
    unfold World.frozen?
    rw [hg]
    simp
    omega
theorem below_bytesWorld (w : World) (s : ByteArray) : Below w.heap.size w (Lib.bytesWorld w 5 s) := by
  refine ⟨?_, ?_, ?_, by rw [Lib.bytesWorld_size]; omega, fun k hk => Lib.bytesWorld_at_old w 5 s k hk⟩
  · simp [Lib.bytesWorld, World.freeze, World.alloc, World.drew, -World.alloc_eq, -World.drew_eq]
  · simp [Lib.bytesWorld, World.freeze, World.alloc, World.drew, -World.alloc_eq, -World.drew_eq]
  · simp [Lib.bytesWorld, World.freeze, World.alloc, World.drew, -World.alloc_eq, -World.drew_eq]
theorem RowAt.conv {w : World} {g : Nat} {l : List UInt8} (h : RowAt w g l) (n cap : Nat) (hn : n = l.length) : (convert 22 9 (.slice (some ⟨g, 0, none⟩) n cap)).run Tryz.prog w = .ok (.string ⟨l.toArray⟩) w := by
  subst hn
  refine run_convert_bytes_back (P := Tryz.prog) w 22 9 5 ⟨g, 0, none⟩ cap l Tryz.underlying22 Tryz.underlying5 Tryz.underlying9 (fun j hj => ?_)
  have e : (⟨g, 0, none⟩ : Addr).add j = ⟨g, j, none⟩ := by simp [Addr.add]; omega
  rw [e]
  exact h.cell j _ (by rw [List.getElem?_eq_getElem hj])
/-- The first k letters small, the others as they were. -/
def mix (l : List UInt8) (k : Nat) : List UInt8 := low (l.take k) ++ l.drop k
theorem mix_length (l : List UInt8) (k : Nat) : (mix l k).length = l.length := by
  simp only [mix, low, List.length_append, List.length_map, List.length_take, List.length_drop]; omega
theorem mix_zero (l : List UInt8) : mix l 0 = l := by simp [mix, low]
theorem mix_all (l : List UInt8) : mix l l.length = low l := by simp [mix]
theorem mix_at (l : List UInt8) (k : Nat) (b : UInt8) (h : l[k]? = some b) : (mix l k)[k]? = some b := by
  have hk := (List.getElem?_eq_some_iff.1 h).1
  unfold mix
  rw [List.getElem?_append_right (by simp [low]; omega)]
  simp only [low, List.length_map, List.length_take, List.getElem?_drop]
  rw [← h]; congr 1; omega
theorem mix_succ (l : List UInt8) (k : Nat) (b : UInt8) (h : l[k]? = some b) : mix l (k + 1) = (mix l k).set k (lowB b) := by
  have hk := List.getElem?_eq_some_iff.1 h
  have hl : (low (l.take k)).length = k := by have := hk.1; simp [low]; omega
  unfold mix
  rw [List.set_append_right _ _ (by omega), hl, Nat.sub_self, drop_cons h, List.set_cons_zero]
  rw [List.take_add_one, h]
  simp [low]
theorem set_self {l : List UInt8} {k : Nat} {b : UInt8} (h : l[k]? = some b) : l.set k b = l := by
  apply List.ext_getElem?
  intro j
  rw [List.getElem?_set]
  split
  · rename_i e
    subst e
    rw [if_pos (List.getElem?_eq_some_iff.1 h).1, h]
  · rfl
theorem lowB_great {b : UInt8} (h : 65 ≤ (b.toNat : Int)) (h2 : (b.toNat : Int) ≤ 90) : ((lowB b).toNat : Int) = (b.toNat : Int) + 32 := by
  unfold lowB
  rw [if_pos ⟨by omega, by omega⟩, UInt8.toNat_add]
  simp; omega
theorem lowB_other {b : UInt8} (h : ¬ (65 ≤ (b.toNat : Int) ∧ (b.toNat : Int) ≤ 90)) : lowB b = b := by
  unfold lowB
  rw [if_neg (by omega)]
set_option maxRecDepth 100000 in
set_option maxHeartbeats 1000000 in
theorem lower_any (s : ByteArray) (w : World) (hs : s.size ≤ 1099511627776) :
    Calls Tryz.prog 61 #[.string s] w fun e w' => e = .returned (.string ⟨(low s.data.toList).toArray⟩) ∧ Below w.heap.size w w' := by
  have hconv := Lib.run_convert_string_bytes (P := Tryz.prog) w 9 22 5 s Tryz.underlying9 Tryz.underlying22 Tryz.underlying5
  have hrow := rowAt_world w s
  have hbel := below_bytesWorld w s
  have hsz := Lib.bytesWorld_size w 5 s
  generalize Lib.bytesWorld w 5 s = W at hconv hrow hbel hsz
  generalize grownCap w s.size 0 5 = cap at hconv
  have HZ : w.heap.size < W.heap.size := by omega
  clear hsz
  have hll := lsize s
  generalize hL : s.data.toList = l at *
  generalize s.size = n at *
  have HN := Lib.hid hll
  have HL := Lib.hid hL
  clear hll hL
  go_enter Tryz.func61, Tryz.ntmps61
  go_wp2
  go_loopw [4, 5, 10] (fun _ _ i wr => ∃ k : Nat, i = .int .i64 k ∧ k ≤ n ∧ RowAt wr w.heap.size (mix l k) ∧ Below w.heap.size w wr) (fun _ _ i _ => n - (intOf i).toNat)
  case atStart => exact ⟨0, rfl, Nat.zero_le _, by rw [mix_zero]; exact hrow, hbel⟩
  case round =>
    obtain ⟨k, rfl, hk, hr, hb⟩ := hrel
    clear hrow hbel hconv
    by_cases hlt : k < n
    · obtain ⟨b, hb1⟩ : ∃ b, l[k]? = some b := ⟨l[k]'(by rw [HN.out]; exact hlt), List.getElem?_eq_getElem _⟩
      have hcell := hr.cell k b (mix_at l k b hb1)
      have hfree := hr.free k (by rw [mix_length, HN.out]; exact hlt)
      have hset := hr.set (k := k) (by rw [mix_length, HN.out]; exact hlt) (lowB b)
      rw [← mix_succ l k b hb1] at hset
      have hsame : lowB b = b → RowAt wr w.heap.size (mix l (k + 1)) := fun e => by
        rw [mix_succ l k b hb1, e, set_self (mix_at l k b hb1)]; exact hr
      have HS := Lib.hid hset
      have HM := Lib.hid hsame
      clear hset hsame
      have hbs := hb.setCell (p := ⟨w.heap.size, k, none⟩) (Nat.le_refl _) (.int .u8 ((lowB b).toNat : Int))
      by_cases hg : 65 ≤ (b.toNat : Int) ∧ (b.toNat : Int) ≤ 90
      · obtain ⟨hg1, hg2⟩ := hg
        have e := lowB_great hg1 hg2
        rw [e] at HS hbs
        clear e
        go_wp2
        go_roundw
        case rel => exact ⟨k + 1, by go_num, by omega, HS.out, hbs⟩
        case measure => simp [intOf]; omega
      · have e := HM.out (lowB_other hg)
        by_cases hg1 : 65 ≤ (b.toNat : Int)
        all_goals
          go_wp2
          go_roundw
          case rel => exact ⟨k + 1, by go_num, by omega, e, hb⟩
          case measure => simp [intOf]; omega
    · obtain rfl : k = n := by omega
      have hc := RowAt.conv hr k cap (by rw [mix_length, HN.out])
      have hml : mix l k = low l := by rw [← HN.out, mix_all]
      rw [hml] at hc
      clear HN HL hr hml
      go_wp2
      go_ret
      exact ⟨rfl, hb⟩
theorem trim_any (s : ByteArray) (w : World) (hs : s.size ≤ 1099511627776) :
    Calls Tryz.prog 72 #[.string s] w fun e w' => e = .returned (.string ⟨(trim s.data.toList).toArray⟩) ∧ Below w.heap.size w w' := by
  have hT := fun W => Tryz.strings_Trim_laid s ⟨#[9, 10, 12, 13, 32]⟩ W (by omega) (by decide) (ascii_of_all (by decide))
  have e : Lib.trimS s.data.toList (⟨#[9, 10, 12, 13, 32]⟩ : ByteArray).data.toList = trim s.data.toList := rfl
  rw [e] at hT
  generalize (⟨(trim s.data.toList).toArray⟩ : ByteArray) = r at hT ⊢
  have HT := Lib.hid hT
  clear hT e
  go_enter Tryz.func72, Tryz.ntmps72
  go_wp2_with (go_at_call 98; refine (HT.out _).mono ?_; rintro e w' ⟨rfl, hb⟩)
  go_ret
  exact ⟨rfl, hb⟩
theorem lower_hid (s T : ByteArray) (hT : T.data.toList = low s.data.toList) (hs : s.size ≤ 1099511627776) : Hid (∀ W, Calls Tryz.prog 61 #[.string s] W fun e w' => e = .returned (.string T) ∧ Below W.heap.size W w') := Lib.hid fun W => by
  rw [text_is hT]; exact lower_any s W hs
theorem trim_hid (s T : ByteArray) (hT : T.data.toList = trim s.data.toList) (hs : s.size ≤ 1099511627776) : Hid (∀ W, Calls Tryz.prog 72 #[.string s] W fun e w' => e = .returned (.string T) ∧ Below W.heap.size W w') := Lib.hid fun W => by
  rw [text_is hT]; exact trim_any s W hs
theorem indexByte_mem (l : List UInt8) (c : UInt8) : (l.contains c = true ∧ 0 ≤ Lib.indexByte l c) ∨ (l.contains c = false ∧ Lib.indexByte l c = -1) := by
  induction l with
  | nil => exact .inr ⟨rfl, rfl⟩
  | cons b l ih =>
    unfold Lib.indexByte
    cases hb : (b == c)
    · have hb' : (c == b) = false := by rw [Bool.eq_false_iff] at hb ⊢; intro h; exact hb (by rw [eq_of_beq h]; simp)
      simp only [List.contains_cons, hb', Bool.false_or, Bool.false_eq_true, if_false]
      rcases ih with ⟨h1, h2⟩ | ⟨h1, h2⟩
      · left
        refine ⟨h1, ?_⟩
        rw [if_neg (by simp; omega)]; omega
      · right
        refine ⟨h1, ?_⟩
        rw [h2]; rfl
    · left
      have := eq_of_beq hb
      subst this
      simp
theorem extract_mk {s : ByteArray} {i j : Nat} {l : List UInt8} (h : (s.data.toList.drop i).take (j - i) = l) : s.extract i j = ⟨l.toArray⟩ := by
  apply ByteArray.ext
  apply Array.toList_inj.1
  rw [extract_toList, h]
theorem take_drop_swap (l : List UInt8) (i j : Nat) : (l.drop i).take (j - i) = (l.take j).drop i := by
  rw [List.drop_take]
theorem has_any (c : UInt8) (w : World) : Calls Tryz.prog 132 #[.string ⟨#[9, 10, 12, 13, 32]⟩, .int .u8 (c.toNat : Int)] w fun e w' => e = .returned (.bool (blk c)) ∧ w = w' := by
  have hI := fun W => Tryz.strings_IndexByte ⟨#[9, 10, 12, 13, 32]⟩ (c.toNat : Int) W
  have e : ((c.toNat : Int)).toNat.toUInt8 = c := by simp
  rw [e] at hI
  have hm := indexByte_mem [9, 10, 12, 13, 32] c
  change (blk c = true ∧ _) ∨ (blk c = false ∧ _) at hm
  change ∀ W, Calls Tryz.prog 112 _ W fun e w' => e = .returned (.int .i64 (Lib.indexByte [9, 10, 12, 13, 32] c)) ∧ w' = W at hI
  generalize Lib.indexByte [9, 10, 12, 13, 32] c = n at hm hI
  generalize blk c = bl at hm ⊢
  have HI := Lib.hid hI
  clear hI e
  rcases hm with ⟨rfl, h⟩ | ⟨rfl, rfl⟩
  · go_enter Tryz.func132, Tryz.ntmps132
    go_wp2_with (go_at_call 112; refine (HI.out _).mono ?_; rintro e w' ⟨rfl, rfl⟩)
    go_ret
    exact ⟨rfl, rfl⟩
  · go_enter Tryz.func132, Tryz.ntmps132
    go_wp2_with (go_at_call 112; refine (HI.out _).mono ?_; rintro e w' ⟨rfl, rfl⟩)
    go_ret
    exact ⟨rfl, rfl⟩
theorem blk_int (c : UInt8) : blk c = decide ((c.toNat : Int) = 9 ∨ (c.toNat : Int) = 10 ∨ (c.toNat : Int) = 12 ∨ (c.toNat : Int) = 13 ∨ (c.toNat : Int) = 32) := by
  rw [Bool.eq_iff_iff]
  unfold blk
  simp [← UInt8.toNat_inj]
  omega
theorem refBlank_any (c : UInt8) (w : World) : Calls Tryz.prog 103 #[.int .u8 (c.toNat : Int)] w fun e w' => e = .returned (.bool (blk c)) ∧ w = w' := by
  have hb := blk_int c
  generalize blk c = bl at hb ⊢
  generalize c.toNat = n at hb ⊢
  subst hb
  go_enter Tryz.func103, Tryz.ntmps103
  go_wp2
  all_goals go_ret
  all_goals refine ⟨ret_bool ?_, rfl⟩
  all_goals (rw [Bool.eq_iff_iff]; simp only [Bool.or_eq_true, decide_eq_true_eq, true_iff, beq_iff_eq] at *; omega)
set_option maxRecDepth 100000 in
set_option maxHeartbeats 1000000 in
theorem refLower_any (s : ByteArray) (w : World) (hs : s.size ≤ 1099511627776) :
    Calls Tryz.prog 104 #[.string s] w fun e w' => e = .returned (.string ⟨(low s.data.toList).toArray⟩) ∧ Below w.heap.size w w' := by
  obtain ⟨i0, hi, hz0, hz1, hz2⟩ := info_parts Tinfo5
  go_enter Tryz.func104, Tryz.ntmps104
  go_wp2
  go_loopw [3, 4, 5] (fun v i _ wr => ∃ k : Nat, i = .int .i64 k ∧ k ≤ s.size ∧ wr.ownsRow w.heap.size 5 1 v k (Lib.byteCells ((low s.data.toList).take k)) ∧ Below w.heap.size w wr) (fun _ i _ _ => s.size - (intOf i).toNat)
  case atStart => exact ⟨0, rfl, Nat.zero_le _, World.ownsRow_nil w w.heap.size 5 1, Below.refl _ _⟩
  case round =>
    obtain ⟨k, rfl, hk, hown, hbw⟩ := hrel
    by_cases hlt : k < s.size
    · obtain ⟨b, hb1, _, rfl⟩ := at_some hlt
      have hH : Hid (Lib.byteCells ((low s.data.toList).take (k + 1)) = Lib.byteCells ((low s.data.toList).take k) ++ [.int .u8 ((lowB s[k]).toNat : Int)]) := by
        show _ = _
        rw [take_low _ k _ hb1, byteCells_append, byteCells_one]
      clear hb1
      have hlo := lowB_other (b := s[k])
      have hgr := lowB_great (b := s[k])
      generalize Lib.byteCells ((low s.data.toList).take k) = A at *
      by_cases hg : 65 ≤ (s[k].toNat : Int) ∧ (s[k].toNat : Int) ≤ 90
      · obtain ⟨hg1, hg2⟩ := hg
        have e := hgr hg1 hg2
        rw [e] at hH
        clear e hlo hgr
        go_wp2_with (at_builtin; refine wpList_append_own _ rfl _ _ 22 rfl w.heap.size 5 i0 (.int .u8 0) 1 1 Tryz.underlying22 hi hz0 hz1 hz2 rfl (by decide) _ _ _ rfl (hown.alloc _) ⟨wr.heap.size, 0, none⟩ 1 1 [.int .u8 ((s[k].toNat : Int) + 32)] rfl rfl (cell_one_new _ _ _) (fun x hx => by simp at hx; subst hx; rfl) (by unfold maxLen; omega) (by omega) (by have := hbw.size; simp; omega) ?_; intro v' w3 hown' hgrow3 hnil3
                     have hbw3 : Below w.heap.size w w3 := Below.grown (hbw.alloc (by have := hbw.size; omega) _) hgrow3 (by have := hbw.size; simp; omega) (fun j hj => by have := (hown.lt _ hj).1; omega)
                     have X : Aside (w3.ownsRow w.heap.size 5 1 v' (k + 1) (A ++ [.int .u8 ((s[k].toNat : Int) + 32)]) ∧ Below w.heap.size w w3) := ⟨hown', hbw3⟩
                     clear hown' hgrow3 hnil3)
        go_roundw
        case rel => exact ⟨k + 1, by go_num, by omega, by rw [hH.out]; exact X.out.1, X.out.2⟩
        case measure => simp [intOf]; omega
      · have e := hlo hg
        rw [e] at hH
        clear e hlo hgr
        by_cases hg1 : 65 ≤ (s[k].toNat : Int)
        all_goals
          go_wp2_with (at_builtin; refine wpList_append_own _ rfl _ _ 22 rfl w.heap.size 5 i0 (.int .u8 0) 1 1 Tryz.underlying22 hi hz0 hz1 hz2 rfl (by decide) _ _ _ rfl (hown.alloc _) ⟨wr.heap.size, 0, none⟩ 1 1 [.int .u8 (s[k].toNat : Int)] rfl rfl (cell_one_new _ _ _) (fun x hx => by simp at hx; subst hx; rfl) (by unfold maxLen; omega) (by omega) (by have := hbw.size; simp; omega) ?_; intro v' w3 hown' hgrow3 hnil3
                       have hbw3 : Below w.heap.size w w3 := Below.grown (hbw.alloc (by have := hbw.size; omega) _) hgrow3 (by have := hbw.size; simp; omega) (fun j hj => by have := (hown.lt _ hj).1; omega)
                       have X : Aside (w3.ownsRow w.heap.size 5 1 v' (k + 1) (A ++ [.int .u8 (s[k].toNat : Int)]) ∧ Below w.heap.size w w3) := ⟨hown', hbw3⟩
                       clear hown' hgrow3 hnil3)
          go_roundw
          case rel => exact ⟨k + 1, by go_num, by omega, by rw [hH.out]; exact X.out.1, X.out.2⟩
          case measure => simp [intOf]; omega
    · obtain rfl : k = s.size := by omega
      rw [List.take_of_length_le (by rw [low_length, lsize]; exact Nat.le_refl _)] at hown
      have hconv := conv_row hown
      go_wp2
      go_ret
      exact ⟨rfl, hbw⟩
/-- What the two loops of the document's Trim know. -/
def Front (l : List UInt8) (i : Nat) : Prop := ∀ k, k < i → ∀ b, l[k]? = some b → blk b = true
def Back (l : List UInt8) (j : Nat) : Prop := ∀ k, j ≤ k → ∀ b, l[k]? = some b → blk b = true
set_option maxRecDepth 100000 in
set_option maxHeartbeats 1000000 in
theorem refTrim_any (s : ByteArray) (w : World) (hs : s.size ≤ 1099511627776) :
    Calls Tryz.prog 108 #[.string s] w fun e w' => e = .returned (.string ⟨(trim s.data.toList).toArray⟩) ∧ w = w' := by
  go_enter Tryz.func108, Tryz.ntmps108
  go_wp2
  go_loop [3] (fun i => ∃ k : Nat, i = .int .i64 k ∧ k ≤ s.size ∧ Hid (Front s.data.toList k)) (fun i => s.size - (intOf i).toNat)
  case atStart => exact ⟨0, rfl, Nat.zero_le _, Lib.hid (fun k hk => by omega)⟩
  case round =>
    obtain ⟨k, rfl, hk, HF⟩ := hrel
    have hgo : (∃ h : k < s.size, blk s[k] = true) ∨ ((k = s.size) ∨ (∃ h : k < s.size, blk s[k] = false)) := by
      by_cases h : k < s.size
      · cases hb : blk s[k]
        · exact .inr (.inr ⟨h, hb⟩)
        · exact .inl ⟨h, hb⟩
      · exact .inr (.inl (by omega))
    rcases hgo with ⟨hlt, hb⟩ | hend
    · have HF2 : Hid (Front s.data.toList (k + 1)) := Lib.hid (fun j hj b hjb => by
        by_cases h : j < k
        · exact HF.out j h b hjb
        · obtain rfl : j = k := by omega
          obtain ⟨b', h1, _, rfl⟩ := at_some hlt
          rw [h1] at hjb; cases hjb; exact hb)
      have c := fun W => refBlank_any s[k] W
      rw [hb] at c
      have C := Lib.hid c
      clear c hb HF
      go_wp2_with (go_at_call 103; refine (C.out _).mono ?_; rintro e w' ⟨rfl, rfl⟩)
      go_round
      case rel => exact ⟨k + 1, by go_num, by omega, HF2⟩
      case measure => simp [intOf]; omega
    · have HE : Hid (∀ j, k < j → ∀ b, s.data.toList[k]? = some b → blk b = false) := Lib.hid (fun j hj b hb => by
        rcases hend with rfl | ⟨h, hb2⟩
        · have := (get_of hb).2; omega
        · obtain ⟨b', h1, _, rfl⟩ := at_some h
          rw [h1] at hb; cases hb; exact hb2)
      have loop2 : ∀ (P : Prop), (P → P) := fun _ h => h
      have hcase : ¬ k < s.size ∨ ∃ h : k < s.size, ∀ W, Calls Tryz.prog 103 #[.int .u8 (s[k].toNat : Int)] W fun e w' => e = .returned (.bool false) ∧ W = w' := by
        rcases hend with rfl | ⟨h, hb2⟩
        · exact .inl (by omega)
        · refine .inr ⟨h, fun W => ?_⟩
          have := refBlank_any s[k] W
          rw [hb2] at this; exact this
      clear hend loop2
      rcases hcase with hlt | ⟨hlt, c⟩
      all_goals (try (have C := Lib.hid c; clear c))
      all_goals
        go_wp2_with (go_at_call 103; refine (C.out _).mono ?_; rintro e w' ⟨rfl, rfl⟩)
        go_loop [4] (fun i => ∃ j : Nat, i = .int .i64 j ∧ k ≤ j ∧ j ≤ s.size ∧ Hid (Back s.data.toList j)) (fun i => (intOf i).toNat)
        case atStart => exact ⟨s.size, rfl, hk, Nat.le_refl _, Lib.hid (fun q hq b hb => by have := (get_of hb).2; omega)⟩
        case round =>
          obtain ⟨j, rfl, hkj, hj, HB⟩ := hrel
          have hgo : (∃ m, j = m + 1 ∧ k ≤ m ∧ ∃ h : m < s.size, blk s[m] = true) ∨ j = k ∨ (∃ m, j = m + 1 ∧ k ≤ m ∧ ∃ h : m < s.size, blk s[m] = false) := by
            by_cases h : j = k
            · exact .inr (.inl h)
            · obtain ⟨m, rfl⟩ : ∃ m, j = m + 1 := ⟨j - 1, by omega⟩
              have hm : m < s.size := by omega
              cases hb : blk s[m]
              · exact .inr (.inr ⟨m, rfl, by omega, hm, hb⟩)
              · exact .inl ⟨m, rfl, by omega, hm, hb⟩
          have fin : (k < j → ∀ b, s.data.toList[j - 1]? = some b → blk b = false) → s.extract k j = ⟨(trim s.data.toList).toArray⟩ := fun h4 => by
            apply extract_mk
            rw [take_drop_swap]
            exact (trim_range s.data.toList k j hkj (by rw [lsize]; exact hj) HF.out HB.out (fun h => HE.out j h) h4).symm
          rcases hgo with ⟨m, rfl, hkm, hm, hb⟩ | rfl | ⟨m, rfl, hkm, hm, hb⟩
          · have HB2 : Hid (Back s.data.toList m) := Lib.hid (fun q hq b hqb => by
              by_cases h : m + 1 ≤ q
              · exact HB.out q h b hqb
              · obtain rfl : q = m := by omega
                obtain ⟨b', h1, _, rfl⟩ := at_some hm
                rw [h1] at hqb; cases hqb; exact hb)
            have c2 := fun W => refBlank_any s[m] W
            rw [hb] at c2
            have C2 := Lib.hid c2
            clear c2 hb HB fin
            go_wp2_with (go_at_call 103; refine (C2.out _).mono ?_; rintro e w' ⟨rfl, rfl⟩)
            first
              | done
              | (go_round
                 case rel => exact ⟨m, by go_num, hkm, by omega, HB2⟩
                 case measure => simp [intOf])
          · have hf := fin (fun h => by omega)
            have he : s.extract j j = ByteArray.empty := by simp
            rw [he] at hf
            have HFI := Lib.hid hf
            clear fin hf he
            go_wp2
            go_ret
            exact ⟨congrArg (fun x => Ending.returned (Value.string x)) HFI.out, rfl⟩
          · have hf := fin (fun h b hb3 => by
              obtain ⟨b', h1, _, rfl⟩ := at_some hm
              rw [Nat.add_sub_cancel, h1] at hb3; cases hb3; exact hb)
            have c2 := fun W => refBlank_any s[m] W
            rw [hb] at c2
            have C2 := Lib.hid c2
            have HFI := Lib.hid hf
            clear c2 hb HB fin hf
            go_wp2_with (go_at_call 103; refine (C2.out _).mono ?_; rintro e w' ⟨rfl, rfl⟩)
            all_goals go_ret
            all_goals exact ⟨congrArg (fun x => Ending.returned (Value.string x)) HFI.out, rfl⟩
theorem refLower_hid (s T : ByteArray) (hT : T.data.toList = low s.data.toList) (hs : s.size ≤ 1099511627776) : Hid (∀ W, Calls Tryz.prog 104 #[.string s] W fun e w' => e = .returned (.string T) ∧ Below W.heap.size W w') := Lib.hid fun W => by
  rw [text_is hT]; exact refLower_any s W hs
theorem refTrim_hid (s T : ByteArray) (hT : T.data.toList = trim s.data.toList) (hs : s.size ≤ 1099511627776) : Hid (∀ W, Calls Tryz.prog 108 #[.string s] W fun e w' => e = .returned (.string T) ∧ w' = W) := Lib.hid fun W => by
  rw [text_is hT]; exact (refTrim_any s W hs).mono fun e w' h => ⟨h.1, h.2.symm⟩

end Go.Proofs.YtfbhpmafjehojaaGreatDoor

namespace Go.Proofs.YtfbhpmafjehojaaGreatDoor
open Go.RowKit

/-- All blocks lie as they lay but those of cells of which P speaks (by number and type). -/
structure Kp (P : Nat → TypeId → Prop) (w w' : World) : Prop where
  os : w'.os = w.os
  tape : w'.tape = w.tape
  output : w'.output = w.output
  size : w.heap.size ≤ w'.heap.size
  same : ∀ k o, w.heap[k]? = some o → (∀ c t fr, o = .cells c t fr → ¬ P k t) → w'.heap[k]? = some o
theorem Kp.refl (P : Nat → TypeId → Prop) (w : World) : Kp P w w := ⟨rfl, rfl, rfl, Nat.le_refl _, fun _ _ h _ => h⟩
theorem Kp.of_below {P : Nat → TypeId → Prop} {w w' : World} (h : Below w.heap.size w w') : Kp P w w' := ⟨h.os, h.tape, h.output, h.size, fun k _ hk _ => (h.block k (lt_of_block hk)).trans hk⟩
theorem Kp.trans {P : Nat → TypeId → Prop} {a b c : World} (h : Kp P a b) (k : Kp P b c) : Kp P a c :=
  ⟨k.os.trans h.os, k.tape.trans h.tape, k.output.trans h.output, Nat.le_trans h.size k.size, fun j o hj hn => k.same j o (h.same j o hj hn) hn⟩
theorem Kp.mono {P P' : Nat → TypeId → Prop} {a b : World} (h : Kp P a b) (hs : ∀ k c t fr, a.heap[k]? = some (.cells c t fr) → P k t → P' k t) : Kp P' a b := ⟨h.os, h.tape, h.output, h.size, fun j o hj hn => h.same j o hj fun c t fr e hp => hn c t fr e (hs j c t fr (by rw [hj, e]) hp)⟩
theorem Kp.below {P : Nat → TypeId → Prop} {B : Nat} {w w' : World} (h : Kp P w w') (hs : ∀ k t, P k t → B ≤ k) (hB : B ≤ w.heap.size) : Below B w w' := ⟨h.os, h.tape, h.output, h.size, fun k hk => by
  have h1 : w.heap[k]? = some (w.heap[k]'(by omega)) := Array.getElem?_eq_getElem (by omega)
  rw [h1]
  exact h.same k _ h1 fun c t fr _ hp => by have := hs k t hp; omega⟩
theorem Kp.of_grown {P : Nat → TypeId → Prop} {w w' : World} {row : Option Nat} (h : w.grownBy w' row) (hs : ∀ k c t fr, row = some k → w.heap[k]? = some (.cells c t fr) → P k t) (hc : ∀ k, row = some k → ∃ c t fr, w.heap[k]? = some (.cells c t fr)) : Kp P w w' := ⟨h.os, h.tape, h.output, h.size, fun k o hk hn => (h.block k (lt_of_block hk) fun e => by
  obtain ⟨c, t, fr, h1⟩ := hc k e.symm
  rw [hk] at h1
  cases h1
  exact hn c t fr rfl (hs k c t fr e.symm hk)).trans hk⟩
theorem Kp.drew {P : Nat → TypeId → Prop} {w w' : World} (h : Kp P w w') : Kp P w w'.drew := ⟨h.os, h.tape, h.output, h.size, h.same⟩
theorem heap_setCell_ne (w : World) (a : Addr) (u : Value) {k : Nat} (h : k ≠ a.block) : (w.setCell a u).heap[k]? = w.heap[k]? := Below.heap_setCell _ _ _ _ h
theorem Kp.of_set {P : Nat → TypeId → Prop} {w : World} {R j : Nat} {c : Array Value} {t : TypeId} {fr : Nat × Nat} (hR : w.heap[R]? = some (.cells c t fr)) (u : Value) (hp : P R t) : Kp P w (w.setCell ⟨R, j, none⟩ u) :=
  ⟨rfl, rfl, rfl, by simp [World.setCell], fun k o hk hn => (heap_setCell_ne w _ u fun e => by
    simp only at e
    subst e
    rw [hk] at hR
    cases hR
    exact hn c t fr rfl hp).trans hk⟩
theorem Kp.alloc {P : Nat → TypeId → Prop} {w w' : World} (h : Kp P w w') (o : Obj) : Kp P w (w'.alloc o) := h.trans (Kp.of_below ((Below.refl _ _).alloc (Nat.le_refl _) o))
theorem Kp.row {P : Nat → TypeId → Prop} {w w' : World} (h : Kp P w w') {base size n : Nat} {e : TypeId} {v : Value} {xs : List Value} (r : w.ownsRow base e size v n xs) (hn : ∀ k, v.ownBlock = some k → base ≤ k → ¬ P k e) : w'.ownsRow base e size v n xs := by
  refine ⟨r.1, ?_⟩
  rcases r.2 with h2 | ⟨g, cap, cur, a, b, c, d⟩
  · exact .inl h2
  · refine .inr ⟨g, cap, cur, a, b, h.same g _ c fun c' t' fr' e hp => ?_, d⟩
    cases e
    exact hn g (by rw [a]; rfl) b hp
theorem Kp.cells {P : Nat → TypeId → Prop} {w w' : World} (h : Kp P w w') {k : Nat} {c : Array Value} {t : TypeId} {fr : Nat × Nat} (hk : w.heap[k]? = some (.cells c t fr)) (hn : ¬ P k t) : w'.heap[k]? = some (.cells c t fr) := h.same k _ hk fun c' t' fr' e => by cases e; exact hn
theorem row_block {w : World} {base size n : Nat} {e : TypeId} {v : Value} {xs : List Value} (h : w.ownsRow base e size v n xs) {k : Nat} (hk : v.ownBlock = some k) : ∃ cur, w.heap[k]? = some (.cells cur e (0, 0)) ∧ base ≤ k ∧ k < w.heap.size := by
  rcases h.2 with ⟨e1, _⟩ | ⟨g, cap, cur, a, b, c, _⟩
  · rw [e1] at hk; cases hk
  · rw [a] at hk
    cases hk
    exact ⟨cur, c, b, lt_of_block c⟩
/-- A row lies in no block of another type. -/
theorem row_ne {w : World} {base size n : Nat} {e : TypeId} {v : Value} {xs : List Value} (h : w.ownsRow base e size v n xs) {R : Nat} {c : Array Value} {t : TypeId} {fr : Nat × Nat} (hR : w.heap[R]? = some (.cells c t fr)) (hne : t ≠ e) : v.ownBlock ≠ some R := fun hk => by
  obtain ⟨cur, h1, _⟩ := row_block h hk
  rw [hR] at h1
  cases h1
  exact hne rfl
theorem rows_ne {w : World} {b1 b2 s1 s2 n1 n2 : Nat} {e1 e2 : TypeId} {v1 v2 : Value} {x1 x2 : List Value} (h1 : w.ownsRow b1 e1 s1 v1 n1 x1) (h2 : w.ownsRow b2 e2 s2 v2 n2 x2) (hne : e1 ≠ e2) {k : Nat} (hk : v1.ownBlock = some k) : v2.ownBlock ≠ some k := fun e => by
  obtain ⟨c1, g1, _⟩ := row_block h1 hk
  obtain ⟨c2, g2, _⟩ := row_block h2 e
  rw [g1] at g2
  cases g2
  exact hne rfl

/-- Behind an append the elder slice reads as it did. -/
theorem append_elder (w : World) (base : Nat) (t ty e : TypeId) (i : TypeInfo) (z : Value) (size bytes : Nat) (ht : Tryz.prog.underlying t = some (.slice e)) (hi : Tryz.prog.info? e = some i) (hz : i.zero = some z)
    (hsize : i.size = size) (hby : i.bytes = bytes) (_hzs : z.cells.size = size) (_hsz : 0 < size)
    (v : Value) (n : Nat) (xs : List Value) (hown : w.ownsRow base e size v n xs)
    (a : Addr) (m c : Nat) (news : List Value) (hl : news.length = m * size) (hnews : ∀ j u, news[j]? = some u → w.cell? (a.add j) = some u) (h1 : ∀ u ∈ news, u.oneCell' = true)
    (h63 : n + m ≤ maxLen) (hbytes : (n + m) * bytes ≤ 140737488355328) {v' : Value} {w' : World} (hr : (Builtin.append_ #[t, t] ty #[v, .slice (some a) m c]).run Tryz.prog w = .ok v' w') : w'.ownsRow base e size v n xs := by
  subst hsize
  subst hby
  have hsmall : n + m ≤ 9223372036854775807 := by simp only [maxLen] at h63; omega
  rcases hown.2 with ⟨rfl, rfl⟩ | ⟨g, cap, cur, rfl, hbg, hg, hnc, hcm, hcs, htake⟩
  · have hx : xs = [] := List.eq_nil_of_length_eq_zero (by simpa using hown.1)
    subst hx
    exact World.ownsRow_nil _ _ _ _
  · by_cases hroom : n + m ≤ cap
    · have hfit : n * i.size + news.length ≤ cur.size := by rw [hl, hcs, ← Nat.add_mul]; exact Nat.mul_le_mul_right _ hroom
      rw [run_append_room (P := Tryz.prog) w t ty e i ht hi g n cap cur hg a m c news hl hnews h1 hroom hfit] at hr
      injection hr with _ hr
      subst hr
      refine ⟨hown.1, .inr ⟨g, cap, _, rfl, hbg, setRow_heap w g cur _ e _ hg, hnc, hcm, ?_, ?_⟩⟩
      · simp only [List.size_toArray, List.length_append, List.length_take, List.length_drop, Array.length_toList]
        omega
      · have hln : (cur.toList.take (n * i.size)).length = n * i.size := by rw [htake]; exact hown.1
        rw [show (cur.toList.take (n * i.size) ++ news ++ cur.toList.drop (n * i.size + news.length)).toArray.toList = cur.toList.take (n * i.size) ++ (news ++ cur.toList.drop (n * i.size + news.length)) by simp]
        rw [List.take_append_of_le_length (by omega), List.take_of_length_le (by omega)]
        exact htake
    · have holds : ∀ j u, xs[j]? = some u → w.cell? ((⟨g, 0, none⟩ : Addr).add j) = some u := hown.cells (g := g) rfl
      rw [run_append_grow (P := Tryz.prog) w t ty e i z ht hi hz ⟨g, 0, none⟩ n cap xs hown.1 holds a m c news hl hnews (by omega) (by omega) (growslice_fits (by omega) hbytes)] at hr
      injection hr with _ hr
      subst hr
      refine ⟨hown.1, .inr ⟨g, cap, cur, rfl, hbg, ?_, hnc, hcm, hcs, htake⟩⟩
      rw [heap_alloc_old w.drew _ (lt_of_block hg)]
      exact hg
/-- The operation, for the walk: as wpList_append_own_at, and the elder slice reads as it did. -/
theorem wpList_append_elder {ops : Array Oper} {rest : List Oper} {o : Oper} {a : Act} {Q : Exit → Act → World → Prop} (w : World) (hgd : o.guard = none) (s x : Operand) (t : TypeId)
    (ho : o.op = .call { callee := .builtin .append, args := #[s, x], argTypes := #[t, t] })
    (base : Nat) (e : TypeId) (i : TypeInfo) (z : Value) (size bytes : Nat) (ht : Tryz.prog.underlying t = some (.slice e)) (hi : Tryz.prog.info? e = some i) (hz : i.zero = some z)
    (hsize : i.size = size) (hby : i.bytes = bytes) (hzs : z.cells.size = size) (hsz : 0 < size)
    (v : Value) (n : Nat) (xs : List Value) (hs : a.eval s = v) (hown : w.ownsRow base e size v n xs)
    (ad : Addr) (m c : Nat) (news : List Value) (hx : a.eval x = .slice (some ad) m c) (hl : news.length = m * size) (hnews : ∀ j u, news[j]? = some u → w.cell? (ad.add j) = some u) (h1 : ∀ u ∈ news, u.oneCell' = true)
    (h63 : n + m ≤ maxLen) (hbytes : (n + m) * bytes ≤ 140737488355328) (hbase : base ≤ w.heap.size)
    (h : ∀ v' w', w'.ownsRow base e size v' (n + m) (xs ++ news) → w'.ownsRow base e size v n xs → w.grownBy w' v.ownBlock → (v'.ownBlock = v.ownBlock ∨ v'.ownBlock = some w.heap.size) → wpList Tryz.prog ops Q rest (a.put o.dst v') w') :
    wpList Tryz.prog ops Q (o :: rest) a w := by
  refine wpList_plain hgd fun K hK => ?_
  obtain ⟨v', w', hr, h2, h3, h4, h5⟩ := run_append_own_at (P := Tryz.prog) w base t o.type e i z size bytes ht hi hz hsize hby hzs hsz v n xs hown ad m c news hl hnews h1 h63 hbytes hbase
  have h6 := append_elder w base t o.type e i z size bytes ht hi hz hsize hby hzs hsz v n xs hown ad m c news hl hnews h1 h63 hbytes hr
  unfold Oper.wp execOp
  simp only [ho, resolve, invoke, builtin, Sem.run_bind, Sem.run_pure, Result.andThen_ok, List.map_toArray, List.map_cons, List.map_nil, hs, hx, hr]
  exact hK _ _ (h v' w' h2 h6 h3 h5)
/-- The beginning of a row of one's own. -/
theorem row_take {w : World} {base size n : Nat} {e : TypeId} {a : Option Addr} {cap : Nat} {xs : List Value} (h : w.ownsRow base e size (.slice a n cap) n xs) (k : Nat) (hk : k ≤ n) (h0 : a = none → cap = 0) : w.ownsRow base e size (.slice a k cap) k (xs.take (k * size)) := by
  refine ⟨by rw [List.length_take, h.1]; exact Nat.min_eq_left (Nat.mul_le_mul_right _ hk), ?_⟩
  rcases h.2 with ⟨e1, e2⟩ | ⟨g, c, cur, a1, b, c1, d1, d2, d3, d4⟩
  · injection e1 with e1 e3 e4
    subst e1 e4
    obtain rfl : k = 0 := by omega
    exact .inl ⟨rfl, rfl⟩
  · injection a1 with a1 a2 a3
    subst a1 a3
    refine .inr ⟨g, cap, cur, rfl, b, c1, Nat.le_trans hk d1, d2, d3, ?_⟩
    rw [← d4, List.take_take]
    congr 1
    exact (Nat.min_eq_left (Nat.mul_le_mul_right _ hk)).symm

end Go.Proofs.YtfbhpmafjehojaaGreatDoor

namespace Go.Proofs.YtfbhpmafjehojaaGreatDoor
open Go.RowKit

/-- A builder's two cells lie at o of block R: it holds H, its row is one of one's own (from B on). -/
structure BD (w : World) (B R o : Nat) (H : List UInt8) (c : Array Value) (t : TypeId) (p bv : Value) : Prop where
  blk : w.heap[R]? = some (.cells c t (0, 0))
  c0 : c[o]? = some p
  c1 : c[o + 1]? = some bv
  own : p = .pointer none ∨ p = .pointer (some ⟨R, o, none⟩)
  row : w.ownsRow B 5 1 bv H.length (Lib.byteCells H)
  nil : H = [] → bv = .slice none 0 0
def selfP (R o : Nat) : Value := .pointer (some ⟨R, o, none⟩)
theorem TinfoBd : (Tryz.prog.info? 65).map (fun i => i.size) = some 2 := by kernel_rfl
theorem cellsByte : Tryz.prog.cellsOf 5 = 1 := by kernel_rfl
theorem setSame {c : Array Value} {o : Nat} {p : Value} (h : c[o]? = some p) : c.setIfInBounds o p = c := by
  apply Array.ext (by simp)
  intro i h1 h2
  rw [Array.getElem_setIfInBounds]
  split
  · rename_i e
    subst e
    rw [Array.getElem?_eq_getElem h2] at h
    exact (Option.some.inj h).symm
  · rfl

set_option maxHeartbeats 1000000 in
set_option maxRecDepth 100000 in
theorem check_any (R o : Nat) (c : Array Value) (t : TypeId) (p : Value) (w : World) (hb : w.heap[R]? = some (.cells c t (0, 0))) (h0 : c[o]? = some p) (hp : p = .pointer none ∨ p = .pointer (some ⟨R, o, none⟩)) (ho : o < c.size)
    (hl : liesAt Tryz.prog Tryz.prog.depth t (c.size / Tryz.prog.cellsOf t) o 65 1 = true) :
    Calls Tryz.prog 80 #[.pointer (some ⟨R, o, none⟩)] w fun e w' => e = .returned (.tuple #[]) ∧ w'.heap[R]? = some (.cells (c.setIfInBounds o (selfP R o)) t (0, 0)) ∧ Kp (fun k _ => k = R) w w' := by
  obtain ⟨j, hj, hjs⟩ := Option.map_eq_some_iff.1 TinfoBd
  have hc0 := cell_of hb o
  rw [h0] at hc0
  have hfz := open_of hb o
  have hsh : w.shape? R = some (t, c.size) := by simp [World.shape?, hb]
  rcases hp with rfl | rfl
  · have HS := Lib.hid (heap_setCell_same w R o c t (0, 0) (selfP R o) hb)
    have HK : Hid (Kp (fun k _ => k = R) w (w.setCell ⟨R, o, none⟩ (selfP R o))) := Lib.hid (Kp.of_set hb _ rfl)
    unfold selfP at HS HK ⊢
    go_enter Tryz.func80, Tryz.ntmps80
    go_wp2
    rw [Lib.run_to_unsafe w ⟨R, o, none⟩ Tryz.underlying63 Tryz.underlying136 hj (by rw [hjs]; decide) hsh ho]
    simp only [Result.andThen]
    rw [Oper.upon_value]
    go_wp2
    rw [run_callFunc_extern Tryz.func101 (by kernel_rfl) (by kernel_rfl) (by kernel_rfl) (e := Extern.AbiNoEscape.same) (by kernel_rfl)]
    rw [Lib.run_noEscape]
    simp only [Result.andThen]
    rw [Oper.upon_value]
    go_wp2
    rw [Lib.run_from_unsafe w ⟨R, o, none⟩ Tryz.underlying136 Tryz.underlying63 hj hsh hl]
    simp only [Result.andThen]
    rw [Oper.upon_value]
    go_wp2
    go_end0
    exact ⟨rfl, HS.out, HK.out⟩
  · have HS := Lib.hid (show w.heap[R]? = some (.cells (c.setIfInBounds o (selfP R o)) t (0, 0)) by unfold selfP; rw [setSame h0]; exact hb)
    go_enter Tryz.func80, Tryz.ntmps80
    go_wp2
    rw [Lib.run_neq_ptr_same w _ Tryz.underlying63 hj]
    go_wp2
    go_end0
    exact ⟨rfl, HS.out, Kp.refl _ _⟩

theorem BD.size {w : World} {B R o : Nat} {H : List UInt8} {c : Array Value} {t : TypeId} {p bv : Value} (h : BD w B R o H c t p bv) : o + 1 < c.size := (Array.getElem?_eq_some_iff.1 h.c1).1
theorem BD.form {w : World} {B R o : Nat} {H : List UInt8} {c : Array Value} {t : TypeId} {p bv : Value} (h : BD w B R o H c t p bv) : ∃ a k, bv = .slice a H.length k := by
  rcases rowForms h.row with ⟨e1, e2⟩ | ⟨g, k, e1⟩
  · exact ⟨none, 0, by rw [e1, e2]⟩
  · exact ⟨_, _, e1⟩
/-- What a builder at R writes: R's own cells, rows of bytes from B on. -/
def wrB (B R : Nat) (k : Nat) (t : TypeId) : Prop := k = R ∨ (B ≤ k ∧ t = 5)

set_option maxHeartbeats 2000000 in
set_option maxRecDepth 100000 in
theorem write_any (B R o : Nat) (H : List UInt8) (c : Array Value) (t : TypeId) (p bv : Value) (T : ByteArray) (w : World) (h : BD w B R o H c t p bv) (hB : B ≤ w.heap.size) (ht : t ≠ 5) (hlen : H.length + T.size ≤ 140737488355328)
    (hl : liesAt Tryz.prog Tryz.prog.depth t (c.size / Tryz.prog.cellsOf t) o 65 1 = true) :
    Calls Tryz.prog 50 #[.pointer (some ⟨R, o, none⟩), .string T] w fun e w' => e = .returned (.tuple #[.int .i64 T.size, .nilIface]) ∧ ∃ bv', BD w' B R o (H ++ T.data.toList) ((c.setIfInBounds o (selfP R o)).setIfInBounds (o + 1) bv') t (selfP R o) bv' ∧ Kp (wrB B R) w w' := by
  obtain ⟨i0, hi, hz0, hz1, hz2⟩ := info_parts Tinfo5
  have hs := h.size
  have hnil := h.nil
  have C := Lib.hid (check_any R o c t p w h.blk h.c0 h.own (by omega) hl)
  have hrow := h.row
  have hc1 := h.c1
  have hblk := h.blk
  have hne := row_ne hrow hblk ht
  clear h
  go_enter Tryz.func50, Tryz.ntmps50
  go_wp2_with (go_at_call 80; refine C.out.mono ?_)
  rintro e w1 ⟨rfl, hb1, k1⟩
  have hrow1 := k1.row hrow fun k hk _ e => hne (by rw [hk, e])
  have hc1' : (c.setIfInBounds o (selfP R o))[o + 1]? = some bv := by
    rw [Array.getElem?_setIfInBounds_ne (by omega)]; exact hc1
  have hcell := cell_of hb1 (o + 1)
  rw [hc1'] at hcell
  have hop := open_of hb1 (o + 1)
  have hsz := k1.size
  clear hrow hblk C hc1
  go_wp2_with (
    at_builtin
    refine Lib.wpList_append_own_string _ rfl _ _ 22 9 rfl B 5 i0 Tryz.underlying22 Tryz.underlying9 hi hz0 hz1 hz2 _ _ _ rfl hrow1 T rfl (by unfold maxLen; omega) hlen (by omega) ?_
    intro v' w2 hown' hgrow hnil2
    have hb2 : w2.heap[R]? = some (.cells (c.setIfInBounds o (selfP R o)) t (0, 0)) := by
      rw [hgrow.block R (lt_of_block hb1) (fun e => hne e.symm)]
      exact hb1
    have hop2 := open_of hb2 (o + 1)
    have hcell2 := cell_of hb2 (o + 1)
    rw [hc1'] at hcell2
    have K2 : Kp (wrB B R) w w2 := (k1.mono fun k c' t' fr _ e => Or.inl e).trans (Kp.of_grown hgrow (fun k c' t' fr hk hh => by
      obtain ⟨cur, h1, h2, _⟩ := row_block hrow1 hk
      rw [hh] at h1
      cases h1
      exact Or.inr ⟨h2, rfl⟩) fun k hk => by
      obtain ⟨cur, h1, _⟩ := row_block hrow1 hk
      exact ⟨_, _, _, h1⟩)
    have HB := Lib.hid (heap_setCell_same w2 R (o + 1) _ t (0, 0) v' hb2)
    have HK : Hid (Kp (wrB B R) w (w2.setCell ⟨R, o + 1, none⟩ v')) := Lib.hid (K2.trans (Kp.of_set hb2 _ (Or.inl rfl)))
    have HR : Hid ((w2.setCell ⟨R, o + 1, none⟩ v').ownsRow B 5 1 v' (H ++ T.data.toList).length (Lib.byteCells (H ++ T.data.toList))) := Lib.hid (by
      have h1 : w2.ownsRow B 5 1 v' (H ++ T.data.toList).length (Lib.byteCells (H ++ T.data.toList)) := by
        rw [byteCells_append, List.length_append, lsize]; exact hown'
      exact (Kp.of_set (P := fun k _ => k = R) hb2 v' rfl).row h1 fun k hk _ e => row_ne h1 hb2 ht (by rw [hk, e]))
    have HN : Hid (H ++ T.data.toList = [] → v' = .slice none 0 0) := Lib.hid fun e => hnil2.2 ⟨hnil (List.append_eq_nil_iff.1 e).1, by rw [← lsize, (List.append_eq_nil_iff.1 e).2]; rfl⟩
    have HF : Hid (∃ a k, v' = .slice a (H.length + T.size) k) := Lib.hid (by
      rcases rowForms hown' with ⟨e1, e2⟩ | ⟨g, k, e1⟩
      · exact ⟨none, 0, by rw [e1, e2]⟩
      · exact ⟨_, _, e1⟩)
    clear hown' hgrow hnil2 hrow1 hnil K2
    obtain ⟨va, vk, rfl⟩ := HF.out
    clear HF)
  go_ret2
  refine ⟨rfl, _, ⟨HB.out, ?_, ?_, .inr rfl, HR.out, HN.out⟩, HK.out⟩
  · rw [Array.getElem?_setIfInBounds_ne (by omega), Array.getElem?_setIfInBounds_self_of_lt (by omega)]
  · rw [Array.getElem?_setIfInBounds_self_of_lt (by simp; omega)]

set_option maxHeartbeats 1000000 in
set_option maxRecDepth 100000 in
theorem len_any (B R o : Nat) (H : List UInt8) (c : Array Value) (t : TypeId) (p bv : Value) (w : World) (h : BD w B R o H c t p bv) : Calls Tryz.prog 42 #[.pointer (some ⟨R, o, none⟩)] w fun e w' => e = .returned (.int .i64 H.length) ∧ w' = w := by
  obtain ⟨a, k, rfl⟩ := h.form
  have hc := cell_of h.blk (o + 1)
  rw [h.c1] at hc
  clear h
  go_enter Tryz.func42, Tryz.ntmps42
  go_wp2
  go_ret
  exact ⟨rfl, rfl⟩

set_option maxHeartbeats 1000000 in
set_option maxRecDepth 100000 in
theorem reset_any (B R o : Nat) (c : Array Value) (t : TypeId) (p bv : Value) (w : World) (hblk : w.heap[R]? = some (.cells c t (0, 0))) (h0 : c[o]? = some p) (h1 : c[o + 1]? = some bv) :
    Calls Tryz.prog 44 #[.pointer (some ⟨R, o, none⟩)] w fun e w' => e = .returned (.tuple #[]) ∧ BD w' B R o [] ((c.setIfInBounds o (.pointer none)).setIfInBounds (o + 1) (.slice none 0 0)) t (.pointer none) (.slice none 0 0) ∧ Kp (fun k _ => k = R) w w' := by
  have hs : o + 1 < c.size := (Array.getElem?_eq_some_iff.1 h1).1
  have hc0 := cell_of hblk o
  rw [h0] at hc0
  have hc1 := cell_of hblk (o + 1)
  rw [h1] at hc1
  have ho0 := open_of hblk o
  have ho1 := open_of hblk (o + 1)
  have b1 := heap_setCell_same w R o c t (0, 0) (.pointer none) hblk
  have HB := Lib.hid (heap_setCell_same _ R (o + 1) _ t (0, 0) (.slice none 0 0) b1)
  have HK : Hid (Kp (fun k _ => k = R) w ((w.setCell ⟨R, o, none⟩ (.pointer none)).setCell ⟨R, o + 1, none⟩ (.slice none 0 0))) := Lib.hid ((Kp.of_set hblk _ rfl).trans (Kp.of_set b1 _ rfl))
  clear hblk b1
  go_enter Tryz.func44, Tryz.ntmps44
  go_wp2
  go_end0
  refine ⟨rfl, ⟨HB.out, ?_, ?_, .inl rfl, World.ownsRow_nil _ _ _ _, fun _ => rfl⟩, HK.out⟩
  · rw [Array.getElem?_setIfInBounds_ne (by omega), Array.getElem?_setIfInBounds_self_of_lt (by omega)]
  · rw [Array.getElem?_setIfInBounds_self_of_lt (by simp; omega)]

/-- What 'String()' leaves: rows of bytes frozen. -/
theorem Kp.froze {P : Nat → TypeId → Prop} {w : World} {g : Nat} {cur : Array Value} {t : TypeId} {fr : Nat × Nat} (hg : w.heap[g]? = some (.cells cur t fr)) (n : Nat) (hp : P g t) : Kp P w (w.freeze ⟨g, 0, none⟩ n) := by
  unfold World.freeze
  split
  · exact Kp.refl _ _
  · refine ⟨rfl, rfl, rfl, by simp, fun k o hk hn => ?_⟩
    simp only [Array.getElem?_modify]
    by_cases e : g = k
    · subst e
      rw [hk] at hg
      cases hg
      exact absurd hp (hn _ _ _ rfl)
    · rw [if_neg e]; exact hk

set_option maxHeartbeats 2000000 in
set_option maxRecDepth 100000 in
theorem string_any (B R o : Nat) (H : List UInt8) (c : Array Value) (t : TypeId) (p bv : Value) (w : World) (h : BD w B R o H c t p bv) :
    Calls Tryz.prog 43 #[.pointer (some ⟨R, o, none⟩)] w fun e w' => e = .returned (.string ⟨H.toArray⟩) ∧ Kp (fun k t' => B ≤ k ∧ t' = 5) w w' := by
  have hc := cell_of h.blk (o + 1)
  rw [h.c1] at hc
  by_cases h0 : H = []
  · have e := h.nil h0
    subst e
    subst h0
    have c1 : w.drew.cell? ⟨R, o + 1, none⟩ = some (.slice none 0 0) := hc
    have hSD : (Builtin.unsafeSliceData_ #[22] 116 #[.slice none 0 0]).run Tryz.prog w.drew = .ok (.pointer none) w.drew := rfl
    have hUS : (Builtin.unsafeString_ #[116, 3] 9 #[.pointer none, .int .i64 0]).run Tryz.prog w.drew = .ok (.string .empty) w.drew := Lib.run_unsafeString_none _ _ _ _ none
    clear h
    go_enter Tryz.func43, Tryz.ntmps43
    go_wp2
    go_region
    all_goals (go_wp2; go_ret; exact ⟨rfl, (Kp.refl _ _).drew⟩)
  · have hrow := h.row
    have hl0 : H.length ≠ 0 := by simpa using h0
    obtain ⟨g, cap, cur, rfl, hbg, hg, hnc, hcm, hcs, htake⟩ : ∃ g cap cur, bv = .slice (some ⟨g, 0, none⟩) H.length cap ∧ B ≤ g ∧ w.heap[g]? = some (.cells cur 5 (0, 0)) ∧ H.length ≤ cap ∧ cap ≤ maxLen ∧ cur.size = cap * 1 ∧ cur.toList.take (H.length * 1) = Lib.byteCells H := by
      rcases hrow.2 with ⟨_, hz⟩ | r
      · exact absurd hz hl0
      · exact r
    have c1 : w.drew.cell? ⟨R, o + 1, none⟩ = some (.slice (some ⟨g, 0, none⟩) H.length cap) := hc
    have hSD : (Builtin.unsafeSliceData_ #[22] 116 #[.slice (some ⟨g, 0, none⟩) H.length cap]).run Tryz.prog w.drew = .ok (.pointer (some ⟨g, 0, none⟩)) w.drew := Lib.run_unsafeSliceData_row _ _ _ _ _ _ (by omega)
    have hUS : (Builtin.unsafeString_ #[116, 3] 9 #[.pointer (some ⟨g, 0, none⟩), .int .i64 H.length]).run Tryz.prog w.drew = .ok (.string ⟨H.toArray⟩) (w.drew.freeze ⟨g, 0, none⟩ H.length) := by
      refine Lib.run_unsafeString_row w.drew 116 3 9 5 Tryz.underlying116 cellsByte g cur.size (by have hg' : w.drew.heap[g]? = some (.cells cur 5 (0, 0)) := hg; simp [World.shape?, hg']) H h0 (by omega) (by unfold maxLen at hcm; omega) ?_
      intro j x hx
      exact hrow.cells (g := g) rfl j (.int .u8 x.toNat) (by simp [Lib.byteCells, hx])
    have hK : Kp (fun k t' => B ≤ k ∧ t' = 5) w (w.drew.freeze ⟨g, 0, none⟩ H.length) := (Kp.refl _ _).drew.trans (Kp.froze (w := w.drew) hg _ ⟨hbg, rfl⟩)
    have HK := Lib.hid hK
    clear h hrow hK htake
    go_enter Tryz.func43, Tryz.ntmps43
    go_wp2
    go_region
    all_goals (go_wp2; go_ret; exact ⟨rfl, HK.out⟩)

end Go.Proofs.YtfbhpmafjehojaaGreatDoor
