/- Ground: texts, blocks, small letters and trimmed texts (the program's). -/
import Derived.Test.YtaldjkbnngeahaaGreatDoorProg
import Derived.Test.YtaldjkbnngeahaaGreatDoorPureA
import Derived.Test.YtaldjkbnngeahaaGreatDoorShelf
import Derived.WalkKit
import Derived.WalkSpells
import Derived.WalkLawsBesides
import Derived.BigQuiet
import Derived.Deep.QuietTactic
import Derived.Deep.LoopGhost
import Derived.Deep.RegionHeld3
import Derived.Outline
import Derived.Lib.SlBytesRow
import Derived.Lib.SlBytesConst
import Derived.Lib.ConvBytes
import Derived.Lib.SmallJoins
import Derived.Lib.Hide
import Derived.OwnWalk
namespace Go.Proofs.YtaldjkbnngeahaaGreatDoor
open Go.RowKit

theorem ret_int {k : IntKind} {a b : Int} (h : a = b) : Ending.returned (.int k a) = .returned (.int k b) := by rw [h]
theorem ret_bool {a b : Bool} (h : a = b) : Ending.returned (.bool a) = .returned (.bool b) := by rw [h]
theorem text_of (l : List UInt8) : ∃ T : ByteArray, T.data.toList = l := ⟨⟨l.toArray⟩, rfl⟩
theorem text_is {T : ByteArray} {l : List UInt8} (h : T.data.toList = l) : T = ⟨l.toArray⟩ := by
  apply ByteArray.ext
  apply Array.toList_inj.1
  rw [h]
theorem text_eq (s t : ByteArray) : (s.toList == t.toList) = decide (s.data.toList = t.data.toList) := by
  rw [ByteArray.toList_eq, ByteArray.toList_eq, Bool.eq_iff_iff]
  simp
theorem text_empty (s : ByteArray) : s.toList.isEmpty = s.data.toList.isEmpty := by rw [ByteArray.toList_eq]
theorem byte_is {c d : UInt8} (h : (c.toNat : Int) = (d.toNat : Int)) : c = d := by
  apply UInt8.toNat_inj.1
  omega
theorem int_beq (c d : UInt8) : ((c.toNat : Int) == (d.toNat : Int)) = (c == d) := by
  rw [Bool.eq_iff_iff]
  simp only [beq_iff_eq]
  exact ⟨byte_is, fun h => by rw [h]⟩
theorem heap_setCell_same (w : World) (R j : Nat) (c : Array Value) (t : TypeId) (fr : Nat × Nat) (u : Value) (h : w.heap[R]? = some (.cells c t fr)) : (w.setCell ⟨R, j, none⟩ u).heap[R]? = some (.cells (c.setIfInBounds j u) t fr) := by
  simp only [World.setCell, Array.getElem?_modify, h]
  simp
theorem cell_of {w : World} {b : Nat} {c : Array Value} {t : TypeId} {fr : Nat × Nat} (h : w.heap[b]? = some (.cells c t fr)) (j : Nat) : w.cell? ⟨b, j, none⟩ = c[j]? := by
  simp [World.cell?, h]
theorem open_of {w : World} {b : Nat} {c : Array Value} {t : TypeId} (h : w.heap[b]? = some (.cells c t (0, 0))) (j : Nat) : w.frozen? ⟨b, j, none⟩ = false := by
  simp [World.frozen?, h]
theorem new_block (w : World) (o : Obj) : (w.alloc o).heap[w.heap.size]? = some o := by
  show (w.heap.push o)[w.heap.size]? = some o
  simp
theorem belowN {B : Nat} {a w : World} (h : Below B a w) (n : Nat) : Below B a (w.drewN n) := h.trans ⟨rfl, rfl, rfl, Nat.le_refl _, fun _ _ => rfl⟩
theorem extract_toList (s : ByteArray) (i j : Nat) : (s.extract i j).data.toList = (s.data.toList.drop i).take (j - i) := Lib.extract_data s i j
theorem add_to (S T R : ByteArray) (h : R.data.toList = S.data.toList ++ T.data.toList) (hl : S.size + T.size ≤ 9223372036854775807) : ∀ W, (Op.stringOp .add S T).run Tryz.prog W = .ok (.string R) W := fun W => by
  rw [run_string_add_sum (P := Tryz.prog) W S T hl]
  congr 2
  apply ByteArray.ext
  apply Array.toList_inj.1
  rw [h]
  simp
/-- A text cut: its run. -/
theorem cut_run (s T : ByteArray) (i j : Nat) (_hij : i ≤ j) (_hj : j ≤ s.size) (h : T.data.toList = (s.data.toList.drop i).take (j - i)) : s.extract i j = T := by
  apply ByteArray.ext
  apply Array.toList_inj.1
  rw [extract_toList, h]

theorem Tinfo5 : (Tryz.prog.info? 5).map (fun i => (i.zero, i.size, i.bytes)) = some (some (.int .u8 0), 1, 1) := by kernel_rfl
theorem Tinfo9 : (Tryz.prog.info? 9).map (fun i => (i.zero, i.size, i.bytes)) = some (some (.string ⟨#[]⟩), 1, 16) := by kernel_rfl

theorem lt_of_block {w : World} {g : Nat} {o : Obj} (h : w.heap[g]? = some o) : g < w.heap.size := by
  rcases Nat.lt_or_ge g w.heap.size with h' | h'
  · exact h'
  · simp [Array.getElem?_eq_none h'] at h
theorem ownsRow_below {w w' : World} {base : Nat} {e : TypeId} {size : Nat} {v : Value} {n : Nat} {xs : List Value} (h : w.ownsRow base e size v n xs) (hb : Below w.heap.size w w') : w'.ownsRow base e size v n xs := by
  obtain ⟨h1, h2⟩ := h
  refine ⟨h1, ?_⟩
  rcases h2 with h2 | ⟨g, cap, cur, a, b, c, d⟩
  · exact .inl h2
  · exact .inr ⟨g, cap, cur, a, b, by rw [hb.block g (lt_of_block c)]; exact c, d⟩
theorem rowForms {w : World} {base size n : Nat} {e : TypeId} {v : Value} {xs : List Value} (h : w.ownsRow base e size v n xs) : (v = .slice none 0 0 ∧ n = 0) ∨ ∃ g cap, v = .slice (some ⟨g, 0, none⟩) n cap := by
  rcases h.2 with h2 | ⟨g, cap, cur, a, _⟩
  · exact .inl h2
  · exact .inr ⟨g, cap, a⟩
theorem lsize (s : ByteArray) : s.data.toList.length = s.size := by simp
theorem lt_of_cell {w : World} {a : Addr} {v : Value} (hc : w.cell? a = some v) : a.block < w.heap.size := by
  rcases Nat.lt_or_ge a.block w.heap.size with h' | h'
  · exact h'
  · simp [World.cell?, Array.getElem?_eq_none h'] at hc

/-- A row of bytes that may be written. -/
structure RowAt (w : World) (g : Nat) (l : List UInt8) : Prop where
  cell : ∀ j b, l[j]? = some b → w.cell? ⟨g, j, none⟩ = some (.int .u8 (b.toNat : Int))
  free : ∀ j, j < l.length → w.frozen? ⟨g, j, none⟩ = false
theorem RowAt.set {w : World} {g : Nat} {l : List UInt8} (h : RowAt w g l) {k : Nat} (hk : k < l.length) (b : UInt8) : RowAt (w.setCell ⟨g, k, none⟩ (.int .u8 (b.toNat : Int))) g (l.set k b) := by
  refine ⟨fun j c hj => ?_, fun j hj => by rw [World.frozen?_setCell]; exact h.free j (by simpa using hj)⟩
  rw [List.getElem?_set] at hj
  by_cases e : k = j
  · subst e
    rw [if_pos rfl, if_pos hk] at hj
    cases hj
    exact World.cell?_setCell_same _ _ _ (h.cell k l[k] (by rw [List.getElem?_eq_getElem hk]))
  · rw [if_neg e] at hj
    rw [World.cell?_setCell_other _ _ _ _ (by intro h; cases h; exact e rfl)]
    exact h.cell j c hj
theorem rowAt_world (w : World) (s : ByteArray) : RowAt (Lib.bytesWorld w 5 s) w.heap.size s.data.toList := by
  refine ⟨fun j b hj => ?_, fun j hj => ?_⟩
  · rw [Lib.bytesWorld_cell w 5 s j (get_of hj).2]
    simp only [List.getD_eq_getElem?_getD, hj, Option.getD_some]
  · have hg := Lib.bytesWorld_at_new w 5 s
    have hsz : j < (Lib.bytesCells w 5 s).size := by
      rw [lsize] at hj
      simp [Lib.bytesCells]; omega
    unfold World.frozen?
    rw [hg]
    simp
    omega
theorem below_bytesWorld (w : World) (s : ByteArray) : Below w.heap.size w (Lib.bytesWorld w 5 s) := by
  refine ⟨?_, ?_, ?_, by rw [Lib.bytesWorld_size]; omega, fun k hk => Lib.bytesWorld_at_old w 5 s k hk⟩
  · simp [Lib.bytesWorld, World.freeze, World.alloc, World.drew, -World.alloc_eq, -World.drew_eq]
  · simp [Lib.bytesWorld, World.freeze, World.alloc, World.drew, -World.alloc_eq, -World.drew_eq]
  · simp [Lib.bytesWorld, World.freeze, World.alloc, World.drew, -World.alloc_eq, -World.drew_eq]
theorem RowAt.conv {w : World} {g : Nat} {l : List UInt8} (h : RowAt w g l) (n cap : Nat) (hn : n = l.length) : (convert 85 9 (.slice (some ⟨g, 0, none⟩) n cap)).run Tryz.prog w = .ok (.string ⟨l.toArray⟩) w := by
  subst hn
  refine run_convert_bytes_back (P := Tryz.prog) w 85 9 5 ⟨g, 0, none⟩ cap l Tryz.underlying85 Tryz.underlying5 Tryz.underlying9 (fun j hj => ?_)
  have e : (⟨g, 0, none⟩ : Addr).add j = ⟨g, j, none⟩ := by simp [Addr.add]; omega
  rw [e]
  exact h.cell j _ (by rw [List.getElem?_eq_getElem hj])

/-- The first k letters small, the others as they were. -/
def mix (l : List UInt8) (k : Nat) : List UInt8 := low (l.take k) ++ l.drop k
theorem mix_length (l : List UInt8) (k : Nat) : (mix l k).length = l.length := by
  simp only [mix, low, List.length_append, List.length_map, List.length_take, List.length_drop]; omega
theorem mix_zero (l : List UInt8) : mix l 0 = l := by simp [mix, low]
theorem mix_all (l : List UInt8) : mix l l.length = low l := by simp [mix]
theorem mix_at (l : List UInt8) (k : Nat) (b : UInt8) (h : l[k]? = some b) : (mix l k)[k]? = some b := by
  have hk := (List.getElem?_eq_some_iff.1 h).1
  unfold mix
  rw [List.getElem?_append_right (by simp [low]; omega)]
  simp only [low, List.length_map, List.length_take, List.getElem?_drop]
  rw [← h]; congr 1; omega
theorem mix_succ (l : List UInt8) (k : Nat) (b : UInt8) (h : l[k]? = some b) : mix l (k + 1) = (mix l k).set k (lowB b) := by
  have hk := List.getElem?_eq_some_iff.1 h
  have hl : (low (l.take k)).length = k := by have := hk.1; simp [low]; omega
  unfold mix
  rw [List.set_append_right _ _ (by omega), hl, Nat.sub_self, drop_cons h, List.set_cons_zero]
  rw [List.take_add_one, h]
  simp [low]
theorem set_self {l : List UInt8} {k : Nat} {b : UInt8} (h : l[k]? = some b) : l.set k b = l := by
  apply List.ext_getElem?
  intro j
  rw [List.getElem?_set]
  split
  · rename_i e
    subst e
    rw [if_pos (List.getElem?_eq_some_iff.1 h).1, h]
  · rfl
theorem lowB_great {b : UInt8} (h : 65 ≤ (b.toNat : Int)) (h2 : (b.toNat : Int) ≤ 90) : ((lowB b).toNat : Int) = (b.toNat : Int) + 32 := by
  unfold lowB
  rw [if_pos ⟨by omega, by omega⟩, UInt8.toNat_add]
  simp; omega
theorem lowB_other {b : UInt8} (h : ¬ (65 ≤ (b.toNat : Int) ∧ (b.toNat : Int) ≤ 90)) : lowB b = b := by
  unfold lowB
  rw [if_neg (by omega)]

set_option maxRecDepth 100000 in
set_option maxHeartbeats 1000000 in
theorem lower_any (s : ByteArray) (w : World) (hs : s.size ≤ 1099511627776) :
    Calls Tryz.prog 107 #[.string s] w fun e w' => e = .returned (.string ⟨(low s.data.toList).toArray⟩) ∧ Below w.heap.size w w' := by
  have hconv := Lib.run_convert_string_bytes (P := Tryz.prog) w 9 85 5 s Tryz.underlying9 Tryz.underlying85 Tryz.underlying5
  have hrow := rowAt_world w s
  have hbel := below_bytesWorld w s
  have hsz := Lib.bytesWorld_size w 5 s
  generalize Lib.bytesWorld w 5 s = W at hconv hrow hbel hsz
  generalize grownCap w s.size 0 5 = cap at hconv
  have HZ : w.heap.size < W.heap.size := by omega
  clear hsz
  have hll := lsize s
  generalize hL : s.data.toList = l at *
  generalize s.size = n at *
  have HN := Lib.hid hll
  have HL := Lib.hid hL
  clear hll hL
  go_enter Tryz.func107, Tryz.ntmps107
  go_wp2
  go_loopw [4, 5, 10] (fun _ _ i wr => ∃ k : Nat, i = .int .i64 k ∧ k ≤ n ∧ RowAt wr w.heap.size (mix l k) ∧ Below w.heap.size w wr) (fun _ _ i _ => n - (intOf i).toNat)
  case atStart => exact ⟨0, rfl, Nat.zero_le _, by rw [mix_zero]; exact hrow, hbel⟩
  case round =>
    obtain ⟨k, rfl, hk, hr, hb⟩ := hrel
    clear hrow hbel hconv
    by_cases hlt : k < n
    · obtain ⟨b, hb1⟩ : ∃ b, l[k]? = some b := ⟨l[k]'(by rw [HN.out]; exact hlt), List.getElem?_eq_getElem _⟩
      have hcell := hr.cell k b (mix_at l k b hb1)
      have hfree := hr.free k (by rw [mix_length, HN.out]; exact hlt)
      have hset := hr.set (k := k) (by rw [mix_length, HN.out]; exact hlt) (lowB b)
      rw [← mix_succ l k b hb1] at hset
      have hsame : lowB b = b → RowAt wr w.heap.size (mix l (k + 1)) := fun e => by
        rw [mix_succ l k b hb1, e, set_self (mix_at l k b hb1)]; exact hr
      have HS := Lib.hid hset
      have HM := Lib.hid hsame
      clear hset hsame
      have hbs := hb.setCell (p := ⟨w.heap.size, k, none⟩) (Nat.le_refl _) (.int .u8 ((lowB b).toNat : Int))
      by_cases hg : 65 ≤ (b.toNat : Int) ∧ (b.toNat : Int) ≤ 90
      · obtain ⟨hg1, hg2⟩ := hg
        have e := lowB_great hg1 hg2
        rw [e] at HS hbs
        clear e
        go_wp2
        go_roundw
        case rel => exact ⟨k + 1, by go_num, by omega, HS.out, hbs⟩
        case measure => simp [intOf]; omega
      · have e := HM.out (lowB_other hg)
        by_cases hg1 : 65 ≤ (b.toNat : Int)
        all_goals
          go_wp2
          go_roundw
          case rel => exact ⟨k + 1, by go_num, by omega, e, hb⟩
          case measure => simp [intOf]; omega
    · obtain rfl : k = n := by omega
      have hc := RowAt.conv hr k cap (by rw [mix_length, HN.out])
      have hml : mix l k = low l := by rw [← HN.out, mix_all]
      rw [hml] at hc
      clear HN HL hr hml
      go_wp2
      go_ret
      exact ⟨rfl, hb⟩



theorem trim_any (s : ByteArray) (w : World) (hs : s.size ≤ 1099511627776) :
    Calls Tryz.prog 105 #[.string s] w fun e w' => e = .returned (.string ⟨(trim s.data.toList).toArray⟩) ∧ Below w.heap.size w w' := by
  have hT := fun W => Tryz.strings_Trim_laid s ⟨#[9, 10, 12, 13, 32]⟩ W (by omega) (by decide) (ascii_of_all (by decide))
  have e : Lib.trimS s.data.toList (⟨#[9, 10, 12, 13, 32]⟩ : ByteArray).data.toList = trim s.data.toList := rfl
  rw [e] at hT
  generalize (⟨(trim s.data.toList).toArray⟩ : ByteArray) = r at hT ⊢
  have HT := Lib.hid hT
  clear hT e
  go_enter Tryz.func105, Tryz.ntmps105
  go_wp2_with (go_at_call 130; refine (HT.out _).mono ?_; rintro e w' ⟨rfl, hb⟩)
  go_ret
  exact ⟨rfl, hb⟩
theorem lower_hid (s T : ByteArray) (hT : T.data.toList = low s.data.toList) (hs : s.size ≤ 1099511627776) : Hid (∀ W, Calls Tryz.prog 107 #[.string s] W fun e w' => e = .returned (.string T) ∧ Below W.heap.size W w') := Lib.hid fun W => by
  rw [text_is hT]; exact lower_any s W hs
theorem trim_hid (s T : ByteArray) (hT : T.data.toList = trim s.data.toList) (hs : s.size ≤ 1099511627776) : Hid (∀ W, Calls Tryz.prog 105 #[.string s] W fun e w' => e = .returned (.string T) ∧ Below W.heap.size W w') := Lib.hid fun W => by
  rw [text_is hT]; exact trim_any s W hs

end Go.Proofs.YtaldjkbnngeahaaGreatDoor
