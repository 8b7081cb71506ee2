/- The program's own walk over a text: what is told, and what is kept. -/
import Derived.Test.YtnchaidmbdalbaaDoorWalkE
import Derived.Test.YtnchaidmbdalbaaDoorWalkB
import Derived.Test.YtnchaidmbdalbaaDoorShelf
import Derived.Lib.OthersKept
import Derived.OwnWalk
namespace Go.Proofs.YtnchaidmbdalbaaDoor
open Go.RowKit

theorem iterPos_of {w : World} {k : Nat} {s : ByteArray} {p : Nat} (h : w.heap[k]? = some (.stringIter s p)) : w.iterPos k = p := by simp [World.iterPos, h]
theorem row_ne_iter {w : World} {base : Nat} {e : TypeId} {size : Nat} {v : Value} {n : Nat} {xs : List Value} {k : Nat} {s : ByteArray} {p : Nat} (h : w.ownsRow base e size v n xs) (hk : w.heap[k]? = some (.stringIter s p)) : some k ≠ v.ownBlock := by
  intro hh
  rcases h.2 with ⟨rfl, _⟩ | ⟨g, cap, cur, rfl, _, c, _⟩
  · cases hh
  · cases hh
    rw [hk] at c; cases c
theorem ownsRow_iter {w : World} {base : Nat} {e : TypeId} {size : Nat} {v : Value} {n : Nat} {xs : List Value} {k : Nat} {s : ByteArray} {p : Nat} (h : w.ownsRow base e size v n xs) (hk : w.heap[k]? = some (.stringIter s p)) (q : Nat) : (w.iterAt k s q).ownsRow base e size v n xs := by
  have hne := row_ne_iter h hk
  obtain ⟨h1, h2⟩ := h
  refine ⟨h1, ?_⟩
  rcases h2 with h2 | ⟨g, cap, cur, rfl, b, c, d⟩
  · exact .inl h2
  · refine .inr ⟨g, cap, cur, rfl, b, ?_, d⟩
    rw [Lib.iterAt_other _ _ _ _ _ (fun hh => hne (by rw [hh]; rfl))]; exact c
theorem runeCells_eq {c : Nat} (h : isPt c) : Lib.runeCells (c : Int) = Lib.byteCells (encN c) := by
  rw [← encodeRune_eq h, Lib.byteCells_encodeRune]
theorem extract_eq (s : ByteArray) (pos : Nat) : s.extract pos s.size = ⟨(s.data.toList.drop pos).toArray⟩ := by
  apply ByteArray.ext
  apply Array.toList_inj.1
  rw [extract_drop]
theorem tabs_below {w w' : World} (h : Lib.Utf8Tabs 0 1 w) (hb : Below w.heap.size w w') : Lib.Utf8Tabs 0 1 w' := Utf8Tabs_below h hb

set_option maxRecDepth 100000 in
set_option maxHeartbeats 2000000 in
theorem tell_any (s : ByteArray) (w : World) (hs : s.size ≤ 1099511627776) (hT : Lib.Utf8Tabs 0 1 w) :
    Calls Tryd.prog 22 #[.string s] w fun e w' => e = .returned (.tuple #[.string ⟨(told s.data.toList).toArray⟩, .string ⟨(rest s.data.toList).toArray⟩]) ∧ Below w.heap.size w w' := by
  obtain ⟨i0, hi, hz0, hz1, hz2⟩ := info_parts Tinfo5
  go_enter Tryd.func22, Tryd.ntmps22
  go_wp2
  go_step3
  go_wp2_with (at_make; refine wpList_make_own _ rfl _ _ 22 rfl w.heap.size 5 i0 (.int .u8 0) 1 Tryd.underlying22 hi hz0 hz1 .i64 .i64 _ s.size rfl rfl rfl (by rw [hz2]; omega) (by unfold maxLen; omega) (Nat.le_refl _) ?_; intro w0 hown0 hgrow0)
  go_step3
  go_wp2
  have hbw0 : Below w.heap.size w w0 := Below.grown (Below.refl _ _) hgrow0 (Nat.le_refl _) (fun j hj => by cases hj)
  have hsz0 := hgrow0.size
  have hown00 := hown0.alloc (.stringIter s 0)
  have hit0 := World.iter_heap w0 s 0
  have hbw00 : Below w.heap.size w (w0.iter s 0) := hbw0.alloc hsz0 _
  obtain ⟨IT, hIT⟩ : ∃ IT, IT = w0.heap.size := ⟨_, rfl⟩
  have hITw : w.heap.size ≤ IT := by omega
  rw [← hIT] at hit0
  rw [← hIT]
  go_loopw [4] (fun v wr => ∃ (pos : Nat) (acc : List Nat), wr.heap[IT]? = some (.stringIter s pos) ∧ pos ≤ s.size ∧ wr.ownsRow w.heap.size 5 1 v (encs acc).length (Lib.byteCells (encs acc)) ∧ Below w.heap.size w wr ∧ Hid (tellP s.data.toList = acc ++ tellP (s.data.toList.drop pos) ∧ rest s.data.toList = rest (s.data.toList.drop pos)) ∧ (encs acc).length ≤ 4 * pos) (fun _ wr => s.size - wr.iterPos IT)
  case atStart => exact ⟨0, [], hit0, Nat.zero_le _, hown00, hbw00, ⟨rfl, rfl⟩, Nat.le_refl _⟩
  case round =>
    clear hown00 hit0 hbw00 hown0 hgrow0 hbw0 hsz0 hIT
    obtain ⟨pos, acc, hit, hp, hown, hbw, HS, hlen⟩ := hrel
    have hpos0 := iterPos_of hit
    by_cases hlt : pos < s.size
    · have hne : s.data.toList.drop pos ≠ [] := by
        intro h
        have := congrArg List.length h
        simp at this; omega
      have hld : (s.data.toList.drop pos).length = s.size - pos := by simp
      have hw := width_pos _ hne
      have hpt := decL_pt _ hne
      have hnx : ∀ ty, (Instr.next (.pointer (some ⟨IT, 0, none⟩)) true ty).run Tryd.prog wr = _ := fun ty => Lib.run_next_any_at wr IT s pos ty hit hlt
      have hit2 := Lib.iterAt_heap wr IT s pos (pos + (Utf8.decode s pos).2) hit
      have hbw2 := Lib.below_iterAt hbw (k := IT) hITw s (pos + (Utf8.decode s pos).2)
      have hown2 := ownsRow_iter hown hit (pos + (Utf8.decode s pos).2)
      rw [decode_drop] at hnx hit2 hbw2 hown2
      have hstep := tell_step _ hne
      have hstop := tell_stop _ hne
      have hext := extract_eq s pos
      have hfr := fullRune_any (s.extract pos s.size)
      rw [extract_drop] at hfr
      rw [List.drop_drop] at hstep
      generalize hD : decL (s.data.toList.drop pos) = D at *
      obtain ⟨c, k⟩ := D
      simp only at hw hpt hnx hit2 hbw2 hown2 hstep hstop
      have hk1 := hw.1
      have hk2 : pos + k ≤ s.size := by omega
      have hlenc := encN_length c
      have HN : Hid ((c ≠ 65533 ∨ full (s.data.toList.drop pos) = true) → tellP s.data.toList = (acc ++ [c]) ++ tellP (s.data.toList.drop (pos + k)) ∧ rest s.data.toList = rest (s.data.toList.drop (pos + k))) := fun h => by
        obtain ⟨e1, e2⟩ := hstep h
        rw [HS.out.1, HS.out.2, e1, e2]
        simp
      have HE : Hid (c = 65533 → full (s.data.toList.drop pos) = false → told s.data.toList = encs acc ∧ rest s.data.toList = s.data.toList.drop pos) := fun h1 h2 => by
        obtain ⟨e1, e2⟩ := hstop h1 h2
        unfold told
        rw [HS.out.1, HS.out.2, e1, e2]
        simp
      have hsnoc := encs_snoc acc c
      have HC := Lib.hid hsnoc
      have HX := Lib.hid hext
      obtain ⟨W1, hW1⟩ : ∃ W1, W1 = wr.iterAt IT s (pos + k) := ⟨_, rfl⟩
      rw [← hW1] at hnx hit2 hbw2 hown2
      have hpt0 : c ≤ 1114111 := hpt.1
      have hrc := runeCells_eq hpt
      have HR := Lib.hid hrc
      clear hW1 hit hown hbw hstep hstop hext hsnoc hD hw hld hne HS hrc hpt
      by_cases hc : c = 65533
      · cases hfull : full (s.data.toList.drop pos) with
        | true =>
          have HN2 := Lib.hid (HN.out (.inr hfull))
          have hT1 := tabs_below hT hbw2
          have hc1 : ((c : Int) != 65533) = false := by simp; omega
          rw [hfull] at hfr
          have c31 := hfr _ hT1
          have hix : (pos : Int) ≤ (s.size : Int) := by omega
          clear HN HE hc hfr hfull hT hT1
          go_wp2_with (go_at_call 31; refine c31.mono ?_; rintro e w2 ⟨rfl, hb⟩)
          have hit2' : w2.heap[IT]? = some (.stringIter s (pos + k)) := by rw [hb.block IT (lt_of_block hit2)]; exact hit2
          have hown2' := ownsRow_below hown2 hb
          have hbw2' := hbw2.trans (hb.mono hbw2.size)
          clear hit2 hown2 hbw2 c31
          go_wp2_with (go_at_call 28; refine (Tryd.utf8_AppendRune_plain w.heap.size _ _ _ (c : Int) (by omega) (by omega) _ hown2' (by omega) (hbw2'.size)).mono ?_; rintro e w3 ⟨v', rfl, hown3, o3, hgrow3⟩)
          have hit3 : w3.heap[IT]? = some (.stringIter s (pos + k)) := by
            rw [hgrow3.block IT (by have := lt_of_block hit2'; simp; omega) (row_ne_iter hown2' hit2'), Below.heap_alloc _ _ _ (lt_of_block hit2')]; exact hit2'
          have hbw3 : Below w.heap.size w w3 := Below.grown (hbw2'.alloc hbw2'.size _) hgrow3 (by have := hbw2'.size; simp; omega) (fun j hj => (hown2'.lt _ hj).1)
          rw [HR.out, Lib.byteCells_length, ← byteCells_append, ← HC.out] at hown3
          go_roundw
          case rel => exact ⟨pos + k, acc ++ [c], hit3, hk2, by rw [HC.out, List.length_append, ← HC.out]; exact hown3, hbw3, HN2.out, by rw [HC.out, List.length_append]; omega⟩
          case measure => rw [iterPos_of hit3, hpos0]; omega
        | false =>
          have HE2 := Lib.hid (HE.out hc hfull)
          have hT1 := tabs_below hT hbw2
          have hc1 : ((c : Int) != 65533) = false := by simp; omega
          rw [hfull] at hfr
          have c31 := hfr _ hT1
          have hix : (pos : Int) ≤ (s.size : Int) := by omega
          clear HN HE hc hfr hfull hT hT1
          go_wp2_with (go_at_call 31; refine c31.mono ?_; rintro e w2 ⟨rfl, hb⟩)
          have hown2' := ownsRow_below hown2 hb
          have hbw2' := hbw2.trans (hb.mono hbw2.size)
          have hconv := fun n => conv_row (w := w2.drewN n) hown2'
          clear hit2 hown2 hbw2 c31
          go_wp2_with fail
          go_quiet (fail)
          go_wp2
          rw [Exit.noGoto_ret]
          go_ret2
          exact ⟨by rw [HE2.out.1, HE2.out.2, ← HX.out]; rfl, below_drewN hbw2' _⟩
      · have hc1 : ((c : Int) != 65533) = true := by simp; omega
        have HN2 := Lib.hid (HN.out (.inl hc))
        have hlb := Nat.le_of_lt (lt_of_block hit2)
        clear HN HE hc hfr
        go_wp2_with (go_at_call 28; refine (Tryd.utf8_AppendRune_plain w.heap.size _ _ _ (c : Int) (by omega) (by omega) _ hown2 (by omega) (hbw2.size)).mono ?_; rintro e w3 ⟨v', rfl, hown3, o3, hgrow3⟩)
        have hit3 : w3.heap[IT]? = some (.stringIter s (pos + k)) := by
          rw [hgrow3.block IT (by have := lt_of_block hit2; simp; omega) (row_ne_iter hown2 hit2), Below.heap_alloc _ _ _ (lt_of_block hit2)]; exact hit2
        have hbw3 : Below w.heap.size w w3 := Below.grown (hbw2.alloc hbw2.size _) hgrow3 (by have := hbw2.size; simp; omega) (fun j hj => (hown2.lt _ hj).1)
        rw [HR.out, Lib.byteCells_length, ← byteCells_append, ← HC.out] at hown3
        go_roundw
        case rel => exact ⟨pos + k, acc ++ [c], hit3, hk2, by rw [HC.out, List.length_append, ← HC.out]; exact hown3, hbw3, HN2.out, by rw [HC.out, List.length_append]; omega⟩
        case measure => rw [iterPos_of hit3, hpos0]; omega
    · have hnx : ∀ ty, (Instr.next (.pointer (some ⟨IT, 0, none⟩)) true ty).run Tryd.prog wr = _ := fun ty => Lib.run_next_end_at wr IT s pos ty hit hlt
      have hd : s.data.toList.drop pos = [] := List.drop_of_length_le (by simp; omega)
      have HE : Hid (told s.data.toList = encs acc ∧ rest s.data.toList = []) := by
        unfold told
        rw [HS.out.1, HS.out.2, hd]
        exact ⟨by rw [tell_nil.1, List.append_nil], rfl⟩
      have hconv := conv_row hown
      clear hd HS hT
      go_wp2
      rw [Exit.noGoto_ret]
      go_ret2
      exact ⟨by rw [HE.out.1, HE.out.2]; rfl, hbw⟩

end Go.Proofs.YtnchaidmbdalbaaDoor
