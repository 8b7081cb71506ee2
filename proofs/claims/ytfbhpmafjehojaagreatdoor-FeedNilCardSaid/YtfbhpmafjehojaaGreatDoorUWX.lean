/- The program's own walk over a text: what is told, and what is kept. The program's own Decode, Points and Text. The document's rows. Arguments that came in, as lists; and the last step of a row whose call only makes memory. What is appended from an argument; and two rows that are the same. Told in parts. A piece of the bytes that came in; the part that is written over. -/
import Derived.Lib.OthersKept
import Derived.OwnWalk
import Derived.ProofKit
import Derived.OpenShut
import Derived.Carry
import Derived.Lib.BufferWrite
import Derived.Laws.CopyOwn
import Derived.Test.YtfbhpmafjehojaaGreatDoorShelf
import Derived.Test.YtfbhpmafjehojaaGreatDoorUWalkB
namespace Go.Proofs.YtfbhpmafjehojaaGreatDoor.U1
open Go.RowKit

theorem iterPos_of {w : World} {k : Nat} {s : ByteArray} {p : Nat} (h : w.heap[k]? = some (.stringIter s p)) : w.iterPos k = p := by simp [World.iterPos, h]
theorem row_ne_iter {w : World} {base : Nat} {e : TypeId} {size : Nat} {v : Value} {n : Nat} {xs : List Value} {k : Nat} {s : ByteArray} {p : Nat} (h : w.ownsRow base e size v n xs) (hk : w.heap[k]? = some (.stringIter s p)) : some k ≠ v.ownBlock := by
  intro hh
  rcases h.2 with ⟨rfl, _⟩ | ⟨g, cap, cur, rfl, _, c, _⟩
  · cases hh
  · cases hh
    rw [hk] at c; cases c
theorem ownsRow_iter {w : World} {base : Nat} {e : TypeId} {size : Nat} {v : Value} {n : Nat} {xs : List Value} {k : Nat} {s : ByteArray} {p : Nat} (h : w.ownsRow base e size v n xs) (hk : w.heap[k]? = some (.stringIter s p)) (q : Nat) : (w.iterAt k s q).ownsRow base e size v n xs := by
  have hne := row_ne_iter h hk
  obtain ⟨h1, h2⟩ := h
  refine ⟨h1, ?_⟩
  rcases h2 with h2 | ⟨g, cap, cur, rfl, b, c, d⟩
  · exact .inl h2
  · refine .inr ⟨g, cap, cur, rfl, b, ?_, d⟩
    rw [Lib.iterAt_other _ _ _ _ _ (fun hh => hne (by rw [hh]; rfl))]; exact c
theorem runeCells_eq {c : Nat} (h : isPt c) : Lib.runeCells (c : Int) = Lib.byteCells (encN c) := by
  rw [← encodeRune_eq h, Lib.byteCells_encodeRune]
theorem extract_eq (s : ByteArray) (pos : Nat) : s.extract pos s.size = ⟨(s.data.toList.drop pos).toArray⟩ := by
  apply ByteArray.ext
  apply Array.toList_inj.1
  rw [extract_drop]
theorem tabs_below {w w' : World} (h : Lib.Utf8Tabs 0 1 w) (hb : Below w.heap.size w w') : Lib.Utf8Tabs 0 1 w' := Utf8Tabs_below h hb

set_option maxRecDepth 100000 in
set_option maxHeartbeats 2000000 in
theorem tell_any (s : ByteArray) (w : World) (hs : s.size ≤ 1099511627776) (hT : Lib.Utf8Tabs 0 1 w) :
    Calls Tryz.prog 28 #[.string s] w fun e w' => e = .returned (.tuple #[.string ⟨(told s.data.toList).toArray⟩, .string ⟨(rest s.data.toList).toArray⟩]) ∧ Below w.heap.size w w' := by
  obtain ⟨i0, hi, hz0, hz1, hz2⟩ := info_parts Tinfo5
  go_enter Tryz.func28, Tryz.ntmps28
  go_wp2
  go_step3
  go_wp2_with (at_make; refine wpList_make_own _ rfl _ _ 22 rfl w.heap.size 5 i0 (.int .u8 0) 1 Tryz.underlying22 hi hz0 hz1 .i64 .i64 _ s.size rfl rfl rfl (by rw [hz2]; omega) (by unfold maxLen; omega) (Nat.le_refl _) ?_; intro w0 hown0 hgrow0)
  go_step3
  go_wp2
  have hbw0 : Below w.heap.size w w0 := Below.grown (Below.refl _ _) hgrow0 (Nat.le_refl _) (fun j hj => by cases hj)
  have hsz0 := hgrow0.size
  have hown00 := hown0.alloc (.stringIter s 0)
  have hit0 := World.iter_heap w0 s 0
  have hbw00 : Below w.heap.size w (w0.iter s 0) := hbw0.alloc hsz0 _
  obtain ⟨IT, hIT⟩ : ∃ IT, IT = w0.heap.size := ⟨_, rfl⟩
  have hITw : w.heap.size ≤ IT := by omega
  rw [← hIT] at hit0
  rw [← hIT]
  go_loopw [4] (fun v wr => ∃ (pos : Nat) (acc : List Nat), wr.heap[IT]? = some (.stringIter s pos) ∧ pos ≤ s.size ∧ wr.ownsRow w.heap.size 5 1 v (encs acc).length (Lib.byteCells (encs acc)) ∧ Below w.heap.size w wr ∧ Hid (tellP s.data.toList = acc ++ tellP (s.data.toList.drop pos) ∧ rest s.data.toList = rest (s.data.toList.drop pos)) ∧ (encs acc).length ≤ 4 * pos) (fun _ wr => s.size - wr.iterPos IT)
  case atStart => exact ⟨0, [], hit0, Nat.zero_le _, hown00, hbw00, ⟨rfl, rfl⟩, Nat.le_refl _⟩
  case round =>
    clear hown00 hit0 hbw00 hown0 hgrow0 hbw0 hsz0 hIT
    obtain ⟨pos, acc, hit, hp, hown, hbw, HS, hlen⟩ := hrel
    have hpos0 := iterPos_of hit
    by_cases hlt : pos < s.size
    · have hne : s.data.toList.drop pos ≠ [] := by
        intro h
        have := congrArg List.length h
        simp at this; omega
      have hld : (s.data.toList.drop pos).length = s.size - pos := by simp
      have hw := width_pos _ hne
      have hpt := decL_pt _ hne
      have hnx : ∀ ty, (Instr.next (.pointer (some ⟨IT, 0, none⟩)) true ty).run Tryz.prog wr = _ := fun ty => Lib.run_next_any_at wr IT s pos ty hit hlt
      have hit2 := Lib.iterAt_heap wr IT s pos (pos + (Utf8.decode s pos).2) hit
      have hbw2 := Lib.below_iterAt hbw (k := IT) hITw s (pos + (Utf8.decode s pos).2)
      have hown2 := ownsRow_iter hown hit (pos + (Utf8.decode s pos).2)
      rw [decode_drop] at hnx hit2 hbw2 hown2
      have hstep := tell_step _ hne
      have hstop := tell_stop _ hne
      have hext := extract_eq s pos
      have hfr := fullRune_any (s.extract pos s.size)
      rw [extract_drop] at hfr
      rw [List.drop_drop] at hstep
      generalize hD : decL (s.data.toList.drop pos) = D at *
      obtain ⟨c, k⟩ := D
      simp only at hw hpt hnx hit2 hbw2 hown2 hstep hstop
      have hk1 := hw.1
      have hk2 : pos + k ≤ s.size := by omega
      have hlenc := encN_length c
      have HN : Hid ((c ≠ 65533 ∨ full (s.data.toList.drop pos) = true) → tellP s.data.toList = (acc ++ [c]) ++ tellP (s.data.toList.drop (pos + k)) ∧ rest s.data.toList = rest (s.data.toList.drop (pos + k))) := fun h => by
        obtain ⟨e1, e2⟩ := hstep h
        rw [HS.out.1, HS.out.2, e1, e2]
        simp
      have HE : Hid (c = 65533 → full (s.data.toList.drop pos) = false → told s.data.toList = encs acc ∧ rest s.data.toList = s.data.toList.drop pos) := fun h1 h2 => by
        obtain ⟨e1, e2⟩ := hstop h1 h2
        unfold told
        rw [HS.out.1, HS.out.2, e1, e2]
        simp
      have hsnoc := encs_snoc acc c
      have HC := Lib.hid hsnoc
      have HX := Lib.hid hext
      obtain ⟨W1, hW1⟩ : ∃ W1, W1 = wr.iterAt IT s (pos + k) := ⟨_, rfl⟩
      rw [← hW1] at hnx hit2 hbw2 hown2
      have hpt0 : c ≤ 1114111 := hpt.1
      have hrc := runeCells_eq hpt
      have HR := Lib.hid hrc
      clear hW1 hit hown hbw hstep hstop hext hsnoc hD hw hld hne HS hrc hpt
      by_cases hc : c = 65533
      · cases hfull : full (s.data.toList.drop pos) with
        | true =>
          have HN2 := Lib.hid (HN.out (.inr hfull))
          have hT1 := tabs_below hT hbw2
          have hc1 : ((c : Int) != 65533) = false := by simp; omega
          rw [hfull] at hfr
          have c31 := hfr _ hT1
          have hix : (pos : Int) ≤ (s.size : Int) := by omega
          clear HN HE hc hfr hfull hT hT1
          go_wp2_with (go_at_call 45; refine c31.mono ?_; rintro e w2 ⟨rfl, hb⟩)
          have hit2' : w2.heap[IT]? = some (.stringIter s (pos + k)) := by rw [hb.block IT (lt_of_block hit2)]; exact hit2
          have hown2' := ownsRow_below hown2 hb
          have hbw2' := hbw2.trans (hb.mono hbw2.size)
          clear hit2 hown2 hbw2 c31
          go_wp2_with (go_at_call 46; refine (Tryz.utf8_AppendRune_plain w.heap.size _ _ _ (c : Int) (by omega) (by omega) _ hown2' (by omega) (hbw2'.size)).mono ?_; rintro e w3 ⟨v', rfl, hown3, o3, hgrow3⟩)
          have hit3 : w3.heap[IT]? = some (.stringIter s (pos + k)) := by
            rw [hgrow3.block IT (by have := lt_of_block hit2'; simp; omega) (row_ne_iter hown2' hit2'), Below.heap_alloc _ _ _ (lt_of_block hit2')]; exact hit2'
          have hbw3 : Below w.heap.size w w3 := Below.grown (hbw2'.alloc hbw2'.size _) hgrow3 (by have := hbw2'.size; simp; omega) (fun j hj => (hown2'.lt _ hj).1)
          rw [HR.out, Lib.byteCells_length, ← byteCells_append, ← HC.out] at hown3
          go_roundw
          case rel => exact ⟨pos + k, acc ++ [c], hit3, hk2, by rw [HC.out, List.length_append, ← HC.out]; exact hown3, hbw3, HN2.out, by rw [HC.out, List.length_append]; omega⟩
          case measure => rw [iterPos_of hit3, hpos0]; omega
        | false =>
          have HE2 := Lib.hid (HE.out hc hfull)
          have hT1 := tabs_below hT hbw2
          have hc1 : ((c : Int) != 65533) = false := by simp; omega
          rw [hfull] at hfr
          have c31 := hfr _ hT1
          have hix : (pos : Int) ≤ (s.size : Int) := by omega
          clear HN HE hc hfr hfull hT hT1
          go_wp2_with (go_at_call 45; refine c31.mono ?_; rintro e w2 ⟨rfl, hb⟩)
          have hown2' := ownsRow_below hown2 hb
          have hbw2' := hbw2.trans (hb.mono hbw2.size)
          have hconv := fun n => conv_row (w := w2.drewN n) hown2'
          clear hit2 hown2 hbw2 c31
          go_wp2_with fail
          go_quiet (fail)
          go_wp2
          rw [Exit.noGoto_ret]
          go_ret2
          exact ⟨by rw [HE2.out.1, HE2.out.2, ← HX.out]; rfl, below_drewN hbw2' _⟩
      · have hc1 : ((c : Int) != 65533) = true := by simp; omega
        have HN2 := Lib.hid (HN.out (.inl hc))
        have hlb := Nat.le_of_lt (lt_of_block hit2)
        clear HN HE hc hfr
        go_wp2_with (go_at_call 46; refine (Tryz.utf8_AppendRune_plain w.heap.size _ _ _ (c : Int) (by omega) (by omega) _ hown2 (by omega) (hbw2.size)).mono ?_; rintro e w3 ⟨v', rfl, hown3, o3, hgrow3⟩)
        have hit3 : w3.heap[IT]? = some (.stringIter s (pos + k)) := by
          rw [hgrow3.block IT (by have := lt_of_block hit2; simp; omega) (row_ne_iter hown2 hit2), Below.heap_alloc _ _ _ (lt_of_block hit2)]; exact hit2
        have hbw3 : Below w.heap.size w w3 := Below.grown (hbw2.alloc hbw2.size _) hgrow3 (by have := hbw2.size; simp; omega) (fun j hj => (hown2.lt _ hj).1)
        rw [HR.out, Lib.byteCells_length, ← byteCells_append, ← HC.out] at hown3
        go_roundw
        case rel => exact ⟨pos + k, acc ++ [c], hit3, hk2, by rw [HC.out, List.length_append, ← HC.out]; exact hown3, hbw3, HN2.out, by rw [HC.out, List.length_append]; omega⟩
        case measure => rw [iterPos_of hit3, hpos0]; omega
    · have hnx : ∀ ty, (Instr.next (.pointer (some ⟨IT, 0, none⟩)) true ty).run Tryz.prog wr = _ := fun ty => Lib.run_next_end_at wr IT s pos ty hit hlt
      have hd : s.data.toList.drop pos = [] := List.drop_of_length_le (by simp; omega)
      have HE : Hid (told s.data.toList = encs acc ∧ rest s.data.toList = []) := by
        unfold told
        rw [HS.out.1, HS.out.2, hd]
        exact ⟨by rw [tell_nil.1, List.append_nil], rfl⟩
      have hconv := conv_row hown
      clear hd HS hT
      go_wp2
      rw [Exit.noGoto_ret]
      go_ret2
      exact ⟨by rw [HE.out.1, HE.out.2]; rfl, hbw⟩

end Go.Proofs.YtfbhpmafjehojaaGreatDoor.U1

namespace Go.Proofs.YtfbhpmafjehojaaGreatDoor.U1
open Go.RowKit

/-- A slice of bytes that reads as this list. -/
def BytesIn (w : World) (v : Value) (l : List UInt8) : Prop :=
  ((∃ a c, v = .slice a 0 c) ∧ l = []) ∨ ∃ B off cap, v = .slice (some ⟨B, off, none⟩) l.length cap ∧ ∀ j, (h : j < l.length) → w.cell? ⟨B, off + j, none⟩ = some (.int .u8 (l[j].toNat : Int))
theorem BytesIn.below {w w' : World} {v : Value} {l : List UInt8} (h : BytesIn w v l) (hb : Below w.heap.size w w') : BytesIn w' v l := by
  rcases h with h | ⟨B, off, cap, h1, h2⟩
  · exact .inl h
  · exact .inr ⟨B, off, cap, h1, fun j hj => by rw [hb.cell (lt_of_cell (h2 j hj))]; exact h2 j hj⟩
theorem BytesIn.of_row {w : World} {base : Nat} {v : Value} {l : List UInt8} (h : w.ownsRow base 5 1 v l.length (Lib.byteCells l)) : BytesIn w v l := by
  rcases rowForms h with ⟨h1, h2⟩ | ⟨g, cap, rfl⟩
  · exact .inl ⟨⟨_, _, h1⟩, List.length_eq_zero_iff.1 h2⟩
  · refine .inr ⟨g, 0, cap, rfl, fun j hj => ?_⟩
    rw [Nat.zero_add, h.cellAt j (by omega)]
    simp [Lib.byteCells, List.getElem?_eq_getElem hj]
theorem conv_in {w : World} {v : Value} {l : List UInt8} (h : BytesIn w v l) : (convert 22 9 v).run Tryz.prog w = .ok (.string ⟨l.toArray⟩) w := by
  rcases h with ⟨⟨a0, c0, rfl⟩, rfl⟩ | ⟨B, off, cap, rfl, h2⟩
  · cases a0 with
    | none => exact run_convert_bytes_nil (P := Tryz.prog) w 22 5 Tryz.underlying22 Tryz.underlying5 0 c0 9 Tryz.underlying9
    | some a => exact run_convert_bytes_back (P := Tryz.prog) w 22 9 5 a c0 [] Tryz.underlying22 Tryz.underlying5 Tryz.underlying9 (fun j hj => by cases hj)
  · refine run_convert_bytes_back (P := Tryz.prog) w 22 9 5 ⟨B, off, none⟩ cap l Tryz.underlying22 Tryz.underlying5 Tryz.underlying9 (fun j hj => ?_)
    have e : (⟨B, off, none⟩ : Addr).add j = ⟨B, off + j, none⟩ := by unfold Addr.add; split <;> simp_all
    rw [e]; exact h2 j hj

theorem enc_bad : encN 65533 = [239, 191, 189] := by decide
theorem rep_bad (n : Nat) : Lib.repeatL [239, 191, 189] n = encs (List.replicate n 65533) := by
  induction n with
  | zero => rfl
  | succ n ih => rw [List.replicate_succ, encs_cons, ← ih, enc_bad]; rfl

theorem told_len (l : List UInt8) : (told l).length ≤ 4 * l.length := by
  have h1 := dec_tell l
  have h2 := (encs_len_le (pts l)).2
  have h3 := (pts_len l).1
  have h4 := congrArg List.length h1
  rw [List.length_append] at h4
  have h5 : (dec l).length = (encs (pts l)).length := rfl
  omega

set_option maxRecDepth 100000 in
set_option maxHeartbeats 1000000 in
theorem decode_any (l : List UInt8) (v : Value) (w : World) (hl : l.length ≤ 1099511627776) (hv : BytesIn w v l) (hT : Lib.Utf8Tabs 0 1 w) :
    Calls Tryz.prog 19 #[v] w fun e w' => e = .returned (.string ⟨(dec l).toArray⟩) ∧ Below w.heap.size w w' := by
  have hconv := conv_in hv
  have hr := rest_len l
  have ht := tell_any ⟨l.toArray⟩ w (by rw [bsize]; exact hl) hT
  have hdt := dec_tell l
  have htl := told_len l
  simp only at ht
  generalize hto : told l = T at *
  generalize hre : rest l = R at *
  have HD := Lib.hid hdt
  clear hdt hto hre hv hT
  go_enter Tryz.func19, Tryz.ntmps19
  go_wp2_with (go_at_call 28; refine ht.mono ?_; rintro e w1 ⟨rfl, hb⟩)
  refine (Tryz.strings_Repeat ⟨#[239, 191, 189]⟩ R.length w1 (by omega) (by show 3 * R.length ≤ _; omega)).mono ?_
  rintro e w2 ⟨rfl, hb2⟩
  have hadd := run_string_add_sum (P := Tryz.prog) w2 ⟨T.toArray⟩ ⟨(Lib.repeatL [239, 191, 189] R.length).toArray⟩ (by rw [bsize, bsize, Lib.repeatL_length]; simp only [List.length_cons, List.length_nil]; omega)
  go_wp2
  go_ret
  refine ⟨?_, hb.trans (hb2.mono hb.size)⟩
  rw [HD.out, ← rep_bad]
  refine congrArg (fun x => Ending.returned (Value.string x)) ?_
  apply ByteArray.ext
  apply Array.toList_inj.1
  simp

end Go.Proofs.YtfbhpmafjehojaaGreatDoor.U1

namespace Go.Proofs.YtfbhpmafjehojaaGreatDoor.U1
open Go.RowKit

theorem bytesIn_new (w : World) (l : List UInt8) (C : Array Value) (hC : C = (Lib.byteCells l).toArray) (n : Nat) (hn : n = l.length) (fr : Nat × Nat) : BytesIn (w.alloc (.cells C 5 fr)) (.slice (some ⟨w.heap.size, 0, none⟩) n n) l := by
  subst hn hC
  refine .inr ⟨_, _, _, rfl, fun j hj => ?_⟩
  have h := World.cell?_alloc_mark w (Lib.byteCells l).toArray 5 fr (0 + j)
  rw [h]
  simp [Lib.byteCells, List.getElem?_eq_getElem hj]

end Go.Proofs.YtfbhpmafjehojaaGreatDoor.U1

namespace Go.Proofs.YtfbhpmafjehojaaGreatDoor.U1
set_option maxRecDepth 100000
open Go.ChangeShapes Go.WideShapes Go.ChangeAt Go.RowKit

theorem BytesIn.form {w : World} {v : Value} {l : List UInt8} (h : BytesIn w v l) : ∃ a c, v = .slice a l.length c := by
  rcases h with ⟨⟨a, c, rfl⟩, rfl⟩ | ⟨B, off, cap, rfl, _⟩
  · exact ⟨_, _, rfl⟩
  · exact ⟨_, _, rfl⟩
theorem IntsIn.form {w : World} {v : Value} {p : List Int} (h : IntsIn w v p) : ∃ a c, v = .slice a p.length c := by
  rcases h with ⟨⟨a, c, rfl⟩, rfl⟩ | ⟨B, off, cap, rfl, _⟩
  · exact ⟨_, _, rfl⟩
  · exact ⟨_, _, rfl⟩

theorem getD_mem (zs : List Int) (i : Nat) (h : i < zs.length) : zs.getD i 0 = zs[i] := by simp [List.getD, List.getElem?_eq_getElem h]
theorem open_bytes {w : World} {x : Addr} {len cap : Nat} {zs : List Int} (hl : len ≤ cap) (hz : zs.length = cap) (hcell : ∀ i, i < zs.length → w.cell? (x.add i) = some (.int .u8 (zs.getD i 0))) (hwf : ∀ n ∈ zs, (Lit.int .u8 n).wf = true) :
    ∃ l, l.length = len ∧ BytesIn w (.slice (some x) len cap) l := by
  refine ⟨(zs.take len).map fun z => z.toNat.toUInt8, by simp; omega, ?_⟩
  by_cases h0 : len = 0
  · subst h0
    exact .inl ⟨⟨_, _, rfl⟩, by simp⟩
  · obtain ⟨b, off, spot⟩ := x
    have hc := hcell 0 (by omega)
    have hspot : spot = none := by simpa [Addr.add] using World.cell?_spot hc
    subst hspot
    refine .inr ⟨b, off, cap, by simp; omega, fun j hj => ?_⟩
    have hj' : j < len := by simp at hj; omega
    have hj2 : j < zs.length := by omega
    have h := hcell j hj2
    have e : (⟨b, off, none⟩ : Addr).add j = ⟨b, off + j, none⟩ := by unfold Addr.add; split <;> simp_all
    rw [e, getD_mem zs j hj2] at h
    rw [h]
    have hb := bounds_u8 (hwf _ (List.getElem_mem hj2))
    simp
    omega
theorem open_int64s {w : World} {x : Addr} {len cap : Nat} {zs : List Int} (hl : len ≤ cap) (hz : zs.length = cap) (hcell : ∀ i, i < zs.length → w.cell? (x.add i) = some (.int .i64 (zs.getD i 0))) :
    ∃ p, p.length = len ∧ IntsIn w (.slice (some x) len cap) p := by
  refine ⟨zs.take len, by simp; omega, ?_⟩
  by_cases h0 : len = 0
  · subst h0
    exact .inl ⟨⟨_, _, rfl⟩, by simp⟩
  · obtain ⟨b, off, spot⟩ := x
    have hc := hcell 0 (by omega)
    have hspot : spot = none := by simpa [Addr.add] using World.cell?_spot hc
    subst hspot
    refine .inr ⟨b, off, cap, by simp; omega, fun j hj => ?_⟩
    have hj' : j < len := by simp at hj; omega
    have hj2 : j < zs.length := by omega
    have h := hcell j hj2
    have e : (⟨b, off, none⟩ : Addr).add j = ⟨b, off + j, none⟩ := by unfold Addr.add; split <;> simp_all
    rw [e, getD_mem zs j hj2] at h
    rw [h]
    simp

theorem own : ownKnob Tryz.prog.godebug = none := by kernel_rfl
theorem laidOut : laidOutB Tryz.prog = true := by kernel_rfl

/-- A slice of bytes, off the row's own reading. -/
theorem arg_bytes {H : Type} {enc : TypeId × Value → H} {W : World} {v : Value} {d : DataW H} {p : List MemPlace} {base : Nat} (hok : Value.okWide Tryz.prog W .any base 22 v) (hj : DataW.Trod enc Tryz.prog W 0 (fun _ => true) true 22 v d p) : ∃ l, BytesIn W v l := by
  obtain ⟨a0, len0, cap0, rfl⟩ := okWide_slice Tryz.underlying22 hok
  obtain ⟨fuel, hf⟩ := hj
  rcases open_ints Tryz.underlying22 Tryz.underlying5 (by kernel_rfl) hf with ⟨hcs, _⟩ | ⟨x, l, c, zs, hcs, _, hl, hm, hz, _, hcell, hwz⟩
  · simp [Value.cells] at hcs
    obtain ⟨rfl, rfl, rfl⟩ := hcs
    exact ⟨[], .inl ⟨⟨_, _, rfl⟩, rfl⟩⟩
  · simp [Value.cells] at hcs
    obtain ⟨rfl, rfl, rfl⟩ := hcs
    obtain ⟨l', _, h⟩ := open_bytes hl (by simpa using hz) hcell hwz
    exact ⟨l', h⟩
theorem arg_ints {H : Type} {enc : TypeId × Value → H} {W : World} {v : Value} {d : DataW H} {p : List MemPlace} {base : Nat} (hok : Value.okWide Tryz.prog W .any base 33 v) (hj : DataW.Trod enc Tryz.prog W 0 (fun _ => true) true 33 v d p) : ∃ q, IntsIn W v q := by
  obtain ⟨a0, len0, cap0, rfl⟩ := okWide_slice Tryz.underlying33 hok
  obtain ⟨fuel, hf⟩ := hj
  rcases open_ints Tryz.underlying33 Tryz.underlying3 (by kernel_rfl) hf with ⟨hcs, _⟩ | ⟨x, l, c, zs, hcs, _, hl, hm, hz, _, hcell, hwz⟩
  · simp [Value.cells] at hcs
    obtain ⟨rfl, rfl, rfl⟩ := hcs
    exact ⟨[], .inl ⟨⟨_, _, rfl⟩, rfl⟩⟩
  · simp [Value.cells] at hcs
    obtain ⟨rfl, rfl, rfl⟩ := hcs
    obtain ⟨l', _, h⟩ := open_int64s hl (by simpa using hz) hcell
    exact ⟨l', h⟩

end Go.Proofs.YtfbhpmafjehojaaGreatDoor.U1

namespace Go.Proofs.YtfbhpmafjehojaaGreatDoor.U1
open Go.ChangeShapes Go.WideShapes Go.ChangeAt Go.RowKit

theorem nil_app22 {w : World} {base : Nat} {v : Value} {n : Nat} {xs : List Value} (hown : w.ownsRow base 5 1 v n xs) (ty : TypeId) (c : Nat) : (Builtin.append_ #[22, 22] ty #[v, .slice none 0 c]).run Tryz.prog w = .ok v w := by
  obtain ⟨i0, hi, hz0, hz1, hz2⟩ := info_parts Tinfo5
  rcases hown.2 with ⟨rfl, rfl⟩ | ⟨g, cap, cur, rfl, _, _, hnc, _⟩
  · simp [Builtin.append_, run_underlying Tryz.underlying22, sizeOf, typeInfo, hi, Builtin.lenOf, Builtin.firstCells]
  · simp [Builtin.append_, run_underlying Tryz.underlying22, sizeOf, typeInfo, hi, Builtin.lenOf, Builtin.firstCells, hnc, storeCells]
/-- append(own, x...) where x came in. -/
theorem wpList_append_in22 {w : World} {ops : Array Oper} {rest : List Oper} {o : Oper} {a : Act} {Q : Exit → Act → World → Prop} (hgd : o.guard = none) (s x : Operand)
    (ho : o.op = .call { callee := .builtin .append, args := #[s, x], argTypes := #[22, 22] }) (base : Nat) (v0 : Value) (n : Nat) (xs : List Value)
    (hs : a.eval s = v0) (hown : w.ownsRow base 5 1 v0 n xs) (u : Value) (l : List UInt8) (hx : a.eval x = u) (hin : BytesIn w u l)
    (h63 : n + l.length ≤ 1099511627776) (hbase : base ≤ w.heap.size)
    (h : ∀ v' w', w'.ownsRow base 5 1 v' (n + l.length) (xs ++ Lib.byteCells l) → w.grownBy w' v0.ownBlock → wpList Tryz.prog ops Q rest (a.put o.dst v') w') : wpList Tryz.prog ops Q (o :: rest) a w := by
  obtain ⟨i0, hi, hz0, hz1, hz2⟩ := info_parts Tinfo5
  have via : ∀ (ad : Addr) (c : Nat), u = .slice (some ad) l.length c → (∀ j v, (Lib.byteCells l)[j]? = some v → w.cell? (ad.add j) = some v) → wpList Tryz.prog ops Q (o :: rest) a w := fun ad c hu hc => by
    refine wpList_append_own w hgd s x 22 ho base 5 i0 (.int .u8 0) 1 1 Tryz.underlying22 hi hz0 hz1 hz2 rfl (by decide) _ n xs hs hown ad l.length c (Lib.byteCells l) (by rw [hx, hu]) (by simp [Lib.byteCells_length]) hc (fun v hv => ?_) (by unfold maxLen; omega) (by omega) hbase ?_
    · obtain ⟨b, _, rfl⟩ := List.mem_map.1 hv
      rfl
    · intro v' w' h1 h2 _
      exact h v' w' h1 h2
  rcases hin with ⟨⟨a0, c0, rfl⟩, rfl⟩ | ⟨B, off, cap, rfl, hc⟩
  · cases a0 with
    | none =>
      refine wpList_plain hgd fun K hK => ?_
      have hrun := nil_app22 hown o.type c0
      unfold Oper.wp execOp
      simp only [ho, resolve, invoke, builtin, Sem.run_bind, Sem.run_pure, Result.andThen_ok, List.map_toArray, List.map_cons, List.map_nil, hs, hx, hrun]
      exact hK _ _ (h _ _ (by simpa [Lib.byteCells] using hown) (World.grownBy.refl w _))
    | some ad => exact via ad c0 rfl (fun j v hj => by simp [Lib.byteCells] at hj)
  · refine via ⟨B, off, none⟩ cap rfl (fun j v hj => ?_)
    have hj' : j < l.length := by
      have := (List.getElem?_eq_some_iff.1 hj).1
      simpa [Lib.byteCells] using this
    have e : (⟨B, off, none⟩ : Addr).add j = ⟨B, off + j, none⟩ := by unfold Addr.add; split <;> simp_all
    rw [e, hc j hj']
    simp [Lib.byteCells, List.getElem?_eq_getElem hj'] at hj
    rw [← hj]

theorem belowN {B : Nat} {a w : World} (h : Below B a w) (n : Nat) : Below B a (w.drewN n) := h.trans ⟨rfl, rfl, rfl, Nat.le_refl _, fun _ _ => rfl⟩
end Go.Proofs.YtfbhpmafjehojaaGreatDoor.U1

namespace Go.Proofs.YtfbhpmafjehojaaGreatDoor.U1
open Go.RowKit

theorem full_mono (a m : List UInt8) (h : full a = true) : full (a ++ m) = true := by
  by_cases hne : a = []
  · rw [hne] at h; cases h
  have hl : 0 < a.length := List.length_pos_iff.2 hne
  obtain ⟨e0, e1, e2, _, _, _, _⟩ := app_parts a m hne
  unfold full at h ⊢
  rw [if_neg (by omega)] at h
  rw [List.length_append, if_neg (by omega), e0]
  split at h
  · rw [if_pos (by omega)]
  · split at h
    · rename_i h1 h2
      rw [e1 h2.1]
      split
      · rfl
      · rw [if_pos (by omega)]
    · have h3 := of_decide_eq_true h
      rw [e2 h3.1, e1 (by omega)]
      split
      · rfl
      · split
        · rfl
        · exact decide_eq_true (by omega)
theorem tell_app (a m : List UInt8) : tellP (a ++ m) = tellP a ++ tellP (rest a ++ m) ∧ rest (a ++ m) = rest (rest a ++ m) := by
  induction a using pts_ind with
  | h0 => exact ⟨rfl, rfl⟩
  | h1 a h ih =>
    by_cases hs : (decL a).1 ≠ 65533 ∨ full a = true
    · obtain ⟨e1, e2⟩ := tell_step a h hs
      have hw := width_pos a h
      have hne : a ++ m ≠ [] := fun e => h (List.append_eq_nil_iff.1 e).1
      have hst := full_stable a m h hs
      have hs2 : (decL (a ++ m)).1 ≠ 65533 ∨ full (a ++ m) = true := by
        rw [hst]
        rcases hs with h1 | h1
        · exact .inl h1
        · exact .inr (full_mono a m h1)
      obtain ⟨f1, f2⟩ := tell_step _ hne hs2
      rw [f1, f2, hst, List.drop_append_of_le_length hw.2.1, ih.1, ih.2, e1, e2]
      exact ⟨rfl, rfl⟩
    · have h1 : (decL a).1 = 65533 := Classical.byContradiction fun g => hs (.inl g)
      have h2 : full a = false := by
        cases hb : full a with
        | false => rfl
        | true => exact absurd (.inr hb) hs
      obtain ⟨e1, e2⟩ := tell_stop a h h1 h2
      rw [e1, e2]
      exact ⟨rfl, rfl⟩
theorem told_app (a m : List UInt8) : told (a ++ m) = told a ++ told (rest a ++ m) := by
  unfold told
  rw [(tell_app a m).1, encs_append]
theorem take_part (l : List UInt8) (i j : Nat) (h : i ≤ j) : l.take i ++ (l.drop i).take (j - i) = l.take j := by
  have h1 : l.take j = (l.take j).take i ++ (l.take j).drop i := (List.take_append_drop i (l.take j)).symm
  rw [h1, List.take_take, Nat.min_eq_left h, List.drop_take]
theorem told_end (l : List UInt8) : told l ++ dec (rest l) = dec l := by
  rw [dec_tell l]
  show _ = _
  rw [← pts_rest]
  rfl
end Go.Proofs.YtfbhpmafjehojaaGreatDoor.U1

namespace Go.Proofs.YtfbhpmafjehojaaGreatDoor.U1
open Go.RowKit

theorem elem22 : Tryz.prog.elem 22 = 5 := by simp [Program.elem, Tryz.underlying22]
theorem cut_in {w : World} {a : Option Addr} {c : Nat} {l : List UInt8} (hv : BytesIn w (.slice a l.length c) l) (hc : l.length ≤ c) (lo hi : Nat) (h1 : lo ≤ hi) (h2 : hi ≤ l.length) :
    BytesIn w (sliced a lo hi c 1) ((l.drop lo).take (hi - lo)) := by
  have hlen : ((l.drop lo).take (hi - lo)).length = hi - lo := by simp; omega
  unfold sliced
  by_cases h : lo = hi
  · subst h
    refine .inl ⟨⟨_, _, by rw [Nat.sub_self]⟩, by simp⟩
  · rcases hv with ⟨_, h0⟩ | ⟨B, off, cap, hs, hcell⟩
    · rw [h0] at h2; simp at h2; omega
    · cases hs
      have hne : ¬ c = lo := by omega
      refine .inr ⟨B, off + lo, c - lo, ?_, fun j hj => ?_⟩
      · rw [hlen, if_neg hne, Nat.mul_one]
        simp only [Option.map_some]
        congr 2
        unfold Addr.add
        split <;> simp_all
      · have hj' : lo + j < l.length := by rw [hlen] at hj; omega
        have := hcell (lo + j) hj'
        rw [Nat.add_assoc, this]
        simp
theorem run_cut {a : Option Addr} {len c : Nat} (lo hi : Nat) (h1 : lo ≤ hi) (h2 : hi ≤ c) (W : World) :
    (Instr.slice 22 (.slice a len c) (some (.int .i64 (lo : Int))) (some (.int .i64 (hi : Int))) none).run Tryz.prog W = .ok (sliced a lo hi c 1) W := by
  have hz : ∀ w, (Go.sizeOf 5).run Tryz.prog w = .ok 1 w := Tryz.sizeOf5
  rw [run_slice_lh W 22 a len c (by rw [elem22]; exact Tryz.underlying22) .i64 .i64 _ _ (by omega) (by omega) (by omega), elem22, hz]
  simp [Result.andThen]
end Go.Proofs.YtfbhpmafjehojaaGreatDoor.U1
