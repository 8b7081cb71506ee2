/- The program's own Decode, Points and Text. -/
import Derived.Test.YtnchaidmbdalbaaDoorWalkF
namespace Go.Proofs.YtnchaidmbdalbaaDoor
open Go.RowKit

/-- A slice of bytes that reads as this list. -/
def BytesIn (w : World) (v : Value) (l : List UInt8) : Prop :=
  ((∃ a c, v = .slice a 0 c) ∧ l = []) ∨ ∃ B off cap, v = .slice (some ⟨B, off, none⟩) l.length cap ∧ ∀ j, (h : j < l.length) → w.cell? ⟨B, off + j, none⟩ = some (.int .u8 (l[j].toNat : Int))
theorem BytesIn.below {w w' : World} {v : Value} {l : List UInt8} (h : BytesIn w v l) (hb : Below w.heap.size w w') : BytesIn w' v l := by
  rcases h with h | ⟨B, off, cap, h1, h2⟩
  · exact .inl h
  · exact .inr ⟨B, off, cap, h1, fun j hj => by rw [hb.cell (lt_of_cell (h2 j hj))]; exact h2 j hj⟩
theorem BytesIn.of_row {w : World} {base : Nat} {v : Value} {l : List UInt8} (h : w.ownsRow base 5 1 v l.length (Lib.byteCells l)) : BytesIn w v l := by
  rcases rowForms h with ⟨h1, h2⟩ | ⟨g, cap, rfl⟩
  · exact .inl ⟨⟨_, _, h1⟩, List.length_eq_zero_iff.1 h2⟩
  · refine .inr ⟨g, 0, cap, rfl, fun j hj => ?_⟩
    rw [Nat.zero_add, h.cellAt j (by omega)]
    simp [Lib.byteCells, List.getElem?_eq_getElem hj]
theorem conv_in {w : World} {v : Value} {l : List UInt8} (h : BytesIn w v l) : (convert 22 9 v).run Tryd.prog w = .ok (.string ⟨l.toArray⟩) w := by
  rcases h with ⟨⟨a0, c0, rfl⟩, rfl⟩ | ⟨B, off, cap, rfl, h2⟩
  · cases a0 with
    | none => exact run_convert_bytes_nil (P := Tryd.prog) w 22 5 Tryd.underlying22 Tryd.underlying5 0 c0 9 Tryd.underlying9
    | some a => exact run_convert_bytes_back (P := Tryd.prog) w 22 9 5 a c0 [] Tryd.underlying22 Tryd.underlying5 Tryd.underlying9 (fun j hj => by cases hj)
  · refine run_convert_bytes_back (P := Tryd.prog) w 22 9 5 ⟨B, off, none⟩ cap l Tryd.underlying22 Tryd.underlying5 Tryd.underlying9 (fun j hj => ?_)
    have e : (⟨B, off, none⟩ : Addr).add j = ⟨B, off + j, none⟩ := by unfold Addr.add; split <;> simp_all
    rw [e]; exact h2 j hj

theorem enc_bad : encN 65533 = [239, 191, 189] := by decide
theorem isPoint_bool (n : Int) (b : Bool) (h : ptB n = b) (w : World) : Calls Tryd.prog 27 #[.int .i64 n] w fun e w' => e = .returned (.bool b) ∧ w' = w :=
  (isPoint_any n w).mono fun _ _ ⟨he, hw⟩ => ⟨by rw [he, h], hw.symm⟩
theorem rep_bad (n : Nat) : Lib.repeatL [239, 191, 189] n = encs (List.replicate n 65533) := by
  induction n with
  | zero => rfl
  | succ n ih => rw [List.replicate_succ, encs_cons, ← ih, enc_bad]; rfl

theorem str_size (l : List UInt8) : ((⟨l.toArray⟩ : ByteArray).size : Int) = (l.length : Int) := by rw [bsize]

theorem told_len (l : List UInt8) : (told l).length ≤ 4 * l.length := by
  have h1 := dec_tell l
  have h2 := (encs_len_le (pts l)).2
  have h3 := (pts_len l).1
  have h4 := congrArg List.length h1
  rw [List.length_append] at h4
  have h5 : (dec l).length = (encs (pts l)).length := rfl
  omega

set_option maxRecDepth 100000 in
set_option maxHeartbeats 1000000 in
theorem decode_any (l : List UInt8) (v : Value) (w : World) (hl : l.length ≤ 1099511627776) (hv : BytesIn w v l) (hT : Lib.Utf8Tabs 0 1 w) :
    Calls Tryd.prog 10 #[v] w fun e w' => e = .returned (.string ⟨(dec l).toArray⟩) ∧ Below w.heap.size w w' := by
  have hconv := conv_in hv
  have hr := rest_len l
  have ht := tell_any ⟨l.toArray⟩ w (by rw [bsize]; exact hl) hT
  have hdt := dec_tell l
  have htl := told_len l
  simp only at ht
  generalize hto : told l = T at *
  generalize hre : rest l = R at *
  have HD := Lib.hid hdt
  clear hdt hto hre hv hT
  go_enter Tryd.func10, Tryd.ntmps10
  go_wp2_with (go_at_call 22; refine ht.mono ?_; rintro e w1 ⟨rfl, hb⟩)
  refine (Tryd.strings_Repeat ⟨#[239, 191, 189]⟩ R.length w1 (by omega) (by show 3 * R.length ≤ _; omega)).mono ?_
  rintro e w2 ⟨rfl, hb2⟩
  have hadd := run_string_add_sum (P := Tryd.prog) w2 ⟨T.toArray⟩ ⟨(Lib.repeatL [239, 191, 189] R.length).toArray⟩ (by rw [bsize, bsize, Lib.repeatL_length]; simp only [List.length_cons, List.length_nil]; omega)
  go_wp2
  go_ret
  refine ⟨?_, hb.trans (hb2.mono hb.size)⟩
  rw [HD.out, ← rep_bad]
  refine congrArg (fun x => Ending.returned (Value.string x)) ?_
  apply ByteArray.ext
  apply Array.toList_inj.1
  simp

/-- The rows of code points: the range over a text gives just these. -/
theorem pts_at (l : List UInt8) (pos : Nat) (h : l.drop pos ≠ []) : pts (l.drop pos) = (decL (l.drop pos)).1 :: pts (l.drop (pos + (decL (l.drop pos)).2)) := by
  rw [pts_cons _ h, List.drop_drop]

set_option maxRecDepth 100000 in
set_option maxHeartbeats 2000000 in
theorem points_any (s : ByteArray) (w : World) (hs : s.size ≤ 1099511627776) :
    Calls Tryd.prog 14 #[.string s] w fun e w' => ∃ v, e = .returned v ∧ w'.ownsRow w.heap.size 3 1 v (pts s.data.toList).length (ptCells (pts s.data.toList)) ∧ Below w.heap.size w w' := by
  obtain ⟨i0, hi, hz0, hz1, hz2⟩ := info_parts Tinfo3
  have hrc := Lib.runeCount_le s
  go_enter Tryd.func14, Tryd.ntmps14
  go_wp2_with (first
    | (go_at_call 25; refine (Tryd.utf8_RuneCountInString s _ (by omega)).mono ?_; rintro e w1 ⟨rfl, ppos, hw1⟩
       have hb1 : Below w.heap.size w w1 := by rw [hw1]; exact (Below.refl _ _).alloc (Nat.le_refl _) _
       clear hw1)
    | (at_make; refine wpList_make_own _ rfl _ _ 27 rfl w.heap.size 3 i0 (.int .i64 0) 1 Tryd.underlying27 hi hz0 hz1 .i64 .i64 _ (Lib.runeCount s) rfl rfl rfl (by rw [hz2]; omega) (by unfold maxLen; omega) hb1.size ?_; intro w0 hown0 hgrow0))
  have hbw0 : Below w.heap.size w w0 := Below.grown hb1 hgrow0 hb1.size (fun j hj => by cases hj)
  have hsz0 := hbw0.size
  have hown00 := hown0.alloc (.stringIter s 0)
  have hit0 := World.iter_heap w0 s 0
  have hbw00 : Below w.heap.size w (w0.iter s 0) := hbw0.alloc hsz0 _
  obtain ⟨IT, hIT⟩ : ∃ IT, IT = w0.heap.size := ⟨_, rfl⟩
  have hITw : w.heap.size ≤ IT := by omega
  rw [← hIT] at hit0
  rw [← hIT]
  go_loopw [3] (fun v wr => ∃ (pos : Nat) (acc : List Nat), wr.heap[IT]? = some (.stringIter s pos) ∧ pos ≤ s.size ∧ wr.ownsRow w.heap.size 3 1 v acc.length (ptCells acc) ∧ Below w.heap.size w wr ∧ Hid (pts s.data.toList = acc ++ pts (s.data.toList.drop pos)) ∧ acc.length ≤ pos) (fun _ wr => s.size - wr.iterPos IT)
  case atStart => exact ⟨0, [], hit0, Nat.zero_le _, hown00, hbw00, rfl, Nat.le_refl _⟩
  case round =>
    clear hown00 hit0 hbw00 hown0 hgrow0 hbw0 hsz0 hIT hb1
    obtain ⟨pos, acc, hit, hp, hown, hbw, HS, hlen⟩ := hrel
    have hpos0 := iterPos_of hit
    by_cases hlt : pos < s.size
    · have hne : s.data.toList.drop pos ≠ [] := by
        intro h
        have := congrArg List.length h
        simp at this; omega
      have hld : (s.data.toList.drop pos).length = s.size - pos := by simp
      have hw := width_pos _ hne
      have hpt := decL_pt _ hne
      have hnx : ∀ ty, (Instr.next (.pointer (some ⟨IT, 0, none⟩)) true ty).run Tryd.prog wr = _ := fun ty => Lib.run_next_any_at wr IT s pos ty hit hlt
      have hit2 := Lib.iterAt_heap wr IT s pos (pos + (Utf8.decode s pos).2) hit
      have hbw2 := Lib.below_iterAt hbw (k := IT) hITw s (pos + (Utf8.decode s pos).2)
      have hown2 := ownsRow_iter hown hit (pos + (Utf8.decode s pos).2)
      rw [decode_drop] at hnx hit2 hbw2 hown2
      have hcons := pts_at _ _ hne
      generalize hD : decL (s.data.toList.drop pos) = D at *
      obtain ⟨c, k⟩ := D
      simp only at hw hpt hnx hit2 hbw2 hown2 hcons
      have hk1 := hw.1
      have hk2 : pos + k ≤ s.size := by omega
      have HN : Hid (pts s.data.toList = (acc ++ [c]) ++ pts (s.data.toList.drop (pos + k))) := by
        show _ = _
        rw [HS.out, hcons]
        simp
      obtain ⟨W1, hW1⟩ : ∃ W1, W1 = wr.iterAt IT s (pos + k) := ⟨_, rfl⟩
      rw [← hW1] at hnx hit2 hbw2 hown2
      have hpt0 : c ≤ 1114111 := hpt.1
      clear hW1 hit hown hbw hcons hD hw hld hne HS hpt
      go_wp2_with (at_builtin; refine wpList_append_own _ rfl _ _ 27 rfl w.heap.size 3 i0 (.int .i64 0) 1 8 Tryd.underlying27 hi hz0 hz1 hz2 rfl (by decide) _ _ _ rfl (hown2.alloc _) ⟨W1.heap.size, 0, none⟩ 1 1 [.int .i64 c] rfl rfl (cell_one_new _ _ _) (fun x hx => by simp at hx; subst hx; rfl) (by unfold maxLen; omega) (by omega) (by have := hbw2.size; simp; omega) ?_; intro v' w3 hown3 hgrow3 hnil3)
      have hit3 : w3.heap[IT]? = some (.stringIter s (pos + k)) := by
        rw [hgrow3.block IT (by have := lt_of_block hit2; simp; omega) (row_ne_iter hown2 hit2), Below.heap_alloc _ _ _ (lt_of_block hit2)]; exact hit2
      have hbw3 : Below w.heap.size w w3 := Below.grown (hbw2.alloc hbw2.size _) hgrow3 (by have := hbw2.size; simp; omega) (fun j hj => (hown2.lt _ hj).1)
      rw [← ptCells_snoc] at hown3
      go_roundw
      case rel => exact ⟨pos + k, acc ++ [c], hit3, hk2, by rw [List.length_append]; exact hown3, hbw3, HN, by rw [List.length_append]; simp; omega⟩
      case measure => rw [iterPos_of hit3, hpos0]; omega
    · have hnx : ∀ ty, (Instr.next (.pointer (some ⟨IT, 0, none⟩)) true ty).run Tryd.prog wr = _ := fun ty => Lib.run_next_end_at wr IT s pos ty hit hlt
      have e : pts s.data.toList = acc := by
        rw [HS.out, List.drop_of_length_le (by simp; omega), pts_nil, List.append_nil]
      have HE := Lib.hid e
      clear e HS
      go_wp2
      go_ret
      exact ⟨_, rfl, by rw [HE.out]; exact hown, hbw⟩

set_option maxRecDepth 100000 in
set_option maxHeartbeats 1000000 in
theorem text_any (p : List Int) (u : Value) (w : World) (hl : p.length ≤ 1099511627776) (hp : IntsIn w u p) :
    Calls Tryd.prog 16 #[u] w fun e w' => e = .returned (textV p) ∧ Below w.heap.size w w' := by
  obtain ⟨i0, hi, hz0, hz1, hz2⟩ := info_parts Tinfo5
  rcases hp with ⟨⟨a0, c0, rfl⟩, rfl⟩ | ⟨B, off, cap, rfl, hc⟩
  · clear hl
    go_enter Tryd.func16, Tryd.ntmps16
    go_wp2_with (at_make; refine wpList_make_own _ rfl _ _ 22 rfl w.heap.size 5 i0 (.int .u8 0) 1 Tryd.underlying22 hi hz0 hz1 .i64 .i64 _ 0 rfl rfl rfl (by rw [hz2]; omega) (by unfold maxLen; omega) (Nat.le_refl _) ?_; intro w0 hown0 hgrow0)
    have hbw0 : Below w.heap.size w w0 := Below.grown (Below.refl _ _) hgrow0 (Nat.le_refl _) (fun j hj => by cases hj)
    have hconv := conv_row (l := []) hown0
    refine wp_loop_rounds 1 ?_
    rw [rounds_succ]
    go_wp2
    go_ret2
    exact ⟨rfl, hbw0⟩
  have hlen4 : p.length ≤ 1099511627776 := hl
  go_enter Tryd.func16, Tryd.ntmps16
  go_wp2_with (at_make; refine wpList_make_own _ rfl _ _ 22 rfl w.heap.size 5 i0 (.int .u8 0) 1 Tryd.underlying22 hi hz0 hz1 .i64 .i64 _ p.length rfl rfl rfl (by rw [hz2]; omega) (by unfold maxLen; omega) (Nat.le_refl _) ?_; intro w0 hown0 hgrow0)
  have hbw0 : Below w.heap.size w w0 := Below.grown (Below.refl _ _) hgrow0 (Nat.le_refl _) (fun j hj => by cases hj)
  go_loopw [4, 12] (fun v i wr => ∃ k : Nat, i = .int .i64 k ∧ k ≤ p.length ∧ wr.ownsRow w.heap.size 5 1 v (encs (natsOf (p.take k))).length (Lib.byteCells (encs (natsOf (p.take k)))) ∧ Below w.heap.size w wr ∧ Hid (allPt (p.take k) = true) ∧ (encs (natsOf (p.take k))).length ≤ 4 * k) (fun _ i _ => p.length - (intOf i).toNat)
  case atStart => exact ⟨0, rfl, Nat.zero_le _, hown0, hbw0, rfl, Nat.le_refl _⟩
  case round =>
    clear hown0 hgrow0 hbw0
    obtain ⟨k, rfl, hk, hown, hbw, HS, hlen⟩ := hrel
    by_cases hlt : k < p.length
    · have hcell : wr.cell? ⟨B, off + k, none⟩ = some (.int .i64 p[k]) := by
        have := hc k hlt
        rw [hbw.cell (lt_of_cell this), this]
      have hT : Hid (allPt (p.take (k + 1)) = (allPt (p.take k) && ptB p[k])) := allPt_take_succ p k hlt
      have hF : Hid (ptB p[k] = false → allPt p = false) := allPt_of_take p k hlt
      have hN : Hid (natsOf (p.take (k + 1)) = natsOf (p.take k) ++ [p[k].toNat]) := by
        show _ = _
        unfold natsOf
        rw [List.take_succ_eq_append_getElem hlt, List.map_append]
        rfl
      generalize p[k] = x at *
      clear hc
      cases hx : ptB x with
      | true =>
        obtain ⟨hpt, hnat⟩ := ptB_nat hx
        have HX := Lib.hid hx
        obtain ⟨c, hcx⟩ : ∃ c, x.toNat = c := ⟨_, rfl⟩
        rw [hcx] at hpt hnat hN
        subst hnat
        have hpt0 : c ≤ 1114111 := hpt.1
        have hlenc := encN_length c
        have hrc := runeCells_eq hpt
        have HR := Lib.hid hrc
        have hsnoc := encs_snoc (natsOf (p.take k)) c
        rw [← hN.out] at hsnoc
        have HC := Lib.hid hsnoc
        clear hx hcx hrc hsnoc hpt hF
        generalize encs (natsOf (p.take k)) = A at *
        go_wp2_with (first
          | (go_at_call 27; refine (isPoint_bool _ true HX.out _).mono ?_; rintro e w' ⟨rfl, rfl⟩)
          | (go_at_call 28; refine (Tryd.utf8_AppendRune_plain w.heap.size _ _ _ (c : Int) (by omega) (by omega) _ hown (by omega) (hbw.size)).mono ?_; rintro e w3 ⟨v', rfl, hown3, o3, hgrow3⟩
             have hbw3 : Below w.heap.size w w3 := Below.grown (hbw.alloc hbw.size _) hgrow3 (by have := hbw.size; simp; omega) (fun j hj => (hown.lt _ hj).1)
             have X : Aside (w3.ownsRow w.heap.size 5 1 v' (A.length + (Lib.runeCells (c : Int)).length) (Lib.byteCells A ++ Lib.runeCells (c : Int)) ∧ Below w.heap.size w w3) := ⟨hown3, hbw3⟩
             clear hown3 hgrow3))
        go_roundw
        case rel =>
          have hX := X.out.1
          rw [HR.out, Lib.byteCells_length, ← byteCells_append, ← HC.out] at hX
          exact ⟨k + 1, by go_num, by omega, by rw [HC.out, List.length_append, ← HC.out]; exact hX, X.out.2, by show _ = _; rw [hT.out, HS.out, HX.out]; rfl, by rw [HC.out, List.length_append]; omega⟩
        case measure => simp [intOf]; omega
      | false =>
        have HX := Lib.hid hx
        have HE : Hid (textV p = .tuple #[.string ⟨#[]⟩, .int .i64 1]) := by
          show _ = _
          unfold textV
          rw [if_neg (by rw [hF.out hx]; simp)]
        clear hx
        go_wp2_with (go_at_call 27; refine (isPoint_bool x false HX.out _).mono ?_; rintro e w' ⟨rfl, rfl⟩)
        go_ret2
        exact ⟨by rw [HE.out]; rfl, hbw⟩
    · obtain rfl : k = p.length := by omega
      have hall : allPt p = true := by have := HS.out; rwa [List.take_length] at this
      have HE : Hid (textV p = .tuple #[.string ⟨(encs (natsOf p)).toArray⟩, .int .i64 0]) := by
        show _ = _
        unfold textV
        rw [if_pos hall]
      rw [List.take_length] at hown
      have hconv := conv_row hown
      clear hall hc HS
      go_wp2
      go_ret2
      exact ⟨by rw [HE.out]; rfl, hbw⟩

end Go.Proofs.YtnchaidmbdalbaaDoor
