/- A text decoded: the program's Decode. A text encoded: the program's Encode. The document's digit, number, the first ; and a sign's text. The document's Decode and Encode. Rows of Fails held against one another; the document's rows. -/
import Derived.Test.YtgbilfbonliipaaGreatDoorEntV
import Derived.Lib.AppendStr
namespace Go.Proofs.YtgbilfbonliipaaGreatDoor
open Go.RowKit

/-- Two rows of unlike elements lie in unlike blocks. -/
theorem rows_apart {w : World} {b1 b2 : Nat} {e1 e2 : TypeId} {s1 s2 : Nat} {v1 v2 : Value} {n1 n2 : Nat} {x1 x2 : List Value} (h1 : w.ownsRow b1 e1 s1 v1 n1 x1) (h2 : w.ownsRow b2 e2 s2 v2 n2 x2) (hne : e1 ≠ e2) : v1.ownBlock = none ∨ v1.ownBlock ≠ v2.ownBlock := by
  rcases h1.2 with ⟨rfl, _⟩ | ⟨g, cap, cur, rfl, _, c, _⟩
  · exact .inl rfl
  · refine .inr fun e => ?_
    rcases h2.2 with ⟨rfl, _⟩ | ⟨g', cap', cur', rfl, _, c', _⟩
    · cases e
    · obtain rfl : g = g' := by simpa [Value.ownBlock] using e
      rw [c] at c'
      injection c' with c'
      injection c' with _ c' _
      exact hne c'
def failCs (p : List Nat) : List Value := p.flatMap fun (n : Nat) => [.int .i64 130, .int .i64 (n : Int)]
theorem failCs_snoc (p : List Nat) (n : Nat) : failCs (p ++ [n]) = failCs p ++ [.int .i64 130, .int .i64 (n : Int)] := by simp [failCs]
theorem failCs_length (p : List Nat) : (failCs p).length = p.length * 2 := by
  induction p with
  | nil => rfl
  | cons a r ih => simp [failCs] at ih ⊢; omega
theorem Tinfo34 : (Tryz.prog.info? 59).map (fun i => (i.zero, i.size, i.bytes)) = some (some (.agg #[.int .i64 0, .int .i64 0]), 2, 16) := by kernel_rfl
theorem strCells_eq (T : ByteArray) : Lib.strCells T = Lib.byteCells T.data.toList := rfl
theorem cells_new (w : World) (cs : List Value) (t : TypeId) : ∀ (j : Nat) u, cs[j]? = some u → (w.alloc (.cells cs.toArray t)).cell? ((⟨w.heap.size, 0, none⟩ : Addr).add j) = some u := by
  intro j u h
  have e : (⟨w.heap.size, 0, none⟩ : Addr).add j = ⟨w.heap.size, j, none⟩ := by simp [Addr.add]; omega
  rw [e, World.cell?_alloc_mark]
  simpa using h

theorem first_bad {l t : List UInt8} {k : Nat} (h : firstM l = some (t, true, k)) : t = badT := by
  cases l with
  | nil => cases h
  | cons c r =>
    by_cases hc : c = 38
    · subst hc
      rw [first_amp] at h
      cases hs : semi r with
      | none => rw [hs] at h; cases h
      | some j =>
        rw [hs] at h
        simp only at h
        by_cases hn : nameM (r.take j) = []
        · cases hm : numM (r.take j) with
          | none => rw [sign_none hn hm] at h; cases h
          | some n =>
            by_cases h3 : n = 0 ∨ ¬ isPt n
            · rw [sign_bad hn hm h3] at h
              injection h with h; injection h with h _; exact h.symm
            · rw [sign_point hn hm (fun g => h3 (.inl g)) (Classical.byContradiction fun g => h3 (.inr g))] at h
              injection h with h; injection h with _ h; injection h with h _; cases h
        · rw [sign_name hn] at h
          injection h with h; injection h with _ h; injection h with h _; cases h
    · rw [first_plain c r hc] at h; cases h
/-- Decode goes on at a place. -/
theorem dec_place (l : List UInt8) (pos : Nat) (h : pos < l.length) : l.drop pos = l[pos] :: l.drop (pos + 1) := List.drop_eq_getElem_cons h

set_option maxRecDepth 100000 in
set_option maxHeartbeats 8000000 in
theorem decode_any (s : ByteArray) (hs : s.size ≤ 1000000) (w : World) (hlow : Low w) :
    Calls Tryz.prog 20 #[.string s] w fun e w' => ∃ v, e = .returned (.tuple #[.string ⟨(decT 0 s.data.toList).1.toArray⟩, v]) ∧ w'.ownsRow w.heap.size 59 2 v (decT 0 s.data.toList).2.length (failCs (decT 0 s.data.toList).2) ∧ Below w.heap.size w w' := by
  obtain ⟨i0, hi, hz0, hz1, hz2⟩ := info_parts Tinfo5
  obtain ⟨i1, hi1, hy0, hy1, hy2⟩ := info_parts Tinfo34
  have HLow := Lib.hid hlow
  clear hlow
  go_enter Tryz.func20, Tryz.ntmps20
  go_wp2
  go_step3
  go_wp2_with (at_make; refine wpList_make_own _ rfl _ _ 46 rfl w.heap.size 5 i0 (.int .u8 0) 1 Tryz.underlying46 hi hz0 hz1 .i64 .i64 _ s.size rfl rfl rfl (by rw [hz2]; omega) (by unfold maxLen; omega) (Nat.le_refl _) ?_; intro w0 hown0 hgrow0)
  have hbw0 : Below w.heap.size w w0 := Below.grown (Below.refl _ _) hgrow0 (Nat.le_refl _) (fun j hj => by cases hj)
  go_step3
  go_wp2
  go_loopw [4, 5, 6] (fun v u i wr => ∃ (pos : Nat) (acc : List UInt8) (facc : List Nat), i = .int .i64 pos ∧ pos ≤ s.size ∧ wr.ownsRow w.heap.size 5 1 v acc.length (Lib.byteCells acc) ∧ wr.ownsRow w.heap.size 59 2 u facc.length (failCs facc) ∧ Below w.heap.size w wr ∧ Hid (decT 0 s.data.toList = (acc ++ (decT pos (s.data.toList.drop pos)).1, facc ++ (decT pos (s.data.toList.drop pos)).2)) ∧ acc.length ≤ pos ∧ facc.length ≤ pos) (fun _ _ i _ => s.size - (intOf i).toNat)
  case atStart => exact ⟨0, [], [], rfl, Nat.zero_le _, hown0, World.ownsRow_nil _ _ _ _, hbw0, Lib.hid rfl, Nat.le_refl _, Nat.le_refl _⟩
  case round =>
    clear hown0 hgrow0 hbw0
    obtain ⟨pos, acc, facc, rfl, hp, hown, hfow, hb, HS, hla, hlf⟩ := hrel
    by_cases hlt : pos < s.size
    · have hpl : pos < s.data.toList.length := by rw [lsize]; exact hlt
      have hdr := dec_place s.data.toList pos hpl
      have hg : s.data.toList[pos] = s[pos] := rfl
      rw [hg] at hdr
      obtain ⟨c, hc⟩ : ∃ c, s[pos] = c := ⟨_, rfl⟩
      have HC := Lib.hid hc
      rw [hc] at hdr
      obtain ⟨R, hR⟩ := text_of (s.data.toList.drop pos)
      have s1 := slice_from s R pos hp hR
      have hRs : R.size = s.size - pos := by rw [← lsize, hR, List.length_drop, lsize]
      have CF := first_hid R (by omega)
      have hLw := HLow.out.below hb
      have HLw := Lib.hid hLw
      have HR := Lib.hid hR
      have HDR := Lib.hid hdr
      have hsz := hb.size
      clear hR hdr hg hc hRs hLw
      go_wp2_with fail
      (with_reducible refine (CF.out _ HLw.out).mono ?_)
      rintro e w1 ⟨T, k, rfl, b1, hv⟩
      have hown1 := ownsRow_below hown b1
      have hfow1 := ownsRow_below hfow b1
      have hb1 := hb.trans (b1.mono hsz)
      clear hown hfow hb b1 HLw CF
      rcases hv with ⟨hn, rfl, rfl⟩ | ⟨t, b, hn, hT⟩
      · have HN : Hid (decT 0 s.data.toList = ((acc ++ [c]) ++ (decT (pos + 1) (s.data.toList.drop (pos + 1))).1, facc ++ (decT (pos + 1) (s.data.toList.drop (pos + 1))).2)) := Lib.hid (by
          rw [HR.out, HDR.out] at hn
          rw [HS.out, HDR.out, decT_plain pos c _ hn]
          simp)
        have hcc : s[pos] = c := HC.out
        have hsz1 := hb1.size
        clear hn HS HR HDR HC
        go_wp2_with (at_builtin; refine wpList_append_own _ rfl _ _ 46 rfl w.heap.size 5 i0 (.int .u8 0) 1 1 Tryz.underlying46 hi hz0 hz1 hz2 rfl (by decide) _ _ _ rfl (hown1.alloc _) ⟨w1.heap.size, 0, none⟩ 1 1 [.int .u8 (c.toNat : Int)] rfl rfl (cell_one_new _ _ _) (fun x hx => by simp at hx; subst hx; rfl) (by unfold maxLen; omega) (by omega) (by simp; omega) ?_; intro v' w3 hown3 hgrow3 hnil3)
        have hb3 : Below w.heap.size w w3 := Below.grown (hb1.alloc hsz1 _) hgrow3 (by simp; omega) (fun j hj => (hown1.lt _ hj).1)
        have hfow3 := (hfow1.alloc _).kept hgrow3 (rows_apart hfow1 hown1 (by decide))
        have hown4 : w3.ownsRow w.heap.size 5 1 v' (acc ++ [c]).length (Lib.byteCells (acc ++ [c])) := by rw [byteCells_append, byteCells_one, List.length_append]; exact hown3
        clear hown3 hgrow3 hnil3
        go_roundw
        case rel => exact ⟨pos + 1, acc ++ [c], facc, by go_num, by omega, hown4, hfow3, hb3, HN, by rw [List.length_append]; simp; omega, by omega⟩
        case measure => simp [intOf]; omega
      · have hl := first_len hn
        rw [HR.out, List.length_drop, lsize] at hl
        obtain ⟨hk4, hk10, hks, ht1, htk⟩ := hl
        have hk0 : ((k : Int) == 0) = false := by rw [beq_eq_false_iff_ne]; omega
        have hkz : (0 : Int) ≤ (k : Int) := by omega
        have HN : Hid (decT 0 s.data.toList = ((acc ++ t) ++ (decT (pos + k) (s.data.toList.drop (pos + k))).1, (facc ++ (if b = true then [pos] else [])) ++ (decT (pos + k) (s.data.toList.drop (pos + k))).2)) := Lib.hid (by
          rw [HR.out] at hn
          rw [HS.out, decT_sign pos hn, List.drop_drop]
          simp)
        have hsz1 := hb1.size
        clear HS HR HDR HC
        cases b with
        | true =>
          have et : T = ⟨#[]⟩ := text_is hT
          subst et
          have HT : Hid (t = [239, 191, 189]) := Lib.hid (first_bad hn)
          clear hn hT
          go_wp2_with (first
            | (at_builtin; refine wpList_append_own _ rfl _ _ 23 rfl w.heap.size 59 i1 (.agg #[.int .i64 0, .int .i64 0]) 2 16 Tryz.underlying23 hi1 hy0 hy1 hy2 rfl (by decide) _ _ _ rfl (hfow1.alloc _) ⟨w1.heap.size, 0, none⟩ 1 1 [.int .i64 130, .int .i64 (pos : Int)] rfl rfl (cells_new w1 [.int .i64 130, .int .i64 (pos : Int)] 59) (fun x hx => by simp at hx; rcases hx with rfl | rfl <;> rfl) (by unfold maxLen; omega) (by omega) (by simp; omega) ?_; intro v5 w5 hfow5 hgrow5 hnil5
               have hb5 : Below w.heap.size w w5 := Below.grown (hb1.alloc hsz1 _) hgrow5 (by simp; omega) (fun j hj => (hfow1.lt _ hj).1)
               have hown5 := (hown1.alloc _).kept hgrow5 (rows_apart hown1 hfow1 (by decide))
               have hsz5 := hb5.size
               clear hgrow5 hnil5)
            | (at_builtin; refine Lib.wpList_append_own_string _ rfl _ _ 46 9 rfl w.heap.size 5 i0 Tryz.underlying46 Tryz.underlying9 hi hz0 hz1 hz2 _ _ _ rfl hown5 ⟨#[239, 191, 189]⟩ rfl (by show acc.length + 3 ≤ _; unfold maxLen; omega) (by show acc.length + 3 ≤ _; omega) hsz5 ?_; intro v6 w6 hown6 hgrow6 hnil6
               have hb6 : Below w.heap.size w w6 := Below.grown hb5 hgrow6 hsz5 (fun j hj => (hown5.lt _ hj).1)
               have hfow6 := hfow5.kept hgrow6 (rows_apart hfow5 hown5 (by decide))
               have hown7 : w6.ownsRow w.heap.size 5 1 v6 (acc ++ [239, 191, 189]).length (Lib.byteCells (acc ++ [239, 191, 189])) := by rw [byteCells_append, List.length_append]; exact hown6
               clear hgrow6 hnil6 hown6))
          have hfow7 : w6.ownsRow w.heap.size 59 2 v5 (facc ++ [pos]).length (failCs (facc ++ [pos])) := by rw [failCs_snoc, List.length_append]; exact hfow6
          clear hfow6 hfow5 hown5
          go_roundw
          case rel => exact ⟨pos + k, acc ++ [239, 191, 189], facc ++ [pos], by go_num, by omega, hown7, hfow7, hb6, by rw [← HT.out]; exact HN, by rw [List.length_append]; simp; omega, by rw [List.length_append]; simp; omega⟩
          case measure => simp [intOf]; omega
        | false =>
          have hTt : T.data.toList = t := hT
          have hTs : T.size = t.length := by rw [← lsize, hTt]
          have hne : T.toList.isEmpty = false := by
            rw [text_empty, hTt]
            cases t with
            | nil => simp at ht1
            | cons a r => rfl
          have HT := Lib.hid hTt
          have hTs1 : T.size ≤ k := by omega
          clear hn hT hTt hTs
          go_wp2_with (at_builtin; refine Lib.wpList_append_own_string _ rfl _ _ 46 9 rfl w.heap.size 5 i0 Tryz.underlying46 Tryz.underlying9 hi hz0 hz1 hz2 _ _ _ rfl hown1 T rfl (by unfold maxLen; omega) (by omega) hsz1 ?_; intro v6 w6 hown6 hgrow6 hnil6
                       have hb6 : Below w.heap.size w w6 := Below.grown hb1 hgrow6 hsz1 (fun j hj => (hown1.lt _ hj).1)
                       have hfow6 := hfow1.kept hgrow6 (rows_apart hfow1 hown1 (by decide))
                       have hown7 : w6.ownsRow w.heap.size 5 1 v6 (acc ++ t).length (Lib.byteCells (acc ++ t)) := by rw [byteCells_append, List.length_append, ← HT.out, lsize]; exact hown6
                       clear hgrow6 hnil6 hown6)
          go_roundw
          case rel => exact ⟨pos + k, acc ++ t, facc, by go_num, by omega, hown7, hfow6, hb6, Lib.hid (by simpa using HN.out), by rw [List.length_append]; omega, by omega⟩
          case measure => simp [intOf]; omega
    · obtain rfl : pos = s.size := by omega
      have HE : Hid (decT 0 s.data.toList = (acc, facc)) := Lib.hid (by
        rw [HS.out, show s.data.toList.drop s.size = [] by rw [← lsize]; simp, decT_nil]
        simp)
      have hconv := conv_row hown
      clear HS
      go_wp2
      rw [Exit.noGoto_ret]
      go_ret2
      exact ⟨_, by rw [HE.out]; rfl, by rw [HE.out]; exact hfow, hb⟩

end Go.Proofs.YtgbilfbonliipaaGreatDoor

namespace Go.Proofs.YtgbilfbonliipaaGreatDoor
open Go.RowKit

theorem slice_one (L U : ByteArray) (k : Nat) (hk : k < L.size) (h : U.data.toList = [L.data.toList[k]'(by rw [lsize]; exact hk)]) : ∀ W, (Instr.slice 9 (.string L) (some (.int .i64 (k : Int))) (some (.int .i64 ((k : Int) + 1))) none).run Tryz.prog W = .ok (.string U) W := by
  have e : U.data.toList = (L.data.toList.drop k).take (k + 1 - k) := by
    rw [h, List.drop_eq_getElem_cons (show k < L.data.toList.length by rw [lsize]; exact hk), show k + 1 - k = 1 by omega]
    rfl
  have := slice_mid L U k (k + 1) (by omega) hk e
  rw [show ((k + 1 : Nat) : Int) = (k : Int) + 1 by omega] at this
  exact this
theorem encT_step (l : List UInt8) (k : Nat) (h : k < l.length) : encT (l.take (k + 1)) = encT (l.take k) ++ encB l[k] := by
  rw [List.take_succ_eq_append_getElem h, encT_append, encT_one]
def notJ (c : UInt8) (j : Nat) : Prop := (0 < j → c ≠ 38) ∧ (1 < j → c ≠ 60) ∧ (2 < j → c ≠ 62) ∧ (3 < j → c ≠ 34) ∧ (4 < j → c ≠ 39)
theorem notJ_all {c : UInt8} {j : Nat} (h : notJ c j) (hj : 5 ≤ j) : encB c = [c] := encB_other (h.1 (by omega)) (h.2.1 (by omega)) (h.2.2.1 (by omega)) (h.2.2.2.1 (by omega)) (h.2.2.2.2 (by omega))
theorem notJ_more {c : UInt8} {j : Nat} (h : notJ c j) (hj : 5 ≤ j) : notJ c (j + 1) := ⟨fun _ => h.1 (by omega), fun _ => h.2.1 (by omega), fun _ => h.2.2.1 (by omega), fun _ => h.2.2.2.1 (by omega), fun _ => h.2.2.2.2 (by omega)⟩

set_option maxRecDepth 100000 in
set_option maxHeartbeats 16000000 in
theorem encode_any (s : ByteArray) (hs : s.size ≤ 1000000) (w : World) (hlow : SignsIn w) :
    Calls Tryz.prog 51 #[.string s] w fun e w' => e = .returned (.string ⟨(encT s.data.toList).toArray⟩) ∧ Below w.heap.size w w' := by
  obtain ⟨i0, hi, hz0, hz1, hz2⟩ := info_parts Tinfo5
  have HLow := Lib.hid hlow
  clear hlow
  go_enter Tryz.func51, Tryz.ntmps51
  go_wp2
  go_step3
  go_wp2_with (at_make; refine wpList_make_own _ rfl _ _ 46 rfl w.heap.size 5 i0 (.int .u8 0) 1 Tryz.underlying46 hi hz0 hz1 .i64 .i64 _ s.size rfl rfl rfl (by rw [hz2]; omega) (by unfold maxLen; omega) (Nat.le_refl _) ?_; intro w0 hown0 hgrow0)
  have hbw0 : Below w.heap.size w w0 := Below.grown (Below.refl _ _) hgrow0 (Nat.le_refl _) (fun j hj => by cases hj)
  go_step3
  go_wp2
  go_loopw [3, 12] (fun v i wr => ∃ k : Nat, k ≤ s.size ∧ i = .int .i64 k ∧ wr.ownsRow w.heap.size 5 1 v (encT (s.data.toList.take k)).length (Lib.byteCells (encT (s.data.toList.take k))) ∧ Below w.heap.size w wr) (fun _ i _ => s.size - (intOf i).toNat)
  case atStart => exact ⟨0, Nat.zero_le _, rfl, hown0, hbw0⟩
  case round =>
    clear hown0 hgrow0 hbw0
    obtain ⟨k, hk, rfl, hown, hb⟩ := hrel
    by_cases hlt : k < s.size
    · have hkl : k < s.data.toList.length := by rw [lsize]; exact hlt
      have hst := encT_step s.data.toList k hkl
      have hlen := (encT_len (s.data.toList.take k)).2
      rw [List.length_take] at hlen
      have hg : s.data.toList[k] = s[k] := rfl
      rw [hg] at hst
      have hU0 : ∃ U : ByteArray, U.data.toList = [s.data.toList[k]'hkl] := ⟨⟨#[s.data.toList[k]'hkl]⟩, rfl⟩
      obtain ⟨U, hU⟩ := hU0
      have s1 := slice_one s U k hlt hU
      rw [hg] at hU
      obtain ⟨c, hc⟩ : ∃ c, s[k] = c := ⟨_, rfl⟩
      rw [hc] at hU hst
      have HST := Lib.hid hst
      have HC := Lib.hid hc
      obtain ⟨A, hA⟩ : ∃ A, encT (s.data.toList.take k) = A := ⟨_, rfl⟩
      rw [hA] at hown hlen
      rw [hA] at hst
      have HE : Hid (encT (s.data.toList.take (k + 1)) = A ++ encB c) := Lib.hid hst
      have HR := (HLow.out.below hb).range
      have HG := Lib.hid HR
      have hsz := hb.size
      clear hst HST hA hg HR hc
      obtain ⟨wm, rfl⟩ : ∃ wm : World, wm = wr := ⟨_, rfl⟩
      go_wp2_with (refine wpList_load_mid (by rfl) 103 _ (by rfl) 0 0 (by rfl) SL _ HG.out Tryz.underlying103 (by rfl) (by kernel_rfl) ?_)
      generalize hTA : Value.agg SL.toArray = TA
      have HIX : Hid (TA = .agg SL.toArray) := Lib.hid hTA.symm
      clear hTA
      go_loopw [3, 16] (fun v i wr => ∃ j : Nat, j ≤ 10 ∧ i = .int .i64 j ∧ v = u3 ∧ Hid (notJ c j) ∧ Below wm.heap.size wm wr) (fun _ i _ => 10 - (intOf i).toNat)
      case atStart => exact ⟨0, by decide, rfl, rfl, Lib.hid ⟨fun h => by omega, fun h => by omega, fun h => by omega, fun h => by omega, fun h => by omega⟩, Below.refl _ _⟩
      case round =>
        obtain ⟨j, hj, rfl, rfl, HN, hbj⟩ := hrel
        have hown2 := ownsRow_below hown hbj
        have hb2 := hb.trans (hbj.mono hsz)
        clear hown hb HG
        obtain rfl | rfl | rfl | rfl | rfl | rfl | rfl | rfl | rfl | rfl | rfl : j = 0 ∨ j = 1 ∨ j = 2 ∨ j = 3 ∨ j = 4 ∨ j = 5 ∨ j = 6 ∨ j = 7 ∨ j = 8 ∨ j = 9 ∨ j = 10 := by omega
        · have ix := sidx0 HIX.out
          have g0 := lit_text U [38]
          rw [hU] at g0
          by_cases h : c = 38
          · have g : ([38] == U.toList) = true := by rw [g0, h]; rfl
            clear g0
            have hfull : ((⟨#[38]⟩ : ByteArray) ++ ⟨#[97, 109, 112]⟩ ++ ⟨#[59]⟩) = ⟨#[38, 97, 109, 112, 59]⟩ := by decide
            have HFull := Lib.hid hfull
            clear hfull
            have HE2 : Hid (encT (s.data.toList.take (k + 1)) = A ++ [38, 97, 109, 112, 59]) := Lib.hid (by rw [HE.out, h]; rfl)
            clear h HN HE hU
            go_wp2_with fail
            go_quiet (fail)
            go_wp2_with (at_builtin; refine Lib.wpList_append_own_string _ rfl _ _ 46 9 rfl w.heap.size 5 i0 Tryz.underlying46 Tryz.underlying9 hi hz0 hz1 hz2 _ _ _ rfl (ownsRow_below (hown2.alloc _) (belowN (Below.refl _ _) _)) (⟨#[38]⟩ ++ ⟨#[97, 109, 112]⟩ ++ ⟨#[59]⟩) rfl (by rw [HFull.out]; show A.length + 5 ≤ _; unfold maxLen; omega) (by rw [HFull.out]; show A.length + 5 ≤ _; omega) (by have := hb2.size; simp; omega) ?_; intro v' w3 hown3 hgrow3 hnil3)
            have hb3 : Below w.heap.size w w3 := Below.grown (belowN (hb2.alloc hb2.size _) _) hgrow3 (by have := hb2.size; simp; omega) (fun j hj => (hown2.lt _ hj).1)
            have hown4 : w3.ownsRow w.heap.size 5 1 v' (A ++ [38, 97, 109, 112, 59]).length (Lib.byteCells (A ++ [38, 97, 109, 112, 59])) := by
              rw [HFull.out] at hown3
              rw [byteCells_append, List.length_append]; exact hown3
            clear hown3 hgrow3 hnil3
            go_roundw
            case rel => exact ⟨k + 1, by omega, by go_num, by rw [HE2.out]; exact hown4, hb3⟩
            case measure => simp [intOf]; omega
          · have g : ([38] == U.toList) = false := by rw [g0]; exact decide_eq_false (fun e => h (by injection e))
            clear g0
            have HN2 : Hid (notJ c 1) := Lib.hid ⟨fun _ => h, fun e => absurd e (by decide), fun e => absurd e (by decide), fun e => absurd e (by decide), fun e => absurd e (by decide)⟩
            clear h HN HE hU
            go_wp2_with fail
            go_quiet (fail)
            go_wp2
            go_roundw
            case rel => exact ⟨1, by decide, rfl, rfl, HN2, belowN (hbj.alloc hbj.size _) _⟩
            case measure => decide
        · have ix := sidx1 HIX.out
          have g0 := lit_text U [60]
          rw [hU] at g0
          by_cases h : c = 60
          · have g : ([60] == U.toList) = true := by rw [g0, h]; rfl
            clear g0
            have hfull : ((⟨#[38]⟩ : ByteArray) ++ ⟨#[108, 116]⟩ ++ ⟨#[59]⟩) = ⟨#[38, 108, 116, 59]⟩ := by decide
            have HFull := Lib.hid hfull
            clear hfull
            have HE2 : Hid (encT (s.data.toList.take (k + 1)) = A ++ [38, 108, 116, 59]) := Lib.hid (by rw [HE.out, h]; rfl)
            clear h HN HE hU
            go_wp2_with fail
            go_quiet (fail)
            go_wp2_with (at_builtin; refine Lib.wpList_append_own_string _ rfl _ _ 46 9 rfl w.heap.size 5 i0 Tryz.underlying46 Tryz.underlying9 hi hz0 hz1 hz2 _ _ _ rfl (ownsRow_below (hown2.alloc _) (belowN (Below.refl _ _) _)) (⟨#[38]⟩ ++ ⟨#[108, 116]⟩ ++ ⟨#[59]⟩) rfl (by rw [HFull.out]; show A.length + 4 ≤ _; unfold maxLen; omega) (by rw [HFull.out]; show A.length + 4 ≤ _; omega) (by have := hb2.size; simp; omega) ?_; intro v' w3 hown3 hgrow3 hnil3)
            have hb3 : Below w.heap.size w w3 := Below.grown (belowN (hb2.alloc hb2.size _) _) hgrow3 (by have := hb2.size; simp; omega) (fun j hj => (hown2.lt _ hj).1)
            have hown4 : w3.ownsRow w.heap.size 5 1 v' (A ++ [38, 108, 116, 59]).length (Lib.byteCells (A ++ [38, 108, 116, 59])) := by
              rw [HFull.out] at hown3
              rw [byteCells_append, List.length_append]; exact hown3
            clear hown3 hgrow3 hnil3
            go_roundw
            case rel => exact ⟨k + 1, by omega, by go_num, by rw [HE2.out]; exact hown4, hb3⟩
            case measure => simp [intOf]; omega
          · have g : ([60] == U.toList) = false := by rw [g0]; exact decide_eq_false (fun e => h (by injection e))
            clear g0
            have HN2 : Hid (notJ c 2) := Lib.hid ⟨fun _ => HN.out.1 (by decide), fun _ => h, fun e => absurd e (by decide), fun e => absurd e (by decide), fun e => absurd e (by decide)⟩
            clear h HN HE hU
            go_wp2_with fail
            go_quiet (fail)
            go_wp2
            go_roundw
            case rel => exact ⟨2, by decide, rfl, rfl, HN2, belowN (hbj.alloc hbj.size _) _⟩
            case measure => decide
        · have ix := sidx2 HIX.out
          have g0 := lit_text U [62]
          rw [hU] at g0
          by_cases h : c = 62
          · have g : ([62] == U.toList) = true := by rw [g0, h]; rfl
            clear g0
            have hfull : ((⟨#[38]⟩ : ByteArray) ++ ⟨#[103, 116]⟩ ++ ⟨#[59]⟩) = ⟨#[38, 103, 116, 59]⟩ := by decide
            have HFull := Lib.hid hfull
            clear hfull
            have HE2 : Hid (encT (s.data.toList.take (k + 1)) = A ++ [38, 103, 116, 59]) := Lib.hid (by rw [HE.out, h]; rfl)
            clear h HN HE hU
            go_wp2_with fail
            go_quiet (fail)
            go_wp2_with (at_builtin; refine Lib.wpList_append_own_string _ rfl _ _ 46 9 rfl w.heap.size 5 i0 Tryz.underlying46 Tryz.underlying9 hi hz0 hz1 hz2 _ _ _ rfl (ownsRow_below (hown2.alloc _) (belowN (Below.refl _ _) _)) (⟨#[38]⟩ ++ ⟨#[103, 116]⟩ ++ ⟨#[59]⟩) rfl (by rw [HFull.out]; show A.length + 4 ≤ _; unfold maxLen; omega) (by rw [HFull.out]; show A.length + 4 ≤ _; omega) (by have := hb2.size; simp; omega) ?_; intro v' w3 hown3 hgrow3 hnil3)
            have hb3 : Below w.heap.size w w3 := Below.grown (belowN (hb2.alloc hb2.size _) _) hgrow3 (by have := hb2.size; simp; omega) (fun j hj => (hown2.lt _ hj).1)
            have hown4 : w3.ownsRow w.heap.size 5 1 v' (A ++ [38, 103, 116, 59]).length (Lib.byteCells (A ++ [38, 103, 116, 59])) := by
              rw [HFull.out] at hown3
              rw [byteCells_append, List.length_append]; exact hown3
            clear hown3 hgrow3 hnil3
            go_roundw
            case rel => exact ⟨k + 1, by omega, by go_num, by rw [HE2.out]; exact hown4, hb3⟩
            case measure => simp [intOf]; omega
          · have g : ([62] == U.toList) = false := by rw [g0]; exact decide_eq_false (fun e => h (by injection e))
            clear g0
            have HN2 : Hid (notJ c 3) := Lib.hid ⟨fun _ => HN.out.1 (by decide), fun _ => HN.out.2.1 (by decide), fun _ => h, fun e => absurd e (by decide), fun e => absurd e (by decide)⟩
            clear h HN HE hU
            go_wp2_with fail
            go_quiet (fail)
            go_wp2
            go_roundw
            case rel => exact ⟨3, by decide, rfl, rfl, HN2, belowN (hbj.alloc hbj.size _) _⟩
            case measure => decide
        · have ix := sidx3 HIX.out
          have g0 := lit_text U [34]
          rw [hU] at g0
          by_cases h : c = 34
          · have g : ([34] == U.toList) = true := by rw [g0, h]; rfl
            clear g0
            have hfull : ((⟨#[38]⟩ : ByteArray) ++ ⟨#[113, 117, 111, 116]⟩ ++ ⟨#[59]⟩) = ⟨#[38, 113, 117, 111, 116, 59]⟩ := by decide
            have HFull := Lib.hid hfull
            clear hfull
            have HE2 : Hid (encT (s.data.toList.take (k + 1)) = A ++ [38, 113, 117, 111, 116, 59]) := Lib.hid (by rw [HE.out, h]; rfl)
            clear h HN HE hU
            go_wp2_with fail
            go_quiet (fail)
            go_wp2_with (at_builtin; refine Lib.wpList_append_own_string _ rfl _ _ 46 9 rfl w.heap.size 5 i0 Tryz.underlying46 Tryz.underlying9 hi hz0 hz1 hz2 _ _ _ rfl (ownsRow_below (hown2.alloc _) (belowN (Below.refl _ _) _)) (⟨#[38]⟩ ++ ⟨#[113, 117, 111, 116]⟩ ++ ⟨#[59]⟩) rfl (by rw [HFull.out]; show A.length + 6 ≤ _; unfold maxLen; omega) (by rw [HFull.out]; show A.length + 6 ≤ _; omega) (by have := hb2.size; simp; omega) ?_; intro v' w3 hown3 hgrow3 hnil3)
            have hb3 : Below w.heap.size w w3 := Below.grown (belowN (hb2.alloc hb2.size _) _) hgrow3 (by have := hb2.size; simp; omega) (fun j hj => (hown2.lt _ hj).1)
            have hown4 : w3.ownsRow w.heap.size 5 1 v' (A ++ [38, 113, 117, 111, 116, 59]).length (Lib.byteCells (A ++ [38, 113, 117, 111, 116, 59])) := by
              rw [HFull.out] at hown3
              rw [byteCells_append, List.length_append]; exact hown3
            clear hown3 hgrow3 hnil3
            go_roundw
            case rel => exact ⟨k + 1, by omega, by go_num, by rw [HE2.out]; exact hown4, hb3⟩
            case measure => simp [intOf]; omega
          · have g : ([34] == U.toList) = false := by rw [g0]; exact decide_eq_false (fun e => h (by injection e))
            clear g0
            have HN2 : Hid (notJ c 4) := Lib.hid ⟨fun _ => HN.out.1 (by decide), fun _ => HN.out.2.1 (by decide), fun _ => HN.out.2.2.1 (by decide), fun _ => h, fun e => absurd e (by decide)⟩
            clear h HN HE hU
            go_wp2_with fail
            go_quiet (fail)
            go_wp2
            go_roundw
            case rel => exact ⟨4, by decide, rfl, rfl, HN2, belowN (hbj.alloc hbj.size _) _⟩
            case measure => decide
        · have ix := sidx4 HIX.out
          have g0 := lit_text U [39]
          rw [hU] at g0
          by_cases h : c = 39
          · have g : ([39] == U.toList) = true := by rw [g0, h]; rfl
            clear g0
            have hfull : ((⟨#[38]⟩ : ByteArray) ++ ⟨#[97, 112, 111, 115]⟩ ++ ⟨#[59]⟩) = ⟨#[38, 97, 112, 111, 115, 59]⟩ := by decide
            have HFull := Lib.hid hfull
            clear hfull
            have HE2 : Hid (encT (s.data.toList.take (k + 1)) = A ++ [38, 97, 112, 111, 115, 59]) := Lib.hid (by rw [HE.out, h]; rfl)
            clear h HN HE hU
            go_wp2_with fail
            go_quiet (fail)
            go_wp2_with (at_builtin; refine Lib.wpList_append_own_string _ rfl _ _ 46 9 rfl w.heap.size 5 i0 Tryz.underlying46 Tryz.underlying9 hi hz0 hz1 hz2 _ _ _ rfl (ownsRow_below (hown2.alloc _) (belowN (Below.refl _ _) _)) (⟨#[38]⟩ ++ ⟨#[97, 112, 111, 115]⟩ ++ ⟨#[59]⟩) rfl (by rw [HFull.out]; show A.length + 6 ≤ _; unfold maxLen; omega) (by rw [HFull.out]; show A.length + 6 ≤ _; omega) (by have := hb2.size; simp; omega) ?_; intro v' w3 hown3 hgrow3 hnil3)
            have hb3 : Below w.heap.size w w3 := Below.grown (belowN (hb2.alloc hb2.size _) _) hgrow3 (by have := hb2.size; simp; omega) (fun j hj => (hown2.lt _ hj).1)
            have hown4 : w3.ownsRow w.heap.size 5 1 v' (A ++ [38, 97, 112, 111, 115, 59]).length (Lib.byteCells (A ++ [38, 97, 112, 111, 115, 59])) := by
              rw [HFull.out] at hown3
              rw [byteCells_append, List.length_append]; exact hown3
            clear hown3 hgrow3 hnil3
            go_roundw
            case rel => exact ⟨k + 1, by omega, by go_num, by rw [HE2.out]; exact hown4, hb3⟩
            case measure => simp [intOf]; omega
          · have g : ([39] == U.toList) = false := by rw [g0]; exact decide_eq_false (fun e => h (by injection e))
            clear g0
            have HN2 : Hid (notJ c 5) := Lib.hid ⟨fun _ => HN.out.1 (by decide), fun _ => HN.out.2.1 (by decide), fun _ => HN.out.2.2.1 (by decide), fun _ => HN.out.2.2.2.1 (by decide), fun _ => h⟩
            clear h HN HE hU
            go_wp2_with fail
            go_quiet (fail)
            go_wp2
            go_roundw
            case rel => exact ⟨5, by decide, rfl, rfl, HN2, belowN (hbj.alloc hbj.size _) _⟩
            case measure => decide
        · have ix := sidx5 HIX.out
          have HN2 : Hid (notJ c 6) := Lib.hid (notJ_more HN.out (by decide))
          clear HN HE hU
          go_wp2_with fail
          go_quiet (fail)
          go_wp2
          go_roundw
          case rel => exact ⟨6, by decide, rfl, rfl, HN2, belowN (hbj.alloc hbj.size _) _⟩
          case measure => decide
        · have ix := sidx6 HIX.out
          have HN2 : Hid (notJ c 7) := Lib.hid (notJ_more HN.out (by decide))
          clear HN HE hU
          go_wp2_with fail
          go_quiet (fail)
          go_wp2
          go_roundw
          case rel => exact ⟨7, by decide, rfl, rfl, HN2, belowN (hbj.alloc hbj.size _) _⟩
          case measure => decide
        · have ix := sidx7 HIX.out
          have HN2 : Hid (notJ c 8) := Lib.hid (notJ_more HN.out (by decide))
          clear HN HE hU
          go_wp2_with fail
          go_quiet (fail)
          go_wp2
          go_roundw
          case rel => exact ⟨8, by decide, rfl, rfl, HN2, belowN (hbj.alloc hbj.size _) _⟩
          case measure => decide
        · have ix := sidx8 HIX.out
          have HN2 : Hid (notJ c 9) := Lib.hid (notJ_more HN.out (by decide))
          clear HN HE hU
          go_wp2_with fail
          go_quiet (fail)
          go_wp2
          go_roundw
          case rel => exact ⟨9, by decide, rfl, rfl, HN2, belowN (hbj.alloc hbj.size _) _⟩
          case measure => decide
        · have ix := sidx9 HIX.out
          have HN2 : Hid (notJ c 10) := Lib.hid (notJ_more HN.out (by decide))
          clear HN HE hU
          go_wp2_with fail
          go_quiet (fail)
          go_wp2
          go_roundw
          case rel => exact ⟨10, by decide, rfl, rfl, HN2, belowN (hbj.alloc hbj.size _) _⟩
          case measure => decide
        · have HE2 : Hid (encT (s.data.toList.take (k + 1)) = A ++ [c]) := Lib.hid (by rw [HE.out, notJ_all HN.out (by decide)])
          clear HN HE hU
          have hcc : s[k] = c := HC.out
          go_wp2_with (at_builtin; refine wpList_append_own _ rfl _ _ 46 rfl w.heap.size 5 i0 (.int .u8 0) 1 1 Tryz.underlying46 hi hz0 hz1 hz2 rfl (by decide) _ _ _ rfl (hown2.alloc _) ⟨wr.heap.size, 0, none⟩ 1 1 [.int .u8 (c.toNat : Int)] rfl rfl (cell_one_new _ _ _) (fun x hx => by simp at hx; subst hx; rfl) (by unfold maxLen; omega) (by omega) (by have := hb2.size; simp; omega) ?_; intro v' w3 hown3 hgrow3 hnil3)
          have hb3 : Below w.heap.size w w3 := Below.grown (hb2.alloc hb2.size _) hgrow3 (by have := hb2.size; simp; omega) (fun j hj => (hown2.lt _ hj).1)
          have hown4 : w3.ownsRow w.heap.size 5 1 v' (A ++ [c]).length (Lib.byteCells (A ++ [c])) := by rw [byteCells_append, byteCells_one, List.length_append]; exact hown3
          clear hown3 hgrow3 hnil3
          go_roundw
          case rel => exact ⟨k + 1, by omega, by go_num, by rw [HE2.out]; exact hown4, hb3⟩
          case measure => simp [intOf]; omega
    · obtain rfl : k = s.size := by omega
      rw [show s.data.toList.take s.size = s.data.toList by rw [← lsize, List.take_length]] at hown
      have hconv := conv_row hown
      go_wp2
      rw [Exit.noGoto_ret]
      go_ret
      exact ⟨rfl, hb⟩
theorem encode_hid (s T : ByteArray) (hT : T.data.toList = encT s.data.toList) (hs : s.size ≤ 1000000) : Hid (∀ W, SignsIn W → Calls Tryz.prog 51 #[.string s] W fun e w' => e = .returned (.string T) ∧ Below W.heap.size W w') := Lib.hid fun W hW => by
  rw [text_is hT]; exact encode_any s hs W hW

end Go.Proofs.YtgbilfbonliipaaGreatDoor

namespace Go.Proofs.YtgbilfbonliipaaGreatDoor
open Go.RowKit

theorem ret_int {a b : Int} (h : a = b) : Ending.returned (.int .i64 a) = .returned (.int .i64 b) := by rw [h]
theorem index_at (L : ByteArray) (k : Nat) (c : UInt8) (h : L.data.toList[k]? = some c) : ∀ W, (Instr.index 9 (.string L) (.int .i64 (k : Int))).run Tryz.prog W = .ok (.int .u8 (c.toNat : Int)) W := fun W => by
  obtain ⟨hk, hc⟩ := List.getElem?_eq_some_iff.1 h
  rw [lsize] at hk
  have e3 : ∀ (n : Nat) (hn : n < L.size), n = k → L[n] = c := fun n hn hq => by
    subst hq
    exact hc
  rw [run_index_string W 9 L .i64 (k : Int) Tryz.underlying9, dif_pos ⟨by omega, by omega⟩, e3 _ _ (by omega)]
def digI (B : Nat) (c : UInt8) : Int := match digM B c with | some d => (d : Int) | none => -1
theorem digI_yes {B d : Nat} {c : UInt8} (h : digM B c = some d) : digI B c = (d : Int) := by unfold digI; rw [h]
theorem digI_no {B : Nat} {c : UInt8} (h : digM B c = none) : digI B c = -1 := by unfold digI; rw [h]
theorem digI_is (B : Nat) (c : UInt8) : digI B c = if 48 ≤ c.toNat ∧ c.toNat ≤ 57 then (if c.toNat - 48 < B then (c.toNat : Int) - 48 else -1) else if 97 ≤ c.toNat ∧ c.toNat ≤ 102 then (if c.toNat - 87 < B then (c.toNat : Int) - 87 else -1) else if 65 ≤ c.toNat ∧ c.toNat ≤ 70 then (if c.toNat - 55 < B then (c.toNat : Int) - 55 else -1) else -1 := by
  unfold digI digM
  simp only
  repeat' split
  all_goals simp_all
  all_goals omega
def numI (B m : Nat) (l : List UInt8) : Int := match numU B m l with | some n => (n : Int) | none => -1
theorem numI_yes {B m n : Nat} {l : List UInt8} (h : numU B m l = some n) : numI B m l = (n : Int) := by unfold numI; rw [h]
theorem numI_no {B m : Nat} {l : List UInt8} (h : numU B m l = none) : numI B m l = -1 := by unfold numI; rw [h]
theorem numF_go {B : Nat} {n d : Nat} {c : UInt8} {r : List UInt8} (h : digM B c = some d) : numF B n (c :: r) = numF B (n * B + d) r := by
  conv => lhs; unfold numF
  rw [h]
theorem numF_no {B : Nat} {n : Nat} {c : UInt8} {r : List UInt8} (h : digM B c = none) : numF B n (c :: r) = none := by
  unfold numF; rw [h]

set_option maxRecDepth 100000 in
set_option maxHeartbeats 4000000 in
theorem digit10_any (c : UInt8) (w : World) : Calls Tryz.prog 144 #[.int .u8 (c.toNat : Int), .int .i64 10] w fun e w' => e = .returned (.int .i64 (digI 10 c)) ∧ w' = w := by
  have hc := c.toNat_lt
  have HD := Lib.hid (digI_is 10 c)
  go_enter Tryz.func144, Tryz.ntmps144
  go_wp2
  all_goals go_ret
  all_goals refine ⟨ret_int ?_, rfl⟩
  all_goals rw [HD.out]
  all_goals ((repeat' split) <;> omega)
theorem digit10_hid (c : UInt8) (d : Int) (h : digI 10 c = d) : Hid (∀ W, Calls Tryz.prog 144 #[.int .u8 (c.toNat : Int), .int .i64 10] W fun e w' => e = .returned (.int .i64 d) ∧ w' = W) := Lib.hid fun W => by rw [← h]; exact digit10_any c W
set_option maxRecDepth 100000 in
set_option maxHeartbeats 4000000 in
theorem numR10_any (s : ByteArray) (w : World) (hs : s.size ≤ 1000000) : Calls Tryz.prog 126 #[.string s, .int .i64 10, .int .i64 7] w fun e w' => e = .returned (.int .i64 (numI 10 7 s.data.toList)) ∧ w' = w := by
  by_cases hz : s.size < 1 ∨ 7 < s.size
  · have HV : Hid (-1 = numI 10 7 s.data.toList) := Lib.hid (numI_no (by unfold numU; rw [lsize]; exact if_pos hz)).symm
    have z0 : (0 : Int) ≤ (s.size : Int) := by omega
    rcases hz with hz | hz
    · have z1 : (s.size : Int) < 1 := by omega
      clear hz
      go_enter Tryz.func126, Tryz.ntmps126
      go_wp2
      go_ret
      exact ⟨ret_int HV.out, rfl⟩
    · have z1 : ¬ (s.size : Int) < 1 := by omega
      have z2 : (7 : Int) < (s.size : Int) := by omega
      clear hz
      go_enter Tryz.func126, Tryz.ntmps126
      go_wp2
      go_ret
      exact ⟨ret_int HV.out, rfl⟩
  have HU : Hid (numU 10 7 s.data.toList = numF 10 0 s.data.toList) := Lib.hid (by unfold numU; rw [lsize]; exact if_neg hz)
  have z1 : ¬ (s.size : Int) < 1 := by omega
  have z2 : (s.size : Int) ≤ 7 := by omega
  have hm : s.size ≤ 7 := by omega
  clear hz
  go_enter Tryz.func126, Tryz.ntmps126
  go_wp2
  go_loop [7, 8] (fun n i => ∃ (k acc : Nat), k ≤ s.size ∧ i = .int .i64 k ∧ n = .int .i64 acc ∧ Hid (numF 10 0 s.data.toList = numF 10 acc (s.data.toList.drop k)) ∧ Hid (acc + 1 ≤ 10 ^ k)) (fun _ i => s.size - (intOf i).toNat)
  case atStart => exact ⟨0, 0, Nat.zero_le _, rfl, rfl, Lib.hid rfl, Lib.hid (by decide)⟩
  case round =>
    obtain ⟨k, acc, hk, rfl, rfl, HS, HA⟩ := hrel
    by_cases hlt : k < s.size
    · have hkl : k < s.data.toList.length := by rw [lsize]; exact hlt
      have hdr : s.data.toList.drop k = s.data.toList[k] :: s.data.toList.drop (k + 1) := List.drop_eq_getElem_cons hkl
      have hg : s.data.toList[k] = s[k] := rfl
      rw [hg] at hdr
      have hpw : 10 ^ k ≤ 10 ^ 6 := Nat.pow_le_pow_right (by decide) (by omega)
      have hpv : 10 ^ 6 = 1000000 := by decide
      have hab : acc ≤ 999999 := by have := HA.out; omega
      obtain ⟨c, hc⟩ : ∃ c, s[k] = c := ⟨_, rfl⟩
      rw [hc] at hdr
      cases hd : digM 10 c with
      | none =>
        have C := digit10_hid c (-1) (digI_no hd)
        have HV : Hid (-1 = numI 10 7 s.data.toList) := Lib.hid (numI_no (by rw [HU.out, HS.out, hdr, numF_no hd])).symm
        clear hd hdr hg hpw hpv HS HA
        go_wp2_with fail
        refine (C.out _).mono ?_
        rintro e w ⟨rfl, rfl⟩
        go_wp2
        go_ret
        exact ⟨ret_int HV.out, rfl⟩
      | some d =>
        have C := digit10_hid c d (digI_yes hd)
        have hdl := (digM_lt hd).1
        have hz0 : (0 : Int) ≤ (d : Int) := by omega
        have HN : Hid (numF 10 0 s.data.toList = numF 10 (acc * 10 + d) (s.data.toList.drop (k + 1))) := Lib.hid (by rw [HS.out, hdr, numF_go hd])
        have HB : Hid (acc * 10 + d + 1 ≤ 10 ^ (k + 1)) := Lib.hid (by have := HA.out; rw [Nat.pow_succ]; omega)
        clear hd hdr hg hpw hpv HS HA
        go_wp2_with fail
        refine (C.out _).mono ?_
        rintro e w ⟨rfl, rfl⟩
        go_wp2
        go_round
        case rel => exact ⟨k + 1, acc * 10 + d, by omega, by go_num, by first | rfl | (congr 1; omega) | go_num, HN, HB⟩
        case measure => simp [intOf]; omega
    · obtain rfl : k = s.size := by omega
      have HV : Hid ((acc : Int) = numI 10 7 s.data.toList) := Lib.hid (numI_yes (by rw [HU.out, HS.out, show s.data.toList.drop s.size = [] by rw [← lsize]; simp]; rfl)).symm
      clear HS HA
      go_wp2
      go_ret
      exact ⟨ret_int HV.out, rfl⟩
theorem numR10_hid (s : ByteArray) (hs : s.size ≤ 1000000) (n : Int) (h : numI 10 7 s.data.toList = n) : Hid (∀ W, Calls Tryz.prog 126 #[.string s, .int .i64 10, .int .i64 7] W fun e w' => e = .returned (.int .i64 n) ∧ w' = W) := Lib.hid fun W => by rw [← h]; exact numR10_any s W hs

set_option maxRecDepth 100000 in
set_option maxHeartbeats 4000000 in
theorem digit16_any (c : UInt8) (w : World) : Calls Tryz.prog 144 #[.int .u8 (c.toNat : Int), .int .i64 16] w fun e w' => e = .returned (.int .i64 (digI 16 c)) ∧ w' = w := by
  have hc := c.toNat_lt
  have HD := Lib.hid (digI_is 16 c)
  go_enter Tryz.func144, Tryz.ntmps144
  go_wp2
  all_goals go_ret
  all_goals refine ⟨ret_int ?_, rfl⟩
  all_goals rw [HD.out]
  all_goals ((repeat' split) <;> omega)
theorem digit16_hid (c : UInt8) (d : Int) (h : digI 16 c = d) : Hid (∀ W, Calls Tryz.prog 144 #[.int .u8 (c.toNat : Int), .int .i64 16] W fun e w' => e = .returned (.int .i64 d) ∧ w' = W) := Lib.hid fun W => by rw [← h]; exact digit16_any c W
set_option maxRecDepth 100000 in
set_option maxHeartbeats 4000000 in
theorem numR16_any (s : ByteArray) (w : World) (hs : s.size ≤ 1000000) : Calls Tryz.prog 126 #[.string s, .int .i64 16, .int .i64 6] w fun e w' => e = .returned (.int .i64 (numI 16 6 s.data.toList)) ∧ w' = w := by
  by_cases hz : s.size < 1 ∨ 6 < s.size
  · have HV : Hid (-1 = numI 16 6 s.data.toList) := Lib.hid (numI_no (by unfold numU; rw [lsize]; exact if_pos hz)).symm
    have z0 : (0 : Int) ≤ (s.size : Int) := by omega
    rcases hz with hz | hz
    · have z1 : (s.size : Int) < 1 := by omega
      clear hz
      go_enter Tryz.func126, Tryz.ntmps126
      go_wp2
      go_ret
      exact ⟨ret_int HV.out, rfl⟩
    · have z1 : ¬ (s.size : Int) < 1 := by omega
      have z2 : (6 : Int) < (s.size : Int) := by omega
      clear hz
      go_enter Tryz.func126, Tryz.ntmps126
      go_wp2
      go_ret
      exact ⟨ret_int HV.out, rfl⟩
  have HU : Hid (numU 16 6 s.data.toList = numF 16 0 s.data.toList) := Lib.hid (by unfold numU; rw [lsize]; exact if_neg hz)
  have z1 : ¬ (s.size : Int) < 1 := by omega
  have z2 : (s.size : Int) ≤ 6 := by omega
  have hm : s.size ≤ 6 := by omega
  clear hz
  go_enter Tryz.func126, Tryz.ntmps126
  go_wp2
  go_loop [7, 8] (fun n i => ∃ (k acc : Nat), k ≤ s.size ∧ i = .int .i64 k ∧ n = .int .i64 acc ∧ Hid (numF 16 0 s.data.toList = numF 16 acc (s.data.toList.drop k)) ∧ Hid (acc + 1 ≤ 16 ^ k)) (fun _ i => s.size - (intOf i).toNat)
  case atStart => exact ⟨0, 0, Nat.zero_le _, rfl, rfl, Lib.hid rfl, Lib.hid (by decide)⟩
  case round =>
    obtain ⟨k, acc, hk, rfl, rfl, HS, HA⟩ := hrel
    by_cases hlt : k < s.size
    · have hkl : k < s.data.toList.length := by rw [lsize]; exact hlt
      have hdr : s.data.toList.drop k = s.data.toList[k] :: s.data.toList.drop (k + 1) := List.drop_eq_getElem_cons hkl
      have hg : s.data.toList[k] = s[k] := rfl
      rw [hg] at hdr
      have hpw : 16 ^ k ≤ 16 ^ 5 := Nat.pow_le_pow_right (by decide) (by omega)
      have hpv : 16 ^ 5 = 1048576 := by decide
      have hab : acc ≤ 1048575 := by have := HA.out; omega
      obtain ⟨c, hc⟩ : ∃ c, s[k] = c := ⟨_, rfl⟩
      rw [hc] at hdr
      cases hd : digM 16 c with
      | none =>
        have C := digit16_hid c (-1) (digI_no hd)
        have HV : Hid (-1 = numI 16 6 s.data.toList) := Lib.hid (numI_no (by rw [HU.out, HS.out, hdr, numF_no hd])).symm
        clear hd hdr hg hpw hpv HS HA
        go_wp2_with fail
        refine (C.out _).mono ?_
        rintro e w ⟨rfl, rfl⟩
        go_wp2
        go_ret
        exact ⟨ret_int HV.out, rfl⟩
      | some d =>
        have C := digit16_hid c d (digI_yes hd)
        have hdl := (digM_lt hd).1
        have hz0 : (0 : Int) ≤ (d : Int) := by omega
        have HN : Hid (numF 16 0 s.data.toList = numF 16 (acc * 16 + d) (s.data.toList.drop (k + 1))) := Lib.hid (by rw [HS.out, hdr, numF_go hd])
        have HB : Hid (acc * 16 + d + 1 ≤ 16 ^ (k + 1)) := Lib.hid (by have := HA.out; rw [Nat.pow_succ]; omega)
        clear hd hdr hg hpw hpv HS HA
        go_wp2_with fail
        refine (C.out _).mono ?_
        rintro e w ⟨rfl, rfl⟩
        go_wp2
        go_round
        case rel => exact ⟨k + 1, acc * 16 + d, by omega, by go_num, by first | rfl | (congr 1; omega) | go_num, HN, HB⟩
        case measure => simp [intOf]; omega
    · obtain rfl : k = s.size := by omega
      have HV : Hid ((acc : Int) = numI 16 6 s.data.toList) := Lib.hid (numI_yes (by rw [HU.out, HS.out, show s.data.toList.drop s.size = [] by rw [← lsize]; simp]; rfl)).symm
      clear HS HA
      go_wp2
      go_ret
      exact ⟨ret_int HV.out, rfl⟩
theorem numR16_hid (s : ByteArray) (hs : s.size ≤ 1000000) (n : Int) (h : numI 16 6 s.data.toList = n) : Hid (∀ W, Calls Tryz.prog 126 #[.string s, .int .i64 16, .int .i64 6] W fun e w' => e = .returned (.int .i64 n) ∧ w' = W) := Lib.hid fun W => by rw [← h]; exact numR16_any s W hs

/-- What end answers: the place of the first ; among twelve bytes. -/
def endI (l : List UInt8) : Int := match semi (l.take 12) with | some k => (k : Int) | none => -1
theorem semi_past : ∀ (l : List UInt8) (k : Nat), 59 ∉ l.take k → semi l = (semi (l.drop k)).map (· + k)
  | l, 0, _ => by simp
  | [], k + 1, _ => by simp [semi]
  | c :: r, k + 1, h => by
    simp only [List.take_succ_cons, List.mem_cons, not_or] at h
    rw [show semi (c :: r) = if c = 59 then some 0 else (semi r).map (· + 1) from rfl, if_neg (fun e => h.1 e.symm), semi_past r k h.2, List.drop_succ_cons, Option.map_map]
    congr 1
set_option maxRecDepth 100000 in
set_option maxHeartbeats 4000000 in
theorem end_any (s : ByteArray) (w : World) (_hs : s.size ≤ 1000000) : Calls Tryz.prog 100 #[.string s] w fun e w' => e = .returned (.int .i64 (endI s.data.toList)) ∧ w' = w := by
  go_enter Tryz.func100, Tryz.ntmps100
  go_wp2
  go_loop [3] (fun i => ∃ k : Nat, k ≤ s.size ∧ k ≤ 12 ∧ i = .int .i64 k ∧ Hid (59 ∉ s.data.toList.take k)) (fun i => s.size - (intOf i).toNat)
  case atStart => exact ⟨0, Nat.zero_le _, by decide, rfl, Lib.hid (by simp)⟩
  case round =>
    obtain ⟨k, hk, hk12, rfl, HS⟩ := hrel
    by_cases hlt : k < s.size ∧ k < 12
    · obtain ⟨h1, h2⟩ := hlt
      have hkl : k < s.data.toList.length := by rw [lsize]; exact h1
      have htk : s.data.toList.take (k + 1) = s.data.toList.take k ++ [s.data.toList[k]] := List.take_succ_eq_append_getElem hkl
      have hdr : s.data.toList.drop k = s.data.toList[k] :: s.data.toList.drop (k + 1) := List.drop_eq_getElem_cons hkl
      have hg : s.data.toList[k] = s[k] := rfl
      rw [hg] at htk hdr
      have h2i : (k : Int) < 12 := by omega
      by_cases hc : s[k] = 59
      · have g : ((s[k].toNat : Int) == 59) = true := by rw [hc]; rfl
        have HV : Hid ((k : Int) = endI s.data.toList) := Lib.hid (by
          unfold endI
          have e : semi (s.data.toList.take 12) = some k := by
            rw [semi_take, semi_past _ k HS.out, hdr, hc]
            simp [semi]
            exact h2
          rw [e])
        clear htk hdr hg hc HS
        go_wp2
        go_ret
        exact ⟨ret_int HV.out, rfl⟩
      · have g : ((s[k].toNat : Int) == 59) = false := by rw [beq_eq_false_iff_ne]; exact fun h => hc (byte_is (d := 59) h)
        have HN : Hid (59 ∉ s.data.toList.take (k + 1)) := Lib.hid (by
          rw [htk]
          simp only [List.mem_append, List.mem_singleton, not_or]
          exact ⟨HS.out, fun e => hc e.symm⟩)
        clear htk hdr hg hc HS
        go_wp2
        go_round
        case rel => exact ⟨k + 1, by omega, by omega, by go_num, HN⟩
        case measure => simp [intOf]; omega
    · have HV : Hid (-1 = endI s.data.toList) := Lib.hid (by
        unfold endI
        have e : semi (s.data.toList.take 12) = none := by
          apply semi_not
          intro h
          refine HS.out ?_
          by_cases h12 : k < 12
          · have : k = s.size := by omega
            rw [this, ← lsize, List.take_length]
            exact List.mem_of_mem_take h
          · rw [show k = 12 by omega]; exact h
        rw [e])
      by_cases h1 : k < s.size
      · have h2 : ¬ (k : Int) < 12 := by omega
        clear HS hlt
        go_wp2
        go_ret
        exact ⟨ret_int HV.out, rfl⟩
      · clear HS hlt
        go_wp2
        go_ret
        exact ⟨ret_int HV.out, rfl⟩
theorem end_hid (s : ByteArray) (hs : s.size ≤ 1000000) (n : Int) (h : endI s.data.toList = n) : Hid (∀ W, Calls Tryz.prog 100 #[.string s] W fun e w' => e = .returned (.int .i64 n) ∧ w' = W) := Lib.hid fun W => by rw [← h]; exact end_any s W hs

/-- What Sign answers. -/
def SignP (l : List UInt8) (W : World) (e : Ending) (w' : World) : Prop :=
  ∃ (T : ByteArray) (ok bad : Bool), e = .returned (.tuple #[.string T, .bool ok, .bool bad]) ∧ Below W.heap.size W w' ∧ ((signM l = some (T.data.toList, bad) ∧ ok = true) ∨ (signM l = none ∧ ok = false ∧ bad = false))
theorem sign_no {l : List UInt8} {W w' : World} (h : signM l = none) (b : Below W.heap.size W w') : SignP l W (.returned (.tuple #[.string ⟨#[]⟩, .bool false, .bool false])) w' := ⟨⟨#[]⟩, false, false, rfl, b, .inr ⟨h, rfl, rfl⟩⟩
theorem bad_enc : encN 65533 = badT := by decide

set_option maxRecDepth 100000 in
set_option maxHeartbeats 8000000 in
theorem refSign_any (s : ByteArray) (hs : s.size ≤ 1000) (w : World) : Calls Tryz.prog 101 #[.string s] w (SignP s.data.toList w) := by
  obtain ⟨T1, hT1⟩ := text_of (nameM s.data.toList)
  obtain ⟨BT, hBT⟩ := text_of (encN 65533)
  have CBAD : Hid (∀ W, Calls Tryz.prog 128 #[.int .i64 65533] W fun e w' => e = .returned (.string BT) ∧ Below W.heap.size W w') := bytes_hid 65533 BT hBT (by omega)
  have HBT : Hid (BT.data.toList = badT) := Lib.hid (hBT.trans bad_enc)
  clear hBT
  by_cases hne : nameM s.data.toList = []
  · have C1 := refName_hid s T1 hT1 false (decide_eq_false (fun h => h hne))
    obtain rfl : T1 = ⟨#[]⟩ := text_is (hT1.trans hne)
    have HNE := Lib.hid hne
    clear hne hT1
    by_cases ha : s.data.toList.head? = some 35
    · obtain ⟨D, hD⟩ := text_of (s.data.toList.drop 1)
      have hl : s.data.toList = 35 :: D.data.toList := by
        cases hq : s.data.toList with
        | nil => rw [hq] at ha; cases ha
        | cons a r => rw [hq] at ha hD; injection ha with ha; subst ha; rw [hD]; rfl
      have hDs : D.size + 1 = s.size := by rw [← lsize s, hl, ← lsize D]; rfl
      have i0 : ∀ W, (Instr.index 9 (.string s) (.int .i64 0)).run Tryz.prog W = .ok (.int .u8 35) W := index_at s 0 35 (by rw [hl]; rfl)
      have s1 : ∀ W, (Instr.slice 9 (.string s) (some (.int .i64 1)) none none).run Tryz.prog W = .ok (.string D) W := slice_from s D 1 (by omega) hD
      have z1 : ¬ (s.size : Int) < 1 := by omega
      have zs : (s.size : Int) ≤ 1000 := by omega
      obtain ⟨n1, hn1⟩ : ∃ n1, numI 10 7 D.data.toList = n1 := ⟨_, rfl⟩
      have C2 := numR10_hid D (by omega) n1 hn1
      have hnm := num_sharp D.data.toList
      rw [← hl] at hnm
      by_cases hx : D.data.toList.head? = some 120 ∨ D.data.toList.head? = some 88
      · rw [if_pos hx] at hnm
        obtain ⟨E, hE⟩ := text_of (D.data.toList.drop 1)
        have hD1 : 1 ≤ D.size := by
          rw [← lsize]
          cases hq : D.data.toList with
          | nil => rw [hq] at hx; rcases hx with hx | hx <;> cases hx
          | cons a r => simp
        have hEs : E.size + 1 = D.size := by rw [← lsize E, hE, List.length_drop, lsize]; omega
        have s2 : ∀ W, (Instr.slice 9 (.string s) (some (.int .i64 2)) none none).run Tryz.prog W = .ok (.string E) W := slice_from s E 2 (by omega) (by rw [hE, hD, List.drop_drop])
        have z2 : (2 : Int) ≤ (s.size : Int) := by omega
        obtain ⟨n2, hn2⟩ : ∃ n2, numI 16 6 E.data.toList = n2 := ⟨_, rfl⟩
        have C3 := numR16_hid E (by omega) n2 hn2
        have HVN : Hid (n2 = match numM s.data.toList with | some n => (n : Int) | none => -1) := Lib.hid (by rw [← hn2, hnm, ← hE]; rfl)
        clear hn2 hnm hn1 hE hD hDs hEs hD1
        by_cases hx1 : D.data.toList.head? = some 120
        · have i1 : ∀ W, (Instr.index 9 (.string s) (.int .i64 1)).run Tryz.prog W = .ok (.int .u8 120) W := index_at s 1 120 (by
            rw [hl]
            cases hq : D.data.toList with
            | nil => rw [hq] at hx1; cases hx1
            | cons a r => rw [hq] at hx1; injection hx1 with hx1; subst hx1; rfl)
          clear hl hx hx1 ha
          cases hm : numM s.data.toList with
          | none =>
            obtain rfl : n2 = -1 := HVN.out.trans (by rw [hm])
            have HV := Lib.hid (sign_none HNE.out hm)
            clear hm
            go_enter Tryz.func101, Tryz.ntmps101
            go_wp2_with fail
            (with_reducible refine (C1.out _).mono ?_)
            rintro e w1 ⟨rfl, b1⟩
            go_wp2_with fail
            (with_reducible refine (C2.out _).mono ?_)
            rintro e w1 ⟨rfl, rfl⟩
            go_wp2_with fail
            (with_reducible refine (C3.out _).mono ?_)
            rintro e w1 ⟨rfl, rfl⟩
            go_wp2
            go_ret3
            exact sign_no HV.out b1
          | some n =>
            obtain rfl : n2 = (n : Int) := HVN.out.trans (by rw [hm])
            have hn32 := num_lt hm
            by_cases h0 : n = 0
            · subst h0
              have HV := Lib.hid (sign_bad HNE.out hm (.inl rfl))
              clear hm
              go_enter Tryz.func101, Tryz.ntmps101
              go_wp2_with fail
              (with_reducible refine (C1.out _).mono ?_)
              rintro e w1 ⟨rfl, b1⟩
              go_wp2_with fail
              (with_reducible refine (C2.out _).mono ?_)
              rintro e w1 ⟨rfl, rfl⟩
              go_wp2_with fail
              (with_reducible refine (C3.out _).mono ?_)
              rintro e w1 ⟨rfl, rfl⟩
              go_wp2_with fail
              (with_reducible refine (CBAD.out _).mono ?_)
              rintro e w2 ⟨rfl, b2⟩
              go_wp2
              go_ret3
              exact ⟨BT, true, true, rfl, b1.trans (b2.mono b1.size), .inl ⟨by rw [HV.out, HBT.out], rfl⟩⟩
            · have g0 : ((n : Int) == 0) = false := by rw [beq_eq_false_iff_ne]; omega
              have gl : ¬ (n : Int) < 0 := by omega
              by_cases hp : isPt n
              · have CP := point_hid (n : Int) true ((ptB_iff n).2 hp)
                obtain ⟨T, hT⟩ := text_of (encN n)
                have CT := bytes_hid n T hT hp.1
                have HV := Lib.hid (sign_point HNE.out hm h0 hp)
                have HT := Lib.hid hT
                clear hm hT hp h0
                go_enter Tryz.func101, Tryz.ntmps101
                go_wp2_with fail
                (with_reducible refine (C1.out _).mono ?_)
                rintro e w1 ⟨rfl, b1⟩
                go_wp2_with fail
                (with_reducible refine (C2.out _).mono ?_)
                rintro e w1 ⟨rfl, rfl⟩
                go_wp2_with fail
                (with_reducible refine (C3.out _).mono ?_)
                rintro e w1 ⟨rfl, rfl⟩
                go_wp2_with fail
                (with_reducible refine (CP.out _).mono ?_)
                rintro e w3 ⟨rfl, rfl⟩
                go_wp2_with fail
                (with_reducible refine (CT.out _).mono ?_)
                rintro e w2 ⟨rfl, b2⟩
                go_wp2
                go_ret3
                exact ⟨T, true, false, rfl, b1.trans (b2.mono b1.size), .inl ⟨by rw [HV.out, HT.out], rfl⟩⟩
              · have CP := point_hid (n : Int) false (by rw [ptB_dec]; exact decide_eq_false hp)
                have HV := Lib.hid (sign_bad HNE.out hm (.inr hp))
                clear hm hp h0
                go_enter Tryz.func101, Tryz.ntmps101
                go_wp2_with fail
                (with_reducible refine (C1.out _).mono ?_)
                rintro e w1 ⟨rfl, b1⟩
                go_wp2_with fail
                (with_reducible refine (C2.out _).mono ?_)
                rintro e w1 ⟨rfl, rfl⟩
                go_wp2_with fail
                (with_reducible refine (C3.out _).mono ?_)
                rintro e w1 ⟨rfl, rfl⟩
                go_wp2_with fail
                (with_reducible refine (CP.out _).mono ?_)
                rintro e w3 ⟨rfl, rfl⟩
                go_wp2_with fail
                (with_reducible refine (CBAD.out _).mono ?_)
                rintro e w2 ⟨rfl, b2⟩
                go_wp2
                go_ret3
                exact ⟨BT, true, true, rfl, b1.trans (b2.mono b1.size), .inl ⟨by rw [HV.out, HBT.out], rfl⟩⟩
        · have hx2 := hx.resolve_left hx1
          have i1 : ∀ W, (Instr.index 9 (.string s) (.int .i64 1)).run Tryz.prog W = .ok (.int .u8 88) W := index_at s 1 88 (by
            rw [hl]
            cases hq : D.data.toList with
            | nil => rw [hq] at hx2; cases hx2
            | cons a r => rw [hq] at hx2; injection hx2 with hx2; subst hx2; rfl)
          clear hl hx hx1 hx2 ha
          cases hm : numM s.data.toList with
          | none =>
            obtain rfl : n2 = -1 := HVN.out.trans (by rw [hm])
            have HV := Lib.hid (sign_none HNE.out hm)
            clear hm
            go_enter Tryz.func101, Tryz.ntmps101
            go_wp2_with fail
            (with_reducible refine (C1.out _).mono ?_)
            rintro e w1 ⟨rfl, b1⟩
            go_wp2_with fail
            (with_reducible refine (C2.out _).mono ?_)
            rintro e w1 ⟨rfl, rfl⟩
            go_wp2_with fail
            (with_reducible refine (C3.out _).mono ?_)
            rintro e w1 ⟨rfl, rfl⟩
            go_wp2
            go_ret3
            exact sign_no HV.out b1
          | some n =>
            obtain rfl : n2 = (n : Int) := HVN.out.trans (by rw [hm])
            have hn32 := num_lt hm
            by_cases h0 : n = 0
            · subst h0
              have HV := Lib.hid (sign_bad HNE.out hm (.inl rfl))
              clear hm
              go_enter Tryz.func101, Tryz.ntmps101
              go_wp2_with fail
              (with_reducible refine (C1.out _).mono ?_)
              rintro e w1 ⟨rfl, b1⟩
              go_wp2_with fail
              (with_reducible refine (C2.out _).mono ?_)
              rintro e w1 ⟨rfl, rfl⟩
              go_wp2_with fail
              (with_reducible refine (C3.out _).mono ?_)
              rintro e w1 ⟨rfl, rfl⟩
              go_wp2_with fail
              (with_reducible refine (CBAD.out _).mono ?_)
              rintro e w2 ⟨rfl, b2⟩
              go_wp2
              go_ret3
              exact ⟨BT, true, true, rfl, b1.trans (b2.mono b1.size), .inl ⟨by rw [HV.out, HBT.out], rfl⟩⟩
            · have g0 : ((n : Int) == 0) = false := by rw [beq_eq_false_iff_ne]; omega
              have gl : ¬ (n : Int) < 0 := by omega
              by_cases hp : isPt n
              · have CP := point_hid (n : Int) true ((ptB_iff n).2 hp)
                obtain ⟨T, hT⟩ := text_of (encN n)
                have CT := bytes_hid n T hT hp.1
                have HV := Lib.hid (sign_point HNE.out hm h0 hp)
                have HT := Lib.hid hT
                clear hm hT hp h0
                go_enter Tryz.func101, Tryz.ntmps101
                go_wp2_with fail
                (with_reducible refine (C1.out _).mono ?_)
                rintro e w1 ⟨rfl, b1⟩
                go_wp2_with fail
                (with_reducible refine (C2.out _).mono ?_)
                rintro e w1 ⟨rfl, rfl⟩
                go_wp2_with fail
                (with_reducible refine (C3.out _).mono ?_)
                rintro e w1 ⟨rfl, rfl⟩
                go_wp2_with fail
                (with_reducible refine (CP.out _).mono ?_)
                rintro e w3 ⟨rfl, rfl⟩
                go_wp2_with fail
                (with_reducible refine (CT.out _).mono ?_)
                rintro e w2 ⟨rfl, b2⟩
                go_wp2
                go_ret3
                exact ⟨T, true, false, rfl, b1.trans (b2.mono b1.size), .inl ⟨by rw [HV.out, HT.out], rfl⟩⟩
              · have CP := point_hid (n : Int) false (by rw [ptB_dec]; exact decide_eq_false hp)
                have HV := Lib.hid (sign_bad HNE.out hm (.inr hp))
                clear hm hp h0
                go_enter Tryz.func101, Tryz.ntmps101
                go_wp2_with fail
                (with_reducible refine (C1.out _).mono ?_)
                rintro e w1 ⟨rfl, b1⟩
                go_wp2_with fail
                (with_reducible refine (C2.out _).mono ?_)
                rintro e w1 ⟨rfl, rfl⟩
                go_wp2_with fail
                (with_reducible refine (C3.out _).mono ?_)
                rintro e w1 ⟨rfl, rfl⟩
                go_wp2_with fail
                (with_reducible refine (CP.out _).mono ?_)
                rintro e w3 ⟨rfl, rfl⟩
                go_wp2_with fail
                (with_reducible refine (CBAD.out _).mono ?_)
                rintro e w2 ⟨rfl, b2⟩
                go_wp2
                go_ret3
                exact ⟨BT, true, true, rfl, b1.trans (b2.mono b1.size), .inl ⟨by rw [HV.out, HBT.out], rfl⟩⟩
      · rw [if_neg hx] at hnm
        have HVN : Hid (n1 = match numM s.data.toList with | some n => (n : Int) | none => -1) := Lib.hid (by rw [← hn1, hnm]; rfl)
        by_cases h2 : (2 : Int) ≤ (s.size : Int)
        · obtain ⟨c, hc⟩ : ∃ c, s.data.toList[1]? = some c := by
            rw [hl]
            cases hq : D.data.toList with
            | nil => have := lsize D; rw [hq] at this; simp at this; omega
            | cons a r => exact ⟨a, rfl⟩
          have i1 : ∀ W, (Instr.index 9 (.string s) (.int .i64 1)).run Tryz.prog W = .ok (.int .u8 (c.toNat : Int)) W := index_at s 1 c hc
          have hcD : D.data.toList.head? = some c := by
            rw [hl] at hc
            rw [← hc]
            cases D.data.toList <;> rfl
          have g1 : ((c.toNat : Int) == 120) = false := by rw [beq_eq_false_iff_ne]; exact fun h => hx (.inl (by rw [hcD, byte_is (d := 120) h]))
          have g2 : ((c.toNat : Int) == 88) = false := by rw [beq_eq_false_iff_ne]; exact fun h => hx (.inr (by rw [hcD, byte_is (d := 88) h]))
          clear hn1 hnm hl hx hc hcD hD hDs ha
          cases hm : numM s.data.toList with
          | none =>
            obtain rfl : n1 = -1 := HVN.out.trans (by rw [hm])
            have HV := Lib.hid (sign_none HNE.out hm)
            clear hm
            go_enter Tryz.func101, Tryz.ntmps101
            go_wp2_with fail
            (with_reducible refine (C1.out _).mono ?_)
            rintro e w1 ⟨rfl, b1⟩
            go_wp2_with fail
            (with_reducible refine (C2.out _).mono ?_)
            rintro e w1 ⟨rfl, rfl⟩
            go_wp2
            go_ret3
            exact sign_no HV.out b1
          | some n =>
            obtain rfl : n1 = (n : Int) := HVN.out.trans (by rw [hm])
            have hn32 := num_lt hm
            by_cases h0 : n = 0
            · subst h0
              have HV := Lib.hid (sign_bad HNE.out hm (.inl rfl))
              clear hm
              go_enter Tryz.func101, Tryz.ntmps101
              go_wp2_with fail
              (with_reducible refine (C1.out _).mono ?_)
              rintro e w1 ⟨rfl, b1⟩
              go_wp2_with fail
              (with_reducible refine (C2.out _).mono ?_)
              rintro e w1 ⟨rfl, rfl⟩
              go_wp2_with fail
              (with_reducible refine (CBAD.out _).mono ?_)
              rintro e w2 ⟨rfl, b2⟩
              go_wp2
              go_ret3
              exact ⟨BT, true, true, rfl, b1.trans (b2.mono b1.size), .inl ⟨by rw [HV.out, HBT.out], rfl⟩⟩
            · have g0 : ((n : Int) == 0) = false := by rw [beq_eq_false_iff_ne]; omega
              have gl : ¬ (n : Int) < 0 := by omega
              by_cases hp : isPt n
              · have CP := point_hid (n : Int) true ((ptB_iff n).2 hp)
                obtain ⟨T, hT⟩ := text_of (encN n)
                have CT := bytes_hid n T hT hp.1
                have HV := Lib.hid (sign_point HNE.out hm h0 hp)
                have HT := Lib.hid hT
                clear hm hT hp h0
                go_enter Tryz.func101, Tryz.ntmps101
                go_wp2_with fail
                (with_reducible refine (C1.out _).mono ?_)
                rintro e w1 ⟨rfl, b1⟩
                go_wp2_with fail
                (with_reducible refine (C2.out _).mono ?_)
                rintro e w1 ⟨rfl, rfl⟩
                go_wp2_with fail
                (with_reducible refine (CP.out _).mono ?_)
                rintro e w3 ⟨rfl, rfl⟩
                go_wp2_with fail
                (with_reducible refine (CT.out _).mono ?_)
                rintro e w2 ⟨rfl, b2⟩
                go_wp2
                go_ret3
                exact ⟨T, true, false, rfl, b1.trans (b2.mono b1.size), .inl ⟨by rw [HV.out, HT.out], rfl⟩⟩
              · have CP := point_hid (n : Int) false (by rw [ptB_dec]; exact decide_eq_false hp)
                have HV := Lib.hid (sign_bad HNE.out hm (.inr hp))
                clear hm hp h0
                go_enter Tryz.func101, Tryz.ntmps101
                go_wp2_with fail
                (with_reducible refine (C1.out _).mono ?_)
                rintro e w1 ⟨rfl, b1⟩
                go_wp2_with fail
                (with_reducible refine (C2.out _).mono ?_)
                rintro e w1 ⟨rfl, rfl⟩
                go_wp2_with fail
                (with_reducible refine (CP.out _).mono ?_)
                rintro e w3 ⟨rfl, rfl⟩
                go_wp2_with fail
                (with_reducible refine (CBAD.out _).mono ?_)
                rintro e w2 ⟨rfl, b2⟩
                go_wp2
                go_ret3
                exact ⟨BT, true, true, rfl, b1.trans (b2.mono b1.size), .inl ⟨by rw [HV.out, HBT.out], rfl⟩⟩
        · have h2 : (s.size : Int) < 2 := by omega
          clear hn1 hnm hl hx hD hDs ha
          cases hm : numM s.data.toList with
          | none =>
            obtain rfl : n1 = -1 := HVN.out.trans (by rw [hm])
            have HV := Lib.hid (sign_none HNE.out hm)
            clear hm
            go_enter Tryz.func101, Tryz.ntmps101
            go_wp2_with fail
            (with_reducible refine (C1.out _).mono ?_)
            rintro e w1 ⟨rfl, b1⟩
            go_wp2_with fail
            (with_reducible refine (C2.out _).mono ?_)
            rintro e w1 ⟨rfl, rfl⟩
            go_wp2
            go_ret3
            exact sign_no HV.out b1
          | some n =>
            obtain rfl : n1 = (n : Int) := HVN.out.trans (by rw [hm])
            have hn32 := num_lt hm
            by_cases h0 : n = 0
            · subst h0
              have HV := Lib.hid (sign_bad HNE.out hm (.inl rfl))
              clear hm
              go_enter Tryz.func101, Tryz.ntmps101
              go_wp2_with fail
              (with_reducible refine (C1.out _).mono ?_)
              rintro e w1 ⟨rfl, b1⟩
              go_wp2_with fail
              (with_reducible refine (C2.out _).mono ?_)
              rintro e w1 ⟨rfl, rfl⟩
              go_wp2_with fail
              (with_reducible refine (CBAD.out _).mono ?_)
              rintro e w2 ⟨rfl, b2⟩
              go_wp2
              go_ret3
              exact ⟨BT, true, true, rfl, b1.trans (b2.mono b1.size), .inl ⟨by rw [HV.out, HBT.out], rfl⟩⟩
            · have g0 : ((n : Int) == 0) = false := by rw [beq_eq_false_iff_ne]; omega
              have gl : ¬ (n : Int) < 0 := by omega
              by_cases hp : isPt n
              · have CP := point_hid (n : Int) true ((ptB_iff n).2 hp)
                obtain ⟨T, hT⟩ := text_of (encN n)
                have CT := bytes_hid n T hT hp.1
                have HV := Lib.hid (sign_point HNE.out hm h0 hp)
                have HT := Lib.hid hT
                clear hm hT hp h0
                go_enter Tryz.func101, Tryz.ntmps101
                go_wp2_with fail
                (with_reducible refine (C1.out _).mono ?_)
                rintro e w1 ⟨rfl, b1⟩
                go_wp2_with fail
                (with_reducible refine (C2.out _).mono ?_)
                rintro e w1 ⟨rfl, rfl⟩
                go_wp2_with fail
                (with_reducible refine (CP.out _).mono ?_)
                rintro e w3 ⟨rfl, rfl⟩
                go_wp2_with fail
                (with_reducible refine (CT.out _).mono ?_)
                rintro e w2 ⟨rfl, b2⟩
                go_wp2
                go_ret3
                exact ⟨T, true, false, rfl, b1.trans (b2.mono b1.size), .inl ⟨by rw [HV.out, HT.out], rfl⟩⟩
              · have CP := point_hid (n : Int) false (by rw [ptB_dec]; exact decide_eq_false hp)
                have HV := Lib.hid (sign_bad HNE.out hm (.inr hp))
                clear hm hp h0
                go_enter Tryz.func101, Tryz.ntmps101
                go_wp2_with fail
                (with_reducible refine (C1.out _).mono ?_)
                rintro e w1 ⟨rfl, b1⟩
                go_wp2_with fail
                (with_reducible refine (C2.out _).mono ?_)
                rintro e w1 ⟨rfl, rfl⟩
                go_wp2_with fail
                (with_reducible refine (CP.out _).mono ?_)
                rintro e w3 ⟨rfl, rfl⟩
                go_wp2_with fail
                (with_reducible refine (CBAD.out _).mono ?_)
                rintro e w2 ⟨rfl, b2⟩
                go_wp2
                go_ret3
                exact ⟨BT, true, true, rfl, b1.trans (b2.mono b1.size), .inl ⟨by rw [HV.out, HBT.out], rfl⟩⟩
    · have HV := Lib.hid (sign_none HNE.out (num_plain _ ha))
      cases hq : s.data.toList with
      | nil =>
        have z1 : (s.size : Int) < 1 := by rw [← lsize, hq]; decide
        have z0 : (0 : Int) ≤ (s.size : Int) := by omega
        rw [hq] at HV
        clear hq ha
        go_enter Tryz.func101, Tryz.ntmps101
        go_wp2_with fail
        (with_reducible refine (C1.out _).mono ?_)
        rintro e w1 ⟨rfl, b1⟩
        go_wp2
        go_ret3
        exact sign_no HV.out b1
      | cons c r =>
        have z1 : ¬ (s.size : Int) < 1 := by rw [← lsize, hq]; simp; omega
        have i0 : ∀ W, (Instr.index 9 (.string s) (.int .i64 0)).run Tryz.prog W = .ok (.int .u8 (c.toNat : Int)) W := index_at s 0 c (by rw [hq]; rfl)
        have g1 : ((c.toNat : Int) != 35) = true := by
          simp only [bne, Bool.not_eq_true', beq_eq_false_iff_ne]
          exact fun h => ha (by rw [hq, byte_is (d := 35) h]; rfl)
        rw [hq] at HV
        clear hq ha
        go_enter Tryz.func101, Tryz.ntmps101
        go_wp2_with fail
        (with_reducible refine (C1.out _).mono ?_)
        rintro e w1 ⟨rfl, b1⟩
        go_wp2
        go_ret3
        exact sign_no HV.out b1
  · have C1 := refName_hid s T1 hT1 true (decide_eq_true hne)
    have HV : Hid (signM s.data.toList = some (T1.data.toList, false)) := Lib.hid (by rw [sign_name hne, hT1])
    clear hne hT1
    go_enter Tryz.func101, Tryz.ntmps101
    go_wp2_with fail
    (with_reducible refine (C1.out _).mono ?_)
    rintro e w1 ⟨rfl, b1⟩
    go_wp2
    go_ret3
    exact ⟨T1, true, false, rfl, b1, .inl ⟨HV.out, rfl⟩⟩
theorem refSign_hid (s : ByteArray) (hs : s.size ≤ 1000) : Hid (∀ W, Calls Tryz.prog 101 #[.string s] W (SignP s.data.toList W)) := Lib.hid fun W => refSign_any s hs W

end Go.Proofs.YtgbilfbonliipaaGreatDoor

namespace Go.Proofs.YtgbilfbonliipaaGreatDoor
open Go.RowKit

theorem semi_38 (r : List UInt8) : semi (38 :: r) = (semi r).map (· + 1) := by
  show (if (38 : UInt8) = 59 then some 0 else (semi r).map (· + 1)) = _
  rw [if_neg (by decide)]
/-- A sign's text at a place, as the document finds it. -/
theorem first_end (r : List UInt8) (h : endI (38 :: r) = -1) : firstM (38 :: r) = none := by
  rw [first_amp]
  cases hs : semi r with
  | none => rfl
  | some j =>
    simp only
    rw [show signM (r.take j) = none from sign_long (by
      rw [List.length_take]
      have hj := (semi_lt hs).1
      by_cases h11 : j < 11
      · exfalso
        unfold endI at h
        rw [semi_take, semi_38, hs] at h
        have h12 : j + 1 < 12 := by omega
        simp [h12] at h
        omega
      · omega)]
    rfl
theorem end_at (r : List UInt8) (h : endI (38 :: r) ≠ -1) : ∃ j, semi r = some j ∧ endI (38 :: r) = ((j + 1 : Nat) : Int) ∧ j < r.length ∧ j < 11 := by
  unfold endI at h ⊢
  rw [semi_take, semi_38] at h ⊢
  cases hs : semi r with
  | none => rw [hs] at h; simp at h
  | some j =>
    rw [hs] at h
    have hj := (semi_lt hs).1
    by_cases h11 : j < 11
    · have h12 : j + 1 < 12 := by omega
      exact ⟨j, rfl, by simp [h12], hj, h11⟩
    · have h12 : ¬ j + 1 < 12 := by omega
      simp [h12] at h
theorem cat_list (a b : ByteArray) : (a ++ b).data.toList = a.data.toList ++ b.data.toList := by simp
theorem add_cat (S T : ByteArray) (hl : S.size + T.size ≤ 9223372036854775807) : ∀ W, (Op.stringOp .add S T).run Tryz.prog W = .ok (.string (S ++ T)) W := add_to S T (S ++ T) (cat_list S T) hl
theorem slice_at1 (L U : ByteArray) (pos K : Nat) (hK : 1 ≤ K) (hj : pos + K ≤ L.size) (h : U.data.toList = (L.data.toList.drop (pos + 1)).take (K - 1)) : ∀ W, (Instr.slice 9 (.string L) (some (.int .i64 ((pos : Int) + 1))) (some (.int .i64 ((pos : Int) + (K : Int)))) none).run Tryz.prog W = .ok (.string U) W := by
  have := slice_mid L U (pos + 1) (pos + K) (by omega) hj (by rw [h, show pos + K - (pos + 1) = K - 1 by omega])
  rw [show ((pos + 1 : Nat) : Int) = (pos : Int) + 1 by omega, show ((pos + K : Nat) : Int) = (pos : Int) + (K : Int) by omega] at this
  exact this
theorem slice_one' (L U : ByteArray) (k : Nat) (c : UInt8) (hk : L.data.toList[k]? = some c) (h : U.data.toList = [c]) : ∀ W, (Instr.slice 9 (.string L) (some (.int .i64 (k : Int))) (some (.int .i64 ((k : Int) + 1))) none).run Tryz.prog W = .ok (.string U) W := by
  obtain ⟨h1, h2⟩ := List.getElem?_eq_some_iff.1 hk
  have hk' : k < L.size := by rw [← lsize]; exact h1
  have := slice_mid L U k (k + 1) (by omega) hk' (by rw [h, List.drop_eq_getElem_cons h1, h2, show k + 1 - k = 1 by omega]; rfl)
  rw [show ((k + 1 : Nat) : Int) = (k : Int) + 1 by omega] at this
  exact this

set_option maxRecDepth 100000 in
set_option maxHeartbeats 8000000 in
theorem refDecode_any (s : ByteArray) (hs : s.size ≤ 100000) (w : World) :
    Calls Tryz.prog 80 #[.string s] w fun e w' => ∃ v, e = .returned (.tuple #[.string ⟨(decT 0 s.data.toList).1.toArray⟩, v]) ∧ w'.ownsRow w.heap.size 59 2 v (decT 0 s.data.toList).2.length (failCs (decT 0 s.data.toList).2) ∧ Below w.heap.size w w' := by
  obtain ⟨i1, hi1, hy0, hy1, hy2⟩ := info_parts Tinfo34
  go_enter Tryz.func80, Tryz.ntmps80
  go_wp2
  go_loopw [4, 5, 6] (fun v u i wr => ∃ (pos : Nat) (O : ByteArray) (facc : List Nat), i = .int .i64 pos ∧ v = .string O ∧ pos ≤ s.size ∧ wr.ownsRow w.heap.size 59 2 u facc.length (failCs facc) ∧ Below w.heap.size w wr ∧ Hid (decT 0 s.data.toList = (O.data.toList ++ (decT pos (s.data.toList.drop pos)).1, facc ++ (decT pos (s.data.toList.drop pos)).2)) ∧ O.size ≤ pos ∧ facc.length ≤ pos) (fun _ _ i _ => s.size - (intOf i).toNat)
  case atStart => exact ⟨0, ⟨#[]⟩, [], rfl, rfl, Nat.zero_le _, World.ownsRow_nil _ _ _ _, Below.refl _ _, Lib.hid rfl, Nat.le_refl _, Nat.le_refl _⟩
  case round =>
    obtain ⟨pos, O, facc, rfl, rfl, hp, hfow, hb, HS, hlo, hlf⟩ := hrel
    by_cases hlt : pos < s.size
    · have hpl : pos < s.data.toList.length := by rw [lsize]; exact hlt
      have hdr := dec_place s.data.toList pos hpl
      obtain ⟨c, hc⟩ : ∃ c, s.data.toList[pos]? = some c := ⟨_, List.getElem?_eq_getElem hpl⟩
      have hg : s.data.toList[pos] = c := by rw [List.getElem?_eq_getElem hpl] at hc; exact Option.some.inj hc
      rw [hg] at hdr
      have i0 := index_at s pos c hc
      obtain ⟨R, hR⟩ := text_of (s.data.toList.drop pos)
      have s1 := slice_from s R pos hp hR
      have hRs : R.size = s.size - pos := by rw [← lsize, hR, List.length_drop, lsize]
      obtain ⟨kk, hkk⟩ : ∃ kk, endI R.data.toList = kk := ⟨_, rfl⟩
      have CE := end_hid R (by omega) kk hkk
      rw [hR, hdr] at hkk
      obtain ⟨U, hU⟩ : ∃ U : ByteArray, U.data.toList = [c] := ⟨⟨#[c]⟩, rfl⟩
      have s2 := slice_one' s U pos c hc hU
      have hUs : U.size = 1 := by rw [← lsize, hU]; rfl
      have a1 := add_cat O U (by omega)
      have HU := Lib.hid hU
      have HDR := Lib.hid hdr
      have hsz := hb.size
      -- where no sign's text begins
      have HPL : Hid (firstM (c :: s.data.toList.drop (pos + 1)) = none → decT 0 s.data.toList = ((O ++ U).data.toList ++ (decT (pos + 1) (s.data.toList.drop (pos + 1))).1, facc ++ (decT (pos + 1) (s.data.toList.drop (pos + 1))).2)) := Lib.hid (fun hn => by
        rw [HS.out, hdr, decT_plain pos c _ hn, cat_list, hU]
        simp)
      have hou : (O ++ U).size ≤ pos + 1 := by rw [← lsize, cat_list, List.length_append, lsize, lsize]; omega
      clear hR hg hpl hU hdr
      by_cases h38 : c = 38
      · subst h38
        have i0 : ∀ W, (Instr.index 9 (.string s) (.int .i64 (pos : Int))).run Tryz.prog W = .ok (.int .u8 38) W := i0
        by_cases hneg : endI (38 :: s.data.toList.drop (pos + 1)) = -1
        · obtain rfl : kk = -1 := hkk.symm.trans hneg
          have HN := Lib.hid (HPL.out (first_end _ hneg))
          clear hneg hkk HPL HS
          go_wp2_with fail
          (with_reducible refine (CE.out _).mono ?_)
          rintro e wr ⟨rfl, rfl⟩
          go_wp2
          go_roundw
          case rel => exact ⟨pos + 1, O ++ U, facc, by go_num, rfl, by omega, hfow, hb, HN, hou, by omega⟩
          case measure => simp [intOf]; omega
        · obtain ⟨j, hj1, hj2, hj3, hj4⟩ := end_at _ hneg
          rw [List.length_drop, lsize] at hj3
          obtain ⟨K, hK⟩ : ∃ K, K = j + 1 := ⟨_, rfl⟩
          rw [← hK] at hj2
          obtain rfl : kk = (K : Int) := hkk.symm.trans hj2
          obtain ⟨I, hI⟩ := text_of ((s.data.toList.drop (pos + 1)).take j)
          have s3 := slice_at1 s I pos K (by omega) (by omega) (by rw [hI, show K - 1 = j by omega])
          have hIs : I.size = j := by rw [← lsize, hI, List.length_take, List.length_drop, lsize]; omega
          have CS := refSign_hid I (by omega)
          have hKj : K ≤ 11 := by omega
          have hKp : pos + K + 1 ≤ s.size := by omega
          have z1 : (0 : Int) < (K : Int) := by omega
          have HF : Hid (firstM (38 :: s.data.toList.drop (pos + 1)) = (signM I.data.toList).map fun p => (p.1, p.2, K + 1)) := Lib.hid (by
            rw [first_amp, hj1]
            simp only
            rw [hI, hK])
          clear hneg hkk hj1 hj2 hj3 hj4 hI hIs hK
          go_wp2_with fail
          (with_reducible refine (CE.out _).mono ?_)
          rintro e wr ⟨rfl, rfl⟩
          go_wp2_with fail
          (with_reducible refine (CS.out _).mono ?_)
          rintro e w1 ⟨T, ok, bad, rfl, b1, hv⟩
          have hfow1 := ownsRow_below hfow b1
          have hb1 := hb.trans (b1.mono hsz)
          have hsz1 := hb1.size
          clear hfow hb b1
          rcases hv with ⟨hn, rfl⟩ | ⟨hn, rfl, rfl⟩
          · have hfm : firstM (38 :: s.data.toList.drop (pos + 1)) = some (T.data.toList, bad, K + 1) := by rw [HF.out, hn]; rfl
            have hl := first_len hfm
            rw [lsize] at hl
            obtain ⟨hk4, hk10, hks, ht1, htk⟩ := hl
            have a2 := add_cat O T (by omega)
            have hot : (O ++ T).size ≤ pos + K + 1 := by rw [← lsize, cat_list, List.length_append, lsize, lsize]; omega
            have HN : Hid (decT 0 s.data.toList = ((O ++ T).data.toList ++ (decT (pos + K + 1) (s.data.toList.drop (pos + K + 1))).1, (facc ++ (if bad = true then [pos] else [])) ++ (decT (pos + K + 1) (s.data.toList.drop (pos + K + 1))).2)) := Lib.hid (by
              rw [← HDR.out] at hfm
              rw [HS.out, decT_sign pos hfm, List.drop_drop, cat_list, show pos + (K + 1) = pos + K + 1 by omega]
              simp)
            clear hn hfm HF HPL HS HDR HU
            cases bad with
            | true =>
              go_wp2_with (at_builtin; refine wpList_append_own _ rfl _ _ 23 rfl w.heap.size 59 i1 (.agg #[.int .i64 0, .int .i64 0]) 2 16 Tryz.underlying23 hi1 hy0 hy1 hy2 rfl (by decide) _ _ _ rfl (hfow1.alloc _) ⟨w1.heap.size, 0, none⟩ 1 1 [.int .i64 130, .int .i64 (pos : Int)] rfl rfl (cells_new w1 [.int .i64 130, .int .i64 (pos : Int)] 59) (fun x hx => by simp at hx; rcases hx with rfl | rfl <;> rfl) (by unfold maxLen; omega) (by omega) (by simp; omega) ?_; intro v5 w5 hfow5 hgrow5 hnil5
                           have hb5 : Below w.heap.size w w5 := Below.grown (hb1.alloc hsz1 _) hgrow5 (by simp; omega) (fun j hj => (hfow1.lt _ hj).1)
                           clear hgrow5 hnil5)
              have hfow7 : w5.ownsRow w.heap.size 59 2 v5 (facc ++ [pos]).length (failCs (facc ++ [pos])) := by rw [failCs_snoc, List.length_append]; exact hfow5
              clear hfow5
              go_roundw
              case rel => exact ⟨pos + K + 1, O ++ T, facc ++ [pos], by go_num, rfl, by omega, hfow7, hb5, HN, hot, by rw [List.length_append]; simp; omega⟩
              case measure => simp [intOf]; omega
            | false =>
              go_wp2
              go_roundw
              case rel => exact ⟨pos + K + 1, O ++ T, facc, by go_num, rfl, by omega, hfow1, hb1, Lib.hid (by simpa using HN.out), hot, by omega⟩
              case measure => simp [intOf]; omega
          · have HN := Lib.hid (HPL.out (by rw [HF.out, hn]; rfl))
            clear hn HF HPL HS HDR HU
            go_wp2
            go_roundw
            case rel => exact ⟨pos + 1, O ++ U, facc, by go_num, rfl, by omega, hfow1, hb1, HN, hou, by omega⟩
            case measure => simp [intOf]; omega
      · have g1 : ((c.toNat : Int) == 38) = false := by rw [beq_eq_false_iff_ne]; exact fun h => h38 (byte_is (d := 38) h)
        have HN := Lib.hid (HPL.out (first_plain c _ h38))
        clear h38 hkk HPL HS
        go_wp2_with fail
        (with_reducible refine (CE.out _).mono ?_)
        rintro e wr ⟨rfl, rfl⟩
        go_wp2
        go_roundw
        case rel => exact ⟨pos + 1, O ++ U, facc, by go_num, rfl, by omega, hfow, hb, HN, hou, by omega⟩
        case measure => simp [intOf]; omega
    · obtain rfl : pos = s.size := by omega
      have HE : Hid (decT 0 s.data.toList = (O.data.toList, facc)) := Lib.hid (by
        rw [HS.out, show s.data.toList.drop s.size = [] by rw [← lsize]; simp, decT_nil]
        simp)
      clear HS
      go_wp2
      go_ret2
      exact ⟨_, by rw [HE.out]; rfl, by rw [HE.out]; exact hfow, hb⟩

theorem encT_step' (l : List UInt8) (k : Nat) (c : UInt8) (h : l[k]? = some c) : encT (l.take (k + 1)) = encT (l.take k) ++ encB c := by
  obtain ⟨h1, h2⟩ := List.getElem?_eq_some_iff.1 h
  rw [List.take_succ_eq_append_getElem h1, encT_append, encT_one, h2]

set_option maxRecDepth 100000 in
set_option maxHeartbeats 8000000 in
theorem refEncode_any (s : ByteArray) (hs : s.size ≤ 100000) (w : World) :
    Calls Tryz.prog 33 #[.string s] w fun e w' => e = .returned (.string ⟨(encT s.data.toList).toArray⟩) ∧ w' = w := by
  go_enter Tryz.func33, Tryz.ntmps33
  go_wp2
  go_loop [3, 4] (fun v i => ∃ (k : Nat) (O : ByteArray), i = .int .i64 k ∧ v = .string O ∧ k ≤ s.size ∧ Hid (O.data.toList = encT (s.data.toList.take k)) ∧ O.size ≤ 6 * k) (fun _ i => s.size - (intOf i).toNat)
  case atStart => exact ⟨0, ⟨#[]⟩, rfl, rfl, Nat.zero_le _, Lib.hid rfl, by decide⟩
  case round =>
    obtain ⟨k, O, rfl, rfl, hk, HS, hlo⟩ := hrel
    by_cases hlt : k < s.size
    · have hkl : k < s.data.toList.length := by rw [lsize]; exact hlt
      obtain ⟨c, hc⟩ : ∃ c, s.data.toList[k]? = some c := ⟨_, List.getElem?_eq_getElem hkl⟩
      have i0 := index_at s k c hc
      have hst := encT_step' s.data.toList k c hc
      obtain ⟨U, hU⟩ : ∃ U : ByteArray, U.data.toList = encB c := ⟨⟨(encB c).toArray⟩, rfl⟩
      have hUl := encB_len c
      have hUs : U.size ≤ 6 := by rw [← lsize, hU]; omega
      have a1 := add_cat O U (by omega)
      have HN : Hid ((O ++ U).data.toList = encT (s.data.toList.take (k + 1))) := Lib.hid (by rw [hst, cat_list, HS.out, hU])
      have hou : (O ++ U).size ≤ 6 * (k + 1) := by rw [← lsize, cat_list, List.length_append, lsize, lsize]; omega
      clear hkl HS hst hUl
      by_cases h38 : c = 38
      · subst h38
        have i0 : ∀ W, (Instr.index 9 (.string s) (.int .i64 (k : Int))).run Tryz.prog W = .ok (.int .u8 38) W := i0
        obtain rfl : U = ⟨#[38, 97, 109, 112, 59]⟩ := text_is hU
        clear hc hU
        go_wp2
        go_round
        case rel => exact ⟨k + 1, _, by go_num, rfl, by omega, HN, hou⟩
        case measure => simp [intOf]; omega
      by_cases h60 : c = 60
      · subst h60
        have i0 : ∀ W, (Instr.index 9 (.string s) (.int .i64 (k : Int))).run Tryz.prog W = .ok (.int .u8 60) W := i0
        obtain rfl : U = ⟨#[38, 108, 116, 59]⟩ := text_is hU
        clear hc hU
        go_wp2
        go_round
        case rel => exact ⟨k + 1, _, by go_num, rfl, by omega, HN, hou⟩
        case measure => simp [intOf]; omega
      by_cases h62 : c = 62
      · subst h62
        have i0 : ∀ W, (Instr.index 9 (.string s) (.int .i64 (k : Int))).run Tryz.prog W = .ok (.int .u8 62) W := i0
        obtain rfl : U = ⟨#[38, 103, 116, 59]⟩ := text_is hU
        clear hc hU
        go_wp2
        go_round
        case rel => exact ⟨k + 1, _, by go_num, rfl, by omega, HN, hou⟩
        case measure => simp [intOf]; omega
      by_cases h34 : c = 34
      · subst h34
        have i0 : ∀ W, (Instr.index 9 (.string s) (.int .i64 (k : Int))).run Tryz.prog W = .ok (.int .u8 34) W := i0
        obtain rfl : U = ⟨#[38, 113, 117, 111, 116, 59]⟩ := text_is hU
        clear hc hU
        go_wp2
        go_round
        case rel => exact ⟨k + 1, _, by go_num, rfl, by omega, HN, hou⟩
        case measure => simp [intOf]; omega
      by_cases h39 : c = 39
      · subst h39
        have i0 : ∀ W, (Instr.index 9 (.string s) (.int .i64 (k : Int))).run Tryz.prog W = .ok (.int .u8 39) W := i0
        obtain rfl : U = ⟨#[38, 97, 112, 111, 115, 59]⟩ := text_is hU
        clear hc hU
        go_wp2
        go_round
        case rel => exact ⟨k + 1, _, by go_num, rfl, by omega, HN, hou⟩
        case measure => simp [intOf]; omega
      have e : encB c = [c] := encB_other h38 h60 h62 h34 h39
      rw [e] at hU
      have s2 := slice_one' s U k c hc hU
      have g1 : ((c.toNat : Int) == 38) = false := by rw [beq_eq_false_iff_ne]; exact fun h => h38 (byte_is (d := 38) h)
      have g2 : ((c.toNat : Int) == 60) = false := by rw [beq_eq_false_iff_ne]; exact fun h => h60 (byte_is (d := 60) h)
      have g3 : ((c.toNat : Int) == 62) = false := by rw [beq_eq_false_iff_ne]; exact fun h => h62 (byte_is (d := 62) h)
      have g4 : ((c.toNat : Int) == 34) = false := by rw [beq_eq_false_iff_ne]; exact fun h => h34 (byte_is (d := 34) h)
      have g5 : ((c.toNat : Int) == 39) = false := by rw [beq_eq_false_iff_ne]; exact fun h => h39 (byte_is (d := 39) h)
      clear h38 h60 h62 h34 h39 e hU hc
      go_wp2
      go_round
      case rel => exact ⟨k + 1, O ++ U, by go_num, rfl, by omega, HN, hou⟩
      case measure => simp [intOf]; omega
    · obtain rfl : k = s.size := by omega
      have HE : Hid (O = ⟨(encT s.data.toList).toArray⟩) := Lib.hid (text_is (by rw [HS.out, ← lsize, List.take_length]))
      clear HS
      go_wp2
      go_ret
      exact ⟨congrArg (fun x => Ending.returned (Value.string x)) HE.out, rfl⟩

end Go.Proofs.YtgbilfbonliipaaGreatDoor

namespace Go.Proofs.YtgbilfbonliipaaGreatDoor
open Go.RowKit

/-- A slice of Fails at these places. -/
def FailsIn (w : World) (v : Value) (p : List Nat) : Prop :=
  ((∃ a c, v = .slice a 0 c) ∧ p = []) ∨ ∃ B off cap, v = .slice (some ⟨B, off, none⟩) p.length cap ∧ ∀ i, (h : i < p.length) → w.cell? ⟨B, off + i * 2, none⟩ = some (.int .i64 130) ∧ w.cell? ⟨B, off + i * 2 + 1, none⟩ = some (.int .i64 (p[i] : Int))
theorem FailsIn.below {w w' : World} {v : Value} {p : List Nat} (h : FailsIn w v p) (hb : Below w.heap.size w w') : FailsIn w' v p := by
  rcases h with h | ⟨B, off, cap, h1, h2⟩
  · exact .inl h
  · exact .inr ⟨B, off, cap, h1, fun i hi => ⟨by rw [hb.cell (lt_of_cell (h2 i hi).1)]; exact (h2 i hi).1, by rw [hb.cell (lt_of_cell (h2 i hi).2)]; exact (h2 i hi).2⟩⟩
theorem FailsIn.form {w : World} {v : Value} {p : List Nat} (h : FailsIn w v p) : ∃ a c, v = .slice a p.length c := by
  rcases h with ⟨⟨a, c, rfl⟩, rfl⟩ | ⟨B, off, cap, rfl, _⟩
  · exact ⟨_, _, rfl⟩
  · exact ⟨_, _, rfl⟩
theorem failCs_at : ∀ (p : List Nat) (i : Nat) (h : i < p.length), (failCs p)[i * 2]? = some (.int .i64 130) ∧ (failCs p)[i * 2 + 1]? = some (.int .i64 (p[i] : Int))
  | a :: r, 0, _ => ⟨rfl, rfl⟩
  | a :: r, i + 1, h => by
    have := failCs_at r i (by simpa using h)
    rw [show failCs (a :: r) = [.int .i64 130, .int .i64 (a : Int)] ++ failCs r from rfl]
    rw [List.getElem?_append_right (by simp; omega), List.getElem?_append_right (by simp; omega)]
    simp only [List.length_cons, List.length_nil, List.getElem_cons_succ]
    rw [show (i + 1) * 2 - (0 + 1 + 1) = i * 2 by omega, show (i + 1) * 2 + 1 - (0 + 1 + 1) = i * 2 + 1 by omega]
    exact this
theorem FailsIn.of_row {w : World} {base : Nat} {v : Value} {p : List Nat} (h : w.ownsRow base 59 2 v p.length (failCs p)) : FailsIn w v p := by
  rcases rowForms h with ⟨h1, h2⟩ | ⟨g, cap, rfl⟩
  · exact .inl ⟨⟨_, _, h1⟩, List.length_eq_zero_iff.1 h2⟩
  · refine .inr ⟨g, 0, cap, rfl, fun i hi => ?_⟩
    obtain ⟨e1, e2⟩ := failCs_at p i hi
    rw [Nat.zero_add, h.cellAt (i * 2) (by omega), h.cellAt (i * 2 + 1) (by omega)]
    exact ⟨e1, e2⟩
theorem FailsIn.made (w : World) (p : List Nat) (C : Array Value) (hC : C = (failCs p).toArray) (n : Nat) (hn : n = p.length) : FailsIn (w.alloc (.cells C 59)) (.slice (some ⟨w.heap.size, 0, none⟩) n n) p := by
  subst hn hC
  refine .inr ⟨_, _, _, rfl, fun i hi => ?_⟩
  obtain ⟨e1, e2⟩ := failCs_at p i hi
  rw [World.cell?_alloc_mark, World.cell?_alloc_mark, Nat.zero_add]
  simpa using ⟨e1, e2⟩

theorem decode_hid (s T : ByteArray) (p : List Nat) (h : decT 0 s.data.toList = (T.data.toList, p)) (hs : s.size ≤ 1000000) : Hid (∀ W, Low W → Calls Tryz.prog 20 #[.string s] W fun e w' => ∃ a c, e = .returned (.tuple #[.string T, .slice a p.length c]) ∧ FailsIn w' (.slice a p.length c) p ∧ Below W.heap.size W w') := Lib.hid fun W hw => (decode_any s hs W hw).mono fun e w' ⟨v, h1, h2, h3⟩ => by
  rw [h] at h1 h2
  have hf := FailsIn.of_row h2
  obtain ⟨a, c, rfl⟩ := hf.form
  exact ⟨a, c, by rw [h1, text_is (T := T) rfl], hf, h3⟩
theorem refDecode_hid (s T : ByteArray) (p : List Nat) (h : decT 0 s.data.toList = (T.data.toList, p)) (hs : s.size ≤ 100000) : Hid (∀ W, Calls Tryz.prog 80 #[.string s] W fun e w' => ∃ a c, e = .returned (.tuple #[.string T, .slice a p.length c]) ∧ FailsIn w' (.slice a p.length c) p ∧ Below W.heap.size W w') := Lib.hid fun W => (refDecode_any s hs W).mono fun e w' ⟨v, h1, h2, h3⟩ => by
  rw [h] at h1 h2
  have hf := FailsIn.of_row h2
  obtain ⟨a, c, rfl⟩ := hf.form
  exact ⟨a, c, by rw [h1, text_is (T := T) rfl], hf, h3⟩

set_option maxRecDepth 100000 in
set_option maxHeartbeats 4000000 in
/-- Two rows that are the same. -/
theorem fails_same (p : List Nat) (u v : Value) (w : World) (hp : FailsIn w u p) (hq : FailsIn w v p) (hl : p.length ≤ 1000000) :
    Calls Tryz.prog 13 #[u, v] w fun e w' => e = .returned (.bool true) ∧ Below w.heap.size w w' := by
  have hl0 : (0 : Int) ≤ (p.length : Int) := by omega
  rcases hp with ⟨⟨a0, c0, rfl⟩, rfl⟩ | ⟨B, off, cap, rfl, hc⟩
  · obtain ⟨a1, c1, rfl⟩ := hq.form
    clear hq hl hl0
    go_enter Tryz.func13, Tryz.ntmps13
    go_wp2
    refine wp_loop_rounds 1 ?_
    rw [rounds_succ]
    go_wp2
    go_ret
    exact ⟨rfl, Below.refl _ _⟩
  rcases hq with ⟨⟨a1, c1, rfl⟩, rfl⟩ | ⟨B2, off2, cap2, rfl, hc2⟩
  · clear hc hl hl0
    go_enter Tryz.func13, Tryz.ntmps13
    go_wp2
    refine wp_loop_rounds 1 ?_
    rw [rounds_succ]
    go_wp2
    go_ret
    exact ⟨rfl, Below.refl _ _⟩
  have HC := Lib.hid hc
  have HC2 := Lib.hid hc2
  have g0 : ((p.length : Int) != (p.length : Int)) = false := by simp
  clear hc hc2
  go_enter Tryz.func13, Tryz.ntmps13
  go_wp2
  go_loopw [5] (fun i wr => ∃ k n : Nat, i = .int .i64 k ∧ k ≤ p.length ∧ wr = w.drewN n) (fun i _ => p.length - (intOf i).toNat)
  case atStart => exact ⟨0, 0, rfl, Nat.zero_le _, rfl⟩
  case round =>
    obtain ⟨k, n, rfl, hk, rfl⟩ := hrel
    by_cases hlt : k < p.length
    · obtain ⟨c1, c2⟩ := HC.out k hlt
      obtain ⟨d1, d2⟩ := HC2.out k hlt
      have hix : (k : Int) < (p.length : Int) := by omega
      generalize (p[k] : Int) = x at *
      have g : (x != x) = false := by simp
      go_wp2_with fail
      go_quiet (fail)
      go_wp2
      go_roundw
      case rel => exact ⟨k + 1, n + nq, by go_num, by omega, rfl⟩
      case measure => simp [intOf]; omega
    · obtain rfl : k = p.length := by omega
      go_wp2
      go_ret
      exact ⟨rfl, belowN (Below.refl _ _) _⟩

end Go.Proofs.YtgbilfbonliipaaGreatDoor
