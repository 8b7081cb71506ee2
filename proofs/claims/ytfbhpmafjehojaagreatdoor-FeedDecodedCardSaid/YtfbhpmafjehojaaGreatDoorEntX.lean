/- A text decoded: the program's Decode. Rows of Fails held against one another; the document's rows. -/
import Derived.Lib.AppendStr
import Derived.Test.YtfbhpmafjehojaaGreatDoorEntW
namespace Go.Proofs.YtfbhpmafjehojaaGreatDoor
open Go.RowKit

/-- Two rows of unlike elements lie in unlike blocks. -/
theorem rows_apart {w : World} {b1 b2 : Nat} {e1 e2 : TypeId} {s1 s2 : Nat} {v1 v2 : Value} {n1 n2 : Nat} {x1 x2 : List Value} (h1 : w.ownsRow b1 e1 s1 v1 n1 x1) (h2 : w.ownsRow b2 e2 s2 v2 n2 x2) (hne : e1 ≠ e2) : v1.ownBlock = none ∨ v1.ownBlock ≠ v2.ownBlock := by
  rcases h1.2 with ⟨rfl, _⟩ | ⟨g, cap, cur, rfl, _, c, _⟩
  · exact .inl rfl
  · refine .inr fun e => ?_
    rcases h2.2 with ⟨rfl, _⟩ | ⟨g', cap', cur', rfl, _, c', _⟩
    · cases e
    · obtain rfl : g = g' := by simpa [Value.ownBlock] using e
      rw [c] at c'
      injection c' with c'
      injection c' with _ c' _
      exact hne c'
def failCs (p : List Nat) : List Value := p.flatMap fun (n : Nat) => [.int .i64 130, .int .i64 (n : Int)]
theorem failCs_snoc (p : List Nat) (n : Nat) : failCs (p ++ [n]) = failCs p ++ [.int .i64 130, .int .i64 (n : Int)] := by simp [failCs]
theorem Tinfo34 : (Tryz.prog.info? 50).map (fun i => (i.zero, i.size, i.bytes)) = some (some (.agg #[.int .i64 0, .int .i64 0]), 2, 16) := by kernel_rfl
theorem cells_new (w : World) (cs : List Value) (t : TypeId) : ∀ (j : Nat) u, cs[j]? = some u → (w.alloc (.cells cs.toArray t)).cell? ((⟨w.heap.size, 0, none⟩ : Addr).add j) = some u := by
  intro j u h
  have e : (⟨w.heap.size, 0, none⟩ : Addr).add j = ⟨w.heap.size, j, none⟩ := by simp [Addr.add]; omega
  rw [e, World.cell?_alloc_mark]
  simpa using h

theorem first_bad {l t : List UInt8} {k : Nat} (h : firstM l = some (t, true, k)) : t = badT := by
  cases l with
  | nil => cases h
  | cons c r =>
    by_cases hc : c = 38
    · subst hc
      rw [first_amp] at h
      cases hs : semi r with
      | none => rw [hs] at h; cases h
      | some j =>
        rw [hs] at h
        simp only at h
        by_cases hn : nameM (r.take j) = []
        · cases hm : numM (r.take j) with
          | none => rw [sign_none hn hm] at h; cases h
          | some n =>
            by_cases h3 : n = 0 ∨ ¬ isPt n
            · rw [sign_bad hn hm h3] at h
              injection h with h; injection h with h _; exact h.symm
            · rw [sign_point hn hm (fun g => h3 (.inl g)) (Classical.byContradiction fun g => h3 (.inr g))] at h
              injection h with h; injection h with _ h; injection h with h _; cases h
        · rw [sign_name hn] at h
          injection h with h; injection h with _ h; injection h with h _; cases h
    · rw [first_plain c r hc] at h; cases h
/-- Decode goes on at a place. -/
theorem dec_place (l : List UInt8) (pos : Nat) (h : pos < l.length) : l.drop pos = l[pos] :: l.drop (pos + 1) := List.drop_eq_getElem_cons h

set_option maxRecDepth 100000 in
set_option maxHeartbeats 8000000 in
theorem decode_any (s : ByteArray) (hs : s.size ≤ 1000000) (w : World) (hlow : Low w) :
    Calls Tryz.prog 100 #[.string s] w fun e w' => ∃ v, e = .returned (.tuple #[.string ⟨(decT 0 s.data.toList).1.toArray⟩, v]) ∧ w'.ownsRow w.heap.size 50 2 v (decT 0 s.data.toList).2.length (failCs (decT 0 s.data.toList).2) ∧ Below w.heap.size w w' := by
  obtain ⟨i0, hi, hz0, hz1, hz2⟩ := info_parts Tinfo5
  obtain ⟨i1, hi1, hy0, hy1, hy2⟩ := info_parts Tinfo34
  have HLow := Lib.hid hlow
  clear hlow
  go_enter Tryz.func100, Tryz.ntmps100
  go_wp2
  go_step3
  go_wp2_with (at_make; refine wpList_make_own _ rfl _ _ 22 rfl w.heap.size 5 i0 (.int .u8 0) 1 Tryz.underlying22 hi hz0 hz1 .i64 .i64 _ s.size rfl rfl rfl (by rw [hz2]; omega) (by unfold maxLen; omega) (Nat.le_refl _) ?_; intro w0 hown0 hgrow0)
  have hbw0 : Below w.heap.size w w0 := Below.grown (Below.refl _ _) hgrow0 (Nat.le_refl _) (fun j hj => by cases hj)
  go_step3
  go_wp2
  go_loopw [4, 5, 6] (fun v u i wr => ∃ (pos : Nat) (acc : List UInt8) (facc : List Nat), i = .int .i64 pos ∧ pos ≤ s.size ∧ wr.ownsRow w.heap.size 5 1 v acc.length (Lib.byteCells acc) ∧ wr.ownsRow w.heap.size 50 2 u facc.length (failCs facc) ∧ Below w.heap.size w wr ∧ Hid (decT 0 s.data.toList = (acc ++ (decT pos (s.data.toList.drop pos)).1, facc ++ (decT pos (s.data.toList.drop pos)).2)) ∧ acc.length ≤ pos ∧ facc.length ≤ pos) (fun _ _ i _ => s.size - (intOf i).toNat)
  case atStart => exact ⟨0, [], [], rfl, Nat.zero_le _, hown0, World.ownsRow_nil _ _ _ _, hbw0, Lib.hid rfl, Nat.le_refl _, Nat.le_refl _⟩
  case round =>
    clear hown0 hgrow0 hbw0
    obtain ⟨pos, acc, facc, rfl, hp, hown, hfow, hb, HS, hla, hlf⟩ := hrel
    by_cases hlt : pos < s.size
    · have hpl : pos < s.data.toList.length := by rw [lsize]; exact hlt
      have hdr := dec_place s.data.toList pos hpl
      have hg : s.data.toList[pos] = s[pos] := rfl
      rw [hg] at hdr
      obtain ⟨c, hc⟩ : ∃ c, s[pos] = c := ⟨_, rfl⟩
      have HC := Lib.hid hc
      rw [hc] at hdr
      obtain ⟨R, hR⟩ := text_of (s.data.toList.drop pos)
      have s1 := slice_from s R pos hp hR
      have hRs : R.size = s.size - pos := by rw [← lsize, hR, List.length_drop, lsize]
      have CF := first_hid R (by omega)
      have hLw := HLow.out.below hb
      have HLw := Lib.hid hLw
      have HR := Lib.hid hR
      have HDR := Lib.hid hdr
      have hsz := hb.size
      clear hR hdr hg hc hRs hLw
      go_wp2_with fail
      (with_reducible refine (CF.out _ HLw.out).mono ?_)
      rintro e w1 ⟨T, k, rfl, b1, hv⟩
      have hown1 := ownsRow_below hown b1
      have hfow1 := ownsRow_below hfow b1
      have hb1 := hb.trans (b1.mono hsz)
      clear hown hfow hb b1 HLw CF
      rcases hv with ⟨hn, rfl, rfl⟩ | ⟨t, b, hn, hT⟩
      · have HN : Hid (decT 0 s.data.toList = ((acc ++ [c]) ++ (decT (pos + 1) (s.data.toList.drop (pos + 1))).1, facc ++ (decT (pos + 1) (s.data.toList.drop (pos + 1))).2)) := Lib.hid (by
          rw [HR.out, HDR.out] at hn
          rw [HS.out, HDR.out, decT_plain pos c _ hn]
          simp)
        have hcc : s[pos] = c := HC.out
        have hsz1 := hb1.size
        clear hn HS HR HDR HC
        go_wp2_with (at_builtin; refine wpList_append_own _ rfl _ _ 22 rfl w.heap.size 5 i0 (.int .u8 0) 1 1 Tryz.underlying22 hi hz0 hz1 hz2 rfl (by decide) _ _ _ rfl (hown1.alloc _) ⟨w1.heap.size, 0, none⟩ 1 1 [.int .u8 (c.toNat : Int)] rfl rfl (cell_one_new _ _ _) (fun x hx => by simp at hx; subst hx; rfl) (by unfold maxLen; omega) (by omega) (by simp; omega) ?_; intro v' w3 hown3 hgrow3 hnil3)
        have hb3 : Below w.heap.size w w3 := Below.grown (hb1.alloc hsz1 _) hgrow3 (by simp; omega) (fun j hj => (hown1.lt _ hj).1)
        have hfow3 := (hfow1.alloc _).kept hgrow3 (rows_apart hfow1 hown1 (by decide))
        have hown4 : w3.ownsRow w.heap.size 5 1 v' (acc ++ [c]).length (Lib.byteCells (acc ++ [c])) := by rw [byteCells_append, byteCells_one, List.length_append]; exact hown3
        clear hown3 hgrow3 hnil3
        go_roundw
        case rel => exact ⟨pos + 1, acc ++ [c], facc, by go_num, by omega, hown4, hfow3, hb3, HN, by rw [List.length_append]; simp; omega, by omega⟩
        case measure => simp [intOf]; omega
      · have hl := first_len hn
        rw [HR.out, List.length_drop, lsize] at hl
        obtain ⟨hk4, hk10, hks, ht1, htk⟩ := hl
        have hk0 : ((k : Int) == 0) = false := by rw [beq_eq_false_iff_ne]; omega
        have hkz : (0 : Int) ≤ (k : Int) := by omega
        have HN : Hid (decT 0 s.data.toList = ((acc ++ t) ++ (decT (pos + k) (s.data.toList.drop (pos + k))).1, (facc ++ (if b = true then [pos] else [])) ++ (decT (pos + k) (s.data.toList.drop (pos + k))).2)) := Lib.hid (by
          rw [HR.out] at hn
          rw [HS.out, decT_sign pos hn, List.drop_drop]
          simp)
        have hsz1 := hb1.size
        clear HS HR HDR HC
        cases b with
        | true =>
          have et : T = ⟨#[]⟩ := text_is hT
          subst et
          have HT : Hid (t = [239, 191, 189]) := Lib.hid (first_bad hn)
          clear hn hT
          go_wp2_with (first
            | (at_builtin; refine wpList_append_own _ rfl _ _ 24 rfl w.heap.size 50 i1 (.agg #[.int .i64 0, .int .i64 0]) 2 16 Tryz.underlying24 hi1 hy0 hy1 hy2 rfl (by decide) _ _ _ rfl (hfow1.alloc _) ⟨w1.heap.size, 0, none⟩ 1 1 [.int .i64 130, .int .i64 (pos : Int)] rfl rfl (cells_new w1 [.int .i64 130, .int .i64 (pos : Int)] 50) (fun x hx => by simp at hx; rcases hx with rfl | rfl <;> rfl) (by unfold maxLen; omega) (by omega) (by simp; omega) ?_; intro v5 w5 hfow5 hgrow5 hnil5
               have hb5 : Below w.heap.size w w5 := Below.grown (hb1.alloc hsz1 _) hgrow5 (by simp; omega) (fun j hj => (hfow1.lt _ hj).1)
               have hown5 := (hown1.alloc _).kept hgrow5 (rows_apart hown1 hfow1 (by decide))
               have hsz5 := hb5.size
               clear hgrow5 hnil5)
            | (at_builtin; refine Lib.wpList_append_own_string _ rfl _ _ 22 9 rfl w.heap.size 5 i0 Tryz.underlying22 Tryz.underlying9 hi hz0 hz1 hz2 _ _ _ rfl hown5 ⟨#[239, 191, 189]⟩ rfl (by show acc.length + 3 ≤ _; unfold maxLen; omega) (by show acc.length + 3 ≤ _; omega) hsz5 ?_; intro v6 w6 hown6 hgrow6 hnil6
               have hb6 : Below w.heap.size w w6 := Below.grown hb5 hgrow6 hsz5 (fun j hj => (hown5.lt _ hj).1)
               have hfow6 := hfow5.kept hgrow6 (rows_apart hfow5 hown5 (by decide))
               have hown7 : w6.ownsRow w.heap.size 5 1 v6 (acc ++ [239, 191, 189]).length (Lib.byteCells (acc ++ [239, 191, 189])) := by rw [byteCells_append, List.length_append]; exact hown6
               clear hgrow6 hnil6 hown6))
          have hfow7 : w6.ownsRow w.heap.size 50 2 v5 (facc ++ [pos]).length (failCs (facc ++ [pos])) := by rw [failCs_snoc, List.length_append]; exact hfow6
          clear hfow6 hfow5 hown5
          go_roundw
          case rel => exact ⟨pos + k, acc ++ [239, 191, 189], facc ++ [pos], by go_num, by omega, hown7, hfow7, hb6, by rw [← HT.out]; exact HN, by rw [List.length_append]; simp; omega, by rw [List.length_append]; simp; omega⟩
          case measure => simp [intOf]; omega
        | false =>
          have hTt : T.data.toList = t := hT
          have hTs : T.size = t.length := by rw [← lsize, hTt]
          have hne : T.toList.isEmpty = false := by
            rw [text_empty, hTt]
            cases t with
            | nil => simp at ht1
            | cons a r => rfl
          have HT := Lib.hid hTt
          have hTs1 : T.size ≤ k := by omega
          clear hn hT hTt hTs
          go_wp2_with (at_builtin; refine Lib.wpList_append_own_string _ rfl _ _ 22 9 rfl w.heap.size 5 i0 Tryz.underlying22 Tryz.underlying9 hi hz0 hz1 hz2 _ _ _ rfl hown1 T rfl (by unfold maxLen; omega) (by omega) hsz1 ?_; intro v6 w6 hown6 hgrow6 hnil6
                       have hb6 : Below w.heap.size w w6 := Below.grown hb1 hgrow6 hsz1 (fun j hj => (hown1.lt _ hj).1)
                       have hfow6 := hfow1.kept hgrow6 (rows_apart hfow1 hown1 (by decide))
                       have hown7 : w6.ownsRow w.heap.size 5 1 v6 (acc ++ t).length (Lib.byteCells (acc ++ t)) := by rw [byteCells_append, List.length_append, ← HT.out, lsize]; exact hown6
                       clear hgrow6 hnil6 hown6)
          go_roundw
          case rel => exact ⟨pos + k, acc ++ t, facc, by go_num, by omega, hown7, hfow6, hb6, Lib.hid (by simpa using HN.out), by rw [List.length_append]; omega, by omega⟩
          case measure => simp [intOf]; omega
    · obtain rfl : pos = s.size := by omega
      have HE : Hid (decT 0 s.data.toList = (acc, facc)) := Lib.hid (by
        rw [HS.out, show s.data.toList.drop s.size = [] by rw [← lsize]; simp, decT_nil]
        simp)
      have hconv := conv_row hown
      clear HS
      go_wp2
      rw [Exit.noGoto_ret]
      go_ret2
      exact ⟨_, by rw [HE.out]; rfl, by rw [HE.out]; exact hfow, hb⟩

end Go.Proofs.YtfbhpmafjehojaaGreatDoor

namespace Go.Proofs.YtfbhpmafjehojaaGreatDoor
open Go.RowKit

/-- A slice of Fails at these places. -/
def FailsIn (w : World) (v : Value) (p : List Nat) : Prop :=
  ((∃ a c, v = .slice a 0 c) ∧ p = []) ∨ ∃ B off cap, v = .slice (some ⟨B, off, none⟩) p.length cap ∧ ∀ i, (h : i < p.length) → w.cell? ⟨B, off + i * 2, none⟩ = some (.int .i64 130) ∧ w.cell? ⟨B, off + i * 2 + 1, none⟩ = some (.int .i64 (p[i] : Int))
theorem FailsIn.below {w w' : World} {v : Value} {p : List Nat} (h : FailsIn w v p) (hb : Below w.heap.size w w') : FailsIn w' v p := by
  rcases h with h | ⟨B, off, cap, h1, h2⟩
  · exact .inl h
  · exact .inr ⟨B, off, cap, h1, fun i hi => ⟨by rw [hb.cell (lt_of_cell (h2 i hi).1)]; exact (h2 i hi).1, by rw [hb.cell (lt_of_cell (h2 i hi).2)]; exact (h2 i hi).2⟩⟩
theorem FailsIn.form {w : World} {v : Value} {p : List Nat} (h : FailsIn w v p) : ∃ a c, v = .slice a p.length c := by
  rcases h with ⟨⟨a, c, rfl⟩, rfl⟩ | ⟨B, off, cap, rfl, _⟩
  · exact ⟨_, _, rfl⟩
  · exact ⟨_, _, rfl⟩
theorem failCs_at : ∀ (p : List Nat) (i : Nat) (h : i < p.length), (failCs p)[i * 2]? = some (.int .i64 130) ∧ (failCs p)[i * 2 + 1]? = some (.int .i64 (p[i] : Int))
  | a :: r, 0, _ => ⟨rfl, rfl⟩
  | a :: r, i + 1, h => by
    have := failCs_at r i (by simpa using h)
    rw [show failCs (a :: r) = [.int .i64 130, .int .i64 (a : Int)] ++ failCs r from rfl]
    rw [List.getElem?_append_right (by simp; omega), List.getElem?_append_right (by simp; omega)]
    simp only [List.length_cons, List.length_nil, List.getElem_cons_succ]
    rw [show (i + 1) * 2 - (0 + 1 + 1) = i * 2 by omega, show (i + 1) * 2 + 1 - (0 + 1 + 1) = i * 2 + 1 by omega]
    exact this
theorem FailsIn.of_row {w : World} {base : Nat} {v : Value} {p : List Nat} (h : w.ownsRow base 50 2 v p.length (failCs p)) : FailsIn w v p := by
  rcases rowForms h with ⟨h1, h2⟩ | ⟨g, cap, rfl⟩
  · exact .inl ⟨⟨_, _, h1⟩, List.length_eq_zero_iff.1 h2⟩
  · refine .inr ⟨g, 0, cap, rfl, fun i hi => ?_⟩
    obtain ⟨e1, e2⟩ := failCs_at p i hi
    rw [Nat.zero_add, h.cellAt (i * 2) (by omega), h.cellAt (i * 2 + 1) (by omega)]
    exact ⟨e1, e2⟩
theorem FailsIn.made (w : World) (p : List Nat) (C : Array Value) (hC : C = (failCs p).toArray) (n : Nat) (hn : n = p.length) : FailsIn (w.alloc (.cells C 50)) (.slice (some ⟨w.heap.size, 0, none⟩) n n) p := by
  subst hn hC
  refine .inr ⟨_, _, _, rfl, fun i hi => ?_⟩
  obtain ⟨e1, e2⟩ := failCs_at p i hi
  rw [World.cell?_alloc_mark, World.cell?_alloc_mark, Nat.zero_add]
  simpa using ⟨e1, e2⟩

end Go.Proofs.YtfbhpmafjehojaaGreatDoor
