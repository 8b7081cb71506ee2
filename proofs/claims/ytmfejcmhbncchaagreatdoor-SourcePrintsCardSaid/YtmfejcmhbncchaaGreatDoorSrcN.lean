/- Rows of sources; words are parsed as a row of sources: the program's List. -/
import Derived.Test.YtmfejcmhbncchaaGreatDoorSrcM
import Derived.Test.YtmfejcmhbncchaaGreatDoorMarkZ
namespace Go.Proofs.YtmfejcmhbncchaaGreatDoor
open Go.RowKit

/-- A source's cells, and a row's. -/
def srcC (a : Src) : List Value := [.int .i64 a.k, strV a.t, strV a.s, strV a.h, .bool a.w, .int .i64 a.p, strV a.pa]
def srcCs (L : List Src) : List Value := L.flatMap srcC
def srcA (a : Src) : Value := .agg (srcC a).toArray
theorem strV_of (t : ByteArray) : strV t.data.toList = .string t := by unfold strV; exact congrArg Value.string (text_is rfl).symm
theorem srcC_M (k : Int) (t s h : ByteArray) (b : Bool) (p : Int) (pa : ByteArray) : srcC (srcM k t s h b p pa) = [.int .i64 k, .string t, .string s, .string h, .bool b, .int .i64 p, .string pa] := by
  unfold srcC srcM
  simp only [strV_of]
theorem srcCs_len (L : List Src) : (srcCs L).length = L.length * 7 := by
  unfold srcCs
  induction L with
  | nil => rfl
  | cons a L ih => rw [List.flatMap_cons, List.length_append, ih, List.length_cons]; simp [srcC]; omega
theorem srcCs_snoc (L : List Src) (a : Src) : srcCs (L ++ [a]) = srcCs L ++ srcC a := by unfold srcCs; rw [List.flatMap_append]; simp
theorem srcCs_at (L : List Src) (i j : Nat) (hi : i < L.length) (hj : j < 7) : (srcCs L)[i * 7 + j]? = (srcC L[i])[j]? := by
  induction L generalizing i with
  | nil => cases hi
  | cons a L ih =>
    have hl : (srcC a).length = 7 := rfl
    cases i with
    | zero =>
      unfold srcCs
      rw [List.flatMap_cons, List.getElem?_append_left (by omega)]
      simp
    | succ i =>
      unfold srcCs
      rw [List.flatMap_cons, List.getElem?_append_right (by omega), hl, show (i + 1) * 7 + j - 7 = i * 7 + j by omega]
      have := ih i (by simpa using hi)
      simpa [srcCs] using this
theorem listS_snoc (L : List (List UInt8)) (l : List UInt8) : listS (L ++ [l]) = match parseS l with | some a => listS L ++ [a] | none => listS L := by
  rw [listS_append]
  cases h : parseS l with
  | none => simp [listS, h]
  | some a => simp [listS, h]
theorem TinfoSrc : (Tryz.prog.info? 24).map (fun i => (i.zero, i.size, i.bytes)) = some (some (.agg #[.int .i64 0, .string ⟨#[]⟩, .string ⟨#[]⟩, .string ⟨#[]⟩, .bool false, .int .i64 0, .string ⟨#[]⟩]), 7, 88) := by kernel_rfl
/-- A slice of sources that reads as this list. -/
def SrcsIn (w : World) (v : Value) (L : List Src) : Prop :=
  ((∃ a c, v = .slice a 0 c) ∧ L = []) ∨ ∃ B off cap, v = .slice (some ⟨B, off, none⟩) L.length cap ∧ ∀ i, (h : i < L.length) → ∀ j u, (srcC L[i])[j]? = some u → w.cell? ⟨B, off + i * 7 + j, none⟩ = some u
theorem SrcsIn.below {w w' : World} {v : Value} {L : List Src} (h : SrcsIn w v L) (hb : Below w.heap.size w w') : SrcsIn w' v L := by
  rcases h with h | ⟨B, off, cap, h1, h2⟩
  · exact .inl h
  · exact .inr ⟨B, off, cap, h1, fun i hi j u hu => by rw [hb.cell (lt_of_cell (h2 i hi j u hu))]; exact h2 i hi j u hu⟩
theorem SrcsIn.form {w : World} {v : Value} {L : List Src} (h : SrcsIn w v L) : ∃ a c, v = .slice a L.length c := by
  rcases h with ⟨⟨a, c, rfl⟩, rfl⟩ | ⟨B, off, cap, rfl, _⟩
  · exact ⟨_, _, rfl⟩
  · exact ⟨_, _, rfl⟩
theorem SrcsIn.of_row {w : World} {base : Nat} {v : Value} {L : List Src} (h : w.ownsRow base 24 7 v L.length (srcCs L)) : SrcsIn w v L := by
  rcases rowForms h with ⟨h1, h2⟩ | ⟨g, cap, rfl⟩
  · exact .inl ⟨⟨_, _, h1⟩, List.length_eq_zero_iff.1 h2⟩
  · refine .inr ⟨g, 0, cap, rfl, fun i hi j u hu => ?_⟩
    have hj : j < 7 := by
      have := (List.getElem?_eq_some_iff.1 hu).1
      exact this
    have hl := srcCs_len L
    rw [Nat.zero_add, h.cellAt (i * 7 + j) (by omega), srcCs_at L i j hi hj, hu]
theorem cell_src (w : World) (c : List Value) (t : TypeId) : ∀ j u, c[j]? = some u → (w.alloc (.cells c.toArray t)).cell? ((⟨w.heap.size, 0, none⟩ : Addr).add j) = some u := by
  intro j u hj
  have e : (⟨w.heap.size, 0, none⟩ : Addr).add j = ⟨w.heap.size, j, none⟩ := by simp [Addr.add]; omega
  rw [e, World.cell?_alloc_mark, ← hj]
  simp

set_option maxRecDepth 100000 in
set_option maxHeartbeats 4000000 in
theorem listP_any (Q : List (List UInt8)) (v : Value) (hl : ∀ l ∈ Q, l.length ≤ 10000) (hn : Q.length ≤ 1000000) (w : World) (hw : Low w) (hv : TextsIn w v Q) :
    Calls Tryz.prog 17 #[v] w fun e w' => ∃ u, e = .returned u ∧ w'.ownsRow w.heap.size 24 7 u (listS Q).length (srcCs (listS Q)) ∧ Below w.heap.size w w' := by
  obtain ⟨a0, c0, rfl⟩ := hv.form
  have HV := Lib.hid hv
  have HW := Lib.hid hw
  have HL := Lib.hid hl
  clear hv hw hl
  go_enter Tryz.func17, Tryz.ntmps17
  go_wp2
  have hown0 := World.ownsRow_lit (e := 24) (size := 7) (base := w.heap.size) w #[] 0 (Nat.le_refl _) (Nat.zero_le _) rfl
  have B0 : Below w.heap.size w (w.alloc (.cells #[] 24)) := (Below.refl _ _).alloc (Nat.le_refl _) _
  obtain ⟨i0, hi, hz0, hz1, hz2⟩ := info_parts TinfoSrc
  generalize (Value.slice (some ⟨w.heap.size, 0, none⟩) 0 0) = v0 at hown0 ⊢
  generalize w.alloc (.cells #[] 24) = w0 at hown0 B0 ⊢
  go_loopw [3, 11] (fun u i wr => ∃ k : Nat, k ≤ Q.length ∧ i = .int .i64 k ∧ wr.ownsRow w.heap.size 24 7 u (listS (Q.take k)).length (srcCs (listS (Q.take k))) ∧ Below w.heap.size w wr) (fun _ i _ => Q.length - (intOf i).toNat)
  case atStart => exact ⟨0, Nat.zero_le _, rfl, hown0, B0⟩
  case round =>
    obtain ⟨k, hk, rfl, hown, hb⟩ := hrel
    by_cases hlt : k < Q.length
    · have hvr := HV.out.below hb
      obtain ⟨Wt, hWt⟩ : ∃ T : ByteArray, T.data.toList = Q[k] := ⟨⟨Q[k].toArray⟩, rfl⟩
      have hWs : Wt.size ≤ 10000 := by rw [← lsize, hWt]; exact HL.out _ (List.getElem_mem hlt)
      obtain ⟨A, off, cap, hsl, hcell⟩ : ∃ B off cap, Value.slice a0 Q.length c0 = .slice (some ⟨B, off, none⟩) Q.length cap ∧ wr.cell? ⟨B, off + k, none⟩ = some (.string Wt) := by
        rcases hvr with ⟨_, h2⟩ | ⟨B, off, cap, h1, h2⟩
        · rw [h2] at hlt; cases hlt
        · refine ⟨B, off, cap, h1, ?_⟩
          rw [h2 k hlt, ← hWt, strV_of]
      injection hsl with e1 _ e3
      subst e1; subst e3
      have hadd : (⟨A, off, none⟩ : Addr).add k = ⟨A, off + k, none⟩ := by simp [Addr.add]
      obtain ⟨K, t, s, h, b, p, pa, r, hM, hsome, CP⟩ := parseS_to Wt hWs
      rw [hWt] at hM hsome
      have HN : Hid (listS (Q.take (k + 1)) = if r then listS (Q.take k) ++ [srcM K t s h b p pa] else listS (Q.take k)) := Lib.hid (by
        rw [List.take_succ_eq_append_getElem hlt, listS_snoc]
        cases hp : parseS Q[k] with
        | none => rw [hp] at hsome; subst hsome; rfl
        | some a => rw [hp] at hsome hM; subst hsome; rw [hM]; rfl)
      have hlen := listS_length (Q.take k)
      rw [List.length_take] at hlen
      have hLw : Low wr := HW.out.below hb
      clear hM hsome hWt hWs hvr
      cases r
      · go_wp2_with fail
        refine (CP.out _ hLw).mono ?_
        rintro e w1 ⟨rfl, b1⟩
        have hown1 := ownsRow_below hown b1
        have hb1 := hb.trans (b1.mono hb.size)
        clear hown hb b1 hLw
        have HN2 : Hid (listS (Q.take (k + 1)) = listS (Q.take k)) := Lib.hid HN.out
        have hown2 := ownsRow_below hown1 ((Below.refl _ _).alloc (Nat.le_refl _) (.cells #[.int .i64 K, .string t, .string s, .string h, .bool b, .int .i64 p, .string pa] 24))
        have hb2 := hb1.alloc hb1.size (.cells #[.int .i64 K, .string t, .string s, .string h, .bool b, .int .i64 p, .string pa] 24)
        unfold srcV
        go_wp2
        go_roundw
        case rel => exact ⟨k + 1, by omega, by go_num, by rw [HN2.out]; exact hown2, hb2⟩
        case measure => simp [intOf]; omega
      · go_wp2_with fail
        refine (CP.out _ hLw).mono ?_
        rintro e w1 ⟨rfl, b1⟩
        have hown1 := ownsRow_below hown b1
        have hb1 := hb.trans (b1.mono hb.size)
        clear hown hb b1 hLw
        have HN2 : Hid (listS (Q.take (k + 1)) = listS (Q.take k) ++ [srcM K t s h b p pa]) := Lib.hid HN.out
        have x2 := SX.made w1 K t s h b p pa
        have hown2 := ownsRow_below hown1 ((Below.refl _ _).alloc (Nat.le_refl _) (.cells #[.int .i64 K, .string t, .string s, .string h, .bool b, .int .i64 p, .string pa] 24))
        have hb2 := hb1.alloc hb1.size (.cells #[.int .i64 K, .string t, .string s, .string h, .bool b, .int .i64 p, .string pa] 24)
        unfold srcV
        have HNEW := cell_src (w1.alloc (.cells #[.int .i64 K, .string t, .string s, .string h, .bool b, .int .i64 p, .string pa] 24)) [.int .i64 K, .string t, .string s, .string h, .bool b, .int .i64 p, .string pa] 24
        rw [size_allocS] at HNEW
        have hsz := size_allocS w1 (.cells #[.int .i64 K, .string t, .string s, .string h, .bool b, .int .i64 p, .string pa] 24)
        go_wp2_with (at_builtin; refine wpList_append_own _ rfl _ _ 26 rfl w.heap.size 24 i0 (.agg #[.int .i64 0, .string ⟨#[]⟩, .string ⟨#[]⟩, .string ⟨#[]⟩, .bool false, .int .i64 0, .string ⟨#[]⟩]) 7 88 Tryz.underlying26 hi hz0 hz1 hz2 rfl (by decide) _ _ _ rfl (hown2.alloc _) ⟨w1.heap.size + 1, 0, none⟩ 1 1 [.int .i64 K, .string t, .string s, .string h, .bool b, .int .i64 p, .string pa] rfl rfl HNEW (fun u hu => by simp at hu; rcases hu with rfl | rfl | rfl | rfl | rfl | rfl | rfl <;> rfl) (by unfold maxLen; omega) (by omega) (by have := hb2.size; simp only [size_allocS]; simp only [size_allocS] at this; omega) ?_; intro v' w5 hown' hgrow5 hnil5
                     have hb5 : Below w.heap.size w w5 := Below.grown (hb2.alloc hb2.size _) hgrow5 (by have := hb2.size; simp only [size_allocS]; simp only [size_allocS] at this; omega) (fun j hj => by have := (hown2.lt _ hj).1; omega)
                     have X : AsideM (w5.ownsRow w.heap.size 24 7 v' ((listS (Q.take k)).length + 1) (srcCs (listS (Q.take k)) ++ [.int .i64 K, .string t, .string s, .string h, .bool b, .int .i64 p, .string pa]) ∧ Below w.heap.size w w5) := ⟨hown', hb5⟩
                     clear hown' hgrow5 hnil5)
        go_roundw
        case rel => exact ⟨k + 1, by omega, by go_num, by rw [HN2.out, List.length_append, srcCs_snoc, srcC_M]; exact X.out.1, X.out.2⟩
        case measure => simp [intOf]; omega
    · obtain rfl : k = Q.length := by omega
      have hown2 : wr.ownsRow w.heap.size 24 7 u3 (listS Q).length (srcCs (listS Q)) := by
        rw [List.take_length] at hown; exact hown
      clear hown
      go_wp2
      go_ret
      exact ⟨_, rfl, hown2, hb⟩

theorem printL_hid (k : Int) (t s h : ByteArray) (b : Bool) (p : Int) (pa : ByteArray) (lt : t.size ≤ 100000) (hs : s.size ≤ 100000) (hh : h.size ≤ 100000) (hpa : pa.size ≤ 100000) (r : Bool) (hr : rightS (srcM k t s h b p pa) = r) (T : ByteArray) (hT : T.data.toList = if r then wordS (srcM k t s h b p pa) else []) : Hid (∀ W, Low W → Calls Tryz.prog 9 #[srcV k t s h b p pa] W fun e w' => e = .returned (.tuple #[.string T, .bool r]) ∧ Below W.heap.size W w') := Lib.hid fun W hw => (printS_hid k t s h b p pa lt hs hh hpa r hr T hT).out W hw.m hw.t hw.k

end Go.Proofs.YtmfejcmhbncchaaGreatDoor
