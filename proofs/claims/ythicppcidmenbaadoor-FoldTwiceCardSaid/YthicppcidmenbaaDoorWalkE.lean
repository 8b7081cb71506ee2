/- Parts: the document's, and the program's. -/
import Derived.Test.YthicppcidmenbaaDoorWalkD
namespace Go.Proofs.YthicppcidmenbaaDoor
open Go.RowKit

/-- Where the document's Parts is. -/
def PAt (l : List UInt8) (c : UInt8) (fr k : Nat) (acc : List (List UInt8)) : Prop := (k ≤ l.length ∧ PartsTo l c fr k acc) ∨ (k = l.length + 1 ∧ acc = parts l c ∧ acc.length ≤ l.length + 1)

theorem int_beq (a c : UInt8) : (((a.toNat : Nat) : Int) == ((c.toNat : Nat) : Int)) = (a == c) := by
  rw [Bool.eq_iff_iff]
  simp [← UInt8.toNat_inj]
  omega

set_option maxRecDepth 100000 in
set_option maxHeartbeats 2000000 in
theorem refParts_any (s : ByteArray) (c : UInt8) (w : World) (hs : s.size ≤ 1099511627776) :
    Calls Tryd.prog 18 #[.string s, .int .u8 (c.toNat : Int)] w fun e w' => ∃ v, e = .returned v ∧ TextsIn w' v (parts s.data.toList c) ∧ Below w.heap.size w w' := by
  obtain ⟨i0, hi, hz0, hz1, hz2⟩ := info_parts Tinfo9
  have hll := lsize s
  have HLL := Lib.hid hll
  clear hll
  go_enter Tryd.func18, Tryd.ntmps18
  go_wp2
  go_loopw [5, 6, 7] (fun v f i wr => ∃ (fr k : Nat) (acc : List (List UInt8)), f = .int .i64 fr ∧ i = .int .i64 k ∧ k ≤ s.size + 1 ∧ fr ≤ k ∧ wr.ownsRow w.heap.size 9 1 v acc.length (txtCells acc) ∧ Below w.heap.size w wr ∧ Hid (PAt s.data.toList c fr k acc)) (fun _ _ i _ => s.size + 1 - (intOf i).toNat)
  case atStart => exact ⟨0, 0, [], rfl, rfl, Nat.zero_le _, Nat.le_refl _, World.ownsRow_nil w w.heap.size 9 1, Below.refl _ _, Lib.hid (.inl ⟨Nat.zero_le _, partsTo_start _ _⟩)⟩
  case round =>
    obtain ⟨fr, k, acc, rfl, rfl, hk, hfk, hown, hbw, HW⟩ := hrel
    by_cases hend : k = s.size + 1
    · subst hend
      have e : acc = parts s.data.toList c := by
        rcases HW.out with ⟨h1, _⟩ | ⟨_, h2, _⟩
        · rw [HLL.out] at h1; omega
        · exact h2
      have hv := TextsIn.of_row hown
      have HV : Hid (TextsIn wr u5 (parts s.data.toList c)) := by rw [← e]; exact Lib.hid hv
      clear e hv hown
      go_wp2
      go_ret
      exact ⟨_, rfl, HV.out, hbw⟩
    · have hk2 : k ≤ s.size := by omega
      have HT : Hid (PartsTo s.data.toList c fr k acc) := Lib.hid (by
        rcases HW.out with ⟨_, h1⟩ | ⟨h1, _⟩
        · exact h1
        · rw [HLL.out] at h1; omega)
      have hacc : acc.length ≤ s.size := by have := HT.out.few; omega
      clear HW hend
      have happ : ∀ (t : ByteArray) (W : World) (v' : Value), W.ownsRow w.heap.size 9 1 v' (acc.length + 1) (txtCells acc ++ [.string t]) → W.ownsRow w.heap.size 9 1 v' (acc ++ [t.data.toList]).length (txtCells (acc ++ [t.data.toList])) := fun t W v' h => by
        rw [txtCells_snoc, List.length_append]; exact h
      have HA := Lib.hid happ
      clear happ
      have ct := fun W => refTrim_any (s.extract fr k) W (by simp; omega)
      obtain ⟨T, hT⟩ : ∃ T : ByteArray, T = ⟨(trim (s.extract fr k).data.toList).toArray⟩ := ⟨_, rfl⟩
      rw [← hT] at ct
      have hT2 : T.data.toList = trim ((s.data.toList.drop fr).take (k - fr)) := by rw [hT, ← extract_toList]
      have CT := Lib.hid ct
      have HT2 := Lib.hid hT2
      clear ct hT hT2
      by_cases hlt : k < s.size
      · have hkn : ((k : Int) == (s.size : Int)) = false := by simp; omega
        obtain ⟨b, hb1, _, rfl⟩ := at_some hlt
        have hq := int_beq s[k] c
        cases hbl : (s[k] == c)
        · have HN : Hid (PAt s.data.toList c fr (k + 1) acc) := Lib.hid (.inl ⟨by rw [HLL.out]; omega, partsTo_in HT.out hb1 hbl⟩)
          rw [hbl] at hq
          clear hbl hb1 HT
          go_wp2
          go_roundw
          case rel => exact ⟨fr, k + 1, acc, rfl, by go_num, by omega, by omega, hown, hbw, HN⟩
          case measure => simp [intOf]; omega
        · rw [hbl] at hq
          have HN : Hid (PAt s.data.toList c (k + 1) (k + 1) (acc ++ [T.data.toList])) := Lib.hid (.inl ⟨by rw [HLL.out]; omega, by rw [HT2.out]; exact partsTo_hit HT.out hb1 hbl⟩)
          clear hbl hb1 HT
          go_wp2_with (first
            | (go_at_call 11; refine (CT.out _).mono ?_; rintro e w' ⟨rfl, rfl⟩)
            | (at_builtin; refine wpList_append_own _ rfl _ _ 26 rfl w.heap.size 9 i0 (.string ⟨#[]⟩) 1 16 Tryd.underlying26 hi hz0 hz1 hz2 rfl (by decide) _ _ _ rfl (hown.alloc _) ⟨wr.heap.size, 0, none⟩ 1 1 [.string T] rfl rfl (cell_one_new _ _ _) (fun x hx => by simp at hx; subst hx; rfl) (by unfold maxLen; omega) (by omega) (by have := hbw.size; simp; omega) ?_; intro v' w3 hown' hgrow3 hnil3
               have hbw3 : Below w.heap.size w w3 := Below.grown (hbw.alloc (by have := hbw.size; omega) _) hgrow3 (by have := hbw.size; simp; omega) (fun j hj => by have := (hown.lt _ hj).1; omega)
               have X : Aside (w3.ownsRow w.heap.size 9 1 v' (acc.length + 1) (txtCells acc ++ [.string T]) ∧ Below w.heap.size w w3) := ⟨hown', hbw3⟩
               clear hown' hgrow3 hnil3))
          go_roundw
          case rel => exact ⟨k + 1, k + 1, acc ++ [T.data.toList], by go_num, by go_num, by omega, Nat.le_refl _, HA.out _ _ _ X.out.1, X.out.2, HN⟩
          case measure => simp [intOf]; omega
      · obtain rfl : k = s.size := by omega
        have hkn : ((s.size : Int) == (s.size : Int)) = true := by simp
        have HN : Hid (PAt s.data.toList c (s.size + 1) (s.size + 1) (acc ++ [T.data.toList])) := Lib.hid (.inr ⟨by rw [HLL.out], by
            have h := HT.out
            rw [HT2.out]
            rw [← HLL.out] at h ⊢
            exact partsTo_end h, by
            have := HT.out.few; rw [HLL.out]; simp; omega⟩)
        clear HT
        go_wp2_with (first
          | (go_at_call 11; refine (CT.out _).mono ?_; rintro e w' ⟨rfl, rfl⟩)
          | (at_builtin; refine wpList_append_own _ rfl _ _ 26 rfl w.heap.size 9 i0 (.string ⟨#[]⟩) 1 16 Tryd.underlying26 hi hz0 hz1 hz2 rfl (by decide) _ _ _ rfl (hown.alloc _) ⟨wr.heap.size, 0, none⟩ 1 1 [.string T] rfl rfl (cell_one_new _ _ _) (fun x hx => by simp at hx; subst hx; rfl) (by unfold maxLen; omega) (by omega) (by have := hbw.size; simp; omega) ?_; intro v' w3 hown' hgrow3 hnil3
             have hbw3 : Below w.heap.size w w3 := Below.grown (hbw.alloc (by have := hbw.size; omega) _) hgrow3 (by have := hbw.size; simp; omega) (fun j hj => by have := (hown.lt _ hj).1; omega)
             have X : Aside (w3.ownsRow w.heap.size 9 1 v' (acc.length + 1) (txtCells acc ++ [.string T]) ∧ Below w.heap.size w w3) := ⟨hown', hbw3⟩
             clear hown' hgrow3 hnil3))
        go_roundw
        case rel => exact ⟨s.size + 1, s.size + 1, acc ++ [T.data.toList], by go_num, by go_num, by omega, Nat.le_refl _, HA.out _ _ _ X.out.1, X.out.2, HN⟩
        case measure => simp [intOf]

/-! The program's. -/
theorem mem_len (L : List (List UInt8)) (x : List UInt8) (h : x ∈ L) : x.length ≤ (L.map List.length).sum := by
  induction L with
  | nil => cases h
  | cons a L ih =>
    rcases List.mem_cons.1 h with rfl | h
    · simp
    · have := ih h; simp; omega
theorem cut_len (p : UInt8 → Bool) (l : List UInt8) (x : List UInt8) (h : x ∈ cut p l) : x.length ≤ l.length := by
  have h1 := mem_len _ x h
  have h2 := cut_total p l
  omega
def mixT (L : List (List UInt8)) (k : Nat) : List (List UInt8) := (L.take k).map trim ++ L.drop k
theorem mixT_length (L : List (List UInt8)) (k : Nat) : (mixT L k).length = L.length := by
  simp only [mixT, List.length_append, List.length_map, List.length_take, List.length_drop]; omega
theorem mixT_zero (L : List (List UInt8)) : mixT L 0 = L := by simp [mixT]
theorem mixT_all (L : List (List UInt8)) : mixT L L.length = L.map trim := by simp [mixT]
theorem mixT_at (L : List (List UInt8)) (k : Nat) (h : k < L.length) : (mixT L k)[k]? = some L[k] := by
  unfold mixT
  rw [List.getElem?_append_right (by simp; omega)]
  simp only [List.length_map, List.length_take, List.getElem?_drop]
  rw [← List.getElem?_eq_getElem h]; congr 1; omega
theorem dropT_cons {L : List (List UInt8)} {k : Nat} (h : k < L.length) : L.drop k = L[k] :: L.drop (k + 1) := List.drop_eq_getElem_cons h
theorem mixT_succ (L : List (List UInt8)) (k : Nat) (h : k < L.length) : mixT L (k + 1) = (mixT L k).set k (trim L[k]) := by
  have hl : ((L.take k).map trim).length = k := by simp; omega
  unfold mixT
  rw [List.set_append_right _ _ (by omega), hl, Nat.sub_self, dropT_cons h, List.set_cons_zero]
  rw [List.take_succ_eq_append_getElem h, List.map_append, List.append_assoc]
  rfl
theorem txtCells_set (L : List (List UInt8)) (k : Nat) (x : List UInt8) : txtCells (L.set k x) = (txtCells L).set k (strV x) := by
  unfold txtCells; rw [List.map_set]

theorem split_lists (s : ByteArray) (c : UInt8) : (Lib.splitB ⟨#[c]⟩ 0 (Lib.countB s ⟨#[c]⟩) s).map (fun t : ByteArray => t.data.toList) = cut (· == c) s.data.toList := by
  rw [Lib.splitB_data]
  exact splitK_cut c _ _ (by
    show s.data.toList.count c ≤ Lib.count s.data.toList [c]
    rw [Lib.count_one]; exact Nat.le_refl _)
theorem split_cells (s : ByteArray) (c : UInt8) : (Lib.splitB ⟨#[c]⟩ 0 (Lib.countB s ⟨#[c]⟩) s).map Value.string = txtCells (cut (· == c) s.data.toList) := by
  rw [← split_lists]
  unfold txtCells
  rw [List.map_map]
  rfl
theorem split_count (s : ByteArray) (c : UInt8) : Lib.countB s ⟨#[c]⟩ + 1 = (cut (· == c) s.data.toList).length := by
  rw [cut_length]
  show Lib.count s.data.toList [c] + 1 = s.data.toList.count c + 1
  rw [Lib.count_one]

/-- 'string(b)' of a new row of bytes. -/
theorem conv_new (w : World) (zs : List Int) (l : List UInt8) (n : Nat) (hn : n = l.length) (hl : l.map (fun b => (b.toNat : Int)) = zs) (c : Nat) (C : Array Value) (hC : C = (zs.map (Value.int .u8)).toArray) :
    (convert 32 9 (.slice (some ⟨w.heap.size, 0, none⟩) n c)).run Tryd.prog (w.alloc (.cells C 5)) = .ok (.string ⟨l.toArray⟩) (w.alloc (.cells C 5)) := by
  subst hn
  refine run_convert_bytes_back (P := Tryd.prog) _ 32 9 5 ⟨w.heap.size, 0, none⟩ c l Tryd.underlying32 Tryd.underlying5 Tryd.underlying9 (fun j hj => ?_)
  have e : (⟨w.heap.size, 0, none⟩ : Addr).add j = ⟨w.heap.size, j, none⟩ := by simp [Addr.add]; omega
  rw [e, World.cell?_alloc_mark, hC, ← hl]
  simp [List.getElem?_eq_getElem hj]

/-- The library's own variable holds a number. -/
def MaxIn (w : World) : Prop := ∃ m, w.cell? ⟨2, 0, none⟩ = some (.int .i64 m)
theorem MaxIn.below {w w' : World} (h : MaxIn w) (hb : Below w.heap.size w w') : MaxIn w' := by
  obtain ⟨m, hm⟩ := h
  exact ⟨m, by rw [hb.cell (lt_of_cell hm)]; exact hm⟩

theorem split_any (s : ByteArray) (c : UInt8) (W : World) (hs : s.size < 4294967281) (hm : MaxIn W) :
    Calls Tryd.prog 24 #[.string s, .string ⟨#[c]⟩] W fun e w' => e = .returned (.slice (some ⟨W.heap.size, 0, none⟩) (cut (· == c) s.data.toList).length (cut (· == c) s.data.toList).length) ∧
      w'.ownsRow W.heap.size 9 1 (.slice (some ⟨W.heap.size, 0, none⟩) (cut (· == c) s.data.toList).length (cut (· == c) s.data.toList).length) (cut (· == c) s.data.toList).length (txtCells (cut (· == c) s.data.toList)) ∧ Below W.heap.size W w' := by
  obtain ⟨m, hm⟩ := hm
  have h := Tryd.strings_Split s ⟨#[c]⟩ m W hs hm (show 1 ≤ 1 from Nat.le_refl 1)
  have hlen : s.data.toList.length < 4294967281 := by rw [lsize]; exact hs
  have h2 := cut_total (· == c) s.data.toList
  have h3 := cut_length (· == c) s.data.toList
  rw [split_cells, split_count] at h
  refine h.mono fun e w' ⟨he, hw⟩ => ⟨he, ?_, ?_⟩
  · rw [hw]
    have := World.ownsRow_lit (e := 9) (size := 1) (base := W.heap.size) W (txtCells (cut (· == c) s.data.toList)).toArray (cut (· == c) s.data.toList).length (Nat.le_refl _) (by unfold maxLen; omega) (by simp [txtCells])
    simpa using this
  · rw [hw]
    exact (Below.refl _ _).alloc (Nat.le_refl _) _

set_option maxRecDepth 100000 in
set_option maxHeartbeats 2000000 in
theorem parts_any (s : ByteArray) (c : UInt8) (w : World) (hs : s.size ≤ 1000000000) (hm : MaxIn w) :
    Calls Tryd.prog 17 #[.string s, .int .u8 (c.toNat : Int)] w fun e w' => ∃ v, e = .returned v ∧ TextsIn w' v (parts s.data.toList c) ∧ Below w.heap.size w w' := by
  have hconv := conv_new w [(c.toNat : Int)] [c] 1 rfl rfl 1 #[.int .u8 (c.toNat : Int)] rfl
  have hsp := split_any s c (w.alloc (.cells #[.int .u8 (c.toNat : Int)] 5)) (by omega) (hm.below ((Below.refl _ _).alloc (Nat.le_refl _) _))
  have hcl : ∀ x ∈ cut (· == c) s.data.toList, x.length ≤ 1000000000 := fun x hx => by have := cut_len _ _ x hx; rw [lsize] at this; omega
  have hpd : parts s.data.toList c = (cut (· == c) s.data.toList).map trim := rfl
  rw [hpd]
  have hlen : s.data.toList.length ≤ 1000000000 := by rw [lsize]; exact hs
  have h2 := cut_total (· == c) s.data.toList
  have h3 := cut_length (· == c) s.data.toList
  have hn : (cut (· == c) s.data.toList).length ≤ 1000000001 := by omega
  clear h2 h3 hlen hpd hm
  generalize cut (· == c) s.data.toList = L at *
  obtain ⟨n, hnl⟩ : ∃ n, L.length = n := ⟨_, rfl⟩
  rw [hnl] at hsp hn
  have HN := Lib.hid hnl
  have HS := Lib.hid hsp
  have HC := Lib.hid hcl
  clear hnl hsp hcl
  go_enter Tryd.func17, Tryd.ntmps17
  go_wp2_with fail
  refine HS.out.mono ?_
  rintro e w1 ⟨rfl, hown1, hb1⟩
  have hb1' : Below w.heap.size w w1 := ((Below.refl _ _).alloc (Nat.le_refl _) _).trans (hb1.mono (by simp))
  clear hb1 hconv
  have hz : (w.alloc (.cells #[.int .u8 (c.toNat : Int)] 5)).heap.size = w.heap.size + 1 := by simp
  rw [hz] at hown1
  clear hz
  have hown0 : w1.ownsRow (w.heap.size + 1) 9 1 (.slice (some ⟨w.heap.size + 1, 0, none⟩) n n) n (txtCells (mixT L 0)) := by rw [mixT_zero]; exact hown1
  clear hown1
  go_wp2
  go_loopw [6, 7, 15] (fun _ _ i wr => ∃ k : Nat, i = .int .i64 k ∧ k ≤ n ∧ wr.ownsRow (w.heap.size + 1) 9 1 (.slice (some ⟨w.heap.size + 1, 0, none⟩) n n) n (txtCells (mixT L k)) ∧ Below w.heap.size w wr) (fun _ _ i _ => n - (intOf i).toNat)
  case atStart => exact ⟨0, rfl, Nat.zero_le _, hown0, hb1'⟩
  case round =>
    obtain ⟨k, rfl, hk, hown, hbw⟩ := hrel
    clear hown0 hb1'
    by_cases hlt : k < n
    · have hlt2 : k < L.length := by rw [HN.out]; exact hlt
      obtain ⟨x, hx⟩ : ∃ x, L[k] = x := ⟨_, rfl⟩
      have hxl := HC.out x (by rw [← hx]; exact List.getElem_mem hlt2)
      obtain ⟨X, hX⟩ : ∃ X : ByteArray, X = ⟨x.toArray⟩ := ⟨_, rfl⟩
      obtain ⟨T, hT⟩ : ∃ T : ByteArray, T = ⟨(trim x).toArray⟩ := ⟨_, rfl⟩
      have hcell : wr.cell? ⟨w.heap.size + 1, k, none⟩ = some (.string X) := by
        rw [hown.cellAt k (by omega)]
        unfold txtCells
        rw [List.getElem?_map, mixT_at L k hlt2, hx, hX]; rfl
      have hmix : (txtCells (mixT L k)).set k (.string T) = txtCells (mixT L (k + 1)) := by
        rw [mixT_succ L k hlt2, txtCells_set, hx, hT]; rfl
      have ct := fun W => trim_any X W (by rw [hX, bsize]; omega)
      have hXd : X.data.toList = x := by rw [hX]
      rw [hXd, ← hT] at ct
      have CT := Lib.hid ct
      have HM := Lib.hid hmix
      clear ct hmix hXd hX hT hx hxl
      go_wp2_with (go_at_call 10; refine (CT.out _).mono ?_; rintro e w2 ⟨rfl, hb2⟩
                   have hbw2 := hbw.trans (hb2.mono hbw.size)
                   have hown2 := ownsRow_below hown hb2
                   have hfree2 := hown2.frozenAt k
                   have hcell2 : w2.cell? ⟨w.heap.size + 1, k, none⟩ = some (.string X) := by rw [hb2.cell (lt_of_cell hcell)]; exact hcell
                   have hst := (hown2.stored k (.string T)).1
                   have hbst := hbw2.setCell (p := ⟨w.heap.size + 1, k, none⟩) (by simp) (.string T)
                   clear hb2 hown2)
      go_roundw
      case rel => exact ⟨k + 1, by go_num, by omega, by rw [← HM.out]; exact hst, hbst⟩
      case measure => simp [intOf]; omega
    · obtain rfl : k = n := by omega
      have hfin : Hid (TextsIn wr (.slice (some ⟨w.heap.size + 1, 0, none⟩) k k) (L.map trim)) := Lib.hid (by
        have e : mixT L k = L.map trim := by rw [← HN.out, mixT_all]
        have hl : (L.map trim).length = k := by rw [List.length_map]; exact HN.out
        rw [e] at hown
        have := TextsIn.of_row (base := w.heap.size + 1) (v := .slice (some ⟨w.heap.size + 1, 0, none⟩) k k) (p := L.map trim) (by rw [hl]; exact hown)
        exact this)
      clear hown
      go_wp2
      go_ret
      exact ⟨_, rfl, hfin.out, hbw⟩

end Go.Proofs.YthicppcidmenbaaDoor
