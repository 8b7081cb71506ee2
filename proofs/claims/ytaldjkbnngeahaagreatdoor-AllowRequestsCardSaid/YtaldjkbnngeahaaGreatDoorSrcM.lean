/- A word is parsed as a source: the program's Parse. -/
import Derived.Test.YtaldjkbnngeahaaGreatDoorSrcZ
namespace Go.Proofs.YtaldjkbnngeahaaGreatDoor
open Go.RowKit

theorem size_allocS (w : World) (x : Obj) : (w.alloc x).heap.size = w.heap.size + 1 := by show (w.heap.push x).size = _; simp
theorem decM_len (s : List UInt8) : (decM s).1.length ≤ s.length := by
  unfold decM
  split
  · exact Nat.zero_le _
  · split
    · exact Nat.zero_le _
    · split
      · exact Nat.zero_le _
      · split
        · exact Nat.zero_le _
        · rw [List.length_map]
          have h1 := (grp_spec 8 (by decide) (bits6 (hd s))).1
          have h2 := congrArg List.length h1
          rw [List.length_append, flat_length] at h2
          unfold bits6 at h2 ⊢
          rw [flat_length, List.length_map] at h2
          have := hd_le s
          omega
theorem nameO_len {l h : List UInt8} {wd : Bool} (e : nameO l = some (h, wd)) : h.length ≤ l.length := by
  unfold nameO at e
  split at e
  · cases e; exact Nat.zero_le _
  · split at e
    · split at e
      · cases e
      · cases e; rw [List.length_drop]; omega
    · split at e
      · cases e
      · cases e; exact Nat.le_refl _
theorem placeO_len {sc l : List UInt8} {a : Src} (h : placeO sc l = some a) : a.h.length ≤ l.length ∧ a.pa.length ≤ l.length := by
  have h1 := upto_length (isC 47) l
  have h2 := upto_length (isC 58) (upto (isC 47) l)
  unfold placeO at h
  cases hn : nameO (low (upto (isC 58) (upto (isC 47) l))) with
  | none => rw [hn] at h; cases h
  | some x =>
    obtain ⟨ho, wd⟩ := x
    rw [hn] at h
    simp only [] at h
    have h3 := nameO_len hn
    rw [low_length] at h3
    unfold toldO at h
    split at h
    · cases h
      exact ⟨by show ho.length ≤ _; omega, by show (past (isC 47) l).length ≤ _; omega⟩
    · rw [Option.map_eq_some_iff] at h
      obtain ⟨p, _, rfl⟩ := h
      exact ⟨by show ho.length ≤ _; omega, by show (past (isC 47) l).length ≤ _; omega⟩
theorem cutO_len {l : List UInt8} {a : Src} (h : cutO l = some a) : a.t.length ≤ l.length ∧ a.s.length ≤ l.length ∧ a.h.length ≤ l.length ∧ a.pa.length ≤ l.length := by
  unfold cutO at h
  split at h
  · split at h
    · cases h; simp [bareK]
    · split at h
      · cases h
        have hd := List.length_dropLast (xs := l)
        unfold quotedO
        split
        · simp [bareK, List.length_drop]; omega
        · split
          · have := decM_len (l.dropLast.drop 6)
            rw [List.length_drop] at this
            simp [bareK]; omega
          · simp [Src.zero]
      · cases h
  · split at h
    · cases h
      simp [low_length]
    · split at h
      · rename_i sc r hs
        split at h
        · cases h
        · have h1 := sp3_len hs
          obtain ⟨h2, h3⟩ := placeO_len h
          obtain ⟨_, h4, h5⟩ := placeO_form h
          rw [h4, h5, low_length]
          exact ⟨Nat.zero_le _, by omega, by omega, by omega⟩
      · obtain ⟨h2, h3⟩ := placeO_len h
        obtain ⟨_, h4, h5⟩ := placeO_form h
        rw [h4, h5]
        exact ⟨Nat.zero_le _, Nat.zero_le _, h2, h3⟩

/-- What lies in memory, and is read: the library's and the project's own variables. -/
structure Low (w : World) : Prop where
  m : MaxIn w
  t : TabIn w
  k : KeptIn w
  s : ∃ v, w.cell? ⟨5, 0, none⟩ = some v ∧ IfaceV v
  r : ∃ v, w.cell? ⟨6, 0, none⟩ = some v ∧ IfaceV v
theorem Low.below {w w' : World} (h : Low w) (hb : Below w.heap.size w w') : Low w' := by
  obtain ⟨m, t, k, ⟨v, h1, h2⟩, ⟨u, h3, h4⟩⟩ := h
  exact ⟨m.below hb, t.below hb, k.below hb, ⟨v, by rw [hb.cell (lt_of_cell h1)]; exact h1, h2⟩, ⟨u, by rw [hb.cell (lt_of_cell h3)]; exact h3, h4⟩⟩
theorem Low.made {w : World} (h : Low w) (x : Obj) : Low (w.alloc x) := h.below ((Below.refl _ _).alloc (Nat.le_refl _) _)
theorem Low.on {w : World} (h : Low w) {B : Nat} (hB : w.heap.size ≤ B) : LowIn B w := by
  obtain ⟨⟨m, hm⟩, t, k, ⟨v, h1, h2⟩, ⟨u, h3, h4⟩⟩ := h
  have hk := k 0 (by decide)
  exact ⟨⟨Nat.lt_of_lt_of_le (lt_of_cell hm) hB, ⟨m, hm⟩⟩, ⟨Nat.lt_of_lt_of_le (lt_of_cell hk) hB, k⟩, ⟨Nat.lt_of_lt_of_le (lt_of_cell h1) hB, v, h1, h2⟩, ⟨Nat.lt_of_lt_of_le (lt_of_cell h3) hB, u, h3, h4⟩⟩

theorem src_store {w : World} {R : Nat} {k : Int} {t s h : ByteArray} {b : Bool} {p : Int} {pa : ByteArray} (a : SX w R k t s h b p pa) (k2 : Int) (t2 s2 h2 : ByteArray) (b2 : Bool) (p2 : Int) (pa2 : ByteArray) : SX (((((((w.setCell ⟨R, 0, none⟩ (.int .i64 k2)).setCell ⟨R, 1, none⟩ (.string t2)).setCell ⟨R, 2, none⟩ (.string s2)).setCell ⟨R, 3, none⟩ (.string h2)).setCell ⟨R, 4, none⟩ (.bool b2)).setCell ⟨R, 5, none⟩ (.int .i64 p2)).setCell ⟨R, 6, none⟩ (.string pa2)) R k2 t2 s2 h2 b2 p2 pa2 := by
  unfold SX at *
  rw [heap_setCell_same _ R 6 _ _ _ _ (heap_setCell_same _ R 5 _ _ _ _ (heap_setCell_same _ R 4 _ _ _ _ (heap_setCell_same _ R 3 _ _ _ _ (heap_setCell_same _ R 2 _ _ _ _ (heap_setCell_same _ R 1 _ _ _ _ (heap_setCell_same _ R 0 _ _ _ _ a))))))]
  rfl
theorem srcSt_below {w0 w : World} {R R0 : Nat} (hR : R0 ≤ R) (hb : Below R0 w0 w) (k2 : Int) (t2 s2 h2 : ByteArray) (b2 : Bool) (p2 : Int) (pa2 : ByteArray) : Below R0 w0 (((((((w.setCell ⟨R, 0, none⟩ (.int .i64 k2)).setCell ⟨R, 1, none⟩ (.string t2)).setCell ⟨R, 2, none⟩ (.string s2)).setCell ⟨R, 3, none⟩ (.string h2)).setCell ⟨R, 4, none⟩ (.bool b2)).setCell ⟨R, 5, none⟩ (.int .i64 p2)).setCell ⟨R, 6, none⟩ (.string pa2)) :=
  ((((((hb.setCell hR _).setCell hR _).setCell hR _).setCell hR _).setCell hR _).setCell hR _).setCell hR _

set_option maxRecDepth 100000 in
set_option maxHeartbeats 4000000 in
theorem parse_all (L : ByteArray) (hL : L.size ≤ 10000) (w : World) (hw : Low w) :
    Calls Tryz.prog 60 #[.string L] w fun e w' => ((parseS L.data.toList = none ∧ e = .returned (.tuple #[srcV 0 ⟨#[]⟩ ⟨#[]⟩ ⟨#[]⟩ false 0 ⟨#[]⟩, .bool false])) ∨ ∃ k t s h b p pa, parseS L.data.toList = some (srcM k t s h b p pa) ∧ e = .returned (.tuple #[srcV k t s h b p pa, .bool true])) ∧ Below w.heap.size w w' := by
  have HO := Lib.hid (parse_O L.data.toList)
  have HL : Hid (∀ k t s h b p pa, cutO L.data.toList = some (srcM k t s h b p pa) → t.size ≤ 100000 ∧ s.size ≤ 100000 ∧ h.size ≤ 100000 ∧ pa.size ≤ 100000) := Lib.hid (by
    intro k t s h b p pa e
    obtain ⟨h1, h2, h3, h4⟩ := cutO_len e
    simp only [srcM, lsize] at h1 h2 h3 h4
    exact ⟨by omega, by omega, by omega, by omega⟩)
  go_enter Tryz.func60, Tryz.ntmps60
  go_wp2_with fail
  have xz := SX.made w 0 ⟨#[]⟩ ⟨#[]⟩ ⟨#[]⟩ false 0 ⟨#[]⟩
  have w1 := hw.made (.cells #[.int .i64 0, .string ⟨#[]⟩, .string ⟨#[]⟩, .string ⟨#[]⟩, .bool false, .int .i64 0, .string ⟨#[]⟩] 40)
  have B1 : Below w.heap.size w (w.alloc (.cells #[.int .i64 0, .string ⟨#[]⟩, .string ⟨#[]⟩, .string ⟨#[]⟩, .bool false, .int .i64 0, .string ⟨#[]⟩] 40)) := (Below.refl _ _).alloc (Nat.le_refl _) _
  have hsz := size_allocS w (.cells #[.int .i64 0, .string ⟨#[]⟩, .string ⟨#[]⟩, .string ⟨#[]⟩, .bool false, .int .i64 0, .string ⟨#[]⟩] 40)
  generalize hR : w.heap.size = R at xz B1 hsz ⊢
  have HR := Lib.hid hR
  clear hR
  generalize w.alloc (.cells #[.int .i64 0, .string ⟨#[]⟩, .string ⟨#[]⟩, .string ⟨#[]⟩, .bool false, .int .i64 0, .string ⟨#[]⟩] 40) = v1 at xz B1 w1 hsz ⊢
  have y2 := CX.made v1 0 ⟨#[]⟩ ⟨#[]⟩ ⟨#[]⟩ false 0 ⟨#[]⟩ L
  have al : Below v1.heap.size v1 (v1.alloc (.cells #[.int .i64 0, .string ⟨#[]⟩, .string ⟨#[]⟩, .string ⟨#[]⟩, .bool false, .int .i64 0, .string ⟨#[]⟩, .string L] 98)) := (Below.refl _ _).alloc (Nat.le_refl _) _
  have x2 := xz.below al
  have w2 := w1.below al
  have l2 := (w1.on (B := v1.heap.size) (Nat.le_refl _)).on al
  have B2 := B1.trans (al.mono (Nat.le_of_lt xz.lt))
  have hRB : R < v1.heap.size := xz.lt
  rw [hsz] at y2 l2 hRB
  try rw [hsz]
  obtain ⟨B, hB⟩ : ∃ B, R + 1 = B := ⟨_, rfl⟩
  rw [hB] at y2 l2 hRB ⊢
  generalize v1.alloc (.cells #[.int .i64 0, .string ⟨#[]⟩, .string ⟨#[]⟩, .string ⟨#[]⟩, .bool false, .int .i64 0, .string ⟨#[]⟩, .string L] 98) = v2 at x2 y2 B2 w2 l2 ⊢
  clear xz w1 B1 hsz al hB
  refine (cut_all L hL B v2 l2 y2).mono ?_
  rintro e v3 ⟨hx, b3⟩
  have x3 : SX v3 R 0 ⟨#[]⟩ ⟨#[]⟩ ⟨#[]⟩ false 0 ⟨#[]⟩ := by
    unfold SX at *
    rw [b3.block R hRB]; exact x2
  have B3 := B2.trans (b3.mono (Nat.le_of_lt hRB))
  clear x2 y2 w2 l2 B2 b3
  rcases hx with ⟨hc, rfl⟩ | ⟨k, t, s, h, b, p, pa, l, hc, rfl, y3⟩
  · have HF : Hid (parseS L.data.toList = none) := Lib.hid (by rw [HO.out, hc]; rfl)
    clear hc HO HL
    have r0 := x3.c0
    have r1 := x3.c1
    have r2 := x3.c2
    have r3 := x3.c3
    have r4 := x3.c4
    have r5 := x3.c5
    have r6 := x3.c6
    have f0 := open_of x3 0
    have f1 := open_of x3 1
    have f2 := open_of x3 2
    have f3 := open_of x3 3
    have f4 := open_of x3 4
    have f5 := open_of x3 5
    have f6 := open_of x3 6
    have xz := src_store x3 0 ⟨#[]⟩ ⟨#[]⟩ ⟨#[]⟩ false 0 ⟨#[]⟩
    have bz := srcSt_below (R := R) (Nat.le_refl R) B3 0 ⟨#[]⟩ ⟨#[]⟩ ⟨#[]⟩ false 0 ⟨#[]⟩
    clear B3 x3
    go_wp2
    clear r0 r1 r2 r3 r4 r5 r6 f0 f1 f2 f3 f4 f5 f6
    generalize ((((((v3.setCell ⟨R, 0, none⟩ (.int .i64 0)).setCell ⟨R, 1, none⟩ (.string ⟨#[]⟩)).setCell ⟨R, 2, none⟩ (.string ⟨#[]⟩)).setCell ⟨R, 3, none⟩ (.string ⟨#[]⟩)).setCell ⟨R, 4, none⟩ (.bool false)).setCell ⟨R, 5, none⟩ (.int .i64 0)).setCell ⟨R, 6, none⟩ (.string ⟨#[]⟩) = wz at xz bz ⊢
    have c0 := xz.c0
    have c1 := xz.c1
    have c2 := xz.c2
    have c3 := xz.c3
    have c4 := xz.c4
    have c5 := xz.c5
    have c6 := xz.c6
    exact bodyPost_ret (v := .tuple #[srcV 0 ⟨#[]⟩ ⟨#[]⟩ ⟨#[]⟩ false 0 ⟨#[]⟩, .bool false]) (by simp [results, Tryz.results60, go_sem, srcV, c0, c1, c2, c3, c4, c5, c6]) rfl ⟨.inl ⟨HF.out, rfl⟩, by rw [HR.out]; exact bz⟩
  · obtain ⟨h1, h2, h3, h4⟩ := HL.out k t s h b p pa hc
    obtain ⟨r, hr⟩ : ∃ r, rightS (srcM k t s h b p pa) = r := ⟨_, rfl⟩
    have CR := rightP_hid k t s h b p pa h1 h2 h3 h4 r hr
    unfold srcV at CR
    have w3 : Low v3 := hw.below (by rw [HR.out]; exact B3)
    cases r
    · have HF : Hid (parseS L.data.toList = none) := Lib.hid (by rw [HO.out, hc]; simp [Option.filter, hr])
      clear hc HO HL hr h1 h2 h3 h4
      have c0 := y3.c0
      have c1 := y3.c1
      have c2 := y3.c2
      have c3 := y3.c3
      have c4 := y3.c4
      have c5 := y3.c5
      have c6 := y3.c6
      go_wp2_with fail
      refine (CR.out _ w3.m w3.t w3.k).mono ?_
      rintro e v4 ⟨rfl, b4⟩
      have x4 := x3.below b4
      have B4 := B3.trans (b4.mono (Nat.le_of_lt x3.lt))
      clear c0 c1 c2 c3 c4 c5 c6 y3 w3 b4 x3 B3
      have r0 := x4.c0
      have r1 := x4.c1
      have r2 := x4.c2
      have r3 := x4.c3
      have r4 := x4.c4
      have r5 := x4.c5
      have r6 := x4.c6
      have f0 := open_of x4 0
      have f1 := open_of x4 1
      have f2 := open_of x4 2
      have f3 := open_of x4 3
      have f4 := open_of x4 4
      have f5 := open_of x4 5
      have f6 := open_of x4 6
      have xz := src_store x4 0 ⟨#[]⟩ ⟨#[]⟩ ⟨#[]⟩ false 0 ⟨#[]⟩
      have bz := srcSt_below (R := R) (Nat.le_refl R) B4 0 ⟨#[]⟩ ⟨#[]⟩ ⟨#[]⟩ false 0 ⟨#[]⟩
      clear B4 x4
      go_wp2
      clear r0 r1 r2 r3 r4 r5 r6 f0 f1 f2 f3 f4 f5 f6
      generalize ((((((v4.setCell ⟨R, 0, none⟩ (.int .i64 0)).setCell ⟨R, 1, none⟩ (.string ⟨#[]⟩)).setCell ⟨R, 2, none⟩ (.string ⟨#[]⟩)).setCell ⟨R, 3, none⟩ (.string ⟨#[]⟩)).setCell ⟨R, 4, none⟩ (.bool false)).setCell ⟨R, 5, none⟩ (.int .i64 0)).setCell ⟨R, 6, none⟩ (.string ⟨#[]⟩) = wz at xz bz ⊢
      have c0 := xz.c0
      have c1 := xz.c1
      have c2 := xz.c2
      have c3 := xz.c3
      have c4 := xz.c4
      have c5 := xz.c5
      have c6 := xz.c6
      exact bodyPost_ret (v := .tuple #[srcV 0 ⟨#[]⟩ ⟨#[]⟩ ⟨#[]⟩ false 0 ⟨#[]⟩, .bool false]) (by simp [results, Tryz.results60, go_sem, srcV, c0, c1, c2, c3, c4, c5, c6]) rfl ⟨.inl ⟨HF.out, rfl⟩, by rw [HR.out]; exact bz⟩
    · have HF : Hid (parseS L.data.toList = some (srcM k t s h b p pa)) := Lib.hid (by rw [HO.out, hc]; simp [Option.filter, hr])
      clear hc HO HL hr h1 h2 h3 h4
      have c0 := y3.c0
      have c1 := y3.c1
      have c2 := y3.c2
      have c3 := y3.c3
      have c4 := y3.c4
      have c5 := y3.c5
      have c6 := y3.c6
      go_wp2_with fail
      refine (CR.out _ w3.m w3.t w3.k).mono ?_
      rintro e v4 ⟨rfl, b4⟩
      have x4 := x3.below b4
      have y4 := y3.below b4
      have B4 := B3.trans (b4.mono (Nat.le_of_lt x3.lt))
      clear c0 c1 c2 c3 c4 c5 c6 y3 w3 b4 x3 B3
      have c0 := y4.c0
      have c1 := y4.c1
      have c2 := y4.c2
      have c3 := y4.c3
      have c4 := y4.c4
      have c5 := y4.c5
      have c6 := y4.c6
      have r0 := x4.c0
      have r1 := x4.c1
      have r2 := x4.c2
      have r3 := x4.c3
      have r4 := x4.c4
      have r5 := x4.c5
      have r6 := x4.c6
      have f0 := open_of x4 0
      have f1 := open_of x4 1
      have f2 := open_of x4 2
      have f3 := open_of x4 3
      have f4 := open_of x4 4
      have f5 := open_of x4 5
      have f6 := open_of x4 6
      have xz := src_store x4 k t s h b p pa
      have bz := srcSt_below (R := R) (Nat.le_refl R) B4 k t s h b p pa
      clear B4 x4 y4
      go_wp2
      clear r0 r1 r2 r3 r4 r5 r6 f0 f1 f2 f3 f4 f5 f6 c0 c1 c2 c3 c4 c5 c6
      generalize ((((((v4.setCell ⟨R, 0, none⟩ (.int .i64 k)).setCell ⟨R, 1, none⟩ (.string t)).setCell ⟨R, 2, none⟩ (.string s)).setCell ⟨R, 3, none⟩ (.string h)).setCell ⟨R, 4, none⟩ (.bool b)).setCell ⟨R, 5, none⟩ (.int .i64 p)).setCell ⟨R, 6, none⟩ (.string pa) = wz at xz bz ⊢
      have c0 := xz.c0
      have c1 := xz.c1
      have c2 := xz.c2
      have c3 := xz.c3
      have c4 := xz.c4
      have c5 := xz.c5
      have c6 := xz.c6
      exact bodyPost_ret (v := .tuple #[srcV k t s h b p pa, .bool true]) (by simp [results, Tryz.results60, go_sem, srcV, c0, c1, c2, c3, c4, c5, c6]) rfl ⟨.inr ⟨_, _, _, _, _, _, _, HF.out, rfl⟩, by rw [HR.out]; exact bz⟩

theorem srcM_inj {k k' p p' : Int} {t t' s s' h h' pa pa' : ByteArray} {b b' : Bool} (e : srcM k t s h b p pa = srcM k' t' s' h' b' p' pa') : k = k' ∧ t = t' ∧ s = s' ∧ h = h' ∧ b = b' ∧ p = p' ∧ pa = pa' := by
  unfold srcM at e
  rw [Src.mk.injEq] at e
  obtain ⟨h1, h2, h3, h4, h5, h6, h7⟩ := e
  exact ⟨h1, (text_is h2).trans (text_is rfl).symm, (text_is h3).trans (text_is rfl).symm, (text_is h4).trans (text_is rfl).symm, h5, h6, (text_is h7).trans (text_is rfl).symm⟩
/-- A word that is a source's. -/
theorem parseS_is (L : ByteArray) (hL : L.size ≤ 10000) (k : Int) (t s h : ByteArray) (b : Bool) (p : Int) (pa : ByteArray) (hp : parseS L.data.toList = some (srcM k t s h b p pa)) : Hid (∀ W, Low W → Calls Tryz.prog 60 #[.string L] W fun e w' => e = .returned (.tuple #[srcV k t s h b p pa, .bool true]) ∧ Below W.heap.size W w') := Lib.hid fun W hw =>
  (parse_all L hL W hw).mono fun e w' ⟨h1, h2⟩ => by
    rcases h1 with ⟨h1, _⟩ | ⟨k', t', s', h', b', p', pa', h1, rfl⟩
    · rw [hp] at h1; cases h1
    · rw [hp] at h1
      obtain ⟨rfl, rfl, rfl, rfl, rfl, rfl, rfl⟩ := srcM_inj (Option.some.inj h1)
      exact ⟨rfl, h2⟩
/-- .. and one that is none. -/
theorem parseS_not (L : ByteArray) (hL : L.size ≤ 10000) (hp : parseS L.data.toList = none) : Hid (∀ W, Low W → Calls Tryz.prog 60 #[.string L] W fun e w' => e = .returned (.tuple #[srcV 0 ⟨#[]⟩ ⟨#[]⟩ ⟨#[]⟩ false 0 ⟨#[]⟩, .bool false]) ∧ Below W.heap.size W w') := Lib.hid fun W hw =>
  (parse_all L hL W hw).mono fun e w' ⟨h1, h2⟩ => by
    rcases h1 with ⟨_, rfl⟩ | ⟨k', t', s', h', b', p', pa', h1, _⟩
    · exact ⟨rfl, h2⟩
    · rw [hp] at h1; cases h1
/-- The two in one: what Parse answers, in names. -/
def srcP (a : Option Src) : Src := a.getD Src.zero
theorem parseS_to (L : ByteArray) (hL : L.size ≤ 10000) : ∃ (k : Int) (t s h : ByteArray) (b : Bool) (p : Int) (pa : ByteArray) (r : Bool), srcM k t s h b p pa = srcP (parseS L.data.toList) ∧ (parseS L.data.toList).isSome = r ∧ Hid (∀ W, Low W → Calls Tryz.prog 60 #[.string L] W fun e w' => e = .returned (.tuple #[srcV k t s h b p pa, .bool r]) ∧ Below W.heap.size W w') := by
  cases hp : parseS L.data.toList with
  | none => exact ⟨0, ⟨#[]⟩, ⟨#[]⟩, ⟨#[]⟩, false, 0, ⟨#[]⟩, false, rfl, rfl, parseS_not L hL hp⟩
  | some a =>
    obtain ⟨t, s, h, pa, ha⟩ := src_of a
    exact ⟨a.k, t, s, h, a.w, a.p, pa, true, ha.symm, rfl, parseS_is L hL _ _ _ _ _ _ _ (by rw [hp]; exact congrArg some ha)⟩

end Go.Proofs.YtaldjkbnngeahaaGreatDoor
