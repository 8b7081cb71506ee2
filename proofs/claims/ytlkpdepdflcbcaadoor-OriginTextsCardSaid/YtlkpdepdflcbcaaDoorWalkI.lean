/- What is parsed: the program's Parse. -/
import Derived.Test.YtlkpdepdflcbcaaDoorWalkH
import Derived.ScopeJumps
import Derived.Laws.ResultCell
namespace Go.Proofs.YtlkpdepdflcbcaaDoor
open Go.RowKit

theorem cutText_hid (s T : ByteArray) (hs : s.size ≤ 1000000) (hT : T.data.toList = upto (isC 35) s.data.toList) : Hid (∀ W, MaxIn W → Calls Tryd.prog 25 #[.string s, .string ⟨#[35]⟩] W fun e w' => (∃ a b, e = .returned (.tuple #[.string T, .string a, .bool b])) ∧ ∃ n, w' = W.drewN n) := Lib.hid fun W hm => by
  obtain ⟨m, hm⟩ := hm
  have e1 : (Lib.cut s.data.toList (⟨#[35]⟩ : ByteArray).data.toList).1 = T.data.toList := by
    rw [hT]
    show (Lib.cut s.data.toList [35]).1 = _
    unfold Lib.cut
    rcases index_one s.data.toList 35 with ⟨h1, h2⟩ | ⟨a, r, h1, h2, h3⟩
    · rw [h1, (past_none (isC 35) _ h2).1]; rfl
    · rw [h3, if_pos (by omega), h1, (past_hit (isC 35) a 35 r h2 rfl).1]
      simp
  have h := Tryd.strings_Cut s ⟨#[35]⟩ m W (by omega) hm
  rw [e1, ← text_is (T := T) rfl] at h
  exact h.mono fun e w' ⟨h1, h2⟩ => ⟨⟨_, _, h1⟩, h2⟩

/-- An address stored into its block, cell by cell. -/
def stU (w : World) (R : Nat) (o : Bool) (s h : ByteArray) (p : Int) (pa q : ByteArray) : World := (((((w.setCell ⟨R, 0, none⟩ (.bool o)).setCell ⟨R, 1, none⟩ (.string s)).setCell ⟨R, 2, none⟩ (.string h)).setCell ⟨R, 3, none⟩ (.int .i64 p)).setCell ⟨R, 4, none⟩ (.string pa)).setCell ⟨R, 5, none⟩ (.string q)
theorem BX.store {w : World} {R : Nat} {s h pa q : ByteArray} {o : Bool} {p : Int} (a : BX w R o s h p pa q) (o2 : Bool) (s2 h2 : ByteArray) (p2 : Int) (pa2 q2 : ByteArray) : BX (stU w R o2 s2 h2 p2 pa2 q2) R o2 s2 h2 p2 pa2 q2 := by
  unfold BX at *
  unfold stU
  rw [heap_setCell_same _ R 5 _ _ _ _ (heap_setCell_same _ R 4 _ _ _ _ (heap_setCell_same _ R 3 _ _ _ _ (heap_setCell_same _ R 2 _ _ _ _ (heap_setCell_same _ R 1 _ _ _ _ (heap_setCell_same _ R 0 _ _ _ _ a)))))]
  rfl
theorem stU_below {w0 w : World} {R : Nat} (hb : Below R w0 w) (o : Bool) (s h : ByteArray) (p : Int) (pa q : ByteArray) : Below R w0 (stU w R o s h p pa q) :=
  (((((hb.setCell (Nat.le_refl _) _).setCell (Nat.le_refl _) _).setCell (Nat.le_refl _) _).setCell (Nat.le_refl _) _).setCell (Nat.le_refl _) _).setCell (Nat.le_refl _) _

/-- What Parse has ahead of its cuts. -/
theorem pre_texts (s : ByteArray) (hs : s.size ≤ 10000) (L : ByteArray) (hL : L.data.toList = upto (isC 35) (trim s.data.toList)) : L.size ≤ 10000 ∧ ∃ T1 : ByteArray, Hid (∀ W, Calls Tryd.prog 26 #[.string s] W fun e w' => e = .returned (.string T1) ∧ Below W.heap.size W w') ∧ Hid (∀ W, MaxIn W → Calls Tryd.prog 25 #[.string T1, .string ⟨#[35]⟩] W fun e w' => (∃ a b, e = .returned (.tuple #[.string L, .string a, .bool b])) ∧ ∃ n, w' = W.drewN n) := by
  obtain ⟨T1, hT1⟩ := text_of (trim s.data.toList)
  have hT1s : T1.size ≤ s.size := by rw [← lsize T1, ← lsize s, hT1]; exact trim_length _
  rw [← hT1] at hL
  refine ⟨?_, T1, trim_hid s T1 hT1 (by omega), cutText_hid T1 L (by omega) hL⟩
  have := upto_length (isC 35) T1.data.toList
  rw [← hL, lsize, lsize] at this
  omega

set_option maxRecDepth 100000 in
set_option maxHeartbeats 2000000 in
/-- No colon. -/
theorem parse_a (s : ByteArray) (hs : s.size ≤ 10000) (L : ByteArray) (hL : L.data.toList = upto (isC 35) (trim s.data.toList)) (h0 : past (isC 58) L.data.toList = []) (w : World) (hmx : MaxIn w) (ht : TabIn w) : Calls Tryd.prog 16 #[.string s] w fun e w' => e = .returned (.tuple #[uV false ⟨#[]⟩ ⟨#[]⟩ 0 ⟨#[]⟩ ⟨#[]⟩, .int .i64 50]) ∧ Below w.heap.size w w' := by
  obtain ⟨hLs, T1, C1, C2⟩ := pre_texts s hs L hL
  obtain ⟨sc, hsc⟩ := text_of (low (upto (isC 58) L.data.toList))
  have C3 := fun B w a => cutScheme_any L sc ⟨#[]⟩ ⟨#[]⟩ false hsc (by rw [h0]) rfl rfl (by omega) B w false ⟨#[]⟩ ⟨#[]⟩ 0 ⟨#[]⟩ ⟨#[]⟩ a
  have HC3 := Lib.hid C3
  clear hL h0 hsc C3
  go_enter Tryd.func16, Tryd.ntmps16
  go_wp2_with fail
  have x1 := BX.made w false ⟨#[]⟩ ⟨#[]⟩ 0 ⟨#[]⟩ ⟨#[]⟩
  have m1 := hmx.made (.cells #[.bool false, .string ⟨#[]⟩, .string ⟨#[]⟩, .int .i64 0, .string ⟨#[]⟩, .string ⟨#[]⟩] 28)
  have t1 := ht.made (.cells #[.bool false, .string ⟨#[]⟩, .string ⟨#[]⟩, .int .i64 0, .string ⟨#[]⟩, .string ⟨#[]⟩] 28)
  have B1 : Below w.heap.size w (w.alloc (.cells #[.bool false, .string ⟨#[]⟩, .string ⟨#[]⟩, .int .i64 0, .string ⟨#[]⟩, .string ⟨#[]⟩] 28)) := (Below.refl _ _).alloc (Nat.le_refl _) _
  generalize hR : w.heap.size = R at x1 B1 ⊢
  have HR := Lib.hid hR
  clear hR
  generalize w.alloc (.cells #[.bool false, .string ⟨#[]⟩, .string ⟨#[]⟩, .int .i64 0, .string ⟨#[]⟩, .string ⟨#[]⟩] 28) = w1 at x1 B1 m1 t1 ⊢
  refine wp_scope_jumps 0 (fun a' w' => (∃ (u4 u5 u6 u7 u8 u9 u10 u11 u12 u13 u14 u15 u16 u17 u18 u19 u20 u21 u22 u23 u24 u25 u26 u27 u28 u29 u30 u31 u32 u33 u34 u35 u36 u37 u38 u39 u40 : Value), a' = { tmps := #[.string s, undef, .pointer (some ⟨R, 0, none⟩), .int .i64 0, u4, u5, u6, u7, u8, u9, u10, u11, u12, u13, u14, u15, u16, u17, u18, u19, u20, u21, u22, u23, u24, u25, u26, u27, u28, u29, u30, u31, u32, u33, u34, u35, u36, u37, u38, u39, u40], defers := [] }) ∧ BX w' R false ⟨#[]⟩ ⟨#[]⟩ 0 ⟨#[]⟩ ⟨#[]⟩ ∧ Below R w w') (fun _ _ => 0) rfl ?_ ?_
  case refine_2 =>
    rintro a' w5 ⟨⟨u4, u5, u6, u7, u8, u9, u10, u11, u12, u13, u14, u15, u16, u17, u18, u19, u20, u21, u22, u23, u24, u25, u26, u27, u28, u29, u30, u31, u32, u33, u34, u35, u36, u37, u38, u39, u40, rfl⟩, x5, y5⟩
    clear x1 m1 t1 B1
    have r0 := x5.c0
    have f0 := open_of x5 0
    have r1 := x5.c1
    have f1 := open_of x5 1
    have r2 := x5.c2
    have f2 := open_of x5 2
    have r3 := x5.c3
    have f3 := open_of x5 3
    have r4 := x5.c4
    have f4 := open_of x5 4
    have r5 := x5.c5
    have f5 := open_of x5 5
    have xz := BX.store x5 false ⟨#[]⟩ ⟨#[]⟩ 0 ⟨#[]⟩ ⟨#[]⟩
    have yz := stU_below y5 false ⟨#[]⟩ ⟨#[]⟩ 0 ⟨#[]⟩ ⟨#[]⟩
    go_wp2
    clear r0 f0 r1 f1 r2 f2 r3 f3 r4 f4 r5 f5
    unfold stU at xz yz
    generalize (((((w5.setCell ⟨R, 0, none⟩ (.bool false)).setCell ⟨R, 1, none⟩ (.string ⟨#[]⟩)).setCell ⟨R, 2, none⟩ (.string ⟨#[]⟩)).setCell ⟨R, 3, none⟩ (.int .i64 0)).setCell ⟨R, 4, none⟩ (.string ⟨#[]⟩)).setCell ⟨R, 5, none⟩ (.string ⟨#[]⟩) = wz at xz yz ⊢
    have c0 := xz.c0
    have c1 := xz.c1
    have c2 := xz.c2
    have c3 := xz.c3
    have c4 := xz.c4
    have c5 := xz.c5
    simp only [Exit.jump]
    exact bodyPost_ret (v := .tuple #[uV false ⟨#[]⟩ ⟨#[]⟩ 0 ⟨#[]⟩ ⟨#[]⟩, .int .i64 50]) (by simp [results, Tryd.results16, go_sem, uV, c0, c1, c2, c3, c4, c5]) rfl ⟨rfl, by rw [HR.out]; exact yz⟩
  go_wp2_with fail
  refine (C1.out _).mono ?_
  rintro e w2 ⟨rfl, b2⟩
  have x2 := x1.below b2
  have m2 := m1.below b2
  have t2 := t1.below b2
  have B2 := B1.trans (b2.mono (Nat.le_of_lt x1.lt))
  clear b2 x1 m1 t1 B1
  go_wp2_with fail
  refine (C2.out _ m2).mono ?_
  rintro e w3 ⟨⟨ca, cb, rfl⟩, n3, rfl⟩
  have x3 : BX (w2.drewN n3) R false ⟨#[]⟩ ⟨#[]⟩ 0 ⟨#[]⟩ ⟨#[]⟩ := x2
  have m3 : MaxIn (w2.drewN n3) := m2
  have t3 : TabIn (w2.drewN n3) := t2
  have B3 := belowN B2 n3
  generalize w2.drewN n3 = w3 at x3 m3 t3 B3 ⊢
  clear x2 m2 t2 B2
  go_wp2_with fail
  have a4 : AT (w3.alloc (.cells #[.string L, .bool false, .string ⟨#[]⟩, .string ⟨#[]⟩, .int .i64 0, .string ⟨#[]⟩, .string ⟨#[]⟩] 48)) w3.heap.size L false ⟨#[]⟩ ⟨#[]⟩ 0 ⟨#[]⟩ ⟨#[]⟩ := new_block w3 _
  have K4 : Below w3.heap.size w3 (w3.alloc (.cells #[.string L, .bool false, .string ⟨#[]⟩, .string ⟨#[]⟩, .int .i64 0, .string ⟨#[]⟩, .string ⟨#[]⟩] 48)) := (Below.refl _ _).alloc (Nat.le_refl _) _
  have HB : Hid (∀ w', Below w3.heap.size w3 w' → MaxIn w' ∧ TabIn w' ∧ BX w' R false ⟨#[]⟩ ⟨#[]⟩ 0 ⟨#[]⟩ ⟨#[]⟩ ∧ Below R w w') := Lib.hid fun w' b => ⟨m3.below b, t3.below b, x3.below b, B3.trans (b.mono (Nat.le_of_lt x3.lt))⟩
  have hg : 0 < w3.heap.size := by obtain ⟨_, hm9⟩ := m3; exact lt_of_cell hm9
  clear x3 m3 t3 B3
  generalize w3.heap.size = B at a4 K4 HB hg ⊢
  generalize w3.alloc (.cells #[.string L, .bool false, .string ⟨#[]⟩, .string ⟨#[]⟩, .int .i64 0, .string ⟨#[]⟩, .string ⟨#[]⟩] 48) = w4 at a4 K4 ⊢
  refine (HC3.out B w4 a4).mono ?_
  rintro e w5 ⟨rfl, a5, b5⟩
  have K5 := K4.trans b5
  obtain ⟨m5, t5, x5, y5⟩ := HB.out _ K5
  clear a4 K4 b5 HB
  go_wp2_with fail
  go_step3
  exact ⟨rfl, ⟨_, _, _, _, _, _, _, _, _, _, _, _, _, _, _, _, _, _, _, _, _, _, _, _, _, _, _, _, _, _, _, _, _, _, _, _, _, rfl⟩, x5, y5⟩

end Go.Proofs.YtlkpdepdflcbcaaDoor
