/- The laws' own: whether a text tells these tokens; the document's rows. -/
import Derived.Test.YtgbilfbonliipaaGreatDoorToP
namespace Go.Proofs.YtgbilfbonliipaaGreatDoor
open Go.RowKit

/-- A row in a block that is new. -/
theorem RowIn.made (w : World) (C : Array Value) (e : TypeId) (m size : Nat) (hl : C.toList.length = m * size) (h1 : ∀ v ∈ C.toList, v.oneCell' = true) : RowIn (w.alloc (.cells C e)) (.slice (some ⟨w.heap.size, 0, none⟩) m m) m size C.toList := by
  refine ⟨hl, h1, .inr ⟨_, 0, m, rfl, fun j v hj => ?_⟩⟩
  rw [Nat.zero_add, World.cell?_alloc_mark, ← hj]
  simp

set_option maxRecDepth 100000 in
set_option maxHeartbeats 4000000 in
theorem tells_hid (s : ByteArray) (L : List Tk) (F : List Fl) (hr : readM s.data.toList = (L, F)) (hs : s.size ≤ 1000) : Hid (∀ W u v, Low W → TokIn W u L → FailIn W v F → Calls Tryz.prog 27 #[.string s, u, v] W fun e w' => e = .returned (.bool true) ∧ Below W.heap.size W w') := Lib.hid fun w u v hlow hu hv => by
  have hb := read_bound s.data.toList
  rw [hr, lsize] at hb
  have hLl := wL_len L
  have hAl : ∀ t ∈ L, t.a.length ≤ 100000000 := fun t ht => by
    have h1 := wL_mem ht
    have h2 := wA_len t.a
    unfold wT at h1
    simp only at hb
    omega
  have CS := sameG_hid L (by simp only at hb; omega) hAl
  have CF := failsG_hid F (by simp only at hb; omega)
  have CT := Lib.hid (tokens_any s (by omega) w hlow)
  have H0 := Lib.hid (And.intro hu hv)
  have HR := Lib.hid hr
  obtain ⟨ua, uc, rfl⟩ := hu.form
  obtain ⟨va, vc, rfl⟩ := hv.form
  clear hlow hu hv hr hb hLl hAl
  go_enter Tryz.func27, Tryz.ntmps27
  go_wp2_with fail
  refine CT.out.mono ?_
  rintro e w1 ⟨tv, fv, m, rfl, h1, h2, b1⟩
  rw [HR.out] at h1 h2
  have H1 := Lib.hid (And.intro (TokIn.of h1) (And.intro (FailIn.of h2) (And.intro b1 (And.intro (H0.out.1.below b1) (H0.out.2.below b1)))))
  obtain ⟨ta, tc, rfl⟩ := h1.form
  obtain ⟨fa, fc, rfl⟩ := (FailIn.of h2).form
  clear h1 h2 b1 CT H0
  go_wp2_with fail
  (with_reducible refine (CS.out _ _ _ H1.out.2.2.2.1 H1.out.1).mono ?_)
  rintro e w2 ⟨rfl, b2⟩
  have H2 := Lib.hid (And.intro (H1.out.2.2.2.2.below b2) (And.intro (H1.out.2.1.below b2) (H1.out.2.2.1.trans (b2.mono H1.out.2.2.1.size))))
  clear b2 CS H1
  go_wp2_with fail
  (with_reducible refine (CF.out _ _ _ H2.out.1 H2.out.2.1).mono ?_)
  rintro e w3 ⟨rfl, b3⟩
  have H3 := Lib.hid (H2.out.2.2.trans (b3.mono H2.out.2.2.size))
  clear b3 CF H2
  go_wp2
  go_ret
  exact ⟨rfl, H3.out⟩

/-! ### the document's rows -/
def rowB : Tk := ⟨2, [98], [], [([120], [49]), ([121], [60])], true⟩
def text1 : ByteArray := ⟨#[97, 60, 66, 32, 120, 61, 49, 32, 88, 61, 50, 32, 121, 61, 39, 38, 108, 116, 59, 39, 47, 62, 98]⟩
def text2 : ByteArray := ⟨#[60, 115, 99, 114, 105, 112, 116, 62, 97, 60, 98, 60, 47, 83, 67, 82, 73, 80, 84, 32, 62]⟩
def text3 : ByteArray := ⟨#[60, 33, 45, 45, 120, 45, 45, 62, 49, 60, 50, 60, 47, 62]⟩
def text4 : ByteArray := ⟨#[97, 60, 98, 32, 99]⟩
def rows1 : List Tk := [textT [97], rowB, textT [98]]
def rows2 : List Tk := [⟨2, scriptN, [], [], false⟩, textT [97, 60, 98], ⟨3, scriptN, [], [], false⟩]
def rows3 : List Tk := [⟨4, [], [120], [], false⟩, textT [49, 60, 50], ⟨4, [], [], [], false⟩]
theorem read1 : readM text1.data.toList = (rows1, [(142, 8)]) := by kernel_rfl
theorem read2 : readM text2.data.toList = (rows2, []) := by kernel_rfl
theorem read3 : readM text3.data.toList = (rows3, [(141, 9), (141, 11)]) := by kernel_rfl
theorem read4 : readM text4.data.toList = ([textT [97]], [(140, 1)]) := by kernel_rfl
def outB : ByteArray := ⟨#[60, 98, 32, 120, 61, 34, 49, 34, 32, 121, 61, 34, 38, 108, 116, 59, 34, 47, 62]⟩
theorem printB : outB.data.toList = printM [rowB] := by kernel_rfl
theorem strV_nil : strV [] = .string ⟨#[]⟩ := rfl
def atB : Array Value := #[.string ⟨#[120]⟩, .string ⟨#[49]⟩, .string ⟨#[121]⟩, .string ⟨#[60]⟩]
theorem atB_in (w : World) : AtIn (w.alloc (.cells atB 56)) (.slice (some ⟨w.heap.size, 0, none⟩) 2 2) rowB.a := RowIn.made w atB 56 2 2 rfl (by decide)
/-- Tokens without attributes, and the one with two. -/
theorem TkCs.plain {w : World} (k : Int) (n d : List UInt8) (c : Bool) {T : List Tk} {cs : List Value} (h : TkCs w T cs) : TkCs w (⟨k, n, d, [], c⟩ :: T) (.int .i64 k :: strV n :: strV d :: .slice none 0 0 :: .bool c :: cs) := ⟨.slice none 0 0, cs, rfl, AtIn.nil _ _ _, h⟩
theorem TkCs.withB {w : World} {bv : Value} (hb : AtIn w bv rowB.a) {T : List Tk} {cs : List Value} (h : TkCs w T cs) : TkCs w (rowB :: T) (.int .i64 2 :: strV [98] :: strV [] :: bv :: .bool true :: cs) := ⟨bv, cs, rfl, hb, h⟩
theorem TkCs.none (w : World) : TkCs w [] [] := rfl

theorem size_alloc (w : World) (o : Obj) : (w.alloc o).heap.size = w.heap.size + 1 := by simp
/-- A row of tokens laid. -/
theorem laid1 (w : World) (C : Array Value) (L : List Tk) (hC : TkCs w L C.toList) (m : Nat) (hm : m = L.length) : TokIn (w.alloc (.cells C 40)) (.slice (some ⟨w.heap.size, 0, none⟩) m m) L ∧ Below w.heap.size w (w.alloc (.cells C 40)) := by
  subst hm
  have al := (Below.refl w.heap.size w).alloc (Nat.le_refl _) (.cells C 40)
  exact ⟨⟨C.toList, RowIn.made w C _ L.length 5 hC.len hC.one, hC.below al⟩, al⟩
/-- A row of tokens laid, and a row of Fails. -/
theorem laid2 (w : World) (C D : Array Value) (L : List Tk) (F : List Fl) (hC : TkCs w L C.toList) (hD : D.toList = flC F) (m q : Nat) (hm : m = L.length) (hq : q = F.length) : TokIn ((w.alloc (.cells C 40)).alloc (.cells D 59)) (.slice (some ⟨w.heap.size, 0, none⟩) m m) L ∧ FailIn ((w.alloc (.cells C 40)).alloc (.cells D 59)) (.slice (some ⟨w.heap.size + 1, 0, none⟩) q q) F ∧ Below w.heap.size w ((w.alloc (.cells C 40)).alloc (.cells D 59)) := by
  obtain ⟨h1, b1⟩ := laid1 w C L hC m hm
  have b2 := (Below.refl (w.alloc (.cells C 40)).heap.size (w.alloc (.cells C 40))).alloc (Nat.le_refl _) (.cells D 59)
  refine ⟨h1.below b2, ?_, b1.trans (b2.mono b1.size)⟩
  subst hq
  have h3 := RowIn.made (w.alloc (.cells C 40)) D 59 F.length 2 (by rw [hD, flC_length]) (by rw [hD]; exact flC_one F)
  rw [size_alloc, hD] at h3
  exact h3
def boxB (b : Nat) : Array Value := #[.int .i64 2, .string ⟨#[98]⟩, .string ⟨#[]⟩, .slice (some ⟨b, 0, none⟩) 2 2, .bool true]
/-- The token with two attributes, boxed. -/
theorem laidB (w : World) : AtIn ((w.alloc (.cells atB 56)).alloc (.cells (boxB w.heap.size) 40)) (.slice (some ⟨w.heap.size, 0, none⟩) 2 2) rowB.a ∧ ((w.alloc (.cells atB 56)).alloc (.cells (boxB w.heap.size) 40)).heap[w.heap.size + 1]? = some (.cells (boxB w.heap.size) 40 (0, 0)) ∧ Below w.heap.size w ((w.alloc (.cells atB 56)).alloc (.cells (boxB w.heap.size) 40)) := by
  have b1 := (Below.refl w.heap.size w).alloc (Nat.le_refl _) (.cells atB 56)
  have b2 := (Below.refl (w.alloc (.cells atB 56)).heap.size (w.alloc (.cells atB 56))).alloc (Nat.le_refl _) (.cells (boxB w.heap.size) 40)
  refine ⟨(atB_in w).below b2, ?_, b1.trans (b2.mono b1.size)⟩
  have h := new_block (w.alloc (.cells atB 56)) (.cells (boxB w.heap.size) 40)
  rw [size_alloc] at h
  exact h

set_option maxRecDepth 100000 in
set_option maxHeartbeats 16000000 in
theorem tokensL_hid : Hid (∀ W, Low W → Calls Tryz.prog 11 #[] W fun e w' => e = .returned (.bool true) ∧ Below W.heap.size W w') := Lib.hid fun w hlow => by
  have T1 := tells_hid text1 rows1 _ read1 (by decide)
  have T2 := tells_hid text2 rows2 _ read2 (by decide)
  have T3 := tells_hid text3 rows3 _ read3 (by decide)
  have T4 := tells_hid text4 [textT [97]] _ read4 (by decide)
  have CP := print_hid [rowB] outB printB (by decide) (by decide)
  have CR1 := rawP_hid ⟨#[116, 105, 116, 108, 101]⟩ true (by decide)
  have CR2 := rawP_hid ⟨#[98]⟩ false (by decide)
  have HLow := Lib.hid hlow
  obtain ⟨p1, p2, p3⟩ := laidB w
  have hs2 : ((w.alloc (.cells atB 56)).alloc (.cells (boxB w.heap.size) 40)).heap.size = w.heap.size + 1 + 1 := by rw [size_alloc, size_alloc]
  obtain ⟨q1, q2, q3⟩ := laid2 ((w.alloc (.cells atB 56)).alloc (.cells (boxB w.heap.size) 40)) #[.int .i64 1, .string ⟨#[]⟩, .string ⟨#[97]⟩, .slice none 0 0, .bool false, .int .i64 2, .string ⟨#[98]⟩, .string ⟨#[]⟩, .slice (some ⟨w.heap.size, 0, none⟩) 2 2, .bool true, .int .i64 1, .string ⟨#[]⟩, .string ⟨#[98]⟩, .slice none 0 0, .bool false] #[.int .i64 142, .int .i64 8] rows1 [(142, 8)] (TkCs.plain _ _ _ _ (TkCs.withB p1 (TkCs.plain _ _ _ _ (TkCs.none _)))) rfl 3 1 rfl rfl
  have hb4 := p3.trans (q3.mono p3.size)
  have H4 := Lib.hid (And.intro q1 (And.intro q2 (And.intro hb4 (And.intro (p1.below q3) ((q3.block _ (lt_of_block p2)).trans p2)))))
  have e0 := cell_of p2 0
  have e1 := cell_of p2 1
  have e2 := cell_of p2 2
  have e3 := cell_of p2 3
  have e4 := cell_of p2 4
  rw [hs2] at H4
  unfold atB boxB at H4 e0 e1 e2 e3 e4
  clear hlow p1 p2 p3 hs2 q1 q2 q3 hb4
  unfold text1 at T1
  unfold text2 at T2
  unfold text3 at T3
  unfold text4 at T4
  unfold outB at CP
  go_enter Tryz.func11, Tryz.ntmps11
  go_wp2_with fail
  (with_reducible refine (T1.out _ _ _ (HLow.out.below H4.out.2.2.1) H4.out.1 H4.out.2.1).mono ?_)
  rintro e w5 ⟨rfl, b5⟩
  have B5 := H4.out.2.2.1.trans (b5.mono H4.out.2.2.1.size)
  have A5 := H4.out.2.2.2.1.below b5
  have X5 := (b5.block _ (lt_of_block H4.out.2.2.2.2)).trans H4.out.2.2.2.2
  -- the second row
  obtain ⟨r1, r2⟩ := laid1 w5 #[.int .i64 2, .string ⟨#[115, 99, 114, 105, 112, 116]⟩, .string ⟨#[]⟩, .slice none 0 0, .bool false, .int .i64 1, .string ⟨#[]⟩, .string ⟨#[97, 60, 98]⟩, .slice none 0 0, .bool false, .int .i64 3, .string ⟨#[115, 99, 114, 105, 112, 116]⟩, .string ⟨#[]⟩, .slice none 0 0, .bool false] rows2 (TkCs.plain _ _ _ _ (TkCs.plain _ _ _ _ (TkCs.plain _ _ _ _ (TkCs.none _)))) 3 rfl
  have H6 := Lib.hid (And.intro r1 (And.intro (B5.trans (r2.mono B5.size)) (And.intro (A5.below r2) ((r2.block _ (lt_of_block X5)).trans X5))))
  clear b5 H4 B5 A5 X5 r1 r2 T1 e0 e1 e2 e3 e4
  go_wp2_with fail
  (with_reducible refine (T2.out _ _ _ (HLow.out.below H6.out.2.1) H6.out.1 (FailIn.nil _ _ _)).mono ?_)
  rintro e w7 ⟨rfl, b7⟩
  have B7 := H6.out.2.1.trans (b7.mono H6.out.2.1.size)
  have A7 := H6.out.2.2.1.below b7
  have X7 := (b7.block _ (lt_of_block H6.out.2.2.2)).trans H6.out.2.2.2
  obtain ⟨s1, s2, s3⟩ := laid2 w7 #[.int .i64 4, .string ⟨#[]⟩, .string ⟨#[120]⟩, .slice none 0 0, .bool false, .int .i64 1, .string ⟨#[]⟩, .string ⟨#[49, 60, 50]⟩, .slice none 0 0, .bool false, .int .i64 4, .string ⟨#[]⟩, .string ⟨#[]⟩, .slice none 0 0, .bool false] #[.int .i64 141, .int .i64 9, .int .i64 141, .int .i64 11] rows3 [(141, 9), (141, 11)] (TkCs.plain _ _ _ _ (TkCs.plain _ _ _ _ (TkCs.plain _ _ _ _ (TkCs.none _)))) rfl 3 2 rfl rfl
  have H8 := Lib.hid (And.intro s1 (And.intro s2 (And.intro (B7.trans (s3.mono B7.size)) (And.intro (A7.below s3) ((s3.block _ (lt_of_block X7)).trans X7)))))
  clear b7 H6 B7 A7 X7 s1 s2 s3 T2
  go_wp2_with fail
  (with_reducible refine (T3.out _ _ _ (HLow.out.below H8.out.2.2.1) H8.out.1 H8.out.2.1).mono ?_)
  rintro e w9 ⟨rfl, b9⟩
  have B9 := H8.out.2.2.1.trans (b9.mono H8.out.2.2.1.size)
  have A9 := H8.out.2.2.2.1.below b9
  have X9 := (b9.block _ (lt_of_block H8.out.2.2.2.2)).trans H8.out.2.2.2.2
  obtain ⟨u1, u2, u3⟩ := laid2 w9 #[.int .i64 1, .string ⟨#[]⟩, .string ⟨#[97]⟩, .slice none 0 0, .bool false] #[.int .i64 140, .int .i64 1] [textT [97]] [(140, 1)] (TkCs.plain _ _ _ _ (TkCs.none _)) rfl 1 1 rfl rfl
  have H10 := Lib.hid (And.intro u1 (And.intro u2 (And.intro (B9.trans (u3.mono B9.size)) (And.intro (A9.below u3) ((u3.block _ (lt_of_block X9)).trans X9)))))
  clear b9 H8 B9 A9 X9 u1 u2 u3 T3
  go_wp2_with fail
  (with_reducible refine (T4.out _ _ _ (HLow.out.below H10.out.2.2.1) H10.out.1 H10.out.2.1).mono ?_)
  rintro e w11 ⟨rfl, b11⟩
  have B11 := H10.out.2.2.1.trans (b11.mono H10.out.2.2.1.size)
  have A11 := H10.out.2.2.2.1.below b11
  have X11 := (b11.block _ (lt_of_block H10.out.2.2.2.2)).trans H10.out.2.2.2.2
  have e0 := cell_of X11 0
  have e1 := cell_of X11 1
  have e2 := cell_of X11 2
  have e3 := cell_of X11 3
  have e4 := cell_of X11 4
  obtain ⟨v1, v2⟩ := laid1 w11 #[.int .i64 2, .string ⟨#[98]⟩, .string ⟨#[]⟩, .slice (some ⟨w.heap.size, 0, none⟩) 2 2, .bool true] [rowB] (TkCs.withB A11 (TkCs.none _)) 1 rfl
  have H12 := Lib.hid (And.intro v1 (B11.trans (v2.mono B11.size)))
  clear b11 H10 B11 A11 X11 v1 v2 T4
  go_wp2_with fail
  (with_reducible refine (CP.out _ _ (HLow.out.below H12.out.2) H12.out.1).mono ?_)
  rintro e w13 ⟨rfl, b13⟩
  have H13 := Lib.hid (H12.out.2.trans (b13.mono H12.out.2.size))
  clear b13 H12 CP e0 e1 e2 e3 e4
  go_wp2_with fail
  (with_reducible refine (CR1.out _).mono ?_)
  rintro e w14 ⟨rfl, rfl⟩
  go_wp2_with fail
  (with_reducible refine (CR2.out _).mono ?_)
  rintro e w15 ⟨rfl, rfl⟩
  go_wp2
  go_ret
  exact ⟨rfl, H13.out⟩

end Go.Proofs.YtgbilfbonliipaaGreatDoor
