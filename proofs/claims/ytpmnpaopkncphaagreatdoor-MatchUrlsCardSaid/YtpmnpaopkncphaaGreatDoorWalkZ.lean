/- An address' text; Check and Print: the program's. What is parsed: the program's Parse. What is parsed, branch by branch: the program's Parse. What Parse answers: the program's, for every text; the document's rows. -/
import Derived.Test.YtpmnpaopkncphaaGreatDoorWalkG
import Derived.ScopeJumps
import Derived.Laws.ResultCell
namespace Go.Proofs.YtpmnpaopkncphaaGreatDoor
open Go.RowKit

/-- The library's powers of ten lie as its text lays them. -/
def TabIn (w : World) : Prop := Lib.TabIs Tryz.prog w "internal/strconv.uint64pow10" .u64 Lib.pow10Tab
theorem TabIn.below {w w' : World} (h : TabIn w) (hb : Below w.heap.size w w') : TabIn w' := Lib.tabBelow_of_tabIs h w' hb
theorem TabIn.made {w : World} (h : TabIn w) (x : Obj) : TabIn (w.alloc x) := h.below ((Below.refl _ _).alloc (Nat.le_refl _) _)
theorem dec_len (u : Nat) : (Lib.decDigits u).length ≤ u + 1 := by
  induction u using Nat.strongRecOn with
  | _ u ih =>
    rw [Lib.decDigits]
    split
    · simp
    · have := ih (u / 10) (by omega)
      rw [List.length_append, List.length_singleton]
      omega
theorem itoa_hid (p : Int) (h0 : 0 ≤ p) (h1 : p ≤ 65535) (T : ByteArray) (hT : T.data.toList = Lib.decDigits p.toNat) : Hid (∀ W, TabIn W → Calls Tryz.prog 75 #[.int .i64 p] W fun e w' => e = .returned (.string T) ∧ Below W.heap.size W w') := Lib.hid fun W ht => by
  have h := Tryz.strconv_Itoa p (by omega) (by omega) W ht
  have e : Lib.itoa p = T.data.toList := by unfold Lib.itoa; rw [if_neg (by omega), hT]
  rw [e] at h
  refine h.mono fun e w' ⟨h1, k, os, h2⟩ => ⟨?_, ?_⟩
  · rw [h1]
  · rw [h2]; exact Lib.below_grow _ _ (Nat.le_refl _) _ _

set_option maxRecDepth 100000 in
set_option maxHeartbeats 2000000 in
theorem text_any (o : Bool) (s h : ByteArray) (p : Int) (pa q : ByteArray) (hs : s.size ≤ 100000) (hh : h.size ≤ 100000) (hpa : pa.size ≤ 100000) (hq : q.size ≤ 100000) (hp : o = false → 0 ≤ p ∧ p ≤ 65535) (T : ByteArray) (hT : T.data.toList = textM (uM o s h p pa q)) (w : World) (ht : TabIn w) : Calls Tryz.prog 43 #[uV o s h p pa q] w fun e w' => e = .returned (.string T) ∧ Below w.heap.size w w' := by
  unfold uV
  cases o
  case true =>
    have hM : T.data.toList = s.data.toList ++ 58 :: pa.data.toList := hT
    obtain ⟨A1, hA1⟩ := text_of (s.data.toList ++ [58])
    have z1 : A1.size = s.size + 1 := by rw [← lsize, hA1, List.length_append, lsize]; rfl
    have a1 := add_to s ⟨#[58]⟩ A1 hA1 (by show s.size + 1 ≤ _; omega)
    have a2 := add_to A1 pa T (by rw [hM, hA1]; simp) (by omega)
    clear hM hT hA1 z1 hp
    go_enter Tryz.func43, Tryz.ntmps43
    go_wp2
    go_ret
    exact ⟨rfl, (Below.refl _ _).alloc (Nat.le_refl _) _⟩
  case false =>
    have hM : T.data.toList = s.data.toList ++ 58 :: 47 :: 47 :: (h.data.toList ++ (portT p ++ (pa.data.toList ++ q.data.toList))) := hT
    obtain ⟨p0, p1⟩ := hp rfl
    obtain ⟨PT, hPT⟩ := text_of (portT p)
    obtain ⟨A1, hA1⟩ := text_of (s.data.toList ++ [58, 47, 47])
    have z1 : A1.size = s.size + 3 := by rw [← lsize, hA1, List.length_append, lsize]; rfl
    obtain ⟨A2, hA2⟩ := text_of (A1.data.toList ++ h.data.toList)
    have z2 : A2.size = A1.size + h.size := by rw [← lsize, hA2, List.length_append, lsize, lsize]
    obtain ⟨A3, hA3⟩ := text_of (A2.data.toList ++ PT.data.toList)
    have z3 : A3.size = A2.size + PT.size := by rw [← lsize, hA3, List.length_append, lsize, lsize]
    obtain ⟨A4, hA4⟩ := text_of (A3.data.toList ++ pa.data.toList)
    have z4 : A4.size = A3.size + pa.size := by rw [← lsize, hA4, List.length_append, lsize, lsize]
    have zp : PT.size ≤ 100000 := by
      rw [← lsize, hPT]
      unfold portT
      split
      · exact Nat.zero_le _
      · have := dec_len p.toNat
        rw [List.length_cons]; omega
    have a1 := add_to s ⟨#[58, 47, 47]⟩ A1 hA1 (by show s.size + 3 ≤ _; omega)
    have a2 := add_to A1 h A2 hA2 (by omega)
    have a3 := add_to A2 PT A3 hA3 (by omega)
    have a4 := add_to A3 pa A4 hA4 (by omega)
    have a5 := add_to A4 q T (by rw [hM, hA4, hA3, hA2, hA1, hPT]; simp) (by omega)
    clear hM hT hA1 hA2 hA3 hA4 z1 z2 z3 z4 zp hp
    by_cases h0 : p = 0
    · have g : (p != 0) = false := by rw [bne_eq_false_iff_eq]; exact h0
      obtain rfl : PT = ⟨#[]⟩ := by apply text_is; rw [hPT, h0]; rfl
      clear hPT h0
      go_enter Tryz.func43, Tryz.ntmps43
      go_wp2
      go_ret
      exact ⟨rfl, (Below.refl _ _).alloc (Nat.le_refl _) _⟩
    · have g : (p != 0) = true := by rw [bne_iff_ne]; exact h0
      obtain ⟨IT, hIT⟩ := text_of (Lib.decDigits p.toNat)
      have a0 := add_to ⟨#[58]⟩ IT PT (by rw [hPT, hIT]; unfold portT; rw [if_neg h0]; rfl) (by
        have := dec_len p.toNat
        rw [← hIT, lsize] at this
        show 1 + IT.size ≤ _; omega)
      have CI := itoa_hid p p0 p1 IT hIT
      clear hPT h0 hIT
      go_enter Tryz.func43, Tryz.ntmps43
      go_wp2_with fail
      have x1 := BX.made w false s h p pa q
      have t1 := ht.made (.cells #[.bool false, .string s, .string h, .int .i64 p, .string pa, .string q] 26)
      have B1 : Below w.heap.size w (w.alloc (.cells #[.bool false, .string s, .string h, .int .i64 p, .string pa, .string q] 26)) := (Below.refl _ _).alloc (Nat.le_refl _) _
      generalize hR : w.heap.size = R at x1 B1 ⊢
      have HR := Lib.hid hR
      clear hR
      generalize w.alloc (.cells #[.bool false, .string s, .string h, .int .i64 p, .string pa, .string q] 26) = w1 at x1 B1 t1 ⊢
      refine (CI.out _ t1).mono ?_
      rintro e w2 ⟨rfl, b2⟩
      have x2 := x1.below b2
      have B2 := B1.trans (b2.mono (Nat.le_of_lt x1.lt))
      have c1 := x2.c1
      have c2 := x2.c2
      have c4 := x2.c4
      have c5 := x2.c5
      go_wp2
      go_ret
      exact ⟨rfl, by rw [HR.out]; exact B2⟩
theorem text_hid (o : Bool) (s h : ByteArray) (p : Int) (pa q : ByteArray) (hs : s.size ≤ 100000) (hh : h.size ≤ 100000) (hpa : pa.size ≤ 100000) (hq : q.size ≤ 100000) (hp : o = false → 0 ≤ p ∧ p ≤ 65535) (T : ByteArray) (hT : T.data.toList = textM (uM o s h p pa q)) : Hid (∀ W, TabIn W → Calls Tryz.prog 43 #[uV o s h p pa q] W fun e w' => e = .returned (.string T) ∧ Below W.heap.size W w') :=
  Lib.hid fun W ht => text_any o s h p pa q hs hh hpa hq hp T hT W ht

/-- Check's answer. -/
def chk (u : U) : Int := if rightM u then 0 else 50

set_option maxRecDepth 100000 in
set_option maxHeartbeats 2000000 in
theorem check_any (o : Bool) (s h : ByteArray) (p : Int) (pa q : ByteArray) (hs : s.size ≤ 100000) (hh : h.size ≤ 100000) (hpa : pa.size ≤ 100000) (hq : q.size ≤ 100000) (w : World) (hmx : MaxIn w) (ht : TabIn w) : Calls Tryz.prog 22 #[uV o s h p pa q] w fun e w' => e = .returned (.int .i64 (chk (uM o s h p pa q))) ∧ Below w.heap.size w w' := by
  obtain ⟨T, hT⟩ := text_of (textM (uM o s h p pa q))
  have hM : rightM (uM o s h p pa q) = ((if o then opaqueM (uM o s h p pa q) else rankedM (uM o s h p pa q)) && decide (T.size ≤ 500)) := by
    unfold rightM; rw [← hT, lsize]; rfl
  obtain ⟨rb, hrb⟩ : ∃ b, rankedM (uM o s h p pa q) = b := ⟨_, rfl⟩
  obtain ⟨ob, hob⟩ : ∃ b, opaqueM (uM o s h p pa q) = b := ⟨_, rfl⟩
  have CR := ranked_hid o s h p pa q rb hrb hs hh hpa hq
  have CO := opaque_hid o s h p pa q ob hob hs hpa
  have hrp : rb = true → 0 ≤ p ∧ p ≤ 65535 := fun e => by
    rw [e] at hrb
    unfold rankedM at hrb
    simp only [Bool.and_eq_true, decide_eq_true_eq] at hrb
    exact ⟨hrb.1.1.1.1.2, hrb.1.1.1.2⟩
  rw [hrb, hob] at hM
  have HM : Hid (chk (uM o s h p pa q) = if ((if o then ob else rb) && decide (T.size ≤ 500)) then 0 else 50) := Lib.hid (by unfold chk; rw [hM])
  have HT := Lib.hid (text_hid o s h p pa q hs hh hpa hq)
  have HTT := Lib.hid hT
  clear hM hrb hob hT
  unfold uV at *
  cases o
  · cases rb
    · have HF : Hid (50 = chk (uM false s h p pa q)) := Lib.hid (by rw [HM.out]; rfl)
      clear HT
      go_enter Tryz.func22, Tryz.ntmps22
      go_wp2_with fail
      have x1 := BX.made w false s h p pa q
      have m1 := hmx.made (.cells #[.bool false, .string s, .string h, .int .i64 p, .string pa, .string q] 26)
      have t1 := ht.made (.cells #[.bool false, .string s, .string h, .int .i64 p, .string pa, .string q] 26)
      have B1 : Below w.heap.size w (w.alloc (.cells #[.bool false, .string s, .string h, .int .i64 p, .string pa, .string q] 26)) := (Below.refl _ _).alloc (Nat.le_refl _) _
      generalize hR : w.heap.size = R at x1 B1 ⊢
      have HR := Lib.hid hR
      clear hR
      generalize w.alloc (.cells #[.bool false, .string s, .string h, .int .i64 p, .string pa, .string q] 26) = w1 at x1 B1 m1 t1 ⊢
      refine (CR.out _ m1).mono ?_
      rintro e w2 ⟨rfl, b2⟩
      have x2 := x1.below b2
      have m2 := m1.below b2
      have t2 := t1.below b2
      have B2 := B1.trans (b2.mono (Nat.le_of_lt x1.lt))
      have k20 := x2.c0
      have k21 := x2.c1
      have k22 := x2.c2
      have k23 := x2.c3
      have k24 := x2.c4
      have k25 := x2.c5
      clear b2 x1 m1 t1 B1
      go_wp2
      go_ret
      exact ⟨ret_int HF.out, by rw [HR.out]; exact B2⟩
    · have CT := HT.out (fun _ => hrp rfl) T HTT.out
      clear HT hrp
      by_cases hz : (500 : Int) < (T.size : Int)
      · have HF : Hid (50 = chk (uM false s h p pa q)) := Lib.hid (by rw [HM.out, decide_eq_false (by omega)]; rfl)
        go_enter Tryz.func22, Tryz.ntmps22
        go_wp2_with fail
        have x1 := BX.made w false s h p pa q
        have m1 := hmx.made (.cells #[.bool false, .string s, .string h, .int .i64 p, .string pa, .string q] 26)
        have t1 := ht.made (.cells #[.bool false, .string s, .string h, .int .i64 p, .string pa, .string q] 26)
        have B1 : Below w.heap.size w (w.alloc (.cells #[.bool false, .string s, .string h, .int .i64 p, .string pa, .string q] 26)) := (Below.refl _ _).alloc (Nat.le_refl _) _
        generalize hR : w.heap.size = R at x1 B1 ⊢
        have HR := Lib.hid hR
        clear hR
        generalize w.alloc (.cells #[.bool false, .string s, .string h, .int .i64 p, .string pa, .string q] 26) = w1 at x1 B1 m1 t1 ⊢
        refine (CR.out _ m1).mono ?_
        rintro e w2 ⟨rfl, b2⟩
        have x2 := x1.below b2
        have m2 := m1.below b2
        have t2 := t1.below b2
        have B2 := B1.trans (b2.mono (Nat.le_of_lt x1.lt))
        have k20 := x2.c0
        have k21 := x2.c1
        have k22 := x2.c2
        have k23 := x2.c3
        have k24 := x2.c4
        have k25 := x2.c5
        clear b2 x1 m1 t1 B1
        go_wp2_with fail
        refine (CT.out _ t2).mono ?_
        rintro e w9 ⟨rfl, b9⟩
        have B9 := B2.trans (b9.mono (Nat.le_of_lt x2.lt))
        clear b9 x2 m2 t2 B2
        go_wp2
        go_ret
        exact ⟨ret_int HF.out, by rw [HR.out]; exact B9⟩
      · have HF : Hid (0 = chk (uM false s h p pa q)) := Lib.hid (by rw [HM.out, decide_eq_true (by omega)]; rfl)
        go_enter Tryz.func22, Tryz.ntmps22
        go_wp2_with fail
        have x1 := BX.made w false s h p pa q
        have m1 := hmx.made (.cells #[.bool false, .string s, .string h, .int .i64 p, .string pa, .string q] 26)
        have t1 := ht.made (.cells #[.bool false, .string s, .string h, .int .i64 p, .string pa, .string q] 26)
        have B1 : Below w.heap.size w (w.alloc (.cells #[.bool false, .string s, .string h, .int .i64 p, .string pa, .string q] 26)) := (Below.refl _ _).alloc (Nat.le_refl _) _
        generalize hR : w.heap.size = R at x1 B1 ⊢
        have HR := Lib.hid hR
        clear hR
        generalize w.alloc (.cells #[.bool false, .string s, .string h, .int .i64 p, .string pa, .string q] 26) = w1 at x1 B1 m1 t1 ⊢
        refine (CR.out _ m1).mono ?_
        rintro e w2 ⟨rfl, b2⟩
        have x2 := x1.below b2
        have m2 := m1.below b2
        have t2 := t1.below b2
        have B2 := B1.trans (b2.mono (Nat.le_of_lt x1.lt))
        have k20 := x2.c0
        have k21 := x2.c1
        have k22 := x2.c2
        have k23 := x2.c3
        have k24 := x2.c4
        have k25 := x2.c5
        clear b2 x1 m1 t1 B1
        go_wp2_with fail
        refine (CT.out _ t2).mono ?_
        rintro e w9 ⟨rfl, b9⟩
        have B9 := B2.trans (b9.mono (Nat.le_of_lt x2.lt))
        clear b9 x2 m2 t2 B2
        go_wp2
        go_ret
        exact ⟨ret_int HF.out, by rw [HR.out]; exact B9⟩
  · have CT := HT.out (fun h => by cases h) T HTT.out
    clear HT hrp
    cases ob
    · have HF : Hid (50 = chk (uM true s h p pa q)) := Lib.hid (by rw [HM.out]; rfl)
      go_enter Tryz.func22, Tryz.ntmps22
      go_wp2_with fail
      have x1 := BX.made w true s h p pa q
      have m1 := hmx.made (.cells #[.bool true, .string s, .string h, .int .i64 p, .string pa, .string q] 26)
      have t1 := ht.made (.cells #[.bool true, .string s, .string h, .int .i64 p, .string pa, .string q] 26)
      have B1 : Below w.heap.size w (w.alloc (.cells #[.bool true, .string s, .string h, .int .i64 p, .string pa, .string q] 26)) := (Below.refl _ _).alloc (Nat.le_refl _) _
      generalize hR : w.heap.size = R at x1 B1 ⊢
      have HR := Lib.hid hR
      clear hR
      generalize w.alloc (.cells #[.bool true, .string s, .string h, .int .i64 p, .string pa, .string q] 26) = w1 at x1 B1 m1 t1 ⊢
      refine (CR.out _ m1).mono ?_
      rintro e w2 ⟨rfl, b2⟩
      have x2 := x1.below b2
      have m2 := m1.below b2
      have t2 := t1.below b2
      have B2 := B1.trans (b2.mono (Nat.le_of_lt x1.lt))
      have k20 := x2.c0
      have k21 := x2.c1
      have k22 := x2.c2
      have k23 := x2.c3
      have k24 := x2.c4
      have k25 := x2.c5
      clear b2 x1 m1 t1 B1
      go_wp2_with fail
      refine (CO.out _ ).mono ?_
      rintro e w3 ⟨rfl, b3⟩
      have x3 := x2.below b3
      have m3 := m2.below b3
      have t3 := t2.below b3
      have B3 := B2.trans (b3.mono (Nat.le_of_lt x2.lt))
      have k30 := x3.c0
      have k31 := x3.c1
      have k32 := x3.c2
      have k33 := x3.c3
      have k34 := x3.c4
      have k35 := x3.c5
      clear b3 x2 m2 t2 B2
      go_wp2
      go_ret
      exact ⟨ret_int HF.out, by rw [HR.out]; exact B3⟩
    · by_cases hz : (500 : Int) < (T.size : Int)
      · have HF : Hid (50 = chk (uM true s h p pa q)) := Lib.hid (by rw [HM.out, decide_eq_false (by omega)]; rfl)
        go_enter Tryz.func22, Tryz.ntmps22
        go_wp2_with fail
        have x1 := BX.made w true s h p pa q
        have m1 := hmx.made (.cells #[.bool true, .string s, .string h, .int .i64 p, .string pa, .string q] 26)
        have t1 := ht.made (.cells #[.bool true, .string s, .string h, .int .i64 p, .string pa, .string q] 26)
        have B1 : Below w.heap.size w (w.alloc (.cells #[.bool true, .string s, .string h, .int .i64 p, .string pa, .string q] 26)) := (Below.refl _ _).alloc (Nat.le_refl _) _
        generalize hR : w.heap.size = R at x1 B1 ⊢
        have HR := Lib.hid hR
        clear hR
        generalize w.alloc (.cells #[.bool true, .string s, .string h, .int .i64 p, .string pa, .string q] 26) = w1 at x1 B1 m1 t1 ⊢
        refine (CR.out _ m1).mono ?_
        rintro e w2 ⟨rfl, b2⟩
        have x2 := x1.below b2
        have m2 := m1.below b2
        have t2 := t1.below b2
        have B2 := B1.trans (b2.mono (Nat.le_of_lt x1.lt))
        have k20 := x2.c0
        have k21 := x2.c1
        have k22 := x2.c2
        have k23 := x2.c3
        have k24 := x2.c4
        have k25 := x2.c5
        clear b2 x1 m1 t1 B1
        go_wp2_with fail
        refine (CO.out _ ).mono ?_
        rintro e w3 ⟨rfl, b3⟩
        have x3 := x2.below b3
        have m3 := m2.below b3
        have t3 := t2.below b3
        have B3 := B2.trans (b3.mono (Nat.le_of_lt x2.lt))
        have k30 := x3.c0
        have k31 := x3.c1
        have k32 := x3.c2
        have k33 := x3.c3
        have k34 := x3.c4
        have k35 := x3.c5
        clear b3 x2 m2 t2 B2
        clear k20 k21 k22 k23 k24 k25
        go_wp2_with fail
        refine (CT.out _ t3).mono ?_
        rintro e w9 ⟨rfl, b9⟩
        have B9 := B3.trans (b9.mono (Nat.le_of_lt x3.lt))
        clear b9 x3 m3 t3 B3
        go_wp2
        go_ret
        exact ⟨ret_int HF.out, by rw [HR.out]; exact B9⟩
      · have HF : Hid (0 = chk (uM true s h p pa q)) := Lib.hid (by rw [HM.out, decide_eq_true (by omega)]; rfl)
        go_enter Tryz.func22, Tryz.ntmps22
        go_wp2_with fail
        have x1 := BX.made w true s h p pa q
        have m1 := hmx.made (.cells #[.bool true, .string s, .string h, .int .i64 p, .string pa, .string q] 26)
        have t1 := ht.made (.cells #[.bool true, .string s, .string h, .int .i64 p, .string pa, .string q] 26)
        have B1 : Below w.heap.size w (w.alloc (.cells #[.bool true, .string s, .string h, .int .i64 p, .string pa, .string q] 26)) := (Below.refl _ _).alloc (Nat.le_refl _) _
        generalize hR : w.heap.size = R at x1 B1 ⊢
        have HR := Lib.hid hR
        clear hR
        generalize w.alloc (.cells #[.bool true, .string s, .string h, .int .i64 p, .string pa, .string q] 26) = w1 at x1 B1 m1 t1 ⊢
        refine (CR.out _ m1).mono ?_
        rintro e w2 ⟨rfl, b2⟩
        have x2 := x1.below b2
        have m2 := m1.below b2
        have t2 := t1.below b2
        have B2 := B1.trans (b2.mono (Nat.le_of_lt x1.lt))
        have k20 := x2.c0
        have k21 := x2.c1
        have k22 := x2.c2
        have k23 := x2.c3
        have k24 := x2.c4
        have k25 := x2.c5
        clear b2 x1 m1 t1 B1
        go_wp2_with fail
        refine (CO.out _ ).mono ?_
        rintro e w3 ⟨rfl, b3⟩
        have x3 := x2.below b3
        have m3 := m2.below b3
        have t3 := t2.below b3
        have B3 := B2.trans (b3.mono (Nat.le_of_lt x2.lt))
        have k30 := x3.c0
        have k31 := x3.c1
        have k32 := x3.c2
        have k33 := x3.c3
        have k34 := x3.c4
        have k35 := x3.c5
        clear b3 x2 m2 t2 B2
        clear k20 k21 k22 k23 k24 k25
        go_wp2_with fail
        refine (CT.out _ t3).mono ?_
        rintro e w9 ⟨rfl, b9⟩
        have B9 := B3.trans (b9.mono (Nat.le_of_lt x3.lt))
        clear b9 x3 m3 t3 B3
        go_wp2
        go_ret
        exact ⟨ret_int HF.out, by rw [HR.out]; exact B9⟩
theorem check_hid (o : Bool) (s h : ByteArray) (p : Int) (pa q : ByteArray) (n : Int) (hn : chk (uM o s h p pa q) = n) (hs : s.size ≤ 100000) (hh : h.size ≤ 100000) (hpa : pa.size ≤ 100000) (hq : q.size ≤ 100000) : Hid (∀ W, MaxIn W → TabIn W → Calls Tryz.prog 22 #[uV o s h p pa q] W fun e w' => e = .returned (.int .i64 n) ∧ Below W.heap.size W w') :=
  Lib.hid fun W hm ht => by rw [← hn]; exact check_any o s h p pa q hs hh hpa hq W hm ht

theorem right_port {o : Bool} {s h : ByteArray} {p : Int} {pa q : ByteArray} (hr : rightM (uM o s h p pa q) = true) : o = false → 0 ≤ p ∧ p ≤ 65535 := fun e => by
  subst e
  unfold rightM at hr
  rw [Bool.and_eq_true] at hr
  have h1 : rankedM (uM false s h p pa q) = true := hr.1
  unfold rankedM at h1
  simp only [Bool.and_eq_true, decide_eq_true_eq] at h1
  exact ⟨h1.1.1.1.1.2, h1.1.1.1.2⟩
end Go.Proofs.YtpmnpaopkncphaaGreatDoor

namespace Go.Proofs.YtpmnpaopkncphaaGreatDoor
open Go.RowKit

theorem cutText_hid (s T : ByteArray) (hs : s.size ≤ 1000000) (hT : T.data.toList = upto (isC 35) s.data.toList) : Hid (∀ W, MaxIn W → Calls Tryz.prog 78 #[.string s, .string ⟨#[35]⟩] W fun e w' => (∃ a b, e = .returned (.tuple #[.string T, .string a, .bool b])) ∧ ∃ n, w' = W.drewN n) := Lib.hid fun W hm => by
  obtain ⟨m, hm⟩ := hm
  have e1 : (Lib.cut s.data.toList (⟨#[35]⟩ : ByteArray).data.toList).1 = T.data.toList := by
    rw [hT]
    show (Lib.cut s.data.toList [35]).1 = _
    unfold Lib.cut
    rcases index_one s.data.toList 35 with ⟨h1, h2⟩ | ⟨a, r, h1, h2, h3⟩
    · rw [h1, (past_none (isC 35) _ h2).1]; rfl
    · rw [h3, if_pos (by omega), h1, (past_hit (isC 35) a 35 r h2 rfl).1]
      simp
  have h := Tryz.strings_Cut s ⟨#[35]⟩ m W (by omega) hm
  rw [e1, ← text_is (T := T) rfl] at h
  exact h.mono fun e w' ⟨h1, h2⟩ => ⟨⟨_, _, h1⟩, h2⟩

/-- An address stored into its block, cell by cell. -/
def stU (w : World) (R : Nat) (o : Bool) (s h : ByteArray) (p : Int) (pa q : ByteArray) : World := (((((w.setCell ⟨R, 0, none⟩ (.bool o)).setCell ⟨R, 1, none⟩ (.string s)).setCell ⟨R, 2, none⟩ (.string h)).setCell ⟨R, 3, none⟩ (.int .i64 p)).setCell ⟨R, 4, none⟩ (.string pa)).setCell ⟨R, 5, none⟩ (.string q)
theorem BX.store {w : World} {R : Nat} {s h pa q : ByteArray} {o : Bool} {p : Int} (a : BX w R o s h p pa q) (o2 : Bool) (s2 h2 : ByteArray) (p2 : Int) (pa2 q2 : ByteArray) : BX (stU w R o2 s2 h2 p2 pa2 q2) R o2 s2 h2 p2 pa2 q2 := by
  unfold BX at *
  unfold stU
  rw [heap_setCell_same _ R 5 _ _ _ _ (heap_setCell_same _ R 4 _ _ _ _ (heap_setCell_same _ R 3 _ _ _ _ (heap_setCell_same _ R 2 _ _ _ _ (heap_setCell_same _ R 1 _ _ _ _ (heap_setCell_same _ R 0 _ _ _ _ a)))))]
  rfl
theorem stU_below {w0 w : World} {R : Nat} (hb : Below R w0 w) (o : Bool) (s h : ByteArray) (p : Int) (pa q : ByteArray) : Below R w0 (stU w R o s h p pa q) :=
  (((((hb.setCell (Nat.le_refl _) _).setCell (Nat.le_refl _) _).setCell (Nat.le_refl _) _).setCell (Nat.le_refl _) _).setCell (Nat.le_refl _) _).setCell (Nat.le_refl _) _

/-- What Parse has ahead of its cuts. -/
theorem pre_texts (s : ByteArray) (hs : s.size ≤ 10000) (L : ByteArray) (hL : L.data.toList = upto (isC 35) (trim s.data.toList)) : L.size ≤ 10000 ∧ ∃ T1 : ByteArray, Hid (∀ W, Calls Tryz.prog 74 #[.string s] W fun e w' => e = .returned (.string T1) ∧ Below W.heap.size W w') ∧ Hid (∀ W, MaxIn W → Calls Tryz.prog 78 #[.string T1, .string ⟨#[35]⟩] W fun e w' => (∃ a b, e = .returned (.tuple #[.string L, .string a, .bool b])) ∧ ∃ n, w' = W.drewN n) := by
  obtain ⟨T1, hT1⟩ := text_of (trim s.data.toList)
  have hT1s : T1.size ≤ s.size := by rw [← lsize T1, ← lsize s, hT1]; exact trim_length _
  rw [← hT1] at hL
  refine ⟨?_, T1, trim_hid s T1 hT1 (by omega), cutText_hid T1 L (by omega) hL⟩
  have := upto_length (isC 35) T1.data.toList
  rw [← hL, lsize, lsize] at this
  omega

set_option maxRecDepth 100000 in
set_option maxHeartbeats 2000000 in
/-- No colon. -/
theorem parse_a (s : ByteArray) (hs : s.size ≤ 10000) (L : ByteArray) (hL : L.data.toList = upto (isC 35) (trim s.data.toList)) (h0 : past (isC 58) L.data.toList = []) (w : World) (hmx : MaxIn w) (ht : TabIn w) : Calls Tryz.prog 46 #[.string s] w fun e w' => e = .returned (.tuple #[uV false ⟨#[]⟩ ⟨#[]⟩ 0 ⟨#[]⟩ ⟨#[]⟩, .int .i64 50]) ∧ Below w.heap.size w w' := by
  obtain ⟨hLs, T1, C1, C2⟩ := pre_texts s hs L hL
  obtain ⟨sc, hsc⟩ := text_of (low (upto (isC 58) L.data.toList))
  have C3 := fun B w a => cutScheme_any L sc ⟨#[]⟩ ⟨#[]⟩ false hsc (by rw [h0]) rfl rfl (by omega) B w false ⟨#[]⟩ ⟨#[]⟩ 0 ⟨#[]⟩ ⟨#[]⟩ a
  have HC3 := Lib.hid C3
  clear hL h0 hsc C3
  go_enter Tryz.func46, Tryz.ntmps46
  go_wp2_with fail
  have x1 := BX.made w false ⟨#[]⟩ ⟨#[]⟩ 0 ⟨#[]⟩ ⟨#[]⟩
  have m1 := hmx.made (.cells #[.bool false, .string ⟨#[]⟩, .string ⟨#[]⟩, .int .i64 0, .string ⟨#[]⟩, .string ⟨#[]⟩] 26)
  have t1 := ht.made (.cells #[.bool false, .string ⟨#[]⟩, .string ⟨#[]⟩, .int .i64 0, .string ⟨#[]⟩, .string ⟨#[]⟩] 26)
  have B1 : Below w.heap.size w (w.alloc (.cells #[.bool false, .string ⟨#[]⟩, .string ⟨#[]⟩, .int .i64 0, .string ⟨#[]⟩, .string ⟨#[]⟩] 26)) := (Below.refl _ _).alloc (Nat.le_refl _) _
  generalize hR : w.heap.size = R at x1 B1 ⊢
  have HR := Lib.hid hR
  clear hR
  generalize w.alloc (.cells #[.bool false, .string ⟨#[]⟩, .string ⟨#[]⟩, .int .i64 0, .string ⟨#[]⟩, .string ⟨#[]⟩] 26) = w1 at x1 B1 m1 t1 ⊢
  refine wp_scope_jumps 0 (fun a' w' => (∃ (u4 u5 u6 u7 u8 u9 u10 u11 u12 u13 u14 u15 u16 u17 u18 u19 u20 u21 u22 u23 u24 u25 u26 u27 u28 u29 u30 u31 u32 u33 u34 u35 u36 u37 u38 u39 u40 : Value), a' = { tmps := #[.string s, undef, .pointer (some ⟨R, 0, none⟩), .int .i64 0, u4, u5, u6, u7, u8, u9, u10, u11, u12, u13, u14, u15, u16, u17, u18, u19, u20, u21, u22, u23, u24, u25, u26, u27, u28, u29, u30, u31, u32, u33, u34, u35, u36, u37, u38, u39, u40], defers := [] }) ∧ BX w' R false ⟨#[]⟩ ⟨#[]⟩ 0 ⟨#[]⟩ ⟨#[]⟩ ∧ Below R w w') (fun _ _ => 0) rfl ?_ ?_
  case refine_2 =>
    rintro a' w5 ⟨⟨u4, u5, u6, u7, u8, u9, u10, u11, u12, u13, u14, u15, u16, u17, u18, u19, u20, u21, u22, u23, u24, u25, u26, u27, u28, u29, u30, u31, u32, u33, u34, u35, u36, u37, u38, u39, u40, rfl⟩, x5, y5⟩
    clear x1 m1 t1 B1
    have r0 := x5.c0
    have f0 := open_of x5 0
    have r1 := x5.c1
    have f1 := open_of x5 1
    have r2 := x5.c2
    have f2 := open_of x5 2
    have r3 := x5.c3
    have f3 := open_of x5 3
    have r4 := x5.c4
    have f4 := open_of x5 4
    have r5 := x5.c5
    have f5 := open_of x5 5
    have xz := BX.store x5 false ⟨#[]⟩ ⟨#[]⟩ 0 ⟨#[]⟩ ⟨#[]⟩
    have yz := stU_below y5 false ⟨#[]⟩ ⟨#[]⟩ 0 ⟨#[]⟩ ⟨#[]⟩
    go_wp2
    clear r0 f0 r1 f1 r2 f2 r3 f3 r4 f4 r5 f5
    unfold stU at xz yz
    generalize (((((w5.setCell ⟨R, 0, none⟩ (.bool false)).setCell ⟨R, 1, none⟩ (.string ⟨#[]⟩)).setCell ⟨R, 2, none⟩ (.string ⟨#[]⟩)).setCell ⟨R, 3, none⟩ (.int .i64 0)).setCell ⟨R, 4, none⟩ (.string ⟨#[]⟩)).setCell ⟨R, 5, none⟩ (.string ⟨#[]⟩) = wz at xz yz ⊢
    have c0 := xz.c0
    have c1 := xz.c1
    have c2 := xz.c2
    have c3 := xz.c3
    have c4 := xz.c4
    have c5 := xz.c5
    simp only [Exit.jump]
    exact bodyPost_ret (v := .tuple #[uV false ⟨#[]⟩ ⟨#[]⟩ 0 ⟨#[]⟩ ⟨#[]⟩, .int .i64 50]) (by simp [results, Tryz.results46, go_sem, uV, c0, c1, c2, c3, c4, c5]) rfl ⟨rfl, by rw [HR.out]; exact yz⟩
  go_wp2_with fail
  refine (C1.out _).mono ?_
  rintro e w2 ⟨rfl, b2⟩
  have x2 := x1.below b2
  have m2 := m1.below b2
  have t2 := t1.below b2
  have B2 := B1.trans (b2.mono (Nat.le_of_lt x1.lt))
  clear b2 x1 m1 t1 B1
  go_wp2_with fail
  refine (C2.out _ m2).mono ?_
  rintro e w3 ⟨⟨ca, cb, rfl⟩, n3, rfl⟩
  have x3 : BX (w2.drewN n3) R false ⟨#[]⟩ ⟨#[]⟩ 0 ⟨#[]⟩ ⟨#[]⟩ := x2
  have m3 : MaxIn (w2.drewN n3) := m2
  have t3 : TabIn (w2.drewN n3) := t2
  have B3 := belowN B2 n3
  generalize w2.drewN n3 = w3 at x3 m3 t3 B3 ⊢
  clear x2 m2 t2 B2
  go_wp2_with fail
  have a4 : AT (w3.alloc (.cells #[.string L, .bool false, .string ⟨#[]⟩, .string ⟨#[]⟩, .int .i64 0, .string ⟨#[]⟩, .string ⟨#[]⟩] 74)) w3.heap.size L false ⟨#[]⟩ ⟨#[]⟩ 0 ⟨#[]⟩ ⟨#[]⟩ := new_block w3 _
  have K4 : Below w3.heap.size w3 (w3.alloc (.cells #[.string L, .bool false, .string ⟨#[]⟩, .string ⟨#[]⟩, .int .i64 0, .string ⟨#[]⟩, .string ⟨#[]⟩] 74)) := (Below.refl _ _).alloc (Nat.le_refl _) _
  have HB : Hid (∀ w', Below w3.heap.size w3 w' → MaxIn w' ∧ TabIn w' ∧ BX w' R false ⟨#[]⟩ ⟨#[]⟩ 0 ⟨#[]⟩ ⟨#[]⟩ ∧ Below R w w') := Lib.hid fun w' b => ⟨m3.below b, t3.below b, x3.below b, B3.trans (b.mono (Nat.le_of_lt x3.lt))⟩
  have hg : 1 < w3.heap.size := by obtain ⟨_, hm9⟩ := m3; exact lt_of_cell hm9
  clear x3 m3 t3 B3
  generalize w3.heap.size = B at a4 K4 HB hg ⊢
  generalize w3.alloc (.cells #[.string L, .bool false, .string ⟨#[]⟩, .string ⟨#[]⟩, .int .i64 0, .string ⟨#[]⟩, .string ⟨#[]⟩] 74) = w4 at a4 K4 ⊢
  refine (HC3.out B w4 a4).mono ?_
  rintro e w5 ⟨rfl, a5, b5⟩
  have K5 := K4.trans b5
  obtain ⟨m5, t5, x5, y5⟩ := HB.out _ K5
  clear a4 K4 b5 HB
  go_wp2_with fail
  go_step3
  exact ⟨rfl, ⟨_, _, _, _, _, _, _, _, _, _, _, _, _, _, _, _, _, _, _, _, _, _, _, _, _, _, _, _, _, _, _, _, _, _, _, _, _, rfl⟩, x5, y5⟩

end Go.Proofs.YtpmnpaopkncphaaGreatDoor

namespace Go.Proofs.YtpmnpaopkncphaaGreatDoor
open Go.RowKit

set_option maxRecDepth 100000 in
set_option maxHeartbeats 4000000 in
/-- An opaque address that is right. -/
theorem parse_b (s : ByteArray) (hs : s.size ≤ 10000) (L : ByteArray) (hL : L.data.toList = upto (isC 35) (trim s.data.toList)) (L3 sc : ByteArray) (h58 : past (isC 58) L.data.toList = 58 :: L3.data.toList) (hsc : sc.data.toList = low (upto (isC 58) L.data.toList)) (d : Nat) (hd : dfl sc.data.toList = d) (hd0 : d = 0) (pa : ByteArray) (hpa : pa.data.toList = trim L3.data.toList) (hn : chk (uM true sc ⟨#[]⟩ 0 pa ⟨#[]⟩) = 0) (w : World) (hmx : MaxIn w) (ht : TabIn w) : Calls Tryz.prog 46 #[.string s] w fun e w' => e = .returned (.tuple #[uV true sc ⟨#[]⟩ 0 pa ⟨#[]⟩, .int .i64 0]) ∧ Below w.heap.size w w' := by
  obtain ⟨hLs, T1, C1, C2⟩ := pre_texts s hs L hL
  obtain ⟨L2, hL2⟩ := text_of (past (isC 58) L.data.toList)
  have z2 := upto_length (isC 58) L.data.toList
  rw [lsize, h58, List.length_cons, lsize] at z2
  have zsc : sc.size ≤ L.size := by
    rw [← lsize sc, hsc, low_length, ← lsize L]
    have := upto_length (isC 58) L.data.toList
    omega
  have C3 := fun B w a => cutScheme_any L sc L2 L3 true hsc hL2 (by rw [hL2, h58]; rfl) (by rw [hL2, h58]; rfl) (by omega) B w false ⟨#[]⟩ ⟨#[]⟩ 0 ⟨#[]⟩ ⟨#[]⟩ a
  have HC3 := Lib.hid C3
  have CD := default_hid sc d hd
  have zpa : pa.size ≤ L.size := by
    rw [← lsize pa, hpa]
    have := trim_length L3.data.toList
    rw [lsize] at this; omega
  have HC4 := Lib.hid (fun B w a => cutOpaque_any L3 pa hpa (by omega) B w false sc ⟨#[]⟩ 0 ⟨#[]⟩ ⟨#[]⟩ a)
  have CC := check_hid true sc ⟨#[]⟩ 0 pa ⟨#[]⟩ 0 hn (by omega) (by decide) (by omega) (by decide)
  have g1 : ((d : Int) == 0) = true := by rw [beq_iff_eq]; omega
  clear hL h58 hsc hd hL2 C3 hd0 hpa hn
  go_enter Tryz.func46, Tryz.ntmps46
  go_wp2_with fail
  have x1 := BX.made w false ⟨#[]⟩ ⟨#[]⟩ 0 ⟨#[]⟩ ⟨#[]⟩
  have m1 := hmx.made (.cells #[.bool false, .string ⟨#[]⟩, .string ⟨#[]⟩, .int .i64 0, .string ⟨#[]⟩, .string ⟨#[]⟩] 26)
  have t1 := ht.made (.cells #[.bool false, .string ⟨#[]⟩, .string ⟨#[]⟩, .int .i64 0, .string ⟨#[]⟩, .string ⟨#[]⟩] 26)
  have B1 : Below w.heap.size w (w.alloc (.cells #[.bool false, .string ⟨#[]⟩, .string ⟨#[]⟩, .int .i64 0, .string ⟨#[]⟩, .string ⟨#[]⟩] 26)) := (Below.refl _ _).alloc (Nat.le_refl _) _
  generalize hR : w.heap.size = R at x1 B1 ⊢
  have HR := Lib.hid hR
  clear hR
  generalize w.alloc (.cells #[.bool false, .string ⟨#[]⟩, .string ⟨#[]⟩, .int .i64 0, .string ⟨#[]⟩, .string ⟨#[]⟩] 26) = w1 at x1 B1 m1 t1 ⊢
  go_step3
  go_wp2_with fail
  refine (C1.out _).mono ?_
  rintro e w2 ⟨rfl, b2⟩
  have x2 := x1.below b2
  have m2 := m1.below b2
  have t2 := t1.below b2
  have B2 := B1.trans (b2.mono (Nat.le_of_lt x1.lt))
  clear b2 x1 m1 t1 B1
  go_wp2_with fail
  refine (C2.out _ m2).mono ?_
  rintro e w3 ⟨⟨ca, cb, rfl⟩, n3, rfl⟩
  have x3 : BX (w2.drewN n3) R false ⟨#[]⟩ ⟨#[]⟩ 0 ⟨#[]⟩ ⟨#[]⟩ := x2
  have m3 : MaxIn (w2.drewN n3) := m2
  have t3 : TabIn (w2.drewN n3) := t2
  have B3 := belowN B2 n3
  generalize w2.drewN n3 = w3 at x3 m3 t3 B3 ⊢
  clear x2 m2 t2 B2
  go_wp2_with fail
  have a4 : AT (w3.alloc (.cells #[.string L, .bool false, .string ⟨#[]⟩, .string ⟨#[]⟩, .int .i64 0, .string ⟨#[]⟩, .string ⟨#[]⟩] 74)) w3.heap.size L false ⟨#[]⟩ ⟨#[]⟩ 0 ⟨#[]⟩ ⟨#[]⟩ := new_block w3 _
  have K4 : Below w3.heap.size w3 (w3.alloc (.cells #[.string L, .bool false, .string ⟨#[]⟩, .string ⟨#[]⟩, .int .i64 0, .string ⟨#[]⟩, .string ⟨#[]⟩] 74)) := (Below.refl _ _).alloc (Nat.le_refl _) _
  have HB : Hid (∀ w', Below w3.heap.size w3 w' → MaxIn w' ∧ TabIn w' ∧ BX w' R false ⟨#[]⟩ ⟨#[]⟩ 0 ⟨#[]⟩ ⟨#[]⟩ ∧ Below R w w') := Lib.hid fun w' b => ⟨m3.below b, t3.below b, x3.below b, B3.trans (b.mono (Nat.le_of_lt x3.lt))⟩
  have hg : 1 < w3.heap.size := by obtain ⟨_, hm9⟩ := m3; exact lt_of_cell hm9
  clear x3 m3 t3 B3
  generalize w3.heap.size = B at a4 K4 HB hg ⊢
  generalize w3.alloc (.cells #[.string L, .bool false, .string ⟨#[]⟩, .string ⟨#[]⟩, .int .i64 0, .string ⟨#[]⟩, .string ⟨#[]⟩] 74) = w4 at a4 K4 ⊢
  refine (HC3.out B w4 a4).mono ?_
  rintro e w5 ⟨rfl, a5, b5⟩
  have K5 := K4.trans b5
  clear a4 K4 b5
  have s5 := a5.c2
  go_wp2_with fail
  refine (CD.out _).mono ?_
  rintro e w5 ⟨rfl, rfl⟩
  clear s5
  go_wp2_with fail
  refine (HC4.out B w5 a5).mono ?_
  rintro e w6 ⟨rfl, a6, b6⟩
  have K6 := K5.trans b6
  clear a5 K5 b6
  obtain ⟨m6, t6, x6, y6⟩ := HB.out _ K6
  have k1 := a6.c1
  have k2 := a6.c2
  have k3 := a6.c3
  have k4 := a6.c4
  have k5 := a6.c5
  have k6 := a6.c6
  go_wp2_with fail
  refine (CC.out _ m6 t6).mono ?_
  rintro e w7 ⟨rfl, b7⟩
  have a7 := a6.below b7
  have K7 := K6.trans (b7.mono (Nat.le_of_lt a6.lt))
  obtain ⟨m7, t7, x7, y7⟩ := HB.out _ K7
  clear k1 k2 k3 k4 k5 k6 m6 t6 x6 y6 b7 K6 a6 HB m7 t7
  have k1 := a7.c1
  have k2 := a7.c2
  have k3 := a7.c3
  have k4 := a7.c4
  have k5 := a7.c5
  have k6 := a7.c6
  have r0 := x7.c0
  have f0 := open_of x7 0
  have r1 := x7.c1
  have f1 := open_of x7 1
  have r2 := x7.c2
  have f2 := open_of x7 2
  have r3 := x7.c3
  have f3 := open_of x7 3
  have r4 := x7.c4
  have f4 := open_of x7 4
  have r5 := x7.c5
  have f5 := open_of x7 5
  have xz := BX.store x7 true sc ⟨#[]⟩ 0 pa ⟨#[]⟩
  have yz := stU_below y7 true sc ⟨#[]⟩ 0 pa ⟨#[]⟩
  go_wp2
  clear r0 f0 r1 f1 r2 f2 r3 f3 r4 f4 r5 f5
  unfold stU at xz yz
  generalize (((((w7.setCell ⟨R, 0, none⟩ (.bool true)).setCell ⟨R, 1, none⟩ (.string sc)).setCell ⟨R, 2, none⟩ (.string ⟨#[]⟩)).setCell ⟨R, 3, none⟩ (.int .i64 0)).setCell ⟨R, 4, none⟩ (.string pa)).setCell ⟨R, 5, none⟩ (.string ⟨#[]⟩) = wz at xz yz ⊢
  have c0 := xz.c0
  have c1 := xz.c1
  have c2 := xz.c2
  have c3 := xz.c3
  have c4 := xz.c4
  have c5 := xz.c5
  rw [Exit.noGoto_ret]
  exact bodyPost_ret (v := .tuple #[uV true sc ⟨#[]⟩ 0 pa ⟨#[]⟩, .int .i64 0]) (by simp [results, Tryz.results46, go_sem, uV, c0, c1, c2, c3, c4, c5]) rfl ⟨rfl, by rw [HR.out]; exact yz⟩

set_option maxRecDepth 100000 in
set_option maxHeartbeats 4000000 in
/-- An opaque address that is not right. -/
theorem parse_b9 (s : ByteArray) (hs : s.size ≤ 10000) (L : ByteArray) (hL : L.data.toList = upto (isC 35) (trim s.data.toList)) (L3 sc : ByteArray) (h58 : past (isC 58) L.data.toList = 58 :: L3.data.toList) (hsc : sc.data.toList = low (upto (isC 58) L.data.toList)) (d : Nat) (hd : dfl sc.data.toList = d) (hd0 : d = 0) (pa : ByteArray) (hpa : pa.data.toList = trim L3.data.toList) (hn : chk (uM true sc ⟨#[]⟩ 0 pa ⟨#[]⟩) = 50) (w : World) (hmx : MaxIn w) (ht : TabIn w) : Calls Tryz.prog 46 #[.string s] w fun e w' => e = .returned (.tuple #[uV false ⟨#[]⟩ ⟨#[]⟩ 0 ⟨#[]⟩ ⟨#[]⟩, .int .i64 50]) ∧ Below w.heap.size w w' := by
  obtain ⟨hLs, T1, C1, C2⟩ := pre_texts s hs L hL
  obtain ⟨L2, hL2⟩ := text_of (past (isC 58) L.data.toList)
  have z2 := upto_length (isC 58) L.data.toList
  rw [lsize, h58, List.length_cons, lsize] at z2
  have zsc : sc.size ≤ L.size := by
    rw [← lsize sc, hsc, low_length, ← lsize L]
    have := upto_length (isC 58) L.data.toList
    omega
  have C3 := fun B w a => cutScheme_any L sc L2 L3 true hsc hL2 (by rw [hL2, h58]; rfl) (by rw [hL2, h58]; rfl) (by omega) B w false ⟨#[]⟩ ⟨#[]⟩ 0 ⟨#[]⟩ ⟨#[]⟩ a
  have HC3 := Lib.hid C3
  have CD := default_hid sc d hd
  have zpa : pa.size ≤ L.size := by
    rw [← lsize pa, hpa]
    have := trim_length L3.data.toList
    rw [lsize] at this; omega
  have HC4 := Lib.hid (fun B w a => cutOpaque_any L3 pa hpa (by omega) B w false sc ⟨#[]⟩ 0 ⟨#[]⟩ ⟨#[]⟩ a)
  have CC := check_hid true sc ⟨#[]⟩ 0 pa ⟨#[]⟩ 50 hn (by omega) (by decide) (by omega) (by decide)
  have g1 : ((d : Int) == 0) = true := by rw [beq_iff_eq]; omega
  clear hL h58 hsc hd hL2 C3 hd0 hpa hn
  go_enter Tryz.func46, Tryz.ntmps46
  go_wp2_with fail
  have x1 := BX.made w false ⟨#[]⟩ ⟨#[]⟩ 0 ⟨#[]⟩ ⟨#[]⟩
  have m1 := hmx.made (.cells #[.bool false, .string ⟨#[]⟩, .string ⟨#[]⟩, .int .i64 0, .string ⟨#[]⟩, .string ⟨#[]⟩] 26)
  have t1 := ht.made (.cells #[.bool false, .string ⟨#[]⟩, .string ⟨#[]⟩, .int .i64 0, .string ⟨#[]⟩, .string ⟨#[]⟩] 26)
  have B1 : Below w.heap.size w (w.alloc (.cells #[.bool false, .string ⟨#[]⟩, .string ⟨#[]⟩, .int .i64 0, .string ⟨#[]⟩, .string ⟨#[]⟩] 26)) := (Below.refl _ _).alloc (Nat.le_refl _) _
  generalize hR : w.heap.size = R at x1 B1 ⊢
  have HR := Lib.hid hR
  clear hR
  generalize w.alloc (.cells #[.bool false, .string ⟨#[]⟩, .string ⟨#[]⟩, .int .i64 0, .string ⟨#[]⟩, .string ⟨#[]⟩] 26) = w1 at x1 B1 m1 t1 ⊢
  refine wp_scope_jumps 0 (fun a' w' => (∃ (u4 u5 u6 u7 u8 u9 u10 u11 u12 u13 u14 u15 u16 u17 u18 u19 u20 u21 u22 u23 u24 u25 u26 u27 u28 u29 u30 u31 u32 u33 u34 u35 u36 u37 u38 u39 u40 : Value), a' = { tmps := #[.string s, undef, .pointer (some ⟨R, 0, none⟩), .int .i64 0, u4, u5, u6, u7, u8, u9, u10, u11, u12, u13, u14, u15, u16, u17, u18, u19, u20, u21, u22, u23, u24, u25, u26, u27, u28, u29, u30, u31, u32, u33, u34, u35, u36, u37, u38, u39, u40], defers := [] }) ∧ BX w' R false ⟨#[]⟩ ⟨#[]⟩ 0 ⟨#[]⟩ ⟨#[]⟩ ∧ Below R w w') (fun _ _ => 0) rfl ?_ ?_
  case refine_2 =>
    rintro a' w5 ⟨⟨u4, u5, u6, u7, u8, u9, u10, u11, u12, u13, u14, u15, u16, u17, u18, u19, u20, u21, u22, u23, u24, u25, u26, u27, u28, u29, u30, u31, u32, u33, u34, u35, u36, u37, u38, u39, u40, rfl⟩, x5, y5⟩
    clear x1 m1 t1 B1
    have r0 := x5.c0
    have f0 := open_of x5 0
    have r1 := x5.c1
    have f1 := open_of x5 1
    have r2 := x5.c2
    have f2 := open_of x5 2
    have r3 := x5.c3
    have f3 := open_of x5 3
    have r4 := x5.c4
    have f4 := open_of x5 4
    have r5 := x5.c5
    have f5 := open_of x5 5
    have xz := BX.store x5 false ⟨#[]⟩ ⟨#[]⟩ 0 ⟨#[]⟩ ⟨#[]⟩
    have yz := stU_below y5 false ⟨#[]⟩ ⟨#[]⟩ 0 ⟨#[]⟩ ⟨#[]⟩
    go_wp2
    clear r0 f0 r1 f1 r2 f2 r3 f3 r4 f4 r5 f5
    unfold stU at xz yz
    generalize (((((w5.setCell ⟨R, 0, none⟩ (.bool false)).setCell ⟨R, 1, none⟩ (.string ⟨#[]⟩)).setCell ⟨R, 2, none⟩ (.string ⟨#[]⟩)).setCell ⟨R, 3, none⟩ (.int .i64 0)).setCell ⟨R, 4, none⟩ (.string ⟨#[]⟩)).setCell ⟨R, 5, none⟩ (.string ⟨#[]⟩) = wz at xz yz ⊢
    have c0 := xz.c0
    have c1 := xz.c1
    have c2 := xz.c2
    have c3 := xz.c3
    have c4 := xz.c4
    have c5 := xz.c5
    simp only [Exit.jump]
    exact bodyPost_ret (v := .tuple #[uV false ⟨#[]⟩ ⟨#[]⟩ 0 ⟨#[]⟩ ⟨#[]⟩, .int .i64 50]) (by simp [results, Tryz.results46, go_sem, uV, c0, c1, c2, c3, c4, c5]) rfl ⟨rfl, by rw [HR.out]; exact yz⟩
  go_wp2_with fail
  refine (C1.out _).mono ?_
  rintro e w2 ⟨rfl, b2⟩
  have x2 := x1.below b2
  have m2 := m1.below b2
  have t2 := t1.below b2
  have B2 := B1.trans (b2.mono (Nat.le_of_lt x1.lt))
  clear b2 x1 m1 t1 B1
  go_wp2_with fail
  refine (C2.out _ m2).mono ?_
  rintro e w3 ⟨⟨ca, cb, rfl⟩, n3, rfl⟩
  have x3 : BX (w2.drewN n3) R false ⟨#[]⟩ ⟨#[]⟩ 0 ⟨#[]⟩ ⟨#[]⟩ := x2
  have m3 : MaxIn (w2.drewN n3) := m2
  have t3 : TabIn (w2.drewN n3) := t2
  have B3 := belowN B2 n3
  generalize w2.drewN n3 = w3 at x3 m3 t3 B3 ⊢
  clear x2 m2 t2 B2
  go_wp2_with fail
  have a4 : AT (w3.alloc (.cells #[.string L, .bool false, .string ⟨#[]⟩, .string ⟨#[]⟩, .int .i64 0, .string ⟨#[]⟩, .string ⟨#[]⟩] 74)) w3.heap.size L false ⟨#[]⟩ ⟨#[]⟩ 0 ⟨#[]⟩ ⟨#[]⟩ := new_block w3 _
  have K4 : Below w3.heap.size w3 (w3.alloc (.cells #[.string L, .bool false, .string ⟨#[]⟩, .string ⟨#[]⟩, .int .i64 0, .string ⟨#[]⟩, .string ⟨#[]⟩] 74)) := (Below.refl _ _).alloc (Nat.le_refl _) _
  have HB : Hid (∀ w', Below w3.heap.size w3 w' → MaxIn w' ∧ TabIn w' ∧ BX w' R false ⟨#[]⟩ ⟨#[]⟩ 0 ⟨#[]⟩ ⟨#[]⟩ ∧ Below R w w') := Lib.hid fun w' b => ⟨m3.below b, t3.below b, x3.below b, B3.trans (b.mono (Nat.le_of_lt x3.lt))⟩
  have hg : 1 < w3.heap.size := by obtain ⟨_, hm9⟩ := m3; exact lt_of_cell hm9
  clear x3 m3 t3 B3
  generalize w3.heap.size = B at a4 K4 HB hg ⊢
  generalize w3.alloc (.cells #[.string L, .bool false, .string ⟨#[]⟩, .string ⟨#[]⟩, .int .i64 0, .string ⟨#[]⟩, .string ⟨#[]⟩] 74) = w4 at a4 K4 ⊢
  refine (HC3.out B w4 a4).mono ?_
  rintro e w5 ⟨rfl, a5, b5⟩
  have K5 := K4.trans b5
  clear a4 K4 b5
  have s5 := a5.c2
  go_wp2_with fail
  refine (CD.out _).mono ?_
  rintro e w5 ⟨rfl, rfl⟩
  clear s5
  go_wp2_with fail
  refine (HC4.out B w5 a5).mono ?_
  rintro e w6 ⟨rfl, a6, b6⟩
  have K6 := K5.trans b6
  clear a5 K5 b6
  obtain ⟨m6, t6, x6, y6⟩ := HB.out _ K6
  have k1 := a6.c1
  have k2 := a6.c2
  have k3 := a6.c3
  have k4 := a6.c4
  have k5 := a6.c5
  have k6 := a6.c6
  go_wp2_with fail
  refine (CC.out _ m6 t6).mono ?_
  rintro e w7 ⟨rfl, b7⟩
  have a7 := a6.below b7
  have K7 := K6.trans (b7.mono (Nat.le_of_lt a6.lt))
  obtain ⟨m7, t7, x7, y7⟩ := HB.out _ K7
  clear k1 k2 k3 k4 k5 k6 m6 t6 x6 y6 b7 K6 a6 HB m7 t7
  go_wp2_with fail
  go_step3
  exact ⟨rfl, ⟨_, _, _, _, _, _, _, _, _, _, _, _, _, _, _, _, _, _, _, _, _, _, _, _, _, _, _, _, _, _, _, _, _, _, _, _, _, rfl⟩, x7, y7⟩

set_option maxRecDepth 100000 in
set_option maxHeartbeats 4000000 in
/-- A ranked scheme without two strokes. -/
theorem parse_c (s : ByteArray) (hs : s.size ≤ 10000) (L : ByteArray) (hL : L.data.toList = upto (isC 35) (trim s.data.toList)) (L3 sc : ByteArray) (h58 : past (isC 58) L.data.toList = 58 :: L3.data.toList) (hsc : sc.data.toList = low (upto (isC 58) L.data.toList)) (d : Nat) (hd : dfl sc.data.toList = d) (hd0 : d ≠ 0) (hsl : [47, 47].isPrefixOf L3.data.toList = false) (w : World) (hmx : MaxIn w) (ht : TabIn w) : Calls Tryz.prog 46 #[.string s] w fun e w' => e = .returned (.tuple #[uV false ⟨#[]⟩ ⟨#[]⟩ 0 ⟨#[]⟩ ⟨#[]⟩, .int .i64 50]) ∧ Below w.heap.size w w' := by
  obtain ⟨hLs, T1, C1, C2⟩ := pre_texts s hs L hL
  obtain ⟨L2, hL2⟩ := text_of (past (isC 58) L.data.toList)
  have z2 := upto_length (isC 58) L.data.toList
  rw [lsize, h58, List.length_cons, lsize] at z2
  have zsc : sc.size ≤ L.size := by
    rw [← lsize sc, hsc, low_length, ← lsize L]
    have := upto_length (isC 58) L.data.toList
    omega
  have C3 := fun B w a => cutScheme_any L sc L2 L3 true hsc hL2 (by rw [hL2, h58]; rfl) (by rw [hL2, h58]; rfl) (by omega) B w false ⟨#[]⟩ ⟨#[]⟩ 0 ⟨#[]⟩ ⟨#[]⟩ a
  have HC3 := Lib.hid C3
  have CD := default_hid sc d hd
  have C5 := fun B => skip_any ⟨#[47, 47]⟩ L3 L3 false hsl rfl B
  have g1 : ((d : Int) == 0) = false := by rw [beq_eq_false_iff_ne]; omega
  clear hL h58 hsc hd hL2 C3 hd0 hsl
  go_enter Tryz.func46, Tryz.ntmps46
  go_wp2_with fail
  have x1 := BX.made w false ⟨#[]⟩ ⟨#[]⟩ 0 ⟨#[]⟩ ⟨#[]⟩
  have m1 := hmx.made (.cells #[.bool false, .string ⟨#[]⟩, .string ⟨#[]⟩, .int .i64 0, .string ⟨#[]⟩, .string ⟨#[]⟩] 26)
  have t1 := ht.made (.cells #[.bool false, .string ⟨#[]⟩, .string ⟨#[]⟩, .int .i64 0, .string ⟨#[]⟩, .string ⟨#[]⟩] 26)
  have B1 : Below w.heap.size w (w.alloc (.cells #[.bool false, .string ⟨#[]⟩, .string ⟨#[]⟩, .int .i64 0, .string ⟨#[]⟩, .string ⟨#[]⟩] 26)) := (Below.refl _ _).alloc (Nat.le_refl _) _
  generalize hR : w.heap.size = R at x1 B1 ⊢
  have HR := Lib.hid hR
  clear hR
  generalize w.alloc (.cells #[.bool false, .string ⟨#[]⟩, .string ⟨#[]⟩, .int .i64 0, .string ⟨#[]⟩, .string ⟨#[]⟩] 26) = w1 at x1 B1 m1 t1 ⊢
  refine wp_scope_jumps 0 (fun a' w' => (∃ (u4 u5 u6 u7 u8 u9 u10 u11 u12 u13 u14 u15 u16 u17 u18 u19 u20 u21 u22 u23 u24 u25 u26 u27 u28 u29 u30 u31 u32 u33 u34 u35 u36 u37 u38 u39 u40 : Value), a' = { tmps := #[.string s, undef, .pointer (some ⟨R, 0, none⟩), .int .i64 0, u4, u5, u6, u7, u8, u9, u10, u11, u12, u13, u14, u15, u16, u17, u18, u19, u20, u21, u22, u23, u24, u25, u26, u27, u28, u29, u30, u31, u32, u33, u34, u35, u36, u37, u38, u39, u40], defers := [] }) ∧ BX w' R false ⟨#[]⟩ ⟨#[]⟩ 0 ⟨#[]⟩ ⟨#[]⟩ ∧ Below R w w') (fun _ _ => 0) rfl ?_ ?_
  case refine_2 =>
    rintro a' w5 ⟨⟨u4, u5, u6, u7, u8, u9, u10, u11, u12, u13, u14, u15, u16, u17, u18, u19, u20, u21, u22, u23, u24, u25, u26, u27, u28, u29, u30, u31, u32, u33, u34, u35, u36, u37, u38, u39, u40, rfl⟩, x5, y5⟩
    clear x1 m1 t1 B1
    have r0 := x5.c0
    have f0 := open_of x5 0
    have r1 := x5.c1
    have f1 := open_of x5 1
    have r2 := x5.c2
    have f2 := open_of x5 2
    have r3 := x5.c3
    have f3 := open_of x5 3
    have r4 := x5.c4
    have f4 := open_of x5 4
    have r5 := x5.c5
    have f5 := open_of x5 5
    have xz := BX.store x5 false ⟨#[]⟩ ⟨#[]⟩ 0 ⟨#[]⟩ ⟨#[]⟩
    have yz := stU_below y5 false ⟨#[]⟩ ⟨#[]⟩ 0 ⟨#[]⟩ ⟨#[]⟩
    go_wp2
    clear r0 f0 r1 f1 r2 f2 r3 f3 r4 f4 r5 f5
    unfold stU at xz yz
    generalize (((((w5.setCell ⟨R, 0, none⟩ (.bool false)).setCell ⟨R, 1, none⟩ (.string ⟨#[]⟩)).setCell ⟨R, 2, none⟩ (.string ⟨#[]⟩)).setCell ⟨R, 3, none⟩ (.int .i64 0)).setCell ⟨R, 4, none⟩ (.string ⟨#[]⟩)).setCell ⟨R, 5, none⟩ (.string ⟨#[]⟩) = wz at xz yz ⊢
    have c0 := xz.c0
    have c1 := xz.c1
    have c2 := xz.c2
    have c3 := xz.c3
    have c4 := xz.c4
    have c5 := xz.c5
    simp only [Exit.jump]
    exact bodyPost_ret (v := .tuple #[uV false ⟨#[]⟩ ⟨#[]⟩ 0 ⟨#[]⟩ ⟨#[]⟩, .int .i64 50]) (by simp [results, Tryz.results46, go_sem, uV, c0, c1, c2, c3, c4, c5]) rfl ⟨rfl, by rw [HR.out]; exact yz⟩
  go_wp2_with fail
  refine (C1.out _).mono ?_
  rintro e w2 ⟨rfl, b2⟩
  have x2 := x1.below b2
  have m2 := m1.below b2
  have t2 := t1.below b2
  have B2 := B1.trans (b2.mono (Nat.le_of_lt x1.lt))
  clear b2 x1 m1 t1 B1
  go_wp2_with fail
  refine (C2.out _ m2).mono ?_
  rintro e w3 ⟨⟨ca, cb, rfl⟩, n3, rfl⟩
  have x3 : BX (w2.drewN n3) R false ⟨#[]⟩ ⟨#[]⟩ 0 ⟨#[]⟩ ⟨#[]⟩ := x2
  have m3 : MaxIn (w2.drewN n3) := m2
  have t3 : TabIn (w2.drewN n3) := t2
  have B3 := belowN B2 n3
  generalize w2.drewN n3 = w3 at x3 m3 t3 B3 ⊢
  clear x2 m2 t2 B2
  go_wp2_with fail
  have a4 : AT (w3.alloc (.cells #[.string L, .bool false, .string ⟨#[]⟩, .string ⟨#[]⟩, .int .i64 0, .string ⟨#[]⟩, .string ⟨#[]⟩] 74)) w3.heap.size L false ⟨#[]⟩ ⟨#[]⟩ 0 ⟨#[]⟩ ⟨#[]⟩ := new_block w3 _
  have K4 : Below w3.heap.size w3 (w3.alloc (.cells #[.string L, .bool false, .string ⟨#[]⟩, .string ⟨#[]⟩, .int .i64 0, .string ⟨#[]⟩, .string ⟨#[]⟩] 74)) := (Below.refl _ _).alloc (Nat.le_refl _) _
  have HB : Hid (∀ w', Below w3.heap.size w3 w' → MaxIn w' ∧ TabIn w' ∧ BX w' R false ⟨#[]⟩ ⟨#[]⟩ 0 ⟨#[]⟩ ⟨#[]⟩ ∧ Below R w w') := Lib.hid fun w' b => ⟨m3.below b, t3.below b, x3.below b, B3.trans (b.mono (Nat.le_of_lt x3.lt))⟩
  have hg : 1 < w3.heap.size := by obtain ⟨_, hm9⟩ := m3; exact lt_of_cell hm9
  clear x3 m3 t3 B3
  generalize w3.heap.size = B at a4 K4 HB hg ⊢
  generalize w3.alloc (.cells #[.string L, .bool false, .string ⟨#[]⟩, .string ⟨#[]⟩, .int .i64 0, .string ⟨#[]⟩, .string ⟨#[]⟩] 74) = w4 at a4 K4 ⊢
  refine (HC3.out B w4 a4).mono ?_
  rintro e w5 ⟨rfl, a5, b5⟩
  have K5 := K4.trans b5
  clear a4 K4 b5
  have s5 := a5.c2
  go_wp2_with fail
  refine (CD.out _).mono ?_
  rintro e w5 ⟨rfl, rfl⟩
  clear s5
  go_wp2_with fail
  refine ((C5 B).out _ a5.c0 (a5.free 0)).mono ?_
  rintro e w6 ⟨rfl, rfl⟩
  have a6 := a5.set0 L3
  have K6 := K5.setCell (p := ⟨B, 0, none⟩) (Nat.le_refl _) (.string L3)
  generalize w5.setCell ⟨B, 0, none⟩ (.string L3) = w6 at a6 K6 ⊢
  clear a5 K5
  obtain ⟨m6, t6, x6, y6⟩ := HB.out _ K6
  clear HB
  go_wp2_with fail
  go_step3
  exact ⟨rfl, ⟨_, _, _, _, _, _, _, _, _, _, _, _, _, _, _, _, _, _, _, _, _, _, _, _, _, _, _, _, _, _, _, _, _, _, _, _, _, rfl⟩, x6, y6⟩

set_option maxRecDepth 100000 in
set_option maxHeartbeats 4000000 in
/-- A port that is none. -/
theorem parse_d (s : ByteArray) (hs : s.size ≤ 10000) (L : ByteArray) (hL : L.data.toList = upto (isC 35) (trim s.data.toList)) (L3 sc : ByteArray) (h58 : past (isC 58) L.data.toList = 58 :: L3.data.toList) (hsc : sc.data.toList = low (upto (isC 58) L.data.toList)) (d : Nat) (hd : dfl sc.data.toList = d) (hd0 : d ≠ 0) (hsl : [47, 47].isPrefixOf L3.data.toList = true) (L4 ho : ByteArray) (hL4 : L4.data.toList = L3.data.toList.drop 2) (hho : ho.data.toList = low (upto (isC 58) (upto isE L4.data.toList))) (n : Nat) (hnum : (past (isC 58) (upto isE L4.data.toList) = [] ∧ n = 0 ∧ false = true) ∨ ∃ c ds, past (isC 58) (upto isE L4.data.toList) = c :: ds ∧ numP ds = (n, false)) (w : World) (hmx : MaxIn w) (ht : TabIn w) : Calls Tryz.prog 46 #[.string s] w fun e w' => e = .returned (.tuple #[uV false ⟨#[]⟩ ⟨#[]⟩ 0 ⟨#[]⟩ ⟨#[]⟩, .int .i64 50]) ∧ Below w.heap.size w w' := by
  obtain ⟨hLs, T1, C1, C2⟩ := pre_texts s hs L hL
  obtain ⟨L2, hL2⟩ := text_of (past (isC 58) L.data.toList)
  have z2 := upto_length (isC 58) L.data.toList
  rw [lsize, h58, List.length_cons, lsize] at z2
  have zsc : sc.size ≤ L.size := by
    rw [← lsize sc, hsc, low_length, ← lsize L]
    have := upto_length (isC 58) L.data.toList
    omega
  have C3 := fun B w a => cutScheme_any L sc L2 L3 true hsc hL2 (by rw [hL2, h58]; rfl) (by rw [hL2, h58]; rfl) (by omega) B w false ⟨#[]⟩ ⟨#[]⟩ 0 ⟨#[]⟩ ⟨#[]⟩ a
  have HC3 := Lib.hid C3
  have CD := default_hid sc d hd
  have zL4 : L4.size ≤ L3.size := by
    rw [← lsize L4, hL4, List.length_drop, lsize]; omega
  have C5 := fun B => skip_any ⟨#[47, 47]⟩ L3 L4 true hsl (by rw [hL4]; rfl) B
  have g1 : ((d : Int) == 0) = false := by rw [beq_eq_false_iff_ne]; omega
  obtain ⟨LF, hLF⟩ := text_of (past isE L4.data.toList)
  have zLF : LF.size ≤ L4.size := by
    rw [← lsize LF, ← lsize L4, hLF]
    have := upto_length isE L4.data.toList
    omega
  have zho : ho.size ≤ L4.size := by
    rw [← lsize ho, hho, low_length, ← lsize L4]
    have e1 := upto_length isE L4.data.toList
    have e2 := upto_length (isC 58) (upto isE L4.data.toList)
    omega
  have HC6 := Lib.hid (fun B w a => cutHost_any L4 LF ho n false hLF hho d sc hd hnum (by omega) B w false ⟨#[]⟩ ⟨#[]⟩ ⟨#[]⟩ a hd0 _ rfl)
  clear hL h58 hsc hd hL2 C3 hd0 hsl hL4 hho hnum hLF
  go_enter Tryz.func46, Tryz.ntmps46
  go_wp2_with fail
  have x1 := BX.made w false ⟨#[]⟩ ⟨#[]⟩ 0 ⟨#[]⟩ ⟨#[]⟩
  have m1 := hmx.made (.cells #[.bool false, .string ⟨#[]⟩, .string ⟨#[]⟩, .int .i64 0, .string ⟨#[]⟩, .string ⟨#[]⟩] 26)
  have t1 := ht.made (.cells #[.bool false, .string ⟨#[]⟩, .string ⟨#[]⟩, .int .i64 0, .string ⟨#[]⟩, .string ⟨#[]⟩] 26)
  have B1 : Below w.heap.size w (w.alloc (.cells #[.bool false, .string ⟨#[]⟩, .string ⟨#[]⟩, .int .i64 0, .string ⟨#[]⟩, .string ⟨#[]⟩] 26)) := (Below.refl _ _).alloc (Nat.le_refl _) _
  generalize hR : w.heap.size = R at x1 B1 ⊢
  have HR := Lib.hid hR
  clear hR
  generalize w.alloc (.cells #[.bool false, .string ⟨#[]⟩, .string ⟨#[]⟩, .int .i64 0, .string ⟨#[]⟩, .string ⟨#[]⟩] 26) = w1 at x1 B1 m1 t1 ⊢
  refine wp_scope_jumps 0 (fun a' w' => (∃ (u4 u5 u6 u7 u8 u9 u10 u11 u12 u13 u14 u15 u16 u17 u18 u19 u20 u21 u22 u23 u24 u25 u26 u27 u28 u29 u30 u31 u32 u33 u34 u35 u36 u37 u38 u39 u40 : Value), a' = { tmps := #[.string s, undef, .pointer (some ⟨R, 0, none⟩), .int .i64 0, u4, u5, u6, u7, u8, u9, u10, u11, u12, u13, u14, u15, u16, u17, u18, u19, u20, u21, u22, u23, u24, u25, u26, u27, u28, u29, u30, u31, u32, u33, u34, u35, u36, u37, u38, u39, u40], defers := [] }) ∧ BX w' R false ⟨#[]⟩ ⟨#[]⟩ 0 ⟨#[]⟩ ⟨#[]⟩ ∧ Below R w w') (fun _ _ => 0) rfl ?_ ?_
  case refine_2 =>
    rintro a' w5 ⟨⟨u4, u5, u6, u7, u8, u9, u10, u11, u12, u13, u14, u15, u16, u17, u18, u19, u20, u21, u22, u23, u24, u25, u26, u27, u28, u29, u30, u31, u32, u33, u34, u35, u36, u37, u38, u39, u40, rfl⟩, x5, y5⟩
    clear x1 m1 t1 B1
    have r0 := x5.c0
    have f0 := open_of x5 0
    have r1 := x5.c1
    have f1 := open_of x5 1
    have r2 := x5.c2
    have f2 := open_of x5 2
    have r3 := x5.c3
    have f3 := open_of x5 3
    have r4 := x5.c4
    have f4 := open_of x5 4
    have r5 := x5.c5
    have f5 := open_of x5 5
    have xz := BX.store x5 false ⟨#[]⟩ ⟨#[]⟩ 0 ⟨#[]⟩ ⟨#[]⟩
    have yz := stU_below y5 false ⟨#[]⟩ ⟨#[]⟩ 0 ⟨#[]⟩ ⟨#[]⟩
    go_wp2
    clear r0 f0 r1 f1 r2 f2 r3 f3 r4 f4 r5 f5
    unfold stU at xz yz
    generalize (((((w5.setCell ⟨R, 0, none⟩ (.bool false)).setCell ⟨R, 1, none⟩ (.string ⟨#[]⟩)).setCell ⟨R, 2, none⟩ (.string ⟨#[]⟩)).setCell ⟨R, 3, none⟩ (.int .i64 0)).setCell ⟨R, 4, none⟩ (.string ⟨#[]⟩)).setCell ⟨R, 5, none⟩ (.string ⟨#[]⟩) = wz at xz yz ⊢
    have c0 := xz.c0
    have c1 := xz.c1
    have c2 := xz.c2
    have c3 := xz.c3
    have c4 := xz.c4
    have c5 := xz.c5
    simp only [Exit.jump]
    exact bodyPost_ret (v := .tuple #[uV false ⟨#[]⟩ ⟨#[]⟩ 0 ⟨#[]⟩ ⟨#[]⟩, .int .i64 50]) (by simp [results, Tryz.results46, go_sem, uV, c0, c1, c2, c3, c4, c5]) rfl ⟨rfl, by rw [HR.out]; exact yz⟩
  go_wp2_with fail
  refine (C1.out _).mono ?_
  rintro e w2 ⟨rfl, b2⟩
  have x2 := x1.below b2
  have m2 := m1.below b2
  have t2 := t1.below b2
  have B2 := B1.trans (b2.mono (Nat.le_of_lt x1.lt))
  clear b2 x1 m1 t1 B1
  go_wp2_with fail
  refine (C2.out _ m2).mono ?_
  rintro e w3 ⟨⟨ca, cb, rfl⟩, n3, rfl⟩
  have x3 : BX (w2.drewN n3) R false ⟨#[]⟩ ⟨#[]⟩ 0 ⟨#[]⟩ ⟨#[]⟩ := x2
  have m3 : MaxIn (w2.drewN n3) := m2
  have t3 : TabIn (w2.drewN n3) := t2
  have B3 := belowN B2 n3
  generalize w2.drewN n3 = w3 at x3 m3 t3 B3 ⊢
  clear x2 m2 t2 B2
  go_wp2_with fail
  have a4 : AT (w3.alloc (.cells #[.string L, .bool false, .string ⟨#[]⟩, .string ⟨#[]⟩, .int .i64 0, .string ⟨#[]⟩, .string ⟨#[]⟩] 74)) w3.heap.size L false ⟨#[]⟩ ⟨#[]⟩ 0 ⟨#[]⟩ ⟨#[]⟩ := new_block w3 _
  have K4 : Below w3.heap.size w3 (w3.alloc (.cells #[.string L, .bool false, .string ⟨#[]⟩, .string ⟨#[]⟩, .int .i64 0, .string ⟨#[]⟩, .string ⟨#[]⟩] 74)) := (Below.refl _ _).alloc (Nat.le_refl _) _
  have HB : Hid (∀ w', Below w3.heap.size w3 w' → MaxIn w' ∧ TabIn w' ∧ BX w' R false ⟨#[]⟩ ⟨#[]⟩ 0 ⟨#[]⟩ ⟨#[]⟩ ∧ Below R w w') := Lib.hid fun w' b => ⟨m3.below b, t3.below b, x3.below b, B3.trans (b.mono (Nat.le_of_lt x3.lt))⟩
  have hg : 1 < w3.heap.size := by obtain ⟨_, hm9⟩ := m3; exact lt_of_cell hm9
  clear x3 m3 t3 B3
  generalize w3.heap.size = B at a4 K4 HB hg ⊢
  generalize w3.alloc (.cells #[.string L, .bool false, .string ⟨#[]⟩, .string ⟨#[]⟩, .int .i64 0, .string ⟨#[]⟩, .string ⟨#[]⟩] 74) = w4 at a4 K4 ⊢
  refine (HC3.out B w4 a4).mono ?_
  rintro e w5 ⟨rfl, a5, b5⟩
  have K5 := K4.trans b5
  clear a4 K4 b5
  have s5 := a5.c2
  go_wp2_with fail
  refine (CD.out _).mono ?_
  rintro e w5 ⟨rfl, rfl⟩
  clear s5
  go_wp2_with fail
  refine ((C5 B).out _ a5.c0 (a5.free 0)).mono ?_
  rintro e w6 ⟨rfl, rfl⟩
  have a6 := a5.set0 L4
  have K6 := K5.setCell (p := ⟨B, 0, none⟩) (Nat.le_refl _) (.string L4)
  generalize w5.setCell ⟨B, 0, none⟩ (.string L4) = w6 at a6 K6 ⊢
  clear a5 K5
  go_wp2_with fail
  refine (HC6.out B w6 a6).mono ?_
  rintro e w7 ⟨rfl, a7, b7⟩
  have K7 := K6.trans b7
  clear a6 K6 b7
  obtain ⟨m7, t7, x7, y7⟩ := HB.out _ K7
  clear HB
  go_wp2_with fail
  go_step3
  exact ⟨rfl, ⟨_, _, _, _, _, _, _, _, _, _, _, _, _, _, _, _, _, _, _, _, _, _, _, _, _, _, _, _, _, _, _, _, _, _, _, _, _, rfl⟩, x7, y7⟩

set_option maxRecDepth 100000 in
set_option maxHeartbeats 4000000 in
/-- A ranked address that is right. -/
theorem parse_e (s : ByteArray) (hs : s.size ≤ 10000) (L : ByteArray) (hL : L.data.toList = upto (isC 35) (trim s.data.toList)) (L3 sc : ByteArray) (h58 : past (isC 58) L.data.toList = 58 :: L3.data.toList) (hsc : sc.data.toList = low (upto (isC 58) L.data.toList)) (d : Nat) (hd : dfl sc.data.toList = d) (hd0 : d ≠ 0) (hsl : [47, 47].isPrefixOf L3.data.toList = true) (L4 ho : ByteArray) (hL4 : L4.data.toList = L3.data.toList.drop 2) (hho : ho.data.toList = low (upto (isC 58) (upto isE L4.data.toList))) (n : Nat) (hnum : (past (isC 58) (upto isE L4.data.toList) = [] ∧ n = 0 ∧ true = true) ∨ ∃ c ds, past (isC 58) (upto isE L4.data.toList) = c :: ds ∧ numP ds = (n, true)) (pr : Int) (hpr : pr = if n = d then 0 else (n : Int)) (pa1 pa q : ByteArray) (hpa1 : pa1.data.toList = if upto (isC 63) (past isE L4.data.toList) = [] then [47] else upto (isC 63) (past isE L4.data.toList)) (hpa : pa.data.toList = cleanP pa1.data.toList) (hq : q.data.toList = past (isC 63) (past isE L4.data.toList)) (hn : chk (uM false sc ho pr pa q) = 0) (w : World) (hmx : MaxIn w) (ht : TabIn w) : Calls Tryz.prog 46 #[.string s] w fun e w' => e = .returned (.tuple #[uV false sc ho pr pa q, .int .i64 0]) ∧ Below w.heap.size w w' := by
  obtain ⟨hLs, T1, C1, C2⟩ := pre_texts s hs L hL
  obtain ⟨L2, hL2⟩ := text_of (past (isC 58) L.data.toList)
  have z2 := upto_length (isC 58) L.data.toList
  rw [lsize, h58, List.length_cons, lsize] at z2
  have zsc : sc.size ≤ L.size := by
    rw [← lsize sc, hsc, low_length, ← lsize L]
    have := upto_length (isC 58) L.data.toList
    omega
  have C3 := fun B w a => cutScheme_any L sc L2 L3 true hsc hL2 (by rw [hL2, h58]; rfl) (by rw [hL2, h58]; rfl) (by omega) B w false ⟨#[]⟩ ⟨#[]⟩ 0 ⟨#[]⟩ ⟨#[]⟩ a
  have HC3 := Lib.hid C3
  have CD := default_hid sc d hd
  have zL4 : L4.size ≤ L3.size := by
    rw [← lsize L4, hL4, List.length_drop, lsize]; omega
  have C5 := fun B => skip_any ⟨#[47, 47]⟩ L3 L4 true hsl (by rw [hL4]; rfl) B
  have g1 : ((d : Int) == 0) = false := by rw [beq_eq_false_iff_ne]; omega
  obtain ⟨LF, hLF⟩ := text_of (past isE L4.data.toList)
  have zLF : LF.size ≤ L4.size := by
    rw [← lsize LF, ← lsize L4, hLF]
    have := upto_length isE L4.data.toList
    omega
  have zho : ho.size ≤ L4.size := by
    rw [← lsize ho, hho, low_length, ← lsize L4]
    have e1 := upto_length isE L4.data.toList
    have e2 := upto_length (isC 58) (upto isE L4.data.toList)
    omega
  have HC6 := Lib.hid (fun B w a => cutHost_any L4 LF ho n true hLF hho d sc hd hnum (by omega) B w false ⟨#[]⟩ ⟨#[]⟩ ⟨#[]⟩ a hd0 pr hpr)
  rw [← hLF] at hpa1 hq
  have zq : q.size ≤ LF.size := by
    rw [← lsize q, ← lsize LF, hq]
    have := upto_length (isC 63) LF.data.toList
    omega
  have zpa : pa.size ≤ LF.size + 1 := by
    have e1 := cleanP_length pa1.data.toList
    rw [← hpa, lsize, lsize] at e1
    have e2 : pa1.size ≤ LF.size + 1 := by
      rw [← lsize pa1, hpa1]
      split
      · exact Nat.le_add_left _ _
      · have := upto_length (isC 63) LF.data.toList
        rw [lsize] at this; omega
    omega
  have HC7 := Lib.hid (fun B w hm a hB => cutPath_any LF pa1 pa q hpa1 hpa hq (by omega) B w hm false sc ho pr ⟨#[]⟩ ⟨#[]⟩ a hB)
  have CC := check_hid false sc ho pr pa q 0 hn (by omega) (by omega) (by omega) (by omega)
  clear hL h58 hsc hd hL2 C3 hd0 hsl hL4 hho hnum hLF hpa1 hpa hq hn hpr
  go_enter Tryz.func46, Tryz.ntmps46
  go_wp2_with fail
  have x1 := BX.made w false ⟨#[]⟩ ⟨#[]⟩ 0 ⟨#[]⟩ ⟨#[]⟩
  have m1 := hmx.made (.cells #[.bool false, .string ⟨#[]⟩, .string ⟨#[]⟩, .int .i64 0, .string ⟨#[]⟩, .string ⟨#[]⟩] 26)
  have t1 := ht.made (.cells #[.bool false, .string ⟨#[]⟩, .string ⟨#[]⟩, .int .i64 0, .string ⟨#[]⟩, .string ⟨#[]⟩] 26)
  have B1 : Below w.heap.size w (w.alloc (.cells #[.bool false, .string ⟨#[]⟩, .string ⟨#[]⟩, .int .i64 0, .string ⟨#[]⟩, .string ⟨#[]⟩] 26)) := (Below.refl _ _).alloc (Nat.le_refl _) _
  generalize hR : w.heap.size = R at x1 B1 ⊢
  have HR := Lib.hid hR
  clear hR
  generalize w.alloc (.cells #[.bool false, .string ⟨#[]⟩, .string ⟨#[]⟩, .int .i64 0, .string ⟨#[]⟩, .string ⟨#[]⟩] 26) = w1 at x1 B1 m1 t1 ⊢
  go_step3
  go_wp2_with fail
  refine (C1.out _).mono ?_
  rintro e w2 ⟨rfl, b2⟩
  have x2 := x1.below b2
  have m2 := m1.below b2
  have t2 := t1.below b2
  have B2 := B1.trans (b2.mono (Nat.le_of_lt x1.lt))
  clear b2 x1 m1 t1 B1
  go_wp2_with fail
  refine (C2.out _ m2).mono ?_
  rintro e w3 ⟨⟨ca, cb, rfl⟩, n3, rfl⟩
  have x3 : BX (w2.drewN n3) R false ⟨#[]⟩ ⟨#[]⟩ 0 ⟨#[]⟩ ⟨#[]⟩ := x2
  have m3 : MaxIn (w2.drewN n3) := m2
  have t3 : TabIn (w2.drewN n3) := t2
  have B3 := belowN B2 n3
  generalize w2.drewN n3 = w3 at x3 m3 t3 B3 ⊢
  clear x2 m2 t2 B2
  go_wp2_with fail
  have a4 : AT (w3.alloc (.cells #[.string L, .bool false, .string ⟨#[]⟩, .string ⟨#[]⟩, .int .i64 0, .string ⟨#[]⟩, .string ⟨#[]⟩] 74)) w3.heap.size L false ⟨#[]⟩ ⟨#[]⟩ 0 ⟨#[]⟩ ⟨#[]⟩ := new_block w3 _
  have K4 : Below w3.heap.size w3 (w3.alloc (.cells #[.string L, .bool false, .string ⟨#[]⟩, .string ⟨#[]⟩, .int .i64 0, .string ⟨#[]⟩, .string ⟨#[]⟩] 74)) := (Below.refl _ _).alloc (Nat.le_refl _) _
  have HB : Hid (∀ w', Below w3.heap.size w3 w' → MaxIn w' ∧ TabIn w' ∧ BX w' R false ⟨#[]⟩ ⟨#[]⟩ 0 ⟨#[]⟩ ⟨#[]⟩ ∧ Below R w w') := Lib.hid fun w' b => ⟨m3.below b, t3.below b, x3.below b, B3.trans (b.mono (Nat.le_of_lt x3.lt))⟩
  have hg : 1 < w3.heap.size := by obtain ⟨_, hm9⟩ := m3; exact lt_of_cell hm9
  clear x3 m3 t3 B3
  generalize w3.heap.size = B at a4 K4 HB hg ⊢
  generalize w3.alloc (.cells #[.string L, .bool false, .string ⟨#[]⟩, .string ⟨#[]⟩, .int .i64 0, .string ⟨#[]⟩, .string ⟨#[]⟩] 74) = w4 at a4 K4 ⊢
  refine (HC3.out B w4 a4).mono ?_
  rintro e w5 ⟨rfl, a5, b5⟩
  have K5 := K4.trans b5
  clear a4 K4 b5
  have s5 := a5.c2
  go_wp2_with fail
  refine (CD.out _).mono ?_
  rintro e w5 ⟨rfl, rfl⟩
  clear s5
  go_wp2_with fail
  refine ((C5 B).out _ a5.c0 (a5.free 0)).mono ?_
  rintro e w6 ⟨rfl, rfl⟩
  have a6 := a5.set0 L4
  have K6 := K5.setCell (p := ⟨B, 0, none⟩) (Nat.le_refl _) (.string L4)
  generalize w5.setCell ⟨B, 0, none⟩ (.string L4) = w6 at a6 K6 ⊢
  clear a5 K5
  go_wp2_with fail
  refine (HC6.out B w6 a6).mono ?_
  rintro e w7 ⟨rfl, a7, b7⟩
  have K7 := K6.trans b7
  clear a6 K6 b7
  obtain ⟨m7, t7, x7, y7⟩ := HB.out _ K7
  go_wp2_with fail
  refine (HC7.out B w7 m7 a7 hg).mono ?_
  rintro e w8 ⟨rfl, a8, b8⟩
  have K8 := K7.trans b8
  clear a7 K7 b8 m7 t7 x7 y7
  obtain ⟨m8, t8, x8, y8⟩ := HB.out _ K8
  have k1 := a8.c1
  have k2 := a8.c2
  have k3 := a8.c3
  have k4 := a8.c4
  have k5 := a8.c5
  have k6 := a8.c6
  go_wp2_with fail
  refine (CC.out _ m8 t8).mono ?_
  rintro e w9 ⟨rfl, b9⟩
  have a9 := a8.below b9
  have K9 := K8.trans (b9.mono (Nat.le_of_lt a8.lt))
  obtain ⟨m9, t9, x9, y9⟩ := HB.out _ K9
  clear k1 k2 k3 k4 k5 k6 m8 t8 x8 y8 b9 K8 a8 HB m9 t9
  have k1 := a9.c1
  have k2 := a9.c2
  have k3 := a9.c3
  have k4 := a9.c4
  have k5 := a9.c5
  have k6 := a9.c6
  have r0 := x9.c0
  have f0 := open_of x9 0
  have r1 := x9.c1
  have f1 := open_of x9 1
  have r2 := x9.c2
  have f2 := open_of x9 2
  have r3 := x9.c3
  have f3 := open_of x9 3
  have r4 := x9.c4
  have f4 := open_of x9 4
  have r5 := x9.c5
  have f5 := open_of x9 5
  have xz := BX.store x9 false sc ho pr pa q
  have yz := stU_below y9 false sc ho pr pa q
  go_wp2
  clear r0 f0 r1 f1 r2 f2 r3 f3 r4 f4 r5 f5
  unfold stU at xz yz
  generalize (((((w9.setCell ⟨R, 0, none⟩ (.bool false)).setCell ⟨R, 1, none⟩ (.string sc)).setCell ⟨R, 2, none⟩ (.string ho)).setCell ⟨R, 3, none⟩ (.int .i64 pr)).setCell ⟨R, 4, none⟩ (.string pa)).setCell ⟨R, 5, none⟩ (.string q) = wz at xz yz ⊢
  have c0 := xz.c0
  have c1 := xz.c1
  have c2 := xz.c2
  have c3 := xz.c3
  have c4 := xz.c4
  have c5 := xz.c5
  rw [Exit.noGoto_ret]
  exact bodyPost_ret (v := .tuple #[uV false sc ho pr pa q, .int .i64 0]) (by simp [results, Tryz.results46, go_sem, uV, c0, c1, c2, c3, c4, c5]) rfl ⟨rfl, by rw [HR.out]; exact yz⟩

set_option maxRecDepth 100000 in
set_option maxHeartbeats 4000000 in
/-- A ranked address that is not right. -/
theorem parse_e9 (s : ByteArray) (hs : s.size ≤ 10000) (L : ByteArray) (hL : L.data.toList = upto (isC 35) (trim s.data.toList)) (L3 sc : ByteArray) (h58 : past (isC 58) L.data.toList = 58 :: L3.data.toList) (hsc : sc.data.toList = low (upto (isC 58) L.data.toList)) (d : Nat) (hd : dfl sc.data.toList = d) (hd0 : d ≠ 0) (hsl : [47, 47].isPrefixOf L3.data.toList = true) (L4 ho : ByteArray) (hL4 : L4.data.toList = L3.data.toList.drop 2) (hho : ho.data.toList = low (upto (isC 58) (upto isE L4.data.toList))) (n : Nat) (hnum : (past (isC 58) (upto isE L4.data.toList) = [] ∧ n = 0 ∧ true = true) ∨ ∃ c ds, past (isC 58) (upto isE L4.data.toList) = c :: ds ∧ numP ds = (n, true)) (pr : Int) (hpr : pr = if n = d then 0 else (n : Int)) (pa1 pa q : ByteArray) (hpa1 : pa1.data.toList = if upto (isC 63) (past isE L4.data.toList) = [] then [47] else upto (isC 63) (past isE L4.data.toList)) (hpa : pa.data.toList = cleanP pa1.data.toList) (hq : q.data.toList = past (isC 63) (past isE L4.data.toList)) (hn : chk (uM false sc ho pr pa q) = 50) (w : World) (hmx : MaxIn w) (ht : TabIn w) : Calls Tryz.prog 46 #[.string s] w fun e w' => e = .returned (.tuple #[uV false ⟨#[]⟩ ⟨#[]⟩ 0 ⟨#[]⟩ ⟨#[]⟩, .int .i64 50]) ∧ Below w.heap.size w w' := by
  obtain ⟨hLs, T1, C1, C2⟩ := pre_texts s hs L hL
  obtain ⟨L2, hL2⟩ := text_of (past (isC 58) L.data.toList)
  have z2 := upto_length (isC 58) L.data.toList
  rw [lsize, h58, List.length_cons, lsize] at z2
  have zsc : sc.size ≤ L.size := by
    rw [← lsize sc, hsc, low_length, ← lsize L]
    have := upto_length (isC 58) L.data.toList
    omega
  have C3 := fun B w a => cutScheme_any L sc L2 L3 true hsc hL2 (by rw [hL2, h58]; rfl) (by rw [hL2, h58]; rfl) (by omega) B w false ⟨#[]⟩ ⟨#[]⟩ 0 ⟨#[]⟩ ⟨#[]⟩ a
  have HC3 := Lib.hid C3
  have CD := default_hid sc d hd
  have zL4 : L4.size ≤ L3.size := by
    rw [← lsize L4, hL4, List.length_drop, lsize]; omega
  have C5 := fun B => skip_any ⟨#[47, 47]⟩ L3 L4 true hsl (by rw [hL4]; rfl) B
  have g1 : ((d : Int) == 0) = false := by rw [beq_eq_false_iff_ne]; omega
  obtain ⟨LF, hLF⟩ := text_of (past isE L4.data.toList)
  have zLF : LF.size ≤ L4.size := by
    rw [← lsize LF, ← lsize L4, hLF]
    have := upto_length isE L4.data.toList
    omega
  have zho : ho.size ≤ L4.size := by
    rw [← lsize ho, hho, low_length, ← lsize L4]
    have e1 := upto_length isE L4.data.toList
    have e2 := upto_length (isC 58) (upto isE L4.data.toList)
    omega
  have HC6 := Lib.hid (fun B w a => cutHost_any L4 LF ho n true hLF hho d sc hd hnum (by omega) B w false ⟨#[]⟩ ⟨#[]⟩ ⟨#[]⟩ a hd0 pr hpr)
  rw [← hLF] at hpa1 hq
  have zq : q.size ≤ LF.size := by
    rw [← lsize q, ← lsize LF, hq]
    have := upto_length (isC 63) LF.data.toList
    omega
  have zpa : pa.size ≤ LF.size + 1 := by
    have e1 := cleanP_length pa1.data.toList
    rw [← hpa, lsize, lsize] at e1
    have e2 : pa1.size ≤ LF.size + 1 := by
      rw [← lsize pa1, hpa1]
      split
      · exact Nat.le_add_left _ _
      · have := upto_length (isC 63) LF.data.toList
        rw [lsize] at this; omega
    omega
  have HC7 := Lib.hid (fun B w hm a hB => cutPath_any LF pa1 pa q hpa1 hpa hq (by omega) B w hm false sc ho pr ⟨#[]⟩ ⟨#[]⟩ a hB)
  have CC := check_hid false sc ho pr pa q 50 hn (by omega) (by omega) (by omega) (by omega)
  clear hL h58 hsc hd hL2 C3 hd0 hsl hL4 hho hnum hLF hpa1 hpa hq hn hpr
  go_enter Tryz.func46, Tryz.ntmps46
  go_wp2_with fail
  have x1 := BX.made w false ⟨#[]⟩ ⟨#[]⟩ 0 ⟨#[]⟩ ⟨#[]⟩
  have m1 := hmx.made (.cells #[.bool false, .string ⟨#[]⟩, .string ⟨#[]⟩, .int .i64 0, .string ⟨#[]⟩, .string ⟨#[]⟩] 26)
  have t1 := ht.made (.cells #[.bool false, .string ⟨#[]⟩, .string ⟨#[]⟩, .int .i64 0, .string ⟨#[]⟩, .string ⟨#[]⟩] 26)
  have B1 : Below w.heap.size w (w.alloc (.cells #[.bool false, .string ⟨#[]⟩, .string ⟨#[]⟩, .int .i64 0, .string ⟨#[]⟩, .string ⟨#[]⟩] 26)) := (Below.refl _ _).alloc (Nat.le_refl _) _
  generalize hR : w.heap.size = R at x1 B1 ⊢
  have HR := Lib.hid hR
  clear hR
  generalize w.alloc (.cells #[.bool false, .string ⟨#[]⟩, .string ⟨#[]⟩, .int .i64 0, .string ⟨#[]⟩, .string ⟨#[]⟩] 26) = w1 at x1 B1 m1 t1 ⊢
  refine wp_scope_jumps 0 (fun a' w' => (∃ (u4 u5 u6 u7 u8 u9 u10 u11 u12 u13 u14 u15 u16 u17 u18 u19 u20 u21 u22 u23 u24 u25 u26 u27 u28 u29 u30 u31 u32 u33 u34 u35 u36 u37 u38 u39 u40 : Value), a' = { tmps := #[.string s, undef, .pointer (some ⟨R, 0, none⟩), .int .i64 0, u4, u5, u6, u7, u8, u9, u10, u11, u12, u13, u14, u15, u16, u17, u18, u19, u20, u21, u22, u23, u24, u25, u26, u27, u28, u29, u30, u31, u32, u33, u34, u35, u36, u37, u38, u39, u40], defers := [] }) ∧ BX w' R false ⟨#[]⟩ ⟨#[]⟩ 0 ⟨#[]⟩ ⟨#[]⟩ ∧ Below R w w') (fun _ _ => 0) rfl ?_ ?_
  case refine_2 =>
    rintro a' w5 ⟨⟨u4, u5, u6, u7, u8, u9, u10, u11, u12, u13, u14, u15, u16, u17, u18, u19, u20, u21, u22, u23, u24, u25, u26, u27, u28, u29, u30, u31, u32, u33, u34, u35, u36, u37, u38, u39, u40, rfl⟩, x5, y5⟩
    clear x1 m1 t1 B1
    have r0 := x5.c0
    have f0 := open_of x5 0
    have r1 := x5.c1
    have f1 := open_of x5 1
    have r2 := x5.c2
    have f2 := open_of x5 2
    have r3 := x5.c3
    have f3 := open_of x5 3
    have r4 := x5.c4
    have f4 := open_of x5 4
    have r5 := x5.c5
    have f5 := open_of x5 5
    have xz := BX.store x5 false ⟨#[]⟩ ⟨#[]⟩ 0 ⟨#[]⟩ ⟨#[]⟩
    have yz := stU_below y5 false ⟨#[]⟩ ⟨#[]⟩ 0 ⟨#[]⟩ ⟨#[]⟩
    go_wp2
    clear r0 f0 r1 f1 r2 f2 r3 f3 r4 f4 r5 f5
    unfold stU at xz yz
    generalize (((((w5.setCell ⟨R, 0, none⟩ (.bool false)).setCell ⟨R, 1, none⟩ (.string ⟨#[]⟩)).setCell ⟨R, 2, none⟩ (.string ⟨#[]⟩)).setCell ⟨R, 3, none⟩ (.int .i64 0)).setCell ⟨R, 4, none⟩ (.string ⟨#[]⟩)).setCell ⟨R, 5, none⟩ (.string ⟨#[]⟩) = wz at xz yz ⊢
    have c0 := xz.c0
    have c1 := xz.c1
    have c2 := xz.c2
    have c3 := xz.c3
    have c4 := xz.c4
    have c5 := xz.c5
    simp only [Exit.jump]
    exact bodyPost_ret (v := .tuple #[uV false ⟨#[]⟩ ⟨#[]⟩ 0 ⟨#[]⟩ ⟨#[]⟩, .int .i64 50]) (by simp [results, Tryz.results46, go_sem, uV, c0, c1, c2, c3, c4, c5]) rfl ⟨rfl, by rw [HR.out]; exact yz⟩
  go_wp2_with fail
  refine (C1.out _).mono ?_
  rintro e w2 ⟨rfl, b2⟩
  have x2 := x1.below b2
  have m2 := m1.below b2
  have t2 := t1.below b2
  have B2 := B1.trans (b2.mono (Nat.le_of_lt x1.lt))
  clear b2 x1 m1 t1 B1
  go_wp2_with fail
  refine (C2.out _ m2).mono ?_
  rintro e w3 ⟨⟨ca, cb, rfl⟩, n3, rfl⟩
  have x3 : BX (w2.drewN n3) R false ⟨#[]⟩ ⟨#[]⟩ 0 ⟨#[]⟩ ⟨#[]⟩ := x2
  have m3 : MaxIn (w2.drewN n3) := m2
  have t3 : TabIn (w2.drewN n3) := t2
  have B3 := belowN B2 n3
  generalize w2.drewN n3 = w3 at x3 m3 t3 B3 ⊢
  clear x2 m2 t2 B2
  go_wp2_with fail
  have a4 : AT (w3.alloc (.cells #[.string L, .bool false, .string ⟨#[]⟩, .string ⟨#[]⟩, .int .i64 0, .string ⟨#[]⟩, .string ⟨#[]⟩] 74)) w3.heap.size L false ⟨#[]⟩ ⟨#[]⟩ 0 ⟨#[]⟩ ⟨#[]⟩ := new_block w3 _
  have K4 : Below w3.heap.size w3 (w3.alloc (.cells #[.string L, .bool false, .string ⟨#[]⟩, .string ⟨#[]⟩, .int .i64 0, .string ⟨#[]⟩, .string ⟨#[]⟩] 74)) := (Below.refl _ _).alloc (Nat.le_refl _) _
  have HB : Hid (∀ w', Below w3.heap.size w3 w' → MaxIn w' ∧ TabIn w' ∧ BX w' R false ⟨#[]⟩ ⟨#[]⟩ 0 ⟨#[]⟩ ⟨#[]⟩ ∧ Below R w w') := Lib.hid fun w' b => ⟨m3.below b, t3.below b, x3.below b, B3.trans (b.mono (Nat.le_of_lt x3.lt))⟩
  have hg : 1 < w3.heap.size := by obtain ⟨_, hm9⟩ := m3; exact lt_of_cell hm9
  clear x3 m3 t3 B3
  generalize w3.heap.size = B at a4 K4 HB hg ⊢
  generalize w3.alloc (.cells #[.string L, .bool false, .string ⟨#[]⟩, .string ⟨#[]⟩, .int .i64 0, .string ⟨#[]⟩, .string ⟨#[]⟩] 74) = w4 at a4 K4 ⊢
  refine (HC3.out B w4 a4).mono ?_
  rintro e w5 ⟨rfl, a5, b5⟩
  have K5 := K4.trans b5
  clear a4 K4 b5
  have s5 := a5.c2
  go_wp2_with fail
  refine (CD.out _).mono ?_
  rintro e w5 ⟨rfl, rfl⟩
  clear s5
  go_wp2_with fail
  refine ((C5 B).out _ a5.c0 (a5.free 0)).mono ?_
  rintro e w6 ⟨rfl, rfl⟩
  have a6 := a5.set0 L4
  have K6 := K5.setCell (p := ⟨B, 0, none⟩) (Nat.le_refl _) (.string L4)
  generalize w5.setCell ⟨B, 0, none⟩ (.string L4) = w6 at a6 K6 ⊢
  clear a5 K5
  go_wp2_with fail
  refine (HC6.out B w6 a6).mono ?_
  rintro e w7 ⟨rfl, a7, b7⟩
  have K7 := K6.trans b7
  clear a6 K6 b7
  obtain ⟨m7, t7, x7, y7⟩ := HB.out _ K7
  go_wp2_with fail
  refine (HC7.out B w7 m7 a7 hg).mono ?_
  rintro e w8 ⟨rfl, a8, b8⟩
  have K8 := K7.trans b8
  clear a7 K7 b8 m7 t7 x7 y7
  obtain ⟨m8, t8, x8, y8⟩ := HB.out _ K8
  have k1 := a8.c1
  have k2 := a8.c2
  have k3 := a8.c3
  have k4 := a8.c4
  have k5 := a8.c5
  have k6 := a8.c6
  go_wp2_with fail
  refine (CC.out _ m8 t8).mono ?_
  rintro e w9 ⟨rfl, b9⟩
  have a9 := a8.below b9
  have K9 := K8.trans (b9.mono (Nat.le_of_lt a8.lt))
  obtain ⟨m9, t9, x9, y9⟩ := HB.out _ K9
  clear k1 k2 k3 k4 k5 k6 m8 t8 x8 y8 b9 K8 a8 HB m9 t9
  go_wp2_with fail
  go_step3
  exact ⟨rfl, ⟨_, _, _, _, _, _, _, _, _, _, _, _, _, _, _, _, _, _, _, _, _, _, _, _, _, _, _, _, _, _, _, _, _, _, _, _, _, rfl⟩, x9, y9⟩


end Go.Proofs.YtpmnpaopkncphaaGreatDoor

namespace Go.Proofs.YtpmnpaopkncphaaGreatDoor
open Go.RowKit

theorem uM_inj {o o' : Bool} {s s' h h' pa pa' q q' : ByteArray} {p p' : Int} (e : uM o s h p pa q = uM o' s' h' p' pa' q') : o = o' ∧ s = s' ∧ h = h' ∧ p = p' ∧ pa = pa' ∧ q = q' := by
  unfold uM at e
  injection e with e1 e2 e3 e4 e5 e6
  exact ⟨e1, (text_is e2).trans (text_is rfl).symm, (text_is e3).trans (text_is rfl).symm, e4, (text_is e5).trans (text_is rfl).symm, (text_is e6).trans (text_is rfl).symm⟩
theorem chk_right {u : U} (h : rightM u = true) : chk u = 0 := by unfold chk; rw [h]; rfl
theorem chk_wrong {u : U} (h : rightM u = false) : chk u = 50 := by unfold chk; rw [h]; rfl
theorem numP_some {l : List UInt8} {n : Nat} (h : numM l = some n) : numP l = (n, true) := by unfold numP; rw [h]
theorem numP_none {l : List UInt8} (h : numM l = none) : numP l = (0, false) := by unfold numP; rw [h]

/-- What Parse answers. -/
def PA (s : ByteArray) (o : Bool) (sc h : ByteArray) (p : Int) (pa q : ByteArray) (n : Int) : Prop :=
  (parseM s.data.toList = some (uM o sc h p pa q) ∧ n = 0 ∧ rightM (uM o sc h p pa q) = true) ∨ (parseM s.data.toList = none ∧ n = 50 ∧ o = false ∧ sc = ⟨#[]⟩ ∧ h = ⟨#[]⟩ ∧ p = 0 ∧ pa = ⟨#[]⟩ ∧ q = ⟨#[]⟩)
def PC (s : ByteArray) (o : Bool) (sc h : ByteArray) (p : Int) (pa q : ByteArray) (n : Int) : Prop :=
  ∀ W, MaxIn W → TabIn W → Calls Tryz.prog 46 #[.string s] W fun e w' => e = .returned (.tuple #[uV o sc h p pa q, .int .i64 n]) ∧ Below W.heap.size W w'

theorem parse_to (s : ByteArray) (hs : s.size ≤ 10000) : ∃ (o : Bool) (sc h : ByteArray) (p : Int) (pa q : ByteArray) (n : Int), PA s o sc h p pa q n ∧ Hid (PC s o sc h p pa q n) := by
  obtain ⟨L, hL⟩ := text_of (upto (isC 35) (trim s.data.toList))
  have hM : parseM s.data.toList = (parseT L.data.toList).filter rightM := by unfold parseM; rw [hL]
  have wrong : parseM s.data.toList = none → (PC s false ⟨#[]⟩ ⟨#[]⟩ 0 ⟨#[]⟩ ⟨#[]⟩ 50) → ∃ (o : Bool) (sc h : ByteArray) (p : Int) (pa q : ByteArray) (n : Int), PA s o sc h p pa q n ∧ Hid (PC s o sc h p pa q n) := fun h1 h2 =>
    ⟨false, ⟨#[]⟩, ⟨#[]⟩, 0, ⟨#[]⟩, ⟨#[]⟩, 50, .inr ⟨h1, rfl, rfl, rfl, rfl, rfl, rfl, rfl⟩, Lib.hid h2⟩
  have right : ∀ (o : Bool) (sc h : ByteArray) (p : Int) (pa q : ByteArray), parseT L.data.toList = some (uM o sc h p pa q) →
      (chk (uM o sc h p pa q) = 0 → PC s o sc h p pa q 0) → (chk (uM o sc h p pa q) = 50 → PC s false ⟨#[]⟩ ⟨#[]⟩ 0 ⟨#[]⟩ ⟨#[]⟩ 50) → ∃ (o : Bool) (sc h : ByteArray) (p : Int) (pa q : ByteArray) (n : Int), PA s o sc h p pa q n ∧ Hid (PC s o sc h p pa q n) := fun o sc h p pa q h1 h2 h3 => by
    cases hr : rightM (uM o sc h p pa q)
    · exact wrong (by rw [hM, h1]; simp [hr]) (h3 (chk_wrong hr))
    · exact ⟨o, sc, h, p, pa, q, 0, .inl ⟨by rw [hM, h1]; simp [hr], rfl, hr⟩, Lib.hid (h2 (chk_right hr))⟩
  cases hp : past (isC 58) L.data.toList with
  | nil =>
    have e : parseT L.data.toList = none := by unfold parseT; rw [hp]
    exact wrong (by rw [hM, e]; rfl) (fun W hm ht => parse_a s hs L hL hp W hm ht)
  | cons c r =>
    have hc : c = 58 := by simpa [isC] using past_head (isC 58) _ _ _ hp
    subst hc
    obtain ⟨L3, hL3⟩ := text_of r
    obtain ⟨sc, hsc⟩ := text_of (low (upto (isC 58) L.data.toList))
    have hT : parseT L.data.toList = if dfl sc.data.toList = 0 then some ⟨true, sc.data.toList, [], 0, trim r, []⟩ else if [47, 47].isPrefixOf r then rankU sc.data.toList (r.drop 2) else none := by
      unfold parseT; rw [hp, hsc]
    subst hL3
    by_cases hd0 : dfl sc.data.toList = 0
    · obtain ⟨pa, hpa⟩ := text_of (trim L3.data.toList)
      rw [if_pos hd0, ← hpa] at hT
      exact right true sc ⟨#[]⟩ 0 pa ⟨#[]⟩ hT (fun hn W hm ht => parse_b s hs L hL L3 sc hp hsc _ rfl hd0 pa hpa hn W hm ht) (fun hn W hm ht => parse_b9 s hs L hL L3 sc hp hsc _ rfl hd0 pa hpa hn W hm ht)
    rw [if_neg hd0] at hT
    cases hsl : [47, 47].isPrefixOf L3.data.toList
    · rw [hsl] at hT
      exact wrong (by rw [hM, hT]; rfl) (fun W hm ht => parse_c s hs L hL L3 sc hp hsc _ rfl hd0 hsl W hm ht)
    rw [hsl, if_pos rfl] at hT
    obtain ⟨L4, hL4⟩ := text_of (L3.data.toList.drop 2)
    rw [← hL4] at hT
    obtain ⟨ho, hho⟩ := text_of (low (upto (isC 58) (upto isE L4.data.toList)))
    have hnum : (portM (past (isC 58) (upto isE L4.data.toList)) = none ∧ ∃ c ds, past (isC 58) (upto isE L4.data.toList) = c :: ds ∧ numP ds = (0, false)) ∨ ∃ n, portM (past (isC 58) (upto isE L4.data.toList)) = some n ∧ ((past (isC 58) (upto isE L4.data.toList) = [] ∧ n = 0 ∧ true = true) ∨ ∃ c ds, past (isC 58) (upto isE L4.data.toList) = c :: ds ∧ numP ds = (n, true)) := by
      cases hq : past (isC 58) (upto isE L4.data.toList) with
      | nil => exact .inr ⟨0, rfl, .inl ⟨rfl, rfl, rfl⟩⟩
      | cons c ds =>
        cases hn : numM ds with
        | none => exact .inl ⟨hn, c, ds, rfl, numP_none hn⟩
        | some n => exact .inr ⟨n, hn, .inr ⟨c, ds, rfl, numP_some hn⟩⟩
    rcases hnum with ⟨h1, h2⟩ | ⟨n, h1, h2⟩
    · have e : parseT L.data.toList = none := by rw [hT]; unfold rankU; rw [h1]
      exact wrong (by rw [hM, e]; rfl) (fun W hm ht => parse_d s hs L hL L3 sc hp hsc _ rfl hd0 hsl L4 ho hL4 hho 0 (.inr h2) W hm ht)
    · obtain ⟨pr, hpr⟩ : ∃ pr : Int, pr = if n = dfl sc.data.toList then 0 else (n : Int) := ⟨_, rfl⟩
      obtain ⟨pa1, hpa1⟩ := text_of (if upto (isC 63) (past isE L4.data.toList) = [] then [47] else upto (isC 63) (past isE L4.data.toList))
      obtain ⟨pa, hpa⟩ := text_of (cleanP pa1.data.toList)
      obtain ⟨q, hq⟩ := text_of (past (isC 63) (past isE L4.data.toList))
      have e : parseT L.data.toList = some (uM false sc ho pr pa q) := by
        rw [hT]; unfold rankU; rw [h1]
        unfold uM
        rw [hho, hpr, hpa, hpa1, hq]
      exact right false sc ho pr pa q e (fun hn W hm ht => parse_e s hs L hL L3 sc hp hsc _ rfl hd0 hsl L4 ho hL4 hho n h2 pr hpr pa1 pa q hpa1 hpa hq hn W hm ht) (fun hn W hm ht => parse_e9 s hs L hL L3 sc hp hsc _ rfl hd0 hsl L4 ho hL4 hho n h2 pr hpr pa1 pa q hpa1 hpa hq hn W hm ht)
theorem parse_is (s : ByteArray) (hs : s.size ≤ 10000) (o : Bool) (sc h : ByteArray) (p : Int) (pa q : ByteArray) (hm : parseM s.data.toList = some (uM o sc h p pa q)) : Hid (PC s o sc h p pa q 0) := by
  obtain ⟨o', sc', h', p', pa', q', n', hA, hC⟩ := parse_to s hs
  rcases hA with ⟨h1, rfl, _⟩ | ⟨h1, _⟩
  · rw [hm] at h1
    obtain ⟨rfl, rfl, rfl, rfl, rfl, rfl⟩ := uM_inj (Option.some.inj h1)
    exact hC
  · rw [hm] at h1; cases h1
theorem parse_not (s : ByteArray) (hs : s.size ≤ 10000) (hm : parseM s.data.toList = none) : Hid (PC s false ⟨#[]⟩ ⟨#[]⟩ 0 ⟨#[]⟩ ⟨#[]⟩ 50) := by
  obtain ⟨o', sc', h', p', pa', q', n', hA, hC⟩ := parse_to s hs
  rcases hA with ⟨h1, _⟩ | ⟨_, rfl, rfl, rfl, rfl, rfl, rfl, rfl⟩
  · rw [hm] at h1; cases h1
  · exact hC

end Go.Proofs.YtpmnpaopkncphaaGreatDoor
