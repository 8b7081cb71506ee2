/- SourceLetters: a word with small letters is the same source, but for a nonce and a mark. -/
import Derived.Test.YtmfejcmhbncchaaGreatDoorSrcW
namespace Go.Proofs.YtmfejcmhbncchaaGreatDoor
open Go.RowKit

set_option maxRecDepth 100000 in
set_option maxHeartbeats 4000000 in
theorem letters_law (l : ByteArray) (w : World) (hw : Low w) : Calls Tryz.prog 4 #[.string l] w fun e w' => e = .returned (.bool true) ∧ Below w.heap.size w w' := by
  by_cases hbig : (800 : Int) < (l.size : Int)
  · go_enter Tryz.func4, Tryz.ntmps4
    go_wp2
    go_ret
    exact ⟨rfl, Below.refl _ _⟩
  obtain ⟨m, hm⟩ := text_of (low l.data.toList)
  have hms : m.size = l.size := by rw [← lsize, hm, low_length, lsize]
  have CL := lower_hid l m hm (by omega)
  have CW := words_hid
  obtain ⟨k2, t2, s2, h2, b2, p2, pa2, r2, hM2, hr2, CB⟩ := parseS_to m (by omega)
  cases hp : parseS l.data.toList with
  | none =>
    have CA := parseS_not l (by omega) hp
    clear hm hms hM2 hr2 hp
    unfold srcV at *
    go_enter Tryz.func4, Tryz.ntmps4
    go_wp2_with fail
    refine (CA.out _ hw).mono ?_
    rintro e w1 ⟨rfl, b_⟩
    have gw1 := hw.below b_
    have Bw1 := b_
    clear b_ hw
    go_wp2_with fail
    have xn := SX.made w1 0 ⟨#[]⟩ ⟨#[]⟩ ⟨#[]⟩ false 0 ⟨#[]⟩
    have gw2 := gw1.made (.cells #[.int .i64 0, .string ⟨#[]⟩, .string ⟨#[]⟩, .string ⟨#[]⟩, .bool false, .int .i64 0, .string ⟨#[]⟩] 24)
    have Bw2 := Bw1.trans (((Below.refl w1.heap.size w1).alloc (Nat.le_refl _) (.cells #[.int .i64 0, .string ⟨#[]⟩, .string ⟨#[]⟩, .string ⟨#[]⟩, .bool false, .int .i64 0, .string ⟨#[]⟩] 24)).mono Bw1.size)
    generalize w1.heap.size = Ra at xn ⊢
    generalize w1.alloc (.cells #[.int .i64 0, .string ⟨#[]⟩, .string ⟨#[]⟩, .string ⟨#[]⟩, .bool false, .int .i64 0, .string ⟨#[]⟩] 24) = w2 at xn gw2 Bw2  ⊢
    have xRa_w2 := xn
    clear xn gw1 Bw1
    refine (CL.out _ ).mono ?_
    rintro e w3 ⟨rfl, b_⟩
    have gw3 := gw2.below b_
    have Bw3 := Bw2.trans (b_.mono Bw2.size)
    have xRa_w3 := xRa_w2.below b_
    clear b_ gw2 Bw2 xRa_w2
    go_wp2_with fail
    refine (CB.out _ gw3).mono ?_
    rintro e w4 ⟨rfl, b_⟩
    have gw4 := gw3.below b_
    have Bw4 := Bw3.trans (b_.mono Bw3.size)
    have xRa_w4 := xRa_w3.below b_
    clear b_ gw3 Bw3 xRa_w3
    have al := ((Below.refl w4.heap.size w4).alloc (Nat.le_refl _) (.cells #[.int .i64 k2, .string t2, .string s2, .string h2, .bool b2, .int .i64 p2, .string pa2] 24))
    have q0 := (xRa_w4.below al).c0
    have q1 := (xRa_w4.below al).c1
    have q2 := (xRa_w4.below al).c2
    have q3 := (xRa_w4.below al).c3
    have q4 := (xRa_w4.below al).c4
    have q5 := (xRa_w4.below al).c5
    have q6 := (xRa_w4.below al).c6
    go_wp2_with fail
    clear q0 q1 q2 q3 q4 q5 q6 al
    have xn := SX.made w4 k2 t2 s2 h2 b2 p2 pa2
    have gw5 := gw4.made (.cells #[.int .i64 k2, .string t2, .string s2, .string h2, .bool b2, .int .i64 p2, .string pa2] 24)
    have Bw5 := Bw4.trans (((Below.refl w4.heap.size w4).alloc (Nat.le_refl _) (.cells #[.int .i64 k2, .string t2, .string s2, .string h2, .bool b2, .int .i64 p2, .string pa2] 24)).mono Bw4.size)
    have xRa_w5 := xRa_w4.below ((Below.refl w4.heap.size w4).alloc (Nat.le_refl _) (.cells #[.int .i64 k2, .string t2, .string s2, .string h2, .bool b2, .int .i64 p2, .string pa2] 24))
    generalize w4.heap.size = Rb at xn ⊢
    generalize w4.alloc (.cells #[.int .i64 k2, .string t2, .string s2, .string h2, .bool b2, .int .i64 p2, .string pa2] 24) = w5 at xn gw5 Bw5 xRa_w5 ⊢
    have xRb_w5 := xn
    clear xn gw4 Bw4 xRa_w4
    refine (CW.out _ gw5).mono ?_
    rintro e w6 ⟨rfl, b_⟩
    have gw6 := gw5.below b_
    have Bw6 := Bw5.trans (b_.mono Bw5.size)
    have xRa_w6 := xRa_w5.below b_
    have xRb_w6 := xRb_w5.below b_
    clear b_ gw5 Bw5 xRa_w5 xRb_w5
    have dRa0 := xRa_w6.c0
    have dRa1 := xRa_w6.c1
    have dRa2 := xRa_w6.c2
    have dRa3 := xRa_w6.c3
    have dRa4 := xRa_w6.c4
    have dRa5 := xRa_w6.c5
    have dRa6 := xRa_w6.c6
    have dRb0 := xRb_w6.c0
    have dRb1 := xRb_w6.c1
    have dRb2 := xRb_w6.c2
    have dRb3 := xRb_w6.c3
    have dRb4 := xRb_w6.c4
    have dRb5 := xRb_w6.c5
    have dRb6 := xRb_w6.c6
    go_wp2
    go_ret
    exact ⟨rfl, Bw6⟩

  | some a =>
    obtain ⟨t, s, h, pa, ha⟩ := src_of a
    generalize a.k = k at ha
    generalize a.w = b at ha
    generalize a.p = p at ha
    subst ha
    have CA := parseS_is l (by omega) k t s h b p pa hp
    by_cases k9 : k = 9
    · subst k9
      clear hm hms hM2 hr2 hp
      unfold srcV at *
      go_enter Tryz.func4, Tryz.ntmps4
      go_wp2_with fail
      refine (CA.out _ hw).mono ?_
      rintro e w1 ⟨rfl, b_⟩
      have gw1 := hw.below b_
      have Bw1 := b_
      clear b_ hw
      go_wp2_with fail
      have xn := SX.made w1 9 t s h b p pa
      have gw2 := gw1.made (.cells #[.int .i64 9, .string t, .string s, .string h, .bool b, .int .i64 p, .string pa] 24)
      have Bw2 := Bw1.trans (((Below.refl w1.heap.size w1).alloc (Nat.le_refl _) (.cells #[.int .i64 9, .string t, .string s, .string h, .bool b, .int .i64 p, .string pa] 24)).mono Bw1.size)
      generalize w1.heap.size = Ra at xn ⊢
      generalize w1.alloc (.cells #[.int .i64 9, .string t, .string s, .string h, .bool b, .int .i64 p, .string pa] 24) = w2 at xn gw2 Bw2  ⊢
      have xRa_w2 := xn
      clear xn gw1 Bw1
      refine (CL.out _ ).mono ?_
      rintro e w3 ⟨rfl, b_⟩
      have gw3 := gw2.below b_
      have Bw3 := Bw2.trans (b_.mono Bw2.size)
      have xRa_w3 := xRa_w2.below b_
      clear b_ gw2 Bw2 xRa_w2
      go_wp2_with fail
      refine (CB.out _ gw3).mono ?_
      rintro e w4 ⟨rfl, b_⟩
      have gw4 := gw3.below b_
      have Bw4 := Bw3.trans (b_.mono Bw3.size)
      have xRa_w4 := xRa_w3.below b_
      clear b_ gw3 Bw3 xRa_w3
      have al := ((Below.refl w4.heap.size w4).alloc (Nat.le_refl _) (.cells #[.int .i64 k2, .string t2, .string s2, .string h2, .bool b2, .int .i64 p2, .string pa2] 24))
      have q0 := (xRa_w4.below al).c0
      have q1 := (xRa_w4.below al).c1
      have q2 := (xRa_w4.below al).c2
      have q3 := (xRa_w4.below al).c3
      have q4 := (xRa_w4.below al).c4
      have q5 := (xRa_w4.below al).c5
      have q6 := (xRa_w4.below al).c6
      go_wp2_with fail
      clear q0 q1 q2 q3 q4 q5 q6 al
      have xn := SX.made w4 k2 t2 s2 h2 b2 p2 pa2
      have gw5 := gw4.made (.cells #[.int .i64 k2, .string t2, .string s2, .string h2, .bool b2, .int .i64 p2, .string pa2] 24)
      have Bw5 := Bw4.trans (((Below.refl w4.heap.size w4).alloc (Nat.le_refl _) (.cells #[.int .i64 k2, .string t2, .string s2, .string h2, .bool b2, .int .i64 p2, .string pa2] 24)).mono Bw4.size)
      have xRa_w5 := xRa_w4.below ((Below.refl w4.heap.size w4).alloc (Nat.le_refl _) (.cells #[.int .i64 k2, .string t2, .string s2, .string h2, .bool b2, .int .i64 p2, .string pa2] 24))
      generalize w4.heap.size = Rb at xn ⊢
      generalize w4.alloc (.cells #[.int .i64 k2, .string t2, .string s2, .string h2, .bool b2, .int .i64 p2, .string pa2] 24) = w5 at xn gw5 Bw5 xRa_w5 ⊢
      have xRb_w5 := xn
      clear xn gw4 Bw4 xRa_w4
      refine (CW.out _ gw5).mono ?_
      rintro e w6 ⟨rfl, b_⟩
      have gw6 := gw5.below b_
      have Bw6 := Bw5.trans (b_.mono Bw5.size)
      have xRa_w6 := xRa_w5.below b_
      have xRb_w6 := xRb_w5.below b_
      clear b_ gw5 Bw5 xRa_w5 xRb_w5
      have dRa0 := xRa_w6.c0
      have dRa1 := xRa_w6.c1
      have dRa2 := xRa_w6.c2
      have dRa3 := xRa_w6.c3
      have dRa4 := xRa_w6.c4
      have dRa5 := xRa_w6.c5
      have dRa6 := xRa_w6.c6
      have dRb0 := xRb_w6.c0
      have dRb1 := xRb_w6.c1
      have dRb2 := xRb_w6.c2
      have dRb3 := xRb_w6.c3
      have dRb4 := xRb_w6.c4
      have dRb5 := xRb_w6.c5
      have dRb6 := xRb_w6.c6
      go_wp2
      go_ret
      exact ⟨rfl, Bw6⟩

    by_cases k10 : k = 10
    · subst k10
      clear hm hms hM2 hr2 hp k9
      unfold srcV at *
      go_enter Tryz.func4, Tryz.ntmps4
      go_wp2_with fail
      refine (CA.out _ hw).mono ?_
      rintro e w1 ⟨rfl, b_⟩
      have gw1 := hw.below b_
      have Bw1 := b_
      clear b_ hw
      go_wp2_with fail
      have xn := SX.made w1 10 t s h b p pa
      have gw2 := gw1.made (.cells #[.int .i64 10, .string t, .string s, .string h, .bool b, .int .i64 p, .string pa] 24)
      have Bw2 := Bw1.trans (((Below.refl w1.heap.size w1).alloc (Nat.le_refl _) (.cells #[.int .i64 10, .string t, .string s, .string h, .bool b, .int .i64 p, .string pa] 24)).mono Bw1.size)
      generalize w1.heap.size = Ra at xn ⊢
      generalize w1.alloc (.cells #[.int .i64 10, .string t, .string s, .string h, .bool b, .int .i64 p, .string pa] 24) = w2 at xn gw2 Bw2  ⊢
      have xRa_w2 := xn
      clear xn gw1 Bw1
      refine (CL.out _ ).mono ?_
      rintro e w3 ⟨rfl, b_⟩
      have gw3 := gw2.below b_
      have Bw3 := Bw2.trans (b_.mono Bw2.size)
      have xRa_w3 := xRa_w2.below b_
      clear b_ gw2 Bw2 xRa_w2
      go_wp2_with fail
      refine (CB.out _ gw3).mono ?_
      rintro e w4 ⟨rfl, b_⟩
      have gw4 := gw3.below b_
      have Bw4 := Bw3.trans (b_.mono Bw3.size)
      have xRa_w4 := xRa_w3.below b_
      clear b_ gw3 Bw3 xRa_w3
      have al := ((Below.refl w4.heap.size w4).alloc (Nat.le_refl _) (.cells #[.int .i64 k2, .string t2, .string s2, .string h2, .bool b2, .int .i64 p2, .string pa2] 24))
      have q0 := (xRa_w4.below al).c0
      have q1 := (xRa_w4.below al).c1
      have q2 := (xRa_w4.below al).c2
      have q3 := (xRa_w4.below al).c3
      have q4 := (xRa_w4.below al).c4
      have q5 := (xRa_w4.below al).c5
      have q6 := (xRa_w4.below al).c6
      go_wp2_with fail
      clear q0 q1 q2 q3 q4 q5 q6 al
      have xn := SX.made w4 k2 t2 s2 h2 b2 p2 pa2
      have gw5 := gw4.made (.cells #[.int .i64 k2, .string t2, .string s2, .string h2, .bool b2, .int .i64 p2, .string pa2] 24)
      have Bw5 := Bw4.trans (((Below.refl w4.heap.size w4).alloc (Nat.le_refl _) (.cells #[.int .i64 k2, .string t2, .string s2, .string h2, .bool b2, .int .i64 p2, .string pa2] 24)).mono Bw4.size)
      have xRa_w5 := xRa_w4.below ((Below.refl w4.heap.size w4).alloc (Nat.le_refl _) (.cells #[.int .i64 k2, .string t2, .string s2, .string h2, .bool b2, .int .i64 p2, .string pa2] 24))
      generalize w4.heap.size = Rb at xn ⊢
      generalize w4.alloc (.cells #[.int .i64 k2, .string t2, .string s2, .string h2, .bool b2, .int .i64 p2, .string pa2] 24) = w5 at xn gw5 Bw5 xRa_w5 ⊢
      have xRb_w5 := xn
      clear xn gw4 Bw4 xRa_w4
      refine (CW.out _ gw5).mono ?_
      rintro e w6 ⟨rfl, b_⟩
      have gw6 := gw5.below b_
      have Bw6 := Bw5.trans (b_.mono Bw5.size)
      have xRa_w6 := xRa_w5.below b_
      have xRb_w6 := xRb_w5.below b_
      clear b_ gw5 Bw5 xRa_w5 xRb_w5
      have dRa0 := xRa_w6.c0
      have dRa1 := xRa_w6.c1
      have dRa2 := xRa_w6.c2
      have dRa3 := xRa_w6.c3
      have dRa4 := xRa_w6.c4
      have dRa5 := xRa_w6.c5
      have dRa6 := xRa_w6.c6
      have dRb0 := xRb_w6.c0
      have dRb1 := xRb_w6.c1
      have dRb2 := xRb_w6.c2
      have dRb3 := xRb_w6.c3
      have dRb4 := xRb_w6.c4
      have dRb5 := xRb_w6.c5
      have dRb6 := xRb_w6.c6
      go_wp2
      go_ret
      exact ⟨rfl, Bw6⟩

    have m9 : (k == 9) = false := by rw [beq_eq_false_iff_ne]; exact k9
    have m10 : (k == 10) = false := by rw [beq_eq_false_iff_ne]; exact k10
    cases gpa : pa.toList.isEmpty
    · clear hm hms hM2 hr2 hp k9 k10
      unfold srcV at *
      go_enter Tryz.func4, Tryz.ntmps4
      go_wp2_with fail
      refine (CA.out _ hw).mono ?_
      rintro e w1 ⟨rfl, b_⟩
      have gw1 := hw.below b_
      have Bw1 := b_
      clear b_ hw
      go_wp2_with fail
      have xn := SX.made w1 k t s h b p pa
      have gw2 := gw1.made (.cells #[.int .i64 k, .string t, .string s, .string h, .bool b, .int .i64 p, .string pa] 24)
      have Bw2 := Bw1.trans (((Below.refl w1.heap.size w1).alloc (Nat.le_refl _) (.cells #[.int .i64 k, .string t, .string s, .string h, .bool b, .int .i64 p, .string pa] 24)).mono Bw1.size)
      generalize w1.heap.size = Ra at xn ⊢
      generalize w1.alloc (.cells #[.int .i64 k, .string t, .string s, .string h, .bool b, .int .i64 p, .string pa] 24) = w2 at xn gw2 Bw2  ⊢
      have xRa_w2 := xn
      clear xn gw1 Bw1
      refine (CL.out _ ).mono ?_
      rintro e w3 ⟨rfl, b_⟩
      have gw3 := gw2.below b_
      have Bw3 := Bw2.trans (b_.mono Bw2.size)
      have xRa_w3 := xRa_w2.below b_
      clear b_ gw2 Bw2 xRa_w2
      go_wp2_with fail
      refine (CB.out _ gw3).mono ?_
      rintro e w4 ⟨rfl, b_⟩
      have gw4 := gw3.below b_
      have Bw4 := Bw3.trans (b_.mono Bw3.size)
      have xRa_w4 := xRa_w3.below b_
      clear b_ gw3 Bw3 xRa_w3
      have al := ((Below.refl w4.heap.size w4).alloc (Nat.le_refl _) (.cells #[.int .i64 k2, .string t2, .string s2, .string h2, .bool b2, .int .i64 p2, .string pa2] 24))
      have q0 := (xRa_w4.below al).c0
      have q1 := (xRa_w4.below al).c1
      have q2 := (xRa_w4.below al).c2
      have q3 := (xRa_w4.below al).c3
      have q4 := (xRa_w4.below al).c4
      have q5 := (xRa_w4.below al).c5
      have q6 := (xRa_w4.below al).c6
      go_wp2_with fail
      clear q0 q1 q2 q3 q4 q5 q6 al
      have xn := SX.made w4 k2 t2 s2 h2 b2 p2 pa2
      have gw5 := gw4.made (.cells #[.int .i64 k2, .string t2, .string s2, .string h2, .bool b2, .int .i64 p2, .string pa2] 24)
      have Bw5 := Bw4.trans (((Below.refl w4.heap.size w4).alloc (Nat.le_refl _) (.cells #[.int .i64 k2, .string t2, .string s2, .string h2, .bool b2, .int .i64 p2, .string pa2] 24)).mono Bw4.size)
      have xRa_w5 := xRa_w4.below ((Below.refl w4.heap.size w4).alloc (Nat.le_refl _) (.cells #[.int .i64 k2, .string t2, .string s2, .string h2, .bool b2, .int .i64 p2, .string pa2] 24))
      generalize w4.heap.size = Rb at xn ⊢
      generalize w4.alloc (.cells #[.int .i64 k2, .string t2, .string s2, .string h2, .bool b2, .int .i64 p2, .string pa2] 24) = w5 at xn gw5 Bw5 xRa_w5 ⊢
      have xRb_w5 := xn
      clear xn gw4 Bw4 xRa_w4
      refine (CW.out _ gw5).mono ?_
      rintro e w6 ⟨rfl, b_⟩
      have gw6 := gw5.below b_
      have Bw6 := Bw5.trans (b_.mono Bw5.size)
      have xRa_w6 := xRa_w5.below b_
      have xRb_w6 := xRb_w5.below b_
      clear b_ gw5 Bw5 xRa_w5 xRb_w5
      have dRa0 := xRa_w6.c0
      have dRa1 := xRa_w6.c1
      have dRa2 := xRa_w6.c2
      have dRa3 := xRa_w6.c3
      have dRa4 := xRa_w6.c4
      have dRa5 := xRa_w6.c5
      have dRa6 := xRa_w6.c6
      have dRb0 := xRb_w6.c0
      have dRb1 := xRb_w6.c1
      have dRb2 := xRb_w6.c2
      have dRb3 := xRb_w6.c3
      have dRb4 := xRb_w6.c4
      have dRb5 := xRb_w6.c5
      have dRb6 := xRb_w6.c6
      go_wp2
      go_ret
      exact ⟨rfl, Bw6⟩

    have epa : pa.data.toList = [] := by rw [text_empty] at gpa; simpa using gpa
    obtain rfl : pa = ⟨#[]⟩ := text_is epa
    have hp2 := parse_low hp k9 k10 epa
    rw [← hm] at hp2
    have CB2 := parseS_is m (by omega) k t s h b p ⟨#[]⟩ hp2
    have HQ := src_eql k t s h b p ⟨#[]⟩ k t s h b p ⟨#[]⟩
    rw [srcE_M, decide_eq_true rfl] at HQ
    clear hm hms hM2 hr2 hp k9 k10 CB hp2 epa gpa
    have CB := CB2
    clear CB2
    unfold srcV at *
    go_enter Tryz.func4, Tryz.ntmps4
    go_wp2_with fail
    refine (CA.out _ hw).mono ?_
    rintro e w1 ⟨rfl, b_⟩
    have gw1 := hw.below b_
    have Bw1 := b_
    clear b_ hw
    go_wp2_with fail
    have xn := SX.made w1 k t s h b p ⟨#[]⟩
    have gw2 := gw1.made (.cells #[.int .i64 k, .string t, .string s, .string h, .bool b, .int .i64 p, .string ⟨#[]⟩] 24)
    have Bw2 := Bw1.trans (((Below.refl w1.heap.size w1).alloc (Nat.le_refl _) (.cells #[.int .i64 k, .string t, .string s, .string h, .bool b, .int .i64 p, .string ⟨#[]⟩] 24)).mono Bw1.size)
    generalize w1.heap.size = Ra at xn ⊢
    generalize w1.alloc (.cells #[.int .i64 k, .string t, .string s, .string h, .bool b, .int .i64 p, .string ⟨#[]⟩] 24) = w2 at xn gw2 Bw2  ⊢
    have xRa_w2 := xn
    clear xn gw1 Bw1
    refine (CL.out _ ).mono ?_
    rintro e w3 ⟨rfl, b_⟩
    have gw3 := gw2.below b_
    have Bw3 := Bw2.trans (b_.mono Bw2.size)
    have xRa_w3 := xRa_w2.below b_
    clear b_ gw2 Bw2 xRa_w2
    go_wp2_with fail
    refine (CB.out _ gw3).mono ?_
    rintro e w4 ⟨rfl, b_⟩
    have gw4 := gw3.below b_
    have Bw4 := Bw3.trans (b_.mono Bw3.size)
    have xRa_w4 := xRa_w3.below b_
    clear b_ gw3 Bw3 xRa_w3
    have al := ((Below.refl w4.heap.size w4).alloc (Nat.le_refl _) (.cells #[.int .i64 k, .string t, .string s, .string h, .bool b, .int .i64 p, .string ⟨#[]⟩] 24))
    have q0 := (xRa_w4.below al).c0
    have q1 := (xRa_w4.below al).c1
    have q2 := (xRa_w4.below al).c2
    have q3 := (xRa_w4.below al).c3
    have q4 := (xRa_w4.below al).c4
    have q5 := (xRa_w4.below al).c5
    have q6 := (xRa_w4.below al).c6
    go_wp2_with fail
    clear q0 q1 q2 q3 q4 q5 q6 al
    have xn := SX.made w4 k t s h b p ⟨#[]⟩
    have gw5 := gw4.made (.cells #[.int .i64 k, .string t, .string s, .string h, .bool b, .int .i64 p, .string ⟨#[]⟩] 24)
    have Bw5 := Bw4.trans (((Below.refl w4.heap.size w4).alloc (Nat.le_refl _) (.cells #[.int .i64 k, .string t, .string s, .string h, .bool b, .int .i64 p, .string ⟨#[]⟩] 24)).mono Bw4.size)
    have xRa_w5 := xRa_w4.below ((Below.refl w4.heap.size w4).alloc (Nat.le_refl _) (.cells #[.int .i64 k, .string t, .string s, .string h, .bool b, .int .i64 p, .string ⟨#[]⟩] 24))
    generalize w4.heap.size = Rb at xn ⊢
    generalize w4.alloc (.cells #[.int .i64 k, .string t, .string s, .string h, .bool b, .int .i64 p, .string ⟨#[]⟩] 24) = w5 at xn gw5 Bw5 xRa_w5 ⊢
    have xRb_w5 := xn
    clear xn gw4 Bw4 xRa_w4
    refine (CW.out _ gw5).mono ?_
    rintro e w6 ⟨rfl, b_⟩
    have gw6 := gw5.below b_
    have Bw6 := Bw5.trans (b_.mono Bw5.size)
    have xRa_w6 := xRa_w5.below b_
    have xRb_w6 := xRb_w5.below b_
    clear b_ gw5 Bw5 xRa_w5 xRb_w5
    have dRa0 := xRa_w6.c0
    have dRa1 := xRa_w6.c1
    have dRa2 := xRa_w6.c2
    have dRa3 := xRa_w6.c3
    have dRa4 := xRa_w6.c4
    have dRa5 := xRa_w6.c5
    have dRa6 := xRa_w6.c6
    have dRb0 := xRb_w6.c0
    have dRb1 := xRb_w6.c1
    have dRb2 := xRb_w6.c2
    have dRb3 := xRb_w6.c3
    have dRb4 := xRb_w6.c4
    have dRb5 := xRb_w6.c5
    have dRb6 := xRb_w6.c6
    go_wp2
    go_ret
    exact ⟨rfl, Bw6⟩

end Go.Proofs.YtmfejcmhbncchaaGreatDoor
