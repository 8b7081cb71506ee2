/- What is let be inline has its witness. -/
import Derived.Test.YtaldjkbnngeahaaGreatDoorRowsQ
namespace Go.Proofs.YtaldjkbnngeahaaGreatDoor
open Go.RowKit


set_option maxRecDepth 100000 in
set_option maxHeartbeats 8000000 in
theorem wit_no (L : List Src) (v : Value) (hl0 : L.length ≤ 9223372036854775807) (rk : Int) (rt : ByteArray) (o : Bool) (s2 h2 : ByteArray) (p : Int) (pa2 q2 : ByteArray) (mv : Bool) (rn : ByteArray) (pr : Bool) (o3 : Bool) (s3 h3 : ByteArray) (p3 : Int) (pa3 q3 : ByteArray) (hno : inlineL L rk rn.data.toList rt.data.toList = false) (w : World) (hw : Low w) (hv : SrcsIn w v L) : Calls Tryz.prog 8 #[v, reqV rk rt o s2 h2 p pa2 q2 mv rn pr o3 s3 h3 p3 pa3 q3] w fun e w' => e = .returned (.bool true) ∧ Below w.heap.size w w' := by
  have AR := allows_hid
  have LG := large11_hid L v hl0 rk rt o s2 h2 p pa2 q2 mv rn pr o3 s3 h3 p3 pa3 q3
  unfold reqV at *
  go_enter Tryz.func8, Tryz.ntmps8
  go_wp2_with fail
  have xn := RX.made w rk rt o s2 h2 p pa2 q2 mv rn pr o3 s3 h3 p3 pa3 q3
  have gw1 := hw.made (.cells #[.int .i64 rk, .string rt, .bool o, .string s2, .string h2, .int .i64 p, .string pa2, .string q2, .bool mv, .string rn, .bool pr, .bool o3, .string s3, .string h3, .int .i64 p3, .string pa3, .string q3] 27)
  have lw1 := hv.made (.cells #[.int .i64 rk, .string rt, .bool o, .string s2, .string h2, .int .i64 p, .string pa2, .string q2, .bool mv, .string rn, .bool pr, .bool o3, .string s3, .string h3, .int .i64 p3, .string pa3, .string q3] 27)
  have Bw1 : Below w.heap.size w (w.alloc (.cells #[.int .i64 rk, .string rt, .bool o, .string s2, .string h2, .int .i64 p, .string pa2, .string q2, .bool mv, .string rn, .bool pr, .bool o3, .string s3, .string h3, .int .i64 p3, .string pa3, .string q3] 27)) := ((Below.refl w.heap.size w).alloc (Nat.le_refl _) (.cells #[.int .i64 rk, .string rt, .bool o, .string s2, .string h2, .int .i64 p, .string pa2, .string q2, .bool mv, .string rn, .bool pr, .bool o3, .string s3, .string h3, .int .i64 p3, .string pa3, .string q3] 27))
  generalize hR : w.heap.size = Ra at xn Bw1 ⊢
  have HR := Lib.hid hR
  clear hR
  generalize w.alloc (.cells #[.int .i64 rk, .string rt, .bool o, .string s2, .string h2, .int .i64 p, .string pa2, .string q2, .bool mv, .string rn, .bool pr, .bool o3, .string s3, .string h3, .int .i64 p3, .string pa3, .string q3] 27) = w1 at xn gw1 lw1 Bw1  ⊢
  have xRa_w1 := xn
  clear xn hw hv
  refine (LG.out _ lw1).mono ?_
  rintro e w2 ⟨b0, rfl, b_, hz⟩
  have gw2 := gw1.below b_
  have lw2 := lw1.below b_
  have Bw2 := Bw1.trans (b_.mono (Nat.le_of_lt xRa_w1.lt))
  have xRa_w2 := xRa_w1.below b_
  clear b_ gw1 lw1 Bw1 xRa_w1
  generalize Value.agg #[.int .i64 rk, .string rt, .bool o, .string s2, .string h2, .int .i64 p, .string pa2, .string q2, .bool mv, .string rn, .bool pr, .bool o3, .string s3, .string h3, .int .i64 p3, .string pa3, .string q3] = rq
  have HZ := Lib.hid hz
  clear hz
  cases b0
  case true =>
    have dRa0 := xRa_w2.c0
    have dRa1 := xRa_w2.c1
    have dRa2 := xRa_w2.c2
    have dRa3 := xRa_w2.c3
    have dRa4 := xRa_w2.c4
    have dRa5 := xRa_w2.c5
    have dRa6 := xRa_w2.c6
    have dRa7 := xRa_w2.c7
    have dRa8 := xRa_w2.c8
    have dRa9 := xRa_w2.c9
    have dRa10 := xRa_w2.c10
    have dRa11 := xRa_w2.c11
    have dRa12 := xRa_w2.c12
    have dRa13 := xRa_w2.c13
    have dRa14 := xRa_w2.c14
    have dRa15 := xRa_w2.c15
    have dRa16 := xRa_w2.c16
    go_wp2_with fail
    clear dRa0 dRa1 dRa2 dRa3 dRa4 dRa5 dRa6 dRa7 dRa8 dRa9 dRa10 dRa11 dRa12 dRa13 dRa14 dRa15 dRa16
    refine (AR.out _ gw2).mono ?_
    rintro e w3 ⟨rfl, b_⟩
    have gw3 := gw2.below b_
    have lw3 := lw2.below b_
    have Bw3 := Bw2.trans (b_.mono (Nat.le_of_lt xRa_w2.lt))
    have xRa_w3 := xRa_w2.below b_
    clear b_ gw2 lw2 Bw2 xRa_w2
    go_wp2
    go_ret
    exact ⟨rfl, by rw [HR.out]; exact Bw3⟩
  obtain ⟨FL, z1, z2, ⟨c1, c2, c3, c4⟩, ⟨e1, e2, e3, e4⟩⟩ := HZ.out rfl
  have hl : L.length ≤ 1000000 := by have := FL.1; omega
  clear HZ
  clear LG
  have CI := alwInline_hid L v hl rk rn rt (by omega) false hno
  have dRa0 := xRa_w2.c0
  have dRa1 := xRa_w2.c1
  have dRa2 := xRa_w2.c2
  have dRa3 := xRa_w2.c3
  have dRa4 := xRa_w2.c4
  have dRa5 := xRa_w2.c5
  have dRa6 := xRa_w2.c6
  have dRa7 := xRa_w2.c7
  have dRa8 := xRa_w2.c8
  have dRa9 := xRa_w2.c9
  have dRa10 := xRa_w2.c10
  have dRa11 := xRa_w2.c11
  have dRa12 := xRa_w2.c12
  have dRa13 := xRa_w2.c13
  have dRa14 := xRa_w2.c14
  have dRa15 := xRa_w2.c15
  have dRa16 := xRa_w2.c16
  go_wp2_with fail
  clear dRa0 dRa1 dRa2 dRa3 dRa4 dRa5 dRa6 dRa7 dRa8 dRa9 dRa10 dRa11 dRa12 dRa13 dRa14 dRa15 dRa16
  refine (CI.out _ lw2).mono ?_
  rintro e w3 ⟨rfl, b_⟩
  have gw3 := gw2.below b_
  have lw3 := lw2.below b_
  have Bw3 := Bw2.trans (b_.mono (Nat.le_of_lt xRa_w2.lt))
  have xRa_w3 := xRa_w2.below b_
  clear b_ gw2 lw2 Bw2 xRa_w2
  have dRa0 := xRa_w3.c0
  have dRa1 := xRa_w3.c1
  have dRa2 := xRa_w3.c2
  have dRa3 := xRa_w3.c3
  have dRa4 := xRa_w3.c4
  have dRa5 := xRa_w3.c5
  have dRa6 := xRa_w3.c6
  have dRa7 := xRa_w3.c7
  have dRa8 := xRa_w3.c8
  have dRa9 := xRa_w3.c9
  have dRa10 := xRa_w3.c10
  have dRa11 := xRa_w3.c11
  have dRa12 := xRa_w3.c12
  have dRa13 := xRa_w3.c13
  have dRa14 := xRa_w3.c14
  have dRa15 := xRa_w3.c15
  have dRa16 := xRa_w3.c16
  go_wp2_with fail
  clear dRa0 dRa1 dRa2 dRa3 dRa4 dRa5 dRa6 dRa7 dRa8 dRa9 dRa10 dRa11 dRa12 dRa13 dRa14 dRa15 dRa16
  refine (AR.out _ gw3).mono ?_
  rintro e w4 ⟨rfl, b_⟩
  have gw4 := gw3.below b_
  have lw4 := lw3.below b_
  have Bw4 := Bw3.trans (b_.mono (Nat.le_of_lt xRa_w3.lt))
  have xRa_w4 := xRa_w3.below b_
  clear b_ gw3 lw3 Bw3 xRa_w3
  go_wp2
  go_ret
  exact ⟨rfl, by rw [HR.out]; exact Bw4⟩

set_option maxRecDepth 100000 in
set_option maxHeartbeats 8000000 in
theorem wit_one (L : List Src) (v : Value) (hl0 : L.length ≤ 9223372036854775807) (rt : ByteArray) (o : Bool) (s2 h2 : ByteArray) (p : Int) (pa2 q2 : ByteArray) (mv : Bool) (rn : ByteArray) (pr : Bool) (o3 : Bool) (s3 h3 : ByteArray) (p3 : Int) (pa3 q3 : ByteArray) (hyes : inlineL L 1 rn.data.toList rt.data.toList = true) (w : World) (hw : Low w) (hv : SrcsIn w v L) : Calls Tryz.prog 8 #[v, reqV 1 rt o s2 h2 p pa2 q2 mv rn pr o3 s3 h3 p3 pa3 q3] w fun e w' => e = .returned (.bool true) ∧ Below w.heap.size w w' := by
  have AR := allows_hid
  have LG := large11_hid L v hl0 1 rt o s2 h2 p pa2 q2 mv rn pr o3 s3 h3 p3 pa3 q3
  unfold reqV at *
  go_enter Tryz.func8, Tryz.ntmps8
  go_wp2_with fail
  have xn := RX.made w 1 rt o s2 h2 p pa2 q2 mv rn pr o3 s3 h3 p3 pa3 q3
  have gw1 := hw.made (.cells #[.int .i64 1, .string rt, .bool o, .string s2, .string h2, .int .i64 p, .string pa2, .string q2, .bool mv, .string rn, .bool pr, .bool o3, .string s3, .string h3, .int .i64 p3, .string pa3, .string q3] 27)
  have lw1 := hv.made (.cells #[.int .i64 1, .string rt, .bool o, .string s2, .string h2, .int .i64 p, .string pa2, .string q2, .bool mv, .string rn, .bool pr, .bool o3, .string s3, .string h3, .int .i64 p3, .string pa3, .string q3] 27)
  have Bw1 : Below w.heap.size w (w.alloc (.cells #[.int .i64 1, .string rt, .bool o, .string s2, .string h2, .int .i64 p, .string pa2, .string q2, .bool mv, .string rn, .bool pr, .bool o3, .string s3, .string h3, .int .i64 p3, .string pa3, .string q3] 27)) := ((Below.refl w.heap.size w).alloc (Nat.le_refl _) (.cells #[.int .i64 1, .string rt, .bool o, .string s2, .string h2, .int .i64 p, .string pa2, .string q2, .bool mv, .string rn, .bool pr, .bool o3, .string s3, .string h3, .int .i64 p3, .string pa3, .string q3] 27))
  generalize hR : w.heap.size = Ra at xn Bw1 ⊢
  have HR := Lib.hid hR
  clear hR
  generalize w.alloc (.cells #[.int .i64 1, .string rt, .bool o, .string s2, .string h2, .int .i64 p, .string pa2, .string q2, .bool mv, .string rn, .bool pr, .bool o3, .string s3, .string h3, .int .i64 p3, .string pa3, .string q3] 27) = w1 at xn gw1 lw1 Bw1  ⊢
  have xRa_w1 := xn
  clear xn hw hv
  refine (LG.out _ lw1).mono ?_
  rintro e w2 ⟨b0, rfl, b_, hz⟩
  have gw2 := gw1.below b_
  have lw2 := lw1.below b_
  have Bw2 := Bw1.trans (b_.mono (Nat.le_of_lt xRa_w1.lt))
  have xRa_w2 := xRa_w1.below b_
  clear b_ gw1 lw1 Bw1 xRa_w1
  generalize Value.agg #[.int .i64 1, .string rt, .bool o, .string s2, .string h2, .int .i64 p, .string pa2, .string q2, .bool mv, .string rn, .bool pr, .bool o3, .string s3, .string h3, .int .i64 p3, .string pa3, .string q3] = rq
  have HZ := Lib.hid hz
  clear hz
  cases b0
  case true =>
    have dRa0 := xRa_w2.c0
    have dRa1 := xRa_w2.c1
    have dRa2 := xRa_w2.c2
    have dRa3 := xRa_w2.c3
    have dRa4 := xRa_w2.c4
    have dRa5 := xRa_w2.c5
    have dRa6 := xRa_w2.c6
    have dRa7 := xRa_w2.c7
    have dRa8 := xRa_w2.c8
    have dRa9 := xRa_w2.c9
    have dRa10 := xRa_w2.c10
    have dRa11 := xRa_w2.c11
    have dRa12 := xRa_w2.c12
    have dRa13 := xRa_w2.c13
    have dRa14 := xRa_w2.c14
    have dRa15 := xRa_w2.c15
    have dRa16 := xRa_w2.c16
    go_wp2_with fail
    clear dRa0 dRa1 dRa2 dRa3 dRa4 dRa5 dRa6 dRa7 dRa8 dRa9 dRa10 dRa11 dRa12 dRa13 dRa14 dRa15 dRa16
    refine (AR.out _ gw2).mono ?_
    rintro e w3 ⟨rfl, b_⟩
    have gw3 := gw2.below b_
    have lw3 := lw2.below b_
    have Bw3 := Bw2.trans (b_.mono (Nat.le_of_lt xRa_w2.lt))
    have xRa_w3 := xRa_w2.below b_
    clear b_ gw2 lw2 Bw2 xRa_w2
    go_wp2
    go_ret
    exact ⟨rfl, by rw [HR.out]; exact Bw3⟩
  obtain ⟨FL, z1, z2, ⟨c1, c2, c3, c4⟩, ⟨e1, e2, e3, e4⟩⟩ := HZ.out rfl
  have hl : L.length ≤ 1000000 := by have := FL.1; omega
  clear HZ
  clear LG
  have CI := alwInline_hid L v hl 1 rn rt (by omega) true hyes
  obtain ⟨M, hM⟩ : ∃ M : ByteArray, M.data.toList = markL rt.data.toList := ⟨⟨(markL rt.data.toList).toArray⟩, rfl⟩
  have CO := of1_hid rt M (by omega) hM
  obtain ⟨lo, hlo⟩ : ∃ r, looseL L = r := ⟨_, rfl⟩
  obtain ⟨h10, hh⟩ : ∃ r, textQ L 10 M.data.toList = r := ⟨_, rfl⟩
  have CL := alwLoose_hid L v hl lo hlo
  have CH := lawHas_hid L v hl 10 M ⟨#[]⟩ ⟨#[]⟩ false 0 ⟨#[]⟩ h10 hh
  obtain ⟨b2, g2⟩ : ∃ r, rn.toList.isEmpty = r := ⟨_, rfl⟩
  obtain ⟨n9, hn9⟩ : ∃ r, textQ L 9 rn.data.toList = r := ⟨_, rfl⟩
  have CN := lawHas_hid L v hl 9 rn ⟨#[]⟩ ⟨#[]⟩ false 0 ⟨#[]⟩ n9 hn9
  have HW : Hid ((lo || (!b2 && n9) || h10) = true) := Lib.hid (by
    have := (witness L 1 rn.data.toList rt.data.toList hyes).1
    rw [← hM, hh, hlo, hn9, ← text_none, g2] at this
    simpa using this)
  clear hn9
  unfold srcV at CH CN
  clear hM hlo hh hyes FL z1 z2 c1 c2 c3 c4 e1 e2 e3 e4 hl hl0
  have dRa0 := xRa_w2.c0
  have dRa1 := xRa_w2.c1
  have dRa2 := xRa_w2.c2
  have dRa3 := xRa_w2.c3
  have dRa4 := xRa_w2.c4
  have dRa5 := xRa_w2.c5
  have dRa6 := xRa_w2.c6
  have dRa7 := xRa_w2.c7
  have dRa8 := xRa_w2.c8
  have dRa9 := xRa_w2.c9
  have dRa10 := xRa_w2.c10
  have dRa11 := xRa_w2.c11
  have dRa12 := xRa_w2.c12
  have dRa13 := xRa_w2.c13
  have dRa14 := xRa_w2.c14
  have dRa15 := xRa_w2.c15
  have dRa16 := xRa_w2.c16
  go_wp2_with fail
  clear dRa0 dRa1 dRa2 dRa3 dRa4 dRa5 dRa6 dRa7 dRa8 dRa9 dRa10 dRa11 dRa12 dRa13 dRa14 dRa15 dRa16
  refine (CI.out _ lw2).mono ?_
  rintro e w3 ⟨rfl, b_⟩
  have gw3 := gw2.below b_
  have lw3 := lw2.below b_
  have Bw3 := Bw2.trans (b_.mono (Nat.le_of_lt xRa_w2.lt))
  have xRa_w3 := xRa_w2.below b_
  clear b_ gw2 lw2 Bw2 xRa_w2
  cases b2
  case true =>
    as_aux_lemma =>
      have dRa0 := xRa_w3.c0
      have dRa1 := xRa_w3.c1
      have dRa2 := xRa_w3.c2
      have dRa3 := xRa_w3.c3
      have dRa4 := xRa_w3.c4
      have dRa5 := xRa_w3.c5
      have dRa6 := xRa_w3.c6
      have dRa7 := xRa_w3.c7
      have dRa8 := xRa_w3.c8
      have dRa9 := xRa_w3.c9
      have dRa10 := xRa_w3.c10
      have dRa11 := xRa_w3.c11
      have dRa12 := xRa_w3.c12
      have dRa13 := xRa_w3.c13
      have dRa14 := xRa_w3.c14
      have dRa15 := xRa_w3.c15
      have dRa16 := xRa_w3.c16
      go_wp2_with fail
      clear dRa0 dRa1 dRa2 dRa3 dRa4 dRa5 dRa6 dRa7 dRa8 dRa9 dRa10 dRa11 dRa12 dRa13 dRa14 dRa15 dRa16
      refine (CO.out _ ).mono ?_
      rintro e w4 ⟨rfl, b_⟩
      have gw4 := gw3.below b_
      have lw4 := lw3.below b_
      have Bw4 := Bw3.trans (b_.mono (Nat.le_of_lt xRa_w3.lt))
      have xRa_w4 := xRa_w3.below b_
      clear b_ gw3 lw3 Bw3 xRa_w3
      have dRa0 := xRa_w4.c0
      have dRa1 := xRa_w4.c1
      have dRa2 := xRa_w4.c2
      have dRa3 := xRa_w4.c3
      have dRa4 := xRa_w4.c4
      have dRa5 := xRa_w4.c5
      have dRa6 := xRa_w4.c6
      have dRa7 := xRa_w4.c7
      have dRa8 := xRa_w4.c8
      have dRa9 := xRa_w4.c9
      have dRa10 := xRa_w4.c10
      have dRa11 := xRa_w4.c11
      have dRa12 := xRa_w4.c12
      have dRa13 := xRa_w4.c13
      have dRa14 := xRa_w4.c14
      have dRa15 := xRa_w4.c15
      have dRa16 := xRa_w4.c16
      go_wp2_with fail
      clear dRa0 dRa1 dRa2 dRa3 dRa4 dRa5 dRa6 dRa7 dRa8 dRa9 dRa10 dRa11 dRa12 dRa13 dRa14 dRa15 dRa16
      refine (CH.out _ lw4).mono ?_
      rintro e w5 ⟨rfl, b_⟩
      have gw5 := gw4.below b_
      have lw5 := lw4.below b_
      have Bw5 := Bw4.trans (b_.mono (Nat.le_of_lt xRa_w4.lt))
      have xRa_w5 := xRa_w4.below b_
      clear b_ gw4 lw4 Bw4 xRa_w4
      have dRa0 := xRa_w5.c0
      have dRa1 := xRa_w5.c1
      have dRa2 := xRa_w5.c2
      have dRa3 := xRa_w5.c3
      have dRa4 := xRa_w5.c4
      have dRa5 := xRa_w5.c5
      have dRa6 := xRa_w5.c6
      have dRa7 := xRa_w5.c7
      have dRa8 := xRa_w5.c8
      have dRa9 := xRa_w5.c9
      have dRa10 := xRa_w5.c10
      have dRa11 := xRa_w5.c11
      have dRa12 := xRa_w5.c12
      have dRa13 := xRa_w5.c13
      have dRa14 := xRa_w5.c14
      have dRa15 := xRa_w5.c15
      have dRa16 := xRa_w5.c16
      go_wp2_with fail
      clear dRa0 dRa1 dRa2 dRa3 dRa4 dRa5 dRa6 dRa7 dRa8 dRa9 dRa10 dRa11 dRa12 dRa13 dRa14 dRa15 dRa16
      refine (AR.out _ gw5).mono ?_
      rintro e w6 ⟨rfl, b_⟩
      have gw6 := gw5.below b_
      have lw6 := lw5.below b_
      have Bw6 := Bw5.trans (b_.mono (Nat.le_of_lt xRa_w5.lt))
      have xRa_w6 := xRa_w5.below b_
      clear b_ gw5 lw5 Bw5 xRa_w5
      have dRa0 := xRa_w6.c0
      have dRa1 := xRa_w6.c1
      have dRa2 := xRa_w6.c2
      have dRa3 := xRa_w6.c3
      have dRa4 := xRa_w6.c4
      have dRa5 := xRa_w6.c5
      have dRa6 := xRa_w6.c6
      have dRa7 := xRa_w6.c7
      have dRa8 := xRa_w6.c8
      have dRa9 := xRa_w6.c9
      have dRa10 := xRa_w6.c10
      have dRa11 := xRa_w6.c11
      have dRa12 := xRa_w6.c12
      have dRa13 := xRa_w6.c13
      have dRa14 := xRa_w6.c14
      have dRa15 := xRa_w6.c15
      have dRa16 := xRa_w6.c16
      go_wp2_with fail
      clear dRa0 dRa1 dRa2 dRa3 dRa4 dRa5 dRa6 dRa7 dRa8 dRa9 dRa10 dRa11 dRa12 dRa13 dRa14 dRa15 dRa16
      refine (CL.out _ lw6).mono ?_
      rintro e w7 ⟨rfl, b_⟩
      have gw7 := gw6.below b_
      have lw7 := lw6.below b_
      have Bw7 := Bw6.trans (b_.mono (Nat.le_of_lt xRa_w6.lt))
      have xRa_w7 := xRa_w6.below b_
      clear b_ gw6 lw6 Bw6 xRa_w6
      have dRa0 := xRa_w7.c0
      have dRa1 := xRa_w7.c1
      have dRa2 := xRa_w7.c2
      have dRa3 := xRa_w7.c3
      have dRa4 := xRa_w7.c4
      have dRa5 := xRa_w7.c5
      have dRa6 := xRa_w7.c6
      have dRa7 := xRa_w7.c7
      have dRa8 := xRa_w7.c8
      have dRa9 := xRa_w7.c9
      have dRa10 := xRa_w7.c10
      have dRa11 := xRa_w7.c11
      have dRa12 := xRa_w7.c12
      have dRa13 := xRa_w7.c13
      have dRa14 := xRa_w7.c14
      have dRa15 := xRa_w7.c15
      have dRa16 := xRa_w7.c16
      cases lo <;> cases h10
      all_goals
        first
        | (have hx := HW.out; simp at hx; done)
        | skip
      all_goals
        as_aux_lemma =>
          go_wp2
          go_ret
          exact ⟨rfl, by rw [HR.out]; exact Bw7⟩
  have dRa0 := xRa_w3.c0
  have dRa1 := xRa_w3.c1
  have dRa2 := xRa_w3.c2
  have dRa3 := xRa_w3.c3
  have dRa4 := xRa_w3.c4
  have dRa5 := xRa_w3.c5
  have dRa6 := xRa_w3.c6
  have dRa7 := xRa_w3.c7
  have dRa8 := xRa_w3.c8
  have dRa9 := xRa_w3.c9
  have dRa10 := xRa_w3.c10
  have dRa11 := xRa_w3.c11
  have dRa12 := xRa_w3.c12
  have dRa13 := xRa_w3.c13
  have dRa14 := xRa_w3.c14
  have dRa15 := xRa_w3.c15
  have dRa16 := xRa_w3.c16
  go_wp2_with fail
  clear dRa0 dRa1 dRa2 dRa3 dRa4 dRa5 dRa6 dRa7 dRa8 dRa9 dRa10 dRa11 dRa12 dRa13 dRa14 dRa15 dRa16
  refine (CN.out _ lw3).mono ?_
  rintro e w4 ⟨rfl, b_⟩
  have gw4 := gw3.below b_
  have lw4 := lw3.below b_
  have Bw4 := Bw3.trans (b_.mono (Nat.le_of_lt xRa_w3.lt))
  have xRa_w4 := xRa_w3.below b_
  clear b_ gw3 lw3 Bw3 xRa_w3
  cases n9
  case false =>
    as_aux_lemma =>
      have dRa0 := xRa_w4.c0
      have dRa1 := xRa_w4.c1
      have dRa2 := xRa_w4.c2
      have dRa3 := xRa_w4.c3
      have dRa4 := xRa_w4.c4
      have dRa5 := xRa_w4.c5
      have dRa6 := xRa_w4.c6
      have dRa7 := xRa_w4.c7
      have dRa8 := xRa_w4.c8
      have dRa9 := xRa_w4.c9
      have dRa10 := xRa_w4.c10
      have dRa11 := xRa_w4.c11
      have dRa12 := xRa_w4.c12
      have dRa13 := xRa_w4.c13
      have dRa14 := xRa_w4.c14
      have dRa15 := xRa_w4.c15
      have dRa16 := xRa_w4.c16
      go_wp2_with fail
      clear dRa0 dRa1 dRa2 dRa3 dRa4 dRa5 dRa6 dRa7 dRa8 dRa9 dRa10 dRa11 dRa12 dRa13 dRa14 dRa15 dRa16
      refine (CO.out _ ).mono ?_
      rintro e w5 ⟨rfl, b_⟩
      have gw5 := gw4.below b_
      have lw5 := lw4.below b_
      have Bw5 := Bw4.trans (b_.mono (Nat.le_of_lt xRa_w4.lt))
      have xRa_w5 := xRa_w4.below b_
      clear b_ gw4 lw4 Bw4 xRa_w4
      have dRa0 := xRa_w5.c0
      have dRa1 := xRa_w5.c1
      have dRa2 := xRa_w5.c2
      have dRa3 := xRa_w5.c3
      have dRa4 := xRa_w5.c4
      have dRa5 := xRa_w5.c5
      have dRa6 := xRa_w5.c6
      have dRa7 := xRa_w5.c7
      have dRa8 := xRa_w5.c8
      have dRa9 := xRa_w5.c9
      have dRa10 := xRa_w5.c10
      have dRa11 := xRa_w5.c11
      have dRa12 := xRa_w5.c12
      have dRa13 := xRa_w5.c13
      have dRa14 := xRa_w5.c14
      have dRa15 := xRa_w5.c15
      have dRa16 := xRa_w5.c16
      go_wp2_with fail
      clear dRa0 dRa1 dRa2 dRa3 dRa4 dRa5 dRa6 dRa7 dRa8 dRa9 dRa10 dRa11 dRa12 dRa13 dRa14 dRa15 dRa16
      refine (CH.out _ lw5).mono ?_
      rintro e w6 ⟨rfl, b_⟩
      have gw6 := gw5.below b_
      have lw6 := lw5.below b_
      have Bw6 := Bw5.trans (b_.mono (Nat.le_of_lt xRa_w5.lt))
      have xRa_w6 := xRa_w5.below b_
      clear b_ gw5 lw5 Bw5 xRa_w5
      have dRa0 := xRa_w6.c0
      have dRa1 := xRa_w6.c1
      have dRa2 := xRa_w6.c2
      have dRa3 := xRa_w6.c3
      have dRa4 := xRa_w6.c4
      have dRa5 := xRa_w6.c5
      have dRa6 := xRa_w6.c6
      have dRa7 := xRa_w6.c7
      have dRa8 := xRa_w6.c8
      have dRa9 := xRa_w6.c9
      have dRa10 := xRa_w6.c10
      have dRa11 := xRa_w6.c11
      have dRa12 := xRa_w6.c12
      have dRa13 := xRa_w6.c13
      have dRa14 := xRa_w6.c14
      have dRa15 := xRa_w6.c15
      have dRa16 := xRa_w6.c16
      go_wp2_with fail
      clear dRa0 dRa1 dRa2 dRa3 dRa4 dRa5 dRa6 dRa7 dRa8 dRa9 dRa10 dRa11 dRa12 dRa13 dRa14 dRa15 dRa16
      refine (AR.out _ gw6).mono ?_
      rintro e w7 ⟨rfl, b_⟩
      have gw7 := gw6.below b_
      have lw7 := lw6.below b_
      have Bw7 := Bw6.trans (b_.mono (Nat.le_of_lt xRa_w6.lt))
      have xRa_w7 := xRa_w6.below b_
      clear b_ gw6 lw6 Bw6 xRa_w6
      have dRa0 := xRa_w7.c0
      have dRa1 := xRa_w7.c1
      have dRa2 := xRa_w7.c2
      have dRa3 := xRa_w7.c3
      have dRa4 := xRa_w7.c4
      have dRa5 := xRa_w7.c5
      have dRa6 := xRa_w7.c6
      have dRa7 := xRa_w7.c7
      have dRa8 := xRa_w7.c8
      have dRa9 := xRa_w7.c9
      have dRa10 := xRa_w7.c10
      have dRa11 := xRa_w7.c11
      have dRa12 := xRa_w7.c12
      have dRa13 := xRa_w7.c13
      have dRa14 := xRa_w7.c14
      have dRa15 := xRa_w7.c15
      have dRa16 := xRa_w7.c16
      go_wp2_with fail
      clear dRa0 dRa1 dRa2 dRa3 dRa4 dRa5 dRa6 dRa7 dRa8 dRa9 dRa10 dRa11 dRa12 dRa13 dRa14 dRa15 dRa16
      refine (CL.out _ lw7).mono ?_
      rintro e w8 ⟨rfl, b_⟩
      have gw8 := gw7.below b_
      have lw8 := lw7.below b_
      have Bw8 := Bw7.trans (b_.mono (Nat.le_of_lt xRa_w7.lt))
      have xRa_w8 := xRa_w7.below b_
      clear b_ gw7 lw7 Bw7 xRa_w7
      have dRa0 := xRa_w8.c0
      have dRa1 := xRa_w8.c1
      have dRa2 := xRa_w8.c2
      have dRa3 := xRa_w8.c3
      have dRa4 := xRa_w8.c4
      have dRa5 := xRa_w8.c5
      have dRa6 := xRa_w8.c6
      have dRa7 := xRa_w8.c7
      have dRa8 := xRa_w8.c8
      have dRa9 := xRa_w8.c9
      have dRa10 := xRa_w8.c10
      have dRa11 := xRa_w8.c11
      have dRa12 := xRa_w8.c12
      have dRa13 := xRa_w8.c13
      have dRa14 := xRa_w8.c14
      have dRa15 := xRa_w8.c15
      have dRa16 := xRa_w8.c16
      cases lo <;> cases h10
      all_goals
        first
        | (have hx := HW.out; simp at hx; done)
        | skip
      all_goals
        as_aux_lemma =>
          go_wp2
          go_ret
          exact ⟨rfl, by rw [HR.out]; exact Bw8⟩
  have dRa0 := xRa_w4.c0
  have dRa1 := xRa_w4.c1
  have dRa2 := xRa_w4.c2
  have dRa3 := xRa_w4.c3
  have dRa4 := xRa_w4.c4
  have dRa5 := xRa_w4.c5
  have dRa6 := xRa_w4.c6
  have dRa7 := xRa_w4.c7
  have dRa8 := xRa_w4.c8
  have dRa9 := xRa_w4.c9
  have dRa10 := xRa_w4.c10
  have dRa11 := xRa_w4.c11
  have dRa12 := xRa_w4.c12
  have dRa13 := xRa_w4.c13
  have dRa14 := xRa_w4.c14
  have dRa15 := xRa_w4.c15
  have dRa16 := xRa_w4.c16
  go_wp2_with fail
  clear dRa0 dRa1 dRa2 dRa3 dRa4 dRa5 dRa6 dRa7 dRa8 dRa9 dRa10 dRa11 dRa12 dRa13 dRa14 dRa15 dRa16
  refine (CO.out _ ).mono ?_
  rintro e w5 ⟨rfl, b_⟩
  have gw5 := gw4.below b_
  have lw5 := lw4.below b_
  have Bw5 := Bw4.trans (b_.mono (Nat.le_of_lt xRa_w4.lt))
  have xRa_w5 := xRa_w4.below b_
  clear b_ gw4 lw4 Bw4 xRa_w4
  have dRa0 := xRa_w5.c0
  have dRa1 := xRa_w5.c1
  have dRa2 := xRa_w5.c2
  have dRa3 := xRa_w5.c3
  have dRa4 := xRa_w5.c4
  have dRa5 := xRa_w5.c5
  have dRa6 := xRa_w5.c6
  have dRa7 := xRa_w5.c7
  have dRa8 := xRa_w5.c8
  have dRa9 := xRa_w5.c9
  have dRa10 := xRa_w5.c10
  have dRa11 := xRa_w5.c11
  have dRa12 := xRa_w5.c12
  have dRa13 := xRa_w5.c13
  have dRa14 := xRa_w5.c14
  have dRa15 := xRa_w5.c15
  have dRa16 := xRa_w5.c16
  go_wp2_with fail
  clear dRa0 dRa1 dRa2 dRa3 dRa4 dRa5 dRa6 dRa7 dRa8 dRa9 dRa10 dRa11 dRa12 dRa13 dRa14 dRa15 dRa16
  refine (CH.out _ lw5).mono ?_
  rintro e w6 ⟨rfl, b_⟩
  have gw6 := gw5.below b_
  have lw6 := lw5.below b_
  have Bw6 := Bw5.trans (b_.mono (Nat.le_of_lt xRa_w5.lt))
  have xRa_w6 := xRa_w5.below b_
  clear b_ gw5 lw5 Bw5 xRa_w5
  have dRa0 := xRa_w6.c0
  have dRa1 := xRa_w6.c1
  have dRa2 := xRa_w6.c2
  have dRa3 := xRa_w6.c3
  have dRa4 := xRa_w6.c4
  have dRa5 := xRa_w6.c5
  have dRa6 := xRa_w6.c6
  have dRa7 := xRa_w6.c7
  have dRa8 := xRa_w6.c8
  have dRa9 := xRa_w6.c9
  have dRa10 := xRa_w6.c10
  have dRa11 := xRa_w6.c11
  have dRa12 := xRa_w6.c12
  have dRa13 := xRa_w6.c13
  have dRa14 := xRa_w6.c14
  have dRa15 := xRa_w6.c15
  have dRa16 := xRa_w6.c16
  go_wp2_with fail
  clear dRa0 dRa1 dRa2 dRa3 dRa4 dRa5 dRa6 dRa7 dRa8 dRa9 dRa10 dRa11 dRa12 dRa13 dRa14 dRa15 dRa16
  refine (AR.out _ gw6).mono ?_
  rintro e w7 ⟨rfl, b_⟩
  have gw7 := gw6.below b_
  have lw7 := lw6.below b_
  have Bw7 := Bw6.trans (b_.mono (Nat.le_of_lt xRa_w6.lt))
  have xRa_w7 := xRa_w6.below b_
  clear b_ gw6 lw6 Bw6 xRa_w6
  have dRa0 := xRa_w7.c0
  have dRa1 := xRa_w7.c1
  have dRa2 := xRa_w7.c2
  have dRa3 := xRa_w7.c3
  have dRa4 := xRa_w7.c4
  have dRa5 := xRa_w7.c5
  have dRa6 := xRa_w7.c6
  have dRa7 := xRa_w7.c7
  have dRa8 := xRa_w7.c8
  have dRa9 := xRa_w7.c9
  have dRa10 := xRa_w7.c10
  have dRa11 := xRa_w7.c11
  have dRa12 := xRa_w7.c12
  have dRa13 := xRa_w7.c13
  have dRa14 := xRa_w7.c14
  have dRa15 := xRa_w7.c15
  have dRa16 := xRa_w7.c16
  go_wp2_with fail
  clear dRa0 dRa1 dRa2 dRa3 dRa4 dRa5 dRa6 dRa7 dRa8 dRa9 dRa10 dRa11 dRa12 dRa13 dRa14 dRa15 dRa16
  refine (CL.out _ lw7).mono ?_
  rintro e w8 ⟨rfl, b_⟩
  have gw8 := gw7.below b_
  have lw8 := lw7.below b_
  have Bw8 := Bw7.trans (b_.mono (Nat.le_of_lt xRa_w7.lt))
  have xRa_w8 := xRa_w7.below b_
  clear b_ gw7 lw7 Bw7 xRa_w7
  have dRa0 := xRa_w8.c0
  have dRa1 := xRa_w8.c1
  have dRa2 := xRa_w8.c2
  have dRa3 := xRa_w8.c3
  have dRa4 := xRa_w8.c4
  have dRa5 := xRa_w8.c5
  have dRa6 := xRa_w8.c6
  have dRa7 := xRa_w8.c7
  have dRa8 := xRa_w8.c8
  have dRa9 := xRa_w8.c9
  have dRa10 := xRa_w8.c10
  have dRa11 := xRa_w8.c11
  have dRa12 := xRa_w8.c12
  have dRa13 := xRa_w8.c13
  have dRa14 := xRa_w8.c14
  have dRa15 := xRa_w8.c15
  have dRa16 := xRa_w8.c16
  cases lo <;> cases h10
  all_goals
    as_aux_lemma =>
      go_wp2
      go_ret
      exact ⟨rfl, by rw [HR.out]; exact Bw8⟩

set_option maxRecDepth 100000 in
set_option maxHeartbeats 8000000 in
theorem wit_thr (L : List Src) (v : Value) (hl0 : L.length ≤ 9223372036854775807) (rt : ByteArray) (o : Bool) (s2 h2 : ByteArray) (p : Int) (pa2 q2 : ByteArray) (mv : Bool) (rn : ByteArray) (pr : Bool) (o3 : Bool) (s3 h3 : ByteArray) (p3 : Int) (pa3 q3 : ByteArray) (hyes : inlineL L 3 rn.data.toList rt.data.toList = true) (w : World) (hw : Low w) (hv : SrcsIn w v L) : Calls Tryz.prog 8 #[v, reqV 3 rt o s2 h2 p pa2 q2 mv rn pr o3 s3 h3 p3 pa3 q3] w fun e w' => e = .returned (.bool true) ∧ Below w.heap.size w w' := by
  have AR := allows_hid
  have LG := large11_hid L v hl0 3 rt o s2 h2 p pa2 q2 mv rn pr o3 s3 h3 p3 pa3 q3
  unfold reqV at *
  go_enter Tryz.func8, Tryz.ntmps8
  go_wp2_with fail
  have xn := RX.made w 3 rt o s2 h2 p pa2 q2 mv rn pr o3 s3 h3 p3 pa3 q3
  have gw1 := hw.made (.cells #[.int .i64 3, .string rt, .bool o, .string s2, .string h2, .int .i64 p, .string pa2, .string q2, .bool mv, .string rn, .bool pr, .bool o3, .string s3, .string h3, .int .i64 p3, .string pa3, .string q3] 27)
  have lw1 := hv.made (.cells #[.int .i64 3, .string rt, .bool o, .string s2, .string h2, .int .i64 p, .string pa2, .string q2, .bool mv, .string rn, .bool pr, .bool o3, .string s3, .string h3, .int .i64 p3, .string pa3, .string q3] 27)
  have Bw1 : Below w.heap.size w (w.alloc (.cells #[.int .i64 3, .string rt, .bool o, .string s2, .string h2, .int .i64 p, .string pa2, .string q2, .bool mv, .string rn, .bool pr, .bool o3, .string s3, .string h3, .int .i64 p3, .string pa3, .string q3] 27)) := ((Below.refl w.heap.size w).alloc (Nat.le_refl _) (.cells #[.int .i64 3, .string rt, .bool o, .string s2, .string h2, .int .i64 p, .string pa2, .string q2, .bool mv, .string rn, .bool pr, .bool o3, .string s3, .string h3, .int .i64 p3, .string pa3, .string q3] 27))
  generalize hR : w.heap.size = Ra at xn Bw1 ⊢
  have HR := Lib.hid hR
  clear hR
  generalize w.alloc (.cells #[.int .i64 3, .string rt, .bool o, .string s2, .string h2, .int .i64 p, .string pa2, .string q2, .bool mv, .string rn, .bool pr, .bool o3, .string s3, .string h3, .int .i64 p3, .string pa3, .string q3] 27) = w1 at xn gw1 lw1 Bw1  ⊢
  have xRa_w1 := xn
  clear xn hw hv
  refine (LG.out _ lw1).mono ?_
  rintro e w2 ⟨b0, rfl, b_, hz⟩
  have gw2 := gw1.below b_
  have lw2 := lw1.below b_
  have Bw2 := Bw1.trans (b_.mono (Nat.le_of_lt xRa_w1.lt))
  have xRa_w2 := xRa_w1.below b_
  clear b_ gw1 lw1 Bw1 xRa_w1
  generalize Value.agg #[.int .i64 3, .string rt, .bool o, .string s2, .string h2, .int .i64 p, .string pa2, .string q2, .bool mv, .string rn, .bool pr, .bool o3, .string s3, .string h3, .int .i64 p3, .string pa3, .string q3] = rq
  have HZ := Lib.hid hz
  clear hz
  cases b0
  case true =>
    have dRa0 := xRa_w2.c0
    have dRa1 := xRa_w2.c1
    have dRa2 := xRa_w2.c2
    have dRa3 := xRa_w2.c3
    have dRa4 := xRa_w2.c4
    have dRa5 := xRa_w2.c5
    have dRa6 := xRa_w2.c6
    have dRa7 := xRa_w2.c7
    have dRa8 := xRa_w2.c8
    have dRa9 := xRa_w2.c9
    have dRa10 := xRa_w2.c10
    have dRa11 := xRa_w2.c11
    have dRa12 := xRa_w2.c12
    have dRa13 := xRa_w2.c13
    have dRa14 := xRa_w2.c14
    have dRa15 := xRa_w2.c15
    have dRa16 := xRa_w2.c16
    go_wp2_with fail
    clear dRa0 dRa1 dRa2 dRa3 dRa4 dRa5 dRa6 dRa7 dRa8 dRa9 dRa10 dRa11 dRa12 dRa13 dRa14 dRa15 dRa16
    refine (AR.out _ gw2).mono ?_
    rintro e w3 ⟨rfl, b_⟩
    have gw3 := gw2.below b_
    have lw3 := lw2.below b_
    have Bw3 := Bw2.trans (b_.mono (Nat.le_of_lt xRa_w2.lt))
    have xRa_w3 := xRa_w2.below b_
    clear b_ gw2 lw2 Bw2 xRa_w2
    go_wp2
    go_ret
    exact ⟨rfl, by rw [HR.out]; exact Bw3⟩
  obtain ⟨FL, z1, z2, ⟨c1, c2, c3, c4⟩, ⟨e1, e2, e3, e4⟩⟩ := HZ.out rfl
  have hl : L.length ≤ 1000000 := by have := FL.1; omega
  clear HZ
  clear LG
  have CI := alwInline_hid L v hl 3 rn rt (by omega) true hyes
  obtain ⟨M, hM⟩ : ∃ M : ByteArray, M.data.toList = markL rt.data.toList := ⟨⟨(markL rt.data.toList).toArray⟩, rfl⟩
  have CO := of1_hid rt M (by omega) hM
  obtain ⟨lo, hlo⟩ : ∃ r, looseL L = r := ⟨_, rfl⟩
  obtain ⟨h10, hh⟩ : ∃ r, textQ L 10 M.data.toList = r := ⟨_, rfl⟩
  have CL := alwLoose_hid L v hl lo hlo
  have CH := lawHas_hid L v hl 10 M ⟨#[]⟩ ⟨#[]⟩ false 0 ⟨#[]⟩ h10 hh
  have HW : Hid ((lo || h10) = true) := Lib.hid (by
    have := (witness L 3 rn.data.toList rt.data.toList hyes).1
    rw [← hM, hh, hlo] at this
    simpa using this)
  unfold srcV at CH
  clear hM hlo hh hyes FL z1 z2 c1 c2 c3 c4 e1 e2 e3 e4 hl hl0
  have dRa0 := xRa_w2.c0
  have dRa1 := xRa_w2.c1
  have dRa2 := xRa_w2.c2
  have dRa3 := xRa_w2.c3
  have dRa4 := xRa_w2.c4
  have dRa5 := xRa_w2.c5
  have dRa6 := xRa_w2.c6
  have dRa7 := xRa_w2.c7
  have dRa8 := xRa_w2.c8
  have dRa9 := xRa_w2.c9
  have dRa10 := xRa_w2.c10
  have dRa11 := xRa_w2.c11
  have dRa12 := xRa_w2.c12
  have dRa13 := xRa_w2.c13
  have dRa14 := xRa_w2.c14
  have dRa15 := xRa_w2.c15
  have dRa16 := xRa_w2.c16
  go_wp2_with fail
  clear dRa0 dRa1 dRa2 dRa3 dRa4 dRa5 dRa6 dRa7 dRa8 dRa9 dRa10 dRa11 dRa12 dRa13 dRa14 dRa15 dRa16
  refine (CI.out _ lw2).mono ?_
  rintro e w3 ⟨rfl, b_⟩
  have gw3 := gw2.below b_
  have lw3 := lw2.below b_
  have Bw3 := Bw2.trans (b_.mono (Nat.le_of_lt xRa_w2.lt))
  have xRa_w3 := xRa_w2.below b_
  clear b_ gw2 lw2 Bw2 xRa_w2
  have dRa0 := xRa_w3.c0
  have dRa1 := xRa_w3.c1
  have dRa2 := xRa_w3.c2
  have dRa3 := xRa_w3.c3
  have dRa4 := xRa_w3.c4
  have dRa5 := xRa_w3.c5
  have dRa6 := xRa_w3.c6
  have dRa7 := xRa_w3.c7
  have dRa8 := xRa_w3.c8
  have dRa9 := xRa_w3.c9
  have dRa10 := xRa_w3.c10
  have dRa11 := xRa_w3.c11
  have dRa12 := xRa_w3.c12
  have dRa13 := xRa_w3.c13
  have dRa14 := xRa_w3.c14
  have dRa15 := xRa_w3.c15
  have dRa16 := xRa_w3.c16
  go_wp2_with fail
  clear dRa0 dRa1 dRa2 dRa3 dRa4 dRa5 dRa6 dRa7 dRa8 dRa9 dRa10 dRa11 dRa12 dRa13 dRa14 dRa15 dRa16
  refine (CO.out _ ).mono ?_
  rintro e w4 ⟨rfl, b_⟩
  have gw4 := gw3.below b_
  have lw4 := lw3.below b_
  have Bw4 := Bw3.trans (b_.mono (Nat.le_of_lt xRa_w3.lt))
  have xRa_w4 := xRa_w3.below b_
  clear b_ gw3 lw3 Bw3 xRa_w3
  have dRa0 := xRa_w4.c0
  have dRa1 := xRa_w4.c1
  have dRa2 := xRa_w4.c2
  have dRa3 := xRa_w4.c3
  have dRa4 := xRa_w4.c4
  have dRa5 := xRa_w4.c5
  have dRa6 := xRa_w4.c6
  have dRa7 := xRa_w4.c7
  have dRa8 := xRa_w4.c8
  have dRa9 := xRa_w4.c9
  have dRa10 := xRa_w4.c10
  have dRa11 := xRa_w4.c11
  have dRa12 := xRa_w4.c12
  have dRa13 := xRa_w4.c13
  have dRa14 := xRa_w4.c14
  have dRa15 := xRa_w4.c15
  have dRa16 := xRa_w4.c16
  go_wp2_with fail
  clear dRa0 dRa1 dRa2 dRa3 dRa4 dRa5 dRa6 dRa7 dRa8 dRa9 dRa10 dRa11 dRa12 dRa13 dRa14 dRa15 dRa16
  refine (CH.out _ lw4).mono ?_
  rintro e w5 ⟨rfl, b_⟩
  have gw5 := gw4.below b_
  have lw5 := lw4.below b_
  have Bw5 := Bw4.trans (b_.mono (Nat.le_of_lt xRa_w4.lt))
  have xRa_w5 := xRa_w4.below b_
  clear b_ gw4 lw4 Bw4 xRa_w4
  have dRa0 := xRa_w5.c0
  have dRa1 := xRa_w5.c1
  have dRa2 := xRa_w5.c2
  have dRa3 := xRa_w5.c3
  have dRa4 := xRa_w5.c4
  have dRa5 := xRa_w5.c5
  have dRa6 := xRa_w5.c6
  have dRa7 := xRa_w5.c7
  have dRa8 := xRa_w5.c8
  have dRa9 := xRa_w5.c9
  have dRa10 := xRa_w5.c10
  have dRa11 := xRa_w5.c11
  have dRa12 := xRa_w5.c12
  have dRa13 := xRa_w5.c13
  have dRa14 := xRa_w5.c14
  have dRa15 := xRa_w5.c15
  have dRa16 := xRa_w5.c16
  go_wp2_with fail
  clear dRa0 dRa1 dRa2 dRa3 dRa4 dRa5 dRa6 dRa7 dRa8 dRa9 dRa10 dRa11 dRa12 dRa13 dRa14 dRa15 dRa16
  refine (AR.out _ gw5).mono ?_
  rintro e w6 ⟨rfl, b_⟩
  have gw6 := gw5.below b_
  have lw6 := lw5.below b_
  have Bw6 := Bw5.trans (b_.mono (Nat.le_of_lt xRa_w5.lt))
  have xRa_w6 := xRa_w5.below b_
  clear b_ gw5 lw5 Bw5 xRa_w5
  have dRa0 := xRa_w6.c0
  have dRa1 := xRa_w6.c1
  have dRa2 := xRa_w6.c2
  have dRa3 := xRa_w6.c3
  have dRa4 := xRa_w6.c4
  have dRa5 := xRa_w6.c5
  have dRa6 := xRa_w6.c6
  have dRa7 := xRa_w6.c7
  have dRa8 := xRa_w6.c8
  have dRa9 := xRa_w6.c9
  have dRa10 := xRa_w6.c10
  have dRa11 := xRa_w6.c11
  have dRa12 := xRa_w6.c12
  have dRa13 := xRa_w6.c13
  have dRa14 := xRa_w6.c14
  have dRa15 := xRa_w6.c15
  have dRa16 := xRa_w6.c16
  go_wp2_with fail
  clear dRa0 dRa1 dRa2 dRa3 dRa4 dRa5 dRa6 dRa7 dRa8 dRa9 dRa10 dRa11 dRa12 dRa13 dRa14 dRa15 dRa16
  refine (CL.out _ lw6).mono ?_
  rintro e w7 ⟨rfl, b_⟩
  have gw7 := gw6.below b_
  have lw7 := lw6.below b_
  have Bw7 := Bw6.trans (b_.mono (Nat.le_of_lt xRa_w6.lt))
  have xRa_w7 := xRa_w6.below b_
  clear b_ gw6 lw6 Bw6 xRa_w6
  have dRa0 := xRa_w7.c0
  have dRa1 := xRa_w7.c1
  have dRa2 := xRa_w7.c2
  have dRa3 := xRa_w7.c3
  have dRa4 := xRa_w7.c4
  have dRa5 := xRa_w7.c5
  have dRa6 := xRa_w7.c6
  have dRa7 := xRa_w7.c7
  have dRa8 := xRa_w7.c8
  have dRa9 := xRa_w7.c9
  have dRa10 := xRa_w7.c10
  have dRa11 := xRa_w7.c11
  have dRa12 := xRa_w7.c12
  have dRa13 := xRa_w7.c13
  have dRa14 := xRa_w7.c14
  have dRa15 := xRa_w7.c15
  have dRa16 := xRa_w7.c16
  cases lo <;> cases h10
  all_goals
    first
    | (have hx := HW.out; simp at hx; done)
    | skip
  all_goals
    as_aux_lemma =>
      go_wp2
      go_ret
      exact ⟨rfl, by rw [HR.out]; exact Bw7⟩

set_option maxRecDepth 100000 in
set_option maxHeartbeats 8000000 in
theorem wit_fou (L : List Src) (v : Value) (hl0 : L.length ≤ 9223372036854775807) (rt : ByteArray) (o : Bool) (s2 h2 : ByteArray) (p : Int) (pa2 q2 : ByteArray) (mv : Bool) (rn : ByteArray) (pr : Bool) (o3 : Bool) (s3 h3 : ByteArray) (p3 : Int) (pa3 q3 : ByteArray) (hyes : inlineL L 4 rn.data.toList rt.data.toList = true) (w : World) (hw : Low w) (hv : SrcsIn w v L) : Calls Tryz.prog 8 #[v, reqV 4 rt o s2 h2 p pa2 q2 mv rn pr o3 s3 h3 p3 pa3 q3] w fun e w' => e = .returned (.bool true) ∧ Below w.heap.size w w' := by
  have AR := allows_hid
  have LG := large11_hid L v hl0 4 rt o s2 h2 p pa2 q2 mv rn pr o3 s3 h3 p3 pa3 q3
  unfold reqV at *
  go_enter Tryz.func8, Tryz.ntmps8
  go_wp2_with fail
  have xn := RX.made w 4 rt o s2 h2 p pa2 q2 mv rn pr o3 s3 h3 p3 pa3 q3
  have gw1 := hw.made (.cells #[.int .i64 4, .string rt, .bool o, .string s2, .string h2, .int .i64 p, .string pa2, .string q2, .bool mv, .string rn, .bool pr, .bool o3, .string s3, .string h3, .int .i64 p3, .string pa3, .string q3] 27)
  have lw1 := hv.made (.cells #[.int .i64 4, .string rt, .bool o, .string s2, .string h2, .int .i64 p, .string pa2, .string q2, .bool mv, .string rn, .bool pr, .bool o3, .string s3, .string h3, .int .i64 p3, .string pa3, .string q3] 27)
  have Bw1 : Below w.heap.size w (w.alloc (.cells #[.int .i64 4, .string rt, .bool o, .string s2, .string h2, .int .i64 p, .string pa2, .string q2, .bool mv, .string rn, .bool pr, .bool o3, .string s3, .string h3, .int .i64 p3, .string pa3, .string q3] 27)) := ((Below.refl w.heap.size w).alloc (Nat.le_refl _) (.cells #[.int .i64 4, .string rt, .bool o, .string s2, .string h2, .int .i64 p, .string pa2, .string q2, .bool mv, .string rn, .bool pr, .bool o3, .string s3, .string h3, .int .i64 p3, .string pa3, .string q3] 27))
  generalize hR : w.heap.size = Ra at xn Bw1 ⊢
  have HR := Lib.hid hR
  clear hR
  generalize w.alloc (.cells #[.int .i64 4, .string rt, .bool o, .string s2, .string h2, .int .i64 p, .string pa2, .string q2, .bool mv, .string rn, .bool pr, .bool o3, .string s3, .string h3, .int .i64 p3, .string pa3, .string q3] 27) = w1 at xn gw1 lw1 Bw1  ⊢
  have xRa_w1 := xn
  clear xn hw hv
  refine (LG.out _ lw1).mono ?_
  rintro e w2 ⟨b0, rfl, b_, hz⟩
  have gw2 := gw1.below b_
  have lw2 := lw1.below b_
  have Bw2 := Bw1.trans (b_.mono (Nat.le_of_lt xRa_w1.lt))
  have xRa_w2 := xRa_w1.below b_
  clear b_ gw1 lw1 Bw1 xRa_w1
  generalize Value.agg #[.int .i64 4, .string rt, .bool o, .string s2, .string h2, .int .i64 p, .string pa2, .string q2, .bool mv, .string rn, .bool pr, .bool o3, .string s3, .string h3, .int .i64 p3, .string pa3, .string q3] = rq
  have HZ := Lib.hid hz
  clear hz
  cases b0
  case true =>
    have dRa0 := xRa_w2.c0
    have dRa1 := xRa_w2.c1
    have dRa2 := xRa_w2.c2
    have dRa3 := xRa_w2.c3
    have dRa4 := xRa_w2.c4
    have dRa5 := xRa_w2.c5
    have dRa6 := xRa_w2.c6
    have dRa7 := xRa_w2.c7
    have dRa8 := xRa_w2.c8
    have dRa9 := xRa_w2.c9
    have dRa10 := xRa_w2.c10
    have dRa11 := xRa_w2.c11
    have dRa12 := xRa_w2.c12
    have dRa13 := xRa_w2.c13
    have dRa14 := xRa_w2.c14
    have dRa15 := xRa_w2.c15
    have dRa16 := xRa_w2.c16
    go_wp2_with fail
    clear dRa0 dRa1 dRa2 dRa3 dRa4 dRa5 dRa6 dRa7 dRa8 dRa9 dRa10 dRa11 dRa12 dRa13 dRa14 dRa15 dRa16
    refine (AR.out _ gw2).mono ?_
    rintro e w3 ⟨rfl, b_⟩
    have gw3 := gw2.below b_
    have lw3 := lw2.below b_
    have Bw3 := Bw2.trans (b_.mono (Nat.le_of_lt xRa_w2.lt))
    have xRa_w3 := xRa_w2.below b_
    clear b_ gw2 lw2 Bw2 xRa_w2
    go_wp2
    go_ret
    exact ⟨rfl, by rw [HR.out]; exact Bw3⟩
  obtain ⟨FL, z1, z2, ⟨c1, c2, c3, c4⟩, ⟨e1, e2, e3, e4⟩⟩ := HZ.out rfl
  have hl : L.length ≤ 1000000 := by have := FL.1; omega
  clear HZ
  clear LG
  have CI := alwInline_hid L v hl 4 rn rt (by omega) true hyes
  obtain ⟨M, hM⟩ : ∃ M : ByteArray, M.data.toList = markL rt.data.toList := ⟨⟨(markL rt.data.toList).toArray⟩, rfl⟩
  have CO := of1_hid rt M (by omega) hM
  obtain ⟨lo, hlo⟩ : ∃ r, looseL L = r := ⟨_, rfl⟩
  obtain ⟨h10, hh⟩ : ∃ r, textQ L 10 M.data.toList = r := ⟨_, rfl⟩
  have CL := alwLoose_hid L v hl lo hlo
  have CH := lawHas_hid L v hl 10 M ⟨#[]⟩ ⟨#[]⟩ false 0 ⟨#[]⟩ h10 hh
  have HW : Hid ((lo || h10) = true) := Lib.hid (by
    have := (witness L 4 rn.data.toList rt.data.toList hyes).1
    rw [← hM, hh, hlo] at this
    simpa using this)
  unfold srcV at CH
  clear hM hlo hh hyes FL z1 z2 c1 c2 c3 c4 e1 e2 e3 e4 hl hl0
  have dRa0 := xRa_w2.c0
  have dRa1 := xRa_w2.c1
  have dRa2 := xRa_w2.c2
  have dRa3 := xRa_w2.c3
  have dRa4 := xRa_w2.c4
  have dRa5 := xRa_w2.c5
  have dRa6 := xRa_w2.c6
  have dRa7 := xRa_w2.c7
  have dRa8 := xRa_w2.c8
  have dRa9 := xRa_w2.c9
  have dRa10 := xRa_w2.c10
  have dRa11 := xRa_w2.c11
  have dRa12 := xRa_w2.c12
  have dRa13 := xRa_w2.c13
  have dRa14 := xRa_w2.c14
  have dRa15 := xRa_w2.c15
  have dRa16 := xRa_w2.c16
  go_wp2_with fail
  clear dRa0 dRa1 dRa2 dRa3 dRa4 dRa5 dRa6 dRa7 dRa8 dRa9 dRa10 dRa11 dRa12 dRa13 dRa14 dRa15 dRa16
  refine (CI.out _ lw2).mono ?_
  rintro e w3 ⟨rfl, b_⟩
  have gw3 := gw2.below b_
  have lw3 := lw2.below b_
  have Bw3 := Bw2.trans (b_.mono (Nat.le_of_lt xRa_w2.lt))
  have xRa_w3 := xRa_w2.below b_
  clear b_ gw2 lw2 Bw2 xRa_w2
  have dRa0 := xRa_w3.c0
  have dRa1 := xRa_w3.c1
  have dRa2 := xRa_w3.c2
  have dRa3 := xRa_w3.c3
  have dRa4 := xRa_w3.c4
  have dRa5 := xRa_w3.c5
  have dRa6 := xRa_w3.c6
  have dRa7 := xRa_w3.c7
  have dRa8 := xRa_w3.c8
  have dRa9 := xRa_w3.c9
  have dRa10 := xRa_w3.c10
  have dRa11 := xRa_w3.c11
  have dRa12 := xRa_w3.c12
  have dRa13 := xRa_w3.c13
  have dRa14 := xRa_w3.c14
  have dRa15 := xRa_w3.c15
  have dRa16 := xRa_w3.c16
  go_wp2_with fail
  clear dRa0 dRa1 dRa2 dRa3 dRa4 dRa5 dRa6 dRa7 dRa8 dRa9 dRa10 dRa11 dRa12 dRa13 dRa14 dRa15 dRa16
  refine (CO.out _ ).mono ?_
  rintro e w4 ⟨rfl, b_⟩
  have gw4 := gw3.below b_
  have lw4 := lw3.below b_
  have Bw4 := Bw3.trans (b_.mono (Nat.le_of_lt xRa_w3.lt))
  have xRa_w4 := xRa_w3.below b_
  clear b_ gw3 lw3 Bw3 xRa_w3
  have dRa0 := xRa_w4.c0
  have dRa1 := xRa_w4.c1
  have dRa2 := xRa_w4.c2
  have dRa3 := xRa_w4.c3
  have dRa4 := xRa_w4.c4
  have dRa5 := xRa_w4.c5
  have dRa6 := xRa_w4.c6
  have dRa7 := xRa_w4.c7
  have dRa8 := xRa_w4.c8
  have dRa9 := xRa_w4.c9
  have dRa10 := xRa_w4.c10
  have dRa11 := xRa_w4.c11
  have dRa12 := xRa_w4.c12
  have dRa13 := xRa_w4.c13
  have dRa14 := xRa_w4.c14
  have dRa15 := xRa_w4.c15
  have dRa16 := xRa_w4.c16
  go_wp2_with fail
  clear dRa0 dRa1 dRa2 dRa3 dRa4 dRa5 dRa6 dRa7 dRa8 dRa9 dRa10 dRa11 dRa12 dRa13 dRa14 dRa15 dRa16
  refine (CH.out _ lw4).mono ?_
  rintro e w5 ⟨rfl, b_⟩
  have gw5 := gw4.below b_
  have lw5 := lw4.below b_
  have Bw5 := Bw4.trans (b_.mono (Nat.le_of_lt xRa_w4.lt))
  have xRa_w5 := xRa_w4.below b_
  clear b_ gw4 lw4 Bw4 xRa_w4
  have dRa0 := xRa_w5.c0
  have dRa1 := xRa_w5.c1
  have dRa2 := xRa_w5.c2
  have dRa3 := xRa_w5.c3
  have dRa4 := xRa_w5.c4
  have dRa5 := xRa_w5.c5
  have dRa6 := xRa_w5.c6
  have dRa7 := xRa_w5.c7
  have dRa8 := xRa_w5.c8
  have dRa9 := xRa_w5.c9
  have dRa10 := xRa_w5.c10
  have dRa11 := xRa_w5.c11
  have dRa12 := xRa_w5.c12
  have dRa13 := xRa_w5.c13
  have dRa14 := xRa_w5.c14
  have dRa15 := xRa_w5.c15
  have dRa16 := xRa_w5.c16
  go_wp2_with fail
  clear dRa0 dRa1 dRa2 dRa3 dRa4 dRa5 dRa6 dRa7 dRa8 dRa9 dRa10 dRa11 dRa12 dRa13 dRa14 dRa15 dRa16
  refine (AR.out _ gw5).mono ?_
  rintro e w6 ⟨rfl, b_⟩
  have gw6 := gw5.below b_
  have lw6 := lw5.below b_
  have Bw6 := Bw5.trans (b_.mono (Nat.le_of_lt xRa_w5.lt))
  have xRa_w6 := xRa_w5.below b_
  clear b_ gw5 lw5 Bw5 xRa_w5
  have dRa0 := xRa_w6.c0
  have dRa1 := xRa_w6.c1
  have dRa2 := xRa_w6.c2
  have dRa3 := xRa_w6.c3
  have dRa4 := xRa_w6.c4
  have dRa5 := xRa_w6.c5
  have dRa6 := xRa_w6.c6
  have dRa7 := xRa_w6.c7
  have dRa8 := xRa_w6.c8
  have dRa9 := xRa_w6.c9
  have dRa10 := xRa_w6.c10
  have dRa11 := xRa_w6.c11
  have dRa12 := xRa_w6.c12
  have dRa13 := xRa_w6.c13
  have dRa14 := xRa_w6.c14
  have dRa15 := xRa_w6.c15
  have dRa16 := xRa_w6.c16
  go_wp2_with fail
  clear dRa0 dRa1 dRa2 dRa3 dRa4 dRa5 dRa6 dRa7 dRa8 dRa9 dRa10 dRa11 dRa12 dRa13 dRa14 dRa15 dRa16
  refine (CL.out _ lw6).mono ?_
  rintro e w7 ⟨rfl, b_⟩
  have gw7 := gw6.below b_
  have lw7 := lw6.below b_
  have Bw7 := Bw6.trans (b_.mono (Nat.le_of_lt xRa_w6.lt))
  have xRa_w7 := xRa_w6.below b_
  clear b_ gw6 lw6 Bw6 xRa_w6
  have dRa0 := xRa_w7.c0
  have dRa1 := xRa_w7.c1
  have dRa2 := xRa_w7.c2
  have dRa3 := xRa_w7.c3
  have dRa4 := xRa_w7.c4
  have dRa5 := xRa_w7.c5
  have dRa6 := xRa_w7.c6
  have dRa7 := xRa_w7.c7
  have dRa8 := xRa_w7.c8
  have dRa9 := xRa_w7.c9
  have dRa10 := xRa_w7.c10
  have dRa11 := xRa_w7.c11
  have dRa12 := xRa_w7.c12
  have dRa13 := xRa_w7.c13
  have dRa14 := xRa_w7.c14
  have dRa15 := xRa_w7.c15
  have dRa16 := xRa_w7.c16
  cases lo <;> cases h10
  all_goals
    first
    | (have hx := HW.out; simp at hx; done)
    | skip
  all_goals
    as_aux_lemma =>
      go_wp2
      go_ret
      exact ⟨rfl, by rw [HR.out]; exact Bw7⟩
theorem allowWitness_law (L : List Src) (v : Value) (hl0 : L.length ≤ 9223372036854775807) (rk : Int) (rt : ByteArray) (o : Bool) (s2 h2 : ByteArray) (p : Int) (pa2 q2 : ByteArray) (mv : Bool) (rn : ByteArray) (pr : Bool) (o3 : Bool) (s3 h3 : ByteArray) (p3 : Int) (pa3 q3 : ByteArray) (w : World) (hw : Low w) (hv : SrcsIn w v L) : Calls Tryz.prog 8 #[v, reqV rk rt o s2 h2 p pa2 q2 mv rn pr o3 s3 h3 p3 pa3 q3] w fun e w' => e = .returned (.bool true) ∧ Below w.heap.size w w' := by
  cases hr : inlineL L rk rn.data.toList rt.data.toList
  · exact wit_no L v hl0 rk rt o s2 h2 p pa2 q2 mv rn pr o3 s3 h3 p3 pa3 q3 hr w hw hv
  · rcases (witness L rk rn.data.toList rt.data.toList hr).2 with rfl | rfl | rfl
    · exact wit_one L v hl0 rt o s2 h2 p pa2 q2 mv rn pr o3 s3 h3 p3 pa3 q3 hr w hw hv
    · exact wit_thr L v hl0 rt o s2 h2 p pa2 q2 mv rn pr o3 s3 h3 p3 pa3 q3 hr w hw hv
    · exact wit_fou L v hl0 rt o s2 h2 p pa2 q2 mv rn pr o3 s3 h3 p3 pa3 q3 hr w hw hv

end Go.Proofs.YtaldjkbnngeahaaGreatDoor
