/- The order of sources, and how often each is there, plays no part. -/
import Derived.Test.YtaldjkbnngeahaaGreatDoorRowsQ
namespace Go.Proofs.YtaldjkbnngeahaaGreatDoor
open Go.RowKit

theorem add_noneS (b off j : Nat) : (⟨b, off, none⟩ : Addr).add j = ⟨b, off + j, none⟩ := by unfold Addr.add; split <;> simp_all
theorem src_from (L : List Src) (a : Option Addr) (c : Nat) (hc : L.length ≤ c) (w : World) (h : SrcsIn w (.slice a L.length c) L) (i : Nat) (hi : i ≤ L.length) : ∃ a2, (∀ W, (Instr.slice 22 (.slice a L.length c) (some (.int .i64 (i : Int))) none none).run Tryz.prog W = .ok (.slice a2 (L.length - i) (c - i)) W) ∧ SrcsIn w (.slice a2 (L.length - i) (c - i)) (L.drop i) := by
  obtain ⟨i0, hi0, hz0, hz1, hz2⟩ := info_parts TinfoSrc
  refine ⟨if c = i then a else a.map (·.add (i * 7)), fun W => ?_, ?_⟩
  · have hb : ∀ W, (Instr.sliceBound (.int .i64 (i : Int)) L.length .sliceB).run Tryz.prog W = .ok i W := fun W => by
      have := Go.run_sliceBound (P := Tryz.prog) (w := W) .i64 (i : Int) L.length .sliceB (by omega) (by omega)
      simpa using this
    simp [Instr.slice, run_underlying Tryz.underlying22, Instr.sliceBounds, hb, sizeOf, typeInfo, hi0, hz1]
  · by_cases e : i = L.length
    · subst e
      rw [List.drop_length, Nat.sub_self]
      exact .inl ⟨⟨_, _, rfl⟩, rfl⟩
    · rcases h with ⟨_, h2⟩ | ⟨B, off, cap, h1, h2⟩
      · rw [h2] at hi e; exact absurd (Nat.le_zero.1 hi) e
      · cases h1
        refine .inr ⟨B, off + i * 7, c - i, ?_, fun j hj r u hu => ?_⟩
        · rw [if_neg (by omega), List.length_drop, Option.map_some, add_noneS]
        · rw [List.getElem_drop] at hu
          have := h2 (i + j) (by rw [List.length_drop] at hj; omega) r u hu
          rw [show off + i * 7 + j * 7 + r = off + (i + j) * 7 + r by omega]
          exact this
theorem src_upto (L : List Src) (a : Option Addr) (c : Nat) (hc : L.length ≤ c) (w : World) (h : SrcsIn w (.slice a L.length c) L) (i : Nat) (hi : i ≤ L.length) : ∃ a2, (∀ W, (Instr.slice 22 (.slice a L.length c) none (some (.int .i64 (i : Int))) none).run Tryz.prog W = .ok (.slice a2 i c) W) ∧ SrcsIn w (.slice a2 i c) (L.take i) := by
  obtain ⟨i0, hi0, hz0, hz1, hz2⟩ := info_parts TinfoSrc
  refine ⟨if c = 0 then a else a.map (·.add (0 * 7)), fun W => ?_, ?_⟩
  · have hb : ∀ W, (Instr.sliceBound (.int .i64 (i : Int)) c .sliceAcap).run Tryz.prog W = .ok i W := fun W => by
      have := Go.run_sliceBound (P := Tryz.prog) (w := W) .i64 (i : Int) c .sliceAcap (by omega) (by omega)
      simpa using this
    simp [Instr.slice, run_underlying Tryz.underlying22, Instr.sliceBounds, hb, sizeOf, typeInfo, hi0]
  · by_cases e : i = 0
    · subst e
      rw [List.take_zero]
      exact .inl ⟨⟨_, _, rfl⟩, rfl⟩
    · rcases h with ⟨_, h2⟩ | ⟨B, off, cap, h1, h2⟩
      · rw [h2] at hi; exact absurd (Nat.le_zero.1 hi) e
      · cases h1
        have hlen : (L.take i).length = i := by rw [List.length_take]; omega
        refine .inr ⟨B, off, c, ?_, fun j hj r u hu => ?_⟩
        · rw [if_neg (by omega), hlen, Option.map_some, add_noneS]
          rfl
        · rw [List.getElem_take] at hu
          exact h2 j (by omega) r u hu

set_option maxRecDepth 100000 in
set_option maxHeartbeats 8000000 in
theorem order_low (L : List Src) (a : Option Addr) (c : Nat) (hl0 : L.length ≤ 9223372036854775807) (rk : Int) (rt : ByteArray) (o : Bool) (s2 h2 : ByteArray) (p : Int) (pa2 q2 : ByteArray) (mv : Bool) (rn : ByteArray) (pr : Bool) (o3 : Bool) (s3 h3 : ByteArray) (p3 : Int) (pa3 q3 : ByteArray) (at_ : Int) (n1 : at_ < 0) (w : World) (hw : Low w) (hv : SrcsIn w (.slice a L.length c) L) : Calls Tryz.prog 6 #[.slice a L.length c, reqV rk rt o s2 h2 p pa2 q2 mv rn pr o3 s3 h3 p3 pa3 q3, .int .i64 at_] w fun e w' => e = .returned (.bool true) ∧ Below w.heap.size w w' := by
  have AR := allows_hid
  have LG := large11_hid L (.slice a L.length c) hl0 rk rt o s2 h2 p pa2 q2 mv rn pr o3 s3 h3 p3 pa3 q3
  unfold reqV at *
  go_enter Tryz.func6, Tryz.ntmps6
  go_wp2_with fail
  have xn := RX.made w rk rt o s2 h2 p pa2 q2 mv rn pr o3 s3 h3 p3 pa3 q3
  have gw1 := hw.made (.cells #[.int .i64 rk, .string rt, .bool o, .string s2, .string h2, .int .i64 p, .string pa2, .string q2, .bool mv, .string rn, .bool pr, .bool o3, .string s3, .string h3, .int .i64 p3, .string pa3, .string q3] 27)
  have lw1 := hv.made (.cells #[.int .i64 rk, .string rt, .bool o, .string s2, .string h2, .int .i64 p, .string pa2, .string q2, .bool mv, .string rn, .bool pr, .bool o3, .string s3, .string h3, .int .i64 p3, .string pa3, .string q3] 27)
  have Bw1 : Below w.heap.size w (w.alloc (.cells #[.int .i64 rk, .string rt, .bool o, .string s2, .string h2, .int .i64 p, .string pa2, .string q2, .bool mv, .string rn, .bool pr, .bool o3, .string s3, .string h3, .int .i64 p3, .string pa3, .string q3] 27)) := ((Below.refl w.heap.size w).alloc (Nat.le_refl _) (.cells #[.int .i64 rk, .string rt, .bool o, .string s2, .string h2, .int .i64 p, .string pa2, .string q2, .bool mv, .string rn, .bool pr, .bool o3, .string s3, .string h3, .int .i64 p3, .string pa3, .string q3] 27))
  generalize hR : w.heap.size = Ra at xn Bw1 ⊢
  have HR := Lib.hid hR
  clear hR
  generalize w.alloc (.cells #[.int .i64 rk, .string rt, .bool o, .string s2, .string h2, .int .i64 p, .string pa2, .string q2, .bool mv, .string rn, .bool pr, .bool o3, .string s3, .string h3, .int .i64 p3, .string pa3, .string q3] 27) = w1 at xn gw1 lw1 Bw1  ⊢
  have xRa_w1 := xn
  clear xn hw hv
  refine (LG.out _ lw1).mono ?_
  rintro e w2 ⟨b0, rfl, b_, hz⟩
  have gw2 := gw1.below b_
  have lw2 := lw1.below b_
  have Bw2 := Bw1.trans (b_.mono (Nat.le_of_lt xRa_w1.lt))
  have xRa_w2 := xRa_w1.below b_
  clear b_ gw1 lw1 Bw1 xRa_w1
  generalize Value.agg #[.int .i64 rk, .string rt, .bool o, .string s2, .string h2, .int .i64 p, .string pa2, .string q2, .bool mv, .string rn, .bool pr, .bool o3, .string s3, .string h3, .int .i64 p3, .string pa3, .string q3] = rq
  have HZ := Lib.hid hz
  clear hz
  cases b0
  case true =>
    go_wp2
    go_ret
    exact ⟨rfl, by rw [HR.out]; exact Bw2⟩
  go_wp2
  go_ret
  exact ⟨rfl, by rw [HR.out]; exact Bw2⟩

set_option maxRecDepth 100000 in
set_option maxHeartbeats 8000000 in
theorem order_high (L : List Src) (a : Option Addr) (c : Nat) (hl0 : L.length ≤ 9223372036854775807) (rk : Int) (rt : ByteArray) (o : Bool) (s2 h2 : ByteArray) (p : Int) (pa2 q2 : ByteArray) (mv : Bool) (rn : ByteArray) (pr : Bool) (o3 : Bool) (s3 h3 : ByteArray) (p3 : Int) (pa3 q3 : ByteArray) (at_ : Int) (n1 : ¬ at_ < 0) (n2 : (L.length : Int) < at_) (w : World) (hw : Low w) (hv : SrcsIn w (.slice a L.length c) L) : Calls Tryz.prog 6 #[.slice a L.length c, reqV rk rt o s2 h2 p pa2 q2 mv rn pr o3 s3 h3 p3 pa3 q3, .int .i64 at_] w fun e w' => e = .returned (.bool true) ∧ Below w.heap.size w w' := by
  have AR := allows_hid
  have LG := large11_hid L (.slice a L.length c) hl0 rk rt o s2 h2 p pa2 q2 mv rn pr o3 s3 h3 p3 pa3 q3
  unfold reqV at *
  go_enter Tryz.func6, Tryz.ntmps6
  go_wp2_with fail
  have xn := RX.made w rk rt o s2 h2 p pa2 q2 mv rn pr o3 s3 h3 p3 pa3 q3
  have gw1 := hw.made (.cells #[.int .i64 rk, .string rt, .bool o, .string s2, .string h2, .int .i64 p, .string pa2, .string q2, .bool mv, .string rn, .bool pr, .bool o3, .string s3, .string h3, .int .i64 p3, .string pa3, .string q3] 27)
  have lw1 := hv.made (.cells #[.int .i64 rk, .string rt, .bool o, .string s2, .string h2, .int .i64 p, .string pa2, .string q2, .bool mv, .string rn, .bool pr, .bool o3, .string s3, .string h3, .int .i64 p3, .string pa3, .string q3] 27)
  have Bw1 : Below w.heap.size w (w.alloc (.cells #[.int .i64 rk, .string rt, .bool o, .string s2, .string h2, .int .i64 p, .string pa2, .string q2, .bool mv, .string rn, .bool pr, .bool o3, .string s3, .string h3, .int .i64 p3, .string pa3, .string q3] 27)) := ((Below.refl w.heap.size w).alloc (Nat.le_refl _) (.cells #[.int .i64 rk, .string rt, .bool o, .string s2, .string h2, .int .i64 p, .string pa2, .string q2, .bool mv, .string rn, .bool pr, .bool o3, .string s3, .string h3, .int .i64 p3, .string pa3, .string q3] 27))
  generalize hR : w.heap.size = Ra at xn Bw1 ⊢
  have HR := Lib.hid hR
  clear hR
  generalize w.alloc (.cells #[.int .i64 rk, .string rt, .bool o, .string s2, .string h2, .int .i64 p, .string pa2, .string q2, .bool mv, .string rn, .bool pr, .bool o3, .string s3, .string h3, .int .i64 p3, .string pa3, .string q3] 27) = w1 at xn gw1 lw1 Bw1  ⊢
  have xRa_w1 := xn
  clear xn hw hv
  refine (LG.out _ lw1).mono ?_
  rintro e w2 ⟨b0, rfl, b_, hz⟩
  have gw2 := gw1.below b_
  have lw2 := lw1.below b_
  have Bw2 := Bw1.trans (b_.mono (Nat.le_of_lt xRa_w1.lt))
  have xRa_w2 := xRa_w1.below b_
  clear b_ gw1 lw1 Bw1 xRa_w1
  generalize Value.agg #[.int .i64 rk, .string rt, .bool o, .string s2, .string h2, .int .i64 p, .string pa2, .string q2, .bool mv, .string rn, .bool pr, .bool o3, .string s3, .string h3, .int .i64 p3, .string pa3, .string q3] = rq
  have HZ := Lib.hid hz
  clear hz
  cases b0
  case true =>
    go_wp2
    go_ret
    exact ⟨rfl, by rw [HR.out]; exact Bw2⟩
  go_wp2
  go_ret
  exact ⟨rfl, by rw [HR.out]; exact Bw2⟩

set_option maxRecDepth 100000 in
set_option maxHeartbeats 8000000 in
theorem order_is (L : List Src) (a : Option Addr) (c : Nat) (hl0 : L.length ≤ 9223372036854775807) (hc : L.length ≤ c) (rk : Int) (rt : ByteArray) (o : Bool) (s2 h2 : ByteArray) (p : Int) (pa2 q2 : ByteArray) (mv : Bool) (rn : ByteArray) (pr : Bool) (o3 : Bool) (s3 h3 : ByteArray) (p3 : Int) (pa3 q3 : ByteArray) (i : Nat) (hi : i ≤ L.length) (w : World) (hw : Low w) (hv : SrcsIn w (.slice a L.length c) L) : Calls Tryz.prog 6 #[.slice a L.length c, reqV rk rt o s2 h2 p pa2 q2 mv rn pr o3 s3 h3 p3 pa3 q3, .int .i64 (i : Int)] w fun e w' => e = .returned (.bool true) ∧ Below w.heap.size w w' := by
  have AR := allows_hid
  have LG := large11_hid L (.slice a L.length c) hl0 rk rt o s2 h2 p pa2 q2 mv rn pr o3 s3 h3 p3 pa3 q3
  have n1 : ¬ (i : Int) < 0 := by omega
  have n2 : ¬ (L.length : Int) < (i : Int) := by omega
  unfold reqV at *
  go_enter Tryz.func6, Tryz.ntmps6
  go_wp2_with fail
  have xn := RX.made w rk rt o s2 h2 p pa2 q2 mv rn pr o3 s3 h3 p3 pa3 q3
  have gw1 := hw.made (.cells #[.int .i64 rk, .string rt, .bool o, .string s2, .string h2, .int .i64 p, .string pa2, .string q2, .bool mv, .string rn, .bool pr, .bool o3, .string s3, .string h3, .int .i64 p3, .string pa3, .string q3] 27)
  have lw1 := hv.made (.cells #[.int .i64 rk, .string rt, .bool o, .string s2, .string h2, .int .i64 p, .string pa2, .string q2, .bool mv, .string rn, .bool pr, .bool o3, .string s3, .string h3, .int .i64 p3, .string pa3, .string q3] 27)
  have Bw1 : Below w.heap.size w (w.alloc (.cells #[.int .i64 rk, .string rt, .bool o, .string s2, .string h2, .int .i64 p, .string pa2, .string q2, .bool mv, .string rn, .bool pr, .bool o3, .string s3, .string h3, .int .i64 p3, .string pa3, .string q3] 27)) := ((Below.refl w.heap.size w).alloc (Nat.le_refl _) (.cells #[.int .i64 rk, .string rt, .bool o, .string s2, .string h2, .int .i64 p, .string pa2, .string q2, .bool mv, .string rn, .bool pr, .bool o3, .string s3, .string h3, .int .i64 p3, .string pa3, .string q3] 27))
  generalize hR : w.heap.size = Ra at xn Bw1 ⊢
  have HR := Lib.hid hR
  clear hR
  generalize w.alloc (.cells #[.int .i64 rk, .string rt, .bool o, .string s2, .string h2, .int .i64 p, .string pa2, .string q2, .bool mv, .string rn, .bool pr, .bool o3, .string s3, .string h3, .int .i64 p3, .string pa3, .string q3] 27) = w1 at xn gw1 lw1 Bw1  ⊢
  have xRa_w1 := xn
  clear xn hw hv
  refine (LG.out _ lw1).mono ?_
  rintro e w2 ⟨b0, rfl, b_, hz⟩
  have gw2 := gw1.below b_
  have lw2 := lw1.below b_
  have Bw2 := Bw1.trans (b_.mono (Nat.le_of_lt xRa_w1.lt))
  have xRa_w2 := xRa_w1.below b_
  clear b_ gw1 lw1 Bw1 xRa_w1
  generalize Value.agg #[.int .i64 rk, .string rt, .bool o, .string s2, .string h2, .int .i64 p, .string pa2, .string q2, .bool mv, .string rn, .bool pr, .bool o3, .string s3, .string h3, .int .i64 p3, .string pa3, .string q3] = rq
  have HZ := Lib.hid hz
  clear hz
  cases b0
  case true =>
    go_wp2
    go_ret
    exact ⟨rfl, by rw [HR.out]; exact Bw2⟩
  obtain ⟨FL, z1, z2, ⟨c1, c2, c3, c4⟩, ⟨e1, e2, e3, e4⟩⟩ := HZ.out rfl
  have hl : L.length ≤ 1000000 := by have := FL.1; omega
  clear HZ
  obtain ⟨a2, hs2, hq2⟩ := src_from L a c hc _ lw2 i hi
  obtain ⟨a3, hs3, hq3⟩ := src_upto L a c hc _ lw2 i hi
  have HV1 := Lib.hid lw2
  have HV2 := Lib.hid hq2
  have HV3 := Lib.hid hq3
  have HO := Lib.hid (World.ownsRow_nil w2 w2.heap.size 40 7)
  have hl2 : (L.drop i ++ L.take i ++ L).length ≤ 1000000 := by simp only [List.length_append, List.length_drop, List.length_take]; have := FL.1; omega
  have hld : (L.drop i).length = L.length - i := List.length_drop
  have hlt : (L.take i).length = i := by rw [List.length_take]; omega
  have H50 := Lib.hid FL.1
  have HLD := Lib.hid hld
  have HLT := Lib.hid hlt
  have HI := Lib.hid hi
  clear hq2 hq3 hld hlt
  have dRa0 := xRa_w2.c0
  have dRa1 := xRa_w2.c1
  have dRa2 := xRa_w2.c2
  have dRa3 := xRa_w2.c3
  have dRa4 := xRa_w2.c4
  have dRa5 := xRa_w2.c5
  have dRa6 := xRa_w2.c6
  have dRa7 := xRa_w2.c7
  have dRa8 := xRa_w2.c8
  have dRa9 := xRa_w2.c9
  have dRa10 := xRa_w2.c10
  have dRa11 := xRa_w2.c11
  have dRa12 := xRa_w2.c12
  have dRa13 := xRa_w2.c13
  have dRa14 := xRa_w2.c14
  have dRa15 := xRa_w2.c15
  have dRa16 := xRa_w2.c16
  go_wp2_with (first
      | (at_builtin; refine wpList_append_src rfl _ _ rfl w2.heap.size _ _ _ rfl HO.out _ (L.drop i) rfl HV2.out (by have := H50.out; have := HLD.out; have := HLT.out; have := HI.out; omega) (by first | exact Nat.le_refl _ | exact .out.2.size) ?_; intro v1 w1q hown1 hgr1
         have Y1 : AsideM (w1q.ownsRow w2.heap.size 40 7 v1 _ _ ∧ Below w2.heap.size w2 w1q) := ⟨hown1, Below.grown (Below.refl _ _) hgr1 (Nat.le_refl _) (fun k hk => by cases hk)⟩
         clear hown1 hgr1)
      | (at_builtin; refine wpList_append_src rfl _ _ rfl w2.heap.size _ _ _ rfl Y1.out.1 _ (L.take i) rfl (HV3.out.below Y1.out.2) (by have := H50.out; have := HLD.out; have := HLT.out; have := HI.out; omega) (by first | exact Nat.le_refl _ | exact Y1.out.2.size) ?_; intro v2 w2q hown2 hgr2
         have Y2 : AsideM (w2q.ownsRow w2.heap.size 40 7 v2 _ _ ∧ Below w2.heap.size w2 w2q) := ⟨hown2, Below.grown Y1.out.2 hgr2 (Y1.out.2.size) (fun k hk => (Y1.out.1.lt _ hk).1)⟩
         clear hown2 hgr2)
      | (at_builtin; refine wpList_append_src rfl _ _ rfl w2.heap.size _ _ _ rfl Y2.out.1 _ L rfl (HV1.out.below Y2.out.2) (by have := H50.out; have := HLD.out; have := HLT.out; have := HI.out; omega) (by first | exact Nat.le_refl _ | exact Y2.out.2.size) ?_; intro v3 w3q hown3 hgr3
         have Y3 : AsideM (w3q.ownsRow w2.heap.size 40 7 v3 _ _ ∧ Below w2.heap.size w2 w3q) := ⟨hown3, Below.grown Y2.out.2 hgr3 (Y2.out.2.size) (fun k hk => (Y2.out.1.lt _ hk).1)⟩
         clear hown3 hgr3))
  clear dRa0 dRa1 dRa2 dRa3 dRa4 dRa5 dRa6 dRa7 dRa8 dRa9 dRa10 dRa11 dRa12 dRa13 dRa14 dRa15 dRa16
  have j3 : SrcsIn w3q v3 (L.drop i ++ L.take i ++ L) := SrcsIn.of_row (by
    have := Y3.out.1
    rw [List.nil_append] at this
    rw [List.length_append, List.length_append]
    unfold srcCs at *
    rw [List.flatMap_append, List.flatMap_append]
    simpa using this)
  have g3 := gw2.below Y3.out.2
  have l3 := lw2.below Y3.out.2
  have x3 := xRa_w2.below Y3.out.2
  have B3 := Bw2.trans (Y3.out.2.mono (Nat.le_of_lt xRa_w2.lt))
  clear gw2 lw2 xRa_w2 Bw2 Y1 Y2 Y3 HV1 HV2 HV3 HO H50 HLD HLT HI hs2 hs3 n1 n2
  have xRa_w3q := x3
  clear x3
  have HSL := SameL.of (mem_turned L i)
  have far2 : ∀ x ∈ (L.drop i ++ L.take i ++ L), x.h.length ≤ 100000 ∧ x.pa.length ≤ 100000 := fun x hx => FL.far x ((mem_turned L i x).2 hx)
  obtain ⟨r1, hr1⟩ : ∃ r, inlineL L rk rn.data.toList rt.data.toList = r := ⟨_, rfl⟩
  have Hr1 := Lib.hid hr1
  clear hr1
  have gr1 : (r1 == r1) = true := by rw [beq_iff_eq]
  obtain ⟨r2, hr2⟩ : ∃ r, fetchL L (uM o s2 h2 p pa2 q2) (uM o3 s3 h3 p3 pa3 q3) mv rn.data.toList pr = r := ⟨_, rfl⟩
  have Hr2 := Lib.hid hr2
  clear hr2
  have gr2 : (r2 == r2) = true := by rw [beq_iff_eq]
  obtain ⟨r3, hr3⟩ : ∃ r, evalL L rk = r := ⟨_, rfl⟩
  have Hr3 := Lib.hid hr3
  clear hr3
  have gr3 : (r3 == r3) = true := by rw [beq_iff_eq]
  have CI := alwInline_hid L (.slice a L.length c) hl rk rn rt (by omega) r1 Hr1.out
  have RI := alwInline_hid (L.drop i ++ L.take i ++ L) v3 hl2 rk rn rt (by omega) r1 ((HSL.inline _ _ _).symm.trans Hr1.out)
  have CF := alwFetch_hid L (.slice a L.length c) hl FL.far rk rt o s2 h2 p pa2 q2 mv rn pr o3 s3 h3 p3 pa3 q3 (by omega) (by omega) (by omega) (by omega) (by omega) (by omega) (by omega) (by omega) r2 Hr2.out
  have RF := alwFetch_hid (L.drop i ++ L.take i ++ L) v3 hl2 far2 rk rt o s2 h2 p pa2 q2 mv rn pr o3 s3 h3 p3 pa3 q3 (by omega) (by omega) (by omega) (by omega) (by omega) (by omega) (by omega) (by omega) r2 ((HSL.fetch _ _ _ _ _).symm.trans Hr2.out)
  have CE := alwEval_hid L (.slice a L.length c) hl rk r3 Hr3.out
  have RE := alwEval_hid (L.drop i ++ L.take i ++ L) v3 hl2 rk r3 ((HSL.eval _).symm.trans Hr3.out)
  unfold reqV at CF RF
  generalize (L.drop i ++ L.take i ++ L) = L2 at j3 RI RF RE
  clear FL z1 z2 c1 c2 c3 c4 e1 e2 e3 e4 hl hl0 hl2 far2 HSL Hr1 Hr2 Hr3 hi hc LG
  have dRa0 := xRa_w3q.c0
  have dRa1 := xRa_w3q.c1
  have dRa2 := xRa_w3q.c2
  have dRa3 := xRa_w3q.c3
  have dRa4 := xRa_w3q.c4
  have dRa5 := xRa_w3q.c5
  have dRa6 := xRa_w3q.c6
  have dRa7 := xRa_w3q.c7
  have dRa8 := xRa_w3q.c8
  have dRa9 := xRa_w3q.c9
  have dRa10 := xRa_w3q.c10
  have dRa11 := xRa_w3q.c11
  have dRa12 := xRa_w3q.c12
  have dRa13 := xRa_w3q.c13
  have dRa14 := xRa_w3q.c14
  have dRa15 := xRa_w3q.c15
  have dRa16 := xRa_w3q.c16
  go_wp2
  clear dRa0 dRa1 dRa2 dRa3 dRa4 dRa5 dRa6 dRa7 dRa8 dRa9 dRa10 dRa11 dRa12 dRa13 dRa14 dRa15 dRa16
  obtain ⟨C, hC⟩ : ∃ C : World → Prop, ∀ w', C w' ↔ (RX w' Ra rk rt o s2 h2 p pa2 q2 mv rn pr o3 s3 h3 p3 pa3 q3 ∧ Below Ra w w' ∧ Low w' ∧ SrcsIn w' (.slice a L.length c) L ∧ SrcsIn w' v3 L2) := ⟨_, fun _ => Iff.rfl⟩
  have HC := Lib.hid hC
  clear hC
  have hC0 : C w3q.drew := (HC.out _).2 ⟨xRa_w3q, B3.drew, g3.drew, l3.drew, j3.drew⟩
  have HK : Hid (∀ w', C w' → ∀ w7, Below w'.heap.size w' w7 → C w7) := Lib.hid fun w' hc w7 b => by
    obtain ⟨xRa, K4, g7, l7, j7⟩ := (HC.out w').1 hc
    exact (HC.out _).2 ⟨xRa.below b, K4.trans (b.mono (Nat.le_of_lt xRa.lt)), g7.below b, l7.below b, j7.below b⟩
  clear xRa_w3q B3 g3 l3 j3
  refine region_class C (by kernel_rfl) (by kernel_rfl) hC0 ?_
  clear hC0
  repeat
    first
      | go_big_quiet_skip
      | (go_big_quiet_want; go_big_quiet_op; go_big_quiet_on)
      | (refine BigFrame.wpQuiet_want rfl (fun K hK => ?_)
         apply Exists.intro
         refine ⟨fun w' hc => ?_, hK _ ?_⟩
         · obtain ⟨xRa, K4, g7, l7, j7⟩ := (HC.out w').1 hc
           have dRa0 := xRa.c0
           have dRa1 := xRa.c1
           have dRa2 := xRa.c2
           have dRa3 := xRa.c3
           have dRa4 := xRa.c4
           have dRa5 := xRa.c5
           have dRa6 := xRa.c6
           have dRa7 := xRa.c7
           have dRa8 := xRa.c8
           have dRa9 := xRa.c9
           have dRa10 := xRa.c10
           have dRa11 := xRa.c11
           have dRa12 := xRa.c12
           have dRa13 := xRa.c13
           have dRa14 := xRa.c14
           have dRa15 := xRa.c15
           have dRa16 := xRa.c16
           unfold Oper.quietAt
           go_simp
           first
             | done
             | rfl
         clear hK K
         simp only [Act.put, List.setIfInBounds_toArray, List.set_cons_zero, List.set_cons_succ])
  (refine BigFrame.wpQuiet_want rfl (fun K hK => ?_)
   apply Exists.intro
   refine ⟨fun w' hc => ?_, hK _ ?_⟩
   · obtain ⟨xRa, K4, g7, l7, j7⟩ := (HC.out w').1 hc
     have dRa0 := xRa.c0
     have dRa1 := xRa.c1
     have dRa2 := xRa.c2
     have dRa3 := xRa.c3
     have dRa4 := xRa.c4
     have dRa5 := xRa.c5
     have dRa6 := xRa.c6
     have dRa7 := xRa.c7
     have dRa8 := xRa.c8
     have dRa9 := xRa.c9
     have dRa10 := xRa.c10
     have dRa11 := xRa.c11
     have dRa12 := xRa.c12
     have dRa13 := xRa.c13
     have dRa14 := xRa.c14
     have dRa15 := xRa.c15
     have dRa16 := xRa.c16
     unfold Oper.quietAt
     go_simp
     first
       | ((with_reducible refine (AR.out _ g7).mono ?_); rintro e w7 ⟨rfl, b7⟩; exact ⟨rfl, HK.out w' hc w7 b7⟩)
       | ((with_reducible refine (CI.out _ l7).mono ?_); rintro e w7 ⟨rfl, b7⟩; exact ⟨rfl, HK.out w' hc w7 b7⟩)
       | ((with_reducible refine (RI.out _ j7).mono ?_); rintro e w7 ⟨rfl, b7⟩; exact ⟨rfl, HK.out w' hc w7 b7⟩)
       | ((with_reducible refine (CF.out _ g7 l7).mono ?_); rintro e w7 ⟨rfl, b7⟩; exact ⟨rfl, HK.out w' hc w7 b7⟩)
       | ((with_reducible refine (RF.out _ g7 j7).mono ?_); rintro e w7 ⟨rfl, b7⟩; exact ⟨rfl, HK.out w' hc w7 b7⟩)
       | ((with_reducible refine (CE.out _ l7).mono ?_); rintro e w7 ⟨rfl, b7⟩; exact ⟨rfl, HK.out w' hc w7 b7⟩)
       | ((with_reducible refine (RE.out _ j7).mono ?_); rintro e w7 ⟨rfl, b7⟩; exact ⟨rfl, HK.out w' hc w7 b7⟩)
   clear hK K
   simp only [Act.put, List.setIfInBounds_toArray, List.set_cons_zero, List.set_cons_succ])
  as_aux_lemma =>
    repeat
      first
        | go_big_quiet_skip
        | (go_big_quiet_want; go_big_quiet_op; go_big_quiet_on)
        | (refine BigFrame.wpQuiet_want rfl (fun K hK => ?_)
           apply Exists.intro
           refine ⟨fun w' hc => ?_, hK _ ?_⟩
           · obtain ⟨xRa, K4, g7, l7, j7⟩ := (HC.out w').1 hc
             have dRa0 := xRa.c0
             have dRa1 := xRa.c1
             have dRa2 := xRa.c2
             have dRa3 := xRa.c3
             have dRa4 := xRa.c4
             have dRa5 := xRa.c5
             have dRa6 := xRa.c6
             have dRa7 := xRa.c7
             have dRa8 := xRa.c8
             have dRa9 := xRa.c9
             have dRa10 := xRa.c10
             have dRa11 := xRa.c11
             have dRa12 := xRa.c12
             have dRa13 := xRa.c13
             have dRa14 := xRa.c14
             have dRa15 := xRa.c15
             have dRa16 := xRa.c16
             unfold Oper.quietAt
             go_simp
             first
               | done
               | rfl
           clear hK K
           simp only [Act.put, List.setIfInBounds_toArray, List.set_cons_zero, List.set_cons_succ])
    (refine BigFrame.wpQuiet_want rfl (fun K hK => ?_)
     apply Exists.intro
     refine ⟨fun w' hc => ?_, hK _ ?_⟩
     · obtain ⟨xRa, K4, g7, l7, j7⟩ := (HC.out w').1 hc
       have dRa0 := xRa.c0
       have dRa1 := xRa.c1
       have dRa2 := xRa.c2
       have dRa3 := xRa.c3
       have dRa4 := xRa.c4
       have dRa5 := xRa.c5
       have dRa6 := xRa.c6
       have dRa7 := xRa.c7
       have dRa8 := xRa.c8
       have dRa9 := xRa.c9
       have dRa10 := xRa.c10
       have dRa11 := xRa.c11
       have dRa12 := xRa.c12
       have dRa13 := xRa.c13
       have dRa14 := xRa.c14
       have dRa15 := xRa.c15
       have dRa16 := xRa.c16
       unfold Oper.quietAt
       go_simp
       first
         | ((with_reducible refine (AR.out _ g7).mono ?_); rintro e w7 ⟨rfl, b7⟩; exact ⟨rfl, HK.out w' hc w7 b7⟩)
         | ((with_reducible refine (CI.out _ l7).mono ?_); rintro e w7 ⟨rfl, b7⟩; exact ⟨rfl, HK.out w' hc w7 b7⟩)
         | ((with_reducible refine (RI.out _ j7).mono ?_); rintro e w7 ⟨rfl, b7⟩; exact ⟨rfl, HK.out w' hc w7 b7⟩)
         | ((with_reducible refine (CF.out _ g7 l7).mono ?_); rintro e w7 ⟨rfl, b7⟩; exact ⟨rfl, HK.out w' hc w7 b7⟩)
         | ((with_reducible refine (RF.out _ g7 j7).mono ?_); rintro e w7 ⟨rfl, b7⟩; exact ⟨rfl, HK.out w' hc w7 b7⟩)
         | ((with_reducible refine (CE.out _ l7).mono ?_); rintro e w7 ⟨rfl, b7⟩; exact ⟨rfl, HK.out w' hc w7 b7⟩)
         | ((with_reducible refine (RE.out _ j7).mono ?_); rintro e w7 ⟨rfl, b7⟩; exact ⟨rfl, HK.out w' hc w7 b7⟩)
     clear hK K
     simp only [Act.put, List.setIfInBounds_toArray, List.set_cons_zero, List.set_cons_succ])
    as_aux_lemma =>
      repeat
        first
          | go_big_quiet_skip
          | (go_big_quiet_want; go_big_quiet_op; go_big_quiet_on)
          | (refine BigFrame.wpQuiet_want rfl (fun K hK => ?_)
             apply Exists.intro
             refine ⟨fun w' hc => ?_, hK _ ?_⟩
             · obtain ⟨xRa, K4, g7, l7, j7⟩ := (HC.out w').1 hc
               have dRa0 := xRa.c0
               have dRa1 := xRa.c1
               have dRa2 := xRa.c2
               have dRa3 := xRa.c3
               have dRa4 := xRa.c4
               have dRa5 := xRa.c5
               have dRa6 := xRa.c6
               have dRa7 := xRa.c7
               have dRa8 := xRa.c8
               have dRa9 := xRa.c9
               have dRa10 := xRa.c10
               have dRa11 := xRa.c11
               have dRa12 := xRa.c12
               have dRa13 := xRa.c13
               have dRa14 := xRa.c14
               have dRa15 := xRa.c15
               have dRa16 := xRa.c16
               unfold Oper.quietAt
               go_simp
               first
                 | done
                 | rfl
             clear hK K
             simp only [Act.put, List.setIfInBounds_toArray, List.set_cons_zero, List.set_cons_succ])
      (refine BigFrame.wpQuiet_want rfl (fun K hK => ?_)
       apply Exists.intro
       refine ⟨fun w' hc => ?_, hK _ ?_⟩
       · obtain ⟨xRa, K4, g7, l7, j7⟩ := (HC.out w').1 hc
         have dRa0 := xRa.c0
         have dRa1 := xRa.c1
         have dRa2 := xRa.c2
         have dRa3 := xRa.c3
         have dRa4 := xRa.c4
         have dRa5 := xRa.c5
         have dRa6 := xRa.c6
         have dRa7 := xRa.c7
         have dRa8 := xRa.c8
         have dRa9 := xRa.c9
         have dRa10 := xRa.c10
         have dRa11 := xRa.c11
         have dRa12 := xRa.c12
         have dRa13 := xRa.c13
         have dRa14 := xRa.c14
         have dRa15 := xRa.c15
         have dRa16 := xRa.c16
         unfold Oper.quietAt
         go_simp
         first
           | ((with_reducible refine (AR.out _ g7).mono ?_); rintro e w7 ⟨rfl, b7⟩; exact ⟨rfl, HK.out w' hc w7 b7⟩)
           | ((with_reducible refine (CI.out _ l7).mono ?_); rintro e w7 ⟨rfl, b7⟩; exact ⟨rfl, HK.out w' hc w7 b7⟩)
           | ((with_reducible refine (RI.out _ j7).mono ?_); rintro e w7 ⟨rfl, b7⟩; exact ⟨rfl, HK.out w' hc w7 b7⟩)
           | ((with_reducible refine (CF.out _ g7 l7).mono ?_); rintro e w7 ⟨rfl, b7⟩; exact ⟨rfl, HK.out w' hc w7 b7⟩)
           | ((with_reducible refine (RF.out _ g7 j7).mono ?_); rintro e w7 ⟨rfl, b7⟩; exact ⟨rfl, HK.out w' hc w7 b7⟩)
           | ((with_reducible refine (CE.out _ l7).mono ?_); rintro e w7 ⟨rfl, b7⟩; exact ⟨rfl, HK.out w' hc w7 b7⟩)
           | ((with_reducible refine (RE.out _ j7).mono ?_); rintro e w7 ⟨rfl, b7⟩; exact ⟨rfl, HK.out w' hc w7 b7⟩)
       clear hK K
       simp only [Act.put, List.setIfInBounds_toArray, List.set_cons_zero, List.set_cons_succ])
      as_aux_lemma =>
        repeat
          first
            | go_big_quiet_skip
            | (go_big_quiet_want; go_big_quiet_op; go_big_quiet_on)
            | (refine BigFrame.wpQuiet_want rfl (fun K hK => ?_)
               apply Exists.intro
               refine ⟨fun w' hc => ?_, hK _ ?_⟩
               · obtain ⟨xRa, K4, g7, l7, j7⟩ := (HC.out w').1 hc
                 have dRa0 := xRa.c0
                 have dRa1 := xRa.c1
                 have dRa2 := xRa.c2
                 have dRa3 := xRa.c3
                 have dRa4 := xRa.c4
                 have dRa5 := xRa.c5
                 have dRa6 := xRa.c6
                 have dRa7 := xRa.c7
                 have dRa8 := xRa.c8
                 have dRa9 := xRa.c9
                 have dRa10 := xRa.c10
                 have dRa11 := xRa.c11
                 have dRa12 := xRa.c12
                 have dRa13 := xRa.c13
                 have dRa14 := xRa.c14
                 have dRa15 := xRa.c15
                 have dRa16 := xRa.c16
                 unfold Oper.quietAt
                 go_simp
                 first
                   | done
                   | rfl
               clear hK K
               simp only [Act.put, List.setIfInBounds_toArray, List.set_cons_zero, List.set_cons_succ])
        (refine BigFrame.wpQuiet_want rfl (fun K hK => ?_)
         apply Exists.intro
         refine ⟨fun w' hc => ?_, hK _ ?_⟩
         · obtain ⟨xRa, K4, g7, l7, j7⟩ := (HC.out w').1 hc
           have dRa0 := xRa.c0
           have dRa1 := xRa.c1
           have dRa2 := xRa.c2
           have dRa3 := xRa.c3
           have dRa4 := xRa.c4
           have dRa5 := xRa.c5
           have dRa6 := xRa.c6
           have dRa7 := xRa.c7
           have dRa8 := xRa.c8
           have dRa9 := xRa.c9
           have dRa10 := xRa.c10
           have dRa11 := xRa.c11
           have dRa12 := xRa.c12
           have dRa13 := xRa.c13
           have dRa14 := xRa.c14
           have dRa15 := xRa.c15
           have dRa16 := xRa.c16
           unfold Oper.quietAt
           go_simp
           first
             | ((with_reducible refine (AR.out _ g7).mono ?_); rintro e w7 ⟨rfl, b7⟩; exact ⟨rfl, HK.out w' hc w7 b7⟩)
             | ((with_reducible refine (CI.out _ l7).mono ?_); rintro e w7 ⟨rfl, b7⟩; exact ⟨rfl, HK.out w' hc w7 b7⟩)
             | ((with_reducible refine (RI.out _ j7).mono ?_); rintro e w7 ⟨rfl, b7⟩; exact ⟨rfl, HK.out w' hc w7 b7⟩)
             | ((with_reducible refine (CF.out _ g7 l7).mono ?_); rintro e w7 ⟨rfl, b7⟩; exact ⟨rfl, HK.out w' hc w7 b7⟩)
             | ((with_reducible refine (RF.out _ g7 j7).mono ?_); rintro e w7 ⟨rfl, b7⟩; exact ⟨rfl, HK.out w' hc w7 b7⟩)
             | ((with_reducible refine (CE.out _ l7).mono ?_); rintro e w7 ⟨rfl, b7⟩; exact ⟨rfl, HK.out w' hc w7 b7⟩)
             | ((with_reducible refine (RE.out _ j7).mono ?_); rintro e w7 ⟨rfl, b7⟩; exact ⟨rfl, HK.out w' hc w7 b7⟩)
         clear hK K
         simp only [Act.put, List.setIfInBounds_toArray, List.set_cons_zero, List.set_cons_succ])
        as_aux_lemma =>
          repeat
            first
              | go_big_quiet_skip
              | (go_big_quiet_want; go_big_quiet_op; go_big_quiet_on)
              | (refine BigFrame.wpQuiet_want rfl (fun K hK => ?_)
                 apply Exists.intro
                 refine ⟨fun w' hc => ?_, hK _ ?_⟩
                 · obtain ⟨xRa, K4, g7, l7, j7⟩ := (HC.out w').1 hc
                   have dRa0 := xRa.c0
                   have dRa1 := xRa.c1
                   have dRa2 := xRa.c2
                   have dRa3 := xRa.c3
                   have dRa4 := xRa.c4
                   have dRa5 := xRa.c5
                   have dRa6 := xRa.c6
                   have dRa7 := xRa.c7
                   have dRa8 := xRa.c8
                   have dRa9 := xRa.c9
                   have dRa10 := xRa.c10
                   have dRa11 := xRa.c11
                   have dRa12 := xRa.c12
                   have dRa13 := xRa.c13
                   have dRa14 := xRa.c14
                   have dRa15 := xRa.c15
                   have dRa16 := xRa.c16
                   unfold Oper.quietAt
                   go_simp
                   first
                     | done
                     | rfl
                 clear hK K
                 simp only [Act.put, List.setIfInBounds_toArray, List.set_cons_zero, List.set_cons_succ])
          (refine BigFrame.wpQuiet_want rfl (fun K hK => ?_)
           apply Exists.intro
           refine ⟨fun w' hc => ?_, hK _ ?_⟩
           · obtain ⟨xRa, K4, g7, l7, j7⟩ := (HC.out w').1 hc
             have dRa0 := xRa.c0
             have dRa1 := xRa.c1
             have dRa2 := xRa.c2
             have dRa3 := xRa.c3
             have dRa4 := xRa.c4
             have dRa5 := xRa.c5
             have dRa6 := xRa.c6
             have dRa7 := xRa.c7
             have dRa8 := xRa.c8
             have dRa9 := xRa.c9
             have dRa10 := xRa.c10
             have dRa11 := xRa.c11
             have dRa12 := xRa.c12
             have dRa13 := xRa.c13
             have dRa14 := xRa.c14
             have dRa15 := xRa.c15
             have dRa16 := xRa.c16
             unfold Oper.quietAt
             go_simp
             first
               | ((with_reducible refine (AR.out _ g7).mono ?_); rintro e w7 ⟨rfl, b7⟩; exact ⟨rfl, HK.out w' hc w7 b7⟩)
               | ((with_reducible refine (CI.out _ l7).mono ?_); rintro e w7 ⟨rfl, b7⟩; exact ⟨rfl, HK.out w' hc w7 b7⟩)
               | ((with_reducible refine (RI.out _ j7).mono ?_); rintro e w7 ⟨rfl, b7⟩; exact ⟨rfl, HK.out w' hc w7 b7⟩)
               | ((with_reducible refine (CF.out _ g7 l7).mono ?_); rintro e w7 ⟨rfl, b7⟩; exact ⟨rfl, HK.out w' hc w7 b7⟩)
               | ((with_reducible refine (RF.out _ g7 j7).mono ?_); rintro e w7 ⟨rfl, b7⟩; exact ⟨rfl, HK.out w' hc w7 b7⟩)
               | ((with_reducible refine (CE.out _ l7).mono ?_); rintro e w7 ⟨rfl, b7⟩; exact ⟨rfl, HK.out w' hc w7 b7⟩)
               | ((with_reducible refine (RE.out _ j7).mono ?_); rintro e w7 ⟨rfl, b7⟩; exact ⟨rfl, HK.out w' hc w7 b7⟩)
           clear hK K
           simp only [Act.put, List.setIfInBounds_toArray, List.set_cons_zero, List.set_cons_succ])
          as_aux_lemma =>
            repeat
              first
                | go_big_quiet_skip
                | (go_big_quiet_want; go_big_quiet_op; go_big_quiet_on)
                | (refine BigFrame.wpQuiet_want rfl (fun K hK => ?_)
                   apply Exists.intro
                   refine ⟨fun w' hc => ?_, hK _ ?_⟩
                   · obtain ⟨xRa, K4, g7, l7, j7⟩ := (HC.out w').1 hc
                     have dRa0 := xRa.c0
                     have dRa1 := xRa.c1
                     have dRa2 := xRa.c2
                     have dRa3 := xRa.c3
                     have dRa4 := xRa.c4
                     have dRa5 := xRa.c5
                     have dRa6 := xRa.c6
                     have dRa7 := xRa.c7
                     have dRa8 := xRa.c8
                     have dRa9 := xRa.c9
                     have dRa10 := xRa.c10
                     have dRa11 := xRa.c11
                     have dRa12 := xRa.c12
                     have dRa13 := xRa.c13
                     have dRa14 := xRa.c14
                     have dRa15 := xRa.c15
                     have dRa16 := xRa.c16
                     unfold Oper.quietAt
                     go_simp
                     first
                       | done
                       | rfl
                   clear hK K
                   simp only [Act.put, List.setIfInBounds_toArray, List.set_cons_zero, List.set_cons_succ])
            (refine BigFrame.wpQuiet_want rfl (fun K hK => ?_)
             apply Exists.intro
             refine ⟨fun w' hc => ?_, hK _ ?_⟩
             · obtain ⟨xRa, K4, g7, l7, j7⟩ := (HC.out w').1 hc
               have dRa0 := xRa.c0
               have dRa1 := xRa.c1
               have dRa2 := xRa.c2
               have dRa3 := xRa.c3
               have dRa4 := xRa.c4
               have dRa5 := xRa.c5
               have dRa6 := xRa.c6
               have dRa7 := xRa.c7
               have dRa8 := xRa.c8
               have dRa9 := xRa.c9
               have dRa10 := xRa.c10
               have dRa11 := xRa.c11
               have dRa12 := xRa.c12
               have dRa13 := xRa.c13
               have dRa14 := xRa.c14
               have dRa15 := xRa.c15
               have dRa16 := xRa.c16
               unfold Oper.quietAt
               go_simp
               first
                 | ((with_reducible refine (AR.out _ g7).mono ?_); rintro e w7 ⟨rfl, b7⟩; exact ⟨rfl, HK.out w' hc w7 b7⟩)
                 | ((with_reducible refine (CI.out _ l7).mono ?_); rintro e w7 ⟨rfl, b7⟩; exact ⟨rfl, HK.out w' hc w7 b7⟩)
                 | ((with_reducible refine (RI.out _ j7).mono ?_); rintro e w7 ⟨rfl, b7⟩; exact ⟨rfl, HK.out w' hc w7 b7⟩)
                 | ((with_reducible refine (CF.out _ g7 l7).mono ?_); rintro e w7 ⟨rfl, b7⟩; exact ⟨rfl, HK.out w' hc w7 b7⟩)
                 | ((with_reducible refine (RF.out _ g7 j7).mono ?_); rintro e w7 ⟨rfl, b7⟩; exact ⟨rfl, HK.out w' hc w7 b7⟩)
                 | ((with_reducible refine (CE.out _ l7).mono ?_); rintro e w7 ⟨rfl, b7⟩; exact ⟨rfl, HK.out w' hc w7 b7⟩)
                 | ((with_reducible refine (RE.out _ j7).mono ?_); rintro e w7 ⟨rfl, b7⟩; exact ⟨rfl, HK.out w' hc w7 b7⟩)
             clear hK K
             simp only [Act.put, List.setIfInBounds_toArray, List.set_cons_zero, List.set_cons_succ])
            as_aux_lemma =>
              repeat
                first
                  | go_big_quiet_skip
                  | (go_big_quiet_want; go_big_quiet_op; go_big_quiet_on)
                  | (refine BigFrame.wpQuiet_want rfl (fun K hK => ?_)
                     apply Exists.intro
                     refine ⟨fun w' hc => ?_, hK _ ?_⟩
                     · obtain ⟨xRa, K4, g7, l7, j7⟩ := (HC.out w').1 hc
                       have dRa0 := xRa.c0
                       have dRa1 := xRa.c1
                       have dRa2 := xRa.c2
                       have dRa3 := xRa.c3
                       have dRa4 := xRa.c4
                       have dRa5 := xRa.c5
                       have dRa6 := xRa.c6
                       have dRa7 := xRa.c7
                       have dRa8 := xRa.c8
                       have dRa9 := xRa.c9
                       have dRa10 := xRa.c10
                       have dRa11 := xRa.c11
                       have dRa12 := xRa.c12
                       have dRa13 := xRa.c13
                       have dRa14 := xRa.c14
                       have dRa15 := xRa.c15
                       have dRa16 := xRa.c16
                       unfold Oper.quietAt
                       go_simp
                       first
                         | done
                         | rfl
                     clear hK K
                     simp only [Act.put, List.setIfInBounds_toArray, List.set_cons_zero, List.set_cons_succ])
              (refine BigFrame.wpQuiet_want rfl (fun K hK => ?_)
               apply Exists.intro
               refine ⟨fun w' hc => ?_, hK _ ?_⟩
               · obtain ⟨xRa, K4, g7, l7, j7⟩ := (HC.out w').1 hc
                 have dRa0 := xRa.c0
                 have dRa1 := xRa.c1
                 have dRa2 := xRa.c2
                 have dRa3 := xRa.c3
                 have dRa4 := xRa.c4
                 have dRa5 := xRa.c5
                 have dRa6 := xRa.c6
                 have dRa7 := xRa.c7
                 have dRa8 := xRa.c8
                 have dRa9 := xRa.c9
                 have dRa10 := xRa.c10
                 have dRa11 := xRa.c11
                 have dRa12 := xRa.c12
                 have dRa13 := xRa.c13
                 have dRa14 := xRa.c14
                 have dRa15 := xRa.c15
                 have dRa16 := xRa.c16
                 unfold Oper.quietAt
                 go_simp
                 first
                   | ((with_reducible refine (AR.out _ g7).mono ?_); rintro e w7 ⟨rfl, b7⟩; exact ⟨rfl, HK.out w' hc w7 b7⟩)
                   | ((with_reducible refine (CI.out _ l7).mono ?_); rintro e w7 ⟨rfl, b7⟩; exact ⟨rfl, HK.out w' hc w7 b7⟩)
                   | ((with_reducible refine (RI.out _ j7).mono ?_); rintro e w7 ⟨rfl, b7⟩; exact ⟨rfl, HK.out w' hc w7 b7⟩)
                   | ((with_reducible refine (CF.out _ g7 l7).mono ?_); rintro e w7 ⟨rfl, b7⟩; exact ⟨rfl, HK.out w' hc w7 b7⟩)
                   | ((with_reducible refine (RF.out _ g7 j7).mono ?_); rintro e w7 ⟨rfl, b7⟩; exact ⟨rfl, HK.out w' hc w7 b7⟩)
                   | ((with_reducible refine (CE.out _ l7).mono ?_); rintro e w7 ⟨rfl, b7⟩; exact ⟨rfl, HK.out w' hc w7 b7⟩)
                   | ((with_reducible refine (RE.out _ j7).mono ?_); rintro e w7 ⟨rfl, b7⟩; exact ⟨rfl, HK.out w' hc w7 b7⟩)
               clear hK K
               simp only [Act.put, List.setIfInBounds_toArray, List.set_cons_zero, List.set_cons_succ])
              as_aux_lemma =>
                repeat
                  first
                    | go_big_quiet_skip
                    | (go_big_quiet_want; go_big_quiet_op; go_big_quiet_on)
                    | (refine BigFrame.wpQuiet_want rfl (fun K hK => ?_)
                       apply Exists.intro
                       refine ⟨fun w' hc => ?_, hK _ ?_⟩
                       · obtain ⟨xRa, K4, g7, l7, j7⟩ := (HC.out w').1 hc
                         have dRa0 := xRa.c0
                         have dRa1 := xRa.c1
                         have dRa2 := xRa.c2
                         have dRa3 := xRa.c3
                         have dRa4 := xRa.c4
                         have dRa5 := xRa.c5
                         have dRa6 := xRa.c6
                         have dRa7 := xRa.c7
                         have dRa8 := xRa.c8
                         have dRa9 := xRa.c9
                         have dRa10 := xRa.c10
                         have dRa11 := xRa.c11
                         have dRa12 := xRa.c12
                         have dRa13 := xRa.c13
                         have dRa14 := xRa.c14
                         have dRa15 := xRa.c15
                         have dRa16 := xRa.c16
                         unfold Oper.quietAt
                         go_simp
                         first
                           | done
                           | rfl
                           | ((with_reducible refine (AR.out _ g7).mono ?_); rintro e w7 ⟨rfl, b7⟩; exact ⟨rfl, HK.out w' hc w7 b7⟩)
                           | ((with_reducible refine (CI.out _ l7).mono ?_); rintro e w7 ⟨rfl, b7⟩; exact ⟨rfl, HK.out w' hc w7 b7⟩)
                           | ((with_reducible refine (RI.out _ j7).mono ?_); rintro e w7 ⟨rfl, b7⟩; exact ⟨rfl, HK.out w' hc w7 b7⟩)
                           | ((with_reducible refine (CF.out _ g7 l7).mono ?_); rintro e w7 ⟨rfl, b7⟩; exact ⟨rfl, HK.out w' hc w7 b7⟩)
                           | ((with_reducible refine (RF.out _ g7 j7).mono ?_); rintro e w7 ⟨rfl, b7⟩; exact ⟨rfl, HK.out w' hc w7 b7⟩)
                           | ((with_reducible refine (CE.out _ l7).mono ?_); rintro e w7 ⟨rfl, b7⟩; exact ⟨rfl, HK.out w' hc w7 b7⟩)
                           | ((with_reducible refine (RE.out _ j7).mono ?_); rintro e w7 ⟨rfl, b7⟩; exact ⟨rfl, HK.out w' hc w7 b7⟩)
                       clear hK K
                       simp only [Act.put, List.setIfInBounds_toArray, List.set_cons_zero, List.set_cons_succ])
                refine wpQuiet_nil ?_
                intro w3 hc
                obtain ⟨xRa_w3, Bw3, gw3, lw3, jw3⟩ := (HC.out w3).1 hc
                clear hc HC HK
                go_wp2
                go_ret
                exact ⟨rfl, by rw [HR.out]; exact Bw3⟩
theorem allowOrder_law (L : List Src) (v : Value) (hl0 : L.length ≤ 9223372036854775807) (hc : ∃ a c, v = .slice a L.length c ∧ L.length ≤ c) (rk : Int) (rt : ByteArray) (o : Bool) (s2 h2 : ByteArray) (p : Int) (pa2 q2 : ByteArray) (mv : Bool) (rn : ByteArray) (pr : Bool) (o3 : Bool) (s3 h3 : ByteArray) (p3 : Int) (pa3 q3 : ByteArray) (at_ : Int) (w : World) (hw : Low w) (hv : SrcsIn w v L) : Calls Tryz.prog 6 #[v, reqV rk rt o s2 h2 p pa2 q2 mv rn pr o3 s3 h3 p3 pa3 q3, .int .i64 at_] w fun e w' => e = .returned (.bool true) ∧ Below w.heap.size w w' := by
  obtain ⟨a, c, rfl, hc⟩ := hc
  by_cases n1 : at_ < 0
  · exact order_low L a c hl0 rk rt o s2 h2 p pa2 q2 mv rn pr o3 s3 h3 p3 pa3 q3 at_ n1 w hw hv
  by_cases n2 : (L.length : Int) < at_
  · exact order_high L a c hl0 rk rt o s2 h2 p pa2 q2 mv rn pr o3 s3 h3 p3 pa3 q3 at_ n1 n2 w hw hv
  obtain ⟨i, rfl⟩ : ∃ i : Nat, at_ = i := ⟨at_.toNat, by omega⟩
  exact order_is L a c hl0 hc rk rt o s2 h2 p pa2 q2 mv rn pr o3 s3 h3 p3 pa3 q3 i (by omega) w hw hv

end Go.Proofs.YtaldjkbnngeahaaGreatDoor
