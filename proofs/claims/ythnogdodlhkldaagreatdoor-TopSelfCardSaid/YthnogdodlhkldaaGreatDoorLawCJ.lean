/- What is of the page's own origin: the walk behind a right address, the moved address being wrong. -/
import Derived.Test.YthnogdodlhkldaaGreatDoorLawCK
namespace Go.Proofs.YthnogdodlhkldaaGreatDoor
open Go.RowKit



set_option maxRecDepth 100000 in
set_option maxHeartbeats 8000000 in
theorem self_core_f (s2 h2 : ByteArray) (p : Int) (pa2 q2 path text : ByteArray) (Z : Prop) (LG : Hid (∀ W : World, Calls Tryz.prog 29 #[.slice (some ⟨W.heap.size, 0, none⟩) 6 6] (W.alloc (.cells #[.string s2, .string h2, .string pa2, .string q2, .string path, .string text] 9)) fun e w' => ∃ b, e = .returned (.bool b) ∧ w' = W.alloc (.cells #[.string s2, .string h2, .string pa2, .string q2, .string path, .string text] 9) ∧ (b = false → Z))) (CF : Hid (∀ W, Low W → Calls Tryz.prog 33 #[] W fun e w' => e = .returned (.bool true) ∧ Below W.heap.size W w')) (CK : Hid (Z → Hid (∀ W, Low W → Calls Tryz.prog 34 #[uV false s2 h2 p pa2 q2] W fun e w' => e = .returned (.int .i64 0) ∧ Below W.heap.size W w'))) (CV : Hid (Z → Hid (∀ W, Low W → Calls Tryz.prog 34 #[uV false s2 h2 p path ⟨#[]⟩] W fun e w' => e = .returned (.int .i64 50) ∧ Below W.heap.size W w'))) (SF : Hid (Z → Hid (∀ W, Low W → Calls Tryz.prog 32 #[.string ⟨#[115, 99, 114, 105, 112, 116, 45, 115, 114, 99, 32, 39, 115, 101, 108, 102, 39]⟩, reqV 2 ⟨#[]⟩ false s2 h2 p path ⟨#[]⟩ false ⟨#[]⟩ true false s2 h2 p pa2 q2] W fun e w' => e = .returned (.bool false) ∧ Below W.heap.size W w'))) (SI : Hid (Z → Hid (∀ W, Low W → Calls Tryz.prog 32 #[.string ⟨#[115, 99, 114, 105, 112, 116, 45, 115, 114, 99, 32, 39, 115, 101, 108, 102, 39]⟩, reqV 1 text false ⟨#[]⟩ ⟨#[]⟩ 0 ⟨#[]⟩ ⟨#[]⟩ false ⟨#[]⟩ false false s2 h2 p pa2 q2] W fun e w' => e = .returned (.bool false) ∧ Below W.heap.size W w'))) (w : World) (hw : Low w) : Calls Tryz.prog 10 #[uV false s2 h2 p pa2 q2, .string path, .string text] w fun e w' => e = .returned (.bool true) ∧ Below w.heap.size w w' := by
  unfold uV at CK CV ⊢
  go_enter Tryz.func10, Tryz.ntmps10
  go_wp2_with fail
  have HG0 := Lib.hid ((hw.made (.cells #[.bool false, .string s2, .string h2, .int .i64 p, .string pa2, .string q2] 40)).made (.cells #[.string s2, .string h2, .string pa2, .string q2, .string path, .string text] 9))
  have HB0 := Lib.hid (((Below.refl w.heap.size w).alloc (Nat.le_refl _) (.cells #[.bool false, .string s2, .string h2, .int .i64 p, .string pa2, .string q2] 40)).alloc (Below.size ((Below.refl w.heap.size w).alloc (Nat.le_refl _) (.cells #[.bool false, .string s2, .string h2, .int .i64 p, .string pa2, .string q2] 40))) (.cells #[.string s2, .string h2, .string pa2, .string q2, .string path, .string text] 9))
  have HX0 := Lib.hid ((BX.made w false s2 h2 p pa2 q2).below ((Below.refl _ _).alloc (Nat.le_refl _) (.cells #[.string s2, .string h2, .string pa2, .string q2, .string path, .string text] 9)))
  clear hw
  have LG2 := LG.out (w.alloc (.cells #[.bool false, .string s2, .string h2, .int .i64 p, .string pa2, .string q2] 40))
  rw [size_alloc] at LG2
  refine LG2.mono ?_
  rintro e w1 ⟨b0, rfl, rfl, hz⟩
  have HZ := Lib.hid hz
  clear hz LG LG2
  generalize hR : w.heap.size = Ra at HB0 HX0 ⊢
  have HR := Lib.hid hR
  clear hR
  generalize (w.alloc (.cells #[.bool false, .string s2, .string h2, .int .i64 p, .string pa2, .string q2] 40)).alloc (.cells #[.string s2, .string h2, .string pa2, .string q2, .string path, .string text] 9) = w1 at HG0 HB0 HX0 ⊢
  have gw1 := HG0.out
  have Bw1 := HB0.out
  have xRa_w1 := HX0.out
  clear HG0 HB0 HX0
  cases b0
  case true =>
    go_wp2_with fail
    refine (CF.out _ gw1).mono ?_
    rintro e w2 ⟨rfl, b_⟩
    have gw2 := gw1.below b_
    have Bw2 := Bw1.trans (b_.mono (Nat.le_of_lt xRa_w1.lt))
    have xRa_w2 := xRa_w1.below b_
    clear b_ gw1 Bw1 xRa_w1
    go_wp2
    go_ret
    exact ⟨rfl, by rw [HR.out]; exact Bw2⟩
  have CK2 := Lib.hid (CK.out (HZ.out (by trivial))).out
  have CV2 := Lib.hid (CV.out (HZ.out (by trivial))).out
  have SF2 := Lib.hid (SF.out (HZ.out (by trivial))).out
  have SI2 := Lib.hid (SI.out (HZ.out (by trivial))).out
  clear CK CV SF SI HZ
  have dRa0 := xRa_w1.c0
  have dRa1 := xRa_w1.c1
  have dRa2 := xRa_w1.c2
  have dRa3 := xRa_w1.c3
  have dRa4 := xRa_w1.c4
  have dRa5 := xRa_w1.c5
  go_wp2_with fail
  clear dRa0 dRa1 dRa2 dRa3 dRa4 dRa5
  refine (CK2.out _ gw1).mono ?_
  rintro e w2 ⟨rfl, b_⟩
  have gw2 := gw1.below b_
  have Bw2 := Bw1.trans (b_.mono (Nat.le_of_lt xRa_w1.lt))
  have xRa_w2 := xRa_w1.below b_
  clear b_ gw1 Bw1 xRa_w1
  ·
    have dRa0 := xRa_w2.c0
    have dRa1 := xRa_w2.c1
    have dRa2 := xRa_w2.c2
    have dRa3 := xRa_w2.c3
    have dRa4 := xRa_w2.c4
    have dRa5 := xRa_w2.c5
    have bv : Below w2.heap.size w2 (w2.alloc (.cells #[.bool false, .string s2, .string h2, .int .i64 p, .string path, .string ⟨#[]⟩] 40)) := (Below.refl _ _).alloc (Nat.le_refl _) (.cells #[.bool false, .string s2, .string h2, .int .i64 p, .string path, .string ⟨#[]⟩] 40)
    have xv : BX (w2.alloc (.cells #[.bool false, .string s2, .string h2, .int .i64 p, .string path, .string ⟨#[]⟩] 40)) w2.heap.size false s2 h2 p path ⟨#[]⟩ := BX.made w2 false s2 h2 p path ⟨#[]⟩
    have xu := xRa_w2.below bv
    have sv : (w2.alloc (.cells #[.bool false, .string s2, .string h2, .int .i64 p, .string path, .string ⟨#[]⟩] 40)).heap.size = w2.heap.size + 1 := size_alloc _ _
    have bf : Below (w2.alloc (.cells #[.bool false, .string s2, .string h2, .int .i64 p, .string path, .string ⟨#[]⟩] 40)).heap.size (w2.alloc (.cells #[.bool false, .string s2, .string h2, .int .i64 p, .string path, .string ⟨#[]⟩] 40)) ((w2.alloc (.cells #[.bool false, .string s2, .string h2, .int .i64 p, .string path, .string ⟨#[]⟩] 40)).alloc (.cells #[.int .i64 2, .string ⟨#[]⟩, .bool false, .string s2, .string h2, .int .i64 p, .string path, .string ⟨#[]⟩, .bool false, .string ⟨#[]⟩, .bool true, .bool false, .string s2, .string h2, .int .i64 p, .string pa2, .string q2] 42)) := (Below.refl _ _).alloc (Nat.le_refl _) _
    have xf := RX.made (w2.alloc (.cells #[.bool false, .string s2, .string h2, .int .i64 p, .string path, .string ⟨#[]⟩] 40)) 2 ⟨#[]⟩ false s2 h2 p path ⟨#[]⟩ false ⟨#[]⟩ true false s2 h2 p pa2 q2
    rw [sv] at xf
    have xv2 := xv.below bf
    have xu2 := xu.below bf
    have sf : ((w2.alloc (.cells #[.bool false, .string s2, .string h2, .int .i64 p, .string path, .string ⟨#[]⟩] 40)).alloc (.cells #[.int .i64 2, .string ⟨#[]⟩, .bool false, .string s2, .string h2, .int .i64 p, .string path, .string ⟨#[]⟩, .bool false, .string ⟨#[]⟩, .bool true, .bool false, .string s2, .string h2, .int .i64 p, .string pa2, .string q2] 42)).heap.size = w2.heap.size + 1 + 1 := by rw [size_alloc, sv]
    have bi : Below ((w2.alloc (.cells #[.bool false, .string s2, .string h2, .int .i64 p, .string path, .string ⟨#[]⟩] 40)).alloc (.cells #[.int .i64 2, .string ⟨#[]⟩, .bool false, .string s2, .string h2, .int .i64 p, .string path, .string ⟨#[]⟩, .bool false, .string ⟨#[]⟩, .bool true, .bool false, .string s2, .string h2, .int .i64 p, .string pa2, .string q2] 42)).heap.size ((w2.alloc (.cells #[.bool false, .string s2, .string h2, .int .i64 p, .string path, .string ⟨#[]⟩] 40)).alloc (.cells #[.int .i64 2, .string ⟨#[]⟩, .bool false, .string s2, .string h2, .int .i64 p, .string path, .string ⟨#[]⟩, .bool false, .string ⟨#[]⟩, .bool true, .bool false, .string s2, .string h2, .int .i64 p, .string pa2, .string q2] 42)) (((w2.alloc (.cells #[.bool false, .string s2, .string h2, .int .i64 p, .string path, .string ⟨#[]⟩] 40)).alloc (.cells #[.int .i64 2, .string ⟨#[]⟩, .bool false, .string s2, .string h2, .int .i64 p, .string path, .string ⟨#[]⟩, .bool false, .string ⟨#[]⟩, .bool true, .bool false, .string s2, .string h2, .int .i64 p, .string pa2, .string q2] 42)).alloc (.cells #[.int .i64 1, .string text, .bool false, .string ⟨#[]⟩, .string ⟨#[]⟩, .int .i64 0, .string ⟨#[]⟩, .string ⟨#[]⟩, .bool false, .string ⟨#[]⟩, .bool false, .bool false, .string s2, .string h2, .int .i64 p, .string pa2, .string q2] 42)) := (Below.refl _ _).alloc (Nat.le_refl _) _
    have xi := RX.made ((w2.alloc (.cells #[.bool false, .string s2, .string h2, .int .i64 p, .string path, .string ⟨#[]⟩] 40)).alloc (.cells #[.int .i64 2, .string ⟨#[]⟩, .bool false, .string s2, .string h2, .int .i64 p, .string path, .string ⟨#[]⟩, .bool false, .string ⟨#[]⟩, .bool true, .bool false, .string s2, .string h2, .int .i64 p, .string pa2, .string q2] 42)) 1 text false ⟨#[]⟩ ⟨#[]⟩ 0 ⟨#[]⟩ ⟨#[]⟩ false ⟨#[]⟩ false false s2 h2 p pa2 q2
    rw [sf] at xi
    have xf3 := xf.below bi
    have xv3 := xv2.below bi
    have xu3 := xu2.below bi
    have b3 : Below w2.heap.size w2 (((w2.alloc (.cells #[.bool false, .string s2, .string h2, .int .i64 p, .string path, .string ⟨#[]⟩] 40)).alloc (.cells #[.int .i64 2, .string ⟨#[]⟩, .bool false, .string s2, .string h2, .int .i64 p, .string path, .string ⟨#[]⟩, .bool false, .string ⟨#[]⟩, .bool true, .bool false, .string s2, .string h2, .int .i64 p, .string pa2, .string q2] 42)).alloc (.cells #[.int .i64 1, .string text, .bool false, .string ⟨#[]⟩, .string ⟨#[]⟩, .int .i64 0, .string ⟨#[]⟩, .string ⟨#[]⟩, .bool false, .string ⟨#[]⟩, .bool false, .bool false, .string s2, .string h2, .int .i64 p, .string pa2, .string q2] 42)) := (bv.trans (bf.mono (by rw [sv]; exact Nat.le_succ _))).trans (bi.mono (by rw [sf]; exact Nat.le_trans (Nat.le_succ _) (Nat.le_succ _)))
    have g3 := gw2.below b3
    have B3 := Bw2.trans (b3.mono (Nat.le_of_lt xRa_w2.lt))
    have HX := Lib.hid xi
    have HY := Lib.hid xf3
    have HZ2 := Lib.hid xv3
    have HU := Lib.hid xu3
    have HG := Lib.hid g3
    have HB := Lib.hid B3
    have k0 := xu.c0
    have k1 := xu.c1
    have k2 := xu.c2
    have k3 := xu.c3
    have k4 := xu.c4
    have k5 := xu.c5
    have l0 := xu2.c0
    have l1 := xu2.c1
    have l2 := xu2.c2
    have l3 := xu2.c3
    have l4 := xu2.c4
    have l5 := xu2.c5
    have m0 := xv.c0
    have m1 := xv.c1
    have m2 := xv.c2
    have m3 := xv.c3
    have m4 := xv.c4
    have m5 := xv.c5
    clear xi xf3 xv3 xu3 g3 B3 b3 bi bf bv xu xu2 xv xv2 xf sv sf gw2 Bw2 xRa_w2
    go_wp2_with fail
    clear dRa0 dRa1 dRa2 dRa3 dRa4 dRa5
    clear k0 k1 k2 k3 k4 k5 l0 l1 l2 l3 l4 l5 m0 m1 m2 m3 m4 m5
    generalize ((w2.alloc (.cells #[.bool false, .string s2, .string h2, .int .i64 p, .string path, .string ⟨#[]⟩] 40)).alloc (.cells #[.int .i64 2, .string ⟨#[]⟩, .bool false, .string s2, .string h2, .int .i64 p, .string path, .string ⟨#[]⟩, .bool false, .string ⟨#[]⟩, .bool true, .bool false, .string s2, .string h2, .int .i64 p, .string pa2, .string q2] 42)).alloc (.cells #[.int .i64 1, .string text, .bool false, .string ⟨#[]⟩, .string ⟨#[]⟩, .int .i64 0, .string ⟨#[]⟩, .string ⟨#[]⟩, .bool false, .string ⟨#[]⟩, .bool false, .bool false, .string s2, .string h2, .int .i64 p, .string pa2, .string q2] 42) = w9 at HX HY HZ2 HU HG HB ⊢
    generalize w2.heap.size = Rv at HX HY HZ2 ⊢
    obtain ⟨Rf, hRf⟩ : ∃ Rf, Rv + 1 = Rf := ⟨_, rfl⟩
    rw [hRf] at HX HY
    try rw [hRf]
    obtain ⟨Ri, hRi⟩ : ∃ Ri, Rf + 1 = Ri := ⟨_, rfl⟩
    rw [hRi] at HX
    try rw [hRi]
    clear hRf hRi
    have xRi_w9 := HX.out
    have xRf_w9 := HY.out
    have xRv_w9 := HZ2.out
    have xRa_w9 := HU.out
    have gw9 := HG.out
    have Bw9 := HB.out
    clear HX HY HZ2 HU HG HB
    ·
      obtain ⟨C, hC⟩ : ∃ C : World → Prop, ∀ w', C w' ↔ (BX w' Ra false s2 h2 p pa2 q2 ∧ BX w' Rv false s2 h2 p path ⟨#[]⟩ ∧ RX w' Rf 2 ⟨#[]⟩ false s2 h2 p path ⟨#[]⟩ false ⟨#[]⟩ true false s2 h2 p pa2 q2 ∧ RX w' Ri 1 text false ⟨#[]⟩ ⟨#[]⟩ 0 ⟨#[]⟩ ⟨#[]⟩ false ⟨#[]⟩ false false s2 h2 p pa2 q2 ∧ Below Ra w w' ∧ Low w') := ⟨_, fun _ => Iff.rfl⟩
      have HC := Lib.hid hC
      clear hC
      have hC0 : C w9.drew := (HC.out _).2 ⟨xRa_w9, xRv_w9, xRf_w9, xRi_w9, Bw9.drew, gw9.drew⟩
      have HK : Hid (∀ w', C w' → ∀ w7, Below w'.heap.size w' w7 → C w7) := Lib.hid fun w' hc w7 b => by
        obtain ⟨xRa, xRv, xRf, xRi, K4, g7⟩ := (HC.out w').1 hc
        exact (HC.out _).2 ⟨xRa.below b, xRv.below b, xRf.below b, xRi.below b, K4.trans (b.mono (Nat.le_of_lt xRa.lt)), g7.below b⟩
      clear xRa_w9 xRv_w9 xRf_w9 xRi_w9 Bw9 gw9
      refine region_class C (by kernel_rfl) (by kernel_rfl) hC0 ?_
      clear hC0
      repeat
        first
          | go_big_quiet_skip
          | (go_big_quiet_want; go_big_quiet_op; go_big_quiet_on)
          | (refine BigFrame.wpQuiet_want rfl (fun K hK => ?_)
             apply Exists.intro
             refine ⟨fun w' hc => ?_, hK _ ?_⟩
             · obtain ⟨xRa, xRv, xRf, xRi, K4, g7⟩ := (HC.out w').1 hc
               first
                 | exact quiet_load rfl rfl xRf.load
                 | exact quiet_load rfl rfl xRi.load
                 | (unfold Oper.quietAt
                    go_simp
                    first
                      | done
                      | rfl
                      | ((with_reducible refine (CF.out _ g7).mono ?_); rintro e w7 ⟨rfl, b7⟩; exact ⟨rfl, HK.out w' hc w7 b7⟩)
                      | ((with_reducible refine (SF2.out _ g7).mono ?_); rintro e w7 ⟨rfl, b7⟩; exact ⟨rfl, HK.out w' hc w7 b7⟩)
                      | ((with_reducible refine (CV2.out _ g7).mono ?_); rintro e w7 ⟨rfl, b7⟩; exact ⟨rfl, HK.out w' hc w7 b7⟩)
                      | ((with_reducible refine (SI2.out _ g7).mono ?_); rintro e w7 ⟨rfl, b7⟩; exact ⟨rfl, HK.out w' hc w7 b7⟩))
                 | (have dRv0 := xRv.c0
                    have dRv1 := xRv.c1
                    have dRv2 := xRv.c2
                    have dRv3 := xRv.c3
                    have dRv4 := xRv.c4
                    have dRv5 := xRv.c5
                    unfold Oper.quietAt
                    go_simp
                    first
                      | done
                      | rfl)
             clear hK K
             simp only [Act.put, List.setIfInBounds_toArray, List.set_cons_zero, List.set_cons_succ])
      refine wpQuiet_nil ?_
      intro w10 hc
      obtain ⟨xRa_w10, xRv_w10, xRf_w10, xRi_w10, Bw10, gw10⟩ := (HC.out w10).1 hc
      clear hc HC HK
      ·
        go_wp2
        go_ret
        exact ⟨rfl, by rw [HR.out]; exact Bw10⟩

end Go.Proofs.YthnogdodlhkldaaGreatDoor
