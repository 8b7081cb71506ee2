/- What is of the page's own origin is let be by the word self. -/
import Derived.Test.YthnogdodlhkldaaGreatDoorTopA
import Derived.Test.YthnogdodlhkldaaGreatDoorLawCI
import Derived.Test.YthnogdodlhkldaaGreatDoorLawCJ
namespace Go.Proofs.YthnogdodlhkldaaGreatDoor
open Go.RowKit


set_option maxRecDepth 100000 in
set_option maxHeartbeats 8000000 in
theorem self_ends (o : Bool) (s2 h2 : ByteArray) (p : Int) (pa2 q2 path text : ByteArray) (Z : Prop) (n : Int) (HE : Hid (n = 50 ∨ n = 0 ∧ o = true)) (LG : Hid (∀ W : World, Calls Tryz.prog 29 #[.slice (some ⟨W.heap.size, 0, none⟩) 6 6] (W.alloc (.cells #[.string s2, .string h2, .string pa2, .string q2, .string path, .string text] 9)) fun e w' => ∃ b, e = .returned (.bool b) ∧ w' = W.alloc (.cells #[.string s2, .string h2, .string pa2, .string q2, .string path, .string text] 9) ∧ (b = false → Z))) (CF : Hid (∀ W, Low W → Calls Tryz.prog 33 #[] W fun e w' => e = .returned (.bool true) ∧ Below W.heap.size W w')) (CK : Hid (Z → Hid (∀ W, Low W → Calls Tryz.prog 34 #[uV o s2 h2 p pa2 q2] W fun e w' => e = .returned (.int .i64 n) ∧ Below W.heap.size W w'))) (w : World) (hw : Low w) : Calls Tryz.prog 10 #[uV o s2 h2 p pa2 q2, .string path, .string text] w fun e w' => e = .returned (.bool true) ∧ Below w.heap.size w w' := by
  unfold uV at CK ⊢
  go_enter Tryz.func10, Tryz.ntmps10
  go_wp2_with fail
  have HG0 := Lib.hid ((hw.made (.cells #[.bool o, .string s2, .string h2, .int .i64 p, .string pa2, .string q2] 40)).made (.cells #[.string s2, .string h2, .string pa2, .string q2, .string path, .string text] 9))
  have HB0 := Lib.hid (((Below.refl w.heap.size w).alloc (Nat.le_refl _) (.cells #[.bool o, .string s2, .string h2, .int .i64 p, .string pa2, .string q2] 40)).alloc (Below.size ((Below.refl w.heap.size w).alloc (Nat.le_refl _) (.cells #[.bool o, .string s2, .string h2, .int .i64 p, .string pa2, .string q2] 40))) (.cells #[.string s2, .string h2, .string pa2, .string q2, .string path, .string text] 9))
  have HX0 := Lib.hid ((BX.made w o s2 h2 p pa2 q2).below ((Below.refl _ _).alloc (Nat.le_refl _) (.cells #[.string s2, .string h2, .string pa2, .string q2, .string path, .string text] 9)))
  clear hw
  have LG2 := LG.out (w.alloc (.cells #[.bool o, .string s2, .string h2, .int .i64 p, .string pa2, .string q2] 40))
  rw [size_alloc] at LG2
  refine LG2.mono ?_
  rintro e w1 ⟨b0, rfl, rfl, hz⟩
  have HZ := Lib.hid hz
  clear hz LG LG2
  generalize hR : w.heap.size = Ra at HB0 HX0 ⊢
  have HR := Lib.hid hR
  clear hR
  generalize (w.alloc (.cells #[.bool o, .string s2, .string h2, .int .i64 p, .string pa2, .string q2] 40)).alloc (.cells #[.string s2, .string h2, .string pa2, .string q2, .string path, .string text] 9) = w1 at HG0 HB0 HX0 ⊢
  have gw1 := HG0.out
  have Bw1 := HB0.out
  have xRa_w1 := HX0.out
  clear HG0 HB0 HX0
  cases b0
  case true =>
    go_wp2_with fail
    refine (CF.out _ gw1).mono ?_
    rintro e w2 ⟨rfl, b_⟩
    have gw2 := gw1.below b_
    have Bw2 := Bw1.trans (b_.mono (Nat.le_of_lt xRa_w1.lt))
    have xRa_w2 := xRa_w1.below b_
    clear b_ gw1 Bw1 xRa_w1
    go_wp2
    go_ret
    exact ⟨rfl, by rw [HR.out]; exact Bw2⟩
  have CK2 := Lib.hid (CK.out (HZ.out (by trivial))).out
  clear CK HZ
  have dRa0 := xRa_w1.c0
  have dRa1 := xRa_w1.c1
  have dRa2 := xRa_w1.c2
  have dRa3 := xRa_w1.c3
  have dRa4 := xRa_w1.c4
  have dRa5 := xRa_w1.c5
  go_wp2_with fail
  clear dRa0 dRa1 dRa2 dRa3 dRa4 dRa5
  refine (CK2.out _ gw1).mono ?_
  rintro e w2 ⟨rfl, b_⟩
  have gw2 := gw1.below b_
  have Bw2 := Bw1.trans (b_.mono (Nat.le_of_lt xRa_w1.lt))
  have xRa_w2 := xRa_w1.below b_
  clear b_ gw1 Bw1 xRa_w1
  rcases HE.out with rfl | ⟨rfl, rfl⟩
  ·
    have dRa0 := xRa_w2.c0
    have dRa1 := xRa_w2.c1
    have dRa2 := xRa_w2.c2
    have dRa3 := xRa_w2.c3
    have dRa4 := xRa_w2.c4
    have dRa5 := xRa_w2.c5
    go_wp2_with fail
    refine (CF.out _ gw2).mono ?_
    rintro e w3 ⟨rfl, b_⟩
    have gw3 := gw2.below b_
    have Bw3 := Bw2.trans (b_.mono (Nat.le_of_lt xRa_w2.lt))
    have xRa_w3 := xRa_w2.below b_
    clear b_ gw2 Bw2 xRa_w2
    go_wp2
    go_ret
    exact ⟨rfl, by rw [HR.out]; exact Bw3⟩
  ·
    have dRa0 := xRa_w2.c0
    have dRa1 := xRa_w2.c1
    have dRa2 := xRa_w2.c2
    have dRa3 := xRa_w2.c3
    have dRa4 := xRa_w2.c4
    have dRa5 := xRa_w2.c5
    go_wp2_with fail
    refine (CF.out _ gw2).mono ?_
    rintro e w3 ⟨rfl, b_⟩
    have gw3 := gw2.below b_
    have Bw3 := Bw2.trans (b_.mono (Nat.le_of_lt xRa_w2.lt))
    have xRa_w3 := xRa_w2.below b_
    clear b_ gw2 Bw2 xRa_w2
    go_wp2
    go_ret
    exact ⟨rfl, by rw [HR.out]; exact Bw3⟩

def pS1 : List (List D × Bool) := [([⟨nScr, [SLF]⟩], false)]
theorem pS1_is : polsM false (⟨#[115, 99, 114, 105, 112, 116, 45, 115, 114, 99, 32, 39, 115, 101, 108, 102, 39]⟩ : ByteArray).data.toList = pS1 := by decide +kernel
theorem pS1_fit : ∀ p ∈ pS1, FitD p.1 := fPol_fit (by decide)

set_option maxRecDepth 100000 in
set_option maxHeartbeats 8000000 in
theorem topSelf_law (o : Bool) (s2 h2 : ByteArray) (p : Int) (pa2 q2 path text : ByteArray) (w : World) (hw : Low w) : Calls Tryz.prog 10 #[uV o s2 h2 p pa2 q2, .string path, .string text] w fun e w' => e = .returned (.bool true) ∧ Below w.heap.size w w' := by
  have LG : Hid (∀ W : World, Calls Tryz.prog 29 #[.slice (some ⟨W.heap.size, 0, none⟩) 6 6] (W.alloc (.cells #[.string s2, .string h2, .string pa2, .string q2, .string path, .string text] 9)) fun e w' => ∃ b, e = .returned (.bool b) ∧ w' = W.alloc (.cells #[.string s2, .string h2, .string pa2, .string q2, .string path, .string text] 9) ∧ (b = false → (s2.size ≤ 1500 ∧ h2.size ≤ 1500 ∧ pa2.size ≤ 1500 ∧ q2.size ≤ 1500 ∧ path.size ≤ 1500 ∧ text.size ≤ 1500))) := Lib.hid fun W => (long_any [s2.data.toList, h2.data.toList, pa2.data.toList, q2.data.toList, path.data.toList, text.data.toList] _ (by simp) _ (textsIn_new W [s2.data.toList, h2.data.toList, pa2.data.toList, q2.data.toList, path.data.toList, text.data.toList] _ (by unfold txtCells; simp only [List.map_cons, List.map_nil, strV_of]) 6 rfl 6)).mono fun e w' ⟨b, h1_, h2_, h3_⟩ => ⟨b, h1_, h2_, fun hb_ => by
    have k0 := h3_ hb_ 0 (by simp)
    have k1 := h3_ hb_ 1 (by simp)
    have k2 := h3_ hb_ 2 (by simp)
    have k3 := h3_ hb_ 3 (by simp)
    have k4 := h3_ hb_ 4 (by simp)
    have k5 := h3_ hb_ 5 (by simp)
    rw [← lsize, ← lsize, ← lsize, ← lsize, ← lsize, ← lsize]
    exact ⟨k0, k1, k2, k3, k4, k5⟩⟩
  cases hr : rightM (uM o s2 h2 p pa2 q2)
  · exact self_ends o s2 h2 p pa2 q2 path text _ 50 (Lib.hid (.inl rfl)) LG firm_hid (Lib.hid fun z_ => by
      obtain ⟨z1, z2, z3, z4, z5, z6⟩ := z_
      exact Lib.hid fun W g_ => (check_hid o s2 h2 p pa2 q2 50 (chk_wrong hr) (by omega) (by omega) (by omega) (by omega)).out W g_.m g_.t) w hw
  cases o
  case true => exact self_ends true s2 h2 p pa2 q2 path text _ 0 (Lib.hid (.inr ⟨rfl, rfl⟩)) LG firm_hid (Lib.hid fun z_ => by
      obtain ⟨z1, z2, z3, z4, z5, z6⟩ := z_
      exact Lib.hid fun W g_ => (check_hid true s2 h2 p pa2 q2 0 (chk_right hr) (by omega) (by omega) (by omega) (by omega)).out W g_.m g_.t) w hw
  have HS : ∀ b, rightM (uM false s2 h2 p path ⟨#[]⟩) = b → Hid ((s2.size ≤ 1500 ∧ h2.size ≤ 1500 ∧ pa2.size ≤ 1500 ∧ q2.size ≤ 1500 ∧ path.size ≤ 1500 ∧ text.size ≤ 1500) → Hid (∀ W, Low W → Calls Tryz.prog 32 #[.string ⟨#[115, 99, 114, 105, 112, 116, 45, 115, 114, 99, 32, 39, 115, 101, 108, 102, 39]⟩, reqV 2 ⟨#[]⟩ false s2 h2 p path ⟨#[]⟩ false ⟨#[]⟩ true false s2 h2 p pa2 q2] W fun e w' => e = .returned (.bool b) ∧ Below W.heap.size W w')) := fun b hb => Lib.hid fun z_ => by
    obtain ⟨z1, z2, z3, z4, z5, z6⟩ := z_
    exact topSays_hid _ (by decide) pS1 pS1_is (by decide) pS1_fit 2 ⟨#[]⟩ false s2 h2 p path ⟨#[]⟩ false ⟨#[]⟩ true false s2 h2 p pa2 q2 (by decide) (by omega) (by omega) (by omega) (by decide) (by omega) (by omega) (by omega) (by omega) b (by rw [← hb]; exact self_fetch (uM false s2 h2 p pa2 q2) (uM false s2 h2 p path ⟨#[]⟩) _ rfl rfl rfl rfl hr rfl rfl rfl rfl rfl)
  have HI : Hid ((s2.size ≤ 1500 ∧ h2.size ≤ 1500 ∧ pa2.size ≤ 1500 ∧ q2.size ≤ 1500 ∧ path.size ≤ 1500 ∧ text.size ≤ 1500) → Hid (∀ W, Low W → Calls Tryz.prog 32 #[.string ⟨#[115, 99, 114, 105, 112, 116, 45, 115, 114, 99, 32, 39, 115, 101, 108, 102, 39]⟩, reqV 1 text false ⟨#[]⟩ ⟨#[]⟩ 0 ⟨#[]⟩ ⟨#[]⟩ false ⟨#[]⟩ false false s2 h2 p pa2 q2] W fun e w' => e = .returned (.bool false) ∧ Below W.heap.size W w')) := Lib.hid fun z_ => by
    obtain ⟨z1, z2, z3, z4, z5, z6⟩ := z_
    exact topSays_hid _ (by decide) pS1 pS1_is (by decide) pS1_fit 1 text false ⟨#[]⟩ ⟨#[]⟩ 0 ⟨#[]⟩ ⟨#[]⟩ false ⟨#[]⟩ false false s2 h2 p pa2 q2 (by omega) (by decide) (by decide) (by decide) (by decide) (by omega) (by omega) (by omega) (by omega) false (self_inline _ rfl rfl)
  have HC : Hid ((s2.size ≤ 1500 ∧ h2.size ≤ 1500 ∧ pa2.size ≤ 1500 ∧ q2.size ≤ 1500 ∧ path.size ≤ 1500 ∧ text.size ≤ 1500) → Hid (∀ W, Low W → Calls Tryz.prog 34 #[uV false s2 h2 p pa2 q2] W fun e w' => e = .returned (.int .i64 0) ∧ Below W.heap.size W w')) := Lib.hid fun z_ => by
      obtain ⟨z1, z2, z3, z4, z5, z6⟩ := z_
      exact Lib.hid fun W g_ => (check_hid false s2 h2 p pa2 q2 0 (chk_right hr) (by omega) (by omega) (by omega) (by omega)).out W g_.m g_.t
  have HV : ∀ n, chk (uM false s2 h2 p path ⟨#[]⟩) = n → Hid ((s2.size ≤ 1500 ∧ h2.size ≤ 1500 ∧ pa2.size ≤ 1500 ∧ q2.size ≤ 1500 ∧ path.size ≤ 1500 ∧ text.size ≤ 1500) → Hid (∀ W, Low W → Calls Tryz.prog 34 #[uV false s2 h2 p path ⟨#[]⟩] W fun e w' => e = .returned (.int .i64 n) ∧ Below W.heap.size W w')) := fun n hn => Lib.hid fun z_ => by
      obtain ⟨z1, z2, z3, z4, z5, z6⟩ := z_
      exact Lib.hid fun W g_ => (check_hid false s2 h2 p path ⟨#[]⟩ n (hn) (by omega) (by omega) (by omega) (by decide)).out W g_.m g_.t
  cases hv : rightM (uM false s2 h2 p path ⟨#[]⟩)
  · exact self_core_f s2 h2 p pa2 q2 path text _ LG firm_hid HC (HV 50 (chk_wrong hv)) (HS false hv) HI w hw
  · exact self_core_t s2 h2 p pa2 q2 path text _ LG firm_hid HC (HV 0 (chk_right hv)) (HS true hv) HI w hw

end Go.Proofs.YthnogdodlhkldaaGreatDoor
