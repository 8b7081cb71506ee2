/- What a policy says of a request: the program's. -/
import Derived.Test.YthnogdodlhkldaaGreatDoorChC
namespace Go.Proofs.YthnogdodlhkldaaGreatDoor
open Go.RowKit

theorem eff_fit {ds : List D} (hf : FitD ds) : ∀ {ns : List (List UInt8)} {ws n : _}, effC ds ns = some (ws, n) → ws.length ≤ 1000000 ∧ ∀ x ∈ ws, x.length ≤ 10000
  | [], _, _, h => by cases h
  | m :: ns, ws, n, h => by
    unfold effC at h
    cases hm : findM ds m with
    | none =>
      rw [hm] at h
      exact eff_fit hf h
    | some us =>
      rw [hm] at h
      simp only [Option.some.injEq, Prod.mk.injEq] at h
      obtain ⟨rfl, rfl⟩ := h
      exact find_fit hf hm

set_option maxRecDepth 100000 in
set_option maxHeartbeats 8000000 in
theorem chOne_any (ds : List D) (dv : Value) (r : Bool) (rk : Int) (rt : ByteArray) (o : Bool) (s2 h2 : ByteArray) (p : Int) (pa2 q2 : ByteArray) (mv : Bool) (rn : ByteArray) (pr : Bool) (o3 : Bool) (s3 h3 : ByteArray) (p3 : Int) (pa3 q3 : ByteArray) (zt : rt.size ≤ 100000) (su1 : s2.size ≤ 100000) (su2 : h2.size ≤ 100000) (su3 : pa2.size ≤ 100000) (su4 : q2.size ≤ 100000) (sv1 : s3.size ≤ 100000) (sv2 : h3.size ≤ 100000) (sv3 : pa3.size ≤ 100000) (sv4 : q3.size ≤ 100000) (hf : FitD ds) (w : World) (hw : Low w) (hd : DirsIn w dv ds) : Calls Tryz.prog 22 #[polV dv r, reqV rk rt o s2 h2 p pa2 q2 mv rn pr o3 s3 h3 p3 pa3 q3] w fun e w' => ∃ b N, e = .returned (.tuple #[.bool b, .string N]) ∧ oneC ds (rqM rk rt o s2 h2 p pa2 q2 mv rn pr o3 s3 h3 p3 pa3 q3) = (b, N.data.toList) ∧ Below w.heap.size w w' := by
  have CE : Hid (∀ W, Low W → DirsIn W dv ds → Calls Tryz.prog 13 #[polV dv r, .int .i64 rk] W (EffPost ds (namesC rk) W)) := Lib.hid fun W h1 h2 => chEff_any ds dv r rk hf W h1 h2
  have HF := Lib.hid hf
  clear hf
  unfold polV at CE
  unfold polV reqV
  have HO : Hid (∀ N : ByteArray, (effC ds (namesC rk) = none ∧ N = ⟨#[]⟩ → oneC ds (rqM rk rt o s2 h2 p pa2 q2 mv rn pr o3 s3 h3 p3 pa3 q3) = (true, N.data.toList)) ∧ (∀ ws, effC ds (namesC rk) = some (ws, N.data.toList) → oneC ds (rqM rk rt o s2 h2 p pa2 q2 mv rn pr o3 s3 h3 p3 pa3 q3) = (saysC (listS ws) (rqM rk rt o s2 h2 p pa2 q2 mv rn pr o3 s3 h3 p3 pa3 q3), N.data.toList))) := Lib.hid fun N => by
    unfold oneC
    refine ⟨?_, ?_⟩
    · rintro ⟨h, rfl⟩
      rw [show ((rqM rk rt o s2 h2 p pa2 q2 mv rn pr o3 s3 h3 p3 pa3 q3) : Rq).k = rk from rfl, h]
    · intro ws h
      rw [show ((rqM rk rt o s2 h2 p pa2 q2 mv rn pr o3 s3 h3 p3 pa3 q3) : Rq).k = rk from rfl, h]
  generalize oneC ds (rqM rk rt o s2 h2 p pa2 q2 mv rn pr o3 s3 h3 p3 pa3 q3) = on at HO ⊢
  obtain ⟨dda, ddc, rfl⟩ := hd.form
  go_enter Tryz.func22, Tryz.ntmps22
  go_wp2_with fail
  have xn := PX.made w (.slice dda ds.length ddc) r
  have xz := RX.made (w.alloc (.cells #[ (.slice dda ds.length ddc), .bool r] 24)) rk rt o s2 h2 p pa2 q2 mv rn pr o3 s3 h3 p3 pa3 q3
  have xy := xn.below ((Below.refl _ _).alloc (Nat.le_refl _) (.cells #[.int .i64 rk, .string rt, .bool o, .string s2, .string h2, .int .i64 p, .string pa2, .string q2, .bool mv, .string rn, .bool pr, .bool o3, .string s3, .string h3, .int .i64 p3, .string pa3, .string q3] 42))
  have gB := (hw.made (.cells #[ (.slice dda ds.length ddc), .bool r] 24)).made (.cells #[.int .i64 rk, .string rt, .bool o, .string s2, .string h2, .int .i64 p, .string pa2, .string q2, .bool mv, .string rn, .bool pr, .bool o3, .string s3, .string h3, .int .i64 p3, .string pa3, .string q3] 42)
  have dB := (hd.made (.cells #[ (.slice dda ds.length ddc), .bool r] 24)).made (.cells #[.int .i64 rk, .string rt, .bool o, .string s2, .string h2, .int .i64 p, .string pa2, .string q2, .bool mv, .string rn, .bool pr, .bool o3, .string s3, .string h3, .int .i64 p3, .string pa3, .string q3] 42)
  have BB := ((Below.refl w.heap.size w).alloc (Nat.le_refl _) (.cells #[ (.slice dda ds.length ddc), .bool r] 24)).alloc (Below.size ((Below.refl w.heap.size w).alloc (Nat.le_refl _) (.cells #[ (.slice dda ds.length ddc), .bool r] 24))) (.cells #[.int .i64 rk, .string rt, .bool o, .string s2, .string h2, .int .i64 p, .string pa2, .string q2, .bool mv, .string rn, .bool pr, .bool o3, .string s3, .string h3, .int .i64 p3, .string pa3, .string q3] 42)
  rw [size_alloc] at xz
  clear xn hw hd
  generalize hR : w.heap.size = Ra at xy xz BB ⊢
  have HR := Lib.hid hR
  clear hR
  obtain ⟨Rb, hRb⟩ : ∃ Rb, Ra + 1 = Rb := ⟨_, rfl⟩
  rw [hRb] at xz
  try rw [hRb]
  clear hRb
  generalize (w.alloc (.cells #[ (.slice dda ds.length ddc), .bool r] 24)).alloc (.cells #[.int .i64 rk, .string rt, .bool o, .string s2, .string h2, .int .i64 p, .string pa2, .string q2, .bool mv, .string rn, .bool pr, .bool o3, .string s3, .string h3, .int .i64 p3, .string pa3, .string q3] 42) = w1 at xy xz gB dB BB ⊢
  have xRa_w1 := xy
  have xRb_w1 := xz
  clear xy xz
  refine (CE.out _ gB dB).mono ?_
  rintro e w2 ⟨b_, hq⟩
  have gw2 := gB.below b_
  have dw2 := dB.below b_
  have Bw2 := BB.trans (b_.mono (Nat.le_of_lt xRa_w1.lt))
  have xRa_w2 := xRa_w1.below b_
  have xRb_w2 := xRb_w1.below b_
  clear b_ CE gB dB BB xRa_w1 xRb_w1
  rcases hq with ⟨he, rfl⟩ | ⟨ws, N, u, he, rfl, hu⟩
  · have HV := Lib.hid ((HO.out ⟨#[]⟩).1 ⟨he, rfl⟩)
    clear he HO
    go_wp2
    go_ret2
    refine ⟨true, ⟨#[]⟩, rfl, ?_, by rw [HR.out]; exact Bw2⟩
    rw [HV.out]
  · have HV := Lib.hid ((HO.out N).2 ws he)
    obtain ⟨ll, l2⟩ := eff_fit HF.out he
    obtain ⟨ua9, uc9, rfl⟩ := hu.form
    obtain ⟨b, hb⟩ : ∃ b, saysC (listS ws) (rqM rk rt o s2 h2 p pa2 q2 mv rn pr o3 s3 h3 p3 pa3 q3) = b := ⟨_, rfl⟩
    have CL : Hid (∀ W, Low W → SrcsIn W (.slice ua9 (listS ws).length uc9) (listS ws) → Calls Tryz.prog 43 #[.slice ua9 (listS ws).length uc9, reqV rk rt o s2 h2 p pa2 q2 mv rn pr o3 s3 h3 p3 pa3 q3] W fun e w' => e = .returned (.bool b) ∧ Below W.heap.size W w') := Lib.hid fun W k1_ k2_ => lets_any (listS ws) _ (Nat.le_trans (listS_length ws) ll) (listS_far l2) rk rt o s2 h2 p pa2 q2 mv rn pr o3 s3 h3 p3 pa3 q3 zt su1 su2 su3 su4 sv1 sv2 sv3 sv4 b hb W k1_ k2_
    have HB := Lib.hid hb
    unfold reqV at CL
    clear he HO ll l2 hb
    generalize listS ws = L at hu HV HB CL
    have dRa0 := xRa_w2.c0
    have dRa1 := xRa_w2.c1
    have dRb0 := xRb_w2.c0
    have dRb1 := xRb_w2.c1
    have dRb2 := xRb_w2.c2
    have dRb3 := xRb_w2.c3
    have dRb4 := xRb_w2.c4
    have dRb5 := xRb_w2.c5
    have dRb6 := xRb_w2.c6
    have dRb7 := xRb_w2.c7
    have dRb8 := xRb_w2.c8
    have dRb9 := xRb_w2.c9
    have dRb10 := xRb_w2.c10
    have dRb11 := xRb_w2.c11
    have dRb12 := xRb_w2.c12
    have dRb13 := xRb_w2.c13
    have dRb14 := xRb_w2.c14
    have dRb15 := xRb_w2.c15
    have dRb16 := xRb_w2.c16
    go_wp2_with fail
    clear dRa0 dRa1 dRb0 dRb1 dRb2 dRb3 dRb4 dRb5 dRb6 dRb7 dRb8 dRb9 dRb10 dRb11 dRb12 dRb13 dRb14 dRb15 dRb16
    refine (CL.out _ gw2 hu).mono ?_
    rintro e w3 ⟨rfl, b_⟩
    have gw3 := gw2.below b_
    have lw3 := hu.below b_
    have Bw3 := Bw2.trans (b_.mono (Nat.le_of_lt xRa_w2.lt))
    have xRa_w3 := xRa_w2.below b_
    have xRb_w3 := xRb_w2.below b_
    clear b_ gw2 hu Bw2 xRa_w2 xRb_w2
    go_wp2
    go_ret2
    refine ⟨b, N, rfl, ?_, by rw [HR.out]; exact Bw3⟩
    rw [HV.out, HB.out]

end Go.Proofs.YthnogdodlhkldaaGreatDoor
