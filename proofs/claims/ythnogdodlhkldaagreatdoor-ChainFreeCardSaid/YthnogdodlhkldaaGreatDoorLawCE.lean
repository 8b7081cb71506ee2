/- A policy that has none of a kind's names lets each request of it be. -/
import Derived.Test.YthnogdodlhkldaaGreatDoorLawCX
namespace Go.Proofs.YthnogdodlhkldaaGreatDoor
open Go.RowKit


set_option maxRecDepth 100000 in
set_option maxHeartbeats 8000000 in
theorem free_law (ds : List D) (da : Option Addr) (dc : Nat) (rp : Bool) (ha2 : Arg8 [(ds, rp)]) (rk : Int) (rt : ByteArray) (o : Bool) (s2 h2 : ByteArray) (p : Int) (pa2 q2 : ByteArray) (mv : Bool) (rn : ByteArray) (pr : Bool) (o3 : Bool) (s3 h3 : ByteArray) (p3 : Int) (pa3 q3 : ByteArray) (w : World) (hw : Low w) (hd : DirsIn w (.slice da ds.length dc) ds) : Calls Tryz.prog 7 #[polV (.slice da ds.length dc) rp, reqV rk rt o s2 h2 p pa2 q2 mv rn pr o3 s3 h3 p3 pa3 q3] w fun e w' => e = .returned (.bool true) ∧ Below w.heap.size w w' := by
  have AR := chains_hid
  have LG : Hid (∀ W R, PX W R (.slice da ds.length dc) rp → DirsIn W (.slice da ds.length dc) ds → Calls Tryz.prog 21 #[.slice (some ⟨R, 0, none⟩) 1 1, reqV rk rt o s2 h2 p pa2 q2 mv rn pr o3 s3 h3 p3 pa3 q3] W fun e w' => ∃ b, e = .returned (.bool b) ∧ Below W.heap.size W w' ∧ (b = false → FitsP [(ds, rp)] ∧ FitsR rt s2 h2 pa2 q2 rn s3 h3 pa3 q3)) := Lib.hid fun W R k1_ k2_ => large12_any [(ds, rp)] _ ha2 rk rt o s2 h2 p pa2 q2 mv rn pr o3 s3 h3 p3 pa3 q3 W (k1_.row k2_)
  have CN := chNames_hid rk
  have HNL : Hid (∀ n ∈ namesC rk, low n = n ∧ n.length ≤ 15) := Lib.hid (names_low rk)
  have HOC : Hid (effC ds (namesC rk) = none → oneC ds (rqM rk rt o s2 h2 p pa2 q2 mv rn pr o3 s3 h3 p3 pa3 q3) = (true, [])) := Lib.hid fun h_ => by
    unfold oneC
    rw [show ((rqM rk rt o s2 h2 p pa2 q2 mv rn pr o3 s3 h3 p3 pa3 q3) : Rq).k = rk from rfl, h_]
  have CE0 : Hid (FitD ds → ∀ W, Low W → DirsIn W (.slice da ds.length dc) ds → Calls Tryz.prog 13 #[polV (.slice da ds.length dc) rp, .int .i64 rk] W (EffPost ds (namesC rk) W)) := Lib.hid fun hf_ W k1_ k2_ => chEff_any ds (.slice da ds.length dc) rp rk hf_ W k1_ k2_
  have CO0 : Hid (FitD ds → FitsR rt s2 h2 pa2 q2 rn s3 h3 pa3 q3 → oneC ds (rqM rk rt o s2 h2 p pa2 q2 mv rn pr o3 s3 h3 p3 pa3 q3) = (true, []) → ∀ W, Low W → DirsIn W (.slice da ds.length dc) ds → Calls Tryz.prog 22 #[polV (.slice da ds.length dc) rp, reqV rk rt o s2 h2 p pa2 q2 mv rn pr o3 s3 h3 p3 pa3 q3] W fun e w' => e = .returned (.tuple #[.bool true, .string ⟨#[]⟩]) ∧ Below W.heap.size W w') := Lib.hid fun hf_ hr_ ho_ W k1_ k2_ => by
    obtain ⟨z1, _, ⟨c1, c2, c3, c4⟩, ⟨e1, e2, e3, e4⟩⟩ := hr_
    refine (chOne_any ds (.slice da ds.length dc) rp rk rt o s2 h2 p pa2 q2 mv rn pr o3 s3 h3 p3 pa3 q3 (by omega) (by omega) (by omega) (by omega) (by omega) (by omega) (by omega) (by omega) (by omega) hf_ W k1_ k2_).mono ?_
    rintro e w' ⟨b, N, rfl, k_, hb_⟩
    rw [ho_] at k_
    obtain ⟨rfl, hN⟩ := Prod.mk.inj k_
    obtain rfl : N = ⟨#[]⟩ := text_is hN.symm
    exact ⟨rfl, hb_⟩
  have hnl := names_len rk
  obtain ⟨ns, hns⟩ : ∃ ns, namesC rk = ns := ⟨_, rfl⟩
  rw [hns] at CN HNL HOC CE0 hnl
  clear hns
  unfold polV reqV at *
  go_enter Tryz.func7, Tryz.ntmps7
  go_wp2_with fail
  obtain ⟨x1, x2, x3, BB⟩ := prpBlocks w (.slice da ds.length dc) rp rk rt o s2 h2 p pa2 q2 mv rn pr o3 s3 h3 p3 pa3 q3
  have gB := (((hw.made (.cells #[ (.slice da ds.length dc), .bool rp] 24)).made (.cells #[.int .i64 rk, .string rt, .bool o, .string s2, .string h2, .int .i64 p, .string pa2, .string q2, .bool mv, .string rn, .bool pr, .bool o3, .string s3, .string h3, .int .i64 p3, .string pa3, .string q3] 42)).made (.cells #[ (.slice da ds.length dc), .bool rp] 24))
  have dB := (((hd.made (.cells #[ (.slice da ds.length dc), .bool rp] 24)).made (.cells #[.int .i64 rk, .string rt, .bool o, .string s2, .string h2, .int .i64 p, .string pa2, .string q2, .bool mv, .string rn, .bool pr, .bool o3, .string s3, .string h3, .int .i64 p3, .string pa3, .string q3] 42)).made (.cells #[ (.slice da ds.length dc), .bool rp] 24))
  clear hw hd
  generalize hR : w.heap.size = Ra at x1 x2 x3 BB ⊢
  have HR := Lib.hid hR
  clear hR
  obtain ⟨Rb, hRb⟩ : ∃ Rb, Ra + 1 = Rb := ⟨_, rfl⟩
  rw [hRb] at x2 x3
  try rw [hRb]
  clear hRb
  generalize ((w.alloc (.cells #[ (.slice da ds.length dc), .bool rp] 24)).alloc (.cells #[.int .i64 rk, .string rt, .bool o, .string s2, .string h2, .int .i64 p, .string pa2, .string q2, .bool mv, .string rn, .bool pr, .bool o3, .string s3, .string h3, .int .i64 p3, .string pa3, .string q3] 42)).alloc (.cells #[ (.slice da ds.length dc), .bool rp] 24) = w1 at x1 x2 x3 gB dB BB ⊢
  have xRa_w1 := x1
  have xRb_w1 := x2
  clear x1 x2
  refine (LG.out _ _ x3 dB).mono ?_
  rintro e w2 ⟨b0, rfl, b_, hz⟩
  clear x3
  have gw2 := gB.below b_
  have dw2 := dB.below b_
  have Bw2 := BB.trans (b_.mono (Nat.le_of_lt xRa_w1.lt))
  have xRa_w2 := xRa_w1.below b_
  have xRb_w2 := xRb_w1.below b_
  clear b_ gB dB BB xRa_w1 xRb_w1
  generalize Value.agg #[.int .i64 rk, .string rt, .bool o, .string s2, .string h2, .int .i64 p, .string pa2, .string q2, .bool mv, .string rn, .bool pr, .bool o3, .string s3, .string h3, .int .i64 p3, .string pa3, .string q3] = rq
  have HZ := Lib.hid hz
  clear hz LG
  cases b0
  case true =>
    go_wp2
    go_ret
    exact ⟨rfl, by rw [HR.out]; exact Bw2⟩
  as_aux_lemma =>
    obtain ⟨FP, FR⟩ := HZ.out (by trivial)
    have hf := (FP.2 _ (List.mem_singleton.2 rfl)).fit
    have CE := Lib.hid (CE0.out hf)
    have CO := Lib.hid (CO0.out hf FR)
    have HFT := Lib.hid hf
    clear HZ CE0 CO0 FP FR hf
    have dRa0 := xRa_w2.c0
    have dRa1 := xRa_w2.c1
    have dRb0 := xRb_w2.c0
    go_wp2_with fail
    clear dRa0 dRa1 dRb0
    refine (CN.out _).mono ?_
    rintro e w3 ⟨u, rfl, own_, b_⟩
    have n_ := TextsIn.of_row own_
    obtain ⟨na, nc, rfl⟩ := n_.form
    clear own_
    have gw3 := gw2.below b_
    have dw3 := dw2.below b_
    have Bw3 := Bw2.trans (b_.mono (Nat.le_of_lt xRa_w2.lt))
    have xRa_w3 := xRa_w2.below b_
    have xRb_w3 := xRb_w2.below b_
    clear b_ gw2 dw2 Bw2 xRa_w2 xRb_w2
    have HL := Lib.hid (And.intro gw3 (And.intro dw3 (And.intro n_ (And.intro xRa_w3 (And.intro xRb_w3 Bw3)))))
    clear gw3 dw3 n_ xRa_w3 xRb_w3 Bw3 CN
    go_wp2
    go_loopw [6] (fun i wr => ∃ k : Nat, k ≤ ns.length ∧ i = .int .i64 k ∧ Hid (∀ q, (h : q < ns.length) → q < k → findM ds ns[q] = none) ∧ Low wr ∧ DirsIn wr (.slice da ds.length dc) ds ∧ TextsIn wr (.slice na ns.length nc) ns ∧ PX wr Ra (.slice da ds.length dc) rp ∧ RX wr Rb rk rt o s2 h2 p pa2 q2 mv rn pr o3 s3 h3 p3 pa3 q3 ∧ Below Ra w wr) (fun i _ => ns.length - (intOf i).toNat)
    case atStart => exact ⟨0, Nat.zero_le _, rfl, Lib.hid fun q _ h => absurd h (Nat.not_lt_zero _), HL.out⟩
    case round =>
      clear HL
      obtain ⟨k, hk, rfl, HS, g_, d_, n_, xRa_wr, xRb_wr, B_⟩ := hrel
      by_cases hlt : k < ns.length
      case neg =>
        obtain rfl : k = ns.length := by omega
        have HO := HOC.out (eff_none ds ns fun q hq => HS.out q hq hq)
        have CO2 := Lib.hid (CO.out HO)
        clear HO HOC n_
        have dRa0 := xRa_wr.c0
        have dRa1 := xRa_wr.c1
        have dRb0 := xRb_wr.c0
        have dRb1 := xRb_wr.c1
        have dRb2 := xRb_wr.c2
        have dRb3 := xRb_wr.c3
        have dRb4 := xRb_wr.c4
        have dRb5 := xRb_wr.c5
        have dRb6 := xRb_wr.c6
        have dRb7 := xRb_wr.c7
        have dRb8 := xRb_wr.c8
        have dRb9 := xRb_wr.c9
        have dRb10 := xRb_wr.c10
        have dRb11 := xRb_wr.c11
        have dRb12 := xRb_wr.c12
        have dRb13 := xRb_wr.c13
        have dRb14 := xRb_wr.c14
        have dRb15 := xRb_wr.c15
        have dRb16 := xRb_wr.c16
        go_wp2_with fail
        clear dRa0 dRa1 dRb0 dRb1 dRb2 dRb3 dRb4 dRb5 dRb6 dRb7 dRb8 dRb9 dRb10 dRb11 dRb12 dRb13 dRb14 dRb15 dRb16
        refine (CO2.out _ g_ d_).mono ?_
        rintro e w21 ⟨rfl, b_⟩
        have gw21 := g_.below b_
        have dw21 := d_.below b_
        have Bw21 := B_.trans (b_.mono (Nat.le_of_lt xRa_wr.lt))
        have xRa_w21 := xRa_wr.below b_
        have xRb_w21 := xRb_wr.below b_
        clear b_ g_ d_ B_ xRa_wr xRb_wr
        go_wp2_with fail
        refine (AR.out _ gw21).mono ?_
        rintro e w22 ⟨rfl, b_⟩
        have gw22 := gw21.below b_
        have dw22 := dw21.below b_
        have Bw22 := Bw21.trans (b_.mono (Nat.le_of_lt xRa_w21.lt))
        have xRa_w22 := xRa_w21.below b_
        have xRb_w22 := xRb_w21.below b_
        clear b_ gw21 dw21 Bw21 xRa_w21 xRb_w21
        go_wp2
        go_ret
        exact ⟨rfl, by rw [HR.out]; exact Bw22⟩
      obtain ⟨B, off, e_, kc⟩ := n_.at hlt
      subst e_
      have hx15 := (HNL.out _ (List.getElem_mem hlt)).2
      have HNX : Hid (findM ds ns[k] = none → ∀ q, (h : q < ns.length) → q < k + 1 → findM ds ns[q] = none) := Lib.hid fun h q hq hqk => by
        by_cases e : q = k
        · subst e; exact h
        · exact HS.out q hq (by omega)
      have HY : Hid (∀ ws, findM ds ns[k] = some ws → effC ds ns = some (ws, ns[k])) := Lib.hid fun ws h => eff_at ds ns k hlt ws HS.out h
      generalize ns[k] = nm at kc hx15 HNX HY
      unfold strV at kc
      obtain ⟨X, hX⟩ : ∃ X : ByteArray, X = ⟨nm.toArray⟩ := ⟨_, rfl⟩
      rw [← hX] at kc
      have hXd : X.data.toList = nm := by rw [hX]
      subst hXd
      have hxs : X.size ≤ 1099511627776 := by rw [← lsize]; omega
      have c_ : CellIs wr ⟨B, off + k, none⟩ (.string X) := kc
      clear hX HS hx15
      cases hfd : findM ds X.data.toList
      case none =>
        as_aux_lemma =>
          have CF : Hid (∀ W, DirsIn W (.slice da ds.length dc) ds → Calls Tryz.prog 28 #[polV (.slice da ds.length dc) rp, .string X] W fun e w' => e = .returned (.tuple #[.slice none 0 0, .bool false]) ∧ Below W.heap.size W w') := Lib.hid fun W k1_ => (find_any ds (.slice da ds.length dc) rp X W k1_ HFT.out.1 (fun d_ hd_ => (HFT.out.2 d_ hd_).1) hxs).mono fun e w' h_ => by
            obtain ⟨hb_, h_⟩ := h_
            rw [hfd] at h_
            rcases h_ with ⟨_, h_⟩ | ⟨ws, v, h_, _⟩
            · exact ⟨h_, hb_⟩
            · cases h_
          unfold polV at CF
          have HM := Lib.hid (HNX.out hfd)
          clear HNX HY hfd kc
          have dRa0 := xRa_wr.c0
          have dRa1 := xRa_wr.c1
          have dRb0 := xRb_wr.c0
          have dRb1 := xRb_wr.c1
          have dRb2 := xRb_wr.c2
          have dRb3 := xRb_wr.c3
          have dRb4 := xRb_wr.c4
          have dRb5 := xRb_wr.c5
          have dRb6 := xRb_wr.c6
          have dRb7 := xRb_wr.c7
          have dRb8 := xRb_wr.c8
          have dRb9 := xRb_wr.c9
          have dRb10 := xRb_wr.c10
          have dRb11 := xRb_wr.c11
          have dRb12 := xRb_wr.c12
          have dRb13 := xRb_wr.c13
          have dRb14 := xRb_wr.c14
          have dRb15 := xRb_wr.c15
          have dRb16 := xRb_wr.c16
          have kc := c_
          go_wp2
          clear dRa0 dRa1 dRb0 dRb1 dRb2 dRb3 dRb4 dRb5 dRb6 dRb7 dRb8 dRb9 dRb10 dRb11 dRb12 dRb13 dRb14 dRb15 dRb16
          clear kc
          obtain ⟨C, hC⟩ : ∃ C : World → Prop, ∀ w', C w' ↔ (PX w' Ra (.slice da ds.length dc) rp ∧ RX w' Rb rk rt o s2 h2 p pa2 q2 mv rn pr o3 s3 h3 p3 pa3 q3 ∧ Below Ra w w' ∧ Low w' ∧ DirsIn w' (.slice da ds.length dc) ds ∧ TextsIn w' (.slice (some ⟨B, off, none⟩) ns.length nc) ns ∧ CellIs w' ⟨B, off + k, none⟩ (.string X)) := ⟨_, fun _ => Iff.rfl⟩
          have HC := Lib.hid hC
          clear hC
          have hC0 : C wr.drew := (HC.out _).2 ⟨xRa_wr, xRb_wr, B_.drew, g_.drew, d_.drew, n_.drew, c_.drew⟩
          have HK : Hid (∀ w', C w' → ∀ w7, Below w'.heap.size w' w7 → C w7) := Lib.hid fun w' hc w7 b => by
            obtain ⟨xRa, xRb, K4, g7, d7, n7, c7⟩ := (HC.out w').1 hc
            exact (HC.out _).2 ⟨xRa.below b, xRb.below b, K4.trans (b.mono (Nat.le_of_lt xRa.lt)), g7.below b, d7.below b, n7.below b, c7.below b⟩
          clear xRa_wr xRb_wr B_ g_ d_ n_ c_
          refine region_class C (by kernel_rfl) (by kernel_rfl) hC0 ?_
          clear hC0
          repeat
            first
              | go_big_quiet_skip
              | (go_big_quiet_want; go_big_quiet_op; go_big_quiet_on)
              | (refine BigFrame.wpQuiet_want rfl (fun K hK => ?_)
                 apply Exists.intro
                 refine ⟨fun w' hc => ?_, hK _ ?_⟩
                 · obtain ⟨xRa, xRb, K4, g7, d7, n7, c7⟩ := (HC.out w').1 hc
                   have dRa0 := xRa.c0
                   have dRa1 := xRa.c1
                   have dRb0 := xRb.c0
                   have dRb1 := xRb.c1
                   have dRb2 := xRb.c2
                   have dRb3 := xRb.c3
                   have dRb4 := xRb.c4
                   have dRb5 := xRb.c5
                   have dRb6 := xRb.c6
                   have dRb7 := xRb.c7
                   have dRb8 := xRb.c8
                   have dRb9 := xRb.c9
                   have dRb10 := xRb.c10
                   have dRb11 := xRb.c11
                   have dRb12 := xRb.c12
                   have dRb13 := xRb.c13
                   have dRb14 := xRb.c14
                   have dRb15 := xRb.c15
                   have dRb16 := xRb.c16
                   have kc : w'.cell? ⟨B, off + k, none⟩ = some (.string X) := c7
                   unfold Oper.quietAt
                   go_simp
                   first
                     | done
                     | rfl
                     | ((with_reducible refine (CF.out _ d7).mono ?_); rintro e w7 ⟨rfl, b7⟩; exact ⟨rfl, HK.out w' hc w7 b7⟩)
                 clear hK K
                 simp only [Act.put, List.setIfInBounds_toArray, List.set_cons_zero, List.set_cons_succ])
          refine wpQuiet_nil ?_
          intro w21 hc
          obtain ⟨xRa_w21, xRb_w21, Bw21, gw21, dw21, nw21, cw21⟩ := (HC.out w21).1 hc
          clear hc HC HK
          go_wp2
          go_roundw
          case rel => exact ⟨k + 1, by omega, by go_num, HM, gw21, dw21, nw21, xRa_w21, xRb_w21, Bw21⟩
          case measure => simp [intOf]; omega
      case some ws =>
        as_aux_lemma =>
          have CF : Hid (Calls Tryz.prog 28 #[polV (.slice da ds.length dc) rp, .string X] wr.drew fun e w' => ∃ fa fn fc, e = .returned (.tuple #[.slice fa fn fc, .bool true]) ∧ Below wr.drew.heap.size wr.drew w') := Lib.hid ((find_any ds (.slice da ds.length dc) rp X wr.drew d_ HFT.out.1 (fun d_ hd_ => (HFT.out.2 d_ hd_).1) hxs).mono fun e w' h_ => by
            obtain ⟨hb_, h_⟩ := h_
            rw [hfd] at h_
            rcases h_ with ⟨h_, _⟩ | ⟨us, v, h_, h2_, h3_⟩
            · cases h_
            · obtain ⟨fa, fc, rfl⟩ := (TextsIn.of_row h3_).form
              exact ⟨fa, _, fc, h2_, hb_⟩)
          have he_ := HY.out ws hfd
          have CE2 : Hid (∀ W, Low W → DirsIn W (.slice da ds.length dc) ds → Calls Tryz.prog 13 #[.agg #[(.slice da ds.length dc), .bool rp], .int .i64 rk] W fun e w' => ∃ ea en ec, e = .returned (.tuple #[.slice ea en ec, .string X, .bool true]) ∧ Below W.heap.size W w') := Lib.hid fun W k1_ k2_ => (CE.out W k1_ k2_).mono fun e w' h_ => by
            obtain ⟨hb_, h_⟩ := h_
            rw [he_] at h_
            rcases h_ with ⟨h_, _⟩ | ⟨us, N, u, h_, h2_, h3_⟩
            · cases h_
            · obtain ⟨ea, ec, rfl⟩ := h3_.form
              obtain ⟨rfl, hN⟩ := Prod.mk.inj (Option.some.inj h_)
              obtain rfl : N = X := text_is hN.symm
              exact ⟨ea, _, ec, h2_, hb_⟩
          unfold polV at CF
          have gX : (X.toList == X.toList) = true := by rw [beq_iff_eq]
          have H0 := Lib.hid (And.intro g_ (And.intro d_ (And.intro n_ (And.intro c_ (And.intro xRa_wr (And.intro xRb_wr (And.intro B_ (Nat.le_of_lt xRa_wr.lt))))))))
          have dRa0 := xRa_wr.c0
          have dRa1 := xRa_wr.c1
          have kc2 := c_
          clear HNX HY hfd he_ kc g_ d_ n_ c_ xRa_wr xRb_wr B_ CE CO HOC
          unfold CellIs at kc2
          go_wp2
          go_region_law (first
            | (go_simp
               go_at_call 28
               (with_reducible refine CF.out.mono ?_)
               rintro e w4 ⟨fa, fn, fc, rfl, b4⟩
               have b5 : Below wr.heap.size wr w4 := ((Below.refl wr.heap.size wr).drew).trans b4
               have kc4 : w4.cell? ⟨B, off + k, none⟩ = some (.string X) := (b5.cell (lt_of_cell kc2)).trans kc2
               have dRa40 := (H0.out.2.2.2.2.1.below b5).c0
               have dRa41 := (H0.out.2.2.2.2.1.below b5).c1
               have H4 : Aside (Below wr.heap.size wr w4) := b5
               clear b4 b5))
          all_goals
            obtain ⟨g_, d_, n_, c_, xRa_wr, xRb_wr, B_, hl_⟩ := H0.out
            have g_4 := g_.below H4.out
            have d_4 := d_.below H4.out
            have n_4 := n_.below H4.out
            have c_4 := c_.below H4.out
            have xRa_w4 := xRa_wr.below H4.out
            have xRb_w4 := xRb_wr.below H4.out
            have B_4 := B_.trans (H4.out.mono hl_)
            clear H0 H4 CF g_ d_ n_ c_ xRa_wr xRb_wr B_ hl_ dRa0 dRa1 dRa40 dRa41 kc2 kc4
            have dRa0 := xRa_w4.c0
            have dRa1 := xRa_w4.c1
            have dRb0 := xRb_w4.c0
            go_wp2_with fail
            clear dRa0 dRa1 dRb0
            refine (CE2.out _ g_4 d_4).mono ?_
            rintro e w31 ⟨ea, en, ec, rfl, b_⟩
            have gw31 := g_4.below b_
            have dw31 := d_4.below b_
            have nw31 := n_4.below b_
            have cw31 := c_4.below b_
            have Bw31 := B_4.trans (b_.mono (Nat.le_of_lt xRa_w4.lt))
            have xRa_w31 := xRa_w4.below b_
            have xRb_w31 := xRb_w4.below b_
            clear b_ g_4 d_4 n_4 c_4 B_4 xRa_w4 xRb_w4
            go_wp2_with fail
            refine (AR.out _ gw31).mono ?_
            rintro e w32 ⟨rfl, b_⟩
            have gw32 := gw31.below b_
            have dw32 := dw31.below b_
            have nw32 := nw31.below b_
            have cw32 := cw31.below b_
            have Bw32 := Bw31.trans (b_.mono (Nat.le_of_lt xRa_w31.lt))
            have xRa_w32 := xRa_w31.below b_
            have xRb_w32 := xRb_w31.below b_
            clear b_ gw31 dw31 nw31 cw31 Bw31 xRa_w31 xRb_w31
            have kc : _ = _ := cw32
            go_wp2
            go_ret
            exact ⟨rfl, by rw [HR.out]; exact Bw32⟩

end Go.Proofs.YthnogdodlhkldaaGreatDoor
