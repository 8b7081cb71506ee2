/- No policy that is parsed has a name twice. -/
import Derived.Test.YtmlanlagnhnppaaDoorLawHA
import Derived.Test.YtmlanlagnhnppaaDoorClass
namespace Go.Proofs.YtmlanlagnhnppaaDoor
open Go.RowKit

set_option maxRecDepth 100000 in
set_option maxHeartbeats 16000000 in
theorem once_law (s : ByteArray) (r : Bool) (w : World) (hm : MaxIn w) : Calls Tryd.prog 7 #[.string s, .bool r] w fun e w' => e = .returned (.bool true) ∧ Below w.heap.size w w' := by
  by_cases hbig : (6000 : Int) < (s.size : Int)
  · clear hm
    go_enter Tryd.func7, Tryd.ntmps7
    go_wp2
    go_ret
    exact ⟨rfl, Below.refl _ _⟩
  have hs : s.size ≤ 6000 := by omega
  have HS : Hid (∀ p ∈ polsM r s.data.toList, p.2 = r ∧ rightH p.1 ∧ p.1.length ≤ 6001 ∧ (∀ d ∈ p.1, d.n.length ≤ 40 ∧ d.w.length ≤ 200)) := Lib.hid (fun p hp => by
    obtain ⟨h1, h2, h3, _⟩ := pols_small hp
    rw [lsize] at h3
    exact ⟨h1, h2, by omega, fun d hd => by
      obtain ⟨k1, k2, _⟩ := dirR_all (h2.2.1 d hd)
      exact ⟨(nameH_all k1).2.1, k2⟩⟩)
  have hcount := pols_count r s.data.toList
  have CP : Hid (∀ W, MaxIn W → Calls Tryd.prog 11 #[.string s, .bool r] W fun e w' => ∃ v, e = .returned v ∧ OwnP w' W.heap.size v (polsM r s.data.toList) ∧ Below W.heap.size W w') := Lib.hid (fun W h => parse_any s (by omega) r W h)
  generalize polsM r s.data.toList = ps at *
  have HM := Lib.hid hm
  clear hm
  go_enter Tryd.func7, Tryd.ntmps7
  go_wp2_with fail
  refine (CP.out _ HM.out).mono ?_
  rintro e w1 ⟨v1, rfl, o1, b1⟩
  obtain ⟨n, hn⟩ : ∃ n, ps.length = n := ⟨_, rfl⟩
  obtain ⟨a1, c1, rfl⟩ : ∃ a1 c1, v1 = .slice a1 n c1 := by
    obtain ⟨x, y, h⟩ := o1.in.form
    exact ⟨x, y, by rw [h, hn]⟩
  have HN := Lib.hid hn
  rw [hn] at hcount
  have H1 := Lib.hid (And.intro o1.in b1)
  clear o1 b1 CP hn
  go_wp2
  go_loopw [6] (fun i wr => ∃ k : Nat, k ≤ n ∧ i = .int .i64 k ∧ Hid (PolsIn wr (.slice a1 n c1) ps ∧ Below w.heap.size w wr)) (fun i _ => n - (intOf i).toNat)
  case atStart => exact ⟨0, Nat.zero_le _, rfl, H1⟩
  case round =>
    obtain ⟨i, hi, rfl, HI⟩ := hrel
    by_cases hlt : i < n
    · obtain ⟨wo, rfl⟩ : ∃ wo : World, wo = wr := ⟨_, rfl⟩
      have hlt2 : i < ps.length := by rw [HN.out]; exact hlt
      obtain ⟨B, off, dv, rfl, ka, kr, kd⟩ := HI.out.1.at hlt2
      obtain ⟨p1, p2, p3, p4⟩ := HS.out _ (List.getElem_mem hlt2)
      rw [p1] at kr
      generalize (ps[i]).1 = ds at *
      obtain ⟨m, hm5⟩ : ∃ m, ds.length = m := ⟨_, rfl⟩
      obtain ⟨ad, cd, rfl⟩ : ∃ ad cd, dv = .slice ad m cd := by
        obtain ⟨x, y, h⟩ := kd.form
        exact ⟨x, y, by rw [h, hm5]⟩
      have hm0 : 0 < m := by rw [← hm5]; exact List.length_pos_iff.2 p2.1
      obtain ⟨Bd, od, u0, rfl, z1, z2, z3⟩ := kd.at (j := 0) (by rw [hm5]; exact hm0)
      clear z1 z2 z3
      have g0 : ((m : Int) == 0) = false := by rw [beq_eq_false_iff_ne]; omega
      have gr : (r != r) = false := by simp
      rw [hm5] at p3
      have HP := Lib.hid (And.intro p2 (And.intro p4 hm5))
      have HD := Lib.hid kd
      have HK := Lib.hid (And.intro ka kr)
      clear p1 p2 p4 hm5 kd hlt2
      go_wp2
      clear ka kr
      go_loopw [7] (fun j wr => ∃ k : Nat, k ≤ m ∧ j = .int .i64 k ∧ Hid (Below wo.heap.size wo wr)) (fun j _ => m - (intOf j).toNat)
      case atStart => exact ⟨0, Nat.zero_le _, rfl, Lib.hid (Below.refl _ _)⟩
      case round =>
        obtain ⟨k, hk, rfl, HB⟩ := hrel
        have ka : wr.cell? ⟨B, off + i * 2, none⟩ = some (.slice (some ⟨Bd, od, none⟩) m cd) := by rw [HB.out.cell (lt_of_cell HK.out.1)]; exact HK.out.1
        have kr : wr.cell? ⟨B, off + i * 2 + 1, none⟩ = some (.bool r) := by rw [HB.out.cell (lt_of_cell HK.out.2)]; exact HK.out.2
        by_cases hlk : k < m
        · have hlk2 : k < ds.length := by rw [HP.out.2.2]; exact hlk
          have kdd := HD.out.below HB.out
          obtain ⟨B', o', u, e', kn, kw, kt⟩ := kdd.at hlk2
          cases e'
          obtain ⟨fo1, fo2⟩ := find_own HP.out.1 (List.getElem?_eq_getElem hlk2)
          obtain ⟨dn1, dn2⟩ := HP.out.2.1 _ (List.getElem_mem hlk2)
          obtain ⟨X, hX⟩ : ∃ X : ByteArray, X = ⟨ds[k].n.toArray⟩ := ⟨_, rfl⟩
          have hXd : X.data.toList = ds[k].n := by rw [hX]
          replace kn : wr.cell? ⟨Bd, od + k * 2, none⟩ = some (.string X) := by rw [kn, hX]; rfl
          obtain ⟨ws, hws⟩ : ∃ ws, ds[k].w = ws := ⟨_, rfl⟩
          rw [hws] at kt fo1 dn2
          obtain ⟨q, hq⟩ : ∃ q, ws.length = q := ⟨_, rfl⟩
          obtain ⟨ua, uc, rfl⟩ : ∃ ua uc, u = .slice ua q uc := by
            obtain ⟨x, y, h⟩ := kt.form
            exact ⟨x, y, by rw [h, hq]⟩
          have hXs : X.size ≤ 40 := by rw [← lsize, hXd]; exact dn1
          have CF : Hid (∀ W, DirsIn W (.slice (some ⟨Bd, od, none⟩) m cd) ds → Calls Tryd.prog 15 #[.agg #[.slice (some ⟨Bd, od, none⟩) m cd, .bool r], .string X] W fun e w' => (∃ fa fc, e = .returned (.tuple #[.slice fa q fc, .bool true]) ∧ TextsIn w' (.slice fa q fc) ws) ∧ Below W.heap.size W w') := Lib.hid (fun W h =>
            (find_any ds _ r X W h (by rw [HP.out.2.2]; omega) (fun d hd => by have := (HP.out.2.1 d hd).2; omega) (by omega)).mono fun e w' hh => by
              obtain ⟨h1, h2⟩ := hh
              rw [hXd, fo1] at h2
              rcases h2 with ⟨h3, _⟩ | ⟨ws', v, h3, rfl, h4⟩
              · cases h3
              · cases h3
                have h5 := TextsIn.of_row h4
                obtain ⟨fa, fc, rfl⟩ := h5.form
                rw [hq] at h5 ⊢
                exact ⟨⟨fa, fc, rfl, h5⟩, h1⟩)
          have CTX : Hid (∀ W u v, TextsIn W u ws → TextsIn W v ws → Calls Tryd.prog 19 #[u, v] W fun e w' => e = .returned (.bool true) ∧ Below W.heap.size W w') := Lib.hid (fun W u v h1 h2 => texts_bool ws ws true (eqT_self _) u v W h1 h2 (by omega) (by omega))
          have CLW := refLower_hid X X (by rw [hXd, fo2]) (by omega)
          have gX : (X.toList != X.toList) = false := by simp
          have gX2 : (X.toList == X.toList) = true := by simp
          have HT := Lib.hid (And.intro kdd kt)
          clear kdd kt fo1 fo2 dn1 dn2 hX hXd hws hq hlk2
          go_wp2_with fail
          go_region_with ((go_at_call 15; (with_reducible refine (CF.out _ (HT.out.1.below (Below.refl wr.heap.size wr).drew)).mono ?_); rintro e w5 ⟨⟨fa, fc, rfl, t5⟩, b5⟩
                           have B5 : Aside (TextsIn w5 (.slice fa q fc) ws ∧ Below wr.heap.size wr w5) := ⟨t5, ((Below.refl wr.heap.size wr).drew).trans b5⟩
                           clear t5 b5))
          all_goals
            have K5 : Hid (w5.cell? ⟨B, off + i * 2, none⟩ = some (.slice (some ⟨Bd, od, none⟩) m cd) ∧ w5.cell? ⟨Bd, od + k * 2, none⟩ = some (.string X) ∧ w5.cell? ⟨Bd, od + k * 2 + 1, none⟩ = some (.slice ua q uc) ∧ TextsIn w5 (.slice ua q uc) ws ∧ TextsIn w5 (.slice fa q fc) ws ∧ Below wo.heap.size wo w5) := Lib.hid ⟨by rw [B5.2.cell (lt_of_cell ka)]; exact ka, by rw [B5.2.cell (lt_of_cell kn)]; exact kn, by rw [B5.2.cell (lt_of_cell kw)]; exact kw, HT.out.2.below B5.2, B5.1, HB.out.trans (B5.2.mono HB.out.size)⟩
            clear ka kr kn kw B5 HT CF HB
            go_wp2_with fail
            simp only [Act.put, List.getElem_toArray, List.getElem_cons_succ, List.getElem_cons_zero, List.setIfInBounds_toArray, List.set_cons_zero, List.set_cons_succ]
            obtain ⟨C, hC⟩ : ∃ C : World → Prop, ∀ w', C w' ↔ (w'.cell? ⟨B, off + i * 2, none⟩ = some (.slice (some ⟨Bd, od, none⟩) m cd) ∧ w'.cell? ⟨Bd, od + k * 2, none⟩ = some (.string X) ∧ w'.cell? ⟨Bd, od + k * 2 + 1, none⟩ = some (.slice ua q uc) ∧ TextsIn w' (.slice ua q uc) ws ∧ TextsIn w' (.slice fa q fc) ws ∧ Below wo.heap.size wo w') := ⟨_, fun _ => Iff.rfl⟩
            have HC := Lib.hid hC
            clear hC
            have hC0 : C w5.drew := (HC.out _).2 (⟨K5.out.1, K5.out.2.1, K5.out.2.2.1, K5.out.2.2.2.1, K5.out.2.2.2.2.1, K5.out.2.2.2.2.2.drew⟩)
            have HK : Hid (∀ w', C w' → ∀ w7, Below w'.heap.size w' w7 → C w7) := Lib.hid fun w' hc w7 b => by
              obtain ⟨ka7, kn7, kw7, tw7, tv7, bb7⟩ := (HC.out w').1 hc
              exact (HC.out _).2 ⟨(by rw [b.cell (lt_of_cell ka7)]; exact ka7), (by rw [b.cell (lt_of_cell kn7)]; exact kn7), (by rw [b.cell (lt_of_cell kw7)]; exact kw7), tw7.below b, tv7.below b, bb7.trans (b.mono bb7.size)⟩
            refine region_class C (by kernel_rfl) (by kernel_rfl) hC0 ?_
            clear hC0
            repeat
              first
                | go_big_quiet_skip
                | (go_big_quiet_want; go_big_quiet_op; go_big_quiet_on)
                | (refine BigFrame.wpQuiet_want rfl (fun K hK => ?_)
                   apply Exists.intro
                   refine ⟨fun w' hc => ?_, hK _ ?_⟩
                   · obtain ⟨ka7, kn7, kw7, tw7, tv7, bb7⟩ := (HC.out w').1 hc
                     unfold Oper.quietAt
                     go_simp
                     first
                       | done
                       | rfl
                       | ((with_reducible refine (CTX.out _ _ _ tv7 tw7).mono ?_); rintro e w7 ⟨rfl, b7⟩; exact ⟨rfl, HK.out w' hc w7 b7⟩)
                       | ((with_reducible refine (CLW.out _).mono ?_); rintro e w7 ⟨rfl, b7⟩; exact ⟨rfl, HK.out w' hc w7 b7⟩)
                   clear hK K
                   simp only [Act.put, List.setIfInBounds_toArray, List.set_cons_zero, List.set_cons_succ])
            refine wpQuiet_nil ?_
            intro w9 hc
            obtain ⟨kaw9, knw9, kww9, tww9, tvw9, bbw9⟩ := (HC.out w9).1 hc
            clear hc HC HK
            have HB9 := Lib.hid bbw9
            clear kaw9 knw9 kww9 tww9 tvw9 bbw9 K5
            go_wp2
            go_roundw
            case rel => exact ⟨k + 1, by omega, by go_num, HB9⟩
            case measure => simp [intOf]; omega
        · obtain rfl : k = m := by omega
          have HB2 : Hid (PolsIn wr (.slice (some ⟨B, off, none⟩) n c1) ps ∧ Below w.heap.size w wr) := Lib.hid ⟨HI.out.1.below HB.out, HI.out.2.trans (HB.out.mono HI.out.2.size)⟩
          clear HI HB HD
          go_wp2
          go_roundw
          case rel => exact ⟨i + 1, by omega, by go_num, HB2⟩
          case measure => simp [intOf]; omega
    · obtain rfl : i = n := by omega
      have HM9 := Lib.hid (HM.out.below HI.out.2)
      go_wp2_with fail
      refine (reads_hid.out _ HM9.out).mono ?_
      rintro e w4 ⟨rfl, b4⟩
      have HB := Lib.hid (HI.out.2.trans (b4.mono HI.out.2.size))
      clear b4
      go_wp2
      go_ret
      exact ⟨rfl, HB.out⟩

end Go.Proofs.YtmlanlagnhnppaaDoor
