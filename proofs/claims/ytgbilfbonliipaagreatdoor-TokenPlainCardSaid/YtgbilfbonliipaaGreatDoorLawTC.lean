/- The laws TokenPlain, TokenJoins. -/
import Derived.Test.YtgbilfbonliipaaGreatDoorLawTB
namespace Go.Proofs.YtgbilfbonliipaaGreatDoor
open Go.RowKit

theorem decT_ne {n : Nat} {l : List UInt8} (h : l ≠ []) : (decT n l).1 ≠ [] := by
  cases l with
  | nil => exact absurd rfl h
  | cons c r =>
    cases hs : firstM (c :: r) with
    | none => rw [decT_plain _ _ _ hs]; exact List.cons_ne_nil _ _
    | some p =>
      obtain ⟨t, b, k⟩ := p
      have hl := first_len hs
      rw [decT_sign _ hs]
      intro e
      have e1 := (List.append_eq_nil_iff.1 e).1
      rw [e1] at hl
      simp at hl
theorem failCs_flC (p : List Nat) : failCs p = flC (failM 0 p) := by
  induction p with
  | nil => rfl
  | cons a r ih =>
    rw [show failCs (a :: r) = [.int .i64 130, .int .i64 (a : Int)] ++ failCs r from rfl, ih, show failM 0 (a :: r) = ((130 : Int), 0 + a) :: failM 0 r from rfl, show ∀ y F, flC (y :: F) = [.int .i64 y.1, .int .i64 (y.2 : Int)] ++ flC F from fun _ _ => rfl]
    rw [Nat.zero_add]

set_option maxRecDepth 100000 in
set_option maxHeartbeats 8000000 in
theorem plain_law (s : ByteArray) (w : World) (hw : Low w) : Calls Tryz.prog 6 #[.string s] w fun e w' => e = .returned (.bool true) ∧ Below w.heap.size w w' := by
  by_cases hs : s.size ≤ 2500
  case neg =>
    have z1 : (2500 : Int) < (s.size : Int) := by omega
    clear hs hw
    go_enter Tryz.func6, Tryz.ntmps6
    go_wp2
    go_ret
    exact ⟨rfl, Below.refl _ _⟩
  case pos =>
    have z1 : ¬ (2500 : Int) < (s.size : Int) := by omega
    have CT := Lib.hid (tokens_any s (by omega) w hw)
    have CL := tokensL_hid
    have HW := Lib.hid hw
    obtain ⟨D, hD⟩ := text_of (decT 0 s.data.toList).1
    obtain ⟨p, hp⟩ : ∃ p, (decT 0 s.data.toList).2 = p := ⟨_, rfl⟩
    have hdec : decT 0 s.data.toList = (D.data.toList, p) := by rw [hD, ← hp]
    have CD := decO_hid s D p hdec (by omega)
    have HD := Lib.hid hdec
    have HS : Hid (s.size ≤ 2500) := Lib.hid hs
    clear hw hD hp hdec
    go_enter Tryz.func6, Tryz.ntmps6
    go_wp2
    go_loop [3] (fun i => ∃ k : Nat, i = .int .i64 k ∧ k ≤ s.size ∧ Hid (∀ j, j < k → s.data.toList[j]? ≠ some 60)) (fun i => s.size - (intOf i).toNat)
    case atStart => exact ⟨0, rfl, Nat.zero_le _, Lib.hid fun j h => absurd h (Nat.not_lt_zero _)⟩
    case round =>
      obtain ⟨k, rfl, hk, HN⟩ := hrel
      cases hc : s.data.toList[k]? with
      | some c =>
        have hlt := get_some hc
        have z2 : (k : Int) < (s.size : Int) := by omega
        have i0 := index_ty Tryz.underlying9 s k c hc
        by_cases h60 : c = 60
        · subst h60
          rw [show (((60 : UInt8).toNat : Nat) : Int) = 60 from rfl] at i0
          clear hc HN CT CD HD
          go_wp2_with fail
          (with_reducible refine (CL.out _ HW.out).mono ?_)
          rintro e w4 ⟨rfl, b4⟩
          go_wp2
          go_ret
          exact ⟨rfl, b4⟩
        · have g60 : ((c.toNat : Int) == 60) = false := by rw [beq_eq_false_iff_ne]; exact fun e => h60 (byte_is (d := 60) e)
          have HN2 : Hid (∀ j, j < k + 1 → s.data.toList[j]? ≠ some 60) := Lib.hid fun j hj => by
            by_cases e : j = k
            · subst e
              rw [hc]
              exact fun e => h60 (Option.some.inj e)
            · exact HN.out j (by omega)
          clear hc HN h60
          go_wp2
          go_round
          case rel => exact ⟨k + 1, by go_num, by omega, HN2⟩
          case measure => simp [intOf]; omega
      | none =>
        have h1 := get_none hc
        have z2 : ¬ (k : Int) < (s.size : Int) := by omega
        have hno : (60 : UInt8) ∉ s.data.toList := fun hm => by
          obtain ⟨j, hj, he⟩ := List.getElem_of_mem hm
          exact HN.out j (by rw [lsize] at hj; omega) (by rw [List.getElem?_eq_getElem hj, he])
        have HNO := Lib.hid hno
        clear hc HN hno h1
        unfold TokP at CT
        by_cases he : s.data.toList = []
        · have HR : Hid (readM s.data.toList = ([], [])) := Lib.hid (by rw [he]; exact read_nil)
          obtain rfl : s = ⟨#[]⟩ := text_is he
          rw [HR.out] at CT
          dsimp only at CT
          go_wp2_with fail
          refine CT.out.mono ?_
          rintro e w1 ⟨tv, fv, m, rfl, h1, h2, b1⟩
          obtain ⟨ta, tc, rfl⟩ := h1.form
          obtain ⟨fa, fc, rfl⟩ := (FailIn.of (F := []) h2).form
          have H1 := Lib.hid b1
          clear h1 h2 b1 CT
          go_wp2_with fail
          (with_reducible refine (CD.out _ (HW.out.below H1.out)).mono ?_)
          rintro e w2 ⟨a2, c2, rfl, h2, b2⟩
          have H2 := Lib.hid (H1.out.trans (b2.mono H1.out.size))
          clear h2 b2 H1 CD
          go_wp2_with fail
          (with_reducible refine (CL.out _ (HW.out.below H2.out)).mono ?_)
          rintro e w3 ⟨rfl, b3⟩
          have H3 := Lib.hid (H2.out.trans (b3.mono H2.out.size))
          clear b3 H2
          go_wp2
          go_ret
          exact ⟨rfl, H3.out⟩
        · have hDne : D.data.toList ≠ [] := by
            have := decT_ne (n := 0) he
            rw [HD.out] at this
            exact this
          have hrd := read_plain s.data.toList HNO.out he
          rw [decL_fail HD.out, HD.out, if_neg hDne] at hrd
          dsimp only at hrd
          rw [hrd] at CT
          dsimp only at CT
          have g0 : (s.toList == []) = false := by
            rw [text_lit]
            exact decide_eq_false he
          have g1 : s.toList.isEmpty = false := by
            rw [text_empty]
            cases hq : s.data.toList with
            | nil => exact absurd hq he
            | cons => rfl
          have CS := sameG_hid [textT D.data.toList] (by simp) (fun t ht => by rw [List.mem_singleton.1 ht]; exact Nat.zero_le _)
          have hpl : p.length ≤ 100000 := by
            have := (decT_len 0 s.data.toList).2
            rw [HD.out, lsize] at this
            simp only at this
            omega
          have hfl : (failM 0 p).length = p.length := by simp [failM]
          have CF := failsG_hid (failM 0 p) (by omega)
          clear he hDne hrd HNO
          go_wp2_with fail
          refine CT.out.mono ?_
          rintro e w1 ⟨tv, fv, m, rfl, h1, h2, b1⟩
          have H1 := Lib.hid (And.intro (TokIn.of h1) (And.intro (FailIn.of h2) b1))
          obtain ⟨ta, tc, rfl⟩ : ∃ a c, tv = .slice a 1 c := h1.form
          obtain ⟨fa, fc, rfl⟩ : ∃ a c, fv = .slice a p.length c := by rw [← hfl]; exact (FailIn.of h2).form
          clear h1 h2 b1 CT
          go_wp2_with fail
          (with_reducible refine (CD.out _ (HW.out.below H1.out.2.2)).mono ?_)
          rintro e w2 ⟨a2, c2, rfl, h2, b2⟩
          rw [failCs_flC] at h2
          have h2' : FailIn w2 (.slice a2 p.length c2) (failM 0 p) := FailIn.of (by rw [hfl]; exact h2)
          have H2 := Lib.hid (And.intro (H1.out.1.below b2) (And.intro (H1.out.2.1.below b2) (And.intro h2' (H1.out.2.2.trans (b2.mono H1.out.2.2.size)))))
          clear h2 h2' b2 H1 CD
          go_wp2_with fail
          (with_reducible refine (CL.out _ (HW.out.below H2.out.2.2.2)).mono ?_)
          rintro e w3 ⟨rfl, b3⟩
          have H3 := Lib.hid (And.intro (H2.out.1.below b3) (And.intro (H2.out.2.1.below b3) (And.intro (H2.out.2.2.1.below b3) (H2.out.2.2.2.trans (b3.mono H2.out.2.2.2.size)))))
          clear b3 H2 CL
          obtain ⟨r1, r2⟩ := laid1 w3 #[.int .i64 1, .string ⟨#[]⟩, .string D, .slice none 0 0, .bool false] [textT D.data.toList] (by
            have := TkCs.plain (w := w3) 1 [] D.data.toList false (TkCs.none w3)
            rw [strV_of (T := D) rfl] at this
            exact this) 1 rfl
          have H4 := Lib.hid (And.intro (H3.out.1.below r2) (And.intro r1 (And.intro (H3.out.2.1.below r2) (And.intro (H3.out.2.2.1.below r2) (H3.out.2.2.2.trans (r2.mono H3.out.2.2.2.size))))))
          clear r1 r2 H3
          go_wp2_with fail
          (with_reducible refine (CS.out _ _ _ H4.out.1 H4.out.2.1).mono ?_)
          rintro e w5 ⟨rfl, b5⟩
          have H5 := Lib.hid (And.intro (H4.out.2.2.1.below b5) (And.intro (H4.out.2.2.2.1.below b5) (H4.out.2.2.2.2.trans (b5.mono H4.out.2.2.2.2.size))))
          clear b5 H4 CS
          go_wp2_with fail
          (with_reducible refine (CF.out _ _ _ H5.out.1 H5.out.2.1).mono ?_)
          rintro e w6 ⟨rfl, b6⟩
          have H6 := Lib.hid (H5.out.2.2.trans (b6.mono H5.out.2.2.size))
          clear b6 H5 CF
          go_wp2
          go_ret
          exact ⟨rfl, H6.out⟩

set_option maxRecDepth 100000 in
set_option maxHeartbeats 8000000 in
theorem joins_law (L M : List Tk) (u v : Value) (w : World) (hw : Low w) (hu : ArgTok w u L) (hv : ArgTok w v M) : Calls Tryz.prog 8 #[u, v] w fun e w' => e = .returned (.bool true) ∧ Below w.heap.size w w' := by
  have CB := Lib.hid (bigT_any L u w hu.1 hu.2.1 hu.2.2)
  have CC := Lib.hid (bigT_any M v w hv.1 hv.2.1 hv.2.2)
  obtain ⟨a, c, rfl⟩ := hu.1.form
  obtain ⟨a', c', rfl⟩ := hv.1.form
  have HU := Lib.hid hu.1
  have HV := Lib.hid hv.1
  have HW := Lib.hid hw
  have CL := tokensL_hid
  clear hu hv hw
  go_enter Tryz.func8, Tryz.ntmps8
  go_wp2_with fail
  refine CB.out.mono ?_
  rintro e w1 ⟨b, rfl, hw1, hb⟩
  subst hw1
  cases b with
  | true =>
    clear CB CC hb
    go_wp2_with fail
    (with_reducible refine (CL.out _ HW.out).mono ?_)
    rintro e w3 ⟨rfl, b3⟩
    go_wp2
    go_ret
    exact ⟨rfl, b3⟩
  | false =>
    have hfa := hb rfl
    clear CB hb
    go_wp2_with fail
    refine CC.out.mono ?_
    rintro e w1 ⟨b, rfl, hw1, hb⟩
    subst hw1
    cases b with
    | true =>
      clear CC hb hfa
      go_wp2_with fail
      (with_reducible refine (CL.out _ HW.out).mono ?_)
      rintro e w3 ⟨rfl, b3⟩
      go_wp2
      go_ret
      exact ⟨rfl, b3⟩
    | false =>
      have hfb := hb rfl
      clear CC hb
      by_cases hk : ∃ t r, M = t :: r ∧ t.k = 1
      · obtain ⟨t, r, rfl, hk⟩ := hk
        obtain ⟨g, off, av, hg, c0, -⟩ := HV.out.at (k := 0) (by simp)
        cases hg
        rw [show (t :: r)[0] = t from rfl, hk, Nat.zero_mul, Nat.add_zero] at c0
        have zl : (0 : Int) < ((t :: r).length : Int) := by simp
        obtain ⟨ml, hml⟩ : ∃ ml, (t :: r).length = ml := ⟨_, rfl⟩
        rw [hml] at zl
        simp only [List.length_cons] at hml
        clear hfa hfb hk
        go_wp2_with fail
        (with_reducible refine (CL.out _ HW.out).mono ?_)
        rintro e w3 ⟨rfl, b3⟩
        go_wp2
        go_ret
        exact ⟨rfl, b3⟩
      · have hno : ∀ t r, M = t :: r → t.k ≠ 1 := fun t r e h => hk ⟨t, r, e, h⟩
        obtain ⟨f1, f2, f3, f4, f5⟩ := hfa.few
        obtain ⟨k1, k2, k3, k4, k5⟩ := hfb.few
        obtain ⟨P, hP⟩ := text_of (printM L)
        obtain ⟨Q, hQ⟩ := text_of (printM M)
        obtain ⟨R, hR⟩ := text_of (printM (L ++ M))
        have CP := print_hid L P hP f3 f4
        have CQ := print_hid M Q hQ k3 k4
        have hwl : wL (L ++ M) ≤ 20000000 := by
          have h1 := hfa.weight
          have h2 := hfb.weight
          have : wL (L ++ M) = wL L + wL M := by simp [wL]
          omega
        have CR := print_hid (L ++ M) R hR hwl (fun t ht => by
          rcases List.mem_append.1 ht with h | h
          · exact f4 t h
          · exact k4 t h)
        have hPs : P.size ≤ 50000000 := by
          rw [← lsize, hP]
          have h1 := printF_len none L
          have h2 := hfa.weight
          unfold printM
          omega
        have hQs : Q.size ≤ 50000000 := by
          rw [← lsize, hQ]
          have h1 := printF_len none M
          have h2 := hfb.weight
          unfold printM
          omega
        have s1 := add_to P Q R (by rw [hR, hP, hQ]; exact print_app L M hno) (by omega)
        have g := self_eq R
        have hl1 := hfa.1
        have hl2 := hfb.1
        obtain ⟨cs, r1, r2⟩ := HU.out
        obtain ⟨es, q1, q2⟩ := HV.out
        obtain ⟨i0, hi0, hz0, hz1, hz2⟩ := info_parts TinfoT
        have HTK := Lib.hid (And.intro r1 (And.intro r2 (And.intro q1 q2)))
        have hshape : (M = [] ∧ True) ∨ ∃ t r, M = t :: r := by
          cases M with
          | nil => exact .inl ⟨rfl, trivial⟩
          | cons t r => exact .inr ⟨t, r, rfl⟩
        have HSH : Hid (M.length = 0 ∨ (0 < M.length ∧ ∃ g off x, a' = some ⟨g, off, none⟩ ∧ w1.cell? ⟨g, off, none⟩ = some (.int .i64 x) ∧ x ≠ 1)) := Lib.hid (by
          rcases hshape with ⟨e, _⟩ | ⟨t, r, e⟩
          · exact .inl (by rw [e]; rfl)
          · refine .inr ⟨by rw [e]; simp, ?_⟩
            have hlt : 0 < M.length := by rw [e]; simp
            obtain ⟨g, off, av, hg, c0, -⟩ := HV.out.at (k := 0) hlt
            rw [Nat.zero_mul, Nat.add_zero] at c0
            refine ⟨g, off, _, hg, c0, ?_⟩
            have : M[0] = t := by simp [e]
            rw [this]
            exact hno t r e)
        obtain ⟨ln, hln⟩ : ∃ ln, L.length = ln := ⟨_, rfl⟩
        obtain ⟨mn, hmn⟩ : ∃ mn, M.length = mn := ⟨_, rfl⟩
        rw [hmn] at HSH HV
        rw [hln] at HU
        rw [hln, hmn] at HTK
        have HLM : Hid ((L ++ M).length = ln + mn) := Lib.hid (by rw [List.length_append, hln, hmn])
        rw [hln] at hl1 ⊢
        rw [hmn] at hl2 ⊢
        clear hfa hfb hk hno f1 f2 f3 f4 f5 k1 k2 k3 k4 k5 hP hQ hR hwl hPs hQs r1 r2 q1 q2 hshape hln hmn
        rcases HSH.out with hm0 | ⟨hm1, gg, goff, x, rfl, cx, hx⟩
        · subst hm0
          clear HSH
          go_wp2_with (
            at_builtin
            first
            | (
              refine wpList_append_rowG rfl _ _ 22 40 i0 (.agg #[.int .i64 0, .string ⟨#[]⟩, .string ⟨#[]⟩, .slice none 0 0, .bool false]) 5 72 Tryz.underlying22 hi0 hz0 hz1 hz2 rfl (by decide) rfl w1.heap.size (.slice none 0 0) 0 [] rfl (World.ownsRow_nil _ _ _ _) _ ln cs rfl HTK.out.1 (by unfold maxLen; omega) (by omega) (Nat.le_refl _) ?_
              intro v6 w6 hown6 hgrow6 hat6
              rw [Nat.zero_add, List.nil_append] at hown6
              have hb6 : Below w1.heap.size w1 w6 := Below.grown (Below.refl _ _) hgrow6 (Nat.le_refl _) (fun j hj => by cases hj)
              have hq6 := HTK.out.2.2.1.below hb6
              have H6 := Lib.hid (And.intro hown6 (And.intro hb6 hq6))
              have HF6 : Hid (∃ a k, v6 = .slice a ln k) := Lib.hid (by
                rcases rowForms hown6 with ⟨e1, e2⟩ | ⟨g, k, e1⟩
                · exact ⟨none, 0, by rw [e1, e2]⟩
                · exact ⟨_, _, e1⟩)
              clear hown6 hgrow6 hat6 hb6 hq6
              obtain ⟨va, vk, rfl⟩ := HF6.out
              clear HF6)
            | (
              refine wpList_append_rowG rfl _ _ 22 40 i0 (.agg #[.int .i64 0, .string ⟨#[]⟩, .string ⟨#[]⟩, .slice none 0 0, .bool false]) 5 72 Tryz.underlying22 hi0 hz0 hz1 hz2 rfl (by decide) rfl w1.heap.size (.slice va ln vk) ln cs rfl H6.out.1 _ 0 es rfl H6.out.2.2 (by unfold maxLen; omega) (by omega) H6.out.2.1.size ?_
              intro v7 w7 hown7 hgrow7 hat7
              have hb7 : Below w1.heap.size w1 w7 := Below.grown H6.out.2.1 hgrow7 H6.out.2.1.size (fun j hj => (H6.out.1.lt j hj).1)
              have hc7 : TkCs w7 (L ++ M) (cs ++ es) := (HTK.out.2.1.below hb7).app (HTK.out.2.2.2.below hb7)
              have ht7 : TokIn w7 v7 (L ++ M) := ⟨cs ++ es, by rw [HLM.out]; exact RowIn.of_own hown7 hc7.one, hc7⟩
              have H7 := Lib.hid (And.intro ht7 (And.intro (HU.out.below hb7) (And.intro (HV.out.below hb7) hb7)))
              have HF7 : Hid (∃ a k, v7 = .slice a ln k) := Lib.hid (by
                rcases rowForms hown7 with ⟨e1, e2⟩ | ⟨g, k, e1⟩
                · exact ⟨none, 0, by rw [e1, show ln = 0 from e2]⟩
                · exact ⟨_, _, e1⟩)
              clear hown7 hgrow7 hat7 hb7 hc7 ht7 H6
              obtain ⟨xa, xk, rfl⟩ := HF7.out
              clear HF7))
          (with_reducible refine (CL.out _ (HW.out.below H7.out.2.2.2)).mono ?_)
          rintro e w8 ⟨rfl, b8⟩
          have H8 := Lib.hid (And.intro (H7.out.1.below b8) (And.intro (H7.out.2.1.below b8) (And.intro (H7.out.2.2.1.below b8) (H7.out.2.2.2.trans (b8.mono H7.out.2.2.2.size)))))
          clear b8 H7 CL
          go_wp2_with fail
          (with_reducible refine (CR.out _ _ (HW.out.below H8.out.2.2.2) H8.out.1).mono ?_)
          rintro e w9 ⟨rfl, b9⟩
          have H9 := Lib.hid (And.intro (H8.out.2.1.below b9) (And.intro (H8.out.2.2.1.below b9) (H8.out.2.2.2.trans (b9.mono H8.out.2.2.2.size))))
          clear b9 H8 CR
          go_wp2_with fail
          (with_reducible refine (CP.out _ _ (HW.out.below H9.out.2.2) H9.out.1).mono ?_)
          rintro e w10 ⟨rfl, b10⟩
          have H10 := Lib.hid (And.intro (H9.out.2.1.below b10) (H9.out.2.2.trans (b10.mono H9.out.2.2.size)))
          clear b10 H9 CP
          go_wp2_with fail
          (with_reducible refine (CQ.out _ _ (HW.out.below H10.out.2) H10.out.1).mono ?_)
          rintro e w11 ⟨rfl, b11⟩
          have H11 := Lib.hid (H10.out.2.trans (b11.mono H10.out.2.size))
          clear b11 H10 CQ
          go_wp2
          go_ret
          exact ⟨rfl, H11.out⟩
        · have zx : (x == 1) = false := beq_eq_false_iff_ne.2 hx
          have zm : (0 : Int) < (mn : Int) := by omega
          clear HSH hx
          go_wp2_with (
            at_builtin
            first
            | (
              refine wpList_append_rowG rfl _ _ 22 40 i0 (.agg #[.int .i64 0, .string ⟨#[]⟩, .string ⟨#[]⟩, .slice none 0 0, .bool false]) 5 72 Tryz.underlying22 hi0 hz0 hz1 hz2 rfl (by decide) rfl w1.heap.size (.slice none 0 0) 0 [] rfl (World.ownsRow_nil _ _ _ _) _ ln cs rfl HTK.out.1 (by unfold maxLen; omega) (by omega) (Nat.le_refl _) ?_
              intro v6 w6 hown6 hgrow6 hat6
              rw [Nat.zero_add, List.nil_append] at hown6
              have hb6 : Below w1.heap.size w1 w6 := Below.grown (Below.refl _ _) hgrow6 (Nat.le_refl _) (fun j hj => by cases hj)
              have hq6 := HTK.out.2.2.1.below hb6
              have H6 := Lib.hid (And.intro hown6 (And.intro hb6 hq6))
              have HF6 : Hid (∃ a k, v6 = .slice a ln k) := Lib.hid (by
                rcases rowForms hown6 with ⟨e1, e2⟩ | ⟨g, k, e1⟩
                · exact ⟨none, 0, by rw [e1, e2]⟩
                · exact ⟨_, _, e1⟩)
              clear hown6 hgrow6 hat6 hb6 hq6
              obtain ⟨va, vk, rfl⟩ := HF6.out
              clear HF6)
            | (
              refine wpList_append_rowG rfl _ _ 22 40 i0 (.agg #[.int .i64 0, .string ⟨#[]⟩, .string ⟨#[]⟩, .slice none 0 0, .bool false]) 5 72 Tryz.underlying22 hi0 hz0 hz1 hz2 rfl (by decide) rfl w1.heap.size (.slice va ln vk) ln cs rfl H6.out.1 _ mn es rfl H6.out.2.2 (by unfold maxLen; omega) (by omega) H6.out.2.1.size ?_
              intro v7 w7 hown7 hgrow7 hat7
              have hb7 : Below w1.heap.size w1 w7 := Below.grown H6.out.2.1 hgrow7 H6.out.2.1.size (fun j hj => (H6.out.1.lt j hj).1)
              have hc7 : TkCs w7 (L ++ M) (cs ++ es) := (HTK.out.2.1.below hb7).app (HTK.out.2.2.2.below hb7)
              have ht7 : TokIn w7 v7 (L ++ M) := ⟨cs ++ es, by rw [HLM.out]; exact RowIn.of_own hown7 hc7.one, hc7⟩
              have H7 := Lib.hid (And.intro ht7 (And.intro (HU.out.below hb7) (And.intro (HV.out.below hb7) hb7)))
              have HF7 : Hid (∃ a k, v7 = .slice a (ln + mn) k) := Lib.hid (by
                rcases rowForms hown7 with ⟨e1, e2⟩ | ⟨g, k, e1⟩
                · exact ⟨none, 0, by rw [e1, e2]⟩
                · exact ⟨_, _, e1⟩)
              clear hown7 hgrow7 hat7 hb7 hc7 ht7 H6
              obtain ⟨xa, xk, rfl⟩ := HF7.out
              clear HF7))
          (with_reducible refine (CL.out _ (HW.out.below H7.out.2.2.2)).mono ?_)
          rintro e w8 ⟨rfl, b8⟩
          have H8 := Lib.hid (And.intro (H7.out.1.below b8) (And.intro (H7.out.2.1.below b8) (And.intro (H7.out.2.2.1.below b8) (H7.out.2.2.2.trans (b8.mono H7.out.2.2.2.size)))))
          clear b8 H7 CL
          go_wp2_with fail
          (with_reducible refine (CR.out _ _ (HW.out.below H8.out.2.2.2) H8.out.1).mono ?_)
          rintro e w9 ⟨rfl, b9⟩
          have H9 := Lib.hid (And.intro (H8.out.2.1.below b9) (And.intro (H8.out.2.2.1.below b9) (H8.out.2.2.2.trans (b9.mono H8.out.2.2.2.size))))
          clear b9 H8 CR
          go_wp2_with fail
          (with_reducible refine (CP.out _ _ (HW.out.below H9.out.2.2) H9.out.1).mono ?_)
          rintro e w10 ⟨rfl, b10⟩
          have H10 := Lib.hid (And.intro (H9.out.2.1.below b10) (H9.out.2.2.trans (b10.mono H9.out.2.2.size)))
          clear b10 H9 CP
          go_wp2_with fail
          (with_reducible refine (CQ.out _ _ (HW.out.below H10.out.2) H10.out.1).mono ?_)
          rintro e w11 ⟨rfl, b11⟩
          have H11 := Lib.hid (H10.out.2.trans (b11.mono H10.out.2.size))
          clear b11 H10 CQ
          go_wp2
          go_ret
          exact ⟨rfl, H11.out⟩

end Go.Proofs.YtgbilfbonliipaaGreatDoor
