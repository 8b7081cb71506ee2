/- The document's reader: a whole document. -/
import Derived.Test.YtfbhpmafjehojaaGreatDoorToP
import Derived.Test.YtfbhpmafjehojaaGreatDoorTokAE
import Derived.Test.YtfbhpmafjehojaaGreatDoorTokX
namespace Go.Proofs.YtfbhpmafjehojaaGreatDoor
open Go.RowKit

/-- Where the document's reader is: what it holds is what the mathematics holds. -/
def RelQ (s : List UInt8) (n : Nat) (T : List Tk) (F : List Fl) (x : List UInt8) : Prop :=
  (x = [] ∨ rawM x = true) ∧ wL T + 22 * aheadM x (s.drop n) ≤ 44 * s.length ∧ F.length + 4 * aheadM x (s.drop n) ≤ 8 * s.length ∧ ∃ f, s.length - n + (if x = [] then 0 else 1) < f ∧ readM s = readF f x n (s.drop n) T F
theorem relQ_start (s : List UInt8) : RelQ s 0 [] [] [] := by
  have e : aheadM [] (s.drop 0) = 2 * s.length := by simp [aheadM]
  refine ⟨.inl rfl, ?_, ?_, s.length + 2, ?_, rfl⟩
  · rw [e]; show 0 + _ ≤ _; omega
  · rw [e]; show 0 + _ ≤ _; omega
  · rw [if_pos rfl]; omega
theorem relQ_step {s : List UInt8} {n : Nat} {T : List Tk} {F : List Fl} {x : List UInt8} (h : RelQ s n T F x) (hn : n ≤ s.length) (h0 : ¬ (s.drop n = [] ∧ x = [])) {S : Step} (hS : stepM x n (s.drop n) = S) : RelQ s (n + S.k) (pushM T S.t) (F ++ S.f) S.r ∧ n + S.k ≤ s.length ∧ aheadM S.r (s.drop (n + S.k)) < aheadM x (s.drop n) := by
  obtain ⟨h1, h2, h3, f, h4, h5⟩ := h
  have hb := step_bound x n (s.drop n) h0
  rw [hS] at hb
  have ha := ahead_step hb
  rw [List.drop_drop] at ha
  have hle := hb.le
  rw [List.length_drop] at hle
  have hp := wL_push T S.t
  refine ⟨⟨?_, ?_, ?_, ?_⟩, by omega, by omega⟩
  · by_cases hr : S.r = []
    · exact .inl hr
    · exact .inr (hb.raw hr).2.2
  · cases ht : S.t with
    | none =>
      rw [ht] at hp
      dsimp only at hp
      omega
    | some t =>
      rw [ht] at hp
      dsimp only at hp
      have := ha.2.2 t ht
      omega
  · rw [List.length_append]
    omega
  · obtain ⟨f, rfl⟩ : ∃ g, f = g + 1 := ⟨f - 1, by omega⟩
    refine ⟨f, ?_, ?_⟩
    · by_cases hx : x = []
      · rw [if_pos hx] at h4
        have := hb.one hx
        by_cases hr : S.r = []
        · rw [if_pos hr]; omega
        · rw [if_neg hr]
          have := hb.raw hr
          omega
      · rw [if_neg hx] at h4
        have hr : S.r = [] := Classical.byContradiction fun hr => hx (hb.raw hr).1
        rw [if_pos hr]
        omega
    · rw [h5, readF_step f x n _ _ _ h0, hS, List.drop_drop]
theorem relQ_end {s : List UInt8} {n : Nat} {T : List Tk} {F : List Fl} (h : RelQ s n T F []) (hn : s.drop n = []) : readM s = (T, F) := by
  obtain ⟨_, _, _, f, h4, h5⟩ := h
  rw [h5, hn]
  cases f with
  | zero => rfl
  | succ f => unfold readF; rw [if_pos ⟨rfl, rfl⟩]
theorem relQ_last {s : List UInt8} {n : Nat} {T : List Tk} {F : List Fl} {x : List UInt8} (h : RelQ s n T F x) (hs : s.length ≤ 9000) : LastD T 1000000 ∧ T.length ≤ 700000 ∧ F.length ≤ 80000 := by
  obtain ⟨_, h2, h3, _⟩ := h
  have hl := wL_len T
  refine ⟨fun u hu => ?_, by omega, by omega⟩
  have hm := wL_mem (List.mem_of_getLast? hu)
  unfold wT at hm
  omega
theorem rawM_len {x : List UInt8} (h : x = [] ∨ rawM x = true) : x.length ≤ 8 := by
  rcases h with rfl | h
  · exact Nat.zero_le _
  · unfold rawM at h
    rw [Bool.or_eq_true, Bool.or_eq_true, Bool.or_eq_true, decide_eq_true_eq, decide_eq_true_eq, decide_eq_true_eq, decide_eq_true_eq] at h
    rcases h with ((rfl | rfl) | rfl) | rfl <;> decide
def rawOf (Q : Nat) (w : World) : Nat := match w.cell? ⟨Q, 4, none⟩ with | some (.string x) => if x.data.toList = [] then 0 else 1 | _ => 0
theorem QX.pos {w : World} {Q : Nat} {s : ByteArray} {n : Nat} {tv fv : Value} {x : ByteArray} (a : QX w Q s n tv fv x) : posOf Q w = n ∧ rawOf Q w = if x.data.toList = [] then 0 else 1 := by
  refine ⟨?_, ?_⟩
  · unfold posOf
    rw [a.c1]
    simp [intOf]
  · unfold rawOf
    rw [a.c4]
theorem QX.ahead {w : World} {Q : Nat} {s : ByteArray} {n : Nat} {tv fv : Value} {x : ByteArray} (a : QX w Q s n tv fv x) : 2 * (s.size - posOf Q w) + rawOf Q w = aheadM x.data.toList (s.data.toList.drop n) := by
  rw [a.pos.1, a.pos.2]
  unfold aheadM
  rw [List.length_drop, lsize]
theorem step_textQ {n i : Nat} {l D : List UInt8} {q : List Nat} (h60 : l.head? ≠ some 60) (hi : l.findIdx (· == 60) = i) (hd : decT 0 (l.take i) = (D, q)) : stepM [] n l = ⟨some (textT D), failM n q, i, []⟩ := by
  unfold stepM
  rw [if_neg (by simp), if_neg h60, hi, decL_fail hd]

/-- What Read comes to. -/
def ReadP (s : ByteArray) (W : World) (e : Ending) (w' : World) : Prop :=
  e = .returned (.pointer (some ⟨W.heap.size, 0, none⟩)) ∧ (∃ m n x, QS w' W.heap.size m W.heap.size s n (readM s.data.toList).1 (readM s.data.toList).2 x) ∧ Below W.heap.size W w'

set_option maxRecDepth 100000 in
set_option maxHeartbeats 8000000 in
theorem readQ_any (s : ByteArray) (hs : s.size ≤ 9000) (w : World) : Calls Tryz.prog 30 #[.string s] w (ReadP s w) := by
  have z1 : (s.size : Int) ≤ 9000 := by omega
  have hal := (Below.refl w.heap.size w).alloc (Nat.le_refl _) (.cells #[.string s, .int .i64 0, .slice none 0 0, .slice none 0 0, .string ⟨#[]⟩] 74)
  have hv : QV (w.alloc (.cells #[.string s, .int .i64 0, .slice none 0 0, .slice none 0 0, .string ⟨#[]⟩] 74)) w.heap.size (w.heap.size + 1) w.heap.size s 0 [] [] ⟨#[]⟩ (.slice none 0 0) (.slice none 0 0) :=
    ⟨new_block w _, OwnT.nil _ _ _, World.ownsRow_nil _ _ _ _, Nat.le_refl _, Nat.lt_succ_self _, by simp⟩
  have HV := Lib.hid (And.intro hv.form hal)
  unfold ReadP
  clear hv hal
  go_enter Tryz.func30, Tryz.ntmps30
  go_wp2
  generalize w.alloc (.cells #[.string s, .int .i64 0, .slice none 0 0, .slice none 0 0, .string ⟨#[]⟩] 74) = w0 at HV ⊢
  generalize hR : w.heap.size = Q at HV ⊢
  have HQ0 := Lib.hid hR
  clear hR
  go_loopw [4] (fun _ wr => ∃ (n : Nat) (T : List Tk) (F : List Fl) (x : ByteArray) (m : Nat), n ≤ s.size ∧ Hid (QS wr Q m Q s n T F x ∧ Below Q w wr ∧ RelQ s.data.toList n T F x.data.toList)) (fun _ wr => 2 * (s.size - posOf Q wr) + rawOf Q wr)
  case atStart => exact ⟨0, [], [], ⟨#[]⟩, Q + 1, Nat.zero_le _, Lib.hid ⟨HV.out.1, HV.out.2, relQ_start _⟩⟩
  case round =>
    clear HV
    obtain ⟨n, T, F, x, m, hn, HX⟩ := hrel
    obtain ⟨⟨tv, fv, hv⟩, hb, hr⟩ := HX.out
    have d1 := hv.q.c1
    have d4 := hv.q.c4
    have hah := Lib.hid hv.q.ahead
    have hLT := relQ_last hr (by rw [lsize]; exact hs)
    have hxl := rawM_len hr.1
    rw [lsize] at hxl
    have HV := Lib.hid hv
    have HB := Lib.hid hb
    have HR := Lib.hid hr
    have HLD := Lib.hid hLT.1
    have hTl := hLT.2.1
    have hFl := hLT.2.2
    clear HX hv hb hr hLT
    have hnl : n ≤ s.data.toList.length := by rw [lsize]; exact hn
    by_cases hx : x.data.toList = []
    · obtain rfl : x = ⟨#[]⟩ := text_is hx
      by_cases hend : n = s.size
      · have z2 : ¬ (n : Int) < (s.size : Int) := by omega
        have HE : Hid (readM s.data.toList = (T, F)) := Lib.hid (relQ_end HR.out (by rw [hend, ← lsize]; simp))
        clear hend
        go_wp2
        go_ret
        rw [HQ0.out]
        exact ⟨rfl, ⟨m, n, ⟨#[]⟩, by rw [HE.out]; exact HV.out.form⟩, HB.out⟩
      · have hlt : n < s.size := by omega
        have z2 : (n : Int) < (s.size : Int) := by omega
        obtain ⟨c, hc⟩ : ∃ c, s.data.toList[n]? = some c := ⟨_, List.getElem?_eq_getElem (by rw [lsize]; exact hlt)⟩
        have hhead : (s.data.toList.drop n).head? = some c := by rw [head_get, List.getElem?_drop, Nat.add_zero]; exact hc
        have h0 : ¬ (s.data.toList.drop n = [] ∧ (⟨#[]⟩ : ByteArray).data.toList = []) := fun e => by rw [e.1] at hhead; cases hhead
        have i0 := index_ty Tryz.underlying9 s n c hc
        by_cases h60 : c = 60
        · subst h60
          rw [show (((60 : UInt8).toNat : Nat) : Int) = 60 from rfl] at i0
          obtain ⟨S, hS⟩ : ∃ S, signS n (s.data.toList.drop n) = S := ⟨_, rfl⟩
          have hstep : stepM (⟨#[]⟩ : ByteArray).data.toList n (s.data.toList.drop n) = S := (step_sign n hhead).trans hS
          obtain ⟨XR, hXR⟩ := text_of S.r
          have CS := signQ_hid s XR n hlt (by rw [hXR, hS]) (by omega)
          rw [hS] at CS
          obtain ⟨h1, h2, h3⟩ := relQ_step HR.out hnl h0 hstep
          rw [← hXR, lsize] at *
          have HN := Lib.hid (And.intro h1 h3)
          clear hS hstep hc hhead h0 h1 h3 hXR
          go_wp2_with fail
          (with_reducible refine (CS.out _ _ _ _ _ _ HV.out.form HLD.out (by omega) (by omega)).mono ?_)
          rintro e w1 ⟨rfl, ⟨tv1, fv1, h5⟩, b5⟩
          have HQ := Lib.hid (And.intro h5 (HB.out.trans b5))
          clear h5 b5 HV HB HLD HR CS d1 d4
          go_wp2
          go_roundw
          case rel => exact ⟨_, _, _, _, _, h2, Lib.hid ⟨HQ.out.1.form, HQ.out.2, HN.out.1⟩⟩
          case measure =>
            rw [HQ.out.1.q.ahead, hah.out]
            exact HN.out.2
        · have g60 : ((c.toNat : Int) == 60) = false := by rw [beq_eq_false_iff_ne]; exact fun e => h60 (byte_is (d := 60) e)
          obtain ⟨i, hi⟩ : ∃ i, (s.data.toList.drop n).findIdx (· == 60) = i := ⟨_, rfl⟩
          have CU := upto_hid Q s ⟨#[60]⟩ n (by omega) (by omega) (by decide)
          rw [show (⟨#[60]⟩ : ByteArray).data.toList = [60] from rfl, inL_open, hi] at CU
          have hil := find_le (· == 60) s n hn
          rw [hi] at hil
          obtain ⟨t, ht⟩ : ∃ t, n + i = t := ⟨_, rfl⟩
          rw [ht] at CU hil
          obtain ⟨P, hP⟩ := text_of ((s.data.toList.drop n).take i)
          obtain ⟨D, hD⟩ := text_of (decT 0 P.data.toList).1
          obtain ⟨q, hq⟩ : ∃ q, (decT 0 P.data.toList).2 = q := ⟨_, rfl⟩
          have hdec : decT 0 P.data.toList = (D.data.toList, q) := by rw [hD, ← hq]
          have CD := decodeQ_hid s P D q n t (by rw [hP]; congr 1; omega) (by omega) hil (by omega) hdec
          have hPs : P.size ≤ 9000 := by rw [← lsize, hP, List.length_take, List.length_drop, lsize]; omega
          have hdl := decT_len 0 P.data.toList
          rw [hdec, lsize, lsize] at hdl
          have hstep : stepM (⟨#[]⟩ : ByteArray).data.toList n (s.data.toList.drop n) = ⟨some (textT D.data.toList), failM n q, i, []⟩ := step_textQ (fun e => h60 (by rw [hhead] at e; exact Option.some.inj e)) hi (by rw [← hP]; exact hdec)
          have CT := textQ_hid D T (by omega) HLD.out (by omega)
          obtain ⟨h1, h2, h3⟩ := relQ_step HR.out hnl h0 hstep
          dsimp only at h1 h2 h3
          rw [ht] at h1 h2 h3
          rw [lsize] at h2
          have HN := Lib.hid (And.intro h1 h3)
          clear hstep hc hhead h0 h1 h3 hi hP hD hq hdec hPs hdl ht hil h60
          go_wp2_with fail
          (with_reducible refine (CU.out _ _ _ _ _ HV.out.q).mono ?_)
          rintro e w1 ⟨rfl, b1⟩
          have HV1 := Lib.hid (HV.out.below b1)
          have B1 := HB.out.trans (b1.mono HV.out.bw)
          clear b1 HV HB d1 d4 CU
          have d1 := HV1.out.q.c1
          go_wp2_with fail
          (with_reducible refine (CD.out _ _ _ _ _ _ _ _ HV1.out.form (by omega)).mono ?_)
          rintro e w2 ⟨rfl, h2', k2⟩
          have HV2 := Lib.hid h2'
          have B2 := B1.trans (HV1.out.form.frb k2)
          clear h2' k2 HV1 B1 CD d1
          go_wp2_with fail
          (with_reducible refine (CT.out _ _ _ _ _ _ _ _ HV2.out).mono ?_)
          rintro e w3 ⟨rfl, h3, b3⟩
          have B3 := B2.trans b3
          obtain ⟨tv3, fv3, h3⟩ := h3
          have HV3 := Lib.hid h3
          clear h3 b3 HV2 B2 CT
          have d1 := HV3.out.q.c1
          have f1 := HV3.out.q.free 1
          have HV4 := Lib.hid (HV3.out.moved (HV3.out.q.set1 t) (HV3.out.q.kset 1 _))
          have B4 := B3.trans (HV3.out.form.onb (HV3.out.q.kset 1 (.int .i64 (t : Int))))
          clear HV3 B3
          go_wp2
          go_roundw
          case rel => exact ⟨_, _, _, ⟨#[]⟩, _, h2, Lib.hid ⟨HV4.out.form, B4, HN.out.1⟩⟩
          case measure =>
            rw [HV4.out.q.ahead, hah.out]
            exact HN.out.2
    · have g0 : (x.toList == []) = false := by
        rw [text_lit]
        exact decide_eq_false hx
      have g1 : x.toList.isEmpty = false := by
        rw [text_empty]
        cases hq : x.data.toList with
        | nil => exact absurd hq hx
        | cons => rfl
      have CR := rawQ_hid s x n hn (by omega) (by omega)
      have hstep : stepM x.data.toList n (s.data.toList.drop n) = rawS x.data.toList n (s.data.toList.drop n) := by unfold stepM; rw [if_pos hx]
      obtain ⟨h1, h2, h3⟩ := relQ_step HR.out hnl (fun e => hx e.2) hstep
      rw [lsize] at h2
      have HN := Lib.hid (And.intro h1 h3)
      have hk := (step_bound x.data.toList n (s.data.toList.drop n) (fun e => hx e.2)).le
      rw [hstep, List.length_drop, lsize] at hk
      clear hstep h1 h3 hx
      by_cases hend : n = s.size
      · have z2 : ¬ (n : Int) < (s.size : Int) := by omega
        go_wp2_with fail
        (with_reducible refine (CR.out _ _ _ _ _ _ HV.out.form HLD.out (by omega) (by omega)).mono ?_)
        rintro e w1 ⟨rfl, ⟨tv1, fv1, h5⟩, b5⟩
        have HQ := Lib.hid (And.intro h5 (HB.out.trans b5))
        have HE : Hid (readM s.data.toList = (pushM T (rawS x.data.toList n (s.data.toList.drop n)).t, F ++ (rawS x.data.toList n (s.data.toList.drop n)).f)) := Lib.hid (relQ_end HN.out.1 (by rw [List.drop_eq_nil_iff, lsize]; omega))
        clear h5 b5 HV HB HLD HR CR d1 d4
        go_wp2
        go_ret
        rw [HQ0.out]
        exact ⟨rfl, ⟨_, _, ⟨#[]⟩, by rw [HE.out]; exact HQ.out.1.form⟩, HQ.out.2⟩
      · have z2 : (n : Int) < (s.size : Int) := by omega
        go_wp2_with fail
        (with_reducible refine (CR.out _ _ _ _ _ _ HV.out.form HLD.out (by omega) (by omega)).mono ?_)
        rintro e w1 ⟨rfl, ⟨tv1, fv1, h5⟩, b5⟩
        have HQ := Lib.hid (And.intro h5 (HB.out.trans b5))
        clear h5 b5 HV HB HLD HR CR d1 d4
        go_wp2
        go_roundw
        case rel => exact ⟨_, _, _, ⟨#[]⟩, _, h2, Lib.hid ⟨HQ.out.1.form, HQ.out.2, HN.out.1⟩⟩
        case measure =>
          rw [HQ.out.1.q.ahead, hah.out]
          exact HN.out.2
theorem readQ_hid (s : ByteArray) (hs : s.size ≤ 9000) : Hid (∀ W, Calls Tryz.prog 30 #[.string s] W (ReadP s W)) := Lib.hid fun W => readQ_any s hs W

set_option maxRecDepth 100000 in
theorem tokensQ_any (s : ByteArray) (hs : s.size ≤ 9000) (w : World) : Calls Tryz.prog 20 #[.string s] w (TokP s.data.toList w) := by
  have z1 : ¬ (20000 : Int) < (s.size : Int) := by omega
  have CR := readQ_hid s hs
  unfold TokP
  clear hs
  go_enter Tryz.func20, Tryz.ntmps20
  go_wp2_with fail
  (with_reducible refine (CR.out _).mono ?_)
  rintro e w1 ⟨rfl, ⟨m, n, x, tv, fv, h1⟩, b1⟩
  have d2 := h1.q.c2
  have d3 := h1.q.c3
  have HR := Lib.hid (And.intro h1 b1)
  obtain ⟨ta, tc, rfl⟩ := h1.ht.form
  obtain ⟨fa, fc, rfl, -, -⟩ := rowCapF h1.hf
  obtain ⟨t2, ht2⟩ : ∃ t2, (readM s.data.toList).1.length = t2 := ⟨_, rfl⟩
  obtain ⟨f2, hf2⟩ : ∃ f2, (readM s.data.toList).2.length = f2 := ⟨_, rfl⟩
  rw [ht2, hf2] at HR
  rw [ht2] at d2
  rw [hf2] at d3
  have HF2 := Lib.hid hf2
  clear h1 b1 CR ht2 hf2
  go_wp2
  go_quiet (fail)
  go_wp2
  go_ret3
  have h1 := HR.out.1.below (belowN (Below.refl w1.heap.size w1) nq)
  exact ⟨_, _, m, rfl, h1.ht, h1.hf, HR.out.2.trans ((belowN (Below.refl w1.heap.size w1) nq).mono HR.out.2.size)⟩
end Go.Proofs.YtfbhpmafjehojaaGreatDoor
