/- The program's Tokens. -/
import Derived.Test.YtgbilfbonliipaaGreatDoorTokQ
namespace Go.Proofs.YtgbilfbonliipaaGreatDoor
open Go.RowKit

theorem getD_drop (s : List UInt8) (n k : Nat) : (s.drop n)[k]? = s[n + k]? := List.getElem?_drop
theorem read_hid (s : ByteArray) (n : Nat) (hn : n < s.size) (hs : s.size ≤ 20000) : Hid (∀ W B m R H T F, RS W B m R s n H T F (.slice none 0 0) [] → H.length ≤ n → T.length ≤ n → F.length ≤ 3 * n → NoText T → Calls Tryz.prog 24 #[.pointer (some ⟨R, 0, none⟩)] W (RoundP B R s n H T F W)) := by
  obtain ⟨l, hl⟩ : ∃ l, s.data.toList.drop n = l := ⟨_, rfl⟩
  have g1 : s.data.toList[n + 1]? = l[1]? := by rw [← hl, getD_drop]
  have g2 : s.data.toList[n + 2]? = l[2]? := by rw [← hl, getD_drop]
  have p1 : beginsM [60] l = decide (l[0]? = some 60) := begins_first (by decide) (by decide) l
  have p2 : ∀ z : UInt8, z.toNat < 97 → lowB z = z → beginsM [60, z] l = (decide (l[0]? = some 60) && decide (l[1]? = some z)) := fun z h1 h2 => begins_pair (by decide) (by decide) h1 h2 l
  have p47 := p2 47 (by decide) (by decide)
  have p33 := p2 33 (by decide) (by decide)
  have p63 := p2 63 (by decide) (by decide)
  by_cases h60 : l.head? = some 60
  · have h0 : l[0]? = some 60 := by rw [← head_get]; exact h60
    rw [h0] at p1 p47 p33 p63
    simp only [decide_true, Bool.true_and] at p1 p47 p33 p63
    have hsg := signS_is n l
    by_cases e1 : (l[1]?).any letB = true
    · have h47 : ¬ l[1]? = some 47 := fun e => by rw [e] at e1; exact absurd e1 (by decide)
      rw [if_pos e1] at hsg
      have hlt : n + 1 < s.size := by
        rw [← g1] at e1
        cases hc : s.data.toList[n + 1]? with
        | none => rw [hc] at e1; cases e1
        | some c => exact get_some hc
      exact leaf_start s n (by rw [hl, p47, decide_eq_false h47]; rfl) (by rw [hl, p1, g1, e1]; rfl) (by rw [hl]; exact h60) (by rw [hl]; exact hsg) hlt hn hs
    · rw [if_neg e1] at hsg
      have e1f : (l[1]?).any letB = false := Bool.eq_false_iff.2 e1
      by_cases e2 : l[1]? = some 47 ∧ (l[2]?).any letB = true
      · rw [if_pos e2] at hsg
        have hlt : n + 2 < s.size := by
          have e3 := e2.2
          rw [← g2] at e3
          cases hc : s.data.toList[n + 2]? with
          | none => rw [hc] at e3; cases e3
          | some c => exact get_some hc
        exact leaf_end s n (by rw [hl, p47, decide_eq_true e2.1, g2, e2.2]; rfl) (by rw [hl]; exact h60) (by rw [hl]; exact hsg) hlt hn hs
      · rw [if_neg e2] at hsg
        have t0 : (beginsM [60, 47] l && (s.data.toList[n + 2]?).any letB) = false := by
          rw [p47, g2]
          cases h : decide (l[1]? = some 47) with
          | false => rfl
          | true => rw [Bool.true_and]; exact Bool.eq_false_iff.2 fun h2 => e2 ⟨of_decide_eq_true h, h2⟩
        have t1 : (beginsM [60] l && (s.data.toList[n + 1]?).any letB) = false := by rw [g1, e1f, Bool.and_false]
        have two : ∀ z, l[1]? = some z → n + 2 ≤ s.size := fun z h => by
          rw [← g1] at h
          have := get_some h
          omega
        by_cases e3 : beginsM [60, 33, 45, 45] l = true
        · rw [if_pos e3] at hsg
          have hlen := begins_len e3
          rw [← hl, List.length_drop, lsize] at hlen
          simp only [List.length_cons, List.length_nil] at hlen
          cases hf : findT [45, 45, 62] (s.data.toList.drop (n + 4)) with
          | some i => exact leaf_note_yes s n (by rw [hl]; exact t0) (by rw [hl]; exact t1) (by rw [hl]; exact e3) i (by rw [hl]; exact h60) (by rw [hl]; exact hsg) hf (by omega) hn hs
          | none => exact leaf_note_no s n (by rw [hl]; exact t0) (by rw [hl]; exact t1) (by rw [hl]; exact e3) (by rw [hl]; exact h60) (by rw [hl]; exact hsg) hf (by omega) hn hs
        · rw [if_neg e3] at hsg
          have e3f := Bool.eq_false_iff.2 e3
          by_cases e4 : beginsM [60, 33, 100, 111, 99, 116, 121, 112, 101] l = true
          · rw [if_pos e4] at hsg
            have hlen := begins_len e4
            rw [← hl, List.length_drop, lsize] at hlen
            simp only [List.length_cons, List.length_nil] at hlen
            cases hf : findT [62] (s.data.toList.drop (n + 9)) with
            | some i => exact leaf_doc_yes s n (by rw [hl]; exact t0) (by rw [hl]; exact t1) (by rw [hl]; exact e3f) (by rw [hl]; exact e4) i (by rw [hl]; exact h60) (by rw [hl]; exact hsg) hf (by omega) hn hs
            | none => exact leaf_doc_no s n (by rw [hl]; exact t0) (by rw [hl]; exact t1) (by rw [hl]; exact e3f) (by rw [hl]; exact e4) (by rw [hl]; exact h60) (by rw [hl]; exact hsg) hf (by omega) hn hs
          · rw [if_neg e4] at hsg
            have e4f := Bool.eq_false_iff.2 e4
            by_cases e5 : l[1]? = some 33
            · rw [if_pos (.inl e5)] at hsg
              have t4 : beginsM [60, 33] l = true := by rw [p33, decide_eq_true e5]
              cases hf : findT [62] (s.data.toList.drop (n + 2)) with
              | some i => exact leaf_sign4_yes s n (by rw [hl]; exact t0) (by rw [hl]; exact t1) (by rw [hl]; exact e3f) (by rw [hl]; exact e4f) (by rw [hl]; exact t4) i (by rw [hl]; exact h60) (by rw [hl]; exact hsg) hf (two _ e5) hn hs
              | none => exact leaf_sign4_no s n (by rw [hl]; exact t0) (by rw [hl]; exact t1) (by rw [hl]; exact e3f) (by rw [hl]; exact e4f) (by rw [hl]; exact t4) (by rw [hl]; exact h60) (by rw [hl]; exact hsg) hf (two _ e5) hn hs
            · have t4 : beginsM [60, 33] l = false := by rw [p33, decide_eq_false e5]
              by_cases e6 : l[1]? = some 63
              · rw [if_pos (.inr (.inl e6))] at hsg
                have t5 : beginsM [60, 63] l = true := by rw [p63, decide_eq_true e6]
                cases hf : findT [62] (s.data.toList.drop (n + 2)) with
                | some i => exact leaf_sign5_yes s n (by rw [hl]; exact t0) (by rw [hl]; exact t1) (by rw [hl]; exact e3f) (by rw [hl]; exact e4f) (by rw [hl]; exact t4) (by rw [hl]; exact t5) i (by rw [hl]; exact h60) (by rw [hl]; exact hsg) hf (two _ e6) hn hs
                | none => exact leaf_sign5_no s n (by rw [hl]; exact t0) (by rw [hl]; exact t1) (by rw [hl]; exact e3f) (by rw [hl]; exact e4f) (by rw [hl]; exact t4) (by rw [hl]; exact t5) (by rw [hl]; exact h60) (by rw [hl]; exact hsg) hf (two _ e6) hn hs
              · have t5 : beginsM [60, 63] l = false := by rw [p63, decide_eq_false e6]
                by_cases e7 : l[1]? = some 47
                · rw [if_pos (.inr (.inr e7))] at hsg
                  have t6 : beginsM [60, 47] l = true := by rw [p47, decide_eq_true e7]
                  cases hf : findT [62] (s.data.toList.drop (n + 2)) with
                  | some i => exact leaf_sign6_yes s n (by rw [hl]; exact t0) (by rw [hl]; exact t1) (by rw [hl]; exact e3f) (by rw [hl]; exact e4f) (by rw [hl]; exact t4) (by rw [hl]; exact t5) (by rw [hl]; exact t6) i (by rw [hl]; exact h60) (by rw [hl]; exact hsg) hf (two _ e7) hn hs
                  | none => exact leaf_sign6_no s n (by rw [hl]; exact t0) (by rw [hl]; exact t1) (by rw [hl]; exact e3f) (by rw [hl]; exact e4f) (by rw [hl]; exact t4) (by rw [hl]; exact t5) (by rw [hl]; exact t6) (by rw [hl]; exact h60) (by rw [hl]; exact hsg) hf (two _ e7) hn hs
                · rw [if_neg (by rintro (h | h | h); exact e5 h; exact e6 h; exact e7 h)] at hsg
                  have t6 : beginsM [60, 47] l = false := by rw [p47, decide_eq_false e7]
                  exact leaf_open s n (by rw [hl]; exact t0) (by rw [hl]; exact t1) (by rw [hl]; exact e3f) (by rw [hl]; exact e4f) (by rw [hl]; exact t4) (by rw [hl]; exact t5) (by rw [hl]; exact t6) (by rw [hl]; exact p1) (by rw [hl]; exact h60) (by rw [hl]; exact hsg) hn hs
  · have no : ∀ z, beginsM (60 :: z) l = false := fun z => begins_no h60
    exact leaf_text s n (by rw [hl, no]; rfl) (by rw [hl, no]; rfl) (by rw [hl, no]) (by rw [hl, no]) (by rw [hl, no]) (by rw [hl, no]) (by rw [hl, no]) (by rw [hl, no]) (by rw [hl]; exact h60) hn hs

/-- The program's answer: the document's reader's tokens and Fails, in rows of one's own. -/
def TokP (s : List UInt8) (W : World) (e : Ending) (w' : World) : Prop :=
  ∃ (tv fv : Value) (m : Nat), e = .returned (.tuple #[tv, fv, .int .i64 0]) ∧ OwnT w' W.heap.size m tv (readM s).1 ∧ w'.ownsRow W.heap.size 59 2 fv (readM s).2.length (flC (readM s).2) ∧ Below W.heap.size W w'

set_option maxRecDepth 100000 in
set_option maxHeartbeats 8000000 in
theorem tokens_any (s : ByteArray) (hs : s.size ≤ 20000) (w : World) (hlow : Low w) : Calls Tryz.prog 9 #[.string s] w (TokP s.data.toList w) := by
  have z1 : (s.size : Int) ≤ 20000 := by omega
  have hal := (Below.refl w.heap.size w).alloc (Nat.le_refl _) (.cells #[.string s, .int .i64 0, .pointer none, .slice none 0 0, .slice none 0 0, .slice none 0 0] 50)
  have hv : RV (w.alloc (.cells #[.string s, .int .i64 0, .pointer none, .slice none 0 0, .slice none 0 0, .slice none 0 0] 50)) w.heap.size (w.heap.size + 1) w.heap.size s 0 [] [] [] (.slice none 0 0) [] (.pointer none) (.slice none 0 0) (.slice none 0 0) (.slice none 0 0) :=
    ⟨new_block w _, .inl rfl, World.ownsRow_nil _ _ _ _, fun _ => rfl, OwnT.nil _ _ _, World.ownsRow_nil _ _ _ _, World.ownsRow_nil _ _ _ _, fun _ => Nat.le_refl _, Nat.le_refl _, Nat.lt_succ_self _, by simp, hlow.lowB.on hal⟩
  have HV := Lib.hid (And.intro hv.form hal)
  have CA := fun n => atEnd_hid w.heap.size s n
  clear hv hal hlow
  go_enter Tryz.func9, Tryz.ntmps9
  go_wp2
  generalize w.alloc (.cells #[.string s, .int .i64 0, .pointer none, .slice none 0 0, .slice none 0 0, .slice none 0 0] 50) = w0 at HV ⊢
  generalize hR : w.heap.size = R at HV CA ⊢
  have HR := Lib.hid hR
  clear hR
  go_loopw [] (fun wr => ∃ (n : Nat) (H : List UInt8) (T : List Tk) (F : List Fl) (m : Nat), n ≤ s.size ∧ H.length ≤ n ∧ T.length ≤ n ∧ F.length ≤ 3 * n ∧ Hid (RS wr R m R s n H T F (.slice none 0 0) [] ∧ NoText T ∧ Below R w wr ∧ ∃ f, s.data.toList.length - n < f ∧ readM s.data.toList = readF f [] n (s.data.toList.drop n) (T ++ txtH H) F)) (fun wr => s.size - posOf R wr)
  case atStart => exact ⟨0, [], [], [], R + 1, Nat.zero_le _, Nat.le_refl _, Nat.le_refl _, Nat.le_refl _, Lib.hid ⟨HV.out.1, noText_nil, by rw [← HR.out]; rw [← HR.out] at HV; exact HV.out.2, s.data.toList.length + 2, by omega, rfl⟩⟩
  case round =>
    clear HV
    obtain ⟨n, H, T, F, m, hn, hH, hT, hF, HX⟩ := hrel
    have hpos := Lib.hid HX.out.1.pos
    obtain ⟨p, bv, tv, fv, hx⟩ := HX.out.1
    have HV := Lib.hid hx
    clear hx
    by_cases hend : n = s.size
    · have C := CA n true (decide_eq_true hend)
      have HRM : Hid (readM s.data.toList = (T ++ txtH H, F)) := Lib.hid (by
        obtain ⟨_, _, _, f, hf, he⟩ := HX.out
        rw [he, hend, show s.data.toList.drop s.size = [] by rw [← lsize]; simp]
        cases f with
        | zero => rfl
        | succ f => unfold readF; rw [if_pos ⟨rfl, rfl⟩])
      have HB := Lib.hid HX.out.2.2.1
      have hbw : R ≤ w.heap.size := by rw [HR.out]; exact Nat.le_refl _
      have hb0 := HV.out.bw
      clear HX
      go_wp2_with fail
      (with_reducible refine (C.out _ _ _ _ _ HV.out.x).mono ?_)
      rintro e w1 ⟨rfl, b1⟩
      have HV1 := Lib.hid (HV.out.below b1)
      have B1 := HB.out.trans (b1.mono hb0)
      clear b1 HV HB
      have CT := Lib.hid (tellText_rv w1 R m R s n H T F (.slice none 0 0) [] p bv tv fv HV1.out (by omega))
      go_wp2_with fail
      refine CT.out.mono ?_
      rintro e w2 ⟨rfl, p2, tv2, h2, -, k2⟩
      have B2 := B1.trans (HV1.out.frTb k2)
      have d4 := h2.x.c4
      have d5 := h2.x.c5
      have HE : Hid (OwnT w2 R w2.heap.size tv2 (T ++ txtH H) ∧ w2.ownsRow R 59 2 fv F.length (flC F) ∧ Below R w w2) := Lib.hid ⟨h2.ht, h2.hf, B2⟩
      obtain ⟨ta, tc, rfl⟩ := h2.ht.form
      obtain ⟨fa, fc, rfl⟩ : ∃ a c, fv = .slice a F.length c := by
        rcases rowForms h2.hf with ⟨e1, e2⟩ | ⟨g, c, e1⟩
        · exact ⟨none, 0, by rw [e1, e2]⟩
        · exact ⟨_, _, e1⟩
      clear h2 k2 B2 B1 HV1 CT
      obtain ⟨T2, hT2⟩ : ∃ T2, T ++ txtH H = T2 := ⟨_, rfl⟩
      rw [hT2] at HE HRM d4
      clear hT2
      go_wp2
      go_quiet (fail)
      go_wp2
      go_ret3
      obtain ⟨h1, h2, h3⟩ := HE.out
      refine ⟨_, _, w2.heap.size, rfl, ?_, ?_, ?_⟩
      · rw [HRM.out, HR.out]; exact h1.kp (Kp.of_below (belowN (Below.refl _ _) _) (P := fun _ _ => False)) (fun _ _ _ e => e) fun _ _ _ e => e
      · rw [HRM.out, HR.out]; exact ownsRow_below h2 (belowN (Below.refl _ _) _)
      · rw [HR.out]; exact belowN h3 _
    · have C := CA n false (decide_eq_false hend)
      have CR := read_hid s n (by omega) hs
      have hb0 := HV.out.bw
      have HB := Lib.hid HX.out.2.2.1
      have hNT := HX.out.2.1
      go_wp2_with fail
      (with_reducible refine (C.out _ _ _ _ _ HV.out.x).mono ?_)
      rintro e w1 ⟨rfl, b1⟩
      have h1 := HX.out.1.below b1
      have B1 := HB.out.trans (b1.mono hb0)
      clear b1 HV HB
      go_wp2_with fail
      (with_reducible refine (CR.out _ _ _ _ _ _ _ h1 hH hT hF hNT).mono ?_)
      intro e w2 hr
      obtain ⟨rfl, b2, m', n', H', T', F', h', hrd, hlt, hn', hNT', hH', hT', hF'⟩ := hr
      have HN : Hid (RS w2 R m' R s n' H' T' F' (.slice none 0 0) [] ∧ NoText T' ∧ Below R w w2 ∧ ∃ f, s.data.toList.length - n' < f ∧ readM s.data.toList = readF f [] n' (s.data.toList.drop n') (T' ++ txtH H') F') := Lib.hid ⟨h', hNT', B1.trans b2, by
        obtain ⟨_, _, _, f, hf, he⟩ := HX.out
        obtain ⟨f', hf', he'⟩ := hrd f hf
        exact ⟨f', hf', he.trans he'⟩⟩
      clear h' hNT' B1 b2 hrd HX hNT h1 C CR
      go_wp2
      go_roundw
      case rel => exact ⟨n', H', T', F', m', hn', hH', hT', hF', HN⟩
      case measure =>
        rw [HN.out.1.pos, hpos.out]
        omega
/-- A text that is too long. -/
theorem tokens_long (s : ByteArray) (hs : 20000 < s.size) (w : World) : Calls Tryz.prog 9 #[.string s] w fun e w' => e = .returned (.tuple #[.slice none 0 0, .slice none 0 0, .int .i64 2]) ∧ w' = w := by
  have z1 : (20000 : Int) < (s.size : Int) := by omega
  clear hs
  go_enter Tryz.func9, Tryz.ntmps9
  go_wp2
  go_ret3
  exact ⟨rfl, rfl⟩

end Go.Proofs.YtgbilfbonliipaaGreatDoor
