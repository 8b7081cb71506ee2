/- The program's reader decodes a part of the text, its Fails at their places. The program's reader tells the text that it holds, and a token behind it. -/
import Derived.Test.YtfbhpmafjehojaaGreatDoorTokG
namespace Go.Proofs.YtfbhpmafjehojaaGreatDoor
open Go.RowKit

theorem decO_hid (s T : ByteArray) (p : List Nat) (h : decT 0 s.data.toList = (T.data.toList, p)) (hs : s.size ≤ 1000000) : Hid (∀ W, Low W → Calls Tryz.prog 100 #[.string s] W fun e w' => ∃ a c, e = .returned (.tuple #[.string T, .slice a p.length c]) ∧ w'.ownsRow W.heap.size 50 2 (.slice a p.length c) p.length (failCs p) ∧ Below W.heap.size W w') := Lib.hid fun W hw => (decode_any s hs W hw).mono fun e w' ⟨v, h1, h2, h3⟩ => by
  rw [h] at h1 h2
  have hf := FailsIn.of_row h2
  obtain ⟨a, c, rfl⟩ := hf.form
  exact ⟨a, c, by rw [h1, text_is (T := T) rfl], h2, h3⟩
theorem RV.form {w : World} {B m R : Nat} {s : ByteArray} {n : Nat} {H : List UInt8} {T : List Tk} {F : List Fl} {v0 : Value} {F0 : List Fl} {p bv tv fv : Value} (h : RV w B m R s n H T F v0 F0 p bv tv fv) : RS w B m R s n H T F v0 F0 := ⟨p, bv, tv, fv, h⟩

set_option maxRecDepth 100000 in
set_option maxHeartbeats 4000000 in
theorem decoded_hid (part D : ByteArray) (p : List Nat) (place : Nat) (h : decT 0 part.data.toList = (D.data.toList, p)) (hs : part.size ≤ 100000) (hpl : place ≤ 1000000) : Hid (∀ W B m R s n H T F v0 F0, RS W B m R s n H T F v0 F0 → F.length ≤ 500000 → Calls Tryz.prog 75 #[.pointer (some ⟨R, 0, none⟩), .string part, .int .i64 (place : Int)] W fun e w' => e = .returned (.string D) ∧ RS w' B m R s n H T (F ++ failM place p) v0 F0 ∧ Kp (frD B R) W w') := Lib.hid fun w B m R s n H T F v0 F0 hr hl => by
  obtain ⟨pp, bv, tv, fv, hr⟩ := hr
  have CD := decO_hid part D p h (by omega)
  have hlen : p.length ≤ 100000 := by
    have := (decT_len 0 part.data.toList).2
    rw [h, lsize] at this
    simp only at this
    omega
  have hplace : ∀ q ∈ p, q ≤ 100000 := fun q hq => by
    have := decT_place 0 part.data.toList q (by rw [h]; exact hq)
    rw [lsize] at this
    omega
  have HP := Lib.hid hplace
  have hlow := hr.low.low
  clear h hs hplace
  go_enter Tryz.func75, Tryz.ntmps75
  go_wp2_with fail
  (with_reducible refine (CD.out _ hlow).mono ?_)
  rintro e w1 ⟨a, c, rfl, hrow, b1⟩
  have hr1 := hr.below b1
  have HG : Hid (∀ g, (Value.slice a p.length c).ownBlock = some g → w.heap.size ≤ g ∧ g < w1.heap.size) := Lib.hid hrow.lt
  have hfv : ∀ j, fv.ownBlock = some j → j < w.heap.size ∨ w1.heap.size ≤ j := fun j hj => .inl (hr.hf.lt j hj).2
  have hk1 : Kp (frD B R) w w1 := Kp.of_below b1
  have HR1 := Lib.hid (And.intro hr1 (And.intro hfv (And.intro hk1 hrow)))
  obtain ⟨W1, hW1⟩ : ∃ W1, w1.heap.size = W1 := ⟨_, rfl⟩
  rw [hW1] at HR1 HG
  have HW1 := Lib.hid hW1
  clear hr hr1 hfv hk1 hrow b1 hlow CD hW1
  go_wp2
  go_loopw [18] (fun i wr => ∃ (k : Nat) (fv' : Value), i = .int .i64 k ∧ k ≤ p.length ∧ Hid (RV wr B m R s n H T (F ++ failM place (p.take k)) v0 F0 pp bv tv fv' ∧ (∀ j, fv'.ownBlock = some j → j < w.heap.size ∨ W1 ≤ j) ∧ Kp (frD B R) w wr ∧ wr.ownsRow w.heap.size 50 2 (.slice a p.length c) p.length (failCs p) ∧ W1 ≤ wr.heap.size)) (fun i _ => p.length - (intOf i).toNat)
  case atStart =>
    obtain ⟨h1, h2, h3, h4⟩ := HR1.out
    exact ⟨0, fv, rfl, Nat.zero_le _, Lib.hid ⟨by simpa [failM] using h1, h2, h3, h4, by rw [HW1.out]; exact Nat.le_refl _⟩⟩
  case round =>
    clear HR1
    obtain ⟨k, fv', rfl, hk, HX⟩ := hrel
    by_cases hlt : k < p.length
    · obtain ⟨h1, h2, h3, h4, h5⟩ := HX.out
      obtain ⟨q, hq⟩ : ∃ q, p[k] = q := ⟨_, rfl⟩
      have hq2 : q ≤ 100000 := HP.out q (by rw [← hq]; exact List.getElem_mem hlt)
      have HT : Hid (F ++ failM place (p.take (k + 1)) = (F ++ failM place (p.take k)) ++ [((130 : Int), place + q)]) := Lib.hid (by
        rw [List.take_succ_eq_append_getElem hlt, hq]
        simp [failM])
      have hlen2 : (F ++ failM place (p.take k)).length ≤ 1000000 := by
        simp only [List.length_append, failM, List.length_map, List.length_take]
        omega
      obtain ⟨g, rfl⟩ : ∃ g, a = some ⟨g, 0, none⟩ := by
        rcases rowForms h4 with ⟨e1, e2⟩ | ⟨g, cc, e1⟩
        · omega
        · injection e1 with e1 _ _
          exact ⟨g, e1⟩
      have e12 := failCs_at p k hlt
      rw [hq] at e12
      have c0 : wr.cell? ⟨g, k * 2, none⟩ = some (.int .i64 130) := by rw [h4.cellAt (k * 2) (by omega)]; exact e12.1
      have c1 : wr.cell? ⟨g, k * 2 + 1, none⟩ = some (.int .i64 (q : Int)) := by rw [h4.cellAt (k * 2 + 1) (by omega)]; exact e12.2
      have z1 : (place : Int) ≤ 1000000 := by omega
      have z2 : (q : Int) ≤ 100000 := by omega
      have z3 : (0 : Int) ≤ (place : Int) := by omega
      have z4 : (0 : Int) ≤ (q : Int) := by omega
      have hb := (Below.refl wr.heap.size wr).alloc (Nat.le_refl _) (.cells #[.int .i64 130, .int .i64 (q : Int)] 50)
      have CF := fail_rv 130 (place + q) _ B m R s n H T _ v0 F0 pp bv tv fv' (h1.below hb) hlen2
      rw [show (((place + q : Nat)) : Int) = (place : Int) + (q : Int) by push_cast; rfl] at CF
      have HCF := Lib.hid CF
      have HBB := Lib.hid hb
      have HH := Lib.hid (And.intro h1 (And.intro h2 (And.intro h3 (And.intro h4 h5))))
      clear CF h1 h2 h3 h4 h5 hb HX e12 hq hq2
      go_wp2_with fail
      (with_reducible refine HCF.out.mono ?_)
      rintro e w3 ⟨rfl, fv3, h3', hat, k3⟩
      have HN : Hid (RV w3 B m R s n H T (F ++ failM place (p.take (k + 1))) v0 F0 pp bv tv fv3 ∧ (∀ j, fv3.ownBlock = some j → j < w.heap.size ∨ W1 ≤ j) ∧ Kp (frD B R) w w3 ∧ w3.ownsRow w.heap.size 50 2 (.slice (some ⟨g, 0, none⟩) p.length c) p.length (failCs p) ∧ W1 ≤ w3.heap.size) := Lib.hid (by
        obtain ⟨h1, h2, h3, h4, h5⟩ := HH.out
        have hb := HBB.out
        have h1b := h1.below hb
        refine ⟨by rw [HT.out]; exact h3', fun j hj => ?_, h3.trans ((Kp.of_below hb).trans (h1b.frD k3)), k3.row (ownsRow_below h4 hb) fun j hj _ e => ?_, Nat.le_trans h5 (Nat.le_trans hb.size k3.size)⟩
        · rcases hat with e | ⟨j2, e, hj2⟩
          · exact h2 j (by rw [← e]; exact hj)
          · rw [e] at hj
            cases hj
            exact .inr (Nat.le_trans h5 (Nat.le_trans hb.size hj2))
        · have hg := HG.out j hj
          rcases e with e | e
          · exact row_ne (ownsRow_below h4 hb) h1b.x (by decide) (by rw [hj, e])
          · rcases h2 j e with h | h <;> omega)
      clear h3' hat k3 HH HBB HCF c0 c1
      go_wp2
      go_roundw
      case rel => exact ⟨k + 1, fv3, by go_num, by omega, HN⟩
      case measure => simp [intOf]; omega
    · obtain rfl : k = p.length := by omega
      rw [List.take_length] at HX
      go_wp2
      go_ret
      exact ⟨rfl, HX.out.1.form, HX.out.2.2.1⟩

end Go.Proofs.YtfbhpmafjehojaaGreatDoor

namespace Go.Proofs.YtfbhpmafjehojaaGreatDoor
open Go.RowKit

/-- What telling turns: R's own cells, rows of bytes, the row of tokens. -/
def frT (B R : Nat) (tv : Value) (k : Nat) (t : TypeId) : Prop := k = R ∨ (B ≤ k ∧ t = 5) ∨ tv.ownBlock = some k
theorem trans_old {P Q : Nat → TypeId → Prop} {a b c : World} (h : Kp P a b) (k : Kp Q b c) (hs : ∀ j t, j < a.heap.size → Q j t → P j t) : Kp P a c :=
  ⟨k.os.trans h.os, k.tape.trans h.tape, k.output.trans h.output, Nat.le_trans h.size k.size, fun j o hj hn => k.same j o (h.same j o hj hn) fun c t fr e hq => hn c t fr e (hs j t (lt_of_block hj) hq)⟩
theorem TRow.at {w w' : World} {B m R : Nat} {s : ByteArray} {n : Nat} {p bv tv fv : Value} (x : RX w R s n p bv tv fv) (k : Kp (onR R) w w') : ∀ {T : List Tk} {cs : List Value}, TRow w B m T cs → TRow w' B m T cs
  | [], _, h => h
  | _ :: _, _, ⟨av, r, h1, h2, h3⟩ => ⟨av, r, h1, ⟨k.row h2.1 fun j hj _ e => row_ne h2.1 x (by decide) (by rw [hj]; exact congrArg some e), h2.2⟩, h3.at x k⟩
theorem OwnT.at {w w' : World} {B m R : Nat} {s : ByteArray} {n : Nat} {p bv tv fv u : Value} {T : List Tk} (h : OwnT w B m u T) (x : RX w R s n p bv tv fv) (k : Kp (onR R) w w') : OwnT w' B m u T := by
  obtain ⟨cs, q1, q2, q3⟩ := h
  exact ⟨cs, k.row q1 fun j hj _ e => row_ne q1 x (by decide) (by rw [hj]; exact congrArg some e), q2, q3.at x k⟩
section
variable {w w' : World} {B m R : Nat} {s : ByteArray} {n : Nat} {H : List UInt8} {T : List Tk} {F : List Fl} {v0 : Value} {F0 : List Fl} {p bv tv fv : Value}
theorem RV.bd (h : RV w B m R s n H T F v0 F0 p bv tv fv) : BD w B R 2 H #[.string s, .int .i64 (n : Int), p, bv, tv, fv] 67 p bv := ⟨h.x, rfl, rfl, h.hp, h.hb, h.hn⟩
/-- The reader when its row of tokens has grown, its builder has been emptied. -/
theorem RV.told (h : RV w B m R s n H T F v0 F0 p bv tv fv) {H' : List UInt8} {T' : List Tk} {p' bv' tv' : Value} (k : Kp (frT B R tv) w w') (x : RX w' R s n p' bv' tv' fv) (hp : p' = .pointer none ∨ p' = .pointer (some ⟨R, 2, none⟩)) (hb : w'.ownsRow B 5 1 bv' H'.length (Lib.byteCells H')) (hn : H' = [] → bv' = .slice none 0 0) (ht : OwnT w' B w'.heap.size tv' T') : RV w' B w'.heap.size R s n H' T' F v0 F0 p' bv' tv' fv := by
  have hB : ∀ (k : Nat) (t : TypeId), frT B R tv k t → B ≤ k := fun k t e => by
    rcases e with rfl | e | e
    · exact h.lo
    · exact e.1
    · obtain ⟨cs, h1, _⟩ := h.ht
      exact (h1.lt k e).1
  have ne : ∀ {v : Value} {n : Nat} {xs : List Value}, w.ownsRow B 50 2 v n xs → w'.ownsRow B 50 2 v n xs := fun r => k.row r fun j hj _ e => by
    rcases e with rfl | e | e
    · exact row_ne r h.x (by decide) hj
    · exact absurd e.2 (by decide)
    · obtain ⟨cs, h1, _⟩ := h.ht
      exact rows_ne h1 r (by decide) e hj
  exact ⟨x, hp, hb, hn, ht, ne h.hf, ne h.h0, h.h1, h.lo, Nat.lt_of_lt_of_le h.hi (Nat.le_trans h.mw k.size), Nat.le_refl _, h.low.on (k.below hB h.bw)⟩
end

set_option maxRecDepth 100000 in
set_option maxHeartbeats 8000000 in
theorem tellText_rv (w : World) (B m R : Nat) (s : ByteArray) (n : Nat) (H : List UInt8) (T : List Tk) (F : List Fl) (v0 : Value) (F0 : List Fl) (p bv tv fv : Value) (h : RV w B m R s n H T F v0 F0 p bv tv fv) (hl : T.length ≤ 1000000) :
    Calls Tryz.prog 27 #[.pointer (some ⟨R, 0, none⟩)] w fun e w' => e = .returned (.tuple #[]) ∧ ∃ p' tv', RV w' B w'.heap.size R s n [] (T ++ txtH H) F v0 F0 p' (.slice none 0 0) tv' fv ∧ (tv'.ownBlock = tv.ownBlock ∨ ∃ k, tv'.ownBlock = some k ∧ w.heap.size ≤ k) ∧ Kp (frT B R tv) w w' := by
  have CL := Lib.hid (len_any B R 2 H _ _ p bv w h.bd)
  by_cases h0 : H = []
  · have z : ¬ ((H.length : Nat) : Int) > 0 := by rw [h0]; simp
    have HR : Hid (RV w B w.heap.size R s n [] (T ++ txtH H) F v0 F0 p (.slice none 0 0) tv fv) := Lib.hid (by
      have h2 := h.up h.mw (Nat.le_refl _)
      have hbv := h.hn h0
      rw [h0, txtH_nil, List.append_nil]
      rw [h0, hbv] at h2
      exact h2)
    clear h
    go_enter Tryz.func27, Tryz.ntmps27
    go_wp2_with fail
    refine CL.out.mono ?_
    rintro e w ⟨rfl, rfl⟩
    go_wp2
    go_end0
    exact ⟨rfl, p, tv, HR.out, .inl rfl, Kp.refl _ _⟩
  · obtain ⟨i0, hi, hz0, hz1, hz2⟩ := info_parts TinfoT
    have hpos : 0 < H.length := List.length_pos_iff.2 h0
    have z : (0 : Int) < ((H.length : Nat) : Int) := by omega
    have CS := Lib.hid (string_any B R 2 H _ _ p bv w.drew (show BD w.drew B R 2 H #[.string s, .int .i64 (n : Int), p, bv, tv, fv] 67 p bv from ⟨h.x, rfl, rfl, h.hp, h.hb, h.hn⟩))
    obtain ⟨a, c, rfl⟩ := h.ht.form
    obtain ⟨cs, t1, t2, t3⟩ := h.ht
    have hx := h.x
    have d4 := h.x.c4
    have HT : Hid (T ++ txtH H = T ++ [textT H]) := Lib.hid (by rw [txtH_some h0])
    have hbw := h.bw
    have hmw := h.mw
    have HH := Lib.hid h
    obtain ⟨U, hU⟩ : ∃ U : ByteArray, U = ⟨H.toArray⟩ := ⟨_, rfl⟩
    rw [← hU] at CS
    have HU := Lib.hid hU
    clear h h0 hU
    go_enter Tryz.func27, Tryz.ntmps27
    go_wp2_with fail
    refine CL.out.mono ?_
    rintro e w ⟨rfl, rfl⟩
    clear CL
    go_wp2_with fail
    go_region_law (first
      | (go_simp
         go_at_call 43
         (refine CS.out.mono ?_)
         rintro e w4 ⟨rfl, k4⟩
         have K4 : Kp (fun k t' => B ≤ k ∧ t' = 5) w w4 := (Kp.refl _ w).drew.trans k4
         have x4 : RX w4 R s n p bv (.slice a T.length c) fv := K4.cells hx (fun e => absurd e.2 (by decide))
         have d4' := x4.c4
         have d4'' := (x4.below ((Below.refl _ _).alloc (Nat.le_refl _) (.cells #[.int .i64 1, .string ⟨#[]⟩, .string U, .slice none 0 0, .bool false] 47))).c4
         have O4 := Lib.hid (K4.row t1 fun j hj _ e => absurd e.2 (by decide))
         have HK4 := Lib.hid K4
         have HX4 := Lib.hid x4
         clear k4 K4 x4)
      | (refine step_append_lies _ (by rfl) (.tmp 11) (.tmp 17) 23 (by rfl) B 47 i0 (.agg #[.int .i64 0, .string ⟨#[]⟩, .string ⟨#[]⟩, .slice none 0 0, .bool false]) 5 72 Tryz.underlying23 hi hz0 hz1 hz2 rfl (by decide) _ _ _ (by rfl) (O4.out.alloc _) ⟨w4.heap.size, 0, none⟩ 1 1 [.int .i64 1, .string ⟨#[]⟩, .string U, .slice none 0 0, .bool false] (by rfl) rfl (World.news_of_block (new_block _ _)) (by intro u hu; simp at hu; rcases hu with rfl | rfl | rfl | rfl | rfl <;> rfl) (by decide) (by unfold maxLen; omega) (by omega) (by have := HK4.out.size; simp; omega) _ rfl ?_
         intro g cap w6 hown hgrow hat hlt6
         have hne : (Value.slice a T.length c).ownBlock ≠ some R := row_ne t1 hx (by decide)
         have x6 : RX w6 R s n p bv (.slice a T.length c) fv := by
           have h1 := HX4.out.below ((Below.refl _ _).alloc (Nat.le_refl _) (.cells #[.int .i64 1, .string ⟨#[]⟩, .string U, .slice none 0 0, .bool false] 47))
           unfold RX at h1 ⊢
           rw [hgrow.block R (lt_of_block h1) (fun e => hne e.symm)]
           exact h1
         have d6 := x6.c4
         have f6 := x6.free 4))
    all_goals
      have kal := (Kp.of_below (P := fun k t' => B ≤ k ∧ t' = 5) ((Below.refl _ _).alloc (Nat.le_refl _) (.cells #[.int .i64 1, .string ⟨#[]⟩, .string U, .slice none 0 0, .bool false] 47)) : Kp _ w4 _)
      have k6 : Kp (frT B R (.slice a T.length c)) w w6 := ((HK4.out.trans kal).mono fun k c t fr _ e => .inr (.inl e)).trans (Kp.of_grown hgrow (fun k c t fr hk _ => .inr (.inr hk)) fun k hk => by
        obtain ⟨cur, h1, _⟩ := row_block (O4.out.alloc (.cells #[.int .i64 1, .string ⟨#[]⟩, .string U, .slice none 0 0, .bool false] 47)) hk
        exact ⟨_, _, _, h1⟩)
      have hat2 : (some g = (Value.slice a T.length c).ownBlock ∨ w.heap.size ≤ g) := by
        rcases hat with e | e
        · exact .inl e.symm
        · have := HK4.out.size
          exact .inr (by rw [e]; simp; omega)
      have hT6 : OwnT w6 B w6.heap.size (.slice (some ⟨g, 0, none⟩) (T.length + 1) cap) (T ++ [textT H]) := by
        have t3' : TRow (w4.alloc (.cells #[.int .i64 1, .string ⟨#[]⟩, .string U, .slice none 0 0, .bool false] 47)) B m T cs := t3.kp (HK4.out.trans kal) fun j _ _ e => absurd e.2 (by decide)
        refine OwnT.grow t3' (AttrsBy.nil _ _ _) (Nat.le_trans hmw (HK4.out.trans kal).size) (O4.out.alloc _) ?_ hgrow
        have e : tkC (textT H) (.slice none 0 0) = [.int .i64 1, .string ⟨#[]⟩, .string U, .slice none 0 0, .bool false] := by rw [HU.out]; rfl
        rw [e]
        exact hown
      have x7 := x6.set4 (.slice (some ⟨g, 0, none⟩) (T.length + 1) cap)
      have k7 : Kp (frT B R (.slice a T.length c)) w (w6.setCell ⟨R, 4, none⟩ (.slice (some ⟨g, 0, none⟩) (T.length + 1) cap)) := k6.trans ((x6.kset 4 _).mono fun k c t fr _ e => .inl e)
      have hb6 : (w6.setCell ⟨R, 4, none⟩ (.slice (some ⟨g, 0, none⟩) (T.length + 1) cap)).heap.size = w6.heap.size := by simp [World.setCell]
      have hT7 : OwnT (w6.setCell ⟨R, 4, none⟩ (.slice (some ⟨g, 0, none⟩) (T.length + 1) cap)) B w6.heap.size (.slice (some ⟨g, 0, none⟩) (T.length + 1) cap) (T ++ [textT H]) := hT6.at x6 (x6.kset 4 _)
      have hbv : (w6.setCell ⟨R, 4, none⟩ (.slice (some ⟨g, 0, none⟩) (T.length + 1) cap)).heap[R]? = some (.cells #[.string s, .int .i64 (n : Int), p, bv, .slice (some ⟨g, 0, none⟩) (T.length + 1) cap, fv] 67 (0, 0)) := x7
      have hsz : w.heap.size ≤ w6.heap.size := k6.size
      obtain ⟨w7, hw7⟩ : ∃ w7, w6.setCell ⟨R, 4, none⟩ (.slice (some ⟨g, 0, none⟩) (T.length + 1) cap) = w7 := ⟨_, rfl⟩
      rw [hw7] at x7 k7 hT7 hb6
      have HZ := Lib.hid (And.intro x7 (And.intro k7 (And.intro hT7 (And.intro hb6 (And.intro hat2 hsz)))))
      have CR := Lib.hid (reset_any B R 2 _ _ p bv w7 x7 rfl rfl)
      clear x7 k7 hT7 hb6 hat2 hsz hbv hT6 k6 kal hown hgrow hat hlt6 d6 f6 d4 d4' d4'' HX4 HK4 O4 CS
      go_wp2_with fail
      refine CR.out.mono ?_
      rintro e w8 ⟨rfl, bd8, k8⟩
      obtain ⟨x7, k7, hT7, hb6, hat2, hsz⟩ := HZ.out
      have k9 : Kp (onR R) w7 w8 := k8
      have x8 : RX w8 R s n (.pointer none) (.slice none 0 0) (.slice (some ⟨g, 0, none⟩) (T.length + 1) cap) fv := bd8.blk
      have hT8 : OwnT w8 B w8.heap.size (.slice (some ⟨g, 0, none⟩) (T.length + 1) cap) (T ++ [textT H]) := (hT7.at x7 k9).up (by rw [← hb6]; exact k9.size)
      have k10 : Kp (frT B R (.slice a T.length c)) w w8 := k7.trans (k9.mono fun k c t fr _ e => .inl e)
      have hv := HH.out.told (H' := []) k10 x8 (.inl rfl) (World.ownsRow_nil _ _ _ _) (fun _ => rfl) hT8
      rw [← HT.out] at hv
      have HV := Lib.hid (And.intro hv (And.intro hat2 k10))
      clear hv k10 hT8 x8 k9 x7 k7 hT7 hat2 bd8 k8 hb6 hsz
      go_wp2
      go_end0
      obtain ⟨h1, h2, h3⟩ := HV.out
      refine ⟨rfl, _, _, h1, ?_, h3⟩
      rcases h2 with e | e
      · exact .inl e
      · exact .inr ⟨g, rfl, e⟩

set_option maxRecDepth 100000 in
set_option maxHeartbeats 8000000 in
theorem tell_rv (w : World) (B m R : Nat) (s : ByteArray) (n : Nat) (H : List UInt8) (T : List Tk) (F : List Fl) (v0 : Value) (F0 : List Fl) (p bv tv fv : Value) (h : RV w B m R s n H T F v0 F0 p bv tv fv) (hl : T.length ≤ 900000) (k : Int) (NN DD : ByteArray) (av : Value) (A : List (List UInt8 × List UInt8)) (c : Bool) (ha : AttrsBy w B w.heap.size av A) :
    Calls Tryz.prog 66 #[.pointer (some ⟨R, 0, none⟩), .agg #[.int .i64 k, .string NN, .string DD, av, .bool c]] w fun e w' => e = .returned (.tuple #[]) ∧ RS w' B w'.heap.size R s n [] (T ++ txtH H ++ [⟨k, NN.data.toList, DD.data.toList, A, c⟩]) F v0 F0 ∧ Kp (frT B R tv) w w' := by
  obtain ⟨i0, hi, hz0, hz1, hz2⟩ := info_parts TinfoT
  have hal := (Below.refl w.heap.size w).alloc (Nat.le_refl _) (.cells #[.int .i64 k, .string NN, .string DD, av, .bool c] 47)
  have hbox := new_block w (.cells #[.int .i64 k, .string NN, .string DD, av, .bool c] 47)
  have CT := Lib.hid (tellText_rv _ B m R s n H T F v0 F0 p bv tv fv (h.below hal) (by omega))
  have htl : (T ++ txtH H).length ≤ 900001 := by
    rw [List.length_append]
    unfold txtH
    split <;> simp <;> omega
  obtain ⟨T2, hT2⟩ : ∃ T2, T ++ txtH H = T2 := ⟨_, rfl⟩
  rw [hT2] at CT htl ⊢
  clear hT2
  have HH := Lib.hid (And.intro h (And.intro ha (And.intro hal hbox)))
  obtain ⟨aa, ac, rfl⟩ := ha.form
  clear h ha hal hbox
  go_enter Tryz.func66, Tryz.ntmps66
  go_wp2_with fail
  refine CT.out.mono ?_
  rintro e w2 ⟨rfl, p2, tv2, h2, hat2, k2⟩
  clear CT
  obtain ⟨h, ha, hal, hbox⟩ := HH.out
  have hX : w2.heap[w.heap.size]? = some (.cells #[.int .i64 k, .string NN, .string DD, .slice aa A.length ac, .bool c] 47 (0, 0)) := k2.cells hbox (fun e => by
    obtain ⟨cs, t1, t2, t3⟩ := h.ht
    rcases e with e | e | e
    · have := h.hi; have := h.mw; omega
    · exact absurd e.2 (by decide)
    · have := (t1.lt _ e).2; omega)
  have hA2 : AttrsBy w2 B w2.heap.size (.slice aa A.length ac) A := ((ha.kp (Kp.of_below hal (P := fun _ _ => False)) fun _ _ _ e => e).up (Nat.le_trans hal.size k2.size)).1 |> fun r => ⟨k2.row r fun j hj _ e => by
    obtain ⟨cs, t1, t2, t3⟩ := h.ht
    rcases e with e | e | e
    · exact row_ne r (h.x.below hal) (by decide) (by rw [hj, e])
    · exact absurd e.2 (by decide)
    · exact rows_ne (ownsRow_below t1 hal) r (by decide) e hj, fun j hj => Nat.lt_of_lt_of_le (ha.2 j hj) (Nat.le_trans hal.size k2.size)⟩
  have hko : Kp (frT B R tv) w w2 := (Kp.of_below hal).trans k2
  have hold : ∀ j, tv2.ownBlock = some j → j < w.heap.size → tv.ownBlock = some j := fun j hj hlt => by
    rcases hat2 with e | ⟨j2, e, h5⟩
    · rw [← e]; exact hj
    · rw [e] at hj
      cases hj
      have := hal.size
      omega
  obtain ⟨a, cc, rfl⟩ := h2.ht.form
  obtain ⟨cs, t1, t2, t3⟩ := h2.ht
  have b0 : w2.cell? ⟨w.heap.size, 0, none⟩ = some (.int .i64 k) := by rw [cell_of hX]; rfl
  have b1 : w2.cell? ⟨w.heap.size, 1, none⟩ = some (.string NN) := by rw [cell_of hX]; rfl
  have b2 : w2.cell? ⟨w.heap.size, 2, none⟩ = some (.string DD) := by rw [cell_of hX]; rfl
  have b3 : w2.cell? ⟨w.heap.size, 3, none⟩ = some (.slice aa A.length ac) := by rw [cell_of hX]; rfl
  have b4 : w2.cell? ⟨w.heap.size, 4, none⟩ = some (.bool c) := by rw [cell_of hX]; rfl
  have d4 := h2.x.c4
  have d4'' := (h2.x.below ((Below.refl _ _).alloc (Nat.le_refl _) (.cells #[.int .i64 k, .string NN, .string DD, .slice aa A.length ac, .bool c] 47))).c4
  have hx2 := h2.x
  have hbw := h2.bw
  have H2 := Lib.hid (And.intro h2 (And.intro hA2 (And.intro hko hold)))
  have HT3 := Lib.hid t3
  clear h ha hal hbox hX hA2 hko hold h2 hat2 k2 t3 t2
  go_wp2_with fail
  go_region_law (refine step_append_lies _ (by rfl) (.tmp 10) (.tmp 12) 23 (by rfl) B 47 i0 (.agg #[.int .i64 0, .string ⟨#[]⟩, .string ⟨#[]⟩, .slice none 0 0, .bool false]) 5 72 Tryz.underlying23 hi hz0 hz1 hz2 rfl (by decide) _ _ _ (by rfl) (t1.alloc _) ⟨w2.heap.size, 0, none⟩ 1 1 [.int .i64 k, .string NN, .string DD, .slice aa A.length ac, .bool c] (by rfl) rfl (World.news_of_block (new_block _ _)) (by intro u hu; simp at hu; rcases hu with rfl | rfl | rfl | rfl | rfl <;> rfl) (by decide) (by unfold maxLen; omega) (by omega) (by simp; omega) _ rfl ?_
                 intro g cap w6 hown hgrow hat hlt6
                 have hne : (Value.slice a T2.length cc).ownBlock ≠ some R := row_ne t1 hx2 (by decide)
                 have x6 : RX w6 R s n p2 (.slice none 0 0) (.slice a T2.length cc) fv := by
                   have h1 := hx2.below ((Below.refl _ _).alloc (Nat.le_refl _) (.cells #[.int .i64 k, .string NN, .string DD, .slice aa A.length ac, .bool c] 47))
                   unfold RX at h1 ⊢
                   rw [hgrow.block R (lt_of_block h1) (fun e => hne e.symm)]
                   exact h1
                 have d6 := x6.c4
                 have f6 := x6.free 4)
  all_goals
    have hgrow : (w2.alloc (.cells #[.int .i64 k, .string NN, .string DD, .slice aa A.length ac, .bool c] 47)).grownBy w6 (Value.slice a T2.length cc).ownBlock := ⟨hgrow.os, hgrow.tape, hgrow.output, hgrow.size, hgrow.block⟩
    obtain ⟨h2, hA2, hko, hold⟩ := H2.out
    have hal2 := (Below.refl w2.heap.size w2).alloc (Nat.le_refl _) (.cells #[.int .i64 k, .string NN, .string DD, .slice aa A.length ac, .bool c] 47)
    have k6 : Kp (frT B R (.slice a T2.length cc)) w2 w6 := (Kp.of_below hal2).trans (Kp.of_grown hgrow (fun q c t fr hq _ => .inr (.inr hq)) fun q hq => by
      obtain ⟨cur, h1, _⟩ := row_block (t1.alloc (.cells #[.int .i64 k, .string NN, .string DD, .slice aa A.length ac, .bool c] 47)) hq
      exact ⟨_, _, _, h1⟩)
    have hT6 : OwnT w6 B w6.heap.size (.slice (some ⟨g, 0, none⟩) (T2.length + 1) cap) (T2 ++ [⟨k, NN.data.toList, DD.data.toList, A, c⟩]) := by
      have t3' : TRow (w2.alloc (.cells #[.int .i64 k, .string NN, .string DD, .slice aa A.length ac, .bool c] 47)) B w2.heap.size T2 cs := HT3.out.kp (Kp.of_below hal2 (P := fun _ _ => False)) fun _ _ _ e => e
      refine OwnT.grow t3' (hA2.kp (Kp.of_below hal2 (P := fun _ _ => False)) fun _ _ _ e => e) hal2.size (t1.alloc _) ?_ hgrow
      have e : tkC ⟨k, NN.data.toList, DD.data.toList, A, c⟩ (.slice aa A.length ac) = [.int .i64 k, .string NN, .string DD, .slice aa A.length ac, .bool c] := by
        unfold tkC
        rw [strV_of (T := NN) rfl, strV_of (T := DD) rfl]
      rw [e]
      exact hown
    have x7 := x6.set4 (.slice (some ⟨g, 0, none⟩) (T2.length + 1) cap)
    have hb6 : (w6.setCell ⟨R, 4, none⟩ (.slice (some ⟨g, 0, none⟩) (T2.length + 1) cap)).heap.size = w6.heap.size := by simp [World.setCell]
    have k7 : Kp (frT B R (.slice a T2.length cc)) w2 (w6.setCell ⟨R, 4, none⟩ (.slice (some ⟨g, 0, none⟩) (T2.length + 1) cap)) := k6.trans ((x6.kset 4 _).mono fun k c t fr _ e => .inl e)
    have hT7 := hT6.at x6 (x6.kset 4 (.slice (some ⟨g, 0, none⟩) (T2.length + 1) cap))
    rw [← hb6] at hT7
    have hrow : (w6.setCell ⟨R, 4, none⟩ (.slice (some ⟨g, 0, none⟩) (T2.length + 1) cap)).ownsRow B 5 1 (.slice none 0 0) ([] : List UInt8).length (Lib.byteCells []) := World.ownsRow_nil _ _ _ _
    have hv := h2.told k7 x7 h2.hp hrow (fun _ => rfl) hT7
    have kk : Kp (frT B R tv) w (w6.setCell ⟨R, 4, none⟩ (.slice (some ⟨g, 0, none⟩) (T2.length + 1) cap)) := trans_old hko k7 fun j t hj e => by
      rcases e with e | e | e
      · exact .inl e
      · exact .inr (.inl e)
      · exact .inr (.inr (hold j e hj))
    have HV := Lib.hid (And.intro hv kk)
    clear hv kk hrow hT7 k7 hb6 x7 hT6 k6 hal2 h2 hA2 hko hold hown hgrow hat hlt6
    go_end0
    exact ⟨rfl, HV.out.1.form, HV.out.2⟩

end Go.Proofs.YtfbhpmafjehojaaGreatDoor
