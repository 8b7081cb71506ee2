/- The document's reader: a part decoded, text that joins the token ahead of it. -/
import Derived.Test.YtfbhpmafjehojaaGreatDoorEntY
import Derived.Test.YtfbhpmafjehojaaGreatDoorTokT
namespace Go.Proofs.YtfbhpmafjehojaaGreatDoor
open Go.RowKit

theorem refDecO_hid (s T : ByteArray) (p : List Nat) (h : decT 0 s.data.toList = (T.data.toList, p)) (hs : s.size ≤ 100000) : Hid (∀ W, Calls Tryz.prog 88 #[.string s] W fun e w' => ∃ a c, e = .returned (.tuple #[.string T, .slice a p.length c]) ∧ w'.ownsRow W.heap.size 50 2 (.slice a p.length c) p.length (failCs p) ∧ Below W.heap.size W w') := Lib.hid fun W => (refDecode_any s hs W).mono fun e w' ⟨v, h1, h2, h3⟩ => by
  rw [h] at h1 h2
  have hf := FailsIn.of_row h2
  obtain ⟨a, c, rfl⟩ := hf.form
  exact ⟨a, c, by rw [h1, text_is (T := T) rfl], h2, h3⟩

set_option maxRecDepth 100000 in
set_option maxHeartbeats 4000000 in
theorem decodeQ_hid (s P D : ByteArray) (p : List Nat) (fr to' : Nat) (hP : P.data.toList = (s.data.toList.drop fr).take (to' - fr)) (hft : fr ≤ to') (hts : to' ≤ s.size) (hs : s.size ≤ 20000) (h : decT 0 P.data.toList = (D.data.toList, p)) : Hid (∀ W B m Q n T F x, QS W B m Q s n T F x → F.length ≤ 500000 → Calls Tryz.prog 55 #[.pointer (some ⟨Q, 0, none⟩), .int .i64 (fr : Int), .int .i64 (to' : Int)] W fun e w' => e = .returned (.string D) ∧ QS w' B m Q s n T (F ++ failM fr p) x ∧ Kp (frD B Q) W w') := Lib.hid fun w B m Q n T F x hr hl => by
  obtain ⟨tv, fv, hr⟩ := hr
  have hPs : P.size ≤ 20000 := by rw [← lsize, hP, List.length_take, List.length_drop, lsize]; omega
  have g := slice_mid s P fr to' hft hts hP
  have CD := refDecO_hid P D p h (by omega)
  have hlen : p.length ≤ 20000 := by
    have := (decT_len 0 P.data.toList).2
    rw [h, lsize] at this
    simp only at this
    omega
  have hplace : ∀ q ∈ p, q ≤ 20000 := fun q hq => by
    have := decT_place 0 P.data.toList q (by rw [h]; exact hq)
    rw [lsize] at this
    omega
  have HP := Lib.hid hplace
  have d0 := hr.q.c0
  have HR0 := Lib.hid hr
  clear h hplace hP hr
  go_enter Tryz.func55, Tryz.ntmps55
  go_wp2_with fail
  (with_reducible refine (CD.out _).mono ?_)
  rintro e w1 ⟨a, c, rfl, hrow, b1⟩
  have hr1 := HR0.out.below b1
  have HG : Hid (∀ g, (Value.slice a p.length c).ownBlock = some g → w.heap.size ≤ g ∧ g < w1.heap.size) := Lib.hid hrow.lt
  have hfv : ∀ j, fv.ownBlock = some j → j < w.heap.size ∨ w1.heap.size ≤ j := fun j hj => .inl (HR0.out.hf.lt j hj).2
  have hk1 : Kp (frD B Q) w w1 := Kp.of_below b1
  have HR1 := Lib.hid (And.intro hr1 (And.intro hfv (And.intro hk1 hrow)))
  obtain ⟨W1, hW1⟩ : ∃ W1, w1.heap.size = W1 := ⟨_, rfl⟩
  rw [hW1] at HR1 HG
  have HW1 := Lib.hid hW1
  clear hr1 hfv hk1 hrow b1 CD hW1 d0 HR0
  go_wp2
  go_loopw [9] (fun i wr => ∃ (k : Nat) (fv' : Value), i = .int .i64 k ∧ k ≤ p.length ∧ Hid (QV wr B m Q s n T (F ++ failM fr (p.take k)) x tv fv' ∧ (∀ j, fv'.ownBlock = some j → j < w.heap.size ∨ W1 ≤ j) ∧ Kp (frD B Q) w wr ∧ wr.ownsRow w.heap.size 50 2 (.slice a p.length c) p.length (failCs p) ∧ W1 ≤ wr.heap.size)) (fun i _ => p.length - (intOf i).toNat)
  case atStart =>
    obtain ⟨h1, h2, h3, h4⟩ := HR1.out
    exact ⟨0, fv, rfl, Nat.zero_le _, Lib.hid ⟨by simpa [failM] using h1, h2, h3, h4, by rw [HW1.out]; exact Nat.le_refl _⟩⟩
  case round =>
    clear HR1
    obtain ⟨k, fv', rfl, hk, HX⟩ := hrel
    by_cases hlt : k < p.length
    · obtain ⟨h1, h2, h3, h4, h5⟩ := HX.out
      obtain ⟨q, hq⟩ : ∃ q, p[k] = q := ⟨_, rfl⟩
      have hq2 : q ≤ 20000 := HP.out q (by rw [← hq]; exact List.getElem_mem hlt)
      have HT : Hid (F ++ failM fr (p.take (k + 1)) = (F ++ failM fr (p.take k)) ++ [((130 : Int), fr + q)]) := Lib.hid (by
        rw [List.take_succ_eq_append_getElem hlt, hq]
        simp [failM])
      have hlen2 : (F ++ failM fr (p.take k)).length ≤ 1000000 := by
        simp only [List.length_append, failM, List.length_map, List.length_take]
        omega
      obtain ⟨g0, rfl⟩ : ∃ g, a = some ⟨g, 0, none⟩ := by
        rcases rowForms h4 with ⟨e1, e2⟩ | ⟨g, cc, e1⟩
        · omega
        · injection e1 with e1 _ _
          exact ⟨g, e1⟩
      have e12 := failCs_at p k hlt
      rw [hq] at e12
      have c0 : wr.cell? ⟨g0, k * 2, none⟩ = some (.int .i64 130) := by rw [h4.cellAt (k * 2) (by omega)]; exact e12.1
      have c1 : wr.cell? ⟨g0, k * 2 + 1, none⟩ = some (.int .i64 (q : Int)) := by rw [h4.cellAt (k * 2 + 1) (by omega)]; exact e12.2
      have z1 : (fr : Int) ≤ 20000 := by omega
      have z2 : (q : Int) ≤ 20000 := by omega
      have z3 : (0 : Int) ≤ (fr : Int) := by omega
      have z4 : (0 : Int) ≤ (q : Int) := by omega
      have CF := failQ_rv 130 (fr + q) wr.drew B m Q s n T _ x tv fv' (show QV wr.drew B m Q s n T (F ++ failM fr (p.take k)) x tv fv' from h1.below (Below.refl _ _).drew) hlen2
      rw [show (((fr + q : Nat)) : Int) = IntKind.i64.wrap ((fr : Int) + (q : Int)) by simp only [IntKind.wrap, IntKind.bits, IntKind.signed]; simp; omega] at CF
      have HCF := Lib.hid CF
      have HH := Lib.hid (And.intro h1 (And.intro h2 (And.intro h3 (And.intro h4 h5))))
      clear CF h1 h2 h3 h4 h5 HX e12 hq hq2
      go_wp2_with fail
      go_region_law (go_simp
                     go_at_call 83
                     (with_reducible refine HCF.out.mono ?_)
                     rintro e w3 ⟨rfl, fv3, h3', hat, k3⟩
                     have HN : Hid (QV w3 B m Q s n T (F ++ failM fr (p.take (k + 1))) x tv fv3 ∧ (∀ j, fv3.ownBlock = some j → j < w.heap.size ∨ W1 ≤ j) ∧ Kp (frD B Q) w w3 ∧ w3.ownsRow w.heap.size 50 2 (.slice (some ⟨g0, 0, none⟩) p.length c) p.length (failCs p) ∧ W1 ≤ w3.heap.size) := Lib.hid (by
                       obtain ⟨h1, h2, h3, h4, h5⟩ := HH.out
                       have k3' : Kp (fun k _ => k = Q ∨ fv'.ownBlock = some k) wr w3 := (Kp.refl _ wr).drew.trans k3
                       refine ⟨by rw [HT.out]; exact h3', fun j hj => ?_, h3.trans (h1.frD k3'), k3'.row h4 fun j hj _ e => ?_, Nat.le_trans h5 k3'.size⟩
                       · rcases hat with e | ⟨j2, e, hj2⟩
                         · exact h2 j (by rw [← e]; exact hj)
                         · rw [e] at hj
                           cases hj
                           exact .inr (Nat.le_trans h5 hj2)
                       · have hg := HG.out j hj
                         rcases e with e | e
                         · exact row_ne h4 h1.q (by decide) (by rw [hj, e])
                         · rcases h2 j e with h | h <;> omega)
                     clear h3' hat k3)
      all_goals
        clear HH HCF c0 c1
        go_wp2
        go_roundw
        case rel => exact ⟨k + 1, fv3, by go_num, by omega, HN⟩
        case measure => simp [intOf]; omega
    · obtain rfl : k = p.length := by omega
      rw [List.take_length] at HX
      go_wp2
      go_ret
      exact ⟨rfl, HX.out.1.form, HX.out.2.2.1⟩

/-! ### text -/
theorem TRow.last {w : World} {B m : Nat} {u : Tk} : ∀ {K : List Tk} {cs : List Value}, TRow w B m (K ++ [u]) cs → ∃ c1 av, cs = c1 ++ tkC u av ∧ c1.length = K.length * 5 ∧ TRow w B m K c1 ∧ AttrsBy w B m av u.a
  | [], cs, ⟨av, r, h1, h2, h3⟩ => ⟨[], av, by rw [h1, show r = [] from h3]; rfl, rfl, rfl, h2⟩
  | t :: K, cs, ⟨av, r, h1, h2, h3⟩ => by
    obtain ⟨c1, bv, e1, e2, e3, e4⟩ := TRow.last h3
    refine ⟨tkC t av ++ c1, bv, by rw [h1, e1, List.append_assoc], ?_, ⟨av, c1, rfl, h2, e3⟩, e4⟩
    rw [List.length_append, e2, List.length_cons]
    show 5 + K.length * 5 = _
    omega
theorem ownsRow_set {w : World} {base : Nat} {e : TypeId} {size n g cap : Nat} {xs : List Value} (h : w.ownsRow base e size (.slice (some ⟨g, 0, none⟩) n cap) n xs) (j : Nat) (u : Value) : (w.setCell ⟨g, j, none⟩ u).ownsRow base e size (.slice (some ⟨g, 0, none⟩) n cap) n (xs.set j u) := by
  refine ⟨by rw [List.length_set]; exact h.1, ?_⟩
  rcases h.2 with ⟨e1, _⟩ | ⟨g', cap', cur, a1, a2, a3, a4, a5, a6, a7⟩
  · cases e1
  · injection a1 with a1 _ a8
    injection a1 with a1
    injection a1 with a1
    subst a1 a8
    refine .inr ⟨g, cap, _, rfl, a2, heap_setCell_same w g j cur e (0, 0) u a3, a4, a5, by rw [Array.size_setIfInBounds]; exact a6, ?_⟩
    rw [Array.toList_setIfInBounds, List.take_set, a7]
theorem row_open {w : World} {base : Nat} {e : TypeId} {size n g cap : Nat} {xs : List Value} (h : w.ownsRow base e size (.slice (some ⟨g, 0, none⟩) n cap) n xs) : ∃ cur, w.heap[g]? = some (.cells cur e (0, 0)) ∧ base ≤ g := by
  rcases h.2 with ⟨e1, _⟩ | ⟨g', cap', cur, a1, a2, a3, _⟩
  · cases e1
  · injection a1 with a1 _ _
    injection a1 with a1
    injection a1 with a1
    subst a1
    exact ⟨cur, a3, a2⟩
theorem push_join {K : List Tk} {u : Tk} (hu : u.k = 1) {d : List UInt8} (hd : d ≠ []) : pushM (K ++ [u]) (some (textT d)) = K ++ [{ u with d := u.d ++ d }] := by
  unfold pushM
  simp only [textT, if_true, hd, if_false]
  rw [List.getLast?_append]
  simp [hu]
/-- What a token more turns: R's own cells, the row of tokens. -/
def frQ (Q : Nat) (tv : Value) (k : Nat) (_ : TypeId) : Prop := k = Q ∨ tv.ownBlock = some k
theorem QV.told {w w' : World} {B m Q : Nat} {s : ByteArray} {n : Nat} {T : List Tk} {F : List Fl} {x : ByteArray} {tv fv : Value} (h : QV w B m Q s n T F x tv fv) {n' m' : Nat} {x' : ByteArray} {T' : List Tk} {tv' : Value} (k : Kp (frQ Q tv) w w') (q : QX w' Q s n' tv' fv x') (ht : OwnT w' B m' tv' T') (hm : m ≤ m') (hm' : m' ≤ w'.heap.size) : QV w' B m' Q s n' T' F x' tv' fv := by
  refine ⟨q, ht, k.row h.hf fun j hj _ e => ?_, h.lo, Nat.lt_of_lt_of_le h.hi hm, hm'⟩
  rcases e with rfl | e
  · exact row_ne h.hf h.q (by decide) hj
  · obtain ⟨cs, h1, _⟩ := h.ht
    exact rows_ne h1 h.hf (by decide) e hj
theorem QV.frQb {w w' : World} {B m Q : Nat} {s : ByteArray} {n : Nat} {T : List Tk} {F : List Fl} {x : ByteArray} {tv fv : Value} (h : QV w B m Q s n T F x tv fv) (k : Kp (frQ Q tv) w w') : Below B w w' := k.below (fun j t e => by
  rcases e with rfl | e
  · exact h.lo
  · obtain ⟨cs, h1, _⟩ := h.ht
    exact (h1.lt j e).1) h.bw

end Go.Proofs.YtfbhpmafjehojaaGreatDoor
