/- The document's reader: a raw name's end, Fails, a part decoded. -/
import Derived.Test.YtfbhpmafjehojaaGreatDoorTokS
namespace Go.Proofs.YtfbhpmafjehojaaGreatDoor
open Go.RowKit

set_option maxRecDepth 100000 in
set_option maxHeartbeats 8000000 in
theorem endR_hid (Q : Nat) (s x : ByteArray) (p : Nat) (hp : p ≤ s.size) (hs : s.size ≤ 1000000) (hxs : x.size ≤ 1000000) : Hid (∀ W n tv fv y, QX W Q s n tv fv y → Calls Tryz.prog 82 #[.pointer (some ⟨Q, 0, none⟩), .int .i64 (p : Int), .string x] W fun e w' => e = .returned (.int .i64 ((p + endM x.data.toList (s.data.toList.drop p) : Nat) : Int)) ∧ Below W.heap.size W w') := Lib.hid fun w n tv fv y hx => by
  obtain ⟨m, hm⟩ : ∃ m, p + endM x.data.toList (s.data.toList.drop p) = m := ⟨_, rfl⟩
  rw [hm]
  have HM := Lib.hid hm.symm
  obtain ⟨Z, hZ⟩ := text_of (60 :: 47 :: x.data.toList)
  have hZs : Z.size = x.size + 2 := by rw [← lsize, hZ, ← lsize x]; rfl
  have a1 := add_to ⟨#[60, 47]⟩ x Z hZ (by show 2 + x.size ≤ _; omega)
  have HZ := Lib.hid hZ
  have HX := Lib.hid hx
  have z3 : (s.size : Int) ≤ 1000000 := by omega
  have z4 : (x.size : Int) ≤ 1000000 := by omega
  have d0 := hx.c0
  have hzl : Z.size ≤ 1000002 := by omega
  have hzx : Z.data.toList.length = x.size + 2 := by rw [lsize]; exact hZs
  have HZX := Lib.hid hzx
  clear hx hm hZ hZs hzx
  go_enter Tryz.func82, Tryz.ntmps82
  go_wp2
  clear d0
  go_loopw [7, 8, 9] (fun i _ _ wr => ∃ q : Nat, i = .int .i64 q ∧ q ≤ s.size ∧ Below w.heap.size w wr ∧ Hid (m = q + endM x.data.toList (s.data.toList.drop q))) (fun i _ _ _ => s.size - (intOf i).toNat)
  case atStart => exact ⟨p, rfl, hp, Below.refl _ _, HM⟩
  case round =>
    obtain ⟨q, rfl, hq, hb, HF⟩ := hrel
    have d0 := (HX.out.below hb).c0
    by_cases hlt : q < s.size
    · have z1 : (q : Int) < (s.size : Int) := by omega
      have z0 : (0 : Int) ≤ (q : Int) := by omega
      have hql : q < s.data.toList.length := by rw [lsize]; exact hlt
      obtain ⟨U, hU⟩ := text_of (s.data.toList.drop q)
      have g := slice_from s U q (by omega) hU
      obtain ⟨b, hbb⟩ : ∃ b, beginsM Z.data.toList U.data.toList = b := ⟨_, rfl⟩
      have CB := beginsR_hid U Z b hbb (by omega)
      have hcb : beginsM (60 :: 47 :: x.data.toList) (s.data.toList.drop q) = b := by rw [← hbb, hU, HZ.out]
      have hstep : ¬ condM x.data.toList (s.data.toList.drop q) → m = (q + 1) + endM x.data.toList (s.data.toList.drop (q + 1)) := fun h => by
        rw [HF.out, endM_miss hql h]
        omega
      have hhere : condM x.data.toList (s.data.toList.drop q) → m = q := fun h => by
        rw [HF.out, endM_hit hql h]
        rfl
      have HS := Lib.hid hstep
      have HH := Lib.hid hhere
      have hsz := hb.size
      have hget : (s.data.toList.drop q)[2 + x.data.toList.length]? = s.data.toList[q + 2 + x.size]? := by
        rw [List.getElem?_drop, lsize, Nat.add_assoc]
      cases hk : s.data.toList[q + 2 + x.size]? with
      | none =>
        have h1 := get_none hk
        have HF2 : Hid (m = (q + 1) + endM x.data.toList (s.data.toList.drop (q + 1))) := Lib.hid (HS.out fun h => by
          have := h.2
          rw [hget, hk] at this
          cases this)
        have z5 : (s.size : Int) ≤ (q : Int) + 2 + (x.size : Int) := by omega
        clear hbb hU hcb hstep hhere hget hk h1 HF
        cases b with
        | false =>
          go_wp2_with fail
          (with_reducible refine (CB.out _).mono ?_)
          rintro e w1 ⟨rfl, b1⟩
          have hb1 := hb.trans (b1.mono hsz)
          clear hb b1 d0
          go_wp2
          go_roundw
          case rel => exact ⟨q + 1, by go_num, by omega, hb1, HF2⟩
          case measure => simp [intOf]; omega
        | true =>
          go_wp2_with fail
          (with_reducible refine (CB.out _).mono ?_)
          rintro e w1 ⟨rfl, b1⟩
          have hb1 := hb.trans (b1.mono hsz)
          have d0 := (HX.out.below hb1).c0
          clear hb b1
          go_wp2
          go_roundw
          case rel => exact ⟨q + 1, by go_num, by omega, hb1, HF2⟩
          case measure => simp [intOf]; omega
      | some c =>
        have h1 := get_some hk
        have z5 : (q : Int) + 2 + (x.size : Int) < (s.size : Int) := by omega
        have i0 := index_ty Tryz.underlying9 s (q + 2 + x.size) c hk
        rw [show (((q + 2 + x.size : Nat)) : Int) = (q : Int) + 2 + (x.size : Int) by push_cast; rfl] at i0
        have hcond : condM x.data.toList (s.data.toList.drop q) ↔ (b = true ∧ nameE c = true) := by
          unfold condM
          rw [hcb, hget, hk]
          rfl
        have HC := Lib.hid hcond
        clear hbb hU hcb hstep hhere hget hk h1 HF hcond
        cases b with
        | false =>
          have HF2 : Hid (m = (q + 1) + endM x.data.toList (s.data.toList.drop (q + 1))) := Lib.hid (HS.out fun h => absurd (HC.out.1 h).1 (by decide))
          clear HS HH HC
          go_wp2_with fail
          (with_reducible refine (CB.out _).mono ?_)
          rintro e w1 ⟨rfl, b1⟩
          have hb1 := hb.trans (b1.mono hsz)
          clear hb b1 d0
          go_wp2
          go_roundw
          case rel => exact ⟨q + 1, by go_num, by omega, hb1, HF2⟩
          case measure => simp [intOf]; omega
        | true =>
          by_cases h47 : c = 47
          · subst h47
            have HE : Hid (Ending.returned (Value.int .i64 (q : Int)) = .returned (.int .i64 (m : Int))) := Lib.hid (by rw [HH.out (HC.out.2 ⟨rfl, by decide⟩)])
            have i0 := i0
            rw [show (((47 : UInt8).toNat : Nat) : Int) = 47 from rfl] at i0
            clear HS HH HC
            go_wp2_with fail
            (with_reducible refine (CB.out _).mono ?_)
            rintro e w1 ⟨rfl, b1⟩
            have hb1 := hb.trans (b1.mono hsz)
            have d0 := (HX.out.below hb1).c0
            clear hb b1
            go_wp2
            go_ret
            exact ⟨HE.out, hb1⟩
          · have g47 : ((c.toNat : Int) == 47) = false := by rw [beq_eq_false_iff_ne]; exact fun e => h47 (byte_is (d := 47) e)
            by_cases h62 : c = 62
            · subst h62
              have HE : Hid (Ending.returned (Value.int .i64 (q : Int)) = .returned (.int .i64 (m : Int))) := Lib.hid (by rw [HH.out (HC.out.2 ⟨rfl, by decide⟩)])
              rw [show (((62 : UInt8).toNat : Nat) : Int) = 62 from rfl] at i0
              clear HS HH HC g47
              go_wp2_with fail
              (with_reducible refine (CB.out _).mono ?_)
              rintro e w1 ⟨rfl, b1⟩
              have hb1 := hb.trans (b1.mono hsz)
              have d0 := (HX.out.below hb1).c0
              clear hb b1
              go_wp2
              go_ret
              exact ⟨HE.out, hb1⟩
            · have g62 : ((c.toNat : Int) == 62) = false := by rw [beq_eq_false_iff_ne]; exact fun e => h62 (byte_is (d := 62) e)
              obtain ⟨bl, hbl⟩ : ∃ bl, blk c = bl := ⟨_, rfl⟩
              have CK := blankR_hid c bl hbl
              have hne : nameE c = bl := by
                unfold nameE
                rw [hbl, show (c == 47) = false from beq_eq_false_iff_ne.2 h47, show (c == 62) = false from beq_eq_false_iff_ne.2 h62, Bool.or_false, Bool.or_false]
              cases bl with
              | true =>
                have HE : Hid (Ending.returned (Value.int .i64 (q : Int)) = .returned (.int .i64 (m : Int))) := Lib.hid (by rw [HH.out (HC.out.2 ⟨rfl, hne⟩)])
                clear HS HH HC hbl hne h47 h62
                go_wp2_with fail
                (with_reducible refine (CB.out _).mono ?_)
                rintro e w1 ⟨rfl, b1⟩
                have hb1 := hb.trans (b1.mono hsz)
                have d0 := (HX.out.below hb1).c0
                clear hb b1
                go_wp2_with fail
                (with_reducible refine (CK.out _).mono ?_)
                rintro e w1 ⟨rfl, rfl⟩
                go_wp2
                go_ret
                exact ⟨HE.out, hb1⟩
              | false =>
                have HF2 : Hid (m = (q + 1) + endM x.data.toList (s.data.toList.drop (q + 1))) := Lib.hid (HS.out fun h => by
                  have := (HC.out.1 h).2
                  rw [hne] at this
                  cases this)
                clear HS HH HC hbl hne h47 h62
                go_wp2_with fail
                (with_reducible refine (CB.out _).mono ?_)
                rintro e w1 ⟨rfl, b1⟩
                have hb1 := hb.trans (b1.mono hsz)
                have d0 := (HX.out.below hb1).c0
                clear hb b1
                go_wp2_with fail
                (with_reducible refine (CK.out _).mono ?_)
                rintro e w1 ⟨rfl, rfl⟩
                go_wp2
                go_roundw
                case rel => exact ⟨q + 1, by go_num, by omega, hb1, HF2⟩
                case measure => simp [intOf]; omega
    · obtain rfl : q = s.size := by omega
      have z1 : ¬ (s.size : Int) < (s.size : Int) := by omega
      have HE : Hid (Ending.returned (Value.int .i64 (s.size : Int)) = .returned (.int .i64 (m : Int))) := Lib.hid (by
        rw [HF.out, show s.data.toList.drop s.size = [] by rw [← lsize]; simp]
        rfl)
      clear HF
      go_wp2
      go_ret
      exact ⟨HE.out, hb⟩

/-! ### what the reader holds -/
structure QV (w : World) (B m Q : Nat) (s : ByteArray) (n : Nat) (T : List Tk) (F : List Fl) (x : ByteArray) (tv fv : Value) : Prop where
  q : QX w Q s n tv fv x
  ht : OwnT w B m tv T
  hf : w.ownsRow B 50 2 fv F.length (flC F)
  lo : B ≤ Q
  hi : Q < m
  mw : m ≤ w.heap.size
def QS (w : World) (B m Q : Nat) (s : ByteArray) (n : Nat) (T : List Tk) (F : List Fl) (x : ByteArray) : Prop := ∃ tv fv, QV w B m Q s n T F x tv fv
theorem TRow.rows {w w' : World} {B m : Nat} (h : ∀ av A, AttrsBy w B m av A → AttrsBy w' B m av A) : ∀ {T : List Tk} {cs : List Value}, TRow w B m T cs → TRow w' B m T cs
  | [], _, h => h
  | _ :: _, _, ⟨av, r, h1, h2, h3⟩ => ⟨av, r, h1, h _ _ h2, h3.rows h⟩
section
variable {w w' : World} {B m Q : Nat} {s : ByteArray} {n : Nat} {T : List Tk} {F : List Fl} {x : ByteArray} {tv fv : Value}
theorem QV.form (h : QV w B m Q s n T F x tv fv) : QS w B m Q s n T F x := ⟨tv, fv, h⟩
theorem QV.bw (h : QV w B m Q s n T F x tv fv) : B ≤ w.heap.size := by have := h.lo; have := h.hi; have := h.mw; omega
theorem QV.moved (h : QV w B m Q s n T F x tv fv) {n' : Nat} {x' : ByteArray} (q : QX w' Q s n' tv fv x') (k : Kp (onR Q) w w') : QV w' B m Q s n' T F x' tv fv := by
  have ne : ∀ {base size n : Nat} {e : TypeId} {v : Value} {xs : List Value}, w.ownsRow base e size v n xs → 74 ≠ e → w'.ownsRow base e size v n xs := fun r hne => k.row r fun j hj _ e => row_ne r h.q hne (by rw [hj]; exact congrArg some e)
  obtain ⟨cs, t1, t2, t3⟩ := h.ht
  exact ⟨q, ⟨cs, ne t1 (by decide), t2, t3.rows fun av A ha => ⟨ne ha.1 (by decide), ha.2⟩⟩, ne h.hf (by decide), h.lo, h.hi, Nat.le_trans h.mw k.size⟩
theorem QV.below (h : QV w B m Q s n T F x tv fv) (b : Below w.heap.size w w') : QV w' B m Q s n T F x tv fv := h.moved (h.q.below b) (Kp.of_below b)
theorem QV.up (h : QV w B m Q s n T F x tv fv) {m' : Nat} (hm : m ≤ m') (hw : m' ≤ w.heap.size) : QV w B m' Q s n T F x tv fv := ⟨h.q, h.ht.up hm, h.hf, h.lo, Nat.lt_of_lt_of_le h.hi hm, hw⟩
theorem QS.below (h : QS w B m Q s n T F x) (b : Below w.heap.size w w') : QS w' B m Q s n T F x := by
  obtain ⟨tv, fv, h⟩ := h
  exact ⟨tv, fv, h.below b⟩
theorem QS.up (h : QS w B m Q s n T F x) {m' : Nat} (hm : m ≤ m') (hw : m' ≤ w.heap.size) : QS w B m' Q s n T F x := by
  obtain ⟨tv, fv, h⟩ := h
  exact ⟨tv, fv, h.up hm hw⟩
theorem QS.bw (h : QS w B m Q s n T F x) : B ≤ w.heap.size := by obtain ⟨tv, fv, h⟩ := h; exact h.bw
theorem QS.lo (h : QS w B m Q s n T F x) : B ≤ Q := by obtain ⟨tv, fv, h⟩ := h; exact h.lo
theorem QS.hi (h : QS w B m Q s n T F x) : Q < m := by obtain ⟨tv, fv, h⟩ := h; exact h.hi
theorem QS.mw (h : QS w B m Q s n T F x) : m ≤ w.heap.size := by obtain ⟨tv, fv, h⟩ := h; exact h.mw
theorem QS.onb (h : QS w B m Q s n T F x) (k : Kp (onR Q) w w') : Below B w w' := k.below (fun j t e => by rw [show j = Q from e]; exact h.lo) h.bw
theorem QS.frb (h : QS w B m Q s n T F x) (k : Kp (frD B Q) w w') : Below B w w' := k.below (fun j t e => by
  rcases e with rfl | e
  · exact h.lo
  · exact e.1) h.bw
theorem QV.frD (h : QV w B m Q s n T F x tv fv) (k : Kp (fun k _ => k = Q ∨ fv.ownBlock = some k) w w') : Kp (frD B Q) w w' := k.mono fun k c t fr hk e => by
  rcases e with e | e
  · exact .inl e
  · obtain ⟨cur, g1, g2, _⟩ := row_block h.hf e
    rw [hk] at g1
    cases g1
    exact .inr ⟨g2, rfl⟩
end

set_option maxRecDepth 100000 in
set_option maxHeartbeats 2000000 in
theorem failQ_rv (code : Int) (place : Nat) (w : World) (B m Q : Nat) (s : ByteArray) (n : Nat) (T : List Tk) (F : List Fl) (x : ByteArray) (tv fv : Value) (h : QV w B m Q s n T F x tv fv) (hl : F.length ≤ 1000000) : Calls Tryz.prog 83 #[.pointer (some ⟨Q, 0, none⟩), .int .i64 code, .int .i64 (place : Int)] w fun e w' => e = .returned (.tuple #[]) ∧ ∃ fv', QV w' B m Q s n T (F ++ [(code, place)]) x tv fv' ∧ (fv'.ownBlock = fv.ownBlock ∨ ∃ k, fv'.ownBlock = some k ∧ w.heap.size ≤ k) ∧ Kp (fun k _ => k = Q ∨ fv.ownBlock = some k) w w' := by
  obtain ⟨i1, hi1, hy0, hy1, hy2⟩ := info_parts Tinfo34
  have hf := h.hf
  have d3 := h.q.c3
  have hne := row_ne hf h.q (by decide)
  have hbw := h.bw
  have hx := h.q
  have HR := Lib.hid h
  clear h
  go_enter Tryz.func83, Tryz.ntmps83
  go_wp2_with (
    at_builtin
    go_loud (
      refine wpList_append_elder _ rfl _ _ 24 rfl B 50 i1 (.agg #[.int .i64 0, .int .i64 0]) 2 16 Tryz.underlying24 hi1 hy0 hy1 hy2 rfl (by decide) _ _ _ rfl (hf.alloc _) ⟨w.heap.size, 0, none⟩ 1 1 [.int .i64 code, .int .i64 (place : Int)] rfl rfl (cells_new w [.int .i64 code, .int .i64 (place : Int)] 50) (fun x hx => by simp at hx; rcases hx with rfl | rfl <;> rfl) (by unfold maxLen; omega) (by omega) (by simp; omega) ?_
      intro v5 w5 hown5 hold5 hgrow5 hat5
      have x5 : QX w5 Q s n tv fv x := by
        have h1 : QX (w.alloc (.cells #[.int .i64 code, .int .i64 (place : Int)] 50)) Q s n tv fv x := hx.below ((Below.refl _ _).alloc (Nat.le_refl _) _)
        unfold QX at h1 ⊢
        rw [hgrow5.block Q (lt_of_block h1) (fun e => hne e.symm)]
        exact h1
      have HX := Lib.hid (x5.set3 v5)
      have HK5 : Hid (Kp (fun k t => fv.ownBlock = some k) w w5) := Lib.hid ((Kp.of_below ((Below.refl _ _).alloc (Nat.le_refl _) _)).trans (Kp.of_grown hgrow5 (fun k c t fr hk _ => hk) fun k hk => by
        obtain ⟨cur, h1, _⟩ := row_block (hf.alloc (.cells #[.int .i64 code, .int .i64 (place : Int)] 50)) hk
        exact ⟨_, _, _, h1⟩))
      have HK6 : Hid (Kp (onR Q) w5 (w5.setCell ⟨Q, 3, none⟩ v5)) := Lib.hid (x5.kset 3 v5)
      have HO : Hid (w5.ownsRow B 50 2 v5 (F ++ [(code, place)]).length (flC (F ++ [(code, place)]))) := Lib.hid (by rw [flC_snoc, List.length_append]; exact hown5)
      have HAT : Hid (v5.ownBlock = fv.ownBlock ∨ v5.ownBlock = some (w.heap.size + 1)) := Lib.hid (by
        rcases hat5 with e | e
        · exact .inl e
        · exact .inr (e.trans (by simp)))
      have d3' := x5.c3
      have f3' := x5.free 3
      have HX5 := Lib.hid x5
      have HF5 : Hid (∃ a k, v5 = .slice a (F.length + 1) k) := Lib.hid (by
        rcases rowForms hown5 with ⟨e1, e2⟩ | ⟨g, k, e1⟩
        · exact ⟨none, 0, by rw [e1, e2]⟩
        · exact ⟨_, _, e1⟩)
      clear hown5 hold5 hgrow5 hat5 x5
      obtain ⟨va, vk, rfl⟩ := HF5.out
      clear HF5))
  go_end0
  have h := HR.out
  have k5 := HK5.out
  have k6 := HK6.out
  have hf5 := HO.out
  have nef : ∀ {base size n : Nat} {e : TypeId} {v : Value} {xs : List Value}, w.ownsRow base e size v n xs → 50 ≠ e → w5.ownsRow base e size v n xs := fun r hne' => k5.row r fun j hj _ e => rows_ne hf r hne' e hj
  have neR : ∀ {base size n : Nat} {e : TypeId} {v : Value} {xs : List Value}, w5.ownsRow base e size v n xs → 74 ≠ e → (w5.setCell ⟨Q, 3, none⟩ (.slice va (F.length + 1) vk)).ownsRow base e size v n xs := fun r hne' => k6.row r fun j hj _ e => row_ne r HX5.out hne' (by rw [hj]; exact congrArg some e)
  obtain ⟨cs, t1, t2, t3⟩ := h.ht
  have kk : Kp (fun k _ => k = Q ∨ fv.ownBlock = some k) w (w5.setCell ⟨Q, 3, none⟩ (.slice va (F.length + 1) vk)) := (k5.mono fun k c t fr hk e => Or.inr e).trans (k6.mono fun k c t fr _ e => Or.inl e)
  refine ⟨rfl, .slice va (F.length + 1) vk, ?_, ?_, kk⟩
  · exact ⟨HX.out, ⟨cs, neR (nef t1 (by decide)) (by decide), t2, t3.rows fun av A ha => ⟨neR (nef ha.1 (by decide)) (by decide), ha.2⟩⟩, neR hf5 (by decide), h.lo, h.hi, Nat.le_trans h.mw kk.size⟩
  · rcases HAT.out with e | e
    · exact .inl e
    · exact .inr ⟨_, e, Nat.le_succ _⟩
theorem failQ_hid (code : Int) (place : Nat) : Hid (∀ W B m Q s n T F x, QS W B m Q s n T F x → F.length ≤ 1000000 → Calls Tryz.prog 83 #[.pointer (some ⟨Q, 0, none⟩), .int .i64 code, .int .i64 (place : Int)] W fun e w' => e = .returned (.tuple #[]) ∧ QS w' B m Q s n T (F ++ [(code, place)]) x ∧ Kp (frD B Q) W w') := Lib.hid fun w B m Q s n T F x h hl => by
  obtain ⟨tv, fv, h⟩ := h
  refine (failQ_rv code place w B m Q s n T F x tv fv h hl).mono ?_
  rintro e w' ⟨rfl, fv', h', -, k⟩
  exact ⟨rfl, ⟨tv, fv', h'⟩, h.frD k⟩

end Go.Proofs.YtfbhpmafjehojaaGreatDoor
