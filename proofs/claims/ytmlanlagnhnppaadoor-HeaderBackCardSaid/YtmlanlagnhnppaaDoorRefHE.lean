/- Policies held against each other: the document's. -/
import Derived.Test.YtmlanlagnhnppaaDoorRefHD
import Derived.Test.YtmlanlagnhnppaaDoorClass
namespace Go.Proofs.YtmlanlagnhnppaaDoor
open Go.RowKit

theorem DirsIn.drewN {w : World} {v : Value} {ds : List D} (h : DirsIn w v ds) (n : Nat) : DirsIn (w.drewN n) v ds := h
theorem TextsIn.drewN {w : World} {v : Value} {p : List (List UInt8)} (h : TextsIn w v p) (n : Nat) : TextsIn (w.drewN n) v p := h
theorem take_eq_len {α : Type} {p q : List α} (h : p.length = q.length) (h2 : p.take p.length = q.take p.length) : p = q := by
  rw [List.take_length, h, List.take_length] at h2; exact h2

set_option maxRecDepth 100000 in
set_option maxHeartbeats 4000000 in
theorem refSame_any (ds es : List D) (r1 r2 : Bool) (u v : Value) (w : World) (hu : DirsIn w u ds) (hv : DirsIn w v es) (hl : ds.length ≤ 1000000) (hw1 : ∀ d ∈ ds, d.w.length ≤ 1000000) (hw2 : ∀ d ∈ es, d.w.length ≤ 1000000) :
    Calls Tryd.prog 20 #[polV u r1, polV v r2] w fun e w' => e = .returned (.bool (decide (r1 = r2 ∧ ds = es))) ∧ Below w.heap.size w w' := by
  obtain ⟨a, c, rfl⟩ := hu.form
  obtain ⟨a2, c2, rfl⟩ := hv.form
  unfold polV
  have BB : Below w.heap.size w ((w.alloc (.cells #[.slice a ds.length c, .bool r1] 29)).alloc (.cells #[.slice a2 es.length c2, .bool r2] 29)) := ((Below.refl _ _).alloc (Nat.le_refl _) _).alloc (Below.size ((Below.refl w.heap.size w).alloc (Nat.le_refl _) _)) _
  by_cases hr : r1 = r2
  case neg =>
    have HF : Hid (false = decide (r1 = r2 ∧ ds = es)) := Lib.hid (by rw [decide_eq_false (fun h => hr h.1)])
    have g : (r1 != r2) = true := by rw [bne_iff_ne]; exact hr
    clear hu hv
    cases r1 <;> cases r2
    · exact absurd rfl hr
    · go_enter Tryd.func20, Tryd.ntmps20
      go_wp2
      go_ret
      exact ⟨ret_bool HF.out, BB⟩
    · go_enter Tryd.func20, Tryd.ntmps20
      go_wp2
      go_ret
      exact ⟨ret_bool HF.out, BB⟩
    · exact absurd rfl hr
  subst hr
  by_cases hne : ds.length = es.length
  case neg =>
    have HF : Hid (false = decide (ds = es)) := Lib.hid (by rw [decide_eq_false (fun h => hne (by rw [h]))])
    have g2 : ((ds.length : Int) != (es.length : Int)) = true := by rw [bne_iff_ne]; omega
    clear hu hv hne
    go_enter Tryd.func20, Tryd.ntmps20
    go_wp2
    go_ret
    exact ⟨ret_bool (HF.out.trans (by simp)), BB⟩
  have g2 : ((ds.length : Int) != (es.length : Int)) = false := by rw [bne_eq_false_iff_eq]; omega
  have HNE := Lib.hid hne
  have hle : es.length = ds.length := hne.symm
  rw [hle] at hv g2 BB ⊢
  clear hne hle
  have HFT : Hid (ds = es → true = decide (ds = es)) := Lib.hid fun h => by rw [decide_eq_true h]
  have HFF : Hid (ds ≠ es → false = decide (ds = es)) := Lib.hid fun h => by rw [decide_eq_false h]
  have xn := new_block w (.cells #[.slice a ds.length c, .bool r1] 29)
  have xz := new_block (w.alloc (.cells #[.slice a ds.length c, .bool r1] 29)) (.cells #[.slice a2 ds.length c2, .bool r1] 29)
  have xy : ((w.alloc (.cells #[.slice a ds.length c, .bool r1] 29)).alloc (.cells #[.slice a2 ds.length c2, .bool r1] 29)).heap[w.heap.size]? = some (.cells #[.slice a ds.length c, .bool r1] 29) := by
    rw [((Below.refl (w.alloc (.cells #[.slice a ds.length c, .bool r1] 29)).heap.size (w.alloc (.cells #[.slice a ds.length c, .bool r1] 29))).alloc (Nat.le_refl _) (.cells #[.slice a2 ds.length c2, .bool r1] 29)).block _ (lt_of_block xn)]; exact xn
  have hsz : (w.alloc (.cells #[.slice a ds.length c, .bool r1] 29)).heap.size = w.heap.size + 1 := by show (w.heap.push _).size = _; simp
  rw [hsz] at xz
  have HU := Lib.hid (hu.below BB)
  have HV : Hid (DirsIn ((w.alloc (.cells #[.slice a ds.length c, .bool r1] 29)).alloc (.cells #[.slice a2 ds.length c2, .bool r1] 29)) (.slice a2 ds.length c2) es) := Lib.hid (hv.below BB)
  clear hu hv xn hsz
  go_enter Tryd.func20, Tryd.ntmps20
  go_wp2
  generalize hR : w.heap.size = R at xy xz BB ⊢
  have HR := Lib.hid hR
  clear hR
  generalize (w.alloc (.cells #[.slice a ds.length c, .bool r1] 29)).alloc (.cells #[.slice a2 ds.length c2, .bool r1] 29) = w2 at xy xz BB HU HV ⊢
  have c0 : w2.cell? ⟨R, 0, none⟩ = some (.slice a ds.length c) := by rw [cell_of xy]; rfl
  have e0 : w2.cell? ⟨R + 1, 0, none⟩ = some (.slice a2 ds.length c2) := by rw [cell_of xz]; rfl
  clear xy xz
  go_loopw [5] (fun i wr => ∃ k n : Nat, k ≤ ds.length ∧ i = .int .i64 k ∧ wr = w2.drewN n ∧ Hid (ds.take k = es.take k)) (fun i _ => ds.length - (intOf i).toNat)
  case atStart => exact ⟨0, 0, Nat.zero_le _, rfl, rfl, rfl⟩
  case round =>
    obtain ⟨k, n, hk, rfl, hwr, HS⟩ := hrel
    have c0r : wr.cell? ⟨R, 0, none⟩ = some (.slice a ds.length c) := by rw [hwr]; exact c0
    have e0r : wr.cell? ⟨R + 1, 0, none⟩ = some (.slice a2 ds.length c2) := by rw [hwr]; exact e0
    have HUr : Hid (DirsIn wr (.slice a ds.length c) ds) := Lib.hid (by rw [hwr]; exact HU.out.drewN n)
    have HVr : Hid (DirsIn wr (.slice a2 ds.length c2) es) := Lib.hid (by rw [hwr]; exact HV.out.drewN n)
    have BBr : Below R w wr := by rw [hwr]; exact belowN BB n
    have HW := Lib.hid hwr
    clear hwr c0 e0 BB HU HV
    by_cases hlt : k < ds.length
    · have hlt2 : k < es.length := by have := HNE.out; omega
      obtain ⟨B, off, x, rfl, k1, k2, k3⟩ := HUr.out.at hlt
      obtain ⟨B2, off2, y, rfl, j1, j2, j3⟩ := HVr.out.at hlt2
      have q1 := hw1 _ (List.getElem_mem hlt)
      have q2 := hw2 _ (List.getElem_mem hlt2)
      have HT : Hid (ds[k] = es[k] → ds.take (k + 1) = es.take (k + 1)) := Lib.hid fun h => by rw [List.take_succ_eq_append_getElem hlt, List.take_succ_eq_append_getElem hlt2, h, HS.out]
      have HN : Hid (ds[k] ≠ es[k] → ds ≠ es) := Lib.hid fun h e => by subst e; exact h rfl
      generalize ds[k] = d at *
      generalize es[k] = e at *
      have g1 := str_eq d.n e.n
      unfold strV at k1 j1
      obtain ⟨X, hX⟩ : ∃ X : ByteArray, X = ⟨d.n.toArray⟩ := ⟨_, rfl⟩
      obtain ⟨Y, hY⟩ : ∃ Y : ByteArray, Y = ⟨e.n.toArray⟩ := ⟨_, rfl⟩
      rw [← hX] at k1 g1
      rw [← hY] at j1 g1
      clear hX hY
      by_cases hn : d.n = e.n
      case neg =>
        rw [decide_eq_false hn] at g1
        have HF := Lib.hid (HFF.out (HN.out (fun h => hn (by rw [h]))))
        clear hn k3 j3 HT HN HS
        go_wp2_with fail
        go_quiet (fail)
        go_wp2
        go_ret
        exact ⟨ret_bool (HF.out.trans (by simp)), by rw [HR.out]; exact belowN BBr _⟩
      rw [decide_eq_true hn] at g1
      by_cases hw : d.w = e.w
      · have CT : Hid (∀ W, TextsIn W x d.w → TextsIn W y e.w → Calls Tryd.prog 19 #[x, y] W fun e' w' => e' = .returned (.bool true) ∧ ∃ n, w' = W.drewN n) := Lib.hid fun W h1 h2 => by
          have h := texts_any d.w e.w x y W h1 h2 (by omega) (by omega)
          rw [show eqT d.w e.w = true from by rw [← hw]; exact eqT_self _] at h
          exact h
        have HK3 := Lib.hid k3
        have HJ3 := Lib.hid j3
        have HM := Lib.hid (HT.out (by cases d; cases e; simp_all))
        clear hn hw k3 j3 HT HN HS
        go_wp2_with fail
        go_quiet ((go_at_call 19; exact Calls.quiet_of (CT.out _ (by exact HK3.out) (by exact HJ3.out))))
        go_wp2
        go_roundw
        case rel => exact ⟨k + 1, n + nq, by omega, by go_num, by rw [HW.out, World.drewN_drewN], HM⟩
        case measure => simp [intOf]; omega
      · have CT : Hid (∀ W, TextsIn W x d.w → TextsIn W y e.w → Calls Tryd.prog 19 #[x, y] W fun e' w' => e' = .returned (.bool false) ∧ ∃ n, w' = W.drewN n) := Lib.hid fun W h1 h2 => by
          have h := texts_any d.w e.w x y W h1 h2 (by omega) (by omega)
          rw [show eqT d.w e.w = false from by unfold eqT; rw [decide_eq_false hw]] at h
          exact h
        have HK3 := Lib.hid k3
        have HJ3 := Lib.hid j3
        have HF := Lib.hid (HFF.out (HN.out (fun h => hw (by rw [h]))))
        clear hn hw k3 j3 HT HN HS
        go_wp2_with fail
        go_quiet ((go_at_call 19; exact Calls.quiet_of (CT.out _ (by exact HK3.out) (by exact HJ3.out))))
        go_wp2
        go_ret
        exact ⟨ret_bool (HF.out.trans (by simp)), by rw [HR.out]; exact belowN BBr _⟩
    · obtain rfl : k = ds.length := by omega
      have HF := Lib.hid (HFT.out (take_eq_len HNE.out HS.out))
      clear HS
      go_wp2
      go_ret
      exact ⟨ret_bool (HF.out.trans (by simp)), by rw [HR.out]; exact BBr⟩

/-! Rows of policies: two cells each. -/
def PolsIn (w : World) (v : Value) (ps : List (List D × Bool)) : Prop :=
  ((∃ a c, v = .slice a 0 c) ∧ ps = []) ∨ ∃ B off cap, v = .slice (some ⟨B, off, none⟩) ps.length cap ∧ ∀ j, (h : j < ps.length) → (∃ u, w.cell? ⟨B, off + j * 2, none⟩ = some u ∧ DirsIn w u ps[j].1) ∧ w.cell? ⟨B, off + j * 2 + 1, none⟩ = some (.bool ps[j].2)
theorem PolsIn.below {w w' : World} {v : Value} {ps : List (List D × Bool)} (h : PolsIn w v ps) (hb : Below w.heap.size w w') : PolsIn w' v ps := by
  rcases h with h | ⟨B, off, cap, h2, h3⟩
  · exact .inl h
  · refine .inr ⟨B, off, cap, h2, fun j hj => ?_⟩
    obtain ⟨⟨u, k1, k2⟩, k3⟩ := h3 j hj
    exact ⟨⟨u, by rw [hb.cell (lt_of_cell k1)]; exact k1, k2.below hb⟩, by rw [hb.cell (lt_of_cell k3)]; exact k3⟩
theorem PolsIn.form {w : World} {v : Value} {ps : List (List D × Bool)} (h : PolsIn w v ps) : ∃ a c, v = .slice a ps.length c := by
  rcases h with ⟨⟨a, c, rfl⟩, rfl⟩ | ⟨B, off, cap, rfl, _⟩
  · exact ⟨_, _, rfl⟩
  · exact ⟨_, _, rfl⟩
theorem PolsIn.at {w : World} {a : Option Addr} {n c : Nat} {ps : List (List D × Bool)} (h : PolsIn w (.slice a n c) ps) {j : Nat} (hj : j < ps.length) : ∃ B off u, a = some ⟨B, off, none⟩ ∧ w.cell? ⟨B, off + j * 2, none⟩ = some u ∧ w.cell? ⟨B, off + j * 2 + 1, none⟩ = some (.bool ps[j].2) ∧ DirsIn w u ps[j].1 := by
  rcases h with ⟨_, h2⟩ | ⟨B, off, cap, h2, h3⟩
  · subst h2; simp at hj
  · cases h2
    obtain ⟨⟨u, k1, k2⟩, k3⟩ := h3 j hj
    exact ⟨B, off, u, rfl, k1, k3, k2⟩
theorem refSame_hid8 (ds es : List D) (r1 r2 b : Bool) (hb : decide (r1 = r2 ∧ ds = es) = b) (hl : ds.length ≤ 1000000) (hw1 : ∀ d ∈ ds, d.w.length ≤ 1000000) (hw2 : ∀ d ∈ es, d.w.length ≤ 1000000) : Hid (∀ W u v, DirsIn W u ds → DirsIn W v es → Calls Tryd.prog 20 #[polV u r1, polV v r2] W fun e w' => e = .returned (.bool b) ∧ Below W.heap.size W w') :=
  Lib.hid fun W u v hu hv => by rw [← hb]; exact refSame_any ds es r1 r2 u v W hu hv hl hw1 hw2

set_option maxRecDepth 100000 in
set_option maxHeartbeats 4000000 in
theorem refAll_any (ps qs : List (List D × Bool)) (u v : Value) (w : World) (hu : PolsIn w u ps) (hv : PolsIn w v qs) (hl : ps.length ≤ 1000000) (h1 : ∀ p ∈ ps, p.1.length ≤ 1000000 ∧ ∀ d ∈ p.1, d.w.length ≤ 1000000) (h2 : ∀ p ∈ qs, ∀ d ∈ p.1, d.w.length ≤ 1000000) :
    Calls Tryd.prog 10 #[u, v] w fun e w' => e = .returned (.bool (decide (ps = qs))) ∧ Below w.heap.size w w' := by
  obtain ⟨a, c, rfl⟩ := hu.form
  obtain ⟨a2, c2, rfl⟩ := hv.form
  by_cases hne : ps.length = qs.length
  case neg =>
    have HF : Hid (false = decide (ps = qs)) := Lib.hid (by rw [decide_eq_false (fun h => hne (by rw [h]))])
    have g2 : ((ps.length : Int) != (qs.length : Int)) = true := by rw [bne_iff_ne]; omega
    clear hu hv hne
    go_enter Tryd.func10, Tryd.ntmps10
    go_wp2
    go_ret
    exact ⟨ret_bool HF.out, Below.refl _ _⟩
  have g2 : ((ps.length : Int) != (qs.length : Int)) = false := by rw [bne_eq_false_iff_eq]; omega
  have HNE := Lib.hid hne
  have hle : qs.length = ps.length := hne.symm
  rw [hle] at hv g2 ⊢
  clear hne hle
  have HFT : Hid (ps = qs → true = decide (ps = qs)) := Lib.hid fun h => by rw [decide_eq_true h]
  have HFF : Hid (ps ≠ qs → false = decide (ps = qs)) := Lib.hid fun h => by rw [decide_eq_false h]
  have HU := Lib.hid hu
  have HV := Lib.hid hv
  clear hu hv
  go_enter Tryd.func10, Tryd.ntmps10
  go_wp2
  go_loopw [5] (fun i wr => ∃ k : Nat, k ≤ ps.length ∧ i = .int .i64 k ∧ Below w.heap.size w wr ∧ Hid (ps.take k = qs.take k)) (fun i _ => ps.length - (intOf i).toNat)
  case atStart => exact ⟨0, Nat.zero_le _, rfl, Below.refl _ _, rfl⟩
  case round =>
    obtain ⟨k, hk, rfl, hb, HS⟩ := hrel
    by_cases hlt : k < ps.length
    · have hlt2 : k < qs.length := by have := HNE.out; omega
      obtain ⟨B, off, x, rfl, k1, k2, k3⟩ := (HU.out.below hb).at hlt
      obtain ⟨B2, off2, y, rfl, j1, j2, j3⟩ := (HV.out.below hb).at hlt2
      obtain ⟨q1, q2⟩ := h1 _ (List.getElem_mem hlt)
      have q3 := h2 _ (List.getElem_mem hlt2)
      have HT : Hid (ps[k] = qs[k] → ps.take (k + 1) = qs.take (k + 1)) := Lib.hid fun h => by rw [List.take_succ_eq_append_getElem hlt, List.take_succ_eq_append_getElem hlt2, h, HS.out]
      have HN : Hid (ps[k] ≠ qs[k] → ps ≠ qs) := Lib.hid fun h e => by subst e; exact h rfl
      generalize ps[k] = p at *
      generalize qs[k] = q at *
      obtain ⟨bb, hbb⟩ : ∃ b, decide (p.2 = q.2 ∧ p.1 = q.1) = b := ⟨_, rfl⟩
      have CS := refSame_hid8 p.1 q.1 p.2 q.2 bb hbb q1 q2 q3
      unfold polV at CS
      obtain ⟨C, hC⟩ : ∃ C : World → Prop, ∀ w', C w' ↔ (Below w.heap.size w w' ∧ Below wr.heap.size wr w') := ⟨_, fun _ => Iff.rfl⟩
      have HC := Lib.hid hC
      have HK3 := Lib.hid k3
      have HJ3 := Lib.hid j3
      have hC0 : C wr.drew := (HC.out _).2 ⟨hb.drew, (Below.refl _ _).drew⟩
      have HK : Hid (∀ w', C w' → ∀ w7, Below w'.heap.size w' w7 → C w7) := Lib.hid fun w' hc w7 b => by
        obtain ⟨e1, e2⟩ := (HC.out w').1 hc
        exact (HC.out _).2 ⟨e1.trans (b.mono e1.size), e2.trans (b.mono e2.size)⟩
      have hix : (k : Int) < (ps.length : Int) := by omega
      clear hC k3 j3 q1 q2 q3
      go_wp2_with fail
      refine region_class C (by kernel_rfl) (by kernel_rfl) hC0 ?_
      clear hC0
      repeat
        first
          | go_big_quiet_skip
          | (go_big_quiet_want; go_big_quiet_op; go_big_quiet_on)
          | (refine BigFrame.wpQuiet_want rfl (fun K hK => ?_)
             apply Exists.intro
             refine ⟨fun w' hc => ?_, hK _ ?_⟩
             · obtain ⟨e1, e2⟩ := (HC.out w').1 hc
               have d1 := k1
               have d2 := k2
               have d3 := j1
               have d4 := j2
               rw [← e2.cell (lt_of_cell k1)] at d1
               rw [← e2.cell (lt_of_cell k2)] at d2
               rw [← e2.cell (lt_of_cell j1)] at d3
               rw [← e2.cell (lt_of_cell j2)] at d4
               unfold Oper.quietAt
               go_simp
               first
                 | done
                 | rfl
                 | ((with_reducible refine (CS.out _ _ _ (HK3.out.below e2) (HJ3.out.below e2)).mono ?_); rintro e w7 ⟨rfl, b7⟩; exact ⟨rfl, HK.out w' hc w7 b7⟩)
             clear hK K
             simp only [Act.put, List.setIfInBounds_toArray, List.set_cons_zero, List.set_cons_succ])
      refine wpQuiet_nil ?_
      intro w9 hc
      obtain ⟨b9, _⟩ := (HC.out w9).1 hc
      clear hc HC HK CS k1 k2 j1 j2 HK3 HJ3
      cases bb
      · have HF := Lib.hid (HFF.out (HN.out (fun h => by rw [h] at hbb; simp at hbb)))
        clear hbb HT HN HS
        go_wp2
        go_ret
        exact ⟨ret_bool HF.out, b9⟩
      · have HM := Lib.hid (HT.out (by
          have := of_decide_eq_true hbb
          exact Prod.ext this.2 this.1))
        clear hbb HT HN HS
        go_wp2
        go_roundw
        case rel => exact ⟨k + 1, by omega, by go_num, b9, HM⟩
        case measure => simp [intOf]; omega
    · obtain rfl : k = ps.length := by omega
      have HF := Lib.hid (HFT.out (take_eq_len HNE.out HS.out))
      clear HS
      go_wp2
      go_ret
      exact ⟨ret_bool HF.out, hb⟩

end Go.Proofs.YtmlanlagnhnppaaDoor
