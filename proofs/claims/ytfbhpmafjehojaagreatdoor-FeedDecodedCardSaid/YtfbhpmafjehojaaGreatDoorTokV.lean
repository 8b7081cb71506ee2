/- The document's reader: text that joins the token ahead of it. -/
import Derived.Test.YtfbhpmafjehojaaGreatDoorTokU
namespace Go.Proofs.YtfbhpmafjehojaaGreatDoor
open Go.RowKit

theorem tk_cells {c1 : List Value} {L : Nat} (h : c1.length = L * 5) (u : Tk) (av : Value) : (c1 ++ tkC u av)[L * 5]? = some (.int .i64 u.k) ∧ (c1 ++ tkC u av)[L * 5 + 1]? = some (strV u.n) ∧ (c1 ++ tkC u av)[L * 5 + 2]? = some (strV u.d) ∧ (c1 ++ tkC u av)[L * 5 + 3]? = some av ∧ (c1 ++ tkC u av)[L * 5 + 4]? = some (.bool u.c) := by
  refine ⟨?_, ?_, ?_, ?_, ?_⟩ <;> rw [List.getElem?_append_right (by omega), h]
  · rw [Nat.sub_self]; rfl
  · rw [Nat.add_sub_cancel_left]; rfl
  · rw [Nat.add_sub_cancel_left]; rfl
  · rw [Nat.add_sub_cancel_left]; rfl
  · rw [Nat.add_sub_cancel_left]; rfl
theorem tk_set {c1 : List Value} {L : Nat} (h : c1.length = L * 5) (u : Tk) (av : Value) (d : List UInt8) : (c1 ++ tkC u av).set (L * 5 + 2) (strV d) = c1 ++ tkC { u with d := d } av := by
  rw [List.set_append_right _ _ (by omega), h, Nat.add_sub_cancel_left]
  rfl
/-- Tokens of which the last one's text has turned. -/
theorem OwnT.join {w : World} {B m : Nat} {g c : Nat} {K : List Tk} {u : Tk} {c1 : List Value} {av : Value} (hrow : w.ownsRow B 47 5 (.slice (some ⟨g, 0, none⟩) (K.length + 1) c) (K.length + 1) (c1 ++ tkC u av)) (hlen : c1.length = K.length * 5) (hm : ∀ k, (Value.slice (some ⟨g, 0, none⟩) (K.length + 1) c).ownBlock = some k → k < m) (h1 : TRow w B m K c1) (h2 : AttrsBy w B m av u.a) (d : List UInt8) : OwnT (w.setCell ⟨g, K.length * 5 + 2, none⟩ (strV d)) B m (.slice (some ⟨g, 0, none⟩) (K.length + 1) c) (K ++ [{ u with d := d }]) := by
  obtain ⟨cur, hg, _⟩ := row_open hrow
  have k : Kp (fun j t => j = g ∧ t = 47) w (w.setCell ⟨g, K.length * 5 + 2, none⟩ (strV d)) := Kp.of_set hg _ ⟨rfl, rfl⟩
  refine ⟨c1 ++ tkC { u with d := d } av, ?_, hm, ?_⟩
  · rw [List.length_append, ← tk_set hlen u av d]
    exact ownsRow_set hrow _ _
  · exact TRow.snoc (t := { u with d := d }) (h2.kp k fun _ _ _ e => absurd e.2 (by decide)) (h1.kp k fun _ _ _ e => absurd e.2 (by decide))

set_option maxRecDepth 100000 in
set_option maxHeartbeats 8000000 in
theorem textQ_join (S : ByteArray) (hS : S.data.toList ≠ []) (K : List Tk) (u : Tk) (hu : u.k = 1) (hd : u.d.length + S.size ≤ 1000000000) (hl : K.length ≤ 900000) : Hid (∀ W B m Q s n F x, QS W B m Q s n (K ++ [u]) F x → Calls Tryz.prog 54 #[.pointer (some ⟨Q, 0, none⟩), .string S] W fun e w' => e = .returned (.tuple #[]) ∧ QS w' B w'.heap.size Q s n (K ++ [{ u with d := u.d ++ S.data.toList }]) F x ∧ Below B W w') := Lib.hid fun w B m Q s n F x h => by
  obtain ⟨tv, fv, h⟩ := h
  obtain ⟨U, hU⟩ := text_of u.d
  obtain ⟨V, hV⟩ := text_of (u.d ++ S.data.toList)
  have hUs : U.size = u.d.length := by rw [← lsize, hU]
  have a1 := add_to U S V (by rw [hV, hU]) (by omega)
  have g0 : (S.toList == []) = false := by
    rw [text_lit]
    exact decide_eq_false hS
  have g1 : S.toList.isEmpty = false := by
    rw [text_empty]
    cases hq : S.data.toList with
    | nil => exact absurd hq hS
    | cons => rfl
  obtain ⟨cs, t1, t2, t3⟩ := h.ht
  obtain ⟨c1, av, rfl, hlen, q1, q2⟩ := t3.last
  obtain ⟨g, c, rfl⟩ : ∃ g c, tv = .slice (some ⟨g, 0, none⟩) (K.length + 1) c := by
    rcases rowForms t1 with ⟨e1, e2⟩ | ⟨g, cc, e1⟩
    · rw [List.length_append] at e2; simp at e2
    · rw [List.length_append] at e1; exact ⟨g, cc, e1⟩
  rw [List.length_append] at t1
  have t1 : w.ownsRow B 47 5 (.slice (some ⟨g, 0, none⟩) (K.length + 1) c) (K.length + 1) (c1 ++ tkC u av) := t1
  obtain ⟨e0, -, e2, -, -⟩ := tk_cells hlen u av
  have b0 : w.cell? ⟨g, K.length * 5, none⟩ = some (.int .i64 1) := by rw [t1.cellAt (K.length * 5) (by omega), e0, hu]
  have b2 : w.cell? ⟨g, K.length * 5 + 2, none⟩ = some (.string U) := by rw [t1.cellAt (K.length * 5 + 2) (by omega), e2, strV_of hU]
  obtain ⟨cur, hg, hBg⟩ := row_open t1
  have b3 := open_of hg (K.length * 5 + 2)
  have d2 := h.q.c2
  have hne : g ≠ Q := fun e => row_ne t1 h.q (by decide) (by rw [← e]; rfl)
  have HN : Hid (QV (w.setCell ⟨g, K.length * 5 + 2, none⟩ (.string V)) B (w.setCell ⟨g, K.length * 5 + 2, none⟩ (.string V)).heap.size Q s n (K ++ [{ u with d := u.d ++ S.data.toList }]) F x (.slice (some ⟨g, 0, none⟩) (K.length + 1) c) fv ∧ Below B w (w.setCell ⟨g, K.length * 5 + 2, none⟩ (.string V))) := Lib.hid (by
    have hj := OwnT.join t1 hlen t2 q1 q2 (u.d ++ S.data.toList)
    rw [strV_of hV] at hj
    have k : Kp (frQ Q (.slice (some ⟨g, 0, none⟩) (K.length + 1) c)) w (w.setCell ⟨g, K.length * 5 + 2, none⟩ (.string V)) := Kp.of_set hg _ (.inr rfl)
    have hsz := k.size
    have k0 : Kp (fun j _ => j = g) w (w.setCell ⟨g, K.length * 5 + 2, none⟩ (.string V)) := Kp.of_set hg _ rfl
    exact ⟨h.told k (h.q.kp k0 (fun e => hne e.symm)) (hj.up (Nat.le_trans h.mw hsz)) (Nat.le_trans h.mw hsz) (Nat.le_refl _), h.frQb k⟩)
  have z2 : (K.length : Int) ≤ 900000 := by omega
  clear h hU hV hUs hd hS t1 t2 t3 q1 q2 e0 e2 hlen hg
  obtain ⟨L, hL⟩ : ∃ L, K.length = L := ⟨_, rfl⟩
  rw [hL] at b0 b2 b3 d2 HN z2
  clear hl hL
  go_enter Tryz.func54, Tryz.ntmps54
  go_wp2
  go_region
  all_goals
    go_wp2
    (try simp only [Exit.inBlock, Exit.then])
    refine bodyPost_ret (results_none rfl _ _ _) rfl ?_
    exact ⟨rfl, HN.out.1.form.below (Below.refl _ _).drew, HN.out.2.drew⟩

/-- A token more: what an append leaves. -/
theorem QV.appended {w wa w6 : World} {B m Q : Nat} {s : ByteArray} {n : Nat} {T : List Tk} {F : List Fl} {x : ByteArray} {tv fv v6 : Value} {cs : List Value} {t : Tk} {av : Value} (h : QV w B m Q s n T F x tv fv) (b : Below w.heap.size w wa) (t1 : w.ownsRow B 47 5 tv T.length cs) (t3 : TRow w B m T cs) (ha : AttrsBy w B w.heap.size av t.a) (hown : w6.ownsRow B 47 5 v6 (T.length + 1) (cs ++ tkC t av)) (hg : wa.grownBy w6 tv.ownBlock) :
    QX w6 Q s n tv fv x ∧ QV (w6.setCell ⟨Q, 2, none⟩ v6) B (w6.setCell ⟨Q, 2, none⟩ v6).heap.size Q s n (T ++ [t]) F x v6 fv ∧ Kp (frQ Q tv) w (w6.setCell ⟨Q, 2, none⟩ v6) := by
  have hne : tv.ownBlock ≠ some Q := row_ne t1 h.q (by decide)
  have q1 := h.q.below b
  have x6 : QX w6 Q s n tv fv x := by
    unfold QX at q1 ⊢
    rw [hg.block Q (lt_of_block q1) (fun e => hne e.symm)]
    exact q1
  have k6 : Kp (frQ Q tv) w w6 := (Kp.of_below b).trans (Kp.of_grown hg (fun k c t fr hk _ => .inr hk) fun k hk => by
    obtain ⟨cur, h1, _⟩ := row_block (ownsRow_below t1 b) hk
    exact ⟨_, _, _, h1⟩)
  have k7 : Kp (frQ Q tv) w (w6.setCell ⟨Q, 2, none⟩ v6) := k6.trans ((x6.kset 2 _).mono fun k c t fr _ e => .inl e)
  have hsz : (w6.setCell ⟨Q, 2, none⟩ v6).heap.size = w6.heap.size := by simp [World.setCell]
  have hT6 : OwnT w6 B w6.heap.size v6 (T ++ [t]) := by
    have t3' : TRow wa B w.heap.size T cs := (t3.up h.mw).kp (Kp.of_below b (P := fun _ _ => False)) fun _ _ _ e => e
    exact OwnT.grow t3' (ha.below b) b.size (ownsRow_below t1 b) hown hg
  have hT7 : OwnT (w6.setCell ⟨Q, 2, none⟩ v6) B w6.heap.size v6 (T ++ [t]) := by
    obtain ⟨ds, r1, r2, r3⟩ := hT6
    have ne : ∀ {base size n : Nat} {e : TypeId} {v : Value} {xs : List Value}, w6.ownsRow base e size v n xs → 74 ≠ e → (w6.setCell ⟨Q, 2, none⟩ v6).ownsRow base e size v n xs := fun r hne => (x6.kset 2 v6).row r fun j hj _ e => row_ne r x6 hne (by rw [hj]; exact congrArg some e)
    exact ⟨ds, ne r1 (by decide), r2, r3.rows fun av A ha => ⟨ne ha.1 (by decide), ha.2⟩⟩
  refine ⟨x6, ?_, k7⟩
  have hm : m ≤ (w6.setCell ⟨Q, 2, none⟩ v6).heap.size := Nat.le_trans h.mw k7.size
  exact h.told k7 (x6.set2 v6) (hT7.up (by rw [hsz]; exact Nat.le_refl _)) hm (Nat.le_refl _)

set_option maxRecDepth 100000 in
set_option maxHeartbeats 8000000 in
theorem textQ_append (S : ByteArray) (hS : S.data.toList ≠ []) (T : List Tk) (ht : ∀ u, T.getLast? = some u → u.k ≠ 1) (hl : T.length ≤ 900000) : Hid (∀ W B m Q s n F x, QS W B m Q s n T F x → Calls Tryz.prog 54 #[.pointer (some ⟨Q, 0, none⟩), .string S] W fun e w' => e = .returned (.tuple #[]) ∧ QS w' B w'.heap.size Q s n (T ++ [textT S.data.toList]) F x ∧ Below B W w') := Lib.hid fun w B m Q s n F x h => by
  obtain ⟨tv, fv, h⟩ := h
  obtain ⟨i0, hi, hz0, hz1, hz2⟩ := info_parts TinfoT
  have g0 : (S.toList == []) = false := by
    rw [text_lit]
    exact decide_eq_false hS
  have g1 : S.toList.isEmpty = false := by
    rw [text_empty]
    cases hq : S.data.toList with
    | nil => exact absurd hq hS
    | cons => rfl
  have d2 := h.q.c2
  have hbw := h.bw
  obtain ⟨cs, t1, t2, t3⟩ := h.ht
  have HH := Lib.hid (And.intro h t3)
  have hlast : T = [] ∨ ∃ K u, T = K ++ [u] ∧ u.k ≠ 1 := by
    rcases List.eq_nil_or_concat T with e | ⟨K, u, e⟩
    · exact .inl e
    · rw [List.concat_eq_append] at e
      exact .inr ⟨K, u, e, ht u (by rw [e]; simp)⟩
  obtain ⟨a, c, rfl⟩ := h.ht.form
  rcases hlast with hT0 | ⟨K, u, hTK, hu⟩
  · have z0 : (T.length : Int) = 0 := by rw [hT0]; rfl
    clear h t2 t3 hT0 ht hS
    go_enter Tryz.func54, Tryz.ntmps54
    go_wp2_with (
      at_builtin
      go_loud (
        refine wpList_append_own_at _ rfl _ _ 23 rfl B 47 i0 (.agg #[.int .i64 0, .string ⟨#[]⟩, .string ⟨#[]⟩, .slice none 0 0, .bool false]) 5 72 Tryz.underlying23 hi hz0 hz1 hz2 rfl (by decide) _ _ _ rfl (t1.alloc _) ⟨w.heap.size, 0, none⟩ 1 1 [.int .i64 1, .string ⟨#[]⟩, .string S, .slice none 0 0, .bool false] rfl rfl (cells_new w [.int .i64 1, .string ⟨#[]⟩, .string S, .slice none 0 0, .bool false] 47) (fun x hx => by simp at hx; rcases hx with rfl | rfl | rfl | rfl | rfl <;> rfl) (by unfold maxLen; omega) (by omega) (by simp; omega) ?_
        intro v6 w6 hown6 hgrow6 _ hat6
        have hown7 : w6.ownsRow B 47 5 v6 (T.length + 1) (cs ++ tkC (textT S.data.toList) (.slice none 0 0)) := by
          have e : tkC (textT S.data.toList) (.slice none 0 0) = [.int .i64 1, .string ⟨#[]⟩, .string S, .slice none 0 0, .bool false] := by
            unfold tkC textT
            rw [strV_of (T := S) rfl]
            rfl
          rw [e]
          exact hown6
        have HA := Lib.hid (HH.out.1.appended ((Below.refl _ _).alloc (Nat.le_refl _) _) t1 HH.out.2 (AttrsBy.nil _ _ _) hown7 hgrow6)
        have d6 := HA.out.1.c2
        have f6 := HA.out.1.free 2
        have HF6 : Hid (∃ a k, v6 = .slice a (T.length + 1) k) := Lib.hid (by
          rcases rowForms hown6 with ⟨e1, e2⟩ | ⟨g, k, e1⟩
          · exact ⟨none, 0, by rw [e1, e2]⟩
          · exact ⟨_, _, e1⟩)
        clear hown6 hgrow6 hat6 hown7
        obtain ⟨va, vk, rfl⟩ := HF6.out
        clear HF6))
    go_end0
    exact ⟨rfl, HA.out.2.1.form, HH.out.1.frQb HA.out.2.2⟩
  · have hlen : T.length = K.length + 1 := by rw [hTK, List.length_append]; rfl
    have z1 : (0 : Int) < (T.length : Int) := by omega
    rw [hTK] at t3
    obtain ⟨c1, av, hcs, hlen1, q1, q2⟩ := t3.last
    obtain ⟨g, rfl⟩ : ∃ g, a = some ⟨g, 0, none⟩ := by
      rcases rowForms t1 with ⟨e1, e2⟩ | ⟨g, cc, e1⟩
      · omega
      · injection e1 with e1 _ _
        exact ⟨g, e1⟩
    have b0 : w.cell? ⟨g, K.length * 5, none⟩ = some (.int .i64 u.k) := by rw [t1.cellAt (K.length * 5) (by omega), hcs]; exact (tk_cells hlen1 u av).1
    have gk : (u.k == 1) = false := by rw [beq_eq_false_iff_ne]; exact hu
    have z2 : (K.length : Int) ≤ 900000 := by omega
    have z3 : (T.length : Int) - 1 = (K.length : Int) := by omega
    obtain ⟨uk, huk⟩ : ∃ uk, u.k = uk := ⟨_, rfl⟩
    rw [huk] at b0 gk
    obtain ⟨L, hL⟩ : ∃ L, K.length = L := ⟨_, rfl⟩
    rw [hL] at b0 z2 z3
    have z5 : L < T.length := by omega
    clear h t2 t3 ht hS hcs hlen1 q1 q2 hTK hu huk hlen hL
    go_enter Tryz.func54, Tryz.ntmps54
    go_wp2_with (
      at_builtin
      go_loud (
        refine wpList_append_own_at _ rfl _ _ 23 rfl B 47 i0 (.agg #[.int .i64 0, .string ⟨#[]⟩, .string ⟨#[]⟩, .slice none 0 0, .bool false]) 5 72 Tryz.underlying23 hi hz0 hz1 hz2 rfl (by decide) _ _ _ rfl (t1.alloc _) ⟨w.heap.size, 0, none⟩ 1 1 [.int .i64 1, .string ⟨#[]⟩, .string S, .slice none 0 0, .bool false] rfl rfl (cells_new w [.int .i64 1, .string ⟨#[]⟩, .string S, .slice none 0 0, .bool false] 47) (fun x hx => by simp at hx; rcases hx with rfl | rfl | rfl | rfl | rfl <;> rfl) (by unfold maxLen; omega) (by omega) (by simp; omega) ?_
        intro v6 w6 hown6 hgrow6 _ hat6
        have hown7 : w6.ownsRow B 47 5 v6 (T.length + 1) (cs ++ tkC (textT S.data.toList) (.slice none 0 0)) := by
          have e : tkC (textT S.data.toList) (.slice none 0 0) = [.int .i64 1, .string ⟨#[]⟩, .string S, .slice none 0 0, .bool false] := by
            unfold tkC textT
            rw [strV_of (T := S) rfl]
            rfl
          rw [e]
          exact hown6
        have HA := Lib.hid (HH.out.1.appended ((Below.refl _ _).alloc (Nat.le_refl _) _) t1 HH.out.2 (AttrsBy.nil _ _ _) hown7 hgrow6)
        have d6 := HA.out.1.c2
        have f6 := HA.out.1.free 2
        have HF6 : Hid (∃ a k, v6 = .slice a (T.length + 1) k) := Lib.hid (by
          rcases rowForms hown6 with ⟨e1, e2⟩ | ⟨g, k, e1⟩
          · exact ⟨none, 0, by rw [e1, e2]⟩
          · exact ⟨_, _, e1⟩)
        clear hown6 hgrow6 hat6 hown7
        obtain ⟨va, vk, rfl⟩ := HF6.out
        clear HF6))
    go_end0
    exact ⟨rfl, HA.out.2.1.form, HH.out.1.frQb HA.out.2.2⟩

set_option maxRecDepth 100000 in
theorem textQ_none : Hid (∀ W B m Q s n T F x, QS W B m Q s n T F x → Calls Tryz.prog 54 #[.pointer (some ⟨Q, 0, none⟩), .string ⟨#[]⟩] W fun e w' => e = .returned (.tuple #[]) ∧ w' = W) := Lib.hid fun w B m Q s n T F x h => by
  obtain ⟨tv, fv, h⟩ := h
  have d2 := h.q.c2
  obtain ⟨a, c, rfl⟩ := h.ht.form
  clear h
  go_enter Tryz.func54, Tryz.ntmps54
  go_wp2
  (try simp only [Exit.inBlock, Exit.then])
  refine bodyPost_ret (results_none rfl _ _ _) rfl ?_
  exact ⟨rfl, rfl⟩
/-- The last token's text is not too long. -/
def LastD (T : List Tk) (k : Nat) : Prop := ∀ u, T.getLast? = some u → u.d.length ≤ k
theorem textQ_hid (S : ByteArray) (T : List Tk) (hS : S.size ≤ 1000000) (hd : LastD T 1000000) (hl : T.length ≤ 900000) : Hid (∀ W B m Q s n F x, QS W B m Q s n T F x → Calls Tryz.prog 54 #[.pointer (some ⟨Q, 0, none⟩), .string S] W fun e w' => e = .returned (.tuple #[]) ∧ QS w' B w'.heap.size Q s n (pushM T (some (textT S.data.toList))) F x ∧ Below B W w') := Lib.hid fun w B m Q s n F x h => by
  by_cases h0 : S.data.toList = []
  · obtain rfl : S = ⟨#[]⟩ := text_is h0
    refine (textQ_none.out w B m Q s n T F x h).mono ?_
    rintro e w' ⟨rfl, rfl⟩
    exact ⟨rfl, by rw [show (⟨#[]⟩ : ByteArray).data.toList = [] from rfl, push_empty]; exact h.up h.mw (Nat.le_refl _), Below.refl _ _⟩
  · rcases List.eq_nil_or_concat T with e | ⟨K, u, e⟩
    · rw [push_text T (textT S.data.toList) rfl h0 fun u hu => by rw [e] at hu; cases hu]
      exact (textQ_append S h0 T (fun u hu => by rw [e] at hu; cases hu) hl).out w B m Q s n F x h
    · rw [List.concat_eq_append] at e
      by_cases hu : u.k = 1
      · subst e
        rw [push_join hu h0]
        refine (textQ_join S h0 K u hu ?_ ?_).out w B m Q s n F x h
        · have := hd u (by simp)
          omega
        · rw [List.length_append] at hl; omega
      · have hq : ∀ v, T.getLast? = some v → v.k ≠ 1 := fun v hv => by
          rw [e] at hv
          simp at hv
          rw [← hv]
          exact hu
        rw [push_text T (textT S.data.toList) rfl h0 hq]
        exact (textQ_append S h0 T hq hl).out w B m Q s n F x h

end Go.Proofs.YtfbhpmafjehojaaGreatDoor
