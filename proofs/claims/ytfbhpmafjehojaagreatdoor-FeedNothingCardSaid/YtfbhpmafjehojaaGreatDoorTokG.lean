/- The program's reader: what it holds, has told and failed; what stays so. -/
import Derived.Test.YtfbhpmafjehojaaGreatDoorToD
namespace Go.Proofs.YtfbhpmafjehojaaGreatDoor
open Go.RowKit

def strV (l : List UInt8) : Value := .string ⟨l.toArray⟩
theorem strV_of {T : ByteArray} {l : List UInt8} (h : T.data.toList = l) : strV l = .string T := by
  unfold strV
  rw [← text_is h]
def flC (F : List Fl) : List Value := F.flatMap fun f => [.int .i64 f.1, .int .i64 (f.2 : Int)]
theorem flC_snoc (F : List Fl) (f : Fl) : flC (F ++ [f]) = flC F ++ [.int .i64 f.1, .int .i64 (f.2 : Int)] := by simp [flC]
theorem flC_length (F : List Fl) : (flC F).length = F.length * 2 := by
  induction F with
  | nil => rfl
  | cons a r ih => simp [flC] at ih ⊢; omega
def atC (A : List (List UInt8 × List UInt8)) : List Value := A.flatMap fun y => [strV y.1, strV y.2]
theorem atC_snoc (A : List (List UInt8 × List UInt8)) (y : List UInt8 × List UInt8) : atC (A ++ [y]) = atC A ++ [strV y.1, strV y.2] := by simp [atC]
theorem TinfoT : (Tryz.prog.info? 47).map (fun i => (i.zero, i.size, i.bytes)) = some (some (.agg #[.int .i64 0, .string ⟨#[]⟩, .string ⟨#[]⟩, .slice none 0 0, .bool false]), 5, 72) := by kernel_rfl
theorem TinfoA : (Tryz.prog.info? 105).map (fun i => (i.zero, i.size, i.bytes)) = some (some (.agg #[.string ⟨#[]⟩, .string ⟨#[]⟩]), 2, 32) := by kernel_rfl

/-! ### attributes, tokens -/
/-- Attributes in a row of one's own, from B on and below m. -/
def AttrsBy (w : World) (B m : Nat) (av : Value) (A : List (List UInt8 × List UInt8)) : Prop := w.ownsRow B 105 2 av A.length (atC A) ∧ ∀ k, av.ownBlock = some k → k < m
theorem AttrsBy.nil (w : World) (B m : Nat) : AttrsBy w B m (.slice none 0 0) [] := ⟨World.ownsRow_nil _ _ _ _, fun k h => by cases h⟩
theorem AttrsBy.up {w : World} {B m m' : Nat} {av : Value} {A : List (List UInt8 × List UInt8)} (h : AttrsBy w B m av A) (hm : m ≤ m') : AttrsBy w B m' av A := ⟨h.1, fun k hk => Nat.lt_of_lt_of_le (h.2 k hk) hm⟩
theorem AttrsBy.kp {P : Nat → TypeId → Prop} {w w' : World} {B m : Nat} {av : Value} {A : List (List UInt8 × List UInt8)} (h : AttrsBy w B m av A) (k : Kp P w w') (hp : ∀ j, B ≤ j → j < m → ¬ P j 105) : AttrsBy w' B m av A := ⟨k.row h.1 fun j hj hb => hp j hb (h.2 j hj), h.2⟩
theorem AttrsBy.form {w : World} {B m : Nat} {av : Value} {A : List (List UInt8 × List UInt8)} (h : AttrsBy w B m av A) : ∃ a c, av = .slice a A.length c := by
  rcases rowForms h.1 with ⟨e1, e2⟩ | ⟨g, c, e1⟩
  · exact ⟨none, 0, by rw [e1, e2]⟩
  · exact ⟨_, _, e1⟩
/-- A token's cells. -/
def tkC (t : Tk) (av : Value) : List Value := [.int .i64 t.k, strV t.n, strV t.d, av, .bool t.c]
def TRow (w : World) (B m : Nat) : List Tk → List Value → Prop
  | [], cs => cs = []
  | t :: T, cs => ∃ av r, cs = tkC t av ++ r ∧ AttrsBy w B m av t.a ∧ TRow w B m T r
theorem TRow.up {w : World} {B m m' : Nat} (hm : m ≤ m') : ∀ {T : List Tk} {cs : List Value}, TRow w B m T cs → TRow w B m' T cs
  | [], _, h => h
  | _ :: _, _, ⟨av, r, h1, h2, h3⟩ => ⟨av, r, h1, h2.up hm, h3.up hm⟩
theorem TRow.kp {P : Nat → TypeId → Prop} {w w' : World} {B m : Nat} (k : Kp P w w') (hp : ∀ j, B ≤ j → j < m → ¬ P j 105) : ∀ {T : List Tk} {cs : List Value}, TRow w B m T cs → TRow w' B m T cs
  | [], _, h => h
  | _ :: _, _, ⟨av, r, h1, h2, h3⟩ => ⟨av, r, h1, h2.kp k hp, h3.kp k hp⟩
theorem TRow.snoc {w : World} {B m : Nat} {t : Tk} {av : Value} (ha : AttrsBy w B m av t.a) : ∀ {T : List Tk} {cs : List Value}, TRow w B m T cs → TRow w B m (T ++ [t]) (cs ++ tkC t av)
  | [], cs, h => ⟨av, [], by cases h; simp, ha, rfl⟩
  | _ :: _, _, ⟨bv, r, h1, h2, h3⟩ => ⟨bv, r ++ tkC t av, by rw [h1, List.append_assoc], h2, TRow.snoc ha h3⟩
/-- Tokens in a row of one's own; all of it lies from B on and below m. -/
def OwnT (w : World) (B m : Nat) (tv : Value) (T : List Tk) : Prop := ∃ cs, w.ownsRow B 47 5 tv T.length cs ∧ (∀ k, tv.ownBlock = some k → k < m) ∧ TRow w B m T cs
theorem OwnT.nil (w : World) (B m : Nat) : OwnT w B m (.slice none 0 0) [] := ⟨[], World.ownsRow_nil _ _ _ _, fun k h => (by cases h), rfl⟩
theorem OwnT.up {w : World} {B m m' : Nat} {tv : Value} {T : List Tk} (h : OwnT w B m tv T) (hm : m ≤ m') : OwnT w B m' tv T := by
  obtain ⟨cs, h1, h2, h3⟩ := h
  exact ⟨cs, h1, fun k hk => Nat.lt_of_lt_of_le (h2 k hk) hm, h3.up hm⟩
theorem OwnT.kp {P : Nat → TypeId → Prop} {w w' : World} {B m : Nat} {tv : Value} {T : List Tk} (h : OwnT w B m tv T) (k : Kp P w w') (hp : ∀ j, B ≤ j → j < m → ¬ P j 105) (ht : ∀ j, tv.ownBlock = some j → B ≤ j → ¬ P j 47) : OwnT w' B m tv T := by
  obtain ⟨cs, h1, h2, h3⟩ := h
  exact ⟨cs, k.row h1 ht, h2, h3.kp k hp⟩
theorem OwnT.form {w : World} {B m : Nat} {tv : Value} {T : List Tk} (h : OwnT w B m tv T) : ∃ a c, tv = .slice a T.length c := by
  obtain ⟨cs, h1, _⟩ := h
  rcases rowForms h1 with ⟨e1, e2⟩ | ⟨g, c, e1⟩
  · exact ⟨none, 0, by rw [e1, e2]⟩
  · exact ⟨_, _, e1⟩
/-- A token more, as an append gives it. -/
theorem OwnT.grow {w w' : World} {B m : Nat} {tv tv' : Value} {T : List Tk} {cs : List Value} {t : Tk} {av : Value} (h3 : TRow w B m T cs) (ha : AttrsBy w B m av t.a) (hm : m ≤ w.heap.size) (hrow : w.ownsRow B 47 5 tv T.length cs) (hown : w'.ownsRow B 47 5 tv' (T.length + 1) (cs ++ tkC t av)) (hg : w.grownBy w' tv.ownBlock) : OwnT w' B w'.heap.size tv' (T ++ [t]) := by
  have k : Kp (fun j _ => tv.ownBlock = some j) w w' := Kp.of_grown hg (fun k c t fr hk _ => hk) fun k hk => by
    obtain ⟨cur, h1, _⟩ := row_block hrow hk
    exact ⟨_, _, _, h1⟩
  refine ⟨cs ++ tkC t av, by rw [List.length_append]; exact hown, fun j hj => ?_, ?_⟩
  · obtain ⟨_, h1, _, h2⟩ := row_block hown hj
    exact h2
  · have hs := h3.snoc ha
    -- the blocks of attributes are of another type than the row that grew
    have gen : ∀ {T : List Tk} {cs : List Value}, TRow w B m T cs → TRow w' B w'.heap.size T cs := by
      intro T
      induction T with
      | nil => intro cs h; exact h
      | cons u T ih =>
        rintro cs ⟨bv, r, e1, e2, e3⟩
        refine ⟨bv, r, e1, ⟨k.row e2.1 fun j hj _ e => ?_, fun j hj => ?_⟩, ih e3⟩
        · exact rows_ne hrow e2.1 (by decide) e hj
        · exact Nat.lt_of_lt_of_le (e2.2 j hj) (Nat.le_trans hm hg.size)
    exact gen hs

/-! ### what lies below and is read -/
structure LowB (B : Nat) (w : World) : Prop where
  low : Low w
  l0 : 3 < B
  l1 : 2 < B
  l2 : 4 < B
theorem LowB.on {B : Nat} {w w' : World} (h : LowB B w) (hb : Below B w w') : LowB B w' := by
  refine ⟨⟨?_, ?_, ?_⟩, h.l0, h.l1, h.l2⟩
  · obtain ⟨m, hm⟩ := h.low.m
    exact ⟨m, by rw [hb.cell h.l1]; exact hm⟩
  · exact fun j hj => by rw [hb.cell h.l0]; exact h.low.s j hj
  · obtain ⟨v, h1, h2⟩ := h.low.e
    exact ⟨v, by rw [hb.cell h.l2]; exact h1, h2⟩
theorem Low.lowB {w : World} (h : Low w) : LowB w.heap.size w := by
  refine ⟨h, ?_, ?_, ?_⟩
  · exact lt_of_cell (h.s 0 (by decide))
  · obtain ⟨m, hm⟩ := h.m
    exact lt_of_cell hm
  · obtain ⟨v, h1, _⟩ := h.e
    exact lt_of_cell h1

/-! ### the reader -/
structure RV (w : World) (B m R : Nat) (s : ByteArray) (n : Nat) (H : List UInt8) (T : List Tk) (F : List Fl) (v0 : Value) (F0 : List Fl) (p bv tv fv : Value) : Prop where
  x : RX w R s n p bv tv fv
  hp : p = .pointer none ∨ p = .pointer (some ⟨R, 2, none⟩)
  hb : w.ownsRow B 5 1 bv H.length (Lib.byteCells H)
  hn : H = [] → bv = .slice none 0 0
  ht : OwnT w B m tv T
  hf : w.ownsRow B 50 2 fv F.length (flC F)
  h0 : w.ownsRow B 50 2 v0 F0.length (flC F0)
  h1 : v0.ownBlock = fv.ownBlock → F0.length ≤ F.length
  lo : B ≤ R
  hi : R < m
  mw : m ≤ w.heap.size
  low : LowB B w
def RS (w : World) (B m R : Nat) (s : ByteArray) (n : Nat) (H : List UInt8) (T : List Tk) (F : List Fl) (v0 : Value) (F0 : List Fl) : Prop := ∃ p bv tv fv, RV w B m R s n H T F v0 F0 p bv tv fv
section
variable {w w' : World} {B m R : Nat} {s : ByteArray} {n : Nat} {H : List UInt8} {T : List Tk} {F : List Fl} {v0 : Value} {F0 : List Fl} {p bv tv fv : Value}
theorem RV.bw (h : RV w B m R s n H T F v0 F0 p bv tv fv) : B ≤ w.heap.size := by have := h.lo; have := h.hi; have := h.mw; omega
/-- What leaves all blocks but R's own cells (of which the place alone turns). -/
theorem RV.moved (h : RV w B m R s n H T F v0 F0 p bv tv fv) {n' : Nat} (x : RX w' R s n' p bv tv fv) (k : Kp (onR R) w w') : RV w' B m R s n' H T F v0 F0 p bv tv fv := by
  have ne : ∀ {base size n : Nat} {e : TypeId} {v : Value} {xs : List Value}, w.ownsRow base e size v n xs → 67 ≠ e → ∀ j, v.ownBlock = some j → ¬ onR R j e := fun r hne j hj e => row_ne r h.x hne (by rw [hj]; exact congrArg some e)
  obtain ⟨cs, t1, t2, t3⟩ := h.ht
  have gen : ∀ {T : List Tk} {cs : List Value}, TRow w B m T cs → TRow w' B m T cs := by
    intro T
    induction T with
    | nil => intro cs h; exact h
    | cons u T ih =>
      rintro cs ⟨bv, r, e1, e2, e3⟩
      exact ⟨bv, r, e1, ⟨k.row e2.1 fun j hj _ => ne e2.1 (by decide) j hj, e2.2⟩, ih e3⟩
  exact ⟨x, h.hp, k.row h.hb fun j hj _ => ne h.hb (by decide) j hj, h.hn, ⟨cs, k.row t1 fun j hj _ => ne t1 (by decide) j hj, t2, gen t3⟩, k.row h.hf fun j hj _ => ne h.hf (by decide) j hj, k.row h.h0 fun j hj _ => ne h.h0 (by decide) j hj, h.h1, h.lo, h.hi, Nat.le_trans h.mw k.size, h.low.on (k.below (fun j t e => by rw [show j = R from e]; exact h.lo) h.bw)⟩
theorem RV.below (h : RV w B m R s n H T F v0 F0 p bv tv fv) (b : Below w.heap.size w w') : RV w' B m R s n H T F v0 F0 p bv tv fv := h.moved (h.x.below b) (Kp.of_below b)
theorem RV.up (h : RV w B m R s n H T F v0 F0 p bv tv fv) {m' : Nat} (hm : m ≤ m') (hw : m' ≤ w.heap.size) : RV w B m' R s n H T F v0 F0 p bv tv fv := ⟨h.x, h.hp, h.hb, h.hn, h.ht.up hm, h.hf, h.h0, h.h1, h.lo, Nat.lt_of_lt_of_le h.hi hm, hw, h.low⟩
theorem RS.below (h : RS w B m R s n H T F v0 F0) (b : Below w.heap.size w w') : RS w' B m R s n H T F v0 F0 := by
  obtain ⟨p, bv, tv, fv, h⟩ := h
  exact ⟨p, bv, tv, fv, h.below b⟩
theorem RS.up (h : RS w B m R s n H T F v0 F0) {m' : Nat} (hm : m ≤ m') (hw : m' ≤ w.heap.size) : RS w B m' R s n H T F v0 F0 := by
  obtain ⟨p, bv, tv, fv, h⟩ := h
  exact ⟨p, bv, tv, fv, h.up hm hw⟩
theorem RS.low (h : RS w B m R s n H T F v0 F0) : LowB B w := by obtain ⟨p, bv, tv, fv, h⟩ := h; exact h.low
theorem RS.bw (h : RS w B m R s n H T F v0 F0) : B ≤ w.heap.size := by obtain ⟨p, bv, tv, fv, h⟩ := h; exact h.bw
end
/-- Rows of Fails and R's own cells. -/
def frD (B R : Nat) (k : Nat) (t : TypeId) : Prop := k = R ∨ (B ≤ k ∧ t = 50)
theorem onR_frD {B R : Nat} {w w' : World} (k : Kp (onR R) w w') : Kp (frD B R) w w' := k.mono fun _ _ _ _ _ e => .inl e

set_option maxRecDepth 100000 in
set_option maxHeartbeats 2000000 in
theorem fail_rv (code : Int) (place : Nat) (w : World) (B m R : Nat) (s : ByteArray) (n : Nat) (H : List UInt8) (T : List Tk) (F : List Fl) (v0 : Value) (F0 : List Fl) (p bv tv fv : Value) (h : RV w B m R s n H T F v0 F0 p bv tv fv) (hl : F.length ≤ 1000000) : Calls Tryz.prog 40 #[.pointer (some ⟨R, 0, none⟩), .int .i64 code, .int .i64 (place : Int)] w fun e w' => e = .returned (.tuple #[]) ∧ ∃ fv', RV w' B m R s n H T (F ++ [(code, place)]) v0 F0 p bv tv fv' ∧ (fv'.ownBlock = fv.ownBlock ∨ ∃ k, fv'.ownBlock = some k ∧ w.heap.size ≤ k) ∧ Kp (fun k _ => k = R ∨ fv.ownBlock = some k) w w' := by
  obtain ⟨i1, hi1, hy0, hy1, hy2⟩ := info_parts Tinfo34
  have hf := h.hf
  have d5 := h.x.c5
  have hne := row_ne hf h.x (by decide)
  have hbw := h.bw
  have hx := h.x
  have HR := Lib.hid h
  clear h
  go_enter Tryz.func40, Tryz.ntmps40
  go_wp2_with (
    at_builtin
    go_loud (
      refine wpList_append_elder _ rfl _ _ 24 rfl B 50 i1 (.agg #[.int .i64 0, .int .i64 0]) 2 16 Tryz.underlying24 hi1 hy0 hy1 hy2 rfl (by decide) _ _ _ rfl (hf.alloc _) ⟨w.heap.size, 0, none⟩ 1 1 [.int .i64 code, .int .i64 (place : Int)] rfl rfl (cells_new w [.int .i64 code, .int .i64 (place : Int)] 50) (fun x hx => by simp at hx; rcases hx with rfl | rfl <;> rfl) (by unfold maxLen; omega) (by omega) (by simp; omega) ?_
      intro v5 w5 hown5 hold5 hgrow5 hat5
      have x5 : RX w5 R s n p bv tv fv := by
        have h1 : RX (w.alloc (.cells #[.int .i64 code, .int .i64 (place : Int)] 50)) R s n p bv tv fv := hx.below ((Below.refl _ _).alloc (Nat.le_refl _) _)
        unfold RX at h1 ⊢
        rw [hgrow5.block R (lt_of_block h1) (fun e => hne e.symm)]
        exact h1
      have HX := Lib.hid (x5.set5 v5)
      have HK5 : Hid (Kp (fun k t => fv.ownBlock = some k) w w5) := Lib.hid ((Kp.of_below ((Below.refl _ _).alloc (Nat.le_refl _) _)).trans (Kp.of_grown hgrow5 (fun k c t fr hk _ => hk) fun k hk => by
        obtain ⟨cur, h1, _⟩ := row_block (hf.alloc (.cells #[.int .i64 code, .int .i64 (place : Int)] 50)) hk
        exact ⟨_, _, _, h1⟩))
      have HK6 : Hid (Kp (onR R) w5 (w5.setCell ⟨R, 5, none⟩ v5)) := Lib.hid (x5.kset 5 v5)
      have HO : Hid (w5.ownsRow B 50 2 v5 (F ++ [(code, place)]).length (flC (F ++ [(code, place)]))) := Lib.hid (by rw [flC_snoc, List.length_append]; exact hown5)
      have HE : Hid (w5.ownsRow B 50 2 fv F.length (flC F)) := Lib.hid hold5
      have HAT : Hid (v5.ownBlock = fv.ownBlock ∨ v5.ownBlock = some (w.heap.size + 1)) := Lib.hid (by
          rcases hat5 with e | e
          · exact .inl e
          · exact .inr (e.trans (by simp)))
      have d5' := x5.c5
      have f5' := x5.free 5
      have HF5 : Hid (∃ a k, v5 = .slice a (F.length + 1) k) := Lib.hid (by
        rcases rowForms hown5 with ⟨e1, e2⟩ | ⟨g, k, e1⟩
        · exact ⟨none, 0, by rw [e1, e2]⟩
        · exact ⟨_, _, e1⟩)
      clear hown5 hold5 hgrow5 hat5 x5
      obtain ⟨va, vk, rfl⟩ := HF5.out
      clear HF5))
  go_end0
  have h := HR.out
  have hx5 := HX.out
  have k5 := HK5.out
  have k6 := HK6.out
  -- rows of other types, and the elder slice
  have hf5 := HO.out
  have nef : ∀ {base size n : Nat} {e : TypeId} {v : Value} {xs : List Value}, w.ownsRow base e size v n xs → 50 ≠ e → w5.ownsRow base e size v n xs := fun r hne' => k5.row r fun j hj _ e => rows_ne hf r hne' e hj
  have neR : ∀ {base size n : Nat} {e : TypeId} {v : Value} {xs : List Value}, w5.ownsRow base e size v n xs → 67 ≠ e → (w5.setCell ⟨R, 5, none⟩ (.slice va (F.length + 1) vk)).ownsRow base e size v n xs := fun r hne' => k6.row r fun j hj _ e => row_ne r (show w5.heap[R]? = some (.cells _ _ _) from (by
    have := hx5
    have h9 := HR.out.x
    have hn : fv.ownBlock ≠ some R := hne
    exact k5.cells h9 (fun e => hn e))) hne' (by rw [hj]; exact congrArg some e)
  obtain ⟨cs, t1, t2, t3⟩ := h.ht
  have gen : ∀ {T : List Tk} {cs : List Value}, TRow w B m T cs → TRow (w5.setCell ⟨R, 5, none⟩ (.slice va (F.length + 1) vk)) B m T cs := by
    intro T
    induction T with
    | nil => intro cs h; exact h
    | cons u T ih =>
      rintro cs ⟨bv, r, e1, e2, e3⟩
      exact ⟨bv, r, e1, ⟨neR (nef e2.1 (by decide)) (by decide), e2.2⟩, ih e3⟩
  have h00 : w5.ownsRow B 50 2 v0 F0.length (flC F0) := by
    by_cases hs : v0.ownBlock = fv.ownBlock
    · -- the elder slice is a beginning of the row
      have hlen := h.h1 hs
      have e := HE.out
      have h0 := h.h0
      refine ⟨h0.1, ?_⟩
      rcases h0.2 with h2 | ⟨g, cap, cur, a1, b1, c1, d1, d2, d3, d4⟩
      · exact .inl h2
      · have hg : fv.ownBlock = some g := by rw [← hs, a1]; rfl
        rcases e.2 with ⟨e1, _⟩ | ⟨g', cap', cur', a1', b1', c1', d1', d2', d3', d4'⟩
        · rw [e1] at hg; cases hg
        · have hgg : g' = g := by rw [a1'] at hg; simpa [Value.ownBlock] using hg
          subst hgg
          rcases hf.2 with ⟨e1, _⟩ | ⟨g2, cap2, cur2, a2, b2, c2, q1, q2, q3, q4⟩
          · rw [e1] at hg; cases hg
          · have hv : cap2 = cap' ∧ g2 = g' := by
              rw [a1'] at a2
              injection a2 with a2 _ a3
              injection a2 with a2
              injection a2 with a2
              exact ⟨a3.symm, a2.symm⟩
            obtain ⟨rfl, rfl⟩ := hv
            rw [c1] at c2
            cases c2
            have hcap : cap = cap2 := by omega
            subst hcap
            refine .inr ⟨g2, cap, cur', a1, b1, c1', d1, d2, d3', ?_⟩
            have hmin : min (F0.length * 2) (F.length * 2) = F0.length * 2 := Nat.min_eq_left (by omega)
            have hq : cur'.toList.take (F0.length * 2) = cur.toList.take (F0.length * 2) := by
              rw [← hmin, ← List.take_take, ← List.take_take, d4', q4]
            rw [hq]
            exact d4
    · exact k5.row h.h0 fun j hj _ e => hs (by rw [hj, e])
  have kk : Kp (fun k _ => k = R ∨ fv.ownBlock = some k) w (w5.setCell ⟨R, 5, none⟩ (.slice va (F.length + 1) vk)) := (k5.mono fun k c t fr hk e => Or.inr e).trans (k6.mono fun k c t fr _ e => Or.inl e)
  refine ⟨rfl, .slice va (F.length + 1) vk, ?_, ?_, kk⟩
  · exact ⟨hx5, h.hp, neR (nef h.hb (by decide)) (by decide), h.hn, ⟨cs, neR (nef t1 (by decide)) (by decide), t2, gen t3⟩, neR hf5 (by decide), neR h00 (by decide), fun e => by
      rcases HAT.out with e2 | e2
      · have := h.h1 (e.trans e2)
        rw [List.length_append]; omega
      · rw [e2] at e
        obtain ⟨_, g1, _, g2⟩ := row_block h.h0 e
        omega, h.lo, h.hi, Nat.le_trans h.mw kk.size, h.low.on (kk.below (fun k t e => by
      rcases e with rfl | e
      · exact h.lo
      · exact (hf.lt k e).1) hbw)⟩
  · rcases HAT.out with e | e
    · exact .inl e
    · exact .inr ⟨_, e, Nat.le_succ _⟩
theorem RV.frD {w w' : World} {B m R : Nat} {s : ByteArray} {n : Nat} {H : List UInt8} {T : List Tk} {F : List Fl} {v0 : Value} {F0 : List Fl} {p bv tv fv : Value} (h : RV w B m R s n H T F v0 F0 p bv tv fv) (k : Kp (fun k _ => k = R ∨ fv.ownBlock = some k) w w') : Kp (frD B R) w w' := k.mono fun k c t fr hk e => by
  rcases e with e | e
  · exact .inl e
  · obtain ⟨cur, g1, g2, _⟩ := row_block h.hf e
    rw [hk] at g1
    cases g1
    exact .inr ⟨g2, rfl⟩
theorem fail_hid (code : Int) (place : Nat) : Hid (∀ W B m R s n H T F v0 F0, RS W B m R s n H T F v0 F0 → F.length ≤ 1000000 → Calls Tryz.prog 40 #[.pointer (some ⟨R, 0, none⟩), .int .i64 code, .int .i64 (place : Int)] W fun e w' => e = .returned (.tuple #[]) ∧ RS w' B m R s n H T (F ++ [(code, place)]) v0 F0 ∧ Kp (frD B R) W w') := Lib.hid fun w B m R s n H T F v0 F0 h hl => by
  obtain ⟨p, bv, tv, fv, h⟩ := h
  refine (fail_rv code place w B m R s n H T F v0 F0 p bv tv fv h hl).mono ?_
  rintro e w' ⟨rfl, fv', h', -, k⟩
  exact ⟨rfl, ⟨p, bv, tv, fv', h'⟩, h.frD k⟩

end Go.Proofs.YtfbhpmafjehojaaGreatDoor
