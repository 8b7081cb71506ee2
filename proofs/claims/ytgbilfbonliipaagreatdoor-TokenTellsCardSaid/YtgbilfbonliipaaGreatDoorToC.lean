/- The program's reader: what it holds, has told and failed; what stays so. The program's reader decodes a part of the text, its Fails at their places. The program's reader tells the text that it holds, and a token behind it. The program's reader: text, comments and doctypes, a raw name's text. -/
import Derived.Test.YtgbilfbonliipaaGreatDoorToB
namespace Go.Proofs.YtgbilfbonliipaaGreatDoor
open Go.RowKit

def strV (l : List UInt8) : Value := .string ⟨l.toArray⟩
theorem strV_of {T : ByteArray} {l : List UInt8} (h : T.data.toList = l) : strV l = .string T := by
  unfold strV
  rw [← text_is h]
def flC (F : List Fl) : List Value := F.flatMap fun f => [.int .i64 f.1, .int .i64 (f.2 : Int)]
theorem flC_snoc (F : List Fl) (f : Fl) : flC (F ++ [f]) = flC F ++ [.int .i64 f.1, .int .i64 (f.2 : Int)] := by simp [flC]
theorem flC_length (F : List Fl) : (flC F).length = F.length * 2 := by
  induction F with
  | nil => rfl
  | cons a r ih => simp [flC] at ih ⊢; omega
def atC (A : List (List UInt8 × List UInt8)) : List Value := A.flatMap fun y => [strV y.1, strV y.2]
theorem atC_snoc (A : List (List UInt8 × List UInt8)) (y : List UInt8 × List UInt8) : atC (A ++ [y]) = atC A ++ [strV y.1, strV y.2] := by simp [atC]
theorem atC_length (A : List (List UInt8 × List UInt8)) : (atC A).length = A.length * 2 := by
  induction A with
  | nil => rfl
  | cons a r ih => simp [atC] at ih ⊢; omega
theorem TinfoT : (Tryz.prog.info? 40).map (fun i => (i.zero, i.size, i.bytes)) = some (some (.agg #[.int .i64 0, .string ⟨#[]⟩, .string ⟨#[]⟩, .slice none 0 0, .bool false]), 5, 72) := by kernel_rfl
theorem TinfoA : (Tryz.prog.info? 56).map (fun i => (i.zero, i.size, i.bytes)) = some (some (.agg #[.string ⟨#[]⟩, .string ⟨#[]⟩]), 2, 32) := by kernel_rfl

/-! ### attributes, tokens -/
/-- Attributes in a row of one's own, from B on and below m. -/
def AttrsBy (w : World) (B m : Nat) (av : Value) (A : List (List UInt8 × List UInt8)) : Prop := w.ownsRow B 56 2 av A.length (atC A) ∧ ∀ k, av.ownBlock = some k → k < m
theorem AttrsBy.nil (w : World) (B m : Nat) : AttrsBy w B m (.slice none 0 0) [] := ⟨World.ownsRow_nil _ _ _ _, fun k h => by cases h⟩
theorem AttrsBy.up {w : World} {B m m' : Nat} {av : Value} {A : List (List UInt8 × List UInt8)} (h : AttrsBy w B m av A) (hm : m ≤ m') : AttrsBy w B m' av A := ⟨h.1, fun k hk => Nat.lt_of_lt_of_le (h.2 k hk) hm⟩
theorem AttrsBy.kp {P : Nat → TypeId → Prop} {w w' : World} {B m : Nat} {av : Value} {A : List (List UInt8 × List UInt8)} (h : AttrsBy w B m av A) (k : Kp P w w') (hp : ∀ j, B ≤ j → j < m → ¬ P j 56) : AttrsBy w' B m av A := ⟨k.row h.1 fun j hj hb => hp j hb (h.2 j hj), h.2⟩
theorem AttrsBy.form {w : World} {B m : Nat} {av : Value} {A : List (List UInt8 × List UInt8)} (h : AttrsBy w B m av A) : ∃ a c, av = .slice a A.length c := by
  rcases rowForms h.1 with ⟨e1, e2⟩ | ⟨g, c, e1⟩
  · exact ⟨none, 0, by rw [e1, e2]⟩
  · exact ⟨_, _, e1⟩
/-- A token's cells. -/
def tkC (t : Tk) (av : Value) : List Value := [.int .i64 t.k, strV t.n, strV t.d, av, .bool t.c]
def TRow (w : World) (B m : Nat) : List Tk → List Value → Prop
  | [], cs => cs = []
  | t :: T, cs => ∃ av r, cs = tkC t av ++ r ∧ AttrsBy w B m av t.a ∧ TRow w B m T r
theorem TRow.up {w : World} {B m m' : Nat} (hm : m ≤ m') : ∀ {T : List Tk} {cs : List Value}, TRow w B m T cs → TRow w B m' T cs
  | [], _, h => h
  | _ :: _, _, ⟨av, r, h1, h2, h3⟩ => ⟨av, r, h1, h2.up hm, h3.up hm⟩
theorem TRow.kp {P : Nat → TypeId → Prop} {w w' : World} {B m : Nat} (k : Kp P w w') (hp : ∀ j, B ≤ j → j < m → ¬ P j 56) : ∀ {T : List Tk} {cs : List Value}, TRow w B m T cs → TRow w' B m T cs
  | [], _, h => h
  | _ :: _, _, ⟨av, r, h1, h2, h3⟩ => ⟨av, r, h1, h2.kp k hp, h3.kp k hp⟩
theorem TRow.snoc {w : World} {B m : Nat} {t : Tk} {av : Value} (ha : AttrsBy w B m av t.a) : ∀ {T : List Tk} {cs : List Value}, TRow w B m T cs → TRow w B m (T ++ [t]) (cs ++ tkC t av)
  | [], cs, h => ⟨av, [], by cases h; simp, ha, rfl⟩
  | _ :: _, _, ⟨bv, r, h1, h2, h3⟩ => ⟨bv, r ++ tkC t av, by rw [h1, List.append_assoc], h2, TRow.snoc ha h3⟩
/-- Tokens in a row of one's own; all of it lies from B on and below m. -/
def OwnT (w : World) (B m : Nat) (tv : Value) (T : List Tk) : Prop := ∃ cs, w.ownsRow B 40 5 tv T.length cs ∧ (∀ k, tv.ownBlock = some k → k < m) ∧ TRow w B m T cs
theorem OwnT.nil (w : World) (B m : Nat) : OwnT w B m (.slice none 0 0) [] := ⟨[], World.ownsRow_nil _ _ _ _, fun k h => (by cases h), rfl⟩
theorem OwnT.up {w : World} {B m m' : Nat} {tv : Value} {T : List Tk} (h : OwnT w B m tv T) (hm : m ≤ m') : OwnT w B m' tv T := by
  obtain ⟨cs, h1, h2, h3⟩ := h
  exact ⟨cs, h1, fun k hk => Nat.lt_of_lt_of_le (h2 k hk) hm, h3.up hm⟩
theorem OwnT.kp {P : Nat → TypeId → Prop} {w w' : World} {B m : Nat} {tv : Value} {T : List Tk} (h : OwnT w B m tv T) (k : Kp P w w') (hp : ∀ j, B ≤ j → j < m → ¬ P j 56) (ht : ∀ j, tv.ownBlock = some j → B ≤ j → ¬ P j 40) : OwnT w' B m tv T := by
  obtain ⟨cs, h1, h2, h3⟩ := h
  exact ⟨cs, k.row h1 ht, h2, h3.kp k hp⟩
theorem OwnT.form {w : World} {B m : Nat} {tv : Value} {T : List Tk} (h : OwnT w B m tv T) : ∃ a c, tv = .slice a T.length c := by
  obtain ⟨cs, h1, _⟩ := h
  rcases rowForms h1 with ⟨e1, e2⟩ | ⟨g, c, e1⟩
  · exact ⟨none, 0, by rw [e1, e2]⟩
  · exact ⟨_, _, e1⟩
/-- A token more, as an append gives it. -/
theorem OwnT.grow {w w' : World} {B m : Nat} {tv tv' : Value} {T : List Tk} {cs : List Value} {t : Tk} {av : Value} (h3 : TRow w B m T cs) (ha : AttrsBy w B m av t.a) (hm : m ≤ w.heap.size) (hrow : w.ownsRow B 40 5 tv T.length cs) (hown : w'.ownsRow B 40 5 tv' (T.length + 1) (cs ++ tkC t av)) (hg : w.grownBy w' tv.ownBlock) : OwnT w' B w'.heap.size tv' (T ++ [t]) := by
  have k : Kp (fun j _ => tv.ownBlock = some j) w w' := Kp.of_grown hg (fun k c t fr hk _ => hk) fun k hk => by
    obtain ⟨cur, h1, _⟩ := row_block hrow hk
    exact ⟨_, _, _, h1⟩
  refine ⟨cs ++ tkC t av, by rw [List.length_append]; exact hown, fun j hj => ?_, ?_⟩
  · obtain ⟨_, h1, _, h2⟩ := row_block hown hj
    exact h2
  · have hs := h3.snoc ha
    -- the blocks of attributes are of another type than the row that grew
    have gen : ∀ {T : List Tk} {cs : List Value}, TRow w B m T cs → TRow w' B w'.heap.size T cs := by
      intro T
      induction T with
      | nil => intro cs h; exact h
      | cons u T ih =>
        rintro cs ⟨bv, r, e1, e2, e3⟩
        refine ⟨bv, r, e1, ⟨k.row e2.1 fun j hj _ e => ?_, fun j hj => ?_⟩, ih e3⟩
        · exact rows_ne hrow e2.1 (by decide) e hj
        · exact Nat.lt_of_lt_of_le (e2.2 j hj) (Nat.le_trans hm hg.size)
    exact gen hs

/-! ### what lies below and is read -/
structure LowB (B : Nat) (w : World) : Prop where
  low : Low w
  l0 : 0 < B
  l1 : 1 < B
  l2 : 2 < B
theorem LowB.on {B : Nat} {w w' : World} (h : LowB B w) (hb : Below B w w') : LowB B w' := by
  refine ⟨⟨?_, ?_, ?_⟩, h.l0, h.l1, h.l2⟩
  · obtain ⟨m, hm⟩ := h.low.m
    exact ⟨m, by rw [hb.cell h.l1]; exact hm⟩
  · exact fun j hj => by rw [hb.cell h.l0]; exact h.low.s j hj
  · obtain ⟨v, h1, h2⟩ := h.low.e
    exact ⟨v, by rw [hb.cell h.l2]; exact h1, h2⟩
theorem Low.lowB {w : World} (h : Low w) : LowB w.heap.size w := by
  refine ⟨h, ?_, ?_, ?_⟩
  · exact lt_of_cell (h.s 0 (by decide))
  · obtain ⟨m, hm⟩ := h.m
    exact lt_of_cell hm
  · obtain ⟨v, h1, _⟩ := h.e
    exact lt_of_cell h1

/-! ### the reader -/
structure RV (w : World) (B m R : Nat) (s : ByteArray) (n : Nat) (H : List UInt8) (T : List Tk) (F : List Fl) (v0 : Value) (F0 : List Fl) (p bv tv fv : Value) : Prop where
  x : RX w R s n p bv tv fv
  hp : p = .pointer none ∨ p = .pointer (some ⟨R, 2, none⟩)
  hb : w.ownsRow B 5 1 bv H.length (Lib.byteCells H)
  hn : H = [] → bv = .slice none 0 0
  ht : OwnT w B m tv T
  hf : w.ownsRow B 59 2 fv F.length (flC F)
  h0 : w.ownsRow B 59 2 v0 F0.length (flC F0)
  h1 : v0.ownBlock = fv.ownBlock → F0.length ≤ F.length
  lo : B ≤ R
  hi : R < m
  mw : m ≤ w.heap.size
  low : LowB B w
def RS (w : World) (B m R : Nat) (s : ByteArray) (n : Nat) (H : List UInt8) (T : List Tk) (F : List Fl) (v0 : Value) (F0 : List Fl) : Prop := ∃ p bv tv fv, RV w B m R s n H T F v0 F0 p bv tv fv
section
variable {w w' : World} {B m R : Nat} {s : ByteArray} {n : Nat} {H : List UInt8} {T : List Tk} {F : List Fl} {v0 : Value} {F0 : List Fl} {p bv tv fv : Value}
theorem RV.bw (h : RV w B m R s n H T F v0 F0 p bv tv fv) : B ≤ w.heap.size := by have := h.lo; have := h.hi; have := h.mw; omega
/-- What leaves all blocks but R's own cells (of which the place alone turns). -/
theorem RV.moved (h : RV w B m R s n H T F v0 F0 p bv tv fv) {n' : Nat} (x : RX w' R s n' p bv tv fv) (k : Kp (onR R) w w') : RV w' B m R s n' H T F v0 F0 p bv tv fv := by
  have ne : ∀ {base size n : Nat} {e : TypeId} {v : Value} {xs : List Value}, w.ownsRow base e size v n xs → 50 ≠ e → ∀ j, v.ownBlock = some j → ¬ onR R j e := fun r hne j hj e => row_ne r h.x hne (by rw [hj]; exact congrArg some e)
  obtain ⟨cs, t1, t2, t3⟩ := h.ht
  have gen : ∀ {T : List Tk} {cs : List Value}, TRow w B m T cs → TRow w' B m T cs := by
    intro T
    induction T with
    | nil => intro cs h; exact h
    | cons u T ih =>
      rintro cs ⟨bv, r, e1, e2, e3⟩
      exact ⟨bv, r, e1, ⟨k.row e2.1 fun j hj _ => ne e2.1 (by decide) j hj, e2.2⟩, ih e3⟩
  exact ⟨x, h.hp, k.row h.hb fun j hj _ => ne h.hb (by decide) j hj, h.hn, ⟨cs, k.row t1 fun j hj _ => ne t1 (by decide) j hj, t2, gen t3⟩, k.row h.hf fun j hj _ => ne h.hf (by decide) j hj, k.row h.h0 fun j hj _ => ne h.h0 (by decide) j hj, h.h1, h.lo, h.hi, Nat.le_trans h.mw k.size, h.low.on (k.below (fun j t e => by rw [show j = R from e]; exact h.lo) h.bw)⟩
theorem RV.below (h : RV w B m R s n H T F v0 F0 p bv tv fv) (b : Below w.heap.size w w') : RV w' B m R s n H T F v0 F0 p bv tv fv := h.moved (h.x.below b) (Kp.of_below b)
theorem RV.up (h : RV w B m R s n H T F v0 F0 p bv tv fv) {m' : Nat} (hm : m ≤ m') (hw : m' ≤ w.heap.size) : RV w B m' R s n H T F v0 F0 p bv tv fv := ⟨h.x, h.hp, h.hb, h.hn, h.ht.up hm, h.hf, h.h0, h.h1, h.lo, Nat.lt_of_lt_of_le h.hi hm, hw, h.low⟩
theorem RS.below (h : RS w B m R s n H T F v0 F0) (b : Below w.heap.size w w') : RS w' B m R s n H T F v0 F0 := by
  obtain ⟨p, bv, tv, fv, h⟩ := h
  exact ⟨p, bv, tv, fv, h.below b⟩
theorem RS.up (h : RS w B m R s n H T F v0 F0) {m' : Nat} (hm : m ≤ m') (hw : m' ≤ w.heap.size) : RS w B m' R s n H T F v0 F0 := by
  obtain ⟨p, bv, tv, fv, h⟩ := h
  exact ⟨p, bv, tv, fv, h.up hm hw⟩
theorem RS.low (h : RS w B m R s n H T F v0 F0) : LowB B w := by obtain ⟨p, bv, tv, fv, h⟩ := h; exact h.low
theorem RS.bw (h : RS w B m R s n H T F v0 F0) : B ≤ w.heap.size := by obtain ⟨p, bv, tv, fv, h⟩ := h; exact h.bw
end
/-- Rows of Fails and R's own cells. -/
def frD (B R : Nat) (k : Nat) (t : TypeId) : Prop := k = R ∨ (B ≤ k ∧ t = 59)
theorem onR_frD {B R : Nat} {w w' : World} (k : Kp (onR R) w w') : Kp (frD B R) w w' := k.mono fun _ _ _ _ _ e => .inl e

set_option maxRecDepth 100000 in
set_option maxHeartbeats 2000000 in
theorem fail_rv (code : Int) (place : Nat) (w : World) (B m R : Nat) (s : ByteArray) (n : Nat) (H : List UInt8) (T : List Tk) (F : List Fl) (v0 : Value) (F0 : List Fl) (p bv tv fv : Value) (h : RV w B m R s n H T F v0 F0 p bv tv fv) (hl : F.length ≤ 1000000) : Calls Tryz.prog 40 #[.pointer (some ⟨R, 0, none⟩), .int .i64 code, .int .i64 (place : Int)] w fun e w' => e = .returned (.tuple #[]) ∧ ∃ fv', RV w' B m R s n H T (F ++ [(code, place)]) v0 F0 p bv tv fv' ∧ (fv'.ownBlock = fv.ownBlock ∨ ∃ k, fv'.ownBlock = some k ∧ w.heap.size ≤ k) ∧ Kp (fun k _ => k = R ∨ fv.ownBlock = some k) w w' := by
  obtain ⟨i1, hi1, hy0, hy1, hy2⟩ := info_parts Tinfo34
  have hf := h.hf
  have d5 := h.x.c5
  have hne := row_ne hf h.x (by decide)
  have hbw := h.bw
  have hx := h.x
  have HR := Lib.hid h
  clear h
  go_enter Tryz.func40, Tryz.ntmps40
  go_wp2_with (
    at_builtin
    go_loud (
      refine wpList_append_elder _ rfl _ _ 23 rfl B 59 i1 (.agg #[.int .i64 0, .int .i64 0]) 2 16 Tryz.underlying23 hi1 hy0 hy1 hy2 rfl (by decide) _ _ _ rfl (hf.alloc _) ⟨w.heap.size, 0, none⟩ 1 1 [.int .i64 code, .int .i64 (place : Int)] rfl rfl (cells_new w [.int .i64 code, .int .i64 (place : Int)] 59) (fun x hx => by simp at hx; rcases hx with rfl | rfl <;> rfl) (by unfold maxLen; omega) (by omega) (by simp; omega) ?_
      intro v5 w5 hown5 hold5 hgrow5 hat5
      have x5 : RX w5 R s n p bv tv fv := by
        have h1 : RX (w.alloc (.cells #[.int .i64 code, .int .i64 (place : Int)] 59)) R s n p bv tv fv := hx.below ((Below.refl _ _).alloc (Nat.le_refl _) _)
        unfold RX at h1 ⊢
        rw [hgrow5.block R (lt_of_block h1) (fun e => hne e.symm)]
        exact h1
      have HX := Lib.hid (x5.set5 v5)
      have HK5 : Hid (Kp (fun k t => fv.ownBlock = some k) w w5) := Lib.hid ((Kp.of_below ((Below.refl _ _).alloc (Nat.le_refl _) _)).trans (Kp.of_grown hgrow5 (fun k c t fr hk _ => hk) fun k hk => by
        obtain ⟨cur, h1, _⟩ := row_block (hf.alloc (.cells #[.int .i64 code, .int .i64 (place : Int)] 59)) hk
        exact ⟨_, _, _, h1⟩))
      have HK6 : Hid (Kp (onR R) w5 (w5.setCell ⟨R, 5, none⟩ v5)) := Lib.hid (x5.kset 5 v5)
      have HO : Hid (w5.ownsRow B 59 2 v5 (F ++ [(code, place)]).length (flC (F ++ [(code, place)]))) := Lib.hid (by rw [flC_snoc, List.length_append]; exact hown5)
      have HE : Hid (w5.ownsRow B 59 2 fv F.length (flC F)) := Lib.hid hold5
      have HAT : Hid (v5.ownBlock = fv.ownBlock ∨ v5.ownBlock = some (w.heap.size + 1)) := Lib.hid (by
          rcases hat5 with e | e
          · exact .inl e
          · exact .inr (e.trans (by simp)))
      have d5' := x5.c5
      have f5' := x5.free 5
      have HF5 : Hid (∃ a k, v5 = .slice a (F.length + 1) k) := Lib.hid (by
        rcases rowForms hown5 with ⟨e1, e2⟩ | ⟨g, k, e1⟩
        · exact ⟨none, 0, by rw [e1, e2]⟩
        · exact ⟨_, _, e1⟩)
      clear hown5 hold5 hgrow5 hat5 x5
      obtain ⟨va, vk, rfl⟩ := HF5.out
      clear HF5))
  go_end0
  have h := HR.out
  have hx5 := HX.out
  have k5 := HK5.out
  have k6 := HK6.out
  -- rows of other types, and the elder slice
  have hf5 := HO.out
  have nef : ∀ {base size n : Nat} {e : TypeId} {v : Value} {xs : List Value}, w.ownsRow base e size v n xs → 59 ≠ e → w5.ownsRow base e size v n xs := fun r hne' => k5.row r fun j hj _ e => rows_ne hf r hne' e hj
  have neR : ∀ {base size n : Nat} {e : TypeId} {v : Value} {xs : List Value}, w5.ownsRow base e size v n xs → 50 ≠ e → (w5.setCell ⟨R, 5, none⟩ (.slice va (F.length + 1) vk)).ownsRow base e size v n xs := fun r hne' => k6.row r fun j hj _ e => row_ne r (show w5.heap[R]? = some (.cells _ _ _) from (by
    have := hx5
    have h9 := HR.out.x
    have hn : fv.ownBlock ≠ some R := hne
    exact k5.cells h9 (fun e => hn e))) hne' (by rw [hj]; exact congrArg some e)
  obtain ⟨cs, t1, t2, t3⟩ := h.ht
  have gen : ∀ {T : List Tk} {cs : List Value}, TRow w B m T cs → TRow (w5.setCell ⟨R, 5, none⟩ (.slice va (F.length + 1) vk)) B m T cs := by
    intro T
    induction T with
    | nil => intro cs h; exact h
    | cons u T ih =>
      rintro cs ⟨bv, r, e1, e2, e3⟩
      exact ⟨bv, r, e1, ⟨neR (nef e2.1 (by decide)) (by decide), e2.2⟩, ih e3⟩
  have h00 : w5.ownsRow B 59 2 v0 F0.length (flC F0) := by
    by_cases hs : v0.ownBlock = fv.ownBlock
    · -- the elder slice is a beginning of the row
      have hlen := h.h1 hs
      have e := HE.out
      have h0 := h.h0
      refine ⟨h0.1, ?_⟩
      rcases h0.2 with h2 | ⟨g, cap, cur, a1, b1, c1, d1, d2, d3, d4⟩
      · exact .inl h2
      · have hg : fv.ownBlock = some g := by rw [← hs, a1]; rfl
        rcases e.2 with ⟨e1, _⟩ | ⟨g', cap', cur', a1', b1', c1', d1', d2', d3', d4'⟩
        · rw [e1] at hg; cases hg
        · have hgg : g' = g := by rw [a1'] at hg; simpa [Value.ownBlock] using hg
          subst hgg
          rcases hf.2 with ⟨e1, _⟩ | ⟨g2, cap2, cur2, a2, b2, c2, q1, q2, q3, q4⟩
          · rw [e1] at hg; cases hg
          · have hv : cap2 = cap' ∧ g2 = g' := by
              rw [a1'] at a2
              injection a2 with a2 _ a3
              injection a2 with a2
              injection a2 with a2
              exact ⟨a3.symm, a2.symm⟩
            obtain ⟨rfl, rfl⟩ := hv
            rw [c1] at c2
            cases c2
            have hcap : cap = cap2 := by omega
            subst hcap
            refine .inr ⟨g2, cap, cur', a1, b1, c1', d1, d2, d3', ?_⟩
            have hmin : min (F0.length * 2) (F.length * 2) = F0.length * 2 := Nat.min_eq_left (by omega)
            have hq : cur'.toList.take (F0.length * 2) = cur.toList.take (F0.length * 2) := by
              rw [← hmin, ← List.take_take, ← List.take_take, d4', q4]
            rw [hq]
            exact d4
    · exact k5.row h.h0 fun j hj _ e => hs (by rw [hj, e])
  have kk : Kp (fun k _ => k = R ∨ fv.ownBlock = some k) w (w5.setCell ⟨R, 5, none⟩ (.slice va (F.length + 1) vk)) := (k5.mono fun k c t fr hk e => Or.inr e).trans (k6.mono fun k c t fr _ e => Or.inl e)
  refine ⟨rfl, .slice va (F.length + 1) vk, ?_, ?_, kk⟩
  · exact ⟨hx5, h.hp, neR (nef h.hb (by decide)) (by decide), h.hn, ⟨cs, neR (nef t1 (by decide)) (by decide), t2, gen t3⟩, neR hf5 (by decide), neR h00 (by decide), fun e => by
      rcases HAT.out with e2 | e2
      · have := h.h1 (e.trans e2)
        rw [List.length_append]; omega
      · rw [e2] at e
        obtain ⟨_, g1, _, g2⟩ := row_block h.h0 e
        omega, h.lo, h.hi, Nat.le_trans h.mw kk.size, h.low.on (kk.below (fun k t e => by
      rcases e with rfl | e
      · exact h.lo
      · exact (hf.lt k e).1) hbw)⟩
  · rcases HAT.out with e | e
    · exact .inl e
    · exact .inr ⟨_, e, Nat.le_succ _⟩
theorem RV.frD {w w' : World} {B m R : Nat} {s : ByteArray} {n : Nat} {H : List UInt8} {T : List Tk} {F : List Fl} {v0 : Value} {F0 : List Fl} {p bv tv fv : Value} (h : RV w B m R s n H T F v0 F0 p bv tv fv) (k : Kp (fun k _ => k = R ∨ fv.ownBlock = some k) w w') : Kp (frD B R) w w' := k.mono fun k c t fr hk e => by
  rcases e with e | e
  · exact .inl e
  · obtain ⟨cur, g1, g2, _⟩ := row_block h.hf e
    rw [hk] at g1
    cases g1
    exact .inr ⟨g2, rfl⟩
theorem fail_hid (code : Int) (place : Nat) : Hid (∀ W B m R s n H T F v0 F0, RS W B m R s n H T F v0 F0 → F.length ≤ 1000000 → Calls Tryz.prog 40 #[.pointer (some ⟨R, 0, none⟩), .int .i64 code, .int .i64 (place : Int)] W fun e w' => e = .returned (.tuple #[]) ∧ RS w' B m R s n H T (F ++ [(code, place)]) v0 F0 ∧ Kp (frD B R) W w') := Lib.hid fun w B m R s n H T F v0 F0 h hl => by
  obtain ⟨p, bv, tv, fv, h⟩ := h
  refine (fail_rv code place w B m R s n H T F v0 F0 p bv tv fv h hl).mono ?_
  rintro e w' ⟨rfl, fv', h', -, k⟩
  exact ⟨rfl, ⟨p, bv, tv, fv', h'⟩, h.frD k⟩

end Go.Proofs.YtgbilfbonliipaaGreatDoor

namespace Go.Proofs.YtgbilfbonliipaaGreatDoor
open Go.RowKit

theorem decO_hid (s T : ByteArray) (p : List Nat) (h : decT 0 s.data.toList = (T.data.toList, p)) (hs : s.size ≤ 1000000) : Hid (∀ W, Low W → Calls Tryz.prog 20 #[.string s] W fun e w' => ∃ a c, e = .returned (.tuple #[.string T, .slice a p.length c]) ∧ w'.ownsRow W.heap.size 59 2 (.slice a p.length c) p.length (failCs p) ∧ Below W.heap.size W w') := Lib.hid fun W hw => (decode_any s hs W hw).mono fun e w' ⟨v, h1, h2, h3⟩ => by
  rw [h] at h1 h2
  have hf := FailsIn.of_row h2
  obtain ⟨a, c, rfl⟩ := hf.form
  exact ⟨a, c, by rw [h1, text_is (T := T) rfl], h2, h3⟩
theorem RV.form {w : World} {B m R : Nat} {s : ByteArray} {n : Nat} {H : List UInt8} {T : List Tk} {F : List Fl} {v0 : Value} {F0 : List Fl} {p bv tv fv : Value} (h : RV w B m R s n H T F v0 F0 p bv tv fv) : RS w B m R s n H T F v0 F0 := ⟨p, bv, tv, fv, h⟩

set_option maxRecDepth 100000 in
set_option maxHeartbeats 4000000 in
theorem decoded_hid (part D : ByteArray) (p : List Nat) (place : Nat) (h : decT 0 part.data.toList = (D.data.toList, p)) (hs : part.size ≤ 100000) (hpl : place ≤ 1000000) : Hid (∀ W B m R s n H T F v0 F0, RS W B m R s n H T F v0 F0 → F.length ≤ 500000 → Calls Tryz.prog 73 #[.pointer (some ⟨R, 0, none⟩), .string part, .int .i64 (place : Int)] W fun e w' => e = .returned (.string D) ∧ RS w' B m R s n H T (F ++ failM place p) v0 F0 ∧ Kp (frD B R) W w') := Lib.hid fun w B m R s n H T F v0 F0 hr hl => by
  obtain ⟨pp, bv, tv, fv, hr⟩ := hr
  have CD := decO_hid part D p h (by omega)
  have hlen : p.length ≤ 100000 := by
    have := (decT_len 0 part.data.toList).2
    rw [h, lsize] at this
    simp only at this
    omega
  have hplace : ∀ q ∈ p, q ≤ 100000 := fun q hq => by
    have := decT_place 0 part.data.toList q (by rw [h]; exact hq)
    rw [lsize] at this
    omega
  have HP := Lib.hid hplace
  have hlow := hr.low.low
  clear h hs hplace
  go_enter Tryz.func73, Tryz.ntmps73
  go_wp2_with fail
  (with_reducible refine (CD.out _ hlow).mono ?_)
  rintro e w1 ⟨a, c, rfl, hrow, b1⟩
  have hr1 := hr.below b1
  have HG : Hid (∀ g, (Value.slice a p.length c).ownBlock = some g → w.heap.size ≤ g ∧ g < w1.heap.size) := Lib.hid hrow.lt
  have hfv : ∀ j, fv.ownBlock = some j → j < w.heap.size ∨ w1.heap.size ≤ j := fun j hj => .inl (hr.hf.lt j hj).2
  have hk1 : Kp (frD B R) w w1 := Kp.of_below b1
  have HR1 := Lib.hid (And.intro hr1 (And.intro hfv (And.intro hk1 hrow)))
  obtain ⟨W1, hW1⟩ : ∃ W1, w1.heap.size = W1 := ⟨_, rfl⟩
  rw [hW1] at HR1 HG
  have HW1 := Lib.hid hW1
  clear hr hr1 hfv hk1 hrow b1 hlow CD hW1
  go_wp2
  go_loopw [18] (fun i wr => ∃ (k : Nat) (fv' : Value), i = .int .i64 k ∧ k ≤ p.length ∧ Hid (RV wr B m R s n H T (F ++ failM place (p.take k)) v0 F0 pp bv tv fv' ∧ (∀ j, fv'.ownBlock = some j → j < w.heap.size ∨ W1 ≤ j) ∧ Kp (frD B R) w wr ∧ wr.ownsRow w.heap.size 59 2 (.slice a p.length c) p.length (failCs p) ∧ W1 ≤ wr.heap.size)) (fun i _ => p.length - (intOf i).toNat)
  case atStart =>
    obtain ⟨h1, h2, h3, h4⟩ := HR1.out
    exact ⟨0, fv, rfl, Nat.zero_le _, Lib.hid ⟨by simpa [failM] using h1, h2, h3, h4, by rw [HW1.out]; exact Nat.le_refl _⟩⟩
  case round =>
    clear HR1
    obtain ⟨k, fv', rfl, hk, HX⟩ := hrel
    by_cases hlt : k < p.length
    · obtain ⟨h1, h2, h3, h4, h5⟩ := HX.out
      obtain ⟨q, hq⟩ : ∃ q, p[k] = q := ⟨_, rfl⟩
      have hq2 : q ≤ 100000 := HP.out q (by rw [← hq]; exact List.getElem_mem hlt)
      have HT : Hid (F ++ failM place (p.take (k + 1)) = (F ++ failM place (p.take k)) ++ [((130 : Int), place + q)]) := Lib.hid (by
        rw [List.take_succ_eq_append_getElem hlt, hq]
        simp [failM])
      have hlen2 : (F ++ failM place (p.take k)).length ≤ 1000000 := by
        simp only [List.length_append, failM, List.length_map, List.length_take]
        omega
      obtain ⟨g, rfl⟩ : ∃ g, a = some ⟨g, 0, none⟩ := by
        rcases rowForms h4 with ⟨e1, e2⟩ | ⟨g, cc, e1⟩
        · omega
        · injection e1 with e1 _ _
          exact ⟨g, e1⟩
      have e12 := failCs_at p k hlt
      rw [hq] at e12
      have c0 : wr.cell? ⟨g, k * 2, none⟩ = some (.int .i64 130) := by rw [h4.cellAt (k * 2) (by omega)]; exact e12.1
      have c1 : wr.cell? ⟨g, k * 2 + 1, none⟩ = some (.int .i64 (q : Int)) := by rw [h4.cellAt (k * 2 + 1) (by omega)]; exact e12.2
      have z1 : (place : Int) ≤ 1000000 := by omega
      have z2 : (q : Int) ≤ 100000 := by omega
      have z3 : (0 : Int) ≤ (place : Int) := by omega
      have z4 : (0 : Int) ≤ (q : Int) := by omega
      have hb := (Below.refl wr.heap.size wr).alloc (Nat.le_refl _) (.cells #[.int .i64 130, .int .i64 (q : Int)] 59)
      have CF := fail_rv 130 (place + q) _ B m R s n H T _ v0 F0 pp bv tv fv' (h1.below hb) hlen2
      rw [show (((place + q : Nat)) : Int) = (place : Int) + (q : Int) by push_cast; rfl] at CF
      have HCF := Lib.hid CF
      have HBB := Lib.hid hb
      have HH := Lib.hid (And.intro h1 (And.intro h2 (And.intro h3 (And.intro h4 h5))))
      clear CF h1 h2 h3 h4 h5 hb HX e12 hq hq2
      go_wp2_with fail
      (with_reducible refine HCF.out.mono ?_)
      rintro e w3 ⟨rfl, fv3, h3', hat, k3⟩
      have HN : Hid (RV w3 B m R s n H T (F ++ failM place (p.take (k + 1))) v0 F0 pp bv tv fv3 ∧ (∀ j, fv3.ownBlock = some j → j < w.heap.size ∨ W1 ≤ j) ∧ Kp (frD B R) w w3 ∧ w3.ownsRow w.heap.size 59 2 (.slice (some ⟨g, 0, none⟩) p.length c) p.length (failCs p) ∧ W1 ≤ w3.heap.size) := Lib.hid (by
        obtain ⟨h1, h2, h3, h4, h5⟩ := HH.out
        have hb := HBB.out
        have h1b := h1.below hb
        refine ⟨by rw [HT.out]; exact h3', fun j hj => ?_, h3.trans ((Kp.of_below hb).trans (h1b.frD k3)), k3.row (ownsRow_below h4 hb) fun j hj _ e => ?_, Nat.le_trans h5 (Nat.le_trans hb.size k3.size)⟩
        · rcases hat with e | ⟨j2, e, hj2⟩
          · exact h2 j (by rw [← e]; exact hj)
          · rw [e] at hj
            cases hj
            exact .inr (Nat.le_trans h5 (Nat.le_trans hb.size hj2))
        · have hg := HG.out j hj
          rcases e with e | e
          · exact row_ne (ownsRow_below h4 hb) h1b.x (by decide) (by rw [hj, e])
          · rcases h2 j e with h | h <;> omega)
      clear h3' hat k3 HH HBB HCF c0 c1
      go_wp2
      go_roundw
      case rel => exact ⟨k + 1, fv3, by go_num, by omega, HN⟩
      case measure => simp [intOf]; omega
    · obtain rfl : k = p.length := by omega
      rw [List.take_length] at HX
      go_wp2
      go_ret
      exact ⟨rfl, HX.out.1.form, HX.out.2.2.1⟩

end Go.Proofs.YtgbilfbonliipaaGreatDoor

namespace Go.Proofs.YtgbilfbonliipaaGreatDoor
open Go.RowKit

/-- What telling turns: R's own cells, rows of bytes, the row of tokens. -/
def frT (B R : Nat) (tv : Value) (k : Nat) (t : TypeId) : Prop := k = R ∨ (B ≤ k ∧ t = 5) ∨ tv.ownBlock = some k
theorem trans_old {P Q : Nat → TypeId → Prop} {a b c : World} (h : Kp P a b) (k : Kp Q b c) (hs : ∀ j t, j < a.heap.size → Q j t → P j t) : Kp P a c :=
  ⟨k.os.trans h.os, k.tape.trans h.tape, k.output.trans h.output, Nat.le_trans h.size k.size, fun j o hj hn => k.same j o (h.same j o hj hn) fun c t fr e hq => hn c t fr e (hs j t (lt_of_block hj) hq)⟩
theorem TRow.at {w w' : World} {B m R : Nat} {s : ByteArray} {n : Nat} {p bv tv fv : Value} (x : RX w R s n p bv tv fv) (k : Kp (onR R) w w') : ∀ {T : List Tk} {cs : List Value}, TRow w B m T cs → TRow w' B m T cs
  | [], _, h => h
  | _ :: _, _, ⟨av, r, h1, h2, h3⟩ => ⟨av, r, h1, ⟨k.row h2.1 fun j hj _ e => row_ne h2.1 x (by decide) (by rw [hj]; exact congrArg some e), h2.2⟩, h3.at x k⟩
theorem OwnT.at {w w' : World} {B m R : Nat} {s : ByteArray} {n : Nat} {p bv tv fv u : Value} {T : List Tk} (h : OwnT w B m u T) (x : RX w R s n p bv tv fv) (k : Kp (onR R) w w') : OwnT w' B m u T := by
  obtain ⟨cs, q1, q2, q3⟩ := h
  exact ⟨cs, k.row q1 fun j hj _ e => row_ne q1 x (by decide) (by rw [hj]; exact congrArg some e), q2, q3.at x k⟩
section
variable {w w' : World} {B m R : Nat} {s : ByteArray} {n : Nat} {H : List UInt8} {T : List Tk} {F : List Fl} {v0 : Value} {F0 : List Fl} {p bv tv fv : Value}
theorem RV.bd (h : RV w B m R s n H T F v0 F0 p bv tv fv) : BD w B R 2 H #[.string s, .int .i64 (n : Int), p, bv, tv, fv] 50 p bv := ⟨h.x, rfl, rfl, h.hp, h.hb, h.hn⟩
/-- The reader when its row of tokens has grown, its builder has been emptied. -/
theorem RV.told (h : RV w B m R s n H T F v0 F0 p bv tv fv) {H' : List UInt8} {T' : List Tk} {p' bv' tv' : Value} (k : Kp (frT B R tv) w w') (x : RX w' R s n p' bv' tv' fv) (hp : p' = .pointer none ∨ p' = .pointer (some ⟨R, 2, none⟩)) (hb : w'.ownsRow B 5 1 bv' H'.length (Lib.byteCells H')) (hn : H' = [] → bv' = .slice none 0 0) (ht : OwnT w' B w'.heap.size tv' T') : RV w' B w'.heap.size R s n H' T' F v0 F0 p' bv' tv' fv := by
  have hB : ∀ (k : Nat) (t : TypeId), frT B R tv k t → B ≤ k := fun k t e => by
    rcases e with rfl | e | e
    · exact h.lo
    · exact e.1
    · obtain ⟨cs, h1, _⟩ := h.ht
      exact (h1.lt k e).1
  have ne : ∀ {v : Value} {n : Nat} {xs : List Value}, w.ownsRow B 59 2 v n xs → w'.ownsRow B 59 2 v n xs := fun r => k.row r fun j hj _ e => by
    rcases e with rfl | e | e
    · exact row_ne r h.x (by decide) hj
    · exact absurd e.2 (by decide)
    · obtain ⟨cs, h1, _⟩ := h.ht
      exact rows_ne h1 r (by decide) e hj
  exact ⟨x, hp, hb, hn, ht, ne h.hf, ne h.h0, h.h1, h.lo, Nat.lt_of_lt_of_le h.hi (Nat.le_trans h.mw k.size), Nat.le_refl _, h.low.on (k.below hB h.bw)⟩
end

set_option maxRecDepth 100000 in
set_option maxHeartbeats 8000000 in
theorem tellText_rv (w : World) (B m R : Nat) (s : ByteArray) (n : Nat) (H : List UInt8) (T : List Tk) (F : List Fl) (v0 : Value) (F0 : List Fl) (p bv tv fv : Value) (h : RV w B m R s n H T F v0 F0 p bv tv fv) (hl : T.length ≤ 1000000) :
    Calls Tryz.prog 25 #[.pointer (some ⟨R, 0, none⟩)] w fun e w' => e = .returned (.tuple #[]) ∧ ∃ p' tv', RV w' B w'.heap.size R s n [] (T ++ txtH H) F v0 F0 p' (.slice none 0 0) tv' fv ∧ (tv'.ownBlock = tv.ownBlock ∨ ∃ k, tv'.ownBlock = some k ∧ w.heap.size ≤ k) ∧ Kp (frT B R tv) w w' := by
  have CL := Lib.hid (len_any B R 2 H _ _ p bv w h.bd)
  by_cases h0 : H = []
  · have z : ¬ ((H.length : Nat) : Int) > 0 := by rw [h0]; simp
    have HR : Hid (RV w B w.heap.size R s n [] (T ++ txtH H) F v0 F0 p (.slice none 0 0) tv fv) := Lib.hid (by
      have h2 := h.up h.mw (Nat.le_refl _)
      have hbv := h.hn h0
      rw [h0, txtH_nil, List.append_nil]
      rw [h0, hbv] at h2
      exact h2)
    clear h
    go_enter Tryz.func25, Tryz.ntmps25
    go_wp2_with fail
    refine CL.out.mono ?_
    rintro e w ⟨rfl, rfl⟩
    go_wp2
    go_end0
    exact ⟨rfl, p, tv, HR.out, .inl rfl, Kp.refl _ _⟩
  · obtain ⟨i0, hi, hz0, hz1, hz2⟩ := info_parts TinfoT
    have hpos : 0 < H.length := List.length_pos_iff.2 h0
    have z : (0 : Int) < ((H.length : Nat) : Int) := by omega
    have CS := Lib.hid (string_any B R 2 H _ _ p bv w.drew (show BD w.drew B R 2 H #[.string s, .int .i64 (n : Int), p, bv, tv, fv] 50 p bv from ⟨h.x, rfl, rfl, h.hp, h.hb, h.hn⟩))
    obtain ⟨a, c, rfl⟩ := h.ht.form
    obtain ⟨cs, t1, t2, t3⟩ := h.ht
    have hx := h.x
    have d4 := h.x.c4
    have HT : Hid (T ++ txtH H = T ++ [textT H]) := Lib.hid (by rw [txtH_some h0])
    have hbw := h.bw
    have hmw := h.mw
    have HH := Lib.hid h
    obtain ⟨U, hU⟩ : ∃ U : ByteArray, U = ⟨H.toArray⟩ := ⟨_, rfl⟩
    rw [← hU] at CS
    have HU := Lib.hid hU
    clear h h0 hU
    go_enter Tryz.func25, Tryz.ntmps25
    go_wp2_with fail
    refine CL.out.mono ?_
    rintro e w ⟨rfl, rfl⟩
    clear CL
    go_wp2_with fail
    go_region_law (first
      | (go_simp
         go_at_call 32
         (refine CS.out.mono ?_)
         rintro e w4 ⟨rfl, k4⟩
         have K4 : Kp (fun k t' => B ≤ k ∧ t' = 5) w w4 := (Kp.refl _ w).drew.trans k4
         have x4 : RX w4 R s n p bv (.slice a T.length c) fv := K4.cells hx (fun e => absurd e.2 (by decide))
         have d4' := x4.c4
         have d4'' := (x4.below ((Below.refl _ _).alloc (Nat.le_refl _) (.cells #[.int .i64 1, .string ⟨#[]⟩, .string U, .slice none 0 0, .bool false] 40))).c4
         have O4 := Lib.hid (K4.row t1 fun j hj _ e => absurd e.2 (by decide))
         have HK4 := Lib.hid K4
         have HX4 := Lib.hid x4
         clear k4 K4 x4)
      | (refine step_append_lies _ (by rfl) (.tmp 11) (.tmp 17) 22 (by rfl) B 40 i0 (.agg #[.int .i64 0, .string ⟨#[]⟩, .string ⟨#[]⟩, .slice none 0 0, .bool false]) 5 72 Tryz.underlying22 hi hz0 hz1 hz2 rfl (by decide) _ _ _ (by rfl) (O4.out.alloc _) ⟨w4.heap.size, 0, none⟩ 1 1 [.int .i64 1, .string ⟨#[]⟩, .string U, .slice none 0 0, .bool false] (by rfl) rfl (World.news_of_block (new_block _ _)) (by intro u hu; simp at hu; rcases hu with rfl | rfl | rfl | rfl | rfl <;> rfl) (by decide) (by unfold maxLen; omega) (by omega) (by have := HK4.out.size; simp; omega) _ rfl ?_
         intro g cap w6 hown hgrow hat hlt6
         have hne : (Value.slice a T.length c).ownBlock ≠ some R := row_ne t1 hx (by decide)
         have x6 : RX w6 R s n p bv (.slice a T.length c) fv := by
           have h1 := HX4.out.below ((Below.refl _ _).alloc (Nat.le_refl _) (.cells #[.int .i64 1, .string ⟨#[]⟩, .string U, .slice none 0 0, .bool false] 40))
           unfold RX at h1 ⊢
           rw [hgrow.block R (lt_of_block h1) (fun e => hne e.symm)]
           exact h1
         have d6 := x6.c4
         have f6 := x6.free 4))
    all_goals
      have kal := (Kp.of_below (P := fun k t' => B ≤ k ∧ t' = 5) ((Below.refl _ _).alloc (Nat.le_refl _) (.cells #[.int .i64 1, .string ⟨#[]⟩, .string U, .slice none 0 0, .bool false] 40)) : Kp _ w4 _)
      have k6 : Kp (frT B R (.slice a T.length c)) w w6 := ((HK4.out.trans kal).mono fun k c t fr _ e => .inr (.inl e)).trans (Kp.of_grown hgrow (fun k c t fr hk _ => .inr (.inr hk)) fun k hk => by
        obtain ⟨cur, h1, _⟩ := row_block (O4.out.alloc (.cells #[.int .i64 1, .string ⟨#[]⟩, .string U, .slice none 0 0, .bool false] 40)) hk
        exact ⟨_, _, _, h1⟩)
      have hat2 : (some g = (Value.slice a T.length c).ownBlock ∨ w.heap.size ≤ g) := by
        rcases hat with e | e
        · exact .inl e.symm
        · have := HK4.out.size
          exact .inr (by rw [e]; simp; omega)
      have hT6 : OwnT w6 B w6.heap.size (.slice (some ⟨g, 0, none⟩) (T.length + 1) cap) (T ++ [textT H]) := by
        have t3' : TRow (w4.alloc (.cells #[.int .i64 1, .string ⟨#[]⟩, .string U, .slice none 0 0, .bool false] 40)) B m T cs := t3.kp (HK4.out.trans kal) fun j _ _ e => absurd e.2 (by decide)
        refine OwnT.grow t3' (AttrsBy.nil _ _ _) (Nat.le_trans hmw (HK4.out.trans kal).size) (O4.out.alloc _) ?_ hgrow
        have e : tkC (textT H) (.slice none 0 0) = [.int .i64 1, .string ⟨#[]⟩, .string U, .slice none 0 0, .bool false] := by rw [HU.out]; rfl
        rw [e]
        exact hown
      have x7 := x6.set4 (.slice (some ⟨g, 0, none⟩) (T.length + 1) cap)
      have k7 : Kp (frT B R (.slice a T.length c)) w (w6.setCell ⟨R, 4, none⟩ (.slice (some ⟨g, 0, none⟩) (T.length + 1) cap)) := k6.trans ((x6.kset 4 _).mono fun k c t fr _ e => .inl e)
      have hb6 : (w6.setCell ⟨R, 4, none⟩ (.slice (some ⟨g, 0, none⟩) (T.length + 1) cap)).heap.size = w6.heap.size := by simp [World.setCell]
      have hT7 : OwnT (w6.setCell ⟨R, 4, none⟩ (.slice (some ⟨g, 0, none⟩) (T.length + 1) cap)) B w6.heap.size (.slice (some ⟨g, 0, none⟩) (T.length + 1) cap) (T ++ [textT H]) := hT6.at x6 (x6.kset 4 _)
      have hbv : (w6.setCell ⟨R, 4, none⟩ (.slice (some ⟨g, 0, none⟩) (T.length + 1) cap)).heap[R]? = some (.cells #[.string s, .int .i64 (n : Int), p, bv, .slice (some ⟨g, 0, none⟩) (T.length + 1) cap, fv] 50 (0, 0)) := x7
      have hsz : w.heap.size ≤ w6.heap.size := k6.size
      obtain ⟨w7, hw7⟩ : ∃ w7, w6.setCell ⟨R, 4, none⟩ (.slice (some ⟨g, 0, none⟩) (T.length + 1) cap) = w7 := ⟨_, rfl⟩
      rw [hw7] at x7 k7 hT7 hb6
      have HZ := Lib.hid (And.intro x7 (And.intro k7 (And.intro hT7 (And.intro hb6 (And.intro hat2 hsz)))))
      have CR := Lib.hid (reset_any B R 2 _ _ p bv w7 x7 rfl rfl)
      clear x7 k7 hT7 hb6 hat2 hsz hbv hT6 k6 kal hown hgrow hat hlt6 d6 f6 d4 d4' d4'' HX4 HK4 O4 CS
      go_wp2_with fail
      refine CR.out.mono ?_
      rintro e w8 ⟨rfl, bd8, k8⟩
      obtain ⟨x7, k7, hT7, hb6, hat2, hsz⟩ := HZ.out
      have k9 : Kp (onR R) w7 w8 := k8
      have x8 : RX w8 R s n (.pointer none) (.slice none 0 0) (.slice (some ⟨g, 0, none⟩) (T.length + 1) cap) fv := bd8.blk
      have hT8 : OwnT w8 B w8.heap.size (.slice (some ⟨g, 0, none⟩) (T.length + 1) cap) (T ++ [textT H]) := (hT7.at x7 k9).up (by rw [← hb6]; exact k9.size)
      have k10 : Kp (frT B R (.slice a T.length c)) w w8 := k7.trans (k9.mono fun k c t fr _ e => .inl e)
      have hv := HH.out.told (H' := []) k10 x8 (.inl rfl) (World.ownsRow_nil _ _ _ _) (fun _ => rfl) hT8
      rw [← HT.out] at hv
      have HV := Lib.hid (And.intro hv (And.intro hat2 k10))
      clear hv k10 hT8 x8 k9 x7 k7 hT7 hat2 bd8 k8 hb6 hsz
      go_wp2
      go_end0
      obtain ⟨h1, h2, h3⟩ := HV.out
      refine ⟨rfl, _, _, h1, ?_, h3⟩
      rcases h2 with e | e
      · exact .inl e
      · exact .inr ⟨g, rfl, e⟩

set_option maxRecDepth 100000 in
set_option maxHeartbeats 8000000 in
theorem tell_rv (w : World) (B m R : Nat) (s : ByteArray) (n : Nat) (H : List UInt8) (T : List Tk) (F : List Fl) (v0 : Value) (F0 : List Fl) (p bv tv fv : Value) (h : RV w B m R s n H T F v0 F0 p bv tv fv) (hl : T.length ≤ 900000) (k : Int) (NN DD : ByteArray) (av : Value) (A : List (List UInt8 × List UInt8)) (c : Bool) (ha : AttrsBy w B w.heap.size av A) :
    Calls Tryz.prog 65 #[.pointer (some ⟨R, 0, none⟩), .agg #[.int .i64 k, .string NN, .string DD, av, .bool c]] w fun e w' => e = .returned (.tuple #[]) ∧ RS w' B w'.heap.size R s n [] (T ++ txtH H ++ [⟨k, NN.data.toList, DD.data.toList, A, c⟩]) F v0 F0 ∧ Kp (frT B R tv) w w' := by
  obtain ⟨i0, hi, hz0, hz1, hz2⟩ := info_parts TinfoT
  have hal := (Below.refl w.heap.size w).alloc (Nat.le_refl _) (.cells #[.int .i64 k, .string NN, .string DD, av, .bool c] 40)
  have hbox := new_block w (.cells #[.int .i64 k, .string NN, .string DD, av, .bool c] 40)
  have CT := Lib.hid (tellText_rv _ B m R s n H T F v0 F0 p bv tv fv (h.below hal) (by omega))
  have htl : (T ++ txtH H).length ≤ 900001 := by
    rw [List.length_append]
    unfold txtH
    split <;> simp <;> omega
  obtain ⟨T2, hT2⟩ : ∃ T2, T ++ txtH H = T2 := ⟨_, rfl⟩
  rw [hT2] at CT htl ⊢
  clear hT2
  have HH := Lib.hid (And.intro h (And.intro ha (And.intro hal hbox)))
  obtain ⟨aa, ac, rfl⟩ := ha.form
  clear h ha hal hbox
  go_enter Tryz.func65, Tryz.ntmps65
  go_wp2_with fail
  refine CT.out.mono ?_
  rintro e w2 ⟨rfl, p2, tv2, h2, hat2, k2⟩
  clear CT
  obtain ⟨h, ha, hal, hbox⟩ := HH.out
  have hX : w2.heap[w.heap.size]? = some (.cells #[.int .i64 k, .string NN, .string DD, .slice aa A.length ac, .bool c] 40 (0, 0)) := k2.cells hbox (fun e => by
    obtain ⟨cs, t1, t2, t3⟩ := h.ht
    rcases e with e | e | e
    · have := h.hi; have := h.mw; omega
    · exact absurd e.2 (by decide)
    · have := (t1.lt _ e).2; omega)
  have hA2 : AttrsBy w2 B w2.heap.size (.slice aa A.length ac) A := ((ha.kp (Kp.of_below hal (P := fun _ _ => False)) fun _ _ _ e => e).up (Nat.le_trans hal.size k2.size)).1 |> fun r => ⟨k2.row r fun j hj _ e => by
    obtain ⟨cs, t1, t2, t3⟩ := h.ht
    rcases e with e | e | e
    · exact row_ne r (h.x.below hal) (by decide) (by rw [hj, e])
    · exact absurd e.2 (by decide)
    · exact rows_ne (ownsRow_below t1 hal) r (by decide) e hj, fun j hj => Nat.lt_of_lt_of_le (ha.2 j hj) (Nat.le_trans hal.size k2.size)⟩
  have hko : Kp (frT B R tv) w w2 := (Kp.of_below hal).trans k2
  have hold : ∀ j, tv2.ownBlock = some j → j < w.heap.size → tv.ownBlock = some j := fun j hj hlt => by
    rcases hat2 with e | ⟨j2, e, h5⟩
    · rw [← e]; exact hj
    · rw [e] at hj
      cases hj
      have := hal.size
      omega
  obtain ⟨a, cc, rfl⟩ := h2.ht.form
  obtain ⟨cs, t1, t2, t3⟩ := h2.ht
  have b0 : w2.cell? ⟨w.heap.size, 0, none⟩ = some (.int .i64 k) := by rw [cell_of hX]; rfl
  have b1 : w2.cell? ⟨w.heap.size, 1, none⟩ = some (.string NN) := by rw [cell_of hX]; rfl
  have b2 : w2.cell? ⟨w.heap.size, 2, none⟩ = some (.string DD) := by rw [cell_of hX]; rfl
  have b3 : w2.cell? ⟨w.heap.size, 3, none⟩ = some (.slice aa A.length ac) := by rw [cell_of hX]; rfl
  have b4 : w2.cell? ⟨w.heap.size, 4, none⟩ = some (.bool c) := by rw [cell_of hX]; rfl
  have d4 := h2.x.c4
  have d4'' := (h2.x.below ((Below.refl _ _).alloc (Nat.le_refl _) (.cells #[.int .i64 k, .string NN, .string DD, .slice aa A.length ac, .bool c] 40))).c4
  have hx2 := h2.x
  have hbw := h2.bw
  have H2 := Lib.hid (And.intro h2 (And.intro hA2 (And.intro hko hold)))
  have HT3 := Lib.hid t3
  clear h ha hal hbox hX hA2 hko hold h2 hat2 k2 t3 t2
  go_wp2_with fail
  go_region_law (refine step_append_lies _ (by rfl) (.tmp 10) (.tmp 12) 22 (by rfl) B 40 i0 (.agg #[.int .i64 0, .string ⟨#[]⟩, .string ⟨#[]⟩, .slice none 0 0, .bool false]) 5 72 Tryz.underlying22 hi hz0 hz1 hz2 rfl (by decide) _ _ _ (by rfl) (t1.alloc _) ⟨w2.heap.size, 0, none⟩ 1 1 [.int .i64 k, .string NN, .string DD, .slice aa A.length ac, .bool c] (by rfl) rfl (World.news_of_block (new_block _ _)) (by intro u hu; simp at hu; rcases hu with rfl | rfl | rfl | rfl | rfl <;> rfl) (by decide) (by unfold maxLen; omega) (by omega) (by simp; omega) _ rfl ?_
                 intro g cap w6 hown hgrow hat hlt6
                 have hne : (Value.slice a T2.length cc).ownBlock ≠ some R := row_ne t1 hx2 (by decide)
                 have x6 : RX w6 R s n p2 (.slice none 0 0) (.slice a T2.length cc) fv := by
                   have h1 := hx2.below ((Below.refl _ _).alloc (Nat.le_refl _) (.cells #[.int .i64 k, .string NN, .string DD, .slice aa A.length ac, .bool c] 40))
                   unfold RX at h1 ⊢
                   rw [hgrow.block R (lt_of_block h1) (fun e => hne e.symm)]
                   exact h1
                 have d6 := x6.c4
                 have f6 := x6.free 4)
  all_goals
    have hgrow : (w2.alloc (.cells #[.int .i64 k, .string NN, .string DD, .slice aa A.length ac, .bool c] 40)).grownBy w6 (Value.slice a T2.length cc).ownBlock := ⟨hgrow.os, hgrow.tape, hgrow.output, hgrow.size, hgrow.block⟩
    obtain ⟨h2, hA2, hko, hold⟩ := H2.out
    have hal2 := (Below.refl w2.heap.size w2).alloc (Nat.le_refl _) (.cells #[.int .i64 k, .string NN, .string DD, .slice aa A.length ac, .bool c] 40)
    have k6 : Kp (frT B R (.slice a T2.length cc)) w2 w6 := (Kp.of_below hal2).trans (Kp.of_grown hgrow (fun q c t fr hq _ => .inr (.inr hq)) fun q hq => by
      obtain ⟨cur, h1, _⟩ := row_block (t1.alloc (.cells #[.int .i64 k, .string NN, .string DD, .slice aa A.length ac, .bool c] 40)) hq
      exact ⟨_, _, _, h1⟩)
    have hT6 : OwnT w6 B w6.heap.size (.slice (some ⟨g, 0, none⟩) (T2.length + 1) cap) (T2 ++ [⟨k, NN.data.toList, DD.data.toList, A, c⟩]) := by
      have t3' : TRow (w2.alloc (.cells #[.int .i64 k, .string NN, .string DD, .slice aa A.length ac, .bool c] 40)) B w2.heap.size T2 cs := HT3.out.kp (Kp.of_below hal2 (P := fun _ _ => False)) fun _ _ _ e => e
      refine OwnT.grow t3' (hA2.kp (Kp.of_below hal2 (P := fun _ _ => False)) fun _ _ _ e => e) hal2.size (t1.alloc _) ?_ hgrow
      have e : tkC ⟨k, NN.data.toList, DD.data.toList, A, c⟩ (.slice aa A.length ac) = [.int .i64 k, .string NN, .string DD, .slice aa A.length ac, .bool c] := by
        unfold tkC
        rw [strV_of (T := NN) rfl, strV_of (T := DD) rfl]
      rw [e]
      exact hown
    have x7 := x6.set4 (.slice (some ⟨g, 0, none⟩) (T2.length + 1) cap)
    have hb6 : (w6.setCell ⟨R, 4, none⟩ (.slice (some ⟨g, 0, none⟩) (T2.length + 1) cap)).heap.size = w6.heap.size := by simp [World.setCell]
    have k7 : Kp (frT B R (.slice a T2.length cc)) w2 (w6.setCell ⟨R, 4, none⟩ (.slice (some ⟨g, 0, none⟩) (T2.length + 1) cap)) := k6.trans ((x6.kset 4 _).mono fun k c t fr _ e => .inl e)
    have hT7 := hT6.at x6 (x6.kset 4 (.slice (some ⟨g, 0, none⟩) (T2.length + 1) cap))
    rw [← hb6] at hT7
    have hrow : (w6.setCell ⟨R, 4, none⟩ (.slice (some ⟨g, 0, none⟩) (T2.length + 1) cap)).ownsRow B 5 1 (.slice none 0 0) ([] : List UInt8).length (Lib.byteCells []) := World.ownsRow_nil _ _ _ _
    have hv := h2.told k7 x7 h2.hp hrow (fun _ => rfl) hT7
    have kk : Kp (frT B R tv) w (w6.setCell ⟨R, 4, none⟩ (.slice (some ⟨g, 0, none⟩) (T2.length + 1) cap)) := trans_old hko k7 fun j t hj e => by
      rcases e with e | e | e
      · exact .inl e
      · exact .inr (.inl e)
      · exact .inr (.inr (hold j e hj))
    have HV := Lib.hid (And.intro hv kk)
    clear hv kk hrow hT7 k7 hb6 x7 hT6 k6 hal2 h2 hA2 hko hold hown hgrow hat hlt6
    go_end0
    exact ⟨rfl, HV.out.1.form, HV.out.2⟩

end Go.Proofs.YtgbilfbonliipaaGreatDoor

namespace Go.Proofs.YtgbilfbonliipaaGreatDoor
open Go.RowKit

theorem liesR : liesAt Tryz.prog Tryz.prog.depth 50 (6 / Tryz.prog.cellsOf 50) 2 48 1 = true := by kernel_rfl
section
variable {w w' : World} {B m R : Nat} {s : ByteArray} {n : Nat} {H : List UInt8} {T : List Tk} {F : List Fl} {v0 : Value} {F0 : List Fl} {p bv tv fv : Value}
theorem RV.wrote (h : RV w B m R s n H T F v0 F0 p bv tv fv) {H' : List UInt8} {p' bv' : Value} (k : Kp (wrB B R) w w') (x : RX w' R s n p' bv' tv fv) (hp : p' = .pointer none ∨ p' = .pointer (some ⟨R, 2, none⟩)) (hb : w'.ownsRow B 5 1 bv' H'.length (Lib.byteCells H')) (hn : H' = [] → bv' = .slice none 0 0) : RV w' B m R s n H' T F v0 F0 p' bv' tv fv := by
  have ne : ∀ {base size n : Nat} {e : TypeId} {v : Value} {xs : List Value}, w.ownsRow base e size v n xs → 50 ≠ e → 5 ≠ e → ∀ j, v.ownBlock = some j → ¬ wrB B R j e := fun r h1 h2 j hj e => by
    rcases e with e | e
    · exact row_ne r h.x h1 (by rw [hj, e])
    · exact h2 e.2.symm
  have gen : ∀ {T : List Tk} {cs : List Value}, TRow w B m T cs → TRow w' B m T cs := by
    intro T
    induction T with
    | nil => intro cs h; exact h
    | cons u T ih =>
      rintro cs ⟨bv, r, e1, e2, e3⟩
      exact ⟨bv, r, e1, ⟨k.row e2.1 fun j hj _ => ne e2.1 (by decide) (by decide) j hj, e2.2⟩, ih e3⟩
  obtain ⟨cs, t1, t2, t3⟩ := h.ht
  exact ⟨x, hp, hb, hn, ⟨cs, k.row t1 fun j hj _ => ne t1 (by decide) (by decide) j hj, t2, gen t3⟩, k.row h.hf fun j hj _ => ne h.hf (by decide) (by decide) j hj, k.row h.h0 fun j hj _ => ne h.h0 (by decide) (by decide) j hj, h.h1, h.lo, h.hi, Nat.le_trans h.mw k.size, h.low.on (k.below (fun j t e => by
    rcases e with rfl | e
    · exact h.lo
    · exact e.1) h.bw)⟩
theorem RS.moved (h : RS w B m R s n H T F v0 F0) : ∃ p bv tv fv, RX w R s n p bv tv fv ∧ ∀ w' n', RX w' R s n' p bv tv fv → Kp (onR R) w w' → RS w' B m R s n' H T F v0 F0 := by
  obtain ⟨p, bv, tv, fv, h⟩ := h
  exact ⟨p, bv, tv, fv, h.x, fun w' n' x k => ⟨p, bv, tv, fv, h.moved x k⟩⟩
theorem RS.bel (h : RS w B m R s n H T F v0 F0) {P : Nat → TypeId → Prop} (k : Kp P w w') (hs : ∀ k t, P k t → B ≤ k) : Below B w w' := k.below hs h.bw
theorem RS.lo (h : RS w B m R s n H T F v0 F0) : B ≤ R := by obtain ⟨p, bv, tv, fv, h⟩ := h; exact h.lo
theorem RS.hi (h : RS w B m R s n H T F v0 F0) : R < m := by obtain ⟨p, bv, tv, fv, h⟩ := h; exact h.hi
theorem RS.mw (h : RS w B m R s n H T F v0 F0) : m ≤ w.heap.size := by obtain ⟨p, bv, tv, fv, h⟩ := h; exact h.mw
theorem RS.onb (h : RS w B m R s n H T F v0 F0) (k : Kp (onR R) w w') : Below B w w' := k.below (fun j t e => by rw [show j = R from e]; exact h.lo) h.bw
theorem RS.frb (h : RS w B m R s n H T F v0 F0) (k : Kp (frD B R) w w') : Below B w w' := k.below (fun j t e => by
  rcases e with rfl | e
  · exact h.lo
  · exact e.1) h.bw
theorem RS.wrb (h : RS w B m R s n H T F v0 F0) (k : Kp (wrB B R) w w') : Below B w w' := k.below (fun j t e => by
  rcases e with rfl | e
  · exact h.lo
  · exact e.1) h.bw
end
set_option maxRecDepth 100000 in
theorem hold_hid (D : ByteArray) : Hid (∀ W B m R s n H T F v0 F0, RS W B m R s n H T F v0 F0 → H.length + D.size ≤ 1000000 → Calls Tryz.prog 30 #[.pointer (some ⟨R, 2, none⟩), .string D] W fun e w' => e = .returned (.tuple #[.int .i64 D.size, .nilIface]) ∧ RS w' B m R s n (H ++ D.data.toList) T F v0 F0 ∧ Kp (wrB B R) W w') := Lib.hid fun w B m R s n H T F v0 F0 h hl => by
  obtain ⟨p, bv, tv, fv, h⟩ := h
  refine (write_any B R 2 H _ _ p bv D w h.bd h.bw (by decide) (by omega) liesR).mono ?_
  rintro e w' ⟨rfl, bv', bd, k⟩
  exact ⟨rfl, ⟨_, bv', tv, fv, h.wrote k bd.blk (.inr rfl) bd.row bd.nil⟩, k⟩

set_option maxRecDepth 100000 in
set_option maxHeartbeats 4000000 in
theorem readText_hid (s P D : ByteArray) (n k : Nat) (q : List Nat) (hn : n < s.size) (hk : k = 1 + ((s.data.toList.drop n).drop 1).findIdx (· == 60)) (hP : P.data.toList = (s.data.toList.drop n).take k) (h : decT 0 P.data.toList = (D.data.toList, q)) (hs : s.size ≤ 20000) : Hid (∀ W B m R H T F v0 F0, RS W B m R s n H T F v0 F0 → F.length ≤ 500000 → H.length ≤ 500000 → Calls Tryz.prog 41 #[.pointer (some ⟨R, 0, none⟩)] W fun e w' => e = .returned (.tuple #[]) ∧ RS w' B m R s (n + k) (H ++ D.data.toList) T (F ++ failM n q) v0 F0 ∧ Below B W w') := Lib.hid fun w B m R H T F v0 F0 hr hF hH => by
  obtain ⟨Lf, hLf⟩ := text_of (s.data.toList.drop n)
  obtain ⟨L1, hL1⟩ := text_of ((s.data.toList.drop n).drop 1)
  have hLs : Lf.size = s.size - n := by rw [← lsize, hLf, List.length_drop, lsize]
  have hL1s : L1.size = s.size - n - 1 := by rw [← lsize, hL1, List.length_drop, List.length_drop, lsize]
  have CL := left_hid R s Lf n hLf (by omega)
  have s1 := slice_from_ty Tryz.underlying9 Lf L1 1 (by omega) (by rw [hL1, hLf])
  rw [show (((1 : Nat)) : Int) = 1 from rfl] at s1
  have hfi := List.findIdx_le_length (p := (· == (60 : UInt8))) (xs := (s.data.toList.drop n).drop 1)
  have hfi2 : (s.data.toList.drop n).drop 1 = L1.data.toList := hL1.symm
  rw [hfi2] at hfi hk
  rw [lsize, hL1s] at hfi
  have hkl : n + k ≤ s.size := by omega
  have hPs : P.size = k := by rw [← lsize, hP, List.length_take, List.length_drop, lsize]; omega
  have CT := take_hid R s P n k hP hkl (by omega)
  have CD := decoded_hid P D q n h (by omega) (by omega)
  have hDs : D.size ≤ 20000 := by
    have := (decT_len 0 P.data.toList).1
    rw [h, lsize, lsize] at this
    omega
  have CH := hold_hid D
  obtain ⟨pp, bv, tv, fv, hx⟩ := hr
  have hbw := hx.bw
  have hlo := hx.lo
  have CI := index_hid L1 ⟨#[60]⟩ (if L1.data.toList.findIdx (· == 60) < L1.data.toList.length then ((L1.data.toList.findIdx (· == 60) : Nat) : Int) else -1) (by
    rw [index_find, show (⟨#[60]⟩ : ByteArray).data.toList = [60] from rfl, find_single]
    by_cases hq : L1.data.toList.findIdx (· == 60) < L1.data.toList.length
    · rw [if_pos hq, if_pos hq]
    · rw [if_neg hq, if_neg hq]) (by omega)
  have d1 := hx.x.c1
  by_cases hfound : L1.data.toList.findIdx (· == 60) < L1.data.toList.length
  · rw [if_pos hfound] at CI
    have z1 : ((L1.data.toList.findIdx (· == 60) : Nat) : Int) + 1 = (k : Int) := by omega
    have z2 : ((k : Int) == 0) = false := by rw [beq_eq_false_iff_ne]; omega
    obtain ⟨j, hj⟩ : ∃ j, L1.data.toList.findIdx (· == 60) = j := ⟨_, rfl⟩
    rw [hj] at CI z1
    have z3 : (j : Int) ≤ 20000 := by omega
    have z4 : (0 : Int) ≤ (j : Int) := by omega
    have HX := Lib.hid hx
    clear hfound hj hk hfi hfi2 hL1 hLf h hP hx hLs hL1s
    go_enter Tryz.func41, Tryz.ntmps41
    go_wp2_with fail
    (with_reducible refine (CL.out _ _ _ _ _ HX.out.x).mono ?_)
    rintro e w1 ⟨rfl, b1⟩
    have HX1 := Lib.hid (HX.out.below b1)
    have hm1 := HX1.out.low.low.m
    have k1 : Below B w w1 := b1.mono hbw
    clear d1
    go_wp2_with fail
    (with_reducible refine (CI.out _ hm1).mono ?_)
    rintro e w1 ⟨rfl, rfl⟩
    clear hm1 b1
    go_wp2_with fail
    have xd_w1 : RX w1.drew R s n pp bv tv fv := HX1.out.x
    go_region_law (first
      | (go_simp
         go_at_call 68
         (with_reducible refine (CT.out _ _ _ _ _ xd_w1).mono ?_)
         rintro e w2 ⟨rfl, x2, k2⟩
         have k2' : Kp (onR R) w1 w2 := (Kp.refl _ w1).drew.trans k2
         have HX2 := Lib.hid (HX1.out.moved x2 k2').form
         have K2 := Lib.hid (k1.trans (HX1.out.form.onb k2'))
         clear k2 k2' x2)
      | (go_simp
         go_at_call 73
         (with_reducible refine (CD.out _ _ _ _ _ _ _ _ _ _ _ HX2.out hF).mono ?_)
         rintro e w3 ⟨rfl, h3, k3⟩
         have HX3 := Lib.hid h3
         have K3 := Lib.hid (K2.out.trans (HX2.out.frb k3))
         clear h3 k3)
      | (go_simp
         go_at_call 30
         (with_reducible refine (CH.out _ _ _ _ _ _ _ _ _ _ _ HX3.out (by omega)).mono ?_)
         rintro e w4 ⟨rfl, h4, k4⟩
         have HX4 := Lib.hid h4
         have K4 := Lib.hid (K3.out.trans (HX3.out.wrb k4))
         clear h4 k4))
    all_goals
      go_wp2
      go_end0
      exact ⟨rfl, HX4.out, K4.out⟩
  · rw [if_neg hfound] at CI
    have hLk : Lf.size = k := by
      rw [lsize] at hfound
      omega
    have z1 : (Lf.size : Int) = (k : Int) := by omega
    have HX := Lib.hid hx
    clear hfound hk hfi hfi2 hL1 hLf h hP hx hLs hL1s hLk
    go_enter Tryz.func41, Tryz.ntmps41
    go_wp2_with fail
    (with_reducible refine (CL.out _ _ _ _ _ HX.out.x).mono ?_)
    rintro e w1 ⟨rfl, b1⟩
    have HX1 := Lib.hid (HX.out.below b1)
    have hm1 := HX1.out.low.low.m
    have k1 : Below B w w1 := b1.mono hbw
    clear d1
    go_wp2_with fail
    (with_reducible refine (CI.out _ hm1).mono ?_)
    rintro e w1 ⟨rfl, rfl⟩
    clear hm1 b1
    go_wp2_with fail
    (with_reducible refine (CL.out _ _ _ _ _ HX1.out.x).mono ?_)
    rintro e w5 ⟨rfl, b5⟩
    have HX1 := Lib.hid (HX1.out.below b5)
    have k1 : Below B w w5 := k1.trans (b5.mono (Nat.le_trans hbw k1.size))
    clear b5
    go_wp2_with fail
    have xd_w5 : RX w5.drew R s n pp bv tv fv := HX1.out.x
    go_region_law (first
      | (go_simp
         go_at_call 68
         (with_reducible refine (CT.out _ _ _ _ _ xd_w5).mono ?_)
         rintro e w2 ⟨rfl, x2, k2⟩
         have k2' : Kp (onR R) w5 w2 := (Kp.refl _ w5).drew.trans k2
         have HX2 := Lib.hid (HX1.out.moved x2 k2').form
         have K2 := Lib.hid (k1.trans (HX1.out.form.onb k2'))
         clear k2 k2' x2)
      | (go_simp
         go_at_call 73
         (with_reducible refine (CD.out _ _ _ _ _ _ _ _ _ _ _ HX2.out hF).mono ?_)
         rintro e w3 ⟨rfl, h3, k3⟩
         have HX3 := Lib.hid h3
         have K3 := Lib.hid (K2.out.trans (HX2.out.frb k3))
         clear h3 k3)
      | (go_simp
         go_at_call 30
         (with_reducible refine (CH.out _ _ _ _ _ _ _ _ _ _ _ HX3.out (by omega)).mono ?_)
         rintro e w4 ⟨rfl, h4, k4⟩
         have HX4 := Lib.hid h4
         have K4 := Lib.hid (K3.out.trans (HX3.out.wrb k4))
         clear h4 k4))
    all_goals
      go_wp2
      go_end0
      exact ⟨rfl, HX4.out, K4.out⟩

end Go.Proofs.YtgbilfbonliipaaGreatDoor
