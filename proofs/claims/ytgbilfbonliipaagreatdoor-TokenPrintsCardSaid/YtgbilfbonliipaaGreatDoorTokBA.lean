/- Rows of tokens and of attributes that are read. -/
import Derived.Test.YtgbilfbonliipaaGreatDoorToE
namespace Go.Proofs.YtgbilfbonliipaaGreatDoor
open Go.RowKit

/-- A slice that reads as these cells. -/
def RowIn (w : World) (u : Value) (m size : Nat) (cs : List Value) : Prop := cs.length = m * size ∧ (∀ v ∈ cs, v.oneCell' = true) ∧ (((∃ a c, u = .slice a 0 c) ∧ m = 0) ∨ ∃ B off cap, u = .slice (some ⟨B, off, none⟩) m cap ∧ ∀ j v, cs[j]? = some v → w.cell? ⟨B, off + j, none⟩ = some v)
section
variable {w w' : World} {u : Value} {m size : Nat} {cs : List Value}
theorem RowIn.below (h : RowIn w u m size cs) (hb : Below w.heap.size w w') : RowIn w' u m size cs := by
  refine ⟨h.1, h.2.1, ?_⟩
  rcases h.2.2 with h | ⟨B, off, cap, h1, h2⟩
  · exact .inl h
  · exact .inr ⟨B, off, cap, h1, fun j v hj => by rw [hb.cell (lt_of_cell (h2 j v hj))]; exact h2 j v hj⟩
theorem RowIn.on {B : Nat} (h : RowIn w u m size cs) (hB : w.heap.size ≤ B) (hb : Below B w w') : RowIn w' u m size cs := h.below (hb.mono hB)
theorem RowIn.form (h : RowIn w u m size cs) : ∃ a c, u = .slice a m c := by
  rcases h.2.2 with ⟨⟨a, c, rfl⟩, rfl⟩ | ⟨B, off, cap, rfl, _⟩
  · exact ⟨_, _, rfl⟩
  · exact ⟨_, _, rfl⟩
theorem RowIn.of_own {base : Nat} {e : TypeId} (h : w.ownsRow base e size u m cs) (h1 : ∀ v ∈ cs, v.oneCell' = true) : RowIn w u m size cs := by
  refine ⟨h.1, h1, ?_⟩
  rcases rowForms h with ⟨e1, e2⟩ | ⟨g, cap, rfl⟩
  · exact .inl ⟨⟨_, _, e1⟩, e2⟩
  · refine .inr ⟨g, 0, cap, rfl, fun j v hj => ?_⟩
    have hlt := (List.getElem?_eq_some_iff.1 hj).1
    have hl := h.1
    rw [Nat.zero_add, h.cellAt j (by omega)]
    exact hj
theorem RowIn.at {a : Option Addr} {c : Nat} (h : RowIn w (.slice a m c) m size cs) {k j : Nat} (hk : k < m) {v : Value} (hv : cs[k * size + j]? = some v) : ∃ B off, a = some ⟨B, off, none⟩ ∧ w.cell? ⟨B, off + (k * size + j), none⟩ = some v := by
  rcases h.2.2 with ⟨_, h2⟩ | ⟨B, off, cap, h1, h2⟩
  · omega
  · cases h1
    exact ⟨B, off, rfl, h2 _ v hv⟩
end
/-- Attributes that are read. -/
def AtIn (w : World) (av : Value) (A : List (List UInt8 × List UInt8)) : Prop := RowIn w av A.length 2 (atC A)
theorem atC_one : ∀ (A : List (List UInt8 × List UInt8)), ∀ v ∈ atC A, v.oneCell' = true := fun A v hv => by
  unfold atC at hv
  rw [List.mem_flatMap] at hv
  obtain ⟨y, _, hy⟩ := hv
  simp at hy
  rcases hy with rfl | rfl <;> rfl
theorem AtIn.below {w w' : World} {av : Value} {A : List (List UInt8 × List UInt8)} (h : AtIn w av A) (hb : Below w.heap.size w w') : AtIn w' av A := RowIn.below h hb
theorem AtIn.form {w : World} {av : Value} {A : List (List UInt8 × List UInt8)} (h : AtIn w av A) : ∃ a c, av = .slice a A.length c := RowIn.form h
theorem AtIn.of {w : World} {B m : Nat} {av : Value} {A : List (List UInt8 × List UInt8)} (h : AttrsBy w B m av A) : AtIn w av A := RowIn.of_own h.1 (atC_one A)
theorem AtIn.nil (w : World) (a : Option Addr) (c : Nat) : AtIn w (.slice a 0 c) [] := ⟨rfl, (fun _ h => by cases h), .inl ⟨⟨a, c, rfl⟩, rfl⟩⟩
theorem AtIn.at {w : World} {a : Option Addr} {c : Nat} {A : List (List UInt8 × List UInt8)} (h : AtIn w (.slice a A.length c) A) {k : Nat} (hk : k < A.length) : ∃ B off, a = some ⟨B, off, none⟩ ∧ w.cell? ⟨B, off + k * 2, none⟩ = some (strV A[k].1) ∧ w.cell? ⟨B, off + k * 2 + 1, none⟩ = some (strV A[k].2) := by
  obtain ⟨e1, e2⟩ := atC_at A k hk
  obtain ⟨B, off, h1, h2⟩ := RowIn.at h hk (j := 0) e1
  obtain ⟨B', off', h1', h2'⟩ := RowIn.at h hk (j := 1) e2
  rw [h1] at h1'
  cases h1'
  exact ⟨B, off, h1, h2, by rw [Nat.add_assoc]; exact h2'⟩
/-- Tokens' cells. -/
def TkCs (w : World) : List Tk → List Value → Prop
  | [], cs => cs = []
  | t :: T, cs => ∃ av r, cs = tkC t av ++ r ∧ AtIn w av t.a ∧ TkCs w T r
theorem TkCs.below {w w' : World} (hb : Below w.heap.size w w') : ∀ {T : List Tk} {cs : List Value}, TkCs w T cs → TkCs w' T cs
  | [], _, h => h
  | _ :: _, _, ⟨av, r, h1, h2, h3⟩ => ⟨av, r, h1, h2.below hb, h3.below hb⟩
theorem TkCs.of {w : World} {B m : Nat} : ∀ {T : List Tk} {cs : List Value}, TRow w B m T cs → TkCs w T cs
  | [], _, h => h
  | _ :: _, _, ⟨av, r, h1, h2, h3⟩ => ⟨av, r, h1, .of h2, TkCs.of h3⟩
theorem TkCs.len {w : World} : ∀ {T : List Tk} {cs : List Value}, TkCs w T cs → cs.length = T.length * 5
  | [], _, h => by rw [show _ = [] from h]; rfl
  | _ :: T, _, ⟨av, r, h1, h2, h3⟩ => by
    have := TkCs.len h3
    rw [h1, List.length_append, List.length_cons, this]
    show 5 + _ = _
    omega
theorem TkCs.one {w : World} : ∀ {T : List Tk} {cs : List Value}, TkCs w T cs → ∀ v ∈ cs, v.oneCell' = true
  | [], _, h, v, hv => by rw [show _ = [] from h] at hv; cases hv
  | t :: T, _, ⟨av, r, h1, h2, h3⟩, v, hv => by
    rw [h1, List.mem_append] at hv
    rcases hv with hv | hv
    · obtain ⟨a, c, rfl⟩ := h2.form
      unfold tkC at hv
      simp at hv
      rcases hv with rfl | rfl | rfl | rfl | rfl <;> rfl
    · exact TkCs.one h3 v hv
theorem TkCs.app {w : World} : ∀ {T U : List Tk} {cs es : List Value}, TkCs w T cs → TkCs w U es → TkCs w (T ++ U) (cs ++ es)
  | [], _, cs, _, h, k => by rw [show cs = [] from h]; exact k
  | _ :: _, _, _, _, ⟨av, r, h1, h2, h3⟩, k => ⟨av, r ++ _, by rw [h1, List.append_assoc], h2, TkCs.app h3 k⟩
theorem TkCs.at {w : World} : ∀ {T : List Tk} {cs : List Value}, TkCs w T cs → ∀ (i : Nat) (h : i < T.length), ∃ av, (∀ j v, (tkC T[i] av)[j]? = some v → cs[i * 5 + j]? = some v) ∧ AtIn w av T[i].a
  | t :: T, _, ⟨av, r, h1, h2, h3⟩, 0, _ => ⟨av, fun j v hj => by
    have hj' : (tkC t av)[j]? = some v := hj
    rw [h1, Nat.zero_mul, Nat.zero_add, List.getElem?_append_left (List.getElem?_eq_some_iff.1 hj').1]
    exact hj', h2⟩
  | t :: T, _, ⟨av, r, h1, h2, h3⟩, i + 1, h => by
    obtain ⟨av', k1, k2⟩ := TkCs.at h3 i (by simpa using h)
    refine ⟨av', fun j v hj => ?_, k2⟩
    have h5 : (tkC t av).length = 5 := rfl
    rw [h1, List.getElem?_append_right (by omega), h5, show (i + 1) * 5 + j - 5 = i * 5 + j by omega]
    exact k1 j v hj
/-- Tokens that are read. -/
def TokIn (w : World) (v : Value) (L : List Tk) : Prop := ∃ cs, RowIn w v L.length 5 cs ∧ TkCs w L cs
section
variable {w w' : World} {v : Value} {L : List Tk}
theorem TokIn.below (h : TokIn w v L) (hb : Below w.heap.size w w') : TokIn w' v L := by
  obtain ⟨cs, h1, h2⟩ := h
  exact ⟨cs, h1.below hb, h2.below hb⟩
theorem TokIn.form (h : TokIn w v L) : ∃ a c, v = .slice a L.length c := by
  obtain ⟨cs, h1, h2⟩ := h
  exact h1.form
theorem TokIn.of {B m : Nat} (h : OwnT w B m v L) : TokIn w v L := by
  obtain ⟨cs, h1, h2, h3⟩ := h
  exact ⟨cs, RowIn.of_own h1 (TkCs.one (.of h3)), .of h3⟩
theorem TokIn.nil (w : World) (a : Option Addr) (c : Nat) : TokIn w (.slice a 0 c) [] := ⟨[], ⟨rfl, (fun _ h => by cases h), .inl ⟨⟨a, c, rfl⟩, rfl⟩⟩, rfl⟩
/-- The cells of a row's k-th token. -/
theorem TokIn.at {a : Option Addr} {c : Nat} (h : TokIn w (.slice a L.length c) L) {k : Nat} (hk : k < L.length) : ∃ B off av, a = some ⟨B, off, none⟩ ∧ w.cell? ⟨B, off + k * 5, none⟩ = some (.int .i64 L[k].k) ∧ w.cell? ⟨B, off + k * 5 + 1, none⟩ = some (strV L[k].n) ∧ w.cell? ⟨B, off + k * 5 + 2, none⟩ = some (strV L[k].d) ∧ w.cell? ⟨B, off + k * 5 + 3, none⟩ = some av ∧ w.cell? ⟨B, off + k * 5 + 4, none⟩ = some (.bool L[k].c) ∧ AtIn w av L[k].a := by
  obtain ⟨cs, h1, h2⟩ := h
  obtain ⟨av, k1, k2⟩ := h2.at k hk
  rcases h1.2.2 with ⟨_, e⟩ | ⟨B, off, cap, e1, e2⟩
  · omega
  · cases e1
    exact ⟨B, off, av, rfl, e2 _ _ (k1 0 _ rfl), by rw [Nat.add_assoc]; exact e2 _ _ (k1 1 _ rfl), by rw [Nat.add_assoc]; exact e2 _ _ (k1 2 _ rfl), by rw [Nat.add_assoc]; exact e2 _ _ (k1 3 _ rfl), by rw [Nat.add_assoc]; exact e2 _ _ (k1 4 _ rfl), k2⟩
end

/-! ### how long tokens' text is -/
theorem encT_len6 (l : List UInt8) : (encT l).length ≤ 6 * l.length := (encT_len l).2
theorem attrT_len (y : List UInt8 × List UInt8) : (attrT y).length ≤ 6 * (y.1.length + y.2.length + 5) := by
  have := encT_len6 y.2
  unfold attrT
  simp only [List.length_append, List.length_cons, List.length_nil]
  omega
theorem attrs_lenT : ∀ A : List (List UInt8 × List UInt8), (A.flatMap attrT).length ≤ 6 * wA A
  | [] => Nat.zero_le _
  | y :: A => by
    have h1 := attrs_lenT A
    have h2 := attrT_len y
    simp only [List.flatMap_cons, List.length_append, wA, List.map_cons, List.sum_cons] at h1 ⊢
    omega
theorem printT_len (hard : Bool) (t : Tk) : (printT hard t).length ≤ 6 * wT t := by
  have h1 := encT_len6 t.d
  have h2 := attrs_lenT t.a
  unfold printT wT startT
  split
  · split <;> omega
  · split
    · cases t.c <;> simp only [List.length_append, List.length_cons, List.length_nil, if_true, Bool.false_eq_true, if_false] <;> omega
    · split
      · simp only [List.length_append, List.length_cons, List.length_nil]; omega
      · split
        · simp only [List.length_append, List.length_cons, List.length_nil]; omega
        · split
          · simp only [List.length_append, List.length_cons, List.length_nil]; omega
          · exact Nat.zero_le _
theorem printF_len : ∀ (b : Option Tk) (L : List Tk), (printF b L).length ≤ 6 * wL L
  | _, [] => Nat.zero_le _
  | b, t :: L => by
    have h1 := printF_len (some t) L
    have h2 := printT_len (hardM b) t
    unfold printF
    simp only [List.length_append, wL, List.map_cons, List.sum_cons] at h1 ⊢
    omega

/-! ### a builder in a block of its own -/
def BO (w : World) (B R : Nat) (H : List UInt8) : Prop := (∃ p bv, BD w B R 0 H #[p, bv] 48 p bv) ∧ B ≤ R
theorem liesO : liesAt Tryz.prog Tryz.prog.depth 48 (2 / Tryz.prog.cellsOf 48) 0 48 1 = true := by kernel_rfl
theorem BO.new (w : World) : BO (w.alloc (.cells #[.pointer none, .slice none 0 0] 48)) w.heap.size w.heap.size [] := ⟨⟨.pointer none, .slice none 0 0, new_block w _, rfl, rfl, .inl rfl, World.ownsRow_nil _ _ _ _, fun _ => rfl⟩, Nat.le_refl _⟩
theorem BO.low {w : World} {B B' R : Nat} {H : List UInt8} (h : BO w B R H) (hB : B' ≤ B) : BO w B' R H := by
  obtain ⟨⟨p, bv, h⟩, hR⟩ := h
  exact ⟨⟨p, bv, h.blk, h.c0, h.c1, h.own, ownsRow_low h.row hB, h.nil⟩, Nat.le_trans hB hR⟩
theorem BO.below {w w' : World} {B R : Nat} {H : List UInt8} (h : BO w B R H) (hb : Below w.heap.size w w') : BO w' B R H := by
  obtain ⟨⟨p, bv, h⟩, hR⟩ := h
  exact ⟨⟨p, bv, by rw [hb.block R (lt_of_block h.blk)]; exact h.blk, h.c0, h.c1, h.own, ownsRow_below h.row hb, h.nil⟩, hR⟩
theorem writeO_hid (T : ByteArray) : Hid (∀ W B R H, BO W B R H → B ≤ W.heap.size → H.length + T.size ≤ 140737488355328 → Calls Tryz.prog 30 #[.pointer (some ⟨R, 0, none⟩), .string T] W fun e w' => e = .returned (.tuple #[.int .i64 T.size, .nilIface]) ∧ BO w' B R (H ++ T.data.toList) ∧ Kp (wrB B R) W w') := Lib.hid fun W B R H h hB hl => by
  obtain ⟨⟨p, bv, h⟩, hR⟩ := h
  refine (write_any B R 0 H _ _ p bv T W h hB (by decide) hl liesO).mono ?_
  rintro e w' ⟨rfl, bv', bd, k⟩
  exact ⟨rfl, ⟨⟨_, bv', bd⟩, hR⟩, k⟩
theorem stringO_hid : Hid (∀ W B R H, BO W B R H → Calls Tryz.prog 32 #[.pointer (some ⟨R, 0, none⟩)] W fun e w' => e = .returned (.string ⟨H.toArray⟩) ∧ Kp (fun k t' => B ≤ k ∧ t' = 5) W w') := Lib.hid fun W B R H h => by
  obtain ⟨⟨p, bv, h⟩, hR⟩ := h
  exact string_any B R 0 H _ _ p bv W h
theorem wrB_below {w w' : World} {B R : Nat} (k : Kp (wrB B R) w w') (hR : B ≤ R) (hB : B ≤ w.heap.size) : Below B w w' := k.below (fun j t e => by
  rcases e with rfl | e
  · exact hR
  · exact e.1) hB

end Go.Proofs.YtgbilfbonliipaaGreatDoor
