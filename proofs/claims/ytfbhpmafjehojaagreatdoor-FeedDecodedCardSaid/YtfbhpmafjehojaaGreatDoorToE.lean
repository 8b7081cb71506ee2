/- Rows of tokens and of attributes that are read. Rows that are the same: attributes, tokens, Fails. The laws' own: whether a text tells these tokens; the document's rows. The document's Print. -/
import Derived.Test.YtfbhpmafjehojaaGreatDoorTokAE
namespace Go.Proofs.YtfbhpmafjehojaaGreatDoor
open Go.RowKit

/-- A slice that reads as these cells. -/
def RowIn (w : World) (u : Value) (m size : Nat) (cs : List Value) : Prop := cs.length = m * size ∧ (∀ v ∈ cs, v.oneCell' = true) ∧ (((∃ a c, u = .slice a 0 c) ∧ m = 0) ∨ ∃ B off cap, u = .slice (some ⟨B, off, none⟩) m cap ∧ ∀ j v, cs[j]? = some v → w.cell? ⟨B, off + j, none⟩ = some v)
section
variable {w w' : World} {u : Value} {m size : Nat} {cs : List Value}
theorem RowIn.below (h : RowIn w u m size cs) (hb : Below w.heap.size w w') : RowIn w' u m size cs := by
  refine ⟨h.1, h.2.1, ?_⟩
  rcases h.2.2 with h | ⟨B, off, cap, h1, h2⟩
  · exact .inl h
  · exact .inr ⟨B, off, cap, h1, fun j v hj => by rw [hb.cell (lt_of_cell (h2 j v hj))]; exact h2 j v hj⟩
theorem RowIn.on {B : Nat} (h : RowIn w u m size cs) (hB : w.heap.size ≤ B) (hb : Below B w w') : RowIn w' u m size cs := h.below (hb.mono hB)
theorem RowIn.form (h : RowIn w u m size cs) : ∃ a c, u = .slice a m c := by
  rcases h.2.2 with ⟨⟨a, c, rfl⟩, rfl⟩ | ⟨B, off, cap, rfl, _⟩
  · exact ⟨_, _, rfl⟩
  · exact ⟨_, _, rfl⟩
theorem RowIn.of_own {base : Nat} {e : TypeId} (h : w.ownsRow base e size u m cs) (h1 : ∀ v ∈ cs, v.oneCell' = true) : RowIn w u m size cs := by
  refine ⟨h.1, h1, ?_⟩
  rcases rowForms h with ⟨e1, e2⟩ | ⟨g, cap, rfl⟩
  · exact .inl ⟨⟨_, _, e1⟩, e2⟩
  · refine .inr ⟨g, 0, cap, rfl, fun j v hj => ?_⟩
    have hlt := (List.getElem?_eq_some_iff.1 hj).1
    have hl := h.1
    rw [Nat.zero_add, h.cellAt j (by omega)]
    exact hj
theorem RowIn.at {a : Option Addr} {c : Nat} (h : RowIn w (.slice a m c) m size cs) {k j : Nat} (hk : k < m) {v : Value} (hv : cs[k * size + j]? = some v) : ∃ B off, a = some ⟨B, off, none⟩ ∧ w.cell? ⟨B, off + (k * size + j), none⟩ = some v := by
  rcases h.2.2 with ⟨_, h2⟩ | ⟨B, off, cap, h1, h2⟩
  · omega
  · cases h1
    exact ⟨B, off, rfl, h2 _ v hv⟩
end
/-- Attributes that are read. -/
def AtIn (w : World) (av : Value) (A : List (List UInt8 × List UInt8)) : Prop := RowIn w av A.length 2 (atC A)
theorem atC_one : ∀ (A : List (List UInt8 × List UInt8)), ∀ v ∈ atC A, v.oneCell' = true := fun A v hv => by
  unfold atC at hv
  rw [List.mem_flatMap] at hv
  obtain ⟨y, _, hy⟩ := hv
  simp at hy
  rcases hy with rfl | rfl <;> rfl
theorem AtIn.below {w w' : World} {av : Value} {A : List (List UInt8 × List UInt8)} (h : AtIn w av A) (hb : Below w.heap.size w w') : AtIn w' av A := RowIn.below h hb
theorem AtIn.form {w : World} {av : Value} {A : List (List UInt8 × List UInt8)} (h : AtIn w av A) : ∃ a c, av = .slice a A.length c := RowIn.form h
theorem AtIn.of {w : World} {B m : Nat} {av : Value} {A : List (List UInt8 × List UInt8)} (h : AttrsBy w B m av A) : AtIn w av A := RowIn.of_own h.1 (atC_one A)
theorem AtIn.nil (w : World) (a : Option Addr) (c : Nat) : AtIn w (.slice a 0 c) [] := ⟨rfl, (fun _ h => by cases h), .inl ⟨⟨a, c, rfl⟩, rfl⟩⟩
theorem AtIn.at {w : World} {a : Option Addr} {c : Nat} {A : List (List UInt8 × List UInt8)} (h : AtIn w (.slice a A.length c) A) {k : Nat} (hk : k < A.length) : ∃ B off, a = some ⟨B, off, none⟩ ∧ w.cell? ⟨B, off + k * 2, none⟩ = some (strV A[k].1) ∧ w.cell? ⟨B, off + k * 2 + 1, none⟩ = some (strV A[k].2) := by
  obtain ⟨e1, e2⟩ := atC_at A k hk
  obtain ⟨B, off, h1, h2⟩ := RowIn.at h hk (j := 0) e1
  obtain ⟨B', off', h1', h2'⟩ := RowIn.at h hk (j := 1) e2
  rw [h1] at h1'
  cases h1'
  exact ⟨B, off, h1, h2, by rw [Nat.add_assoc]; exact h2'⟩
/-- Tokens' cells. -/
def TkCs (w : World) : List Tk → List Value → Prop
  | [], cs => cs = []
  | t :: T, cs => ∃ av r, cs = tkC t av ++ r ∧ AtIn w av t.a ∧ TkCs w T r
theorem TkCs.below {w w' : World} (hb : Below w.heap.size w w') : ∀ {T : List Tk} {cs : List Value}, TkCs w T cs → TkCs w' T cs
  | [], _, h => h
  | _ :: _, _, ⟨av, r, h1, h2, h3⟩ => ⟨av, r, h1, h2.below hb, h3.below hb⟩
theorem TkCs.of {w : World} {B m : Nat} : ∀ {T : List Tk} {cs : List Value}, TRow w B m T cs → TkCs w T cs
  | [], _, h => h
  | _ :: _, _, ⟨av, r, h1, h2, h3⟩ => ⟨av, r, h1, .of h2, TkCs.of h3⟩
theorem TkCs.len {w : World} : ∀ {T : List Tk} {cs : List Value}, TkCs w T cs → cs.length = T.length * 5
  | [], _, h => by rw [show _ = [] from h]; rfl
  | _ :: T, _, ⟨av, r, h1, h2, h3⟩ => by
    have := TkCs.len h3
    rw [h1, List.length_append, List.length_cons, this]
    show 5 + _ = _
    omega
theorem TkCs.one {w : World} : ∀ {T : List Tk} {cs : List Value}, TkCs w T cs → ∀ v ∈ cs, v.oneCell' = true
  | [], _, h, v, hv => by rw [show _ = [] from h] at hv; cases hv
  | t :: T, _, ⟨av, r, h1, h2, h3⟩, v, hv => by
    rw [h1, List.mem_append] at hv
    rcases hv with hv | hv
    · obtain ⟨a, c, rfl⟩ := h2.form
      unfold tkC at hv
      simp at hv
      rcases hv with rfl | rfl | rfl | rfl | rfl <;> rfl
    · exact TkCs.one h3 v hv
theorem TkCs.at {w : World} : ∀ {T : List Tk} {cs : List Value}, TkCs w T cs → ∀ (i : Nat) (h : i < T.length), ∃ av, (∀ j v, (tkC T[i] av)[j]? = some v → cs[i * 5 + j]? = some v) ∧ AtIn w av T[i].a
  | t :: T, _, ⟨av, r, h1, h2, h3⟩, 0, _ => ⟨av, fun j v hj => by
    have hj' : (tkC t av)[j]? = some v := hj
    rw [h1, Nat.zero_mul, Nat.zero_add, List.getElem?_append_left (List.getElem?_eq_some_iff.1 hj').1]
    exact hj', h2⟩
  | t :: T, _, ⟨av, r, h1, h2, h3⟩, i + 1, h => by
    obtain ⟨av', k1, k2⟩ := TkCs.at h3 i (by simpa using h)
    refine ⟨av', fun j v hj => ?_, k2⟩
    have h5 : (tkC t av).length = 5 := rfl
    rw [h1, List.getElem?_append_right (by omega), h5, show (i + 1) * 5 + j - 5 = i * 5 + j by omega]
    exact k1 j v hj
/-- Tokens that are read. -/
def TokIn (w : World) (v : Value) (L : List Tk) : Prop := ∃ cs, RowIn w v L.length 5 cs ∧ TkCs w L cs
section
variable {w w' : World} {v : Value} {L : List Tk}
theorem TokIn.below (h : TokIn w v L) (hb : Below w.heap.size w w') : TokIn w' v L := by
  obtain ⟨cs, h1, h2⟩ := h
  exact ⟨cs, h1.below hb, h2.below hb⟩
theorem TokIn.form (h : TokIn w v L) : ∃ a c, v = .slice a L.length c := by
  obtain ⟨cs, h1, h2⟩ := h
  exact h1.form
theorem TokIn.of {B m : Nat} (h : OwnT w B m v L) : TokIn w v L := by
  obtain ⟨cs, h1, h2, h3⟩ := h
  exact ⟨cs, RowIn.of_own h1 (TkCs.one (.of h3)), .of h3⟩
theorem TokIn.nil (w : World) (a : Option Addr) (c : Nat) : TokIn w (.slice a 0 c) [] := ⟨[], ⟨rfl, (fun _ h => by cases h), .inl ⟨⟨a, c, rfl⟩, rfl⟩⟩, rfl⟩
/-- The cells of a row's k-th token. -/
theorem TokIn.at {a : Option Addr} {c : Nat} (h : TokIn w (.slice a L.length c) L) {k : Nat} (hk : k < L.length) : ∃ B off av, a = some ⟨B, off, none⟩ ∧ w.cell? ⟨B, off + k * 5, none⟩ = some (.int .i64 L[k].k) ∧ w.cell? ⟨B, off + k * 5 + 1, none⟩ = some (strV L[k].n) ∧ w.cell? ⟨B, off + k * 5 + 2, none⟩ = some (strV L[k].d) ∧ w.cell? ⟨B, off + k * 5 + 3, none⟩ = some av ∧ w.cell? ⟨B, off + k * 5 + 4, none⟩ = some (.bool L[k].c) ∧ AtIn w av L[k].a := by
  obtain ⟨cs, h1, h2⟩ := h
  obtain ⟨av, k1, k2⟩ := h2.at k hk
  rcases h1.2.2 with ⟨_, e⟩ | ⟨B, off, cap, e1, e2⟩
  · omega
  · cases e1
    exact ⟨B, off, av, rfl, e2 _ _ (k1 0 _ rfl), by rw [Nat.add_assoc]; exact e2 _ _ (k1 1 _ rfl), by rw [Nat.add_assoc]; exact e2 _ _ (k1 2 _ rfl), by rw [Nat.add_assoc]; exact e2 _ _ (k1 3 _ rfl), by rw [Nat.add_assoc]; exact e2 _ _ (k1 4 _ rfl), k2⟩
end

/-! ### how long tokens' text is -/
/-! ### a builder in a block of its own -/
def BO (w : World) (B R : Nat) (H : List UInt8) : Prop := (∃ p bv, BD w B R 0 H #[p, bv] 65 p bv) ∧ B ≤ R
theorem BO.new (w : World) : BO (w.alloc (.cells #[.pointer none, .slice none 0 0] 65)) w.heap.size w.heap.size [] := ⟨⟨.pointer none, .slice none 0 0, new_block w _, rfl, rfl, .inl rfl, World.ownsRow_nil _ _ _ _, fun _ => rfl⟩, Nat.le_refl _⟩
theorem BO.low {w : World} {B B' R : Nat} {H : List UInt8} (h : BO w B R H) (hB : B' ≤ B) : BO w B' R H := by
  obtain ⟨⟨p, bv, h⟩, hR⟩ := h
  exact ⟨⟨p, bv, h.blk, h.c0, h.c1, h.own, ownsRow_low h.row hB, h.nil⟩, Nat.le_trans hB hR⟩
theorem BO.below {w w' : World} {B R : Nat} {H : List UInt8} (h : BO w B R H) (hb : Below w.heap.size w w') : BO w' B R H := by
  obtain ⟨⟨p, bv, h⟩, hR⟩ := h
  exact ⟨⟨p, bv, by rw [hb.block R (lt_of_block h.blk)]; exact h.blk, h.c0, h.c1, h.own, ownsRow_below h.row hb, h.nil⟩, hR⟩
end Go.Proofs.YtfbhpmafjehojaaGreatDoor

namespace Go.Proofs.YtfbhpmafjehojaaGreatDoor
open Go.RowKit

/-- Fails that are read. -/
def FailIn (w : World) (v : Value) (F : List Fl) : Prop := RowIn w v F.length 2 (flC F)
theorem flC_one (F : List Fl) : ∀ v ∈ flC F, v.oneCell' = true := fun v hv => by
  unfold flC at hv
  rw [List.mem_flatMap] at hv
  obtain ⟨y, _, hy⟩ := hv
  simp at hy
  rcases hy with rfl | rfl <;> rfl
theorem flC_at : ∀ (F : List Fl) (i : Nat) (h : i < F.length), (flC F)[i * 2]? = some (.int .i64 F[i].1) ∧ (flC F)[i * 2 + 1]? = some (.int .i64 (F[i].2 : Int))
  | y :: r, 0, _ => ⟨rfl, rfl⟩
  | y :: r, i + 1, h => by
    have := flC_at r i (by simpa using h)
    rw [show flC (y :: r) = [.int .i64 y.1, .int .i64 (y.2 : Int)] ++ flC r from rfl]
    rw [List.getElem?_append_right (by simp; omega), List.getElem?_append_right (by simp; omega)]
    simp only [List.length_cons, List.length_nil, List.getElem_cons_succ]
    rw [show (i + 1) * 2 - (0 + 1 + 1) = i * 2 by omega, show (i + 1) * 2 + 1 - (0 + 1 + 1) = i * 2 + 1 by omega]
    exact this
theorem FailIn.of {w : World} {base : Nat} {v : Value} {F : List Fl} (h : w.ownsRow base 50 2 v F.length (flC F)) : FailIn w v F := RowIn.of_own h (flC_one F)
theorem FailIn.below {w w' : World} {v : Value} {F : List Fl} (h : FailIn w v F) (hb : Below w.heap.size w w') : FailIn w' v F := RowIn.below h hb
theorem FailIn.form {w : World} {v : Value} {F : List Fl} (h : FailIn w v F) : ∃ a c, v = .slice a F.length c := RowIn.form h
theorem FailIn.nil (w : World) (a : Option Addr) (c : Nat) : FailIn w (.slice a 0 c) [] := ⟨rfl, (fun _ h => by cases h), .inl ⟨⟨a, c, rfl⟩, rfl⟩⟩
theorem FailIn.at {w : World} {a : Option Addr} {c : Nat} {F : List Fl} (h : FailIn w (.slice a F.length c) F) {k : Nat} (hk : k < F.length) : ∃ B off, a = some ⟨B, off, none⟩ ∧ w.cell? ⟨B, off + k * 2, none⟩ = some (.int .i64 F[k].1) ∧ w.cell? ⟨B, off + k * 2 + 1, none⟩ = some (.int .i64 (F[k].2 : Int)) := by
  obtain ⟨e1, e2⟩ := flC_at F k hk
  obtain ⟨B, off, h1, h2⟩ := RowIn.at h hk (j := 0) e1
  obtain ⟨B', off', h1', h2'⟩ := RowIn.at h hk (j := 1) e2
  rw [h1] at h1'
  cases h1'
  exact ⟨B, off, h1, h2, by rw [Nat.add_assoc]; exact h2'⟩

set_option maxRecDepth 100000 in
set_option maxHeartbeats 4000000 in
theorem failsG_hid (F : List Fl) (hl : F.length ≤ 100000000) : Hid (∀ W u v, FailIn W u F → FailIn W v F → Calls Tryz.prog 13 #[u, v] W fun e w' => e = .returned (.bool true) ∧ Below W.heap.size W w') := Lib.hid fun w u v hu hv => by
  obtain ⟨a0, q0, rfl⟩ := hu.form
  obtain ⟨a1, q1, rfl⟩ := hv.form
  have HU := Lib.hid hu
  have HV := Lib.hid hv
  have g0 : ((F.length : Int) != (F.length : Int)) = false := by simp
  clear hu hv
  go_enter Tryz.func13, Tryz.ntmps13
  go_wp2
  go_loopw [5] (fun i wr => ∃ k n : Nat, i = .int .i64 k ∧ k ≤ F.length ∧ wr = w.drewN n) (fun i _ => F.length - (intOf i).toNat)
  case atStart => exact ⟨0, 0, rfl, Nat.zero_le _, rfl⟩
  case round =>
    obtain ⟨k, n, rfl, hk, rfl⟩ := hrel
    by_cases hlt : k < F.length
    · obtain ⟨B, off, rfl, c1, c2⟩ := HU.out.at hlt
      obtain ⟨B', off', rfl, d1, d2⟩ := HV.out.at hlt
      have hix : (k : Int) < (F.length : Int) := by omega
      generalize (F[k].2 : Int) = x at *
      generalize F[k].1 = y at *
      have g : (x != x) = false := by simp
      have g' : (y != y) = false := by simp
      go_wp2_with fail
      go_quiet (fail)
      go_wp2
      go_roundw
      case rel => exact ⟨k + 1, n + nq, by go_num, by omega, rfl⟩
      case measure => simp [intOf]; omega
    · obtain rfl : k = F.length := by omega
      go_wp2
      go_ret
      exact ⟨rfl, belowN (Below.refl _ _) _⟩

set_option maxRecDepth 100000 in
set_option maxHeartbeats 4000000 in
theorem attrsG_hid (A : List (List UInt8 × List UInt8)) (hl : A.length ≤ 100000000) : Hid (∀ W u v, AtIn W u A → AtIn W v A → Calls Tryz.prog 33 #[u, v] W fun e w' => e = .returned (.bool true) ∧ Below W.heap.size W w') := Lib.hid fun w u v hu hv => by
  obtain ⟨a0, q0, rfl⟩ := hu.form
  obtain ⟨a1, q1, rfl⟩ := hv.form
  have HU := Lib.hid hu
  have HV := Lib.hid hv
  have g0 : ((A.length : Int) != (A.length : Int)) = false := by simp
  clear hu hv
  go_enter Tryz.func33, Tryz.ntmps33
  go_wp2
  go_loopw [5] (fun i wr => ∃ k n : Nat, i = .int .i64 k ∧ k ≤ A.length ∧ wr = w.drewN n) (fun i _ => A.length - (intOf i).toNat)
  case atStart => exact ⟨0, 0, rfl, Nat.zero_le _, rfl⟩
  case round =>
    obtain ⟨k, n, rfl, hk, rfl⟩ := hrel
    by_cases hlt : k < A.length
    · obtain ⟨B, off, rfl, c1, c2⟩ := HU.out.at hlt
      obtain ⟨B', off', rfl, d1, d2⟩ := HV.out.at hlt
      obtain ⟨X, hX⟩ := text_of A[k].1
      obtain ⟨V, hV⟩ := text_of A[k].2
      rw [strV_of hX] at c1 d1
      rw [strV_of hV] at c2 d2
      have hix : (k : Int) < (A.length : Int) := by omega
      clear hX hV
      go_wp2_with fail
      go_quiet (fail)
      go_wp2
      go_roundw
      case rel => exact ⟨k + 1, n + nq, by go_num, by omega, rfl⟩
      case measure => simp [intOf]; omega
    · obtain rfl : k = A.length := by omega
      go_wp2
      go_ret
      exact ⟨rfl, belowN (Below.refl _ _) _⟩

set_option maxRecDepth 100000 in
set_option maxHeartbeats 4000000 in
theorem oneG_hid (k : Int) (N D : ByteArray) (A : List (List UInt8 × List UInt8)) (c : Bool) (hl : A.length ≤ 100000000) : Hid (∀ W u v, AtIn W u A → AtIn W v A → Calls Tryz.prog 22 #[.agg #[.int .i64 k, .string N, .string D, u, .bool c], .agg #[.int .i64 k, .string N, .string D, v, .bool c]] W fun e w' => e = .returned (.bool true) ∧ Below W.heap.size W w') := Lib.hid fun w u v hu hv => by
  obtain ⟨a0, q0, rfl⟩ := hu.form
  obtain ⟨a1, q1, rfl⟩ := hv.form
  have al1 := (Below.refl w.heap.size w).alloc (Nat.le_refl _) (.cells #[.int .i64 k, .string N, .string D, .slice a0 A.length q0, .bool c] 47)
  have hb1 := new_block w (.cells #[.int .i64 k, .string N, .string D, .slice a0 A.length q0, .bool c] 47)
  have hs1 : (w.alloc (.cells #[.int .i64 k, .string N, .string D, .slice a0 A.length q0, .bool c] 47)).heap.size = w.heap.size + 1 := by simp
  generalize hw1 : w.alloc (.cells #[.int .i64 k, .string N, .string D, .slice a0 A.length q0, .bool c] 47) = w1 at al1 hb1 hs1
  have al2 := (Below.refl w1.heap.size w1).alloc (Nat.le_refl _) (.cells #[.int .i64 k, .string N, .string D, .slice a1 A.length q1, .bool c] 47)
  have hb2 := new_block w1 (.cells #[.int .i64 k, .string N, .string D, .slice a1 A.length q1, .bool c] 47)
  have hb1' := (al2.block _ (lt_of_block hb1)).trans hb1
  have hbel := al1.trans (al2.mono (by omega))
  rw [hs1] at hb2
  have HB := Lib.hid (And.intro hbel (And.intro (hu.below hbel) (hv.below hbel)))
  have CA := attrsG_hid A hl
  have e0 := cell_of hb1' 0
  have e1 := cell_of hb1' 1
  have e2 := cell_of hb1' 2
  have e3 := cell_of hb1' 3
  have e4 := cell_of hb1' 4
  have f0 := cell_of hb2 0
  have f1 := cell_of hb2 1
  have f2 := cell_of hb2 2
  have f3 := cell_of hb2 3
  have f4 := cell_of hb2 4
  have g1 : (k == k) = true := by simp
  have g2 : (N.toList == N.toList) = true := by simp
  have g3 : (D.toList == D.toList) = true := by simp
  have g4 : (c == c) = true := by simp
  subst hw1
  clear hu hv al1 al2 hb1 hb2 hb1' hbel hs1
  go_enter Tryz.func22, Tryz.ntmps22
  go_wp2_with fail
  (with_reducible refine (CA.out _ _ _ HB.out.2.1 HB.out.2.2).mono ?_)
  rintro e w3 ⟨rfl, b3⟩
  have b4 := HB.out.1.trans (b3.mono HB.out.1.size)
  clear b3 HB CA
  go_wp2
  go_ret
  exact ⟨rfl, b4⟩

set_option maxRecDepth 100000 in
set_option maxHeartbeats 4000000 in
theorem sameG_hid (L : List Tk) (hl : L.length ≤ 100000000) (ha : ∀ t ∈ L, t.a.length ≤ 100000000) : Hid (∀ W u v, TokIn W u L → TokIn W v L → Calls Tryz.prog 12 #[u, v] W fun e w' => e = .returned (.bool true) ∧ Below W.heap.size W w') := Lib.hid fun w u v hu hv => by
  obtain ⟨a0, q0, rfl⟩ := hu.form
  obtain ⟨a1, q1, rfl⟩ := hv.form
  have HU := Lib.hid hu
  have HV := Lib.hid hv
  have HA := Lib.hid ha
  have g0 : ((L.length : Int) != (L.length : Int)) = false := by simp
  clear hu hv ha
  go_enter Tryz.func12, Tryz.ntmps12
  go_wp2
  go_loopw [5] (fun i wr => ∃ k : Nat, i = .int .i64 k ∧ k ≤ L.length ∧ Hid (Below w.heap.size w wr)) (fun i _ => L.length - (intOf i).toNat)
  case atStart => exact ⟨0, rfl, Nat.zero_le _, Lib.hid (Below.refl _ _)⟩
  case round =>
    obtain ⟨k, rfl, hk, HB⟩ := hrel
    by_cases hlt : k < L.length
    · obtain ⟨B, off, av, rfl, c0, c1, c2, c3, c4, c5⟩ := (HU.out.below HB.out).at hlt
      obtain ⟨B', off', bv, rfl, d0, d1, d2, d3, d4, d5⟩ := (HV.out.below HB.out).at hlt
      obtain ⟨X, hX⟩ := text_of L[k].n
      obtain ⟨V, hV⟩ := text_of L[k].d
      rw [strV_of hX] at c1 d1
      rw [strV_of hV] at c2 d2
      obtain ⟨x0, y0, rfl⟩ := c5.form
      obtain ⟨x1, y1, rfl⟩ := d5.form
      have hix : (k : Int) < (L.length : Int) := by omega
      have CO := oneG_hid L[k].k X V L[k].a L[k].c (HA.out _ (List.getElem_mem hlt))
      have hbd : Below wr.heap.size wr wr.drew := (Below.refl _ _).drew
      have CC := Lib.hid (CO.out wr.drew _ _ (c5.below hbd) (d5.below hbd))
      generalize L[k].k = tk at *
      generalize L[k].c = tc at *
      generalize L[k].a = ta at *
      clear hX hV CO hbd c5 d5
      go_wp2_with fail
      go_region_law (go_simp
                     go_at_call 22
                     (with_reducible refine CC.out.mono ?_)
                     rintro e w3 ⟨rfl, b3⟩
                     have H3 := Lib.hid (HB.out.trans (((Below.refl _ _).drew.trans b3).mono HB.out.size))
                     clear b3)
      all_goals
        clear CC c0 c1 c2 c3 c4 d0 d1 d2 d3 d4 HB
        go_wp2
        go_roundw
        case rel => exact ⟨k + 1, by go_num, by omega, H3⟩
        case measure => simp [intOf]; omega
    · obtain rfl : k = L.length := by omega
      go_wp2
      go_ret
      exact ⟨rfl, HB.out⟩

end Go.Proofs.YtfbhpmafjehojaaGreatDoor

namespace Go.Proofs.YtfbhpmafjehojaaGreatDoor
open Go.RowKit

/-- A row in a block that is new. -/
theorem RowIn.made (w : World) (C : Array Value) (e : TypeId) (m size : Nat) (hl : C.toList.length = m * size) (h1 : ∀ v ∈ C.toList, v.oneCell' = true) : RowIn (w.alloc (.cells C e)) (.slice (some ⟨w.heap.size, 0, none⟩) m m) m size C.toList := by
  refine ⟨hl, h1, .inr ⟨_, 0, m, rfl, fun j v hj => ?_⟩⟩
  rw [Nat.zero_add, World.cell?_alloc_mark, ← hj]
  simp

/-! ### the document's rows -/
/-- Tokens without attributes, and the one with two. -/
theorem TkCs.plain {w : World} (k : Int) (n d : List UInt8) (c : Bool) {T : List Tk} {cs : List Value} (h : TkCs w T cs) : TkCs w (⟨k, n, d, [], c⟩ :: T) (.int .i64 k :: strV n :: strV d :: .slice none 0 0 :: .bool c :: cs) := ⟨.slice none 0 0, cs, rfl, AtIn.nil _ _ _, h⟩
theorem TkCs.none (w : World) : TkCs w [] [] := rfl

/-- A row of tokens laid. -/
theorem laid1 (w : World) (C : Array Value) (L : List Tk) (hC : TkCs w L C.toList) (m : Nat) (hm : m = L.length) : TokIn (w.alloc (.cells C 47)) (.slice (some ⟨w.heap.size, 0, none⟩) m m) L ∧ Below w.heap.size w (w.alloc (.cells C 47)) := by
  subst hm
  have al := (Below.refl w.heap.size w).alloc (Nat.le_refl _) (.cells C 47)
  exact ⟨⟨C.toList, RowIn.made w C _ L.length 5 hC.len hC.one, hC.below al⟩, al⟩
end Go.Proofs.YtfbhpmafjehojaaGreatDoor

namespace Go.Proofs.YtfbhpmafjehojaaGreatDoor
open Go.RowKit

theorem wA_len (A : List (List UInt8 × List UInt8)) : A.length ≤ wA A := by
  induction A with
  | nil => exact Nat.le_refl _
  | cons y B ih =>
    simp only [wA, List.map_cons, List.sum_cons, List.length_cons] at ih ⊢
    omega

end Go.Proofs.YtfbhpmafjehojaaGreatDoor
