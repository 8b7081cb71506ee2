/- A directive's name, a word: the document's. Rows of texts that came in, appended; rows of directives; a name found: the document's. Policies held against each other: the document's. Policies that are too big to be looked at: the document's. Rows of directives, of policies, that a function makes itself: what is in them lies in other blocks than the row that grows. A policy in memory of its own: the document's. A directive of a part: the document's. -/
import Derived.Test.YthnogdodlhkldaaGreatDoorFoldZ
import Derived.Test.YthnogdodlhkldaaGreatDoorPureA
import Derived.Deep.LoopGhost
import Derived.Deep.AppendLies
import Derived.Deep.RegionLaw
import Derived.Shelf.Strings.FieldsFuncAny
namespace Go.Proofs.YthnogdodlhkldaaGreatDoor
open Go.RowKit

theorem wB_cases (b : UInt8) : (wB b = true ∧ 33 ≤ (b.toNat : Int) ∧ (b.toNat : Int) ≤ 126 ∧ ((b.toNat : Int) == 44) = false ∧ ((b.toNat : Int) == 59) = false) ∨ (wB b = false ∧ ((b.toNat : Int) < 33 ∨ 126 < (b.toNat : Int) ∨ (33 ≤ (b.toNat : Int) ∧ (b.toNat : Int) ≤ 126 ∧ ((b.toNat : Int) == 44) = true) ∨ (33 ≤ (b.toNat : Int) ∧ (b.toNat : Int) ≤ 126 ∧ ((b.toNat : Int) == 44) = false ∧ ((b.toNat : Int) == 59) = true))) := by
  have e1 : (b == 44) = ((b.toNat : Int) == 44) := (int_beq b 44).symm
  have e2 : (b == 59) = ((b.toNat : Int) == 59) := (int_beq b 59).symm
  unfold wB
  rw [e1, e2]
  by_cases h1 : 33 ≤ b.toNat ∧ b.toNat ≤ 126
  · rw [decide_eq_true h1]
    cases g1 : ((b.toNat : Int) == 44)
    · cases g2 : ((b.toNat : Int) == 59)
      · exact .inl ⟨rfl, by omega, by omega, rfl, rfl⟩
      · exact .inr ⟨rfl, .inr (.inr (.inr ⟨by omega, by omega, rfl, rfl⟩))⟩
    · exact .inr ⟨rfl, .inr (.inr (.inl ⟨by omega, by omega, rfl⟩))⟩
  · rw [decide_eq_false h1]
    exact .inr ⟨rfl, by omega⟩

end Go.Proofs.YthnogdodlhkldaaGreatDoor

namespace Go.Proofs.YthnogdodlhkldaaGreatDoor
open Go.RowKit

/-! Directives, in memory: two cells each. -/
def DirsIn (w : World) (v : Value) (ds : List D) : Prop :=
  ((∃ a c, v = .slice a 0 c) ∧ ds = []) ∨ ∃ B off cap, v = .slice (some ⟨B, off, none⟩) ds.length cap ∧ ∀ j, (h : j < ds.length) → w.cell? ⟨B, off + j * 2, none⟩ = some (strV ds[j].n) ∧ ∃ u, w.cell? ⟨B, off + j * 2 + 1, none⟩ = some u ∧ TextsIn w u ds[j].w
theorem DirsIn.below {w w' : World} {v : Value} {ds : List D} (h : DirsIn w v ds) (hb : Below w.heap.size w w') : DirsIn w' v ds := by
  rcases h with h | ⟨B, off, cap, h2, h3⟩
  · exact .inl h
  · refine .inr ⟨B, off, cap, h2, fun j hj => ?_⟩
    obtain ⟨k1, u, k2, k3⟩ := h3 j hj
    exact ⟨by rw [hb.cell (lt_of_cell k1)]; exact k1, u, by rw [hb.cell (lt_of_cell k2)]; exact k2, k3.below hb⟩
theorem DirsIn.form {w : World} {v : Value} {ds : List D} (h : DirsIn w v ds) : ∃ a c, v = .slice a ds.length c := by
  rcases h with ⟨⟨a, c, rfl⟩, rfl⟩ | ⟨B, off, cap, rfl, _⟩
  · exact ⟨_, _, rfl⟩
  · exact ⟨_, _, rfl⟩
/-- One directive's cells. -/
theorem DirsIn.at {w : World} {a : Option Addr} {n c : Nat} {ds : List D} (h : DirsIn w (.slice a n c) ds) {j : Nat} (hj : j < ds.length) : ∃ B off u, a = some ⟨B, off, none⟩ ∧ w.cell? ⟨B, off + j * 2, none⟩ = some (strV ds[j].n) ∧ w.cell? ⟨B, off + j * 2 + 1, none⟩ = some u ∧ TextsIn w u ds[j].w := by
  rcases h with ⟨_, h2⟩ | ⟨B, off, cap, h2, h3⟩
  · subst h2; simp at hj
  · cases h2
    obtain ⟨k1, u, k2, k3⟩ := h3 j hj
    exact ⟨B, off, u, rfl, k1, k2, k3⟩
/-- A policy as a value. -/
def polV (d : Value) (r : Bool) : Value := .agg #[d, .bool r]

theorem find_at {ds : List D} {t : List UInt8} {k : Nat} (hk : k < ds.length) (h : ∀ j, (h : j < ds.length) → j < k → ds[j].n ≠ t) (h2 : ds[k].n = t) : ds.find? (fun d => d.n == t) = some ds[k] := by
  rw [List.find?_eq_some_iff_getElem]
  exact ⟨by simp [h2], k, hk, rfl, fun j hj => by simpa using h j (by omega) hj⟩

end Go.Proofs.YthnogdodlhkldaaGreatDoor

namespace Go.Proofs.YthnogdodlhkldaaGreatDoor
open Go.RowKit

theorem DirsIn.drewN {w : World} {v : Value} {ds : List D} (h : DirsIn w v ds) (n : Nat) : DirsIn (w.drewN n) v ds := h
theorem TextsIn.drewN {w : World} {v : Value} {p : List (List UInt8)} (h : TextsIn w v p) (n : Nat) : TextsIn (w.drewN n) v p := h
/-! Rows of policies: two cells each. -/
def PolsIn (w : World) (v : Value) (ps : List (List D × Bool)) : Prop :=
  ((∃ a c, v = .slice a 0 c) ∧ ps = []) ∨ ∃ B off cap, v = .slice (some ⟨B, off, none⟩) ps.length cap ∧ ∀ j, (h : j < ps.length) → (∃ u, w.cell? ⟨B, off + j * 2, none⟩ = some u ∧ DirsIn w u ps[j].1) ∧ w.cell? ⟨B, off + j * 2 + 1, none⟩ = some (.bool ps[j].2)
theorem PolsIn.below {w w' : World} {v : Value} {ps : List (List D × Bool)} (h : PolsIn w v ps) (hb : Below w.heap.size w w') : PolsIn w' v ps := by
  rcases h with h | ⟨B, off, cap, h2, h3⟩
  · exact .inl h
  · refine .inr ⟨B, off, cap, h2, fun j hj => ?_⟩
    obtain ⟨⟨u, k1, k2⟩, k3⟩ := h3 j hj
    exact ⟨⟨u, by rw [hb.cell (lt_of_cell k1)]; exact k1, k2.below hb⟩, by rw [hb.cell (lt_of_cell k3)]; exact k3⟩
theorem PolsIn.form {w : World} {v : Value} {ps : List (List D × Bool)} (h : PolsIn w v ps) : ∃ a c, v = .slice a ps.length c := by
  rcases h with ⟨⟨a, c, rfl⟩, rfl⟩ | ⟨B, off, cap, rfl, _⟩
  · exact ⟨_, _, rfl⟩
  · exact ⟨_, _, rfl⟩
theorem PolsIn.at {w : World} {a : Option Addr} {n c : Nat} {ps : List (List D × Bool)} (h : PolsIn w (.slice a n c) ps) {j : Nat} (hj : j < ps.length) : ∃ B off u, a = some ⟨B, off, none⟩ ∧ w.cell? ⟨B, off + j * 2, none⟩ = some u ∧ w.cell? ⟨B, off + j * 2 + 1, none⟩ = some (.bool ps[j].2) ∧ DirsIn w u ps[j].1 := by
  rcases h with ⟨_, h2⟩ | ⟨B, off, cap, h2, h3⟩
  · subst h2; simp at hj
  · cases h2
    obtain ⟨⟨u, k1, k2⟩, k3⟩ := h3 j hj
    exact ⟨B, off, u, rfl, k1, k3, k2⟩
end Go.Proofs.YthnogdodlhkldaaGreatDoor

namespace Go.Proofs.YthnogdodlhkldaaGreatDoor
open Go.RowKit

def SmallD (d : D) : Prop := d.n.length ≤ 200 ∧ d.w.length ≤ 210 ∧ ∀ x ∈ d.w, x.length ≤ 300
def SmallP (ds : List D) : Prop := ds.length ≤ 20 ∧ ∀ d ∈ ds, SmallD d
theorem all_upto {α : Type} {l : List α} {P : α → Prop} (h : ∀ j, (h : j < l.length) → j < l.length → P l[j]) : ∀ x ∈ l, P x := by
  intro x hx
  obtain ⟨j, hj, rfl⟩ := List.getElem_of_mem hx
  exact h j hj hj

def Big8Post (ps : List (List D × Bool)) (w : World) (e : Ending) (w' : World) : Prop := ∃ b, e = .returned (.bool b) ∧ w' = w ∧ (b = false → ps.length ≤ 15 ∧ ∀ p ∈ ps, SmallP p.1)
set_option maxRecDepth 100000 in
set_option maxHeartbeats 4000000 in
theorem refBig8_any (ps : List (List D × Bool)) (v : Value) (w : World) (hv : PolsIn w v ps) (hl : ps.length ≤ 9223372036854775807) (hl2 : ∀ p ∈ ps, p.1.length ≤ 9223372036854775807 ∧ ∀ d ∈ p.1, d.w.length ≤ 9223372036854775807) :
    Calls Tryz.prog 11 #[v] w (Big8Post ps w) := by
  obtain ⟨a, c, rfl⟩ := hv.form
  by_cases h15 : (15 : Int) < (ps.length : Int)
  · clear hv
    go_enter Tryz.func11, Tryz.ntmps11
    go_wp2
    go_ret
    exact ⟨true, rfl, rfl, fun h => by cases h⟩
  have HV := Lib.hid hv
  clear hv
  go_enter Tryz.func11, Tryz.ntmps11
  go_wp2
  go_loop [3, 4] (fun i _ => ∃ k : Nat, k ≤ ps.length ∧ i = .int .i64 k ∧ Hid (∀ j, (h : j < ps.length) → j < k → SmallP ps[j].1)) (fun i _ => ps.length - (intOf i).toNat)
  case atStart => exact ⟨0, Nat.zero_le _, rfl, fun j _ h => absurd h (Nat.not_lt_zero _)⟩
  case round =>
    obtain ⟨k, hk, rfl, HS⟩ := hrel
    by_cases hlt : k < ps.length
    case neg =>
      obtain rfl : k = ps.length := by omega
      have HE : Hid (ps.length ≤ 15 ∧ ∀ p ∈ ps, SmallP p.1) := Lib.hid ⟨by omega, all_upto (P := fun p : List D × Bool => SmallP p.1) HS.out⟩
      clear HS HV
      go_wp2
      go_ret
      exact ⟨false, rfl, rfl, fun _ => HE.out⟩
    obtain ⟨B, off, u, rfl, k1, k2, k3⟩ := HV.out.at hlt
    obtain ⟨q1, q2⟩ := hl2 _ (List.getElem_mem hlt)
    have HNX : Hid (SmallP ps[k].1 → ∀ j, (h : j < ps.length) → j < k + 1 → SmallP ps[j].1) := Lib.hid fun h1 j hj hjk => by
      by_cases e : j = k
      · subst e; exact h1
      · exact HS.out j hj (by omega)
    generalize ps[k] = p at *
    obtain ⟨ds, r⟩ := p
    obtain ⟨a2, c2, rfl⟩ := k3.form
    have HD : Hid (DirsIn w (.slice a2 ds.length c2) ds) := Lib.hid k3
    have q1' : ds.length ≤ 9223372036854775807 := q1
    have q2' : ∀ d ∈ ds, d.w.length ≤ 9223372036854775807 := q2
    have HNX' : Hid (SmallP ds → ∀ j, (h : j < ps.length) → j < k + 1 → SmallP ps[j].1) := HNX
    have k2' : w.cell? ⟨B, off + k * 2 + 1, none⟩ = some (.bool r) := k2
    have k1' : w.cell? ⟨B, off + k * 2, none⟩ = some (.slice a2 ds.length c2) := k1
    clear k3 HS q1 q2 HNX k1 k2
    by_cases h20 : (20 : Int) < (ds.length : Int)
    · go_wp2
      go_ret
      exact ⟨true, rfl, rfl, fun h => by cases h⟩
    go_wp2
    go_loop [4] (fun i => ∃ m : Nat, m ≤ ds.length ∧ i = .int .i64 m ∧ Hid (∀ j, (h : j < ds.length) → j < m → SmallD ds[j])) (fun i => ds.length - (intOf i).toNat)
    case atStart => exact ⟨0, Nat.zero_le _, rfl, fun j _ h => absurd h (Nat.not_lt_zero _)⟩
    case round =>
      obtain ⟨m, hm, rfl, HQ⟩ := hrel
      by_cases hmt : m < ds.length
      case neg =>
        obtain rfl : m = ds.length := by omega
        have HM := Lib.hid (HNX'.out ⟨by omega, all_upto (P := SmallD) HQ.out⟩)
        clear HQ HNX' HD
        go_wp2
        go_round
        case rel => exact ⟨k + 1, by omega, by go_num, HM⟩
        case measure => simp [intOf]; omega
      obtain ⟨B2, off2, y, rfl, j1, j2, j3⟩ := HD.out.at hmt
      have q3 := q2' _ (List.getElem_mem hmt)
      have HQN : Hid (SmallD ds[m] → ∀ j, (h : j < ds.length) → j < m + 1 → SmallD ds[j]) := Lib.hid fun h1 j hj hjm => by
        by_cases e : j = m
        · subst e; exact h1
        · exact HQ.out j hj (by omega)
      generalize ds[m] = d at *
      unfold strV at j1
      obtain ⟨X, hX⟩ : ∃ X : ByteArray, X = ⟨d.n.toArray⟩ := ⟨_, rfl⟩
      rw [← hX] at j1
      have HX : Hid (d.n.length = X.size) := Lib.hid (by rw [hX]; exact (bsize d.n).symm)
      clear hX HQ
      by_cases h200 : (200 : Int) < (X.size : Int)
      · clear j3
        go_wp2
        go_ret
        exact ⟨true, rfl, rfl, fun h => by cases h⟩
      have CB : Hid (Calls Tryz.prog 35 #[y, .int .i64 210, .int .i64 300] w (BigPost 210 300 d.w w)) := Lib.hid (refBig_any 210 300 (by decide) d.w y w j3 q3)
      clear j3
      go_wp2_with fail
      refine CB.out.mono ?_
      unfold BigPost
      rintro e w' ⟨b, rfl, rfl, hbb⟩
      cases b
      · have HM := Lib.hid (HQN.out ⟨by rw [HX.out]; omega, (hbb rfl).1, (hbb rfl).2⟩)
        clear hbb HQN CB
        go_wp2
        go_round
        case rel => exact ⟨m + 1, by omega, by go_num, HM⟩
        case measure => simp [intOf]; omega
      · clear hbb HQN CB
        go_wp2
        go_ret
        exact ⟨true, rfl, rfl, fun h => by cases h⟩

end Go.Proofs.YthnogdodlhkldaaGreatDoor

namespace Go.Proofs.YthnogdodlhkldaaGreatDoor
open Go.RowKit

/-- A row of texts that lies in a block from lo on, and not in ob. -/
def TextsBy (w : World) (lo : Nat) (ob : Option Nat) (u : Value) (ts : List (List UInt8)) : Prop :=
  ((∃ a c, u = .slice a 0 c) ∧ ts = []) ∨ ∃ B off cap, u = .slice (some ⟨B, off, none⟩) ts.length cap ∧ B < w.heap.size ∧ (lo ≤ B ∧ some B ≠ ob) ∧ ∀ j, (h : j < ts.length) → w.cell? ⟨B, off + j, none⟩ = some (strV ts[j])
theorem TextsBy.in {w : World} {lo : Nat} {ob : Option Nat} {u : Value} {ts : List (List UInt8)} (h : TextsBy w lo ob u ts) : TextsIn w u ts := by
  rcases h with h | ⟨B, off, cap, h1, _, _, h2⟩
  · exact .inl h
  · exact .inr ⟨B, off, cap, h1, h2⟩
theorem TextsBy.below {w w' : World} {lo : Nat} {ob : Option Nat} {u : Value} {ts : List (List UInt8)} (h : TextsBy w lo ob u ts) (hb : Below w.heap.size w w') : TextsBy w' lo ob u ts := by
  rcases h with h | ⟨B, off, cap, h1, h2, h3, h4⟩
  · exact .inl h
  · exact .inr ⟨B, off, cap, h1, Nat.lt_of_lt_of_le h2 hb.size, h3, fun j hj => by rw [hb.cell h2]; exact h4 j hj⟩
theorem TextsBy.of_row {w : World} {base : Nat} {lo : Nat} {ob : Option Nat} {u : Value} {ts : List (List UInt8)} (h : w.ownsRow base 9 1 u ts.length (txtCells ts)) (hlo : lo ≤ base) (hob : ∀ k, ob = some k → k < base) : TextsBy w lo ob u ts := by
  rcases h.2 with ⟨h1, h2⟩ | ⟨g, cap, cur, hv, hg, hh, _⟩
  · exact .inl ⟨⟨_, _, h1⟩, List.length_eq_zero_iff.1 h2⟩
  · refine .inr ⟨g, 0, cap, hv, lt_of_block hh, ⟨Nat.le_trans hlo hg, fun e => by have := hob g e.symm; omega⟩, fun j hj => ?_⟩
    subst hv
    rw [Nat.zero_add, h.cellAt j (by omega)]
    simp [txtCells, List.getElem?_eq_getElem hj]
/-- The row of block ob has grown. -/
theorem TextsBy.step {w w' : World} {lo : Nat} {ob ob' : Option Nat} {u : Value} {ts : List (List UInt8)} (h : TextsBy w lo ob u ts) (hg : w.grownBy w' ob) (ho : ob' = ob ∨ ob' = some w.heap.size) : TextsBy w' lo ob' u ts := by
  rcases h with h | ⟨B, off, cap, h1, h2, h3, h4⟩
  · exact .inl h
  · refine .inr ⟨B, off, cap, h1, Nat.lt_of_lt_of_le h2 hg.size, ⟨h3.1, ?_⟩, fun j hj => hg.cell (h4 j hj) h3.2⟩
    rcases ho with rfl | rfl
    · exact h3.2
    · intro e
      have := Option.some.inj e
      omega

def DRow (w : World) (lo : Nat) (ob : Option Nat) (ds : List D) (cs : List Value) : Prop := cs.length = ds.length * 2 ∧ ∀ j, (h : j < ds.length) → cs[j * 2]? = some (strV ds[j].n) ∧ ∃ u, cs[j * 2 + 1]? = some u ∧ TextsBy w lo ob u ds[j].w
theorem DRow.nil (w : World) (lo : Nat) (ob : Option Nat) : DRow w lo ob [] [] := ⟨rfl, fun j h => by cases h⟩
theorem DRow.below {w w' : World} {lo : Nat} {ob : Option Nat} {ds : List D} {cs : List Value} (h : DRow w lo ob ds cs) (hb : Below w.heap.size w w') : DRow w' lo ob ds cs :=
  ⟨h.1, fun j hj => by obtain ⟨k1, u, k2, k3⟩ := h.2 j hj; exact ⟨k1, u, k2, k3.below hb⟩⟩
theorem DRow.step {w w' : World} {lo : Nat} {ob ob' : Option Nat} {ds : List D} {cs : List Value} (h : DRow w lo ob ds cs) (hg : w.grownBy w' ob) (ho : ob' = ob ∨ ob' = some w.heap.size) : DRow w' lo ob' ds cs :=
  ⟨h.1, fun j hj => by obtain ⟨k1, u, k2, k3⟩ := h.2 j hj; exact ⟨k1, u, k2, k3.step hg ho⟩⟩
theorem DRow.snoc {w : World} {lo : Nat} {ob : Option Nat} {ds : List D} {cs : List Value} (h : DRow w lo ob ds cs) (d : D) (u : Value) (hu : TextsBy w lo ob u d.w) : DRow w lo ob (ds ++ [d]) (cs ++ [strV d.n, u]) := by
  refine ⟨by simp [h.1]; omega, fun j hj => ?_⟩
  have hl := h.1
  by_cases hlt : j < ds.length
  · obtain ⟨k1, v, k2, k3⟩ := h.2 j hlt
    rw [List.getElem_append_left hlt, List.getElem?_append_left (by omega), List.getElem?_append_left (by omega)]
    exact ⟨k1, v, k2, k3⟩
  · have e : j = ds.length := by simp at hj; omega
    subst e
    rw [List.getElem_append_right (Nat.le_refl _), List.getElem?_append_right (by omega), List.getElem?_append_right (by omega), hl]
    simp only [Nat.sub_self, List.getElem_cons_zero]
    rw [show ds.length * 2 + 1 - ds.length * 2 = 1 by omega]
    exact ⟨rfl, u, rfl, hu⟩
/-- Directives in a row of one's own. -/
def OwnD (w : World) (base : Nat) (v : Value) (ds : List D) : Prop := ∃ cs, w.ownsRow base 67 2 v ds.length cs ∧ DRow w base v.ownBlock ds cs
theorem OwnD.nil (w : World) (base : Nat) : OwnD w base (.slice none 0 0) [] := ⟨[], World.ownsRow_nil w base _ 2, DRow.nil w _ _⟩
theorem OwnD.below {w w' : World} {base : Nat} {v : Value} {ds : List D} (h : OwnD w base v ds) (hb : Below w.heap.size w w') : OwnD w' base v ds := by
  obtain ⟨cs, h1, h2⟩ := h
  exact ⟨cs, ownsRow_below h1 hb, h2.below hb⟩
theorem OwnD.in {w : World} {base : Nat} {v : Value} {ds : List D} (h : OwnD w base v ds) : DirsIn w v ds := by
  obtain ⟨cs, h1, h2, h3⟩ := h
  rcases h1.2 with ⟨e1, e2⟩ | ⟨g, cap, cur, hv, hg, hh, _⟩
  · exact .inl ⟨⟨_, _, e1⟩, List.length_eq_zero_iff.1 e2⟩
  · subst hv
    refine .inr ⟨g, 0, cap, rfl, fun j hj => ?_⟩
    obtain ⟨k1, u, k2, k3⟩ := h3 j hj
    rw [Nat.zero_add, h1.cellAt (j * 2) (by omega), h1.cellAt (j * 2 + 1) (by omega)]
    exact ⟨k1, u, k2, k3.in⟩
/-- One directive appended: what wpList_append_own_at gives. -/
theorem OwnD.grow {w w' : World} {base : Nat} {v v' : Value} {ds : List D} {cs : List Value} (d : D) (u : Value) (h : DRow w base v.ownBlock ds cs) (hu : TextsBy w base v.ownBlock u d.w) (hown : w'.ownsRow base 67 2 v' (ds.length + 1) (cs ++ [strV d.n, u])) (hg : w.grownBy w' v.ownBlock) (ho : v'.ownBlock = v.ownBlock ∨ v'.ownBlock = some w.heap.size) : OwnD w' base v' (ds ++ [d]) :=
  ⟨cs ++ [strV d.n, u], by rw [List.length_append]; exact hown, (h.snoc d u hu).step hg ho⟩

/-! Policies: a row of directives that lies, with all in it, in no block ob. -/
def DirsBy (w : World) (lo : Nat) (ob : Option Nat) (v : Value) (ds : List D) : Prop :=
  ((∃ a c, v = .slice a 0 c) ∧ ds = []) ∨ ∃ B off cap, v = .slice (some ⟨B, off, none⟩) ds.length cap ∧ B < w.heap.size ∧ (lo ≤ B ∧ some B ≠ ob) ∧ ∀ j, (h : j < ds.length) → w.cell? ⟨B, off + j * 2, none⟩ = some (strV ds[j].n) ∧ ∃ u, w.cell? ⟨B, off + j * 2 + 1, none⟩ = some u ∧ TextsBy w lo ob u ds[j].w
theorem DirsBy.in {w : World} {lo : Nat} {ob : Option Nat} {v : Value} {ds : List D} (h : DirsBy w lo ob v ds) : DirsIn w v ds := by
  rcases h with h | ⟨B, off, cap, h1, _, _, h2⟩
  · exact .inl h
  · exact .inr ⟨B, off, cap, h1, fun j hj => by obtain ⟨k1, u, k2, k3⟩ := h2 j hj; exact ⟨k1, u, k2, k3.in⟩⟩
theorem DirsBy.below {w w' : World} {lo : Nat} {ob : Option Nat} {v : Value} {ds : List D} (h : DirsBy w lo ob v ds) (hb : Below w.heap.size w w') : DirsBy w' lo ob v ds := by
  rcases h with h | ⟨B, off, cap, h1, h2, h3, h4⟩
  · exact .inl h
  · refine .inr ⟨B, off, cap, h1, Nat.lt_of_lt_of_le h2 hb.size, h3, fun j hj => ?_⟩
    obtain ⟨k1, u, k2, k3⟩ := h4 j hj
    exact ⟨by rw [hb.cell h2]; exact k1, u, by rw [hb.cell h2]; exact k2, k3.below hb⟩
theorem DirsBy.step {w w' : World} {lo : Nat} {ob ob' : Option Nat} {v : Value} {ds : List D} (h : DirsBy w lo ob v ds) (hg : w.grownBy w' ob) (ho : ob' = ob ∨ ob' = some w.heap.size) : DirsBy w' lo ob' v ds := by
  rcases h with h | ⟨B, off, cap, h1, h2, h3, h4⟩
  · exact .inl h
  · refine .inr ⟨B, off, cap, h1, Nat.lt_of_lt_of_le h2 hg.size, ⟨h3.1, ?_⟩, fun j hj => ?_⟩
    · rcases ho with rfl | rfl
      · exact h3.2
      · intro e
        have := Option.some.inj e
        omega
    · obtain ⟨k1, u, k2, k3⟩ := h4 j hj
      exact ⟨hg.cell k1 h3.2, u, hg.cell k2 h3.2, k3.step hg ho⟩

/-! Stores below what is one's own. -/
theorem cell_far (w : World) (p q : Addr) (u : Value) (h : q.block ≠ p.block) : (w.setCell p u).cell? q = w.cell? q := World.cell?_of_block (Below.heap_setCell w p u q.block h)
theorem TextsBy.set {w : World} {lo : Nat} {ob : Option Nat} {u : Value} {ts : List (List UInt8)} (h : TextsBy w lo ob u ts) {p : Addr} (hp : p.block < lo) (x : Value) : TextsBy (w.setCell p x) lo ob u ts := by
  rcases h with h | ⟨B, off, cap, h1, h2, h3, h4⟩
  · exact .inl h
  · exact .inr ⟨B, off, cap, h1, by simpa [World.setCell] using h2, h3, fun j hj => by rw [cell_far _ _ _ _ (by have := h3.1; show B ≠ p.block; omega)]; exact h4 j hj⟩
theorem DRow.set {w : World} {lo : Nat} {ob : Option Nat} {ds : List D} {cs : List Value} (h : DRow w lo ob ds cs) {p : Addr} (hp : p.block < lo) (x : Value) : DRow (w.setCell p x) lo ob ds cs :=
  ⟨h.1, fun j hj => by obtain ⟨k1, u, k2, k3⟩ := h.2 j hj; exact ⟨k1, u, k2, k3.set hp x⟩⟩
theorem OwnD.set {w : World} {base : Nat} {v : Value} {ds : List D} (h : OwnD w base v ds) {p : Addr} (hp : p.block < base) (x : Value) : OwnD (w.setCell p x) base v ds := by
  obtain ⟨cs, h1, h2⟩ := h
  exact ⟨cs, ownsRow_setCell_below h1 hp x, h2.set hp x⟩

end Go.Proofs.YthnogdodlhkldaaGreatDoor

namespace Go.Proofs.YthnogdodlhkldaaGreatDoor
open Go.RowKit

end Go.Proofs.YthnogdodlhkldaaGreatDoor

namespace Go.Proofs.YthnogdodlhkldaaGreatDoor
open Go.RowKit

def keptW (ws : List (List UInt8)) (k : Nat) : List (List UInt8) := (ws.take k).filter wordH
theorem keptW_succ {ws : List (List UInt8)} {k : Nat} (h : k < ws.length) : keptW ws (k + 1) = if wordH ws[k] = true then keptW ws k ++ [ws[k]] else keptW ws k := by
  unfold keptW
  rw [List.take_succ_eq_append_getElem h, List.filter_append]
  split
  · rename_i hw; simp [hw]
  · rename_i hw; simp [hw]

theorem ownsRow_base {w : World} {b base : Nat} {e : TypeId} {size : Nat} {v : Value} {n : Nat} {xs : List Value} (h : w.ownsRow base e size v n xs) (hb : b ≤ base) : w.ownsRow b e size v n xs := by
  refine ⟨h.1, ?_⟩
  rcases h.2 with h | ⟨g, cap, cur, h1, h2, h3⟩
  · exact .inl h
  · exact .inr ⟨g, cap, cur, h1, Nat.le_trans hb h2, h3⟩
end Go.Proofs.YthnogdodlhkldaaGreatDoor
