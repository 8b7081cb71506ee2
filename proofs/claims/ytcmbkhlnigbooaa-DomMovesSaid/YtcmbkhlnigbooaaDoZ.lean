/- Documents as they lie in memory: nodes of eight cells, their attributes and their kids in rows of their own. Documents of one's own: what is written in them. The document's own: may a node have kids; how often is a node among all kids; is it among another one's. The document's own: is a node among another one's kids; may a node be. -/
import Derived.Test.YtcmbkhlnigbooaaBas
import Derived.Test.YtcmbkhlnigbooaaDmZ
namespace Go.Proofs.Ytcmbkhlnigbooaa.Dm
open Go.RowKit

def inC (p : List Int) : List Value := p.map (Value.int .i64)
theorem inC_length (p : List Int) : (inC p).length = p.length * 1 := by simp [inC]
theorem inC_one (p : List Int) : ∀ v ∈ inC p, v.oneCell' = true := fun v hv => by
  unfold inC at hv
  rw [List.mem_map] at hv
  obtain ⟨y, _, rfl⟩ := hv
  rfl
/-- A row of numbers that is read. -/
def IntIn (w : World) (v : Value) (p : List Int) : Prop := RowIn w v p.length 1 (inC p)
section
variable {w w' : World} {v : Value} {p : List Int}
theorem IntIn.below (h : IntIn w v p) (hb : Below w.heap.size w w') : IntIn w' v p := RowIn.below h hb
theorem IntIn.form (h : IntIn w v p) : ∃ a c, v = .slice a p.length c := RowIn.form h
theorem IntIn.nil (w : World) (a : Option Addr) (c : Nat) : IntIn w (.slice a 0 c) [] := ⟨rfl, (fun _ h => by cases h), .inl ⟨⟨a, c, rfl⟩, rfl⟩⟩
theorem IntIn.of {base : Nat} (h : w.ownsRow base 3 1 v p.length (inC p)) : IntIn w v p := RowIn.of_own h (inC_one p)
theorem IntIn.at {a : Option Addr} {c : Nat} (h : IntIn w (.slice a p.length c) p) {k : Nat} (hk : k < p.length) : ∃ B off, a = some ⟨B, off, none⟩ ∧ w.cell? ⟨B, off + k, none⟩ = some (.int .i64 p[k]) := by
  obtain ⟨B, off, h1, h2⟩ := RowIn.at (j := 0) (v := .int .i64 p[k]) h hk (by simp [inC, hk])
  exact ⟨B, off, h1, by simpa using h2⟩
theorem IntIn.u1 (h : IntIn w v p) : U1.IntsIn w v p := by
  rcases h.2.2 with ⟨⟨a, c, rfl⟩, e⟩ | ⟨B, off, cap, rfl, h2⟩
  · have e0 : p = [] := List.eq_nil_of_length_eq_zero e
    subst e0
    exact .inl ⟨⟨a, c, rfl⟩, rfl⟩
  · exact .inr ⟨B, off, cap, rfl, fun j hj => h2 j _ (by simp [inC, hj])⟩
end

/-! ### nodes -/
def ndC (x : Nd) (av kv : Value) : List Value := [.int .i64 x.k, strV x.n, strV x.d, av, .int .i64 x.p, kv, .bool x.b, .bool x.s]
/-- The cells of nodes whose attributes are the slices A, whose kids are the slices K. -/
def ndsC : List Nd → (Nat → Value) → (Nat → Value) → List Value
  | [], _, _ => []
  | x :: D, A, K => ndC x (A 0) (K 0) ++ ndsC D (fun i => A (i + 1)) (fun i => K (i + 1))
theorem ndsC_length : ∀ (D : List Nd) (A K : Nat → Value), (ndsC D A K).length = D.length * 8
  | [], _, _ => rfl
  | x :: D, A, K => by
    show (ndC x _ _ ++ ndsC D _ _).length = _
    rw [List.length_append, ndsC_length D, List.length_cons]
    show 8 + _ = _
    omega
theorem ndsC_at : ∀ (D : List Nd) (A K : Nat → Value) (i j : Nat) (h : i < D.length), j < 8 → (ndsC D A K)[i * 8 + j]? = (ndC D[i] (A i) (K i))[j]?
  | x :: D, A, K, 0, j, _, hj => by
    show (ndC x _ _ ++ ndsC D _ _)[0 * 8 + j]? = _
    rw [Nat.zero_mul, Nat.zero_add, List.getElem?_append_left (by show j < 8; exact hj)]
    rfl
  | x :: D, A, K, i + 1, j, h, hj => by
    show (ndC x _ _ ++ ndsC D _ _)[(i + 1) * 8 + j]? = _
    rw [List.getElem?_append_right (by show 8 ≤ _; omega), show (i + 1) * 8 + j - (ndC x (A 0) (K 0)).length = i * 8 + j by show (i + 1) * 8 + j - 8 = _; omega]
    exact ndsC_at D _ _ i j (by simpa using h) hj
theorem ndsC_one : ∀ (D : List Nd) (A K : Nat → Value), (∀ i, i < D.length → (A i).oneCell' = true ∧ (K i).oneCell' = true) → ∀ v ∈ ndsC D A K, v.oneCell' = true
  | [], _, _, _, v, hv => by cases hv
  | x :: D, A, K, h, v, hv => by
    have hv' : v ∈ ndC x (A 0) (K 0) ++ ndsC D (fun i => A (i + 1)) (fun i => K (i + 1)) := hv
    rcases List.mem_append.1 hv' with h1 | h1
    · have h0 := h 0 (by simp)
      unfold ndC at h1
      simp only [List.mem_cons, List.not_mem_nil, or_false] at h1
      rcases h1 with rfl | rfl | rfl | rfl | rfl | rfl | rfl | rfl
      · rfl
      · rfl
      · rfl
      · exact h0.1
      · rfl
      · exact h0.2
      · rfl
      · rfl
    · exact ndsC_one D _ _ (fun i hi => h (i + 1) (by simpa using hi)) v h1
theorem ndsC_app : ∀ (D E : List Nd) (A K : Nat → Value), ndsC (D ++ E) A K = ndsC D A K ++ ndsC E (fun i => A (i + D.length)) (fun i => K (i + D.length))
  | [], E, A, K => rfl
  | x :: D, E, A, K => by
    show ndC x _ _ ++ ndsC (D ++ E) _ _ = (ndC x _ _ ++ ndsC D _ _) ++ _
    rw [ndsC_app D E, List.append_assoc]
    simp only [List.length_cons, Nat.add_assoc]
theorem ndsC_same : ∀ (D : List Nd) (A K A' K' : Nat → Value), (∀ i, i < D.length → A i = A' i ∧ K i = K' i) → ndsC D A K = ndsC D A' K'
  | [], _, _, _, _, _ => rfl
  | x :: D, A, K, A', K', h => by
    show ndC x _ _ ++ ndsC D _ _ = ndC x _ _ ++ ndsC D _ _
    rw [(h 0 (by simp)).1, (h 0 (by simp)).2, ndsC_same D _ _ _ _ (fun i hi => h (i + 1) (by simpa using hi))]
/-- A document that is read: the slice of its nodes. -/
structure DocIn (w : World) (sl : Value) (D : List Nd) (A K : Nat → Value) : Prop where
  row : RowIn w sl D.length 8 (ndsC D A K)
  at' : ∀ i (h : i < D.length), AtIn w (A i) D[i].a
  kd : ∀ i (h : i < D.length), IntIn w (K i) D[i].c
section
variable {w w' : World} {sl : Value} {D : List Nd} {A K : Nat → Value}
theorem DocIn.below (h : DocIn w sl D A K) (hb : Below w.heap.size w w') : DocIn w' sl D A K := ⟨h.row.below hb, fun i hi => (h.at' i hi).below hb, fun i hi => (h.kd i hi).below hb⟩
theorem DocIn.form (h : DocIn w sl D A K) : ∃ a c, sl = .slice a D.length c := h.row.form
/-- The cells of a document's i-th node. -/
theorem DocIn.node {a : Option Addr} {c : Nat} (h : DocIn w (.slice a D.length c) D A K) {i : Nat} (hi : i < D.length) : ∃ B off, a = some ⟨B, off, none⟩ ∧ w.cell? ⟨B, off + i * 8, none⟩ = some (.int .i64 D[i].k) ∧ w.cell? ⟨B, off + i * 8 + 1, none⟩ = some (strV D[i].n) ∧ w.cell? ⟨B, off + i * 8 + 2, none⟩ = some (strV D[i].d) ∧ w.cell? ⟨B, off + i * 8 + 3, none⟩ = some (A i) ∧ w.cell? ⟨B, off + i * 8 + 4, none⟩ = some (.int .i64 D[i].p) ∧ w.cell? ⟨B, off + i * 8 + 5, none⟩ = some (K i) ∧ w.cell? ⟨B, off + i * 8 + 6, none⟩ = some (.bool D[i].b) ∧ w.cell? ⟨B, off + i * 8 + 7, none⟩ = some (.bool D[i].s) := by
  rcases h.row.2.2 with ⟨_, e⟩ | ⟨B, off, cap, e1, e2⟩
  · omega
  · cases e1
    have g : ∀ j v, (ndC D[i] (A i) (K i))[j]? = some v → j < 8 → w.cell? ⟨B, off + (i * 8 + j), none⟩ = some v := fun j v hv hj => e2 _ _ (by rw [ndsC_at D A K i j hi hj]; exact hv)
    exact ⟨B, off, rfl, g 0 _ rfl (by decide), by rw [Nat.add_assoc]; exact g 1 _ rfl (by decide), by rw [Nat.add_assoc]; exact g 2 _ rfl (by decide), by rw [Nat.add_assoc]; exact g 3 _ rfl (by decide), by rw [Nat.add_assoc]; exact g 4 _ rfl (by decide), by rw [Nat.add_assoc]; exact g 5 _ rfl (by decide), by rw [Nat.add_assoc]; exact g 6 _ rfl (by decide), by rw [Nat.add_assoc]; exact g 7 _ rfl (by decide)⟩
end

end Go.Proofs.Ytcmbkhlnigbooaa.Dm

namespace Go.Proofs.Ytcmbkhlnigbooaa.Dm
open Go.RowKit

/-- f with another value at n. -/
def upd (f : Nat → Value) (n : Nat) (v : Value) : Nat → Value := fun i => if i = n then v else f i
theorem upd_self (f : Nat → Value) (n : Nat) (v : Value) : upd f n v n = v := if_pos rfl
theorem upd_ne {f : Nat → Value} {n i : Nat} {v : Value} (h : i ≠ n) : upd f n v i = f i := if_neg h
/-- A document in blocks from B on, each row in a block of its own. -/
structure OwnD (w : World) (B : Nat) (sl : Value) (D : List Nd) (A K : Nat → Value) : Prop where
  row : w.ownsRow B 42 8 sl D.length (ndsC D A K)
  at' : ∀ i (h : i < D.length), w.ownsRow B 61 2 (A i) D[i].a.length (atC D[i].a)
  kd : ∀ i (h : i < D.length), w.ownsRow B 3 1 (K i) D[i].c.length (inC D[i].c)
  na : ∀ i j, i < D.length → j < D.length → i ≠ j → ∀ k, (A i).ownBlock = some k → (A j).ownBlock ≠ some k
  nk : ∀ i j, i < D.length → j < D.length → i ≠ j → ∀ k, (K i).ownBlock = some k → (K j).ownBlock ≠ some k
/-- A document of one's own, whatever its rows' slices are. -/
def OwnX (w : World) (B : Nat) (sl : Value) (D : List Nd) : Prop := ∃ A K, OwnD w B sl D A K
theorem row_form {w : World} {B size n : Nat} {e : TypeId} {v : Value} {xs : List Value} (h : w.ownsRow B e size v n xs) : ∃ a c, v = .slice a n c := by
  rcases rowForms h with ⟨rfl, rfl⟩ | ⟨g, c, rfl⟩
  · exact ⟨_, _, rfl⟩
  · exact ⟨_, _, rfl⟩
theorem one_of_row {w : World} {B size n : Nat} {e : TypeId} {v : Value} {xs : List Value} (h : w.ownsRow B e size v n xs) : v.oneCell' = true := by
  rcases rowForms h with ⟨rfl, _⟩ | ⟨g, c, rfl⟩ <;> rfl
section
variable {w w' : World} {B : Nat} {sl : Value} {D : List Nd} {A K : Nat → Value}
theorem OwnD.doc (h : OwnD w B sl D A K) : DocIn w sl D A K :=
  ⟨RowIn.of_own h.row (ndsC_one D A K fun i hi => ⟨one_of_row (h.at' i hi), one_of_row (h.kd i hi)⟩), fun i hi => RowIn.of_own (h.at' i hi) (atC_one _), fun i hi => IntIn.of (h.kd i hi)⟩
theorem OwnD.nil (w : World) (B : Nat) (A K : Nat → Value) : OwnD w B (.slice none 0 0) [] A K := ⟨World.ownsRow_nil _ _ _ _, fun i h => (by cases h), fun i h => (by cases h), fun i j h => (by cases h), fun i j h => (by cases h)⟩
theorem OwnD.form (h : OwnD w B sl D A K) : ∃ a c, sl = .slice a D.length c := h.doc.form
/-- Other blocks turn. -/
theorem OwnD.kp {P : Nat → TypeId → Prop} (h : OwnD w B sl D A K) (k : Kp P w w') (hp : ∀ j t, B ≤ j → ¬ P j t) : OwnD w' B sl D A K :=
  ⟨k.row h.row fun j _ hj => hp j _ hj, fun i hi => k.row (h.at' i hi) fun j _ hj => hp j _ hj, fun i hi => k.row (h.kd i hi) fun j _ hj => hp j _ hj, h.na, h.nk⟩
theorem OwnD.below (h : OwnD w B sl D A K) (hb : Below w.heap.size w w') : OwnD w' B sl D A K :=
  ⟨(Kp.of_below (P := fun _ _ => False) hb).row h.row fun _ _ _ => id, fun i hi => (Kp.of_below (P := fun _ _ => False) hb).row (h.at' i hi) fun _ _ _ => id, fun i hi => (Kp.of_below (P := fun _ _ => False) hb).row (h.kd i hi) fun _ _ _ => id, h.na, h.nk⟩
end
theorem OwnX.below {w w' : World} {B : Nat} {sl : Value} {D : List Nd} (h : OwnX w B sl D) (hb : Below w.heap.size w w') : OwnX w' B sl D := by
  obtain ⟨A, K, h⟩ := h
  exact ⟨A, K, h.below hb⟩
theorem OwnX.form {w : World} {B : Nat} {sl : Value} {D : List Nd} (h : OwnX w B sl D) : ∃ a c, sl = .slice a D.length c := by
  obtain ⟨A, K, h⟩ := h
  exact h.form
/-- A node more, its rows in new blocks. -/
theorem OwnD.grow {w w' : World} {B : Nat} {sl sl' : Value} {D : List Nd} {A K : Nat → Value} {x : Nd} {av kv : Value} (h : OwnD w B sl D A K) (k : Kp (fun j t => t = 42 ∧ B ≤ j) w w')
    (hrow : w'.ownsRow B 42 8 sl' (D.length + 1) (ndsC D A K ++ ndC x av kv)) (ha : w'.ownsRow B 61 2 av x.a.length (atC x.a)) (hk : w'.ownsRow B 3 1 kv x.c.length (inC x.c))
    (na : ∀ i, i < D.length → ∀ j, (A i).ownBlock = some j → av.ownBlock ≠ some j) (nk : ∀ i, i < D.length → ∀ j, (K i).ownBlock = some j → kv.ownBlock ≠ some j) : OwnD w' B sl' (D ++ [x]) (upd A D.length av) (upd K D.length kv) := by
  have e : ndsC (D ++ [x]) (upd A D.length av) (upd K D.length kv) = ndsC D A K ++ ndC x av kv := by
    rw [ndsC_app, ndsC_same D (upd A D.length av) (upd K D.length kv) A K (fun i hi => ⟨upd_ne (by omega), upd_ne (by omega)⟩)]
    show _ ++ (ndC x (upd A D.length av (0 + D.length)) (upd K D.length kv (0 + D.length)) ++ []) = _
    rw [Nat.zero_add, upd_self, upd_self, List.append_nil]
  refine ⟨by rw [e, List.length_append]; exact hrow, fun i hi => ?_, fun i hi => ?_, fun i j hi hj hij q hq => ?_, fun i j hi hj hij q hq => ?_⟩
  · by_cases hlt : i < D.length
    · rw [upd_ne (by omega), List.getElem_append_left hlt]
      exact k.row (h.at' i hlt) fun j _ _ hp => absurd hp.1 (by decide)
    · have e2 : i = D.length := by simp at hi; omega
      subst e2
      rw [upd_self, List.getElem_append_right (Nat.le_refl _)]
      simpa using ha
  · by_cases hlt : i < D.length
    · rw [upd_ne (by omega), List.getElem_append_left hlt]
      exact k.row (h.kd i hlt) fun j _ _ hp => absurd hp.1 (by decide)
    · have e2 : i = D.length := by simp at hi; omega
      subst e2
      rw [upd_self, List.getElem_append_right (Nat.le_refl _)]
      simpa using hk
  · simp only [List.length_append, List.length_cons, List.length_nil] at hi hj
    by_cases h1 : i = D.length
    · subst h1
      rw [upd_self] at hq
      rw [upd_ne (by omega)]
      exact fun h2 => na j (by omega) q h2 hq
    · rw [upd_ne h1] at hq
      by_cases h2 : j = D.length
      · subst h2
        rw [upd_self]
        exact na i (by omega) q hq
      · rw [upd_ne h2]
        exact h.na i j (by omega) (by omega) hij q hq
  · simp only [List.length_append, List.length_cons, List.length_nil] at hi hj
    by_cases h1 : i = D.length
    · subst h1
      rw [upd_self] at hq
      rw [upd_ne (by omega)]
      exact fun h2 => nk j (by omega) q h2 hq
    · rw [upd_ne h1] at hq
      by_cases h2 : j = D.length
      · subst h2
        rw [upd_self]
        exact nk i (by omega) q hq
      · rw [upd_ne h2]
        exact h.nk i j (by omega) (by omega) hij q hq

/-- A document's box turns. -/
theorem OwnD.setDoc {w : World} {B g j : Nat} {sl v : Value} {D : List Nd} {A K : Nat → Value} {c : Array Value} (h : OwnD w B sl D A K) (hg : w.heap[g]? = some (.cells c 24 (0, 0))) : OwnD (w.setCell ⟨g, j, none⟩ v) B sl D A K := by
  have kS : Kp (fun k _ => k = g) w (w.setCell ⟨g, j, none⟩ v) := Kp.of_set hg _ rfl
  exact ⟨kS.row h.row fun k hk _ e => row_ne h.row hg (by decide) (by rw [hk, e]), fun i hi => kS.row (h.at' i hi) fun k hk _ e => row_ne (h.at' i hi) hg (by decide) (by rw [hk, e]), fun i hi => kS.row (h.kd i hi) fun k hk _ e => row_ne (h.kd i hi) hg (by decide) (by rw [hk, e]), h.na, h.nk⟩
theorem row_low {w : World} {B B' size n : Nat} {e : TypeId} {v : Value} {xs : List Value} (h : w.ownsRow B e size v n xs) (hB : B' ≤ B) : w.ownsRow B' e size v n xs := by
  obtain ⟨h1, h2⟩ := h
  refine ⟨h1, ?_⟩
  rcases h2 with h2 | ⟨g, cap, cur, a, b, c⟩
  · exact .inl h2
  · exact .inr ⟨g, cap, cur, a, Nat.le_trans hB b, c⟩
theorem OwnD.low {w : World} {B B' : Nat} {sl : Value} {D : List Nd} {A K : Nat → Value} (h : OwnD w B sl D A K) (hB : B' ≤ B) : OwnD w B' sl D A K := ⟨row_low h.row hB, fun i hi => row_low (h.at' i hi) hB, fun i hi => row_low (h.kd i hi) hB, h.na, h.nk⟩
theorem row_below {w w' : World} {B size n : Nat} {e : TypeId} {v : Value} {xs : List Value} (h : w.ownsRow B e size v n xs) (b : Below w.heap.size w w') : w'.ownsRow B e size v n xs := (Kp.of_below (P := fun _ _ => False) b).row h fun _ _ _ => id
theorem OwnD.grown {w5 w6 : World} {B : Nat} {sl : Value} {D : List Nd} {A K : Nat → Value} (h5 : OwnD w5 B sl D A K) (hg : w5.grownBy w6 sl.ownBlock) : Kp (fun j t => t = 42 ∧ B ≤ j) w5 w6 := by
  have k0 : Kp (fun j _ => sl.ownBlock = some j) w5 w6 := Kp.of_grown hg (fun k c t fr hk _ => hk) fun k hk => by
    obtain ⟨cur, e, _⟩ := row_block h5.row hk
    exact ⟨_, _, _, e⟩
  exact k0.mono fun k c t fr hk hp => by
    obtain ⟨cur, e, hb, _⟩ := row_block h5.row hp
    rw [hk] at e
    cases e
    exact ⟨rfl, hb⟩
/-- A node more, as the document's Own appends it: its rows are made at w3, behind all blocks of wr. -/
theorem OwnD.more {wr w3 w5 w6 : World} {B : Nat} {sl sl' av kv : Value} {D : List Nd} {A K : Nat → Value} {x : Nd} (h : OwnD wr B sl D A K) (ra : w3.ownsRow wr.heap.size 61 2 av x.a.length (atC x.a)) (rk : w3.ownsRow wr.heap.size 3 1 kv x.c.length (inC x.c)) (b3 : Below wr.heap.size wr w3) (b5 : Below w3.heap.size w3 w5) (hB : B ≤ wr.heap.size)
    (hown : w6.ownsRow B 42 8 sl' (D.length + 1) (ndsC D A K ++ ndC x av kv)) (hg : w5.grownBy w6 sl.ownBlock) : OwnD w6 B sl' (D ++ [x]) (upd A D.length av) (upd K D.length kv) := by
  have h5 := (h.below b3).below b5
  have k := h5.grown hg
  refine h5.grow k hown (k.row (row_low (row_below ra b5) hB) fun j _ _ e => absurd e.1 (by decide)) (k.row (row_low (row_below rk b5) hB) fun j _ _ e => absurd e.1 (by decide)) (fun i hi j hj e => ?_) (fun i hi j hj e => ?_)
  · have h1 := (row_block (h.at' i hi) hj).choose_spec.2.2
    have h2 := (ra.lt j e).1
    omega
  · have h1 := (row_block (h.kd i hi) hj).choose_spec.2.2
    have h2 := (rk.lt j e).1
    omega

/-! ### a cell of a node that is set -/
theorem ndsC_setP : ∀ (D : List Nd) (A K : Nat → Value) (i : Nat) (h : i < D.length) (p : Int), (ndsC D A K).set (i * 8 + 4) (.int .i64 p) = ndsC (D.set i { D[i] with p := p }) A K
  | x :: D, A, K, 0, _, p => rfl
  | x :: D, A, K, i + 1, h, p => by
    show (ndC x _ _ ++ ndsC D _ _).set _ _ = ndC x _ _ ++ ndsC (D.set i _) _ _
    rw [show (i + 1) * 8 + 4 = (ndC x (A 0) (K 0)).length + (i * 8 + 4) by show _ = 8 + _; omega, List.set_append_right _ _ (by omega)]
    rw [Nat.add_sub_cancel_left]
    exact congrArg _ (ndsC_setP D _ _ i (by simpa using h) p)
theorem ndsC_setK : ∀ (D : List Nd) (A K : Nat → Value) (i : Nat) (_ : i < D.length) (kv : Value), (ndsC D A K).set (i * 8 + 5) kv = ndsC D A (upd K i kv)
  | x :: D, A, K, 0, _, kv => by
    show ndC x (A 0) kv ++ ndsC D _ _ = ndC x (A 0) (upd K 0 kv 0) ++ ndsC D _ _
    rw [upd_self]
    exact congrArg _ (ndsC_same D _ _ _ _ fun i _ => ⟨rfl, (upd_ne (by omega)).symm⟩)
  | x :: D, A, K, i + 1, h, kv => by
    show (ndC x _ _ ++ ndsC D _ _).set _ _ = ndC x (A 0) (upd K (i + 1) kv 0) ++ ndsC D _ _
    rw [upd_ne (by omega), show (i + 1) * 8 + 5 = (ndC x (A 0) (K 0)).length + (i * 8 + 5) by show _ = 8 + _; omega, List.set_append_right _ _ (by omega), Nat.add_sub_cancel_left]
    have := ndsC_setK D (fun i => A (i + 1)) (fun i => K (i + 1)) i (by simpa using h) kv
    rw [this]
    exact congrArg _ (ndsC_same D _ _ _ _ fun j _ => ⟨rfl, by unfold upd; simp⟩)
theorem ndsC_setA : ∀ (D : List Nd) (A K : Nat → Value) (i : Nat) (_ : i < D.length) (av : Value), (ndsC D A K).set (i * 8 + 3) av = ndsC D (upd A i av) K
  | x :: D, A, K, 0, _, av => by
    show ndC x av (K 0) ++ ndsC D _ _ = ndC x (upd A 0 av 0) (K 0) ++ ndsC D _ _
    rw [upd_self]
    exact congrArg _ (ndsC_same D _ _ _ _ fun i _ => ⟨(upd_ne (by omega)).symm, rfl⟩)
  | x :: D, A, K, i + 1, h, av => by
    show (ndC x _ _ ++ ndsC D _ _).set _ _ = ndC x (upd A (i + 1) av 0) (K 0) ++ ndsC D _ _
    rw [upd_ne (by omega), show (i + 1) * 8 + 3 = (ndC x (A 0) (K 0)).length + (i * 8 + 3) by show _ = 8 + _; omega, List.set_append_right _ _ (by omega), Nat.add_sub_cancel_left]
    have := ndsC_setA D (fun i => A (i + 1)) (fun i => K (i + 1)) i (by simpa using h) av
    rw [this]
    exact congrArg _ (ndsC_same D _ _ _ _ fun j _ => ⟨by unfold upd; simp, rfl⟩)
/-- A node's attributes, its kids turn; its cells do not. -/
theorem ndsC_same2 : ∀ (D E : List Nd) (A K : Nat → Value), D.length = E.length → (∀ (i : Nat) (x y : Nd), D[i]? = some x → E[i]? = some y → x.k = y.k ∧ x.n = y.n ∧ x.d = y.d ∧ x.p = y.p ∧ x.b = y.b ∧ x.s = y.s) → ndsC D A K = ndsC E A K
  | [], [], _, _, _, _ => rfl
  | x :: D, y :: E, A, K, h, g => by
    obtain ⟨e1, e2, e3, e4, e5, e6⟩ := g 0 x y rfl rfl
    show ndC x _ _ ++ ndsC D _ _ = ndC y _ _ ++ ndsC E _ _
    rw [ndsC_same2 D E _ _ (by simpa using h) (fun i x' y' hx hy => g (i + 1) x' y' hx hy)]
    unfold ndC
    rw [e1, e2, e3, e4, e5, e6]

end Go.Proofs.Ytcmbkhlnigbooaa.Dm

namespace Go.Proofs.Ytcmbkhlnigbooaa.Dm
open Go.RowKit

set_option maxRecDepth 100000 in
set_option maxHeartbeats 2000000 in
theorem holds_hid (k : Int) (N D : ByteArray) (p : Int) (b s : Bool) : Hid (∀ W av kv, Calls Try.prog 69 #[.agg #[.int .i64 k, .string N, .string D, av, .int .i64 p, kv, .bool b, .bool s]] W fun e w' => e = .returned (.bool (decide (k = 1) || decide (k = 2))) ∧ Below W.heap.size W w') := Lib.hid fun w av kv => by
  have al := (Below.refl w.heap.size w).alloc (Nat.le_refl _) (.cells #[.int .i64 k, .string N, .string D, av, .int .i64 p, kv, .bool b, .bool s] 42)
  have hbx := new_block w (.cells #[.int .i64 k, .string N, .string D, av, .int .i64 p, kv, .bool b, .bool s] 42)
  have e0 := cell_of hbx 0
  have HB := Lib.hid al
  clear al hbx
  by_cases h1 : k = 1
  · subst h1
    go_enter Try.func69, Try.ntmps69
    go_wp2
    go_ret
    exact ⟨rfl, HB.out⟩
  · have z1 : decide (k = 1) = false := decide_eq_false h1
    by_cases h2 : k = 2
    · subst h2
      go_enter Try.func69, Try.ntmps69
      go_wp2
      go_ret
      exact ⟨rfl, HB.out⟩
    · have z2 : decide (k = 2) = false := decide_eq_false h2
      go_enter Try.func69, Try.ntmps69
      go_wp2
      go_ret
      exact ⟨by simp [h1, h2], HB.out⟩

/-- A document boxed. -/
theorem docBox (w : World) {sl : Value} {D : List Nd} {A K : Nat → Value} (h : DocIn w sl D A K) : DocIn (w.alloc (.cells #[sl] 24)) sl D A K ∧ (w.alloc (.cells #[sl] 24)).heap[w.heap.size]? = some (.cells #[sl] 24 (0, 0)) ∧ Below w.heap.size w (w.alloc (.cells #[sl] 24)) := by
  have al := (Below.refl w.heap.size w).alloc (Nat.le_refl _) (.cells #[sl] 24)
  exact ⟨h.below al, new_block w _, al⟩
/-- How often n is among the kids of the first i nodes, and the first j kids of the next one. -/
def cntU (D : List Nd) (n : Int) (i j : Nat) : Nat := ((D.take i).flatMap (·.c)).count n + ((match D[i]? with | some x => x.c | none => []).take j).count n
theorem cntU_zero (D : List Nd) (n : Int) : cntU D n 0 0 = 0 := by simp [cntU]
theorem cntU_next {D : List Nd} {n : Int} {i : Nat} (h : i < D.length) : cntU D n i D[i].c.length = cntU D n (i + 1) 0 := by
  unfold cntU
  rw [List.getElem?_eq_getElem h, List.take_add_one, List.getElem?_eq_getElem h, List.flatMap_append, List.count_append]
  simp
theorem cntU_step {D : List Nd} {n : Int} {i j : Nat} (h : i < D.length) (hj : j < D[i].c.length) : cntU D n i (j + 1) = cntU D n i j + if D[i].c[j] = n then 1 else 0 := by
  unfold cntU
  rw [List.getElem?_eq_getElem h]
  simp only [List.take_add_one, List.getElem?_eq_getElem hj, Option.toList_some, List.count_append, List.count_singleton, beq_iff_eq]
  omega
theorem cntU_end (D : List Nd) (n : Nat) : cntU D (n : Int) D.length 0 = timesM D n := by simp [cntU, timesM]
/-- No more than is looked at, widely. -/
def FitN (x : Nd) : Prop := x.n.length ≤ 1000 ∧ x.d.length ≤ 10000 ∧ x.a.length ≤ 1000 ∧ x.c.length ≤ 1000 ∧ ∀ y ∈ x.a, y.1.length ≤ 10000 ∧ y.2.length ≤ 10000
def FitD (D : List Nd) : Prop := D.length ≤ 400 ∧ ∀ x ∈ D, FitN x
theorem flat_len {D : List Nd} (h : ∀ x ∈ D, FitN x) : (D.flatMap (·.c)).length ≤ D.length * 1000 := by
  induction D with
  | nil => simp
  | cons x D ih =>
    have h1 := ih fun y hy => h y (List.mem_cons_of_mem _ hy)
    have h2 := (h x (List.mem_cons_self ..)).2.2.2.1
    rw [List.flatMap_cons, List.length_append, List.length_cons]
    omega
theorem cntU_le {D : List Nd} (h : FitD D) (n : Int) (i j : Nat) : cntU D n i j ≤ 401000 := by
  unfold cntU
  have h1 := List.count_le_length (a := n) (l := (D.take i).flatMap (·.c))
  have h2 := flat_len (D := D.take i) fun x hx => h.2 x (List.mem_of_mem_take hx)
  have h3 := h.1
  have h4 : (D.take i).length ≤ D.length := List.length_take_le' _ _
  have h5 : ((match D[i]? with | some x => x.c | none => []).take j).count n ≤ 1000 := by
    refine Nat.le_trans (List.count_le_length ..) (Nat.le_trans (List.length_take_le' _ _) ?_)
    split
    · rename_i x hx
      exact (h.2 x (List.mem_of_getElem? hx)).2.2.2.1
    · exact Nat.zero_le _
  omega

set_option maxRecDepth 100000 in
set_option maxHeartbeats 4000000 in
theorem times_hid (D : List Nd) (hf : FitD D) (m : Nat) : Hid (∀ W sl A K, DocIn W sl D A K → Calls Try.prog 78 #[.agg #[sl], .int .i64 (m : Int)] W fun e w' => e = .returned (.int .i64 (timesM D m : Int)) ∧ Below W.heap.size W w') := Lib.hid fun w sl A K hd => by
  obtain ⟨a, c, rfl⟩ := hd.form
  obtain ⟨d1, b1, l1⟩ := docBox w hd
  have hfl := hf.1
  have HF := Lib.hid hf
  generalize hw1 : w.alloc (.cells #[.slice a D.length c] 24) = w1 at d1 b1 l1
  have e0 := cell_of b1 0
  have H1 := Lib.hid (And.intro d1 l1)
  clear hd d1 b1 l1 hf
  go_enter Try.func78, Try.ntmps78
  go_wp2
  clear hw1
  generalize w.heap.size = R at e0 ⊢
  go_loopw [5, 6] (fun k i wr => ∃ (u : Nat), i = .int .i64 u ∧ u ≤ D.length ∧ k = .int .i64 (cntU D (m : Int) u 0 : Nat) ∧ wr = w1) (fun _ i _ => D.length - (intOf i).toNat)
  case atStart => exact ⟨0, rfl, Nat.zero_le _, by rw [cntU_zero]; rfl, rfl⟩
  case round =>
    obtain ⟨u, rfl, hu, rfl, rfl⟩ := hrel
    by_cases hlt : u < D.length
    · obtain ⟨B, off, rfl, c0, c1, c2, c3, c4, c5, c6, c7⟩ := H1.out.1.node hlt
      obtain ⟨ka, kc, hk⟩ := (H1.out.1.kd u hlt).form
      rw [hk] at c5
      have HK : Hid (IntIn wr (.slice ka D[u].c.length kc) D[u].c) := Lib.hid (by rw [← hk]; exact H1.out.1.kd u hlt)
      have zu : (u : Int) < (D.length : Int) := by omega
      clear hk c0 c1 c2 c3 c4 c6 c7
      have hlen : D[u].c.length ≤ 1000 := (HF.out.2 _ (List.getElem_mem hlt)).2.2.2.1
      have HST : Hid (∀ j, (h : j < D[u].c.length) → cntU D (m : Int) u (j + 1) = cntU D (m : Int) u j + if D[u].c[j] = (m : Int) then 1 else 0) := Lib.hid fun j h => cntU_step hlt h
      have HNX : Hid (cntU D (m : Int) u D[u].c.length = cntU D (m : Int) (u + 1) 0) := Lib.hid (cntU_next hlt)
      generalize hC : D[u].c = C at HK HST HNX hlen c5
      clear hC
      obtain ⟨w2, rfl⟩ : ∃ w2 : World, w2 = wr := ⟨_, rfl⟩
      go_wp2
      go_hide hQ
      go_loopw [5, 7] (fun k j wr => ∃ (v : Nat), j = .int .i64 v ∧ v ≤ C.length ∧ k = .int .i64 (cntU D (m : Int) u v : Nat) ∧ wr = w2) (fun _ j _ => C.length - (intOf j).toNat)
      case atStart => exact ⟨0, rfl, Nat.zero_le _, rfl, rfl⟩
      case round =>
        obtain ⟨v, rfl, hv, rfl, rfl⟩ := hrel
        have hcl := cntU_le HF.out (m : Int) u v
        by_cases hlv : v < C.length
        · obtain ⟨B2, off2, rfl, k0⟩ := HK.out.at hlv
          have zv : (v : Int) < (C.length : Int) := by omega
          have hst := HST.out v hlv
          generalize hq : cntU D (m : Int) u v = q at hcl hst ⊢
          clear hq
          generalize C[v] = y at k0 hst
          by_cases hy : y = (m : Int)
          · have zy : (y == (m : Int)) = true := by simp [hy]
            rw [if_pos hy] at hst
            have HS2 := Lib.hid hst
            clear hy hst
            go_wp2
            go_roundw
            case rel => exact ⟨v + 1, by go_num, by omega, by rw [HS2.out]; go_num, trivial⟩
            case measure => simp [intOf]; omega
          · have zy : (y == (m : Int)) = false := by simp [hy]
            rw [if_neg hy, Nat.add_zero] at hst
            have HS2 := Lib.hid hst
            clear hst
            go_wp2
            go_roundw
            case rel => exact ⟨v + 1, by go_num, by omega, by rw [HS2.out]; rfl, trivial⟩
            case measure => simp [intOf]; omega
        · obtain rfl : v = C.length := by omega
          have zv : ¬ (C.length : Int) < (C.length : Int) := by omega
          rw [HNX.out]
          go_wp2_with fail
          subst hQ
          go_wp2
          go_roundw
          case rel => exact ⟨u + 1, by go_num, by omega, rfl, trivial⟩
          case measure => simp [intOf]; omega
    · obtain rfl : u = D.length := by omega
      rw [cntU_end]
      go_wp2
      go_ret
      exact ⟨rfl, H1.out.2⟩

end Go.Proofs.Ytcmbkhlnigbooaa.Dm

namespace Go.Proofs.Ytcmbkhlnigbooaa.Dm
open Go.RowKit

/-- Loads of a document's own field, which the walk asks for. -/
theorem mem_take_succ {C : List Int} {n : Int} {v : Nat} (h : v < C.length) (hn : n ∉ C.take v) (hy : C[v] ≠ n) : n ∉ C.take (v + 1) := by
  rw [List.take_add_one, List.getElem?_eq_getElem h]
  simp only [Option.toList_some, List.mem_append, List.mem_singleton, not_or]
  exact ⟨hn, fun e => hy e.symm⟩
set_option maxRecDepth 100000 in
set_option maxHeartbeats 4000000 in
theorem has_hid (D : List Nd) (hf : FitD D) (q : Nat) (n : Int) (hq : q < D.length) : Hid (∀ W sl A K, DocIn W sl D A K → Calls Try.prog 79 #[.agg #[sl], .int .i64 (q : Int), .int .i64 n] W fun e w' => e = .returned (.bool (decide (n ∈ D[q].c))) ∧ Below W.heap.size W w') := Lib.hid fun w sl A K hd => by
  obtain ⟨a, c, rfl⟩ := hd.form
  obtain ⟨d1, b1, l1⟩ := docBox w hd
  have hfl := hf.1
  generalize hw1 : w.alloc (.cells #[.slice a D.length c] 24) = w1 at d1 b1 l1
  have e0 := cell_of b1 0
  obtain ⟨B, off, rfl, c0, c1, c2, c3, c4, c5, c6, c7⟩ := d1.node hq
  obtain ⟨ka, kc, hk⟩ := (d1.kd q hq).form
  rw [hk] at c5
  have HK : Hid (IntIn w1 (.slice ka D[q].c.length kc) D[q].c) := Lib.hid (by rw [← hk]; exact d1.kd q hq)
  have H1 := Lib.hid l1
  have hlen : D[q].c.length ≤ 1000 := (hf.2 _ (List.getElem_mem hq)).2.2.2.1
  have zq : (q : Int) < (D.length : Int) := by omega
  clear hd d1 b1 l1 hf hk c0 c1 c2 c3 c4 c6 c7
  generalize hC : D[q].c = C at HK hlen c5 ⊢
  clear hC
  go_enter Try.func79, Try.ntmps79
  go_wp2
  clear hw1
  generalize w.heap.size = R at e0 ⊢
  go_loopw [7] (fun j wr => ∃ (v : Nat), j = .int .i64 v ∧ v ≤ C.length ∧ Hid (n ∉ C.take v) ∧ wr = w1) (fun j _ => C.length - (intOf j).toNat)
  case atStart => exact ⟨0, rfl, Nat.zero_le _, Lib.hid (by simp), rfl⟩
  case round =>
    obtain ⟨v, rfl, hv, HN, rfl⟩ := hrel
    by_cases hlv : v < C.length
    · obtain ⟨B2, off2, rfl, k0⟩ := HK.out.at hlv
      have zv : (v : Int) < (C.length : Int) := by omega
      obtain ⟨y, hy0⟩ : ∃ y, C[v] = y := ⟨_, rfl⟩
      rw [hy0] at k0
      by_cases hy : y = n
      · have zy : (y == n) = true := by simp [hy]
        have hm : decide (n ∈ C) = true := decide_eq_true (by rw [← hy, ← hy0]; exact List.getElem_mem hlv)
        clear hy hy0
        go_wp2
        go_ret
        exact ⟨by rw [hm]; rfl, H1.out⟩
      · have zy : (y == n) = false := by simp [hy]
        have HN2 := Lib.hid (mem_take_succ hlv HN.out (by rw [hy0]; exact hy))
        clear hy hy0 HN
        go_wp2
        go_roundw
        case rel => exact ⟨v + 1, by go_num, by omega, HN2, trivial⟩
        case measure => simp [intOf]; omega
    · obtain rfl : v = C.length := by omega
      have hm : decide (n ∈ C) = false := decide_eq_false (by have := HN.out; rw [List.take_length] at this; exact this)
      clear HN
      go_wp2
      go_ret
      exact ⟨by rw [hm]; rfl, H1.out⟩

/-! ### may a node be -/
/-- The first i names are unlike. -/
def Unlike (A : List (List UInt8 × List UInt8)) (i : Nat) : Prop := ∀ (p q : Nat) (hq : q < A.length), q < i → (hp : p < q) → (A[p]'(by omega)).1 ≠ A[q].1
theorem unlike_nodup {A : List (List UInt8 × List UInt8)} (h : Unlike A A.length) : (A.map Prod.fst).Nodup := by
  rw [List.nodup_iff_pairwise_ne, List.pairwise_iff_getElem]
  intro i j hi hj hij
  simp only [List.length_map] at hi hj
  simp only [List.getElem_map]
  exact h i j hj hj hij
theorem like_nodup {A : List (List UInt8 × List UInt8)} {p q : Nat} (hq : q < A.length) (hp : p < q) (h : (A[p]'(by omega)).1 = A[q].1) : ¬ (A.map Prod.fst).Nodup := by
  rw [List.nodup_iff_pairwise_ne, List.pairwise_iff_getElem]
  intro g
  have := g p q (by simp; omega) (by simpa using hq) hp
  simp only [List.getElem_map] at this
  exact this h

end Go.Proofs.Ytcmbkhlnigbooaa.Dm
