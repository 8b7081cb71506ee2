/- Policies of a text: the document's. -/
import Derived.Test.YtmlanlagnhnppaaDoorPols
namespace Go.Proofs.YtmlanlagnhnppaaDoor
open Go.RowKit

theorem findM_is (ds : List D) (name : List UInt8) : (findM ds name).isSome = decide (low name ∈ ds.map D.n) := by
  unfold findM
  rw [Option.isSome_map, Bool.eq_iff_iff, List.find?_isSome, decide_eq_true_iff, List.mem_map]
  constructor
  · rintro ⟨d, h1, h2⟩
    exact ⟨d, h1, by simpa using h2⟩
  · rintro ⟨d, h1, h2⟩
    exact ⟨d, h1, by simpa using h2⟩
theorem refFind_b (ds : List D) (dv : Value) (r : Bool) (name : ByteArray) (b : Bool) (hb : decide (low name.data.toList ∈ ds.map D.n) = b) (w : World) (hd : DirsIn w dv ds) (hl : ds.length ≤ 1000000) (hws : ∀ d ∈ ds, d.w.length ≤ 1000000) (hn : name.size ≤ 1099511627776) :
    Calls Tryd.prog 16 #[polV dv r, .string name] w fun e w' => (∃ a n c, e = .returned (.tuple #[.slice a n c, .bool b])) ∧ Below w.heap.size w w' :=
  (refFind_any ds dv r name w hd hl hws hn).mono fun e w' h => by
    obtain ⟨h1, h2⟩ := h
    refine ⟨?_, h1⟩
    have h3 := findM_is ds name.data.toList
    rw [hb] at h3
    rcases h2 with ⟨h4, h5⟩ | ⟨ws, v, h4, h5, h6⟩
    · rw [h4] at h3
      subst h5
      exact ⟨none, 0, 0, by rw [← h3]; rfl⟩
    · rw [h4] at h3
      obtain ⟨a, c, rfl⟩ := h6.form
      subst h5
      exact ⟨a, _, c, by rw [← h3]; rfl⟩

/-- Where the inner loop stands: the policy's block, its row of directives; but for that block, whatever lay lies as it lay. -/
def In2 (w4 : World) (Pb : Nat) (r : Bool) (ds : List D) (W : World) : Prop := ∃ v, W.heap[Pb]? = some (.cells #[v, .bool r] 29 (0, 0)) ∧ OwnD W w4.heap.size v ds ∧ Turn Pb Pb none w4 W
theorem In2.below {w4 A B : World} {Pb : Nat} {r : Bool} {ds : List D} (h : In2 w4 Pb r ds A) (hb : Below A.heap.size A B) : In2 w4 Pb r ds B := by
  obtain ⟨v, h1, h2, h3⟩ := h
  refine ⟨v, (hb.block _ (lt_of_block h1)).trans h1, h2.below hb, ⟨hb.os.trans h3.os, hb.tape.trans h3.tape, hb.output.trans h3.output, Nat.le_trans h3.size hb.size, fun k hk a b c => (hb.block k (Nat.lt_of_lt_of_le hk h3.size)).trans (h3.block k hk a b c)⟩⟩
theorem In2.size {w4 A : World} {Pb : Nat} {r : Bool} {ds : List D} (h : In2 w4 Pb r ds A) : w4.heap.size ≤ A.heap.size := by
  obtain ⟨v, _, _, h3⟩ := h
  exact h3.size
theorem In2.texts {w4 A : World} {Pb : Nat} {r : Bool} {ds : List D} (h : In2 w4 Pb r ds A) {v0 : Value} (hp : w4.heap[Pb]? = some (.cells #[v0, .bool r] 29 (0, 0))) (hv : ∀ s, v0 ≠ .string s) {v : Value} {L : List (List UInt8)} (ht : TextsIn w4 v L) : TextsIn A v L := by
  obtain ⟨_, _, _, h3⟩ := h
  rcases ht with ht | ⟨B, off, cap, h4, h5⟩
  · exact .inl ht
  · refine .inr ⟨B, off, cap, h4, fun j hj => ?_⟩
    have h6 := h5 j hj
    have hne : B ≠ Pb := fun e => by
      subst e
      rw [cell_of hp] at h6
      unfold strV at h6
      rcases hm : off + j with _ | _ | m
      · rw [hm] at h6
        simp at h6
        exact hv _ h6
      · rw [hm] at h6; simp at h6
      · rw [hm] at h6; simp at h6
    rw [World.cell?_of_block (h3.block B (lt_of_cell h6) hne hne (by simp))]
    exact h6
theorem takeM_len' (ds : List D) (x : List UInt8 × List (List UInt8)) : (takeM ds x).length ≤ ds.length + 1 := by
  unfold takeM
  split
  · simp
  · omega
theorem addD_bound (L : List (List UInt8)) (k : Nat) : ((L.take k).foldl addD []).length ≤ k := by
  have h : ∀ (L : List (List UInt8)) (ds : List D), (L.foldl addD ds).length ≤ ds.length + L.length := by
    intro L
    induction L with
    | nil => intro ds; exact Nat.le_refl _
    | cons x L ih =>
      intro ds
      have h1 := ih (addD ds x)
      have h2 : (addD ds x).length ≤ ds.length + 1 := by
        rw [addD_tel]
        split
        · omega
        · exact takeM_len' _ _
      rw [List.foldl_cons, List.length_cons]
      omega
  have h1 := h (L.take k) []
  rw [List.length_take, List.length_nil] at h1
  omega
theorem addD_right2 (L : List (List UInt8)) : ∀ d ∈ L.foldl addD [], dirR d = true := (foldD_right L [] ⟨by simp, List.Pairwise.nil⟩).1


/-- A part that tells nothing that is taken in. -/
theorem addD_no {ds : List D} {x : List UInt8} (h : telM x = none ∨ ∃ n ws, telM x = some (n, ws) ∧ (nameH n = false ∨ (nameH n = true ∧ n ∈ ds.map D.n))) : addD ds x = ds := by
  rw [addD_tel]
  rcases h with h | ⟨n, ws, h, h2⟩
  · rw [h]
  · rw [h]
    show takeM ds (n, ws) = ds
    unfold takeM
    rw [if_neg]
    rintro ⟨h3, h4⟩
    rcases h2 with h2 | ⟨_, h2⟩
    · rw [h3] at h2; cases h2
    · exact h4 h2
theorem addD_yes {ds : List D} {x n : List UInt8} {ws : List (List UInt8)} (h : telM x = some (n, ws)) (h1 : nameH n = true) (h2 : ¬ n ∈ ds.map D.n) : addD ds x = ds ++ [⟨n, ws⟩] := by
  rw [addD_tel, h]
  show takeM ds (n, ws) = _
  unfold takeM
  rw [if_pos ⟨h1, h2⟩]
/-- What a part's directive is: without a name or with. -/
def DirPost (_x : List UInt8) (w : World) (N : ByteArray) (ws : List (List UInt8)) (ok : Bool) (e : Ending) (w' : World) : Prop := (∃ a c, e = .returned (.tuple #[.agg #[.string N, .slice a ws.length c], .bool ok]) ∧ w'.ownsRow w.heap.size 9 1 (.slice a ws.length c) ws.length (txtCells ws)) ∧ Below w.heap.size w w'
theorem refDir_tel (s : ByteArray) (hs : s.size ≤ 1000000000) : ∃ (N : ByteArray) (ws : List (List UInt8)) (ok : Bool), (∀ w, Calls Tryd.prog 26 #[.string s] w (DirPost s.data.toList w N ws ok)) ∧ N.size ≤ 1000000000 ∧ ((telM s.data.toList = none ∧ ok = false) ∨ (telM s.data.toList = some (N.data.toList, ws) ∧ ok = nameH N.data.toList)) := by
  cases hw : words s.data.toList with
  | nil =>
    refine ⟨⟨#[]⟩, [], false, fun w => (refDir_none s hs hw w).mono fun e w' h => ⟨⟨none, 0, h.1, World.ownsRow_nil _ _ _ _⟩, h.2⟩, by decide, .inl ⟨by unfold telM; rw [hw], rfl⟩⟩
  | cons n ws =>
    obtain ⟨N, hN⟩ := text_of (low n)
    refine ⟨N, keptW ws 200, nameH (low n), fun w => (refDir_some s hs n ws hw N hN w).mono fun e w' h => ?_, ?_, .inr ⟨by unfold telM; rw [hw, hN], by rw [hN]⟩⟩
    · obtain ⟨u, h1, h2, h3⟩ := h
      obtain ⟨a, c, rfl⟩ := (TextsIn.of_row h2).form
      exact ⟨⟨a, c, h1, h2⟩, h3⟩
    · have hwt := words_total s.data.toList
      have := mem_len (words s.data.toList) n (by rw [hw]; simp)
      rw [lsize] at hwt
      rw [← lsize, hN]
      unfold low
      rw [List.length_map]; omega

/-- One part, gone through: what it leaves. -/
theorem In2.grow {w4 A B : World} {Pb : Nat} {r : Bool} {ds : List D} {v v' : Value} {cs : List Value} {N : ByteArray} {ws : List (List UInt8)} {a : Option Addr} {c : Nat} (hpol : A.heap[Pb]? = some (.cells #[v, .bool r] 29 (0, 0))) (t : Turn Pb Pb none w4 A) (hP : Pb < w4.heap.size) (hrow : A.ownsRow w4.heap.size 42 2 v ds.length cs) (hd : DRow A w4.heap.size v.ownBlock ds cs) {lo : Nat} (hlo : w4.heap.size ≤ lo) (hlo2 : ∀ k, v.ownBlock = some k → k < lo) (hx : A.ownsRow lo 9 1 (.slice a ws.length c) ws.length (txtCells ws))
    (hown : B.ownsRow w4.heap.size 42 2 v' (ds.length + 1) (cs ++ [.string N, .slice a ws.length c])) (hg : (A.alloc (.cells #[.string N, .slice a ws.length c] 42)).grownBy B v.ownBlock) (hat : v'.ownBlock = v.ownBlock ∨ v'.ownBlock = some (A.alloc (.cells #[.string N, .slice a ws.length c] 42)).heap.size) : B.heap[Pb]? = some (.cells #[v, .bool r] 29 (0, 0)) ∧ In2 w4 Pb r (ds ++ [⟨N.data.toList, ws⟩]) (B.setCell ⟨Pb, 0, none⟩ v') := by
  have bA : Below A.heap.size A (A.alloc (.cells #[.string N, .slice a ws.length c] 42)) := (Below.refl _ _).alloc (Nat.le_refl _) _
  have hob := hrow.lt
  have y : B.heap[Pb]? = some (.cells #[v, .bool r] 29 (0, 0)) := by
    rw [hg.block Pb (by have := lt_of_block hpol; simp; omega) (fun e => by have := (hob Pb e.symm).1; omega), bA.block _ (lt_of_block hpol)]
    exact hpol
  have hs : strV N.data.toList = .string N := rfl
  have tb : TextsBy A w4.heap.size v.ownBlock (.slice a ws.length c) ws := TextsBy.of_row hx hlo hlo2
  have on : OwnD B w4.heap.size v' (ds ++ [⟨N.data.toList, ws⟩]) := OwnD.grow ⟨N.data.toList, ws⟩ (.slice a ws.length c) (hd.below bA) (tb.below bA) (by rw [hs]; exact hown) hg hat
  refine ⟨y, v', heap_setCell_same _ Pb 0 _ _ _ v' y, on.set hP _, ⟨hg.os.trans (bA.os.trans t.os), hg.tape.trans (bA.tape.trans t.tape), hg.output.trans (bA.output.trans t.output), ?_, fun k hk a b c => ?_⟩⟩
  · have h1 := hg.size
    have h2 := t.size
    simp at h1
    simp [World.setCell]; omega
  · have hk2 : k < A.heap.size := Nat.lt_of_lt_of_le hk t.size
    rw [Below.heap_setCell _ _ _ _ a, hg.block k (by simp; omega) (fun e => by have := (hob k e.symm).1; omega), bA.block k hk2]
    exact t.block k hk a b c

end Go.Proofs.YtmlanlagnhnppaaDoor
