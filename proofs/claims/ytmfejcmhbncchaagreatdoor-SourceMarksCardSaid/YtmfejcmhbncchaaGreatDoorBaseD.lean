/- Bits in groups: the program's regroup. -/
import Derived.Test.YtmfejcmhbncchaaGreatDoorBaseC
namespace Go.Proofs.YtmfejcmhbncchaaGreatDoor
open Go.RowKit

theorem Tinfo4 : (Tryz.prog.info? 4).map (fun i => (i.zero, i.size, i.bytes)) = some (some (.bool false), 1, 1) := by kernel_rfl
def natCells (m : List Nat) : List Value := m.map fun (x : Nat) => Value.int .u8 (x : Int)
theorem natCells_length (m : List Nat) : (natCells m).length = m.length := by simp [natCells]
theorem natCells_snoc (m : List Nat) (x : Nat) : natCells (m ++ [x]) = natCells m ++ [.int .u8 (x : Int)] := by simp [natCells]
/-- A slice of small numbers that reads as this list. -/
def NatsIn (w : World) (v : Value) (l : List Nat) : Prop :=
  ((∃ a c, v = .slice a 0 c) ∧ l = []) ∨ ∃ B off cap, v = .slice (some ⟨B, off, none⟩) l.length cap ∧ ∀ j, (h : j < l.length) → w.cell? ⟨B, off + j, none⟩ = some (.int .u8 (l[j] : Int))
theorem NatsIn.below {w w' : World} {v : Value} {p : List Nat} (h : NatsIn w v p) (hb : Below w.heap.size w w') : NatsIn w' v p := by
  rcases h with h | ⟨B, off, cap, h1, h2⟩
  · exact .inl h
  · exact .inr ⟨B, off, cap, h1, fun j hj => by rw [hb.cell (lt_of_cell (h2 j hj))]; exact h2 j hj⟩
theorem NatsIn.form {w : World} {v : Value} {p : List Nat} (h : NatsIn w v p) : ∃ a c, v = .slice a p.length c := by
  rcases h with ⟨⟨a, c, rfl⟩, rfl⟩ | ⟨B, off, cap, rfl, _⟩
  · exact ⟨_, _, rfl⟩
  · exact ⟨_, _, rfl⟩
theorem NatsIn.of_row {w : World} {base : Nat} {v : Value} {p : List Nat} (h : w.ownsRow base 5 1 v p.length (natCells p)) : NatsIn w v p := by
  rcases rowForms h with ⟨h1, h2⟩ | ⟨g, cap, rfl⟩
  · exact .inl ⟨⟨_, _, h1⟩, List.length_eq_zero_iff.1 h2⟩
  · refine .inr ⟨g, 0, cap, rfl, fun j hj => ?_⟩
    rw [Nat.zero_add, h.cellAt j (by omega)]
    simp [natCells, List.getElem?_eq_getElem hj]

theorem flat_part (f : Nat) (l : List Nat) (k j : Nat) (hk : k < l.length) (hj : j < f) : flat f (l.take k) ++ (bitsN f l[k]).take (j + 1) = flat f (l.take k) ++ (bitsN f l[k]).take j ++ [l[k] / 2 ^ (f - 1 - j) % 2 == 1] := by
  rw [List.take_add_one, bitsN_get f l[k] j hj, List.append_assoc]
  rfl

theorem and_one (y : Nat) (h : y ≤ 255) : bits .and .u8 (y : Int) 1 = ((y % 2 : Nat) : Int) := by
  have : ∀ m : Fin 256, bits .and .u8 (m.val : Int) 1 = ((m.val % 2 : Nat) : Int) := by decide +kernel
  exact this ⟨y, by omega⟩
theorem or_two (a b : Nat) (h : a ≤ 127) (h2 : b ≤ 1) : bits .or .u8 ((a : Int) * 2) (b : Int) = ((2 * a + b : Nat) : Int) := by
  have : ∀ m : Fin 128, bits .or .u8 ((m.val : Int) * 2) ((0 : Nat) : Int) = ((2 * m.val + 0 : Nat) : Int) ∧ bits .or .u8 ((m.val : Int) * 2) ((1 : Nat) : Int) = ((2 * m.val + 1 : Nat) : Int) := by decide +kernel
  have := this ⟨a, by omega⟩
  obtain rfl | rfl : b = 0 ∨ b = 1 := by omega
  · exact this.1
  · exact this.2
theorem bit_in (a x c : Nat) (ha : a ≤ 127) (hx : x ≤ 255) : bits .or .u8 ((a : Int) * 2) (bits .and .u8 ((x : Int) / 2 ^ c) 1) = ((2 * a + (x / 2 ^ c % 2 == 1).toNat : Nat) : Int) := by
  have e : ((x : Int) / 2 ^ c) = ((x / 2 ^ c : Nat) : Int) := by rw [Int.natCast_ediv, Int.natCast_pow]; rfl
  have hle : x / 2 ^ c ≤ 255 := Nat.le_trans (Nat.div_le_self _ _) hx
  rw [e, and_one _ hle, or_two a _ ha (by omega)]
  rcases Nat.mod_two_eq_zero_or_one (x / 2 ^ c) with h | h <;> rw [h] <;> rfl
theorem num_127 {t : Nat} {h : List Bool} (ht : t ≤ 8) (hl : h.length < t) : num h ≤ 127 := by
  have h1 := num_lt h
  have h2 : 2 ^ h.length ≤ 2 ^ 7 := Nat.pow_le_pow_right (by decide) (by omega)
  omega

set_option maxRecDepth 100000 in
set_option maxHeartbeats 1000000 in
theorem regroup_any (f t : Nat) (hf : 1 ≤ f) (hf2 : f ≤ 8) (ht : 1 ≤ t) (ht2 : t ≤ 8) (l : List Nat) (hl8 : ∀ x ∈ l, x ≤ 255) (v : Value) (w : World) (hin : NatsIn w v l) (hl : l.length ≤ 1000000) :
    Calls Tryz.prog 28 #[v, .int .i64 (f : Int), .int .i64 (t : Int)] w fun e w' => (∃ u, e = .returned (.tuple #[u, .int .u8 (num (grp t (flat f l)).2 : Nat), .int .i64 ((grp t (flat f l)).2.length : Nat)]) ∧ w'.ownsRow w.heap.size 5 1 u (grp t (flat f l)).1.length (natCells (grp t (flat f l)).1)) ∧ Below w.heap.size w w' := by
  obtain ⟨a, c, rfl⟩ := hin.form
  have hcell : Hid (∀ j, (h : j < l.length) → ∃ B off, a = some ⟨B, off, none⟩ ∧ B < w.heap.size ∧ w.cell? ⟨B, off + j, none⟩ = some (.int .u8 (l[j] : Int))) := Lib.hid fun j h => by
    rcases hin with ⟨_, h2⟩ | ⟨B, off, cap, h1, h2⟩
    · subst h2; simp at h
    · cases h1
      exact ⟨B, off, rfl, lt_of_cell (h2 j h), h2 j h⟩
  obtain ⟨z, hz⟩ : ∃ z : Nat, (l.length : Int) * (f : Int) / (t : Int) + 1 = (z : Int) := ⟨l.length * f / t + 1, by rw [Int.natCast_add, Int.natCast_ediv, Int.natCast_mul]; rfl⟩
  have hmul : (l.length : Int) * (f : Int) ≤ 8000000 := by
    have := Nat.mul_le_mul hl hf2
    rw [← Int.natCast_mul]; omega
  have hmul0 : 0 ≤ (l.length : Int) * (f : Int) := by rw [← Int.natCast_mul]; omega
  have hz9 : z ≤ 8000001 := by
    have h1 : (l.length : Int) * (f : Int) / (t : Int) ≤ (l.length : Int) * (f : Int) := Int.ediv_le_self _ hmul0
    omega
  have htz : ((t : Int) == 0) = false := by rw [beq_eq_false_iff_ne]; omega
  have ht0 : ¬ (t : Int) = 0 := by omega
  obtain ⟨i0, hi, hz0, hz1, hz2⟩ := info_parts Tinfo5
  obtain ⟨W1, hmk, hown, hgr⟩ := run_make_own (P := Tryz.prog) w w.heap.size 46 5 i0 _ 1 Tryz.underlying46 hi hz0 hz1 .i64 .i64 z (by rw [hz2]; omega) (by unfold maxLen; omega) (Nat.le_refl _)
  have hmk2 : (Instr.makeSlice 46 (.int .i64 0) (.int .i64 (z : Int))).run Tryz.prog w = .ok (.slice (some ⟨w.heap.size, 0, none⟩) 0 z) W1 := hmk
  have B1 : Below w.heap.size w W1 := Below.grown (Below.refl _ _) hgr (Nat.le_refl _) (fun k hk => by cases hk)
  generalize hv : (Value.slice (some ⟨w.heap.size, 0, none⟩) 0 z) = v0 at hmk2 hown
  have sizes : ∀ k j x, k ≤ l.length → j ≤ f → (grp t (flat f (l.take k) ++ (bitsN f x).take j)).2.length < t ∧ (grp t (flat f (l.take k) ++ (bitsN f x).take j)).1.length ≤ 8000008 := fun k j x hk hj => by
    obtain ⟨h1, h2, _⟩ := grp_spec t (by omega) (flat f (l.take k) ++ (bitsN f x).take j)
    refine ⟨h2, ?_⟩
    have h3 := congrArg List.length h1
    rw [List.length_append, List.length_append, flat_length, flat_length, List.length_take, List.length_take, bitsN_length] at h3
    have h4 : f * min k l.length ≤ 8 * 1000000 := Nat.mul_le_mul hf2 (by omega)
    have h5 : 1 * (grp t (flat f (l.take k) ++ (bitsN f x).take j)).1.length ≤ t * (grp t (flat f (l.take k) ++ (bitsN f x).take j)).1.length := Nat.mul_le_mul_right _ ht
    omega
  have SZ := Lib.hid sizes
  clear hin hmk hgr hv sizes
  go_enter Tryz.func28, Tryz.ntmps28
  go_wp2
  go_loopw [9, 10, 11, 25] (fun v hh cc i wr => ∃ k : Nat, k ≤ l.length ∧ i = .int .i64 k ∧ hh = .int .u8 (num (grp t (flat f (l.take k))).2 : Nat) ∧ cc = .int .i64 ((grp t (flat f (l.take k))).2.length : Nat) ∧ wr.ownsRow w.heap.size 5 1 v (grp t (flat f (l.take k))).1.length (natCells (grp t (flat f (l.take k))).1) ∧ Below w.heap.size w wr) (fun _ _ _ i _ => l.length - (intOf i).toNat)
  case atStart => exact ⟨0, Nat.zero_le _, rfl, rfl, rfl, hown, B1⟩
  case round =>
    obtain ⟨k, hk, rfl, rfl, rfl, hown, hb⟩ := hrel
    obtain ⟨wo, rfl⟩ : ∃ wo : World, wo = wr := ⟨_, rfl⟩
    by_cases hlt : k < l.length
    · obtain ⟨B, off, rfl, hB, hc⟩ := hcell.out k hlt
      have hc1 : wo.cell? ⟨B, off + k, none⟩ = some (.int .u8 (l[k] : Int)) := by rw [hb.cell hB, hc]
      obtain ⟨x, hx⟩ : ∃ x, x = l[k] := ⟨_, rfl⟩
      rw [← hx] at hc1
      have hx8 : x ≤ 255 := by rw [hx]; exact hl8 _ (List.getElem_mem hlt)
      have HN : Hid (flat f (l.take (k + 1)) = flat f (l.take k) ++ (bitsN f x).take f) := Lib.hid (by
        have h0 : (bitsN f x).take f = bitsN f x := List.take_of_length_le (by rw [bitsN_length]; exact Nat.le_refl _)
        rw [flat_take f l k x (by rw [hx]; exact List.getElem?_eq_getElem hlt), h0])
      have HJ : Hid (∀ j, j < f → flat f (l.take k) ++ (bitsN f x).take (j + 1) = flat f (l.take k) ++ (bitsN f x).take j ++ [x / 2 ^ (f - 1 - j) % 2 == 1]) := Lib.hid fun j hj => by
        rw [hx]; exact flat_part f l k j hlt hj
      have SZ2 := Lib.hid fun j => SZ.out k j x hk
      clear hx hc hcell B1 hmk2 SZ
      generalize flat f (l.take k) = F at *
      go_wp2
      go_loopw [9, 10, 11, 30] (fun v hh cc i wr => ∃ j : Nat, j ≤ f ∧ i = .int .i64 j ∧ hh = .int .u8 (num (grp t (F ++ (bitsN f x).take j)).2 : Nat) ∧ cc = .int .i64 ((grp t (F ++ (bitsN f x).take j)).2.length : Nat) ∧ wr.ownsRow w.heap.size 5 1 v (grp t (F ++ (bitsN f x).take j)).1.length (natCells (grp t (F ++ (bitsN f x).take j)).1) ∧ Below w.heap.size w wr) (fun _ _ _ i _ => f - (intOf i).toNat)
      case atStart => exact ⟨0, Nat.zero_le _, rfl, by rw [List.take_zero, List.append_nil], by rw [List.take_zero, List.append_nil], by rw [List.take_zero, List.append_nil]; exact hown, hb⟩
      case round =>
        clear hown hb
        obtain ⟨j, hj, rfl, rfl, rfl, hown, hb⟩ := hrel
        by_cases hjt : j < f
        · obtain ⟨s1, s2⟩ := SZ2.out j hj
          have hstep := grp_snoc t (F ++ (bitsN f x).take j) (x / 2 ^ (f - 1 - j) % 2 == 1)
          rw [← HJ.out j hjt] at hstep
          generalize grp t (F ++ (bitsN f x).take j) = g at *
          obtain ⟨m, h⟩ := g
          simp only at hown s1 s2 ⊢
          have hh8 := num_127 ht2 s1
          have hval := bit_in (num h) x (f - 1 - j) hh8 hx8
          have hns := num_snoc h (x / 2 ^ (f - 1 - j) % 2 == 1)
          rw [← hns] at hval
          have hv255 : num (h ++ [x / 2 ^ (f - 1 - j) % 2 == 1]) ≤ 255 := by
            rw [hns]
            cases (x / 2 ^ (f - 1 - j) % 2 == 1) <;> simp <;> omega
          unfold stepG at hstep
          simp only at hstep
          generalize (x / 2 ^ (f - 1 - j) % 2 == 1) = b at *
          obtain ⟨V, hV⟩ : ∃ V, V = num (h ++ [b]) := ⟨_, rfl⟩
          rw [← hV] at hval hv255 hstep
          have hsn := natCells_snoc m V
          obtain ⟨A, hA⟩ : ∃ A, natCells m = A := ⟨_, rfl⟩
          rw [hA] at hsn hown
          have HA := Lib.hid hA
          clear hA
          generalize num h = H at *
          have HST := Lib.hid hstep
          have HSN := Lib.hid hsn
          have HV := Lib.hid hV
          obtain ⟨L, hL⟩ : ∃ L, h.length = L := ⟨_, rfl⟩
          obtain ⟨M, hM⟩ : ∃ M, m.length = M := ⟨_, rfl⟩
          rw [hL] at s1 ⊢
          rw [hM] at s2 hown
          have HL := Lib.hid hL
          have HM := Lib.hid hM
          clear hstep hsn hV hns hL hM HJ SZ2 HN
          by_cases he : L + 1 = t
          · have g1 : (((L : Int) + 1) == (t : Int)) = true := by rw [beq_iff_eq]; omega
            go_wp2_with (at_builtin; refine wpList_append_own _ rfl _ _ 46 rfl w.heap.size 5 i0 (.int .u8 0) 1 1 Tryz.underlying46 hi hz0 hz1 hz2 rfl (by decide) _ _ _ rfl (hown.alloc _) ⟨wr.heap.size, 0, none⟩ 1 1 [.int .u8 (V : Int)] rfl rfl (cell_one_new _ _ _) (fun x hx => by simp at hx; subst hx; rfl) (by unfold maxLen; omega) (by omega) (by have := hb.size; simp; omega) ?_; intro v' w5 hown' hgrow5 hnil5
                         have hb5 : Below w.heap.size w w5 := Below.grown (hb.alloc hb.size _) hgrow5 (by have := hb.size; simp; omega) (fun j hj => by have := (hown.lt _ hj).1; omega)
                         have X : Aside (w5.ownsRow w.heap.size 5 1 v' (M + 1) (A ++ [.int .u8 (V : Int)]) ∧ Below w.heap.size w w5) := ⟨hown', hb5⟩
                         clear hown' hgrow5 hnil5)
            go_roundw
            case rel =>
              have e : grp t (F ++ (bitsN f x).take (j + 1)) = (m ++ [V], []) := by rw [HST.out, if_pos (by rw [HL.out]; exact he)]
              refine ⟨j + 1, by omega, by go_num, by rw [e]; rfl, by rw [e]; rfl, ?_, X.out.2⟩
              rw [e]
              simp only [List.length_append, List.length_singleton]
              rw [HSN.out, HM.out]
              exact X.out.1
            case measure => simp [intOf]; omega
          · have g1 : (((L : Int) + 1) == (t : Int)) = false := by rw [beq_eq_false_iff_ne]; omega
            go_wp2
            go_roundw
            case rel =>
              have e : grp t (F ++ (bitsN f x).take (j + 1)) = (m, h ++ [b]) := by rw [HST.out, if_neg (by rw [HL.out]; exact he)]
              refine ⟨j + 1, by omega, by go_num, by rw [e, HV.out], by rw [e]; simp only [List.length_append, List.length_singleton]; rw [HL.out]; go_num, ?_, hb⟩
              rw [e]
              simp only
              rw [HM.out, HA.out]
              exact hown
            case measure => simp [intOf]; omega
        · obtain rfl : j = f := by omega
          rw [← HN.out] at hown ⊢
          go_wp2
          go_roundw
          case rel => exact ⟨k + 1, by omega, by go_num, rfl, rfl, hown, hb⟩
          case measure => simp [intOf]; omega
    · obtain rfl : k = l.length := by omega
      rw [List.take_length] at hown ⊢
      go_wp2
      go_ret3
      exact ⟨⟨_, rfl, hown⟩, hb⟩

end Go.Proofs.YtmfejcmhbncchaaGreatDoor
