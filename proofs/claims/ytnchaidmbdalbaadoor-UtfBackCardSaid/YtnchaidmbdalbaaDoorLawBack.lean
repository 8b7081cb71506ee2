/- The walk: what is decoded is decoded as itself; Text and Points undo one another; for every slice of bytes and every slice of ints. -/
import Derived.Test.YtnchaidmbdalbaaDoorLawTxt
import Derived.Lib.ConvBytes
namespace Go.Proofs.YtnchaidmbdalbaaDoor
open Go.ChangeShapes Go.WideShapes Go.ChangeAt Go.RowKit

theorem allPt_cast (q : List Nat) (hq : ∀ c ∈ q, isPt c) : allPt (q.map fun (c : Nat) => (c : Int)) = true := by
  unfold allPt
  rw [List.all_eq_true]
  intro x hx
  obtain ⟨c, hc, rfl⟩ := List.mem_map.1 hx
  exact (ptB_iff c).2 (hq c hc)
theorem natsOf_map (q : List Nat) : natsOf (q.map fun (c : Nat) => (c : Int)) = q := by
  unfold natsOf
  rw [List.map_map]
  conv => rhs; rw [← List.map_id q]
  apply List.map_congr_left
  intro x _
  simp
theorem textV_pts (q : List Nat) (hq : ∀ c ∈ q, isPt c) : textV (q.map fun (c : Nat) => (c : Int)) = .tuple #[.string ⟨(encs q).toArray⟩, .int .i64 0] := by
  unfold textV
  rw [if_pos (allPt_cast q hq), natsOf_map]

theorem below_bytesWorld (w : World) (s : ByteArray) : Below w.heap.size w (Lib.bytesWorld w 5 s) := by
  refine ⟨?_, ?_, ?_, by rw [Lib.bytesWorld_size]; omega, fun k hk => Lib.bytesWorld_at_old w 5 s k hk⟩
  · simp [Lib.bytesWorld, World.freeze, World.alloc, World.drew, -World.alloc_eq, -World.drew_eq]
  · simp [Lib.bytesWorld, World.freeze, World.alloc, World.drew, -World.alloc_eq, -World.drew_eq]
  · simp [Lib.bytesWorld, World.freeze, World.alloc, World.drew, -World.alloc_eq, -World.drew_eq]
theorem bytesIn_world (w : World) (l : List UInt8) (c : Nat) : BytesIn (Lib.bytesWorld w 5 ⟨l.toArray⟩) (.slice (some ⟨w.heap.size, 0, none⟩) l.length c) l := by
  refine .inr ⟨_, 0, c, rfl, fun j hj => ?_⟩
  rw [Nat.zero_add, Lib.bytesWorld_cell w 5 ⟨l.toArray⟩ j (by rw [bsize]; exact hj)]
  simp [List.getD_eq_getElem?_getD, List.getElem?_eq_getElem hj]
theorem to_bytes (w : World) (l : List UInt8) : ∃ x w', (convert 9 22 (.string ⟨l.toArray⟩)).run Tryd.prog w = .ok x w' ∧ BytesIn w' x l ∧ Below w.heap.size w w' := by
  refine ⟨_, _, Lib.run_convert_string_bytes (P := Tryd.prog) w 9 22 5 ⟨l.toArray⟩ Tryd.underlying9 Tryd.underlying22 Tryd.underlying5, ?_, below_bytesWorld w _⟩
  have h := bytesIn_world w l (grownCap w (⟨l.toArray⟩ : ByteArray).size 0 5)
  rw [bsize] at h ⊢
  exact h

set_option maxRecDepth 100000 in
set_option maxHeartbeats 4000000 in
theorem back_law (l : List UInt8) (p : List Int) (u v : Value) (w : World) (hu : BytesIn w u l) (hv : IntsIn w v p) (hT : Lib.Utf8Tabs 0 1 w) :
    Calls Tryd.prog 5 #[u, v] w fun e w' => e = .returned (.bool true) ∧ Below w.heap.size w w' := by
  obtain ⟨a, c, rfl⟩ := hu.form
  obtain ⟨a2, c2, rfl⟩ := hv.form
  by_cases hl : 5000 < l.length
  · have hz : (5000 : Int) < (l.length : Int) := by omega
    clear hl hu hv hT
    go_enter Tryd.func5, Tryd.ntmps5
    go_wp2
    go_ret
    exact ⟨rfl, Below.refl _ _⟩
  by_cases hm : 5000 < p.length
  · have hz : ¬ (5000 : Int) < (l.length : Int) := by omega
    have hz2 : (5000 : Int) < (p.length : Int) := by omega
    clear hl hm hu hv hT
    go_enter Tryd.func5, Tryd.ntmps5
    go_wp2
    go_ret
    exact ⟨rfl, Below.refl _ _⟩
  · have hz : ¬ (5000 : Int) < (l.length : Int) := by omega
    have hz2 : ¬ (5000 : Int) < (p.length : Int) := by omega
    have hl2 : l.length ≤ 1099511627776 := by omega
    have hp2 : p.length ≤ 1099511627776 := by omega
    have hp3 : p.length ≤ 9223372036854775807 := by omega
    have hdl : (dec l).length ≤ 4 * l.length := by
      have h2 := (encs_len_le (pts l)).2
      have h3 := (pts_len l).1
      have h5 : (dec l).length = (encs (pts l)).length := rfl
      omega
    have hpl := (pts_len l).1
    have hpd : pts (dec l) = pts l := pts_encs _ (pts_valid l)
    have hP1 := fun (W : World) => points_any ⟨(dec l).toArray⟩ W (by rw [bsize]; omega)
    have hT1 := fun (x : Value) (W : World) (h : IntsIn W x ((pts l).map fun (c : Nat) => (c : Int))) => text_any _ x W (by rw [List.length_map]; omega) h
    rw [textV_pts _ (pts_valid l)] at hT1
    have hD2 := fun (x : Value) (W : World) (h1 : BytesIn W x (dec l)) (h2 : Lib.Utf8Tabs 0 1 W) => decode_any (dec l) x W (by omega) h1 h2
    rw [dec_dec] at hD2
    simp only [hpd] at hP1
    have HP := Lib.hid hP1
    have HT1 := Lib.hid hT1
    have HD2 := Lib.hid hD2
    have HB0 := fun (x : Value) (W : World) (h1 : BytesIn W x l) (h2 : Lib.Utf8Tabs 0 1 W) => decode_any l x W hl2 h1 h2
    have hdE : encs (pts l) = dec l := rfl
    rw [hdE] at HT1
    clear hP1 hT1 hD2 hpd hpl hl hm hdE
    generalize dec l = D at *
    go_enter Tryd.func5, Tryd.ntmps5
    go_wp2_with fail
    refine (HB0 _ _ hu hT).mono ?_
    rintro e w1 ⟨rfl, B1⟩
    go_wp2_with fail
    refine (HP.out _).mono ?_
    rintro e w2 ⟨v2, rfl, hown2, hb2⟩
    have B2 : Below w.heap.size w w2 := B1.trans (hb2.mono B1.size)
    have I2 := IntsIn.of_row hown2
    clear hb2 hown2
    go_wp2_with fail
    refine (HT1.out _ _ I2).mono ?_
    rintro e w3 ⟨rfl, hb3⟩
    have B3 : Below w.heap.size w w3 := B2.trans (hb3.mono B2.size)
    obtain ⟨x3, w4, hcv, X4, hb4⟩ := to_bytes w3 D
    have B4 : Below w.heap.size w w4 := B3.trans (hb4.mono B3.size)
    have T4 := tabs_below hT B4
    clear hb3 hb4 I2 B1 B2 B3
    go_wp2_with fail
    refine (HD2.out _ _ X4 T4).mono ?_
    rintro e w5 ⟨rfl, hb5⟩
    have B5 : Below w.heap.size w w5 := B4.trans (hb5.mono B4.size)
    have V5 := hv.below B5
    clear hb5 B4 T4 X4 hcv
    cases hall : allPt p with
    | true =>
      have htx := text_any p _ w5 hp2 V5
      have hval : textV p = .tuple #[.string ⟨(encs (natsOf p)).toArray⟩, .int .i64 0] := by unfold textV; rw [if_pos hall]
      rw [hval] at htx
      have hpt := natsOf_pt p hall
      have hcast := natsOf_cast p hall
      have hpp := fun (W : World) => points_any ⟨(encs (natsOf p)).toArray⟩ W (by
        rw [bsize]
        have := (encs_len_le (natsOf p)).2
        have h2 : (natsOf p).length = p.length := by simp [natsOf]
        omega)
      simp only [pts_encs _ hpt] at hpp
      have HPP := Lib.hid hpp
      have HC := Lib.hid hcast
      clear hpp hcast hval hall hpt
      go_wp2_with fail
      refine htx.mono ?_
      rintro e w6 ⟨rfl, hb6⟩
      have B6 : Below w.heap.size w w6 := B5.trans (hb6.mono B5.size)
      have T6 := tabs_below hT B6
      clear hb6 B5 V5
      go_wp2_with fail
      refine (decodes_any _ T6).mono ?_
      rintro e w7 ⟨rfl, hb7⟩
      have B7 : Below w.heap.size w w7 := B6.trans (hb7.mono B6.size)
      clear hb7 T6 B6
      go_wp2_with fail
      refine (HPP.out _).mono ?_
      rintro e w8 ⟨v8, rfl, hown8, hb8⟩
      have B8 : Below w.heap.size w w8 := B7.trans (hb8.mono B7.size)
      have V8 := hv.below B8
      have I8 := IntsIn.of_row hown8
      rw [HC.out] at I8
      clear hb8 B7 hown8
      go_wp2_with fail
      refine (ints_same p _ _ _ I8 V8 hp3).mono ?_
      rintro e w9 ⟨rfl, hb9⟩
      go_wp2
      go_ret
      exact ⟨rfl, B8.trans (hb9.mono B8.size)⟩
    | false =>
      have htx := text_any p _ w5 hp2 V5
      have hval : textV p = .tuple #[.string ⟨#[]⟩, .int .i64 1] := by unfold textV; rw [if_neg (by rw [hall]; simp)]
      rw [hval] at htx
      clear hval hall
      go_wp2_with fail
      refine htx.mono ?_
      rintro e w6 ⟨rfl, hb6⟩
      have B6 : Below w.heap.size w w6 := B5.trans (hb6.mono B5.size)
      have T6 := tabs_below hT B6
      clear hb6 B5 V5
      go_wp2_with fail
      refine (decodes_any _ T6).mono ?_
      rintro e w7 ⟨rfl, hb7⟩
      have B7 : Below w.heap.size w w7 := B6.trans (hb7.mono B6.size)
      clear hb7 T6 B6
      go_wp2
      go_ret
      exact ⟨rfl, B7⟩

end Go.Proofs.YtnchaidmbdalbaaDoor
