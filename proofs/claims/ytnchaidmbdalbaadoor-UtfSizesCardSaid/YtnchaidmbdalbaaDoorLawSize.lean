/- The walk: what is decoded has at most as many code points as bytes, and at least a quarter; each code point's text is decoded as it; for every slice of bytes. -/
import Derived.Test.YtnchaidmbdalbaaDoorLawBack
namespace Go.Proofs.YtnchaidmbdalbaaDoor
open Go.ChangeShapes Go.WideShapes Go.ChangeAt Go.RowKit

theorem encs_take_le (p : List Nat) (k : Nat) : (encs (p.take k)).length ≤ 4 * k := by
  have h1 := (encs_len_le (p.take k)).2
  have h2 : (p.take k).length ≤ k := List.length_take_le _ _
  omega

theorem cut_one {w : World} {base : Nat} {v : Value} {p : List Nat} (h : w.ownsRow base 3 1 v p.length (ptCells p)) (k : Nat) (hk : k < p.length) :
    ∃ x, (∀ W, (Instr.slice 27 v (some (.int .i64 (k : Int))) (some (.int .i64 ((k : Int) + 1))) none).run Tryd.prog W = .ok x W) ∧ IntsIn w x [(p[k] : Int)] := by
  rcases h.2 with ⟨_, h2⟩ | ⟨g, cap, cur, rfl, _, _, hcap, _⟩
  · omega
  · have hz : ∀ w, (Go.sizeOf 3).run Tryd.prog w = .ok 1 w := Tryd.sizeOf3
    refine ⟨.slice (some ⟨g, 0 + k, none⟩) (k + 1 - k) (cap - k), fun W => ?_, ?_⟩
    · have := Lib.run_slice_window (P := Tryd.prog) W 27 3 Tryd.underlying27 hz g 0 p.length cap k (k + 1) (by omega) (by omega)
      rw [show (((k + 1 : Nat) : Int)) = (k : Int) + 1 by omega] at this
      exact this
    · refine .inr ⟨g, 0 + k, cap - k, by rw [Nat.add_sub_cancel_left]; rfl, fun j hj => ?_⟩
      have hj0 : j = 0 := by simp at hj; exact hj
      subst hj0
      have h3 := h.cellAt (0 + k + 0) (by omega)
      rw [h3]
      simp [ptCells, List.getElem?_eq_getElem hk]

set_option maxRecDepth 100000 in
set_option maxHeartbeats 4000000 in
theorem size_law (l : List UInt8) (u : Value) (w : World) (hu : BytesIn w u l) (hT : Lib.Utf8Tabs 0 1 w) :
    Calls Tryd.prog 9 #[u] w fun e w' => e = .returned (.bool true) ∧ Below w.heap.size w w' := by
  obtain ⟨a, c, rfl⟩ := hu.form
  by_cases hl : 5000 < l.length
  · have hz : (5000 : Int) < (l.length : Int) := by omega
    clear hl hu hT
    go_enter Tryd.func9, Tryd.ntmps9
    go_wp2
    go_ret
    exact ⟨rfl, Below.refl _ _⟩
  have hz : ¬ (5000 : Int) < (l.length : Int) := by omega
  have hl2 : l.length ≤ 1099511627776 := by omega
  have hdl : (dec l).length ≤ 4 * l.length := by
    have h2 := (encs_len_le (pts l)).2
    have h3 := (pts_len l).1
    have h5 : (dec l).length = (encs (pts l)).length := rfl
    omega
  have hpl := pts_len l
  have hp1 := hpl.1
  have hp2 := hpl.2
  have hpd : pts (dec l) = pts l := pts_encs _ (pts_valid l)
  have hP1 := fun (W : World) => points_any ⟨(dec l).toArray⟩ W (by rw [bsize]; omega)
  simp only [hpd] at hP1
  have HP := Lib.hid hP1
  have hval := pts_valid l
  have HV := Lib.hid hval
  have hD0 := fun (x : Value) (W : World) (h1 : BytesIn W x l) (h2 : Lib.Utf8Tabs 0 1 W) => decode_any l x W hl2 h1 h2
  have HD := Lib.hid hD0
  have hde : dec l = encs (pts l) := rfl
  have HE := Lib.hid hde
  clear hP1 hpd hl hpl hval hD0 hde
  generalize pts l = p at *
  generalize dec l = D at *
  go_enter Tryd.func9, Tryd.ntmps9
  go_wp2_with fail
  refine (HD.out _ _ hu hT).mono ?_
  rintro e w1 ⟨rfl, B1⟩
  go_wp2_with fail
  refine (HP.out _).mono ?_
  rintro e w2 ⟨v2, rfl, hown2', hb2⟩
  have hown2 : w2.ownsRow w1.heap.size 3 1 v2 p.length (ptCells p) := hown2'
  have B2 : Below w.heap.size w w2 := B1.trans (hb2.mono B1.size)
  obtain ⟨a2, c2, rfl⟩ : ∃ a2 c2, v2 = .slice a2 p.length c2 := by
    rcases rowForms hown2 with ⟨h1, h2⟩ | ⟨g, cap, h1⟩
    · exact ⟨none, 0, by rw [h1, h2]⟩
    · exact ⟨_, _, h1⟩
  clear hb2 hown2' B1
  go_wp2
  go_loopw [4, 5] (fun n i wr => ∃ k : Nat, i = .int .i64 k ∧ k ≤ p.length ∧ n = .int .i64 ((encs (p.take k)).length : Nat) ∧ Below w2.heap.size w2 wr) (fun _ i _ => p.length - (intOf i).toNat)
  case atStart => exact ⟨0, rfl, Nat.zero_le _, rfl, Below.refl _ _⟩
  case round =>
    obtain ⟨k, rfl, hk, rfl, hbw⟩ := hrel
    by_cases hlt : k < p.length
    · obtain ⟨x, hx, hi⟩ := cut_one hown2 k hlt
      have hxr := hx wr
      have hir := hi.below hbw
      have hpt : isPt p[k] := HV.out _ (List.getElem_mem hlt)
      have htx := text_any [(p[k] : Int)] x wr (by simp) hir
      have htv := textV_pts [p[k]] (by intro c hc; simp at hc; rw [hc]; exact hpt)
      have h1 : encs [p[k]] = encN p[k] := by rw [encs_cons, encs_nil, List.append_nil]
      rw [h1] at htv
      rw [show [(p[k] : Int)] = ([p[k]]).map (fun (c : Nat) => (c : Int)) from rfl, htv] at htx
      have hS : Hid (encs (p.take (k + 1)) = encs (p.take k) ++ encN p[k]) := by
        show _ = _
        rw [take_snoc p k hlt, encs_snoc]
      have hne := encN_ne p[k]
      have hlen := encN_length p[k]
      have hle := encs_take_le p k
      generalize encN p[k] = A at *
      have g1 : A.isEmpty = false := by cases A with
        | nil => exact absurd rfl hne
        | cons _ _ => rfl
      clear hx hi hir htv h1 hpt hne
      go_wp2_with (go_at_call 16; refine htx.mono ?_; rintro e w3 ⟨rfl, hb3⟩)
      go_roundw
      case rel => exact ⟨k + 1, by go_num, by omega, by rw [hS.out, List.length_append]; go_num, hbw.trans (hb3.mono hbw.size)⟩
      case measure => simp [intOf]; omega
    · obtain rfl : k = p.length := by omega
      rw [List.take_length]
      have hde := HE.out
      have B3 : Below w.heap.size w wr := B2.trans (hbw.mono B2.size)
      have U3 := hu.below B3
      have T3 := tabs_below hT B3
      have g1 : (((encs p).length : Int) == (D.length : Int)) = true := by rw [hde]; simp
      have g2 : decide (p.length ≤ l.length) = true := by simp; omega
      have hl5 : (l.length : Int) ≤ 5000 := by omega
      have hp5 : (p.length : Int) ≤ 5000 := by omega
      have g3 : (l.length : Int) ≤ 4 * (p.length : Int) := by omega
      generalize (encs p).length = m at *
      clear hde HE hT hu hown2 hbw HP HV
      go_wp2_with fail
      refine (decodes_any _ T3).mono ?_
      rintro e w4 ⟨rfl, hb4⟩
      have B4 : Below w.heap.size w w4 := B3.trans (hb4.mono B3.size)
      have U4 := U3.below hb4
      have T4 := tabs_below T3 hb4
      clear hb4 U3 T3
      go_wp2_with fail
      refine (HD.out _ _ U4 T4).mono ?_
      rintro e w5 ⟨rfl, hb5⟩
      go_wp2
      go_ret
      exact ⟨rfl, B4.trans (hb5.mono B4.size)⟩

end Go.Proofs.YtnchaidmbdalbaaDoor
