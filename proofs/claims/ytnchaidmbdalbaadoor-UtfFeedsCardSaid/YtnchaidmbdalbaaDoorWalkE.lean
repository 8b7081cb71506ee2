/- The document's own answers: Decode, Text; Ints. -/
import Derived.Test.YtnchaidmbdalbaaDoorWalkD
namespace Go.Proofs.YtnchaidmbdalbaaDoor
open Go.RowKit

theorem pts_le (l : List UInt8) : ∀ c ∈ pts l, c ≤ 1114111 := fun c hc => (pts_valid l c hc).1

set_option maxRecDepth 100000 in
theorem refDecode_any (s : ByteArray) (w : World) (hs : s.size ≤ 1099511627776) :
    Calls Tryd.prog 12 #[.string s] w fun e w' => e = .returned (.string ⟨(dec s.data.toList).toArray⟩) ∧ Below w.heap.size w w' := by
  have hl := (pts_len s.data.toList).1
  have hl2 : (pts s.data.toList).length ≤ 1099511627776 := by simp at hl; omega
  clear hl
  go_enter Tryd.func12, Tryd.ntmps12
  go_wp2_with (first
    | (go_at_call 15; refine (refPoints_any s _ hs).mono ?_; rintro e w1 ⟨v, rfl, hown, hb⟩)
    | (go_at_call 24; refine (join_any (pts s.data.toList) (pts_le _) _ _ hl2 (IntsIn.of_row hown)).mono ?_; rintro e w2 ⟨rfl, hb2⟩))
  go_ret
  exact ⟨rfl, hb.trans (hb2.mono hb.size)⟩

def eqL (p q : List Int) : Bool := decide (p = q)

set_option maxRecDepth 100000 in
set_option maxHeartbeats 1000000 in
/-- Ints: are two rows the same? -/
theorem ints_any (p q : List Int) (u v : Value) (w : World) (hp : IntsIn w u p) (hq : IntsIn w v q) (hl : p.length ≤ 9223372036854775807) (hl2 : q.length ≤ 9223372036854775807) :
    Calls Tryd.prog 13 #[u, v] w fun e w' => e = .returned (.bool (eqL p q)) ∧ ∃ n, w' = w.drewN n := by
  have hu : ∃ a c, u = .slice a p.length c := by
    rcases hp with ⟨⟨a0, c0, rfl⟩, rfl⟩ | ⟨B, off, cap, rfl, _⟩
    · exact ⟨_, _, rfl⟩
    · exact ⟨_, _, rfl⟩
  have hv : ∃ a c, v = .slice a q.length c := by
    rcases hq with ⟨⟨a0, c0, rfl⟩, rfl⟩ | ⟨B, off, cap, rfl, _⟩
    · exact ⟨_, _, rfl⟩
    · exact ⟨_, _, rfl⟩
  by_cases hne : p.length = q.length
  · by_cases h0 : p.length = 0
    · obtain ⟨a, c, rfl⟩ := hu
      obtain ⟨a2, c2, rfl⟩ := hv
      have e1 : p = [] := List.length_eq_zero_iff.1 h0
      have e2 : q = [] := List.length_eq_zero_iff.1 (by omega)
      subst e1 e2
      clear hp hq hl hl2 hne h0
      go_enter Tryd.func13, Tryd.ntmps13
      go_wp2
      refine wp_loop_rounds 1 ?_
      rw [rounds_succ]
      go_wp2
      go_ret
      exact ⟨rfl, 0, rfl⟩
    · rcases hp with ⟨_, rfl⟩ | ⟨B, off, cap, rfl, hc⟩
      · exact absurd rfl h0
      rcases hq with ⟨_, rfl⟩ | ⟨B2, off2, cap2, rfl, hc2⟩
      · exact absurd hne h0
      clear hu hv
      have g2 : ((p.length : Int) != (q.length : Int)) = false := by simp [hne]
      have HN := Lib.hid hne
      have h0' : 0 < p.length := by omega
      clear hne h0
      go_enter Tryd.func13, Tryd.ntmps13
      go_wp2
      go_loopw [5] (fun i wr => ∃ k n : Nat, i = .int .i64 k ∧ k ≤ p.length ∧ wr = w.drewN n ∧ Hid (p.take k = q.take k)) (fun i _ => p.length - (intOf i).toNat)
      case atStart => exact ⟨0, 0, rfl, Nat.zero_le _, rfl, rfl⟩
      case round =>
        obtain ⟨k, n, rfl, hk, rfl, HS⟩ := hrel
        by_cases hlt : k < p.length
        · have hlt2 : k < q.length := by have := HN.out; omega
          have hcell := hc k hlt
          have hcell2 := hc2 k hlt2
          have hix : (k : Int) < (p.length : Int) := by omega
          have hix2 : (k : Int) < (q.length : Int) := by omega
          have hT : Hid (p.take (k + 1) = p.take k ++ [p[k]] ∧ q.take (k + 1) = q.take k ++ [q[k]]) := ⟨by rw [List.take_succ_eq_append_getElem hlt], by rw [List.take_succ_eq_append_getElem hlt2]⟩
          have hE : Hid (p[k] ≠ q[k] → eqL p q = false) := fun h => by
            unfold eqL; rw [decide_eq_false]
            rintro rfl
            exact h rfl
          generalize p[k] = x at *
          generalize q[k] = y at *
          clear hc hc2
          by_cases hxy : x = y
          · subst hxy
            have g : (x != x) = false := by simp
            go_wp2_with fail
            go_quiet (fail)
            go_wp2
            go_roundw
            case rel => exact ⟨k + 1, n + nq, by go_num, by omega, rfl, by show _ = _; rw [hT.out.1, hT.out.2, HS.out]⟩
            case measure => simp [intOf]; omega
          · have g : (x != y) = true := by simp [hxy]
            have e := hE.out hxy
            have HE := Lib.hid e
            clear e hxy
            go_wp2_with fail
            go_quiet (fail)
            go_wp2
            go_ret
            exact ⟨by rw [HE.out]; rfl, n + nq, World.drewN_drewN _ _ _⟩
        · obtain rfl : k = p.length := by omega
          have e : eqL p q = true := by
            unfold eqL
            have h1 := HS.out
            rw [List.take_length, List.take_of_length_le (by have := HN.out; omega)] at h1
            rw [decide_eq_true h1]
          have HE := Lib.hid e
          clear e hc hc2
          go_wp2
          go_ret
          exact ⟨by rw [HE.out]; rfl, n, rfl⟩
  · obtain ⟨a, c, rfl⟩ := hu
    obtain ⟨a2, c2, rfl⟩ := hv
    have g2 : ((p.length : Int) != (q.length : Int)) = true := by simp; omega
    have e : eqL p q = false := by unfold eqL; rw [decide_eq_false]; intro h; exact hne (by rw [h])
    rw [e]
    clear hne e hp hq
    go_enter Tryd.func13, Tryd.ntmps13
    go_wp2
    go_ret
    exact ⟨rfl, 0, rfl⟩

/-- Are all of these code points? -/
def allPt (p : List Int) : Bool := p.all ptB
def natsOf (p : List Int) : List Nat := p.map Int.toNat
theorem ptB_nat {x : Int} (h : ptB x = true) : isPt x.toNat ∧ (x.toNat : Int) = x := by
  unfold ptB at h; unfold isPt
  have := of_decide_eq_true h
  omega
theorem natsOf_cast (p : List Int) (h : allPt p = true) : (natsOf p).map (fun (c : Nat) => (c : Int)) = p := by
  unfold natsOf
  rw [List.map_map]
  conv => rhs; rw [← List.map_id p]
  apply List.map_congr_left
  intro x hx
  exact (ptB_nat (List.all_eq_true.1 h x hx)).2
theorem natsOf_pt (p : List Int) (h : allPt p = true) : ∀ c ∈ natsOf p, isPt c := by
  intro c hc
  obtain ⟨x, hx, rfl⟩ := List.mem_map.1 hc
  exact (ptB_nat (List.all_eq_true.1 h x hx)).1
theorem allPt_take_succ (p : List Int) (k : Nat) (h : k < p.length) : allPt (p.take (k + 1)) = (allPt (p.take k) && ptB p[k]) := by
  unfold allPt
  rw [List.take_succ_eq_append_getElem h, List.all_append]
  simp only [List.all_cons, List.all_nil, Bool.and_true]
theorem allPt_of_take (p : List Int) (k : Nat) (h : k < p.length) (hb : ptB p[k] = false) : allPt p = false := by
  unfold allPt
  cases hp : p.all ptB with
  | false => rfl
  | true =>
    have := List.all_eq_true.1 hp _ (List.getElem_mem h)
    rw [hb] at this; cases this

/-- What Text answers. -/
def textV (p : List Int) : Value := if allPt p = true then .tuple #[.string ⟨(encs (natsOf p)).toArray⟩, .int .i64 0] else .tuple #[.string ⟨#[]⟩, .int .i64 1]

set_option maxRecDepth 100000 in
set_option maxHeartbeats 1000000 in
theorem refText_any (p : List Int) (u : Value) (w : World) (hl : p.length ≤ 1099511627776) (hp : IntsIn w u p) :
    Calls Tryd.prog 17 #[u] w fun e w' => e = .returned (textV p) ∧ Below w.heap.size w w' := by
  have hjoin := fun h w' => join_any (natsOf p) (fun c hc => (natsOf_pt p h c hc).1) u w' (by simp [natsOf]; exact hl)
  have hjoin' : Hid (∀ (h : allPt p = true) (w' : World), IntsIn w' u p → Calls Tryd.prog 24 #[u] w' fun e w2 => e = .returned (.string ⟨(encs (natsOf p)).toArray⟩) ∧ Below w'.heap.size w' w2) := fun h w' hi => hjoin h w' (by rw [natsOf_cast p h]; exact hi)
  clear hjoin
  rcases hp with ⟨⟨a0, c0, rfl⟩, rfl⟩ | ⟨B, off, cap, rfl, hc⟩
  · have hj := fun (wr : World) => hjoin'.out rfl wr (.inl ⟨⟨_, _, rfl⟩, rfl⟩)
    clear hl
    go_enter Tryd.func17, Tryd.ntmps17
    go_wp2
    refine wp_loop_rounds 1 ?_
    rw [rounds_succ]
    go_wp2_with (go_at_call 24; refine (hj _).mono ?_; rintro e w1 ⟨rfl, hb⟩)
    go_ret2
    exact ⟨rfl, hb⟩
  · have hkeep : Hid (∀ w', Below w.heap.size w w' → IntsIn w' (.slice (some ⟨B, off, none⟩) p.length cap) p) := fun w' hb => IntsIn.below (.inr ⟨B, off, cap, rfl, hc⟩) hb
    go_enter Tryd.func17, Tryd.ntmps17
    go_wp2
    go_loop [4] (fun i => ∃ k : Nat, i = .int .i64 k ∧ k ≤ p.length ∧ Hid (allPt (p.take k) = true)) (fun i => p.length - (intOf i).toNat)
    case atStart => exact ⟨0, rfl, Nat.zero_le _, rfl⟩
    case round =>
      obtain ⟨k, rfl, hk, HS⟩ := hrel
      by_cases hlt : k < p.length
      · have hcell := hc k hlt
        have hT : Hid (allPt (p.take (k + 1)) = (allPt (p.take k) && ptB p[k])) := allPt_take_succ p k hlt
        have hF : Hid (ptB p[k] = false → allPt p = false) := allPt_of_take p k hlt
        generalize p[k] = x at *
        clear hc
        cases hx : ptB x with
        | true =>
          have HX := Lib.hid hx
          clear hx
          go_wp2_with (go_at_call 29; refine (point_bool x true HX.out _).mono ?_; rintro e w' ⟨rfl, rfl⟩)
          go_round
          case rel => exact ⟨k + 1, by go_num, by omega, by show _ = _; rw [hT.out, HS.out, HX.out]; rfl⟩
          case measure => simp [intOf]; omega
        | false =>
          have HX := Lib.hid hx
          have HE : Hid (textV p = .tuple #[.string ⟨#[]⟩, .int .i64 1]) := by
            show _ = _
            unfold textV
            rw [if_neg (by rw [hF.out hx]; simp)]
          clear hx
          go_wp2_with (go_at_call 29; refine (point_bool x false HX.out _).mono ?_; rintro e w' ⟨rfl, rfl⟩)
          go_ret2
          exact ⟨by rw [HE.out]; rfl, Below.refl _ _⟩
      · obtain rfl : k = p.length := by omega
        have hall : allPt p = true := by have := HS.out; rwa [List.take_length] at this
        have HE : Hid (textV p = .tuple #[.string ⟨(encs (natsOf p)).toArray⟩, .int .i64 0]) := by
          show _ = _
          unfold textV
          rw [if_pos hall]
        have hj := hjoin'.out hall w (hkeep.out w (Below.refl _ _))
        clear hall hc
        go_wp2_with (go_at_call 24; refine hj.mono ?_; rintro e w1 ⟨rfl, hb⟩)
        go_ret2
        exact ⟨by rw [HE.out]; rfl, hb⟩

end Go.Proofs.YtnchaidmbdalbaaDoor
