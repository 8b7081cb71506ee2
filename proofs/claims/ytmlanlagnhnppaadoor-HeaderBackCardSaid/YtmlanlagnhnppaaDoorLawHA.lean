/- A text is just these policies; policies of two texts. -/
import Derived.Test.YtmlanlagnhnppaaDoorReads
namespace Go.Proofs.YtmlanlagnhnppaaDoor
open Go.RowKit

/-! How long what is parsed is. -/
theorem tail_len (ws : List (List UInt8)) : (tailT ws).length = (ws.map List.length).sum + ws.length := by
  induction ws with
  | nil => rfl
  | cons w ws ih =>
    have e : tailT (w :: ws) = 32 :: w ++ tailT ws := rfl
    rw [e, List.length_append, List.length_cons, ih]
    simp
    omega
theorem tail_sub {a b : List (List UInt8)} (h : a.Sublist b) : (tailT a).length ≤ (tailT b).length := by
  induction h with
  | slnil => exact Nat.le_refl _
  | cons x _ ih =>
    have e : ∀ l : List (List UInt8), tailT (x :: l) = 32 :: x ++ tailT l := fun _ => rfl
    rw [e, List.length_append]
    omega
  | cons_cons x _ ih =>
    have e : ∀ l : List (List UInt8), tailT (x :: l) = 32 :: x ++ tailT l := fun _ => rfl
    rw [e, e, List.length_append, List.length_append]
    omega
theorem dirM_len {s : List UInt8} {d : D} (h : dirM s = some d) : (∀ x ∈ d.w, x.length ≤ s.length) ∧ (dT d).length ≤ 2 * s.length := by
  unfold dirM at h
  split at h
  · cases h
  · rename_i n ws hw
    split at h
    · obtain rfl := Option.some.inj h
      have ht := words_total s
      rw [hw, List.map_cons, List.sum_cons, List.length_cons] at ht
      have hsub : ((ws.take 200).filter wordH).Sublist ws := List.filter_sublist.trans (List.take_sublist _ _)
      refine ⟨fun x hx => ?_, ?_⟩
      · have h1 := mem_len ws x (hsub.subset hx)
        omega
      · have h1 := tail_sub hsub
        have h2 := tail_len ws
        show (low n ++ tailT ((ws.take 200).filter wordH)).length ≤ _
        rw [List.length_append]
        have h3 : (low n).length = n.length := by unfold low; rw [List.length_map]
        omega
    · cases h
theorem polM_mem {s : List UInt8} {d : D} (h : d ∈ polM s) : ∃ t ∈ parts s 59, dirM t = some d := by
  have key : ∀ (L : List (List UInt8)) (ds : List D), d ∈ L.foldl addD ds → d ∈ ds ∨ ∃ t ∈ L, dirM t = some d := by
    intro L
    induction L with
    | nil => intro ds h; exact .inl h
    | cons x L ih =>
      intro ds h
      rcases ih _ h with h | ⟨t, h1, h2⟩
      · unfold addD at h
        split at h
        · exact .inl h
        · rename_i e he
          split at h
          · exact .inl h
          · rcases List.mem_append.1 h with h | h
            · exact .inl h
            · rw [List.mem_singleton.1 h]
              exact .inr ⟨x, by simp, he⟩
      · exact .inr ⟨t, by simp [h1], h2⟩
  rcases key _ _ h with h | h
  · cases h
  · exact h
theorem part_le {s x : List UInt8} {c : UInt8} (h : x ∈ parts s c) : x.length ≤ s.length := by
  unfold parts at h
  obtain ⟨y, hy, rfl⟩ := List.mem_map.1 h
  have h1 := cut_len _ _ y hy
  have h2 := trim_length y
  omega
theorem pT_le (M : Nat) : ∀ (ds : List D), (∀ d ∈ ds, (dT d).length ≤ M) → (pT ds).length ≤ ds.length * (M + 2)
  | [], _ => by simp [pT]
  | [d], h => by
    have := h d (by simp)
    show (dT d).length ≤ _
    simp
    omega
  | d :: e :: r, h => by
    have ih := pT_le M (e :: r) (fun x hx => h x (by simp [List.mem_cons.1 hx]))
    have h1 := h d (by simp)
    rw [pT_cons, List.length_append, List.length_cons, List.length_cons]
    rw [List.length_cons, Nat.add_mul]
    omega
/-- What a text's policies are bounded by. -/
theorem pols_small {r : Bool} {s : List UInt8} {p : List D × Bool} (h : p ∈ polsM r s) : p.2 = r ∧ rightH p.1 ∧ p.1.length ≤ s.length + 1 ∧ (∀ d ∈ p.1, ∀ x ∈ d.w, x.length ≤ s.length) ∧ (pT p.1).length ≤ (s.length + 1) * (2 * s.length + 2) := by
  unfold polsM at h
  obtain ⟨ds, hds, rfl⟩ := List.mem_map.1 h
  have hr := parseH_right hds
  have ha : ds ∈ allH s := List.mem_of_mem_take hds
  unfold allH at ha
  obtain ⟨ha1, _⟩ := List.mem_filter.1 ha
  obtain ⟨t, ht, rfl⟩ := List.mem_map.1 ha1
  have htl := part_le ht
  have h1 := polM_len t
  have h2 : ∀ d ∈ polM t, (∀ x ∈ d.w, x.length ≤ s.length) ∧ (dT d).length ≤ 2 * s.length := fun d hd => by
    obtain ⟨u, hu, he⟩ := polM_mem hd
    have hul := part_le hu
    obtain ⟨k1, k2⟩ := dirM_len he
    exact ⟨fun x hx => by have := k1 x hx; omega, by omega⟩
  refine ⟨rfl, hr, by show (polM t).length ≤ _; omega, fun d hd => (h2 d hd).1, ?_⟩
  have h3 := pT_le (2 * s.length) (polM t) (fun d hd => (h2 d hd).2)
  exact Nat.le_trans h3 (Nat.mul_le_mul_right _ (by omega))
theorem pols_count (r : Bool) (s : List UInt8) : (polsM r s).length ≤ 10 := by unfold polsM; rw [List.length_map]; exact parseH_length s
theorem pols_words {r : Bool} {s : List UInt8} (hs : s.length ≤ 900000) : ∀ p ∈ polsM r s, p.1.length ≤ 1000000 ∧ ∀ d ∈ p.1, d.w.length ≤ 1000000 := fun p hp => by
  obtain ⟨_, h2, h3, _⟩ := pols_small hp
  exact ⟨by omega, fun d hd => by have := (dirR_all (h2.2.1 d hd)).2.1; omega⟩

set_option maxRecDepth 100000 in
set_option maxHeartbeats 4000000 in
theorem parses_law (s : ByteArray) (r : Bool) (w : World) (hm : MaxIn w) : Calls Tryd.prog 3 #[.string s, .bool r] w fun e w' => e = .returned (.bool true) ∧ Below w.heap.size w w' := by
  by_cases hbig : (6000 : Int) < (s.size : Int)
  · clear hm
    go_enter Tryd.func3, Tryd.ntmps3
    go_wp2
    go_ret
    exact ⟨rfl, Below.refl _ _⟩
  · have hs : s.size ≤ 6000 := by omega
    have HS := Lib.hid (pols_words (r := r) (s := s.data.toList) (by rw [lsize]; omega))
    have HC := Lib.hid (pols_count r s.data.toList)
    have CP : Hid (∀ W, MaxIn W → Calls Tryd.prog 11 #[.string s, .bool r] W fun e w' => ∃ v, e = .returned v ∧ OwnP w' W.heap.size v (polsM r s.data.toList) ∧ Below W.heap.size W w') := Lib.hid (fun W h => parse_any s (by omega) r W h)
    have CR : Hid (∀ W, Calls Tryd.prog 12 #[.string s, .bool r] W fun e w' => ∃ v, e = .returned v ∧ PolsIn w' v (polsM r s.data.toList) ∧ Below W.heap.size W w') := Lib.hid (fun W => refParse_any s (by omega) r W)
    generalize polsM r s.data.toList = ps at *
    have HM := Lib.hid hm
    clear hm
    go_enter Tryd.func3, Tryd.ntmps3
    go_wp2_with fail
    refine (reads_hid.out _ HM.out).mono ?_
    rintro e w1 ⟨rfl, b1⟩
    have H1 := Lib.hid (And.intro (HM.out.below b1) b1)
    clear b1
    go_wp2_with fail
    refine (CP.out _ H1.out.1).mono ?_
    rintro e w2 ⟨v2, rfl, o2, b2⟩
    have H2 := Lib.hid (And.intro o2.in (H1.out.2.trans (b2.mono H1.out.2.size)))
    clear o2 b2 H1
    go_wp2_with fail
    refine (CR.out _).mono ?_
    rintro e w3 ⟨v3, rfl, o3, b3⟩
    have H3 := Lib.hid (And.intro (H2.out.1.below b3) (And.intro o3 (H2.out.2.trans (b3.mono H2.out.2.size))))
    clear o3 b3 H2
    have CA := refAll_any ps ps v2 v3 w3 H3.out.1 H3.out.2.1 (by have := HC.out; omega) HS.out (fun p hp => (HS.out p hp).2)
    rw [decide_eq_true rfl] at CA
    have HCA := Lib.hid CA
    clear CA
    go_wp2_with fail
    refine HCA.out.mono ?_
    rintro e w4 ⟨rfl, b4⟩
    have H4 := Lib.hid (H3.out.2.2.trans (b4.mono H3.out.2.2.size))
    clear b4
    go_wp2
    go_ret
    exact ⟨rfl, H4.out⟩

end Go.Proofs.YtmlanlagnhnppaaDoor
