/- The program's nodes: has a node nothing that only elements have; the place of an attribute; do names differ. -/
import Derived.Test.YtcmbkhlnigbooaaDoY
namespace Go.Proofs.Ytcmbkhlnigbooaa.Dm
open Go.RowKit

set_option maxRecDepth 100000 in
set_option maxHeartbeats 4000000 in
theorem bare_one (k : Int) (N D : ByteArray) (p : Int) (b s : Bool) (n : Nat) (a : Option Addr) (c : Nat) (kv : Value) (w : World) : Calls Try.prog 86 #[.agg #[.int .i64 k, .string N, .string D, .slice a n c, .int .i64 p, kv, .bool b, .bool s]] w fun e w' => e = .returned (.bool (decide (n = 0) && !b && !s && decide (N.data.toList = []))) ∧ Below w.heap.size w w' := by
  have al := (Below.refl w.heap.size w).alloc (Nat.le_refl _) (.cells #[.int .i64 k, .string N, .string D, .slice a n c, .int .i64 p, kv, .bool b, .bool s] 42)
  have hbx := new_block w (.cells #[.int .i64 k, .string N, .string D, .slice a n c, .int .i64 p, kv, .bool b, .bool s] 42)
  generalize hw1 : w.alloc (.cells #[.int .i64 k, .string N, .string D, .slice a n c, .int .i64 p, kv, .bool b, .bool s] 42) = w1 at al hbx
  have e1 := cell_of hbx 1
  have e3 := cell_of hbx 3
  have e6 := cell_of hbx 6
  have e7 := cell_of hbx 7
  have HB := Lib.hid al
  clear al hbx
  go_enter Try.func86, Try.ntmps86
  go_wp2
  all_goals go_ret
  all_goals refine ⟨?_, HB.out⟩
  all_goals clear hw1 e1 e3 e6 e7
  all_goals simp_all [ByteArray.toList_eq]
  all_goals first | done | exact arr_empty _
theorem bare_hid (x : Nd) : Hid (∀ W av kv, AtIn W av x.a → Calls Try.prog 86 #[nodeV x av kv] W fun e w' => e = .returned (.bool (bareM x)) ∧ Below W.heap.size W w') := Lib.hid fun w av kv ha => by
  obtain ⟨a, c, rfl⟩ := ha.form
  obtain ⟨N, hN⟩ := text_of x.n
  obtain ⟨D, hD⟩ := text_of x.d
  unfold nodeV
  rw [strV_of hN, strV_of hD]
  unfold bareM
  rw [← hN]
  have e0 : decide (x.a = []) = decide (x.a.length = 0) := by
    by_cases h : x.a = []
    · rw [h]; rfl
    · rw [decide_eq_false h, decide_eq_false (by have := List.length_pos_iff.2 h; omega)]
  rw [e0]
  exact bare_one x.k N D x.p x.b x.s x.a.length a c kv w

/-! ### the place of an attribute -/
def capN (Nb : Nat) : Value := .func (.func 75) #[] #[.pointer (some ⟨Nb, 0, none⟩)]
def textN (w : World) (Nb : Nat) (X : ByteArray) : Prop := w.cell? ⟨Nb, 0, none⟩ = some (.string X)
theorem textN.below {w w' : World} {Nb : Nat} {X : ByteArray} (h : textN w Nb X) (b : Below w.heap.size w w') : textN w' Nb X := by
  unfold textN at *
  rw [b.cell (lt_of_cell h)]; exact h
theorem same_name (NM VL X : ByteArray) (Nb : Nat) (b : Bool) (h : decide (NM.data.toList = X.data.toList) = b) : Hid (∀ W, textN W Nb X → Calls Try.prog 75 #[.agg #[.string NM, .string VL], .pointer (some ⟨Nb, 0, none⟩)] W fun e w' => e = .returned (.bool b) ∧ Below W.heap.size W w') := Lib.hid fun w hx => by
  have al := (Below.refl w.heap.size w).alloc (Nat.le_refl _) (.cells #[.string NM, .string VL] 61)
  have x1 : (w.alloc (.cells #[.string NM, .string VL] 61)).cell? ⟨Nb, 0, none⟩ = some (.string X) := hx.below al
  have g : (NM.toList == X.toList) = b := by rw [text_lit, ByteArray.toList_eq]; exact h
  have HAL := Lib.hid al
  clear h hx al
  go_enter Try.func75, Try.ntmps75
  go_wp2
  go_ret
  exact ⟨rfl, HAL.out⟩
set_option maxRecDepth 100000 in
set_option maxHeartbeats 4000000 in
theorem indexFunc_hid (A : List (List UInt8 × List UInt8)) (X : ByteArray) (Nb : Nat) (hl : A.length ≤ 1000000) : Hid (∀ W av, AtIn W av A → textN W Nb X → Calls Try.prog 74 #[av, capN Nb] W fun e w' => e = .returned (.int .i64 (findI X.data.toList A)) ∧ Below W.heap.size W w') := Lib.hid fun w av ha hx => by
  obtain ⟨a, c, rfl⟩ := ha.form
  have HA := Lib.hid ha
  have HX := Lib.hid hx
  clear ha hx
  unfold capN
  go_enter Try.func74, Try.ntmps74
  go_wp2
  go_loopw [5, 8] (fun _ j wr => ∃ k : Nat, j = .int .i64 k ∧ k ≤ A.length ∧ Below w.heap.size w wr ∧ Hid (∀ i, (h : i < A.length) → i < k → A[i].1 ≠ X.data.toList)) (fun _ j _ => A.length - (intOf j).toNat)
  case atStart => exact ⟨0, rfl, Nat.zero_le _, Below.refl _ _, Lib.hid fun i _ h => by omega⟩
  case round =>
    obtain ⟨k, rfl, hk, hb, HN⟩ := hrel
    by_cases hlt : k < A.length
    · have har := HA.out.below hb
      obtain ⟨B, off, rfl, c0, c1⟩ := har.at hlt
      obtain ⟨NM, hNM⟩ := text_of A[k].1
      obtain ⟨VL, hVL⟩ := text_of A[k].2
      rw [strV_of hNM] at c0
      rw [strV_of hVL] at c1
      have hxr := HX.out.below hb
      obtain ⟨b, hbb⟩ : ∃ b, decide (NM.data.toList = X.data.toList) = b := ⟨_, rfl⟩
      have CC := same_name NM VL X Nb b hbb
      have HB : Hid (b = decide (A[k].1 = X.data.toList)) := Lib.hid (by rw [← hbb, hNM])
      have hsz := hb.size
      clear hbb hVL hNM har
      cases b with
      | false =>
        have HN2 : Hid (∀ i, (h : i < A.length) → i < k + 1 → A[i].1 ≠ X.data.toList) := Lib.hid fun i hi h2 => by
          by_cases e : i = k
          · subst e
            exact of_decide_eq_false HB.out.symm
          · exact HN.out i hi (by omega)
        clear HN HB
        go_wp2_with fail
        (refine (CC.out _ hxr).mono ?_)
        rintro e w1 ⟨rfl, b1⟩
        have hb1 := hb.trans (b1.mono hsz)
        clear hb b1 hxr c0 c1
        go_wp2
        go_roundw
        case rel => exact ⟨k + 1, by go_num, by omega, hb1, HN2⟩
        case measure => simp [intOf]; omega
      | true =>
        have HF : Hid (findI X.data.toList A = (k : Int)) := Lib.hid (by unfold findI; rw [atM_here hlt HN.out (of_decide_eq_true HB.out.symm), if_pos hlt])
        clear HN HB
        go_wp2_with fail
        (refine (CC.out _ hxr).mono ?_)
        rintro e w1 ⟨rfl, b1⟩
        have hb1 := hb.trans (b1.mono hsz)
        clear hb b1 hxr c0 c1
        go_wp2
        go_ret
        exact ⟨by rw [HF.out]; rfl, hb1⟩
    · obtain rfl : k = A.length := by omega
      have HF : Hid (findI X.data.toList A = -1) := Lib.hid (by unfold findI; rw [if_neg]; rw [atM_none fun j hj => HN.out j hj hj]; omega)
      clear HN
      go_wp2
      go_ret
      exact ⟨by rw [HF.out]; rfl, hb⟩
theorem place_hid (A : List (List UInt8 × List UInt8)) (X : ByteArray) (hl : A.length ≤ 1000000) : Hid (∀ W av, AtIn W av A → Calls Try.prog 40 #[av, .string X] W fun e w' => e = .returned (.int .i64 (findI X.data.toList A)) ∧ Below W.heap.size W w') := Lib.hid fun w av ha => by
  have al := (Below.refl w.heap.size w).alloc (Nat.le_refl _) (.cells #[.string X] 9)
  have hbx := new_block w (.cells #[.string X] 9)
  have C := Lib.hid ((indexFunc_hid A X w.heap.size hl).out _ av (ha.below al) (cell_of hbx 0))
  obtain ⟨a, c, rfl⟩ := ha.form
  have HB := Lib.hid al
  clear ha al hbx
  have hmf : ∀ (fn : Fn) (first cap : Array Value) (w : World), (Instr.makeFunc fn first cap).run Try.prog w = .ok (.func fn first cap) w := fun _ _ _ _ => rfl
  unfold capN at C
  generalize findI X.data.toList A = r at C ⊢
  go_enter Try.func40, Try.ntmps40
  go_wp2_with fail
  refine C.out.mono ?_
  rintro e w1 ⟨rfl, b1⟩
  have HB1 := Lib.hid (HB.out.trans (b1.mono HB.out.size))
  clear C b1 HB
  go_wp2
  go_ret
  exact ⟨rfl, HB1.out⟩

/-! ### do the names differ -/
theorem AtIn.take {w : World} {a : Option Addr} {c : Nat} {A : List (List UInt8 × List UInt8)} (h : AtIn w (.slice a A.length c) A) {k : Nat} (hk : k ≤ A.length) : AtIn w (.slice a k c) (A.take k) := by
  have hl : (A.take k).length = k := by simp; omega
  by_cases h0 : k = 0
  · subst h0
    exact AtIn.nil w a c
  · refine ⟨by rw [atC_length], atC_one _, .inr ?_⟩
    rcases h.2.2 with ⟨_, e⟩ | ⟨B, off, cap, e1, e2⟩
    · omega
    · cases e1
      refine ⟨B, off, c, by rw [hl], fun j v hj => e2 j v ?_⟩
      have e : atC A = atC (A.take k) ++ atC (A.drop k) := by
        conv => lhs; rw [← List.take_append_drop k A]
        unfold atC
        rw [List.flatMap_append]
      rw [e, List.getElem?_append_left (List.getElem?_eq_some_iff.1 hj).1]
      exact hj
theorem findI_none {name : List UInt8} {A : List (List UInt8 × List UInt8)} : findI name A < 0 ↔ name ∉ A.map Prod.fst := by
  unfold findI
  by_cases h : atM name A < A.length
  · rw [if_pos h]
    refine ⟨fun h => by omega, fun hn => absurd ?_ hn⟩
    have e := findA_at name A
    rw [List.getElem?_eq_getElem h] at e
    by_cases hm : name ∈ A.map Prod.fst
    · exact hm
    · rw [find_none.2 hm] at e
      cases e
  · rw [if_neg h]
    refine ⟨fun _ => ?_, fun _ => by omega⟩
    rw [← find_none, findA_at, List.getElem?_eq_none (by omega)]
    rfl
theorem nodup_take {A : List (List UInt8 × List UInt8)} {k : Nat} (hk : k < A.length) (h : ((A.take k).map Prod.fst).Nodup) (hn : A[k].1 ∉ (A.take k).map Prod.fst) : ((A.take (k + 1)).map Prod.fst).Nodup := by
  rw [List.take_succ_eq_append_getElem hk, List.map_append]
  exact List.nodup_append.2 ⟨h, by simp, fun a ha b hb => by
    simp only [List.map_cons, List.map_nil, List.mem_singleton] at hb
    subst hb
    rintro rfl
    exact hn ha⟩
theorem nodup_not {A : List (List UInt8 × List UInt8)} {k : Nat} (hk : k < A.length) (hn : A[k].1 ∈ (A.take k).map Prod.fst) : ¬ (A.map Prod.fst).Nodup := fun h => by
  have h1 : ((A.take (k + 1)).map Prod.fst).Nodup := h.sublist ((List.take_sublist _ _).map _)
  rw [List.take_succ_eq_append_getElem hk, List.map_append] at h1
  exact (List.nodup_append.1 h1).2.2 _ hn _ (by simp) rfl

set_option maxRecDepth 100000 in
set_option maxHeartbeats 8000000 in
theorem differ_hid (A : List (List UInt8 × List UInt8)) (hl : A.length ≤ 1000000) : Hid (∀ W a c, AtIn W (.slice a A.length c) A → A.length ≤ c → Calls Try.prog 85 #[.slice a A.length c] W fun e w' => e = .returned (.bool (decide (A.map Prod.fst).Nodup)) ∧ Below W.heap.size W w') := Lib.hid fun w a c ha hcap => by
  have HA := Lib.hid ha
  clear ha
  go_enter Try.func85, Try.ntmps85
  go_wp2
  go_loopw [7] (fun j wr => ∃ k : Nat, j = .int .i64 k ∧ k ≤ A.length ∧ Below w.heap.size w wr ∧ Hid (((A.take k).map Prod.fst).Nodup)) (fun j _ => A.length - (intOf j).toNat)
  case atStart => exact ⟨0, rfl, Nat.zero_le _, Below.refl _ _, Lib.hid (by simp)⟩
  case round =>
    obtain ⟨k, rfl, hk, hb, HN⟩ := hrel
    by_cases hlt : k < A.length
    · have har := HA.out.below hb
      have hat := AtIn.take har hk
      obtain ⟨B, off, rfl, c0, c1⟩ := har.at hlt
      obtain ⟨NM, hNM⟩ := text_of A[k].1
      obtain ⟨VL, hVL⟩ := text_of A[k].2
      rw [strV_of hNM] at c0
      rw [strV_of hVL] at c1
      have al := (Below.refl wr.heap.size wr).alloc (Nat.le_refl _) (.cells #[.string NM, .string VL] 61)
      have hbx := new_block wr (.cells #[.string NM, .string VL] 61)
      have CP : Hid (∀ W, Below (wr.heap.size + 1) (wr.alloc (.cells #[.string NM, .string VL] 61)) W → Calls Try.prog 40 #[.slice (some ⟨B, off, none⟩) k c, .string NM] W fun e w' => e = .returned (.int .i64 (findI NM.data.toList (A.take k))) ∧ Below w.heap.size w w') := Lib.hid fun W b => by
        have b2 := al.trans (b.mono (Nat.le_succ _))
        exact ((place_hid (A.take k) NM (by simp; omega)).out W _ (hat.below b2)).mono fun e w' h => ⟨h.1, (hb.trans (b2.mono hb.size)).trans (h.2.mono (Nat.le_trans hb.size b2.size))⟩
      have HI : Hid (findI NM.data.toList (A.take k) < 0 ↔ A[k].1 ∉ (A.take k).map Prod.fst) := Lib.hid (by rw [hNM]; exact findI_none)
      generalize hw1 : wr.alloc (.cells #[.string NM, .string VL] 61) = w1 at al hbx CP
      have hs1 : wr.heap.size + 1 = w1.heap.size := by rw [← hw1]; simp
      rw [hs1] at CP
      have e0 := cell_of hbx 0
      generalize findI NM.data.toList (A.take k) = r at CP HI
      have kk : (k : Int) ≤ (c : Int) := by omega
      have k0 : (0 : Int) ≤ (k : Int) := by omega
      have kz : k ≤ c := by omega
      clear hNM hVL har hat al hbx hb hs1
      by_cases hr : (0 : Int) ≤ r
      · have HE : Hid ((decide (A.map Prod.fst).Nodup) = false) := Lib.hid (decide_eq_false (nodup_not hlt (Decidable.byContradiction fun h => by have := HI.out.2 h; omega)))
        clear HI HN
        go_wp2_with fail
        go_region_with (go_at_call 40; refine (CP.out _ (by first | exact Below.refl _ _ | exact belowN (Below.refl _ _) _ | exact (Below.refl _ _).drew)).mono ?_; rintro e w2 ⟨rfl, b2⟩)
        all_goals
          go_wp2
          go_ret
          exact ⟨by rw [HE.out]; rfl, b2⟩
      · have HN2 : Hid (((A.take (k + 1)).map Prod.fst).Nodup) := Lib.hid (nodup_take hlt HN.out (HI.out.1 (by omega)))
        clear HI HN
        go_wp2_with fail
        go_region_with (go_at_call 40; refine (CP.out _ (by first | exact Below.refl _ _ | exact belowN (Below.refl _ _) _ | exact (Below.refl _ _).drew)).mono ?_; rintro e w2 ⟨rfl, b2⟩)
        all_goals
          go_wp2
          go_roundw
          case rel => exact ⟨k + 1, by go_num, by omega, b2, HN2⟩
          case measure => simp [intOf]; omega
    · obtain rfl : k = A.length := by omega
      have HE : Hid ((A.map Prod.fst).Nodup) := Lib.hid (by have := HN.out; rw [List.take_length] at this; exact this)
      clear HN
      go_wp2
      go_ret
      exact ⟨by rw [decide_eq_true HE.out]; rfl, hb⟩
theorem find_some {name : List UInt8} {A : List (List UInt8 × List UInt8)} : (findA name A).isSome = decide (0 ≤ findI name A) := by
  cases h : findA name A with
  | none => exact (decide_eq_false (fun h2 => by have := findI_none.2 (find_none.1 h); omega)).symm
  | some v => exact (decide_eq_true (Int.not_lt.1 fun h2 => by rw [find_none.2 (findI_none.1 h2)] at h; cases h)).symm

end Go.Proofs.Ytcmbkhlnigbooaa.Dm
